/-
  flatironref13.Takes: how many texts a function takes.
  flatironref13: number, Digits.
  flatironref13.subst: each occurrence, changed.
  flatironref13.joined: pair by pair.
-/
import Derived.Test.YtgednccpjegbmaaGreatDoorQEEach
import Derived.Test.YtgednccpjegbmaaGreatDoorQETrim
import Derived.Test.YtgednccpjegbmaaGreatDoorQTRef
namespace Go.Proofs.YtgednccpjegbmaaGreatDoor.Ew
open Go.RowKit Go.Proofs.YtgednccpjegbmaaGreatDoor Go.Proofs.YtgednccpjegbmaaGreatDoor.Ww Go.Proofs.YtgednccpjegbmaaGreatDoor.Tw
set_option maxRecDepth 100000

/-- How many texts a function takes. -/
def takesN : Nat → Nat
  | 0 => 3
  | 1 => 3
  | 2 => 1
  | 3 => 2
  | 4 => 2
  | 5 => 2
  | 6 => 1
  | 7 => 2
  | 8 => 1
  | 9 => 3
  | 10 => 1
  | 11 => 1
  | 12 => 1
  | 13 => 1
  | 14 => 1
  | 15 => 1
  | 16 => 2
  | 17 => 2
  | _ => 2


















































































































end Go.Proofs.YtgednccpjegbmaaGreatDoor.Ew
namespace Go.Proofs.YtgednccpjegbmaaGreatDoor.Ew
open Go.RowKit Go.Proofs.YtgednccpjegbmaaGreatDoor Go.Proofs.YtgednccpjegbmaaGreatDoor.Ww Go.Proofs.YtgednccpjegbmaaGreatDoor.Tw
set_option maxRecDepth 100000

def numI (o : Option Nat) : Int := match o with | none => -1 | some n => n
end Go.Proofs.YtgednccpjegbmaaGreatDoor.Ew
namespace Go.Proofs.YtgednccpjegbmaaGreatDoor.Ew
open Go.RowKit Go.Proofs.YtgednccpjegbmaaGreatDoor Go.Proofs.YtgednccpjegbmaaGreatDoor.Ww Go.Proofs.YtgednccpjegbmaaGreatDoor.Tw
set_option maxRecDepth 100000

end Go.Proofs.YtgednccpjegbmaaGreatDoor.Ew
namespace Go.Proofs.YtgednccpjegbmaaGreatDoor.Ew
open Go.RowKit Go.Proofs.YtgednccpjegbmaaGreatDoor Go.Proofs.YtgednccpjegbmaaGreatDoor.Ww Go.Proofs.YtgednccpjegbmaaGreatDoor.Tw
set_option maxRecDepth 100000

/-- Two lists, pair by pair. -/
def pairsS : List ByteArray → List ByteArray → List ByteArray
  | [], y => y
  | x, [] => x
  | a :: x, b :: y => (a ++ b) :: pairsS x y
theorem pairs_nil (x : List ByteArray) : pairsS x [] = x := by cases x <;> rfl
theorem pairs_len : ∀ x y : List ByteArray, (pairsS x y).length = max x.length y.length
  | [], y => by rw [pairsS]; simp
  | a :: x, [] => by rw [pairs_nil]; simp
  | a :: x, b :: y => by rw [pairsS, List.length_cons, pairs_len x y, List.length_cons, List.length_cons]; omega
theorem pairs_get : ∀ (x y : List ByteArray) (k : Nat), (pairsS x y)[k]? = match x[k]?, y[k]? with | some a, some b => some (a ++ b) | some a, none => some a | none, some b => some b | none, none => none
  | [], y, k => by rw [pairsS]; simp; cases y[k]? <;> rfl
  | a :: x, [], k => by rw [pairs_nil]; simp; cases (a :: x)[k]? <;> rfl
  | a :: x, b :: y, 0 => rfl
  | a :: x, b :: y, k + 1 => by rw [pairsS, List.getElem?_cons_succ, List.getElem?_cons_succ, List.getElem?_cons_succ]; exact pairs_get x y k
theorem pairs_size {x y : List ByteArray} {n m : Nat} (hx : ∀ p ∈ x, p.size ≤ n) (hy : ∀ p ∈ y, p.size ≤ m) : ∀ p ∈ pairsS x y, p.size ≤ n + m := by
  intro p hp
  obtain ⟨k, hk, e⟩ := List.mem_iff_getElem.1 hp
  have h := pairs_get x y k
  rw [List.getElem?_eq_getElem hk, e] at h
  split at h
  · rename_i a b h1 h2
    obtain rfl := Option.some.inj h
    have ha := hx a (List.mem_of_getElem? h1)
    have hb := hy b (List.mem_of_getElem? h2)
    rw [ByteArray.size_append]; omega
  · rename_i a h1 h2
    obtain rfl := Option.some.inj h
    have ha := hx _ (List.mem_of_getElem? h1)
    omega
  · rename_i b h1 h2
    obtain rfl := Option.some.inj h
    have hb := hy _ (List.mem_of_getElem? h2)
    omega
  · cases h
end Go.Proofs.YtgednccpjegbmaaGreatDoor.Ew
