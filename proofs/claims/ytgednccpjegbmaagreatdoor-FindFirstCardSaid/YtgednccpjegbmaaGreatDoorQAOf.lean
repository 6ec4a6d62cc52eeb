/-
  flatironref15.dirs: what a text's words are in.
  flatironref04.order: places in a list, by the words there, then by themselves.
  flatironref04.Unique: each word once.
  flatironref15.Of: a target's variables.
-/
import Derived.Test.YtgednccpjegbmaaGreatDoorQAPlain
import Derived.OwnWalk
import Derived.Maps.AppendAt
import Derived.Laws.OwnMore
import Derived.Test.YtgednccpjegbmaaGreatDoorQESorted
import Derived.Test.YtgednccpjegbmaaGreatDoorQTBase
import Derived.Test.YtgednccpjegbmaaGreatDoorQWCut
import Derived.StillTailTactics
import Derived.Deep.RegionHeld3
namespace Go.Proofs.YtgednccpjegbmaaGreatDoor.Aw
open Go.RowKit Go.Proofs.YtgednccpjegbmaaGreatDoor Go.Proofs.YtgednccpjegbmaaGreatDoor.Ww Go.Proofs.YtgednccpjegbmaaGreatDoor.Tw Go.Proofs.YtgednccpjegbmaaGreatDoor.Ew
set_option maxRecDepth 100000

theorem each_szs {g : ByteArray → ByteArray} : ∀ {l : List ByteArray}, (∀ x ∈ l, (g x).size ≤ x.size + 1) → szs (eachS g l) ≤ szs l + l.length
  | [], _ => Nat.zero_le _
  | x :: l, h => by
    have ih := each_szs (g := g) (l := l) fun y hy => h y (by simp [hy])
    have hx := h x (by simp)
    unfold eachS at ih ⊢
    rw [List.map_cons, List.filter_cons, szs_cons, List.length_cons]
    split
    · rw [szs_cons]; omega
    · omega
theorem each_join {g : ByteArray → ByteArray} {s : ByteArray} (h : ∀ x, GoodS x → (g x).size ≤ x.size + 1) : (joinS (eachS g (wordsS s))).size ≤ 2 * s.size + 2 := by
  have h1 := join_len (l := eachS g (wordsS s)) (n := s.size + 1) fun p hp => by
    obtain ⟨x, hx, rfl⟩ := each_mem hp
    have := h x (words_good hx)
    have := words_size hx
    omega
  have h2 := each_szs (g := g) (l := wordsS s) fun x hx => h x (words_good hx)
  have h3 := each_len g (wordsS s)
  have h4 := words_sum s
  unfold szs at h2
  omega
theorem good_size {x : ByteArray} (h : GoodS x) : 1 ≤ x.size := by rw [← by8_len]; exact List.length_pos_iff.2 h.1
theorem dirT_size {s : ByteArray} (hs : s.size ≤ 9000) : (dirT s).size ≤ 100000 := by
  have := each_join (g := oneS 12 []) (s := s) fun x hx => by
    have h1 := good_size hx
    have e : oneS 12 [] x = if Ep.nameA (by8 x) = 0 then ⟨#[46, 47]⟩ else x.extract 0 (Ep.nameA (by8 x)) := rfl
    rw [e]
    split
    · show 2 ≤ _; omega
    · rw [ByteArray.size_extract]; omega
  unfold dirT
  omega
/-- The row, its first words shortened. -/
def rowS (l : List ByteArray) (k : Nat) : List ByteArray := (l.take k).map sh ++ l.drop k
theorem rowS_len (l : List ByteArray) (k : Nat) : (rowS l k).length = l.length := by
  unfold rowS
  rw [List.length_append, List.length_map, List.length_take, List.length_drop]; omega
theorem rowS_get {l : List ByteArray} {k : Nat} (h : k < l.length) : (rowS l k)[k]? = some l[k] := by
  unfold rowS
  rw [List.getElem?_append_right (by rw [List.length_map, List.length_take]; omega), List.length_map, List.length_take, Nat.min_eq_left (Nat.le_of_lt h), Nat.sub_self, List.getElem?_drop, Nat.add_zero, List.getElem?_eq_getElem h]
theorem rowS_next {l : List ByteArray} {k : Nat} (h : k < l.length) : (rowS l k).set k (sh l[k]) = rowS l (k + 1) := by
  unfold rowS
  rw [List.set_append_right _ _ (by rw [List.length_map, List.length_take]; omega), List.length_map, List.length_take, Nat.min_eq_left (Nat.le_of_lt h), Nat.sub_self, List.drop_eq_getElem_cons h, List.set_cons_zero, List.take_succ_eq_append_getElem h, List.map_append, List.append_assoc]
  rfl
theorem rowS_same {l : List ByteArray} {k : Nat} (h : k < l.length) (hs : sh l[k] = l[k]) : rowS l k = rowS l (k + 1) := by
  rw [← rowS_next h, hs]
  refine (List.ext_getElem? fun j => ?_)
  rw [List.getElem?_set]
  split
  · rename_i e
    subst e
    rw [rowS_get h, if_pos (by rw [rowS_len]; exact h)]
  · rfl
theorem strsC_set (l : List ByteArray) (k : Nat) (x : ByteArray) : (strsC l).set k (.string x) = strsC (l.set k x) := by simp [strsC, List.map_set]
/-- What the loop's head knows. -/
def DiRel (w0 : World) (l : List ByteArray) (a : Option Addr) (c : Nat) (i : Value) (wr : World) : Prop :=
  ∃ k : Nat, i = .int .i64 (k : Int) ∧ k ≤ l.length ∧ wr.ownsRow w0.heap.size ST 1 (.slice a l.length c) l.length (strsC (rowS l k)) ∧ Below w0.heap.size w0 wr
end Go.Proofs.YtgednccpjegbmaaGreatDoor.Aw
namespace Go.Proofs.YtgednccpjegbmaaGreatDoor.Ww
open Go.RowKit Go.Proofs.YtgednccpjegbmaaGreatDoor
set_option maxRecDepth 100000

end Go.Proofs.YtgednccpjegbmaaGreatDoor.Ww
namespace Go.Proofs.YtgednccpjegbmaaGreatDoor.Ww
open Go.RowKit Go.Proofs.YtgednccpjegbmaaGreatDoor
set_option maxRecDepth 100000

end Go.Proofs.YtgednccpjegbmaaGreatDoor.Ww
namespace Go.Proofs.YtgednccpjegbmaaGreatDoor.Aw
open Go.RowKit Go.Proofs.YtgednccpjegbmaaGreatDoor Go.Proofs.YtgednccpjegbmaaGreatDoor.Ww Go.Proofs.YtgednccpjegbmaaGreatDoor.Tw Go.Proofs.YtgednccpjegbmaaGreatDoor.Ew
set_option maxRecDepth 100000


theorem szs_few : ∀ {l : List ByteArray} {n : Nat}, (∀ p ∈ l, p.size ≤ n) → szs l ≤ l.length * n
  | [], n, _ => Nat.zero_le _
  | x :: l, n, h => by
    have h1 := h x (by simp)
    have h2 := szs_few (l := l) (n := n) fun p hp => h p (by simp [hp])
    rw [szs_cons, List.length_cons, Nat.succ_mul]; omega
theorem join_few {l : List ByteArray} (hl : l.length ≤ 60) (hs : ∀ p ∈ l, p.size ≤ 100) : (joinS l).size ≤ 6100 := by
  have h1 := join_len hs
  have h2 := szs_few hs
  unfold szs at h2
  have := Nat.mul_le_mul_right 100 hl
  omega


































































































































































end Go.Proofs.YtgednccpjegbmaaGreatDoor.Aw
