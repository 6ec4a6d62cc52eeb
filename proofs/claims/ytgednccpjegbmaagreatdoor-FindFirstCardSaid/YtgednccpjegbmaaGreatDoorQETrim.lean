/-
  flatironref04.Blank and Split: a text's words.
  flatironref04.Trim: a text without the blanks at its ends.
  flatironref04.Join: words with one blank between.
  Functions of texts, in plain words. No program here.
-/
import Derived.Maps.AppendAt
import Derived.OwnWalk
import Derived.Laws.OwnMore
import Derived.Test.YtgednccpjegbmaaGreatDoorQWBlank
import Derived.Test.YtgednccpjegbmaaGreatDoorQTBase
import Derived.Lib.SlTrimSet
import Derived.Lib.AppendStr
import Derived.Lib.Join
import Derived.Lib.Index
import Derived.Lib.PathFns
namespace Go.Proofs.YtgednccpjegbmaaGreatDoor.Ew
open Go.RowKit Go.Proofs.YtgednccpjegbmaaGreatDoor Go.Proofs.YtgednccpjegbmaaGreatDoor.Ww
set_option maxRecDepth 100000

abbrev ST : TypeId := 9
/-- A word of a text, as the program has it. -/
def part (s : ByteArray) (x : Nat × Nat) : ByteArray := s.extract x.1 x.2
theorem infoS : (Tryz.prog.info? ST).map (fun i => (i.zero, i.size, i.bytes)) = some (some (.string ByteArray.empty), 1, 16) := by kernel_rfl
def wordsS (s : ByteArray) : List ByteArray := (Wp.items (by8 s)).map (part s)
theorem wordsS_len (s : ByteArray) : (wordsS s).length = (Wp.items (by8 s)).length := by simp [wordsS]
theorem items_size (s : ByteArray) : (Wp.items (by8 s)).length ≤ s.size := by have := Wp.items_len (by8 s); rwa [by8_len] at this
































end Go.Proofs.YtgednccpjegbmaaGreatDoor.Ew
namespace Go.Proofs.YtgednccpjegbmaaGreatDoor.Ew
open Go.RowKit Go.Proofs.YtgednccpjegbmaaGreatDoor Go.Proofs.YtgednccpjegbmaaGreatDoor.Ww
set_option maxRecDepth 100000

def trimT (s : ByteArray) : ByteArray := ⟨(Lib.trimS (by8 s) [32, 9, 10]).toArray⟩
end Go.Proofs.YtgednccpjegbmaaGreatDoor.Ew
namespace Go.Proofs.YtgednccpjegbmaaGreatDoor.Ew
open Go.RowKit Go.Proofs.YtgednccpjegbmaaGreatDoor Go.Proofs.YtgednccpjegbmaaGreatDoor.Ww
set_option maxRecDepth 100000

def joinS (xs : List ByteArray) : ByteArray := ⟨(Lib.join (xs.map (·.data.toList)) [32]).toArray⟩
def jn (l : List ByteArray) : List UInt8 := Lib.join (l.map (·.data.toList)) [32]
theorem jn_first {l : List ByteArray} (h : 0 < l.length) : jn (l.take (0 + 1)) = l[0].data.toList := by
  rw [List.take_succ_eq_append_getElem h]
  simp [jn, Lib.join_one]
theorem jn_next {l : List ByteArray} {k : Nat} (h : k < l.length) (h0 : 0 < k) : jn (l.take (k + 1)) = jn (l.take k) ++ [32] ++ l[k].data.toList := by
  rw [List.take_succ_eq_append_getElem h]
  cases hr : l.take k with
  | nil =>
    have := congrArg List.length hr
    rw [List.length_take, List.length_nil] at this; omega
  | cons x r =>
    simp [jn, Lib.join_cons, Lib.joinTail]
theorem jn_len : ∀ (l : List ByteArray), (∀ x ∈ l, x.size ≤ 100000) → ∀ k, k ≤ l.length → (jn (l.take k)).length ≤ k * 100001
  | l, _, 0, _ => by simp [jn, Lib.join, List.intercalate]
  | l, h, k + 1, hk => by
    have hlt : k < l.length := by omega
    have hs := h _ (List.getElem_mem hlt)
    have hd : l[k].data.toList.length = l[k].size := (Lib.size_eq _).symm
    rcases Nat.eq_zero_or_pos k with rfl | h0
    · rw [jn_first hlt]; omega
    · have ih := jn_len l h k (by omega)
      rw [jn_next hlt h0, List.length_append, List.length_append]
      simp only [List.length_singleton]; omega

end Go.Proofs.YtgednccpjegbmaaGreatDoor.Ew
namespace Go.Proofs.YtgednccpjegbmaaGreatDoor.Ep
abbrev Bs := List UInt8

/-- A number in figures, read on from one. -/
def numGo : Nat → Bs → Option Nat
  | n, [] => some n
  | n, c :: r => if c.toNat < 48 ∨ 57 < c.toNat then none else if 1073741824 < 10 * n + (c.toNat - 48) then none else numGo (10 * n + (c.toNat - 48)) r
def numA (s : Bs) : Option Nat := if s = [] then none else numGo 0 s
theorem numGo_le : ∀ {s : Bs} {n m : Nat}, n ≤ 1073741824 → numGo n s = some m → m ≤ 1073741824
  | [], n, m, h, e => by unfold numGo at e; cases e; exact h
  | c :: r, n, m, h, e => by
    unfold numGo at e
    split at e
    · cases e
    · split at e
      · cases e
      · exact numGo_le (by omega) e
theorem numA_le {s : Bs} {m : Nat} (e : numA s = some m) : m ≤ 1073741824 := by
  unfold numA at e
  split at e
  · cases e
  · exact numGo_le (by omega) e
/-- A number in figures. -/
def digitsA (n : Nat) : Bs := if n < 10 then [UInt8.ofNat (48 + n)] else digitsA (n / 10) ++ [UInt8.ofNat (48 + n % 10)]
termination_by n
decreasing_by omega
/-- Each a in c, changed to b; a isn't empty. -/
def substGo (a b : Bs) : Nat → Bs → Bs
  | 0, _ => []
  | _ + 1, [] => []
  | f + 1, c :: r => if a.isPrefixOf (c :: r) = true then b ++ substGo a b f ((c :: r).drop a.length) else c :: substGo a b f r
def substA (a b c : Bs) : Bs := if a = [] then c ++ b else substGo a b c.length c
theorem substGo_nil (a b : Bs) (f : Nat) : substGo a b f [] = [] := by cases f <;> rfl
theorem substGo_cons (a b : Bs) (f : Nat) (c : UInt8) (r : Bs) : substGo a b (f + 1) (c :: r) = if a.isPrefixOf (c :: r) = true then b ++ substGo a b f ((c :: r).drop a.length) else c :: substGo a b f r := rfl
theorem substGo_more (a b : Bs) (ha : a ≠ []) : ∀ (f g : Nat) (c : Bs), c.length ≤ f → c.length ≤ g → substGo a b f c = substGo a b g c
  | f, g, [], _, _ => by rw [substGo_nil, substGo_nil]
  | 0, _, c :: r, h, _ => by simp at h
  | _, 0, c :: r, _, h => by simp at h
  | f + 1, g + 1, c :: r, hf, hg => by
    have la : 0 < a.length := List.length_pos_iff.2 ha
    simp only [List.length_cons] at hf hg
    unfold substGo
    split
    · rw [substGo_more a b ha f g _ (by rw [List.length_drop, List.length_cons]; omega) (by rw [List.length_drop, List.length_cons]; omega)]
    · rw [substGo_more a b ha f g r (by omega) (by omega)]
/-- Is a text somewhere in another one? -/
def insideA (a b : Bs) : Bool := decide (0 ≤ Lib.index b a)
/-- Where a path's name begins. -/
def nameA (w : Bs) : Nat := (Lib.Pa.lastIndexByte w 47 + 1).toNat
/-- Where its ending begins: the last point that isn't before that. -/
def endA (w : Bs) : Nat := if (nameA w : Int) ≤ Lib.Pa.lastIndexByte w 46 then (Lib.Pa.lastIndexByte w 46).toNat else w.length
theorem name_le (w : Bs) : nameA w ≤ w.length := by have := Lib.Pa.lastIndexByte_bounds w 47; unfold nameA; omega
theorem end_le (w : Bs) : endA w ≤ w.length ∧ nameA w ≤ endA w := by
  have h1 := Lib.Pa.lastIndexByte_bounds w 46
  have h2 := name_le w
  unfold endA
  split <;> omega
end Go.Proofs.YtgednccpjegbmaaGreatDoor.Ep
