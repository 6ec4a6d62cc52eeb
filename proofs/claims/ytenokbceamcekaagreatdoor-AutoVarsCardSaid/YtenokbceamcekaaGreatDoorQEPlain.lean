/-
  Functions of texts, in plain words. No program here.
-/
import Derived.Lib.Index
import Derived.Lib.PathFns
import Derived.Test.YtenokbceamcekaaGreatDoorQTBase
namespace Go.Proofs.YtenokbceamcekaaGreatDoor.Ep
abbrev Bs := List UInt8

/-- A number in figures, read on from one. -/
def numGo : Nat → Bs → Option Nat
  | n, [] => some n
  | n, c :: r => if c.toNat < 48 ∨ 57 < c.toNat then none else if 1073741824 < 10 * n + (c.toNat - 48) then none else numGo (10 * n + (c.toNat - 48)) r
def numA (s : Bs) : Option Nat := if s = [] then none else numGo 0 s
theorem numGo_le : ∀ {s : Bs} {n m : Nat}, n ≤ 1073741824 → numGo n s = some m → m ≤ 1073741824
  | [], n, m, h, e => by unfold numGo at e; cases e; exact h
  | c :: r, n, m, h, e => by
    unfold numGo at e
    split at e
    · cases e
    · split at e
      · cases e
      · exact numGo_le (by omega) e
theorem numA_le {s : Bs} {m : Nat} (e : numA s = some m) : m ≤ 1073741824 := by
  unfold numA at e
  split at e
  · cases e
  · exact numGo_le (by omega) e
/-- A number in figures. -/
def digitsA (n : Nat) : Bs := if n < 10 then [UInt8.ofNat (48 + n)] else digitsA (n / 10) ++ [UInt8.ofNat (48 + n % 10)]
termination_by n
decreasing_by omega
/-- Each a in c, changed to b; a isn't empty. -/
def substGo (a b : Bs) : Nat → Bs → Bs
  | 0, _ => []
  | _ + 1, [] => []
  | f + 1, c :: r => if a.isPrefixOf (c :: r) = true then b ++ substGo a b f ((c :: r).drop a.length) else c :: substGo a b f r
def substA (a b c : Bs) : Bs := if a = [] then c ++ b else substGo a b c.length c
theorem substGo_nil (a b : Bs) (f : Nat) : substGo a b f [] = [] := by cases f <;> rfl
theorem substGo_cons (a b : Bs) (f : Nat) (c : UInt8) (r : Bs) : substGo a b (f + 1) (c :: r) = if a.isPrefixOf (c :: r) = true then b ++ substGo a b f ((c :: r).drop a.length) else c :: substGo a b f r := rfl
theorem substGo_more (a b : Bs) (ha : a ≠ []) : ∀ (f g : Nat) (c : Bs), c.length ≤ f → c.length ≤ g → substGo a b f c = substGo a b g c
  | f, g, [], _, _ => by rw [substGo_nil, substGo_nil]
  | 0, _, c :: r, h, _ => by simp at h
  | _, 0, c :: r, _, h => by simp at h
  | f + 1, g + 1, c :: r, hf, hg => by
    have la : 0 < a.length := List.length_pos_iff.2 ha
    simp only [List.length_cons] at hf hg
    unfold substGo
    split
    · rw [substGo_more a b ha f g _ (by rw [List.length_drop, List.length_cons]; omega) (by rw [List.length_drop, List.length_cons]; omega)]
    · rw [substGo_more a b ha f g r (by omega) (by omega)]
/-- What is left of c, changed. -/
def substR (a b c : Bs) (i : Nat) : Bs := substGo a b (c.length - i) (c.drop i)
theorem substR_hit {a b c : Bs} {i : Nat} (ha : a ≠ []) (hi : i < c.length) (h : Lib.occAt c a i = true) : substR a b c i = b ++ substR a b c (i + a.length) := by
  have la : 0 < a.length := List.length_pos_iff.2 ha
  unfold Lib.occAt at h
  unfold substR
  obtain ⟨n, hn⟩ : ∃ n, c.length - i = n + 1 := ⟨c.length - i - 1, by omega⟩
  rw [hn, List.drop_eq_getElem_cons hi]
  rw [List.drop_eq_getElem_cons hi] at h
  rw [substGo_cons, if_pos h, ← List.drop_eq_getElem_cons hi, List.drop_drop]
  congr 1
  exact substGo_more a b ha n (c.length - (i + a.length)) (c.drop (i + a.length)) (by rw [List.length_drop]; omega) (by rw [List.length_drop]; omega)
theorem substR_miss {a b c : Bs} {i : Nat} (ha : a ≠ []) (hi : i < c.length) (h : Lib.occAt c a i = false) : substR a b c i = c[i] :: substR a b c (i + 1) := by
  unfold Lib.occAt at h
  unfold substR
  obtain ⟨n, hn⟩ : ∃ n, c.length - i = n + 1 := ⟨c.length - i - 1, by omega⟩
  rw [hn, List.drop_eq_getElem_cons hi]
  rw [List.drop_eq_getElem_cons hi] at h
  rw [substGo_cons, if_neg (by rw [h]; exact Bool.false_ne_true)]
  congr 1
  exact substGo_more a b ha n (c.length - (i + 1)) (c.drop (i + 1)) (by rw [List.length_drop]; omega) (by rw [List.length_drop]; omega)
theorem substR_over {a b c : Bs} {i : Nat} (h : c.length ≤ i) : substR a b c i = [] := by unfold substR; rw [List.drop_of_length_le h, substGo_nil]
theorem substR_start {a b c : Bs} (ha : a ≠ []) : substR a b c 0 = substA a b c := by unfold substR substA; rw [if_neg ha]; rfl
theorem substGo_len (a b : Bs) (ha : a ≠ []) : ∀ (f : Nat) (c : Bs), (substGo a b f c).length ≤ c.length * (b.length + 1)
  | 0, c => by simp [substGo]
  | f + 1, [] => by simp [substGo]
  | f + 1, c :: r => by
    have la : 0 < a.length := List.length_pos_iff.2 ha
    unfold substGo
    split
    · rw [List.length_append]
      have ih := substGo_len a b ha f ((c :: r).drop a.length)
      have hl : ((c :: r).drop a.length).length ≤ r.length := by rw [List.length_drop, List.length_cons]; omega
      have := Nat.mul_le_mul_right (b.length + 1) hl
      rw [List.length_cons, Nat.succ_mul]; omega
    · have ih := substGo_len a b ha f r
      rw [List.length_cons, List.length_cons, Nat.succ_mul]; omega
/-- Is a text somewhere in another one? -/
def insideA (a b : Bs) : Bool := decide (0 ≤ Lib.index b a)
/-- Where a path's name begins. -/
def nameA (w : Bs) : Nat := (Lib.Pa.lastIndexByte w 47 + 1).toNat
/-- Where its ending begins: the last point that isn't before that. -/
def endA (w : Bs) : Nat := if (nameA w : Int) ≤ Lib.Pa.lastIndexByte w 46 then (Lib.Pa.lastIndexByte w 46).toNat else w.length
theorem name_le (w : Bs) : nameA w ≤ w.length := by have := Lib.Pa.lastIndexByte_bounds w 47; unfold nameA; omega
theorem end_le (w : Bs) : endA w ≤ w.length ∧ nameA w ≤ endA w := by
  have h1 := Lib.Pa.lastIndexByte_bounds w 46
  have h2 := name_le w
  unfold endA
  split <;> omega
end Go.Proofs.YtenokbceamcekaaGreatDoor.Ep
