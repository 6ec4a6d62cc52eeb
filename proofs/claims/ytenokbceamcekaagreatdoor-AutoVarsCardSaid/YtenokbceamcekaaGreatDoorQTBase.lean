/-
  Patterns with a %, in plain words. No program here.
  Strings as lists of bytes, and compared.
-/
import Derived.Lib.Walk
import Derived.Test.YtenokbceamcekaaGreatDoorProg
import Derived.Test.YtenokbceamcekaaGreatDoorQWReads
namespace Go.Proofs.YtenokbceamcekaaGreatDoor.Tp
abbrev Bs := List UInt8

/-- Where the first % is. -/
def atA (p : Bs) : Option Nat := p.findIdx? (· == 37)
/-- The stem, if a word is of a pattern. -/
def matchA (p w : Bs) : Option Bs := match atA p with
  | none => if p = w then some [] else none
  | some i => if i + (p.drop (i + 1)).length < w.length ∧ w.take i = p.take i ∧ w.drop (w.length - (p.drop (i + 1)).length) = p.drop (i + 1) then some ((w.drop i).take (w.length - i - (p.drop (i + 1)).length)) else none
/-- A text in the place of the first %. -/
def putA (p s : Bs) : Bs := match atA p with
  | none => p
  | some i => p.take i ++ s ++ p.drop (i + 1)
/-- A word, from one pattern to another one. -/
def changeA (w a b : Bs) : Bs := match matchA a w with
  | none => w
  | some s => if (atA a).isNone = true then b else putA b s

theorem at_lt {p : Bs} {i : Nat} (h : atA p = some i) : i < p.length := by
  unfold atA at h
  exact (List.findIdx?_eq_some_iff_getElem.1 h).1
theorem at_split {p : Bs} {i : Nat} (h : atA p = some i) : p = p.take i ++ 37 :: p.drop (i + 1) ∧ 37 ∉ p.take i := by
  unfold atA at h
  obtain ⟨h1, h2, h3⟩ := List.findIdx?_eq_some_iff_getElem.1 h
  refine ⟨?_, fun hm => ?_⟩
  · have e : p[i] = 37 := by simpa using h2
    conv => lhs; rw [← List.take_append_drop i p, List.drop_eq_getElem_cons h1, e]
  · obtain ⟨j, hj, e⟩ := List.mem_iff_getElem.1 hm
    rw [List.length_take] at hj
    have := h3 j (by omega)
    rw [List.getElem_take] at e
    rw [e] at this
    simp at this
theorem at_none {p : Bs} (h : atA p = none) : 37 ∉ p := by
  unfold atA at h
  rw [List.findIdx?_eq_none_iff] at h
  intro hm
  have := h 37 hm
  simp at this
theorem at_of {a r : Bs} (h : 37 ∉ a) : atA (a ++ 37 :: r) = some a.length := by
  unfold atA
  rw [List.findIdx?_eq_some_iff_getElem]
  refine ⟨by simp, by simp, fun j hj => ?_⟩
  rw [List.getElem_append_left hj]
  have : a[j] ≠ 37 := fun e => h (e ▸ List.getElem_mem hj)
  simpa using this
theorem at_no {p : Bs} (h : 37 ∉ p) : atA p = none := by
  unfold atA
  rw [List.findIdx?_eq_none_iff]
  intro x hx
  have : x ≠ 37 := fun e => h (e ▸ hx)
  simpa using this
/-- With its stem a pattern is the word again. -/
theorem put_match {p w s : Bs} (h : matchA p w = some s) : putA p s = w := by
  unfold matchA at h
  unfold putA
  split at h
  · split at h
    · rename_i h1; exact h1
    · cases h
  · rename_i i h0
    split at h
    · rename_i h1
      obtain ⟨h1, h2, h3⟩ := h1
      obtain rfl := Option.some.inj h
      show p.take i ++ _ ++ p.drop (i + 1) = w
      rw [← h2]
      generalize p.drop (i + 1) = t at *
      have e : t = (w.drop i).drop (w.length - i - t.length) := by
        rw [List.drop_drop]
        conv => lhs; rw [← h3]
        congr 1; omega
      have e2 : (w.drop i).take (w.length - i - t.length) ++ t = w.drop i := (congrArg (fun x => (w.drop i).take (w.length - i - t.length) ++ x) e).trans (List.take_append_drop _ _)
      rw [List.append_assoc, e2, List.take_append_drop]
    · cases h
theorem match_len {p w s : Bs} (h : matchA p w = some s) : s.length ≤ w.length := by
  unfold matchA at h
  split at h
  · split at h
    · obtain rfl := Option.some.inj h; simp
    · cases h
  · split at h
    · obtain rfl := Option.some.inj h
      rw [List.length_take, List.length_drop]; omega
    · cases h
theorem put_len (p s : Bs) : (putA p s).length ≤ p.length + s.length := by
  unfold putA
  split
  · omega
  · rename_i i h
    have := at_lt h
    simp; omega
end Go.Proofs.YtenokbceamcekaaGreatDoor.Tp
namespace Go.Proofs.YtenokbceamcekaaGreatDoor.Tw
open Go.RowKit Go.Proofs.YtenokbceamcekaaGreatDoor Go.Proofs.YtenokbceamcekaaGreatDoor.Ww
set_option maxRecDepth 100000

def str (l : Bs) : ByteArray := ⟨l.toArray⟩
theorem by8_str (l : Bs) : by8 (str l) = l := rfl
theorem str_by8 (s : ByteArray) : str (by8 s) = s := rfl
theorem str_size (l : Bs) : (str l).size = l.length := by rw [← by8_len, by8_str]
theorem by8_add (a b : ByteArray) : by8 (a ++ b) = by8 a ++ by8 b := by simp [by8]
theorem by8_one {s : ByteArray} {i : Nat} (h : i < s.size) : by8 (s.extract i (i + 1)) = [s[i]] := by
  show (s.extract i (i + 1)).data.toList = _
  rw [ByteArray.data_extract, Array.toList_extract, List.extract_eq_take_drop]
  show ((by8 s).drop i).take (i + 1 - i) = _
  rw [by8_at h, show i + 1 - i = 1 by omega]; rfl
theorem by8_mid (s : ByteArray) (i j : Nat) : by8 (s.extract i j) = ((by8 s).drop i).take (j - i) := by
  show (s.extract i j).data.toList = _
  rw [ByteArray.data_extract, Array.toList_extract, List.extract_eq_take_drop]; rfl
theorem toList_by8 (s : ByteArray) : s.toList = by8 s := Lib.toList_data s
theorem beq_yes {a b : ByteArray} (h : by8 a = by8 b) : (a.toList == b.toList) = true := by rw [toList_by8, toList_by8, h]; exact beq_self_eq_true _
theorem beq_no {a b : ByteArray} (h : ¬ by8 a = by8 b) : (a.toList == b.toList) = false := by rw [toList_by8, toList_by8]; exact beq_eq_false_iff_ne.2 h
theorem bne_no {a b : ByteArray} (h : by8 a = by8 b) : (a.toList != b.toList) = false := by rw [bne, beq_yes h]; rfl
theorem bne_yes {a b : ByteArray} (h : ¬ by8 a = by8 b) : (a.toList != b.toList) = true := by rw [bne, beq_no h]; rfl
theorem ret_str {a b : ByteArray} (h : a = b) : Ending.returned (.string a) = .returned (.string b) := by rw [h]
end Go.Proofs.YtenokbceamcekaaGreatDoor.Tw
