/-
  Patterns with a %, in plain words. No program here.
  Strings as lists of bytes, and compared.
-/
import Derived.Lib.Walk
import Derived.Test.YtpliljcjjffipaaGreatDoorProg
import Derived.Test.YtpliljcjjffipaaGreatDoorQWReads
namespace Go.Proofs.YtpliljcjjffipaaGreatDoor.Tp
abbrev Bs := List UInt8

/-- Where the first % is. -/
def atA (p : Bs) : Option Nat := p.findIdx? (· == 37)
/-- The stem, if a word is of a pattern. -/
def matchA (p w : Bs) : Option Bs := match atA p with
  | none => if p = w then some [] else none
  | some i => if i + (p.drop (i + 1)).length < w.length ∧ w.take i = p.take i ∧ w.drop (w.length - (p.drop (i + 1)).length) = p.drop (i + 1) then some ((w.drop i).take (w.length - i - (p.drop (i + 1)).length)) else none
/-- A text in the place of the first %. -/
def putA (p s : Bs) : Bs := match atA p with
  | none => p
  | some i => p.take i ++ s ++ p.drop (i + 1)
/-- A word, from one pattern to another one. -/
def changeA (w a b : Bs) : Bs := match matchA a w with
  | none => w
  | some s => if (atA a).isNone = true then b else putA b s

theorem at_split {p : Bs} {i : Nat} (h : atA p = some i) : p = p.take i ++ 37 :: p.drop (i + 1) ∧ 37 ∉ p.take i := by
  unfold atA at h
  obtain ⟨h1, h2, h3⟩ := List.findIdx?_eq_some_iff_getElem.1 h
  refine ⟨?_, fun hm => ?_⟩
  · have e : p[i] = 37 := by simpa using h2
    conv => lhs; rw [← List.take_append_drop i p, List.drop_eq_getElem_cons h1, e]
  · obtain ⟨j, hj, e⟩ := List.mem_iff_getElem.1 hm
    rw [List.length_take] at hj
    have := h3 j (by omega)
    rw [List.getElem_take] at e
    rw [e] at this
    simp at this
theorem at_none {p : Bs} (h : atA p = none) : 37 ∉ p := by
  unfold atA at h
  rw [List.findIdx?_eq_none_iff] at h
  intro hm
  have := h 37 hm
  simp at this
end Go.Proofs.YtpliljcjjffipaaGreatDoor.Tp
namespace Go.Proofs.YtpliljcjjffipaaGreatDoor.Tw
open Go.RowKit Go.Proofs.YtpliljcjjffipaaGreatDoor Go.Proofs.YtpliljcjjffipaaGreatDoor.Ww
set_option maxRecDepth 100000

def str (l : Bs) : ByteArray := ⟨l.toArray⟩
theorem by8_str (l : Bs) : by8 (str l) = l := rfl
theorem str_by8 (s : ByteArray) : str (by8 s) = s := rfl
theorem str_size (l : Bs) : (str l).size = l.length := by rw [← by8_len, by8_str]
theorem by8_add (a b : ByteArray) : by8 (a ++ b) = by8 a ++ by8 b := by simp [by8]
theorem by8_one {s : ByteArray} {i : Nat} (h : i < s.size) : by8 (s.extract i (i + 1)) = [s[i]] := by
  show (s.extract i (i + 1)).data.toList = _
  rw [ByteArray.data_extract, Array.toList_extract, List.extract_eq_take_drop]
  show ((by8 s).drop i).take (i + 1 - i) = _
  rw [by8_at h, show i + 1 - i = 1 by omega]; rfl
theorem toList_by8 (s : ByteArray) : s.toList = by8 s := Lib.toList_data s
theorem beq_yes {a b : ByteArray} (h : by8 a = by8 b) : (a.toList == b.toList) = true := by rw [toList_by8, toList_by8, h]; exact beq_self_eq_true _
theorem beq_no {a b : ByteArray} (h : ¬ by8 a = by8 b) : (a.toList == b.toList) = false := by rw [toList_by8, toList_by8]; exact beq_eq_false_iff_ne.2 h
end Go.Proofs.YtpliljcjjffipaaGreatDoor.Tw
