/-
  Strings as lists of bytes, and compared.
-/
import Derived.Test.YtebagfadcjgllaaGreatDoorWBase
import Derived.Test.YtebagfadcjgllaaGreatDoorTPlain
namespace Go.Proofs.YtebagfadcjgllaaGreatDoor.Tw
open Go.RowKit Go.Proofs.YtebagfadcjgllaaGreatDoor Go.Proofs.YtebagfadcjgllaaGreatDoor.Ww
set_option maxRecDepth 100000

def str (l : Bs) : ByteArray := ⟨l.toArray⟩
theorem by8_str (l : Bs) : by8 (str l) = l := rfl
theorem str_by8 (s : ByteArray) : str (by8 s) = s := rfl
theorem str_size (l : Bs) : (str l).size = l.length := by rw [← by8_len, by8_str]
theorem by8_add (a b : ByteArray) : by8 (a ++ b) = by8 a ++ by8 b := by simp [by8]
theorem by8_one {s : ByteArray} {i : Nat} (h : i < s.size) : by8 (s.extract i (i + 1)) = [s[i]] := by
  show (s.extract i (i + 1)).data.toList = _
  rw [ByteArray.data_extract, Array.toList_extract, List.extract_eq_take_drop]
  show ((by8 s).drop i).take (i + 1 - i) = _
  rw [by8_at h, show i + 1 - i = 1 by omega]; rfl
theorem by8_mid (s : ByteArray) (i j : Nat) : by8 (s.extract i j) = ((by8 s).drop i).take (j - i) := by
  show (s.extract i j).data.toList = _
  rw [ByteArray.data_extract, Array.toList_extract, List.extract_eq_take_drop]; rfl
theorem toList_by8 (s : ByteArray) : s.toList = by8 s := Lib.toList_data s
theorem beq_yes {a b : ByteArray} (h : by8 a = by8 b) : (a.toList == b.toList) = true := by rw [toList_by8, toList_by8, h]; exact beq_self_eq_true _
theorem beq_no {a b : ByteArray} (h : ¬ by8 a = by8 b) : (a.toList == b.toList) = false := by rw [toList_by8, toList_by8]; exact beq_eq_false_iff_ne.2 h
theorem bne_no {a b : ByteArray} (h : by8 a = by8 b) : (a.toList != b.toList) = false := by rw [bne, beq_yes h]; rfl
theorem bne_yes {a b : ByteArray} (h : ¬ by8 a = by8 b) : (a.toList != b.toList) = true := by rw [bne, beq_no h]; rfl
theorem ret_str {a b : ByteArray} (h : a = b) : Ending.returned (.string a) = .returned (.string b) := by rw [h]
end Go.Proofs.YtebagfadcjgllaaGreatDoor.Tw
