/-
  flatironref02.stands and Match: the document's answer on whether all of a text is of a pattern.
-/
import Derived.OwnWalk
import Derived.Laws.OwnMore
import Derived.Deep.RegionHeld3
import Derived.Test.YtdckeefhncdegaaDoorPlaces
namespace Go.Proofs.YtdckeefhncdegaaDoor.Gm
open Go.RowKit Go.Proofs.YtdckeefhncdegaaDoor
set_option maxRecDepth 100000

set_option maxHeartbeats 1000000 in
theorem stands_any (w : World) (x : Gl.Pl) (K : Int) (T : ByteArray) (c : UInt8) (hK : Hid (K = kindP x)) (hT : Hid (by8 T = textP x)) (hs : T.size ≤ 1000000) (hst : Gl.isStar x = false) :
    Calls Tryd.prog 16 #[.agg #[.int .i64 K, .string T], .int .u8 (c.toNat : Int)] w fun e w' => e = .returned (.bool (Gl.stands x c)) ∧ w' = w.alloc (.cells #[.int .i64 K, .string T] 33) := by
  cases x with
  | star => cases hst
  | any =>
    obtain rfl : K = 1 := hK.out
    go_enter Tryd.func16, Tryd.ntmps16
    go_wp2
    go_ret
    exact ⟨rfl, rfl⟩
  | br t =>
    obtain rfl : K = 2 := hK.out
    have HW : Hid (Gl.within (by8 T) c = Gl.stands (.br t) c) := Lib.hid (by rw [hT.out]; rfl)
    go_enter Tryd.func16, Tryd.ntmps16
    go_wp2_with (go_at_call 34; go_must (refine (within_any _ T c hs).mono ?_); rw [HW.out]; rintro e w' ⟨rfl, rfl⟩)
    go_ret
    exact ⟨rfl, rfl⟩
  | lit d =>
    obtain rfl : K = 3 := hK.out
    have h0 : 0 < T.size := by rw [← by8_len, hT.out]; exact Nat.zero_lt_one
    have hd : T[0] = d := by
      have := by8_get h0
      rw [hT.out] at this
      exact (Option.some.inj this).symm
    by_cases hc : d = c
    · have hb := eq_true (hd.trans hc)
      have HS : Hid (Gl.stands (.lit d) c = true) := Lib.hid (by show (d == c) = true; rw [hc]; exact beq_self_eq_true _)
      clear hd hc
      go_enter Tryd.func16, Tryd.ntmps16
      go_wp2
      go_ret
      exact ⟨ret_bool HS.out.symm, rfl⟩
    · have hb := eq_false (fun e => hc (hd.symm.trans e))
      have HS : Hid (Gl.stands (.lit d) c = false) := Lib.hid (beq_eq_false_iff_ne.2 hc)
      clear hd hc
      go_enter Tryd.func16, Tryd.ntmps16
      go_wp2
      go_ret
      exact ⟨ret_bool HS.out.symm, rfl⟩

/-- Booleans in a row. -/
def bl (f : Nat → Bool) (m : Nat) : List Value := (List.range m).map fun k => .bool (f k)
theorem bl_len (f : Nat → Bool) (m : Nat) : (bl f m).length = m := by simp [bl]
theorem bl_get {f : Nat → Bool} {m k : Nat} (h : k < m) : (bl f m)[k]? = some (.bool (f k)) := by
  rw [bl, List.getElem?_map, List.getElem?_range h]; rfl
theorem bl_set (f : Nat → Bool) (m k : Nat) (b : Bool) : (bl f m).set k (.bool b) = bl (fun j => if j = k then b else f j) m := by
  apply List.ext_getElem?
  intro j
  by_cases hj : j < m
  · rw [List.getElem?_set, bl_get hj, bl_get hj, bl_len]
    by_cases e : k = j
    · subst e; simp [hj]
    · rw [if_neg e, if_neg (fun h => e h.symm)]
  · rw [List.getElem?_eq_none_iff.2 (by simp [bl]; omega), List.getElem?_eq_none_iff.2 (by simp [bl]; omega)]
theorem bl_congr {f g : Nat → Bool} {m : Nat} (h : ∀ j, j < m → f j = g j) : bl f m = bl g m := by
  apply List.map_congr_left
  intro j hj
  rw [h j (List.mem_range.1 hj)]
theorem bl_made (n : Nat) : (madeCells (Value.bool false).cells (n * 1)).toList = bl (fun _ => false) n := by
  show (madeCells #[Value.bool false] (n * 1)).toList = _
  rw [toList_madeCells_one, Nat.mul_one]
  apply List.ext_getElem?
  intro j
  by_cases hj : j < n
  · rw [bl_get hj, List.getElem?_replicate, if_pos hj]
  · rw [List.getElem?_eq_none_iff.2 (by simp; omega), List.getElem?_eq_none_iff.2 (by simp [bl]; omega)]

/-- The next row as far as k. -/
def upTo (k : Nat) (f : Nat → Bool) : Nat → Bool := fun j => decide (j < k) && f j
theorem upTo_set (f : Nat → Bool) (m k : Nat) : (bl (upTo k f) m).set k (.bool (f k)) = bl (upTo (k + 1) f) m := by
  rw [bl_set]
  apply bl_congr
  intro j _
  unfold upTo
  by_cases e : j = k
  · subst e; simp
  · rw [if_neg e]
    congr 1
    rw [Bool.eq_iff_iff, decide_eq_true_iff, decide_eq_true_iff]; omega
theorem upTo_skip (f : Nat → Bool) (m k : Nat) (h : f k = false) : bl (upTo k f) m = bl (upTo (k + 1) f) m := by
  apply bl_congr
  intro j _
  unfold upTo
  by_cases e : j = k
  · subst e; rw [h, Bool.and_false, Bool.and_false]
  · congr 1
    rw [Bool.eq_iff_iff, decide_eq_true_iff, decide_eq_true_iff]; omega
theorem upTo_all (f : Nat → Bool) (m : Nat) : bl (upTo m f) m = bl f m := by
  apply bl_congr
  intro j hj
  unfold upTo
  rw [decide_eq_true hj]; rfl
end Go.Proofs.YtdckeefhncdegaaDoor.Gm
