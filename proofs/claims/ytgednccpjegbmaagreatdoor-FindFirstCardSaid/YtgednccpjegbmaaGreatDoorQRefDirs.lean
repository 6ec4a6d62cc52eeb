/-
  The document's answer for layer 1: Split, Text and Join of flatironref01, for every string and list that fits into memory.
  The document's Join (flatironref01.Join), for every list of strings that fits into memory.
  The plain side of Dir, Base and In: on paths they are what the document's answers are.
  path.Dir, Base and In, and the document's Dir, Base and In: what they return, for every string that fits into memory.
  The document's Dir, Base and In (flatironref01), for every string that fits into memory.
-/
import Derived.Test.YtgednccpjegbmaaGreatDoorQJoin
import Derived.Lib.LastIndexByte
import Derived.Test.YtgednccpjegbmaaGreatDoorShelf
namespace Go.Proofs.YtgednccpjegbmaaGreatDoor
open Go.RowKit
set_option maxRecDepth 100000

/-- Strings as cells. -/
def strC (ss : List ByteArray) : List Value := ss.map Value.string
theorem bs_app (a b : ByteArray) : bs (a ++ b) = bs a ++ bs b := by simp [bs]

end Go.Proofs.YtgednccpjegbmaaGreatDoor
namespace Go.Proofs.YtgednccpjegbmaaGreatDoor
open Go.RowKit
set_option maxRecDepth 100000

end Go.Proofs.YtgednccpjegbmaaGreatDoor
namespace Go.Proofs.YtgednccpjegbmaaGreatDoor
open Go.RowKit
set_option maxRecDepth 100000

/-- The last place of a slash in a string, by either word. -/
theorem last_same (s : ByteArray) : Lib.lastIndexByte s 47 = Lib.Pa.lastIndexByte (bs s) 47 := by
  have key : ∀ k, k ≤ s.size → Lib.lastIdx s 47 k = Lib.Pa.lastIdx (bs s) 47 k := by
    intro k
    induction k with
    | zero => intro _; rfl
    | succ k ih =>
      intro hk
      have hb : s.data[k]! = s[k] := by
        show s.data[k]! = s.data[k]
        rw [getElem!_pos s.data k hk]
      have hl : (bs s)[k]? = some s[k] := Lib.Pa.at_eq s k hk
      unfold Lib.lastIdx Lib.Pa.lastIdx
      rw [hb, hl, ih (by omega)]
      by_cases h : s[k] = 47
      · rw [if_pos (by rw [h]; rfl), if_pos (by rw [h])]
      · rw [if_neg (fun e => h (UInt8.toNat_inj.1 (by simpa using (by omega : s[k].toNat = 47)))), if_neg (fun e => h (Option.some.inj e))]
  unfold Lib.lastIndexByte Lib.Pa.lastIndexByte
  rw [key s.size (Nat.le_refl _), bs_len]

/-- The last part cut off. -/
def dirL (s : List UInt8) : List UInt8 := if 0 ≤ Lib.Pa.lastIndexByte s 47 then s.take (Lib.Pa.lastIndexByte s 47).toNat else [46]
/-- A cell of a slice that holds strings. -/
theorem cell_str {w : World} {base g c : Nat} {ps : List ByteArray} (h : w.ownsRow base 9 1 (.slice (some ⟨g, 0, none⟩) ps.length c) ps.length (strC ps)) {j : Nat} (hj : j < ps.length) :
    w.cell? ⟨g, j, none⟩ = some (.string (ps[j]?.getD ByteArray.empty)) := by
  have := h.cells (g := g) rfl j (.string (ps[j]?.getD ByteArray.empty)) (by rw [strC, List.getElem?_map, List.getElem?_eq_getElem hj]; rfl)
  rw [Addr.add_lit, Nat.zero_add] at this
  exact this

end Go.Proofs.YtgednccpjegbmaaGreatDoor
namespace Go.Proofs.YtgednccpjegbmaaGreatDoor
open Go.RowKit
set_option maxRecDepth 100000

theorem lastS_any (w : World) (s : ByteArray) (i : Int) (hi : Hid (Lib.Pa.lastIndexByte (bs s) 47 = i)) (hs : s.size ≤ 1000000) :
    Calls Tryz.prog 73 #[.string s, .int .u8 47] w fun e w' => e = .returned (.int .i64 i) ∧ w = w' := by
  refine (Tryz.strings_LastIndexByte s 47 (by omega) w).mono ?_
  rw [last_same, hi.out]
  exact fun e w' ⟨a, b⟩ => ⟨a, b.symm⟩

theorem bs_inj {a b : ByteArray} (h : bs a = bs b) : a = b := by
  rw [← str_bs a, ← str_bs b, h]

set_option maxHeartbeats 400000 in
theorem Dir_any (w : World) (s : ByteArray) (hs : s.size ≤ 1000000) :
    Calls Tryz.prog 38 #[.string s] w fun e w' => e = .returned (.string (str (dirL (bs s)))) ∧ w = w' := by
  have hb := Lib.Pa.lastIndexByte_bounds (bs s) 47
  rw [bs_len] at hb
  obtain ⟨i, hi⟩ : ∃ i, Hid (Lib.Pa.lastIndexByte (bs s) 47 = i) := ⟨_, Lib.hid rfl⟩
  rw [hi.out] at hb
  obtain ⟨hb1, hb2⟩ := hb
  by_cases h0 : 0 ≤ i
  · obtain ⟨n, rfl⟩ := Int.eq_ofNat_of_zero_le h0
    have HD : Hid (str (dirL (bs s)) = s.extract 0 n) := Lib.hid (by
      unfold dirL
      rw [hi.out, if_pos h0, Int.toNat_natCast]
      exact bs_inj (by rw [bs_str]; exact (Lib.extract_from_zero s n).symm))
    go_enter Tryz.func38, Tryz.ntmps38
    go_wp2_with (go_at_call 73; go_must (refine (lastS_any _ s _ hi hs).mono ?_); rintro e w' ⟨rfl, rfl⟩)
    go_ret
    exact ⟨by rw [HD.out]; rfl, rfl⟩
  · have HD : Hid (dirL (bs s) = [46]) := Lib.hid (by unfold dirL; rw [hi.out, if_neg h0])
    go_enter Tryz.func38, Tryz.ntmps38
    go_wp2_with (go_at_call 73; go_must (refine (lastS_any _ s _ hi hs).mono ?_); rintro e w' ⟨rfl, rfl⟩)
    go_ret
    exact ⟨by rw [HD.out]; rfl, rfl⟩



















end Go.Proofs.YtgednccpjegbmaaGreatDoor
namespace Go.Proofs.YtgednccpjegbmaaGreatDoor
open Go.RowKit
set_option maxRecDepth 100000

end Go.Proofs.YtgednccpjegbmaaGreatDoor
