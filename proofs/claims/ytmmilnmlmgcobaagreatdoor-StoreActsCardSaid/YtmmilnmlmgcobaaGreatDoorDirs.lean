/-
  path.Dir, Base and In, and the document's Dir, Base and In: what they return, for every string that fits into memory.
-/
import Derived.Test.YtmmilnmlmgcobaaGreatDoorWays0
import Derived.Test.YtmmilnmlmgcobaaGreatDoorShelf
namespace Go.Proofs.YtmmilnmlmgcobaaGreatDoor
open Go.RowKit
set_option maxRecDepth 100000

theorem lastS_any (w : World) (s : ByteArray) (i : Int) (hi : Hid (Lib.Pa.lastIndexByte (bs s) 47 = i)) (hs : s.size ≤ 1000000) :
    Calls Tryz.prog 82 #[.string s, .int .u8 47] w fun e w' => e = .returned (.int .i64 i) ∧ w = w' := by
  refine (Tryz.strings_LastIndexByte s 47 (by omega) w).mono ?_
  rw [last_same, hi.out]
  exact fun e w' ⟨a, b⟩ => ⟨a, b.symm⟩

theorem bs_inj {a b : ByteArray} (h : bs a = bs b) : a = b := by
  rw [← str_bs a, ← str_bs b, h]

set_option maxHeartbeats 400000 in
theorem Dir_any (w : World) (s : ByteArray) (hs : s.size ≤ 1000000) :
    Calls Tryz.prog 55 #[.string s] w fun e w' => e = .returned (.string (str (dirL (bs s)))) ∧ w = w' := by
  have hb := Lib.Pa.lastIndexByte_bounds (bs s) 47
  rw [bs_len] at hb
  obtain ⟨i, hi⟩ : ∃ i, Hid (Lib.Pa.lastIndexByte (bs s) 47 = i) := ⟨_, Lib.hid rfl⟩
  rw [hi.out] at hb
  obtain ⟨hb1, hb2⟩ := hb
  by_cases h0 : 0 ≤ i
  · obtain ⟨n, rfl⟩ := Int.eq_ofNat_of_zero_le h0
    have HD : Hid (str (dirL (bs s)) = s.extract 0 n) := Lib.hid (by
      unfold dirL
      rw [hi.out, if_pos h0, Int.toNat_natCast]
      exact bs_inj (by rw [bs_str]; exact (Lib.extract_from_zero s n).symm))
    go_enter Tryz.func55, Tryz.ntmps55
    go_wp2_with (go_at_call 82; go_must (refine (lastS_any _ s _ hi hs).mono ?_); rintro e w' ⟨rfl, rfl⟩)
    go_ret
    exact ⟨by rw [HD.out]; rfl, rfl⟩
  · have HD : Hid (dirL (bs s) = [46]) := Lib.hid (by unfold dirL; rw [hi.out, if_neg h0])
    go_enter Tryz.func55, Tryz.ntmps55
    go_wp2_with (go_at_call 82; go_must (refine (lastS_any _ s _ hi hs).mono ?_); rintro e w' ⟨rfl, rfl⟩)
    go_ret
    exact ⟨by rw [HD.out]; rfl, rfl⟩

set_option maxHeartbeats 400000 in
theorem Base_any (w : World) (s : ByteArray) (hs : s.size ≤ 1000000) :
    Calls Tryz.prog 73 #[.string s] w fun e w' => e = .returned (.string (str (baseL (bs s)))) ∧ w = w' := by
  have hb := Lib.Pa.lastIndexByte_bounds (bs s) 47
  rw [bs_len] at hb
  obtain ⟨n, hn⟩ : ∃ n : Nat, Lib.Pa.lastIndexByte (bs s) 47 + 1 = n := ⟨(Lib.Pa.lastIndexByte (bs s) 47 + 1).toNat, by omega⟩
  have hi : Hid (Lib.Pa.lastIndexByte (bs s) 47 = (n : Int) - 1) := Lib.hid (by omega)
  have hns : n ≤ s.size := by omega
  have HD : Hid (str (baseL (bs s)) = s.extract n s.size) := Lib.hid (by
    unfold baseL
    rw [hn, Int.toNat_natCast]
    exact bs_inj (by rw [bs_str]; exact (Lib.extract_to_end s n).symm))
  clear hb hn
  go_enter Tryz.func73, Tryz.ntmps73
  go_wp2_with (go_at_call 82; go_must (refine (lastS_any _ s _ hi hs).mono ?_); rintro e w' ⟨rfl, rfl⟩)
  go_ret
  exact ⟨by rw [HD.out]; rfl, rfl⟩

theorem cut_any (w : World) (p d : ByteArray) (r : ByteArray) (ok : Bool) (hr : Hid (Lib.trimPrefix (bs p) (bs d) = bs r)) (hok : Hid (Lib.hasPrefix (bs p) (bs d) = ok)) :
    Calls Tryz.prog 83 #[.string p, .string d] w fun e w' => e = .returned (.tuple #[.string r, .bool ok]) ∧ w = w' := by
  refine (Tryz.strings_CutPrefix p d w).mono ?_
  rw [show p.data.toList = bs p from rfl, show d.data.toList = bs d from rfl, hr.out, hok.out]
  exact fun e w' ⟨a, b⟩ => ⟨a, b.symm⟩

set_option maxHeartbeats 400000 in
theorem In_any (w : World) (p d : ByteArray) :
    Calls Tryz.prog 67 #[.string p, .string d] w fun e w' => e = .returned (.bool (inL (bs p) (bs d))) ∧ w = w' := by
  by_cases h0 : (d.toList == [46]) = true
  · have HI : Hid (inL (bs p) (bs d) = true) := Lib.hid (by unfold inL; rw [bs_is h0]; rfl)
    go_enter Tryz.func67, Tryz.ntmps67
    go_wp2
    go_ret
    exact ⟨by rw [HI.out]; rfl, rfl⟩
  · have h0' : (d.toList == [46]) = false := by simpa using h0
    clear h0
    have hd : (bs d == [46]) = false := by rw [beq_eq_false_iff_ne]; exact bs_not h0'
    have HH := Lib.hid hd
    clear hd
    by_cases hp : Lib.hasPrefix (bs p) (bs d) = true
    · obtain ⟨r, hr⟩ : ∃ r : ByteArray, Hid (Lib.trimPrefix (bs p) (bs d) = bs r) := ⟨str (Lib.trimPrefix (bs p) (bs d)), Lib.hid rfl⟩
      have hr2 : bs r = (bs p).drop (bs d).length := by rw [← hr.out]; unfold Lib.trimPrefix; rw [if_pos hp]
      have HR := Lib.hid hr2
      have HP : Hid (Lib.hasPrefix (bs p) (bs d) = true) := Lib.hid hp
      clear hp hr2
      by_cases he : r.toList.isEmpty = true
      · have HI : Hid (inL (bs p) (bs d) = true) := Lib.hid (by
          unfold inL
          rw [← HR.out, bs_empty he, show (bs d).isPrefixOf (bs p) = true from HP.out]; simp)
        go_enter Tryz.func67, Tryz.ntmps67
        go_wp2_with (go_at_call 83; go_must (refine (cut_any _ p d r true hr HP).mono ?_); rintro e w' ⟨rfl, rfl⟩)
        go_ret
        exact ⟨by rw [HI.out]; rfl, rfl⟩
      · have he' : r.toList.isEmpty = false := by simpa using he
        have hne := bs_ne he'
        have hpos : 0 < r.size := by
          rw [← bs_len]; exact List.length_pos_iff.2 hne
        have hh : (bs r).head? = some r[0] := by
          rw [List.head?_eq_getElem?]; exact Lib.Pa.at_eq r 0 hpos
        have HN := Lib.hid hne
        have H2 := Lib.hid hh
        clear he hne hh
        by_cases h47 : r[0] = 47
        · have hb : ((r[0].toNat : Int) == 47) = true := by rw [h47]; rfl
          have HI : Hid (inL (bs p) (bs d) = true) := Lib.hid (by
            unfold inL
            rw [← HR.out, H2.out, h47, show (bs d).isPrefixOf (bs p) = true from HP.out]; simp)
          clear h47
          go_enter Tryz.func67, Tryz.ntmps67
          go_wp2_with (go_at_call 83; go_must (refine (cut_any _ p d r true hr HP).mono ?_); rintro e w' ⟨rfl, rfl⟩)
          go_ret
          exact ⟨by rw [HI.out]; rfl, rfl⟩
        · have hb : ((r[0].toNat : Int) == 47) = false := by
            rw [beq_eq_false_iff_ne]; intro e; exact h47 (UInt8.toNat_inj.1 (by simpa using (by omega : r[0].toNat = 47)))
          have HI : Hid (inL (bs p) (bs d) = false) := Lib.hid (by
            unfold inL
            rw [← HR.out, H2.out, HH.out, show (bs d).isPrefixOf (bs p) = true from HP.out]
            have := HN.out
            simp [this, h47])
          clear h47
          go_enter Tryz.func67, Tryz.ntmps67
          go_wp2_with (go_at_call 83; go_must (refine (cut_any _ p d r true hr HP).mono ?_); rintro e w' ⟨rfl, rfl⟩)
          go_ret
          exact ⟨by rw [HI.out]; rfl, rfl⟩
    · have hp' : Lib.hasPrefix (bs p) (bs d) = false := by simpa using hp
      have HP := Lib.hid hp'
      have hr : Hid (Lib.trimPrefix (bs p) (bs d) = bs p) := Lib.hid (by unfold Lib.trimPrefix; rw [if_neg hp])
      have HI : Hid (inL (bs p) (bs d) = false) := Lib.hid (by
        unfold inL
        rw [HH.out, show (bs d).isPrefixOf (bs p) = false from hp']; rfl)
      clear hp hp'
      go_enter Tryz.func67, Tryz.ntmps67
      go_wp2_with (go_at_call 83; go_must (refine (cut_any _ p d p false hr HP).mono ?_); rintro e w' ⟨rfl, rfl⟩)
      go_ret
      exact ⟨by rw [HI.out]; rfl, rfl⟩
end Go.Proofs.YtmmilnmlmgcobaaGreatDoor
