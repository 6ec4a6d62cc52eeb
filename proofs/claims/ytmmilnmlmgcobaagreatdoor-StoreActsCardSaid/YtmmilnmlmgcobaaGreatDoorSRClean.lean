/-
  The reference's Clean: is a text a path?
-/
import Derived.Test.YtmmilnmlmgcobaaGreatDoorRefJoin
import Derived.Test.YtmmilnmlmgcobaaGreatDoorSAt
namespace Go.Proofs.YtmmilnmlmgcobaaGreatDoor.Sw
open Go.RowKit Go.Proofs.YtmmilnmlmgcobaaGreatDoor Go.Maps
set_option maxRecDepth 100000

theorem tot_one (s : ByteArray) : tot [s] = s.size + 1 := by simp [tot]

theorem RJ_yes (w : World) (s : ByteArray) (c : Nat) (q : List UInt8) (hs : s.size ≤ 900000) (h : Hid (Pt.join ([s].map bs) = some q)) :
    Calls Tryz.prog 56 #[.slice (some ⟨w.heap.size, 0, none⟩) 1 c] (w.alloc (.cells #[.string s] 9)) fun e w' => e = .returned (.tuple #[.string (str q), .bool true]) ∧ Below w.heap.size w w' := by
  have hB := (Below.refl w.heap.size w).alloc (Nat.le_refl _) (.cells #[.string s] 9)
  refine (RJoinB_any _ w.heap.size 0 c [s] (by simp) (fun j hj => ?_) (by rw [tot_one]; omega)).mono ?_
  · obtain rfl : j = 0 := by simpa using hj
    exact (Boxed.new w 9 (.string s)).cell
  · rw [h.out]
    rintro e w' ⟨hB2, rfl⟩
    exact ⟨rfl, hB.trans (hB2.mono hB.size)⟩

theorem RJ_no (w : World) (s : ByteArray) (c : Nat) (hs : s.size ≤ 900000) (h : Hid (Pt.join ([s].map bs) = none)) :
    Calls Tryz.prog 56 #[.slice (some ⟨w.heap.size, 0, none⟩) 1 c] (w.alloc (.cells #[.string s] 9)) fun e w' => e = .returned (.tuple #[.string (str []), .bool false]) ∧ Below w.heap.size w w' := by
  have hB := (Below.refl w.heap.size w).alloc (Nat.le_refl _) (.cells #[.string s] 9)
  refine (RJoinB_any _ w.heap.size 0 c [s] (by simp) (fun j hj => ?_) (by rw [tot_one]; omega)).mono ?_
  · obtain rfl : j = 0 := by simpa using hj
    exact (Boxed.new w 9 (.string s)).cell
  · rw [h.out]
    rintro e w' ⟨hB2, rfl⟩
    exact ⟨rfl, hB.trans (hB2.mono hB.size)⟩

set_option maxHeartbeats 1000000 in
theorem RClean_any (w : World) (s : ByteArray) (hs : s.size ≤ 900000) :
    Calls Tryz.prog 20 #[.string s] w fun e w' => e = .returned (.bool (isPath (bs s))) ∧ Below w.heap.size w w' := by
  cases hj : Pt.join [bs s] with
  | none =>
    have HN : Hid (Pt.join ([s].map bs) = none) := Lib.hid hj
    have HE : Hid (isPath (bs s) = false) := Lib.hid (by unfold isPath; rw [hj]; rfl)
    clear hj
    go_enter Tryz.func20, Tryz.ntmps20
    go_wp2_with (go_at_call 56; refine (RJ_no _ s _ hs HN).mono ?_; rintro e w' ⟨rfl, hB2⟩)
    go_ret
    exact ⟨by rw [HE.out]; rfl, hB2⟩
  | some q =>
    have HN : Hid (Pt.join ([s].map bs) = some q) := Lib.hid hj
    by_cases hq : q = bs s
    · have HE : Hid (isPath (bs s) = true) := Lib.hid (by unfold isPath; rw [hj, hq]; simp)
      have hb : ((str q).toList == s.toList) = true := by rw [Lib.toList_data, Lib.toList_data, hq, beq_iff_eq]; rfl
      clear hj hq
      go_enter Tryz.func20, Tryz.ntmps20
      go_wp2_with (go_at_call 56; refine (RJ_yes _ s _ q hs HN).mono ?_; rintro e w' ⟨rfl, hB2⟩)
      go_ret
      exact ⟨by rw [HE.out]; rfl, hB2⟩
    · have HE : Hid (isPath (bs s) = false) := Lib.hid (by unfold isPath; rw [hj]; simpa using hq)
      have hb : ((str q).toList == s.toList) = false := by rw [Lib.toList_data, Lib.toList_data, beq_eq_false_iff_ne]; exact hq
      clear hj hq
      go_enter Tryz.func20, Tryz.ntmps20
      go_wp2_with (go_at_call 56; refine (RJ_yes _ s _ q hs HN).mono ?_; rintro e w' ⟨rfl, hB2⟩)
      go_ret
      exact ⟨by rw [HE.out]; rfl, hB2⟩

/-! ### Get and Read -/
def RGetPost (w : World) (r : Option F) (e : Ending) (w' : World) : Prop :=
  e = .returned (.tuple #[fV (r.getD noF), .bool r.isSome]) ∧ Below w.heap.size w w'
end Go.Proofs.YtmmilnmlmgcobaaGreatDoor.Sw
