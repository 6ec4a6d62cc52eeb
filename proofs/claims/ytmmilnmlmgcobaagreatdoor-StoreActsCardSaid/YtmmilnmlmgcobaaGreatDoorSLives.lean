/-
  The chapter's example (flatironlaw03.lives), and the calls of no store.
-/
import Derived.Test.YtmmilnmlmgcobaaGreatDoorSNew
import Derived.Test.YtmmilnmlmgcobaaGreatDoorSMkdir
namespace Go.Proofs.YtmmilnmlmgcobaaGreatDoor.Sw
open Go.RowKit Go.Proofs.YtmmilnmlmgcobaaGreatDoor Go.Maps
set_option maxRecDepth 100000

theorem List_nil (w : World) (p : ByteArray) :
    Calls Tryz.prog 40 #[.pointer none, .string p] w fun e w' => e = .returned (.tuple #[.slice none 0 0, .int .i64 3]) ∧ Below w.heap.size w w' := by
  go_enter Tryz.func40, Tryz.ntmps40
  go_wp2_with fail
  refine (Get_nil _ p).mono ?_
  rintro e w1 ⟨rfl, B1⟩
  unfold fV
  go_wp2
  go_ret2
  exact ⟨rfl, B1.alloc B1.size _⟩
theorem Remove_nil (w : World) (p : ByteArray) (all : Bool) :
    Calls Tryz.prog 31 #[.pointer none, .string p, .bool all] w fun e w' => e = .returned (.int .i64 1) ∧ Below w.heap.size w w' := by
  go_enter Tryz.func31, Tryz.ntmps31
  go_wp2
  go_ret
  exact ⟨rfl, (Below.refl _ w).alloc (Nat.le_refl _) _⟩
theorem Move_nil (w : World) (p q : ByteArray) :
    Calls Tryz.prog 33 #[.pointer none, .string p, .string q] w fun e w' => e = .returned (.int .i64 3) ∧ Below w.heap.size w w' := by
  go_enter Tryz.func33, Tryz.ntmps33
  go_wp2_with fail
  refine (Read_nil _ p).mono ?_
  rintro e w1 ⟨rfl, B1⟩
  go_wp2
  go_ret
  exact ⟨rfl, B1⟩
theorem Clone_nil (w : World) :
    Calls Tryz.prog 7 #[.pointer none] w fun e w' => e = .returned (.pointer none) ∧ w = w' := by
  go_enter Tryz.func7, Tryz.ntmps7
  go_wp2
  go_ret
  exact ⟨rfl, rfl⟩

/-! ### the example -/
def ex0 : St := ⟨[], 0⟩
def ex1 : St := ⟨[⟨[97], [], 1, true⟩], 1⟩
def ex2 : St := ⟨[⟨[97], [], 1, true⟩, ⟨[97, 47, 120], [116], 2, false⟩], 2⟩
theorem ex_a : writeA ex0 [97, 47, 120] [116] false = (ex0, 3) := by kernel_rfl
theorem ex_b : mkdirA ex0 [97] false = (ex1, 0) := by kernel_rfl
theorem ex_c : writeA ex1 [97, 47, 120] [116] false = (ex2, 0) := by kernel_rfl
theorem ex_d : readA (getR ex2.L [97, 47, 120]) = ([116], 0) := by kernel_rfl
theorem fine0 : Fine ex0 := ⟨List.Pairwise.nil, by decide, by decide, by decide, (fun _ h => nomatch h), (fun _ h => nomatch h)⟩
theorem fine1 : Fine ex1 := ⟨by simp [ex1, Sp.Sorted], by decide, by decide, by decide, (fun f h => by simp [ex1] at h; subst h; decide), (fun f h => by simp [ex1] at h; subst h; decide)⟩

set_option maxHeartbeats 2000000 in
theorem lives_any (w : World) : Calls Tryz.prog 4 #[] w fun e w' => e = .returned (.bool true) ∧ Below w.heap.size w w' := by
  have hN := New_none w none 0
  unfold NewPost at hN
  rw [show newA [] = (ex0, 0) from rfl] at hN
  simp only [if_true] at hN
  have HN := Lib.hid hN
  clear hN
  go_enter Tryz.func4, Tryz.ntmps4
  go_wp2_with fail
  refine HN.out.mono ?_
  rintro e w1 ⟨sb, bm, rfl, hsb, hbm, hS1, hB1⟩
  have hc1 := Write_any w1 (s := ex0) ⟨#[97, 47, 120]⟩ ⟨#[116]⟩ false hS1 fine0 (by decide) (by decide)
  rw [show bs ⟨#[97, 47, 120]⟩ = [97, 47, 120] from rfl, show bs ⟨#[116]⟩ = [116] from rfl, ex_a] at hc1
  have HC1 := Lib.hid hc1
  clear hc1 HN
  go_wp2_with (go_at_call 13; go_must (refine HC1.out.mono ?_); rintro e w2 ⟨rfl, hS2, hK2⟩)
  have hc2 := Mkdir_any w2 (s := ex0) ⟨#[97]⟩ false hS2 fine0 (by decide)
  rw [show bs ⟨#[97]⟩ = [97] from rfl, ex_b] at hc2
  have HC2 := Lib.hid hc2
  clear hc2 HC1
  go_wp2_with (go_at_call 14; go_must (refine HC2.out.mono ?_); rintro e w3 ⟨rfl, hS3, hK3⟩)
  have hc3 := Write_any w3 (s := ex1) ⟨#[97, 47, 120]⟩ ⟨#[116]⟩ false hS3 fine1 (by decide) (by decide)
  rw [show bs ⟨#[97, 47, 120]⟩ = [97, 47, 120] from rfl, show bs ⟨#[116]⟩ = [116] from rfl, ex_c] at hc3
  have HC3 := Lib.hid hc3
  clear hc3 HC2
  go_wp2_with (go_at_call 13; go_must (refine HC3.out.mono ?_); rintro e w4 ⟨rfl, hS4, hK4⟩)
  have hc4 := Read_any w4 (L := ex2.L) (c := 2) ⟨#[97, 47, 120]⟩ _ hS4 (by decide) (Lib.hid rfl)
  rw [show bs ⟨#[97, 47, 120]⟩ = [97, 47, 120] from rfl, ex_d] at hc4
  have HC4 := Lib.hid hc4
  have ht : ((str [116]).toList == [116]) = true := by rw [Lib.toList_data]; rfl
  clear hc4 HC3
  go_wp2_with (first
    | (go_at_call 15; go_must (refine HC4.out.mono ?_); rintro e w5 ⟨rfl, hB5⟩)
    | (go_at_call 16; go_must (refine (Now_any _ sb 2 (hS4.below hB5).c0).mono ?_); rintro e w6 ⟨rfl, rfl⟩))
  go_ret
  refine ⟨rfl, ?_⟩
  have hK := ((hK2.trans hK3).trans hK4).below hB5
  exact hB1.trans (hK.to_below hB1.size (fun i hi => by simp at hi; omega))
end Go.Proofs.YtmmilnmlmgcobaaGreatDoor.Sw
