/-
  The law of layer 3 on no store, and on a file that can't be written any more: for every two strings it returns true.
-/
import Derived.Test.YtdnggbjekahkcaaGreatDoorSLives
namespace Go.Proofs.YtdnggbjekahkcaaGreatDoor.Sw
open Go.RowKit Go.Proofs.YtdnggbjekahkcaaGreatDoor Go.Maps
set_option maxRecDepth 100000

def late : F := ⟨[120], [], 4611686018427387903, false⟩
def lateS : St := ⟨[late], 4611686018427387903⟩
theorem late_new : newA [late] = (lateS, 0) := by kernel_rfl
theorem late_fine : Fine lateS := ⟨by simp [lateS, Sp.Sorted], by decide, by decide, by decide, (fun f h => by simp [lateS] at h; subst h; decide), (fun f h => by simp [lateS] at h; subst h; decide)⟩
theorem late_write (t : List UInt8) (h : t.length ≤ 1000) : writeA lateS [121] t false = (lateS, 5) := by
  have h1 : placeA lateS.L [121] = 0 := by kernel_rfl
  rw [writeA_ok h1]
  have h2 : Sp.get lateS.L [121] = none := by rfl
  rw [h2]
  show (if 1048576 < ([] : List UInt8).length + t.length then (lateS, (12 : Int)) else putA lateS ⟨[121], [] ++ t, 0, false⟩) = _
  rw [if_neg (by simp; omega)]
  rfl
theorem late_touch : touchA lateS [120] = (lateS, 5) := by kernel_rfl

theorem given_one (w : World) : Given (w.alloc (.cells #[.string ⟨#[120]⟩, .string ⟨#[]⟩, .int .i64 4611686018427387903, .bool false] 26)) w.heap.size 0 1 [late] := by
  refine ⟨by simp, fun j f hf => ?_, fun f h => by simp at h; subst h; decide, by decide⟩
  cases j with
  | zero =>
    cases hf
    exact file_new w [120] [] 4611686018427387903 false
  | succ j => simp at hf

set_option maxHeartbeats 4000000 in
theorem StoreNil_any (w : World) (p q : ByteArray) (hp : p.size ≤ 140737488355328) (hq : q.size ≤ 140737488355328) :
    Calls Tryz.prog 4 #[.string p, .string q] w fun e w' => e = .returned (.bool true) ∧ Below w.heap.size w w' := by
  by_cases hbig : 1000 < p.size + q.size
  · go_enter Tryz.func4, Tryz.ntmps4
    go_wp2_with fail
    refine (lives_any w).mono ?_
    rintro e w1 ⟨rfl, B1⟩
    have hl := Lib.hid (lives_any w1)
    go_wp2_with (go_at_call 5; go_must (refine hl.out.mono ?_); rintro e w2 ⟨rfl, B2⟩)
    go_ret
    exact ⟨rfl, B1.trans (B2.mono B1.size)⟩
  · go_enter Tryz.func4, Tryz.ntmps4
    go_wp2_with fail
    refine (lives_any w).mono ?_
    rintro e w1 ⟨rfl, B1⟩
    go_wp2_with fail
    refine (Get_nil _ p).mono ?_
    rintro e w2 ⟨rfl, B2⟩
    have B12 := B1.trans (B2.mono B1.size)
    clear B1 B2
    unfold fV
    go_wp2_with (go_at_call 15; go_must (refine (Read_nil _ p).mono ?_); rintro e w3 ⟨rfl, B3⟩)
    have B13 := (B12.alloc B12.size _).trans (B3.mono (by have := B12.size; simp; omega))
    clear B12 B3
    go_wp2_with (go_at_call 16; go_must (refine (List_nil _ p).mono ?_); rintro e w4 ⟨rfl, B4⟩)
    have B14 := B13.trans (B4.mono B13.size)
    clear B13 B4
    go_wp2_with (go_at_call 17; go_must (refine (Write_nil _ p q false).mono ?_); rintro e w5 ⟨rfl, rfl⟩)
    go_wp2_with (go_at_call 18; go_must (refine (Touch_nil _ p).mono ?_); rintro e w5 ⟨rfl, B5⟩)
    have B15 := B14.trans (B5.mono B14.size)
    clear B14 B5
    go_wp2_with (go_at_call 19; go_must (refine (Mkdir_nil _ p true).mono ?_); rintro e w6 ⟨rfl, rfl⟩)
    go_wp2_with (go_at_call 20; go_must (refine (Remove_nil _ p true).mono ?_); rintro e w6 ⟨rfl, B6⟩)
    have B16 := B15.trans (B6.mono B15.size)
    clear B15 B6
    go_wp2_with (go_at_call 21; go_must (refine (Move_nil _ p q).mono ?_); rintro e w7 ⟨rfl, B7⟩)
    have B17 := B16.trans (B7.mono B16.size)
    clear B16 B7
    go_wp2_with (first
      | (go_at_call 8; go_must (refine (Clone_nil _).mono ?_); rintro e w8 ⟨rfl, rfl⟩)
      | (go_at_call 22; go_must (refine (Now_nil _).mono ?_); rintro e w8 ⟨rfl, rfl⟩)
      | (go_at_call 23; go_must (refine (All_nil _).mono ?_); rintro e w8 ⟨rfl, rfl⟩))
    have hN := New_some _ w7.heap.size 0 1 [late] (given_one w7)
    rw [late_new] at hN
    unfold NewPost at hN
    simp only [if_true] at hN
    change Calls Tryz.prog 6 #[.slice (some ⟨w7.heap.size, 0, none⟩) 1 1] _ _ at hN
    refine hN.mono ?_
    rintro e w8 ⟨sb, bm, rfl, hsb, hbm, hS, hB8⟩
    clear hN
    have B18 : Below w.heap.size w w8 := (B17.alloc B17.size _).trans (hB8.mono (by have := B17.size; simp; omega))
    have hB9 := B17.size
    simp only [World.size_alloc] at hsb hbm
    clear B17 hB8
    have hqs : q.size ≤ 1000 := by omega
    have hc1 := Write_any w8 (s := lateS) ⟨#[121]⟩ q false hS late_fine (by decide) (by omega)
    rw [show bs ⟨#[121]⟩ = [121] from rfl, late_write (bs q) (by rw [bs_len]; exact hqs)] at hc1
    have HC1 := Lib.hid hc1
    clear hc1
    go_wp2_with (go_at_call 17; go_must (refine HC1.out.mono ?_); rintro e w9 ⟨rfl, hS2, hK2⟩)
    have hc2 := Touch_any w9 (s := lateS) ⟨#[120]⟩ hS2 late_fine (by decide) (fun f hf => by
      have h1 : getR lateS.L [120] = some late := by rfl
      have h2 : getR lateS.L [120] = some f := hf
      rw [h1] at h2; cases h2; rfl)
    rw [show bs ⟨#[120]⟩ = [120] from rfl, late_touch] at hc2
    have HC2 := Lib.hid hc2
    clear hc2 HC1
    go_wp2_with (go_at_call 18; go_must (refine HC2.out.mono ?_); rintro e w10 ⟨rfl, hS3, hK3⟩)
    have HC3 := Lib.hid (All_any w10 (L := [late]) hS3 (by decide))
    clear HC2
    go_wp2_with (go_at_call 23; go_must (refine HC3.out.mono ?_); rintro e w11 ⟨v, rfl, _, ⟨a, c, rfl⟩, hB11⟩)
    go_ret
    refine ⟨rfl, ?_⟩
    have hK := (hK2.trans hK3).below hB11
    exact B18.trans (hK.to_below B18.size (fun i hi => by simp at hi; omega))
end Go.Proofs.YtdnggbjekahkcaaGreatDoor.Sw
