/-
  (*Store).Clone: a store of its own with the same files and the same clock.
-/
import Derived.Shelf.SlMaps.Clone
import Derived.Test.YtmmilnmlmgcobaaGreatDoorShelf
import Derived.Test.YtmmilnmlmgcobaaGreatDoorSAdd
namespace Go.Proofs.YtmmilnmlmgcobaaGreatDoor.Sw
open Go.RowKit Go.Proofs.YtmmilnmlmgcobaaGreatDoor Go.Maps Go.Shelf
set_option maxRecDepth 100000

theorem mapClone_any (w : World) {bm : Nat} {L : List F} (hM : MapAt w bm L) :
    Calls Tryz.prog 24 #[.map (some bm)] w fun e w' => ∃ b2, e = .returned (.map (some b2)) ∧ w.heap.size ≤ b2 ∧ MapAt w' b2 L ∧ Below w.heap.size w w' := by
  refine (AnyW.maps_Clone_owns Tryz.laysClone 9 fElem bm _ _ w hM.own).mono ?_
  rintro e w' ⟨he, h1, _, h3⟩
  exact ⟨_, he, Nat.le_refl _, ⟨h1, hM.sorted⟩, h3⟩

set_option maxHeartbeats 1000000 in
theorem Clone_any (w : World) {sb bm : Nat} {L : List F} {c : Int} (hS : StoreAt w sb bm L c) :
    Calls Tryz.prog 7 #[.pointer (some ⟨sb, 0, none⟩)] w fun e w' => ∃ sb2 bm2, e = .returned (.pointer (some ⟨sb2, 0, none⟩)) ∧ w.heap.size ≤ sb2 ∧ w.heap.size ≤ bm2 ∧ StoreAt w' sb2 bm2 L c ∧ Below w.heap.size w w' := by
  have c1 := hS.c1
  have hlt := hS.lt
  have hM := hS.map
  go_enter Tryz.func7, Tryz.ntmps7
  go_wp2_with fail
  refine (mapClone_any w hM).mono ?_
  rintro e w1 ⟨b2, rfl, hb2, hM2, hB1⟩
  have hS1 := hS.below hB1
  have hne : b2 ≠ w1.heap.size := by have := hM2.lt; omega
  go_wp2_with fail
  have hS3 := hS1.alloc (.cells #[.int .i64 0, .map (some b2)] 57)
  have hM3 := hM2.alloc (.cells #[.int .i64 0, .map (some b2)] 57)
  have hB3 := hB1.alloc hB1.size (.cells #[.int .i64 0, .map (some b2)] 57)
  have hC3 := World.alloc_heap_new w1 (.cells #[.int .i64 0, .map (some b2)] 57)
  have hsz := hB1.size
  generalize hgb : w1.heap.size = nb at *
  clear hgb
  generalize w1.alloc (.cells #[.int .i64 0, .map (some b2)] 57) = W at *
  have c0 := hS3.c0
  clear hS hM c1 hM2 hB1 hS1
  refine wp_region_still_tail 7 (by kernel_rfl) (by kernel_rfl) ?_
  simp only [List.take_succ_cons, List.take_zero, List.drop_succ_cons, List.drop_zero]
  repeat still_step
  have hcall : Calls Tryz.prog 26 #[.pointer (some ⟨sb, 0, none⟩)] ⟨W.heap, W.tape, W.drawn + 1, W.os, W.output⟩ (fun e w'' => e = .returned (.int .i64 c) ∧ w'' = ⟨W.heap, W.tape, W.drawn + 1, W.os, W.output⟩) :=
    (Load_any ⟨W.heap, W.tape, W.drawn + 1, W.os, W.output⟩ sb 0 c c0).mono fun e w' ⟨a, b⟩ => ⟨a, b.symm⟩
  still_call hcall
  clear hcall
  repeat still_step
  refine wpStill_nil ?_
  change wpList _ _ _ _ _ W.drew
  have c0d : W.drew.cell? ⟨nb, 0, none⟩ = some (.int .i64 0) := by
    show W.cell? _ = _
    simp [World.cell?, hC3]
  have f0d : W.drew.frozen? ⟨nb, 0, none⟩ = false := frozen_two (w := W.drew) hC3
  have hC4 := set_two (w := W.drew) hC3 (.int .i64 c)
  have hM4 := (hM3.block (w' := W.drew) rfl).setCell (p := ⟨nb, 0, none⟩) hne (.int .i64 c)
  have hB4 := (hB3.drew).setCell (p := ⟨nb, 0, none⟩) hsz (.int .i64 c)
  clear c0 hC3 hM3 hB3 hS3
  generalize W.drew = W4 at *
  go_wp2_with (go_at_call 25; go_must (refine (Stor_any _ nb 0 0 _ c0d f0d).mono ?_); rintro e w4 ⟨rfl, rfl⟩)
  go_ret
  exact ⟨nb, b2, rfl, hsz, hb2, ⟨hC4, hM4⟩, hB4⟩
end Go.Proofs.YtmmilnmlmgcobaaGreatDoor.Sw
