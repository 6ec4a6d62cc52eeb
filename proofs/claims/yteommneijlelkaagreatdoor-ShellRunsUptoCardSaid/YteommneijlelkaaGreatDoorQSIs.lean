/-
  flatironlaw03.Is: a store is as the reference's.
-/
import Derived.Test.YteommneijlelkaaGreatDoorQSRRemove2
import Derived.Test.YteommneijlelkaaGreatDoorQSEqual
namespace Go.Proofs.YteommneijlelkaaGreatDoor.Sw
open Go.RowKit Go.Proofs.YteommneijlelkaaGreatDoor Go.Maps
set_option maxRecDepth 100000

theorem RFiles.kept {X : List Nat} {w w' : World} {v : Value} {L : List F} (h : RFiles w v L) (hk : Kept X w w') (hv : ∀ b, v.ownBlock = some b → b ∉ X) : RFiles w' v L := by
  rcases h with h | ⟨h0, b, cp, rfl, h2, h3, h4⟩
  · exact .inl h
  · exact .inr ⟨h0, b, cp, rfl, h2, Nat.lt_of_lt_of_le h3 hk.size, fun j u hj => (hk.cell (p := ⟨b, j, none⟩) h3 (hv b rfl)).trans (h4 j u hj)⟩

theorem RFiles.own_lt {w : World} {v : Value} {L : List F} (h : RFiles w v L) : ∀ b, v.ownBlock = some b → b < w.heap.size := fun b hb => by
  rcases h with ⟨_, rfl⟩ | ⟨h0, b', cp, rfl, h2, h3, h4⟩
  · cases hb
  · cases hb; exact h3

set_option maxHeartbeats 4000000 in
theorem Is_any (w : World) {sb bm : Nat} {v : Value} {L : List F} {c : Int} (hS : StoreAt w sb bm L c) (hR : RFiles w v L) (hl : L.length ≤ 100000) :
    Calls Tryz.prog 11 #[.pointer (some ⟨sb, 0, none⟩), .agg #[v, .int .i64 c]] w fun e w' => e = .returned (.bool true) ∧ Below w.heap.size w w' := by
  obtain ⟨a, m, cp, rfl⟩ := hR.shape
  have hB0 := (Below.refl w.heap.size w).alloc (Nat.le_refl _) (.cells #[.slice a m cp, .int .i64 c] TS)
  have hbox := heap_new w (.cells #[.slice a m cp, .int .i64 c] TS) rfl
  have HS := Lib.hid fun (W : World) (hB : Below w.heap.size w W) => All_any W (hS.below hB) (by omega)
  have HN := Lib.hid fun (W : World) (hB : Below w.heap.size w W) => Now_any W sb c (hS.below hB).c0
  have HR := Lib.hid fun (W : World) (hB : Below w.heap.size w W) => (hR.below hB).files
  have hlt0 : w.heap.size < (w.alloc (.cells #[.slice a m cp, .int .i64 c] TS)).heap.size := by simp
  go_enter Tryz.func11, Tryz.ntmps11
  go_wp2_with fail
  generalize w.alloc (.cells #[.slice a m cp, .int .i64 c] TS) = w1 at *
  have HW : Hid (∀ W, Below w1.heap.size w1 W → (W.cell? ⟨w.heap.size, 0, none⟩ = some (.slice a m cp) ∧ W.cell? ⟨w.heap.size, 1, none⟩ = some (.int .i64 c))) := Lib.hid fun W hB => ⟨cell_at ((hB.block w.heap.size hlt0).trans hbox) rfl, cell_at ((hB.block w.heap.size hlt0).trans hbox) rfl⟩
  have e1 := (HW.out w1 (Below.refl _ _)).1
  have e2 := (HW.out w1 (Below.refl _ _)).2
  have D0 : Below w1.heap.size w1 w1.drew := (Below.refl _ _).drew
  have C0 := hB0.trans (D0.mono hB0.size)
  clear hS hR hbox
  go_region_held3 (fun w' => w'.cell? ⟨w.heap.size, 0, none⟩ = some (.slice a m cp) ∧ w'.cell? ⟨w.heap.size, 1, none⟩ = some (.int .i64 c))
    (first | go_keep | exact HW.out _ D0 | exact HW.out _ D1 | exact HW.out _ D2)
    (first
      | (go_at_call 30; refine (HN.out _ C2).mono ?_; rintro e wc ⟨rfl, rfl⟩)
      | (go_at_call 28; refine (EqualF_any _ _ _ L hF1 (HR.out _ C1) hl).mono ?_; rintro e wb ⟨rfl, Bb⟩; have D2 := D1.trans (Bb.mono D1.size); have C2 := C1.trans (Bb.mono C1.size))
      | (go_at_call 29; refine (HS.out _ C0).mono ?_; rintro e wa ⟨v1, rfl, hF1, ⟨a1, c1, hv1⟩, Ba⟩; subst hv1; have D1 := D0.trans Ba; have C1 := C0.trans (Ba.mono C0.size)))
  all_goals go_wp2_with fail
  all_goals go_ret
  all_goals exact ⟨rfl, by first | exact C2 | exact C1⟩
end Go.Proofs.YteommneijlelkaaGreatDoor.Sw
