/-
  flatironlaw11: Of.
-/
import Derived.Laws.StructEq
import Derived.Deep.RegionHeld3
import Derived.Test.YtebagfadcjgllaaGreatDoorJTab
import Derived.Test.YtebagfadcjgllaaGreatDoorJSet2
namespace Go.Proofs.YtebagfadcjgllaaGreatDoor.Jw
open Go.RowKit Go.Proofs.YtebagfadcjgllaaGreatDoor Go.Proofs.YtebagfadcjgllaaGreatDoor.Ww Go.Proofs.YtebagfadcjgllaaGreatDoor.Tw Go.Proofs.YtebagfadcjgllaaGreatDoor.Kw
set_option maxRecDepth 100000

set_option maxHeartbeats 1000000 in
theorem Of_any (w : World) (v : Jp.V) : Calls Tryz.prog 11 #[.agg (vA v)] w fun e w' => e = .returned (.agg (vA v)) ∧ Below w.heap.size w w' := by
  have hb := heap_last w (.cells (vA v) PV)
  have B1 := (Below.refl (w.alloc (.cells (vA v) PV)).heap.size (w.alloc (.cells (vA v) PV))).alloc (Nat.le_refl _) (.cells zeroV VT)
  have hb2 := (B1.block _ (by simp)).trans hb
  have hr := heap_last (w.alloc (.cells (vA v) PV)) (.cells zeroV VT)
  rw [World.size_alloc] at hr
  have hB := ((Below.refl w.heap.size w).alloc (Nat.le_refl _) (.cells (vA v) PV)).alloc (by simp) (.cells zeroV VT)
  have c0 := cell_at (i := 0) hb2 rfl
  have c1 := cell_at (i := 1) hb2 rfl
  have c2 := cell_at (i := 2) hb2 rfl
  have c3 := cell_at (i := 3) hb2 rfl
  have HR := Lib.hid hr
  have HB := Lib.hid hB
  clear hb B1 hb2 hr hB
  unfold vA at *
  go_enter Tryz.func11, Tryz.ntmps11
  go_wp2_with (refine wpList_store_row rfl VT _ _ rfl (w.heap.size + 1) #[.string (str v.n), .string (str v.x), .bool v.s, .int .i64 v.f] rfl rfl VT zeroV HR.out sizeV rfl (one_v v) ?_)
  (try simp only [Exit.inBlock, Exit.then])
  refine bodyPost_ret (results_one Tryz.results11 _ _ (w.heap.size + 1) VT #[.string (str v.n), .string (str v.x), .bool v.s, .int .i64 v.f] (0, 0) _ rfl (setRow_heap _ _ _ _ _ _ HR.out) undV rfl sizeV) rfl ?_
  exact ⟨rfl, below_setRow HB.out (by omega) _⟩
end Go.Proofs.YtebagfadcjgllaaGreatDoor.Jw
