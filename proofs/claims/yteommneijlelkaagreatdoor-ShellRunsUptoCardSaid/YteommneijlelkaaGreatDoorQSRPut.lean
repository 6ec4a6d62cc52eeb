/-
  The reference's put and may.
-/
import Derived.Test.YteommneijlelkaaGreatDoorQSRSet2
import Derived.Test.YteommneijlelkaaGreatDoorQSPut
namespace Go.Proofs.YteommneijlelkaaGreatDoor.Sw
open Go.RowKit Go.Proofs.YteommneijlelkaaGreatDoor Go.Maps
set_option maxRecDepth 100000

/-- What a call of the reference leaves: a store's list, its clock, an error's number. -/
def RPost (w : World) (v0 : Value) (r : St × Int) (e : Ending) (w' : World) : Prop :=
  ∃ v, e = .returned (.tuple #[.agg #[v, .int .i64 r.1.c], .int .i64 r.2]) ∧ RFiles w' v r.1.L ∧ (v = v0 ∨ ∀ b, v.ownBlock = some b → w.heap.size ≤ b) ∧ Below w.heap.size w w'
theorem RFiles.setCell {w : World} {v : Value} {L : List F} (h : RFiles w v L) (a i : Nat) (u : Value) (hq : ∀ b, v.ownBlock = some b → b ≠ a) : RFiles (w.setCell ⟨a, i, none⟩ u) v L := by
  rcases h with h | ⟨h0, b, cp, rfl, h2, h3, h4⟩
  · exact .inl h
  · refine .inr ⟨h0, b, cp, rfl, h2, by simpa [World.setCell] using h3, fun j u' hj => ?_⟩
    rw [World.cell?_setCell_other _ _ _ _ (by intro e; exact hq b rfl (congrArg Addr.block e).symm)]
    exact h4 j u' hj
theorem RFiles.lt {w : World} {v : Value} {L : List F} (h : RFiles w v L) : ∀ b, v.ownBlock = some b → b < w.heap.size := by
  intro b hb
  rcases h with ⟨_, rfl⟩ | ⟨_, b', cp, rfl, _, h3, _⟩
  · cases hb
  · cases hb; exact h3

theorem RFiles.one {w : World} {v : Value} {L : List F} (h : RFiles w v L) : v.oneCell' = true := by
  rcases h with ⟨_, rfl⟩ | ⟨_, b, cp, rfl, _⟩ <;> rfl
theorem RFiles.shape {w : World} {v : Value} {L : List F} (h : RFiles w v L) : ∃ a n cp, v = .slice a n cp := by
  rcases h with ⟨_, rfl⟩ | ⟨_, b, cp, rfl, _⟩ <;> exact ⟨_, _, _, rfl⟩

theorem later3 {w w1 : World} {o1 o2 o3 : Obj} (B : Below (((w.alloc o1).alloc o2).alloc o3).heap.size (((w.alloc o1).alloc o2).alloc o3) w1) :
    w1.heap[w.heap.size]? = some o1 ∧ w1.heap[w.heap.size + 1]? = some o2 ∧ w1.heap[w.heap.size + 1 + 1]? = some o3 := by
  have hz1 : (w.alloc o1).heap.size = w.heap.size + 1 := by simp
  have hz2 : ((w.alloc o1).alloc o2).heap.size = w.heap.size + 1 + 1 := by simp
  refine ⟨?_, ?_, ?_⟩
  · exact (B.block w.heap.size (by simp; omega)).trans ((Below.heap_alloc _ _ _ (by simp; omega)).trans ((Below.heap_alloc _ _ _ (by simp)).trans (heap_new _ _ rfl)))
  · exact (B.block (w.heap.size + 1) (by simp)).trans ((Below.heap_alloc _ _ _ (by simp)).trans (heap_new _ _ hz1))
  · exact (B.block (w.heap.size + 1 + 1) (by simp)).trans (heap_new _ _ hz2)

set_option maxHeartbeats 1000000 in
theorem RPut_late (w : World) (v : Value) (c : Int) (L : List F) (p t : ByteArray) (tm : Int) (d : Bool) (h : RFiles w v L) (c0 : 0 ≤ c) (c1 : c < 4611686018427387904) (hc : 4611686018427387904 ≤ c + 1) :
    Calls Tryz.prog 103 #[.agg #[v, .int .i64 c], .agg #[.string p, .string t, .int .i64 tm, .bool d]] w (RPost w v (⟨L, c⟩, 5)) := by
  obtain ⟨a, n, cp, rfl⟩ := h.shape
  have hw : IntKind.i64.wrap (c + 1) = c + 1 := IntWalk.i64_in _ (by omega)
  go_enter Tryz.func103, Tryz.ntmps103
  have hBa := fun x y z => (((Below.refl w.heap.size w).alloc (Nat.le_refl _) x).alloc (by simp) y).alloc (by simp; omega) z
  go_wp2
  exact bodyPost_ret (v := .tuple #[.agg #[.slice a n cp, .int .i64 c], .int .i64 5]) (by simp [results, Tryz.results103, go_sem]) rfl ⟨_, rfl, h.below (hBa _ _ _), .inl rfl, hBa _ _ _⟩

set_option maxHeartbeats 1000000 in
theorem RPut_ok (w : World) (v : Value) (c : Int) (L : List F) (f : F) (hl : L.length ≤ 100000) (h : RFiles w v L) (c0 : 0 ≤ c) (c1 : c + 1 < 4611686018427387904) :
    Calls Tryz.prog 103 #[.agg #[v, .int .i64 c], .agg #[.string (str f.p), .string (str f.t), .int .i64 f.c, .bool f.d]] w (RPost w v (⟨Sp.ins L ⟨f.p, f.t, c + 1, f.d⟩, c + 1⟩, 0)) := by
  obtain ⟨a, n, cp, rfl⟩ := h.shape
  have hw : IntKind.i64.wrap (c + 1) = c + 1 := IntWalk.i64_in _ (by omega)
  have hBa := fun x y z => (((Below.refl w.heap.size w).alloc (Nat.le_refl _) x).alloc (by simp) y).alloc (by simp; omega) z
  go_enter Tryz.func103, Tryz.ntmps103
  go_wp2_with fail
  refine (set_any _ _ c L ⟨f.p, f.t, c + 1, f.d⟩ hl (h.below (hBa _ _ _))).mono ?_
  rintro e w1 ⟨v, rfl, ho, B1⟩
  obtain ⟨H0, H1, H2⟩ := later3 B1
  have hB := (hBa _ _ _).trans (B1.mono (by simp; omega))
  have hsz : w.heap.size + 3 ≤ w1.heap.size := by have := B1.size; simp at this; omega
  replace ho := owns_low ho (b' := w.heap.size + 3) (by simp)
  clear B1 h hBa
  have m0 : w1.cell? ⟨w.heap.size, 0, none⟩ = some (.slice a n cp) := cell_at H0 rfl
  have m1 : w1.cell? ⟨w.heap.size, 1, none⟩ = some (.int .i64 c) := cell_at H0 rfl
  have z0 := frozen_at H0 0
  have z1 := frozen_at H0 1
  have f2 : w1.cell? ⟨w.heap.size + 1, 2, none⟩ = some (.int .i64 (c + 1)) := cell_at H1 rfl
  have r0 : w1.cell? ⟨w.heap.size + 1 + 1, 0, none⟩ = some (.slice none 0 0) := cell_at H2 rfl
  have r1 : w1.cell? ⟨w.heap.size + 1 + 1, 1, none⟩ = some (.int .i64 0) := cell_at H2 rfl
  have y0 := frozen_at H2 0
  have y1 := frozen_at H2 1
  clear H0 H1 H2
  obtain ⟨a3, c3, rfl⟩ := owns_slice ho
  have q0 : w.heap.size < w1.heap.size := by omega
  have q1 : w.heap.size + 1 < w1.heap.size := by omega
  have q2 : w.heap.size + 1 + 1 < w1.heap.size := by omega
  have hMne := ins_ne L ⟨f.p, f.t, c + 1, f.d⟩
  generalize Sp.ins L ⟨f.p, f.t, c + 1, f.d⟩ = M at *
  have y1 : (w1.setCell ⟨w.heap.size, 0, none⟩ (.slice a3 M.length c3)).cell? ⟨w.heap.size, 1, none⟩ = some (.int .i64 c) := (World.cell?_setCell_other w1 ⟨w.heap.size, 0, none⟩ ⟨w.heap.size, 1, none⟩ _ (by simp)).trans m1
  have y2 := World.cell?_setCell_same _ _ (.int .i64 c) y1
  have x1 : (((w1.setCell ⟨w.heap.size, 0, none⟩ (.slice a3 M.length c3)).setCell ⟨w.heap.size, 1, none⟩ (.int .i64 c)).setCell ⟨w.heap.size, 1, none⟩ (.int .i64 (c + 1))).cell? ⟨w.heap.size, 1, none⟩ = some (.int .i64 (c + 1)) :=
    World.cell?_setCell_same _ _ _ y2
  clear y1 y2
  have o5 := owns_kept_cell (owns_kept_cell (owns_kept_cell (owns_kept_cell (owns_kept_cell ho (a := w.heap.size) (by omega) 0 (.slice a3 M.length c3)) (a := w.heap.size) (by omega) 1 (.int .i64 c)) (a := w.heap.size) (by omega) 1 (.int .i64 (c + 1))) (a := w.heap.size + 1 + 1) (by omega) 0 (.slice a3 M.length c3)) (a := w.heap.size + 1 + 1) (by omega) 1 (.int .i64 (c + 1))
  have B5 := ((((hB.setCell (p := ⟨w.heap.size, 0, none⟩) (by simp) (.slice a3 M.length c3)).setCell (p := ⟨w.heap.size, 1, none⟩) (by simp) (.int .i64 c)).setCell (p := ⟨w.heap.size, 1, none⟩) (by simp) (.int .i64 (c + 1))).setCell (p := ⟨w.heap.size + 1 + 1, 0, none⟩) (by simp; omega) (.slice a3 M.length c3)).setCell (p := ⟨w.heap.size + 1 + 1, 1, none⟩) (by simp; omega) (.int .i64 (c + 1))
  go_wp2
  exact bodyPost_ret (v := .tuple #[.agg #[.slice a3 M.length c3, .int .i64 (c + 1)], .int .i64 0]) (by simp [results, Tryz.results103, go_sem, r0, r1]) rfl ⟨_, rfl, RFiles.of_own o5 (fun e => (hMne e).elim), .inr (fun b hb => by have := (o5.lt b hb).1; omega), B5⟩

theorem RPut_any (w : World) (v : Value) (s : St) (p t : ByteArray) (tm : Int) (d : Bool) (hl : s.L.length ≤ 100000) (h : RFiles w v s.L) (c0 : 0 ≤ s.c) (c1 : s.c < 4611686018427387904) :
    Calls Tryz.prog 103 #[.agg #[v, .int .i64 s.c], .agg #[.string p, .string t, .int .i64 tm, .bool d]] w (RPost w v (putA s ⟨bs p, bs t, tm, d⟩)) := by
  unfold putA
  by_cases hc : 4611686018427387904 ≤ s.c + 1
  · rw [if_pos hc]
    exact RPut_late w v s.c s.L p t tm d h c0 c1 hc
  · rw [if_neg hc]
    have := RPut_ok w v s.c s.L ⟨bs p, bs t, tm, d⟩ hl h c0 (by omega)
    simpa only [str_bs] using this
end Go.Proofs.YteommneijlelkaaGreatDoor.Sw
