/-
  (*parse.Command).take: a word or a redirection more.
-/
import Derived.Test.YtlkcpegjkmfngaaDoorPCut
namespace Go.Proofs.YtlkcpegjkmfngaaDoor.Px
open Go.RowKit Go.Proofs.YtlkcpegjkmfngaaDoor Go.Proofs.YtlkcpegjkmfngaaDoor.Lx
set_option maxRecDepth 100000

/-- A command that is being made: its box at block b, its rows above. -/
structure CAt (w : World) (b lo : Nat) (T TG : TypeId) (c : Pp.C) (vw vt : Value) : Prop where
  box : w.heap[b]? = some (.cells #[.int .i64 c.on, vw, vt] T (0, 0))
  rw_ : w.ownsRow lo SS 1 vw c.ws.length (strsC c.ws)
  rt : w.ownsRow lo TG 2 vt c.to.length (tgsC c.to)
theorem own_keep {w w' : World} {base : Nat} {e : TypeId} {z : Nat} {v : Value} {n : Nat} {xs : List Value} (h : w.ownsRow base e z v n xs) (hv : ∀ b, v.ownBlock = some b → w'.heap[b]? = w.heap[b]?) : w'.ownsRow base e z v n xs := by
  refine ⟨h.1, ?_⟩
  rcases h.2 with h | ⟨g, cap, cur, rfl, h2, h3, h4⟩
  · exact .inl h
  · exact .inr ⟨g, cap, cur, rfl, h2, (hv g rfl).trans h3, h4⟩
/-- Rows of elements of two types are two. -/
theorem own_apart {w : World} {lo lo' : Nat} {e e' : TypeId} {z z' n n' : Nat} {v v' : Value} {xs ys : List Value} (h : w.ownsRow lo e z v n xs) (h' : w.ownsRow lo' e' z' v' n' ys) (he : e ≠ e') : ∀ b, v.ownBlock = some b → v'.ownBlock ≠ some b := by
  intro b hb hb'
  rcases h.2 with ⟨rfl, _⟩ | ⟨g, cap, cur, rfl, _, h3, _⟩
  · cases hb
  · rcases h'.2 with ⟨rfl, _⟩ | ⟨g', cap', cur', rfl, _, h3', _⟩
    · cases hb'
    · cases hb
      cases hb'
      rw [h3] at h3'
      cases h3'
      exact he rfl
section
variable {w w' : World} {b lo : Nat} {T TG : TypeId} {c : Pp.C} {vw vt : Value}
theorem CAt.lt (h : CAt w b lo T TG c vw vt) : b < w.heap.size := (Array.getElem?_eq_some_iff.1 h.box).1
theorem CAt.below (h : CAt w b lo T TG c vw vt) (hb : Below w.heap.size w w') : CAt w' b lo T TG c vw vt :=
  ⟨(hb.block b h.lt).trans h.box, owns_below h.rw_ hb, owns_below h.rt hb⟩
theorem CAt.alloc (h : CAt w b lo T TG c vw vt) (o : Obj) : CAt (w.alloc o) b lo T TG c vw vt := h.below ((Below.refl _ _).alloc (Nat.le_refl _) o)
theorem CAt.drew (h : CAt w b lo T TG c vw vt) : CAt w.drew b lo T TG c vw vt := h.below (Below.refl _ w).drew
theorem CAt.cells (h : CAt w b lo T TG c vw vt) : w.cell? ⟨b, 0, none⟩ = some (.int .i64 c.on) ∧ w.cell? ⟨b, 1, none⟩ = some vw ∧ w.cell? ⟨b, 2, none⟩ = some vt ∧ ∀ i, w.frozen? ⟨b, i, none⟩ = false :=
  ⟨cell_at h.box rfl, cell_at h.box rfl, cell_at h.box rfl, fun i => frozen_at h.box i⟩
/-- A row of the box has grown: what is known in that world. -/
structure Grown (w w' : World) (b : Nat) (c0 vw vt : Value) : Prop where
  below : Below b w w'
  box : ∃ T, w'.heap[b]? = some (.cells #[c0, vw, vt] T (0, 0))
theorem Grown.cells {c0 : Value} (h : Grown w w' b c0 vw vt) : w'.cell? ⟨b, 0, none⟩ = some c0 ∧ w'.cell? ⟨b, 1, none⟩ = some vw ∧ w'.cell? ⟨b, 2, none⟩ = some vt ∧ (∀ i, w'.frozen? ⟨b, i, none⟩ = false) ∧ b < w'.heap.size := by
  obtain ⟨T, H⟩ := h.box
  exact ⟨cell_at H rfl, cell_at H rfl, cell_at H rfl, fun i => frozen_at H i, (Array.getElem?_eq_some_iff.1 H).1⟩
theorem setCell_keep (w : World) (b i : Nat) (v : Value) {k : Nat} (h : k ≠ b) : (w.setCell ⟨b, i, none⟩ v).heap[k]? = w.heap[k]? := heap_setCell_other w ⟨b, i, none⟩ k v (fun e => h e)
/-- A word more. -/
theorem CAt.word (h : CAt w b lo T TG c vw vt) (hlo : b < lo) (hTG : SS ≠ TG) {nw : Value} {s : Bs} (ho : w'.ownsRow lo SS 1 nw (c.ws.length + 1) (strsC c.ws ++ [.string (str s)])) (hg : w.grownBy w' vw.ownBlock) :
    Grown w w' b (.int .i64 c.on) vw vt ∧ CAt (w'.setCell ⟨b, 1, none⟩ nw) b lo T TG (c.word s) nw vt ∧ Below b w (w'.setCell ⟨b, 1, none⟩ nw) := by
  have hbox : w'.heap[b]? = some (.cells #[.int .i64 c.on, vw, vt] T (0, 0)) := by
    refine (hg.block b h.lt fun e => ?_).trans h.box
    have := (h.rw_.lt b e.symm).1
    omega
  have hB : Below b w w' := (Below.refl b w).grown hg (by have := h.lt; omega) fun j e => by have := (h.rw_.lt j e).1; omega
  refine ⟨⟨hB, T, hbox⟩, ⟨?_, ?_, ?_⟩, hB.setCell (Nat.le_refl _) _⟩
  · rw [heap_set3 hbox]; rfl
  · show World.ownsRow _ _ _ _ _ (c.ws ++ [s]).length (strsC (c.ws ++ [s]))
    rw [List.length_append, strsC_snoc]
    exact owns_kept_cell ho hlo 1 _
  · refine own_keep h.rt fun g hg' => ?_
    have h1 := h.rt.lt g hg'
    rw [setCell_keep _ _ _ _ (by omega)]
    exact hg.block g h1.2 fun e => own_apart h.rw_ h.rt hTG g e.symm hg'
/-- A redirection more. -/
theorem CAt.redir (h : CAt w b lo T TG c vw vt) (hlo : b < lo) (hTG : SS ≠ TG) {nt : Value} {k : Int} {p : Bs} (ho : w'.ownsRow lo TG 2 nt (c.to.length + 1) (tgsC c.to ++ [.int .i64 k, .string (str p)])) (hg : w.grownBy w' vt.ownBlock) :
    Grown w w' b (.int .i64 c.on) vw vt ∧ CAt (w'.setCell ⟨b, 2, none⟩ nt) b lo T TG (c.redir k p) vw nt ∧ Below b w (w'.setCell ⟨b, 2, none⟩ nt) := by
  have hbox : w'.heap[b]? = some (.cells #[.int .i64 c.on, vw, vt] T (0, 0)) := by
    refine (hg.block b h.lt fun e => ?_).trans h.box
    have := (h.rt.lt b e.symm).1
    omega
  have hB : Below b w w' := (Below.refl b w).grown hg (by have := h.lt; omega) fun j e => by have := (h.rt.lt j e).1; omega
  refine ⟨⟨hB, T, hbox⟩, ⟨?_, ?_, ?_⟩, hB.setCell (Nat.le_refl _) _⟩
  · rw [heap_set3 hbox]; rfl
  · refine own_keep h.rw_ fun g hg' => ?_
    have h1 := h.rw_.lt g hg'
    rw [setCell_keep _ _ _ _ (by omega)]
    exact hg.block g h1.2 fun e => own_apart h.rt h.rw_ (Ne.symm hTG) g e.symm hg'
  · show World.ownsRow _ _ _ _ _ (c.to ++ [(⟨k, p⟩ : Pp.G)]).length (tgsC (c.to ++ [(⟨k, p⟩ : Pp.G)]))
    rw [List.length_append, tgsC_snoc]
    exact owns_kept_cell ho hlo 2 _
end

/-- What take returns. -/
def TakePost (w : World) (b : Nat) (c' : Pp.C) (n : Nat) (e : Ending) (w' : World) : Prop := e = .returned (.int .i64 n) ∧ (∃ vw vt, CAt w' b (b + 1) C1 G1 c' vw vt) ∧ Below b w w'

set_option maxHeartbeats 4000000 in
theorem take_word (w : World) (b : Nat) (c : Pp.C) (vw vt : Value) (a : Option Addr) (cp : Nat) (s : Bs) (r : List Lp.T) (hC : CAt w b (b + 1) C1 G1 c vw vt) (hT : Tk w (· < b) (.slice a (r.length + 1) cp) (⟨0, s⟩ :: r)) (hl : c.ws.length ≤ 100000) :
    Calls Tryd.prog 29 #[.pointer (some ⟨b, 0, none⟩), .slice a (r.length + 1) cp] w (TakePost w b (c.word s) 1) := by
  obtain ⟨i0, hi, hz0, hz1, hz2⟩ := info_parts infoS
  obtain ⟨b', o, rfl, hcp, hp, hcells⟩ := Tk.cells (L := ⟨0, s⟩ :: r) hT (by simp)
  obtain ⟨x1, x2⟩ := hcells 0 (by simp)
  simp only [Nat.zero_mul, Nat.add_zero, List.getElem_cons_zero] at x1 x2
  have hlt := hC.lt
  have hlt' : b' < w.heap.size := Nat.lt_trans hp hlt
  have hC1 := hC.alloc (.cells #[.int .i64 0, .string (str s)] TT)
  obtain ⟨q0, q1, q2, qz⟩ := hC1.cells
  have hC2 := fun o => (hC1.alloc o).drew
  clear hcells
  go_enter Tryd.func29, Tryd.ntmps29
  go_wp2_with fail
  go_region_law (refine step_append_own rfl _ _ 37 rfl (b + 1) SS i0 (.string ⟨#[]⟩) 1 16 Tryd.underlying37 hi hz0 hz1 hz2 rfl (by decide) vw c.ws.length (strsC c.ws) (by simp [go_sem]) (hC2 _).rw_ ⟨w.heap.size + 1, 0, none⟩ 1 1 [.string (str s)] (by simp [go_sem]) rfl (one_at _ (by simp) _ _) (by simp [Value.oneCell']) (by unfold maxLen; omega) (by omega) (by simp; omega) ?_; intro v1 w1 hown1 hgrow1 _; obtain ⟨a1, c1, rfl⟩ := owns_slice hown1; obtain ⟨g1, g2, g3⟩ := (hC2 _).word (s := s) (Nat.lt_succ_self b) (by decide) hown1 hgrow1; obtain ⟨z0, z1, z2, z3, z4⟩ := g1.cells)
  all_goals go_wp2_with fail
  all_goals go_ret
  all_goals exact ⟨rfl, ⟨_, _, g2⟩, ((((Below.refl b w).alloc (Nat.le_of_lt hlt) _).alloc (by simp; omega) _).drew).trans g3⟩

set_option maxHeartbeats 4000000 in
theorem take_redir (w : World) (b : Nat) (c : Pp.C) (vw vt : Value) (a : Option Addr) (cp k : Nat) (t s : Bs) (r : List Lp.T) (hk : k ≠ 0) (hC : CAt w b (b + 1) C1 G1 c vw vt) (hT : Tk w (· < b) (.slice a (r.length + 2) cp) (⟨k, t⟩ :: ⟨0, s⟩ :: r)) (hl : c.to.length ≤ 100000) (hr : r.length ≤ 100000) :
    Calls Tryd.prog 29 #[.pointer (some ⟨b, 0, none⟩), .slice a (r.length + 2) cp] w (TakePost w b (c.redir k s) 2) := by
  obtain ⟨i0, hi, hz0, hz1, hz2⟩ := info_parts infoG1
  obtain ⟨b', o, rfl, hcp, hp, hcells⟩ := Tk.cells (L := ⟨k, t⟩ :: ⟨0, s⟩ :: r) hT (by simp)
  obtain ⟨x1, x2⟩ := hcells 0 (by simp)
  obtain ⟨x3, x4⟩ := hcells 1 (by simp)
  simp only [Nat.zero_mul, Nat.add_zero, Nat.one_mul, List.getElem_cons_zero, List.getElem_cons_succ] at x1 x2 x3 x4
  have hlt := hC.lt
  have hlt' : b' < w.heap.size := Nat.lt_trans hp hlt
  have hC1 := hC.alloc (.cells #[.int .i64 k, .string (str t)] TT)
  obtain ⟨q0, q1, q2, qz⟩ := hC1.cells
  have hC2 := fun o => (hC1.alloc o).drew
  have hk0 : ((k : Int) == 0) = false := by rw [beq_eq_false_iff_ne]; omega
  have hlen : ¬ ((r.length : Int) + 2 < 2) := by omega
  have hlen2 : decide ((r.length : Int) + 2 < 2) = false := decide_eq_false hlen
  have i1 : (1 : Int) < (r.length : Int) + 2 := by omega
  clear hcells
  go_enter Tryd.func29, Tryd.ntmps29
  go_wp2_with fail
  go_region_law (refine step_append_own rfl _ _ 38 rfl (b + 1) G1 i0 (.agg #[.int .i64 0, .string ByteArray.empty]) 2 24 Tryd.underlying38 hi hz0 hz1 hz2 rfl (by decide) vt c.to.length (tgsC c.to) (by simp [go_sem]) (hC2 _).rt ⟨w.heap.size + 1, 0, none⟩ 1 1 [.int .i64 k, .string (str s)] (by simp [go_sem]) rfl (two_at _ (by simp) _ _ _) (by simp [Value.oneCell']) (by unfold maxLen; omega) (by omega) (by simp; omega) ?_; intro v1 w1 hown1 hgrow1 _; obtain ⟨a1, c1, rfl⟩ := owns_slice hown1; obtain ⟨g1, g2, g3⟩ := (hC2 _).redir (k := k) (p := s) (Nat.lt_succ_self b) (by decide) hown1 hgrow1; obtain ⟨z0, z1, z2, z3, z4⟩ := g1.cells)
  all_goals go_wp2_with fail
  all_goals go_ret
  all_goals exact ⟨rfl, ⟨_, _, g2⟩, ((((Below.refl b w).alloc (Nat.le_of_lt hlt) _).alloc (by simp; omega) _).drew).trans g3⟩

set_option maxHeartbeats 4000000 in
theorem take_bad (w : World) (b : Nat) (c : Pp.C) (vw vt : Value) (a : Option Addr) (cp k : Nat) (t : Bs) (r : List Lp.T) (hk : k ≠ 0) (hC : CAt w b (b + 1) C1 G1 c vw vt) (hT : Tk w (· < b) (.slice a (r.length + 1) cp) (⟨k, t⟩ :: r)) (hr : r.length ≤ 100000) (hu : ∀ (h : 0 < r.length), r[0].k ≠ 0) :
    Calls Tryd.prog 29 #[.pointer (some ⟨b, 0, none⟩), .slice a (r.length + 1) cp] w (TakePost w b c 0) := by
  obtain ⟨b', o, rfl, hcp, hp, hcells⟩ := Tk.cells (L := ⟨k, t⟩ :: r) hT (by simp)
  obtain ⟨x1, x2⟩ := hcells 0 (by simp)
  simp only [Nat.zero_mul, Nat.add_zero, List.getElem_cons_zero] at x1 x2
  have hlt := hC.lt
  have hlt' : b' < w.heap.size := Nat.lt_trans hp hlt
  have hk0 : ((k : Int) == 0) = false := by rw [beq_eq_false_iff_ne]; omega
  have HF := fun o => Lib.hid (show TakePost w b c 0 (.returned (.int .i64 0)) (w.alloc o) from ⟨rfl, ⟨_, _, hC.alloc o⟩, (Below.refl b w).alloc (Nat.le_of_lt hlt) _⟩)
  by_cases h0 : 0 < r.length
  · obtain ⟨x3, x4⟩ := hcells 1 (by simp; omega)
    simp only [Nat.one_mul, List.getElem_cons_succ] at x3 x4
    have hu0 : ((r[0].k : Int) != 0) = true := by have := hu h0; rw [bne_iff_ne]; omega
    have hlen : ¬ ((r.length : Int) + 1 < 2) := by omega
    have hlen2 : decide ((r.length : Int) + 1 < 2) = false := decide_eq_false hlen
    generalize r[0] = u at *
    clear hcells
    go_enter Tryd.func29, Tryd.ntmps29
    go_wp2_with fail
    go_ret
    exact (HF _).out
  · have hlen : ((r.length : Int) + 1 < 2) := by omega
    clear hcells
    go_enter Tryd.func29, Tryd.ntmps29
    go_wp2_with fail
    go_ret
    exact (HF _).out
end Go.Proofs.YtlkcpegjkmfngaaDoor.Px
