/-
  flatironlaw06.Of: commands, as the reference has them.
  flatironlaw06.Of, with a block that none of the commands lies in.
-/
import Derived.Test.YteommneijlelkaaGreatDoorQPLine
namespace Go.Proofs.YteommneijlelkaaGreatDoor.Px
open Go.RowKit Go.Proofs.YteommneijlelkaaGreatDoor Go.Proofs.YteommneijlelkaaGreatDoor.Lx
set_option maxRecDepth 100000

/-- How many words and redirections the commands have, at most. -/
def FewC (X : List CV) : Prop := X.length ≤ 100000 ∧ ∀ x ∈ X, x.c.ws.length ≤ 100000 ∧ x.c.to.length ≤ 100000
def OfPost (w : World) (X : List CV) (e : Ending) (w' : World) : Prop := ∃ v X', X'.map CV.c = X.map CV.c ∧ e = .returned v ∧ Cs w' (· < w'.heap.size) v X' ∧ Below w.heap.size w w'
theorem of_redir {W w' : World} {b n n' : Nat} {T TG : TypeId} {on vw vt nt : Value} {xs ys : List Value} (hbox : W.heap[b]? = some (.cells #[on, vw, vt] T (0, 0))) (hr : W.ownsRow (b + 1) TG 2 vt n xs) (ho : w'.ownsRow (b + 1) TG 2 nt n' ys) (hg : W.grownBy w' vt.ownBlock) :
    Grown W w' b on vw vt ∧ (w'.setCell ⟨b, 2, none⟩ nt).heap[b]? = some (.cells #[on, vw, nt] T (0, 0)) ∧ (w'.setCell ⟨b, 2, none⟩ nt).ownsRow (b + 1) TG 2 nt n' ys ∧ Below b W (w'.setCell ⟨b, 2, none⟩ nt) := by
  have hlt : b < W.heap.size := (Array.getElem?_eq_some_iff.1 hbox).1
  have hb2 : w'.heap[b]? = some (.cells #[on, vw, vt] T (0, 0)) := by
    refine (hg.block b hlt fun e => ?_).trans hbox
    have := (hr.lt b e.symm).1
    omega
  have hB : Below b W w' := (Below.refl b W).grown hg (by omega) fun j e => by have := (hr.lt j e).1; omega
  exact ⟨⟨hB, T, hb2⟩, by rw [heap_set3 hb2]; rfl, owns_kept_cell ho (Nat.lt_succ_self b) 2 _, hB.setCell (Nat.le_refl _) _⟩
def OfRel (w : World) (X : List CV) (vl vi : Value) (wr : World) : Prop :=
  ∃ (i : Nat) (Y : List CV), vi = .int .i64 i ∧ i ≤ X.length ∧ Y.map CV.c = (X.take i).map CV.c ∧ Bd wr w.heap.size C2 (fun _ => True) vl Y ∧ Below w.heap.size w wr

end Go.Proofs.YteommneijlelkaaGreatDoor.Px
namespace Go.Proofs.YteommneijlelkaaGreatDoor.Px
open Go.RowKit Go.Proofs.YteommneijlelkaaGreatDoor Go.Proofs.YteommneijlelkaaGreatDoor.Lx
set_option maxRecDepth 100000
def OfPost2 (w : World) (q : Nat) (X : List CV) (e : Ending) (w' : World) : Prop := ∃ v X', X'.map CV.c = X.map CV.c ∧ e = .returned v ∧ Cs w' (fun b => b < w'.heap.size ∧ b ≠ q) v X' ∧ Below w.heap.size w w'
def OfRel2 (w : World) (q : Nat) (X : List CV) (vl vi : Value) (wr : World) : Prop :=
  ∃ (i : Nat) (Y : List CV), vi = .int .i64 i ∧ i ≤ X.length ∧ Y.map CV.c = (X.take i).map CV.c ∧ Bd wr w.heap.size C2 (fun b => b ≠ q) vl Y ∧ Below w.heap.size w wr

set_option maxHeartbeats 1000000 in
theorem Of2_any (w : World) (q : Nat) (hq : q < w.heap.size) (a : Option Addr) (cp : Nat) (X : List CV) (hX : Cs w (fun b => b < w.heap.size ∧ b ≠ q) (.slice a X.length cp) X) (hf : FewC X) :
    Calls Tryz.prog 13 #[.slice a X.length cp] w (OfPost2 w q X) := by
  obtain ⟨i0, hi, hz0, hz1, hz2⟩ := info_parts infoC2
  obtain ⟨i1, hj, hy0, hy1, hy2⟩ := info_parts infoG2
  obtain ⟨hl, hf⟩ := hf
  go_enter Tryz.func13, Tryz.ntmps13
  go_wp2_with fail
  go_loopw [3, 11] (fun vl vi wr => OfRel2 w q X vl vi wr) (fun _ vi _ => X.length - (intOf vi).toNat)
  case atStart => exact ⟨0, [], rfl, Nat.zero_le _, rfl, Bd.nil _ _ _ _, Below.refl _ _⟩
  case round =>
    obtain ⟨i, Y, rfl, hi', hY, hBd, hB⟩ := hrel
    obtain ⟨w2, rfl⟩ : ∃ w2 : World, w2 = wr := ⟨wr, rfl⟩
    have hYl : Hid (Y.length = i) := Lib.hid (by have := congrArg List.length hY; rw [List.length_map, List.length_map, List.length_take] at this; omega)
    have HY := Lib.hid hY
    clear hY
    obtain ⟨a3, c3, rfl⟩ := owns_slice hBd.1
    by_cases hlt : i < X.length
    · obtain ⟨g, o, rfl, hc, hp, hcells⟩ := hX.cells (by omega)
      obtain ⟨x1, x2, x3⟩ := hcells i hlt
      have y1 : w2.cell? ⟨g, o + i * 3, none⟩ = some (.int .i64 X[i].c.on) := (hB.cell (p := ⟨g, o + i * 3, none⟩) hp.1).trans x1
      have y2 : w2.cell? ⟨g, o + i * 3 + 1, none⟩ = some X[i].vw := (hB.cell (p := ⟨g, o + i * 3 + 1, none⟩) hp.1).trans x2
      have y3 : w2.cell? ⟨g, o + i * 3 + 2, none⟩ = some X[i].vt := (hB.cell (p := ⟨g, o + i * 3 + 2, none⟩) hp.1).trans x3
      have hI := (cs_in2 hX hlt).keep fun b hb => hB.block b hb.1
      have hF1 := hf _ (List.getElem_mem hlt)
      have HT : Hid ((X.take (i + 1)).map CV.c = (X.take i).map CV.c ++ [X[i].c]) := Lib.hid (by rw [List.take_succ_eq_append_getElem hlt, List.map_append]; rfl)
      clear hcells x1 x2 x3
      generalize X[i] = x at *
      obtain ⟨c, vw, vt⟩ := x
      obtain ⟨a1, c1, h1, _⟩ := hI.1.shape
      obtain ⟨a2, c2, h2, _⟩ := hI.2.shape
      simp only at h1 h2 y1 y2 y3 hF1 HT
      subst h1 h2
      obtain ⟨W, hW⟩ : ∃ W, W = (w2.alloc (.cells #[.int .i64 c.on, .slice a1 c.ws.length c1, .slice a2 c.to.length c2] C1)).alloc (.cells #[.int .i64 c.on, .slice a1 c.ws.length c1, .slice none 0 0] C2) := ⟨_, rfl⟩
      have hbox : W.heap[w2.heap.size + 1]? = some (.cells #[.int .i64 c.on, .slice a1 c.ws.length c1, .slice none 0 0] C2 (0, 0)) := by rw [hW]; exact heap_new _ _ (by simp)
      have hbx5 : W.heap[w2.heap.size]? = some (.cells #[.int .i64 c.on, .slice a1 c.ws.length c1, .slice a2 c.to.length c2] C1 (0, 0)) := by rw [hW, Below.heap_alloc _ _ _ (by simp)]; exact heap_new _ _ rfl
      have hBW : Below w2.heap.size w2 W := by rw [hW]; exact ((Below.refl _ _).alloc (Nat.le_refl _) _).alloc (by simp) _
      obtain ⟨q0, q1, q2⟩ := box3 hbx5
      have hsW : W.heap.size = w2.heap.size + 2 := by rw [hW]; simp
      go_wp2_with fail
      rw [← hW]
      clear hW
      have hT := hI.2
      simp only at hT
      have hTW : Rg W (fun b => b < w.heap.size ∧ b ≠ q) (.slice a2 c.to.length c2) c.to.length (tgsC c.to) := hT.keep fun b hb => hBW.block b (Nat.lt_of_lt_of_le hb.1 hB.size)
      have hb1 := hB.size
      go_loopw [23] (fun vi wx => ∃ (k : Nat) (vt : Value), vi = .int .i64 k ∧ k ≤ c.to.length ∧ wx.heap[w2.heap.size + 1]? = some (.cells #[.int .i64 c.on, .slice a1 c.ws.length c1, vt] C2 (0, 0)) ∧ wx.ownsRow (w2.heap.size + 1 + 1) G2 2 vt k (tgsC (c.to.take k)) ∧ Below (w2.heap.size + 1) W wx) (fun vi _ => c.to.length - (intOf vi).toNat)
      case atStart => exact ⟨0, _, rfl, Nat.zero_le _, hbox, World.ownsRow_nil _ _ _ _, Below.refl _ _⟩
      case round =>
        obtain ⟨k, vt, rfl, hk, hbx, hr, hBx⟩ := hrel
        obtain ⟨a4, c4, rfl⟩ := owns_slice hr
        obtain ⟨z0, z1, z2⟩ := box3 hbx
        have zlt : w2.heap.size + 1 < wr.heap.size := (Array.getElem?_eq_some_iff.1 hbx).1
        by_cases hkl : k < c.to.length
        · obtain ⟨g', o', rfl, hc', ⟨hp', _⟩, hcells'⟩ := tos_cells hTW (by omega)
          obtain ⟨x1, x2⟩ := hcells' k hkl
          have t1 : wr.cell? ⟨g', o' + k * 2, none⟩ = some (.int .i64 c.to[k].k) := (hBx.cell (p := ⟨g', o' + k * 2, none⟩) (by show g' < _; omega)).trans x1
          have t2 : wr.cell? ⟨g', o' + k * 2 + 1, none⟩ = some (.string (str c.to[k].p)) := (hBx.cell (p := ⟨g', o' + k * 2 + 1, none⟩) (by show g' < _; omega)).trans x2
          have HG2 : Hid (tgsC (c.to.take (k + 1)) = tgsC (c.to.take k) ++ [.int .i64 c.to[k].k, .string (str c.to[k].p)]) := Lib.hid (by rw [List.take_succ_eq_append_getElem hkl, tgsC_snoc])
          clear hcells' x1 x2
          generalize c.to[k] = s at *
          have hbx2 : ∀ o1 o2, ((wr.alloc o1).alloc o2).heap[w2.heap.size + 1]? = _ := fun o1 o2 => (Below.heap_alloc _ _ _ (by simp; omega)).trans ((Below.heap_alloc _ _ _ zlt).trans hbx)
          go_wp2_with (at_builtin; go_must (refine wpList_append_own _ rfl _ _ 95 rfl (w2.heap.size + 1 + 1) G2 i1 (.agg #[.int .i64 0, .string ByteArray.empty]) 2 24 Tryz.underlying95 hj hy0 hy1 hy2 rfl (by decide) _ _ _ rfl ((hr.alloc _).alloc _) ⟨wr.heap.size + 1, 0, none⟩ 1 1 [.int .i64 s.k, .string (str s.p)] rfl rfl (two_at _ (by simp) _ _ _) (by simp [Value.oneCell']) (by unfold maxLen; omega) (by omega) (by simp; omega) ?_); intro v' w4 hown' hgrow _; obtain ⟨a5, c5, rfl⟩ := owns_slice hown'; obtain ⟨g1, g2, g3, g4⟩ := of_redir (hbx2 _ _) ((hr.alloc _).alloc _) hown' hgrow; obtain ⟨d0, d1, d2, d3, d4⟩ := g1.cells)
          go_roundw
          case rel => exact ⟨k + 1, _, by go_num, hkl, g2, by rw [HG2.out]; exact g3, ((hBx.alloc (by omega) _).alloc (by simp; omega) _).trans g4⟩
          case measure => simp [intOf]; omega
        · obtain rfl : k = c.to.length := by omega
          rw [List.take_length] at hr
          have hBw := hBW.trans (hBx.mono (Nat.le_succ _))
          have hBd2 := fun o => (hBd.below hBw).alloc o
          have hv2 : ∀ b, (Value.slice a3 Y.length c3).ownBlock = some b → w.heap.size ≤ b ∧ b < w2.heap.size := fun b hb => hBd.1.lt b hb
          have hIx : ∀ o, In (wr.alloc o) (fun b => b ≠ q ∧ b < (wr.alloc o).heap.size ∧ some b ≠ (Value.slice a3 Y.length c3).ownBlock) ⟨c, .slice a1 c.ws.length c1, .slice a4 c.to.length c4⟩ := fun o => by
            have h1 : In wr (fun b => b ≠ q ∧ b < wr.heap.size ∧ some b ≠ (Value.slice a3 Y.length c3).ownBlock) ⟨c, .slice a1 c.ws.length c1, .slice a4 c.to.length c4⟩ :=
              ⟨(hI.1.keep fun b hb => hBw.block b (Nat.lt_of_lt_of_le hb.1 hb1)).more fun b hb => ⟨hb.2, by have := hb.1; omega, fun e => by have := (hv2 b e.symm).1; have := hb.1; omega⟩,
                (Rg.of_own hr).more fun b hb => ⟨by have := hb.1; omega, hb.2.1, fun e => by have := (hv2 b e.symm).2; omega⟩⟩
            exact (h1.keep fun b hb => Below.heap_alloc _ _ _ hb.2.1).more fun b hb => ⟨hb.1, by have := hb.2.1; simp; omega, hb.2.2⟩
          have hBo := hB.trans (hBw.mono hb1)
          have hYl2 := hYl.out
          go_wp2_with (at_builtin; go_must (refine wpList_append_own_at _ rfl _ _ 52 rfl w.heap.size C2 i0 (.agg #[.int .i64 0, .slice none 0 0, .slice none 0 0]) 3 56 Tryz.underlying52 hi hz0 hz1 hz2 rfl (by decide) _ _ _ rfl (hBd2 _).1 ⟨wr.heap.size, 0, none⟩ 1 1 [.int .i64 c.on, .slice a1 c.ws.length c1, .slice a4 c.to.length c4] rfl rfl (three_at _ (by simp) _ _ _ _) (by simp [Value.oneCell']) (by unfold maxLen; omega) (by omega) (by simp; omega) ?_); intro v' w4 hown' hgrow _ hat)
          go_roundw
          case rel =>
            refine ⟨i + 1, Y ++ [⟨c, .slice a1 c.ws.length c1, .slice a4 c.to.length c4⟩], by go_num, hlt, ?_, Bd.snoc (hBd2 _) (hIx _) hown' hgrow hat, (hBo.alloc hBo.size _).grown hgrow (hBo.alloc hBo.size _).size fun j ej => (hBd.1.lt j ej).1⟩
            rw [HT.out, List.map_append, HY.out]; rfl
          case measure => simp [intOf]; omega
    · obtain rfl : i = X.length := by omega
      have HF : Hid (OfPost2 w q X (.returned (.slice a3 Y.length c3)) w2) := Lib.hid ⟨_, Y, by rw [HY.out, List.take_length], rfl, ⟨(Rg.of_own hBd.1).more fun _ hb => ⟨hb.2.1, by have := hb.1; omega⟩, fun x hx => (hBd.2 x hx).more fun _ hb => ⟨hb.2.1, hb.1⟩⟩, hB⟩
      go_wp2_with fail
      go_ret
      exact HF.out
end Go.Proofs.YteommneijlelkaaGreatDoor.Px
