/-
  flatironref06.Line: the reference's commands of a line.
-/
import Derived.Test.YtlkcpegjkmfngaaDoorLRTokens
import Derived.Test.YtlkcpegjkmfngaaDoorPCommand
namespace Go.Proofs.YtlkcpegjkmfngaaDoor.Px
open Go.RowKit Go.Proofs.YtlkcpegjkmfngaaDoor Go.Proofs.YtlkcpegjkmfngaaDoor.Lx
set_option maxRecDepth 100000

/-- Blocks apart from the command that is being made. -/
def Off (b0 : Nat) (vw vt : Value) (b : Nat) : Prop := b ≠ b0 ∧ some b ≠ vw.ownBlock ∧ some b ≠ vt.ownBlock
section
variable {W w' : World} {b0 : Nat} {c : Pp.C} {vw vt vo : Value} {X : List CV}
theorem off_keep (hC : CAt W b0 (b0 + 1) C2 G2 c vw vt) (hX : Bd W (b0 + 1) C2 (Off b0 vw vt) vo X) {old nv : Value} {i : Nat} (hold : old = vw ∨ old = vt) (hg : W.grownBy w' old.ownBlock)
    (hvo : ∀ b, vo.ownBlock = some b → old.ownBlock ≠ some b) : Bd (w'.setCell ⟨b0, i, none⟩ nv) (b0 + 1) C2 (fun b => Off b0 vw vt b ∧ b < W.heap.size) vo X := by
  have hs : W.heap.size ≤ (w'.setCell ⟨b0, i, none⟩ nv).heap.size := by simp [World.setCell]; exact hg.size
  refine (hX.more (Q := fun b => Off b0 vw vt b ∧ b < W.heap.size) fun b h1 h2 => ⟨h1, h2⟩).keep hs (fun b h1 h2 => ?_) fun b hb => ?_
  · rw [setCell_keep _ _ _ _ h1.1.1]
    refine hg.block b h2 ?_
    rcases hold with rfl | rfl
    · exact h1.1.2.1
    · exact h1.1.2.2
  · have := hX.1.lt b hb
    rw [setCell_keep _ _ _ _ (by omega)]
    exact hg.block b this.2 fun e => hvo b hb e.symm
theorem off_word (hC : CAt W b0 (b0 + 1) C2 G2 c vw vt) (hX : Bd W (b0 + 1) C2 (Off b0 vw vt) vo X) {nw : Value} {s : Bs} (ho : w'.ownsRow (b0 + 1) SS 1 nw (c.ws.length + 1) (strsC c.ws ++ [.string (str s)])) (hg : W.grownBy w' vw.ownBlock)
    (hat : nw.ownBlock = vw.ownBlock ∨ nw.ownBlock = some W.heap.size) :
    Grown W w' b0 (.int .i64 c.on) vw vt ∧ CAt (w'.setCell ⟨b0, 1, none⟩ nw) b0 (b0 + 1) C2 G2 (c.word s) nw vt ∧ Bd (w'.setCell ⟨b0, 1, none⟩ nw) (b0 + 1) C2 (Off b0 nw vt) vo X ∧ Below b0 W (w'.setCell ⟨b0, 1, none⟩ nw) := by
  obtain ⟨g1, g2, g3⟩ := hC.word (s := s) (Nat.lt_succ_self b0) (by decide) ho hg
  refine ⟨g1, g2, ?_, g3⟩
  refine (off_keep (nv := nw) (i := 1) hC hX (.inl rfl) hg fun b hb => own_apart hX.1 hC.rw_ (by decide) b hb).more fun b hb _ => ⟨hb.1.1, ?_, hb.1.2.2⟩
  rcases hat with e | e
  · rw [e]; exact hb.1.2.1
  · rw [e]; intro e; cases e; exact Nat.lt_irrefl _ hb.2
theorem off_redir (hC : CAt W b0 (b0 + 1) C2 G2 c vw vt) (hX : Bd W (b0 + 1) C2 (Off b0 vw vt) vo X) {nt : Value} {k : Int} {p : Bs} (ho : w'.ownsRow (b0 + 1) G2 2 nt (c.to.length + 1) (tgsC c.to ++ [.int .i64 k, .string (str p)])) (hg : W.grownBy w' vt.ownBlock)
    (hat : nt.ownBlock = vt.ownBlock ∨ nt.ownBlock = some W.heap.size) :
    Grown W w' b0 (.int .i64 c.on) vw vt ∧ CAt (w'.setCell ⟨b0, 2, none⟩ nt) b0 (b0 + 1) C2 G2 (c.redir k p) vw nt ∧ Bd (w'.setCell ⟨b0, 2, none⟩ nt) (b0 + 1) C2 (Off b0 vw nt) vo X ∧ Below b0 W (w'.setCell ⟨b0, 2, none⟩ nt) := by
  obtain ⟨g1, g2, g3⟩ := hC.redir (k := k) (p := p) (Nat.lt_succ_self b0) (by decide) ho hg
  refine ⟨g1, g2, ?_, g3⟩
  refine (off_keep (nv := nt) (i := 2) hC hX (.inr rfl) hg fun b hb => own_apart hX.1 hC.rt (by decide) b hb).more fun b hb _ => ⟨hb.1.1, hb.1.2.1, ?_⟩
  rcases hat with e | e
  · rw [e]; exact hb.1.2.2
  · rw [e]; intro e; cases e; exact Nat.lt_irrefl _ hb.2
/-- The command, done, behind the others. -/
theorem off_push (hC : CAt W b0 (b0 + 1) C2 G2 c vw vt) (hX : Bd W (b0 + 1) C2 (Off b0 vw vt) vo X) {nv : Value} (ho : w'.ownsRow (b0 + 1) C2 3 nv (X.length + 1) (cvsC X ++ [.int .i64 c.on, vw, vt])) (hg : W.grownBy w' vo.ownBlock)
    (hat : nv.ownBlock = vo.ownBlock ∨ nv.ownBlock = some W.heap.size) :
    Bd w' (b0 + 1) C2 (fun b => b ≠ b0) nv (X ++ [⟨c, vw, vt⟩]) ∧ w'.heap[b0]? = some (.cells #[.int .i64 c.on, vw, vt] C2 (0, 0)) ∧ Below b0 W w' := by
  refine ⟨Bd.snoc (x := ⟨c, vw, vt⟩) (hX.more fun b hb _ => hb.1) ⟨(Rg.of_own hC.rw_).more fun b hb => ⟨by omega, hb.2.1, fun e => own_apart hC.rw_ hX.1 (by decide) b hb.2.2 e.symm⟩, (Rg.of_own hC.rt).more fun b hb => ⟨by omega, hb.2.1, fun e => own_apart hC.rt hX.1 (by decide) b hb.2.2 e.symm⟩⟩ ho hg hat, ?_, ?_⟩
  · refine (hg.block b0 hC.lt fun e => ?_).trans hC.box
    have := (hX.1.lt b0 e.symm).1
    omega
  · exact (Below.refl b0 W).grown hg (by have := hC.lt; omega) fun j e => by have := (hX.1.lt j e).1; omega
/-- A new command in the box. -/
theorem off_new {k : Int} {u0 u1 u2 : Value} (hX : Bd w' (b0 + 1) C2 (fun b => b ≠ b0) vo X) (hb : w'.heap[b0]? = some (.cells #[u0, u1, u2] C2 (0, 0))) :
    CAt (((w'.setCell ⟨b0, 0, none⟩ (.int .i64 k)).setCell ⟨b0, 1, none⟩ (.slice none 0 0)).setCell ⟨b0, 2, none⟩ (.slice none 0 0)) b0 (b0 + 1) C2 G2 (Pp.newC k) (.slice none 0 0) (.slice none 0 0) ∧
    Bd (((w'.setCell ⟨b0, 0, none⟩ (.int .i64 k)).setCell ⟨b0, 1, none⟩ (.slice none 0 0)).setCell ⟨b0, 2, none⟩ (.slice none 0 0)) (b0 + 1) C2 (Off b0 (.slice none 0 0) (.slice none 0 0)) vo X := by
  obtain ⟨e1, e2⟩ := set3 hb (.int .i64 k) (.slice none 0 0) (.slice none 0 0)
  refine ⟨⟨e1, World.ownsRow_nil _ _ _ _, World.ownsRow_nil _ _ _ _⟩, ?_⟩
  refine (hX.keep (Nat.le_of_eq (size3 _ _ _ _ _).symm) (fun b h1 _ => e2 b h1) fun b hb' => e2 b ?_).more fun b hb' _ => ⟨hb', by simp [Value.ownBlock], by simp [Value.ownBlock]⟩
  have := (hX.1.lt b hb').1
  omega
end

/-- What the reference's Line returns. -/
def RLinePost (w : World) (o : Option (List Pp.C)) (e : Ending) (w' : World) : Prop :=
  (match o with
   | none => ∃ v, e = .returned (.tuple #[v, .bool false])
   | some L => ∃ v X, X.map CV.c = L ∧ e = .returned (.tuple #[v, .bool true]) ∧ Cs w' (· < w'.heap.size) v X) ∧ Below w.heap.size w w'
def RLRel (w1 : World) (L : List Lp.T) (vo vi : Value) (wr : World) : Prop :=
  ∃ (k : Nat) (X : List CV) (c : Pp.C) (vw vt : Value), vi = .int .i64 k ∧ k ≤ L.length ∧ CAt wr w1.heap.size (w1.heap.size + 1) C2 G2 c vw vt ∧ Bd wr (w1.heap.size + 1) C2 (Off w1.heap.size vw vt) vo X ∧ Below w1.heap.size w1 wr ∧
    Pp.goA (Pp.newC 1) L = (Pp.goA c (L.drop k)).map (X.map CV.c ++ ·) ∧ c.ws.length ≤ k ∧ c.to.length ≤ k ∧ X.length ≤ k

set_option maxHeartbeats 4000000 in
theorem RLine_any (w : World) (s : ByteArray) (hs : s.size ≤ 100000) : Calls Tryd.prog 7 #[.string s] w (RLinePost w (Pp.lineA (by8 s))) := by
  have hTk := RTokens_any w s hs
  cases ht : Lp.tokA (by8 s) with
  | none =>
    have HE : Hid (Pp.lineA (by8 s) = none) := Lib.hid (by unfold Pp.lineA; rw [ht]; rfl)
    rw [ht] at hTk
    clear ht
    go_enter Tryd.func7, Tryd.ntmps7
    go_wp2_with fail
    refine hTk.mono ?_
    rintro e w1 ⟨rfl, hB1⟩
    go_wp2_with fail
    exact bodyPost_ret (v := .tuple #[.slice none 0 0, .bool false]) (by simp [results, Tryd.results7, go_sem]) rfl ⟨by rw [HE.out]; exact ⟨_, rfl⟩, hB1⟩
  | some L =>
    have HE : Hid (Pp.lineA (by8 s) = Pp.goA (Pp.newC 1) L) := Lib.hid (by unfold Pp.lineA; rw [ht]; rfl)
    have hlen : L.length ≤ 100000 := by have := (Lp.tok_len ht).1; rw [by8_len] at this; omega
    rw [ht] at hTk
    clear ht
    go_enter Tryd.func7, Tryd.ntmps7
    go_wp2_with fail
    refine hTk.mono ?_
    rintro e w1 ⟨⟨a0, cp0, rfl, hr0⟩, hB1⟩
    have hT0 : Tk w1 (· < w1.heap.size) (.slice a0 L.length cp0) L := (Rg.of_own hr0).more fun _ hb => hb.2.1
    clear hTk hr0
    go_wp2_with fail
    go_loopw [6, 8] (fun vo vi wr => RLRel w1 L vo vi wr) (fun _ vi _ => L.length - (intOf vi).toNat)
    case atStart =>
      refine ⟨0, [], Pp.newC 1, .slice none 0 0, .slice none 0 0, rfl, Nat.zero_le _, ⟨heap_new _ _ rfl, World.ownsRow_nil _ _ _ _, World.ownsRow_nil _ _ _ _⟩, Bd.nil _ _ _ _, (Below.refl _ _).alloc (Nat.le_refl _) _, by simp, Nat.le_refl _, Nat.le_refl _, Nat.le_refl _⟩
    case round =>
      obtain ⟨k, X, c, vw, vt, rfl, hk, hC, hX, hB, he, l1, l2, l3⟩ := hrel
      obtain ⟨q0, q1, q2, qz⟩ := hC.cells
      have hblt := hC.lt
      obtain ⟨aw, cw, rfl⟩ := owns_slice hC.rw_
      obtain ⟨a2, c2, rfl⟩ := owns_slice hC.rt
      obtain ⟨a3, c3, rfl⟩ := owns_slice hX.1
      by_cases hlt : k < L.length
      · obtain ⟨g, o, rfl, hgc, hg, hcells⟩ := hT0.cells (by omega)
        obtain ⟨x1, x2⟩ := hcells k hlt
        have y1 : wr.cell? ⟨g, o + k * 2, none⟩ = some (.int .i64 L[k].k) := (hB.cell (p := ⟨g, o + k * 2, none⟩) hg).trans x1
        have y2 : wr.cell? ⟨g, o + k * 2 + 1, none⟩ = some (.string (str L[k].t)) := (hB.cell (p := ⟨g, o + k * 2 + 1, none⟩) hg).trans x2
        have hgl : g < wr.heap.size := by omega
        have hki : (k : Int) < L.length := by omega
        have hd : L.drop k = L[k] :: L.drop (k + 1) := List.drop_eq_getElem_cons hlt
        rw [hd] at he
        by_cases h0 : L[k].k = 0
        · obtain ⟨i0, hi, hz0, hz1, hz2⟩ := info_parts infoS
          have hk0 : ((L[k].k : Int) == 0) = true := by rw [h0]; rfl
          have HN : Hid (Pp.goA (Pp.newC 1) L = (Pp.goA (c.word L[k].t) (L.drop (k + 1))).map (X.map CV.c ++ ·)) := Lib.hid (by rw [he, Pp.go_cons, if_pos h0])
          have hC2 := fun o => (hC.alloc o).drew
          have hX2 := fun o => (hX.alloc o).below (Below.refl _ (wr.alloc o)).drew
          clear he hd hcells x1 x2
          generalize L[k] = x at *
          go_wp2_with fail
          go_region_law (refine step_append_own rfl _ _ 37 rfl (w1.heap.size + 1) SS i0 (.string ⟨#[]⟩) 1 16 Tryd.underlying37 hi hz0 hz1 hz2 rfl (by decide) (.slice aw c.ws.length cw) c.ws.length (strsC c.ws) (by simp [go_sem]) (hC2 _).rw_ ⟨wr.heap.size, 0, none⟩ 1 1 [.string (str x.t)] (by simp [go_sem]) rfl (one_at _ (by simp) _ _) (by simp [Value.oneCell']) (by unfold maxLen; omega) (by omega) (by simp; omega) ?_; intro v1 w2 hown1 hgrow1 hat1; obtain ⟨a4, c4, rfl⟩ := owns_slice hown1; obtain ⟨g1, g2, g3, g4⟩ := off_word (hC2 _) (hX2 _) hown1 hgrow1 hat1; obtain ⟨z0, z1, z2, z3, z4⟩ := g1.cells)
          all_goals
            go_wp2_with fail
            go_roundw
            case rel => exact ⟨k + 1, X, c.word x.t, _, _, by go_num, hlt, g2, g3, ((hB.alloc hB.size _).drew).trans g4, HN.out, by simp [Pp.C.word]; omega, by simp [Pp.C.word]; omega, by omega⟩
            case measure => simp [intOf]; omega
        · have hk0 : ((L[k].k : Int) == 0) = false := by rw [beq_eq_false_iff_ne]; omega
          by_cases h4 : 4 ≤ L[k].k
          · have h4i : (4 : Int) ≤ (L[k].k : Int) := by omega
            by_cases h5 : k + 1 < L.length
            · have hd2 : L.drop (k + 1) = L[k + 1] :: L.drop (k + 2) := List.drop_eq_getElem_cons h5
              obtain ⟨x3, x4⟩ := hcells (k + 1) h5
              have y3 : wr.cell? ⟨g, o + (k + 1) * 2, none⟩ = some (.int .i64 L[k + 1].k) := (hB.cell (p := ⟨g, o + (k + 1) * 2, none⟩) hg).trans x3
              have y4 : wr.cell? ⟨g, o + (k + 1) * 2 + 1, none⟩ = some (.string (str L[k + 1].t)) := (hB.cell (p := ⟨g, o + (k + 1) * 2 + 1, none⟩) hg).trans x4
              have h5i : (k : Int) + 1 < (L.length : Int) := by omega
              have h5j : (0 : Int) ≤ (k : Int) + 1 := by omega
              have h5k : ((k : Int) + 1).toNat = k + 1 := by omega
              have h5w : IntKind.i64.wrap ((k : Int) + 1) = (k : Int) + 1 := IntWalk.i64_in _ (by omega)
              have h5f : decide ((L.length : Int) ≤ (k : Int) + 1) = false := decide_eq_false (by omega)
              by_cases h6 : L[k + 1].k = 0
              · obtain ⟨i0, hi, hz0, hz1, hz2⟩ := info_parts infoG2
                have h6f : ((L[k + 1].k : Int) != 0) = false := by rw [h6]; rfl
                have HN : Hid (Pp.goA (Pp.newC 1) L = (Pp.goA (c.redir L[k].k L[k + 1].t) (L.drop (k + 1 + 1))).map (X.map CV.c ++ ·)) := Lib.hid (by rw [he, Pp.go_cons, if_neg h0, if_pos h4, hd2]; simp only [if_pos h6])
                have hC2 := fun o => (hC.alloc o).drew
                have hX2 := fun o => (hX.alloc o).below (Below.refl _ (wr.alloc o)).drew
                clear he hd hd2 hcells x1 x2 x3 x4
                generalize L[k] = x at *
                generalize L[k + 1] = y at *
                go_wp2_with fail
                go_region_law (refine step_append_own rfl _ _ 55 rfl (w1.heap.size + 1) G2 i0 (.agg #[.int .i64 0, .string ByteArray.empty]) 2 24 Tryd.underlying55 hi hz0 hz1 hz2 rfl (by decide) (.slice a2 c.to.length c2) c.to.length (tgsC c.to) (by simp [go_sem]) (hC2 _).rt ⟨wr.heap.size, 0, none⟩ 1 1 [.int .i64 x.k, .string (str y.t)] (by simp [go_sem]) rfl (two_at _ (by simp) _ _ _) (by simp [Value.oneCell']) (by unfold maxLen; omega) (by omega) (by simp; omega) ?_; intro v1 w2 hown1 hgrow1 hat1; obtain ⟨a4, c4, rfl⟩ := owns_slice hown1; obtain ⟨g1, g2, g3, g4⟩ := off_redir (k := x.k) (p := y.t) (hC2 _) (hX2 _) hown1 hgrow1 hat1; obtain ⟨z0, z1, z2, z3, z4⟩ := g1.cells)
                all_goals
                  go_wp2_with fail
                  go_roundw
                  case rel => exact ⟨k + 1 + 1, X, c.redir x.k y.t, _, _, by go_num, h5, g2, g3, ((hB.alloc hB.size _).drew).trans g4, HN.out, by simp [Pp.C.redir]; omega, by simp [Pp.C.redir]; omega, by omega⟩
                  case measure => simp [intOf]; omega
              · have h6f : ((L[k + 1].k : Int) != 0) = true := by rw [bne_iff_ne]; omega
                have HN : Hid (Pp.goA (Pp.newC 1) L = none) := Lib.hid (by rw [he, Pp.go_cons, if_neg h0, if_pos h4, hd2]; simp only [if_neg h6]; rfl)
                clear he hd hd2 hcells x1 x2 x3 x4 hC hX
                generalize L[k] = x at *
                generalize L[k + 1] = y at *
                go_wp2_with fail
                exact bodyPost_ret (v := .tuple #[.slice none 0 0, .bool false]) (by simp [results, Tryd.results7, go_sem]) rfl (by rw [HE.out, HN.out]; exact ⟨⟨_, rfl⟩, hB1.trans (hB.mono hB1.size)⟩)
            · have h5t : decide ((L.length : Int) ≤ (k : Int) + 1) = true := decide_eq_true (by omega)
              have h5l : L.length ≤ k + 1 := by omega
              have HN : Hid (Pp.goA (Pp.newC 1) L = none) := Lib.hid (by rw [he, Pp.go_cons, if_neg h0, if_pos h4, List.drop_eq_nil_of_le (by omega)]; rfl)
              clear he hd hcells x1 x2 hC hX
              generalize L[k] = x at *
              go_wp2_with fail
              exact bodyPost_ret (v := .tuple #[.slice none 0 0, .bool false]) (by simp [results, Tryd.results7, go_sem]) rfl (by rw [HE.out, HN.out]; exact ⟨⟨_, rfl⟩, hB1.trans (hB.mono hB1.size)⟩)
          · have h4i : ¬ (4 : Int) ≤ (L[k].k : Int) := by omega
            by_cases hw : c.ws = []
            · have HN : Hid (Pp.goA (Pp.newC 1) L = none) := Lib.hid (by rw [he, Pp.go_cons, if_neg h0, if_neg h4, if_pos hw]; rfl)
              have hl0 : c.ws.length = 0 := by rw [hw]; rfl
              clear he hd hcells x1 x2 hC hX hw
              generalize L[k] = x at *
              go_wp2_with fail
              exact bodyPost_ret (v := .tuple #[.slice none 0 0, .bool false]) (by simp [results, Tryd.results7, go_sem]) rfl (by rw [HE.out, HN.out]; exact ⟨⟨_, rfl⟩, hB1.trans (hB.mono hB1.size)⟩)
            · obtain ⟨i0, hi, hz0, hz1, hz2⟩ := info_parts infoC2
              have hl0 : ((c.ws.length : Int) == 0) = false := by rw [beq_eq_false_iff_ne]; have := List.length_pos_iff.2 hw; omega
              have HN : Hid (Pp.goA (Pp.newC 1) L = (Pp.goA (Pp.newC L[k].k) (L.drop (k + 1))).map ((X ++ [(⟨c, .slice aw c.ws.length cw, .slice a2 c.to.length c2⟩ : CV)]).map CV.c ++ ·)) := Lib.hid (by
                rw [he, Pp.go_cons, if_neg h0, if_neg h4, if_neg hw]
                cases Pp.goA (Pp.newC L[k].k) (L.drop (k + 1)) <;> simp)
              have hC2 := fun o => hC.alloc o
              have hX2 := fun o => hX.alloc o
              clear he hd hcells x1 x2 hw
              generalize L[k] = x at *
              go_wp2_with (at_builtin; refine wpList_append_own_at _ rfl _ _ 27 rfl (w1.heap.size + 1) C2 i0 (.agg #[.int .i64 0, .slice none 0 0, .slice none 0 0]) 3 56 Tryd.underlying27 hi hz0 hz1 hz2 rfl (by decide) _ _ _ rfl (hX2 _).1 ⟨wr.heap.size, 0, none⟩ 1 1 [.int .i64 c.on, .slice aw c.ws.length cw, .slice a2 c.to.length c2] rfl rfl (three_at _ (by simp) _ _ _ _) (by simp [Value.oneCell']) (by unfold maxLen; omega) (by omega) (by have := hB.size; simp; omega) ?_; intro v' w4 hown' hgrow _ hat; obtain ⟨g1, g2, g3⟩ := off_push (hC2 _) (hX2 _) hown' hgrow hat; obtain ⟨z0, z1, z2⟩ := box3 g2; have z3 := fun i => frozen_at g2 i; have z4 := (Array.getElem?_eq_some_iff.1 g2).1; obtain ⟨n1, n2⟩ := off_new (k := x.k) g1 g2)
              go_roundw
              case rel => exact ⟨k + 1, _, Pp.newC x.k, _, _, by go_num, hlt, n1, n2, ((((hB.alloc hB.size _).trans g3).setCell (Nat.le_refl _) _).setCell (Nat.le_refl _) _).setCell (Nat.le_refl _) _, HN.out, by simp [Pp.newC], by simp [Pp.newC], by simp; omega⟩
              case measure => simp [intOf]; omega
      · obtain rfl : k = L.length := by omega
        rw [List.drop_length] at he
        by_cases hw : c.ws = []
        · have hl0 : c.ws.length = 0 := by rw [hw]; rfl
          by_cases ht : c.to = []
          · have hl1 : c.to.length = 0 := by rw [ht]; rfl
            have hl2 : ((c.to.length : Int) == 0) = true := by rw [hl1]; rfl
            by_cases ho : c.on = 1
            · have hX2 := hX.cs
              have HO : Hid (Pp.goA (Pp.newC 1) L = some (X.map CV.c)) := Lib.hid (by rw [he, Pp.goA, if_neg (by simp [hw]), if_pos ⟨ht, ho⟩]; simp)
              rw [ho] at q0
              clear he hC hX hw ht ho
              go_wp2_with fail
              go_quiet (fail)
              go_wp2_with fail
              exact bodyPost_ret (v := .tuple #[.slice a3 X.length c3, .bool true]) (by simp [results, Tryd.results7, go_sem]) rfl (by rw [HE.out, HO.out]; exact ⟨⟨_, X, rfl, rfl, hX2⟩, below_drewN (hB1.trans (hB.mono hB1.size)) _⟩)
            · have HO : Hid (Pp.goA (Pp.newC 1) L = none) := Lib.hid (by rw [he, Pp.goA, if_neg (by simp [hw]), if_neg (fun h => ho h.2)]; rfl)
              have hof : (c.on == 1) = false := by rw [beq_eq_false_iff_ne]; exact ho
              clear he hC hX hw ht
              go_wp2_with fail
              go_quiet (fail)
              go_wp2_with fail
              exact bodyPost_ret (v := .tuple #[.slice a3 X.length c3, .bool false]) (by simp [results, Tryd.results7, go_sem]) rfl (by rw [HE.out, HO.out]; exact ⟨⟨_, rfl⟩, below_drewN (hB1.trans (hB.mono hB1.size)) _⟩)
          · have hl2 : ((c.to.length : Int) == 0) = false := by rw [beq_eq_false_iff_ne]; have := List.length_pos_iff.2 ht; omega
            have HO : Hid (Pp.goA (Pp.newC 1) L = none) := Lib.hid (by rw [he, Pp.goA, if_neg (by simp [hw]), if_neg (fun h => ht h.1)]; rfl)
            clear he hC hX hw ht
            go_wp2_with fail
            go_quiet (fail)
            go_wp2_with fail
            exact bodyPost_ret (v := .tuple #[.slice a3 X.length c3, .bool false]) (by simp [results, Tryd.results7, go_sem]) rfl (by rw [HE.out, HO.out]; exact ⟨⟨_, rfl⟩, below_drewN (hB1.trans (hB.mono hB1.size)) _⟩)
        · obtain ⟨i0, hi, hz0, hz1, hz2⟩ := info_parts infoC2
          have hl0 : 0 < c.ws.length := List.length_pos_iff.2 hw
          have HO : Hid (Pp.goA (Pp.newC 1) L = some ((X ++ [(⟨c, .slice aw c.ws.length cw, .slice a2 c.to.length c2⟩ : CV)]).map CV.c)) := Lib.hid (by rw [he, Pp.goA, if_pos hw]; simp)
          have hC2 := fun o => hC.alloc o
          have hX2 := fun o => hX.alloc o
          clear he hw
          go_wp2_with (at_builtin; refine wpList_append_own_at _ rfl _ _ 27 rfl (w1.heap.size + 1) C2 i0 (.agg #[.int .i64 0, .slice none 0 0, .slice none 0 0]) 3 56 Tryd.underlying27 hi hz0 hz1 hz2 rfl (by decide) _ _ _ rfl (hX2 _).1 ⟨wr.heap.size, 0, none⟩ 1 1 [.int .i64 c.on, .slice aw c.ws.length cw, .slice a2 c.to.length c2] rfl rfl (three_at _ (by simp) _ _ _ _) (by simp [Value.oneCell']) (by unfold maxLen; omega) (by omega) (by have := hB.size; simp; omega) ?_; intro v' w4 hown' hgrow _ hat; obtain ⟨a4, c4, rfl⟩ := owns_slice hown'; obtain ⟨g1, g2, g3⟩ := off_push (hC2 _) (hX2 _) hown' hgrow hat)
          exact bodyPost_ret (v := .tuple #[.slice a4 (X.length + 1) c4, .bool true]) (by simp [results, Tryd.results7, go_sem]) rfl (by rw [HE.out, HO.out]; exact ⟨⟨_, _, rfl, rfl, g1.cs⟩, hB1.trans (((hB.alloc hB.size _).trans g3).mono hB1.size)⟩)
end Go.Proofs.YtlkcpegjkmfngaaDoor.Px
