/-
  parse.Line: the commands of a line.
-/
import Derived.Test.YtaolccibflniiaaGreatDoorQLTokens
import Derived.Test.YtaolccibflniiaaGreatDoorQPCommand
namespace Go.Proofs.YtaolccibflniiaaGreatDoor.Px
open Go.RowKit Go.Proofs.YtaolccibflniiaaGreatDoor Go.Proofs.YtaolccibflniiaaGreatDoor.Lx
set_option maxRecDepth 100000

/-- What Line returns. -/
def LinePost (w : World) (o : Option (List Pp.C)) (e : Ending) (w' : World) : Prop :=
  (match o with
   | none => e = .returned (.tuple #[.slice none 0 0, .int .i64 6])
   | some L => ∃ v X, X.map CV.c = L ∧ e = .returned (.tuple #[v, .int .i64 0]) ∧ Cs w' (· < w'.heap.size) v X) ∧ Below w.heap.size w w'
def LineRel (w w1 : World) (L : List Lp.T) (vt vl vo : Value) (wr : World) : Prop :=
  ∃ (R : List Lp.T) (a : Option Addr) (cp : Nat) (X : List CV) (on : Nat), vt = .slice a R.length cp ∧ vo = .int .i64 on ∧ Tk wr (· < w1.heap.size) (.slice a R.length cp) R ∧ Bd wr w1.heap.size C1 (fun _ => True) vl X ∧ Below w1.heap.size w1 wr ∧
    Pp.goA (Pp.newC 1) L = (Pp.goA (Pp.newC on) R).map (X.map CV.c ++ ·) ∧ X.length + R.length ≤ L.length ∧ Below w.heap.size w wr
theorem line_step {L R : List Lp.T} {X : List CV} {on : Nat} {c : Pp.C} {x : CV} (hx : x.c = c) (hR : R ≠ []) (h : Pp.goA (Pp.newC 1) L = (Pp.goA (Pp.newC on) R).map (X.map CV.c ++ ·)) (hc : Pp.cmdA (Pp.newC on) (Pp.pieceA R) = some c) :
    Pp.goA (Pp.newC 1) L = (Pp.goA (Pp.newC (Pp.nextA R)) (Pp.restA R)).map ((X ++ [x]).map CV.c ++ ·) := by
  rw [h, Pp.go_new R on hR, hc]
  show ((Pp.goA (Pp.newC (Pp.nextA R)) (Pp.restA R)).map (c :: ·)).map (X.map CV.c ++ ·) = _
  cases Pp.goA (Pp.newC (Pp.nextA R)) (Pp.restA R) with
  | none => rfl
  | some m => simp [hx]

set_option maxHeartbeats 1000000 in
theorem Line_any (w : World) (s : ByteArray) (hs : s.size ≤ 100000) (hG : Glob w) : Calls Tryz.prog 10 #[.string s] w (LinePost w (Pp.lineA (by8 s))) := by
  have hTk := Tokens_any w s hs hG
  obtain ⟨i0, hi, hz0, hz1, hz2⟩ := info_parts infoC1
  cases ht : Lp.tokA (by8 s) with
  | none =>
    have HE : Hid (Pp.lineA (by8 s) = none) := Lib.hid (by unfold Pp.lineA; rw [ht]; rfl)
    rw [ht] at hTk
    clear ht
    go_enter Tryz.func10, Tryz.ntmps10
    go_wp2_with fail
    refine hTk.mono ?_
    rintro e w1 ⟨rfl, hB1⟩
    go_wp2_with fail
    exact bodyPost_ret (v := .tuple #[.slice none 0 0, .int .i64 6]) (by simp [results, Tryz.results10, go_sem]) rfl ⟨by rw [HE.out], hB1⟩
  | some L =>
    have HE : Hid (Pp.lineA (by8 s) = Pp.goA (Pp.newC 1) L) := Lib.hid (by unfold Pp.lineA; rw [ht]; rfl)
    have hlen : L.length ≤ 100000 := by have := (Lp.tok_len ht).1; rw [by8_len] at this; omega
    rw [ht] at hTk
    clear ht
    go_enter Tryz.func10, Tryz.ntmps10
    go_wp2_with fail
    refine hTk.mono ?_
    rintro e w1 ⟨⟨a0, cp0, rfl, hr0⟩, hB1⟩
    have hT0 : Tk w1 (· < w1.heap.size) (.slice a0 L.length cp0) L := (Rg.of_own hr0).more fun _ hb => hb.2.1
    clear hTk hr0
    go_wp2_with fail
    go_loopw [4, 6, 7] (fun vt vl vo wr => LineRel w w1 L vt vl vo wr) (fun vt _ _ _ => lenOf vt)
    case atStart => exact ⟨L, a0, cp0, [], 1, rfl, rfl, hT0, Bd.nil _ _ _ _, Below.refl _ _, by simp, by simp, hB1⟩
    case round =>
      obtain ⟨R, a, cp, X, on, rfl, rfl, hR, hX, hB, he, hl, hBw⟩ := hrel
      obtain ⟨a1, c1, rfl⟩ := owns_slice hX.1
      by_cases h0 : R = []
      · subst h0
        by_cases hon : on = 1
        · have HF : Hid (LinePost w (Pp.goA (Pp.newC 1) L) (.returned (.tuple #[.slice a1 X.length c1, .int .i64 0])) wr) := Lib.hid ⟨by rw [he, Pp.go_nil, if_pos (by rw [hon]; rfl)]; exact ⟨_, X, by simp, rfl, hX.cs⟩, hBw⟩
          subst hon
          clear he
          go_wp2_with fail
          exact bodyPost_ret (v := .tuple #[.slice a1 X.length c1, .int .i64 0]) (by simp [results, Tryz.results10, go_sem]) rfl (by rw [HE.out]; exact HF.out)
        · have HF : Hid (LinePost w (Pp.goA (Pp.newC 1) L) (.returned (.tuple #[.slice none 0 0, .int .i64 6])) wr) := Lib.hid ⟨by rw [he, Pp.go_nil, if_neg (by omega)]; rfl, hBw⟩
          have hon1 : ((on : Int) != 1) = true := by rw [bne_iff_ne]; omega
          clear he
          go_wp2_with fail
          exact bodyPost_ret (v := .tuple #[.slice none 0 0, .int .i64 6]) (by simp [results, Tryz.results10, go_sem]) rfl (by rw [HE.out]; exact HF.out)
      · have hpos : 0 < R.length := List.length_pos_iff.2 h0
        have hrl := Pp.rest_len h0
        have hpl : (Pp.pieceA R).length ≤ R.length := (List.takeWhile_prefix _).length_le
        have hCut := cut_any wr (· < w1.heap.size) (fun b hb => Nat.lt_of_lt_of_le hb hB.size) a cp R hR (by omega)
        go_wp2_with (go_at_call 29; refine hCut.mono ?_; rintro e w2 ⟨v1, v2, rfl, t1, t2, hB2⟩; obtain ⟨a3, c3, rfl, _⟩ := Rg.shape t1; obtain ⟨a4, c4, rfl, _⟩ := Rg.shape t2; have hCm := command_any w2 on a3 c3 (Pp.pieceA R) (Rg.more t1 fun b hb => Nat.lt_of_lt_of_le (Nat.lt_of_lt_of_le hb hB.size) hB2.size) (by omega))
        have hP3 : Tk w2 (· < w1.heap.size) (.slice a4 (Pp.restA R).length c4) (Pp.restA R) := t2
        have hX2 := hX.below hB2
        have hv2 : ∀ g, (Value.slice a1 X.length c1).ownBlock = some g → g < w2.heap.size := fun g hg => (hX2.1.lt g hg).2
        have hB12 := hB.trans (hB2.mono hB.size)
        have hBw2 := hBw.trans (hB2.mono hBw.size)
        clear hCut t1 hR hX hB hB2 hBw
        cases hc : Pp.cmdA (Pp.newC on) (Pp.pieceA R) with
        | none =>
          have HN : Hid (Pp.goA (Pp.newC 1) L = none) := Lib.hid (by rw [he, Pp.go_new R on h0, hc]; rfl)
          rw [hc] at hCm
          clear he hc h0
          go_wp2_with (go_at_call 30; refine hCm.mono ?_; rintro e w3 ⟨rfl, hB3⟩; have hB4 := hBw2.trans (hB3.mono hBw2.size))
          exact bodyPost_ret (v := .tuple #[.slice none 0 0, .int .i64 6]) (by simp [results, Tryz.results10, go_sem]) rfl (by rw [HE.out, HN.out]; exact ⟨rfl, hB4.alloc hB4.size _⟩)
        | some c =>
          have HN := Lib.hid fun (x : CV) (hx : x.c = c) => line_step (X := X) (x := x) hx h0 he hc
          rw [hc] at hCm
          clear he hc h0
          go_wp2_with (first
            | (go_at_call 30; refine hCm.mono ?_; rintro e w3 ⟨⟨vw, vt, rfl, hIn⟩, hB3⟩; obtain ⟨a5, c5, h5, _⟩ := hIn.1.shape; obtain ⟨a6, c6, h6, _⟩ := hIn.2.shape; simp only at h5 h6; subst h5 h6; have hX3 := fun o o' => ((hX2.below hB3).alloc o).alloc o'; have hB4 := hBw2.trans (hB3.mono hBw2.size); have hB5 := hB12.trans (hB3.mono hB12.size))
            | (at_builtin; refine wpList_append_own_at _ rfl _ _ 37 rfl w1.heap.size C1 i0 (.agg #[.int .i64 0, .slice none 0 0, .slice none 0 0]) 3 56 Tryz.underlying37 hi hz0 hz1 hz2 rfl (by decide) _ _ _ rfl (hX3 _ _).1 ⟨w3.heap.size + 1, 0, none⟩ 1 1 [.int .i64 c.on, .slice a5 c.ws.length c5, .slice a6 c.to.length c6] rfl rfl (three_at _ (by simp) _ _ _ _) (by simp [Value.oneCell']) (by unfold maxLen; omega) (by omega) (by have := hB5.size; simp; omega) ?_; intro v' w4 hown' hgrow _ hat))
          go_roundw
          case rel =>
            have hBa := ((Below.refl w3.heap.size w3).alloc (Nat.le_refl _) (.cells #[.int .i64 c.on, .slice a5 c.ws.length c5, .slice a6 c.to.length c6] C1)).alloc (by simp) (.cells #[.int .i64 c.on, .slice a5 c.ws.length c5, .slice a6 c.to.length c6] C1)
            have hI2 := (hIn.keep fun b hb => hBa.block b hb.2).more fun b hb => (show True ∧ b < _ ∧ some b ≠ (Value.slice a1 X.length c1).ownBlock from ⟨trivial, Nat.lt_of_lt_of_le hb.2 hBa.size, fun e => Nat.lt_irrefl _ (Nat.lt_of_lt_of_le (hv2 b e.symm) hb.1)⟩)
            have hX4 := Bd.snoc (hX3 _ _) hI2 hown' hgrow hat
            have hB6 := ((hB5.alloc hB5.size _).alloc (hB5.alloc hB5.size _).size _).grown hgrow ((hB5.alloc hB5.size _).alloc (hB5.alloc hB5.size _).size _).size fun j ej => (hX2.1.lt j ej).1
            exact ⟨Pp.restA R, a4, c4, X ++ [⟨c, .slice a5 c.ws.length c5, .slice a6 c.to.length c6⟩], Pp.nextA R, rfl, rfl, Rg.keep hP3 fun b hb => (hB6.block b hb).trans (hB12.block b hb).symm, hX4, hB6, HN.out _ rfl, by simp; omega, hB1.trans (hB6.mono hB1.size)⟩
          case measure => exact hrl
end Go.Proofs.YtaolccibflniiaaGreatDoor.Px
