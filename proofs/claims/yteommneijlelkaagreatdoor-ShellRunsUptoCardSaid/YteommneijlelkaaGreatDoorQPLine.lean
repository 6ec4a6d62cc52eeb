/-
  parse.command: the command that tokens form.
  parse.Line: the commands of a line.
-/
import Derived.Test.YteommneijlelkaaGreatDoorQPTake
import Derived.Test.YteommneijlelkaaGreatDoorQLTokens
namespace Go.Proofs.YteommneijlelkaaGreatDoor.Px
open Go.RowKit Go.Proofs.YteommneijlelkaaGreatDoor Go.Proofs.YteommneijlelkaaGreatDoor.Lx
set_option maxRecDepth 100000

def lenOf : Value → Nat
  | .slice _ n _ => n
  | _ => 0
theorem Tk.tail1 {w : World} {P : Nat → Prop} {b o c : Nat} {t : Lp.T} {r : List Lp.T} (h : Tk w P (.slice (some ⟨b, o, none⟩) (r.length + 1) c) (t :: r)) (a : Option Addr) (ha : 1 = c ∨ a = some ⟨b, o + 2, none⟩) : Tk w P (.slice a r.length (c - 1)) r :=
  Tk.drop (L := t :: r) (k := 1) h (by simp) a (by simpa using ha)
theorem Tk.tail2 {w : World} {P : Nat → Prop} {b o c : Nat} {t u : Lp.T} {r : List Lp.T} (h : Tk w P (.slice (some ⟨b, o, none⟩) (r.length + 2) c) (t :: u :: r)) (a : Option Addr) (ha : 2 = c ∨ a = some ⟨b, o + 4, none⟩) : Tk w P (.slice a r.length (c - 2)) r :=
  Tk.drop (L := t :: u :: r) (k := 2) h (by simp) a (by simpa using ha)

/-- Three cells of a block, written. -/
theorem set3 {w : World} {b : Nat} {x y z : Value} {T : TypeId} (h : w.heap[b]? = some (.cells #[x, y, z] T (0, 0))) (u0 u1 u2 : Value) :
    (((w.setCell ⟨b, 0, none⟩ u0).setCell ⟨b, 1, none⟩ u1).setCell ⟨b, 2, none⟩ u2).heap[b]? = some (.cells #[u0, u1, u2] T (0, 0)) ∧ ∀ k, k ≠ b → (((w.setCell ⟨b, 0, none⟩ u0).setCell ⟨b, 1, none⟩ u1).setCell ⟨b, 2, none⟩ u2).heap[k]? = w.heap[k]? := by
  refine ⟨?_, fun k hk => ?_⟩
  · rw [heap_set3 (heap_set3 (heap_set3 h u0) u1) u2]; rfl
  · rw [setCell_keep _ _ _ _ hk, setCell_keep _ _ _ _ hk, setCell_keep _ _ _ _ hk]
theorem box3 {w : World} {b : Nat} {x y z : Value} {T : TypeId} (h : w.heap[b]? = some (.cells #[x, y, z] T (0, 0))) : w.cell? ⟨b, 0, none⟩ = some x ∧ w.cell? ⟨b, 1, none⟩ = some y ∧ w.cell? ⟨b, 2, none⟩ = some z := ⟨cell_at h rfl, cell_at h rfl, cell_at h rfl⟩
theorem size3 (w : World) (b : Nat) (u0 u1 u2 : Value) : (((w.setCell ⟨b, 0, none⟩ u0).setCell ⟨b, 1, none⟩ u1).setCell ⟨b, 2, none⟩ u2).heap.size = w.heap.size := by simp [World.setCell]
/-- What command returns. -/
def CmdPost (w : World) (o : Option Pp.C) (e : Ending) (w' : World) : Prop :=
  (match o with
   | none => e = .returned (.tuple #[.agg #[.int .i64 0, .slice none 0 0, .slice none 0 0], .bool false])
   | some c => ∃ vw vt, e = .returned (.tuple #[.agg #[.int .i64 c.on, vw, vt], .bool true]) ∧ In w' (fun b => w.heap.size ≤ b ∧ b < w'.heap.size) ⟨c, vw, vt⟩) ∧ Below w.heap.size w w'
def CmdRel (w : World) (c0 : Pp.C) (L : List Lp.T) (v : Value) (wr : World) : Prop :=
  ∃ (R : List Lp.T) (a : Option Addr) (cp : Nat) (c : Pp.C) (vw vt : Value), v = .slice a R.length cp ∧ Tk wr (· < w.heap.size) (.slice a R.length cp) R ∧ CAt wr (w.heap.size + 1) (w.heap.size + 1 + 1) C1 G1 c vw vt ∧
    wr.heap[w.heap.size]? = some (.cells #[.int .i64 0, .slice none 0 0, .slice none 0 0] C1 (0, 0)) ∧ Below w.heap.size w wr ∧ Pp.cmdA c0 L = Pp.cmdA c R ∧ c.ws.length + c.to.length + R.length ≤ L.length
theorem CmdRel.next {w wr W : World} {c0 c' : Pp.C} {L R : List Lp.T} {a : Option Addr} {cp : Nat} (hT : Tk wr (· < w.heap.size) (.slice a R.length cp) R) (hB : Below w.heap.size w wr) (hz : wr.heap[w.heap.size]? = some (.cells #[.int .i64 0, .slice none 0 0, .slice none 0 0] C1 (0, 0)))
    (hC : ∃ vw vt, CAt W (w.heap.size + 1) (w.heap.size + 1 + 1) C1 G1 c' vw vt) (hW : Below (w.heap.size + 1) wr W) (he : Pp.cmdA c0 L = Pp.cmdA c' R) (hl : c'.ws.length + c'.to.length + R.length ≤ L.length) : CmdRel w c0 L (.slice a R.length cp) W := by
  obtain ⟨vw, vt, hC⟩ := hC
  exact ⟨R, a, cp, c', vw, vt, rfl, Rg.below hT (hW.mono (Nat.le_succ _)), hC, (hW.block _ (Nat.lt_succ_self _)).trans hz, hB.trans (hW.mono (Nat.le_succ _)), he, hl⟩

set_option maxHeartbeats 1000000 in
theorem command_any (w : World) (on : Nat) (a0 : Option Addr) (cp0 : Nat) (L : List Lp.T) (hT : Tk w (· < w.heap.size) (.slice a0 L.length cp0) L) (hl : L.length ≤ 100000) :
    Calls Tryz.prog 23 #[.int .i64 on, .slice a0 L.length cp0] w (CmdPost w (Pp.cmdA (Pp.newC on) L)) := by
  have HT := Lib.hid hT
  clear hT
  go_enter Tryz.func23, Tryz.ntmps23
  go_wp2_with fail
  go_loopw [1] (fun v wr => CmdRel w (Pp.newC on) L v wr) (fun v _ => lenOf v)
  case atStart =>
    have hB := ((Below.refl w.heap.size w).alloc (Nat.le_refl _) (.cells #[.int .i64 0, .slice none 0 0, .slice none 0 0] C1)).alloc (by simp) (.cells #[.int .i64 on, .slice none 0 0, .slice none 0 0] C1)
    refine ⟨L, a0, cp0, Pp.newC on, .slice none 0 0, .slice none 0 0, rfl, Rg.below HT.out hB, ⟨heap_new _ _ (by simp), World.ownsRow_nil _ _ _ _, World.ownsRow_nil _ _ _ _⟩, ?_, hB, rfl, by simp [Pp.newC]⟩
    rw [Below.heap_alloc _ _ _ (by simp)]
    exact heap_new _ _ rfl
  case round =>
    obtain ⟨R, a, cp, c, vw, vt, rfl, hR, hC, hz, hB, he, hlen⟩ := hrel
    rcases R with _ | ⟨⟨k, s⟩, r⟩
    · obtain ⟨q0, q1, q2, qz⟩ := hC.cells
      have hlt := hC.lt
      have z0 : wr.cell? ⟨w.heap.size, 0, none⟩ = some (.int .i64 0) := cell_at hz rfl
      have z1 : wr.cell? ⟨w.heap.size, 1, none⟩ = some (.slice none 0 0) := cell_at hz rfl
      have z2 : wr.cell? ⟨w.heap.size, 2, none⟩ = some (.slice none 0 0) := cell_at hz rfl
      have zf := fun i => frozen_at hz i
      have hws : w.heap.size < wr.heap.size := (Array.getElem?_eq_some_iff.1 hz).1
      obtain ⟨a1, c1, rfl⟩ := owns_slice hC.rw_
      obtain ⟨a2, c2, rfl⟩ := owns_slice hC.rt
      by_cases h0 : c.ws = []
      · have HE : Hid (Pp.cmdA (Pp.newC on) L = none) := Lib.hid (by rw [he]; exact if_pos h0)
        have hl0 : ((c.ws.length : Int) == 0) = true := by rw [h0]; rfl
        have hl1 : c.ws.length = 0 := by rw [h0]; rfl
        clear he hC h0
        go_wp2_with fail
        obtain ⟨d0, d1, d2⟩ := box3 (set3 hz (.int .i64 0) (.slice none 0 0) (.slice none 0 0)).1
        exact bodyPost_ret (v := .tuple #[.agg #[.int .i64 0, .slice none 0 0, .slice none 0 0], .bool false]) (by simp [results, Tryz.results23, go_sem, d0, d1, d2]) rfl ⟨by rw [HE.out], ((hB.setCell (Nat.le_refl _) _).setCell (Nat.le_refl _) _).setCell (Nat.le_refl _) _⟩
      · have HE : Hid (Pp.cmdA (Pp.newC on) L = some c) := Lib.hid (by rw [he]; exact if_neg h0)
        have hpos : 0 < c.ws.length := List.length_pos_iff.2 h0
        have hl0 : ((c.ws.length : Int) == 0) = false := by rw [beq_eq_false_iff_ne]; omega
        clear he h0
        go_wp2_with fail
        obtain ⟨e1, e2⟩ := set3 hz (.int .i64 c.on) (.slice a1 c.ws.length c1) (.slice a2 c.to.length c2)
        obtain ⟨d0, d1, d2⟩ := box3 e1
        have es := size3 wr w.heap.size (.int .i64 c.on) (.slice a1 c.ws.length c1) (.slice a2 c.to.length c2)
        exact bodyPost_ret (v := .tuple #[.agg #[.int .i64 c.on, .slice a1 c.ws.length c1, .slice a2 c.to.length c2], .bool true]) (by simp [results, Tryz.results23, go_sem, d0, d1, d2]) rfl
          ⟨by rw [HE.out]; exact ⟨_, _, rfl, ((Rg.of_own hC.rw_).keep fun b hb => e2 b (by omega)).more fun b hb => ⟨by omega, by rw [es]; exact hb.2.1⟩, ((Rg.of_own hC.rt).keep fun b hb => e2 b (by omega)).more fun b hb => ⟨by omega, by rw [es]; exact hb.2.1⟩⟩, ((hB.setCell (Nat.le_refl _) _).setCell (Nat.le_refl _) _).setCell (Nat.le_refl _) _⟩
    · simp only [List.length_cons] at *
      by_cases hk : k = 0
      · subst hk
        have HK := take_word wr (w.heap.size + 1) c vw vt a cp s r hC (Rg.more hR fun _ h => Nat.lt_succ_of_lt h) (by omega)
        obtain ⟨b', o, rfl, hcp, hp, _⟩ := Tk.cells (L := ⟨0, s⟩ :: r) hR (by simp)
        have hcp' : r.length + 1 ≤ cp := hcp
        have HN : Hid (∀ (W : World) (a : Option Addr), (1 = cp ∨ a = some ⟨b', o + 2, none⟩) → (∃ vw vt, CAt W (w.heap.size + 1) (w.heap.size + 1 + 1) C1 G1 (c.word s) vw vt) → Below (w.heap.size + 1) wr W → CmdRel w (Pp.newC on) L (.slice a r.length (cp - 1)) W) := Lib.hid fun W a ha h1 h2 =>
          CmdRel.next (Tk.tail1 hR a ha) hB hz h1 h2 (by rw [he, Pp.cmd_cons, if_pos rfl]) (by simp [Pp.C.word]; omega)
        clear hC hz he hR
        go_wp2_with (go_at_call 47; refine HK.mono ?_; rintro e w2 ⟨rfl, hC2, hB2⟩)
        go_roundw
        case rel => exact HN.out _ _ (by by_cases h : cp = 1 <;> simp [h]) hC2 hB2
        case measure => simp [lenOf]
      · by_cases hu : ∀ (h : 0 < r.length), r[0].k ≠ 0
        · have HK := take_bad wr (w.heap.size + 1) c vw vt a cp k s r hk hC (Rg.more hR fun _ h => Nat.lt_succ_of_lt h) (by omega) hu
          have HE : Hid (Pp.cmdA (Pp.newC on) L = none) := Lib.hid (by
            rw [he, Pp.cmd_cons, if_neg hk]
            rcases r with _ | ⟨u, r'⟩
            · rfl
            · exact if_neg (hu (by simp)))
          have z0 : wr.cell? ⟨w.heap.size, 0, none⟩ = some (.int .i64 0) := cell_at hz rfl
          clear hC he hR hu
          go_wp2_with (go_at_call 47; refine HK.mono ?_; rintro e w2 ⟨rfl, hC2, hB2⟩; have hz2 := (hB2.block _ (Nat.lt_succ_self _)).trans hz; have z0 : w2.cell? ⟨w.heap.size, 0, none⟩ = some (.int .i64 0) := cell_at hz2 rfl; have z1 : w2.cell? ⟨w.heap.size, 1, none⟩ = some (.slice none 0 0) := cell_at hz2 rfl; have z2 : w2.cell? ⟨w.heap.size, 2, none⟩ = some (.slice none 0 0) := cell_at hz2 rfl; have zf := fun i => frozen_at hz2 i; have hws : w.heap.size < w2.heap.size := (Array.getElem?_eq_some_iff.1 hz2).1)
          have hB3 := hB.trans (hB2.mono (Nat.le_succ _))
          obtain ⟨d0, d1, d2⟩ := box3 (set3 hz2 (.int .i64 0) (.slice none 0 0) (.slice none 0 0)).1
          exact bodyPost_ret (v := .tuple #[.agg #[.int .i64 0, .slice none 0 0, .slice none 0 0], .bool false]) (by simp [results, Tryz.results23, go_sem, d0, d1, d2]) rfl ⟨by rw [HE.out], ((hB3.setCell (Nat.le_refl _) _).setCell (Nat.le_refl _) _).setCell (Nat.le_refl _) _⟩
        · rcases r with _ | ⟨⟨k', s'⟩, r⟩
          · exact absurd (fun h => absurd h (Nat.lt_irrefl _)) hu
          · have hk' : k' = 0 := by
              apply Classical.byContradiction
              exact fun h => hu fun _ => h
            subst hk'
            clear hu
            simp only [List.length_cons] at *
            have HK := take_redir wr (w.heap.size + 1) c vw vt a cp k s s' r hk hC (Rg.more hR fun _ h => Nat.lt_succ_of_lt h) (by omega) (by omega)
            obtain ⟨b', o, rfl, hcp, hp, _⟩ := Tk.cells (L := ⟨k, s⟩ :: ⟨0, s'⟩ :: r) hR (by simp)
            have hcp' : r.length + 2 ≤ cp := hcp
            have HN : Hid (∀ (W : World) (a : Option Addr), (2 = cp ∨ a = some ⟨b', o + 4, none⟩) → (∃ vw vt, CAt W (w.heap.size + 1) (w.heap.size + 1 + 1) C1 G1 (c.redir k s') vw vt) → Below (w.heap.size + 1) wr W → CmdRel w (Pp.newC on) L (.slice a r.length (cp - 2)) W) := Lib.hid fun W a ha h1 h2 =>
              CmdRel.next (Tk.tail2 hR a ha) hB hz h1 h2 (by rw [he, Pp.cmd_cons, if_neg hk]; simp) (by simp [Pp.C.redir]; omega)
            clear hC hz he hR
            go_wp2_with (go_at_call 47; go_must (refine HK.mono ?_); rintro e w2 ⟨rfl, hC2, hB2⟩)
            go_roundw
            case rel => exact HN.out _ _ (by by_cases h : cp = 2 <;> simp [h]) hC2 hB2
            case measure => simp [lenOf]; omega
end Go.Proofs.YteommneijlelkaaGreatDoor.Px
namespace Go.Proofs.YteommneijlelkaaGreatDoor.Px
open Go.RowKit Go.Proofs.YteommneijlelkaaGreatDoor Go.Proofs.YteommneijlelkaaGreatDoor.Lx
set_option maxRecDepth 100000

/-- What Line returns. -/
def LinePost (w : World) (o : Option (List Pp.C)) (e : Ending) (w' : World) : Prop :=
  (match o with
   | none => e = .returned (.tuple #[.slice none 0 0, .int .i64 6])
   | some L => ∃ v X, X.map CV.c = L ∧ e = .returned (.tuple #[v, .int .i64 0]) ∧ Cs w' (· < w'.heap.size) v X) ∧ Below w.heap.size w w'
def LineRel (w w1 : World) (L : List Lp.T) (vt vl vo : Value) (wr : World) : Prop :=
  ∃ (R : List Lp.T) (a : Option Addr) (cp : Nat) (X : List CV) (on : Nat), vt = .slice a R.length cp ∧ vo = .int .i64 on ∧ Tk wr (· < w1.heap.size) (.slice a R.length cp) R ∧ Bd wr w1.heap.size C1 (fun _ => True) vl X ∧ Below w1.heap.size w1 wr ∧
    Pp.goA (Pp.newC 1) L = (Pp.goA (Pp.newC on) R).map (X.map CV.c ++ ·) ∧ X.length + R.length ≤ L.length ∧ Below w.heap.size w wr
theorem line_step {L R : List Lp.T} {X : List CV} {on : Nat} {c : Pp.C} {x : CV} (hx : x.c = c) (hR : R ≠ []) (h : Pp.goA (Pp.newC 1) L = (Pp.goA (Pp.newC on) R).map (X.map CV.c ++ ·)) (hc : Pp.cmdA (Pp.newC on) (Pp.pieceA R) = some c) :
    Pp.goA (Pp.newC 1) L = (Pp.goA (Pp.newC (Pp.nextA R)) (Pp.restA R)).map ((X ++ [x]).map CV.c ++ ·) := by
  rw [h, Pp.go_new R on hR, hc]
  show ((Pp.goA (Pp.newC (Pp.nextA R)) (Pp.restA R)).map (c :: ·)).map (X.map CV.c ++ ·) = _
  cases Pp.goA (Pp.newC (Pp.nextA R)) (Pp.restA R) with
  | none => rfl
  | some m => simp [hx]

set_option maxHeartbeats 1000000 in
theorem Line_any (w : World) (s : ByteArray) (hs : s.size ≤ 100000) (hG : Glob w) : Calls Tryz.prog 8 #[.string s] w (LinePost w (Pp.lineA (by8 s))) := by
  have hTk := Tokens_any w s hs hG
  obtain ⟨i0, hi, hz0, hz1, hz2⟩ := info_parts infoC1
  cases ht : Lp.tokA (by8 s) with
  | none =>
    have HE : Hid (Pp.lineA (by8 s) = none) := Lib.hid (by unfold Pp.lineA; rw [ht]; rfl)
    rw [ht] at hTk
    clear ht
    go_enter Tryz.func8, Tryz.ntmps8
    go_wp2_with fail
    refine hTk.mono ?_
    rintro e w1 ⟨rfl, hB1⟩
    go_wp2_with fail
    exact bodyPost_ret (v := .tuple #[.slice none 0 0, .int .i64 6]) (by simp [results, Tryz.results8, go_sem]) rfl ⟨by rw [HE.out], hB1⟩
  | some L =>
    have HE : Hid (Pp.lineA (by8 s) = Pp.goA (Pp.newC 1) L) := Lib.hid (by unfold Pp.lineA; rw [ht]; rfl)
    have hlen : L.length ≤ 100000 := by have := (Lp.tok_len ht).1; rw [by8_len] at this; omega
    rw [ht] at hTk
    clear ht
    go_enter Tryz.func8, Tryz.ntmps8
    go_wp2_with fail
    refine hTk.mono ?_
    rintro e w1 ⟨⟨a0, cp0, rfl, hr0⟩, hB1⟩
    have hT0 : Tk w1 (· < w1.heap.size) (.slice a0 L.length cp0) L := (Rg.of_own hr0).more fun _ hb => hb.2.1
    clear hTk hr0
    go_wp2_with fail
    go_loopw [4, 6, 7] (fun vt vl vo wr => LineRel w w1 L vt vl vo wr) (fun vt _ _ _ => lenOf vt)
    case atStart => exact ⟨L, a0, cp0, [], 1, rfl, rfl, hT0, Bd.nil _ _ _ _, Below.refl _ _, by simp, by simp, hB1⟩
    case round =>
      obtain ⟨R, a, cp, X, on, rfl, rfl, hR, hX, hB, he, hl, hBw⟩ := hrel
      obtain ⟨a1, c1, rfl⟩ := owns_slice hX.1
      by_cases h0 : R = []
      · subst h0
        by_cases hon : on = 1
        · have HF : Hid (LinePost w (Pp.goA (Pp.newC 1) L) (.returned (.tuple #[.slice a1 X.length c1, .int .i64 0])) wr) := Lib.hid ⟨by rw [he, Pp.go_nil, if_pos (by rw [hon]; rfl)]; exact ⟨_, X, by simp, rfl, hX.cs⟩, hBw⟩
          subst hon
          clear he
          go_wp2_with fail
          exact bodyPost_ret (v := .tuple #[.slice a1 X.length c1, .int .i64 0]) (by simp [results, Tryz.results8, go_sem]) rfl (by rw [HE.out]; exact HF.out)
        · have HF : Hid (LinePost w (Pp.goA (Pp.newC 1) L) (.returned (.tuple #[.slice none 0 0, .int .i64 6])) wr) := Lib.hid ⟨by rw [he, Pp.go_nil, if_neg (by omega)]; rfl, hBw⟩
          have hon1 : ((on : Int) != 1) = true := by rw [bne_iff_ne]; omega
          clear he
          go_wp2_with fail
          exact bodyPost_ret (v := .tuple #[.slice none 0 0, .int .i64 6]) (by simp [results, Tryz.results8, go_sem]) rfl (by rw [HE.out]; exact HF.out)
      · have hpos : 0 < R.length := List.length_pos_iff.2 h0
        have hrl := Pp.rest_len h0
        have hpl : (Pp.pieceA R).length ≤ R.length := (List.takeWhile_prefix _).length_le
        have hCut := cut_any wr (· < w1.heap.size) (fun b hb => Nat.lt_of_lt_of_le hb hB.size) a cp R hR (by omega)
        go_wp2_with (go_at_call 22; refine hCut.mono ?_; rintro e w2 ⟨v1, v2, rfl, t1, t2, hB2⟩; obtain ⟨a3, c3, rfl, _⟩ := Rg.shape t1; obtain ⟨a4, c4, rfl, _⟩ := Rg.shape t2; have hCm := command_any w2 on a3 c3 (Pp.pieceA R) (Rg.more t1 fun b hb => Nat.lt_of_lt_of_le (Nat.lt_of_lt_of_le hb hB.size) hB2.size) (by omega))
        have hP3 : Tk w2 (· < w1.heap.size) (.slice a4 (Pp.restA R).length c4) (Pp.restA R) := t2
        have hX2 := hX.below hB2
        have hv2 : ∀ g, (Value.slice a1 X.length c1).ownBlock = some g → g < w2.heap.size := fun g hg => (hX2.1.lt g hg).2
        have hB12 := hB.trans (hB2.mono hB.size)
        have hBw2 := hBw.trans (hB2.mono hBw.size)
        clear hCut t1 hR hX hB hB2 hBw
        cases hc : Pp.cmdA (Pp.newC on) (Pp.pieceA R) with
        | none =>
          have HN : Hid (Pp.goA (Pp.newC 1) L = none) := Lib.hid (by rw [he, Pp.go_new R on h0, hc]; rfl)
          rw [hc] at hCm
          clear he hc h0
          go_wp2_with (go_at_call 23; refine hCm.mono ?_; rintro e w3 ⟨rfl, hB3⟩; have hB4 := hBw2.trans (hB3.mono hBw2.size))
          exact bodyPost_ret (v := .tuple #[.slice none 0 0, .int .i64 6]) (by simp [results, Tryz.results8, go_sem]) rfl (by rw [HE.out, HN.out]; exact ⟨rfl, hB4.alloc hB4.size _⟩)
        | some c =>
          have HN := Lib.hid fun (x : CV) (hx : x.c = c) => line_step (X := X) (x := x) hx h0 he hc
          rw [hc] at hCm
          clear he hc h0
          go_wp2_with (first
            | (go_at_call 23; refine hCm.mono ?_; rintro e w3 ⟨⟨vw, vt, rfl, hIn⟩, hB3⟩; obtain ⟨a5, c5, h5, _⟩ := hIn.1.shape; obtain ⟨a6, c6, h6, _⟩ := hIn.2.shape; simp only at h5 h6; subst h5 h6; have hX3 := fun o o' => ((hX2.below hB3).alloc o).alloc o'; have hB4 := hBw2.trans (hB3.mono hBw2.size); have hB5 := hB12.trans (hB3.mono hB12.size))
            | (at_builtin; refine wpList_append_own_at _ rfl _ _ 37 rfl w1.heap.size C1 i0 (.agg #[.int .i64 0, .slice none 0 0, .slice none 0 0]) 3 56 Tryz.underlying37 hi hz0 hz1 hz2 rfl (by decide) _ _ _ rfl (hX3 _ _).1 ⟨w3.heap.size + 1, 0, none⟩ 1 1 [.int .i64 c.on, .slice a5 c.ws.length c5, .slice a6 c.to.length c6] rfl rfl (three_at _ (by simp) _ _ _ _) (by simp [Value.oneCell']) (by unfold maxLen; omega) (by omega) (by have := hB5.size; simp; omega) ?_; intro v' w4 hown' hgrow _ hat))
          go_roundw
          case rel =>
            have hBa := ((Below.refl w3.heap.size w3).alloc (Nat.le_refl _) (.cells #[.int .i64 c.on, .slice a5 c.ws.length c5, .slice a6 c.to.length c6] C1)).alloc (by simp) (.cells #[.int .i64 c.on, .slice a5 c.ws.length c5, .slice a6 c.to.length c6] C1)
            have hI2 := (hIn.keep fun b hb => hBa.block b hb.2).more fun b hb => (show True ∧ b < _ ∧ some b ≠ (Value.slice a1 X.length c1).ownBlock from ⟨trivial, Nat.lt_of_lt_of_le hb.2 hBa.size, fun e => Nat.lt_irrefl _ (Nat.lt_of_lt_of_le (hv2 b e.symm) hb.1)⟩)
            have hX4 := Bd.snoc (hX3 _ _) hI2 hown' hgrow hat
            have hB6 := ((hB5.alloc hB5.size _).alloc (hB5.alloc hB5.size _).size _).grown hgrow ((hB5.alloc hB5.size _).alloc (hB5.alloc hB5.size _).size _).size fun j ej => (hX2.1.lt j ej).1
            exact ⟨Pp.restA R, a4, c4, X ++ [⟨c, .slice a5 c.ws.length c5, .slice a6 c.to.length c6⟩], Pp.nextA R, rfl, rfl, Rg.keep hP3 fun b hb => (hB6.block b hb).trans (hB12.block b hb).symm, hX4, hB6, HN.out _ rfl, by simp; omega, hB1.trans (hB6.mono hB1.size)⟩
          case measure => exact hrl
end Go.Proofs.YteommneijlelkaaGreatDoor.Px
