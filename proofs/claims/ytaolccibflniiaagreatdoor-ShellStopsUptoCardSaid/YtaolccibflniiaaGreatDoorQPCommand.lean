/-
  parse.command: the command that tokens form.
-/
import Derived.Test.YtaolccibflniiaaGreatDoorQPTake
namespace Go.Proofs.YtaolccibflniiaaGreatDoor.Px
open Go.RowKit Go.Proofs.YtaolccibflniiaaGreatDoor Go.Proofs.YtaolccibflniiaaGreatDoor.Lx
set_option maxRecDepth 100000

def lenOf : Value → Nat
  | .slice _ n _ => n
  | _ => 0
theorem Tk.tail1 {w : World} {P : Nat → Prop} {b o c : Nat} {t : Lp.T} {r : List Lp.T} (h : Tk w P (.slice (some ⟨b, o, none⟩) (r.length + 1) c) (t :: r)) (a : Option Addr) (ha : 1 = c ∨ a = some ⟨b, o + 2, none⟩) : Tk w P (.slice a r.length (c - 1)) r :=
  Tk.drop (L := t :: r) (k := 1) h (by simp) a (by simpa using ha)
theorem Tk.tail2 {w : World} {P : Nat → Prop} {b o c : Nat} {t u : Lp.T} {r : List Lp.T} (h : Tk w P (.slice (some ⟨b, o, none⟩) (r.length + 2) c) (t :: u :: r)) (a : Option Addr) (ha : 2 = c ∨ a = some ⟨b, o + 4, none⟩) : Tk w P (.slice a r.length (c - 2)) r :=
  Tk.drop (L := t :: u :: r) (k := 2) h (by simp) a (by simpa using ha)

/-- Three cells of a block, written. -/
theorem set3 {w : World} {b : Nat} {x y z : Value} {T : TypeId} (h : w.heap[b]? = some (.cells #[x, y, z] T (0, 0))) (u0 u1 u2 : Value) :
    (((w.setCell ⟨b, 0, none⟩ u0).setCell ⟨b, 1, none⟩ u1).setCell ⟨b, 2, none⟩ u2).heap[b]? = some (.cells #[u0, u1, u2] T (0, 0)) ∧ ∀ k, k ≠ b → (((w.setCell ⟨b, 0, none⟩ u0).setCell ⟨b, 1, none⟩ u1).setCell ⟨b, 2, none⟩ u2).heap[k]? = w.heap[k]? := by
  refine ⟨?_, fun k hk => ?_⟩
  · rw [heap_set3 (heap_set3 (heap_set3 h u0) u1) u2]; rfl
  · rw [setCell_keep _ _ _ _ hk, setCell_keep _ _ _ _ hk, setCell_keep _ _ _ _ hk]
theorem box3 {w : World} {b : Nat} {x y z : Value} {T : TypeId} (h : w.heap[b]? = some (.cells #[x, y, z] T (0, 0))) : w.cell? ⟨b, 0, none⟩ = some x ∧ w.cell? ⟨b, 1, none⟩ = some y ∧ w.cell? ⟨b, 2, none⟩ = some z := ⟨cell_at h rfl, cell_at h rfl, cell_at h rfl⟩
theorem size3 (w : World) (b : Nat) (u0 u1 u2 : Value) : (((w.setCell ⟨b, 0, none⟩ u0).setCell ⟨b, 1, none⟩ u1).setCell ⟨b, 2, none⟩ u2).heap.size = w.heap.size := by simp [World.setCell]
/-- What command returns. -/
def CmdPost (w : World) (o : Option Pp.C) (e : Ending) (w' : World) : Prop :=
  (match o with
   | none => e = .returned (.tuple #[.agg #[.int .i64 0, .slice none 0 0, .slice none 0 0], .bool false])
   | some c => ∃ vw vt, e = .returned (.tuple #[.agg #[.int .i64 c.on, vw, vt], .bool true]) ∧ In w' (fun b => w.heap.size ≤ b ∧ b < w'.heap.size) ⟨c, vw, vt⟩) ∧ Below w.heap.size w w'
def CmdRel (w : World) (c0 : Pp.C) (L : List Lp.T) (v : Value) (wr : World) : Prop :=
  ∃ (R : List Lp.T) (a : Option Addr) (cp : Nat) (c : Pp.C) (vw vt : Value), v = .slice a R.length cp ∧ Tk wr (· < w.heap.size) (.slice a R.length cp) R ∧ CAt wr (w.heap.size + 1) (w.heap.size + 1 + 1) C1 G1 c vw vt ∧
    wr.heap[w.heap.size]? = some (.cells #[.int .i64 0, .slice none 0 0, .slice none 0 0] C1 (0, 0)) ∧ Below w.heap.size w wr ∧ Pp.cmdA c0 L = Pp.cmdA c R ∧ c.ws.length + c.to.length + R.length ≤ L.length
theorem CmdRel.next {w wr W : World} {c0 c' : Pp.C} {L R : List Lp.T} {a : Option Addr} {cp : Nat} (hT : Tk wr (· < w.heap.size) (.slice a R.length cp) R) (hB : Below w.heap.size w wr) (hz : wr.heap[w.heap.size]? = some (.cells #[.int .i64 0, .slice none 0 0, .slice none 0 0] C1 (0, 0)))
    (hC : ∃ vw vt, CAt W (w.heap.size + 1) (w.heap.size + 1 + 1) C1 G1 c' vw vt) (hW : Below (w.heap.size + 1) wr W) (he : Pp.cmdA c0 L = Pp.cmdA c' R) (hl : c'.ws.length + c'.to.length + R.length ≤ L.length) : CmdRel w c0 L (.slice a R.length cp) W := by
  obtain ⟨vw, vt, hC⟩ := hC
  exact ⟨R, a, cp, c', vw, vt, rfl, Rg.below hT (hW.mono (Nat.le_succ _)), hC, (hW.block _ (Nat.lt_succ_self _)).trans hz, hB.trans (hW.mono (Nat.le_succ _)), he, hl⟩

set_option maxHeartbeats 1000000 in
theorem command_any (w : World) (on : Nat) (a0 : Option Addr) (cp0 : Nat) (L : List Lp.T) (hT : Tk w (· < w.heap.size) (.slice a0 L.length cp0) L) (hl : L.length ≤ 100000) :
    Calls Tryz.prog 30 #[.int .i64 on, .slice a0 L.length cp0] w (CmdPost w (Pp.cmdA (Pp.newC on) L)) := by
  have HT := Lib.hid hT
  clear hT
  go_enter Tryz.func30, Tryz.ntmps30
  go_wp2_with fail
  go_loopw [1] (fun v wr => CmdRel w (Pp.newC on) L v wr) (fun v _ => lenOf v)
  case atStart =>
    have hB := ((Below.refl w.heap.size w).alloc (Nat.le_refl _) (.cells #[.int .i64 0, .slice none 0 0, .slice none 0 0] C1)).alloc (by simp) (.cells #[.int .i64 on, .slice none 0 0, .slice none 0 0] C1)
    refine ⟨L, a0, cp0, Pp.newC on, .slice none 0 0, .slice none 0 0, rfl, Rg.below HT.out hB, ⟨heap_new _ _ (by simp), World.ownsRow_nil _ _ _ _, World.ownsRow_nil _ _ _ _⟩, ?_, hB, rfl, by simp [Pp.newC]⟩
    rw [Below.heap_alloc _ _ _ (by simp)]
    exact heap_new _ _ rfl
  case round =>
    obtain ⟨R, a, cp, c, vw, vt, rfl, hR, hC, hz, hB, he, hlen⟩ := hrel
    rcases R with _ | ⟨⟨k, s⟩, r⟩
    · obtain ⟨q0, q1, q2, qz⟩ := hC.cells
      have hlt := hC.lt
      have z0 : wr.cell? ⟨w.heap.size, 0, none⟩ = some (.int .i64 0) := cell_at hz rfl
      have z1 : wr.cell? ⟨w.heap.size, 1, none⟩ = some (.slice none 0 0) := cell_at hz rfl
      have z2 : wr.cell? ⟨w.heap.size, 2, none⟩ = some (.slice none 0 0) := cell_at hz rfl
      have zf := fun i => frozen_at hz i
      have hws : w.heap.size < wr.heap.size := (Array.getElem?_eq_some_iff.1 hz).1
      obtain ⟨a1, c1, rfl⟩ := owns_slice hC.rw_
      obtain ⟨a2, c2, rfl⟩ := owns_slice hC.rt
      by_cases h0 : c.ws = []
      · have HE : Hid (Pp.cmdA (Pp.newC on) L = none) := Lib.hid (by rw [he]; exact if_pos h0)
        have hl0 : ((c.ws.length : Int) == 0) = true := by rw [h0]; rfl
        have hl1 : c.ws.length = 0 := by rw [h0]; rfl
        clear he hC h0
        go_wp2_with fail
        obtain ⟨d0, d1, d2⟩ := box3 (set3 hz (.int .i64 0) (.slice none 0 0) (.slice none 0 0)).1
        exact bodyPost_ret (v := .tuple #[.agg #[.int .i64 0, .slice none 0 0, .slice none 0 0], .bool false]) (by simp [results, Tryz.results30, go_sem, d0, d1, d2]) rfl ⟨by rw [HE.out], ((hB.setCell (Nat.le_refl _) _).setCell (Nat.le_refl _) _).setCell (Nat.le_refl _) _⟩
      · have HE : Hid (Pp.cmdA (Pp.newC on) L = some c) := Lib.hid (by rw [he]; exact if_neg h0)
        have hpos : 0 < c.ws.length := List.length_pos_iff.2 h0
        have hl0 : ((c.ws.length : Int) == 0) = false := by rw [beq_eq_false_iff_ne]; omega
        clear he h0
        go_wp2_with fail
        obtain ⟨e1, e2⟩ := set3 hz (.int .i64 c.on) (.slice a1 c.ws.length c1) (.slice a2 c.to.length c2)
        obtain ⟨d0, d1, d2⟩ := box3 e1
        have es := size3 wr w.heap.size (.int .i64 c.on) (.slice a1 c.ws.length c1) (.slice a2 c.to.length c2)
        exact bodyPost_ret (v := .tuple #[.agg #[.int .i64 c.on, .slice a1 c.ws.length c1, .slice a2 c.to.length c2], .bool true]) (by simp [results, Tryz.results30, go_sem, d0, d1, d2]) rfl
          ⟨by rw [HE.out]; exact ⟨_, _, rfl, ((Rg.of_own hC.rw_).keep fun b hb => e2 b (by omega)).more fun b hb => ⟨by omega, by rw [es]; exact hb.2.1⟩, ((Rg.of_own hC.rt).keep fun b hb => e2 b (by omega)).more fun b hb => ⟨by omega, by rw [es]; exact hb.2.1⟩⟩, ((hB.setCell (Nat.le_refl _) _).setCell (Nat.le_refl _) _).setCell (Nat.le_refl _) _⟩
    · simp only [List.length_cons] at *
      by_cases hk : k = 0
      · subst hk
        have HK := take_word wr (w.heap.size + 1) c vw vt a cp s r hC (Rg.more hR fun _ h => Nat.lt_succ_of_lt h) (by omega)
        obtain ⟨b', o, rfl, hcp, hp, _⟩ := Tk.cells (L := ⟨0, s⟩ :: r) hR (by simp)
        have hcp' : r.length + 1 ≤ cp := hcp
        have HN : Hid (∀ (W : World) (a : Option Addr), (1 = cp ∨ a = some ⟨b', o + 2, none⟩) → (∃ vw vt, CAt W (w.heap.size + 1) (w.heap.size + 1 + 1) C1 G1 (c.word s) vw vt) → Below (w.heap.size + 1) wr W → CmdRel w (Pp.newC on) L (.slice a r.length (cp - 1)) W) := Lib.hid fun W a ha h1 h2 =>
          CmdRel.next (Tk.tail1 hR a ha) hB hz h1 h2 (by rw [he, Pp.cmd_cons, if_pos rfl]) (by simp [Pp.C.word]; omega)
        clear hC hz he hR
        go_wp2_with (go_at_call 59; refine HK.mono ?_; rintro e w2 ⟨rfl, hC2, hB2⟩)
        go_roundw
        case rel => exact HN.out _ _ (by by_cases h : cp = 1 <;> simp [h]) hC2 hB2
        case measure => simp [lenOf]
      · by_cases hu : ∀ (h : 0 < r.length), r[0].k ≠ 0
        · have HK := take_bad wr (w.heap.size + 1) c vw vt a cp k s r hk hC (Rg.more hR fun _ h => Nat.lt_succ_of_lt h) (by omega) hu
          have HE : Hid (Pp.cmdA (Pp.newC on) L = none) := Lib.hid (by
            rw [he, Pp.cmd_cons, if_neg hk]
            rcases r with _ | ⟨u, r'⟩
            · rfl
            · exact if_neg (hu (by simp)))
          have z0 : wr.cell? ⟨w.heap.size, 0, none⟩ = some (.int .i64 0) := cell_at hz rfl
          clear hC he hR hu
          go_wp2_with (go_at_call 59; refine HK.mono ?_; rintro e w2 ⟨rfl, hC2, hB2⟩; have hz2 := (hB2.block _ (Nat.lt_succ_self _)).trans hz; have z0 : w2.cell? ⟨w.heap.size, 0, none⟩ = some (.int .i64 0) := cell_at hz2 rfl; have z1 : w2.cell? ⟨w.heap.size, 1, none⟩ = some (.slice none 0 0) := cell_at hz2 rfl; have z2 : w2.cell? ⟨w.heap.size, 2, none⟩ = some (.slice none 0 0) := cell_at hz2 rfl; have zf := fun i => frozen_at hz2 i; have hws : w.heap.size < w2.heap.size := (Array.getElem?_eq_some_iff.1 hz2).1)
          have hB3 := hB.trans (hB2.mono (Nat.le_succ _))
          obtain ⟨d0, d1, d2⟩ := box3 (set3 hz2 (.int .i64 0) (.slice none 0 0) (.slice none 0 0)).1
          exact bodyPost_ret (v := .tuple #[.agg #[.int .i64 0, .slice none 0 0, .slice none 0 0], .bool false]) (by simp [results, Tryz.results30, go_sem, d0, d1, d2]) rfl ⟨by rw [HE.out], ((hB3.setCell (Nat.le_refl _) _).setCell (Nat.le_refl _) _).setCell (Nat.le_refl _) _⟩
        · rcases r with _ | ⟨⟨k', s'⟩, r⟩
          · exact absurd (fun h => absurd h (Nat.lt_irrefl _)) hu
          · have hk' : k' = 0 := by
              apply Classical.byContradiction
              exact fun h => hu fun _ => h
            subst hk'
            clear hu
            simp only [List.length_cons] at *
            have HK := take_redir wr (w.heap.size + 1) c vw vt a cp k s s' r hk hC (Rg.more hR fun _ h => Nat.lt_succ_of_lt h) (by omega) (by omega)
            obtain ⟨b', o, rfl, hcp, hp, _⟩ := Tk.cells (L := ⟨k, s⟩ :: ⟨0, s'⟩ :: r) hR (by simp)
            have hcp' : r.length + 2 ≤ cp := hcp
            have HN : Hid (∀ (W : World) (a : Option Addr), (2 = cp ∨ a = some ⟨b', o + 4, none⟩) → (∃ vw vt, CAt W (w.heap.size + 1) (w.heap.size + 1 + 1) C1 G1 (c.redir k s') vw vt) → Below (w.heap.size + 1) wr W → CmdRel w (Pp.newC on) L (.slice a r.length (cp - 2)) W) := Lib.hid fun W a ha h1 h2 =>
              CmdRel.next (Tk.tail2 hR a ha) hB hz h1 h2 (by rw [he, Pp.cmd_cons, if_neg hk]; simp) (by simp [Pp.C.redir]; omega)
            clear hC hz he hR
            go_wp2_with (go_at_call 59; go_must (refine HK.mono ?_); rintro e w2 ⟨rfl, hC2, hB2⟩)
            go_roundw
            case rel => exact HN.out _ _ (by by_cases h : cp = 2 <;> simp [h]) hC2 hB2
            case measure => simp [lenOf]; omega
end Go.Proofs.YtaolccibflniiaaGreatDoor.Px
