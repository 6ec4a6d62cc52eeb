/-
  parse.connects, redirects, cut.
-/
import Derived.Test.YtlkcpegjkmfngaaDoorPBase
namespace Go.Proofs.YtlkcpegjkmfngaaDoor.Px
open Go.RowKit Go.Proofs.YtlkcpegjkmfngaaDoor Go.Proofs.YtlkcpegjkmfngaaDoor.Lx
set_option maxRecDepth 100000

theorem ret_b {b c : Bool} (h : b = c) : Ending.returned (.bool b) = .returned (.bool c) := by rw [h]
theorem connects_any (w : World) (k : Int) (b : Bool) (h : Hid (Pp.conI k = b)) : Calls Tryd.prog 28 #[.int .i64 k] w fun e w' => e = .returned (.bool b) ∧ w = w' := by
  by_cases h1 : k = 1
  · have HT : Hid (b = true) := Lib.hid (by rw [← h.out, h1]; rfl)
    subst h1
    go_enter Tryd.func28, Tryd.ntmps28
    go_wp2_with fail
    go_ret
    exact ⟨by rw [HT.out]; rfl, rfl⟩
  · by_cases h2 : k = 2
    · have HT : Hid (b = true) := Lib.hid (by rw [← h.out, h2]; rfl)
      subst h2
      go_enter Tryd.func28, Tryd.ntmps28
      go_wp2_with fail
      go_ret
      exact ⟨by rw [HT.out]; rfl, rfl⟩
    · have HT : Hid (b = (k == 3)) := Lib.hid (by rw [← h.out]; unfold Pp.conI; rw [beq_eq_false_iff_ne.2 h1, beq_eq_false_iff_ne.2 h2]; rfl)
      have f1 : (k == 1) = false := beq_eq_false_iff_ne.2 h1
      have f2 : (k == 2) = false := beq_eq_false_iff_ne.2 h2
      go_enter Tryd.func28, Tryd.ntmps28
      go_wp2_with fail
      go_ret
      exact ⟨by rw [HT.out]; rfl, rfl⟩
theorem redirects_any (w : World) (k : Int) (b : Bool) (h : Hid (Pp.redB k = b)) : Calls Tryd.prog 36 #[.int .i64 k] w fun e w' => e = .returned (.bool b) ∧ w = w' := by
  by_cases h1 : k = 4
  · have HT : Hid (b = true) := Lib.hid (by rw [← h.out, h1]; rfl)
    subst h1
    go_enter Tryd.func36, Tryd.ntmps36
    go_wp2_with fail
    go_ret
    exact ⟨by rw [HT.out]; rfl, rfl⟩
  · by_cases h2 : k = 5
    · have HT : Hid (b = true) := Lib.hid (by rw [← h.out, h2]; rfl)
      subst h2
      go_enter Tryd.func36, Tryd.ntmps36
      go_wp2_with fail
      go_ret
      exact ⟨by rw [HT.out]; rfl, rfl⟩
    · have HT : Hid (b = (k == 6)) := Lib.hid (by rw [← h.out]; unfold Pp.redB; rw [beq_eq_false_iff_ne.2 h1, beq_eq_false_iff_ne.2 h2]; rfl)
      have f1 : (k == 4) = false := beq_eq_false_iff_ne.2 h1
      have f2 : (k == 5) = false := beq_eq_false_iff_ne.2 h2
      go_enter Tryd.func36, Tryd.ntmps36
      go_wp2_with fail
      go_ret
      exact ⟨by rw [HT.out]; rfl, rfl⟩
theorem con_nat (k : Nat) : Pp.conI (k : Int) = Pp.conB k := by
  have h : ∀ n : Nat, ((k : Int) == (n : Int)) = (k == n) := fun n => by
    by_cases h : k = n
    · subst h; simp
    · rw [beq_eq_false_iff_ne.2 h, beq_eq_false_iff_ne]; omega
  have h1 := h 1
  have h2 := h 2
  have h3 := h 3
  simp only [Pp.conI, Pp.conB]
  rw [← h1, ← h2, ← h3]; rfl

/-- What cut returns. -/
def CutPost (w : World) (P : Nat → Prop) (L : List Lp.T) (e : Ending) (w' : World) : Prop :=
  ∃ v1 v2, e = .returned (.tuple #[v1, .int .i64 (Pp.nextA L), v2]) ∧ Tk w' P v1 (Pp.pieceA L) ∧ Tk w' P v2 (Pp.restA L) ∧ Below w.heap.size w w'
set_option maxHeartbeats 4000000 in
theorem cut_any (w : World) (P : Nat → Prop) (hP : ∀ b, P b → b < w.heap.size) (a : Option Addr) (c : Nat) (L : List Lp.T) (hT : Tk w P (.slice a L.length c) L) (hl : L.length ≤ 100000) :
    Calls Tryd.prog 15 #[.slice a L.length c] w (CutPost w P L) := by
  go_enter Tryd.func15, Tryd.ntmps15
  go_wp2_with fail
  go_loopw [9] (fun v wr => ∃ i : Nat, v = .int .i64 i ∧ i ≤ L.length ∧ (∀ j (h : j < L.length), j < i → Pp.conB L[j].k = false) ∧ Below w.heap.size w wr) (fun v _ => L.length - (intOf v).toNat)
  case atStart => exact ⟨0, rfl, Nat.zero_le _, fun j _ hj => absurd hj (Nat.not_lt_zero _), Below.refl _ _⟩
  case round =>
    obtain ⟨i, rfl, hi, hj, hB⟩ := hrel
    by_cases hlt : i < L.length
    · obtain ⟨b, o, rfl, hc, hp, hcells⟩ := hT.cells (by omega)
      obtain ⟨x1, x2⟩ := hcells i hlt
      have y1 : wr.cell? ⟨b, o + i * 2, none⟩ = some (.int .i64 L[i].k) := (hB.cell (p := ⟨b, o + i * 2, none⟩) (hP b hp)).trans x1
      have y2 : wr.cell? ⟨b, o + i * 2 + 1, none⟩ = some (.string (str L[i].t)) := (hB.cell (p := ⟨b, o + i * 2 + 1, none⟩) (hP b hp)).trans x2
      have hB1 := fun ob => hB.alloc hB.size ob
      have hpl := hP b hp
      cases hcb : Pp.conB L[i].k with
      | true =>
        have hC := fun W => connects_any W (L[i].k : Int) true (Lib.hid (by rw [con_nat]; exact hcb))
        have hcut := Pp.cut_at hlt hj hcb
        have HF : Hid (∀ W v1 v2, Below w.heap.size w W → Tk W P v1 (L.take i) → Tk W P v2 (L.drop (i + 1)) → CutPost w P L (.returned (.tuple #[v1, .int .i64 L[i].k, v2])) W) := Lib.hid fun W v1 v2 hW t1 t2 => ⟨v1, v2, by rw [hcut.2.1], by rw [hcut.1]; exact t1, by rw [hcut.2.2]; exact t2, hW⟩
        clear hcells x1 x2 hj hcut hcb
        go_wp2_with (go_at_call 28; refine (hC _).mono ?_; rintro e w' ⟨rfl, rfl⟩)
        go_quiet (fail)
        have hBd := below_drewN (hB1 (.cells #[.int .i64 L[i].k, .string (str L[i].t)] TT)) nq
        have hTd : Tk _ _ _ _ := Rg.keep hT fun b hb => hBd.block b (hP b hb)
        go_wp2_with fail
        · exact bodyPost_ret (v := .tuple #[.slice (some ⟨b, o, none⟩) i c, .int .i64 L[i].k, .slice (some ⟨b, o, none⟩) (L.length - (i + 1)) (c - (i + 1))]) (by simp [results, Tryd.results15, go_sem]; omega) rfl (HF.out _ _ _ hBd (hTd.take hi) (hTd.drop hlt _ (.inl (by omega))))
        · exact bodyPost_ret (v := .tuple #[.slice (some ⟨b, o, none⟩) i c, .int .i64 L[i].k, .slice (some ⟨b, o + (i + 1) * 2, none⟩) (L.length - (i + 1)) (c - (i + 1))]) (by simp [results, Tryd.results15, go_sem]) rfl (HF.out _ _ _ hBd (hTd.take hi) (hTd.drop hlt _ (.inr rfl)))
      | false =>
        have hC := fun W => connects_any W (L[i].k : Int) false (Lib.hid (by rw [con_nat]; exact hcb))
        have HJ : Hid (∀ j (h : j < L.length), j < i + 1 → Pp.conB L[j].k = false) := Lib.hid fun j h1 h2 => by
          rcases Nat.lt_or_ge j i with h3 | h3
          · exact hj j h1 h3
          · obtain rfl : j = i := by omega
            exact hcb
        clear hcells x1 x2 hj hcb
        go_wp2_with (go_at_call 28; refine (hC _).mono ?_; rintro e w' ⟨rfl, rfl⟩)
        go_roundw
        case rel => exact ⟨i + 1, by go_num, hlt, HJ.out, hB1 _⟩
        case measure => simp [intOf]; omega
    · obtain rfl : i = L.length := by omega
      have hcut := Pp.cut_none fun j h => hj j h h
      have HF : Hid (CutPost w P L (.returned (.tuple #[.slice a L.length c, .int .i64 1, .slice none 0 0])) wr) := Lib.hid ⟨_, _, by rw [hcut.2.1]; rfl, by rw [hcut.1]; exact Rg.keep hT fun b hb => hB.block b (hP b hb), by rw [hcut.2.2]; exact Rg.nil _ _ _ _ _, hB⟩
      clear hj hcut
      go_wp2_with fail
      exact bodyPost_ret (v := .tuple #[.slice a L.length c, .int .i64 1, .slice none 0 0]) (by simp [results, Tryd.results15, go_sem]) rfl HF.out
end Go.Proofs.YtlkcpegjkmfngaaDoor.Px
