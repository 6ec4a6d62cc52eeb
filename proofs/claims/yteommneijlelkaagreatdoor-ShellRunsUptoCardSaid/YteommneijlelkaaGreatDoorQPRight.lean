/-
  parse.Right and the reference's: are commands such as a line's?
-/
import Derived.Test.YteommneijlelkaaGreatDoorQPTake
namespace Go.Proofs.YteommneijlelkaaGreatDoor.Px
open Go.RowKit Go.Proofs.YteommneijlelkaaGreatDoor Go.Proofs.YteommneijlelkaaGreatDoor.Lx
set_option maxRecDepth 100000

theorem ok_none {c : Pp.C} (h : ∀ j (h : j < c.to.length), Pp.redB c.to[j].k = true) : c.okB = (Pp.conI c.on && !c.ws.isEmpty) := by
  unfold Pp.C.okB
  have : c.to.all (fun g => Pp.redB g.k) = true := List.all_eq_true.2 fun g hg => by
    obtain ⟨j, hj, rfl⟩ := List.getElem_of_mem hg
    exact h j hj
  rw [this, Bool.true_and]
theorem ok_some {c : Pp.C} {j : Nat} (h : j < c.to.length) (hj : Pp.redB c.to[j].k = false) : c.okB = false := by
  unfold Pp.C.okB
  have : c.to.all (fun g => Pp.redB g.k) = false := by
    rw [← Bool.not_eq_true, List.all_eq_true]
    intro h2
    rw [h2 _ (List.getElem_mem h)] at hj
    cases hj
  rw [this, Bool.false_and]

set_option maxHeartbeats 1000000 in
theorem right1_any (w : World) (c : Pp.C) (vw vt : Value) (b : Bool) (hb : Hid (c.okB = b)) (hI : In w (· < w.heap.size) ⟨c, vw, vt⟩) (hl : c.to.length ≤ 9223372036854775807) (_hw : c.ws.length ≤ 9223372036854775807) :
    Calls Tryz.prog 48 #[.agg #[.int .i64 c.on, vw, vt]] w fun e w' => e = .returned (.bool b) ∧ Below w.heap.size w w' := by
  obtain ⟨a1, c1, h1, _⟩ := hI.1.shape
  obtain ⟨a2, c2, h2, _⟩ := hI.2.shape
  simp only at h1 h2
  subst h1 h2
  have hT := hI.2
  simp only at hT
  clear hI
  have hB0 := fun o => (Below.refl w.heap.size w).alloc (Nat.le_refl _) o
  go_enter Tryz.func48, Tryz.ntmps48
  go_wp2_with fail
  go_loopw [8] (fun v wr => ∃ i : Nat, v = .int .i64 i ∧ i ≤ c.to.length ∧ (∀ j (h : j < c.to.length), j < i → Pp.redB c.to[j].k = true) ∧ wr.heap[w.heap.size]? = some (.cells #[.int .i64 c.on, .slice a1 c.ws.length c1, .slice a2 c.to.length c2] C1 (0, 0)) ∧ Below w.heap.size w wr) (fun v _ => c.to.length - (intOf v).toNat)
  case atStart => exact ⟨0, rfl, Nat.zero_le _, fun j _ hj => absurd hj (Nat.not_lt_zero _), heap_new _ _ rfl, hB0 _⟩
  case round =>
    obtain ⟨i, rfl, hi, hj, hx, hB⟩ := hrel
    by_cases hlt : i < c.to.length
    · obtain ⟨g, o, rfl, hc, hp, hcells⟩ := tos_cells hT (by omega)
      obtain ⟨x1, x2⟩ := hcells i hlt
      have y1 : wr.cell? ⟨g, o + i * 2, none⟩ = some (.int .i64 c.to[i].k) := (hB.cell (p := ⟨g, o + i * 2, none⟩) hp).trans x1
      have y2 : wr.cell? ⟨g, o + i * 2 + 1, none⟩ = some (.string (str c.to[i].p)) := (hB.cell (p := ⟨g, o + i * 2 + 1, none⟩) hp).trans x2
      have hB1 := fun ob => hB.alloc hB.size ob
      have hws : w.heap.size < wr.heap.size := (Array.getElem?_eq_some_iff.1 hx).1
      cases hcb : Pp.redB c.to[i].k with
      | false =>
        have hC := fun W => redirects_any W c.to[i].k false (Lib.hid hcb)
        have HF : Hid (b = false) := Lib.hid (hb.out.symm.trans (ok_some hlt hcb))
        clear hcells x1 x2 hj hcb
        go_wp2_with (go_at_call 75; refine (hC _).mono ?_; rintro e w' ⟨rfl, rfl⟩)
        go_ret
        exact ⟨by rw [HF.out]; rfl, hB1 _⟩
      | true =>
        have hC := fun W => redirects_any W c.to[i].k true (Lib.hid hcb)
        have HJ : Hid (∀ j (h : j < c.to.length), j < i + 1 → Pp.redB c.to[j].k = true) := Lib.hid fun j h1 h2 => by
          rcases Nat.lt_or_ge j i with h3 | h3
          · exact hj j h1 h3
          · obtain rfl : j = i := by omega
            exact hcb
        clear hcells x1 x2 hj hcb
        go_wp2_with (go_at_call 75; refine (hC _).mono ?_; rintro e w' ⟨rfl, rfl⟩)
        go_roundw
        case rel => exact ⟨i + 1, by go_num, hlt, HJ.out, by rw [Below.heap_alloc _ _ _ hws]; exact hx, hB1 _⟩
        case measure => simp [intOf]; omega
    · obtain rfl : i = c.to.length := by omega
      have he := ok_none fun j h => hj j h h
      rw [hb.out] at he
      have q0 : wr.cell? ⟨w.heap.size, 0, none⟩ = some (.int .i64 c.on) := cell_at hx rfl
      have q1 : wr.cell? ⟨w.heap.size, 1, none⟩ = some (.slice a1 c.ws.length c1) := cell_at hx rfl
      cases hcb : Pp.conI c.on with
      | false =>
        have hC := fun W => connects_any W c.on false (Lib.hid hcb)
        have HF : Hid (b = false) := Lib.hid (by rw [he, hcb]; rfl)
        clear hj he hcb
        go_wp2_with (go_at_call 46; refine (hC _).mono ?_; rintro e w' ⟨rfl, rfl⟩)
        go_ret
        exact ⟨by rw [HF.out]; rfl, hB⟩
      | true =>
        have hC := fun W => connects_any W c.on true (Lib.hid hcb)
        have HF : Hid (b = decide (0 < c.ws.length)) := Lib.hid (by
          rw [he, hcb]
          cases c.ws <;> simp)
        clear hj he hcb
        go_wp2_with (go_at_call 46; refine (hC _).mono ?_; rintro e w' ⟨rfl, rfl⟩)
        go_ret
        exact ⟨by rw [HF.out]; simp, hB⟩

theorem right_yes {L : List Pp.C} (h : ∀ j (h : j < L.length), L[j].okB = true ∧ (j = 0 → L[j].on = 1)) : Pp.rightA L = true := by
  cases L with
  | nil => rfl
  | cons c r =>
    obtain ⟨h1, h2⟩ := h 0 (by simp)
    have h2 : c.on = 1 := h2 rfl
    have h1 : c.okB = true := h1
    have h3 : r.all Pp.C.okB = true := List.all_eq_true.2 fun d hd => by
      obtain ⟨j, hj, rfl⟩ := List.getElem_of_mem hd
      have := (h (j + 1) (by simpa using hj)).1
      simpa using this
    show (c.on == 1 && (c.okB && r.all Pp.C.okB)) = true
    rw [h1, h3, h2]; rfl
theorem right_no {L : List Pp.C} {j : Nat} (h : j < L.length) (hj : L[j].okB = false ∨ (j = 0 ∧ L[j].on ≠ 1)) : Pp.rightA L = false := by
  rw [← Bool.not_eq_true]
  intro hr
  cases L with
  | nil => cases h
  | cons c r =>
    have hr : (c.on == 1 && (c.okB && r.all Pp.C.okB)) = true := hr
    rw [Bool.and_eq_true, Bool.and_eq_true, beq_iff_eq, List.all_eq_true] at hr
    rcases hj with hj | ⟨rfl, hj⟩
    · cases j with
      | zero =>
        have hj : c.okB = false := hj
        rw [hr.2.1] at hj; cases hj
      | succ j =>
        have hj : (r[j]'(by simpa using h)).okB = false := hj
        rw [hr.2.2 _ (List.getElem_mem _)] at hj; cases hj
    · exact hj hr.1
theorem cs_in {w : World} {P : Nat → Prop} {v : Value} {X : List CV} (h : Cs w P v X) {k : Nat} (hk : k < X.length) : In w P X[k] := h.2 _ (List.getElem_mem hk)
/-- How many words and redirections the commands have, at most. -/
def Few (X : List CV) : Prop := X.length ≤ 100000 ∧ ∀ x ∈ X, x.c.ws.length ≤ 9223372036854775807 ∧ x.c.to.length ≤ 9223372036854775807

set_option maxHeartbeats 1000000 in
theorem Right_any (w : World) (a : Option Addr) (cp : Nat) (X : List CV) (b : Bool) (hb : Hid (Pp.rightA (X.map CV.c) = b)) (hX : Cs w (· < w.heap.size) (.slice a X.length cp) X) (hf : Few X) :
    Calls Tryz.prog 25 #[.slice a X.length cp] w fun e w' => e = .returned (.bool b) ∧ Below w.heap.size w w' := by
  obtain ⟨hl, hf⟩ := hf
  go_enter Tryz.func25, Tryz.ntmps25
  go_wp2_with fail
  go_loopw [7] (fun v wr => ∃ i : Nat, v = .int .i64 i ∧ i ≤ X.length ∧ (∀ j (h : j < X.length), j < i → X[j].c.okB = true ∧ (j = 0 → X[j].c.on = 1)) ∧ Below w.heap.size w wr) (fun v _ => X.length - (intOf v).toNat)
  case atStart => exact ⟨0, rfl, Nat.zero_le _, fun j _ hj => absurd hj (Nat.not_lt_zero _), Below.refl _ _⟩
  case round =>
    obtain ⟨i, rfl, hi, hj, hB⟩ := hrel
    by_cases hlt : i < X.length
    · obtain ⟨g, o, rfl, hc, hp, hcells⟩ := hX.cells (by omega)
      obtain ⟨x1, x2, x3⟩ := hcells i hlt
      have y1 : wr.cell? ⟨g, o + i * 3, none⟩ = some (.int .i64 X[i].c.on) := (hB.cell (p := ⟨g, o + i * 3, none⟩) hp).trans x1
      have y2 : wr.cell? ⟨g, o + i * 3 + 1, none⟩ = some X[i].vw := (hB.cell (p := ⟨g, o + i * 3 + 1, none⟩) hp).trans x2
      have y3 : wr.cell? ⟨g, o + i * 3 + 2, none⟩ = some X[i].vt := (hB.cell (p := ⟨g, o + i * 3 + 2, none⟩) hp).trans x3
      have hI := (cs_in hX hlt).keep fun b hb => hB.block b hb
      have hB1 := fun ob => hB.alloc hB.size ob
      have hF1 := hf _ (List.getElem_mem hlt)
      have hno := fun h => @right_no (X.map CV.c) i (by simpa using hlt) h
      rw [hb.out] at hno
      simp only [List.getElem_map] at hno
      have HJ : Hid (X[i].c.okB = true → (i = 0 → X[i].c.on = 1) → ∀ j (h : j < X.length), j < i + 1 → X[j].c.okB = true ∧ (j = 0 → X[j].c.on = 1)) := Lib.hid fun h0 h1 j h2 h3 => by
        rcases Nat.lt_or_ge j i with h4 | h4
        · exact hj j h2 h4
        · obtain rfl : j = i := by omega
          exact ⟨h0, h1⟩
      clear hcells x1 x2 x3 hj
      generalize X[i] = x at *
      obtain ⟨c, vw, vt⟩ := x
      obtain ⟨a1, c1, h1, _⟩ := hI.1.shape
      obtain ⟨a2, c2, h2, _⟩ := hI.2.shape
      simp only at h1 h2 y1 y2 y3 hno HJ hF1
      subst h1 h2
      have hR := fun (o : Obj) (q : Bool) (hq : c.okB = q) => right1_any (wr.alloc o) c (.slice a1 c.ws.length c1) (.slice a2 c.to.length c2) q (Lib.hid hq) ((hI.keep fun b hb => Below.heap_alloc _ _ _ (Nat.lt_of_lt_of_le hb hB.size)).more fun b hb => by simp; have := hB.size; omega) hF1.2 hF1.1
      by_cases h0 : i = 0
      · have z1 : wr.cell? ⟨g, o, none⟩ = some (.int .i64 c.on) := by rw [h0] at y1; simpa using y1
        have z2 : wr.cell? ⟨g, o + 1, none⟩ = some (.slice a1 c.ws.length c1) := by rw [h0] at y2; simpa using y2
        have z3 : wr.cell? ⟨g, o + 2, none⟩ = some (.slice a2 c.to.length c2) := by rw [h0] at y3; simpa using y3
        have i0 : ((i : Int) == 0) = true := by rw [h0]; rfl
        by_cases hon : c.on = 1
        · have HO := Lib.hid hon
          rw [hon] at y1 z1
          cases hq : c.okB with
          | true =>
            have hR2 := fun o => hR o true hq
            rw [hon] at hR2
            clear hon
            clear hR hX hI hno
            go_wp2_with (go_at_call 48; refine (hR2 _).mono ?_; rintro e w2 ⟨rfl, hB2⟩; have hB3 := (hB1 _).trans (hB2.mono (hB1 _).size))
            go_roundw
            case rel => exact ⟨i + 1, by go_num, hlt, HJ.out hq (fun _ => HO.out), hB3⟩
            case measure => simp [intOf]; omega
          | false =>
            have HF : Hid (b = false) := Lib.hid (hno (.inl hq))
            have hR2 := fun o => hR o false hq
            rw [hon] at hR2
            clear hon
            clear hR hX hI hno
            go_wp2_with (go_at_call 48; refine (hR2 _).mono ?_; rintro e w2 ⟨rfl, hB2⟩; have hB3 := (hB1 _).trans (hB2.mono (hB1 _).size))
            go_ret
            exact ⟨by rw [HF.out]; rfl, hB3⟩
        · have HF : Hid (b = false) := Lib.hid (hno (.inr ⟨h0, hon⟩))
          have n1 : (c.on != 1) = true := by rw [bne_iff_ne]; exact hon
          have n2 : (c.on == 1) = false := by rw [beq_eq_false_iff_ne]; exact hon
          clear hR hX hI hno
          go_wp2_with fail
          go_ret
          exact ⟨by rw [HF.out]; rfl, hB1 _⟩
      · have i0 : ((i : Int) == 0) = false := by rw [beq_eq_false_iff_ne]; omega
        have i1 : ¬ (i : Int) = 0 := by omega
        cases hq : c.okB with
        | true =>
          have hR2 := fun o => hR o true hq
          clear hR hX hI hno
          go_wp2_with (go_at_call 48; refine (hR2 _).mono ?_; rintro e w2 ⟨rfl, hB2⟩; have hB3 := (hB1 _).trans (hB2.mono (hB1 _).size))
          go_roundw
          case rel => exact ⟨i + 1, by go_num, hlt, HJ.out hq (fun h => absurd h h0), hB3⟩
          case measure => simp [intOf]; omega
        | false =>
          have HF : Hid (b = false) := Lib.hid (hno (.inl hq))
          have hR2 := fun o => hR o false hq
          clear hR hX hI hno
          go_wp2_with (go_at_call 48; refine (hR2 _).mono ?_; rintro e w2 ⟨rfl, hB2⟩; have hB3 := (hB1 _).trans (hB2.mono (hB1 _).size))
          go_ret
          exact ⟨by rw [HF.out]; rfl, hB3⟩
    · obtain rfl : i = X.length := by omega
      have HT : Hid (b = true) := Lib.hid (hb.out.symm.trans (right_yes fun j h => by
        have h' : j < X.length := by simpa using h
        have := hj j h' h'
        simpa using this))
      clear hj
      go_wp2_with fail
      go_ret
      exact ⟨by rw [HT.out]; rfl, hB⟩
end Go.Proofs.YteommneijlelkaaGreatDoor.Px
