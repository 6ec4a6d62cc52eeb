/-
  flatironref06.Right.
-/
import Derived.Test.YtlkcpegjkmfngaaDoorPRight
import Derived.Test.YtlkcpegjkmfngaaDoorPOf
namespace Go.Proofs.YtlkcpegjkmfngaaDoor.Px
open Go.RowKit Go.Proofs.YtlkcpegjkmfngaaDoor Go.Proofs.YtlkcpegjkmfngaaDoor.Lx
set_option maxRecDepth 100000

theorem ok_con {c : Pp.C} (h : Pp.conI c.on = false) : c.okB = false := by
  unfold Pp.C.okB
  rw [h]; simp
theorem ok_ws {c : Pp.C} (h : c.ws = []) : c.okB = false := by
  unfold Pp.C.okB
  rw [h]; simp

set_option maxHeartbeats 4000000 in
theorem RRight_any (w : World) (v : Value) (X : List CV) (b : Bool) (hb : Hid (Pp.rightA (X.map CV.c) = b)) (hX : Cs w (· < w.heap.size) v X) (hf : FewC X) :
    Calls Tryd.prog 12 #[v] w fun e w' => e = .returned (.bool b) ∧ Below w.heap.size w w' := by
  obtain ⟨hl, hf⟩ := hf
  obtain ⟨a, cp, rfl, _⟩ := hX.1.shape
  go_enter Tryd.func12, Tryd.ntmps12
  go_wp2_with fail
  go_loopw [3] (fun v wr => ∃ i : Nat, v = .int .i64 i ∧ i ≤ X.length ∧ (∀ j (h : j < X.length), j < i → X[j].c.okB = true ∧ (j = 0 → X[j].c.on = 1)) ∧ Below w.heap.size w wr) (fun v _ => X.length - (intOf v).toNat)
  case atStart => exact ⟨0, rfl, Nat.zero_le _, fun j _ hj => absurd hj (Nat.not_lt_zero _), Below.refl _ _⟩
  case round =>
    obtain ⟨i, rfl, hi, hj, hB⟩ := hrel
    by_cases hlt : i < X.length
    · obtain ⟨g, o, rfl, hc, hp, hcells⟩ := hX.cells (by omega)
      obtain ⟨x1, x2, x3⟩ := hcells i hlt
      have hI := cs_in hX hlt
      have hF1 := hf _ (List.getElem_mem hlt)
      have hki : (i : Int) < X.length := by omega
      have hno := fun h => @right_no (X.map CV.c) i (by simpa using hlt) h
      rw [hb.out] at hno
      simp only [List.getElem_map] at hno
      have HJ : Hid (X[i].c.okB = true → (i = 0 → X[i].c.on = 1) → ∀ j (h : j < X.length), j < i + 1 → X[j].c.okB = true ∧ (j = 0 → X[j].c.on = 1)) := Lib.hid fun h0 h1 j h2 h3 => by
        rcases Nat.lt_or_ge j i with h4 | h4
        · exact hj j h2 h4
        · obtain rfl : j = i := by omega
          exact ⟨h0, h1⟩
      clear hcells hj
      generalize X[i] = x at *
      obtain ⟨c, vw, vt⟩ := x
      obtain ⟨a1, c1, h1, _⟩ := hI.1.shape
      obtain ⟨a2, c2, h2, _⟩ := hI.2.shape
      simp only at h1 h2 x1 x2 x3 hno HJ hF1
      subst h1 h2
      have hT := hI.2
      simp only at hT
      clear hI
      have y1 : wr.cell? ⟨g, o + i * 3, none⟩ = some (.int .i64 c.on) := (hB.cell (p := ⟨g, o + i * 3, none⟩) hp).trans x1
      have y2 : wr.cell? ⟨g, o + i * 3 + 1, none⟩ = some (.slice a1 c.ws.length c1) := (hB.cell (p := ⟨g, o + i * 3 + 1, none⟩) hp).trans x2
      have y3 : wr.cell? ⟨g, o + i * 3 + 2, none⟩ = some (.slice a2 c.to.length c2) := (hB.cell (p := ⟨g, o + i * 3 + 2, none⟩) hp).trans x3
      by_cases hw : c.ws = []
      · have HF : Hid (b = false) := Lib.hid (hno (.inl (ok_ws hw)))
        have hl0 : c.ws.length = 0 := by rw [hw]; rfl
        clear hno hw
        go_wp2_with fail
        go_ret
        exact ⟨by rw [HF.out]; rfl, hB⟩
      · have hwe : Hid (c.ws.isEmpty = false) := Lib.hid (by cases hc : c.ws with
          | nil => exact absurd hc hw
          | cons _ _ => rfl)
        have hl0 : 0 < c.ws.length := List.length_pos_iff.2 hw
        have hl1 : ((c.ws.length : Int) == 0) = false := by rw [beq_eq_false_iff_ne]; omega
        clear hw
        cases hcon : Pp.conI c.on with
        | false =>
          have HF : Hid (b = false) := Lib.hid (hno (.inl (ok_con hcon)))
          by_cases hlo : c.on < 1
          · have d1 : decide (c.on < 1) = true := decide_eq_true hlo
            clear hno hcon
            go_wp2_with fail
            go_ret
            exact ⟨by rw [HF.out]; rfl, hB⟩
          · have d1 : decide (c.on < 1) = false := decide_eq_false hlo
            have h3 : 3 < c.on := by
              have : ¬ (c.on = 1 ∨ c.on = 2 ∨ c.on = 3) := fun e => by
                rcases e with e | e | e <;> (rw [e] at hcon; cases hcon)
              omega
            clear hno hcon
            go_wp2_with fail
            go_ret
            exact ⟨by rw [HF.out]; rfl, hB⟩
        | true =>
          have hk := Pp.conI_is hcon
          have hcon := Lib.hid hcon
          have hlo : ¬ c.on < 1 := by omega
          have h3 : ¬ 3 < c.on := by omega
          have d1 : decide (c.on < 1) = false := decide_eq_false hlo
          have d3 : decide (3 < c.on) = false := decide_eq_false h3
          by_cases h0 : i = 0
          · subst h0
            simp only [Nat.zero_mul, Nat.add_zero] at y1 y2 y3 x1 x2 x3
            by_cases hon : c.on = 1
            · have HO := Lib.hid hon
              have hon2 := Lib.hid hon
              rw [hon] at y1 x1
              clear hlo h3 d1 d3 hk hon
              go_wp2_with fail
              go_loopw [4] (fun vk wx => ∃ k : Nat, vk = .int .i64 k ∧ k ≤ c.to.length ∧ (∀ j (h : j < c.to.length), j < k → Pp.redB c.to[j].k = true) ∧ Below w.heap.size w wx) (fun vk _ => c.to.length - (intOf vk).toNat)
              case atStart => exact ⟨0, rfl, Nat.zero_le _, fun j _ hj => absurd hj (Nat.not_lt_zero _), hB⟩
              case round =>
                clear hB y1 y2 y3
                obtain ⟨k, rfl, hk, hj2, hB⟩ := hrel
                have y1 : wr.cell? ⟨g, o, none⟩ = some (.int .i64 1) := (hB.cell (p := ⟨g, o, none⟩) hp).trans x1
                have y2 : wr.cell? ⟨g, o + 1, none⟩ = some (.slice a1 c.ws.length c1) := (hB.cell (p := ⟨g, o + 1, none⟩) hp).trans x2
                have y3 : wr.cell? ⟨g, o + 2, none⟩ = some (.slice a2 c.to.length c2) := (hB.cell (p := ⟨g, o + 2, none⟩) hp).trans x3
                by_cases hkl : k < c.to.length
                · obtain ⟨g', o', rfl, _, hp', hc'⟩ := tos_cells hT (by omega)
                  obtain ⟨t1, _⟩ := hc' k hkl
                  have t3 : wr.cell? ⟨g', o' + k * 2, none⟩ = some (.int .i64 c.to[k].k) := (hB.cell (p := ⟨g', o' + k * 2, none⟩) hp').trans t1
                  have hki : (k : Int) < c.to.length := by omega
                  cases hr : Pp.redB c.to[k].k with
                  | false =>
                    have HF : Hid (b = false) := Lib.hid (hno (.inl (ok_some hkl hr)))
                    by_cases h4 : c.to[k].k < 4
                    · have d4 : decide (c.to[k].k < 4) = true := decide_eq_true h4
                      clear hc' t1 hj2 hr hno
                      generalize c.to[k].k = q at *
                      go_wp2_with fail
                      go_ret
                      exact ⟨by rw [HF.out]; rfl, hB⟩
                    · have d4 : decide (c.to[k].k < 4) = false := decide_eq_false h4
                      have h6 : 6 < c.to[k].k := by
                        have : ¬ (c.to[k].k = 4 ∨ c.to[k].k = 5 ∨ c.to[k].k = 6) := fun e => by
                          rcases e with e | e | e <;> (rw [e] at hr; cases hr)
                        omega
                      clear hc' t1 hj2 hr hno
                      generalize c.to[k].k = q at *
                      go_wp2_with fail
                      go_ret
                      exact ⟨by rw [HF.out]; rfl, hB⟩
                  | true =>
                    have HJ2 : Hid (∀ j (h : j < c.to.length), j < k + 1 → Pp.redB c.to[j].k = true) := Lib.hid fun j h1 h2 => by
                      rcases Nat.lt_or_ge j k with h3 | h3
                      · exact hj2 j h1 h3
                      · obtain rfl : j = k := by omega
                        exact hr
                    have hr2 := Pp.red_is hr
                    have h4 : ¬ c.to[k].k < 4 := by omega
                    have h6 : ¬ 6 < c.to[k].k := by omega
                    have d4 : decide (c.to[k].k < 4) = false := decide_eq_false h4
                    have d6 : decide (6 < c.to[k].k) = false := decide_eq_false h6
                    clear hc' t1 hj2 hr hr2 hno
                    generalize c.to[k].k = q at *
                    go_wp2_with fail
                    go_roundw
                    case rel => exact ⟨k + 1, by go_num, hkl, HJ2.out, hB⟩
                    case measure => simp [intOf]; omega
                · obtain rfl : k = c.to.length := by omega
                  have HO : Hid (∀ j (h : j < X.length), j < 0 + 1 → X[j].c.okB = true ∧ (j = 0 → X[j].c.on = 1)) := Lib.hid (HJ.out (by rw [ok_none fun j h => hj2 j h h, hcon.out, hwe.out]; rfl) (fun _ => HO.out))
                  clear hj2 hno
                  go_wp2_with fail
                  go_roundw
                  case rel => exact ⟨0 + 1, by go_num, hlt, HO.out, hB⟩
                  case measure => simp [intOf]; omega
            · have HF : Hid (b = false) := Lib.hid (hno (.inr ⟨rfl, hon⟩))
              have n1 : (c.on != 1) = true := by rw [bne_iff_ne]; exact hon
              have n2 : (c.on == 1) = false := by rw [beq_eq_false_iff_ne]; exact hon
              clear hno hk
              go_wp2_with fail
              go_ret
              exact ⟨by rw [HF.out]; rfl, hB⟩
          · have i0 : ((i : Int) == 0) = false := by rw [beq_eq_false_iff_ne]; omega
            have i1 : ¬ (i : Int) = 0 := by omega
            clear hk
            go_wp2_with fail
            go_loopw [4] (fun vk wx => ∃ k : Nat, vk = .int .i64 k ∧ k ≤ c.to.length ∧ (∀ j (h : j < c.to.length), j < k → Pp.redB c.to[j].k = true) ∧ Below w.heap.size w wx) (fun vk _ => c.to.length - (intOf vk).toNat)
            case atStart => exact ⟨0, rfl, Nat.zero_le _, fun j _ hj => absurd hj (Nat.not_lt_zero _), hB⟩
            case round =>
              clear hB y1 y2 y3
              obtain ⟨k, rfl, hk, hj2, hB⟩ := hrel
              have y1 : wr.cell? ⟨g, o + i * 3, none⟩ = some (.int .i64 c.on) := (hB.cell (p := ⟨g, o + i * 3, none⟩) hp).trans x1
              have y2 : wr.cell? ⟨g, o + i * 3 + 1, none⟩ = some (.slice a1 c.ws.length c1) := (hB.cell (p := ⟨g, o + i * 3 + 1, none⟩) hp).trans x2
              have y3 : wr.cell? ⟨g, o + i * 3 + 2, none⟩ = some (.slice a2 c.to.length c2) := (hB.cell (p := ⟨g, o + i * 3 + 2, none⟩) hp).trans x3
              by_cases hkl : k < c.to.length
              · obtain ⟨g', o', rfl, _, hp', hc'⟩ := tos_cells hT (by omega)
                obtain ⟨t1, _⟩ := hc' k hkl
                have t3 : wr.cell? ⟨g', o' + k * 2, none⟩ = some (.int .i64 c.to[k].k) := (hB.cell (p := ⟨g', o' + k * 2, none⟩) hp').trans t1
                have hki : (k : Int) < c.to.length := by omega
                cases hr : Pp.redB c.to[k].k with
                | false =>
                  have HF : Hid (b = false) := Lib.hid (hno (.inl (ok_some hkl hr)))
                  by_cases h4 : c.to[k].k < 4
                  · have d4 : decide (c.to[k].k < 4) = true := decide_eq_true h4
                    clear hc' t1 hj2 hr hno
                    generalize c.to[k].k = q at *
                    go_wp2_with fail
                    go_ret
                    exact ⟨by rw [HF.out]; rfl, hB⟩
                  · have d4 : decide (c.to[k].k < 4) = false := decide_eq_false h4
                    have h6 : 6 < c.to[k].k := by
                      have : ¬ (c.to[k].k = 4 ∨ c.to[k].k = 5 ∨ c.to[k].k = 6) := fun e => by
                        rcases e with e | e | e <;> (rw [e] at hr; cases hr)
                      omega
                    clear hc' t1 hj2 hr hno
                    generalize c.to[k].k = q at *
                    go_wp2_with fail
                    go_ret
                    exact ⟨by rw [HF.out]; rfl, hB⟩
                | true =>
                  have HJ2 : Hid (∀ j (h : j < c.to.length), j < k + 1 → Pp.redB c.to[j].k = true) := Lib.hid fun j h1 h2 => by
                    rcases Nat.lt_or_ge j k with h3 | h3
                    · exact hj2 j h1 h3
                    · obtain rfl : j = k := by omega
                      exact hr
                  have hr2 := Pp.red_is hr
                  have h4 : ¬ c.to[k].k < 4 := by omega
                  have h6 : ¬ 6 < c.to[k].k := by omega
                  have d4 : decide (c.to[k].k < 4) = false := decide_eq_false h4
                  have d6 : decide (6 < c.to[k].k) = false := decide_eq_false h6
                  clear hc' t1 hj2 hr hr2 hno
                  generalize c.to[k].k = q at *
                  go_wp2_with fail
                  go_roundw
                  case rel => exact ⟨k + 1, by go_num, hkl, HJ2.out, hB⟩
                  case measure => simp [intOf]; omega
              · obtain rfl : k = c.to.length := by omega
                have HO : Hid (∀ j (h : j < X.length), j < i + 1 → X[j].c.okB = true ∧ (j = 0 → X[j].c.on = 1)) := Lib.hid (HJ.out (by rw [ok_none fun j h => hj2 j h h, hcon.out, hwe.out]; rfl) (fun h => absurd h h0))
                clear hj2 hno
                go_wp2_with fail
                go_roundw
                case rel => exact ⟨i + 1, by go_num, hlt, HO.out, hB⟩
                case measure => simp [intOf]; omega
    · obtain rfl : i = X.length := by omega
      have HT : Hid (b = true) := Lib.hid (hb.out.symm.trans (right_yes fun j h => by
        have h' : j < X.length := by simpa using h
        have := hj j h' h'
        simpa using this))
      clear hj
      go_wp2_with fail
      go_ret
      exact ⟨by rw [HT.out]; rfl, hB⟩
end Go.Proofs.YtlkcpegjkmfngaaDoor.Px
