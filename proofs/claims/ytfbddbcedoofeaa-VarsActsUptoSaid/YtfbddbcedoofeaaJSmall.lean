/-
  flatironref11: Right, Has, without.
-/
import Derived.Test.YtfbddbcedoofeaaJGet
namespace Go.Proofs.Ytfbddbcedoofeaa.Jw
open Go.RowKit Go.Proofs.Ytfbddbcedoofeaa Go.Proofs.Ytfbddbcedoofeaa.Ww Go.Proofs.Ytfbddbcedoofeaa.Tw
set_option maxRecDepth 100000

theorem emp_yes {l : Bs} (h : l = []) : (str l).toList = [] := by rw [toList_by8]; exact h
theorem emp_no {l : Bs} (h : ¬ l = []) : ¬ (str l).toList = [] := by rw [toList_by8]; exact h
theorem emp_is {l : Bs} (h : ¬ l = []) : (str l).toList.isEmpty = false := by
  cases h' : (str l).toList with
  | nil => exact absurd h' (emp_no h)
  | cons => rfl
set_option maxHeartbeats 2000000 in
theorem Right_any (w : World) (v : Jp.V) : Calls Try.prog 21 #[.agg (vA v)] w fun e w' => e = .returned (.bool (Jp.rightA v)) ∧ Below w.heap.size w w' := by
  have HB := Lib.hid ((Below.refl w.heap.size w).alloc (Nat.le_refl _) (.cells (vA v) VT))
  have hb := heap_last w (.cells (vA v) VT)
  have c0 := cell_at (i := 0) hb rfl
  have c1 := cell_at (i := 1) hb rfl
  have c2 := cell_at (i := 2) hb rfl
  have c3 := cell_at (i := 3) hb rfl
  clear hb
  unfold vA at *
  by_cases h0 : v.n = []
  · have HR : Hid (Jp.rightA v = false) := Lib.hid (by unfold Jp.rightA; rw [h0]; rfl)
    have e0 := emp_yes h0
    clear h0
    go_enter Try.func21, Try.ntmps21
    go_wp2_with fail
    go_ret
    exact ⟨ret_bool HR.out.symm, HB.out⟩
  · have e0 := emp_no h0
    have e1 := emp_is h0
    by_cases h1 : 0 ≤ v.f
    · by_cases h2 : v.f ≤ 4
      · have HR : Hid (Jp.rightA v = true) := Lib.hid (by
          unfold Jp.rightA
          rw [decide_eq_true h1, decide_eq_true h2]
          cases hn : v.n with
          | nil => exact absurd hn h0
          | cons => rfl)
        clear h0
        go_enter Try.func21, Try.ntmps21
        go_wp2_with fail
        go_ret
        exact ⟨ret_bool HR.out.symm, HB.out⟩
      · have HR : Hid (Jp.rightA v = false) := Lib.hid (by
          unfold Jp.rightA
          rw [decide_eq_false h2, Bool.and_false, Bool.and_false])
        clear h0
        go_enter Try.func21, Try.ntmps21
        go_wp2_with fail
        go_ret
        exact ⟨ret_bool HR.out.symm, HB.out⟩
    · have HR : Hid (Jp.rightA v = false) := Lib.hid (by
        unfold Jp.rightA
        rw [decide_eq_false h1, Bool.false_and, Bool.and_false])
      clear h0
      go_enter Try.func21, Try.ntmps21
      go_wp2_with fail
      go_ret
      exact ⟨ret_bool HR.out.symm, HB.out⟩

theorem has_drop {l : List Bs} {k : Bs} {i : Nat} (h : i < l.length) (hn : ¬ l[i] = k) : Jp.hasA (l.drop i) k = Jp.hasA (l.drop (i + 1)) k := by
  rw [List.drop_eq_getElem_cons h]
  show (l[i] == k || Jp.hasA (l.drop (i + 1)) k) = _
  rw [beq_eq_false_iff_ne.2 hn, Bool.false_or]
set_option maxHeartbeats 2000000 in
theorem Has_any (w : World) (lo : Nat) (v : Value) (l : List Bs) (k : Bs) (hl : w.ownsRow lo ST 1 v l.length (nC l)) (hz : l.length ≤ 1000000) :
    Calls Try.prog 28 #[v, .string (str k)] w fun e w' => e = .returned (.bool (Jp.hasA l k)) ∧ w = w' := by
  obtain ⟨a, c, rfl⟩ := owns_slice hl
  have HL := Lib.hid hl
  clear hl
  go_enter Try.func28, Try.ntmps28
  go_wp2_with fail
  go_loop [5] (fun vi => ∃ i : Nat, vi = .int .i64 i ∧ i ≤ l.length ∧ Jp.hasA l k = Jp.hasA (l.drop i) k) (fun vi => l.length - (intOf vi).toNat)
  case atStart => exact ⟨0, rfl, Nat.zero_le _, rfl⟩
  case round =>
    obtain ⟨i, rfl, hi, hg⟩ := hrel
    by_cases hlt : i < l.length
    · obtain ⟨g, rfl, hc, hgl, _, x0⟩ := name_cell HL.out hlt
      have hki : (i : Int) < l.length := by omega
      have hk0 : (0 : Int) ≤ (i : Int) := Int.natCast_nonneg _
      by_cases hk : l[i] = k
      · have HG : Hid (Jp.hasA l k = true) := Lib.hid (hg.trans (by
          rw [List.drop_eq_getElem_cons hlt]
          show (l[i] == k || Jp.hasA (l.drop (i + 1)) k) = _
          rw [beq_iff_eq.2 hk, Bool.true_or]))
        have hq := beq_yes (a := str l[i]) (b := str k) (by rw [by8_str, by8_str]; exact hk)
        clear hg hk
        generalize l[i] = x at *
        go_wp2_with fail
        go_ret
        exact ⟨ret_bool HG.out.symm, rfl⟩
      · have HG : Hid (Jp.hasA l k = Jp.hasA (l.drop (i + 1)) k) := Lib.hid (hg.trans (has_drop hlt hk))
        have hq := beq_no (a := str l[i]) (b := str k) (by rw [by8_str, by8_str]; exact hk)
        clear hg hk
        generalize l[i] = x at *
        go_wp2_with fail
        go_round
        case rel => exact ⟨i + 1, by go_num, hlt, HG.out⟩
        case measure => simp [intOf]; omega
    · obtain rfl : i = l.length := by omega
      have HG : Hid (Jp.hasA l k = false) := Lib.hid (hg.trans (by rw [List.drop_length]; rfl))
      have hki : ¬ (l.length : Int) < l.length := by omega
      clear hg
      go_wp2_with fail
      go_ret
      exact ⟨ret_bool HG.out.symm, rfl⟩

def WoRel (w : World) (l : List Bs) (k : Bs) (vo vi : Value) (wr : World) : Prop :=
  ∃ i : Nat, vi = .int .i64 i ∧ i ≤ l.length ∧ wr.ownsRow w.heap.size ST 1 vo (Jp.withoutA k (l.take i)).length (nC (Jp.withoutA k (l.take i))) ∧ Below w.heap.size w wr
set_option maxHeartbeats 4000000 in
theorem without_any (w : World) (lo : Nat) (v : Value) (l : List Bs) (k : Bs) (hl : w.ownsRow lo ST 1 v l.length (nC l)) (hz : l.length ≤ 1000000) :
    Calls Try.prog 32 #[v, .string (str k)] w fun e w' => ∃ v', e = .returned v' ∧ w'.ownsRow w.heap.size ST 1 v' (Jp.withoutA k l).length (nC (Jp.withoutA k l)) ∧ Below w.heap.size w w' := by
  obtain ⟨a, c, rfl⟩ := owns_slice hl
  obtain ⟨i0, hi0, hz0, hz1, hz2⟩ := info_parts infoST
  have HL := Lib.hid hl
  clear hl
  go_enter Try.func32, Try.ntmps32
  go_wp2_with fail
  go_loopw [5, 6] (fun vo vi wr => WoRel w l k vo vi wr) (fun _ vi _ => l.length - (intOf vi).toNat)
  case atStart => exact ⟨0, rfl, Nat.zero_le _, World.ownsRow_nil _ _ _ _, Below.refl _ _⟩
  case round =>
    obtain ⟨i, rfl, hi, hro, hB⟩ := hrel
    obtain ⟨va, vc, hvv⟩ := owns_slice hro
    subst hvv
    have hll := Jp.withoutA_len k (l.take i)
    rw [List.length_take] at hll
    have HRO := Lib.hid hro
    have HB := Lib.hid hB
    have hws := hB.size
    by_cases hlt : i < l.length
    · obtain ⟨g, rfl, hc, hgl, _, x0⟩ := name_cell HL.out hlt
      have p0 := (hB.cell (p := ⟨g, i, none⟩) hgl).trans x0
      have htk : Jp.withoutA k (l.take (i + 1)) = Jp.withoutA k (l.take i) ++ (if l[i] = k then [] else [l[i]]) := by rw [List.take_succ_eq_append_getElem hlt, Jp.withoutA_snoc]
      have hki : (i : Int) < l.length := by omega
      have hk0 : (0 : Int) ≤ (i : Int) := Int.natCast_nonneg _
      by_cases hk : l[i] = k
      · have hq := beq_yes (a := str l[i]) (b := str k) (by rw [by8_str, by8_str]; exact hk)
        rw [if_pos hk, List.append_nil] at htk
        have HTK := Lib.hid htk
        clear htk hk x0 hro hB
        generalize l[i] = x at *
        generalize Jp.withoutA k (l.take i) = q at *
        go_wp2_with fail
        go_roundw
        case rel => exact ⟨i + 1, by go_num, hlt, by rw [HTK.out]; exact HRO.out, HB.out⟩
        case measure => simp [intOf]; omega
      · have hq := beq_no (a := str l[i]) (b := str k) (by rw [by8_str, by8_str]; exact hk)
        rw [if_neg hk] at htk
        have HTK := Lib.hid htk
        clear htk hk x0 hro hB
        generalize l[i] = x at *
        generalize Jp.withoutA k (l.take i) = q at *
        go_wp2_with (at_builtin; refine wpList_append_own_at _ rfl _ _ 27 rfl w.heap.size ST i0 (.string ByteArray.empty) 1 16 Try.underlying27 hi0 hz0 hz1 hz2 rfl (by decide) _ _ _ rfl (HRO.out.alloc _) ⟨wr.heap.size, 0, none⟩ 1 1 [.string (str x)] rfl rfl (cells_new _ #[.string (str x)] _ rfl) (by simp [Value.oneCell']) (by unfold maxLen; omega) (by omega) (by simp; omega) ?_; intro v' w4 hown' hgrow _ hat; obtain ⟨a4, c4, rfl⟩ := owns_slice hown')
        go_roundw
        case rel => exact ⟨i + 1, by go_num, hlt, by rw [HTK.out, List.length_append, nC_snoc]; exact hown', (HB.out.alloc hws _).grown hgrow (by simp; omega) fun j ej => (HRO.out.lt j ej).1⟩
        case measure => simp [intOf]; omega
    · obtain rfl : i = l.length := by omega
      have HA : Hid (Jp.withoutA k (l.take l.length) = Jp.withoutA k l) := Lib.hid (by rw [List.take_length])
      have hki : ¬ (l.length : Int) < l.length := by omega
      clear hro hB
      go_wp2_with fail
      go_ret
      exact ⟨_, rfl, by have := HRO.out; rw [HA.out] at this; exact this, HB.out⟩
end Go.Proofs.Ytfbddbcedoofeaa.Jw
