/-
  flatironref11.Set, where there is one already.
-/
import Derived.Test.YtebagfadcjgllaaGreatDoorJSet
namespace Go.Proofs.YtebagfadcjgllaaGreatDoor.Jw
open Go.RowKit Go.Proofs.YtebagfadcjgllaaGreatDoor Go.Proofs.YtebagfadcjgllaaGreatDoor.Ww Go.Proofs.YtebagfadcjgllaaGreatDoor.Tw
set_option maxRecDepth 100000

set_option maxHeartbeats 8000000 in
theorem Set_put_t (w : World) (lo : Nat) (a1 a2 a3 : Option Addr) (c1 n2 c2 n3 c3 : Nat) (all : Bool) (l : List Jp.V) (v : Jp.V) (on ox : ByteArray) (os : Bool) (ov : Int) (hov : ¬ v.f < ov) (hlo : lo ≤ w.heap.size) (hl : w.ownsRow lo VT 4 (.slice a1 l.length c1) l.length (vsC l)) (hz : l.length ≤ 10000)
    (hG : ∀ W, W.ownsRow lo VT 4 (.slice a1 l.length c1) l.length (vsC l) → Calls Tryz.prog 18 #[.agg #[.slice a1 l.length c1, .slice a2 n2 c2, .slice a3 n3 c3, .bool all], .string (str v.n)] W fun e w' => e = .returned (.tuple #[.agg #[.string on, .string ox, .bool os, .int .i64 ov], .bool true]) ∧ Below W.heap.size W w') :
    Calls Tryz.prog 12 #[.agg (tA (.slice a1 l.length c1) (.slice a2 n2 c2) (.slice a3 n3 c3) all), .agg (vA v)] w (SetPost w lo (.slice a2 n2 c2) (.slice a3 n3 c3) all (Jp.insA v false l)) := by
  obtain ⟨i0, hi0, hz0, hz1, hz2⟩ := info_parts infoVT
  have h3 := Three.new w (tA (.slice a1 l.length c1) (.slice a2 n2 c2) (.slice a3 n3 c3) all) (vA v)
  have H3 := Lib.hid h3
  have d0 := cell_at (i := 0) h3.t rfl
  have d1 := cell_at (i := 1) h3.t rfl
  have d2 := cell_at (i := 2) h3.t rfl
  have d3 := cell_at (i := 3) h3.t rfl
  have b0 := cell_at (i := 0) h3.v rfl
  have hGet := hG _ (owns_below hl h3.below)
  have HL := Lib.hid hl
  clear h3 hl hG
  simp only [tA, vA, zeroT] at d0 d1 d2 d3 b0 hGet
  have HGet := Lib.hid hGet
  clear hGet
  unfold tA vA
  go_enter Tryz.func12, Tryz.ntmps12
  go_wp2_with fail
  refine HGet.out.mono ?_
  rintro e w1 ⟨rfl, B1⟩
  have HB1 := Lib.hid B1
  have h31 := H3.out.on B1
  have ob := heap_last w1 (.cells #[.string on, .string ox, .bool os, .int .i64 ov] VT)
  have H3W := Lib.hid (h31.on ((Below.refl w1.heap.size w1).alloc (Nat.le_refl _) (.cells #[.string on, .string ox, .bool os, .int .i64 ov] VT)))
  have hv3 := cell_at (i := 3) H3W.out.v rfl
  have o3 := cell_at (i := 3) ob rfl
  simp only [vA] at hv3
  clear ob h31 B1 d0 d1 d2 d3 b0
  go_wp2_with fail
  generalize hW : w1.alloc (.cells #[.string on, .string ox, .bool os, .int .i64 ov] VT) = W at *
  go_loopw [7, 8, 9] (fun vo vd vi wr => SRel W l v vo vd vi wr) (fun _ _ vi _ => l.length - (intOf vi).toNat)
  case atStart => exact ⟨0, false, [], rfl, rfl, Nat.zero_le _, Nat.le_refl _, World.ownsRow_nil _ _ _ _, Below.refl _ _, rfl⟩
  case round =>
    obtain ⟨i, d, q, rfl, rfl, hi, hq, hro, hB, hins⟩ := hrel
    obtain ⟨va, vc, hvv⟩ := owns_slice hro
    subst hvv
    have h3r := H3W.out.on hB
    have t0 := cell_at (i := 0) h3r.t rfl
    have v0 := cell_at (i := 0) h3r.v rfl
    have v1 := cell_at (i := 1) h3r.v rfl
    have v2 := cell_at (i := 2) h3r.v rfl
    have v3 := cell_at (i := 3) h3r.v rfl
    simp only [tA, vA] at t0 v0 v1 v2 v3
    have HB := Lib.hid hB
    have hws := hB.size
    have HRO := Lib.hid hro
    have HROd := Lib.hid (show ∀ n, (wr.drewN n).ownsRow W.heap.size VT 4 (.slice va q.length vc) q.length (vsC q) from fun n => hro)
    have HBw := Lib.hid h3r.below
    have H3R := Lib.hid h3r
    by_cases hlt : i < l.length
    · obtain ⟨g, rfl, hc, hgl, _, x0, x1, x2, x3⟩ := var_cells HL.out hlt
      have p0 := (h3r.below.cell (p := ⟨g, i * 4, none⟩) hgl).trans x0
      have p1 := (h3r.below.cell (p := ⟨g, i * 4 + 1, none⟩) hgl).trans x1
      have p2 := (h3r.below.cell (p := ⟨g, i * 4 + 2, none⟩) hgl).trans x2
      have p3 := (h3r.below.cell (p := ⟨g, i * 4 + 3, none⟩) hgl).trans x3
      rw [List.drop_eq_getElem_cons hlt] at hins
      have hki : (i : Int) < l.length := by omega
      have hk0 : (0 : Int) ≤ (i : Int) := Int.natCast_nonneg _
      clear hro hB h3r hv3 o3
      generalize l[i] = x at *
      cases d with
      | true =>
        cases hless : Op.bytesLess x.n v.n with
        | true =>
          by_cases hk : x.n = v.n
          · skip
            have hls : Op.bytesLess (str x.n).toList (str v.n).toList = true := by rw [less_is]; exact hless
            have hke := beq_yes (a := str x.n) (b := str v.n) (by rw [by8_str, by8_str]; exact hk)
            have HIN : Hid (Jp.insA v false l = (q) ++ Jp.insA v true (l.drop (i + 1))) := Lib.hid (by rw [hins, insA_step, hless, if_pos hk]; simp)
            clear hins hless hk
            go_wp2_with fail
            go_quiet (fail)
            go_wp2_with fail
            go_quiet (fail)
            go_wp2_with fail
            go_roundw
            case rel => exact ⟨i + 1, true, q, by go_num, rfl, hlt, by first | omega | (simp; omega), HROd.out _, below_drewN HB.out _, HIN.out⟩
            case measure => simp [intOf]; omega
          · skip
            have hls : Op.bytesLess (str x.n).toList (str v.n).toList = true := by rw [less_is]; exact hless
            have hke := beq_no (a := str x.n) (b := str v.n) (by rw [by8_str, by8_str]; exact hk)
            have HIN : Hid (Jp.insA v false l = (q ++ [x]) ++ Jp.insA v true (l.drop (i + 1))) := Lib.hid (by rw [hins, insA_step, hless, if_neg hk]; simp)
            clear hins hless hk
            go_wp2_with fail
            go_quiet (fail)
            go_wp2_with fail
            go_quiet (fail)
            go_wp2_with (at_builtin; refine wpList_append_own_at _ rfl _ _ 37 rfl W.heap.size VT i0 (.agg #[.string ByteArray.empty, .string ByteArray.empty, .bool false, .int .i64 0]) 4 48 Tryz.underlying37 hi0 hz0 hz1 hz2 rfl (by decide) _ _ _ rfl ((HROd.out _).alloc _) ⟨wr.heap.size, 0, none⟩ 1 1 (vC x) rfl rfl (cells_new _ #[.string (str (x).n), .string (str (x).x), .bool (x).s, .int .i64 (x).f] _ rfl) (by simp [vC, Value.oneCell']) (by unfold maxLen; omega) (by omega) (by rw [World.size_alloc]; exact Nat.le_succ_of_le hws) ?_; intro v4b w4b hown4b hgrow4b _ hat4b; obtain ⟨a4b, c4b, rfl⟩ := owns_slice hown4b; have HB4b := Lib.hid (grow_on HB.out hws hgrow4b (fun j ej => (HRO.out.lt j ej).1)))
            go_roundw
            case rel => exact ⟨i + 1, true, q ++ [x], by go_num, rfl, hlt, by first | omega | (simp; omega), by rw [List.length_append, vsC_snoc]; exact hown4b, HB4b.out, HIN.out⟩
            case measure => simp [intOf]; omega
        | false =>
          by_cases hk : x.n = v.n
          · skip
            have hls : Op.bytesLess (str x.n).toList (str v.n).toList = false := by rw [less_is]; exact hless
            have hke := beq_yes (a := str x.n) (b := str v.n) (by rw [by8_str, by8_str]; exact hk)
            have HIN : Hid (Jp.insA v false l = (q) ++ Jp.insA v true (l.drop (i + 1))) := Lib.hid (by rw [hins, insA_step, hless, if_pos hk]; simp)
            clear hins hless hk
            go_wp2_with fail
            go_quiet (fail)
            go_wp2_with fail
            go_quiet (fail)
            go_wp2_with fail
            go_roundw
            case rel => exact ⟨i + 1, true, q, by go_num, rfl, hlt, by first | omega | (simp; omega), HROd.out _, below_drewN HB.out _, HIN.out⟩
            case measure => simp [intOf]; omega
          · skip
            have hls : Op.bytesLess (str x.n).toList (str v.n).toList = false := by rw [less_is]; exact hless
            have hke := beq_no (a := str x.n) (b := str v.n) (by rw [by8_str, by8_str]; exact hk)
            have HIN : Hid (Jp.insA v false l = (q ++ [x]) ++ Jp.insA v true (l.drop (i + 1))) := Lib.hid (by rw [hins, insA_step, hless, if_neg hk]; simp)
            clear hins hless hk
            go_wp2_with fail
            go_quiet (fail)
            go_wp2_with fail
            go_quiet (fail)
            go_wp2_with (at_builtin; refine wpList_append_own_at _ rfl _ _ 37 rfl W.heap.size VT i0 (.agg #[.string ByteArray.empty, .string ByteArray.empty, .bool false, .int .i64 0]) 4 48 Tryz.underlying37 hi0 hz0 hz1 hz2 rfl (by decide) _ _ _ rfl ((HROd.out _).alloc _) ⟨wr.heap.size, 0, none⟩ 1 1 (vC x) rfl rfl (cells_new _ #[.string (str (x).n), .string (str (x).x), .bool (x).s, .int .i64 (x).f] _ rfl) (by simp [vC, Value.oneCell']) (by unfold maxLen; omega) (by omega) (by rw [World.size_alloc]; exact Nat.le_succ_of_le hws) ?_; intro v4b w4b hown4b hgrow4b _ hat4b; obtain ⟨a4b, c4b, rfl⟩ := owns_slice hown4b; have HB4b := Lib.hid (grow_on HB.out hws hgrow4b (fun j ej => (HRO.out.lt j ej).1)))
            go_roundw
            case rel => exact ⟨i + 1, true, q ++ [x], by go_num, rfl, hlt, by first | omega | (simp; omega), by rw [List.length_append, vsC_snoc]; exact hown4b, HB4b.out, HIN.out⟩
            case measure => simp [intOf]; omega
      | false =>
        cases hless : Op.bytesLess x.n v.n with
        | true =>
          by_cases hk : x.n = v.n
          · skip
            have hls : Op.bytesLess (str x.n).toList (str v.n).toList = true := by rw [less_is]; exact hless
            have hke := beq_yes (a := str x.n) (b := str v.n) (by rw [by8_str, by8_str]; exact hk)
            have HIN : Hid (Jp.insA v false l = (q) ++ Jp.insA v false (l.drop (i + 1))) := Lib.hid (by rw [hins, insA_step, hless, if_pos hk]; simp)
            clear hins hless hk
            go_wp2_with fail
            go_quiet (fail)
            go_wp2_with fail
            go_quiet (fail)
            go_wp2_with fail
            go_roundw
            case rel => exact ⟨i + 1, false, q, by go_num, rfl, hlt, by first | omega | (simp; omega), HROd.out _, below_drewN HB.out _, HIN.out⟩
            case measure => simp [intOf]; omega
          · skip
            have hls : Op.bytesLess (str x.n).toList (str v.n).toList = true := by rw [less_is]; exact hless
            have hke := beq_no (a := str x.n) (b := str v.n) (by rw [by8_str, by8_str]; exact hk)
            have HIN : Hid (Jp.insA v false l = (q ++ [x]) ++ Jp.insA v false (l.drop (i + 1))) := Lib.hid (by rw [hins, insA_step, hless, if_neg hk]; simp)
            clear hins hless hk
            go_wp2_with fail
            go_quiet (fail)
            go_wp2_with fail
            go_quiet (fail)
            go_wp2_with (at_builtin; refine wpList_append_own_at _ rfl _ _ 37 rfl W.heap.size VT i0 (.agg #[.string ByteArray.empty, .string ByteArray.empty, .bool false, .int .i64 0]) 4 48 Tryz.underlying37 hi0 hz0 hz1 hz2 rfl (by decide) _ _ _ rfl ((HROd.out _).alloc _) ⟨wr.heap.size, 0, none⟩ 1 1 (vC x) rfl rfl (cells_new _ #[.string (str (x).n), .string (str (x).x), .bool (x).s, .int .i64 (x).f] _ rfl) (by simp [vC, Value.oneCell']) (by unfold maxLen; omega) (by omega) (by rw [World.size_alloc]; exact Nat.le_succ_of_le hws) ?_; intro v4b w4b hown4b hgrow4b _ hat4b; obtain ⟨a4b, c4b, rfl⟩ := owns_slice hown4b; have HB4b := Lib.hid (grow_on HB.out hws hgrow4b (fun j ej => (HRO.out.lt j ej).1)))
            go_roundw
            case rel => exact ⟨i + 1, false, q ++ [x], by go_num, rfl, hlt, by first | omega | (simp; omega), by rw [List.length_append, vsC_snoc]; exact hown4b, HB4b.out, HIN.out⟩
            case measure => simp [intOf]; omega
        | false =>
          by_cases hk : x.n = v.n
          · skip
            have hls : Op.bytesLess (str x.n).toList (str v.n).toList = false := by rw [less_is]; exact hless
            have hke := beq_yes (a := str x.n) (b := str v.n) (by rw [by8_str, by8_str]; exact hk)
            have HIN : Hid (Jp.insA v false l = (q ++ [v]) ++ Jp.insA v true (l.drop (i + 1))) := Lib.hid (by rw [hins, insA_step, hless, if_pos hk]; simp)
            clear hins hless hk
            go_wp2_with fail
            go_quiet (fail)
            go_wp2_with (at_builtin; refine wpList_append_own_at _ rfl _ _ 37 rfl W.heap.size VT i0 (.agg #[.string ByteArray.empty, .string ByteArray.empty, .bool false, .int .i64 0]) 4 48 Tryz.underlying37 hi0 hz0 hz1 hz2 rfl (by decide) _ _ _ rfl ((HROd.out _).alloc _) ⟨wr.heap.size, 0, none⟩ 1 1 (vC v) rfl rfl (cells_new _ #[.string (str (v).n), .string (str (v).x), .bool (v).s, .int .i64 (v).f] _ rfl) (by simp [vC, Value.oneCell']) (by unfold maxLen; omega) (by omega) (by rw [World.size_alloc]; exact Nat.le_succ_of_le hws) ?_; intro v4a w4a hown4a hgrow4a _ hat4a; obtain ⟨a4a, c4a, rfl⟩ := owns_slice hown4a; have HB4a := Lib.hid (grow_on HB.out hws hgrow4a (fun j ej => (HRO.out.lt j ej).1)); have h34 := H3W.out.on HB4a.out; have HO4d := Lib.hid (show ∀ m, (w4a.drewN m).ownsRow W.heap.size VT 4 (.slice a4a (q.length + 1) c4a) (q.length + 1) (vsC q ++ vC v) from fun m => hown4a); have t0a := cell_at (i := 0) h34.t rfl; have v0a := cell_at (i := 0) h34.v rfl; simp only [tA, vA] at t0a v0a; have hw4 := h34.below; have p0a := (hw4.cell (p := ⟨g, i * 4, none⟩) hgl).trans x0; have p1a := (hw4.cell (p := ⟨g, i * 4 + 1, none⟩) hgl).trans x1; have p2a := (hw4.cell (p := ⟨g, i * 4 + 2, none⟩) hgl).trans x2; have p3a := (hw4.cell (p := ⟨g, i * 4 + 3, none⟩) hgl).trans x3; have hs4 := HB4a.out.size)
            go_quiet (fail)
            go_wp2_with fail
            go_roundw
            case rel => exact ⟨i + 1, true, q ++ [v], by go_num, rfl, hlt, by first | omega | (simp; omega), by rw [List.length_append, vsC_snoc]; exact HO4d.out _, below_drewN HB4a.out _, HIN.out⟩
            case measure => simp [intOf]; omega
          · skip
            have hls : Op.bytesLess (str x.n).toList (str v.n).toList = false := by rw [less_is]; exact hless
            have hke := beq_no (a := str x.n) (b := str v.n) (by rw [by8_str, by8_str]; exact hk)
            have HIN : Hid (Jp.insA v false l = (q ++ [v] ++ [x]) ++ Jp.insA v true (l.drop (i + 1))) := Lib.hid (by rw [hins, insA_step, hless, if_neg hk]; simp)
            clear hins hless hk
            go_wp2_with fail
            go_quiet (fail)
            go_wp2_with (at_builtin; refine wpList_append_own_at _ rfl _ _ 37 rfl W.heap.size VT i0 (.agg #[.string ByteArray.empty, .string ByteArray.empty, .bool false, .int .i64 0]) 4 48 Tryz.underlying37 hi0 hz0 hz1 hz2 rfl (by decide) _ _ _ rfl ((HROd.out _).alloc _) ⟨wr.heap.size, 0, none⟩ 1 1 (vC v) rfl rfl (cells_new _ #[.string (str (v).n), .string (str (v).x), .bool (v).s, .int .i64 (v).f] _ rfl) (by simp [vC, Value.oneCell']) (by unfold maxLen; omega) (by omega) (by rw [World.size_alloc]; exact Nat.le_succ_of_le hws) ?_; intro v4a w4a hown4a hgrow4a _ hat4a; obtain ⟨a4a, c4a, rfl⟩ := owns_slice hown4a; have HB4a := Lib.hid (grow_on HB.out hws hgrow4a (fun j ej => (HRO.out.lt j ej).1)); have h34 := H3W.out.on HB4a.out; have HO4d := Lib.hid (show ∀ m, (w4a.drewN m).ownsRow W.heap.size VT 4 (.slice a4a (q.length + 1) c4a) (q.length + 1) (vsC q ++ vC v) from fun m => hown4a); have t0a := cell_at (i := 0) h34.t rfl; have v0a := cell_at (i := 0) h34.v rfl; simp only [tA, vA] at t0a v0a; have hw4 := h34.below; have p0a := (hw4.cell (p := ⟨g, i * 4, none⟩) hgl).trans x0; have p1a := (hw4.cell (p := ⟨g, i * 4 + 1, none⟩) hgl).trans x1; have p2a := (hw4.cell (p := ⟨g, i * 4 + 2, none⟩) hgl).trans x2; have p3a := (hw4.cell (p := ⟨g, i * 4 + 3, none⟩) hgl).trans x3; have hs4 := HB4a.out.size)
            go_quiet (fail)
            go_wp2_with (at_builtin; refine wpList_append_own_at _ rfl _ _ 37 rfl W.heap.size VT i0 (.agg #[.string ByteArray.empty, .string ByteArray.empty, .bool false, .int .i64 0]) 4 48 Tryz.underlying37 hi0 hz0 hz1 hz2 rfl (by decide) _ _ _ rfl ((HO4d.out _).alloc _) ⟨w4a.heap.size, 0, none⟩ 1 1 (vC x) rfl rfl (cells_new _ #[.string (str (x).n), .string (str (x).x), .bool (x).s, .int .i64 (x).f] _ rfl) (by simp [vC, Value.oneCell']) (by unfold maxLen; omega) (by omega) (by rw [World.size_alloc]; exact Nat.le_succ_of_le hs4) ?_; intro v4b w4b hown4b hgrow4b _ hat4b; obtain ⟨a4b, c4b, rfl⟩ := owns_slice hown4b; have HB4b := Lib.hid (grow_on HB4a.out hs4 hgrow4b (fun j ej => ((HO4d.out 0).lt j ej).1)))
            go_roundw
            case rel => exact ⟨i + 1, true, q ++ [v] ++ [x], by go_num, rfl, hlt, by first | omega | (simp; omega), by rw [List.length_append, List.length_append, vsC_snoc, vsC_snoc]; exact hown4b, HB4b.out, HIN.out⟩
            case measure => simp [intOf]; omega
    · obtain rfl : i = l.length := by omega
      rw [List.drop_length] at hins
      have hki : ¬ (l.length : Int) < l.length := by omega
      have f0 := frozen_at h3r.t 0
      have hWlo : lo ≤ W.heap.size := Nat.le_trans hlo (by rw [← hW, World.size_alloc]; exact Nat.le_succ_of_le (Nat.le_trans H3.out.below.size HB1.out.size))
      have hltb := (Array.getElem?_eq_some_iff.1 h3r.t).1
      cases d with
      | true =>
        have HA : Hid (Jp.insA v false l = q) := Lib.hid (by rw [hins]; simp [Jp.insA])
        have hF := Lib.hid (h3r.fin (.slice va q.length vc))
        have e0 := cell_at (i := 0) hF.out.t rfl
        have e1 := cell_at (i := 1) hF.out.t rfl
        have e2 := cell_at (i := 2) hF.out.t rfl
        have e3 := cell_at (i := 3) hF.out.t rfl
        clear hro hB h3r hv3 o3 hins
        go_wp2_with (refine wpList_store_row rfl TT _ _ rfl (w.heap.size + 2) (tA (.slice va q.length vc) (.slice a2 n2 c2) (.slice a3 n3 c3) all) rfl rfl TT zeroT hF.out.o sizeT rfl (one_t va a2 a3 q.length n2 n3 vc c2 c3 all) ?_)
        (try simp only [Exit.inBlock, Exit.then])
        refine bodyPost_ret (results_one Tryz.results12 _ _ (w.heap.size + 2) TT (tA (.slice va q.length vc) (.slice a2 n2 c2) (.slice a3 n3 c3) all) (0, 0) _ rfl (setRow_heap _ _ _ _ _ _ hF.out.o) undT rfl sizeT) rfl ?_
        rw [HA.out]
        exact ⟨_, rfl, Fin.own H3R.out hWlo HRO.out _ _, below_setRow hF.out.below (by omega) _⟩
      | false =>
        have HA : Hid (Jp.insA v false l = q ++ [v]) := Lib.hid (by rw [hins]; simp [Jp.insA])
        clear hro hB h3r hv3 o3 hins
        go_wp2_with (first
          | (at_builtin; refine wpList_append_own_at _ rfl _ _ 37 rfl W.heap.size VT i0 (.agg #[.string ByteArray.empty, .string ByteArray.empty, .bool false, .int .i64 0]) 4 48 Tryz.underlying37 hi0 hz0 hz1 hz2 rfl (by decide) _ _ _ rfl (HRO.out.alloc _) ⟨wr.heap.size, 0, none⟩ 1 1 (vC v) rfl rfl (cells_new _ #[.string (str v.n), .string (str v.x), .bool v.s, .int .i64 v.f] _ rfl) (by simp [vC, Value.oneCell']) (by unfold maxLen; omega) (by omega) (by rw [World.size_alloc]; exact Nat.le_succ_of_le hws) ?_; intro v4 w4 hown4 hgrow4 _ hat4; obtain ⟨a4, c4, rfl⟩ := owns_slice hown4; have HB4 := Lib.hid (((HB.out).alloc hws _).grown hgrow4 (by rw [World.size_alloc]; exact Nat.le_succ_of_le hws) (fun j ej => (HRO.out.lt j ej).1)); have h34 := H3W.out.on HB4.out; have H34 := Lib.hid h34; have f4 := frozen_at h34.t 0; have t4 := cell_at (i := 0) h34.t rfl; have hlt4 := (Array.getElem?_eq_some_iff.1 h34.t).1; have hF := Lib.hid (h34.fin (.slice a4 (q.length + 1) c4)); have e0 := cell_at (i := 0) hF.out.t rfl; have e1 := cell_at (i := 1) hF.out.t rfl; have e2 := cell_at (i := 2) hF.out.t rfl; have e3 := cell_at (i := 3) hF.out.t rfl; clear h34; simp only [tA] at t4)
          | (refine wpList_store_row rfl TT _ _ rfl (w.heap.size + 2) (tA (.slice a4 (q.length + 1) c4) (.slice a2 n2 c2) (.slice a3 n3 c3) all) rfl rfl TT zeroT hF.out.o sizeT rfl (one_t a4 a2 a3 (q.length + 1) n2 n3 c4 c2 c3 all) ?_))
        (try simp only [Exit.inBlock, Exit.then])
        refine bodyPost_ret (results_one Tryz.results12 _ _ (w.heap.size + 2) TT (tA (.slice a4 (q.length + 1) c4) (.slice a2 n2 c2) (.slice a3 n3 c3) all) (0, 0) _ rfl (setRow_heap _ _ _ _ _ _ hF.out.o) undT rfl sizeT) rfl ?_
        rw [HA.out]
        exact ⟨_, rfl, by have := Fin.own H34.out hWlo hown4 (.slice a4 (q.length + 1) c4) (tA (.slice a4 (q.length + 1) c4) (.slice a2 n2 c2) (.slice a3 n3 c3) all); rw [List.length_append, vsC_snoc]; exact this, below_setRow hF.out.below (by omega) _⟩

set_option maxHeartbeats 2000000 in
/-- One that counts more stays. -/
theorem Set_keep (w : World) (lo : Nat) (a1 a2 a3 : Option Addr) (c1 n2 c2 n3 c3 : Nat) (all : Bool) (l : List Jp.V) (v : Jp.V) (on ox : ByteArray) (os : Bool) (ov : Int) (hov : v.f < ov) (hl : w.ownsRow lo VT 4 (.slice a1 l.length c1) l.length (vsC l))
    (hG : ∀ W, W.ownsRow lo VT 4 (.slice a1 l.length c1) l.length (vsC l) → Calls Tryz.prog 18 #[.agg #[.slice a1 l.length c1, .slice a2 n2 c2, .slice a3 n3 c3, .bool all], .string (str v.n)] W fun e w' => e = .returned (.tuple #[.agg #[.string on, .string ox, .bool os, .int .i64 ov], .bool true]) ∧ Below W.heap.size W w') :
    Calls Tryz.prog 12 #[.agg (tA (.slice a1 l.length c1) (.slice a2 n2 c2) (.slice a3 n3 c3) all), .agg (vA v)] w (SetPost w lo (.slice a2 n2 c2) (.slice a3 n3 c3) all l) := by
  have h3 := Three.new w (tA (.slice a1 l.length c1) (.slice a2 n2 c2) (.slice a3 n3 c3) all) (vA v)
  have H3 := Lib.hid h3
  have d0 := cell_at (i := 0) h3.t rfl
  have d1 := cell_at (i := 1) h3.t rfl
  have d2 := cell_at (i := 2) h3.t rfl
  have d3 := cell_at (i := 3) h3.t rfl
  have b0 := cell_at (i := 0) h3.v rfl
  have hGet := hG _ (owns_below hl h3.below)
  have HL := Lib.hid hl
  clear h3 hl hG
  simp only [tA, vA, zeroT] at d0 d1 d2 d3 b0 hGet
  have HGet := Lib.hid hGet
  clear hGet
  unfold tA vA
  go_enter Tryz.func12, Tryz.ntmps12
  go_wp2_with fail
  refine HGet.out.mono ?_
  rintro e w1 ⟨rfl, B1⟩
  have h31 := H3.out.on B1
  have ob := heap_last w1 (.cells #[.string on, .string ox, .bool os, .int .i64 ov] VT)
  have H3W := Lib.hid (h31.on ((Below.refl w1.heap.size w1).alloc (Nat.le_refl _) (.cells #[.string on, .string ox, .bool os, .int .i64 ov] VT)))
  have hv3 := cell_at (i := 3) H3W.out.v rfl
  have o3 := cell_at (i := 3) ob rfl
  have t0 := cell_at (i := 0) H3W.out.t rfl
  have t1 := cell_at (i := 1) H3W.out.t rfl
  have t2 := cell_at (i := 2) H3W.out.t rfl
  have t3 := cell_at (i := 3) H3W.out.t rfl
  simp only [vA, tA] at hv3 t0 t1 t2 t3
  clear ob h31 B1 d0 d1 d2 d3 b0
  go_wp2_with (refine wpList_store_row rfl TT _ _ rfl (w.heap.size + 2) (tA (.slice a1 l.length c1) (.slice a2 n2 c2) (.slice a3 n3 c3) all) rfl rfl TT zeroT H3W.out.o sizeT rfl (one_t a1 a2 a3 l.length n2 n3 c1 c2 c3 all) ?_)
  (try simp only [Exit.inBlock, Exit.then])
  refine bodyPost_ret (results_one Tryz.results12 _ _ (w.heap.size + 2) TT (tA (.slice a1 l.length c1) (.slice a2 n2 c2) (.slice a3 n3 c3) all) (0, 0) _ rfl (setRow_heap _ _ _ _ _ _ H3W.out.o) undT rfl sizeT) rfl ?_
  exact ⟨_, rfl, own_set (owns_below HL.out H3W.out.below) H3W.out.o, below_setRow H3W.out.below (by omega) _⟩

/-- flatironref11.Set. -/
theorem Set_any (w : World) (lo : Nat) (a1 a2 a3 : Option Addr) (c1 n2 c2 n3 c3 : Nat) (T : Jp.T) (v : Jp.V) (hlo : lo ≤ w.heap.size) (hl : w.ownsRow lo VT 4 (.slice a1 T.l.length c1) T.l.length (vsC T.l)) (hz : T.l.length ≤ 10000) :
    Calls Tryz.prog 12 #[.agg (tA (.slice a1 T.l.length c1) (.slice a2 n2 c2) (.slice a3 n3 c3) T.all), .agg (vA v)] w (SetPost w lo (.slice a2 n2 c2) (.slice a3 n3 c3) T.all (Jp.setA T v).l) := by
  have hG := fun W h => Get_any W lo (.slice a1 T.l.length c1) (.slice a2 n2 c2) (.slice a3 n3 c3) T.all T.l v.n h (by omega)
  unfold Jp.setA
  cases hg : Jp.getA T.l v.n with
  | none =>
    simp only [hg] at hG ⊢
    exact Set_put_f w lo a1 a2 a3 c1 n2 c2 n3 c3 T.all T.l v ⟨#[]⟩ ⟨#[]⟩ false 0 hlo hl hz hG
  | some o =>
    simp only [hg] at hG ⊢
    by_cases h : v.f < o.f
    · rw [if_pos h]
      exact Set_keep w lo a1 a2 a3 c1 n2 c2 n3 c3 T.all T.l v _ _ _ _ h hl hG
    · rw [if_neg h]
      exact Set_put_t w lo a1 a2 a3 c1 n2 c2 n3 c3 T.all T.l v _ _ _ _ h hlo hl hz hG
end Go.Proofs.YtebagfadcjgllaaGreatDoor.Jw
