/-
  flatironref11.Exports.
-/
import Derived.Test.YtfbddbcedoofeaaJExp2
namespace Go.Proofs.Ytfbddbcedoofeaa.Jw
open Go.RowKit Go.Proofs.Ytfbddbcedoofeaa Go.Proofs.Ytfbddbcedoofeaa.Ww Go.Proofs.Ytfbddbcedoofeaa.Tw
set_option maxRecDepth 100000

theorem out_snoc (T : Jp.T) {l : List Jp.V} {i : Nat} (h : i < l.length) : (l.take (i + 1)).filter (Jp.isOut T) = (l.take i).filter (Jp.isOut T) ++ if Jp.isOut T l[i] = true then [l[i]] else [] := by
  rw [List.take_succ_eq_append_getElem h, List.filter_append]
  congr 1
  by_cases h : Jp.isOut T l[i] = true
  · rw [if_pos h]; simp [h]
  · rw [if_neg h]; simp [h]
def XRel (w : World) (T : Jp.T) (l : List Jp.V) (t : Array Value) (vo vi : Value) (wr : World) : Prop :=
  ∃ (i : Nat) (q : List Jp.V), vi = .int .i64 i ∧ i ≤ l.length ∧ q = (l.take i).filter (Jp.isOut T) ∧ q.length ≤ i ∧ wr.ownsRow w.heap.size VT 4 vo q.length (vsC q) ∧ Below w.heap.size w wr ∧ wr.heap[w.heap.size]? = some (.cells t TT (0, 0)) ∧ ∀ k, vo.ownBlock = some k → w.heap.size < k
set_option maxHeartbeats 8000000 in
theorem Exports_any (w : World) (lo : Nat) (a0 a1 a2 : Option Addr) (c0 c1 c2 : Nat) (T : Jp.T) (hl : w.ownsRow lo VT 4 (.slice a0 T.l.length c0) T.l.length (vsC T.l)) (hy : w.ownsRow lo ST 1 (.slice a1 T.yes.length c1) T.yes.length (nC T.yes)) (hn : w.ownsRow lo ST 1 (.slice a2 T.no.length c2) T.no.length (nC T.no))
    (hz : T.l.length ≤ 10000) (hz1 : T.yes.length ≤ 1000000) (hz2 : T.no.length ≤ 1000000) :
    Calls Try.prog 12 #[.agg #[.slice a0 T.l.length c0, .slice a1 T.yes.length c1, .slice a2 T.no.length c2, .bool T.all]] w fun e w' =>
      ∃ v, e = .returned v ∧ w'.ownsRow w.heap.size VT 4 v (Jp.exportsA T).length (vsC (Jp.exportsA T)) ∧ Below w.heap.size w w' := by
  obtain ⟨i0, hi0, hq0, hq1, hq2⟩ := info_parts infoVT
  have h0 := heap_last w (.cells #[.slice a0 T.l.length c0, .slice a1 T.yes.length c1, .slice a2 T.no.length c2, .bool T.all] TT)
  have hB := (Below.refl w.heap.size w).alloc (Nat.le_refl _) (.cells #[.slice a0 T.l.length c0, .slice a1 T.yes.length c1, .slice a2 T.no.length c2, .bool T.all] TT)
  have hYes := fun (W : World) (h : Below w.heap.size w W) k => Has_any W lo _ T.yes k (owns_below hy h) hz1
  have hNo := fun (W : World) (h : Below w.heap.size w W) k => Has_any W lo _ T.no k (owns_below hn h) hz2
  have H0 := Lib.hid h0
  have HB0 := Lib.hid hB
  have HL := Lib.hid hl
  have HYes := Lib.hid hYes
  have HNo := Lib.hid hNo
  have e0 := cell_at (i := 0) h0 rfl
  have HA : Hid (∀ x, Jp.isOut T x = (Jp.hasA T.yes x.n || (!Jp.hasA T.no x.n && (x.f == 1 || x.f == 3 || (x.f == 2 && T.all))))) := Lib.hid fun x => rfl
  have HX : Hid (Jp.exportsA T = T.l.filter (Jp.isOut T)) := Lib.hid rfl
  generalize Jp.exportsA T = XX at *
  have HS : Hid (∀ (i : Nat) (h : i < T.l.length), (T.l.take (i + 1)).filter (Jp.isOut T) = (T.l.take i).filter (Jp.isOut T) ++ if Jp.isOut T T.l[i] = true then [T.l[i]] else []) := Lib.hid fun i h => out_snoc T h
  clear hB h0 hl hy hn hYes hNo
  go_enter Try.func12, Try.ntmps12
  go_wp2_with fail
  go_loopw [3, 4] (fun vo vi wr => XRel w T T.l #[.slice a0 T.l.length c0, .slice a1 T.yes.length c1, .slice a2 T.no.length c2, .bool T.all] vo vi wr) (fun _ vi _ => T.l.length - (intOf vi).toNat)
  case atStart => exact ⟨0, [], rfl, Nat.zero_le _, rfl, Nat.le_refl _, World.ownsRow_nil _ _ _ _, HB0.out, H0.out, fun k h => by simp [Value.ownBlock] at h⟩
  case round =>
    obtain ⟨i, q, rfl, hi, hq, hqi, hro, hB, ht, hob⟩ := hrel
    obtain ⟨va, vc, hvv⟩ := owns_slice hro
    subst hvv
    clear H0 HB0 e0
    have hws := (Array.getElem?_eq_some_iff.1 ht).1
    have e0 := cell_at (i := 0) ht rfl
    have HB := Lib.hid hB
    have HT := Lib.hid ht
    have HRO := Lib.hid hro
    have HQ := Lib.hid hq
    have HOB := Lib.hid hob
    clear hq hob
    by_cases hlt : i < T.l.length
    · obtain ⟨g, hga, hc, hgl, _, x0, x1, x2, x3⟩ := var_cells HL.out hlt
      subst hga
      have p0 := (hB.cell (p := ⟨g, i * 4, none⟩) hgl).trans x0
      have p1 := (hB.cell (p := ⟨g, i * 4 + 1, none⟩) hgl).trans x1
      have p2 := (hB.cell (p := ⟨g, i * 4 + 2, none⟩) hgl).trans x2
      have p3 := (hB.cell (p := ⟨g, i * 4 + 3, none⟩) hgl).trans x3
      have hS := HS.out i hlt
      rw [← HQ.out] at hS
      have hAx := HA.out T.l[i]
      generalize T.l[i] = x at *
      have B1 := (Below.refl wr.heap.size wr).alloc (Nat.le_refl _) (.cells #[.string (str x.n), .string (str x.x), .bool x.s, .int .i64 x.f] VT)
      have hx := heap_last wr (.cells #[.string (str x.n), .string (str x.x), .bool x.s, .int .i64 x.f] VT)
      have ht1 := (B1.block _ hws).trans ht
      have d1 := cell_at (i := 1) ht1 rfl
      have d2 := cell_at (i := 2) ht1 rfl
      have d3 := cell_at (i := 3) ht1 rfl
      have y0 := cell_at (i := 0) hx rfl
      have y1 := cell_at (i := 1) hx rfl
      have y2 := cell_at (i := 2) hx rfl
      have y3 := cell_at (i := 3) hx rfl
      have HY1 := Lib.hid (HYes.out _ (hB.trans (B1.mono hB.size)) x.n)
      have HN1 := Lib.hid (HNo.out _ (hB.trans (B1.mono hB.size)) x.n)
      have HROa := Lib.hid (hro.alloc (.cells #[.string (str x.n), .string (str x.x), .bool x.s, .int .i64 x.f] VT))
      have HBa := Lib.hid (hB.trans (B1.mono hB.size))
      have HTa := Lib.hid ht1
      have hki : (i : Int) < T.l.length := by omega
      have hk0 : (0 : Int) ≤ (i : Int) := Int.natCast_nonneg _
      obtain ⟨yes, hyes⟩ : ∃ b, Jp.hasA T.yes x.n = b := ⟨_, rfl⟩
      obtain ⟨no, hno⟩ : ∃ b, Jp.hasA T.no x.n = b := ⟨_, rfl⟩
      obtain ⟨all, hall⟩ : ∃ b, T.all = b := ⟨_, rfl⟩
      rw [hyes] at HY1
      rw [hno] at HN1
      rw [hyes, hno, hall] at hAx
      rw [hall] at d3
      clear x0 x1 x2 x3 hB ht hro B1 ht1 hx hyes hno hall
      obtain ⟨xn, xx, xs, xf⟩ := x
      dsimp only at *
      cases yes with
      | true =>
        have HQ2 : Hid (q ++ [⟨xn, xx, xs, xf⟩] = (T.l.take (i + 1)).filter (Jp.isOut T)) := Lib.hid (by rw [hS, hAx]; simp [*])
        clear hS hAx
        go_wp2_with fail
        refine HY1.out.mono ?_
        rintro e w2 ⟨rfl, rfl⟩
        go_wp2_with fail
        refine HN1.out.mono ?_
        rintro e w2 ⟨rfl, rfl⟩
        go_wp2_with (at_builtin; refine wpList_append_own_at _ rfl _ _ 32 rfl w.heap.size VT i0 (.agg #[.string ByteArray.empty, .string ByteArray.empty, .bool false, .int .i64 0]) 4 48 Try.underlying32 hi0 hq0 hq1 hq2 rfl (by decide) _ _ _ rfl (HROa.out.alloc _) ⟨wr.heap.size + 1, 0, none⟩ 1 1 (vC ⟨xn, xx, xs, xf⟩) rfl rfl (cells_new _ #[.string (str xn), .string (str xx), .bool xs, .int .i64 xf] _ (by simp)) (by simp [vC, Value.oneCell']) (by unfold maxLen; omega) (by omega) (by simp; omega) ?_; intro v4 w4 hown4 hgrow4 _ hat4; obtain ⟨a4, c4, rfl⟩ := owns_slice hown4)
        have hws1 := HBa.out.size
        go_roundw
        case rel => exact ⟨i + 1, q ++ [⟨xn, xx, xs, xf⟩], by go_num, hlt, HQ2.out, by simp; omega, by rw [List.length_append, vsC_snoc]; exact hown4, (HBa.out.alloc hws1 _).grown hgrow4 (by simp; omega) (fun j ej => Nat.le_of_lt (HOB.out j ej)), (hgrow4.block _ (by simp; omega) (fun e => Nat.lt_irrefl _ (HOB.out _ e.symm))).trans ((((Below.refl _ _).alloc (Nat.le_refl _) _).block _ (by simp; omega)).trans HTa.out), fun k ek => by
          rcases hat4 with e | e
          · exact HOB.out k (e.symm.trans ek)
          · have h1 := Option.some.inj (e.symm.trans ek); simp at h1; omega⟩
        case measure => simp [intOf]; omega
      | false =>
        cases no with
        | true =>
          have HQ2 : Hid (q = (T.l.take (i + 1)).filter (Jp.isOut T)) := Lib.hid (by rw [hS, hAx]; simp [*])
          clear hS hAx
          go_wp2_with fail
          refine HY1.out.mono ?_
          rintro e w2 ⟨rfl, rfl⟩
          go_wp2_with fail
          refine HN1.out.mono ?_
          rintro e w2 ⟨rfl, rfl⟩
          go_wp2_with fail
          go_roundw
          case rel => exact ⟨i + 1, q, by go_num, hlt, HQ2.out, by omega, HROa.out, HBa.out, HTa.out, HOB.out⟩
          case measure => simp [intOf]; omega
        | false =>
          by_cases h1 : xf = 1
          · subst h1
            have HQ2 : Hid (q ++ [⟨xn, xx, xs, 1⟩] = (T.l.take (i + 1)).filter (Jp.isOut T)) := Lib.hid (by rw [hS, hAx]; simp [*])
            clear hS hAx
            go_wp2_with fail
            refine HY1.out.mono ?_
            rintro e w2 ⟨rfl, rfl⟩
            go_wp2_with fail
            refine HN1.out.mono ?_
            rintro e w2 ⟨rfl, rfl⟩
            go_wp2_with (at_builtin; refine wpList_append_own_at _ rfl _ _ 32 rfl w.heap.size VT i0 (.agg #[.string ByteArray.empty, .string ByteArray.empty, .bool false, .int .i64 0]) 4 48 Try.underlying32 hi0 hq0 hq1 hq2 rfl (by decide) _ _ _ rfl (HROa.out.alloc _) ⟨wr.heap.size + 1, 0, none⟩ 1 1 (vC ⟨xn, xx, xs, 1⟩) rfl rfl (cells_new _ #[.string (str xn), .string (str xx), .bool xs, .int .i64 1] _ (by simp)) (by simp [vC, Value.oneCell']) (by unfold maxLen; omega) (by omega) (by simp; omega) ?_; intro v4 w4 hown4 hgrow4 _ hat4; obtain ⟨a4, c4, rfl⟩ := owns_slice hown4)
            have hws1 := HBa.out.size
            go_roundw
            case rel => exact ⟨i + 1, q ++ [⟨xn, xx, xs, 1⟩], by go_num, hlt, HQ2.out, by simp; omega, by rw [List.length_append, vsC_snoc]; exact hown4, (HBa.out.alloc hws1 _).grown hgrow4 (by simp; omega) (fun j ej => Nat.le_of_lt (HOB.out j ej)), (hgrow4.block _ (by simp; omega) (fun e => Nat.lt_irrefl _ (HOB.out _ e.symm))).trans ((((Below.refl _ _).alloc (Nat.le_refl _) _).block _ (by simp; omega)).trans HTa.out), fun k ek => by
              rcases hat4 with e | e
              · exact HOB.out k (e.symm.trans ek)
              · have h1 := Option.some.inj (e.symm.trans ek); simp at h1; omega⟩
            case measure => simp [intOf]; omega
          · have h1b : (xf == 1) = false := beq_eq_false_iff_ne.2 h1
            by_cases h3 : xf = 3
            · subst h3
              have HQ2 : Hid (q ++ [⟨xn, xx, xs, 3⟩] = (T.l.take (i + 1)).filter (Jp.isOut T)) := Lib.hid (by rw [hS, hAx]; simp [*])
              clear hS hAx
              go_wp2_with fail
              refine HY1.out.mono ?_
              rintro e w2 ⟨rfl, rfl⟩
              go_wp2_with fail
              refine HN1.out.mono ?_
              rintro e w2 ⟨rfl, rfl⟩
              go_wp2_with (at_builtin; refine wpList_append_own_at _ rfl _ _ 32 rfl w.heap.size VT i0 (.agg #[.string ByteArray.empty, .string ByteArray.empty, .bool false, .int .i64 0]) 4 48 Try.underlying32 hi0 hq0 hq1 hq2 rfl (by decide) _ _ _ rfl (HROa.out.alloc _) ⟨wr.heap.size + 1, 0, none⟩ 1 1 (vC ⟨xn, xx, xs, 3⟩) rfl rfl (cells_new _ #[.string (str xn), .string (str xx), .bool xs, .int .i64 3] _ (by simp)) (by simp [vC, Value.oneCell']) (by unfold maxLen; omega) (by omega) (by simp; omega) ?_; intro v4 w4 hown4 hgrow4 _ hat4; obtain ⟨a4, c4, rfl⟩ := owns_slice hown4)
              have hws1 := HBa.out.size
              go_roundw
              case rel => exact ⟨i + 1, q ++ [⟨xn, xx, xs, 3⟩], by go_num, hlt, HQ2.out, by simp; omega, by rw [List.length_append, vsC_snoc]; exact hown4, (HBa.out.alloc hws1 _).grown hgrow4 (by simp; omega) (fun j ej => Nat.le_of_lt (HOB.out j ej)), (hgrow4.block _ (by simp; omega) (fun e => Nat.lt_irrefl _ (HOB.out _ e.symm))).trans ((((Below.refl _ _).alloc (Nat.le_refl _) _).block _ (by simp; omega)).trans HTa.out), fun k ek => by
                rcases hat4 with e | e
                · exact HOB.out k (e.symm.trans ek)
                · have h1 := Option.some.inj (e.symm.trans ek); simp at h1; omega⟩
              case measure => simp [intOf]; omega
            · have h3b : (xf == 3) = false := beq_eq_false_iff_ne.2 h3
              by_cases h2 : xf = 2
              · subst h2
                cases all with
                | true =>
                  have HQ2 : Hid (q ++ [⟨xn, xx, xs, 2⟩] = (T.l.take (i + 1)).filter (Jp.isOut T)) := Lib.hid (by rw [hS, hAx]; simp [*])
                  clear hS hAx
                  go_wp2_with fail
                  refine HY1.out.mono ?_
                  rintro e w2 ⟨rfl, rfl⟩
                  go_wp2_with fail
                  refine HN1.out.mono ?_
                  rintro e w2 ⟨rfl, rfl⟩
                  go_wp2_with (at_builtin; refine wpList_append_own_at _ rfl _ _ 32 rfl w.heap.size VT i0 (.agg #[.string ByteArray.empty, .string ByteArray.empty, .bool false, .int .i64 0]) 4 48 Try.underlying32 hi0 hq0 hq1 hq2 rfl (by decide) _ _ _ rfl (HROa.out.alloc _) ⟨wr.heap.size + 1, 0, none⟩ 1 1 (vC ⟨xn, xx, xs, 2⟩) rfl rfl (cells_new _ #[.string (str xn), .string (str xx), .bool xs, .int .i64 2] _ (by simp)) (by simp [vC, Value.oneCell']) (by unfold maxLen; omega) (by omega) (by simp; omega) ?_; intro v4 w4 hown4 hgrow4 _ hat4; obtain ⟨a4, c4, rfl⟩ := owns_slice hown4)
                  have hws1 := HBa.out.size
                  go_roundw
                  case rel => exact ⟨i + 1, q ++ [⟨xn, xx, xs, 2⟩], by go_num, hlt, HQ2.out, by simp; omega, by rw [List.length_append, vsC_snoc]; exact hown4, (HBa.out.alloc hws1 _).grown hgrow4 (by simp; omega) (fun j ej => Nat.le_of_lt (HOB.out j ej)), (hgrow4.block _ (by simp; omega) (fun e => Nat.lt_irrefl _ (HOB.out _ e.symm))).trans ((((Below.refl _ _).alloc (Nat.le_refl _) _).block _ (by simp; omega)).trans HTa.out), fun k ek => by
                    rcases hat4 with e | e
                    · exact HOB.out k (e.symm.trans ek)
                    · have h1 := Option.some.inj (e.symm.trans ek); simp at h1; omega⟩
                  case measure => simp [intOf]; omega
                | false =>
                  have HQ2 : Hid (q = (T.l.take (i + 1)).filter (Jp.isOut T)) := Lib.hid (by rw [hS, hAx]; simp [*])
                  clear hS hAx
                  go_wp2_with fail
                  refine HY1.out.mono ?_
                  rintro e w2 ⟨rfl, rfl⟩
                  go_wp2_with fail
                  refine HN1.out.mono ?_
                  rintro e w2 ⟨rfl, rfl⟩
                  go_wp2_with fail
                  go_roundw
                  case rel => exact ⟨i + 1, q, by go_num, hlt, HQ2.out, by omega, HROa.out, HBa.out, HTa.out, HOB.out⟩
                  case measure => simp [intOf]; omega
              · have h2b : (xf == 2) = false := beq_eq_false_iff_ne.2 h2
                have HQ2 : Hid (q = (T.l.take (i + 1)).filter (Jp.isOut T)) := Lib.hid (by rw [hS, hAx]; simp [*])
                clear hS hAx
                go_wp2_with fail
                refine HY1.out.mono ?_
                rintro e w2 ⟨rfl, rfl⟩
                go_wp2_with fail
                refine HN1.out.mono ?_
                rintro e w2 ⟨rfl, rfl⟩
                go_wp2_with fail
                go_roundw
                case rel => exact ⟨i + 1, q, by go_num, hlt, HQ2.out, by omega, HROa.out, HBa.out, HTa.out, HOB.out⟩
                case measure => simp [intOf]; omega
    · obtain rfl : i = T.l.length := by omega
      rw [List.take_length] at HQ
      have hki : ¬ (T.l.length : Int) < T.l.length := by omega
      clear hro hB ht
      go_wp2_with fail
      go_ret
      rw [HX.out, ← HQ.out]
      exact ⟨_, rfl, HRO.out, HB.out⟩
end Go.Proofs.Ytfbddbcedoofeaa.Jw
