/-
  flatironref11.Export, whatever it is told.
-/
import Derived.Test.YtfbddbcedoofeaaJExp
namespace Go.Proofs.Ytfbddbcedoofeaa.Jw
open Go.RowKit Go.Proofs.Ytfbddbcedoofeaa Go.Proofs.Ytfbddbcedoofeaa.Ww Go.Proofs.Ytfbddbcedoofeaa.Tw
set_option maxRecDepth 100000

set_option maxHeartbeats 8000000 in
theorem Export_no (w : World) (lo : Nat) (vl v : Value) (a1 a2 : Option Addr) (c1 c2 : Nat) (T : Jp.T) (L : List Bs) (N : Nat) (hlo : lo ≤ w.heap.size) (hL0 : L ≠ [])
    (hy : w.ownsRow lo ST 1 (.slice a1 T.yes.length c1) T.yes.length (nC T.yes)) (hn : w.ownsRow lo ST 1 (.slice a2 T.no.length c2) T.no.length (nC T.no)) (hv : Rd w w.heap.size v (nC L)) (hvl : ∃ a n c, vl = .slice a n c)
    (hz1 : T.yes.length ≤ N) (hz2 : T.no.length ≤ N) (hz : N + L.length ≤ 1000000) :
    Calls Try.prog 24 #[.agg #[vl, .slice a1 T.yes.length c1, .slice a2 T.no.length c2, .bool T.all], .bool false, v] w (ExPost w lo vl (L.foldl (Jp.stepA false) T)) := by
  obtain ⟨a, c, rfl, hc⟩ := names_rd hv
  obtain ⟨al, nl, cl, rfl⟩ := hvl
  obtain ⟨i0, hi0, hq0, hq1, hq2⟩ := info_parts infoST
  have h3 := ExB.new w #[.slice al nl cl, .slice a1 T.yes.length c1, .slice a2 T.no.length c2, .bool T.all]
  have H3 := Lib.hid h3
  have HY := Lib.hid (owns_below hy h3.below)
  have HN := Lib.hid (owns_below hn h3.below)
  have HV := Lib.hid hv
  have hL1 : 0 < L.length := List.length_pos_iff.2 hL0
  have hL2 : ¬ (L.length : Int) = 0 := by omega
  have hL3 : ((L.length : Int) == 0) = false := by simpa using hL2
  clear h3 hy hn hv hL0
  go_enter Try.func24, Try.ntmps24
  go_wp2_with fail
  go_loopw [7] (fun vi wr => ERel w lo (.slice al nl cl) T false L N vi wr) (fun vi _ => L.length - (intOf vi).toNat)
  case atStart => exact ⟨0, T, a1, a2, c1, c2, rfl, Nat.zero_le _, rfl, H3.out, HY.out, HN.out, hz1, hz2⟩
  case round =>
    obtain ⟨i, T1, b1, b2, d1, d2, rfl, hi, hf, hE, hy, hn, hy1, hn1⟩ := hrel
    clear H3 HY HN hz1 hz2
    have HE := Lib.hid hE
    have hws := hE.lt
    by_cases hlt : i < L.length
    · obtain ⟨b, o, rfl, hb, hx⟩ := rd_name HV.out hlt
      obtain ⟨x, hxx⟩ : ∃ x, L[i] = x := ⟨_, rfl⟩
      have HF : Hid (L.foldl (Jp.stepA false) T = (L.drop (i + 1)).foldl (Jp.stepA false) (Jp.stepA false T1 x)) := Lib.hid (by rw [hf, List.drop_eq_getElem_cons hlt, hxx]; rfl)
      rw [hxx] at hx
      have hki : (i : Int) < L.length := by omega
      have hk0 : (0 : Int) ≤ (i : Int) := Int.natCast_nonneg _
      have hX : ∀ W, Below w.heap.size w W → W.cell? ⟨b, o + i, none⟩ = some (.string (str x)) := fun W h => (h.cell (p := ⟨b, o + i, none⟩) hb).trans hx
      have hbw : b ≠ w.heap.size := by omega
      have HX := Lib.hid hX
      have p0 := hX _ hE.below
      have e1 := cell_at (i := 1) hE.t rfl
      have hl1 := Jp.withoutA_len x T1.yes
      have hl2 := Jp.withoutA_len x T1.no
      have HW1 := Lib.hid (without_any wr.drew lo (.slice b1 T1.yes.length d1) T1.yes x hy (by omega))
      have HN1 := Lib.hid hn
      clear hf hE hy hn hx hX hxx
      go_wp2_with fail
      go_still_tail 6, (by kernel_rfl)
      change wpList _ _ _ _ _ wr.drew
      have HEd : Hid (ExB w #[.slice al nl cl, .slice b1 T1.yes.length d1, .slice b2 T1.no.length d2, .bool T1.all] wr.drew) := Lib.hid HE.out.drew
      have HNd : Hid (wr.drew.ownsRow lo ST 1 (.slice b2 T1.no.length d2) T1.no.length (nC T1.no)) := Lib.hid HN1.out
      have hszd : w.heap.size < wr.drew.heap.size := hws
      have hszd2 : w.heap.size + 1 < wr.drew.heap.size := HEd.out.lt2
      clear HE HN1 p0 e1 hws
      generalize wr.drew = wd at *
      go_wp2_with (go_at_call 32; refine HW1.out.mono ?_; rintro e w2 ⟨v1, rfl, ho1, B1⟩; obtain ⟨g1, k1, rfl⟩ := owns_slice ho1; have hE2 := HEd.out.on B1; have HE2 := Lib.hid hE2; have q1 := cell_at (i := 1) hE2.t rfl; have f1 := frozen_at hE2.t 1; have HO1 := Lib.hid ho1; have HN2 := Lib.hid (owns_below HNd.out B1); have HB1 := Lib.hid B1; have hb12 := hE2.lt; clear hE2 ho1 B1)
      have hE3 := HE2.out.put 1 (.slice g1 (Jp.withoutA x T1.yes).length k1)
      have hN3 := own_put (i := 1) (u := .slice g1 (Jp.withoutA x T1.yes).length k1) HN2.out HE2.out.t neST
      have hY3 := own_put (i := 1) (u := .slice g1 (Jp.withoutA x T1.yes).length k1) HO1.out HE2.out.t neST
      simp only [List.setIfInBounds_toArray, List.set_cons_zero, List.set_cons_succ] at hE3
      have hs2 := HB1.out.size
      have hsz3 : (w2.setCell ⟨w.heap.size, 1, none⟩ (.slice g1 (Jp.withoutA x T1.yes).length k1)).heap.size = w2.heap.size := by simp [World.setCell]
      clear HE2 HN2 HO1 HB1 q1 f1 hb12
      generalize w2.setCell ⟨w.heap.size, 1, none⟩ (.slice g1 (Jp.withoutA x T1.yes).length k1) = W1 at *
      have HE3 := Lib.hid hE3.drew
      have HY3 : Hid (W1.drew.ownsRow wd.heap.size ST 1 (.slice g1 (Jp.withoutA x T1.yes).length k1) (Jp.withoutA x T1.yes).length (nC (Jp.withoutA x T1.yes))) := Lib.hid hY3
      have HW2 := Lib.hid (without_any W1.drew lo (.slice b2 T1.no.length d2) T1.no x hN3 (by omega))
      have e2 := cell_at (i := 2) hE3.t rfl
      have p2 := HX.out _ hE3.below
      have hl3 := hE3.lt
      clear hE3 hN3 hY3
      go_still_tail 6, (by kernel_rfl)
      change wpList _ _ _ _ _ W1.drew
      have hl4 : w.heap.size < W1.drew.heap.size := hl3
      have hs4 : Hid (W1.drew.heap.size = w2.heap.size) := Lib.hid hsz3
      clear e2 p2 hl3 hsz3
      generalize W1.drew = W2 at *
      go_wp2_with (go_at_call 32; refine HW2.out.mono ?_; rintro e w4 ⟨v2, rfl, ho2, B2⟩; obtain ⟨g2, k2, rfl⟩ := owns_slice ho2; have hE4 := HE3.out.on B2; have HE4 := Lib.hid hE4; have q2 := cell_at (i := 2) hE4.t rfl; have f2 := frozen_at hE4.t 2; have HO2 := Lib.hid ho2; have HY4 := Lib.hid (owns_below HY3.out B2); have HB2 := Lib.hid B2; have hb12 := hE4.lt; clear hE4 ho2 B2)
      have hE5 := HE4.out.put 2 (.slice g2 (Jp.withoutA x T1.no).length k2)
      have hN5 := own_put (i := 2) (u := .slice g2 (Jp.withoutA x T1.no).length k2) HO2.out HE4.out.t neST
      have hY5 := own_put (i := 2) (u := .slice g2 (Jp.withoutA x T1.no).length k2) HY4.out HE4.out.t neST
      simp only [List.setIfInBounds_toArray, List.set_cons_zero, List.set_cons_succ] at hE5
      have hs5 := HB2.out.size
      have hy5 : ∀ k, (Value.slice g1 (Jp.withoutA x T1.yes).length k1).ownBlock = some k → wd.heap.size ≤ k ∧ k < W2.heap.size := fun k hk => HY3.out.lt k hk
      have hsz5 : (w4.setCell ⟨w.heap.size, 2, none⟩ (.slice g2 (Jp.withoutA x T1.no).length k2)).heap.size = w4.heap.size := by simp [World.setCell]
      clear HE4 HO2 HY4 HB2 q2 f2 hb12 HE3 HY3 HW2 HW1
      generalize w4.setCell ⟨w.heap.size, 2, none⟩ (.slice g2 (Jp.withoutA x T1.no).length k2) = W3 at *
      have HE5 := Lib.hid hE5.drew
      have HY5 : Hid (W3.drew.ownsRow wd.heap.size ST 1 (.slice g1 (Jp.withoutA x T1.yes).length k1) (Jp.withoutA x T1.yes).length (nC (Jp.withoutA x T1.yes))) := Lib.hid hY5
      have HN5 : Hid (W3.drew.ownsRow W2.heap.size ST 1 (.slice g2 (Jp.withoutA x T1.no).length k2) (Jp.withoutA x T1.no).length (nC (Jp.withoutA x T1.no))) := Lib.hid hN5
      have HY5b := Lib.hid hy5
      have hE5a := fun o => (hE5.on ((Below.refl W3.heap.size W3).alloc (Nat.le_refl _) o)).drew
      have e2 := cell_at (i := 2) hE5.t rfl
      have e2a := fun o => cell_at (i := 2) (hE5a o).t rfl
      have p3 := HX.out _ hE5.below
      have p3a := fun o => HX.out _ (hE5a o).below
      have hl5 := hE5.lt
      have HE5a := Lib.hid hE5a
      have HY5a : Hid (∀ o, (W3.alloc o).drew.ownsRow wd.heap.size ST 1 (.slice g1 (Jp.withoutA x T1.yes).length k1) (Jp.withoutA x T1.yes).length (nC (Jp.withoutA x T1.yes))) := Lib.hid fun o => HY5.out.alloc o
      have HN5a : Hid (∀ o, (W3.alloc o).drew.ownsRow W2.heap.size ST 1 (.slice g2 (Jp.withoutA x T1.no).length k2) (Jp.withoutA x T1.no).length (nC (Jp.withoutA x T1.no))) := Lib.hid fun o => HN5.out.alloc o
      have hs6 := Lib.hid hsz5
      clear hE5 hE5a hY5 hN5 hy5 HE5 HY5 HN5 hsz5
      go_region_law (refine step_append_own rfl _ _ 27 rfl W2.heap.size ST i0 (.string ByteArray.empty) 1 16 Try.underlying27 hi0 hq0 hq1 hq2 rfl (by decide) (.slice g2 (Jp.withoutA x T1.no).length k2) (Jp.withoutA x T1.no).length (nC (Jp.withoutA x T1.no)) (by simp [go_sem]) (HN5a.out _) ⟨W3.heap.size, 0, none⟩ 1 1 [.string (str x)] (by simp [go_sem]) rfl (cells_new _ #[.string (str x)] _ rfl) (by simp [Value.oneCell']) (by unfold maxLen; omega) (by omega) (by have := hs4.out; have := hs6.out; simp; omega) ?_; intro v5 w6 hown6 hgrow6 hat6; obtain ⟨a6, c6, rfl⟩ := owns_slice hown6; have hE6 := (HE5a.out _).grown hgrow6 (fun k hk => by have := ((HN5a.out (.cells #[] ST)).lt k hk).1; have := hs4.out; omega); have HE6 := Lib.hid hE6; have q6 := cell_at (i := 2) hE6.t rfl; have f6 := frozen_at hE6.t 2; have hl7 := hE6.lt; have HO6 := Lib.hid hown6; have HY6 := Lib.hid ((HY5a.out _).kept hgrow6 (by
        rcases Option.eq_none_or_eq_some (Value.slice g1 (Jp.withoutA x T1.yes).length k1).ownBlock with hh | ⟨k, hh⟩
        · exact .inl hh
        · refine .inr fun e => ?_
          have h1 := ((HN5a.out (.cells #[] ST)).lt k (e.symm.trans hh)).1
          have h2 := (HY5b.out k hh).2; have := hs4.out; omega)); clear hE6 hown6)
      all_goals go_wp2_with fail
      all_goals
        have hE7 := HE6.out.put 2 (.slice a6 ((Jp.withoutA x T1.no).length + 1) c6)
        have hN7 := own_put (i := 2) (u := .slice a6 ((Jp.withoutA x T1.no).length + 1) c6) HO6.out HE6.out.t neST
        have hY7 := own_put (i := 2) (u := .slice a6 ((Jp.withoutA x T1.no).length + 1) c6) HY6.out HE6.out.t neST
        simp only [List.setIfInBounds_toArray, List.set_cons_zero, List.set_cons_succ] at hE7
        have hst := step_len false T1 x
        have hT : (Jp.stepA false T1 x).yes = Jp.withoutA x T1.yes ∧ (Jp.stepA false T1 x).no = Jp.withoutA x T1.no ++ [x] ∧ (Jp.stepA false T1 x).all = T1.all := ⟨rfl, rfl, rfl⟩
        generalize Jp.stepA false T1 x = T2 at *
        refine ⟨⟨i + 1, T2, g1, a6, k1, c6, by go_num, hlt, HF.out, ?_, ?_, ?_, by omega, by omega⟩, by simp [intOf]; omega⟩
        · rw [hT.1, hT.2.1, hT.2.2, List.length_append]; exact hE7
        · rw [hT.1]; exact own_mono hY7 (by omega)
        · rw [hT.2.1, List.length_append, nC_snoc]; exact own_mono hN7 (by have := hs4.out; omega)
    · obtain rfl : i = L.length := by omega
      rw [List.drop_length] at hf
      have HF : Hid (L.foldl (Jp.stepA false) T = T1) := Lib.hid hf
      have e0 := cell_at (i := 0) hE.t rfl
      have e1 := cell_at (i := 1) hE.t rfl
      have e2 := cell_at (i := 2) hE.t rfl
      have e3 := cell_at (i := 3) hE.t rfl
      have hki : ¬ (L.length : Int) < L.length := by omega
      have HY1 := Lib.hid hy
      have HN1 := Lib.hid hn
      clear hf hE hy hn
      go_wp2_with (refine wpList_store_row rfl TT _ _ rfl (w.heap.size + 1) #[.slice al nl cl, .slice b1 T1.yes.length d1, .slice b2 T1.no.length d2, .bool T1.all] rfl rfl TT zeroT HE.out.o sizeT rfl (one_t al b1 b2 nl T1.yes.length T1.no.length cl d1 d2 T1.all) ?_)
      (try simp only [Exit.inBlock, Exit.then])
      refine bodyPost_ret (results_one Try.results24 _ _ (w.heap.size + 1) TT #[.slice al nl cl, .slice b1 T1.yes.length d1, .slice b2 T1.no.length d2, .bool T1.all] (0, 0) _ rfl (setRow_heap _ _ _ _ _ _ HE.out.o) undT rfl sizeT) rfl ?_
      rw [HF.out]
      exact ⟨b1, d1, b2, d2, rfl, own_row HY1.out HE.out.o neST, own_row HN1.out HE.out.o neST, below_setRow HE.out.below (by omega) _⟩

set_option maxHeartbeats 2000000 in
theorem Export_nil (w : World) (lo : Nat) (vl : Value) (a a1 a2 : Option Addr) (c c1 c2 : Nat) (T : Jp.T) (yes : Bool)
    (hy : w.ownsRow lo ST 1 (.slice a1 T.yes.length c1) T.yes.length (nC T.yes)) (hn : w.ownsRow lo ST 1 (.slice a2 T.no.length c2) T.no.length (nC T.no)) (hvl : ∃ a n c, vl = .slice a n c) :
    Calls Try.prog 24 #[.agg #[vl, .slice a1 T.yes.length c1, .slice a2 T.no.length c2, .bool T.all], .bool yes, .slice a 0 c] w (ExPost w lo vl { T with all := yes }) := by
  obtain ⟨al, nl, cl, rfl⟩ := hvl
  have h3 := ExB.new w #[.slice al nl cl, .slice a1 T.yes.length c1, .slice a2 T.no.length c2, .bool T.all]
  have hgB : Hid (((w.alloc (.cells #[.slice al nl cl, .slice a1 T.yes.length c1, .slice a2 T.no.length c2, .bool yes] TT)).alloc (.cells #[.slice al nl cl, .slice a1 T.yes.length c1, .slice a2 T.no.length c2, .bool yes] TT)).heap[w.heap.size + 1]? = some (.cells #[.slice al nl cl, .slice a1 T.yes.length c1, .slice a2 T.no.length c2, .bool yes] TT (0, 0))) := Lib.hid (by
    have := heap_last (w.alloc (.cells #[.slice al nl cl, .slice a1 T.yes.length c1, .slice a2 T.no.length c2, .bool yes] TT)) (.cells #[.slice al nl cl, .slice a1 T.yes.length c1, .slice a2 T.no.length c2, .bool yes] TT)
    rw [World.size_alloc] at this; exact this)
  have HB : Hid (∀ o o', Below w.heap.size w ((w.alloc o).alloc o')) := Lib.hid fun o o' => ((Below.refl _ _).alloc (Nat.le_refl _) _).alloc (by simp) _
  have HY := Lib.hid hy
  have HN := Lib.hid hn
  have e3 := cell_at (i := 3) h3.t rfl
  have f3 := frozen_at h3.t 3
  clear h3 hy hn
  go_enter Try.func24, Try.ntmps24
  go_wp2_with fail
  refine wp_loop_rounds 1 ?_
  rw [rounds_succ]
  go_wp2_with fail
  (try simp only [Exit.inBlock, Exit.then])
  refine bodyPost_ret (results_one Try.results24 _ _ (w.heap.size + 1) TT #[.slice al nl cl, .slice a1 T.yes.length c1, .slice a2 T.no.length c2, .bool yes] (0, 0) _ rfl hgB.out undT rfl sizeT) rfl ?_
  exact ⟨a1, c1, a2, c2, rfl, owns_below HY.out (HB.out _ _), owns_below HN.out (HB.out _ _), HB.out _ _⟩

/-- flatironref11.Export. -/
theorem Export_any (w : World) (lo : Nat) (vl v : Value) (a1 a2 : Option Addr) (c1 c2 : Nat) (T : Jp.T) (yes : Bool) (L : List Bs) (N : Nat) (hlo : lo ≤ w.heap.size)
    (hy : w.ownsRow lo ST 1 (.slice a1 T.yes.length c1) T.yes.length (nC T.yes)) (hn : w.ownsRow lo ST 1 (.slice a2 T.no.length c2) T.no.length (nC T.no)) (hv : Rd w w.heap.size v (nC L)) (hvl : ∃ a n c, vl = .slice a n c)
    (hz1 : T.yes.length ≤ N) (hz2 : T.no.length ≤ N) (hz : N + L.length ≤ 1000000) :
    Calls Try.prog 24 #[.agg #[vl, .slice a1 T.yes.length c1, .slice a2 T.no.length c2, .bool T.all], .bool yes, v] w (ExPost w lo vl (Jp.exportA T yes L)) := by
  by_cases hL : L = []
  · subst hL
    obtain ⟨a, c, rfl, _⟩ := hv.shape
    exact Export_nil w lo vl a a1 a2 c c1 c2 T yes hy hn hvl
  · unfold Jp.exportA
    rw [if_neg hL]
    cases yes with
    | true => exact Export_yes w lo vl v a1 a2 c1 c2 T L N hlo hL hy hn hv hvl hz1 hz2 hz
    | false => exact Export_no w lo vl v a1 a2 c1 c2 T L N hlo hL hy hn hv hvl hz1 hz2 hz
end Go.Proofs.Ytfbddbcedoofeaa.Jw
