/-
  flatironref11.Export.
-/
import Derived.StillTailTactics
import Derived.Deep.RegionLaw
import Derived.Test.YtfbddbcedoofeaaJMore
namespace Go.Proofs.Ytfbddbcedoofeaa.Jw
open Go.RowKit Go.Proofs.Ytfbddbcedoofeaa Go.Proofs.Ytfbddbcedoofeaa.Ww Go.Proofs.Ytfbddbcedoofeaa.Tw
set_option maxRecDepth 100000

theorem step_append_own {P : Program} {ops : Array Oper} {o : Oper} {a : Act} {w : World} {K : Act → World → Prop} {Q : Exit → Act → World → Prop} {E : Prop} (hgd : o.guard = none) (s x : Operand) (t : TypeId)
    (ho : o.op = .call { callee := .builtin .append, args := #[s, x], argTypes := #[t, t] })
    (base : Nat) (e : TypeId) (i : TypeInfo) (z : Value) (size bytes : Nat) (ht : P.underlying t = some (.slice e)) (hi : P.info? e = some i) (hz : i.zero = some z)
    (hsize : i.size = size) (hby : i.bytes = bytes) (hzs : z.cells.size = size) (hsz : 0 < size)
    (v : Value) (n : Nat) (xs : List Value) (hs : a.eval s = v) (hown : w.ownsRow base e size v n xs) (ad : Addr) (m c : Nat) (news : List Value) (hx : a.eval x = .slice (some ad) m c) (hl : news.length = m * size)
    (hnews : ∀ j u, news[j]? = some u → w.cell? (ad.add j) = some u) (h1 : ∀ u ∈ news, u.oneCell' = true)
    (h63 : n + m ≤ maxLen) (hbytes : (n + m) * bytes ≤ 140737488355328) (hbase : base ≤ w.heap.size)
    (h : ∀ v' w', w'.ownsRow base e size v' (n + m) (xs ++ news) → w.grownBy w' v.ownBlock → (v'.ownBlock = v.ownBlock ∨ v'.ownBlock = some w.heap.size) → K (a.put o.dst v') w') :
    if Region.wanted o (yielded ops a.tmps) = true then Oper.wp P o a w K Q else E := by
  rw [if_pos (by simp [Region.wanted, hgd])]
  obtain ⟨v', w', run, own, grew, _, hat⟩ := run_append_own_at (P := P) (w := w) base t o.type e i z size bytes ht hi hz hsize hby hzs hsz v n xs hown ad m c news hl hnews h1 h63 hbytes hbase
  unfold Oper.wp
  simp [execOp, ho, resolve, invoke, builtin, hs, hx, run, Result.andThen]
  exact h v' w' own grew hat

/-- Export's two boxes. -/
structure ExB (w : World) (t : Array Value) (W : World) : Prop where
  t : W.heap[w.heap.size]? = some (.cells t TT (0, 0))
  o : W.heap[w.heap.size + 1]? = some (.cells zeroT TT (0, 0))
  below : Below w.heap.size w W
theorem ExB.new (w : World) (t : Array Value) : ExB w t ((w.alloc (.cells t TT)).alloc (.cells zeroT TT)) := by
  have h1 := heap_last w (.cells t TT)
  have h2 := heap_last (w.alloc (.cells t TT)) (.cells zeroT TT)
  rw [World.size_alloc] at h2
  have B1 := (Below.refl (w.alloc (.cells t TT)).heap.size (w.alloc (.cells t TT))).alloc (Nat.le_refl _) (.cells zeroT TT)
  exact ⟨(B1.block _ (by simp)).trans h1, h2, ((Below.refl _ _).alloc (Nat.le_refl _) _).alloc (by simp) _⟩
theorem ExB.on {w W W' : World} {t : Array Value} (h : ExB w t W) (hB : Below W.heap.size W W') : ExB w t W' :=
  ⟨(hB.block _ (Array.getElem?_eq_some_iff.1 h.t).1).trans h.t, (hB.block _ (Array.getElem?_eq_some_iff.1 h.o).1).trans h.o, h.below.trans (hB.mono h.below.size)⟩
theorem ExB.put {w W : World} {t : Array Value} (h : ExB w t W) (i : Nat) (u : Value) : ExB w (t.setIfInBounds i u) (W.setCell ⟨w.heap.size, i, none⟩ u) :=
  ⟨heap_set h.t u, heap_set_ne h.o (by omega) u, h.below.setCell (p := ⟨w.heap.size, i, none⟩) (Nat.le_refl _) u⟩
theorem ExB.drew {w W : World} {t : Array Value} (h : ExB w t W) : ExB w t W.drew := ⟨h.t, h.o, h.below.drew⟩
theorem ExB.grown {w W W' : World} {t : Array Value} {row : Option Nat} (h : ExB w t W) (hg : W.grownBy W' row) (hr : ∀ k, row = some k → w.heap.size + 1 < k) : ExB w t W' :=
  ⟨(hg.block _ (Array.getElem?_eq_some_iff.1 h.t).1 (fun e => by have := hr _ e.symm; omega)).trans h.t, (hg.block _ (Array.getElem?_eq_some_iff.1 h.o).1 (fun e => by have := hr _ e.symm; omega)).trans h.o, h.below.grown hg h.below.size (fun k hk => by have := hr k hk; omega)⟩
theorem ExB.lt2 {w W : World} {t : Array Value} (h : ExB w t W) : w.heap.size + 1 < W.heap.size := (Array.getElem?_eq_some_iff.1 h.o).1
theorem ExB.lt {w W : World} {t : Array Value} (h : ExB w t W) : w.heap.size < W.heap.size := (Array.getElem?_eq_some_iff.1 h.t).1
theorem own_put {w : World} {lo g i z : Nat} {e : TypeId} {v u : Value} {n : Nat} {xs : List Value} {old : Array Value} (h : w.ownsRow lo e z v n xs) (hg : w.heap[g]? = some (.cells old TT (0, 0))) (he : e ≠ TT) : (w.setCell ⟨g, i, none⟩ u).ownsRow lo e z v n xs := by
  obtain ⟨hl, hr⟩ := h
  refine ⟨hl, ?_⟩
  rcases hr with hr | ⟨k, cap, cur, hv, hb, hk, hrest⟩
  · exact .inl hr
  · refine .inr ⟨k, cap, cur, hv, hb, ?_, hrest⟩
    rw [Below.heap_setCell _ _ _ _ (fun e' => by subst e'; rw [hg] at hk; cases hk; exact he rfl)]
    exact hk
theorem own_row {w : World} {lo g z : Nat} {e : TypeId} {v : Value} {n : Nat} {xs : List Value} {cs old : Array Value} (h : w.ownsRow lo e z v n xs) (hg : w.heap[g]? = some (.cells old TT (0, 0))) (he : e ≠ TT) : (w.setRow g cs).ownsRow lo e z v n xs := by
  obtain ⟨hl, hr⟩ := h
  refine ⟨hl, ?_⟩
  rcases hr with hr | ⟨k, cap, cur, hv, hb, hk, hrest⟩
  · exact .inl hr
  · refine .inr ⟨k, cap, cur, hv, hb, ?_, hrest⟩
    rw [setRow_other _ _ _ _ (fun e' => by subst e'; rw [hg] at hk; cases hk; exact he rfl)]
    exact hk
theorem neST : ST ≠ TT := by decide
/-- What Export returns. -/
def ExPost (w : World) (lo : Nat) (vl : Value) (T : Jp.T) (e : Ending) (w' : World) : Prop :=
  ∃ a1 c1 a2 c2, e = .returned (.agg #[vl, .slice a1 T.yes.length c1, .slice a2 T.no.length c2, .bool T.all]) ∧ w'.ownsRow lo ST 1 (.slice a1 T.yes.length c1) T.yes.length (nC T.yes) ∧ w'.ownsRow lo ST 1 (.slice a2 T.no.length c2) T.no.length (nC T.no) ∧ Below w.heap.size w w'
def ERel (w : World) (lo : Nat) (vl : Value) (T0 : Jp.T) (yes : Bool) (L : List Bs) (N : Nat) (vi : Value) (wr : World) : Prop :=
  ∃ (i : Nat) (T : Jp.T) (a1 a2 : Option Addr) (c1 c2 : Nat), vi = .int .i64 i ∧ i ≤ L.length ∧ L.foldl (Jp.stepA yes) T0 = (L.drop i).foldl (Jp.stepA yes) T ∧
    ExB w #[vl, .slice a1 T.yes.length c1, .slice a2 T.no.length c2, .bool T.all] wr ∧ wr.ownsRow lo ST 1 (.slice a1 T.yes.length c1) T.yes.length (nC T.yes) ∧ wr.ownsRow lo ST 1 (.slice a2 T.no.length c2) T.no.length (nC T.no) ∧ T.yes.length ≤ N + i ∧ T.no.length ≤ N + i
theorem names_rd {w : World} {B : Nat} {v : Value} {L : List Bs} (h : Rd w B v (nC L)) : ∃ a c, v = .slice a L.length c ∧ L.length ≤ c := by
  obtain ⟨a, c, h1, h2⟩ := h.shape
  rw [show (nC L).length = L.length by simp [nC]] at h1 h2
  exact ⟨a, c, h1, h2⟩
theorem rd_name {w : World} {B : Nat} {a : Option Addr} {n c : Nat} {L : List Bs} (h : Rd w B (.slice a n c) (nC L)) {i : Nat} (hi : i < L.length) : ∃ b o, a = some ⟨b, o, none⟩ ∧ b < B ∧ w.cell? ⟨b, o + i, none⟩ = some (.string (str L[i])) := by
  obtain ⟨b, o, c', hv, _, hb, hx⟩ := h.open_ (by rw [show (nC L).length = L.length by simp [nC]]; omega)
  cases hv
  exact ⟨b, o, rfl, hb, hx i _ (nC_get hi)⟩
theorem step_len (yes : Bool) (T : Jp.T) (k : Bs) : (Jp.stepA yes T k).yes.length ≤ T.yes.length + 1 ∧ (Jp.stepA yes T k).no.length ≤ T.no.length + 1 := by
  have h1 := Jp.withoutA_len k T.yes
  have h2 := Jp.withoutA_len k T.no
  unfold Jp.stepA
  split <;> simp <;> omega

set_option maxHeartbeats 8000000 in
theorem Export_yes (w : World) (lo : Nat) (vl v : Value) (a1 a2 : Option Addr) (c1 c2 : Nat) (T : Jp.T) (L : List Bs) (N : Nat) (hlo : lo ≤ w.heap.size) (hL0 : L ≠ [])
    (hy : w.ownsRow lo ST 1 (.slice a1 T.yes.length c1) T.yes.length (nC T.yes)) (hn : w.ownsRow lo ST 1 (.slice a2 T.no.length c2) T.no.length (nC T.no)) (hv : Rd w w.heap.size v (nC L)) (hvl : ∃ a n c, vl = .slice a n c)
    (hz1 : T.yes.length ≤ N) (hz2 : T.no.length ≤ N) (hz : N + L.length ≤ 1000000) :
    Calls Try.prog 24 #[.agg #[vl, .slice a1 T.yes.length c1, .slice a2 T.no.length c2, .bool T.all], .bool true, v] w (ExPost w lo vl (L.foldl (Jp.stepA true) T)) := by
  obtain ⟨a, c, rfl, hc⟩ := names_rd hv
  obtain ⟨al, nl, cl, rfl⟩ := hvl
  obtain ⟨i0, hi0, hq0, hq1, hq2⟩ := info_parts infoST
  have h3 := ExB.new w #[.slice al nl cl, .slice a1 T.yes.length c1, .slice a2 T.no.length c2, .bool T.all]
  have H3 := Lib.hid h3
  have HY := Lib.hid (owns_below hy h3.below)
  have HN := Lib.hid (owns_below hn h3.below)
  have HV := Lib.hid hv
  have hL1 : 0 < L.length := List.length_pos_iff.2 hL0
  have hL2 : ¬ (L.length : Int) = 0 := by omega
  have hL3 : ((L.length : Int) == 0) = false := by simpa using hL2
  clear h3 hy hn hv hL0
  go_enter Try.func24, Try.ntmps24
  go_wp2_with fail
  go_loopw [7] (fun vi wr => ERel w lo (.slice al nl cl) T true L N vi wr) (fun vi _ => L.length - (intOf vi).toNat)
  case atStart => exact ⟨0, T, a1, a2, c1, c2, rfl, Nat.zero_le _, rfl, H3.out, HY.out, HN.out, hz1, hz2⟩
  case round =>
    obtain ⟨i, T1, b1, b2, d1, d2, rfl, hi, hf, hE, hy, hn, hy1, hn1⟩ := hrel
    clear H3 HY HN hz1 hz2
    have HE := Lib.hid hE
    have hws := hE.lt
    by_cases hlt : i < L.length
    · obtain ⟨b, o, rfl, hb, hx⟩ := rd_name HV.out hlt
      obtain ⟨x, hxx⟩ : ∃ x, L[i] = x := ⟨_, rfl⟩
      have HF : Hid (L.foldl (Jp.stepA true) T = (L.drop (i + 1)).foldl (Jp.stepA true) (Jp.stepA true T1 x)) := Lib.hid (by rw [hf, List.drop_eq_getElem_cons hlt, hxx]; rfl)
      rw [hxx] at hx
      have hki : (i : Int) < L.length := by omega
      have hk0 : (0 : Int) ≤ (i : Int) := Int.natCast_nonneg _
      have hX : ∀ W, Below w.heap.size w W → W.cell? ⟨b, o + i, none⟩ = some (.string (str x)) := fun W h => (h.cell (p := ⟨b, o + i, none⟩) hb).trans hx
      have hbw : b ≠ w.heap.size := by omega
      have HX := Lib.hid hX
      have p0 := hX _ hE.below
      have e1 := cell_at (i := 1) hE.t rfl
      have hl1 := Jp.withoutA_len x T1.yes
      have hl2 := Jp.withoutA_len x T1.no
      have HW1 := Lib.hid (without_any wr.drew lo (.slice b1 T1.yes.length d1) T1.yes x hy (by omega))
      have HN1 := Lib.hid hn
      clear hf hE hy hn hx hX hxx
      go_wp2_with fail
      go_still_tail 6, (by kernel_rfl)
      change wpList _ _ _ _ _ wr.drew
      have HEd : Hid (ExB w #[.slice al nl cl, .slice b1 T1.yes.length d1, .slice b2 T1.no.length d2, .bool T1.all] wr.drew) := Lib.hid HE.out.drew
      have HNd : Hid (wr.drew.ownsRow lo ST 1 (.slice b2 T1.no.length d2) T1.no.length (nC T1.no)) := Lib.hid HN1.out
      have hszd : w.heap.size < wr.drew.heap.size := hws
      have hszd2 : w.heap.size + 1 < wr.drew.heap.size := HEd.out.lt2
      clear HE HN1 p0 e1 hws
      generalize wr.drew = wd at *
      go_wp2_with (go_at_call 32; refine HW1.out.mono ?_; rintro e w2 ⟨v1, rfl, ho1, B1⟩; obtain ⟨g1, k1, rfl⟩ := owns_slice ho1; have hE2 := HEd.out.on B1; have HE2 := Lib.hid hE2; have q1 := cell_at (i := 1) hE2.t rfl; have f1 := frozen_at hE2.t 1; have HO1 := Lib.hid ho1; have HN2 := Lib.hid (owns_below HNd.out B1); have HB1 := Lib.hid B1; have hb12 := hE2.lt; clear hE2 ho1 B1)
      have hE3 := HE2.out.put 1 (.slice g1 (Jp.withoutA x T1.yes).length k1)
      have hN3 := own_put (i := 1) (u := .slice g1 (Jp.withoutA x T1.yes).length k1) HN2.out HE2.out.t neST
      have hY3 := own_put (i := 1) (u := .slice g1 (Jp.withoutA x T1.yes).length k1) HO1.out HE2.out.t neST
      simp only [List.setIfInBounds_toArray, List.set_cons_zero, List.set_cons_succ] at hE3
      have hs2 := HB1.out.size
      have hsz3 : (w2.setCell ⟨w.heap.size, 1, none⟩ (.slice g1 (Jp.withoutA x T1.yes).length k1)).heap.size = w2.heap.size := by simp [World.setCell]
      clear HE2 HN2 HO1 HB1 q1 f1 hb12
      generalize w2.setCell ⟨w.heap.size, 1, none⟩ (.slice g1 (Jp.withoutA x T1.yes).length k1) = W1 at *
      have HE3 := Lib.hid hE3.drew
      have HY3 : Hid (W1.drew.ownsRow wd.heap.size ST 1 (.slice g1 (Jp.withoutA x T1.yes).length k1) (Jp.withoutA x T1.yes).length (nC (Jp.withoutA x T1.yes))) := Lib.hid hY3
      have HW2 := Lib.hid (without_any W1.drew lo (.slice b2 T1.no.length d2) T1.no x hN3 (by omega))
      have e2 := cell_at (i := 2) hE3.t rfl
      have p2 := HX.out _ hE3.below
      have hl3 := hE3.lt
      clear hE3 hN3 hY3
      go_still_tail 6, (by kernel_rfl)
      change wpList _ _ _ _ _ W1.drew
      have hl4 : w.heap.size < W1.drew.heap.size := hl3
      have hs4 : Hid (W1.drew.heap.size = w2.heap.size) := Lib.hid hsz3
      clear e2 p2 hl3 hsz3
      generalize W1.drew = W2 at *
      go_wp2_with (go_at_call 32; refine HW2.out.mono ?_; rintro e w4 ⟨v2, rfl, ho2, B2⟩; obtain ⟨g2, k2, rfl⟩ := owns_slice ho2; have hE4 := HE3.out.on B2; have HE4 := Lib.hid hE4; have q2 := cell_at (i := 2) hE4.t rfl; have f2 := frozen_at hE4.t 2; have HO2 := Lib.hid ho2; have HY4 := Lib.hid (owns_below HY3.out B2); have HB2 := Lib.hid B2; have hb12 := hE4.lt; clear hE4 ho2 B2)
      have hE5 := HE4.out.put 2 (.slice g2 (Jp.withoutA x T1.no).length k2)
      have hN5 := own_put (i := 2) (u := .slice g2 (Jp.withoutA x T1.no).length k2) HO2.out HE4.out.t neST
      have hY5 := own_put (i := 2) (u := .slice g2 (Jp.withoutA x T1.no).length k2) HY4.out HE4.out.t neST
      simp only [List.setIfInBounds_toArray, List.set_cons_zero, List.set_cons_succ] at hE5
      have hs5 := HB2.out.size
      have hy5 : ∀ k, (Value.slice g1 (Jp.withoutA x T1.yes).length k1).ownBlock = some k → wd.heap.size ≤ k ∧ k < W2.heap.size := fun k hk => HY3.out.lt k hk
      have hsz5 : (w4.setCell ⟨w.heap.size, 2, none⟩ (.slice g2 (Jp.withoutA x T1.no).length k2)).heap.size = w4.heap.size := by simp [World.setCell]
      clear HE4 HO2 HY4 HB2 q2 f2 hb12 HE3 HY3 HW2 HW1
      generalize w4.setCell ⟨w.heap.size, 2, none⟩ (.slice g2 (Jp.withoutA x T1.no).length k2) = W3 at *
      have HE5 := Lib.hid hE5.drew
      have HY5 : Hid (W3.drew.ownsRow wd.heap.size ST 1 (.slice g1 (Jp.withoutA x T1.yes).length k1) (Jp.withoutA x T1.yes).length (nC (Jp.withoutA x T1.yes))) := Lib.hid hY5
      have HN5 : Hid (W3.drew.ownsRow W2.heap.size ST 1 (.slice g2 (Jp.withoutA x T1.no).length k2) (Jp.withoutA x T1.no).length (nC (Jp.withoutA x T1.no))) := Lib.hid hN5
      have HY5b := Lib.hid hy5
      have hE5a := fun o => (hE5.on ((Below.refl W3.heap.size W3).alloc (Nat.le_refl _) o)).drew
      have e1 := cell_at (i := 1) hE5.t rfl
      have e1a := fun o => cell_at (i := 1) (hE5a o).t rfl
      have p3 := HX.out _ hE5.below
      have p3a := fun o => HX.out _ (hE5a o).below
      have hl5 := hE5.lt
      have HE5a := Lib.hid hE5a
      have HY5a : Hid (∀ o, (W3.alloc o).drew.ownsRow wd.heap.size ST 1 (.slice g1 (Jp.withoutA x T1.yes).length k1) (Jp.withoutA x T1.yes).length (nC (Jp.withoutA x T1.yes))) := Lib.hid fun o => HY5.out.alloc o
      have HN5a : Hid (∀ o, (W3.alloc o).drew.ownsRow W2.heap.size ST 1 (.slice g2 (Jp.withoutA x T1.no).length k2) (Jp.withoutA x T1.no).length (nC (Jp.withoutA x T1.no))) := Lib.hid fun o => HN5.out.alloc o
      have hs6 := Lib.hid hsz5
      clear hE5 hE5a hY5 hN5 hy5 HE5 HY5 HN5 hsz5
      go_region_law (refine step_append_own rfl _ _ 27 rfl wd.heap.size ST i0 (.string ByteArray.empty) 1 16 Try.underlying27 hi0 hq0 hq1 hq2 rfl (by decide) (.slice g1 (Jp.withoutA x T1.yes).length k1) (Jp.withoutA x T1.yes).length (nC (Jp.withoutA x T1.yes)) (by simp [go_sem]) (HY5a.out _) ⟨W3.heap.size, 0, none⟩ 1 1 [.string (str x)] (by simp [go_sem]) rfl (cells_new _ #[.string (str x)] _ rfl) (by simp [Value.oneCell']) (by unfold maxLen; omega) (by omega) (by have := hs4.out; have := hs6.out; simp; omega) ?_; intro v5 w6 hown6 hgrow6 hat6; obtain ⟨a6, c6, rfl⟩ := owns_slice hown6; have hE6 := (HE5a.out _).grown hgrow6 (fun k hk => by have := (HY5b.out k hk).1; omega); have HE6 := Lib.hid hE6; have q6 := cell_at (i := 1) hE6.t rfl; have f6 := frozen_at hE6.t 1; have hl7 := hE6.lt; have HO6 := Lib.hid hown6; have HN6 := Lib.hid ((HN5a.out _).kept hgrow6 (by
        rcases Option.eq_none_or_eq_some (Value.slice g2 (Jp.withoutA x T1.no).length k2).ownBlock with hh | ⟨k, hh⟩
        · exact .inl hh
        · refine .inr fun e => ?_
          have h1 := ((HN5a.out (.cells #[] ST)).lt k hh).1
          have h2 := (HY5b.out k (e.symm.trans hh)).2
          have := hs4.out; have := hs6.out; omega)); clear hE6 hown6)
      all_goals go_wp2_with fail
      all_goals
        have hE7 := HE6.out.put 1 (.slice a6 ((Jp.withoutA x T1.yes).length + 1) c6)
        have hN7 := own_put (i := 1) (u := .slice a6 ((Jp.withoutA x T1.yes).length + 1) c6) HN6.out HE6.out.t neST
        have hY7 := own_put (i := 1) (u := .slice a6 ((Jp.withoutA x T1.yes).length + 1) c6) HO6.out HE6.out.t neST
        simp only [List.setIfInBounds_toArray, List.set_cons_zero, List.set_cons_succ] at hE7
        have hst := step_len true T1 x
        have hT : (Jp.stepA true T1 x).yes = Jp.withoutA x T1.yes ++ [x] ∧ (Jp.stepA true T1 x).no = Jp.withoutA x T1.no ∧ (Jp.stepA true T1 x).all = T1.all := ⟨rfl, rfl, rfl⟩
        generalize Jp.stepA true T1 x = T2 at *
        refine ⟨⟨i + 1, T2, a6, g2, c6, k2, by go_num, hlt, HF.out, ?_, ?_, ?_, by omega, by omega⟩, by simp [intOf]; omega⟩
        · rw [hT.1, hT.2.1, hT.2.2, List.length_append]; exact hE7
        · rw [hT.1, List.length_append, nC_snoc]; exact own_mono hY7 (by omega)
        · rw [hT.2.1]; exact own_mono hN7 (by have := hs4.out; omega)
    · obtain rfl : i = L.length := by omega
      rw [List.drop_length] at hf
      have HF : Hid (L.foldl (Jp.stepA true) T = T1) := Lib.hid hf
      have e0 := cell_at (i := 0) hE.t rfl
      have e1 := cell_at (i := 1) hE.t rfl
      have e2 := cell_at (i := 2) hE.t rfl
      have e3 := cell_at (i := 3) hE.t rfl
      have hki : ¬ (L.length : Int) < L.length := by omega
      have HY1 := Lib.hid hy
      have HN1 := Lib.hid hn
      clear hf hE hy hn
      go_wp2_with (refine wpList_store_row rfl TT _ _ rfl (w.heap.size + 1) #[.slice al nl cl, .slice b1 T1.yes.length d1, .slice b2 T1.no.length d2, .bool T1.all] rfl rfl TT zeroT HE.out.o sizeT rfl (one_t al b1 b2 nl T1.yes.length T1.no.length cl d1 d2 T1.all) ?_)
      (try simp only [Exit.inBlock, Exit.then])
      refine bodyPost_ret (results_one Try.results24 _ _ (w.heap.size + 1) TT #[.slice al nl cl, .slice b1 T1.yes.length d1, .slice b2 T1.no.length d2, .bool T1.all] (0, 0) _ rfl (setRow_heap _ _ _ _ _ _ HE.out.o) undT rfl sizeT) rfl ?_
      rw [HF.out]
      exact ⟨b1, d1, b2, d2, rfl, own_row HY1.out HE.out.o neST, own_row HN1.out HE.out.o neST, below_setRow HE.out.below (by omega) _⟩
end Go.Proofs.Ytfbddbcedoofeaa.Jw
