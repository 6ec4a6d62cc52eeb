/-
  flatironlaw09.Same without numbers, at two lists of parts: the lists.
-/
import Derived.Test.YtjjlafbdhpojpaaDoorVSame
namespace Go.Proofs.YtjjlafbdhpojpaaDoor.Vw
open Go.RowKit Go.Proofs.YtjjlafbdhpojpaaDoor Go.Proofs.YtjjlafbdhpojpaaDoor.Ww Go.Proofs.YtjjlafbdhpojpaaDoor.Iw Go.Proofs.YtjjlafbdhpojpaaDoor.Mw
set_option maxRecDepth 100000

theorem bareP_get {X Y : List PV} (h : X.map (fun x => Vp.bareP x.p) = Y.map (fun x => Vp.bareP x.p)) {k : Nat} (h1 : k < X.length) (h2 : k < Y.length) : Vp.bareP X[k].p = Vp.bareP Y[k].p := by
  have e := congrArg (·[k]?) h
  simpa only [List.getElem?_map, List.getElem?_eq_getElem h1, List.getElem?_eq_getElem h2, Option.map_some, Option.some.injEq] using e
theorem bareP_len {X Y : List PV} (h : X.map (fun x => Vp.bareP x.p) = Y.map (fun x => Vp.bareP x.p)) : X.length = Y.length := by
  have := congrArg List.length h
  simpa using this

set_option maxHeartbeats 4000000 in
theorem eqf_any (w : World) (lo : Nat) (v1 v2 : Value) (X Y : List PV) (b : Nat) (h1 : Qs w lo v1 X) (h2 : Qs w lo v2 Y) (hXY : X.map (fun x => Vp.bareP x.p) = Y.map (fun x => Vp.bareP x.p)) (hl : X.length ≤ 200000) (hr : ∀ x ∈ X, x.p.recipe.length ≤ 200000)
    (hb : w.cell? ⟨b, 0, none⟩ = some (.bool false)) (hbl : b < w.heap.size) :
    Calls Tryd.prog 24 #[v1, v2, .func (.func 25) #[] #[.pointer (some ⟨b, 0, none⟩)]] w fun e w' => e = .returned (.bool true) ∧ Below w.heap.size w w' := by
  obtain ⟨a1, c1, rfl⟩ := owns_slice h1.row
  obtain ⟨a2, c2, rfl⟩ := owns_slice h2.row
  have hlen := bareP_len hXY
  have H1 := Lib.hid h1
  have H2 := Lib.hid h2
  have HXY := Lib.hid hXY
  have HR := Lib.hid hr
  have hlz : ((X.length : Int) != (Y.length : Int)) = false := by rw [hlen]; simp
  have HBB := Lib.hid (show ∀ W : World, Below w.heap.size w W → W.cell? ⟨b, 0, none⟩ = some (.bool false) ∧ b < W.heap.size from fun W h => ⟨(h.cell (p := ⟨b, 0, none⟩) hbl).trans hb, Nat.lt_of_lt_of_le hbl h.size⟩)
  have HLEN := Lib.hid hlen
  clear h1 h2 hXY hb hlen hr
  go_enter Tryd.func24, Tryd.ntmps24
  go_wp2_with fail
  go_loopw [17] (fun v wr => ∃ i : Nat, v = .int .i64 i ∧ i ≤ X.length ∧ Below w.heap.size w wr) (fun v _ => X.length - (intOf v).toNat)
  case atStart => exact ⟨0, rfl, by omega, Below.refl _ _⟩
  case round =>
    obtain ⟨i, rfl, hi, hB⟩ := hrel
    have HB := Lib.hid hB
    by_cases hlt : i < X.length
    · have hlt2 : i < Y.length := by have := HLEN.out; omega
      obtain ⟨g1, rfl, hc1, hg1, x⟩ := row_part H1.out.row hlt
      obtain ⟨g2, rfl, hc2, hg2, y⟩ := row_part H2.out.row hlt2
      have hpq := bareP_get HXY.out hlt hlt2
      have hxe := H1.out.each X[i] (List.getElem_mem hlt)
      have hye := H2.out.each Y[i] (List.getElem_mem hlt2)
      have hxl := HR.out X[i] (List.getElem_mem hlt)
      have hx : ∀ W : World, Below w.heap.size w W → ∀ j u, j < 11 → (pvC X[i])[j]? = some u → W.cell? ⟨g1, i * 11 + j, none⟩ = some u := fun W h j u hj hu => (h.cell (p := ⟨g1, i * 11 + j, none⟩) hg1).trans (x j u hj hu)
      have hy : ∀ W : World, Below w.heap.size w W → ∀ j u, j < 11 → (pvC Y[i])[j]? = some u → W.cell? ⟨g2, i * 11 + j, none⟩ = some u := fun W h j u hj hu => (h.cell (p := ⟨g2, i * 11 + j, none⟩) hg2).trans (y j u hj hu)
      have HS := Lib.hid fun (W : World) (h : Below w.heap.size w W) => same1_any W lo X[i].p Y[i].p X[i].v Y[i].v b hpq (owns_below hxe h) (owns_below hye h) hxl (HBB.out W h).1 (HBB.out W h).2
      clear x y hpq hxl
      generalize X[i] = x at *
      generalize Y[i] = y at *
      rcases x with ⟨p, u⟩
      rcases y with ⟨q, v⟩
      replace hxe : w.ownsRow lo RT 3 u p.recipe.length (linesC p.recipe) := hxe
      replace hye : w.ownsRow lo RT 3 v q.recipe.length (linesC q.recipe) := hye
      obtain ⟨ua, uc, rfl⟩ := owns_slice hxe
      obtain ⟨va, vc, rfl⟩ := owns_slice hye
      clear hxe hye
      obtain ⟨a0, a1, a2, a3, a4, a5, a6, a7, a8, a9, a10⟩ : _ ∧ _ ∧ _ ∧ _ ∧ _ ∧ _ ∧ _ ∧ _ ∧ _ ∧ _ ∧ _ := ⟨hx wr hB 0 _ (by decide) rfl, hx wr hB 1 _ (by decide) rfl, hx wr hB 2 _ (by decide) rfl, hx wr hB 3 _ (by decide) rfl, hx wr hB 4 _ (by decide) rfl, hx wr hB 5 _ (by decide) rfl, hx wr hB 6 _ (by decide) rfl, hx wr hB 7 _ (by decide) rfl, hx wr hB 8 _ (by decide) rfl, hx wr hB 9 _ (by decide) rfl, hx wr hB 10 _ (by decide) rfl⟩
      rw [Nat.add_zero] at a0
      have HY := Lib.hid hy
      have HXb := Lib.hid (heap_alloc_last wr (.cells zeroC QT))
      have hws := hB.size
      have hki : (i : Int) < X.length := by omega
      have hki2 : (i : Int) < Y.length := by omega
      have hk0 : (0 : Int) ≤ (i : Int) := Int.natCast_nonneg _
      clear hB hx hy
      go_wp2_with (first
        | (refine store_box rfl QT _ _ rfl wr.heap.size (partC p (.slice ua p.recipe.length uc)) rfl rfl QT zeroC HXb.out sizeQ rfl (oneP _ _ _ _) ?_; intro W3 HG3 HE3; have HB3 := Lib.hid (show Below w.heap.size w W3 by rw [HE3.out]; exact below_setRow (HB.out.alloc hws _) hws _); obtain ⟨b0, b1, b2, b3, b4, b5, b6, b7, b8, b9, b10⟩ : _ ∧ _ ∧ _ ∧ _ ∧ _ ∧ _ ∧ _ ∧ _ ∧ _ ∧ _ ∧ _ := ⟨HY.out W3 HB3.out 0 _ (by decide) rfl, HY.out W3 HB3.out 1 _ (by decide) rfl, HY.out W3 HB3.out 2 _ (by decide) rfl, HY.out W3 HB3.out 3 _ (by decide) rfl, HY.out W3 HB3.out 4 _ (by decide) rfl, HY.out W3 HB3.out 5 _ (by decide) rfl, HY.out W3 HB3.out 6 _ (by decide) rfl, HY.out W3 HB3.out 7 _ (by decide) rfl, HY.out W3 HB3.out 8 _ (by decide) rfl, HY.out W3 HB3.out 9 _ (by decide) rfl, HY.out W3 HB3.out 10 _ (by decide) rfl⟩; rw [Nat.add_zero] at b0; have HXc := Lib.hid (heap_alloc_last W3 (.cells zeroC QT)); have hs3 := HB3.out.size)
        | (refine store_box rfl QT _ _ rfl W3.heap.size (partC q (.slice va q.recipe.length vc)) rfl rfl QT zeroC HXc.out sizeQ rfl (oneP _ _ _ _) ?_; intro W5 HG5 HE5; have HB5 := Lib.hid (show Below w.heap.size w W5 by rw [HE5.out]; exact below_setRow (HB3.out.alloc hs3 _) hs3 _); have HG53 := Lib.hid (show W5.heap[wr.heap.size]? = some (.cells (partC p (.slice ua p.recipe.length uc)) QT (0, 0)) by rw [HE5.out]; exact (setRow_other _ _ _ _ (Nat.ne_of_lt (Array.getElem?_eq_some_iff.1 HG3.out).1)).trans ((((Below.refl W3.heap.size W3).alloc (Nat.le_refl _) (.cells zeroC QT)).block wr.heap.size (Array.getElem?_eq_some_iff.1 HG3.out).1).trans HG3.out)); have hs5 := HB5.out.size)
        | (refine wpList_load_row rfl QT _ rfl wr.heap.size rfl QT (partC p (.slice ua p.recipe.length uc)) (0, 0) _ HG53.out undQ rfl sizeQ ?_)
        | (refine wpList_load_row rfl QT _ rfl W3.heap.size rfl QT (partC q (.slice va q.recipe.length vc)) (0, 0) _ HG5.out undQ rfl sizeQ ?_))
      refine (HS.out W5 HB5.out).mono ?_
      rintro e w6 ⟨rfl, B6⟩
      have HB6 := Lib.hid (HB5.out.trans (B6.mono hs5))
      clear B6
      go_wp2_with fail
      go_roundw
      case rel => exact ⟨i + 1, by go_num, by omega, HB6.out⟩
      case measure => simp [intOf]; omega
    · obtain rfl : i = X.length := by omega
      have hki : ¬ (X.length : Int) < X.length := by omega
      clear hB
      go_wp2_with fail
      go_ret
      exact ⟨rfl, HB.out⟩

theorem same_any (w : World) (lo : Nat) (v1 v2 : Value) (X Y : List PV) (h1 : Qs w lo v1 X) (h2 : Qs w lo v2 Y) (hXY : X.map (fun x => Vp.bareP x.p) = Y.map (fun x => Vp.bareP x.p)) (hl : X.length ≤ 200000) (hr : ∀ x ∈ X, x.p.recipe.length ≤ 200000) :
    Calls Tryd.prog 10 #[v1, v2, .bool false] w fun e w' => e = .returned (.bool true) ∧ Below w.heap.size w w' := by
  have HB := Lib.hid ((Below.refl w.heap.size w).alloc (Nat.le_refl _) (.cells #[.bool false] 4))
  have HE := Lib.hid (eqf_any (w.alloc (.cells #[.bool false] 4)) lo v1 v2 X Y w.heap.size (h1.below HB.out) (h2.below HB.out) hXY hl hr (cell_at (heap_alloc_last w _) rfl) (by simp))
  clear h1 h2 hXY hr
  go_enter Tryd.func10, Tryd.ntmps10
  go_wp2_with fail
  refine HE.out.mono ?_
  rintro e w1 ⟨rfl, B1⟩
  go_wp2_with fail
  go_ret
  exact ⟨rfl, HB.out.trans (B1.mono (by simp))⟩
end Go.Proofs.YtjjlafbdhpojpaaDoor.Vw
