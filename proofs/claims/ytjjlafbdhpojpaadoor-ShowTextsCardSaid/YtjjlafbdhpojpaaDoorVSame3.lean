/-
  show.same and show.sameLine, and slices.EqualFunc over them, at parts that are one but for the numbers.
-/
import Derived.Test.YtjjlafbdhpojpaaDoorVSame2
namespace Go.Proofs.YtjjlafbdhpojpaaDoor.Vw
open Go.RowKit Go.Proofs.YtjjlafbdhpojpaaDoor Go.Proofs.YtjjlafbdhpojpaaDoor.Ww Go.Proofs.YtjjlafbdhpojpaaDoor.Iw Go.Proofs.YtjjlafbdhpojpaaDoor.Mw
set_option maxRecDepth 100000

set_option maxHeartbeats 1000000 in
theorem psame11_any (w : World) (n m : Nat) (t : Bs) (q : Bool) :
    Calls Tryd.prog 41 #[.agg #[.int .i64 (n : Int), .string (str t), .bool q], .agg #[.int .i64 (m : Int), .string (str t), .bool q]] w fun e w' => e = .returned (.bool true) ∧ Below w.heap.size w w' := by
  have HB := Lib.hid (((Below.refl w.heap.size w).alloc (Nat.le_refl _) (.cells #[.int .i64 (n : Int), .string (str t), .bool q] LT)).alloc (by simp) (.cells #[.int .i64 (m : Int), .string (str t), .bool q] LT))
  have h1 := heap_alloc2_old w (.cells #[.int .i64 (n : Int), .string (str t), .bool q] LT) (.cells #[.int .i64 (m : Int), .string (str t), .bool q] LT)
  have h2 := heap_alloc2_new w (.cells #[.int .i64 (n : Int), .string (str t), .bool q] LT) (.cells #[.int .i64 (m : Int), .string (str t), .bool q] LT)
  have c0 := cell_at (i := 0) h1 rfl
  have c1 := cell_at (i := 1) h1 rfl
  have c2 := cell_at (i := 2) h1 rfl
  have d0 := cell_at (i := 0) h2 rfl
  have d1 := cell_at (i := 1) h2 rfl
  have d2 := cell_at (i := 2) h2 rfl
  clear h1 h2
  rcases ceq n m with rfl | hne
  · go_enter Tryd.func41, Tryd.ntmps41
    go_wp2_with fail
    go_ret
    exact ⟨rfl, HB.out⟩
  · go_enter Tryd.func41, Tryd.ntmps41
    go_wp2_with fail
    go_ret
    exact ⟨rfl, HB.out⟩

set_option maxHeartbeats 2000000 in
theorem peqfL_any (w : World) (lo : Nat) (v1 v2 : Value) (R1 R2 : List Ip.L) (h1 : w.ownsRow lo LT 3 v1 R1.length (linesC R1)) (h2 : w.ownsRow lo LT 3 v2 R2.length (linesC R2)) (hR : R1.map Vp.bareL = R2.map Vp.bareL) (hl : R1.length ≤ 200000)
    :
    Calls Tryd.prog 40 #[v1, v2, .func (.func 41) #[] #[]] w fun e w' => e = .returned (.bool true) ∧ Below w.heap.size w w' := by
  obtain ⟨a1, c1, rfl⟩ := owns_slice h1
  obtain ⟨a2, c2, rfl⟩ := owns_slice h2
  have hlen := bare_len hR
  have H1 := Lib.hid h1
  have H2 := Lib.hid h2
  have HR := Lib.hid hR
  have hlz : ((R1.length : Int) != (R2.length : Int)) = false := by rw [hlen]; simp
  have HLEN := Lib.hid hlen
  clear h1 h2 hR hlen
  go_enter Tryd.func40, Tryd.ntmps40
  go_wp2_with fail
  go_loopw [17] (fun v wr => ∃ i : Nat, v = .int .i64 i ∧ i ≤ R1.length ∧ Below w.heap.size w wr) (fun v _ => R1.length - (intOf v).toNat)
  case atStart => exact ⟨0, rfl, by omega, Below.refl _ _⟩
  case round =>
    obtain ⟨i, rfl, hi, hB⟩ := hrel
    have HB := Lib.hid hB
    by_cases hlt : i < R1.length
    · have hlt2 : i < R2.length := by have := HLEN.out; omega
      obtain ⟨g1, rfl, hc1, hg1, _, x0, x1, x2⟩ := line_cells H1.out hlt
      obtain ⟨g2, rfl, hc2, hg2, _, y0, y1, y2⟩ := line_cells H2.out hlt2
      obtain ⟨e1, e2⟩ := bare_get HR.out hlt hlt2
      have p0 : wr.cell? ⟨g1, i * 3, none⟩ = some (.int .i64 (R1[i].n : Int)) := (hB.cell (p := ⟨g1, i * 3, none⟩) hg1).trans x0
      have p1 : wr.cell? ⟨g1, i * 3 + 1, none⟩ = some (.string (str R1[i].t)) := (hB.cell (p := ⟨g1, i * 3 + 1, none⟩) hg1).trans x1
      have p2 : wr.cell? ⟨g1, i * 3 + 2, none⟩ = some (.bool R1[i].q) := (hB.cell (p := ⟨g1, i * 3 + 2, none⟩) hg1).trans x2
      have q0 : ∀ W : World, Below w.heap.size w W → W.cell? ⟨g2, i * 3, none⟩ = some (.int .i64 (R2[i].n : Int)) := fun W h => (h.cell (p := ⟨g2, i * 3, none⟩) hg2).trans y0
      have q1 : ∀ W : World, Below w.heap.size w W → W.cell? ⟨g2, i * 3 + 1, none⟩ = some (.string (str R1[i].t)) := fun W h => by rw [e1]; exact (h.cell (p := ⟨g2, i * 3 + 1, none⟩) hg2).trans y1
      have q2 : ∀ W : World, Below w.heap.size w W → W.cell? ⟨g2, i * 3 + 2, none⟩ = some (.bool R1[i].q) := fun W h => by rw [e2]; exact (h.cell (p := ⟨g2, i * 3 + 2, none⟩) hg2).trans y2
      have hki : (i : Int) < R1.length := by omega
      have hki2 : (i : Int) < R2.length := by omega
      have hk0 : (0 : Int) ≤ (i : Int) := Int.natCast_nonneg _
      have hws := hB.size
      have r0 := q0 wr hB
      have r1 := q1 wr hB
      have r2 := q2 wr hB
      have s0 := fun o => q0 (wr.alloc o) (hB.alloc hws o)
      have s1 := fun o => q1 (wr.alloc o) (hB.alloc hws o)
      have s2 := fun o => q2 (wr.alloc o) (hB.alloc hws o)
      clear x0 x1 x2 y0 y1 y2 hB q0 q1 q2 e1 e2
      have HS := Lib.hid fun (W : World) (h : Below w.heap.size w W) => psame11_any W R1[i].n R2[i].n R1[i].t R1[i].q
      generalize R1[i] = x at *
      generalize R2[i] = y at *
      go_wp2_with fail
      refine (HS.out _ ((HB.out.alloc hws _).alloc (by simp; omega) _)).mono ?_
      rintro e w6 ⟨rfl, B6⟩
      have HB6 := Lib.hid (((HB.out.alloc hws _).alloc (by simp; omega) _).trans (B6.mono (by simp; omega)))
      clear B6
      go_wp2_with fail
      go_roundw
      case rel => exact ⟨i + 1, by go_num, by omega, HB6.out⟩
      case measure => simp [intOf]; omega
    · obtain rfl : i = R1.length := by omega
      have hki : ¬ (R1.length : Int) < R1.length := by omega
      clear hB
      go_wp2_with fail
      go_ret
      exact ⟨rfl, HB.out⟩
set_option maxHeartbeats 4000000 in
theorem psame1_any (w : World) (lo : Nat) (p q : Mp.P) (u v : Value) (hpq : Vp.bareP p = Vp.bareP q) (hu : w.ownsRow lo LT 3 u p.recipe.length (linesC p.recipe)) (hv : w.ownsRow lo LT 3 v q.recipe.length (linesC q.recipe)) (hl : p.recipe.length ≤ 200000)
    :
    Calls Tryd.prog 21 #[partV p u, partV q v] w fun e w' => e = .returned (.bool true) ∧ Below w.heap.size w w' := by
  have HB := Lib.hid (((Below.refl w.heap.size w).alloc (Nat.le_refl _) (.cells (partC p u) PT)).alloc (by simp) (.cells (partC q v) PT))
  obtain ⟨hq, hR⟩ := bare_part hpq
  have HE := Lib.hid (peqfL_any ((w.alloc (.cells (partC p u) PT)).alloc (.cells (partC q v) PT)) lo u v p.recipe q.recipe (owns_below hu HB.out) (owns_below hv HB.out) hR hl)
  obtain ⟨c0, c1, c2, c3, c4, c5, c6, c7, c8, c9, c10⟩ := part_cells (heap_alloc2_old w (.cells (partC p u) PT) (.cells (partC q v) PT))
  obtain ⟨d0, d1, d2, d3, d4, d5, d6, d7, d8, d9, d10⟩ := part_cells (heap_alloc2_new w (.cells (partC p u) PT) (.cells (partC q v) PT))
  have hln := ceq p.line q.line
  clear hu hv hpq hR
  generalize q.line = ql at *
  generalize q.recipe = qr at *
  subst hq
  unfold partV
  unfold partC at *
  rcases hln with hln | hln
  · subst hln
    go_enter Tryd.func21, Tryd.ntmps21
    go_wp2_with fail
    refine HE.out.mono ?_
    rintro e w' ⟨rfl, B⟩
    go_wp2_with fail
    go_ret
    exact ⟨rfl, HB.out.trans (B.mono HB.out.size)⟩
  · go_enter Tryd.func21, Tryd.ntmps21
    go_wp2_with fail
    refine HE.out.mono ?_
    rintro e w' ⟨rfl, B⟩
    go_wp2_with fail
    go_ret
    exact ⟨rfl, HB.out.trans (B.mono HB.out.size)⟩
set_option maxHeartbeats 4000000 in
theorem peqf_any (w : World) (lo : Nat) (v1 v2 : Value) (X Y : List PV) (h1 : Ps w lo v1 X) (h2 : Ps w lo v2 Y) (hXY : X.map (fun x => Vp.bareP x.p) = Y.map (fun x => Vp.bareP x.p)) (hl : X.length ≤ 200000) (hr : ∀ x ∈ X, x.p.recipe.length ≤ 200000)
    :
    Calls Tryd.prog 20 #[v1, v2, .func (.func 21) #[] #[]] w fun e w' => e = .returned (.bool true) ∧ Below w.heap.size w w' := by
  obtain ⟨a1, c1, rfl⟩ := owns_slice h1.row
  obtain ⟨a2, c2, rfl⟩ := owns_slice h2.row
  have hlen := bareP_len hXY
  have H1 := Lib.hid h1
  have H2 := Lib.hid h2
  have HXY := Lib.hid hXY
  have HR := Lib.hid hr
  have hlz : ((X.length : Int) != (Y.length : Int)) = false := by rw [hlen]; simp
  have HLEN := Lib.hid hlen
  clear h1 h2 hXY hlen hr
  go_enter Tryd.func20, Tryd.ntmps20
  go_wp2_with fail
  go_loopw [17] (fun v wr => ∃ i : Nat, v = .int .i64 i ∧ i ≤ X.length ∧ Below w.heap.size w wr) (fun v _ => X.length - (intOf v).toNat)
  case atStart => exact ⟨0, rfl, by omega, Below.refl _ _⟩
  case round =>
    obtain ⟨i, rfl, hi, hB⟩ := hrel
    have HB := Lib.hid hB
    by_cases hlt : i < X.length
    · have hlt2 : i < Y.length := by have := HLEN.out; omega
      obtain ⟨g1, rfl, hc1, hg1, x⟩ := row_part H1.out.row hlt
      obtain ⟨g2, rfl, hc2, hg2, y⟩ := row_part H2.out.row hlt2
      have hpq := bareP_get HXY.out hlt hlt2
      have hxe := H1.out.each X[i] (List.getElem_mem hlt)
      have hye := H2.out.each Y[i] (List.getElem_mem hlt2)
      have hxl := HR.out X[i] (List.getElem_mem hlt)
      have hx : ∀ W : World, Below w.heap.size w W → ∀ j u, j < 11 → (pvC X[i])[j]? = some u → W.cell? ⟨g1, i * 11 + j, none⟩ = some u := fun W h j u hj hu => (h.cell (p := ⟨g1, i * 11 + j, none⟩) hg1).trans (x j u hj hu)
      have hy : ∀ W : World, Below w.heap.size w W → ∀ j u, j < 11 → (pvC Y[i])[j]? = some u → W.cell? ⟨g2, i * 11 + j, none⟩ = some u := fun W h j u hj hu => (h.cell (p := ⟨g2, i * 11 + j, none⟩) hg2).trans (y j u hj hu)
      have HS := Lib.hid fun (W : World) (h : Below w.heap.size w W) => psame1_any W lo X[i].p Y[i].p X[i].v Y[i].v hpq (owns_below hxe h) (owns_below hye h) hxl
      clear x y hpq hxl
      generalize X[i] = x at *
      generalize Y[i] = y at *
      rcases x with ⟨p, u⟩
      rcases y with ⟨q, v⟩
      replace hxe : w.ownsRow lo LT 3 u p.recipe.length (linesC p.recipe) := hxe
      replace hye : w.ownsRow lo LT 3 v q.recipe.length (linesC q.recipe) := hye
      obtain ⟨ua, uc, rfl⟩ := owns_slice hxe
      obtain ⟨va, vc, rfl⟩ := owns_slice hye
      clear hxe hye
      obtain ⟨a0, a1, a2, a3, a4, a5, a6, a7, a8, a9, a10⟩ : _ ∧ _ ∧ _ ∧ _ ∧ _ ∧ _ ∧ _ ∧ _ ∧ _ ∧ _ ∧ _ := ⟨hx wr hB 0 _ (by decide) rfl, hx wr hB 1 _ (by decide) rfl, hx wr hB 2 _ (by decide) rfl, hx wr hB 3 _ (by decide) rfl, hx wr hB 4 _ (by decide) rfl, hx wr hB 5 _ (by decide) rfl, hx wr hB 6 _ (by decide) rfl, hx wr hB 7 _ (by decide) rfl, hx wr hB 8 _ (by decide) rfl, hx wr hB 9 _ (by decide) rfl, hx wr hB 10 _ (by decide) rfl⟩
      rw [Nat.add_zero] at a0
      have HY := Lib.hid hy
      have HXb := Lib.hid (heap_alloc_last wr (.cells zeroC PT))
      have hws := hB.size
      have hki : (i : Int) < X.length := by omega
      have hki2 : (i : Int) < Y.length := by omega
      have hk0 : (0 : Int) ≤ (i : Int) := Int.natCast_nonneg _
      clear hB hx hy
      go_wp2_with (first
        | (refine store_box rfl PT _ _ rfl wr.heap.size (partC p (.slice ua p.recipe.length uc)) rfl rfl PT zeroC HXb.out sizeP rfl (oneP _ _ _ _) ?_; intro W3 HG3 HE3; have HB3 := Lib.hid (show Below w.heap.size w W3 by rw [HE3.out]; exact below_setRow (HB.out.alloc hws _) hws _); obtain ⟨b0, b1, b2, b3, b4, b5, b6, b7, b8, b9, b10⟩ : _ ∧ _ ∧ _ ∧ _ ∧ _ ∧ _ ∧ _ ∧ _ ∧ _ ∧ _ ∧ _ := ⟨HY.out W3 HB3.out 0 _ (by decide) rfl, HY.out W3 HB3.out 1 _ (by decide) rfl, HY.out W3 HB3.out 2 _ (by decide) rfl, HY.out W3 HB3.out 3 _ (by decide) rfl, HY.out W3 HB3.out 4 _ (by decide) rfl, HY.out W3 HB3.out 5 _ (by decide) rfl, HY.out W3 HB3.out 6 _ (by decide) rfl, HY.out W3 HB3.out 7 _ (by decide) rfl, HY.out W3 HB3.out 8 _ (by decide) rfl, HY.out W3 HB3.out 9 _ (by decide) rfl, HY.out W3 HB3.out 10 _ (by decide) rfl⟩; rw [Nat.add_zero] at b0; have HXc := Lib.hid (heap_alloc_last W3 (.cells zeroC PT)); have hs3 := HB3.out.size)
        | (refine store_box rfl PT _ _ rfl W3.heap.size (partC q (.slice va q.recipe.length vc)) rfl rfl PT zeroC HXc.out sizeP rfl (oneP _ _ _ _) ?_; intro W5 HG5 HE5; have HB5 := Lib.hid (show Below w.heap.size w W5 by rw [HE5.out]; exact below_setRow (HB3.out.alloc hs3 _) hs3 _); have HG53 := Lib.hid (show W5.heap[wr.heap.size]? = some (.cells (partC p (.slice ua p.recipe.length uc)) PT (0, 0)) by rw [HE5.out]; exact (setRow_other _ _ _ _ (Nat.ne_of_lt (Array.getElem?_eq_some_iff.1 HG3.out).1)).trans ((((Below.refl W3.heap.size W3).alloc (Nat.le_refl _) (.cells zeroC PT)).block wr.heap.size (Array.getElem?_eq_some_iff.1 HG3.out).1).trans HG3.out)); have hs5 := HB5.out.size)
        | (refine wpList_load_row rfl PT _ rfl wr.heap.size rfl PT (partC p (.slice ua p.recipe.length uc)) (0, 0) _ HG53.out undP rfl sizeP ?_)
        | (refine wpList_load_row rfl PT _ rfl W3.heap.size rfl PT (partC q (.slice va q.recipe.length vc)) (0, 0) _ HG5.out undP rfl sizeP ?_))
      refine (HS.out W5 HB5.out).mono ?_
      rintro e w6 ⟨rfl, B6⟩
      have HB6 := Lib.hid (HB5.out.trans (B6.mono hs5))
      clear B6
      go_wp2_with fail
      go_roundw
      case rel => exact ⟨i + 1, by go_num, by omega, HB6.out⟩
      case measure => simp [intOf]; omega
    · obtain rfl : i = X.length := by omega
      have hki : ¬ (X.length : Int) < X.length := by omega
      clear hB
      go_wp2_with fail
      go_ret
      exact ⟨rfl, HB.out⟩

end Go.Proofs.YtjjlafbdhpojpaaDoor.Vw
