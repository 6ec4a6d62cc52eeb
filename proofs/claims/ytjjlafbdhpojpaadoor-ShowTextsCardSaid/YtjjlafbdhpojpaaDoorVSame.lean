/-
  flatironlaw09.Same without numbers, at two lists of parts that are one but for the numbers.
-/
import Derived.Test.YtjjlafbdhpojpaaDoorVPlain
import Derived.Test.YtjjlafbdhpojpaaDoorVLawOf
namespace Go.Proofs.YtjjlafbdhpojpaaDoor.Vw
open Go.RowKit Go.Proofs.YtjjlafbdhpojpaaDoor Go.Proofs.YtjjlafbdhpojpaaDoor.Ww Go.Proofs.YtjjlafbdhpojpaaDoor.Iw Go.Proofs.YtjjlafbdhpojpaaDoor.Mw
set_option maxRecDepth 100000

theorem ceq (n m : Nat) : n = m ∨ ((n : Int) == (m : Int)) = false := by
  by_cases h : n = m
  · exact .inl h
  · exact .inr (beq_eq_false_iff_ne.2 (by omega))

set_option maxHeartbeats 1000000 in
theorem same11_any (w : World) (n m : Nat) (t : Bs) (q : Bool) (b : Nat) (hb : w.cell? ⟨b, 0, none⟩ = some (.bool false)) (hbl : b < w.heap.size) :
    Calls Tryd.prog 27 #[.agg #[.int .i64 (n : Int), .string (str t), .bool q], .agg #[.int .i64 (m : Int), .string (str t), .bool q], .pointer (some ⟨b, 0, none⟩)] w fun e w' => e = .returned (.bool true) ∧ Below w.heap.size w w' := by
  have HB := Lib.hid (((Below.refl w.heap.size w).alloc (Nat.le_refl _) (.cells #[.int .i64 (n : Int), .string (str t), .bool q] RT)).alloc (by simp) (.cells #[.int .i64 (m : Int), .string (str t), .bool q] RT))
  have h1 := heap_alloc2_old w (.cells #[.int .i64 (n : Int), .string (str t), .bool q] RT) (.cells #[.int .i64 (m : Int), .string (str t), .bool q] RT)
  have h2 := heap_alloc2_new w (.cells #[.int .i64 (n : Int), .string (str t), .bool q] RT) (.cells #[.int .i64 (m : Int), .string (str t), .bool q] RT)
  have c0 := cell_at (i := 0) h1 rfl
  have c1 := cell_at (i := 1) h1 rfl
  have c2 := cell_at (i := 2) h1 rfl
  have d0 := cell_at (i := 0) h2 rfl
  have d1 := cell_at (i := 1) h2 rfl
  have d2 := cell_at (i := 2) h2 rfl
  have e0 := (HB.out.cell (p := ⟨b, 0, none⟩) hbl).trans hb
  clear h1 h2
  rcases ceq n m with rfl | hne
  · go_enter Tryd.func27, Tryd.ntmps27
    go_wp2_with fail
    go_ret
    exact ⟨rfl, HB.out⟩
  · go_enter Tryd.func27, Tryd.ntmps27
    go_wp2_with fail
    go_ret
    exact ⟨rfl, HB.out⟩

theorem bare_get {R1 R2 : List Ip.L} (h : R1.map Vp.bareL = R2.map Vp.bareL) {k : Nat} (h1 : k < R1.length) (h2 : k < R2.length) : R1[k].t = R2[k].t ∧ R1[k].q = R2[k].q := by
  have e := congrArg (·[k]?) h
  simp only [List.getElem?_map, List.getElem?_eq_getElem h1, List.getElem?_eq_getElem h2, Option.map_some, Option.some.injEq, Vp.bareL, Ip.L.mk.injEq] at e
  exact ⟨e.2.1, e.2.2⟩
theorem bare_len {R1 R2 : List Ip.L} (h : R1.map Vp.bareL = R2.map Vp.bareL) : R1.length = R2.length := by
  have := congrArg List.length h
  simpa using this

set_option maxHeartbeats 2000000 in
theorem eqfL_any (w : World) (lo : Nat) (v1 v2 : Value) (R1 R2 : List Ip.L) (b : Nat) (h1 : w.ownsRow lo RT 3 v1 R1.length (linesC R1)) (h2 : w.ownsRow lo RT 3 v2 R2.length (linesC R2)) (hR : R1.map Vp.bareL = R2.map Vp.bareL) (hl : R1.length ≤ 200000)
    (hb : w.cell? ⟨b, 0, none⟩ = some (.bool false)) (hbl : b < w.heap.size) :
    Calls Tryd.prog 26 #[v1, v2, .func (.func 27) #[] #[.pointer (some ⟨b, 0, none⟩)]] w fun e w' => e = .returned (.bool true) ∧ Below w.heap.size w w' := by
  obtain ⟨a1, c1, rfl⟩ := owns_slice h1
  obtain ⟨a2, c2, rfl⟩ := owns_slice h2
  have hlen := bare_len hR
  have H1 := Lib.hid h1
  have H2 := Lib.hid h2
  have HR := Lib.hid hR
  have hlz : ((R1.length : Int) != (R2.length : Int)) = false := by rw [hlen]; simp
  have HBB := Lib.hid (show ∀ W : World, Below w.heap.size w W → W.cell? ⟨b, 0, none⟩ = some (.bool false) ∧ b < W.heap.size from fun W h => ⟨(h.cell (p := ⟨b, 0, none⟩) hbl).trans hb, Nat.lt_of_lt_of_le hbl h.size⟩)
  have HLEN := Lib.hid hlen
  clear h1 h2 hR hb hlen
  go_enter Tryd.func26, Tryd.ntmps26
  go_wp2_with fail
  go_loopw [17] (fun v wr => ∃ i : Nat, v = .int .i64 i ∧ i ≤ R1.length ∧ Below w.heap.size w wr) (fun v _ => R1.length - (intOf v).toNat)
  case atStart => exact ⟨0, rfl, by omega, Below.refl _ _⟩
  case round =>
    obtain ⟨i, rfl, hi, hB⟩ := hrel
    have HB := Lib.hid hB
    by_cases hlt : i < R1.length
    · have hlt2 : i < R2.length := by have := HLEN.out; omega
      obtain ⟨g1, rfl, hc1, hg1, _, x0, x1, x2⟩ := line_cells H1.out hlt
      obtain ⟨g2, rfl, hc2, hg2, _, y0, y1, y2⟩ := line_cells H2.out hlt2
      obtain ⟨e1, e2⟩ := bare_get HR.out hlt hlt2
      have p0 : wr.cell? ⟨g1, i * 3, none⟩ = some (.int .i64 (R1[i].n : Int)) := (hB.cell (p := ⟨g1, i * 3, none⟩) hg1).trans x0
      have p1 : wr.cell? ⟨g1, i * 3 + 1, none⟩ = some (.string (str R1[i].t)) := (hB.cell (p := ⟨g1, i * 3 + 1, none⟩) hg1).trans x1
      have p2 : wr.cell? ⟨g1, i * 3 + 2, none⟩ = some (.bool R1[i].q) := (hB.cell (p := ⟨g1, i * 3 + 2, none⟩) hg1).trans x2
      have q0 : ∀ W : World, Below w.heap.size w W → W.cell? ⟨g2, i * 3, none⟩ = some (.int .i64 (R2[i].n : Int)) := fun W h => (h.cell (p := ⟨g2, i * 3, none⟩) hg2).trans y0
      have q1 : ∀ W : World, Below w.heap.size w W → W.cell? ⟨g2, i * 3 + 1, none⟩ = some (.string (str R1[i].t)) := fun W h => by rw [e1]; exact (h.cell (p := ⟨g2, i * 3 + 1, none⟩) hg2).trans y1
      have q2 : ∀ W : World, Below w.heap.size w W → W.cell? ⟨g2, i * 3 + 2, none⟩ = some (.bool R1[i].q) := fun W h => by rw [e2]; exact (h.cell (p := ⟨g2, i * 3 + 2, none⟩) hg2).trans y2
      have hki : (i : Int) < R1.length := by omega
      have hki2 : (i : Int) < R2.length := by omega
      have hk0 : (0 : Int) ≤ (i : Int) := Int.natCast_nonneg _
      have hws := hB.size
      have r0 := q0 wr hB
      have r1 := q1 wr hB
      have r2 := q2 wr hB
      have s0 := fun o => q0 (wr.alloc o) (hB.alloc hws o)
      have s1 := fun o => q1 (wr.alloc o) (hB.alloc hws o)
      have s2 := fun o => q2 (wr.alloc o) (hB.alloc hws o)
      clear x0 x1 x2 y0 y1 y2 hB q0 q1 q2 e1 e2
      have HS := Lib.hid fun (W : World) (h : Below w.heap.size w W) => same11_any W R1[i].n R2[i].n R1[i].t R1[i].q b (HBB.out W h).1 (HBB.out W h).2
      generalize R1[i] = x at *
      generalize R2[i] = y at *
      go_wp2_with fail
      refine (HS.out _ ((HB.out.alloc hws _).alloc (by simp; omega) _)).mono ?_
      rintro e w6 ⟨rfl, B6⟩
      have HB6 := Lib.hid (((HB.out.alloc hws _).alloc (by simp; omega) _).trans (B6.mono (by simp; omega)))
      clear B6
      go_wp2_with fail
      go_roundw
      case rel => exact ⟨i + 1, by go_num, by omega, HB6.out⟩
      case measure => simp [intOf]; omega
    · obtain rfl : i = R1.length := by omega
      have hki : ¬ (R1.length : Int) < R1.length := by omega
      clear hB
      go_wp2_with fail
      go_ret
      exact ⟨rfl, HB.out⟩
/-- What two parts share that are one but for the numbers. -/
theorem bare_part {p q : Mp.P} (h : Vp.bareP p = Vp.bareP q) : q = { p with line := q.line, recipe := q.recipe } ∧ p.recipe.map Vp.bareL = q.recipe.map Vp.bareL := by
  rcases p with ⟨k, l, n, o, v, ov, ou, t, ne, od, r⟩
  rcases q with ⟨k2, l2, n2, o2, v2, ov2, ou2, t2, ne2, od2, r2⟩
  simp only [Vp.bareP, Mp.P.mk.injEq] at h
  obtain ⟨rfl, _, rfl, rfl, rfl, rfl, rfl, rfl, rfl, rfl, hr⟩ := h
  exact ⟨rfl, hr⟩

set_option maxHeartbeats 4000000 in
theorem same1_any (w : World) (lo : Nat) (p q : Mp.P) (u v : Value) (b : Nat) (hpq : Vp.bareP p = Vp.bareP q) (hu : w.ownsRow lo RT 3 u p.recipe.length (linesC p.recipe)) (hv : w.ownsRow lo RT 3 v q.recipe.length (linesC q.recipe)) (hl : p.recipe.length ≤ 200000)
    (hb : w.cell? ⟨b, 0, none⟩ = some (.bool false)) (hbl : b < w.heap.size) :
    Calls Tryd.prog 25 #[partV p u, partV q v, .pointer (some ⟨b, 0, none⟩)] w fun e w' => e = .returned (.bool true) ∧ Below w.heap.size w w' := by
  have HB := Lib.hid (((Below.refl w.heap.size w).alloc (Nat.le_refl _) (.cells (partC p u) QT)).alloc (by simp) (.cells (partC q v) QT))
  obtain ⟨hq, hR⟩ := bare_part hpq
  have HE := Lib.hid (eqfL_any ((w.alloc (.cells (partC p u) QT)).alloc (.cells (partC q v) QT)) lo u v p.recipe q.recipe b (owns_below hu HB.out) (owns_below hv HB.out) hR hl ((HB.out.cell (p := ⟨b, 0, none⟩) hbl).trans hb) (Nat.lt_of_lt_of_le hbl HB.out.size))
  obtain ⟨c0, c1, c2, c3, c4, c5, c6, c7, c8, c9, c10⟩ := part_cells (heap_alloc2_old w (.cells (partC p u) QT) (.cells (partC q v) QT))
  obtain ⟨d0, d1, d2, d3, d4, d5, d6, d7, d8, d9, d10⟩ := part_cells (heap_alloc2_new w (.cells (partC p u) QT) (.cells (partC q v) QT))
  have e0 := (HB.out.cell (p := ⟨b, 0, none⟩) hbl).trans hb
  have hln := ceq p.line q.line
  clear hu hv hb hpq hR
  generalize q.line = ql at *
  generalize q.recipe = qr at *
  subst hq
  unfold partV
  unfold partC at *
  rcases hln with hln | hln
  · subst hln
    go_enter Tryd.func25, Tryd.ntmps25
    go_wp2_with fail
    refine HE.out.mono ?_
    rintro e w' ⟨rfl, B⟩
    go_wp2_with fail
    go_ret
    exact ⟨rfl, HB.out.trans (B.mono HB.out.size)⟩
  · go_enter Tryd.func25, Tryd.ntmps25
    go_wp2_with fail
    refine HE.out.mono ?_
    rintro e w' ⟨rfl, B⟩
    go_wp2_with fail
    go_ret
    exact ⟨rfl, HB.out.trans (B.mono HB.out.size)⟩
end Go.Proofs.YtjjlafbdhpojpaaDoor.Vw
