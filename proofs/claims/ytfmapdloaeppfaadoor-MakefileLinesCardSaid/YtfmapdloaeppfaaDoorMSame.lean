/-
  flatironlaw09.Same, at two lists of one part that has no recipe; slices.Equal at lists of one line.
-/
import Derived.Test.YtfmapdloaeppfaaDoorMLawOf
namespace Go.Proofs.YtfmapdloaeppfaaDoor.Mw
open Go.RowKit Go.Proofs.YtfmapdloaeppfaaDoor Go.Proofs.YtfmapdloaeppfaaDoor.Ww Go.Proofs.YtfmapdloaeppfaaDoor.Iw
set_option maxRecDepth 100000

theorem eqf_nil (w : World) (f : Value) : Calls Tryd.prog 13 #[.slice none 0 0, .slice none 0 0, f] w fun e w' => e = .returned (.bool true) ∧ w = w' := by
  go_enter Tryd.func13, Tryd.ntmps13
  go_wp2_with fail
  go_loop [17] (fun v => v = .int .i64 0) (fun _ => 0)
  case atStart => exact rfl
  case round =>
    obtain rfl := hrel
    go_wp2_with fail
    go_ret
    exact ⟨rfl, rfl⟩

set_option maxHeartbeats 4000000 in
theorem same1_any (w : World) (p : Mp.P) (b : Nat) (hb : w.cell? ⟨b, 0, none⟩ = some (.bool true)) (hbl : b < w.heap.size) :
    Calls Tryd.prog 12 #[partV p (.slice none 0 0), partV p (.slice none 0 0), .pointer (some ⟨b, 0, none⟩)] w fun e w' => e = .returned (.bool true) ∧ Below w.heap.size w w' := by
  have HB := Lib.hid (((Below.refl w.heap.size w).alloc (Nat.le_refl _) (.cells (partC p (.slice none 0 0)) QT)).alloc (by simp) (.cells (partC p (.slice none 0 0)) QT))
  obtain ⟨c0, c1, c2, c3, c4, c5, c6, c7, c8, c9, c10⟩ := part_cells (heap_alloc2_old w (.cells (partC p (.slice none 0 0)) QT) (.cells (partC p (.slice none 0 0)) QT))
  obtain ⟨d0, d1, d2, d3, d4, d5, d6, d7, d8, d9, d10⟩ := part_cells (heap_alloc2_new w (.cells (partC p (.slice none 0 0)) QT) (.cells (partC p (.slice none 0 0)) QT))
  have HE := Lib.hid fun W f => eqf_nil W f
  have e0 := (HB.out.cell (p := ⟨b, 0, none⟩) hbl).trans hb
  unfold partV
  unfold partC at *
  go_enter Tryd.func12, Tryd.ntmps12
  go_wp2_with fail
  refine (HE.out _ _).mono ?_
  rintro e w' ⟨rfl, rfl⟩
  go_wp2_with fail
  go_ret
  exact ⟨rfl, HB.out⟩

/-- A slice of one part, in a block. -/
def One (w : World) (g : Nat) (p : Mp.P) : Prop := g < w.heap.size ∧ ∀ j u, (partC p (.slice none 0 0))[j]? = some u → w.cell? ⟨g, j, none⟩ = some u
theorem One.below {w w' : World} {g : Nat} {p : Mp.P} (h : One w g p) (hB : Below w.heap.size w w') : One w' g p := ⟨Nat.lt_of_lt_of_le h.1 hB.size, fun j u hu => (hB.cell (p := ⟨g, j, none⟩) h.1).trans (h.2 j u hu)⟩
theorem One.of_row {w : World} {lo : Nat} {a : Option Addr} {c : Nat} {p : Mp.P} (h : w.ownsRow lo QT 11 (.slice a 1 c) 1 (bareC [p])) : ∃ g, a = some ⟨g, 0, none⟩ ∧ 1 ≤ c ∧ One w g p := by
  obtain ⟨hl, hr⟩ := id h
  rcases hr with ⟨hn, h0⟩ | ⟨g, cap, cur, hv, hb, hg, hn, hc, hs, ht⟩
  · omega
  · cases hv
    refine ⟨g, rfl, hn, (Array.getElem?_eq_some_iff.1 hg).1, fun j u hu => ?_⟩
    have := h.cells (g := g) rfl j u (by rw [show bareC [p] = (partC p (.slice none 0 0)).toList by simp [bareC]]; simpa using hu)
    rw [Addr.add_lit, Nat.zero_add] at this
    exact this
theorem One.of_new (w : World) (p : Mp.P) : One (w.alloc (.cells (partC p (.slice none 0 0)) QT)) w.heap.size p := ⟨by simp, fun j u hu => cell_at (heap_alloc_last w _) hu⟩

set_option maxHeartbeats 4000000 in
theorem eqf_any (w : World) (p : Mp.P) (g1 g2 k1 k2 b : Nat) (h1 : One w g1 p) (h2 : One w g2 p) (hb : w.cell? ⟨b, 0, none⟩ = some (.bool true)) (hbl : b < w.heap.size) :
    Calls Tryd.prog 11 #[.slice (some ⟨g1, 0, none⟩) 1 k1, .slice (some ⟨g2, 0, none⟩) 1 k2, .func (.func 12) #[] #[.pointer (some ⟨b, 0, none⟩)]] w fun e w' => e = .returned (.bool true) ∧ Below w.heap.size w w' := by
  go_enter Tryd.func11, Tryd.ntmps11
  go_wp2_with fail
  go_loopw [17] (fun v wr => ∃ i : Nat, v = .int .i64 i ∧ i ≤ 1 ∧ Below w.heap.size w wr) (fun v _ => 1 - (intOf v).toNat)
  case atStart => exact ⟨0, rfl, by omega, Below.refl _ _⟩
  case round =>
    obtain ⟨i, rfl, hi, hB⟩ := hrel
    have HB := Lib.hid hB
    rcases (by omega : i = 0 ∨ i = 1) with rfl | rfl
    · have q1 := Lib.hid (h1.below hB)
      obtain ⟨a0, a1, a2, a3, a4, a5, a6, a7, a8, a9, a10⟩ : _ ∧ _ ∧ _ ∧ _ ∧ _ ∧ _ ∧ _ ∧ _ ∧ _ ∧ _ ∧ _ := ⟨q1.out.2 0 _ rfl, q1.out.2 1 _ rfl, q1.out.2 2 _ rfl, q1.out.2 3 _ rfl, q1.out.2 4 _ rfl, q1.out.2 5 _ rfl, q1.out.2 6 _ rfl, q1.out.2 7 _ rfl, q1.out.2 8 _ rfl, q1.out.2 9 _ rfl, q1.out.2 10 _ rfl⟩
      have HXb := Lib.hid (heap_alloc_last wr (.cells zeroC QT))
      have HH2 := Lib.hid h2
      have hws := hB.size
      have HBB := Lib.hid (show ∀ W : World, Below w.heap.size w W → W.cell? ⟨b, 0, none⟩ = some (.bool true) ∧ b < W.heap.size from fun W h => ⟨(h.cell (p := ⟨b, 0, none⟩) hbl).trans hb, Nat.lt_of_lt_of_le hbl h.size⟩)
      clear hB h1 h2 hb
      go_wp2_with (first
        | (refine store_box rfl QT _ _ rfl wr.heap.size (partC p (.slice none 0 0)) rfl rfl QT zeroC HXb.out sizeQ rfl (oneP _ _ _ _) ?_; intro W3 HG3 HE3; have HB3 := Lib.hid (show Below w.heap.size w W3 by rw [HE3.out]; exact below_setRow (HB.out.alloc hws _) hws _); have q2 := Lib.hid (HH2.out.below HB3.out); obtain ⟨b0, b1, b2, b3, b4, b5, b6, b7, b8, b9, b10⟩ : _ ∧ _ ∧ _ ∧ _ ∧ _ ∧ _ ∧ _ ∧ _ ∧ _ ∧ _ ∧ _ := ⟨q2.out.2 0 _ rfl, q2.out.2 1 _ rfl, q2.out.2 2 _ rfl, q2.out.2 3 _ rfl, q2.out.2 4 _ rfl, q2.out.2 5 _ rfl, q2.out.2 6 _ rfl, q2.out.2 7 _ rfl, q2.out.2 8 _ rfl, q2.out.2 9 _ rfl, q2.out.2 10 _ rfl⟩; have HXc := Lib.hid (heap_alloc_last W3 (.cells zeroC QT)); have hs3 := HB3.out.size)
        | (refine store_box rfl QT _ _ rfl W3.heap.size (partC p (.slice none 0 0)) rfl rfl QT zeroC HXc.out sizeQ rfl (oneP _ _ _ _) ?_; intro W5 HG5 HE5; have HB5 := Lib.hid (show Below w.heap.size w W5 by rw [HE5.out]; exact below_setRow (HB3.out.alloc hs3 _) hs3 _); have HG53 := Lib.hid (show W5.heap[wr.heap.size]? = some (.cells (partC p (.slice none 0 0)) QT (0, 0)) by rw [HE5.out]; exact (setRow_other _ _ _ _ (Nat.ne_of_lt (Array.getElem?_eq_some_iff.1 HG3.out).1)).trans ((((Below.refl W3.heap.size W3).alloc (Nat.le_refl _) (.cells zeroC QT)).block wr.heap.size (Array.getElem?_eq_some_iff.1 HG3.out).1).trans HG3.out)); have HS := Lib.hid (same1_any W5 p b (HBB.out W5 HB5.out).1 (HBB.out W5 HB5.out).2); have hs5 := HB5.out.size)
        | (refine wpList_load_row rfl QT _ rfl wr.heap.size rfl QT (partC p (.slice none 0 0)) (0, 0) _ HG53.out undQ rfl sizeQ ?_)
        | (refine wpList_load_row rfl QT _ rfl W3.heap.size rfl QT (partC p (.slice none 0 0)) (0, 0) _ HG5.out undQ rfl sizeQ ?_))
      refine HS.out.mono ?_
      rintro e w6 ⟨rfl, B6⟩
      have HB6 := Lib.hid (HB5.out.trans (B6.mono hs5))
      clear B6
      go_wp2_with fail
      go_roundw
      case rel => exact ⟨1, by go_num, Nat.le_refl _, HB6.out⟩
      case measure => simp [intOf]
    · go_wp2_with fail
      go_ret
      exact ⟨rfl, HB.out⟩

theorem same_any (w : World) (p : Mp.P) (g1 g2 k1 k2 : Nat) (h1 : One w g1 p) (h2 : One w g2 p) :
    Calls Tryd.prog 6 #[.slice (some ⟨g1, 0, none⟩) 1 k1, .slice (some ⟨g2, 0, none⟩) 1 k2, .bool true] w fun e w' => e = .returned (.bool true) ∧ Below w.heap.size w w' := by
  have HB := Lib.hid ((Below.refl w.heap.size w).alloc (Nat.le_refl _) (.cells #[.bool true] 4))
  have HE := Lib.hid (eqf_any (w.alloc (.cells #[.bool true] 4)) p g1 g2 k1 k2 w.heap.size (h1.below HB.out) (h2.below HB.out) (cell_at (heap_alloc_last w _) rfl) (by simp))
  clear h1 h2
  go_enter Tryd.func6, Tryd.ntmps6
  go_wp2_with fail
  refine HE.out.mono ?_
  rintro e w1 ⟨rfl, B1⟩
  go_wp2_with fail
  go_ret
  exact ⟨rfl, HB.out.trans (B1.mono (by simp))⟩

/-- A slice of one line. -/
def OneL (w : World) (g : Nat) (x : Ip.L) : Prop := w.cell? ⟨g, 0, none⟩ = some (.int .i64 (x.n : Int)) ∧ w.cell? ⟨g, 1, none⟩ = some (.string (str x.t)) ∧ w.cell? ⟨g, 2, none⟩ = some (.bool x.q)
set_option maxHeartbeats 2000000 in
theorem eql_lines (w : World) (x : Ip.L) (g1 g2 k1 k2 : Nat) (h1 : OneL w g1 x) (h2 : OneL w g2 x) :
    Calls Tryd.prog 8 #[.slice (some ⟨g1, 0, none⟩) 1 k1, .slice (some ⟨g2, 0, none⟩) 1 k2] w fun e w' => e = .returned (.bool true) ∧ Below w.heap.size w w' := by
  have hq := fun W => neq_T x W
  have hgd := guardT
  go_enter Tryd.func8, Tryd.ntmps8
  go_wp2_with fail
  go_loopw [13] (fun v wr => ∃ i n : Nat, v = .int .i64 i ∧ i ≤ 1 ∧ wr = w.drewN n) (fun v _ => 1 - (intOf v).toNat)
  case atStart => exact ⟨0, 0, rfl, by omega, rfl⟩
  case round =>
    obtain ⟨i, n, rfl, hi, rfl⟩ := hrel
    rcases (by omega : i = 0 ∨ i = 1) with rfl | rfl
    · obtain ⟨a0, a1, a2⟩ := h1
      obtain ⟨b0, b1, b2⟩ := h2
      have a0' : (w.drewN n).cell? ⟨g1, 0, none⟩ = some (.int .i64 (x.n : Int)) := a0
      have a1' : (w.drewN n).cell? ⟨g1, 1, none⟩ = some (.string (str x.t)) := a1
      have a2' : (w.drewN n).cell? ⟨g1, 2, none⟩ = some (.bool x.q) := a2
      have b0' : (w.drewN n).cell? ⟨g2, 0, none⟩ = some (.int .i64 (x.n : Int)) := b0
      have b1' : (w.drewN n).cell? ⟨g2, 1, none⟩ = some (.string (str x.t)) := b1
      have b2' : (w.drewN n).cell? ⟨g2, 2, none⟩ = some (.bool x.q) := b2
      go_wp2_with fail
      go_quiet (fail)
      go_wp2_with fail
      go_roundw
      case rel => exact ⟨1, _, by go_num, Nat.le_refl _, rfl⟩
      case measure => simp [intOf]
    · go_wp2_with fail
      go_ret
      exact ⟨rfl, below_drewN (Below.refl _ _) _⟩

theorem fieldsF : (Tryd.prog.fieldsOf FT).toList.map (fun f => (f.name, f.type, f.offset)) = [("Code", 28, 0), ("At", 9, 1), ("Line", 3, 2)] := by kernel_rfl
theorem eq_fault (w : World) (n m : Int) (t : ByteArray) : (Op.equalIn 10000 FT (.agg #[.int .i64 n, .string t, .int .i64 m]) (.agg #[.int .i64 n, .string t, .int .i64 m])).run Tryd.prog w = .ok true w := by
  rw [run_equalIn_struct _ _ _ _ _ undF (by kernel_rfl)]
  have hf := fieldsF
  generalize (Tryd.prog.fieldsOf FT).toList = fs at hf
  obtain ⟨f1, l1, rfl, h1, hl1⟩ := List.map_eq_cons_iff.1 hf
  obtain ⟨f2, l2, rfl, h2, hl2⟩ := List.map_eq_cons_iff.1 hl1
  obtain ⟨f3, l3, rfl, h3, hl3⟩ := List.map_eq_cons_iff.1 hl2
  obtain rfl := List.map_eq_nil_iff.1 hl3
  simp only [Prod.mk.injEq] at h1 h2 h3
  obtain ⟨n1, t1, o1⟩ := h1
  obtain ⟨n2, t2, o2⟩ := h2
  obtain ⟨n3, t3, o3⟩ := h3
  unfold Op.eqFields Op.eqFields Op.eqFields Op.eqFields
  rw [n1, n2, n3, t1, t2, t3, o1, o2, o3]
  simp [go_sem, part]
theorem neq_F (n m : Int) (t : ByteArray) (w : World) : (binOp .neq FT (.agg #[.int .i64 n, .string t, .int .i64 m]) (.agg #[.int .i64 n, .string t, .int .i64 m])).run Tryd.prog w = .ok (.bool false) w := by
  rw [run_neq_struct, eq_fault]; simp [Result.andThen]
theorem eql_F (n m : Int) (t : ByteArray) (w : World) : (binOp .eql FT (.agg #[.int .i64 n, .string t, .int .i64 m]) (.agg #[.int .i64 n, .string t, .int .i64 m])).run Tryd.prog w = .ok (.bool true) w := by
  rw [run_eql_struct, eq_fault]; simp [Result.andThen]
theorem guardF : Tryd.prog.eqGuardType Tryd.prog.depth FT = false := by kernel_rfl
end Go.Proofs.YtfmapdloaeppfaaDoor.Mw
