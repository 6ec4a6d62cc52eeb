/-
  flatironlaw09.Of, at parts that have no recipes.
-/
import Derived.Test.YtfmapdloaeppfaaDoorMOf
namespace Go.Proofs.YtfmapdloaeppfaaDoor.Mw
open Go.RowKit Go.Proofs.YtfmapdloaeppfaaDoor Go.Proofs.YtfmapdloaeppfaaDoor.Ww Go.Proofs.YtfmapdloaeppfaaDoor.Iw
set_option maxRecDepth 100000

abbrev QT : TypeId := 26
theorem infoQT : (Tryd.prog.info? QT).map (fun i => (i.zero, i.size, i.bytes)) = some (some zeroV, 11, 144) := by kernel_rfl
theorem sizeQ : (Tryd.prog.info? QT).map (·.size) = some 11 := by kernel_rfl
theorem undQ : Tryd.prog.underlying QT = some (.struct (Tryd.prog.fieldsOf QT)) := by kernel_rfl
def bareC (l : List Mp.P) : List Value := l.flatMap fun p => (partC p (.slice none 0 0)).toList
theorem bareC_snoc (l : List Mp.P) (p : Mp.P) : bareC (l ++ [p]) = bareC l ++ (partC p (.slice none 0 0)).toList := by simp [bareC]
theorem row_part {w : World} {lo : Nat} {a : Option Addr} {c : Nat} {X : List PV} (h : w.ownsRow lo PT 11 (.slice a X.length c) X.length (pvsC X)) {i : Nat} (hi : i < X.length) :
    ∃ g, a = some ⟨g, 0, none⟩ ∧ X.length ≤ c ∧ g < w.heap.size ∧ ∀ j u, j < 11 → (pvC X[i])[j]? = some u → w.cell? ⟨g, i * 11 + j, none⟩ = some u := by
  obtain ⟨hl, hr⟩ := id h
  rcases hr with ⟨hn, h0⟩ | ⟨g, cap, cur, hv, hb, hg, hn, hc, hs, ht⟩
  · omega
  · cases hv
    refine ⟨g, rfl, hn, (Array.getElem?_eq_some_iff.1 hg).1, fun j u hj hu => ?_⟩
    have := h.cells (g := g) rfl (i * 11 + j) u (by rw [pvsC_get hi hj]; exact hu)
    rw [Addr.add_lit, Nat.zero_add] at this
    exact this

theorem part_cells {w : World} {g : Nat} {p : Mp.P} {v : Value} {T : TypeId} (h : w.heap[g]? = some (.cells (partC p v) T (0, 0))) :
    w.cell? ⟨g, 0, none⟩ = some (.int .i64 (p.kind : Int)) ∧ w.cell? ⟨g, 1, none⟩ = some (.int .i64 (p.line : Int)) ∧ w.cell? ⟨g, 2, none⟩ = some (.string (str p.name)) ∧ w.cell? ⟨g, 3, none⟩ = some (.string (str p.op)) ∧ w.cell? ⟨g, 4, none⟩ = some (.string (str p.value)) ∧ w.cell? ⟨g, 5, none⟩ = some (.bool p.over) ∧ w.cell? ⟨g, 6, none⟩ = some (.bool p.out) ∧
      w.cell? ⟨g, 7, none⟩ = some (.string (str p.targets)) ∧ w.cell? ⟨g, 8, none⟩ = some (.string (str p.needs)) ∧ w.cell? ⟨g, 9, none⟩ = some (.string (str p.order)) ∧ w.cell? ⟨g, 10, none⟩ = some v :=
  ⟨cell_at h rfl, cell_at h rfl, cell_at h rfl, cell_at h rfl, cell_at h rfl, cell_at h rfl, cell_at h rfl, cell_at h rfl, cell_at h rfl, cell_at h rfl, cell_at h rfl⟩
def LoRel (w : World) (X : List PV) (v3 v11 : Value) (wr : World) : Prop :=
  ∃ i : Nat, v11 = .int .i64 i ∧ i ≤ X.length ∧ wr.ownsRow w.heap.size QT 11 v3 i (bareC ((X.take i).map PV.p)) ∧ Below w.heap.size w wr

set_option maxHeartbeats 4000000 in
theorem LawOf_any (w : World) (lo : Nat) (a : Option Addr) (c : Nat) (X : List PV) (hX : Ps w lo (.slice a X.length c) X) (hr : ∀ x ∈ X, x.p.recipe = []) (hl : X.length ≤ 100000) :
    Calls Tryd.prog 7 #[.slice a X.length c] w fun e w' => ∃ a' c', e = .returned (.slice a' X.length c') ∧ w'.ownsRow w.heap.size QT 11 (.slice a' X.length c') X.length (bareC (X.map PV.p)) ∧ Below w.heap.size w w' := by
  obtain ⟨i0, hi0, hz0, hz1, hz2⟩ := info_parts infoQT
  have HX := Lib.hid hX
  have HR := Lib.hid hr
  clear hX hr
  go_enter Tryd.func7, Tryd.ntmps7
  go_wp2_with fail
  go_loopw [3, 11] (fun v3 v11 wr => LoRel w X v3 v11 wr) (fun _ v11 _ => X.length - (intOf v11).toNat)
  case atStart => exact ⟨0, rfl, Nat.zero_le _, World.ownsRow_nil _ _ _ _, Below.refl _ _⟩
  case round =>
    obtain ⟨i, rfl, hi, ho, hB⟩ := hrel
    obtain ⟨wo, rfl⟩ : ∃ wo : World, wo = wr := ⟨wr, rfl⟩
    have hws := hB.size
    by_cases hlt : i < X.length
    · obtain ⟨g, rfl, hgc, hg, hcell⟩ := row_part HX.out.row hlt
      have hcell2 : ∀ j u, j < 11 → (pvC X[i])[j]? = some u → wo.cell? ⟨g, i * 11 + j, none⟩ = some u := fun j u hj hu => (hB.cell (p := ⟨g, i * 11 + j, none⟩) hg).trans (hcell j u hj hu)
      have hrx := HR.out X[i] (List.getElem_mem hlt)
      have hex := HX.out.each X[i] (List.getElem_mem hlt)
      have htk : (X.take (i + 1)).map PV.p = (X.take i).map PV.p ++ [X[i].p] := by rw [List.take_succ_eq_append_getElem hlt, List.map_append]; rfl
      generalize X[i] = x at *
      rcases x with ⟨p, u⟩
      rw [hrx] at hex
      obtain ⟨ua, uc, rfl⟩ := owns_slice hex
      have p0 := hcell2 0 _ (by decide) rfl
      have p1 := hcell2 1 _ (by decide) rfl
      have p2 := hcell2 2 _ (by decide) rfl
      have p3 := hcell2 3 _ (by decide) rfl
      have p4 := hcell2 4 _ (by decide) rfl
      have p5 := hcell2 5 _ (by decide) rfl
      have p6 := hcell2 6 _ (by decide) rfl
      have p7 := hcell2 7 _ (by decide) rfl
      have p8 := hcell2 8 _ (by decide) rfl
      have p9 := hcell2 9 _ (by decide) rfl
      have p10 := hcell2 10 _ (by decide) rfl
      rw [Nat.add_zero] at p0
      simp only [List.length_nil] at p10
      obtain ⟨va, vc, rfl⟩ := owns_slice ho
      have HO := Lib.hid ho
      have HBr := Lib.hid hB
      have HTK := Lib.hid htk
      have HXb := Lib.hid (heap_alloc_last wo (.cells zeroC PT))
      have hki : (i : Int) < X.length := by omega
      have hk0 : (0 : Int) ≤ (i : Int) := Int.natCast_nonneg _
      clear hcell hcell2 hrx hex htk ho hB
      go_wp2_with (first
        | (refine store_box rfl PT _ _ rfl wo.heap.size (partC p (.slice ua 0 uc)) rfl rfl PT zeroC HXb.out sizeP rfl (oneP _ _ _ _) ?_; intro W3 HG3 HE3; obtain ⟨d0, d1, d2, d3, d4, d5, d6, d7, d8, d9, d10⟩ := part_cells HG3.out; have HXc := Lib.hid (heap_alloc_last W3 (.cells zeroC QT)); have hs3 : wo.heap.size + 1 = W3.heap.size := by rw [HE3.out]; simp)
        | (refine store_box rfl QT _ _ rfl W3.heap.size (partC p (.slice none 0 0)) rfl rfl QT zeroC HXc.out sizeQ rfl (oneP _ _ _ _) ?_; intro W5 HG5 HE5; have HB5 := Lib.hid (show Below wo.heap.size wo W5 by rw [HE5.out, HE3.out]; exact below_setRow ((below_setRow ((Below.refl _ _).alloc (Nat.le_refl _) _) (Nat.le_refl _) _).alloc (by simp) _) (by simp) _); have e10 : W5.cell? ⟨wo.heap.size, 10, none⟩ = some (.slice ua 0 uc) := by rw [HE5.out]; exact cell_at ((setRow_other _ _ _ _ (by omega)).trans ((((Below.refl W3.heap.size W3).alloc (Nat.le_refl _) (.cells zeroC QT)).block wo.heap.size (by omega)).trans HG3.out)) rfl))
      go_loopw [39] (fun v39 wq => v39 = .int .i64 0 ∧ wq = W5) (fun _ _ => 0)
      case atStart => exact ⟨rfl, rfl⟩
      case round =>
        obtain ⟨rfl, rfl⟩ := hrel
        have HO5 := Lib.hid (owns_below HO.out HB5.out)
        have HB6 := Lib.hid (HBr.out.trans (HB5.out.mono hws))
        have hw5 : w.heap.size ≤ wr.heap.size := HB6.out.size
        have hpc : (partC p (.slice none 0 0)).size = 11 := rfl
        go_wp2_with (first
          | (refine wpList_load_row rfl QT _ rfl W3.heap.size rfl QT (partC p (.slice none 0 0)) (0, 0) _ HG5.out undQ rfl sizeQ ?_)
          | (at_builtin; rw [fold_part']; refine wpList_append_own_at _ rfl _ _ 34 rfl w.heap.size QT i0 zeroV 11 144 Tryd.underlying34 hi0 hz0 hz1 hz2 rfl (by decide) _ _ _ rfl (HO5.out.alloc _) ⟨wr.heap.size, 0, none⟩ 1 1 (partC p (.slice none 0 0)).toList rfl rfl (cells_new _ (partC p (.slice none 0 0)) _ rfl) (by simp [partC, Value.oneCell']) (by unfold maxLen; omega) (by omega) (by simp; omega) ?_; intro v' w4 hown' hgrow _ hat; obtain ⟨a4, c4, rfl⟩ := owns_slice hown'))
        go_roundw
        case rel => exact ⟨i + 1, by go_num, hlt, by rw [HTK.out, bareC_snoc]; exact hown', (HB6.out.alloc hw5 _).grown hgrow (by simp; omega) fun j ej => (HO5.out.lt j ej).1⟩
        case measure => simp [intOf]; omega
    · obtain rfl : i = X.length := by omega
      obtain ⟨va, vc, rfl⟩ := owns_slice ho
      rw [List.take_length] at ho
      have HO := Lib.hid ho
      have HBr := Lib.hid hB
      have hki : ¬ (X.length : Int) < X.length := by omega
      clear ho hB
      go_wp2_with fail
      go_ret
      exact ⟨va, vc, rfl, HO.out, HBr.out⟩
end Go.Proofs.YtfmapdloaeppfaaDoor.Mw
