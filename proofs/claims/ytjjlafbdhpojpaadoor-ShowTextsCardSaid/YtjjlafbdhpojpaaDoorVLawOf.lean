/-
  flatironlaw09.Of, at any parts.
-/
import Derived.Test.YtjjlafbdhpojpaaDoorILaw0
import Derived.Test.YtjjlafbdhpojpaaDoorVBase
namespace Go.Proofs.YtjjlafbdhpojpaaDoor.Vw
open Go.RowKit Go.Proofs.YtjjlafbdhpojpaaDoor Go.Proofs.YtjjlafbdhpojpaaDoor.Ww Go.Proofs.YtjjlafbdhpojpaaDoor.Iw Go.Proofs.YtjjlafbdhpojpaaDoor.Mw
set_option maxRecDepth 100000

def LoRel (w : World) (X : List PV) (v3 v11 : Value) (wr : World) : Prop :=
  ∃ (i : Nat) (Y : List PV), v11 = .int .i64 i ∧ i ≤ X.length ∧ Y.map PV.p = (X.take i).map PV.p ∧ Qs wr w.heap.size v3 Y ∧ Below w.heap.size w wr
def LiRel (W5 : World) (b : Nat) (p : Mp.P) (v39 : Value) (wq : World) : Prop :=
  ∃ (k : Nat) (v : Value), v39 = .int .i64 k ∧ k ≤ p.recipe.length ∧ wq.heap[b]? = some (.cells (partC p v) QT (0, 0)) ∧ wq.ownsRow W5.heap.size RT 3 v k (linesC (p.recipe.take k)) ∧ Kept [b] W5 wq
theorem Kept.grown' {X : List Nat} {a b c : World} {row : Option Nat} (h : Kept X a b) (hg : b.grownBy c row) (hr : ∀ j, row = some j → a.heap.size ≤ j) : Kept X a c :=
  ⟨hg.os.trans h.os, hg.tape.trans h.tape, hg.output.trans h.output, Nat.le_trans h.size hg.size, fun i hi hx => (hg.block i (Nat.lt_of_lt_of_le hi h.size) fun e => by have := hr i e.symm; omega).trans (h.block i hi hx)⟩
theorem set10 {w : World} {b : Nat} {p : Mp.P} {v : Value} {T : TypeId} (h : w.heap[b]? = some (.cells (partC p v) T (0, 0))) (u : Value) : (w.setCell ⟨b, 10, none⟩ u).heap[b]? = some (.cells (partC p u) T (0, 0)) := heap_set3 h u

set_option maxHeartbeats 4000000 in
theorem LawOf_any (w : World) (lo : Nat) (a : Option Addr) (c : Nat) (X : List PV) (hX : Ps w lo (.slice a X.length c) X) (hr : ∀ x ∈ X, x.p.recipe.length ≤ 200000) (hl : X.length ≤ 200000) :
    Calls Tryd.prog 9 #[.slice a X.length c] w fun e w' => ∃ a' c' Y, Y.map PV.p = X.map PV.p ∧ e = .returned (.slice a' Y.length c') ∧ Qs w' w.heap.size (.slice a' Y.length c') Y ∧ Below w.heap.size w w' := by
  obtain ⟨i0, hi0, hz0, hz1, hz2⟩ := info_parts infoQT
  obtain ⟨i1, hi1, hy0, hy1, hy2⟩ := info_parts infoRT
  have HX := Lib.hid hX
  have HR := Lib.hid hr
  clear hX hr
  go_enter Tryd.func9, Tryd.ntmps9
  go_wp2_with fail
  go_loopw [3, 11] (fun v3 v11 wr => LoRel w X v3 v11 wr) (fun _ v11 _ => X.length - (intOf v11).toNat)
  case atStart => exact ⟨0, [], rfl, Nat.zero_le _, rfl, Qs.nil _ _, Below.refl _ _⟩
  case round =>
    obtain ⟨i, Y, rfl, hi, hY, ho, hB⟩ := hrel
    obtain ⟨wo, rfl⟩ : ∃ wo : World, wo = wr := ⟨wr, rfl⟩
    have hws := hB.size
    by_cases hlt : i < X.length
    · obtain ⟨g, rfl, hgc, hg, hcell⟩ := row_part HX.out.row hlt
      have hcell2 : ∀ j u, j < 11 → (pvC X[i])[j]? = some u → wo.cell? ⟨g, i * 11 + j, none⟩ = some u := fun j u hj hu => (hB.cell (p := ⟨g, i * 11 + j, none⟩) hg).trans (hcell j u hj hu)
      have hrx := HR.out X[i] (List.getElem_mem hlt)
      have hex := HX.out.each X[i] (List.getElem_mem hlt)
      have htk : (X.take (i + 1)).map PV.p = (X.take i).map PV.p ++ [X[i].p] := by rw [List.take_succ_eq_append_getElem hlt, List.map_append]; rfl
      generalize X[i] = x at *
      rcases x with ⟨p, u⟩
      replace hex : w.ownsRow lo LT 3 u p.recipe.length (linesC p.recipe) := hex
      obtain ⟨ua, uc, rfl⟩ := owns_slice hex
      have p0 := hcell2 0 _ (by decide) rfl
      have p1 := hcell2 1 _ (by decide) rfl
      have p2 := hcell2 2 _ (by decide) rfl
      have p3 := hcell2 3 _ (by decide) rfl
      have p4 := hcell2 4 _ (by decide) rfl
      have p5 := hcell2 5 _ (by decide) rfl
      have p6 := hcell2 6 _ (by decide) rfl
      have p7 := hcell2 7 _ (by decide) rfl
      have p8 := hcell2 8 _ (by decide) rfl
      have p9 := hcell2 9 _ (by decide) rfl
      have p10 := hcell2 10 _ (by decide) rfl
      rw [Nat.add_zero] at p0
      obtain ⟨va, vc, hvv⟩ := owns_slice ho.row
      subst hvv
      have HO := Lib.hid ho
      have HBr := Lib.hid hB
      have HTK := Lib.hid htk
      have HY := Lib.hid hY
      have HEX := Lib.hid hex
      have hyl : Y.length = i := by have := congrArg List.length hY; simp at this; omega
      have HYL := Lib.hid hyl
      have HXb := Lib.hid (heap_alloc_last wo (.cells zeroC PT))
      have hki : (i : Int) < X.length := by omega
      have hk0 : (0 : Int) ≤ (i : Int) := Int.natCast_nonneg _
      have hrx2 : p.recipe.length ≤ 200000 := hrx
      clear hcell hcell2 hrx hex htk ho hB hY hyl
      go_wp2_with (first
        | (refine store_box rfl PT _ _ rfl wo.heap.size (partC p (.slice ua p.recipe.length uc)) rfl rfl PT zeroC HXb.out sizeP rfl (oneP _ _ _ _) ?_; intro W3 HG3 HE3; obtain ⟨d0, d1, d2, d3, d4, d5, d6, d7, d8, d9, d10⟩ := part_cells HG3.out; have HXc := Lib.hid (heap_alloc_last W3 (.cells zeroC QT)); have hs3 : wo.heap.size + 1 = W3.heap.size := by rw [HE3.out]; simp)
        | (refine store_box rfl QT _ _ rfl W3.heap.size (partC p (.slice none 0 0)) rfl rfl QT zeroC HXc.out sizeQ rfl (oneP _ _ _ _) ?_; intro W5 HG5 HE5; have HB5 := Lib.hid (show Below wo.heap.size wo W5 by rw [HE5.out, HE3.out]; exact below_setRow ((below_setRow ((Below.refl _ _).alloc (Nat.le_refl _) _) (Nat.le_refl _) _).alloc (by simp) _) (by simp) _); have e10 : W5.cell? ⟨wo.heap.size, 10, none⟩ = some (.slice ua p.recipe.length uc) := by rw [HE5.out]; exact cell_at ((setRow_other _ _ _ _ (by omega)).trans ((((Below.refl W3.heap.size W3).alloc (Nat.le_refl _) (.cells zeroC QT)).block wo.heap.size (by omega)).trans HG3.out)) rfl))
      have hb5 : W3.heap.size < W5.heap.size := (Array.getElem?_eq_some_iff.1 HG5.out).1
      have HW5 := Lib.hid (HBr.out.trans (HB5.out.mono hws))
      have hw5 : w.heap.size ≤ W5.heap.size := HW5.out.size
      go_loopw [39] (fun v39 wq => LiRel W5 W3.heap.size p v39 wq) (fun v39 _ => p.recipe.length - (intOf v39).toNat)
      case atStart => exact ⟨0, _, rfl, Nat.zero_le _, HG5.out, World.ownsRow_nil _ _ _ _, Kept.refl _ _⟩
      case round =>
        obtain ⟨k, v, rfl, hk, hbox, hro, hK⟩ := hrel
        obtain ⟨wq, rfl⟩ : ∃ wq : World, wq = wr := ⟨wr, rfl⟩
        have hkq := hK.size
        have HBq := Lib.hid (HW5.out.trans (kept_below hK hw5 (fun i hi => by rw [List.mem_singleton.1 hi]; omega)))
        by_cases hlt2 : k < p.recipe.length
        · obtain ⟨h, rfl, hhc, hh, _, x0, x1, x2⟩ := line_cells HEX.out hlt2
          have q0 : wq.cell? ⟨h, k * 3, none⟩ = some (.int .i64 (p.recipe[k].n : Int)) := (HBq.out.cell (p := ⟨h, k * 3, none⟩) hh).trans x0
          have q1 : wq.cell? ⟨h, k * 3 + 1, none⟩ = some (.string (str p.recipe[k].t)) := (HBq.out.cell (p := ⟨h, k * 3 + 1, none⟩) hh).trans x1
          have q2 : wq.cell? ⟨h, k * 3 + 2, none⟩ = some (.bool p.recipe[k].q) := (HBq.out.cell (p := ⟨h, k * 3 + 2, none⟩) hh).trans x2
          have HTL : Hid (linesC (p.recipe.take (k + 1)) = linesC (p.recipe.take k) ++ linesC [p.recipe[k]]) := Lib.hid (by rw [List.take_succ_eq_append_getElem hlt2, linesC_app])
          generalize p.recipe[k] = x at *
          rcases x with ⟨xn, xt, xq⟩
          obtain ⟨ra, rc, rfl⟩ := owns_slice hro
          have hki2 : (k : Int) < p.recipe.length := by omega
          have hk02 : (0 : Int) ≤ (k : Int) := Int.natCast_nonneg _
          have HRO := Lib.hid hro
          have HBOX := Lib.hid hbox
          have HK := Lib.hid hK
          have hbq : W3.heap.size < wq.heap.size := by omega
          have s10 : ∀ o, (wq.alloc o).cell? ⟨W3.heap.size, 10, none⟩ = some (.slice ra k rc) := fun o => cell_at ((((Below.refl wq.heap.size wq).alloc (Nat.le_refl _) o).block W3.heap.size hbq).trans HBOX.out) rfl
          clear x0 x1 x2 hro hbox hK
          go_wp2_with (at_builtin; refine wpList_append_own_at _ rfl _ _ 63 rfl W5.heap.size RT i1 (.agg #[.int .i64 0, .string ByteArray.empty, .bool false]) 3 32 Tryd.underlying63 hi1 hy0 hy1 hy2 rfl (by decide) _ _ _ rfl ((HRO.out.alloc _).alloc _) ⟨wq.heap.size + 1, 0, none⟩ 1 1 [.int .i64 (xn : Int), .string (str xt), .bool xq] rfl rfl (cells_new _ #[.int .i64 (xn : Int), .string (str xt), .bool xq] _ (by simp)) (by simp [Value.oneCell']) (by unfold maxLen; omega) (by omega) (by simp; omega) ?_; intro v' w4 hown' hgrow _ hat; obtain ⟨a4, c4, rfl⟩ := owns_slice hown'; have HK4 := Lib.hid (Kept.grown' ((HK.out.alloc _).alloc _) hgrow fun j ej => (HRO.out.lt j ej).1); have HX4 : Hid (w4.heap[W3.heap.size]? = some (.cells (partC p (.slice ra k rc)) QT (0, 0))) := Lib.hid ((hgrow.block W3.heap.size (by simp; omega) (fun e => by have := (HRO.out.lt _ e.symm).1; omega)).trans (((((Below.refl wq.heap.size wq).alloc (Nat.le_refl _) _).alloc (by simp) _).block W3.heap.size hbq).trans HBOX.out)); have z1 := cell_at (i := 10) HX4.out rfl; have z2 := frozen_at HX4.out 10)
          go_roundw
          case rel => exact ⟨k + 1, _, by go_num, hlt2, set10 HX4.out _, by rw [HTL.out]; exact own_kept hown' fun g' hg' => Below.heap_setCell _ _ _ _ (by show g' ≠ W3.heap.size; have := (hown'.lt g' hg').1; omega), HK4.out.setCell (.inl (by simp)) _⟩
          case measure => simp [intOf]; omega
        · obtain rfl : k = p.recipe.length := by omega
          rw [List.take_length] at hro
          obtain ⟨ra, rc, rfl⟩ := owns_slice hro
          have hki2 : ¬ (p.recipe.length : Int) < p.recipe.length := by omega
          have HRO := Lib.hid hro
          have HBOX := Lib.hid hbox
          have HOq := Lib.hid (HO.out.below ((HB5.out).trans (kept_below hK (by have := HB5.out.size; exact this) (fun i hi => by rw [List.mem_singleton.1 hi]; omega))))
          have hpc : (partC p (.slice ra p.recipe.length rc)).size = 11 := rfl
          have hwq : w.heap.size ≤ wq.heap.size := HBq.out.size
          clear hro hbox hK
          go_wp2_with (first
            | (refine wpList_load_row rfl QT _ rfl W3.heap.size rfl QT (partC p (.slice ra p.recipe.length rc)) (0, 0) _ HBOX.out undQ rfl sizeQ ?_)
            | (at_builtin; rw [fold_part']; refine wpList_append_own_at _ rfl _ _ 33 rfl w.heap.size QT i0 zeroV 11 144 Tryd.underlying33 hi0 hz0 hz1 hz2 rfl (by decide) _ _ _ rfl (HOq.out.row.alloc _) ⟨wq.heap.size, 0, none⟩ 1 1 (partC p (.slice ra p.recipe.length rc)).toList rfl rfl (cells_new _ (partC p (.slice ra p.recipe.length rc)) _ rfl) (by simp [partC, Value.oneCell']) (by unfold maxLen; have := HYL.out; omega) (by have := HYL.out; omega) (by simp; omega) ?_; intro v' w4 hown' hgrow _ hat; obtain ⟨a4, c4, rfl⟩ := owns_slice hown'))
          go_roundw
          case rel => exact ⟨i + 1, Y ++ [⟨p, .slice ra p.recipe.length rc⟩], by go_num, hlt, by rw [HTK.out, List.map_append, HY.out]; rfl, (HOq.out.below ((Below.refl _ _).alloc (Nat.le_refl _) _)).snoc (x := ⟨p, .slice ra p.recipe.length rc⟩) (own_mono (owns_below HRO.out ((Below.refl _ _).alloc (Nat.le_refl _) _)) hw5) hown' hgrow, (HBq.out.alloc hwq _).grown hgrow (by simp; omega) fun j ej => (HOq.out.row.lt j ej).1⟩
          case measure => simp [intOf]; omega
    · obtain rfl : i = X.length := by omega
      obtain ⟨va, vc, hvv⟩ := owns_slice ho.row
      subst hvv
      rw [List.take_length] at hY
      have HO := Lib.hid ho
      have HBr := Lib.hid hB
      have HY := Lib.hid hY
      have hki : ¬ (X.length : Int) < X.length := by omega
      clear ho hB hY
      go_wp2_with fail
      go_ret
      exact ⟨va, vc, Y, HY.out, rfl, HO.out, HBr.out⟩
end Go.Proofs.YtjjlafbdhpojpaaDoor.Vw
