/-
  flatironlaw14.ExpandLoops: true.
-/
import Derived.Test.YtebagfadcjgllaaGreatDoorXLoop
namespace Go.Proofs.YtebagfadcjgllaaGreatDoor.Xw
open Go.RowKit Go.Proofs.YtebagfadcjgllaaGreatDoor Go.Proofs.YtebagfadcjgllaaGreatDoor.Ww Go.Proofs.YtebagfadcjgllaaGreatDoor.Tw Go.Proofs.YtebagfadcjgllaaGreatDoor.Kw Go.Proofs.YtebagfadcjgllaaGreatDoor.Jw Go.Proofs.YtebagfadcjgllaaGreatDoor.Xb
set_option maxRecDepth 100000

set_option maxHeartbeats 8000000 in
theorem ExpandLoops_any (w : World) (n f : Nat) (_hn : n < 256) (hf : f < 256) : Calls Tryz.prog 3 #[.int .u8 n, .int .u8 f] w fun e w' => e = .returned (.bool true) ∧ Below w.heap.size w w' := by
  have hmf : ∀ (fn : Fn) (first cap : Array Value) (w : World), (Instr.makeFunc fn first cap).run Tryz.prog w = .ok (.func fn first cap) w := fun _ _ _ _ => rfl
  have hm : (n : Int).tmod 20 = ((n % 20 : Nat) : Int) := tmod_nat n 20
  have hlt : n % 20 < 20 := Nat.mod_lt _ (by decide)
  obtain ⟨m, hme⟩ : ∃ m, n % 20 = m := ⟨_, rfl⟩
  rw [hme] at hm hlt
  have HL := Lib.hid (lives_any w)
  obtain ⟨i0, hi, hz0, hz1, hz2⟩ := info_parts infoPV
  go_enter Tryz.func3, Tryz.ntmps3
  go_wp2_with fail
  refine HL.out.mono ?_
  rintro e w1 ⟨rfl, B1⟩
  have HB1 := Lib.hid B1
  clear HL B1
  go_wp2_with fail
  obtain ⟨k, hk⟩ : ∃ k : Nat, (m : Int) + 1 = k := ⟨m + 1, rfl⟩
  rw [hk]
  have hk1 : 1 ≤ k := by omega
  have hk2 : k ≤ 20 := by omega
  have HK := Lib.hid (show ((w1.alloc (.cells #[.int .i64 k] IntT)).alloc (.cells #[.slice none 0 0, .slice none 0 0, .slice none 0 0] GT)).heap[w1.heap.size]? = some (.cells #[.int .i64 k] IntT (0, 0)) from alloc_keep (heap_last _ _) _)
  have HG := Lib.hid (show ((w1.alloc (.cells #[.int .i64 k] IntT)).alloc (.cells #[.slice none 0 0, .slice none 0 0, .slice none 0 0] GT)).heap[w1.heap.size + 1]? = some (.cells #[.slice none 0 0, .slice none 0 0, .slice none 0 0] GT (0, 0)) from by have h := heap_last (w1.alloc (.cells #[.int .i64 k] IntT)) (.cells #[.slice none 0 0, .slice none 0 0, .slice none 0 0] GT); rw [World.size_alloc] at h; exact h)
  have HB2 := Lib.hid (show Below w.heap.size w ((w1.alloc (.cells #[.int .i64 k] IntT)).alloc (.cells #[.slice none 0 0, .slice none 0 0, .slice none 0 0] GT)) from (HB1.out.alloc HB1.out.size _).alloc (HB1.out.alloc HB1.out.size _).size _)
  have hwk : w.heap.size ≤ w1.heap.size := HB1.out.size
  clear hm hme hlt _hn HB1 hk
  generalize (w1.alloc (.cells #[.int .i64 k] IntT)).alloc (.cells #[.slice none 0 0, .slice none 0 0, .slice none 0 0] GT) = W0 at *
  generalize w1.heap.size = kb at *
  go_loopw [24] (fun vi wx => LRel w kb k vi wx) (fun vi _ => k - (intOf vi).toNat)
  case atStart => exact ⟨0, none, 0, rfl, Nat.zero_le _, HK.out, HG.out, World.ownsRow_nil _ _ _ _, HB2.out⟩
  case round =>
    clear HK HG HB2
    obtain ⟨i, a, c, rfl, hik, hkc, hg, hrow, hB⟩ := hrel
    by_cases hlt : i < k
    · have hki : (i : Int) < k := by omega
      have hkl := (Array.getElem?_eq_some_iff.1 hkc).1
      have hgl := (Array.getElem?_eq_some_iff.1 hg).1
      have ck : wr.cell? ⟨kb, 0, none⟩ = some (.int .i64 k) := cell_at (i := 0) hkc rfl
      have cg : wr.cell? ⟨kb + 1, 0, none⟩ = some (.slice a i c) := cell_at (i := 0) hg rfl
      have S0 : wr.drew.cell? ⟨kb + 1, 0, none⟩ = some (.slice a i c) := cg
      have K0 : wr.drew.cell? ⟨kb, 0, none⟩ = some (.int .i64 k) := ck
      have KA : ∀ o, (wr.alloc o).drew.cell? ⟨kb, 0, none⟩ = some (.int .i64 k) := fun o => (World.cell?_alloc_past o kb 0 hkl).trans ck
      have SB : ∀ o, (wr.alloc o).drew.cell? ⟨kb + 1, 0, none⟩ = some (.slice a i c) := fun o => (World.cell?_alloc_past o (kb + 1) 0 hgl).trans cg
      have SA : ∀ o, (wr.drew.alloc o).cell? ⟨kb + 1, 0, none⟩ = some (.slice a i c) := fun o => (World.cell?_alloc_past o (kb + 1) 0 hgl).trans cg
      have HA := Lib.hid fun (W8 : World) (o : Obj) (hgw : (wr.drew.alloc o).grownBy W8 (Value.slice a i c).ownBlock) => (show W8.heap[kb + 1]? = some (.cells #[.slice a i c, .slice none 0 0, .slice none 0 0] GT (0, 0)) ∧ W8.heap[kb]? = some (.cells #[.int .i64 k] IntT (0, 0)) ∧ Below w.heap.size w W8 from by
        have hne : ∀ b, b < kb + 2 → some b ≠ (Value.slice a i c).ownBlock := fun b hb e => by have := (hrow.lt b e.symm).1; omega
        have hz1 : kb + 1 < (wr.drew.alloc o).heap.size := by rw [World.size_alloc]; exact Nat.lt_succ_of_lt hgl
        have hz0 : kb < (wr.drew.alloc o).heap.size := by rw [World.size_alloc]; exact Nat.lt_succ_of_lt hkl
        exact ⟨(hgw.block (kb + 1) hz1 (hne _ (by omega))).trans (alloc_keep (W := wr.drew) hg o), (hgw.block kb hz0 (hne _ (by omega))).trans (alloc_keep (W := wr.drew) hkc o), (hB.drew.alloc hB.drew.size o).grown hgw (by have := hB.size; rw [World.size_alloc]; show w.heap.size ≤ wr.heap.size + 1; omega) fun j ej => by have := (hrow.lt j ej).1; omega⟩)
      have fg := frozen_at hg 0
      have HN := Lib.hid fun (j : Int) (hj : j = i ∨ j = (i : Int) + 1) => nmI_any wr.drew kb k j ck hk1 hk2 (by omega) (by omega)
      have hwr : IntKind.i64.wrap ((i : Int) + 1) = (i : Int) + 1 := IntWalk.i64_in _ (by omega)
      have hz : ∀ j, (nmI k j).size = 2 := nmI_size k
      have HRow := Lib.hid hrow
      have HBx := Lib.hid hB
      have HKc := Lib.hid hkc
      have HGc := Lib.hid hg
      clear hrow hB hkc hg
      go_wp2_with fail
      have hT0 : (fun (b : Bool) (W : World) => b = false → W.cell? ⟨kb + 1, 0, none⟩ = some (.slice a i c)) false wr.drew := fun _ => cg
      refine wp_region_D 15 (fun b W => b = false → W.cell? ⟨kb + 1, 0, none⟩ = some (.slice a i c)) (by kernel_rfl) ?_
      refine wpAnyD_pre (i := 0) [0, 1, 13, 15] (v := .pointer (some ⟨kb + 1, 0, none⟩)) (by rfl) rfl (by rfl) (by kernel_rfl) (by kernel_rfl) (by kernel_rfl) (by kernel_rfl) (by kernel_rfl) (fun c a w h => h) (Or.inl ⟨by rfl, ?_⟩) hT0 ?_
      · rintro W hW; go_simp
      simp only [Act.put, List.setIfInBounds_toArray]
      refine wpAnyD_pre (i := 1) [1, 13, 15] (v := .slice a i c) (by rfl) rfl (by rfl) (by kernel_rfl) (by kernel_rfl) (by kernel_rfl) (by kernel_rfl) (by kernel_rfl) (fun c a w h => h) (Or.inl ⟨by rfl, ?_⟩) hT0 ?_
      · rintro W hW; have hw := hW rfl; go_simp
      simp only [Act.put]
      refine wpAnyD_pre (i := 2) [2, 4, 11, 12, 13, 15] (v := .func (.func 5) #[] #[.pointer (some ⟨kb, 0, none⟩)]) (by rfl) rfl (by rfl) (by kernel_rfl) (by kernel_rfl) (by kernel_rfl) (by kernel_rfl) (by kernel_rfl) (fun c a w h => h) (Or.inl ⟨by rfl, ?_⟩) hT0 ?_
      · rintro W hW; go_simp
      simp only [Act.put]
      refine wpAnyD_pre (i := 3) [3, 4, 11, 12, 13, 15] (v := .int .i64 i) (by rfl) rfl (by rfl) (by kernel_rfl) (by kernel_rfl) (by kernel_rfl) (by kernel_rfl) (by kernel_rfl) (fun c a w h => h) (Or.inl ⟨by rfl, ?_⟩) hT0 ?_
      · rintro W hW; go_simp
      simp only [Act.put]
      refine wpAnyD_pre (i := 5) [5, 8, 9, 10, 11, 12, 13, 15] (v := .func (.func 5) #[] #[.pointer (some ⟨kb, 0, none⟩)]) (by rfl) rfl (by rfl) (by kernel_rfl) (by kernel_rfl) (by kernel_rfl) (by kernel_rfl) (by kernel_rfl) (fun c a w h => h) (Or.inl ⟨by rfl, ?_⟩) hT0 ?_
      · rintro W hW; go_simp
      simp only [Act.put]
      refine wpAnyD_pre (i := 6) [6, 7, 8, 9, 10, 11, 12, 13, 15] (v := .int .i64 i) (by rfl) rfl (by rfl) (by kernel_rfl) (by kernel_rfl) (by kernel_rfl) (by kernel_rfl) (by kernel_rfl) (fun c a w h => h) (Or.inl ⟨by rfl, ?_⟩) hT0 ?_
      · rintro W hW; go_simp
      simp only [Act.put]
      refine wpAnyD_pre (i := 7) [7, 8, 9, 10, 11, 12, 13, 15] (v := .int .i64 ((i : Int) + 1)) (by rfl) rfl (by rfl) (by kernel_rfl) (by kernel_rfl) (by kernel_rfl) (by kernel_rfl) (by kernel_rfl) (fun c a w h => h) (Or.inl ⟨by rfl, ?_⟩) hT0 ?_
      · rintro W hW; go_simp
      simp only [Act.put]
      refine wpAnyD_one (i := 4) (by kernel_rfl) rfl false (by rfl) (fun K hK => ?_)
      go_simp
      refine (HN.out _ (.inl rfl)).mono ?_
      rintro e w7 ⟨rfl, rfl⟩
      dsimp only
      refine hK.out _ _ (fun _ => cg) ?_
      clear hK K
      refine wpAnyD_one (i := 8) (by kernel_rfl) rfl false (by rfl) (fun K hK => ?_)
      go_simp
      refine (HN.out _ (.inr rfl)).mono ?_
      rintro e w7 ⟨rfl, rfl⟩
      dsimp only
      refine hK.out _ _ (fun _ => cg) ?_
      clear hK K
      refine wpAnyD_pre (i := 9) [9, 10, 11, 12, 13, 15] (v := .string ((⟨#[120, 36, 40]⟩ : ByteArray) ++ nmI k ((i : Int) + 1))) (by rfl) rfl (by rfl) (by kernel_rfl) (by kernel_rfl) (by kernel_rfl) (by kernel_rfl) (by kernel_rfl) (fun c a w h => h) (Or.inl ⟨by rfl, ?_⟩) hT0 ?_
      · rintro W hW; go_simp
      simp only [Act.put]
      refine wpAnyD_pre (i := 10) [10, 11, 12, 13, 15] (v := .string ((⟨#[120, 36, 40]⟩ : ByteArray) ++ nmI k ((i : Int) + 1) ++ ⟨#[41]⟩)) (by rfl) rfl (by rfl) (by kernel_rfl) (by kernel_rfl) (by kernel_rfl) (by kernel_rfl) (by kernel_rfl) (fun c a w h => h) (Or.inl ⟨by rfl, ?_⟩) hT0 ?_
      · rintro W hW; go_simp
      simp only [Act.put]
      refine wpAnyD_one (i := 11) (by kernel_rfl) rfl false (by rfl) (fun K hK => ?_)
      go_simp
      refine hK.out _ _ (fun _ => cg) ?_
      clear hK K
      refine wpAnyD_one (i := 12) (by kernel_rfl) rfl false (by rfl) (fun K hK => ?_)
      go_simp
      refine hK.out _ _ (fun _ => SA _) ?_
      clear hK K
      refine wpAnyD_one (i := 13) (by kernel_rfl) rfl false (by rfl) (fun K hK => ?_)
      refine step_append_own rfl _ _ 23 rfl (kb + 2) PV i0 (.agg #[.string ByteArray.empty, .string ByteArray.empty, .bool false, .int .i64 0]) 4 48 Tryz.underlying23 hi hz0 hz1 hz2 rfl (by decide) (.slice a i c) i _ (by simp [go_sem]) (own_alloc HRow.out _) ⟨wr.heap.size, 0, none⟩ 1 1 [.string (nmI k i), .string ((⟨#[120, 36, 40]⟩ : ByteArray) ++ nmI k ((i : Int) + 1) ++ ⟨#[41]⟩), .bool false, .int .i64 2] (by simp [go_sem]) rfl (four_new _ _ _ _ _ _) (by simp [Value.oneCell']) (by unfold maxLen; omega) (by omega) (by show kb + 2 ≤ (wr.alloc _).heap.size; rw [World.size_alloc]; omega) ?_
      intro v8 w8 hown8 hgrow8 _
      obtain ⟨a4, c4, rfl⟩ := owns_slice hown8
      have HA8 := Lib.hid (HA.out _ _ hgrow8)
      have C8 : w8.cell? ⟨kb + 1, 0, none⟩ = some (.slice a i c) := cell_at (i := 0) HA8.out.1 rfl
      have f8 := frozen_at HA8.out.1 0
      have l8 := (Array.getElem?_eq_some_iff.1 HA8.out.1).1
      have HO8 := Lib.hid hown8
      clear hown8 hgrow8
      refine hK.out _ _ (fun _ => C8) ?_
      clear hK K
      refine wpAnyD_one (i := 14) (by kernel_rfl) rfl false (by rfl) (fun K hK => ?_)
      go_simp
      refine hK.out _ _ (fun _ => C8) ?_
      clear hK K
      refine wpAnyD_one (i := 15) (by kernel_rfl) rfl true (by rfl) (fun K hK => ?_)
      go_simp
      refine hK.out _ _ (fun h => by cases h) ?_
      clear hK K
      refine wpAnyD_done (by kernel_rfl) ?_ _
      have HRel := Lib.hid (LRel.next hlt HA8.out hwk HO8.out)
      clear C8 f8 l8 HO8 HA8 HN HA SA SB KA K0 S0 hT0 ck cg fg
      go_wp2_with fail
      go_roundw
      case rel => exact HRel.out
      case measure => simp [intOf]; omega
    · obtain rfl : i = k := by omega
      rw [List.take_of_length_le (by rw [ringL_len]; exact Nat.le_refl _)] at hrow
      have hki : ¬ (i : Int) < i := by omega
      have hgl := (Array.getElem?_eq_some_iff.1 hg).1
      have cg0 : wr.cell? ⟨kb + 1, 0, none⟩ = some (.slice a i c) := cell_at (i := 0) hg rfl
      have cg1 : wr.cell? ⟨kb + 1, 1, none⟩ = some (.slice none 0 0) := cell_at (i := 1) hg rfl
      have cg2 : wr.cell? ⟨kb + 1, 2, none⟩ = some (.slice none 0 0) := cell_at (i := 2) hg rfl
      have HO := Lib.hid (Of2_any wr (L := ringL i) (lo := kb + 2) (a := a) (c := c) (by rw [ringL_len]; exact hrow) (ringL_right i hk1 hk2) (ringL_names i) (by rw [ringL_len]; omega))
      rw [ringL_len] at HO
      have HKc := Lib.hid hkc
      have HBx := Lib.hid hB
      clear hkc hg hrow hB
      go_wp2_with fail
      refine HO.out.mono ?_
      rintro e w2 ⟨tb, mb, g, r, X, rfl, hr, hro, hfo, hT, hma, hX, hB2⟩
      have hkw := (Array.getElem?_eq_some_iff.1 HKc.out).1
      have HK2 := Lib.hid ((hB2.block kb hkw).trans HKc.out)
      have HB2 := Lib.hid (HBx.out.trans (hB2.mono HBx.out.size))
      have HX := Lib.hid (env_boxes w2)
      have hst := Lib.hid (And.intro hT (And.intro hma hX))
      have hrw : wr.heap.size ≤ w2.heap.size := hB2.size
      have iE : (Tryz.prog.info? ET).map (·.size) = some (#[Value.pointer (some ⟨tb, 0, none⟩), .map (some mb), g]).size := sizeE
      have iR : (Tryz.prog.info? RT).map (·.size) = some r.size := by rw [hr]; exact sizeR
      have zR' : zR.size = r.size := by rw [hr]; rfl
      have oE : (#[Value.pointer (some ⟨tb, 0, none⟩), .map (some mb), g]).all (·.oneCell') = true := three_cells rfl rfl hfo
      clear HO hT hma hX hB2 hr HKc HBx
      go_wp2_with (first
        | (refine store_box rfl ET _ _ rfl w2.heap.size #[.pointer (some ⟨tb, 0, none⟩), .map (some mb), g] rfl rfl ET zE HX.out.1 iE rfl oE ?_; intro W3 HG3 HE3; have HY3 : Hid (W3.heap[w2.heap.size + 1]? = some (.cells zR RT (0, 0))) := Lib.hid (by rw [HE3.out]; exact (setRow_other _ _ _ _ (by omega)).trans HX.out.2))
        | (refine store_box rfl RT _ _ rfl (w2.heap.size + 1) r rfl rfl RT zR HY3.out iR zR' hro ?_; intro W4 HG4 HE4; have HB4 : Hid (Below w2.heap.size w2 W4) := Lib.hid (by rw [HE4.out, HE3.out]; exact below_setRow (below_setRow (((Below.refl w2.heap.size w2).alloc (Nat.le_refl _) _).alloc (by simp) _) (Nat.le_refl _) _) (by omega) _); have HE5 : Hid (W4.heap[w2.heap.size]? = some (.cells #[.pointer (some ⟨tb, 0, none⟩), .map (some mb), g] ET (0, 0))) := Lib.hid (by rw [HE4.out]; exact (setRow_other _ _ _ _ (by omega)).trans HG3.out); clear HG3 HE3 HY3 HG4 HE4 HX))
      have hk2 := (Array.getElem?_eq_some_iff.1 HK2.out).1
      have HK4 := Lib.hid ((HB4.out.block kb hk2).trans HK2.out)
      have ck : W4.cell? ⟨kb, 0, none⟩ = some (.int .i64 i) := cell_at (i := 0) HK4.out rfl
      have e0 : W4.cell? ⟨w2.heap.size, 0, none⟩ = some (.pointer (some ⟨tb, 0, none⟩)) := cell_at (i := 0) HE5.out rfl
      have e1 : W4.cell? ⟨w2.heap.size, 1, none⟩ = some (.map (some mb)) := cell_at (i := 1) HE5.out rfl
      have e2 : W4.cell? ⟨w2.heap.size, 2, none⟩ = some g := cell_at (i := 2) HE5.out rfl
      have el := (Array.getElem?_eq_some_iff.1 HE5.out).1
      have HT4 := Lib.hid (hst.out.1.below HB4.out)
      have HM4 := Lib.hid (MapAt.below hst.out.2.1 HB4.out)
      have HX4 : Hid (∀ x ∈ X, x < W4.heap.size ∧ x ≠ kb ∧ x ≠ w2.heap.size ∧ x ≠ mb) := Lib.hid (fun x hx => by obtain ⟨h1, h2, h3⟩ := hst.out.2.2 x hx; have := HB4.out.size; exact ⟨by omega, by omega, by omega, h2⟩)
      have HXw : Hid (∀ x ∈ X, w.heap.size ≤ x) := Lib.hid (fun x hx => by have h1 := (hst.out.2.2 x hx).1; omega)
      have HN := Lib.hid (nmI_any W4.drew kb i (f : Int) ck hk1 (by omega) (by omega) (by omega))
      have HAsk := Lib.hid (ask_loop W4.drew tb mb g X i f hk1 (by omega) (HT4.out.below (Below.refl _ _).drew) (MapAt.below HM4.out (Below.refl _ _).drew) (fun x hx => (HX4.out x hx).1))
      have hz : ∀ j, (nmI i j).size = 2 := nmI_size i
      clear hst iE iR zR' hro oE hfo
      simp only [Act.put]
      have hwf : IntKind.i64.wrap (f : Int) = (f : Int) := IntWalk.i64_in _ (by omega)
      have hT0 : (fun (b : Bool) (W : World) => b = false → (W.cell? ⟨w2.heap.size, 0, none⟩ = some (.pointer (some ⟨tb, 0, none⟩)) ∧ W.cell? ⟨w2.heap.size, 1, none⟩ = some (.map (some mb)) ∧ W.cell? ⟨w2.heap.size, 2, none⟩ = some g)) false W4.drew := fun _ => ⟨e0, e1, e2⟩
      refine wp_region_D 12 (fun b W => b = false → (W.cell? ⟨w2.heap.size, 0, none⟩ = some (.pointer (some ⟨tb, 0, none⟩)) ∧ W.cell? ⟨w2.heap.size, 1, none⟩ = some (.map (some mb)) ∧ W.cell? ⟨w2.heap.size, 2, none⟩ = some g)) (by kernel_rfl) ?_
      refine wpAnyD_pre (i := 0) [0, 7, 8, 10, 12] (v := .agg #[.pointer (some ⟨tb, 0, none⟩), .map (some mb), g]) (by rfl) rfl (by rfl) (by kernel_rfl) (by kernel_rfl) (by kernel_rfl) (by kernel_rfl) (by kernel_rfl) (fun c a w h => h) (Or.inl ⟨by rfl, ?_⟩) hT0 ?_
      · rintro W hW; obtain ⟨q0, q1, q2⟩ := hW rfl; go_simp
      simp only [Act.put, List.setIfInBounds_toArray]
      refine wpAnyD_pre (i := 1) [1, 4, 5, 6, 7, 8, 10, 12] (v := .func (.func 5) #[] #[.pointer (some ⟨kb, 0, none⟩)]) (by rfl) rfl (by rfl) (by kernel_rfl) (by kernel_rfl) (by kernel_rfl) (by kernel_rfl) (by kernel_rfl) (fun c a w h => h) (Or.inl ⟨by rfl, ?_⟩) hT0 ?_
      · rintro W hW; go_simp
      simp only [Act.put]
      refine wpAnyD_pre (i := 2) [2, 3, 4, 5, 6, 7, 8, 10, 12] (v := .int .u8 f) (by rfl) rfl (by rfl) (by kernel_rfl) (by kernel_rfl) (by kernel_rfl) (by kernel_rfl) (by kernel_rfl) (fun c a w h => h) (Or.inl ⟨by rfl, ?_⟩) hT0 ?_
      · rintro W hW; go_simp
      simp only [Act.put]
      refine wpAnyD_pre (i := 3) [3, 4, 5, 6, 7, 8, 10, 12] (v := .int .i64 f) (by rfl) rfl (by rfl) (by kernel_rfl) (by kernel_rfl) (by kernel_rfl) (by kernel_rfl) (by kernel_rfl) (fun c a w h => h) (Or.inl ⟨by rfl, ?_⟩) hT0 ?_
      · rintro W hW; go_simp
      simp only [Act.put]
      refine wpAnyD_one (i := 4) (by kernel_rfl) rfl false (by rfl) (fun K hK => ?_)
      go_simp
      refine HN.out.mono ?_
      rintro e w7 ⟨rfl, rfl⟩
      dsimp only
      refine hK.out _ _ (fun _ => ⟨e0, e1, e2⟩) ?_
      clear hK K
      refine wpAnyD_pre (i := 5) [5, 6, 7, 8, 10, 12] (v := .string ((⟨#[36, 40]⟩ : ByteArray) ++ nmI i (f : Int))) (by rfl) rfl (by rfl) (by kernel_rfl) (by kernel_rfl) (by kernel_rfl) (by kernel_rfl) (by kernel_rfl) (fun c a w h => h) (Or.inl ⟨by rfl, ?_⟩) hT0 ?_
      · rintro W hW; go_simp
      simp only [Act.put]
      refine wpAnyD_pre (i := 6) [6, 7, 8, 10, 12] (v := .string ((⟨#[36, 40]⟩ : ByteArray) ++ nmI i (f : Int) ++ ⟨#[41]⟩)) (by rfl) rfl (by rfl) (by kernel_rfl) (by kernel_rfl) (by kernel_rfl) (by kernel_rfl) (by kernel_rfl) (fun c a w h => h) (Or.inl ⟨by rfl, ?_⟩) hT0 ?_
      · rintro W hW; go_simp
      simp only [Act.put]
      refine wpAnyD_one (i := 7) (by kernel_rfl) rfl false (by rfl) (fun K hK => ?_)
      go_simp
      refine HAsk.out.mono ?_
      rintro e w5 ⟨rfl, B5⟩
      have HB5 := Lib.hid (((Below.refl W4.heap.size W4).drew).trans B5)
      have hE5 : w5.cell? ⟨w2.heap.size, 0, none⟩ = some (.pointer (some ⟨tb, 0, none⟩)) ∧ w5.cell? ⟨w2.heap.size, 1, none⟩ = some (.map (some mb)) ∧ w5.cell? ⟨w2.heap.size, 2, none⟩ = some g := ⟨(HB5.out.cell (p := ⟨w2.heap.size, 0, none⟩) el).trans e0, (HB5.out.cell (p := ⟨w2.heap.size, 1, none⟩) el).trans e1, (HB5.out.cell (p := ⟨w2.heap.size, 2, none⟩) el).trans e2⟩
      clear B5 hT0
      dsimp only
      refine hK.out _ _ (fun _ => hE5) ?_
      clear hK K
      have hT0 : (fun (b : Bool) (W : World) => b = false → (W.cell? ⟨w2.heap.size, 0, none⟩ = some (.pointer (some ⟨tb, 0, none⟩)) ∧ W.cell? ⟨w2.heap.size, 1, none⟩ = some (.map (some mb)) ∧ W.cell? ⟨w2.heap.size, 2, none⟩ = some g)) false w5 := fun _ => hE5
      refine wpAnyD_one (i := 8) (by kernel_rfl) rfl false (by rfl) (fun K hK => ?_)
      go_simp
      refine hK.out _ _ (fun _ => hE5) ?_
      clear hK K
      refine wpAnyD_pre (i := 9) [9, 12] (v := .string ⟨#[]⟩) (by rfl) rfl (by rfl) (by kernel_rfl) (by kernel_rfl) (by kernel_rfl) (by kernel_rfl) (by kernel_rfl) (fun c a w h => h) (Or.inl ⟨by rfl, ?_⟩) hT0 ?_
      · rintro W hW; go_simp
      simp only [Act.put]
      refine wpAnyD_pre (i := 10) [10, 12] (v := .int .i64 7) (by rfl) rfl (by rfl) (by kernel_rfl) (by kernel_rfl) (by kernel_rfl) (by kernel_rfl) (by kernel_rfl) (fun c a w h => h) (Or.inl ⟨by rfl, ?_⟩) hT0 ?_
      · rintro W hW; go_simp
      simp only [Act.put]
      refine wpAnyD_one (i := 11) (by kernel_rfl) rfl false (by rfl) (fun K hK => ?_)
      go_simp
      refine hK.out _ _ (fun _ => hE5) ?_
      clear hK K
      refine wpAnyD_one (i := 12) (by kernel_rfl) rfl true (by rfl) (fun K hK => ?_)
      go_simp
      refine hK.out _ _ (fun h => by cases h) ?_
      clear hK K
      refine wpAnyD_done (by kernel_rfl) ?_ _
      clear hT0
      have hk4 := (Array.getElem?_eq_some_iff.1 HK4.out).1
      have HK5 := Lib.hid ((HB5.out.block kb hk4).trans HK4.out)
      have HE6 := Lib.hid ((HB5.out.block w2.heap.size el).trans HE5.out)
      have HT5 := Lib.hid (HT4.out.below HB5.out)
      have HM5 := Lib.hid (MapAt.below HM4.out HB5.out)
      have HB6 := Lib.hid (HB2.out.trans ((HB4.out.trans (HB5.out.mono HB4.out.size)).mono HB2.out.size))
      have HX5 : Hid (∀ x ∈ X, x < w5.heap.size ∧ x ≠ kb ∧ x ≠ w2.heap.size ∧ x ≠ mb) := Lib.hid (fun x hx => by obtain ⟨h1, h2⟩ := HX4.out x hx; have := HB5.out.size; exact ⟨by omega, h2⟩)
      have ck5 : w5.cell? ⟨kb, 0, none⟩ = some (.int .i64 i) := cell_at (i := 0) HK5.out rfl
      have e50 : w5.cell? ⟨w2.heap.size, 0, none⟩ = some (.pointer (some ⟨tb, 0, none⟩)) := hE5.1
      have HN5 := Lib.hid (nmI_any w5.drew kb i ((f : Int) + i - 1) ck5 hk1 (by omega) (by omega) (by omega))
      have HSet := Lib.hid (set_end w5.drew tb X i f hk1 (by omega) (HT5.out.below (Below.refl _ _).drew))
      have hw6 : IntKind.i64.wrap ((f : Int) + i) = (f : Int) + i := IntWalk.i64_in _ (by omega)
      have hw7 : IntKind.i64.wrap ((f : Int) + i - 1) = (f : Int) + i - 1 := IntWalk.i64_in _ (by omega)
      clear HN HAsk HT4 HM4 HX4 HK4 HE5 HB4 HB5 HB2 HK2 ck e0 e1 e2 hE5
      go_wp2_with fail
      have hT0 : (fun (b : Bool) (W : World) => b = false → (W.cell? ⟨w2.heap.size, 0, none⟩ = some (.pointer (some ⟨tb, 0, none⟩)) ∧ W.cell? ⟨kb, 0, none⟩ = some (.int .i64 i))) false w5.drew := fun _ => ⟨e50, ck5⟩
      refine wp_region_D 10 (fun b W => b = false → (W.cell? ⟨w2.heap.size, 0, none⟩ = some (.pointer (some ⟨tb, 0, none⟩)) ∧ W.cell? ⟨kb, 0, none⟩ = some (.int .i64 i))) (by kernel_rfl) ?_
      refine wpAnyD_pre (i := 0) [0, 1, 10] (v := .pointer (some ⟨w2.heap.size, 0, none⟩)) (by rfl) rfl (by rfl) (by kernel_rfl) (by kernel_rfl) (by kernel_rfl) (by kernel_rfl) (by kernel_rfl) (fun c a w h => h) (Or.inl ⟨by rfl, ?_⟩) hT0 ?_
      · rintro W hW; go_simp
      simp only [Act.put, List.setIfInBounds_toArray]
      refine wpAnyD_pre (i := 1) [1, 10] (v := .pointer (some ⟨tb, 0, none⟩)) (by rfl) rfl (by rfl) (by kernel_rfl) (by kernel_rfl) (by kernel_rfl) (by kernel_rfl) (by kernel_rfl) (fun c a w h => h) (Or.inl ⟨by rfl, ?_⟩) hT0 ?_
      · rintro W hW; obtain ⟨q0, q1⟩ := hW rfl; go_simp
      simp only [Act.put]
      refine wpAnyD_pre (i := 2) [2, 8, 9, 10] (v := .func (.func 5) #[] #[.pointer (some ⟨kb, 0, none⟩)]) (by rfl) rfl (by rfl) (by kernel_rfl) (by kernel_rfl) (by kernel_rfl) (by kernel_rfl) (by kernel_rfl) (fun c a w h => h) (Or.inl ⟨by rfl, ?_⟩) hT0 ?_
      · rintro W hW; go_simp
      simp only [Act.put]
      refine wpAnyD_pre (i := 3) [3, 4, 6, 7, 8, 9, 10] (v := .int .u8 f) (by rfl) rfl (by rfl) (by kernel_rfl) (by kernel_rfl) (by kernel_rfl) (by kernel_rfl) (by kernel_rfl) (fun c a w h => h) (Or.inl ⟨by rfl, ?_⟩) hT0 ?_
      · rintro W hW; go_simp
      simp only [Act.put]
      refine wpAnyD_pre (i := 4) [4, 6, 7, 8, 9, 10] (v := .int .i64 f) (by rfl) rfl (by rfl) (by kernel_rfl) (by kernel_rfl) (by kernel_rfl) (by kernel_rfl) (by kernel_rfl) (fun c a w h => h) (Or.inl ⟨by rfl, ?_⟩) hT0 ?_
      · rintro W hW; go_simp
      simp only [Act.put]
      refine wpAnyD_pre (i := 5) [5, 6, 7, 8, 9, 10] (v := .int .i64 i) (by rfl) rfl (by rfl) (by kernel_rfl) (by kernel_rfl) (by kernel_rfl) (by kernel_rfl) (by kernel_rfl) (fun c a w h => h) (Or.inl ⟨by rfl, ?_⟩) hT0 ?_
      · rintro W hW; obtain ⟨q0, q1⟩ := hW rfl; go_simp
      simp only [Act.put]
      refine wpAnyD_pre (i := 6) [6, 7, 8, 9, 10] (v := .int .i64 ((f : Int) + i)) (by rfl) rfl (by rfl) (by kernel_rfl) (by kernel_rfl) (by kernel_rfl) (by kernel_rfl) (by kernel_rfl) (fun c a w h => h) (Or.inl ⟨by rfl, ?_⟩) hT0 ?_
      · rintro W hW; go_simp
      simp only [Act.put]
      refine wpAnyD_pre (i := 7) [7, 8, 9, 10] (v := .int .i64 ((f : Int) + i - 1)) (by rfl) rfl (by rfl) (by kernel_rfl) (by kernel_rfl) (by kernel_rfl) (by kernel_rfl) (by kernel_rfl) (fun c a w h => h) (Or.inl ⟨by rfl, ?_⟩) hT0 ?_
      · rintro W hW; go_simp
      simp only [Act.put]
      refine wpAnyD_one (i := 8) (by kernel_rfl) rfl false (by rfl) (fun K hK => ?_)
      go_simp
      refine HN5.out.mono ?_
      rintro e w7 ⟨rfl, rfl⟩
      dsimp only
      refine hK.out _ _ (fun _ => ⟨e50, ck5⟩) ?_
      clear hK K
      refine wpAnyD_pre (i := 9) [9, 10] (v := .agg #[.string (nmI i ((f : Int) + i - 1)), .string ⟨#[101, 110, 100]⟩, .bool false, .int .i64 2]) (by rfl) rfl (by rfl) (by kernel_rfl) (by kernel_rfl) (by kernel_rfl) (by kernel_rfl) (by kernel_rfl) (fun c a w h => h) (Or.inl ⟨by rfl, ?_⟩) hT0 ?_
      · rintro W hW; go_simp
      simp only [Act.put]
      refine wpAnyD_one (i := 10) (by kernel_rfl) rfl true (by rfl) (fun K hK => ?_)
      go_simp
      refine HSet.out.mono ?_
      rintro e w6 ⟨rfl, X6, hT6, hK6, hX6⟩
      have HT6 := Lib.hid hT6
      have HK6 := Lib.hid hK6
      clear hT6 hK6 hX6 HSet HN5
      dsimp only
      refine hK.out _ _ (fun h => by cases h) ?_
      clear hK K
      refine wpAnyD_done (by kernel_rfl) ?_ _
      clear hT0
      obtain ⟨X7, hT7, hK7, _⟩ := HT6.out.shrink
      have HT7 := Lib.hid hT7
      have HX7 := Lib.hid hK7.lt
      have hk5 := (Array.getElem?_eq_some_iff.1 HK5.out).1
      have el5 := (Array.getElem?_eq_some_iff.1 HE6.out).1
      have HK7 := Lib.hid ((HK6.out.block kb hk5 (fun h => (HX5.out kb h).2.1 rfl)).trans HK5.out)
      have HE7 := Lib.hid ((HK6.out.block w2.heap.size el5 (fun h => (HX5.out _ h).2.2.1 rfl)).trans HE6.out)
      have HM7 := Lib.hid (MapAt.kept (MapAt.below HM5.out (Below.refl _ w5).drew) HK6.out (fun h => (HX5.out mb h).2.2.2 rfl))
      have HB7 : Hid (Below w.heap.size w w6) := Lib.hid ((HB6.out.drew).trans (HK6.out.to_below (B := w.heap.size) HB6.out.drew.size (fun x hx => HXw.out x hx)))
      have ck : w6.cell? ⟨kb, 0, none⟩ = some (.int .i64 i) := cell_at (i := 0) HK7.out rfl
      have e0 : w6.cell? ⟨w2.heap.size, 0, none⟩ = some (.pointer (some ⟨tb, 0, none⟩)) := cell_at (i := 0) HE7.out rfl
      have e1 : w6.cell? ⟨w2.heap.size, 1, none⟩ = some (.map (some mb)) := cell_at (i := 1) HE7.out rfl
      have e2 : w6.cell? ⟨w2.heap.size, 2, none⟩ = some g := cell_at (i := 2) HE7.out rfl
      have el := (Array.getElem?_eq_some_iff.1 HE7.out).1
      have HN := Lib.hid (nmI_any w6.drew kb i (f : Int) ck hk1 (by omega) (by omega) (by omega))
      have HAsk := Lib.hid (ask_end w6.drew tb mb g X7 i f hk1 (by omega) (HT7.out.below (Below.refl _ _).drew) (MapAt.below HM7.out (Below.refl _ _).drew) (fun x hx => HX7.out x hx))
      clear hT7 hK7 HT6 HK6 HK5 HE6 HT5 HM5 HX5 HB6 ck5 e50 hw6 hw7 hk5 el5
      go_wp2_with fail
      have hT0 : (fun (b : Bool) (W : World) => b = false → (W.cell? ⟨w2.heap.size, 0, none⟩ = some (.pointer (some ⟨tb, 0, none⟩)) ∧ W.cell? ⟨w2.heap.size, 1, none⟩ = some (.map (some mb)) ∧ W.cell? ⟨w2.heap.size, 2, none⟩ = some g)) false w6.drew := fun _ => ⟨e0, e1, e2⟩
      refine wp_region_D 12 (fun b W => b = false → (W.cell? ⟨w2.heap.size, 0, none⟩ = some (.pointer (some ⟨tb, 0, none⟩)) ∧ W.cell? ⟨w2.heap.size, 1, none⟩ = some (.map (some mb)) ∧ W.cell? ⟨w2.heap.size, 2, none⟩ = some g)) (by kernel_rfl) ?_
      refine wpAnyD_pre (i := 0) [0, 7, 8, 10, 12] (v := .agg #[.pointer (some ⟨tb, 0, none⟩), .map (some mb), g]) (by rfl) rfl (by rfl) (by kernel_rfl) (by kernel_rfl) (by kernel_rfl) (by kernel_rfl) (by kernel_rfl) (fun c a w h => h) (Or.inl ⟨by rfl, ?_⟩) hT0 ?_
      · rintro W hW; obtain ⟨q0, q1, q2⟩ := hW rfl; go_simp
      simp only [Act.put, List.setIfInBounds_toArray]
      refine wpAnyD_pre (i := 1) [1, 4, 5, 6, 7, 8, 10, 12] (v := .func (.func 5) #[] #[.pointer (some ⟨kb, 0, none⟩)]) (by rfl) rfl (by rfl) (by kernel_rfl) (by kernel_rfl) (by kernel_rfl) (by kernel_rfl) (by kernel_rfl) (fun c a w h => h) (Or.inl ⟨by rfl, ?_⟩) hT0 ?_
      · rintro W hW; go_simp
      simp only [Act.put]
      refine wpAnyD_pre (i := 2) [2, 3, 4, 5, 6, 7, 8, 10, 12] (v := .int .u8 f) (by rfl) rfl (by rfl) (by kernel_rfl) (by kernel_rfl) (by kernel_rfl) (by kernel_rfl) (by kernel_rfl) (fun c a w h => h) (Or.inl ⟨by rfl, ?_⟩) hT0 ?_
      · rintro W hW; go_simp
      simp only [Act.put]
      refine wpAnyD_pre (i := 3) [3, 4, 5, 6, 7, 8, 10, 12] (v := .int .i64 f) (by rfl) rfl (by rfl) (by kernel_rfl) (by kernel_rfl) (by kernel_rfl) (by kernel_rfl) (by kernel_rfl) (fun c a w h => h) (Or.inl ⟨by rfl, ?_⟩) hT0 ?_
      · rintro W hW; go_simp
      simp only [Act.put]
      refine wpAnyD_one (i := 4) (by kernel_rfl) rfl false (by rfl) (fun K hK => ?_)
      go_simp
      refine HN.out.mono ?_
      rintro e w7 ⟨rfl, rfl⟩
      dsimp only
      refine hK.out _ _ (fun _ => ⟨e0, e1, e2⟩) ?_
      clear hK K
      refine wpAnyD_pre (i := 5) [5, 6, 7, 8, 10, 12] (v := .string ((⟨#[36, 40]⟩ : ByteArray) ++ nmI i (f : Int))) (by rfl) rfl (by rfl) (by kernel_rfl) (by kernel_rfl) (by kernel_rfl) (by kernel_rfl) (by kernel_rfl) (fun c a w h => h) (Or.inl ⟨by rfl, ?_⟩) hT0 ?_
      · rintro W hW; go_simp
      simp only [Act.put]
      refine wpAnyD_pre (i := 6) [6, 7, 8, 10, 12] (v := .string ((⟨#[36, 40]⟩ : ByteArray) ++ nmI i (f : Int) ++ ⟨#[41]⟩)) (by rfl) rfl (by rfl) (by kernel_rfl) (by kernel_rfl) (by kernel_rfl) (by kernel_rfl) (by kernel_rfl) (fun c a w h => h) (Or.inl ⟨by rfl, ?_⟩) hT0 ?_
      · rintro W hW; go_simp
      simp only [Act.put]
      refine wpAnyD_one (i := 7) (by kernel_rfl) rfl false (by rfl) (fun K hK => ?_)
      go_simp
      refine HAsk.out.mono ?_
      rintro e w8 ⟨rfl, B5⟩
      have HB5 := Lib.hid (((Below.refl w6.heap.size w6).drew).trans B5)
      have hE5 : w8.cell? ⟨w2.heap.size, 0, none⟩ = some (.pointer (some ⟨tb, 0, none⟩)) ∧ w8.cell? ⟨w2.heap.size, 1, none⟩ = some (.map (some mb)) ∧ w8.cell? ⟨w2.heap.size, 2, none⟩ = some g := ⟨(HB5.out.cell (p := ⟨w2.heap.size, 0, none⟩) el).trans e0, (HB5.out.cell (p := ⟨w2.heap.size, 1, none⟩) el).trans e1, (HB5.out.cell (p := ⟨w2.heap.size, 2, none⟩) el).trans e2⟩
      clear B5 hT0
      dsimp only
      refine hK.out _ _ (fun _ => hE5) ?_
      clear hK K
      have hT0 : (fun (b : Bool) (W : World) => b = false → (W.cell? ⟨w2.heap.size, 0, none⟩ = some (.pointer (some ⟨tb, 0, none⟩)) ∧ W.cell? ⟨w2.heap.size, 1, none⟩ = some (.map (some mb)) ∧ W.cell? ⟨w2.heap.size, 2, none⟩ = some g)) false w8 := fun _ => hE5
      refine wpAnyD_one (i := 8) (by kernel_rfl) rfl false (by rfl) (fun K hK => ?_)
      go_simp
      refine hK.out _ _ (fun _ => hE5) ?_
      clear hK K
      refine wpAnyD_pre (i := 9) [9, 12] (v := .string (wantS i)) (by rfl) rfl (by rfl) (by kernel_rfl) (by kernel_rfl) (by kernel_rfl) (by kernel_rfl) (by kernel_rfl) (fun c a w h => h) (Or.inl ⟨by rfl, ?_⟩) hT0 ?_
      · rintro W hW; go_simp
      simp only [Act.put]
      refine wpAnyD_pre (i := 10) [10, 12] (v := .int .i64 0) (by rfl) rfl (by rfl) (by kernel_rfl) (by kernel_rfl) (by kernel_rfl) (by kernel_rfl) (by kernel_rfl) (fun c a w h => h) (Or.inl ⟨by rfl, ?_⟩) hT0 ?_
      · rintro W hW; go_simp
      simp only [Act.put]
      refine wpAnyD_one (i := 11) (by kernel_rfl) rfl false (by rfl) (fun K hK => ?_)
      go_simp
      refine hK.out _ _ (fun _ => hE5) ?_
      clear hK K
      refine wpAnyD_one (i := 12) (by kernel_rfl) rfl true (by rfl) (fun K hK => ?_)
      go_simp
      refine hK.out _ _ (fun h => by cases h) ?_
      clear hK K
      refine wpAnyD_done (by kernel_rfl) ?_ _
      clear hT0
      have hk7 := (Array.getElem?_eq_some_iff.1 HK7.out).1
      have ck8 : w8.cell? ⟨kb, 0, none⟩ = some (.int .i64 i) := cell_at (i := 0) ((HB5.out.block kb hk7).trans HK7.out) rfl
      have HB8 := Lib.hid (HB7.out.trans (HB5.out.mono HB7.out.size))
      have hw8 : IntKind.i64.wrap ((i : Int) - 1) = (i : Int) - 1 := IntWalk.i64_in _ (by omega)
      clear HN HAsk HK7 HE7 HM7 HT7 HX7 HB5 HB7 hE5 e0 e1 e2 ck el
      go_wp2_with fail
      go_loopw [15, 83] (fun v15 v83 wx => ∃ j : Nat, v15 = .string (str (xs j)) ∧ v83 = .int .i64 j ∧ j + 1 ≤ i ∧ Below w.heap.size w wx) (fun _ v83 _ => i - (intOf v83).toNat)
      case atStart => exact ⟨0, rfl, rfl, by omega, HB8.out⟩
      case round =>
        clear HB8 ck8
        obtain ⟨j, rfl, rfl, hj, hB⟩ := hrel
        have hxs := xs_size j
        by_cases hjl : j + 1 < i
        · have hji : (j : Int) < (i : Int) - 1 := by omega
          have hnx := xs_next j
          have hsz : ¬ 9223372036854775807 < (str (xs j)).size + 1 := by omega
          have HB := Lib.hid hB
          clear hB
          go_wp2_with fail
          go_roundw
          case rel => exact ⟨j + 1, by first | rfl | rw [hnx], by go_num, by omega, HB.out⟩
          case measure => simp [intOf]; omega
        · have hji : ¬ (j : Int) < (i : Int) - 1 := by omega
          have hwa := want_is i
          obtain rfl : j = i - 1 := by omega
          have hsz : ¬ 9223372036854775807 < (str (xs (i - 1))).size + 3 := by omega
          have HB := Lib.hid hB
          clear hB
          go_wp2_with fail
          go_ret
          exact ⟨rfl, HB.out⟩
end Go.Proofs.YtebagfadcjgllaaGreatDoor.Xw
