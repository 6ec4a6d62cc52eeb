/-
  show.Text, at parts that a makefile has: their text.
-/
import Derived.Test.YtjjlafbdhpojpaaDoorMOf
import Derived.Test.YtjjlafbdhpojpaaDoorVSame3
import Derived.Test.YtjjlafbdhpojpaaDoorVHash
import Derived.Test.YtjjlafbdhpojpaaDoorVRText
import Derived.Test.YtjjlafbdhpojpaaDoorVPlain5
namespace Go.Proofs.YtjjlafbdhpojpaaDoor.Vw
open Go.RowKit Go.Proofs.YtjjlafbdhpojpaaDoor Go.Proofs.YtjjlafbdhpojpaaDoor.Ww Go.Proofs.YtjjlafbdhpojpaaDoor.Iw Go.Proofs.YtjjlafbdhpojpaaDoor.Mw
set_option maxRecDepth 100000

theorem box_kept {w w2 : World} {n g : Nat} {l : Bs} {pv bv : Value} {cs ds : Array Value} {T : TypeId} (HA : BAt w BT n 0 n l pv bv cs) (K : Kept (n :: bv.ownBlock.toList) w w2) (hg : w.heap[g]? = some (.cells ds T (0, 0))) (hn : g ≠ n) (hT : T ≠ Iw.U8) :
    w2.heap[g]? = some (.cells ds T (0, 0)) :=
  (K.block g (Array.getElem?_eq_some_iff.1 hg).1 (fun hm => by
    rcases List.mem_cons.1 hm with e | e
    · exact hn e
    · exact Lib.ownBlock_ne HA.own hg hT (by simpa using e))).trans hg
theorem below_step {w w1 w2 : World} {n : Nat} {l : Bs} {pv bv : Value} {cs : Array Value} (HB : Below n w w1) (hn : n ≤ w1.heap.size) (HA : BAt w1 BT n 0 n l pv bv cs) (K : Kept (n :: bv.ownBlock.toList) w1 w2) : Below n w w2 :=
  HB.trans (K.to_below hn (fun i hi => by
    rcases List.mem_cons.1 hi with rfl | hi
    · exact Nat.le_refl _
    · exact HA.own_ge i hi))
/-- Where the loop over the parts stands. -/
def ToRel (w : World) (n : Nat) (X : List PV) (vi : Value) (wr : World) : Prop :=
  ∃ (i : Nat) (pv bv : Value) (cs : Array Value), vi = .int .i64 i ∧ i ≤ X.length ∧ BAt wr BT n 0 n (Vp.textA ((X.take i).map PV.p)) pv bv cs ∧ Below n w wr
/-- Where the loop over a recipe stands. -/
def TlRel (w : World) (n : Nat) (T : Bs) (p : Mp.P) (vk : Value) (wr : World) : Prop :=
  ∃ (k : Nat) (pv bv : Value) (cs : Array Value), vk = .int .i64 k ∧ k ≤ p.recipe.length ∧ BAt wr BT n 0 n (T ++ (p.recipe.take k).flatMap Vp.recT) pv bv cs ∧ Below n w wr

set_option maxHeartbeats 8000000 in
theorem Text_any (w : World) (hG : GM w) (lo : Nat) (a : Option Addr) (c : Nat) (X : List PV) (L : List Mp.P) (hX : Ps w lo (.slice a X.length c) X) (hL : Mp.partsA (Vp.textA (X.map PV.p)) = .ok L) (hLX : L.map Vp.bareP = (X.map PV.p).map Vp.bareP)
    (hk : ∀ x ∈ X, x.p.kind ≤ 3) (hT : (Vp.textA (X.map PV.p)).length ≤ 99990) (hl : X.length ≤ 100000) (hr : ∀ x ∈ X, x.p.recipe.length ≤ 100000) (hz : ∀ x ∈ X, Sz x.p) (hlt : ∀ x ∈ X, Vp.Lt (Vp.rowA x.p)) (hr2 : ∀ p ∈ L, p.recipe.length ≤ 100000) :
    Calls Tryd.prog 7 #[.slice a X.length c] w fun e w' => e = .returned (.tuple #[.string (str (Vp.textA (X.map PV.p))), .int .i64 0]) ∧ Below w.heap.size w w' := by
  have HO := Lib.hid fun W => Mw.Of_any W ⟨#[]⟩ (str (Vp.textA (X.map PV.p))) (by rw [str_size]; exact hT)
  rw [by8_str, hL] at HO
  have HX := Lib.hid hX
  have HK := Lib.hid hk
  have HR := Lib.hid hr
  have HZ := Lib.hid hz
  have HLT := Lib.hid hlt
  have HLX := Lib.hid hLX
  have HR2 := Lib.hid hr2
  have HGM := Lib.hid hG
  clear hX hk hr hz hlt hLX hr2 hL hG
  go_enter Tryd.func7, Tryd.ntmps7
  go_wp2_with fail
  go_loopw [16] (fun vi wr => ToRel w w.heap.size X vi wr) (fun vi _ => X.length - (intOf vi).toNat)
  case atStart =>
    exact ⟨0, .pointer none, .slice none 0 0, #[.pointer none, .slice none 0 0], rfl, Nat.zero_le _, ⟨World.alloc_heap_new w _, rfl, rfl, .inl rfl, World.ownsRow_nil _ _ _ _, liesB, by decide⟩, (Below.refl _ w).alloc (Nat.le_refl _) _⟩
  case round =>
    obtain ⟨i, pv, bv, cs, rfl, hi, hA, hB⟩ := hrel
    obtain ⟨wo, rfl⟩ : ∃ wo : World, wo = wr := ⟨wr, rfl⟩
    have hws := hB.size
    by_cases hlt : i < X.length
    · obtain ⟨g, rfl, hgc, hg, x⟩ := row_part HX.out.row hlt
      have hex := HX.out.each X[i] (List.getElem_mem hlt)
      have hrx := HR.out X[i] (List.getElem_mem hlt)
      have hzx := HZ.out X[i] (List.getElem_mem hlt)
      have hkx := HK.out X[i] (List.getElem_mem hlt)
      have hlx := HLT.out X[i] (List.getElem_mem hlt)
      have htk : (X.take (i + 1)).map PV.p = (X.take i).map PV.p ++ [X[i].p] := by rw [List.take_succ_eq_append_getElem hlt, List.map_append]; rfl
      have hx : ∀ j u, j < 11 → (pvC X[i])[j]? = some u → wo.cell? ⟨g, i * 11 + j, none⟩ = some u := fun j u hj hu => (hB.cell (p := ⟨g, i * 11 + j, none⟩) hg).trans (x j u hj hu)
      clear x
      generalize X[i] = x at *
      rcases x with ⟨p, u⟩
      replace hex : w.ownsRow lo LT 3 u p.recipe.length (linesC p.recipe) := hex
      replace hrx : p.recipe.length ≤ 100000 := hrx
      replace htk : (X.take (i + 1)).map PV.p = (X.take i).map PV.p ++ [p] := htk
      replace hzx : Sz p := hzx
      replace hkx : p.kind ≤ 3 := hkx
      replace hlx : Vp.Lt (Vp.rowA p) := hlx
      have hsz1 : (Vp.textA ((X.take i).map PV.p)).length + ((Vp.hashA (Vp.rowA p)).length + 1 + (p.recipe.flatMap Vp.recT).length) ≤ 99990 := by
        have h1 := text_take (X.map PV.p) (i + 1)
        rw [← List.map_take, htk, text_snoc, List.length_append] at h1
        have h2 : (Vp.partT p).length = (Vp.hashA (Vp.rowA p)).length + 1 + (p.recipe.flatMap Vp.recT).length := by
          unfold Vp.partT; rw [List.length_append, List.length_cons]; omega
        omega
      have hrl : (Vp.rowA p).length ≤ (Vp.hashA (Vp.rowA p)).length := hash_ge _
      obtain ⟨ua, uc, rfl⟩ := owns_slice hex
      obtain ⟨a0, a1, a2, a3, a4, a5, a6, a7, a8, a9, a10⟩ : _ ∧ _ ∧ _ ∧ _ ∧ _ ∧ _ ∧ _ ∧ _ ∧ _ ∧ _ ∧ _ := ⟨hx 0 _ (by decide) rfl, hx 1 _ (by decide) rfl, hx 2 _ (by decide) rfl, hx 3 _ (by decide) rfl, hx 4 _ (by decide) rfl, hx 5 _ (by decide) rfl, hx 6 _ (by decide) rfl, hx 7 _ (by decide) rfl, hx 8 _ (by decide) rfl, hx 9 _ (by decide) rfl, hx 10 _ (by decide) rfl⟩
      rw [Nat.add_zero] at a0
      have HEX := Lib.hid hex
      have HTK := Lib.hid htk
      have HSZ := Lib.hid hsz1
      have HRL := Lib.hid hrl
      have HA := Lib.hid hA
      have HBo := Lib.hid hB
      have HRow := Lib.hid fun W => SRow_any W p (.slice ua p.recipe.length uc) hzx hkx hlx
      have HHash := Lib.hid fun W (h : GM W) => Hash_any W h (str (Vp.rowA p)) (by rw [str_size]; omega)
      have HXb := Lib.hid (heap_alloc_last wo (.cells zeroC PT))
      have hki : (i : Int) < X.length := by omega
      have hk0 : (0 : Int) ≤ (i : Int) := Int.natCast_nonneg _
      clear hx hex hzx hkx hlx htk hB hA hsz1 hrl
      go_wp2_with (first
        | (refine store_box rfl PT _ _ rfl wo.heap.size (partC p (.slice ua p.recipe.length uc)) rfl rfl PT zeroC HXb.out sizeP rfl (oneP _ _ _ _) ?_; intro W3 HG3 HE3; have HB3 := Lib.hid (show Below wo.heap.size wo W3 by rw [HE3.out]; exact below_setRow ((Below.refl _ _).alloc (Nat.le_refl _) _) (Nat.le_refl _) _))
        | (refine wpList_load_row rfl PT _ rfl wo.heap.size rfl PT (partC p (.slice ua p.recipe.length uc)) (0, 0) _ HG3.out undP rfl sizeP ?_))
      refine (HRow.out _).mono ?_
      rintro e w4 ⟨rfl, B4⟩
      have hg3 : wo.heap.size < W3.heap.size := (Array.getElem?_eq_some_iff.1 HG3.out).1
      have HB4 := Lib.hid (HB3.out.trans (B4.mono HB3.out.size))
      have HG4 := Lib.hid ((B4.block wo.heap.size hg3).trans HG3.out)
      have HW4 := Lib.hid (HBo.out.trans (HB4.out.mono hws))
      clear B4
      go_wp2_with fail
      refine (HHash.out _ (HGM.out.below HW4.out HGM.out.lt)).mono ?_
      rintro e w5 ⟨rfl, B5⟩
      rw [by8_str]
      have HG5 := Lib.hid ((B5.block wo.heap.size (Array.getElem?_eq_some_iff.1 HG4.out).1).trans HG4.out)
      have HB5 := Lib.hid (HB4.out.trans (B5.mono HB4.out.size))
      have HW5 := Lib.hid (HBo.out.trans (HB5.out.mono hws))
      have HA5 := Lib.hid (HA.out.kept_below HB5.out)
      have HWS := Lib.hid (WriteString_any w5 HA5.out (str (Vp.hashA (Vp.rowA p))) (by rw [str_size]; have := HSZ.out; omega) (HW5.out.size))
      clear B5
      go_wp2_with fail
      refine HWS.out.mono ?_
      rintro e w6 ⟨rfl, bv6, hA6, K6⟩
      rw [by8_str] at hA6
      have HA6 := Lib.hid hA6
      have HW6 := Lib.hid (below_step HW5.out HW5.out.size HA5.out K6)
      have HG6 := Lib.hid (box_kept HA5.out K6 HG5.out (Nat.ne_of_gt HA.out.lt) (by decide))
      have HWB := Lib.hid (WriteByte_any w6 hA6 10 (by rw [List.length_append]; have := HSZ.out; omega) (HW6.out.size))
      clear hA6 K6
      go_wp2_with fail
      refine HWB.out.mono ?_
      rintro e w7 ⟨rfl, bv7, hA7, K7⟩
      have HA7 := Lib.hid hA7
      have HW7 := Lib.hid (below_step HW6.out HW6.out.size HA6.out K7)
      have HG7 := Lib.hid (box_kept HA6.out K7 HG6.out (Nat.ne_of_gt HA.out.lt) (by decide))
      have c10 : w7.cell? ⟨wo.heap.size, 10, none⟩ = some (.slice ua p.recipe.length uc) := cell_at HG7.out rfl
      clear hA7 K7
      go_wp2_with fail
      go_loopw [34] (fun vk wq => TlRel w w.heap.size (Vp.textA ((X.take i).map PV.p) ++ Vp.hashA (Vp.rowA p) ++ [10]) p vk wq) (fun vk _ => p.recipe.length - (intOf vk).toNat)
      case atStart => exact ⟨0, _, _, _, rfl, Nat.zero_le _, by rw [List.take_zero, List.flatMap_nil, List.append_nil]; exact HA7.out, HW7.out⟩
      case round =>
        obtain ⟨k, pv8, bv8, cs8, rfl, hk, hA8, hB8⟩ := hrel
        obtain ⟨wq, rfl⟩ : ∃ wq : World, wq = wr := ⟨wr, rfl⟩
        have hwq := hB8.size
        by_cases hlt2 : k < p.recipe.length
        · obtain ⟨g2, rfl, hhc, hh, _, x0, x1, x2⟩ := line_cells HEX.out hlt2
          have q0 := (hB8.cell (p := ⟨g2, k * 3, none⟩) hh).trans x0
          have q1 := (hB8.cell (p := ⟨g2, k * 3 + 1, none⟩) hh).trans x1
          have q2 := (hB8.cell (p := ⟨g2, k * 3 + 2, none⟩) hh).trans x2
          have HTL : Hid ((p.recipe.take (k + 1)).flatMap Vp.recT = (p.recipe.take k).flatMap Vp.recT ++ Vp.recT p.recipe[k]) := Lib.hid (by rw [List.take_succ_eq_append_getElem hlt2, rec_snoc])
          have hsz2 : ((p.recipe.take k).flatMap Vp.recT).length + (p.recipe[k].t.length + 2) ≤ (p.recipe.flatMap Vp.recT).length := by
            have h1 := recs_take p.recipe (k + 1)
            rw [HTL.out, List.length_append] at h1
            have h2 : (Vp.recT p.recipe[k]).length = p.recipe[k].t.length + 2 := by simp [Vp.recT]
            omega
          generalize p.recipe[k] = x at *
          rcases x with ⟨xn, xt, xq⟩
          replace hsz2 : ((p.recipe.take k).flatMap Vp.recT).length + (xt.length + 2) ≤ (p.recipe.flatMap Vp.recT).length := hsz2
          replace q0 : wq.cell? ⟨g2, k * 3, none⟩ = some (.int .i64 (xn : Int)) := q0
          replace q1 : wq.cell? ⟨g2, k * 3 + 1, none⟩ = some (.string (str xt)) := q1
          replace q2 : wq.cell? ⟨g2, k * 3 + 2, none⟩ = some (.bool xq) := q2
          have HSZ2 := Lib.hid hsz2
          have HB9 := Lib.hid (hB8.alloc hwq (.cells #[.int .i64 (xn : Int), .string (str xt), .bool xq] LT))
          have HG9 := Lib.hid (heap_alloc_last wq (.cells #[.int .i64 (xn : Int), .string (str xt), .bool xq] LT))
          have hA9 := hA8.kept_below ((Below.refl wq.heap.size wq).alloc (Nat.le_refl _) (.cells #[.int .i64 (xn : Int), .string (str xt), .bool xq] LT))
          have HA9 := Lib.hid hA9
          have HLN := Lib.hid hA8.lt
          have HWB9 := Lib.hid (WriteByte_any _ hA9 9 (by rw [List.length_append, List.length_append, List.length_append]; have := HSZ.out; simp only [List.length_cons, List.length_nil]; omega) HB9.out.size)
          have hki2 : (k : Int) < p.recipe.length := by omega
          have hk02 : (0 : Int) ≤ (k : Int) := Int.natCast_nonneg _
          clear x0 x1 x2 hA8 hA9 hB8 hsz2
          go_wp2_with fail
          refine HWB9.out.mono ?_
          rintro e wa ⟨rfl, bva, hAa, Ka⟩
          have HAa := Lib.hid hAa
          have HWa := Lib.hid (below_step HB9.out HB9.out.size HA9.out Ka)
          have HGa := Lib.hid (box_kept HA9.out Ka HG9.out (Nat.ne_of_gt HLN.out) (by decide))
          have c1 : wa.cell? ⟨wq.heap.size, 1, none⟩ = some (.string (str xt)) := cell_at HGa.out rfl
          have HWSa := Lib.hid (WriteString_any wa hAa (str xt) (by rw [str_size, List.length_append, List.length_append, List.length_append, List.length_append]; have := HSZ.out; have := HSZ2.out; simp only [List.length_cons, List.length_nil]; omega) HWa.out.size)
          clear hAa Ka
          go_wp2_with fail
          refine HWSa.out.mono ?_
          rintro e wb ⟨rfl, bvb, hAb, Kb⟩
          rw [by8_str] at hAb
          have HAb := Lib.hid hAb
          have HWb := Lib.hid (below_step HWa.out HWa.out.size HAa.out Kb)
          have HWBb := Lib.hid (WriteByte_any wb hAb 10 (by rw [List.length_append, List.length_append, List.length_append, List.length_append, List.length_append]; have := HSZ.out; have := HSZ2.out; simp only [List.length_cons, List.length_nil]; omega) HWb.out.size)
          clear hAb Kb
          go_wp2_with fail
          refine HWBb.out.mono ?_
          rintro e wc ⟨rfl, bvc, hAc, Kc⟩
          have HAc := Lib.hid hAc
          have HWc := Lib.hid (below_step HWb.out HWb.out.size HAb.out Kc)
          clear hAc Kc
          go_wp2_with fail
          go_roundw
          case rel =>
            have h := HAc.out
            rw [show Vp.textA ((X.take i).map PV.p) ++ Vp.hashA (Vp.rowA p) ++ [10] ++ (p.recipe.take k).flatMap Vp.recT ++ [9] ++ xt ++ [10] = Vp.textA ((X.take i).map PV.p) ++ Vp.hashA (Vp.rowA p) ++ [10] ++ (p.recipe.take (k + 1)).flatMap Vp.recT by rw [HTL.out]; simp only [Vp.recT, List.append_assoc, List.cons_append, List.nil_append]] at h
            exact ⟨k + 1, _, _, _, by go_num, hlt2, h, HWc.out⟩
          case measure => simp [intOf]; omega
        · obtain rfl : k = p.recipe.length := by omega
          have hki2 : ¬ (p.recipe.length : Int) < p.recipe.length := by omega
          have HT9 : Hid (Vp.textA ((X.take (i + 1)).map PV.p) = Vp.textA ((X.take i).map PV.p) ++ Vp.hashA (Vp.rowA p) ++ [10] ++ (p.recipe.take p.recipe.length).flatMap Vp.recT) := Lib.hid (by
            rw [List.take_length, HTK.out, text_snoc]
            unfold Vp.partT
            simp)
          have HA8 := Lib.hid hA8
          have HB8 := Lib.hid hB8
          clear hA8 hB8
          go_wp2_with fail
          go_roundw
          case rel => exact ⟨i + 1, _, _, _, by go_num, hlt, by rw [HT9.out]; exact HA8.out, HB8.out⟩
          case measure => simp [intOf]; omega
    · obtain rfl : i = X.length := by omega
      rw [List.take_length] at hA
      have hki : ¬ (X.length : Int) < X.length := by omega
      have HA := Lib.hid hA
      have HBo := Lib.hid hB
      have HS := Lib.hid (String_any wo hA)
      clear hA hB
      go_wp2_with fail
      refine HS.out.mono ?_
      rintro e w3 ⟨rfl, K3⟩
      have HB3 := Lib.hid (HBo.out.trans (K3.to_below (B := w.heap.size) hws (fun i hi => HA.out.own_ge i hi)))
      clear K3
      go_wp2_with fail
      refine (HO.out _).mono ?_
      rintro e w4 ⟨⟨Y, a4, c4, hY, rfl, hP4⟩, B4⟩
      have HY := Lib.hid hY
      have HB4 := Lib.hid (HB3.out.trans (B4.mono HB3.out.size))
      have HB5 := Lib.hid (HB4.out.alloc HB4.out.size (.cells #[.int .i64 0, .string ⟨#[]⟩, .int .i64 0] FT))
      have HE := Lib.hid (peqf_any (w4.alloc (.cells #[.int .i64 0, .string ⟨#[]⟩, .int .i64 0] FT)) 0 (.slice a4 Y.length c4) (.slice a X.length c) Y X ((hP4.below ((Below.refl _ _).alloc (Nat.le_refl _) _)).mono (Nat.zero_le _)) ((HX.out.below HB5.out).mono (Nat.zero_le _))
        (by have h := HLX.out; rw [← HY.out, List.map_map, List.map_map] at h; exact h) (by have h := congrArg List.length HLX.out; simp [← HY.out] at h; omega) (fun x hx => by have := HR2.out x.p (by rw [← HY.out]; exact List.mem_map_of_mem hx); omega))
      clear B4 hY hP4
      go_wp2_with fail
      refine HE.out.mono ?_
      rintro e w6 ⟨rfl, B6⟩
      have HB6 := Lib.hid (HB5.out.trans (B6.mono HB5.out.size))
      clear B6
      go_wp2_with fail
      go_ret2
      exact ⟨rfl, HB6.out⟩
end Go.Proofs.YtjjlafbdhpojpaaDoor.Vw
