/-
  flatironlaw06.ParseShows.
-/
import Derived.Test.YtlkcpegjkmfngaaDoorPRRight
import Derived.Test.YtlkcpegjkmfngaaDoorPRShow
import Derived.Test.YtlkcpegjkmfngaaDoorPLaw
namespace Go.Proofs.YtlkcpegjkmfngaaDoor.Px
open Go.RowKit Go.Proofs.YtlkcpegjkmfngaaDoor Go.Proofs.YtlkcpegjkmfngaaDoor.Lx
set_option maxRecDepth 100000

theorem ParseShowsL_any (w : World) (a : Option Addr) (n cp : Nat) (hn : 20 < n) (hm : n ≤ 9223372036854775807) (hG : Glob w) : Calls Tryd.prog 4 #[.slice a n cp] w fun e w' => e = .returned (.bool true) ∧ Below w.heap.size w w' := by
  have hL := lives_any w hG
  have HG := Lib.hid hG
  go_enter Tryd.func4, Tryd.ntmps4
  go_wp2_with fail
  refine hL.mono ?_
  rintro e w1 ⟨rfl, hB1⟩
  have hL2 := lives_any w1 (HG.out.below hB1)
  go_wp2_with fail
  refine hL2.mono ?_
  rintro e w2 ⟨rfl, hB2⟩
  go_wp2_with fail
  go_ret
  exact ⟨rfl, hB1.trans (hB2.mono hB1.size)⟩

/-- All that the law counts. -/
def cnt (L : List Pp.C) : Nat := Pp.numA L + Pp.sumA L
theorem cnt_app (a b : List Pp.C) : cnt (a ++ b) = cnt a + cnt b := by
  unfold cnt Pp.numA Pp.sumA
  simp only [List.map_append, List.sum_append]
  omega
theorem cnt_one (c : Pp.C) : cnt [c] = c.num + c.sumW := by simp [cnt, Pp.numA, Pp.sumA]
theorem cnt_take {L : List Pp.C} {i : Nat} (h : i < L.length) : cnt (L.take (i + 1)) = cnt (L.take i) + (L[i].num + L[i].sumW) := by
  rw [List.take_succ_eq_append_getElem h, cnt_app, cnt_one]
theorem cnt_le (L : List Pp.C) (i : Nat) : cnt (L.take i) ≤ cnt L := by
  conv => rhs; rw [← List.take_append_drop i L, cnt_app]
  omega
def sW (ws : List Bs) (k : Nat) : Nat := ((ws.take k).map List.length).sum
def sG (gs : List Pp.G) (k : Nat) : Nat := ((gs.take k).map (·.p.length)).sum
theorem sW_step {ws : List Bs} {k : Nat} (h : k < ws.length) : sW ws (k + 1) = sW ws k + ws[k].length := by
  unfold sW; rw [List.take_succ_eq_append_getElem h, List.map_append, List.sum_append, List.map_cons, List.map_nil, List.sum_cons, List.sum_nil, Nat.add_zero]
theorem sG_step {gs : List Pp.G} {k : Nat} (h : k < gs.length) : sG gs (k + 1) = sG gs k + gs[k].p.length := by
  unfold sG; rw [List.take_succ_eq_append_getElem h, List.map_append, List.sum_append, List.map_cons, List.map_nil, List.sum_cons, List.sum_nil, Nat.add_zero]
theorem sW_le (ws : List Bs) (k : Nat) : sW ws k ≤ sW ws ws.length := by
  unfold sW
  rw [List.take_length]
  conv => rhs; rw [← List.take_append_drop k ws, List.map_append, List.sum_append]
  omega
theorem sG_le (gs : List Pp.G) (k : Nat) : sG gs k ≤ sG gs gs.length := by
  unfold sG
  rw [List.take_length]
  conv => rhs; rw [← List.take_append_drop k gs, List.map_append, List.sum_append]
  omega
theorem sumW_is (c : Pp.C) : c.sumW = sW c.ws c.ws.length + sG c.to c.to.length := by
  unfold sW sG Pp.C.sumW
  rw [List.take_length, List.take_length]

set_option maxHeartbeats 8000000 in
theorem ParseShows_any (w : World) (a0 : Option Addr) (cp : Nat) (X : List CV) (hX0 : Cs w (· < w.heap.size) (.slice a0 X.length cp) X) (hl : X.length ≤ 20) (hc : cnt (X.map CV.c) ≤ 1048576) (hG : Glob w) :
    Calls Tryd.prog 4 #[.slice a0 X.length cp] w fun e w' => e = .returned (.bool true) ∧ Below w.heap.size w w' := by
  have hL := lives_any w hG
  have HG := Lib.hid hG
  clear hG
  obtain ⟨L, hLx⟩ : ∃ L, Hid (X.map CV.c = L) := ⟨_, Lib.hid rfl⟩
  rw [hLx.out] at hc
  have hXL : Hid (X.length = L.length) := Lib.hid (by rw [← hLx.out, List.length_map])
  go_enter Tryd.func4, Tryd.ntmps4
  go_wp2_with fail
  refine hL.mono ?_
  rintro e w1 ⟨rfl, hB1⟩
  have hX := hX0.grow hB1
  clear hL hX0
  go_wp2_with fail
  go_loopw [3, 24] (fun vn vi wr => ∃ i : Nat, vi = .int .i64 i ∧ vn = .int .i64 (cnt (L.take i) : Nat) ∧ i ≤ L.length ∧ Below w1.heap.size w1 wr) (fun _ vi _ => X.length - (intOf vi).toNat)
  case atStart => exact ⟨0, rfl, rfl, Nat.zero_le _, Below.refl _ _⟩
  case round =>
    obtain ⟨i, rfl, rfl, hi', hB⟩ := hrel
    obtain ⟨w2, rfl⟩ : ∃ w2 : World, w2 = wr := ⟨wr, rfl⟩
    by_cases hlt : i < X.length
    · obtain ⟨g, o, rfl, hcp, hp, hcells⟩ := hX.cells (by omega)
      obtain ⟨x1, x2, x3⟩ := hcells i hlt
      have hI := cs_in2 hX hlt
      have hlt2 : i < L.length := by have := hXL.out; omega
      have hki : (i : Int) < X.length := by omega
      have hLi : L[i] = X[i].c := by have := hLx.out; subst this; simp
      have y1 : w2.cell? ⟨g, o + i * 3, none⟩ = some (.int .i64 X[i].c.on) := (hB.cell (p := ⟨g, o + i * 3, none⟩) hp).trans x1
      have y2 : w2.cell? ⟨g, o + i * 3 + 1, none⟩ = some X[i].vw := (hB.cell (p := ⟨g, o + i * 3 + 1, none⟩) hp).trans x2
      have y3 : w2.cell? ⟨g, o + i * 3 + 2, none⟩ = some X[i].vt := (hB.cell (p := ⟨g, o + i * 3 + 2, none⟩) hp).trans x3
      have hst := cnt_take hlt2
      have hle := cnt_le L (i + 1)
      rw [hLi] at hst
      clear hcells x1 x2 x3 hLi
      generalize X[i] = x at *
      obtain ⟨c, vw, vt⟩ := x
      obtain ⟨a1, c1, h1, _⟩ := hI.1.shape
      obtain ⟨a2, c2, h2, _⟩ := hI.2.shape
      simp only at h1 h2 y1 y2 y3 hst
      subst h1 h2
      have hW := hI.1
      have hT := hI.2
      simp only at hT hW
      rw [sumW_is] at hst
      have hnum : c.num = c.ws.length + c.to.length := rfl
      rw [hnum] at hst
      have hHst := Lib.hid hst
      generalize hn0 : cnt (L.take i) = n0 at *
      have hbd : n0 + (c.ws.length + c.to.length) + (sW c.ws c.ws.length + sG c.to c.to.length) ≤ 1048576 := by omega
      obtain ⟨W, hWd⟩ : ∃ W, W = w2.alloc (.cells #[.int .i64 c.on, .slice a1 c.ws.length c1, .slice a2 c.to.length c2] C1) := ⟨_, rfl⟩
      have hbox : W.heap[w2.heap.size]? = some (.cells #[.int .i64 c.on, .slice a1 c.ws.length c1, .slice a2 c.to.length c2] C1 (0, 0)) := by rw [hWd]; exact heap_new _ _ rfl
      have hBW : Below w2.heap.size w2 W := by rw [hWd]; exact (Below.refl _ _).alloc (Nat.le_refl _) _
      have hsW : w2.heap.size < W.heap.size := by rw [hWd]; simp
      clear hst hle hI hn0 hnum
      go_wp2_with fail
      rw [← hWd]
      clear hWd
      have hpw : g < w2.heap.size := Nat.lt_of_lt_of_le hp hB.size
      go_loopw [3, 40] (fun vn vk wx => ∃ k : Nat, vk = .int .i64 k ∧ vn = .int .i64 (n0 + (c.ws.length + c.to.length) + sW c.ws k : Nat) ∧ k ≤ c.ws.length ∧ Below (w2.heap.size + 1) W wx) (fun _ vk _ => c.ws.length - (intOf vk).toNat)
      case atStart => exact ⟨0, rfl, by simp [sW], Nat.zero_le _, Below.refl _ _⟩
      case round =>
        obtain ⟨k, rfl, rfl, hk, hBx⟩ := hrel
        by_cases hkl : k < c.ws.length
        · obtain ⟨g', o', rfl, _, hp', hc'⟩ := strs_cells hW (by omega)
          have t1 := hc' k hkl
          have hpw' : g' < w2.heap.size := Nat.lt_of_lt_of_le hp' hB.size
          have t3 : wr.cell? ⟨g', o' + k, none⟩ = some (.string (str c.ws[k])) := (hBx.cell (p := ⟨g', o' + k, none⟩) (Nat.lt_succ_of_lt hpw')).trans ((hBW.cell (p := ⟨g', o' + k, none⟩) hpw').trans ((hB.cell (p := ⟨g', o' + k, none⟩) hp').trans t1))
          have hss := sW_step hkl
          have hsl := sW_le c.ws (k + 1)
          have hz := str_size c.ws[k]
          clear hc' t1
          generalize c.ws[k] = s at *
          go_wp2_with fail
          go_roundw
          case rel => exact ⟨k + 1, by go_num, by rw [hss]; exact congrArg (Value.int .i64) (by omega), hkl, hBx⟩
          case measure => simp [intOf]; omega
        · obtain rfl : k = c.ws.length := by omega
          have hb2 := (hBx.block _ (Nat.lt_succ_self _)).trans hbox
          obtain ⟨r0, r1, r2⟩ := box3 hb2
          have hlw := (Array.getElem?_eq_some_iff.1 hb2).1
          have hBx1 := hBx
          clear hBx
          go_wp2_with fail
          go_loopw [3, 52] (fun vn vk wx => ∃ k : Nat, vk = .int .i64 k ∧ vn = .int .i64 (n0 + (c.ws.length + c.to.length) + sW c.ws c.ws.length + sG c.to k : Nat) ∧ k ≤ c.to.length ∧ Below (w2.heap.size + 1) W wx) (fun _ vk _ => c.to.length - (intOf vk).toNat)
          case atStart => exact ⟨0, rfl, by simp [sG], Nat.zero_le _, hBx1⟩
          case round =>
            clear hb2 r0 r1 r2 hlw hBx1
            obtain ⟨k, rfl, rfl, hk, hBx⟩ := hrel
            by_cases hkl : k < c.to.length
            · obtain ⟨g', o', rfl, _, hp', hc'⟩ := tos_cells hT (by omega)
              obtain ⟨t1, t2⟩ := hc' k hkl
              have hpw' : g' < w2.heap.size := Nat.lt_of_lt_of_le hp' hB.size
              have t3 : wr.cell? ⟨g', o' + k * 2, none⟩ = some (.int .i64 c.to[k].k) := (hBx.cell (p := ⟨g', o' + k * 2, none⟩) (Nat.lt_succ_of_lt hpw')).trans ((hBW.cell (p := ⟨g', o' + k * 2, none⟩) hpw').trans ((hB.cell (p := ⟨g', o' + k * 2, none⟩) hp').trans t1))
              have t4 : wr.cell? ⟨g', o' + k * 2 + 1, none⟩ = some (.string (str c.to[k].p)) := (hBx.cell (p := ⟨g', o' + k * 2 + 1, none⟩) (Nat.lt_succ_of_lt hpw')).trans ((hBW.cell (p := ⟨g', o' + k * 2 + 1, none⟩) hpw').trans ((hB.cell (p := ⟨g', o' + k * 2 + 1, none⟩) hp').trans t2))
              have hss := sG_step hkl
              have hsl := sG_le c.to (k + 1)
              have hz := str_size c.to[k].p
              have hgw' : g' < wr.heap.size := by have := hBx.size; omega
              clear hc' t1 t2
              generalize c.to[k] = s at *
              go_wp2_with fail
              go_roundw
              case rel => exact ⟨k + 1, by go_num, by rw [hss]; exact congrArg (Value.int .i64) (by omega), hkl, hBx.alloc (by have := hBx.size; omega) _⟩
              case measure => simp [intOf]; omega
            · obtain rfl : k = c.to.length := by omega
              have hBo := hB.trans ((hBW.trans (hBx.mono (Nat.le_succ _))).mono hB.size)
              go_wp2_with fail
              go_roundw
              case rel => exact ⟨i + 1, by go_num, by rw [hHst.out]; exact congrArg (Value.int .i64) (by omega), hlt2, hBo⟩
              case measure => simp [intOf]; omega
    · obtain rfl : i = L.length := by have := hXL.out; omega
      have hnl : ¬ (L.length : Int) < (X.length : Int) := by have := hXL.out; omega
      have hXB := hX.below hB
      have hXw := hX.grow hB
      have hBw := hB1.trans (hB.mono hB1.size)
      rw [List.take_length]
      by_cases hbig : 1000 < cnt L
      · clear hXL
        go_wp2_with fail
        go_ret
        exact ⟨rfl, hBw⟩
      · have hsm : cnt L ≤ 1000 := by omega
        have hnn : ¬ (1000 : Int) < (cnt L : Nat) := by omega
        have hnA : Pp.numA L ≤ 1000 := by unfold cnt at hsm; omega
        have hsA : Pp.sumA L ≤ 1000 := by unfold cnt at hsm; omega
        have hLl : L.length ≤ 20 := by have := hXL.out; omega
        have hFew : Hid (FewC X) := Lib.hid (few_of (n := 2000) hLx.out (by omega) (by omega) (by omega))
        have hS := Lib.hid (And.intro hLl (And.intro hnA hsA))
        clear hX hXB hsm hnA hsA hLl hnl hc hl
        obtain ⟨w3, hw3⟩ : ∃ w3, Hid (w3 = w2) := ⟨_, Lib.hid rfl⟩
        clear hw3
        cases hr : Pp.rightA L with
        | false =>
          have hSh := Show_no w2 a0 cp X (by rw [hLx.out]; exact hr) hXw (few_few hFew.out)
          go_wp2_with fail
          refine hSh.mono ?_
          rintro e w4 ⟨rfl, hB4⟩
          have hC4 := hBw.trans (hB4.mono hBw.size)
          have hX4 := hXw.grow hB4
          have hR := Right_any w4 a0 cp X false (Lib.hid (by rw [hLx.out]; exact hr)) hX4 (few_few hFew.out)
          clear hSh
          go_wp2_with fail
          refine hR.mono ?_
          rintro e w5 ⟨rfl, hB5⟩
          have hC5 := hC4.trans (hB5.mono hC4.size)
          have hX5 := hX4.grow hB5
          have hO := Of_any w5 a0 cp X hX5 hFew.out
          clear hR
          go_wp2_with fail
          refine hO.mono ?_
          rintro e w6 ⟨v6, Y, hY, rfl, hY6, hB6⟩
          have hC6 := hC5.trans (hB6.mono hC5.size)
          have hX6 := hX5.grow hB6
          have hRR := RRight_any w6 v6 Y false (Lib.hid (by rw [hY, hLx.out]; exact hr)) hY6 (few_of (n := 2000) (hY.trans hLx.out) (by have := hS.out; omega) (by have := hS.out; omega) (by omega))
          clear hO hY
          go_wp2_with fail
          refine hRR.mono ?_
          rintro e w7 ⟨rfl, hB7⟩
          have hC7 := hC6.trans (hB7.mono hC6.size)
          have hX7 := hX6.grow hB7
          have hR := Right_any w7 a0 cp X false (Lib.hid (by rw [hLx.out]; exact hr)) hX7 (few_few hFew.out)
          clear hRR
          go_wp2_with fail
          refine hR.mono ?_
          rintro e w8 ⟨rfl, hB8⟩
          go_wp2_with fail
          go_ret
          exact ⟨rfl, hC7.trans (hB8.mono hC7.size)⟩
        | true =>
          have hTL : Hid ((Pp.toksA (X.map CV.c)).length ≤ 100000 ∧ Lp.sumT (Pp.toksA (X.map CV.c)) ≤ 100000) := Lib.hid (by rw [hLx.out]; have := Pp.toksA_len L; have := hS.out; omega)
          have hSh := Lib.hid (Show_yes w2 a0 cp X (by rw [hLx.out]; exact hr) hXw (few_few hFew.out) hTL.out.1 hTL.out.2 (HG.out.below hBw))
          go_wp2_with fail
          refine hSh.out.mono ?_
          rintro e w4 ⟨rfl, hB4⟩
          have hC4 := hBw.trans (hB4.mono hBw.size)
          have hX4 := hXw.grow hB4
          have hR := Right_any w4 a0 cp X true (Lib.hid (by rw [hLx.out]; exact hr)) hX4 (few_few hFew.out)
          clear hSh
          go_wp2_with fail
          refine hR.mono ?_
          rintro e w5 ⟨rfl, hB5⟩
          have hC5 := hC4.trans (hB5.mono hC4.size)
          have hX5 := hX4.grow hB5
          have hO := Of_any w5 a0 cp X hX5 hFew.out
          clear hR
          go_wp2_with fail
          refine hO.mono ?_
          rintro e w6 ⟨v6, Y, hY, rfl, hY6, hB6⟩
          have hC6 := hC5.trans (hB6.mono hC5.size)
          have hX6 := hX5.grow hB6
          have hRR := RRight_any w6 v6 Y true (Lib.hid (by rw [hY, hLx.out]; exact hr)) hY6 (few_of (n := 2000) (hY.trans hLx.out) (by have := hS.out; omega) (by have := hS.out; omega) (by omega))
          clear hO hY
          go_wp2_with fail
          refine hRR.mono ?_
          rintro e w7 ⟨rfl, hB7⟩
          have hC7 := hC6.trans (hB7.mono hC6.size)
          have hX7 := hX6.grow hB7
          have hR := Right_any w7 a0 cp X true (Lib.hid (by rw [hLx.out]; exact hr)) hX7 (few_few hFew.out)
          clear hRR
          go_wp2_with fail
          refine hR.mono ?_
          rintro e w8 ⟨rfl, hB8⟩
          have hC8 := hC7.trans (hB8.mono hC7.size)
          have hX8 := hX7.grow hB8
          have hsz8 : (str (Lp.showA (Pp.toksA (X.map CV.c)))).size ≤ 100000 := by rw [str_size, hLx.out]; have := Pp.show_size (l := L); have := hS.out; omega
          have hT2 := Line_any w8 (str (Lp.showA (Pp.toksA (X.map CV.c)))) hsz8 (HG.out.below hC8)
          have e2 : Pp.lineA (by8 (str (Lp.showA (Pp.toksA (X.map CV.c))))) = some L := by rw [by8_str, hLx.out, Pp.line_shown hr]
          rw [e2] at hT2
          clear e2 hR
          have HT2 := Lib.hid hT2
          clear hT2
          go_wp2_with fail
          refine HT2.out.mono ?_
          rintro e w9 ⟨⟨v9, Z, hZ, rfl, hZ9⟩, hB9⟩
          have HZ := Lib.hid hZ
          have hFewZ : Hid (FewC Z) := Lib.hid (few_of (n := 2000) hZ (by have := hS.out; omega) (by have := hS.out; omega) (by omega))
          clear hZ
          have hC9 := hC8.trans (hB9.mono hC8.size)
          have hX9 := hX8.grow hB9
          obtain ⟨a9, cp9, rfl, _⟩ := hZ9.1.shape
          have hO := Of_any w9 a0 cp X hX9 hFew.out
          go_wp2_with fail
          refine hO.mono ?_
          rintro e w10 ⟨v10, Y10, hY10, rfl, hYc10, hB10⟩
          have hC10 := hC9.trans (hB10.mono hC9.size)
          have hX10 := hX9.grow hB10
          have hZ10 := hZ9.grow hB10
          have hRS := RShowC_any w10 v10 Y10 (by rw [hY10, hLx.out]; exact hr) hYc10 (few_few (few_of (n := 2000) (hY10.trans hLx.out) (by have := hS.out; omega) (by have := hS.out; omega) (by omega))) (by rw [hY10]; exact hTL.out.1) (by rw [hY10]; exact hTL.out.2)
          rw [hY10] at hRS
          have HRS := Lib.hid hRS
          clear hO hY10 hRS
          go_wp2_with fail
          refine HRS.out.mono ?_
          rintro e w11 ⟨rfl, hB11⟩
          have hC11 := hC10.trans (hB11.mono hC10.size)
          have hX11 := hX10.grow hB11
          have hZ11 := hZ10.grow hB11
          have hO := Of_any w11 a9 cp9 Z hZ11 hFewZ.out
          go_wp2_with fail
          refine hO.mono ?_
          rintro e w12 ⟨v12, Y12, hY12, rfl, hYc12, hB12⟩
          have HY12 := Lib.hid hY12
          have hC12 := hC11.trans (hB12.mono hC11.size)
          have hX12 := hX11.grow hB12
          have hO := Of_any w12 a0 cp X hX12 hFew.out
          clear hY12
          go_wp2_with fail
          refine hO.mono ?_
          rintro e w13 ⟨v13, Y13, hY13, rfl, hYc13, hB13⟩
          have hC13 := hC12.trans (hB13.mono hC12.size)
          have hSa := same_yes w13 v12 v13 Y12 Y13 (hYc12.grow hB13) hYc13 (by rw [HY12.out, HZ.out, hY13, hLx.out]) (few_of (n := 2000) (HY12.out.trans HZ.out) (by have := hS.out; omega) (by have := hS.out; omega) (by omega))
          clear hO hY13
          go_wp2_with fail
          refine hSa.mono ?_
          rintro e w14 ⟨rfl, hB14⟩
          go_wp2_with fail
          go_ret
          exact ⟨rfl, hC13.trans (hB14.mono hC13.size)⟩
end Go.Proofs.YtlkcpegjkmfngaaDoor.Px
