/-
  flatironlaw11.do: a call, on both tables.
-/
import Derived.StillTailTactics
import Derived.Deep.RegionHeld3
import Derived.Deep.DeepCutAuto
import Derived.Test.YtfbddbcedoofeaaKOrder
import Derived.Test.YtfbddbcedoofeaaJDo
namespace Go.Proofs.Ytfbddbcedoofeaa.Jw
open Go.RowKit Go.Proofs.Ytfbddbcedoofeaa Go.Proofs.Ytfbddbcedoofeaa.Ww Go.Proofs.Ytfbddbcedoofeaa.Tw Go.Proofs.Ytfbddbcedoofeaa.Kw
set_option maxRecDepth 100000

set_option maxHeartbeats 8000000 in
theorem do_more_yes (w : World) {tb mb : Nat} {X : List Nat} {T : Jp.T} {M : List (Bs × Int)} {s : Sl} (k : Nat) (v : Jp.V) (nv : Value) (hT : Tab w tb X T.l M T.all) (hm : w.heap[mb]? = some (.cells (mC T s) TT (0, 0))) (hR : Rows3 w T s) (hF : Fit T v) (h5 : k % 5 = 1) (rt : Jp.rightA v = true) (isb : Bool) (is : (Jp.getA T.l v.n).isSome = isb) :
    Calls Try.prog 8 #[.pointer (some ⟨tb, 0, none⟩), .pointer (some ⟨mb, 0, none⟩), .agg #[.int .u8 k, .string (str v.n), .string (str v.x), .bool v.s, .int .i64 v.f, nv]] w (DPost w tb mb X ({ T with l := (Jp.moreA T v).l } : Jp.T) M) := by
  have hrem := rem_is k 1 h5
  have hD := DoW.new k v nv hm hR
  obtain ⟨X0, hT0, hK0, hX0⟩ := hT.shrink
  have hmX : ∀ i ∈ X0, i ∉ [mb] := fun i hi h => hK0.box hm kTT (List.mem_singleton.1 h ▸ hi)
  have hTW := fun W (hW : Kept [mb] w W) => hT0.kept hW hmX
  have HKW := Lib.hid (fun W (hW : Kept [mb] w W) => hK0.kept hW hmX)
  have hnm : w.heap.size ≠ mb := by have := (Array.getElem?_eq_some_iff.1 hm).1; omega
  have HX0 := Lib.hid hX0
  obtain ⟨a0, a1, a2, a3, a4, a5, al⟩ := hD.cells
  have HD := Lib.hid hD
  have HTW := Lib.hid hTW
  have HF := Lib.hid hF
  have HM := Lib.hid hm
  have HRows := Lib.hid hR
  clear hT hT0 hK0 hX0 hmX hm hR hF h5 hD hTW
  have HOf := Lib.hid (fun W => Of_any W v)
  have HRi := Lib.hid (fun W => Right_any W v)
  rw [rt] at HRi
  obtain ⟨u, hu⟩ := gV_is (Jp.getA T.l v.n)
  rw [is] at hu
  have HGet := Lib.hid (fun W (hW : Rows3 W T s) => Get_any W 0 (.slice s.a0 T.l.length s.c0) (.slice s.a1 T.yes.length s.c1) (.slice s.a2 T.no.length s.c2) T.all T.l v.n hW.l (by have := HF.out.l; omega))
  rw [hu] at HGet
  clear hu
  have HRef := Lib.hid (fun W (hW : Rows3 W T s) => More_any W 0 s.a0 s.a1 s.a2 s.c0 T.yes.length s.c1 T.no.length s.c2 T v (Nat.zero_le _) hW.l (by have := HF.out.l; omega) (fun o ho => by have := HF.out.t o ho; omega) (by have := HF.out.x; omega))
  unfold tA vA at HRef
  have HP := Lib.hid (fun W (hW : Tab W tb X0 T.l M T.all) => PMore_any W hW v T rfl (by have := HF.out.n; omega) (by have := HF.out.l; omega) (fun o ho => by have := HF.out.t o ho; have := HF.out.x; omega))
  rw [rt, if_pos rfl, if_pos rfl] at HP
  unfold vA at HP
  unfold vA at HOf HRi HGet
  go_enter Try.func8, Try.ntmps8
  go_wp2_with fail
  refine (HOf.out _).mono ?_
  rintro e w1 ⟨rfl, B1⟩
  go_wp2_with fail
  refine (HRi.out _).mono ?_
  rintro e w2 ⟨rfl, B2⟩
  have hD2 := HD.out.on (B1.trans (B2.mono B1.size))
  clear HD B1 B2 a0 a1 a2 a3 a4 a5 al
  obtain ⟨a0, a1, a2, a3, a4, a5, al⟩ := hD2.cells
  obtain ⟨m0, m1, m2, m3, ml⟩ := hD2.mcells
  have HD2 := Lib.hid hD2
  clear hD2
  go_upto_region 2 with (fail)
  go_cut [9] (fun v9 wx => v9 = .bool isb ∧ Below w2.heap.size w2 wx)
  case first =>
    have HSX := Lib.hid (show ∀ W, Below w2.heap.size w2 W → W.cell? ⟨mb, 0, none⟩ = some (.slice s.a0 T.l.length s.c0) ∧ W.cell? ⟨mb, 1, none⟩ = some (.slice s.a1 T.yes.length s.c1) ∧ W.cell? ⟨mb, 2, none⟩ = some (.slice s.a2 T.no.length s.c2) ∧ W.cell? ⟨mb, 3, none⟩ = some (.bool T.all) ∧ W.cell? ⟨w.heap.size, 1, none⟩ = some (.string (str v.n)) from fun W hW => ⟨(HD2.out.on hW).mcells.1, (HD2.out.on hW).mcells.2.1, (HD2.out.on hW).mcells.2.2.1, (HD2.out.on hW).mcells.2.2.2.1, (HD2.out.on hW).cells.2.1⟩)
    have D0 : Below w2.heap.size w2 w2.drew := (Below.refl _ _).drew
    have DA0 := fun o => ((Below.refl w2.heap.size w2).alloc (Nat.le_refl _) o).drew
    go_region_held3 (fun W : World => W.cell? ⟨mb, 0, none⟩ = some (.slice s.a0 T.l.length s.c0) ∧ W.cell? ⟨mb, 1, none⟩ = some (.slice s.a1 T.yes.length s.c1) ∧ W.cell? ⟨mb, 2, none⟩ = some (.slice s.a2 T.no.length s.c2) ∧ W.cell? ⟨mb, 3, none⟩ = some (.bool T.all) ∧ W.cell? ⟨w.heap.size, 1, none⟩ = some (.string (str v.n)))
      ((refine HSX.out _ ?_; first | exact D0 | exact DA0 _ | exact D3 | exact D3.alloc D3.size _ | exact (((D3.setCell (Nat.le_refl _) _).setCell (Nat.le_refl _) _).setCell (Nat.le_refl _) _).setCell (Nat.le_refl _) _))
      (first
        | (go_at_call 14; refine (HGet.out _ (HD2.out.on D0).rows).mono ?_; rintro e w3 ⟨rfl, B3⟩; have D3 := D0.trans (B3.mono D0.size); have D4 := D3.alloc D3.size (.cells #[.string (str u.n), .string (str u.x), .bool u.s, .int .i64 u.f] VT))
        | (go_at_call 14; refine (HGet.out _ (HD2.out.on (DA0 _)).rows).mono ?_; rintro e w3 ⟨rfl, B3⟩; have D3 := (DA0 _).trans (B3.mono (DA0 _).size); obtain ⟨z0, z1, z2, z3, y0, y1, y2, y3, zl⟩ := zero_later B3; have D4 := (((D3.setCell (p := ⟨w2.heap.size, 0, none⟩) (Nat.le_refl _) (.string (str u.n))).setCell (p := ⟨w2.heap.size, 1, none⟩) (Nat.le_refl _) (.string (str u.x))).setCell (p := ⟨w2.heap.size, 2, none⟩) (Nat.le_refl _) (.bool u.s)).setCell (p := ⟨w2.heap.size, 3, none⟩) (Nat.le_refl _) (.int .i64 u.f)))
    all_goals go_wp2_with fail
    all_goals go_meet
    all_goals exact ⟨rfl, D4⟩
  case rest =>
    obtain ⟨rfl, B3⟩ := hcut
    have hD3 := HD2.out.on B3
    clear HD2 B3 a0 a1 a2 a3 a4 a5 al m0 m1 m2 m3 ml
    obtain ⟨a0, a1, a2, a3, a4, a5, al⟩ := hD3.cells
    obtain ⟨m0, m1, m2, m3, ml⟩ := hD3.mcells
    have HD3 := Lib.hid hD3
    clear hD3
    go_wp2_with fail
    have hT0 : (fun (b : Bool) (W : World) => b = false → DoW w mb T s k v nv w.heap.size W) false wc.drew := fun _ => HD3.out.on (Below.refl _ wc).drew
    refine wp_region_D 9 (fun b W => b = false → DoW w mb T s k v nv w.heap.size W) (by kernel_rfl) ?_
    refine wpAnyD_pre (i := 0) [0, 8, 9] (v := .pointer (some ⟨mb, 0, none⟩)) (by rfl) rfl (by rfl) (by kernel_rfl) (by kernel_rfl) (by kernel_rfl) (by kernel_rfl) (by kernel_rfl) (fun c a w h => h) (Or.inl ⟨by rfl, ?_⟩) hT0 ?_
    · rintro W hW; go_simp
    simp only [Act.put, List.setIfInBounds_toArray]
    refine wpAnyD_pre (i := 1) [1, 2, 3, 7, 9] (v := .pointer (some ⟨mb, 0, none⟩)) (by rfl) rfl (by rfl) (by kernel_rfl) (by kernel_rfl) (by kernel_rfl) (by kernel_rfl) (by kernel_rfl) (fun c a w h => h) (Or.inl ⟨by rfl, ?_⟩) hT0 ?_
    · rintro W hW; go_simp
    simp only [Act.put]
    refine wpAnyD_pre (i := 2) [2, 3, 7, 9] (v := .pointer (some ⟨mb, 0, none⟩)) (by rfl) rfl (by rfl) (by kernel_rfl) (by kernel_rfl) (by kernel_rfl) (by kernel_rfl) (by kernel_rfl) (fun c a w h => h) (Or.inl ⟨by rfl, ?_⟩) hT0 ?_
    · rintro W hW; go_simp
    simp only [Act.put]
    refine wpAnyD_pre (i := 3) [3, 7, 9] (v := .agg #[.slice s.a0 T.l.length s.c0, .slice s.a1 T.yes.length s.c1, .slice s.a2 T.no.length s.c2, .bool T.all]) (by rfl) rfl (by rfl) (by kernel_rfl) (by kernel_rfl) (by kernel_rfl) (by kernel_rfl) (by kernel_rfl) (fun c a w h => h) (Or.inl ⟨by rfl, ?_⟩) hT0 ?_
    · rintro W hW
      obtain ⟨n0, n1, n2, n3, nl⟩ := (hW rfl).mcells
      go_simp
    simp only [Act.put]
    refine wpAnyD_pre (i := 4) [4, 5, 6, 7, 9] (v := .pointer (some ⟨w.heap.size, 1, none⟩)) (by rfl) rfl (by rfl) (by kernel_rfl) (by kernel_rfl) (by kernel_rfl) (by kernel_rfl) (by kernel_rfl) (fun c a w h => h) (Or.inl ⟨by rfl, ?_⟩) hT0 ?_
    · rintro W hW; go_simp
    simp only [Act.put]
    refine wpAnyD_pre (i := 5) [5, 6, 7, 9] (v := .agg #[.string (str v.n), .string (str v.x), .bool v.s, .int .i64 v.f]) (by rfl) rfl (by rfl) (by kernel_rfl) (by kernel_rfl) (by kernel_rfl) (by kernel_rfl) (by kernel_rfl) (fun c a w h => h) (Or.inl ⟨by rfl, ?_⟩) hT0 ?_
    · rintro W hW
      obtain ⟨n0, n1, n2, n3, n4, n5, nl⟩ := (hW rfl).cells
      go_simp
    simp only [Act.put]
    have HD0 := Lib.hid (hT0 rfl)
    clear hT0 a0 a1 a2 a3 a4 a5 al m0 m1 m2 m3 ml
    generalize wc.drew = wd at *
    refine wpAnyD_one (i := 6) (by kernel_rfl) rfl false (by rfl) (fun K hK => ?_)
    go_simp
    refine (HOf.out _).mono ?_
    rintro e w4 ⟨rfl, B4⟩
    have HD4 := Lib.hid (HD0.out.on B4)
    clear HD0 B4
    dsimp only
    refine hK.out _ _ (fun _ => HD4.out) ?_
    clear hK K
    refine wpAnyD_one (i := 7) (by kernel_rfl) rfl false (by rfl) (fun K hK => ?_)
    go_simp
    refine (HRef.out _ HD4.out.rows).mono ?_
    rintro e w5 ⟨vl, rfl, ho, B5⟩
    obtain ⟨al, cl, rfl⟩ := owns_slice ho
    have hD5 := HD4.out.on B5
    have HR5 : Hid (Rows3 w5 ({ T with l := (Jp.moreA T v).l } : Jp.T) ⟨al, cl, s.a1, s.c1, s.a2, s.c2⟩) := Lib.hid ⟨ho, hD5.rows.yes, hD5.rows.no⟩
    obtain ⟨n0, n1, n2, n3, nl⟩ := hD5.mcells
    have f0 := frozen_at hD5.m 0
    have f1 := frozen_at hD5.m 1
    have f2 := frozen_at hD5.m 2
    have f3 := frozen_at hD5.m 3
    have HD5 := Lib.hid hD5
    clear hD5 HD4 B5 ho
    dsimp only
    refine hK.out _ _ (fun _ => HD5.out) ?_
    clear hK K
    refine wpAnyD_one (i := 8) (by kernel_rfl) rfl false (by rfl) (fun K hK => ?_)
    go_simp
    refine hK.out _ _ (fun _ => HD5.out) ?_
    clear hK K
    refine wpAnyD_one (i := 9) (by kernel_rfl) rfl true (by rfl) (fun K hK => ?_)
    go_simp
    refine hK.out _ _ (fun h => by cases h) ?_
    clear hK K
    have hD6 : DoW w mb ({ T with l := (Jp.moreA T v).l } : Jp.T) ⟨al, cl, s.a1, s.c1, s.a2, s.c2⟩ k v nv w.heap.size ((((w5.setCell ⟨mb, 0, none⟩ (.slice al (Jp.moreA T v).l.length cl)).setCell ⟨mb, 1, none⟩ (.slice s.a1 T.yes.length s.c1)).setCell ⟨mb, 2, none⟩ (.slice s.a2 T.no.length s.c2)).setCell ⟨mb, 3, none⟩ (.bool T.all)) := HD5.out.turn HR5.out hnm
    clear n0 n1 n2 n3 nl f0 f1 f2 f3 HD5 HR5
    generalize (((w5.setCell ⟨mb, 0, none⟩ (.slice al (Jp.moreA T v).l.length cl)).setCell ⟨mb, 1, none⟩ (.slice s.a1 T.yes.length s.c1)).setCell ⟨mb, 2, none⟩ (.slice s.a2 T.no.length s.c2)).setCell ⟨mb, 3, none⟩ (.bool T.all) = w6 at *
    obtain ⟨a0, a1, a2, a3, a4, a5, al2⟩ := hD6.cells
    have HD6 := Lib.hid hD6
    clear hD6
    refine wpAnyD_done (by kernel_rfl) ?_ _
    go_wp2_with fail
    refine (HP.out _ (HTW.out _ HD6.out.kept)).mono ?_
    rintro e w7 hp
    have h7 := hp.2
    obtain rfl := hp.1
    go_wp2_with fail
    go_ret
    exact do_done HD6.out (HKW.out _ HD6.out.kept) HX0.out h7

set_option maxHeartbeats 8000000 in
theorem do_more_no (w : World) {tb mb : Nat} {X : List Nat} {T : Jp.T} {M : List (Bs × Int)} {s : Sl} (k : Nat) (v : Jp.V) (nv : Value) (hT : Tab w tb X T.l M T.all) (hm : w.heap[mb]? = some (.cells (mC T s) TT (0, 0))) (hR : Rows3 w T s) (hF : Fit T v) (h5 : k % 5 = 1) (rt : Jp.rightA v = false) (isb : Bool) (is : (Jp.getA T.l v.n).isSome = isb) :
    Calls Try.prog 8 #[.pointer (some ⟨tb, 0, none⟩), .pointer (some ⟨mb, 0, none⟩), .agg #[.int .u8 k, .string (str v.n), .string (str v.x), .bool v.s, .int .i64 v.f, nv]] w (DPost w tb mb X T M) := by
  have hrem := rem_is k 1 h5
  have hD := DoW.new k v nv hm hR
  obtain ⟨X0, hT0, hK0, hX0⟩ := hT.shrink
  have hmX : ∀ i ∈ X0, i ∉ [mb] := fun i hi h => hK0.box hm kTT (List.mem_singleton.1 h ▸ hi)
  have hTW := fun W (hW : Kept [mb] w W) => hT0.kept hW hmX
  have HKW := Lib.hid (fun W (hW : Kept [mb] w W) => hK0.kept hW hmX)
  have hnm : w.heap.size ≠ mb := by have := (Array.getElem?_eq_some_iff.1 hm).1; omega
  have HX0 := Lib.hid hX0
  obtain ⟨a0, a1, a2, a3, a4, a5, al⟩ := hD.cells
  have HD := Lib.hid hD
  have HTW := Lib.hid hTW
  have HF := Lib.hid hF
  have HM := Lib.hid hm
  have HRows := Lib.hid hR
  clear hT hT0 hK0 hX0 hmX hm hR hF h5 hD hTW
  have HOf := Lib.hid (fun W => Of_any W v)
  have HRi := Lib.hid (fun W => Right_any W v)
  rw [rt] at HRi
  obtain ⟨u, hu⟩ := gV_is (Jp.getA T.l v.n)
  rw [is] at hu
  have HGet := Lib.hid (fun W (hW : Rows3 W T s) => Get_any W 0 (.slice s.a0 T.l.length s.c0) (.slice s.a1 T.yes.length s.c1) (.slice s.a2 T.no.length s.c2) T.all T.l v.n hW.l (by have := HF.out.l; omega))
  rw [hu] at HGet
  clear hu
  have HP := Lib.hid (fun W (hW : Tab W tb X0 T.l M T.all) => PMore_any W hW v T rfl (by have := HF.out.n; omega) (by have := HF.out.l; omega) (fun o ho => by have := HF.out.t o ho; have := HF.out.x; omega))
  rw [rt, if_neg (by simp), if_neg (by simp)] at HP
  unfold vA at HP
  unfold vA at HOf HRi HGet
  go_enter Try.func8, Try.ntmps8
  go_wp2_with fail
  refine (HOf.out _).mono ?_
  rintro e w1 ⟨rfl, B1⟩
  go_wp2_with fail
  refine (HRi.out _).mono ?_
  rintro e w2 ⟨rfl, B2⟩
  have hD2 := HD.out.on (B1.trans (B2.mono B1.size))
  clear HD B1 B2 a0 a1 a2 a3 a4 a5 al
  obtain ⟨a0, a1, a2, a3, a4, a5, al⟩ := hD2.cells
  obtain ⟨m0, m1, m2, m3, ml⟩ := hD2.mcells
  have HD2 := Lib.hid hD2
  clear hD2
  go_upto_region 2 with (fail)
  go_cut [9] (fun v9 wx => v9 = .bool isb ∧ Below w2.heap.size w2 wx)
  case first =>
    have HSX := Lib.hid (show ∀ W, Below w2.heap.size w2 W → W.cell? ⟨mb, 0, none⟩ = some (.slice s.a0 T.l.length s.c0) ∧ W.cell? ⟨mb, 1, none⟩ = some (.slice s.a1 T.yes.length s.c1) ∧ W.cell? ⟨mb, 2, none⟩ = some (.slice s.a2 T.no.length s.c2) ∧ W.cell? ⟨mb, 3, none⟩ = some (.bool T.all) ∧ W.cell? ⟨w.heap.size, 1, none⟩ = some (.string (str v.n)) from fun W hW => ⟨(HD2.out.on hW).mcells.1, (HD2.out.on hW).mcells.2.1, (HD2.out.on hW).mcells.2.2.1, (HD2.out.on hW).mcells.2.2.2.1, (HD2.out.on hW).cells.2.1⟩)
    have D0 : Below w2.heap.size w2 w2.drew := (Below.refl _ _).drew
    have DA0 := fun o => ((Below.refl w2.heap.size w2).alloc (Nat.le_refl _) o).drew
    go_region_held3 (fun W : World => W.cell? ⟨mb, 0, none⟩ = some (.slice s.a0 T.l.length s.c0) ∧ W.cell? ⟨mb, 1, none⟩ = some (.slice s.a1 T.yes.length s.c1) ∧ W.cell? ⟨mb, 2, none⟩ = some (.slice s.a2 T.no.length s.c2) ∧ W.cell? ⟨mb, 3, none⟩ = some (.bool T.all) ∧ W.cell? ⟨w.heap.size, 1, none⟩ = some (.string (str v.n)))
      ((refine HSX.out _ ?_; first | exact D0 | exact DA0 _ | exact D3 | exact D3.alloc D3.size _ | exact (((D3.setCell (Nat.le_refl _) _).setCell (Nat.le_refl _) _).setCell (Nat.le_refl _) _).setCell (Nat.le_refl _) _))
      (first
        | (go_at_call 14; refine (HGet.out _ (HD2.out.on D0).rows).mono ?_; rintro e w3 ⟨rfl, B3⟩; have D3 := D0.trans (B3.mono D0.size); have D4 := D3.alloc D3.size (.cells #[.string (str u.n), .string (str u.x), .bool u.s, .int .i64 u.f] VT))
        | (go_at_call 14; refine (HGet.out _ (HD2.out.on (DA0 _)).rows).mono ?_; rintro e w3 ⟨rfl, B3⟩; have D3 := (DA0 _).trans (B3.mono (DA0 _).size); obtain ⟨z0, z1, z2, z3, y0, y1, y2, y3, zl⟩ := zero_later B3; have D4 := (((D3.setCell (p := ⟨w2.heap.size, 0, none⟩) (Nat.le_refl _) (.string (str u.n))).setCell (p := ⟨w2.heap.size, 1, none⟩) (Nat.le_refl _) (.string (str u.x))).setCell (p := ⟨w2.heap.size, 2, none⟩) (Nat.le_refl _) (.bool u.s)).setCell (p := ⟨w2.heap.size, 3, none⟩) (Nat.le_refl _) (.int .i64 u.f)))
    all_goals go_wp2_with fail
    all_goals go_meet
    all_goals exact ⟨rfl, D4⟩
  case rest =>
    obtain ⟨rfl, B3⟩ := hcut
    have hD3 := HD2.out.on B3
    clear HD2 B3 a0 a1 a2 a3 a4 a5 al m0 m1 m2 m3 ml
    obtain ⟨a0, a1, a2, a3, a4, a5, al⟩ := hD3.cells
    obtain ⟨m0, m1, m2, m3, ml⟩ := hD3.mcells
    have HD3 := Lib.hid hD3
    clear hD3
    go_wp2_with fail
    refine (HP.out _ (HTW.out _ HD3.out.kept)).mono ?_
    rintro e w7 hp
    have h7 := hp.2
    obtain rfl := hp.1
    go_wp2_with fail
    go_ret
    exact do_done HD3.out (HKW.out _ HD3.out.kept) HX0.out h7

end Go.Proofs.Ytfbddbcedoofeaa.Jw
