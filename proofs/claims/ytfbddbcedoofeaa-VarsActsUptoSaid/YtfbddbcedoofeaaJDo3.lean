/-
  flatironlaw11.do: a call, on both tables.
-/
import Derived.StillTailTactics
import Derived.Deep.RegionHeld3
import Derived.Deep.DeepCutAuto
import Derived.Test.YtfbddbcedoofeaaJDo
namespace Go.Proofs.Ytfbddbcedoofeaa.Jw
open Go.RowKit Go.Proofs.Ytfbddbcedoofeaa Go.Proofs.Ytfbddbcedoofeaa.Ww Go.Proofs.Ytfbddbcedoofeaa.Tw Go.Proofs.Ytfbddbcedoofeaa.Kw
set_option maxRecDepth 100000

set_option maxHeartbeats 8000000 in
theorem do_exp_t (w : World) {tb mb : Nat} {X : List Nat} {T : Jp.T} {M : List (Bs × Int)} {s : Sl} (k : Nat) (v : Jp.V) (nv : Value) (hT : Tab w tb X T.l M T.all) (hm : w.heap[mb]? = some (.cells (mC T s) TT (0, 0))) (hR : Rows3 w T s) (hF : Fit T v) (h5 : k % 5 = 3) (rt : Jp.rightA v = true) (isb : Bool) (is : (Jp.getA T.l v.n).isSome = isb) (L : List Bs) (B N : Nat) (hN : Rd w B nv (nC L)) (hBX : ∀ i ∈ X, B ≤ i) (hBm : B ≤ mb) (hBw : B ≤ w.heap.size) (hMN : M.length ≤ N) (hyN : T.yes.length ≤ N) (hnN : T.no.length ≤ N) (hLN : N + L.length ≤ 1000000) (hLs : ∀ x ∈ L, x.length ≤ 1000000) :
    Calls Try.prog 8 #[.pointer (some ⟨tb, 0, none⟩), .pointer (some ⟨mb, 0, none⟩), .agg #[.int .u8 k, .string (str v.n), .string (str v.x), .bool v.s, .int .i64 v.f, nv]] w (DPost w tb mb X ({ Jp.exportA T true L with l := T.l } : Jp.T) (exportM M true L)) := by
  have hrem := rem_is k 3 h5
  have hD := DoW.new k v nv hm hR
  obtain ⟨X0, hT0, hK0, hX0⟩ := hT.shrink
  have hmX : ∀ i ∈ X0, i ∉ [mb] := fun i hi h => hK0.box hm kTT (List.mem_singleton.1 h ▸ hi)
  have hTW := fun W (hW : Kept [mb] w W) => hT0.kept hW hmX
  have HKW := Lib.hid (fun W (hW : Kept [mb] w W) => hK0.kept hW hmX)
  have hnm : w.heap.size ≠ mb := by have := (Array.getElem?_eq_some_iff.1 hm).1; omega
  have HX0 := Lib.hid hX0
  obtain ⟨a0, a1, a2, a3, a4, a5, al⟩ := hD.cells
  have HD := Lib.hid hD
  have HTW := Lib.hid hTW
  have HF := Lib.hid hF
  have HM := Lib.hid hm
  have HRows := Lib.hid hR
  clear hT hT0 hK0 hX0 hmX hm hR hF h5 hD hTW
  have HOf := Lib.hid (fun W => Of_any W v)
  have HRi := Lib.hid (fun W => Right_any W v)
  rw [rt] at HRi
  obtain ⟨u, hu⟩ := gV_is (Jp.getA T.l v.n)
  rw [is] at hu
  have HGet := Lib.hid (fun W (hW : Rows3 W T s) => Get_any W 0 (.slice s.a0 T.l.length s.c0) (.slice s.a1 T.yes.length s.c1) (.slice s.a2 T.no.length s.c2) T.all T.l v.n hW.l (by have := HF.out.l; omega))
  rw [hu] at HGet
  clear hu
  have HP := Lib.hid (fun W (hW : Tab W tb X0 T.l M T.all) (hV : Rd W W.heap.size nv (nC L)) => PExport_any W hW true nv L hV N hMN hLN hLs)
  have HRef := Lib.hid (fun W (hW : Rows3 W T s) (hV : Rd W W.heap.size nv (nC L)) => Export_any W 0 (.slice s.a0 T.l.length s.c0) nv s.a1 s.a2 s.c1 s.c2 T true L N (Nat.zero_le _) hW.yes hW.no hV ⟨_, _, _, rfl⟩ hyN hnN hLN)
  have HBX := Lib.hid (fun i (hi : i ∈ X0) => hBX i (HX0.out i hi))
  unfold vA at HOf HRi HGet
  go_enter Try.func8, Try.ntmps8
  go_wp2_with fail
  refine (HOf.out _).mono ?_
  rintro e w1 ⟨rfl, B1⟩
  go_wp2_with fail
  refine (HRi.out _).mono ?_
  rintro e w2 ⟨rfl, B2⟩
  have hD2 := HD.out.on (B1.trans (B2.mono B1.size))
  clear HD B1 B2 a0 a1 a2 a3 a4 a5 al
  obtain ⟨a0, a1, a2, a3, a4, a5, al⟩ := hD2.cells
  obtain ⟨m0, m1, m2, m3, ml⟩ := hD2.mcells
  have HD2 := Lib.hid hD2
  clear hD2
  go_upto_region 2 with (fail)
  go_cut [9] (fun v9 wx => v9 = .bool isb ∧ Below w2.heap.size w2 wx)
  case first =>
    have HSX := Lib.hid (show ∀ W, Below w2.heap.size w2 W → W.cell? ⟨mb, 0, none⟩ = some (.slice s.a0 T.l.length s.c0) ∧ W.cell? ⟨mb, 1, none⟩ = some (.slice s.a1 T.yes.length s.c1) ∧ W.cell? ⟨mb, 2, none⟩ = some (.slice s.a2 T.no.length s.c2) ∧ W.cell? ⟨mb, 3, none⟩ = some (.bool T.all) ∧ W.cell? ⟨w.heap.size, 1, none⟩ = some (.string (str v.n)) from fun W hW => ⟨(HD2.out.on hW).mcells.1, (HD2.out.on hW).mcells.2.1, (HD2.out.on hW).mcells.2.2.1, (HD2.out.on hW).mcells.2.2.2.1, (HD2.out.on hW).cells.2.1⟩)
    have D0 : Below w2.heap.size w2 w2.drew := (Below.refl _ _).drew
    have DA0 := fun o => ((Below.refl w2.heap.size w2).alloc (Nat.le_refl _) o).drew
    go_region_held3 (fun W : World => W.cell? ⟨mb, 0, none⟩ = some (.slice s.a0 T.l.length s.c0) ∧ W.cell? ⟨mb, 1, none⟩ = some (.slice s.a1 T.yes.length s.c1) ∧ W.cell? ⟨mb, 2, none⟩ = some (.slice s.a2 T.no.length s.c2) ∧ W.cell? ⟨mb, 3, none⟩ = some (.bool T.all) ∧ W.cell? ⟨w.heap.size, 1, none⟩ = some (.string (str v.n)))
      ((refine HSX.out _ ?_; first | exact D0 | exact DA0 _ | exact D3 | exact D3.alloc D3.size _ | exact (((D3.setCell (Nat.le_refl _) _).setCell (Nat.le_refl _) _).setCell (Nat.le_refl _) _).setCell (Nat.le_refl _) _))
      (first
        | (go_at_call 14; refine (HGet.out _ (HD2.out.on D0).rows).mono ?_; rintro e w3 ⟨rfl, B3⟩; have D3 := D0.trans (B3.mono D0.size); have D4 := D3.alloc D3.size (.cells #[.string (str u.n), .string (str u.x), .bool u.s, .int .i64 u.f] VT))
        | (go_at_call 14; refine (HGet.out _ (HD2.out.on (DA0 _)).rows).mono ?_; rintro e w3 ⟨rfl, B3⟩; have D3 := (DA0 _).trans (B3.mono (DA0 _).size); obtain ⟨z0, z1, z2, z3, y0, y1, y2, y3, zl⟩ := zero_later B3; have D4 := (((D3.setCell (p := ⟨w2.heap.size, 0, none⟩) (Nat.le_refl _) (.string (str u.n))).setCell (p := ⟨w2.heap.size, 1, none⟩) (Nat.le_refl _) (.string (str u.x))).setCell (p := ⟨w2.heap.size, 2, none⟩) (Nat.le_refl _) (.bool u.s)).setCell (p := ⟨w2.heap.size, 3, none⟩) (Nat.le_refl _) (.int .i64 u.f)))
    all_goals go_wp2_with fail
    all_goals go_meet
    all_goals exact ⟨rfl, D4⟩
  case rest =>
    obtain ⟨rfl, B3⟩ := hcut
    have hD3 := HD2.out.on B3
    clear HD2 B3 a0 a1 a2 a3 a4 a5 al m0 m1 m2 m3 ml
    obtain ⟨a0, a1, a2, a3, a4, a5, al⟩ := hD3.cells
    obtain ⟨m0, m1, m2, m3, ml⟩ := hD3.mcells
    have HD3 := Lib.hid hD3
    clear hD3
    have hTc := HTW.out _ HD3.out.kept
    have hKc := HKW.out _ HD3.out.kept
    have hNc : Rd wc B nv (nC L) := hN.keep fun b o hb => HD3.out.kept.cell (p := ⟨b, o, none⟩) (by show b < _; omega) (by intro h; have := List.mem_singleton.1 h; have : b = mb := this; omega)
    have hBc : B ≤ wc.heap.size := Nat.le_trans hBw HD3.out.kept.size
    have HPc := Lib.hid (HP.out _ hTc (hNc.more hBc))
    clear HP HGet HRi HOf hTc m0 m1 m2 m3 ml
    go_wp2_with fail
    refine HPc.out.mono ?_
    rintro e w7 ⟨rfl, X7, hT7, hK7, hX7⟩
    have hD7 : DoW w7 mb T s k v nv w.heap.size w7 := ⟨box_kept HD3.out.a hKc kAT hK7, box_kept HD3.out.m hKc kTT hK7, HD3.out.rows.kept hKc hK7, Kept.refl _ _⟩
    have hN7 : Rd w7 B nv (nC L) := hNc.keep fun b o hb => hK7.cell (p := ⟨b, o, none⟩) (by show b < _; omega) (by intro h; have : B ≤ b := HBX.out _ h; omega)
    obtain ⟨X8, hT8, hK8, hX8⟩ := hT7.shrink
    have hm8 : ∀ i ∈ X8, i ∉ [mb] := fun i hi h => hK8.box hD7.m kTT (List.mem_singleton.1 h ▸ hi)
    have HFin := Lib.hid (show ∀ W, Kept [mb] w7 W → (∃ X', Tab W tb X' T.l (exportM M true L) (if L = [] then true else T.all) ∧ ∀ i ∈ X', i ∈ X ∨ w.heap.size ≤ i) ∧ Kept (mb :: X) w W from fun W hW => ⟨⟨X8, hT8.kept hW hm8, fun i hi => by
      rcases hX7 i (hX8 i hi) with h | h
      · exact .inl (HX0.out i h)
      · exact .inr (Nat.le_trans HD3.out.kept.size h)⟩, ((HD3.out.kept.mono fun i hi => by rw [List.mem_singleton.1 hi]; simp).trans (hK7.mono fun i hi => by simp [HX0.out i hi])).trans (hW.mono fun i hi => by rw [List.mem_singleton.1 hi]; simp)⟩)
    have hB7 : B ≤ w7.heap.size := Nat.le_trans hBc hK7.size
    clear a0 a1 a2 a3 a4 a5 al hT7 hT8 hK7 hK8 hX7 hX8 hm8 hKc hNc hBc HD3 HPc
    obtain ⟨a0, a1, a2, a3, a4, a5, al⟩ := hD7.cells
    obtain ⟨m0, m1, m2, m3, ml⟩ := hD7.mcells
    have HDd := Lib.hid (hD7.on (Below.refl _ w7).drew)
    have HCd := Lib.hid (HRef.out w7.drew HDd.out.rows ((hN7.below (Below.refl B w7).drew).more hB7))
    clear hD7 hN7 HRef
    go_wp2_with fail
    have hT0 : (fun (b : Bool) (W : World) => b = false → DoW w7 mb T s k v nv w.heap.size W) false w7.drew := fun _ => HDd.out
    refine wp_region_D 12 (fun b W => b = false → DoW w7 mb T s k v nv w.heap.size W) (by kernel_rfl) ?_
    refine wpAnyD_pre (i := 0) [0, 11, 12] (v := .pointer (some ⟨mb, 0, none⟩)) (by rfl) rfl (by rfl) (by kernel_rfl) (by kernel_rfl) (by kernel_rfl) (by kernel_rfl) (by kernel_rfl) (fun c a w h => h) (Or.inl ⟨by rfl, ?_⟩) hT0 ?_
    · rintro W hW; go_simp
    simp only [Act.put, List.setIfInBounds_toArray]
    refine wpAnyD_pre (i := 1) [1, 2, 3, 10, 12] (v := .pointer (some ⟨mb, 0, none⟩)) (by rfl) rfl (by rfl) (by kernel_rfl) (by kernel_rfl) (by kernel_rfl) (by kernel_rfl) (by kernel_rfl) (fun c a w h => h) (Or.inl ⟨by rfl, ?_⟩) hT0 ?_
    · rintro W hW; go_simp
    simp only [Act.put]
    refine wpAnyD_pre (i := 2) [2, 3, 10, 12] (v := .pointer (some ⟨mb, 0, none⟩)) (by rfl) rfl (by rfl) (by kernel_rfl) (by kernel_rfl) (by kernel_rfl) (by kernel_rfl) (by kernel_rfl) (fun c a w h => h) (Or.inl ⟨by rfl, ?_⟩) hT0 ?_
    · rintro W hW; go_simp
    simp only [Act.put]
    refine wpAnyD_pre (i := 3) [3, 10, 12] (v := .agg #[.slice s.a0 T.l.length s.c0, .slice s.a1 T.yes.length s.c1, .slice s.a2 T.no.length s.c2, .bool T.all]) (by rfl) rfl (by rfl) (by kernel_rfl) (by kernel_rfl) (by kernel_rfl) (by kernel_rfl) (by kernel_rfl) (fun c a w h => h) (Or.inl ⟨by rfl, ?_⟩) hT0 ?_
    · rintro W hW
      obtain ⟨n0, n1, n2, n3, nl⟩ := (hW rfl).mcells
      go_simp
    simp only [Act.put]
    refine wpAnyD_pre (i := 4) [4, 5, 6, 7, 10, 12] (v := .pointer (some ⟨w.heap.size, 0, none⟩)) (by rfl) rfl (by rfl) (by kernel_rfl) (by kernel_rfl) (by kernel_rfl) (by kernel_rfl) (by kernel_rfl) (fun c a w h => h) (Or.inl ⟨by rfl, ?_⟩) hT0 ?_
    · rintro W hW; go_simp
    simp only [Act.put]
    refine wpAnyD_pre (i := 5) [5, 6, 7, 10, 12] (v := .int .u8 k) (by rfl) rfl (by rfl) (by kernel_rfl) (by kernel_rfl) (by kernel_rfl) (by kernel_rfl) (by kernel_rfl) (fun c a w h => h) (Or.inl ⟨by rfl, ?_⟩) hT0 ?_
    · rintro W hW
      obtain ⟨n0, n1, n2, n3, n4, n5, nl⟩ := (hW rfl).cells
      go_simp
    simp only [Act.put]
    refine wpAnyD_pre (i := 6) [6, 7, 10, 12] (v := .int .u8 3) (by rfl) rfl (by rfl) (by kernel_rfl) (by kernel_rfl) (by kernel_rfl) (by kernel_rfl) (by kernel_rfl) (fun c a w h => h) (Or.inl ⟨by rfl, ?_⟩) hT0 ?_
    · rintro W hW; go_simp
    simp only [Act.put]
    refine wpAnyD_pre (i := 7) [7, 10, 12] (v := .bool true) (by rfl) rfl (by rfl) (by kernel_rfl) (by kernel_rfl) (by kernel_rfl) (by kernel_rfl) (by kernel_rfl) (fun c a w h => h) (Or.inl ⟨by rfl, ?_⟩) hT0 ?_
    · rintro W hW; go_simp
    simp only [Act.put]
    refine wpAnyD_pre (i := 8) [8, 9, 10, 12] (v := .pointer (some ⟨w.heap.size, 5, none⟩)) (by rfl) rfl (by rfl) (by kernel_rfl) (by kernel_rfl) (by kernel_rfl) (by kernel_rfl) (by kernel_rfl) (fun c a w h => h) (Or.inl ⟨by rfl, ?_⟩) hT0 ?_
    · rintro W hW; go_simp
    simp only [Act.put]
    refine wpAnyD_pre (i := 9) [9, 10, 12] (v := nv) (by rfl) rfl (by rfl) (by kernel_rfl) (by kernel_rfl) (by kernel_rfl) (by kernel_rfl) (by kernel_rfl) (fun c a w h => h) (Or.inl ⟨by rfl, ?_⟩) hT0 ?_
    · rintro W hW
      obtain ⟨n0, n1, n2, n3, n4, n5, nl⟩ := (hW rfl).cells
      go_simp
    simp only [Act.put]
    clear hT0 a0 a1 a2 a3 a4 a5 al m0 m1 m2 m3 ml
    generalize w7.drew = wd at *
    refine wpAnyD_one (i := 10) (by kernel_rfl) rfl false (by rfl) (fun K hK => ?_)
    go_simp
    refine HCd.out.mono ?_
    rintro e w8 ⟨b1, d1, b2, d2, rfl, hy8, hn8, B8⟩
    have hD8 := HDd.out.on B8
    have HR8 : Hid (Rows3 w8 ({ Jp.exportA T true L with l := T.l } : Jp.T) ⟨s.a0, s.c0, b1, d1, b2, d2⟩) := Lib.hid ⟨hD8.rows.l, hy8, hn8⟩
    obtain ⟨m0, m1, m2, m3, ml⟩ := hD8.mcells
    have f0 := frozen_at hD8.m 0
    have f1 := frozen_at hD8.m 1
    have f2 := frozen_at hD8.m 2
    have f3 := frozen_at hD8.m 3
    have HD8 := Lib.hid hD8
    clear hD8 hy8 hn8
    dsimp only
    refine hK.out _ _ (fun _ => HD8.out) ?_
    clear hK K
    refine wpAnyD_one (i := 11) (by kernel_rfl) rfl false (by rfl) (fun K hK => ?_)
    go_simp
    refine hK.out _ _ (fun _ => HD8.out) ?_
    clear hK K
    refine wpAnyD_one (i := 12) (by kernel_rfl) rfl true (by rfl) (fun K hK => ?_)
    go_simp
    refine hK.out _ _ (fun h => by cases h) ?_
    clear hK K
    have hD9 : DoW w7 mb ({ Jp.exportA T true L with l := T.l } : Jp.T) ⟨s.a0, s.c0, b1, d1, b2, d2⟩ k v nv w.heap.size _ := HD8.out.turn HR8.out hnm
    refine wpAnyD_done (by kernel_rfl) ?_ _
    go_wp2_with fail
    go_ret
    obtain ⟨h1, h2⟩ := HFin.out _ hD9.kept
    refine ⟨rfl, ?_, ⟨_, hD9.m, hD9.rows⟩, h2⟩
    have hall := (export_keeps T true L).2
    rw [← hall] at h1
    exact h1

set_option maxHeartbeats 8000000 in
theorem do_exp_tw (w : World) {tb mb : Nat} {X : List Nat} {T : Jp.T} {M : List (Bs × Int)} {s : Sl} (k : Nat) (v : Jp.V) (nv : Value) (hT : Tab w tb X T.l M T.all) (hm : w.heap[mb]? = some (.cells (mC T s) TT (0, 0))) (hR : Rows3 w T s) (hF : Fit T v) (h5 : k % 5 = 3) (rt : Jp.rightA v = false) (isb : Bool) (is : (Jp.getA T.l v.n).isSome = isb) (L : List Bs) (B N : Nat) (hN : Rd w B nv (nC L)) (hBX : ∀ i ∈ X, B ≤ i) (hBm : B ≤ mb) (hBw : B ≤ w.heap.size) (hMN : M.length ≤ N) (hyN : T.yes.length ≤ N) (hnN : T.no.length ≤ N) (hLN : N + L.length ≤ 1000000) (hLs : ∀ x ∈ L, x.length ≤ 1000000) :
    Calls Try.prog 8 #[.pointer (some ⟨tb, 0, none⟩), .pointer (some ⟨mb, 0, none⟩), .agg #[.int .u8 k, .string (str v.n), .string (str v.x), .bool v.s, .int .i64 v.f, nv]] w (DPost w tb mb X ({ Jp.exportA T true L with l := T.l } : Jp.T) (exportM M true L)) := by
  have hrem := rem_is k 3 h5
  have hD := DoW.new k v nv hm hR
  obtain ⟨X0, hT0, hK0, hX0⟩ := hT.shrink
  have hmX : ∀ i ∈ X0, i ∉ [mb] := fun i hi h => hK0.box hm kTT (List.mem_singleton.1 h ▸ hi)
  have hTW := fun W (hW : Kept [mb] w W) => hT0.kept hW hmX
  have HKW := Lib.hid (fun W (hW : Kept [mb] w W) => hK0.kept hW hmX)
  have hnm : w.heap.size ≠ mb := by have := (Array.getElem?_eq_some_iff.1 hm).1; omega
  have HX0 := Lib.hid hX0
  obtain ⟨a0, a1, a2, a3, a4, a5, al⟩ := hD.cells
  have HD := Lib.hid hD
  have HTW := Lib.hid hTW
  have HF := Lib.hid hF
  have HM := Lib.hid hm
  have HRows := Lib.hid hR
  clear hT hT0 hK0 hX0 hmX hm hR hF h5 hD hTW
  have HOf := Lib.hid (fun W => Of_any W v)
  have HRi := Lib.hid (fun W => Right_any W v)
  rw [rt] at HRi
  obtain ⟨u, hu⟩ := gV_is (Jp.getA T.l v.n)
  rw [is] at hu
  have HGet := Lib.hid (fun W (hW : Rows3 W T s) => Get_any W 0 (.slice s.a0 T.l.length s.c0) (.slice s.a1 T.yes.length s.c1) (.slice s.a2 T.no.length s.c2) T.all T.l v.n hW.l (by have := HF.out.l; omega))
  rw [hu] at HGet
  clear hu
  have HP := Lib.hid (fun W (hW : Tab W tb X0 T.l M T.all) (hV : Rd W W.heap.size nv (nC L)) => PExport_any W hW true nv L hV N hMN hLN hLs)
  have HRef := Lib.hid (fun W (hW : Rows3 W T s) (hV : Rd W W.heap.size nv (nC L)) => Export_any W 0 (.slice s.a0 T.l.length s.c0) nv s.a1 s.a2 s.c1 s.c2 T true L N (Nat.zero_le _) hW.yes hW.no hV ⟨_, _, _, rfl⟩ hyN hnN hLN)
  have HBX := Lib.hid (fun i (hi : i ∈ X0) => hBX i (HX0.out i hi))
  unfold vA at HOf HRi HGet
  go_enter Try.func8, Try.ntmps8
  go_wp2_with fail
  refine (HOf.out _).mono ?_
  rintro e w1 ⟨rfl, B1⟩
  go_wp2_with fail
  refine (HRi.out _).mono ?_
  rintro e w2 ⟨rfl, B2⟩
  have hD2 := HD.out.on (B1.trans (B2.mono B1.size))
  clear HD B1 B2 a0 a1 a2 a3 a4 a5 al
  obtain ⟨a0, a1, a2, a3, a4, a5, al⟩ := hD2.cells
  obtain ⟨m0, m1, m2, m3, ml⟩ := hD2.mcells
  have HD2 := Lib.hid hD2
  clear hD2
  go_upto_region 2 with (fail)
  go_cut [9] (fun v9 wx => v9 = .bool isb ∧ Below w2.heap.size w2 wx)
  case first =>
    have HSX := Lib.hid (show ∀ W, Below w2.heap.size w2 W → W.cell? ⟨mb, 0, none⟩ = some (.slice s.a0 T.l.length s.c0) ∧ W.cell? ⟨mb, 1, none⟩ = some (.slice s.a1 T.yes.length s.c1) ∧ W.cell? ⟨mb, 2, none⟩ = some (.slice s.a2 T.no.length s.c2) ∧ W.cell? ⟨mb, 3, none⟩ = some (.bool T.all) ∧ W.cell? ⟨w.heap.size, 1, none⟩ = some (.string (str v.n)) from fun W hW => ⟨(HD2.out.on hW).mcells.1, (HD2.out.on hW).mcells.2.1, (HD2.out.on hW).mcells.2.2.1, (HD2.out.on hW).mcells.2.2.2.1, (HD2.out.on hW).cells.2.1⟩)
    have D0 : Below w2.heap.size w2 w2.drew := (Below.refl _ _).drew
    have DA0 := fun o => ((Below.refl w2.heap.size w2).alloc (Nat.le_refl _) o).drew
    go_region_held3 (fun W : World => W.cell? ⟨mb, 0, none⟩ = some (.slice s.a0 T.l.length s.c0) ∧ W.cell? ⟨mb, 1, none⟩ = some (.slice s.a1 T.yes.length s.c1) ∧ W.cell? ⟨mb, 2, none⟩ = some (.slice s.a2 T.no.length s.c2) ∧ W.cell? ⟨mb, 3, none⟩ = some (.bool T.all) ∧ W.cell? ⟨w.heap.size, 1, none⟩ = some (.string (str v.n)))
      ((refine HSX.out _ ?_; first | exact D0 | exact DA0 _ | exact D3 | exact D3.alloc D3.size _ | exact (((D3.setCell (Nat.le_refl _) _).setCell (Nat.le_refl _) _).setCell (Nat.le_refl _) _).setCell (Nat.le_refl _) _))
      (first
        | (go_at_call 14; refine (HGet.out _ (HD2.out.on D0).rows).mono ?_; rintro e w3 ⟨rfl, B3⟩; have D3 := D0.trans (B3.mono D0.size); have D4 := D3.alloc D3.size (.cells #[.string (str u.n), .string (str u.x), .bool u.s, .int .i64 u.f] VT))
        | (go_at_call 14; refine (HGet.out _ (HD2.out.on (DA0 _)).rows).mono ?_; rintro e w3 ⟨rfl, B3⟩; have D3 := (DA0 _).trans (B3.mono (DA0 _).size); obtain ⟨z0, z1, z2, z3, y0, y1, y2, y3, zl⟩ := zero_later B3; have D4 := (((D3.setCell (p := ⟨w2.heap.size, 0, none⟩) (Nat.le_refl _) (.string (str u.n))).setCell (p := ⟨w2.heap.size, 1, none⟩) (Nat.le_refl _) (.string (str u.x))).setCell (p := ⟨w2.heap.size, 2, none⟩) (Nat.le_refl _) (.bool u.s)).setCell (p := ⟨w2.heap.size, 3, none⟩) (Nat.le_refl _) (.int .i64 u.f)))
    all_goals go_wp2_with fail
    all_goals go_meet
    all_goals exact ⟨rfl, D4⟩
  case rest =>
    obtain ⟨rfl, B3⟩ := hcut
    have hD3 := HD2.out.on B3
    clear HD2 B3 a0 a1 a2 a3 a4 a5 al m0 m1 m2 m3 ml
    obtain ⟨a0, a1, a2, a3, a4, a5, al⟩ := hD3.cells
    obtain ⟨m0, m1, m2, m3, ml⟩ := hD3.mcells
    have HD3 := Lib.hid hD3
    clear hD3
    have hTc := HTW.out _ HD3.out.kept
    have hKc := HKW.out _ HD3.out.kept
    have hNc : Rd wc B nv (nC L) := hN.keep fun b o hb => HD3.out.kept.cell (p := ⟨b, o, none⟩) (by show b < _; omega) (by intro h; have := List.mem_singleton.1 h; have : b = mb := this; omega)
    have hBc : B ≤ wc.heap.size := Nat.le_trans hBw HD3.out.kept.size
    have HPc := Lib.hid (HP.out _ hTc (hNc.more hBc))
    clear HP HGet HRi HOf hTc m0 m1 m2 m3 ml
    go_wp2_with fail
    refine HPc.out.mono ?_
    rintro e w7 ⟨rfl, X7, hT7, hK7, hX7⟩
    have hD7 : DoW w7 mb T s k v nv w.heap.size w7 := ⟨box_kept HD3.out.a hKc kAT hK7, box_kept HD3.out.m hKc kTT hK7, HD3.out.rows.kept hKc hK7, Kept.refl _ _⟩
    have hN7 : Rd w7 B nv (nC L) := hNc.keep fun b o hb => hK7.cell (p := ⟨b, o, none⟩) (by show b < _; omega) (by intro h; have : B ≤ b := HBX.out _ h; omega)
    obtain ⟨X8, hT8, hK8, hX8⟩ := hT7.shrink
    have hm8 : ∀ i ∈ X8, i ∉ [mb] := fun i hi h => hK8.box hD7.m kTT (List.mem_singleton.1 h ▸ hi)
    have HFin := Lib.hid (show ∀ W, Kept [mb] w7 W → (∃ X', Tab W tb X' T.l (exportM M true L) (if L = [] then true else T.all) ∧ ∀ i ∈ X', i ∈ X ∨ w.heap.size ≤ i) ∧ Kept (mb :: X) w W from fun W hW => ⟨⟨X8, hT8.kept hW hm8, fun i hi => by
      rcases hX7 i (hX8 i hi) with h | h
      · exact .inl (HX0.out i h)
      · exact .inr (Nat.le_trans HD3.out.kept.size h)⟩, ((HD3.out.kept.mono fun i hi => by rw [List.mem_singleton.1 hi]; simp).trans (hK7.mono fun i hi => by simp [HX0.out i hi])).trans (hW.mono fun i hi => by rw [List.mem_singleton.1 hi]; simp)⟩)
    have hB7 : B ≤ w7.heap.size := Nat.le_trans hBc hK7.size
    clear a0 a1 a2 a3 a4 a5 al hT7 hT8 hK7 hK8 hX7 hX8 hm8 hKc hNc hBc HD3 HPc
    obtain ⟨a0, a1, a2, a3, a4, a5, al⟩ := hD7.cells
    obtain ⟨m0, m1, m2, m3, ml⟩ := hD7.mcells
    have HDd := Lib.hid (hD7.on (Below.refl _ w7).drew)
    have HCd := Lib.hid (HRef.out w7.drew HDd.out.rows ((hN7.below (Below.refl B w7).drew).more hB7))
    clear hD7 hN7 HRef
    go_wp2_with fail
    have hT0 : (fun (b : Bool) (W : World) => b = false → DoW w7 mb T s k v nv w.heap.size W) false w7.drew := fun _ => HDd.out
    refine wp_region_D 12 (fun b W => b = false → DoW w7 mb T s k v nv w.heap.size W) (by kernel_rfl) ?_
    refine wpAnyD_pre (i := 0) [0, 11, 12] (v := .pointer (some ⟨mb, 0, none⟩)) (by rfl) rfl (by rfl) (by kernel_rfl) (by kernel_rfl) (by kernel_rfl) (by kernel_rfl) (by kernel_rfl) (fun c a w h => h) (Or.inl ⟨by rfl, ?_⟩) hT0 ?_
    · rintro W hW; go_simp
    simp only [Act.put, List.setIfInBounds_toArray]
    refine wpAnyD_pre (i := 1) [1, 2, 3, 10, 12] (v := .pointer (some ⟨mb, 0, none⟩)) (by rfl) rfl (by rfl) (by kernel_rfl) (by kernel_rfl) (by kernel_rfl) (by kernel_rfl) (by kernel_rfl) (fun c a w h => h) (Or.inl ⟨by rfl, ?_⟩) hT0 ?_
    · rintro W hW; go_simp
    simp only [Act.put]
    refine wpAnyD_pre (i := 2) [2, 3, 10, 12] (v := .pointer (some ⟨mb, 0, none⟩)) (by rfl) rfl (by rfl) (by kernel_rfl) (by kernel_rfl) (by kernel_rfl) (by kernel_rfl) (by kernel_rfl) (fun c a w h => h) (Or.inl ⟨by rfl, ?_⟩) hT0 ?_
    · rintro W hW; go_simp
    simp only [Act.put]
    refine wpAnyD_pre (i := 3) [3, 10, 12] (v := .agg #[.slice s.a0 T.l.length s.c0, .slice s.a1 T.yes.length s.c1, .slice s.a2 T.no.length s.c2, .bool T.all]) (by rfl) rfl (by rfl) (by kernel_rfl) (by kernel_rfl) (by kernel_rfl) (by kernel_rfl) (by kernel_rfl) (fun c a w h => h) (Or.inl ⟨by rfl, ?_⟩) hT0 ?_
    · rintro W hW
      obtain ⟨n0, n1, n2, n3, nl⟩ := (hW rfl).mcells
      go_simp
    simp only [Act.put]
    refine wpAnyD_pre (i := 4) [4, 5, 6, 7, 10, 12] (v := .pointer (some ⟨w.heap.size, 0, none⟩)) (by rfl) rfl (by rfl) (by kernel_rfl) (by kernel_rfl) (by kernel_rfl) (by kernel_rfl) (by kernel_rfl) (fun c a w h => h) (Or.inl ⟨by rfl, ?_⟩) hT0 ?_
    · rintro W hW; go_simp
    simp only [Act.put]
    refine wpAnyD_pre (i := 5) [5, 6, 7, 10, 12] (v := .int .u8 k) (by rfl) rfl (by rfl) (by kernel_rfl) (by kernel_rfl) (by kernel_rfl) (by kernel_rfl) (by kernel_rfl) (fun c a w h => h) (Or.inl ⟨by rfl, ?_⟩) hT0 ?_
    · rintro W hW
      obtain ⟨n0, n1, n2, n3, n4, n5, nl⟩ := (hW rfl).cells
      go_simp
    simp only [Act.put]
    refine wpAnyD_pre (i := 6) [6, 7, 10, 12] (v := .int .u8 3) (by rfl) rfl (by rfl) (by kernel_rfl) (by kernel_rfl) (by kernel_rfl) (by kernel_rfl) (by kernel_rfl) (fun c a w h => h) (Or.inl ⟨by rfl, ?_⟩) hT0 ?_
    · rintro W hW; go_simp
    simp only [Act.put]
    refine wpAnyD_pre (i := 7) [7, 10, 12] (v := .bool true) (by rfl) rfl (by rfl) (by kernel_rfl) (by kernel_rfl) (by kernel_rfl) (by kernel_rfl) (by kernel_rfl) (fun c a w h => h) (Or.inl ⟨by rfl, ?_⟩) hT0 ?_
    · rintro W hW; go_simp
    simp only [Act.put]
    refine wpAnyD_pre (i := 8) [8, 9, 10, 12] (v := .pointer (some ⟨w.heap.size, 5, none⟩)) (by rfl) rfl (by rfl) (by kernel_rfl) (by kernel_rfl) (by kernel_rfl) (by kernel_rfl) (by kernel_rfl) (fun c a w h => h) (Or.inl ⟨by rfl, ?_⟩) hT0 ?_
    · rintro W hW; go_simp
    simp only [Act.put]
    refine wpAnyD_pre (i := 9) [9, 10, 12] (v := nv) (by rfl) rfl (by rfl) (by kernel_rfl) (by kernel_rfl) (by kernel_rfl) (by kernel_rfl) (by kernel_rfl) (fun c a w h => h) (Or.inl ⟨by rfl, ?_⟩) hT0 ?_
    · rintro W hW
      obtain ⟨n0, n1, n2, n3, n4, n5, nl⟩ := (hW rfl).cells
      go_simp
    simp only [Act.put]
    clear hT0 a0 a1 a2 a3 a4 a5 al m0 m1 m2 m3 ml
    generalize w7.drew = wd at *
    refine wpAnyD_one (i := 10) (by kernel_rfl) rfl false (by rfl) (fun K hK => ?_)
    go_simp
    refine HCd.out.mono ?_
    rintro e w8 ⟨b1, d1, b2, d2, rfl, hy8, hn8, B8⟩
    have hD8 := HDd.out.on B8
    have HR8 : Hid (Rows3 w8 ({ Jp.exportA T true L with l := T.l } : Jp.T) ⟨s.a0, s.c0, b1, d1, b2, d2⟩) := Lib.hid ⟨hD8.rows.l, hy8, hn8⟩
    obtain ⟨m0, m1, m2, m3, ml⟩ := hD8.mcells
    have f0 := frozen_at hD8.m 0
    have f1 := frozen_at hD8.m 1
    have f2 := frozen_at hD8.m 2
    have f3 := frozen_at hD8.m 3
    have HD8 := Lib.hid hD8
    clear hD8 hy8 hn8
    dsimp only
    refine hK.out _ _ (fun _ => HD8.out) ?_
    clear hK K
    refine wpAnyD_one (i := 11) (by kernel_rfl) rfl false (by rfl) (fun K hK => ?_)
    go_simp
    refine hK.out _ _ (fun _ => HD8.out) ?_
    clear hK K
    refine wpAnyD_one (i := 12) (by kernel_rfl) rfl true (by rfl) (fun K hK => ?_)
    go_simp
    refine hK.out _ _ (fun h => by cases h) ?_
    clear hK K
    have hD9 : DoW w7 mb ({ Jp.exportA T true L with l := T.l } : Jp.T) ⟨s.a0, s.c0, b1, d1, b2, d2⟩ k v nv w.heap.size _ := HD8.out.turn HR8.out hnm
    refine wpAnyD_done (by kernel_rfl) ?_ _
    go_wp2_with fail
    go_ret
    obtain ⟨h1, h2⟩ := HFin.out _ hD9.kept
    refine ⟨rfl, ?_, ⟨_, hD9.m, hD9.rows⟩, h2⟩
    have hall := (export_keeps T true L).2
    rw [← hall] at h1
    exact h1

set_option maxHeartbeats 8000000 in
theorem do_exp_f (w : World) {tb mb : Nat} {X : List Nat} {T : Jp.T} {M : List (Bs × Int)} {s : Sl} (k : Nat) (v : Jp.V) (nv : Value) (hT : Tab w tb X T.l M T.all) (hm : w.heap[mb]? = some (.cells (mC T s) TT (0, 0))) (hR : Rows3 w T s) (hF : Fit T v) (h5 : k % 5 = 4) (rt : Jp.rightA v = true) (isb : Bool) (is : (Jp.getA T.l v.n).isSome = isb) (L : List Bs) (B N : Nat) (hN : Rd w B nv (nC L)) (hBX : ∀ i ∈ X, B ≤ i) (hBm : B ≤ mb) (hBw : B ≤ w.heap.size) (hMN : M.length ≤ N) (hyN : T.yes.length ≤ N) (hnN : T.no.length ≤ N) (hLN : N + L.length ≤ 1000000) (hLs : ∀ x ∈ L, x.length ≤ 1000000) :
    Calls Try.prog 8 #[.pointer (some ⟨tb, 0, none⟩), .pointer (some ⟨mb, 0, none⟩), .agg #[.int .u8 k, .string (str v.n), .string (str v.x), .bool v.s, .int .i64 v.f, nv]] w (DPost w tb mb X ({ Jp.exportA T false L with l := T.l } : Jp.T) (exportM M false L)) := by
  have hrem := rem_is k 4 h5
  have hD := DoW.new k v nv hm hR
  obtain ⟨X0, hT0, hK0, hX0⟩ := hT.shrink
  have hmX : ∀ i ∈ X0, i ∉ [mb] := fun i hi h => hK0.box hm kTT (List.mem_singleton.1 h ▸ hi)
  have hTW := fun W (hW : Kept [mb] w W) => hT0.kept hW hmX
  have HKW := Lib.hid (fun W (hW : Kept [mb] w W) => hK0.kept hW hmX)
  have hnm : w.heap.size ≠ mb := by have := (Array.getElem?_eq_some_iff.1 hm).1; omega
  have HX0 := Lib.hid hX0
  obtain ⟨a0, a1, a2, a3, a4, a5, al⟩ := hD.cells
  have HD := Lib.hid hD
  have HTW := Lib.hid hTW
  have HF := Lib.hid hF
  have HM := Lib.hid hm
  have HRows := Lib.hid hR
  clear hT hT0 hK0 hX0 hmX hm hR hF h5 hD hTW
  have HOf := Lib.hid (fun W => Of_any W v)
  have HRi := Lib.hid (fun W => Right_any W v)
  rw [rt] at HRi
  obtain ⟨u, hu⟩ := gV_is (Jp.getA T.l v.n)
  rw [is] at hu
  have HGet := Lib.hid (fun W (hW : Rows3 W T s) => Get_any W 0 (.slice s.a0 T.l.length s.c0) (.slice s.a1 T.yes.length s.c1) (.slice s.a2 T.no.length s.c2) T.all T.l v.n hW.l (by have := HF.out.l; omega))
  rw [hu] at HGet
  clear hu
  have HP := Lib.hid (fun W (hW : Tab W tb X0 T.l M T.all) (hV : Rd W W.heap.size nv (nC L)) => PExport_any W hW false nv L hV N hMN hLN hLs)
  have HRef := Lib.hid (fun W (hW : Rows3 W T s) (hV : Rd W W.heap.size nv (nC L)) => Export_any W 0 (.slice s.a0 T.l.length s.c0) nv s.a1 s.a2 s.c1 s.c2 T false L N (Nat.zero_le _) hW.yes hW.no hV ⟨_, _, _, rfl⟩ hyN hnN hLN)
  have HBX := Lib.hid (fun i (hi : i ∈ X0) => hBX i (HX0.out i hi))
  unfold vA at HOf HRi HGet
  go_enter Try.func8, Try.ntmps8
  go_wp2_with fail
  refine (HOf.out _).mono ?_
  rintro e w1 ⟨rfl, B1⟩
  go_wp2_with fail
  refine (HRi.out _).mono ?_
  rintro e w2 ⟨rfl, B2⟩
  have hD2 := HD.out.on (B1.trans (B2.mono B1.size))
  clear HD B1 B2 a0 a1 a2 a3 a4 a5 al
  obtain ⟨a0, a1, a2, a3, a4, a5, al⟩ := hD2.cells
  obtain ⟨m0, m1, m2, m3, ml⟩ := hD2.mcells
  have HD2 := Lib.hid hD2
  clear hD2
  go_upto_region 2 with (fail)
  go_cut [9] (fun v9 wx => v9 = .bool isb ∧ Below w2.heap.size w2 wx)
  case first =>
    have HSX := Lib.hid (show ∀ W, Below w2.heap.size w2 W → W.cell? ⟨mb, 0, none⟩ = some (.slice s.a0 T.l.length s.c0) ∧ W.cell? ⟨mb, 1, none⟩ = some (.slice s.a1 T.yes.length s.c1) ∧ W.cell? ⟨mb, 2, none⟩ = some (.slice s.a2 T.no.length s.c2) ∧ W.cell? ⟨mb, 3, none⟩ = some (.bool T.all) ∧ W.cell? ⟨w.heap.size, 1, none⟩ = some (.string (str v.n)) from fun W hW => ⟨(HD2.out.on hW).mcells.1, (HD2.out.on hW).mcells.2.1, (HD2.out.on hW).mcells.2.2.1, (HD2.out.on hW).mcells.2.2.2.1, (HD2.out.on hW).cells.2.1⟩)
    have D0 : Below w2.heap.size w2 w2.drew := (Below.refl _ _).drew
    have DA0 := fun o => ((Below.refl w2.heap.size w2).alloc (Nat.le_refl _) o).drew
    go_region_held3 (fun W : World => W.cell? ⟨mb, 0, none⟩ = some (.slice s.a0 T.l.length s.c0) ∧ W.cell? ⟨mb, 1, none⟩ = some (.slice s.a1 T.yes.length s.c1) ∧ W.cell? ⟨mb, 2, none⟩ = some (.slice s.a2 T.no.length s.c2) ∧ W.cell? ⟨mb, 3, none⟩ = some (.bool T.all) ∧ W.cell? ⟨w.heap.size, 1, none⟩ = some (.string (str v.n)))
      ((refine HSX.out _ ?_; first | exact D0 | exact DA0 _ | exact D3 | exact D3.alloc D3.size _ | exact (((D3.setCell (Nat.le_refl _) _).setCell (Nat.le_refl _) _).setCell (Nat.le_refl _) _).setCell (Nat.le_refl _) _))
      (first
        | (go_at_call 14; refine (HGet.out _ (HD2.out.on D0).rows).mono ?_; rintro e w3 ⟨rfl, B3⟩; have D3 := D0.trans (B3.mono D0.size); have D4 := D3.alloc D3.size (.cells #[.string (str u.n), .string (str u.x), .bool u.s, .int .i64 u.f] VT))
        | (go_at_call 14; refine (HGet.out _ (HD2.out.on (DA0 _)).rows).mono ?_; rintro e w3 ⟨rfl, B3⟩; have D3 := (DA0 _).trans (B3.mono (DA0 _).size); obtain ⟨z0, z1, z2, z3, y0, y1, y2, y3, zl⟩ := zero_later B3; have D4 := (((D3.setCell (p := ⟨w2.heap.size, 0, none⟩) (Nat.le_refl _) (.string (str u.n))).setCell (p := ⟨w2.heap.size, 1, none⟩) (Nat.le_refl _) (.string (str u.x))).setCell (p := ⟨w2.heap.size, 2, none⟩) (Nat.le_refl _) (.bool u.s)).setCell (p := ⟨w2.heap.size, 3, none⟩) (Nat.le_refl _) (.int .i64 u.f)))
    all_goals go_wp2_with fail
    all_goals go_meet
    all_goals exact ⟨rfl, D4⟩
  case rest =>
    obtain ⟨rfl, B3⟩ := hcut
    have hD3 := HD2.out.on B3
    clear HD2 B3 a0 a1 a2 a3 a4 a5 al m0 m1 m2 m3 ml
    obtain ⟨a0, a1, a2, a3, a4, a5, al⟩ := hD3.cells
    obtain ⟨m0, m1, m2, m3, ml⟩ := hD3.mcells
    have HD3 := Lib.hid hD3
    clear hD3
    have hTc := HTW.out _ HD3.out.kept
    have hKc := HKW.out _ HD3.out.kept
    have hNc : Rd wc B nv (nC L) := hN.keep fun b o hb => HD3.out.kept.cell (p := ⟨b, o, none⟩) (by show b < _; omega) (by intro h; have := List.mem_singleton.1 h; have : b = mb := this; omega)
    have hBc : B ≤ wc.heap.size := Nat.le_trans hBw HD3.out.kept.size
    have HPc := Lib.hid (HP.out _ hTc (hNc.more hBc))
    clear HP HGet HRi HOf hTc m0 m1 m2 m3 ml
    go_wp2_with fail
    refine HPc.out.mono ?_
    rintro e w7 ⟨rfl, X7, hT7, hK7, hX7⟩
    have hD7 : DoW w7 mb T s k v nv w.heap.size w7 := ⟨box_kept HD3.out.a hKc kAT hK7, box_kept HD3.out.m hKc kTT hK7, HD3.out.rows.kept hKc hK7, Kept.refl _ _⟩
    have hN7 : Rd w7 B nv (nC L) := hNc.keep fun b o hb => hK7.cell (p := ⟨b, o, none⟩) (by show b < _; omega) (by intro h; have : B ≤ b := HBX.out _ h; omega)
    obtain ⟨X8, hT8, hK8, hX8⟩ := hT7.shrink
    have hm8 : ∀ i ∈ X8, i ∉ [mb] := fun i hi h => hK8.box hD7.m kTT (List.mem_singleton.1 h ▸ hi)
    have HFin := Lib.hid (show ∀ W, Kept [mb] w7 W → (∃ X', Tab W tb X' T.l (exportM M false L) (if L = [] then false else T.all) ∧ ∀ i ∈ X', i ∈ X ∨ w.heap.size ≤ i) ∧ Kept (mb :: X) w W from fun W hW => ⟨⟨X8, hT8.kept hW hm8, fun i hi => by
      rcases hX7 i (hX8 i hi) with h | h
      · exact .inl (HX0.out i h)
      · exact .inr (Nat.le_trans HD3.out.kept.size h)⟩, ((HD3.out.kept.mono fun i hi => by rw [List.mem_singleton.1 hi]; simp).trans (hK7.mono fun i hi => by simp [HX0.out i hi])).trans (hW.mono fun i hi => by rw [List.mem_singleton.1 hi]; simp)⟩)
    have hB7 : B ≤ w7.heap.size := Nat.le_trans hBc hK7.size
    clear a0 a1 a2 a3 a4 a5 al hT7 hT8 hK7 hK8 hX7 hX8 hm8 hKc hNc hBc HD3 HPc
    obtain ⟨a0, a1, a2, a3, a4, a5, al⟩ := hD7.cells
    obtain ⟨m0, m1, m2, m3, ml⟩ := hD7.mcells
    have HDd := Lib.hid (hD7.on (Below.refl _ w7).drew)
    have HCd := Lib.hid (HRef.out w7.drew HDd.out.rows ((hN7.below (Below.refl B w7).drew).more hB7))
    clear hD7 hN7 HRef
    go_wp2_with fail
    have hT0 : (fun (b : Bool) (W : World) => b = false → DoW w7 mb T s k v nv w.heap.size W) false w7.drew := fun _ => HDd.out
    refine wp_region_D 12 (fun b W => b = false → DoW w7 mb T s k v nv w.heap.size W) (by kernel_rfl) ?_
    refine wpAnyD_pre (i := 0) [0, 11, 12] (v := .pointer (some ⟨mb, 0, none⟩)) (by rfl) rfl (by rfl) (by kernel_rfl) (by kernel_rfl) (by kernel_rfl) (by kernel_rfl) (by kernel_rfl) (fun c a w h => h) (Or.inl ⟨by rfl, ?_⟩) hT0 ?_
    · rintro W hW; go_simp
    simp only [Act.put, List.setIfInBounds_toArray]
    refine wpAnyD_pre (i := 1) [1, 2, 3, 10, 12] (v := .pointer (some ⟨mb, 0, none⟩)) (by rfl) rfl (by rfl) (by kernel_rfl) (by kernel_rfl) (by kernel_rfl) (by kernel_rfl) (by kernel_rfl) (fun c a w h => h) (Or.inl ⟨by rfl, ?_⟩) hT0 ?_
    · rintro W hW; go_simp
    simp only [Act.put]
    refine wpAnyD_pre (i := 2) [2, 3, 10, 12] (v := .pointer (some ⟨mb, 0, none⟩)) (by rfl) rfl (by rfl) (by kernel_rfl) (by kernel_rfl) (by kernel_rfl) (by kernel_rfl) (by kernel_rfl) (fun c a w h => h) (Or.inl ⟨by rfl, ?_⟩) hT0 ?_
    · rintro W hW; go_simp
    simp only [Act.put]
    refine wpAnyD_pre (i := 3) [3, 10, 12] (v := .agg #[.slice s.a0 T.l.length s.c0, .slice s.a1 T.yes.length s.c1, .slice s.a2 T.no.length s.c2, .bool T.all]) (by rfl) rfl (by rfl) (by kernel_rfl) (by kernel_rfl) (by kernel_rfl) (by kernel_rfl) (by kernel_rfl) (fun c a w h => h) (Or.inl ⟨by rfl, ?_⟩) hT0 ?_
    · rintro W hW
      obtain ⟨n0, n1, n2, n3, nl⟩ := (hW rfl).mcells
      go_simp
    simp only [Act.put]
    refine wpAnyD_pre (i := 4) [4, 5, 6, 7, 10, 12] (v := .pointer (some ⟨w.heap.size, 0, none⟩)) (by rfl) rfl (by rfl) (by kernel_rfl) (by kernel_rfl) (by kernel_rfl) (by kernel_rfl) (by kernel_rfl) (fun c a w h => h) (Or.inl ⟨by rfl, ?_⟩) hT0 ?_
    · rintro W hW; go_simp
    simp only [Act.put]
    refine wpAnyD_pre (i := 5) [5, 6, 7, 10, 12] (v := .int .u8 k) (by rfl) rfl (by rfl) (by kernel_rfl) (by kernel_rfl) (by kernel_rfl) (by kernel_rfl) (by kernel_rfl) (fun c a w h => h) (Or.inl ⟨by rfl, ?_⟩) hT0 ?_
    · rintro W hW
      obtain ⟨n0, n1, n2, n3, n4, n5, nl⟩ := (hW rfl).cells
      go_simp
    simp only [Act.put]
    refine wpAnyD_pre (i := 6) [6, 7, 10, 12] (v := .int .u8 4) (by rfl) rfl (by rfl) (by kernel_rfl) (by kernel_rfl) (by kernel_rfl) (by kernel_rfl) (by kernel_rfl) (fun c a w h => h) (Or.inl ⟨by rfl, ?_⟩) hT0 ?_
    · rintro W hW; go_simp
    simp only [Act.put]
    refine wpAnyD_pre (i := 7) [7, 10, 12] (v := .bool false) (by rfl) rfl (by rfl) (by kernel_rfl) (by kernel_rfl) (by kernel_rfl) (by kernel_rfl) (by kernel_rfl) (fun c a w h => h) (Or.inl ⟨by rfl, ?_⟩) hT0 ?_
    · rintro W hW; go_simp
    simp only [Act.put]
    refine wpAnyD_pre (i := 8) [8, 9, 10, 12] (v := .pointer (some ⟨w.heap.size, 5, none⟩)) (by rfl) rfl (by rfl) (by kernel_rfl) (by kernel_rfl) (by kernel_rfl) (by kernel_rfl) (by kernel_rfl) (fun c a w h => h) (Or.inl ⟨by rfl, ?_⟩) hT0 ?_
    · rintro W hW; go_simp
    simp only [Act.put]
    refine wpAnyD_pre (i := 9) [9, 10, 12] (v := nv) (by rfl) rfl (by rfl) (by kernel_rfl) (by kernel_rfl) (by kernel_rfl) (by kernel_rfl) (by kernel_rfl) (fun c a w h => h) (Or.inl ⟨by rfl, ?_⟩) hT0 ?_
    · rintro W hW
      obtain ⟨n0, n1, n2, n3, n4, n5, nl⟩ := (hW rfl).cells
      go_simp
    simp only [Act.put]
    clear hT0 a0 a1 a2 a3 a4 a5 al m0 m1 m2 m3 ml
    generalize w7.drew = wd at *
    refine wpAnyD_one (i := 10) (by kernel_rfl) rfl false (by rfl) (fun K hK => ?_)
    go_simp
    refine HCd.out.mono ?_
    rintro e w8 ⟨b1, d1, b2, d2, rfl, hy8, hn8, B8⟩
    have hD8 := HDd.out.on B8
    have HR8 : Hid (Rows3 w8 ({ Jp.exportA T false L with l := T.l } : Jp.T) ⟨s.a0, s.c0, b1, d1, b2, d2⟩) := Lib.hid ⟨hD8.rows.l, hy8, hn8⟩
    obtain ⟨m0, m1, m2, m3, ml⟩ := hD8.mcells
    have f0 := frozen_at hD8.m 0
    have f1 := frozen_at hD8.m 1
    have f2 := frozen_at hD8.m 2
    have f3 := frozen_at hD8.m 3
    have HD8 := Lib.hid hD8
    clear hD8 hy8 hn8
    dsimp only
    refine hK.out _ _ (fun _ => HD8.out) ?_
    clear hK K
    refine wpAnyD_one (i := 11) (by kernel_rfl) rfl false (by rfl) (fun K hK => ?_)
    go_simp
    refine hK.out _ _ (fun _ => HD8.out) ?_
    clear hK K
    refine wpAnyD_one (i := 12) (by kernel_rfl) rfl true (by rfl) (fun K hK => ?_)
    go_simp
    refine hK.out _ _ (fun h => by cases h) ?_
    clear hK K
    have hD9 : DoW w7 mb ({ Jp.exportA T false L with l := T.l } : Jp.T) ⟨s.a0, s.c0, b1, d1, b2, d2⟩ k v nv w.heap.size _ := HD8.out.turn HR8.out hnm
    refine wpAnyD_done (by kernel_rfl) ?_ _
    go_wp2_with fail
    go_ret
    obtain ⟨h1, h2⟩ := HFin.out _ hD9.kept
    refine ⟨rfl, ?_, ⟨_, hD9.m, hD9.rows⟩, h2⟩
    have hall := (export_keeps T false L).2
    rw [← hall] at h1
    exact h1

set_option maxHeartbeats 8000000 in
theorem do_exp_fw (w : World) {tb mb : Nat} {X : List Nat} {T : Jp.T} {M : List (Bs × Int)} {s : Sl} (k : Nat) (v : Jp.V) (nv : Value) (hT : Tab w tb X T.l M T.all) (hm : w.heap[mb]? = some (.cells (mC T s) TT (0, 0))) (hR : Rows3 w T s) (hF : Fit T v) (h5 : k % 5 = 4) (rt : Jp.rightA v = false) (isb : Bool) (is : (Jp.getA T.l v.n).isSome = isb) (L : List Bs) (B N : Nat) (hN : Rd w B nv (nC L)) (hBX : ∀ i ∈ X, B ≤ i) (hBm : B ≤ mb) (hBw : B ≤ w.heap.size) (hMN : M.length ≤ N) (hyN : T.yes.length ≤ N) (hnN : T.no.length ≤ N) (hLN : N + L.length ≤ 1000000) (hLs : ∀ x ∈ L, x.length ≤ 1000000) :
    Calls Try.prog 8 #[.pointer (some ⟨tb, 0, none⟩), .pointer (some ⟨mb, 0, none⟩), .agg #[.int .u8 k, .string (str v.n), .string (str v.x), .bool v.s, .int .i64 v.f, nv]] w (DPost w tb mb X ({ Jp.exportA T false L with l := T.l } : Jp.T) (exportM M false L)) := by
  have hrem := rem_is k 4 h5
  have hD := DoW.new k v nv hm hR
  obtain ⟨X0, hT0, hK0, hX0⟩ := hT.shrink
  have hmX : ∀ i ∈ X0, i ∉ [mb] := fun i hi h => hK0.box hm kTT (List.mem_singleton.1 h ▸ hi)
  have hTW := fun W (hW : Kept [mb] w W) => hT0.kept hW hmX
  have HKW := Lib.hid (fun W (hW : Kept [mb] w W) => hK0.kept hW hmX)
  have hnm : w.heap.size ≠ mb := by have := (Array.getElem?_eq_some_iff.1 hm).1; omega
  have HX0 := Lib.hid hX0
  obtain ⟨a0, a1, a2, a3, a4, a5, al⟩ := hD.cells
  have HD := Lib.hid hD
  have HTW := Lib.hid hTW
  have HF := Lib.hid hF
  have HM := Lib.hid hm
  have HRows := Lib.hid hR
  clear hT hT0 hK0 hX0 hmX hm hR hF h5 hD hTW
  have HOf := Lib.hid (fun W => Of_any W v)
  have HRi := Lib.hid (fun W => Right_any W v)
  rw [rt] at HRi
  obtain ⟨u, hu⟩ := gV_is (Jp.getA T.l v.n)
  rw [is] at hu
  have HGet := Lib.hid (fun W (hW : Rows3 W T s) => Get_any W 0 (.slice s.a0 T.l.length s.c0) (.slice s.a1 T.yes.length s.c1) (.slice s.a2 T.no.length s.c2) T.all T.l v.n hW.l (by have := HF.out.l; omega))
  rw [hu] at HGet
  clear hu
  have HP := Lib.hid (fun W (hW : Tab W tb X0 T.l M T.all) (hV : Rd W W.heap.size nv (nC L)) => PExport_any W hW false nv L hV N hMN hLN hLs)
  have HRef := Lib.hid (fun W (hW : Rows3 W T s) (hV : Rd W W.heap.size nv (nC L)) => Export_any W 0 (.slice s.a0 T.l.length s.c0) nv s.a1 s.a2 s.c1 s.c2 T false L N (Nat.zero_le _) hW.yes hW.no hV ⟨_, _, _, rfl⟩ hyN hnN hLN)
  have HBX := Lib.hid (fun i (hi : i ∈ X0) => hBX i (HX0.out i hi))
  unfold vA at HOf HRi HGet
  go_enter Try.func8, Try.ntmps8
  go_wp2_with fail
  refine (HOf.out _).mono ?_
  rintro e w1 ⟨rfl, B1⟩
  go_wp2_with fail
  refine (HRi.out _).mono ?_
  rintro e w2 ⟨rfl, B2⟩
  have hD2 := HD.out.on (B1.trans (B2.mono B1.size))
  clear HD B1 B2 a0 a1 a2 a3 a4 a5 al
  obtain ⟨a0, a1, a2, a3, a4, a5, al⟩ := hD2.cells
  obtain ⟨m0, m1, m2, m3, ml⟩ := hD2.mcells
  have HD2 := Lib.hid hD2
  clear hD2
  go_upto_region 2 with (fail)
  go_cut [9] (fun v9 wx => v9 = .bool isb ∧ Below w2.heap.size w2 wx)
  case first =>
    have HSX := Lib.hid (show ∀ W, Below w2.heap.size w2 W → W.cell? ⟨mb, 0, none⟩ = some (.slice s.a0 T.l.length s.c0) ∧ W.cell? ⟨mb, 1, none⟩ = some (.slice s.a1 T.yes.length s.c1) ∧ W.cell? ⟨mb, 2, none⟩ = some (.slice s.a2 T.no.length s.c2) ∧ W.cell? ⟨mb, 3, none⟩ = some (.bool T.all) ∧ W.cell? ⟨w.heap.size, 1, none⟩ = some (.string (str v.n)) from fun W hW => ⟨(HD2.out.on hW).mcells.1, (HD2.out.on hW).mcells.2.1, (HD2.out.on hW).mcells.2.2.1, (HD2.out.on hW).mcells.2.2.2.1, (HD2.out.on hW).cells.2.1⟩)
    have D0 : Below w2.heap.size w2 w2.drew := (Below.refl _ _).drew
    have DA0 := fun o => ((Below.refl w2.heap.size w2).alloc (Nat.le_refl _) o).drew
    go_region_held3 (fun W : World => W.cell? ⟨mb, 0, none⟩ = some (.slice s.a0 T.l.length s.c0) ∧ W.cell? ⟨mb, 1, none⟩ = some (.slice s.a1 T.yes.length s.c1) ∧ W.cell? ⟨mb, 2, none⟩ = some (.slice s.a2 T.no.length s.c2) ∧ W.cell? ⟨mb, 3, none⟩ = some (.bool T.all) ∧ W.cell? ⟨w.heap.size, 1, none⟩ = some (.string (str v.n)))
      ((refine HSX.out _ ?_; first | exact D0 | exact DA0 _ | exact D3 | exact D3.alloc D3.size _ | exact (((D3.setCell (Nat.le_refl _) _).setCell (Nat.le_refl _) _).setCell (Nat.le_refl _) _).setCell (Nat.le_refl _) _))
      (first
        | (go_at_call 14; refine (HGet.out _ (HD2.out.on D0).rows).mono ?_; rintro e w3 ⟨rfl, B3⟩; have D3 := D0.trans (B3.mono D0.size); have D4 := D3.alloc D3.size (.cells #[.string (str u.n), .string (str u.x), .bool u.s, .int .i64 u.f] VT))
        | (go_at_call 14; refine (HGet.out _ (HD2.out.on (DA0 _)).rows).mono ?_; rintro e w3 ⟨rfl, B3⟩; have D3 := (DA0 _).trans (B3.mono (DA0 _).size); obtain ⟨z0, z1, z2, z3, y0, y1, y2, y3, zl⟩ := zero_later B3; have D4 := (((D3.setCell (p := ⟨w2.heap.size, 0, none⟩) (Nat.le_refl _) (.string (str u.n))).setCell (p := ⟨w2.heap.size, 1, none⟩) (Nat.le_refl _) (.string (str u.x))).setCell (p := ⟨w2.heap.size, 2, none⟩) (Nat.le_refl _) (.bool u.s)).setCell (p := ⟨w2.heap.size, 3, none⟩) (Nat.le_refl _) (.int .i64 u.f)))
    all_goals go_wp2_with fail
    all_goals go_meet
    all_goals exact ⟨rfl, D4⟩
  case rest =>
    obtain ⟨rfl, B3⟩ := hcut
    have hD3 := HD2.out.on B3
    clear HD2 B3 a0 a1 a2 a3 a4 a5 al m0 m1 m2 m3 ml
    obtain ⟨a0, a1, a2, a3, a4, a5, al⟩ := hD3.cells
    obtain ⟨m0, m1, m2, m3, ml⟩ := hD3.mcells
    have HD3 := Lib.hid hD3
    clear hD3
    have hTc := HTW.out _ HD3.out.kept
    have hKc := HKW.out _ HD3.out.kept
    have hNc : Rd wc B nv (nC L) := hN.keep fun b o hb => HD3.out.kept.cell (p := ⟨b, o, none⟩) (by show b < _; omega) (by intro h; have := List.mem_singleton.1 h; have : b = mb := this; omega)
    have hBc : B ≤ wc.heap.size := Nat.le_trans hBw HD3.out.kept.size
    have HPc := Lib.hid (HP.out _ hTc (hNc.more hBc))
    clear HP HGet HRi HOf hTc m0 m1 m2 m3 ml
    go_wp2_with fail
    refine HPc.out.mono ?_
    rintro e w7 ⟨rfl, X7, hT7, hK7, hX7⟩
    have hD7 : DoW w7 mb T s k v nv w.heap.size w7 := ⟨box_kept HD3.out.a hKc kAT hK7, box_kept HD3.out.m hKc kTT hK7, HD3.out.rows.kept hKc hK7, Kept.refl _ _⟩
    have hN7 : Rd w7 B nv (nC L) := hNc.keep fun b o hb => hK7.cell (p := ⟨b, o, none⟩) (by show b < _; omega) (by intro h; have : B ≤ b := HBX.out _ h; omega)
    obtain ⟨X8, hT8, hK8, hX8⟩ := hT7.shrink
    have hm8 : ∀ i ∈ X8, i ∉ [mb] := fun i hi h => hK8.box hD7.m kTT (List.mem_singleton.1 h ▸ hi)
    have HFin := Lib.hid (show ∀ W, Kept [mb] w7 W → (∃ X', Tab W tb X' T.l (exportM M false L) (if L = [] then false else T.all) ∧ ∀ i ∈ X', i ∈ X ∨ w.heap.size ≤ i) ∧ Kept (mb :: X) w W from fun W hW => ⟨⟨X8, hT8.kept hW hm8, fun i hi => by
      rcases hX7 i (hX8 i hi) with h | h
      · exact .inl (HX0.out i h)
      · exact .inr (Nat.le_trans HD3.out.kept.size h)⟩, ((HD3.out.kept.mono fun i hi => by rw [List.mem_singleton.1 hi]; simp).trans (hK7.mono fun i hi => by simp [HX0.out i hi])).trans (hW.mono fun i hi => by rw [List.mem_singleton.1 hi]; simp)⟩)
    have hB7 : B ≤ w7.heap.size := Nat.le_trans hBc hK7.size
    clear a0 a1 a2 a3 a4 a5 al hT7 hT8 hK7 hK8 hX7 hX8 hm8 hKc hNc hBc HD3 HPc
    obtain ⟨a0, a1, a2, a3, a4, a5, al⟩ := hD7.cells
    obtain ⟨m0, m1, m2, m3, ml⟩ := hD7.mcells
    have HDd := Lib.hid (hD7.on (Below.refl _ w7).drew)
    have HCd := Lib.hid (HRef.out w7.drew HDd.out.rows ((hN7.below (Below.refl B w7).drew).more hB7))
    clear hD7 hN7 HRef
    go_wp2_with fail
    have hT0 : (fun (b : Bool) (W : World) => b = false → DoW w7 mb T s k v nv w.heap.size W) false w7.drew := fun _ => HDd.out
    refine wp_region_D 12 (fun b W => b = false → DoW w7 mb T s k v nv w.heap.size W) (by kernel_rfl) ?_
    refine wpAnyD_pre (i := 0) [0, 11, 12] (v := .pointer (some ⟨mb, 0, none⟩)) (by rfl) rfl (by rfl) (by kernel_rfl) (by kernel_rfl) (by kernel_rfl) (by kernel_rfl) (by kernel_rfl) (fun c a w h => h) (Or.inl ⟨by rfl, ?_⟩) hT0 ?_
    · rintro W hW; go_simp
    simp only [Act.put, List.setIfInBounds_toArray]
    refine wpAnyD_pre (i := 1) [1, 2, 3, 10, 12] (v := .pointer (some ⟨mb, 0, none⟩)) (by rfl) rfl (by rfl) (by kernel_rfl) (by kernel_rfl) (by kernel_rfl) (by kernel_rfl) (by kernel_rfl) (fun c a w h => h) (Or.inl ⟨by rfl, ?_⟩) hT0 ?_
    · rintro W hW; go_simp
    simp only [Act.put]
    refine wpAnyD_pre (i := 2) [2, 3, 10, 12] (v := .pointer (some ⟨mb, 0, none⟩)) (by rfl) rfl (by rfl) (by kernel_rfl) (by kernel_rfl) (by kernel_rfl) (by kernel_rfl) (by kernel_rfl) (fun c a w h => h) (Or.inl ⟨by rfl, ?_⟩) hT0 ?_
    · rintro W hW; go_simp
    simp only [Act.put]
    refine wpAnyD_pre (i := 3) [3, 10, 12] (v := .agg #[.slice s.a0 T.l.length s.c0, .slice s.a1 T.yes.length s.c1, .slice s.a2 T.no.length s.c2, .bool T.all]) (by rfl) rfl (by rfl) (by kernel_rfl) (by kernel_rfl) (by kernel_rfl) (by kernel_rfl) (by kernel_rfl) (fun c a w h => h) (Or.inl ⟨by rfl, ?_⟩) hT0 ?_
    · rintro W hW
      obtain ⟨n0, n1, n2, n3, nl⟩ := (hW rfl).mcells
      go_simp
    simp only [Act.put]
    refine wpAnyD_pre (i := 4) [4, 5, 6, 7, 10, 12] (v := .pointer (some ⟨w.heap.size, 0, none⟩)) (by rfl) rfl (by rfl) (by kernel_rfl) (by kernel_rfl) (by kernel_rfl) (by kernel_rfl) (by kernel_rfl) (fun c a w h => h) (Or.inl ⟨by rfl, ?_⟩) hT0 ?_
    · rintro W hW; go_simp
    simp only [Act.put]
    refine wpAnyD_pre (i := 5) [5, 6, 7, 10, 12] (v := .int .u8 k) (by rfl) rfl (by rfl) (by kernel_rfl) (by kernel_rfl) (by kernel_rfl) (by kernel_rfl) (by kernel_rfl) (fun c a w h => h) (Or.inl ⟨by rfl, ?_⟩) hT0 ?_
    · rintro W hW
      obtain ⟨n0, n1, n2, n3, n4, n5, nl⟩ := (hW rfl).cells
      go_simp
    simp only [Act.put]
    refine wpAnyD_pre (i := 6) [6, 7, 10, 12] (v := .int .u8 4) (by rfl) rfl (by rfl) (by kernel_rfl) (by kernel_rfl) (by kernel_rfl) (by kernel_rfl) (by kernel_rfl) (fun c a w h => h) (Or.inl ⟨by rfl, ?_⟩) hT0 ?_
    · rintro W hW; go_simp
    simp only [Act.put]
    refine wpAnyD_pre (i := 7) [7, 10, 12] (v := .bool false) (by rfl) rfl (by rfl) (by kernel_rfl) (by kernel_rfl) (by kernel_rfl) (by kernel_rfl) (by kernel_rfl) (fun c a w h => h) (Or.inl ⟨by rfl, ?_⟩) hT0 ?_
    · rintro W hW; go_simp
    simp only [Act.put]
    refine wpAnyD_pre (i := 8) [8, 9, 10, 12] (v := .pointer (some ⟨w.heap.size, 5, none⟩)) (by rfl) rfl (by rfl) (by kernel_rfl) (by kernel_rfl) (by kernel_rfl) (by kernel_rfl) (by kernel_rfl) (fun c a w h => h) (Or.inl ⟨by rfl, ?_⟩) hT0 ?_
    · rintro W hW; go_simp
    simp only [Act.put]
    refine wpAnyD_pre (i := 9) [9, 10, 12] (v := nv) (by rfl) rfl (by rfl) (by kernel_rfl) (by kernel_rfl) (by kernel_rfl) (by kernel_rfl) (by kernel_rfl) (fun c a w h => h) (Or.inl ⟨by rfl, ?_⟩) hT0 ?_
    · rintro W hW
      obtain ⟨n0, n1, n2, n3, n4, n5, nl⟩ := (hW rfl).cells
      go_simp
    simp only [Act.put]
    clear hT0 a0 a1 a2 a3 a4 a5 al m0 m1 m2 m3 ml
    generalize w7.drew = wd at *
    refine wpAnyD_one (i := 10) (by kernel_rfl) rfl false (by rfl) (fun K hK => ?_)
    go_simp
    refine HCd.out.mono ?_
    rintro e w8 ⟨b1, d1, b2, d2, rfl, hy8, hn8, B8⟩
    have hD8 := HDd.out.on B8
    have HR8 : Hid (Rows3 w8 ({ Jp.exportA T false L with l := T.l } : Jp.T) ⟨s.a0, s.c0, b1, d1, b2, d2⟩) := Lib.hid ⟨hD8.rows.l, hy8, hn8⟩
    obtain ⟨m0, m1, m2, m3, ml⟩ := hD8.mcells
    have f0 := frozen_at hD8.m 0
    have f1 := frozen_at hD8.m 1
    have f2 := frozen_at hD8.m 2
    have f3 := frozen_at hD8.m 3
    have HD8 := Lib.hid hD8
    clear hD8 hy8 hn8
    dsimp only
    refine hK.out _ _ (fun _ => HD8.out) ?_
    clear hK K
    refine wpAnyD_one (i := 11) (by kernel_rfl) rfl false (by rfl) (fun K hK => ?_)
    go_simp
    refine hK.out _ _ (fun _ => HD8.out) ?_
    clear hK K
    refine wpAnyD_one (i := 12) (by kernel_rfl) rfl true (by rfl) (fun K hK => ?_)
    go_simp
    refine hK.out _ _ (fun h => by cases h) ?_
    clear hK K
    have hD9 : DoW w7 mb ({ Jp.exportA T false L with l := T.l } : Jp.T) ⟨s.a0, s.c0, b1, d1, b2, d2⟩ k v nv w.heap.size _ := HD8.out.turn HR8.out hnm
    refine wpAnyD_done (by kernel_rfl) ?_ _
    go_wp2_with fail
    go_ret
    obtain ⟨h1, h2⟩ := HFin.out _ hD9.kept
    refine ⟨rfl, ?_, ⟨_, hD9.m, hD9.rows⟩, h2⟩
    have hall := (export_keeps T false L).2
    rw [← hall] at h1
    exact h1

end Go.Proofs.Ytfbddbcedoofeaa.Jw
