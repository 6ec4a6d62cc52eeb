/-
  The reference's Line: all commands of a line.
-/
import Derived.Test.YteommneijlelkaaGreatDoorQHRef15
import Derived.Test.YteommneijlelkaaGreatDoorQHLine
namespace Go.Proofs.YteommneijlelkaaGreatDoor.Hx
open Go.RowKit Go.Proofs.YteommneijlelkaaGreatDoor Go.Maps Go.Proofs.YteommneijlelkaaGreatDoor.Sw
set_option maxRecDepth 100000
section
variable {qb N : Nat}
/-- What a line leaves. -/
def RLinePost (w : World) (qb : Nat) (r : Hp.R) (e : Ending) (w' : World) : Prop :=
  e = .returned (.tuple #[]) ∧ (∃ v i o, RefAt w' qb v ⟨r.s, r.d, r.code, i, o⟩ r.status r.ran r.out) ∧ Kept [qb] w w'
/-- Where a line is. -/
def RLnRel (w0 : World) (qb : Nat) (r0 : Hp.R) (X : List Px.CV) (most : Int) (v6 : Value) (wr : World) : Prop :=
  ∃ (n m : Nat) (r : Hp.R) (i o : Bs) (v : Value), n ≤ X.length ∧ v6 = .int .i64 n ∧ RefAt wr qb v ⟨r.s, r.d, r.code, i, o⟩ r.status r.ran r.out ∧ Hp.Ok ⟨r.s, r.d, r.code, i, o⟩ m ∧ (r.out.length ≤ 3145728 ∧ (r.code = 0 → r.out.length ≤ 1048576)) ∧
    2 * (m + Hp.wL ((X.drop n).map (·.c))) + 3 ≤ 100000 ∧ r.ran ≤ n ∧ Hp.runA r0 (X.map (·.c)) most = Hp.runA r ((X.drop n).map (·.c)) most ∧ Kept [qb] w0 wr
theorem run_stop2 {r : Hp.R} {c : Pp.C} {l : List Pp.C} {most : Int} (h : r.code = 0) (hs : ¬ ((c.on = 2 ∧ r.status ≠ 0) ∨ (c.on = 3 ∧ r.status = 0))) (hm : (r.ran : Int) = most) : Hp.runA r (c :: l) most = Hp.runA ⟨r.s, r.d, 11, r.out, r.status, r.ran⟩ l most := by
  rw [run_stop h hs hm, run_end (by show (11 : Int) ≠ 0; decide)]

set_option maxHeartbeats 8000000 in
theorem rline_any (w : World) (s : St) (d : Bs) (m : Nat) (v vf : Value) (X : List Px.CV) (most : Int) (hR : RefAt w qb vf ⟨s, d, 0, [], []⟩ 0 0 []) (hF : Fine s) (hC : Closed s.L) (hd : d.length ≤ m) (hN : N ≤ w.heap.size) (hX : Px.Cs w (fun b => b < N ∧ b ≠ qb) v X) (hne : ∀ x ∈ X, x.c.ws ≠ [])
    (hm : 2 * (m + Hp.wL (X.map (·.c))) + 3 ≤ 100000) (hl : X.length ≤ 100000 ∧ ∀ x ∈ X, x.c.to.length ≤ 100000) :
    Calls Tryz.prog 12 #[.pointer (some ⟨qb, 0, none⟩), v, .int .i64 most] w (RLinePost w qb (Hp.lineA s d (X.map (·.c)) most)) := by
  obtain ⟨a, c, rfl, hc⟩ := hX.1.shape
  have hlt := hR.lt
  obtain ⟨c0, c1, c2, c3, c4, c5, c6, c7, c8⟩ := hR.cells
  have f3 := hR.frozen 3
  have HR0 := Lib.hid (hR.setSt 0)
  have HX := Lib.hid hX
  have HNE := Lib.hid hne
  have HL2 := Lib.hid hl.2
  have hl1 := hl.1
  have HK0 : Hid (Kept [qb] w (w.setCell ⟨qb, 3, none⟩ (.int .i64 0))) := Lib.hid (kept_set (.refl _ _) (by simp) _)
  have HOk0 : Hid (Hp.Ok ⟨s, d, 0, [], []⟩ m) := Lib.hid ⟨hF, hC, hd, Nat.zero_le _, Nat.zero_le _⟩
  clear hX hne hl hR hF hC
  go_enter Tryz.func12, Tryz.ntmps12
  go_wp2_with fail
  go_loopw [6] (fun v6 wr => RLnRel w qb ⟨s, d, 0, [], 0, 0⟩ X most v6 wr) (fun i _ => X.length - (intOf i).toNat)
  case atStart =>
    exact ⟨0, m, ⟨s, d, 0, [], 0, 0⟩, [], [], vf, Nat.zero_le _, rfl, HR0.out, HOk0.out, ⟨Nat.zero_le _, fun _ => Nat.zero_le _⟩, hm, Nat.le_refl _, rfl, HK0.out⟩
  case round =>
    clear c0 c1 c2 c3 c4 c5 c6 c7 c8 f3 HR0 HOk0
    obtain ⟨n, m', r, i, o, v1, hn, rfl, hRr, hOk, hout, hm', hrn, he, hK⟩ := hrel
    obtain ⟨c0, c1, c2, c3, c4, c5, c6, c7, c8⟩ := hRr.cells
    dsimp only at c6
    have f6 := hRr.frozen 6
    have f5 := hRr.frozen 5
    have hltr := hRr.lt
    have hNr : N ≤ wr.heap.size := Nat.le_trans hN hK.size
    by_cases hlt2 : n < X.length
    · have hki : (n : Int) < (X.length : Int) := by omega
      have hXr : Px.Cs wr (fun b => b < N ∧ b ≠ qb) (.slice a X.length c) X := HX.out.keep fun b hb => hK.block b (Nat.lt_of_lt_of_le hb.1 hN) (by simp [hb.2])
      by_cases hcode : r.code = 0
      · have hqc : (r.code == 0) = true := by simpa using hcode
        obtain ⟨b, oo, rfl, hcp, hp, hx⟩ := hXr.cells (by omega)
        obtain ⟨x0, x1, x2⟩ := hx n hlt2
        have hin := hXr.2 _ (List.getElem_mem hlt2)
        have hws := HNE.out _ (List.getElem_mem hlt2)
        have hto := HL2.out _ (List.getElem_mem hlt2)
        have hdr : (X.drop n).map (·.c) = X[n].c :: (X.drop (n + 1)).map (·.c) := by rw [List.drop_eq_getElem_cons hlt2]; rfl
        obtain ⟨⟨cc, vw, vt⟩, hy⟩ : ∃ y, X[n] = y := ⟨_, rfl⟩
        rw [hy] at x0 x1 x2 hin hws hdr hto
        dsimp only at x0 x1 x2 hws hdr hto
        rw [hdr] at he hm'
        rw [Hp.wL_cons] at hm'
        have HE := Lib.hid he
        have HK := Lib.hid hK
        have HR := Lib.hid hRr
        have HO := Lib.hid hOk
        have HOut := Lib.hid hout
        have HIN := Lib.hid hin
        have HWS := Lib.hid hws
        have HC := Lib.hid hcode
        have hci : (n : Int) < (c : Int) := by omega
        have hpb := hp.2
        clear hx hy hdr he hK hXr hin hws hRr hOk hout hcode hp
        by_cases o2 : cc.on = 2
        · by_cases s0 : r.status = 0
          · have q2 : ((cc.on : Int) == 2) = true := by rw [o2]; rfl
            have q3 : ((cc.on : Int) == 3) = false := by rw [beq_eq_false_iff_ne]; omega
            have qs : ((r.status : Int) == 0) = true := by rw [s0]; rfl
            have qn : ((r.status : Int) != 0) = false := by rw [s0]; rfl
            have hsk : ¬ ((cc.on = 2 ∧ r.status ≠ 0) ∨ (cc.on = 3 ∧ r.status = 0)) := by omega
            have he2 := HE.out
            try clear o2
            try clear o3
            try clear s0
            by_cases hmo : (r.ran : Int) = most
            · rw [run_stop2 HC.out hsk hmo] at he2
              have HE2 := Lib.hid he2
              have qm : ((r.ran : Int) == most) = true := by rw [beq_iff_eq]; exact hmo
              have HR2 := Lib.hid (HR.out.setCode 11)
              have HK2 := Lib.hid (kept_set (i := 6) HK.out (b := qb) (by simp) (.int .i64 11))
              have HO2 : Hid (Hp.Ok ⟨r.s, r.d, 11, i, o⟩ m') := Lib.hid ⟨HO.out.fine, HO.out.closed, HO.out.dir, HO.out.inp, HO.out.outp⟩
              clear he2 hsk hmo
              go_wp2_with fail
              go_roundw
              case rel => exact ⟨n + 1, m', ⟨r.s, r.d, 11, r.out, r.status, r.ran⟩, i, o, v1, hlt2, by go_num, HR2.out, HO2.out, ⟨HOut.out.1, fun h => absurd h (by show ¬ (11 : Int) = 0; decide)⟩, by show 2 * (m' + _) + 3 ≤ _; omega, by show r.ran ≤ n + 1; omega, HE2.out, HK2.out⟩
              case measure => simp [intOf]; omega
            · rw [run_go HC.out hsk hmo] at he2
              have qm : ((r.ran : Int) == most) = false := by rw [beq_eq_false_iff_ne]; exact hmo
              obtain ⟨y, ws, hcws⟩ : ∃ y ws, cc.ws = y :: ws := by
                cases h : cc.ws with
                | nil => exact absurd h HWS.out
                | cons y ws => exact ⟨y, ws, rfl⟩
              have hout := HOut.out.2 HC.out
              have hok2 := Hp.whole_ok (code := r.code) (m := m') HO.out.fine HO.out.closed HO.out.dir hout cc (by omega)
              have hR4 := HR.out.setRan ((r.ran : Int) + 1)
              have HK4 := Lib.hid (kept_set (i := 5) HK.out (b := qb) (by simp) (.int .i64 ((r.ran : Int) + 1)))
              have hin4 : Px.In (wr.setCell ⟨qb, 5, none⟩ (.int .i64 ((r.ran : Int) + 1))) (fun b => b < N ∧ b ≠ qb) ⟨cc, vw, vt⟩ := HIN.out.keep fun j hj => Below.heap_setCell _ _ _ _ hj.2
              have z0 := (World.cell?_of_block (w := wr) (a := ⟨b, oo + n * 3, none⟩) (Below.heap_setCell wr ⟨qb, 5, none⟩ (.int .i64 ((r.ran : Int) + 1)) b hpb)).trans x0
              have z1 := (World.cell?_of_block (w := wr) (a := ⟨b, oo + n * 3 + 1, none⟩) (Below.heap_setCell wr ⟨qb, 5, none⟩ (.int .i64 ((r.ran : Int) + 1)) b hpb)).trans x1
              have z2 := (World.cell?_of_block (w := wr) (a := ⟨b, oo + n * 3 + 2, none⟩) (Below.heap_setCell wr ⟨qb, 5, none⟩ (.int .i64 ((r.ran : Int) + 1)) b hpb)).trans x2
              have hN4 : N ≤ (wr.setCell ⟨qb, 5, none⟩ (.int .i64 ((r.ran : Int) + 1))).heap.size := by simpa [World.setCell] using hNr
              have HCall := Lib.hid (rwhole_any _ m' cc y ws vw vt hR4 HO.out hN4 hin4.1 hin4.2 hcws (by omega) hout hto)
              have hrc : (r.ran : Int) + 1 ≤ 200000 := by omega
              obtain ⟨⟨k5, out5, n5⟩, hq5⟩ : ∃ q, Hp.wholeA r.s r.d r.code r.out cc = q := ⟨_, rfl⟩
              have hst : Hp.stepR r cc = ⟨k5.s, k5.d, k5.code, out5, n5, r.ran + 1⟩ := by unfold Hp.stepR; rw [hq5]
              rw [hst] at he2
              dsimp only at HCall
              rw [hq5] at HCall hok2
              have HE2 := Lib.hid he2
              have HOk2 := Lib.hid hok2
              have hwc : Hp.wtL cc.ws ≤ Hp.wC cc := Nat.le_add_right _ _
              clear he2 hsk hmo hst hq5 hR4 hin4 hout hok2 hcws
              go_wp2_with fail
              generalize wr.setCell ⟨qb, 5, none⟩ (.int .i64 ((r.ran : Int) + 1)) = w4 at *
              refine HCall.out.mono ?_
              rintro e w5 ⟨rfl, ⟨v5, hR5⟩, K5⟩
              have f35 := hR5.frozen 3
              have d3 := hR5.cells.2.2.2.1
              have hlt5 := hR5.lt
              have HR5 := Lib.hid (hR5.setSt n5)
              have HK5 := Lib.hid (kept_set (i := 3) (HK4.out.trans K5) (b := qb) (by simp) (.int .i64 n5))
              clear hR5 K5
              go_wp2_with fail
              go_roundw
              case rel => exact ⟨n + 1, m' + Hp.wtL cc.ws, ⟨k5.s, k5.d, k5.code, out5, n5, r.ran + 1⟩, k5.inp, k5.outp, v5, hlt2, by go_num, HR5.out, HOk2.out.1, ⟨HOk2.out.2.2.1, HOk2.out.2.2.2⟩, by omega, by show r.ran + 1 ≤ n + 1; omega, HE2.out, HK5.out⟩
              case measure => simp [intOf]; omega
          · have q2 : ((cc.on : Int) == 2) = true := by rw [o2]; rfl
            have qs : ((r.status : Int) == 0) = false := by rw [beq_eq_false_iff_ne]; omega
            have qn : ((r.status : Int) != 0) = true := by rw [bne_iff_ne]; omega
            have hsk : (cc.on = 2 ∧ r.status ≠ 0) ∨ (cc.on = 3 ∧ r.status = 0) := by omega
            have he2 := HE.out
            rw [run_skip HC.out hsk] at he2
            have HE2 := Lib.hid he2
            clear he2 hsk
            go_wp2_with fail
            go_roundw
            case rel => exact ⟨n + 1, m', r, i, o, v1, hlt2, by go_num, HR.out, HO.out, HOut.out, by omega, by omega, HE2.out, HK.out⟩
            case measure => simp [intOf]; omega
        · by_cases o3 : cc.on = 3
          · by_cases s0 : r.status = 0
            · have q2 : ((cc.on : Int) == 2) = false := by rw [beq_eq_false_iff_ne]; omega
              have q3 : ((cc.on : Int) == 3) = true := by rw [o3]; rfl
              have qs : ((r.status : Int) == 0) = true := by rw [s0]; rfl
              have qn : ((r.status : Int) != 0) = false := by rw [s0]; rfl
              have hsk : (cc.on = 2 ∧ r.status ≠ 0) ∨ (cc.on = 3 ∧ r.status = 0) := by omega
              have he2 := HE.out
              rw [run_skip HC.out hsk] at he2
              have HE2 := Lib.hid he2
              clear he2 hsk
              go_wp2_with fail
              go_roundw
              case rel => exact ⟨n + 1, m', r, i, o, v1, hlt2, by go_num, HR.out, HO.out, HOut.out, by omega, by omega, HE2.out, HK.out⟩
              case measure => simp [intOf]; omega
            · have q2 : ((cc.on : Int) == 2) = false := by rw [beq_eq_false_iff_ne]; omega
              have q3 : ((cc.on : Int) == 3) = true := by rw [o3]; rfl
              have qs : ((r.status : Int) == 0) = false := by rw [beq_eq_false_iff_ne]; omega
              have qn : ((r.status : Int) != 0) = true := by rw [bne_iff_ne]; omega
              have hsk : ¬ ((cc.on = 2 ∧ r.status ≠ 0) ∨ (cc.on = 3 ∧ r.status = 0)) := by omega
              have he2 := HE.out
              try clear o2
              try clear o3
              try clear s0
              by_cases hmo : (r.ran : Int) = most
              · rw [run_stop2 HC.out hsk hmo] at he2
                have HE2 := Lib.hid he2
                have qm : ((r.ran : Int) == most) = true := by rw [beq_iff_eq]; exact hmo
                have HR2 := Lib.hid (HR.out.setCode 11)
                have HK2 := Lib.hid (kept_set (i := 6) HK.out (b := qb) (by simp) (.int .i64 11))
                have HO2 : Hid (Hp.Ok ⟨r.s, r.d, 11, i, o⟩ m') := Lib.hid ⟨HO.out.fine, HO.out.closed, HO.out.dir, HO.out.inp, HO.out.outp⟩
                clear he2 hsk hmo
                go_wp2_with fail
                go_roundw
                case rel => exact ⟨n + 1, m', ⟨r.s, r.d, 11, r.out, r.status, r.ran⟩, i, o, v1, hlt2, by go_num, HR2.out, HO2.out, ⟨HOut.out.1, fun h => absurd h (by show ¬ (11 : Int) = 0; decide)⟩, by show 2 * (m' + _) + 3 ≤ _; omega, by show r.ran ≤ n + 1; omega, HE2.out, HK2.out⟩
                case measure => simp [intOf]; omega
              · rw [run_go HC.out hsk hmo] at he2
                have qm : ((r.ran : Int) == most) = false := by rw [beq_eq_false_iff_ne]; exact hmo
                obtain ⟨y, ws, hcws⟩ : ∃ y ws, cc.ws = y :: ws := by
                  cases h : cc.ws with
                  | nil => exact absurd h HWS.out
                  | cons y ws => exact ⟨y, ws, rfl⟩
                have hout := HOut.out.2 HC.out
                have hok2 := Hp.whole_ok (code := r.code) (m := m') HO.out.fine HO.out.closed HO.out.dir hout cc (by omega)
                have hR4 := HR.out.setRan ((r.ran : Int) + 1)
                have HK4 := Lib.hid (kept_set (i := 5) HK.out (b := qb) (by simp) (.int .i64 ((r.ran : Int) + 1)))
                have hin4 : Px.In (wr.setCell ⟨qb, 5, none⟩ (.int .i64 ((r.ran : Int) + 1))) (fun b => b < N ∧ b ≠ qb) ⟨cc, vw, vt⟩ := HIN.out.keep fun j hj => Below.heap_setCell _ _ _ _ hj.2
                have z0 := (World.cell?_of_block (w := wr) (a := ⟨b, oo + n * 3, none⟩) (Below.heap_setCell wr ⟨qb, 5, none⟩ (.int .i64 ((r.ran : Int) + 1)) b hpb)).trans x0
                have z1 := (World.cell?_of_block (w := wr) (a := ⟨b, oo + n * 3 + 1, none⟩) (Below.heap_setCell wr ⟨qb, 5, none⟩ (.int .i64 ((r.ran : Int) + 1)) b hpb)).trans x1
                have z2 := (World.cell?_of_block (w := wr) (a := ⟨b, oo + n * 3 + 2, none⟩) (Below.heap_setCell wr ⟨qb, 5, none⟩ (.int .i64 ((r.ran : Int) + 1)) b hpb)).trans x2
                have hN4 : N ≤ (wr.setCell ⟨qb, 5, none⟩ (.int .i64 ((r.ran : Int) + 1))).heap.size := by simpa [World.setCell] using hNr
                have HCall := Lib.hid (rwhole_any _ m' cc y ws vw vt hR4 HO.out hN4 hin4.1 hin4.2 hcws (by omega) hout hto)
                have hrc : (r.ran : Int) + 1 ≤ 200000 := by omega
                obtain ⟨⟨k5, out5, n5⟩, hq5⟩ : ∃ q, Hp.wholeA r.s r.d r.code r.out cc = q := ⟨_, rfl⟩
                have hst : Hp.stepR r cc = ⟨k5.s, k5.d, k5.code, out5, n5, r.ran + 1⟩ := by unfold Hp.stepR; rw [hq5]
                rw [hst] at he2
                dsimp only at HCall
                rw [hq5] at HCall hok2
                have HE2 := Lib.hid he2
                have HOk2 := Lib.hid hok2
                have hwc : Hp.wtL cc.ws ≤ Hp.wC cc := Nat.le_add_right _ _
                clear he2 hsk hmo hst hq5 hR4 hin4 hout hok2 hcws
                go_wp2_with fail
                generalize wr.setCell ⟨qb, 5, none⟩ (.int .i64 ((r.ran : Int) + 1)) = w4 at *
                refine HCall.out.mono ?_
                rintro e w5 ⟨rfl, ⟨v5, hR5⟩, K5⟩
                have f35 := hR5.frozen 3
                have d3 := hR5.cells.2.2.2.1
                have hlt5 := hR5.lt
                have HR5 := Lib.hid (hR5.setSt n5)
                have HK5 := Lib.hid (kept_set (i := 3) (HK4.out.trans K5) (b := qb) (by simp) (.int .i64 n5))
                clear hR5 K5
                go_wp2_with fail
                go_roundw
                case rel => exact ⟨n + 1, m' + Hp.wtL cc.ws, ⟨k5.s, k5.d, k5.code, out5, n5, r.ran + 1⟩, k5.inp, k5.outp, v5, hlt2, by go_num, HR5.out, HOk2.out.1, ⟨HOk2.out.2.2.1, HOk2.out.2.2.2⟩, by omega, by show r.ran + 1 ≤ n + 1; omega, HE2.out, HK5.out⟩
                case measure => simp [intOf]; omega
          · have q2 : ((cc.on : Int) == 2) = false := by rw [beq_eq_false_iff_ne]; omega
            have q3 : ((cc.on : Int) == 3) = false := by rw [beq_eq_false_iff_ne]; omega
            have hsk : ¬ ((cc.on = 2 ∧ r.status ≠ 0) ∨ (cc.on = 3 ∧ r.status = 0)) := by omega
            have he2 := HE.out
            try clear o2
            try clear o3
            try clear s0
            by_cases hmo : (r.ran : Int) = most
            · rw [run_stop2 HC.out hsk hmo] at he2
              have HE2 := Lib.hid he2
              have qm : ((r.ran : Int) == most) = true := by rw [beq_iff_eq]; exact hmo
              have HR2 := Lib.hid (HR.out.setCode 11)
              have HK2 := Lib.hid (kept_set (i := 6) HK.out (b := qb) (by simp) (.int .i64 11))
              have HO2 : Hid (Hp.Ok ⟨r.s, r.d, 11, i, o⟩ m') := Lib.hid ⟨HO.out.fine, HO.out.closed, HO.out.dir, HO.out.inp, HO.out.outp⟩
              clear he2 hsk hmo
              go_wp2_with fail
              go_roundw
              case rel => exact ⟨n + 1, m', ⟨r.s, r.d, 11, r.out, r.status, r.ran⟩, i, o, v1, hlt2, by go_num, HR2.out, HO2.out, ⟨HOut.out.1, fun h => absurd h (by show ¬ (11 : Int) = 0; decide)⟩, by show 2 * (m' + _) + 3 ≤ _; omega, by show r.ran ≤ n + 1; omega, HE2.out, HK2.out⟩
              case measure => simp [intOf]; omega
            · rw [run_go HC.out hsk hmo] at he2
              have qm : ((r.ran : Int) == most) = false := by rw [beq_eq_false_iff_ne]; exact hmo
              obtain ⟨y, ws, hcws⟩ : ∃ y ws, cc.ws = y :: ws := by
                cases h : cc.ws with
                | nil => exact absurd h HWS.out
                | cons y ws => exact ⟨y, ws, rfl⟩
              have hout := HOut.out.2 HC.out
              have hok2 := Hp.whole_ok (code := r.code) (m := m') HO.out.fine HO.out.closed HO.out.dir hout cc (by omega)
              have hR4 := HR.out.setRan ((r.ran : Int) + 1)
              have HK4 := Lib.hid (kept_set (i := 5) HK.out (b := qb) (by simp) (.int .i64 ((r.ran : Int) + 1)))
              have hin4 : Px.In (wr.setCell ⟨qb, 5, none⟩ (.int .i64 ((r.ran : Int) + 1))) (fun b => b < N ∧ b ≠ qb) ⟨cc, vw, vt⟩ := HIN.out.keep fun j hj => Below.heap_setCell _ _ _ _ hj.2
              have z0 := (World.cell?_of_block (w := wr) (a := ⟨b, oo + n * 3, none⟩) (Below.heap_setCell wr ⟨qb, 5, none⟩ (.int .i64 ((r.ran : Int) + 1)) b hpb)).trans x0
              have z1 := (World.cell?_of_block (w := wr) (a := ⟨b, oo + n * 3 + 1, none⟩) (Below.heap_setCell wr ⟨qb, 5, none⟩ (.int .i64 ((r.ran : Int) + 1)) b hpb)).trans x1
              have z2 := (World.cell?_of_block (w := wr) (a := ⟨b, oo + n * 3 + 2, none⟩) (Below.heap_setCell wr ⟨qb, 5, none⟩ (.int .i64 ((r.ran : Int) + 1)) b hpb)).trans x2
              have hN4 : N ≤ (wr.setCell ⟨qb, 5, none⟩ (.int .i64 ((r.ran : Int) + 1))).heap.size := by simpa [World.setCell] using hNr
              have HCall := Lib.hid (rwhole_any _ m' cc y ws vw vt hR4 HO.out hN4 hin4.1 hin4.2 hcws (by omega) hout hto)
              have hrc : (r.ran : Int) + 1 ≤ 200000 := by omega
              obtain ⟨⟨k5, out5, n5⟩, hq5⟩ : ∃ q, Hp.wholeA r.s r.d r.code r.out cc = q := ⟨_, rfl⟩
              have hst : Hp.stepR r cc = ⟨k5.s, k5.d, k5.code, out5, n5, r.ran + 1⟩ := by unfold Hp.stepR; rw [hq5]
              rw [hst] at he2
              dsimp only at HCall
              rw [hq5] at HCall hok2
              have HE2 := Lib.hid he2
              have HOk2 := Lib.hid hok2
              have hwc : Hp.wtL cc.ws ≤ Hp.wC cc := Nat.le_add_right _ _
              clear he2 hsk hmo hst hq5 hR4 hin4 hout hok2 hcws
              go_wp2_with fail
              generalize wr.setCell ⟨qb, 5, none⟩ (.int .i64 ((r.ran : Int) + 1)) = w4 at *
              refine HCall.out.mono ?_
              rintro e w5 ⟨rfl, ⟨v5, hR5⟩, K5⟩
              have f35 := hR5.frozen 3
              have d3 := hR5.cells.2.2.2.1
              have hlt5 := hR5.lt
              have HR5 := Lib.hid (hR5.setSt n5)
              have HK5 := Lib.hid (kept_set (i := 3) (HK4.out.trans K5) (b := qb) (by simp) (.int .i64 n5))
              clear hR5 K5
              go_wp2_with fail
              go_roundw
              case rel => exact ⟨n + 1, m' + Hp.wtL cc.ws, ⟨k5.s, k5.d, k5.code, out5, n5, r.ran + 1⟩, k5.inp, k5.outp, v5, hlt2, by go_num, HR5.out, HOk2.out.1, ⟨HOk2.out.2.2.1, HOk2.out.2.2.2⟩, by omega, by show r.ran + 1 ≤ n + 1; omega, HE2.out, HK5.out⟩
              case measure => simp [intOf]; omega
      · have hqc : (r.code == 0) = false := by simpa using hcode
        have hqn : (r.code != 0) = true := by simpa using hcode
        have HE : Hid (Hp.lineA s d (X.map (·.c)) most = ⟨r.s, r.d, r.code, r.out, 1, r.ran⟩) := Lib.hid (by
          refine Eq.trans (b := Hp.runA ⟨s, d, 0, [], 0, 0⟩ (X.map (·.c)) most) rfl ?_
          rw [he, run_end hcode])
        have HR := Lib.hid (hRr.setSt 1)
        have HK := Lib.hid (kept_set (i := 3) hK (b := qb) (by simp) (.int .i64 1))
        have f3 := hRr.frozen 3
        clear hcode hRr hK he hOk hout hXr
        go_wp2_with fail
        go_end0
        rw [HE.out]
        exact ⟨rfl, ⟨_, _, _, HR.out⟩, HK.out⟩
    · obtain rfl : n = X.length := by omega
      rw [List.drop_length] at he
      by_cases hcode : r.code = 0
      · have hqn : (r.code != 0) = false := by simpa using hcode
        have HE : Hid (Hp.lineA s d (X.map (·.c)) most = r) := Lib.hid (by
          refine Eq.trans (b := Hp.runA ⟨s, d, 0, [], 0, 0⟩ (X.map (·.c)) most) rfl ?_
          rw [he]; exact run_nil hcode)
        have HR := Lib.hid hRr
        have HK := Lib.hid hK
        clear hcode hRr hK he hOk hout
        go_wp2_with fail
        go_end0
        rw [HE.out]
        exact ⟨rfl, ⟨_, _, _, HR.out⟩, HK.out⟩
      · have hqn : (r.code != 0) = true := by simpa using hcode
        have HE : Hid (Hp.lineA s d (X.map (·.c)) most = ⟨r.s, r.d, r.code, r.out, 1, r.ran⟩) := Lib.hid (by
          refine Eq.trans (b := Hp.runA ⟨s, d, 0, [], 0, 0⟩ (X.map (·.c)) most) rfl ?_
          rw [he]; exact run_end hcode)
        have HR := Lib.hid (hRr.setSt 1)
        have HK := Lib.hid (kept_set (i := 3) hK (b := qb) (by simp) (.int .i64 1))
        have f3 := hRr.frozen 3
        clear hcode hRr hK he hOk hout
        go_wp2_with fail
        go_end0
        rw [HE.out]
        exact ⟨rfl, ⟨_, _, _, HR.out⟩, HK.out⟩
end
end Go.Proofs.YteommneijlelkaaGreatDoor.Hx
