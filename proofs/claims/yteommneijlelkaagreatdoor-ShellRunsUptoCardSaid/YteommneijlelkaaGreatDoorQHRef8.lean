/-
  The reference's test, of one word, and of more than three.
-/
import Derived.Test.YteommneijlelkaaGreatDoorQHRef7
import Derived.Test.YteommneijlelkaaGreatDoorQHTest
namespace Go.Proofs.YteommneijlelkaaGreatDoor.Hx
open Go.RowKit Go.Proofs.YteommneijlelkaaGreatDoor Go.Maps Go.Proofs.YteommneijlelkaaGreatDoor.Sw
set_option maxRecDepth 100000
section
variable {qb N : Nat} {v x : Value} {k : Hp.K} {st ran : Int} {out : Bs} {l : List Bs}

theorem rtruth_is (b : Bool) (W : World) : Calls Tryz.prog 147 #[.bool b] W fun e w' => e = .returned (.int .i64 (Hp.truth b : Nat)) ∧ W = w' :=
  (rtruth_any W b).mono fun _ _ ⟨he, hw⟩ => ⟨by rw [he]; cases b <;> rfl, hw⟩
set_option maxHeartbeats 1000000 in
theorem rtest_one (w : World) (y : Bs) (hx : RWs w qb N x [y]) :
    Calls Tryz.prog 100 #[.pointer (some ⟨qb, 0, none⟩), x] w fun e w' => e = .returned (.int .i64 (Hp.testA k [y] : Nat)) ∧ Below w.heap.size w w' := by
  obtain ⟨a, c, rfl, hc⟩ := Px.Rg.shape hx
  obtain ⟨b, o, rfl, _, hb, hy⟩ := RWs.cell hx (by simp)
  have e0 : w.cell? ⟨b, o, none⟩ = some (.string (str y)) := hy 0 (by simp)
  have hc1 : 1 ≤ c := hc
  obtain ⟨g, hg⟩ : ∃ g, (y == []) = g := ⟨_, rfl⟩
  have q : ((str y).toList == []) = g := (str_eq y []).trans hg
  have HE : Hid (Hp.testA k [y] = Hp.truth (!g)) := Lib.hid (by rw [← hg]; cases y <;> rfl)
  clear hx hy hc hg
  cases g
  all_goals go_enter Tryz.func100, Tryz.ntmps100
  all_goals go_wp2_with (go_at_call 147; refine (rtruth_is _ _).mono ?_; rintro e w2 ⟨rfl, rfl⟩)
  all_goals go_ret
  all_goals rw [HE.out]
  all_goals exact ⟨rfl, Below.refl _ _⟩
set_option maxHeartbeats 2000000 in
theorem rtest_three (w : World) (y0 y1 y2 : Bs) (hx : RWs w qb N x [y0, y1, y2]) :
    Calls Tryz.prog 100 #[.pointer (some ⟨qb, 0, none⟩), x] w fun e w' => e = .returned (.int .i64 (Hp.testA k [y0, y1, y2] : Nat)) ∧ Below w.heap.size w w' := by
  obtain ⟨a, c, rfl, hc⟩ := Px.Rg.shape hx
  obtain ⟨b, o, rfl, _, hb, hy⟩ := RWs.cell hx (by simp)
  have e0 : w.cell? ⟨b, o, none⟩ = some (.string (str y0)) := hy 0 (by simp)
  have e1 : w.cell? ⟨b, o + 1, none⟩ = some (.string (str y1)) := hy 1 (by simp)
  have e2 : w.cell? ⟨b, o + 2, none⟩ = some (.string (str y2)) := hy 2 (by simp)
  have hc1 : 3 ≤ c := hc
  obtain ⟨g, hg⟩ : ∃ g, (y0 == y2) = g := ⟨_, rfl⟩
  have q : ((str y0).toList == (str y2).toList) = g := by rw [Lib.toList_data, Lib.toList_data]; exact hg
  have qn : ((str y0).toList != (str y2).toList) = !g := by rw [bne, q]
  obtain ⟨g1, hg1⟩ : ∃ g1, (y1 == [61]) = g1 := ⟨_, rfl⟩
  have q1 : ((str y1).toList == [61]) = g1 := (str_eq y1 _).trans hg1
  obtain ⟨g2, hg2⟩ : ∃ g2, (y1 == [33, 61]) = g2 := ⟨_, rfl⟩
  have q2 : ((str y1).toList == [33, 61]) = g2 := (str_eq y1 _).trans hg2
  have HE : Hid (Hp.testA k [y0, y1, y2] = if g1 = true then Hp.truth g else if g2 = true then Hp.truth (!g) else 2) := Lib.hid (by
    unfold Hp.testA
    simp only [← hg, ← hg1, ← hg2, beq_iff_eq])
  clear hx hy hc hg hg1 hg2
  cases g1 <;> cases g2 <;> cases g
  all_goals go_enter Tryz.func100, Tryz.ntmps100
  all_goals go_wp2_with fail
  all_goals try go_still_tail 7, (by kernel_rfl)
  all_goals first
    | (change wpList _ _ _ _ _ w.drew
       generalize hwd : w.drew = wd at *
       go_wp2_with (go_at_call 147; refine (rtruth_is _ _).mono ?_; rintro e w2 ⟨rfl, rfl⟩)
       go_ret
       rw [HE.out]
       exact ⟨rfl, by rw [← hwd]; exact (Below.refl _ _).drew⟩)
    | (go_ret
       rw [HE.out]
       exact ⟨rfl, Below.refl _ _⟩)
set_option maxHeartbeats 1000000 in
theorem rtest_else (w : World) (hx : RWs w qb N x l) (h1 : l.length ≠ 1) (h2 : l.length ≠ 2) (h3 : l.length ≠ 3) :
    Calls Tryz.prog 100 #[.pointer (some ⟨qb, 0, none⟩), x] w fun e w' => e = .returned (.int .i64 (Hp.testA k l : Nat)) ∧ Below w.heap.size w w' := by
  obtain ⟨a, c, rfl, hc⟩ := Px.Rg.shape hx
  have q1 : ((l.length : Int) == 1) = false := by rw [beq_eq_false_iff_ne]; omega
  have q2 : ((l.length : Int) != 2) = true := by simp; omega
  have q3 : ((l.length : Int) == 3) = false := by rw [beq_eq_false_iff_ne]; omega
  have HE : Hid (Hp.testA k l = 2) := Lib.hid (by
    match l, h1, h2, h3 with
    | [], _, _, _ => rfl
    | [_], h, _, _ => exact absurd rfl h
    | [_, _], _, h, _ => exact absurd rfl h
    | [_, _, _], _, _, h => exact absurd rfl h
    | _ :: _ :: _ :: _ :: _, _, _, _ => rfl)
  clear hx h1 h2 h3
  go_enter Tryz.func100, Tryz.ntmps100
  go_wp2_with fail
  go_ret
  exact ⟨by rw [HE.out]; rfl, Below.refl _ _⟩
set_option maxHeartbeats 4000000 in
theorem rtest_two (w : World) (hR : RefAt w qb v k st ran out) (hF : Fine k.s) (hd : k.d.length ≤ 100000) (y0 y1 : Bs) (hx : RWs w qb N x [y0, y1]) (hl : y1.length ≤ 100000) :
    Calls Tryz.prog 100 #[.pointer (some ⟨qb, 0, none⟩), x] w fun e w' => e = .returned (.int .i64 (Hp.testA k [y0, y1] : Nat)) ∧ Below w.heap.size w w' := by
  obtain ⟨a, c, rfl, hc⟩ := Px.Rg.shape hx
  obtain ⟨b, o, rfl, _, hb, hy⟩ := RWs.cell hx (by simp)
  have e0 : w.cell? ⟨b, o, none⟩ = some (.string (str y0)) := hy 0 (by simp)
  have e1 : w.cell? ⟨b, o + 1, none⟩ = some (.string (str y1)) := hy 1 (by simp)
  have hbw : b < w.heap.size := by have := World.block_lt_of_cell? _ _ e0; simpa using this
  have hc1 : 2 ≤ c := hc
  have hsy : (str y1).size ≤ 800000 := by rw [← bs_len, bs_str]; omega
  obtain ⟨va, vn, vc, rfl⟩ := hR.files.shape
  obtain ⟨q, hj⟩ : ∃ q, Hp.joinP k.d y1 = q := ⟨_, rfl⟩
  have HP := Lib.hid fun (W : World) (h : RefAt W qb (.slice va vn vc) k st ran out) => rpath_any W (str y1) q h hd hsy (Lib.hid (by rw [bs_str]; exact hj))
  obtain ⟨g, hg⟩ : ∃ g, getR k.s.L (q.getD []) = g := ⟨_, rfl⟩
  have HG := Lib.hid fun (W : World) (h : RFiles W (.slice va vn vc) k.s.L) => rget_any W (.slice va vn vc) k.s (str (q.getD [])) hF h g (Lib.hid (by rw [bs_str]; exact hg))
  obtain ⟨ok, hok⟩ : ∃ ok, q.isSome = ok := ⟨_, rfl⟩
  obtain ⟨is, his⟩ : ∃ is, g.isSome = is := ⟨_, rfl⟩
  obtain ⟨fp, ft, fc, fd, hf⟩ : ∃ fp ft fc fd, g.getD noF = ⟨fp, ft, fc, fd⟩ := ⟨_, _, _, _, rfl⟩
  obtain ⟨b1, hb1⟩ : ∃ b1, (y0 == [45, 101]) = b1 := ⟨_, rfl⟩
  obtain ⟨b2, hb2⟩ : ∃ b2, (y0 == [45, 102]) = b2 := ⟨_, rfl⟩
  obtain ⟨b3, hb3⟩ : ∃ b3, (y0 == [45, 100]) = b3 := ⟨_, rfl⟩
  have q1 : ((str y0).toList == [45, 101]) = b1 := (str_eq y0 _).trans hb1
  have q2 : ((str y0).toList == [45, 102]) = b2 := (str_eq y0 _).trans hb2
  have q3 : ((str y0).toList == [45, 100]) = b3 := (str_eq y0 _).trans hb3
  have n1 : ((str y0).toList != [45, 101]) = !b1 := by rw [bne, q1]
  have n2 : ((str y0).toList != [45, 102]) = !b2 := by rw [bne, q2]
  have n3 : ((str y0).toList != [45, 100]) = !b3 := by rw [bne, q3]
  have HE : Hid (Hp.testA k [y0, y1] = if (b1 || b2 || b3) = true then (if (ok && is) = true then Hp.truth (b1 || (b3 && fd) || (b2 && !fd)) else 1) else 2) := Lib.hid (by
    rw [← tp_is, hb1, hb2, hb3, hj]
    unfold tpA
    cases q with
    | none => subst hok; cases b1 <;> cases b2 <;> cases b3 <;> rfl
    | some p =>
      subst hok
      have hx23 : ¬ (b2 = true ∧ b3 = true) := fun h => by
        have h2 := beq_iff_eq.1 (hb2.trans h.1)
        have h3 := beq_iff_eq.1 (hb3.trans h.2)
        rw [h2] at h3; cases h3
      have hgp : getR k.s.L p = g := hg
      simp only [Option.bind_some, hgp]
      cases g with
      | none => subst his; cases b1 <;> cases b2 <;> cases b3 <;> first | rfl | exact absurd ⟨rfl, rfl⟩ hx23
      | some f =>
        subst his
        obtain rfl : f = ⟨fp, ft, fc, fd⟩ := hf
        cases b1 <;> cases b2 <;> cases b3 <;> cases fd <;> first | rfl | exact absurd ⟨rfl, rfl⟩ hx23)
  rw [hok] at HP
  rw [his, hf] at HG
  unfold fV at HG
  have HR := Lib.hid hR
  clear hR hx hy hc hj hg hok his hf hb1 hb2 hb3 hsy hl
  generalize q.getD [] = qp at *
  by_cases hall : (b1 || b2 || b3) = true
  · rw [if_pos hall] at HE
    cases b1 <;> cases b2 <;> cases b3
    case false.false.false => cases hall
    all_goals clear hall
    all_goals cases ok <;> cases is <;> cases fd
    all_goals go_enter Tryz.func100, Tryz.ntmps100
    all_goals go_wp2_with (first
      | (go_at_call 93; refine (HP.out _ HR.out).mono ?_; rintro e w1 ⟨rfl, B1⟩; have hR1 := HR.out.below B1; obtain ⟨c0, c1, c2, c3, c4, c5, c6, c7, c8⟩ := hR1.cells; have hlt1 := hR1.lt; have HF1 := Lib.hid hR1.files; have e01 := (B1.cell (p := ⟨b, o, none⟩) hbw).trans e0)
      | (go_at_call 10; refine (HG.out _ HF1.out).mono ?_; rintro e w2 ⟨rfl, B2⟩; have e02 := (B2.cell (p := ⟨b, o, none⟩) (Nat.lt_of_lt_of_le hbw B1.size)).trans e01; have BB := Lib.hid (B1.trans (B2.mono B1.size)); have hb2 : b < w2.heap.size := Nat.lt_of_lt_of_le hbw BB.out.size; have e03 : ∀ ob : Obj, (w2.alloc ob).cell? ⟨b, o, none⟩ = some (.string (str y0)) := fun ob => (((Below.refl w2.heap.size w2).alloc (Nat.le_refl _) ob).cell (p := ⟨b, o, none⟩) hb2).trans e02)
      | (go_at_call 147; refine (rtruth_is _ _).mono ?_; rintro e w3 ⟨rfl, rfl⟩))
    all_goals go_ret
    all_goals rw [HE.out]
    all_goals exact ⟨rfl, BB.out.alloc BB.out.size _⟩
  · rw [if_neg hall] at HE
    have hf1 : b1 = false := by cases b1 <;> simp_all
    have hf2 : b2 = false := by cases b2 <;> simp_all
    have hf3 : b3 = false := by cases b3 <;> simp_all
    subst hf1 hf2 hf3
    clear hall
    go_enter Tryz.func100, Tryz.ntmps100
    go_wp2_with fail
    go_ret
    exact ⟨by rw [HE.out]; rfl, Below.refl _ _⟩
end
end Go.Proofs.YteommneijlelkaaGreatDoor.Hx
