/-
  The reference's two: from, and to.
  The reference's moved.
  The reference's copied.
  The reference's cat.
-/
import Derived.Deep.RegionHeld3
import Derived.Test.YteommneijlelkaaGreatDoorQHRef3
import Derived.Test.YteommneijlelkaaGreatDoorQHTwo
import Derived.Test.YteommneijlelkaaGreatDoorQRefDirs
namespace Go.Proofs.YteommneijlelkaaGreatDoor.Hx
open Go.RowKit Go.Proofs.YteommneijlelkaaGreatDoor Go.Maps Go.Proofs.YteommneijlelkaaGreatDoor.Sw
set_option maxRecDepth 100000
section
variable {w w' : World} {qb N : Nat} {v x : Value} {k : Hp.K} {st ran : Int} {out : Bs} {l : List Bs}
theorem rpath_any (w : World) (s : ByteArray) (q : Option Bs) (hR : RefAt w qb v k st ran out) (hd : k.d.length ≤ 100000) (hs : s.size ≤ 800000) (h : Hid (Hp.joinP k.d (bs s) = q)) :
    Calls Tryz.prog 93 #[.pointer (some ⟨qb, 0, none⟩), .string s] w fun e w' => e = .returned (.tuple #[.string (str (q.getD [])), .bool q.isSome]) ∧ Below w.heap.size w w' := by
  cases q with
  | none => exact rpath_no w s hR hd hs h
  | some q => exact rpath_yes w s q hR hd hs h
set_option maxHeartbeats 2000000 in
theorem rtwo_any (w : World) (hR : RefAt w qb v k st ran out) (hF : Fine k.s) (hd : k.d.length ≤ 100000) (hx : RWs w qb N x l) (hN : N ≤ w.heap.size) (hl : ∀ y ∈ l, y.length ≤ 100000) (h8 : l.length ≤ 100000) :
    Calls Tryz.prog 142 #[.pointer (some ⟨qb, 0, none⟩), x] w (TwoPost w (Hp.twoA k l)) := by
  have hlt := hR.lt
  obtain ⟨a, c, rfl, hc⟩ := Px.Rg.shape hx
  have HR := Lib.hid hR
  by_cases h2 : l.length = 2
  · obtain ⟨x, y, rfl⟩ : ∃ x y, l = [x, y] := by rcases l with _ | ⟨x, _ | ⟨y, _ | ⟨z, r⟩⟩⟩ <;> simp at h2 ⊢
    obtain ⟨b, o, rfl, _, hb, hy⟩ := RWs.cell hx (by simp)
    have e0 : w.cell? ⟨b, o, none⟩ = some (.string (str x)) := hy 0 (by simp)
    have HY : Hid (∀ W, Below w.heap.size w W → W.cell? ⟨b, o + 1, none⟩ = some (.string (str y))) := Lib.hid fun W hB => (hB.cell (p := ⟨b, o + 1, none⟩) (Nat.lt_of_lt_of_le hb.1 hN)).trans (hy 1 (by simp))
    have hc1 : 2 ≤ c := hc
    have hxl := hl x (by simp)
    have hyl := hl y (by simp)
    have hsx : (str x).size ≤ 800000 := by rw [← bs_len, bs_str]; omega
    have hsy : (str y).size ≤ 800000 := by rw [← bs_len, bs_str]; omega
    obtain ⟨va, vn, vc, rfl⟩ := hR.files.shape
    clear hx hy h2 hc hR
    obtain ⟨q1, hj⟩ : ∃ q, Hp.joinP k.d x = q := ⟨_, rfl⟩
    obtain ⟨q2, hj2⟩ : ∃ q, Hp.joinP k.d y = q := ⟨_, rfl⟩
    have HJ : Hid (Hp.joinP k.d (bs (str x)) = q1) := Lib.hid hj
    have HJ2 : Hid (Hp.joinP k.d (bs (str y)) = q2) := Lib.hid hj2
    by_cases hno : q1.isSome = false ∨ q2.isSome = false
    · have HE : Hid (Hp.twoA k [x, y] = none) := Lib.hid (by
        unfold Hp.twoA
        simp only
        rw [hj, hj2]
        cases q1 with
        | none => rfl
        | some f => cases q2 with
          | none => rfl
          | some t => simp at hno)
      generalize hs1 : q1.isSome = ok1 at *
      generalize hs2 : q2.isSome = ok2 at *
      have P1 := Lib.hid (rpath_any w (str x) q1 HR.out hd hsx HJ)
      have P2 := Lib.hid fun (W : World) (hR : RefAt W qb (.slice va vn vc) k st ran out) => rpath_any W (str y) q2 hR hd hsy HJ2
      rw [hs1] at P1
      rw [hs2] at P2
      clear hj hj2 hs1 hs2
      generalize str (q1.getD []) = t1 at *
      generalize str (q2.getD []) = t2 at *
      cases ok1 <;> cases ok2
      case true.true => simp at hno
      all_goals
        clear hno
        go_enter Tryz.func142, Tryz.ntmps142
        go_wp2_with fail
        refine P1.out.mono ?_
        rintro e w1 ⟨rfl, B1⟩
        have hR1 := HR.out.below B1
        have e1 := HY.out _ B1
        have hlt1 := hR1.lt
        go_wp2_with fail
        refine (P2.out _ hR1).mono ?_
        rintro e w2 ⟨rfl, B2⟩
        go_wp2_with fail
        go_ret3
        rw [HE.out]
        exact ⟨⟨_, _, rfl⟩, B1.trans (B2.mono B1.size)⟩
    · obtain ⟨f, rfl⟩ : ∃ f, q1 = some f := by
        cases q1 with
        | none => exact absurd (.inl rfl) hno
        | some f => exact ⟨f, rfl⟩
      obtain ⟨t, rfl⟩ : ∃ t, q2 = some t := by
        cases q2 with
        | none => exact absurd (.inr rfl) hno
        | some t => exact ⟨t, rfl⟩
      have hfl := Hp.joinP_len hj
      have htl := Hp.joinP_len hj2
      have hbl : (baseL f).length ≤ f.length := Hp.base_len f
      have hfs : (str f).size ≤ 900000 := by rw [← bs_len, bs_str]; omega
      have hbs : (str (baseL f)).size ≤ 400000 := by rw [← bs_len, bs_str]; omega
      have hbb : lastOf (Pt.parts (bs (str f))) = baseL f := base_joined hj
      obtain ⟨g, hg⟩ : ∃ g, getR k.s.L t = g := ⟨_, rfl⟩
      have P1 := Lib.hid (rpath_yes w (str x) f HR.out hd hsx HJ)
      have P2 := Lib.hid fun (W : World) (hR : RefAt W qb (.slice va vn vc) k st ran out) => rpath_yes W (str y) t hR hd hsy HJ2
      have PG := Lib.hid fun (W : World) (h : RFiles W (.slice va vn vc) k.s.L) => rget_any W _ k.s (str t) hF h g (Lib.hid hg)
      have PB := Lib.hid fun (W : World) => show Calls Tryz.prog 189 #[.string (str f)] W fun e w' => e = .returned (.string (str (baseL f))) ∧ Below W.heap.size W w' from by
        have := RBase_any W (str f) hfs
        rwa [hbb] at this
      have htwo : Hp.twoA k [x, y] = if (g.map (·.d)).getD false = true then (Hp.joinP k.d (y ++ 47 :: baseL f)).map (f, ·) else some (f, t) := by
        unfold Hp.twoA
        simp only
        rw [hj, hj2]
        simp only
        rw [hg]
      by_cases hdir : (g.map (·.d)).getD false = true
      · rw [if_pos hdir] at htwo
        obtain ⟨gf, rfl⟩ : ∃ gf, g = some gf := by
          cases g with
          | none => simp at hdir
          | some gf => exact ⟨gf, rfl⟩
        obtain ⟨gp, gt, gc, gd⟩ := gf
        obtain rfl : gd = true := by simpa using hdir
        dsimp only [Option.getD, Option.isSome] at PG
        obtain ⟨q3, hj3⟩ : ∃ q, Hp.joinP k.d (y ++ 47 :: baseL f) = q := ⟨_, rfl⟩
        rw [hj3] at htwo
        have HE := Lib.hid htwo
        have P3 := Lib.hid fun (W : World) (hR : RefAt W qb (.slice va vn vc) k st ran out) (z : ByteArray) (hz : z = str y ++ ⟨#[47]⟩ ++ str (baseL f)) => show Calls Tryz.prog 93 #[.pointer (some ⟨qb, 0, none⟩), .string z] W fun e w' => e = .returned (.tuple #[.string (str (q3.getD [])), .bool q3.isSome]) ∧ Below W.heap.size W w' from by
          subst hz
          have hzz : bs (str y ++ ⟨#[47]⟩ ++ str (baseL f)) = y ++ 47 :: baseL f := by
            rw [show (⟨#[47]⟩ : ByteArray) = str [47] from rfl, str_app, str_app, bs_str]
            simp
          exact rpath_any W _ q3 hR hd (by rw [← bs_len, hzz]; simp; omega) (Lib.hid (by rw [hzz]; exact hj3))
        have hcat1 : ¬ 9223372036854775807 < (str y).size + 1 := by omega
        have hcat2 : ¬ 9223372036854775807 < (str y).size + 1 + (str (baseL f)).size := by omega
        clear hj hj2 hj3 hg htwo hdir hno hbb
        go_enter Tryz.func142, Tryz.ntmps142
        go_wp2_with fail
        refine P1.out.mono ?_
        rintro e w1 ⟨rfl, B1⟩
        have hR1 := HR.out.below B1
        have e1 := HY.out _ B1
        have hlt1 := hR1.lt
        go_wp2_with fail
        refine (P2.out _ hR1).mono ?_
        rintro e w2 ⟨rfl, B2⟩
        have hR2 := hR1.below B2
        obtain ⟨c0, c1, c2, c3, c4, c5, c6, c7, c8⟩ := hR2.cells
        have hlt2 := hR2.lt
        have HF2 := Lib.hid hR2.files
        go_wp2_with fail
        refine (PG.out _ HF2.out).mono ?_
        rintro e w3 ⟨rfl, B3⟩
        have BB := (B1.trans (B2.mono B1.size)).trans (B3.mono (Nat.le_trans B1.size B2.size))
        have HR3 := Lib.hid (hR2.below B3)
        unfold fV
        go_wp2_with fail
        have HB4 := BB.alloc (by have := BB.size; exact this) (.cells #[.string (str gp), .string (str gt), .int .i64 gc, .bool true] 44)
        have HR4 := HR3.out.below ((Below.refl _ _).alloc (Nat.le_refl _) (.cells #[.string (str gp), .string (str gt), .int .i64 gc, .bool true] 44))
        generalize w3.alloc (.cells #[.string (str gp), .string (str gt), .int .i64 gc, .bool true] 44) = w4 at *
        have HB5 : Below w.heap.size w w4.drew := HB4.trans ((Below.refl w4.heap.size w4).drew.mono HB4.size)
        have HR5 : RefAt w4.drew qb (.slice va vn vc) k st ran out := HR4.below (Below.refl w4.heap.size w4).drew
        have HS5 := HY.out _ HB5
        go_region_held3 (fun W => W.cell? ⟨b, o + 1, none⟩ = some (.string (str y)) ∧ Below w.heap.size w W ∧ RefAt W qb (.slice va vn vc) k st ran out)
          (first | exact ⟨HS5, HB5, HR5⟩ | exact ⟨HS6, HB6, HR6⟩ | exact ⟨HS7, HB7, HR7⟩)
          (first
            | (go_at_call 189; refine (PB.out _).mono ?_; rintro e w6 ⟨rfl, B6⟩; have HB6 := HB5.trans (B6.mono HB5.size); have HR6 := HR5.below B6; have HS6 := HY.out _ HB6)
            | (go_at_call 93; refine (P3.out _ HR6 _ rfl).mono ?_; rintro e w7 ⟨rfl, B7⟩; have HB7 := HB6.trans (B7.mono HB6.size); have HR7 := HR6.below B7; have HS7 := HY.out _ HB7))
        all_goals go_wp2_with fail
        all_goals go_ret3
        all_goals rw [HE.out]
        all_goals
          cases q3 with
          | none => exact ⟨⟨_, _, rfl⟩, HB7⟩
          | some q => exact ⟨rfl, HB7⟩
      · rw [if_neg hdir] at htwo
        have HE := Lib.hid htwo
        generalize hgd : g.getD noF = gf at *
        obtain ⟨gp, gt, gc, gd⟩ := gf
        generalize hgs : g.isSome = gs at *
        have hfacts : gs = false ∨ gd = false := by
          cases g with
          | none => exact .inl hgs.symm
          | some h => right; simp at hdir hgd; rw [hgd] at hdir; exact hdir
        clear hj hj2 hg htwo hdir hno hbb hgd hgs
        cases gs <;> cases gd
        case true.true => simp at hfacts
        all_goals
          clear hfacts
          go_enter Tryz.func142, Tryz.ntmps142
          go_wp2_with fail
          refine P1.out.mono ?_
          rintro e w1 ⟨rfl, B1⟩
          have hR1 := HR.out.below B1
          have e1 := HY.out _ B1
          have hlt1 := hR1.lt
          go_wp2_with fail
          refine (P2.out _ hR1).mono ?_
          rintro e w2 ⟨rfl, B2⟩
          have hR2 := hR1.below B2
          obtain ⟨c0, c1, c2, c3, c4, c5, c6, c7, c8⟩ := hR2.cells
          have hlt2 := hR2.lt
          have HF2 := Lib.hid hR2.files
          go_wp2_with fail
          refine (PG.out _ HF2.out).mono ?_
          rintro e w3 ⟨rfl, B3⟩
          have BB := (B1.trans (B2.mono B1.size)).trans (B3.mono (Nat.le_trans B1.size B2.size))
          unfold fV
          go_wp2_with fail
          go_ret3
          rw [HE.out]
          exact ⟨rfl, BB.alloc (by have := BB.size; exact this) _⟩
  · have q : ((l.length : Int) != 2) = true := by simp; omega
    have HE := Lib.hid (two_not (k := k) h2)
    clear hx hR h2
    go_enter Tryz.func142, Tryz.ntmps142
    go_wp2_with fail
    go_ret3
    rw [HE.out]
    exact ⟨⟨_, _, rfl⟩, .refl _ _⟩
end
end Go.Proofs.YteommneijlelkaaGreatDoor.Hx
namespace Go.Proofs.YteommneijlelkaaGreatDoor.Hx
open Go.RowKit Go.Proofs.YteommneijlelkaaGreatDoor Go.Maps Go.Proofs.YteommneijlelkaaGreatDoor.Sw
set_option maxRecDepth 100000
section
variable {w w' : World} {qb N : Nat} {v x : Value} {k : Hp.K} {st ran : Int} {out : Bs} {l : List Bs}
set_option maxHeartbeats 1000000 in
theorem rmoved_any (w : World) (hR : RefAt w qb v k st ran out) (hF : Fine k.s) (hC : Closed k.s.L) (hx : RWs w qb N x l) (hN : N ≤ w.heap.size) (hl : 2 * k.d.length + Hp.wtL l + 3 ≤ 100000) (h8 : l.length ≤ 100000) :
    Calls Tryz.prog 98 #[.pointer (some ⟨qb, 0, none⟩), x] w (RefPost w qb st ran out (Hp.mvA k l)) := by
  have hly : ∀ y ∈ l, y.length ≤ 100000 := fun y hy => by have := Hp.wtL_mem hy; omega
  have hT := rtwo_any w hR hF (by omega) hx hN hly h8
  have hlt := hR.lt
  obtain ⟨a, c, rfl, hc⟩ := Px.Rg.shape hx
  obtain ⟨va, vn, vc, rfl⟩ := hR.files.shape
  have HR := Lib.hid hR
  clear hx hR
  cases h2 : Hp.twoA k l with
  | none =>
    rw [h2] at hT
    have HE : Hid (Hp.mvA k l = (k, 1)) := Lib.hid (by unfold Hp.mvA; rw [h2])
    have HT := Lib.hid hT
    clear h2 hT
    go_enter Tryz.func98, Tryz.ntmps98
    go_wp2_with fail
    refine HT.out.mono ?_
    rintro e w1 ⟨⟨f, t, rfl⟩, B1⟩
    go_wp2_with fail
    go_ret
    rw [HE.out]
    exact ⟨rfl, ⟨_, HR.out.below B1⟩, .of_below B1⟩
  | some q =>
    obtain ⟨f, t⟩ := q
    obtain ⟨l1, l2⟩ := Hp.two_len h2
    rw [h2] at hT
    have HT := Lib.hid hT
    have hfs : (str f).size ≤ 100000 := by rw [← bs_len, bs_str]; omega
    have hts : (str t).size ≤ 100000 := by rw [← bs_len, bs_str]; omega
    have HRm := Lib.hid fun (W : World) (h : RFiles W (.slice va vn vc) k.s.L) => RMoveA_any W _ k.s (str f) (str t) hF hC hfs hts h
    rw [bs_str, bs_str] at HRm
    have hE : Hp.mvA k l = k.took (moveA k.s f t) := by unfold Hp.mvA; rw [h2]
    obtain ⟨⟨s2, cd⟩, hq⟩ : ∃ q, moveA k.s f t = q := ⟨_, rfl⟩
    rw [hq] at HRm hE
    have HE := Lib.hid hE
    clear h2 hT hE hq
    go_enter Tryz.func98, Tryz.ntmps98
    go_wp2_with fail
    refine HT.out.mono ?_
    rintro e w1 ⟨rfl, B1⟩
    have hR1 := HR.out.below B1
    obtain ⟨c0, c1, c2, c3, c4, c5, c6, c7, c8⟩ := hR1.cells
    have hlt1 := hR1.lt
    have HF1 := Lib.hid hR1.files
    have HR1 := Lib.hid hR1
    go_wp2_with fail
    refine (HRm.out _ HF1.out).mono ?_
    rintro e w2 ⟨u, rfl, hu, ho, B2⟩
    obtain ⟨ua, un, uc, rfl⟩ := hu.shape
    have B3 := B2.alloc (by have := B2.size; exact this) (.cells #[.slice ua un uc, .int .i64 s2.c] 34)
    have HU := Lib.hid (hu.below ((Below.refl _ _).alloc (Nat.le_refl _) (.cells #[.slice ua un uc, .int .i64 s2.c] 34)))
    have HO := Lib.hid ho
    clear hu ho
    dsimp only
    go_wp2_with fail
    refine (rtook_post _ _ _ (s2, cd) HR1.out B3 HU.out HO.out).mono ?_
    rintro e w4 ⟨rfl, hRt, hKt⟩
    have HRt := Lib.hid hRt
    clear hRt
    go_wp2_with fail
    go_ret
    rw [HE.out]
    exact ⟨rfl, ⟨_, HRt.out⟩, (Kept.of_below B1).trans hKt⟩
end
end Go.Proofs.YteommneijlelkaaGreatDoor.Hx
namespace Go.Proofs.YteommneijlelkaaGreatDoor.Hx
open Go.RowKit Go.Proofs.YteommneijlelkaaGreatDoor Go.Maps Go.Proofs.YteommneijlelkaaGreatDoor.Sw
set_option maxRecDepth 100000
section
variable {w w' : World} {qb N : Nat} {v x : Value} {k : Hp.K} {st ran : Int} {out : Bs} {l : List Bs}
set_option maxHeartbeats 1000000 in
theorem rcopied_any (w : World) (hR : RefAt w qb v k st ran out) (hF : Fine k.s) (hrd : ∀ p, (Hp.readP k p).1.length ≤ 1048576) (hx : RWs w qb N x l) (hN : N ≤ w.heap.size) (hl : 2 * k.d.length + Hp.wtL l + 3 ≤ 100000) (h8 : l.length ≤ 100000) :
    Calls Tryz.prog 97 #[.pointer (some ⟨qb, 0, none⟩), x] w (RefPost w qb st ran out (Hp.cpA k l)) := by
  have hly : ∀ y ∈ l, y.length ≤ 100000 := fun y hy => by have := Hp.wtL_mem hy; omega
  have hT := rtwo_any w hR hF (by omega) hx hN hly h8
  have hlt := hR.lt
  obtain ⟨a, c, rfl, hc⟩ := Px.Rg.shape hx
  obtain ⟨va, vn, vc, rfl⟩ := hR.files.shape
  have HR := Lib.hid hR
  clear hx hR
  cases h2 : Hp.twoA k l with
  | none =>
    rw [h2] at hT
    have HE : Hid (Hp.cpA k l = (k, 1)) := Lib.hid (by unfold Hp.cpA; rw [h2])
    have HT := Lib.hid hT
    clear h2 hT
    go_enter Tryz.func97, Tryz.ntmps97
    go_wp2_with fail
    refine HT.out.mono ?_
    rintro e w1 ⟨⟨f, t, rfl⟩, B1⟩
    go_wp2_with fail
    go_ret
    rw [HE.out]
    exact ⟨rfl, ⟨_, HR.out.below B1⟩, .of_below B1⟩
  | some q =>
    obtain ⟨f, t⟩ := q
    obtain ⟨l1, l2⟩ := Hp.two_len h2
    rw [h2] at hT
    have HT := Lib.hid hT
    by_cases hft : f = t
    · subst hft
      have q : ((str f).toList == (str f).toList) = true := by simp
      have HE : Hid (Hp.cpA k l = (k, 1)) := Lib.hid (by unfold Hp.cpA; rw [h2]; simp)
      clear h2 hT
      go_enter Tryz.func97, Tryz.ntmps97
      go_wp2_with fail
      refine HT.out.mono ?_
      rintro e w1 ⟨rfl, B1⟩
      go_wp2_with fail
      go_ret
      rw [HE.out]
      exact ⟨rfl, ⟨_, HR.out.below B1⟩, .of_below B1⟩
    · have q : ((str f).toList == (str t).toList) = false := by rw [Lib.toList_data, Lib.toList_data, beq_eq_false_iff_ne]; exact hft
      have hlL : k.s.L.length ≤ 100000 := by have := hF.len; omega
      have hts : (str t).size ≤ 900000 := by rw [← bs_len, bs_str]; omega
      obtain ⟨⟨tx, rc⟩, hrq⟩ : ∃ q, Hp.readP k f = q := ⟨_, rfl⟩
      have htx : (str tx).size ≤ 1048576 := by have := hrd f; rw [hrq] at this; rw [← bs_len, bs_str]; exact this
      have HRd := Lib.hid fun (W : World) (h : RFiles W (.slice va vn vc) k.s.L) => show Calls Tryz.prog 94 #[.agg #[.slice va vn vc, .int .i64 k.s.c], .string (str f)] W fun e w' => e = .returned (.tuple #[.string (str tx), .int .i64 rc]) ∧ Below W.heap.size W w' from by
        have h1 := RRead_any W (.slice va vn vc) k.s.c (str f) _ hlL h.files hF.sorted (Lib.hid rfl)
        rw [bs_str] at h1
        have h2 : readA (getR k.s.L f) = (tx, rc) := hrq
        rw [h2] at h1
        exact h1
      by_cases hrc : rc = 0
      · subst hrc
        have hE : Hp.cpA k l = k.took (writeA k.s t tx false) := by unfold Hp.cpA; rw [h2]; simp only; rw [if_neg hft, hrq]; simp
        have HRm := Lib.hid fun (W : World) (h : RFiles W (.slice va vn vc) k.s.L) => RWrite_any W _ k.s (str t) (str tx) false hF hts htx h
        rw [bs_str, bs_str] at HRm
        obtain ⟨⟨s2, cd⟩, hq⟩ : ∃ q, writeA k.s t tx false = q := ⟨_, rfl⟩
        rw [hq] at HRm hE
        have HE := Lib.hid hE
        clear h2 hT hE hq hrq hft
        go_enter Tryz.func97, Tryz.ntmps97
        go_wp2_with fail
        refine HT.out.mono ?_
        rintro e w1 ⟨rfl, B1⟩
        have hR1 := HR.out.below B1
        obtain ⟨c0, c1, c2, c3, c4, c5, c6, c7, c8⟩ := hR1.cells
        have hlt1 := hR1.lt
        have HF1 := Lib.hid hR1.files
        have HR1 := Lib.hid hR1
        dsimp only
        go_wp2_with fail
        refine (HRd.out _ HF1.out).mono ?_
        rintro e w2 ⟨rfl, B2⟩
        have hR2 := HR1.out.below B2
        obtain ⟨d0, d1, d2, d3, d4, d5, d6, d7, d8⟩ := hR2.cells
        have hlt2 := hR2.lt
        have HF2 := Lib.hid hR2.files
        have HR2 := Lib.hid hR2
        go_wp2_with fail
        refine (HRm.out _ HF2.out).mono ?_
        rintro e w3 ⟨u, rfl, hu, ho, B3⟩
        obtain ⟨ua, un, uc, rfl⟩ := hu.shape
        have B4 := B3.alloc (by have := B3.size; exact this) (.cells #[.slice ua un uc, .int .i64 s2.c] 34)
        have HU := Lib.hid (hu.below ((Below.refl _ _).alloc (Nat.le_refl _) (.cells #[.slice ua un uc, .int .i64 s2.c] 34)))
        have HO := Lib.hid ho
        clear hu ho
        dsimp only
        go_wp2_with fail
        refine (rtook_post _ _ _ (s2, cd) HR2.out B4 HU.out HO.out).mono ?_
        rintro e w4 ⟨rfl, hRt, hKt⟩
        have HRt := Lib.hid hRt
        clear hRt
        go_wp2_with fail
        go_ret
        rw [HE.out]
        exact ⟨rfl, ⟨_, HRt.out⟩, ((Kept.of_below B1).below B2).trans hKt⟩
      · have q0 : (rc != 0) = true := by simp [hrc]
        have HE : Hid (Hp.cpA k l = (k, 1)) := Lib.hid (by unfold Hp.cpA; rw [h2]; simp only; rw [if_neg hft, hrq]; simp [hrc])
        clear h2 hT hrq hft hrc
        go_enter Tryz.func97, Tryz.ntmps97
        go_wp2_with fail
        refine HT.out.mono ?_
        rintro e w1 ⟨rfl, B1⟩
        have hR1 := HR.out.below B1
        obtain ⟨c0, c1, c2, c3, c4, c5, c6, c7, c8⟩ := hR1.cells
        have hlt1 := hR1.lt
        have HF1 := Lib.hid hR1.files
        have HR1 := Lib.hid hR1
        dsimp only
        go_wp2_with fail
        refine (HRd.out _ HF1.out).mono ?_
        rintro e w2 ⟨rfl, B2⟩
        go_wp2_with fail
        go_ret
        rw [HE.out]
        exact ⟨rfl, ⟨_, HR1.out.below B2⟩, (Kept.of_below B1).below B2⟩
end
end Go.Proofs.YteommneijlelkaaGreatDoor.Hx
namespace Go.Proofs.YteommneijlelkaaGreatDoor.Hx
open Go.RowKit Go.Proofs.YteommneijlelkaaGreatDoor Go.Maps Go.Proofs.YteommneijlelkaaGreatDoor.Sw
set_option maxRecDepth 100000
section
variable {qb N : Nat} {v x : Value} {k : Hp.K} {st ran : Int} {out : Bs} {l : List Bs}

/-- Where cat stands. -/
def RCatRel (w : World) (qb : Nat) (v : Value) (k : Hp.K) (st ran : Int) (out : Bs) (l : List Bs) (R : Hp.K × Nat) (v5 v6 : Value) (wr : World) : Prop :=
  ∃ (i n : Nat) (k' : Hp.K), v5 = .int .i64 n ∧ v6 = .int .i64 i ∧ i ≤ l.length ∧ Hp.catA k' (l.drop i) n = R ∧ RefAt wr qb v k' st ran out ∧ k'.s = k.s ∧ k'.d = k.d ∧ Kept [qb] w wr ∧ k'.outp.length ≤ 2097152 ∧ (k'.code = 0 → k'.outp.length ≤ 1048576)

set_option maxHeartbeats 4000000 in
theorem rcat_any (w : World) (hR : RefAt w qb v k st ran out) (hF : Fine k.s) (hd : k.d.length ≤ 100000) (hN : N ≤ w.heap.size) (hx : RWs w qb N x l) (hl : ∀ y ∈ l, y.length ≤ 100000) (h8 : l.length ≤ 100000) (_hi : k.inp.length ≤ 1048576) (ho : k.outp.length ≤ 1048576) :
    Calls Tryz.prog 96 #[.pointer (some ⟨qb, 0, none⟩), x] w (RefPost w qb st ran out (Hp.cat k l)) := by
  have hlt := hR.lt
  obtain ⟨c0, c1, c2, c3, c4, c5, c6, c7, c8⟩ := hR.cells
  have f8 := hR.frozen 8
  obtain ⟨a, c, rfl, hc⟩ := Px.Rg.shape hx
  obtain ⟨va, vn, vc, rfl⟩ := hR.files.shape
  obtain ⟨R, hRes⟩ : ∃ R, Hp.cat k l = R := ⟨_, rfl⟩
  rw [hRes]
  have HR := Lib.hid hR
  have HX := Lib.hid hx
  have HJ := Lib.hid hN
  -- the loop, from any beginning
  have key : ∀ (W0 : World) (k0 : Hp.K), Hp.catA k0 l 0 = R → RefAt W0 qb (.slice va vn vc) k0 st ran out → k0.s = k.s → k0.d = k.d → Kept [qb] w W0 → k0.outp.length ≤ 1048576 → RCatRel w qb (.slice va vn vc) k st ran out l R (.int .i64 0) (.int .i64 0) W0 := fun W0 k0 h1 h2 h3 h4 h5 h6 =>
    ⟨0, 0, k0, rfl, rfl, Nat.zero_le _, by rw [List.drop_zero]; exact h1, h2, h3, h4, h5, by omega, fun _ => h6⟩
  have HKEY := Lib.hid key
  clear key
  by_cases hnil : l = []
  · subst hnil
    have hR' : Hid (RefAt (w.setCell ⟨qb, 8, none⟩ (.string (str k.inp))) qb (.slice va vn vc) ⟨k.s, k.d, k.code, k.inp, k.inp⟩ st ran out) := Lib.hid (hR.setOutp k.inp)
    have HE : Hid (R = (⟨k.s, k.d, k.code, k.inp, k.inp⟩, 0)) := Lib.hid (by rw [← hRes]; rfl)
    have HK : Hid (Kept [qb] w (w.setCell ⟨qb, 8, none⟩ (.string (str k.inp)))) := Lib.hid (kept_set (.refl _ _) (by simp) _)
    have e6 : (w.setCell ⟨qb, 8, none⟩ (.string (str k.inp))).cell? ⟨qb, 6, none⟩ = some (.int .i64 k.code) := hR'.out.cells.2.2.2.2.2.2.1
    clear hR hx hRes
    go_enter Tryz.func96, Tryz.ntmps96
    go_wp2_with fail
    go_loopw [5, 6] (fun v5 v6 wr => v5 = .int .i64 0 ∧ v6 = .int .i64 0 ∧ wr = w.setCell ⟨qb, 8, none⟩ (.string (str k.inp))) (fun _ _ _ => 0)
    case atStart => exact ⟨rfl, rfl, rfl⟩
    case round =>
      obtain ⟨rfl, rfl, rfl⟩ := hrel
      go_wp2_with fail
      go_ret
      rw [HE.out]
      exact ⟨rfl, ⟨_, hR'.out⟩, HK.out⟩
  · have hpos : 0 < l.length := List.length_pos_iff.2 hnil
    have q0 : ((l.length : Int) == 0) = false := by rw [beq_eq_false_iff_ne]; omega
    have HST : Hid (RCatRel w qb (.slice va vn vc) k st ran out l R (.int .i64 0) (.int .i64 0) w) := Lib.hid (HKEY.out w k (by rw [← hRes]; unfold Hp.cat; rw [if_neg hnil]) hR rfl rfl (.refl _ _) ho)
    clear hR hx hRes HKEY hnil
    go_enter Tryz.func96, Tryz.ntmps96
    go_wp2_with fail
    go_loopw [5, 6] (fun v5 v6 wr => RCatRel w qb (.slice va vn vc) k st ran out l R v5 v6 wr) (fun _ v6 _ => l.length - (intOf v6).toNat)
    case atStart => exact HST.out
    case round =>
      clear HST
      obtain ⟨i, n, k', rfl, rfl, hi', hcat, hR', hks, hkd, hK, hop, hop0⟩ := hrel
      obtain ⟨c0, c1, c2, c3, c4, c5, c6, c7, c8⟩ := hR'.cells
      have hlt' := hR'.lt
      by_cases hlt2 : i < l.length
      · have hki : (i : Int) < (l.length : Int) := by omega
        have hk0 : (0 : Int) ≤ (i : Int) := Int.natCast_nonneg _
        have hdrop : l.drop i = l[i] :: l.drop (i + 1) := List.drop_eq_getElem_cons hlt2
        rw [hdrop] at hcat
        by_cases hcode : k'.code = 0
        · have hq : (k'.code == 0) = true := by simpa using hcode
          have hX' := HX.out.kept hK HJ.out
          obtain ⟨b, o, rfl, _, hb, hy⟩ := RWs.cell hX' (by omega)
          have e0 : wr.cell? ⟨b, o + i, none⟩ = some (.string (str l[i])) := hy i hlt2
          have hsy : (str l[i]).size ≤ 800000 := by rw [← bs_len, bs_str]; have := hl l[i] (List.getElem_mem hlt2); omega
          have hci : (i : Int) < (c : Int) := by omega
          have hF' : Fine k'.s := by rw [hks]; exact hF
          have hd' : k'.d.length ≤ 100000 := by rw [hkd]; exact hd
          have hop1 := hop0 hcode
          generalize hyl : l[i] = y at *
          obtain ⟨q, hj⟩ : ∃ q, Hp.joinP k'.d y = q := ⟨_, rfl⟩
          have HP := Lib.hid fun (W : World) (h : RefAt W qb (.slice va vn vc) k' st ran out) => rpath_any W (str y) q h hd' hsy (Lib.hid (by rw [bs_str]; exact hj))
          obtain ⟨g, hg⟩ : ∃ g, getR k'.s.L (q.getD []) = g := ⟨_, rfl⟩
          have HRd := Lib.hid fun (W : World) (h : RFiles W (.slice va vn vc) k'.s.L) => RRead_any W (.slice va vn vc) k'.s.c (str (q.getD [])) g (by have := hF'.len; omega) h.files hF'.sorted (Lib.hid (by rw [bs_str]; exact hg))
          have htx : (readA g).1.length ≤ 1048576 := by
            cases g with
            | none => exact Nat.zero_le _
            | some f =>
              show (if f.d then (([] : List UInt8), (4 : Int)) else (f.t, 0)).1.length ≤ _
              split
              · exact Nat.zero_le _
              · rcases Hp.getR_mem hg with rfl | hm
                · exact Nat.zero_le _
                · exact hF'.text f hm
          obtain ⟨tx, ce, hrd⟩ : ∃ tx ce, readA g = (tx, ce) := ⟨_, _, rfl⟩
          rw [hrd] at HRd htx
          simp only at HRd htx
          have HR2 := Lib.hid hR'
          have HK2 := Lib.hid hK
          have hws := hK.size
          have HKS := Lib.hid (And.intro hks hkd)
          have HO : Hid (k'.outp.length ≤ 2097152 ∧ (k'.code = 0 → k'.outp.length ≤ 1048576)) := Lib.hid ⟨hop, hop0⟩
          cases q with
          | none =>
            dsimp only [Option.getD, Option.isSome] at HP HRd
            have HE : Hid (Hp.catA k' (l.drop (i + 1)) 1 = R) := Lib.hid (by rw [← hcat]; conv => rhs; unfold Hp.catA
                                                                             rw [if_neg (by simpa using hcode), hj])
            clear hcat hR' hK hF' hd' hj hg hrd hyl hdrop hop hop0 hop1 htx hcode hX' hy hb hsy hks hkd
            go_wp2_with fail
            refine (HP.out _ HR2.out).mono ?_
            rintro e w1 ⟨rfl, B1⟩
            have hR1 := HR2.out.below B1
            obtain ⟨d0, d1, d2, d3, d4, d5, d6, d7, d8⟩ := hR1.cells
            have hlt1 := hR1.lt
            have HR1 := Lib.hid hR1
            have HF1 := Lib.hid hR1.files
            clear hR1
            go_wp2_with fail
            refine (HRd.out _ HF1.out).mono ?_
            rintro e w2 ⟨rfl, B2⟩
            go_wp2_with fail
            go_roundw
            case rel => exact ⟨i + 1, 1, k', rfl, by go_num, hlt2, HE.out, HR1.out.below B2, HKS.out.1, HKS.out.2, (HK2.out.below B1).below B2, HO.out.1, HO.out.2⟩
            case measure => simp [intOf]; omega
          | some p =>
            dsimp only [Option.getD, Option.isSome] at HP HRd
            have hcatp : Hp.catA k' (y :: l.drop (i + 1)) n = if ce = 0 then Hp.catA ⟨k'.s, k'.d, if 1048576 < (k'.outp ++ tx).length then 12 else k'.code, k'.inp, k'.outp ++ tx⟩ (l.drop (i + 1)) n else Hp.catA k' (l.drop (i + 1)) 1 := by
              have hrp : Hp.readP k' p = (tx, ce) := by unfold Hp.readP; rw [show getR k'.s.L p = g from hg]; exact hrd
              conv => lhs; unfold Hp.catA
              rw [if_neg (by simpa using hcode), hj]
              simp only [hrp]
            rw [hcatp] at hcat
            have s1 : (str k'.outp).size = k'.outp.length := by rw [← bs_len, bs_str]
            have s2 : (str tx).size = tx.length := by rw [← bs_len, bs_str]
            have hS1 : (str k'.outp).size ≤ 1048576 := by omega
            have hS2 : (str tx).size ≤ 1048576 := by omega
            by_cases hce : ce = 0
            · subst hce
              rw [if_pos rfl] at hcat
              have HE := Lib.hid hcat
              have eapp : str k'.outp ++ str tx = str (k'.outp ++ tx) := str_app _ _
              have s3 : (str (k'.outp ++ tx)).size = (k'.outp ++ tx).length := by rw [← bs_len, bs_str]
              have HEA := Lib.hid eapp
              have hlen : (k'.outp ++ tx).length ≤ 2097152 := by rw [List.length_append]; omega
              have HLN := Lib.hid hlen
              have hsum : (str k'.outp ++ str tx).size = (str k'.outp).size + (str tx).size := ByteArray.size_append
              have HC0 := Lib.hid hcode
              by_cases hbig : 1048576 < (k'.outp ++ tx).length
              · rw [if_pos hbig] at HE
                have hqb : (1048576 : Int) < ((str k'.outp).size : Int) + ((str tx).size : Int) := by rw [List.length_append] at hbig; omega
                clear hcat hcatp hR' hK hF' hd' hj hg hrd hyl hdrop hop hop0 hop1 htx hcode hX' hy hb hsy hks hkd s1 s2 eapp s3 hlen hsum hbig
                go_wp2_with fail
                refine (HP.out _ HR2.out).mono ?_
                rintro e w1 ⟨rfl, B1⟩
                have hR1 := HR2.out.below B1
                obtain ⟨d0, d1, d2, d3, d4, d5, d6, d7, d8⟩ := hR1.cells
                have hlt1 := hR1.lt
                have HR1 := Lib.hid hR1
                have HF1 := Lib.hid hR1.files
                clear hR1
                go_wp2_with fail
                refine (HRd.out _ HF1.out).mono ?_
                rintro e w2 ⟨rfl, B2⟩
                have hR2 := HR1.out.below B2
                obtain ⟨g0, g1, g2, g3, g4, g5, g6, g7, g8⟩ := hR2.cells
                have f8 := hR2.frozen 8
                have f6 := hR2.frozen 6
                have HRR := Lib.hid hR2
                clear hR2
                go_wp2_with fail
                go_roundw
                case rel =>
                  rw [HEA.out]
                  exact ⟨i + 1, n, _, rfl, by go_num, hlt2, HE.out, (HRR.out.setOutp (k'.outp ++ tx)).setCode 12, HKS.out.1, HKS.out.2, kept_set (kept_set ((HK2.out.below B1).below B2) (by simp) _) (by simp) _, HLN.out, fun h => by cases h⟩
                case measure => simp [intOf]; omega
              · rw [if_neg hbig] at HE
                have hqb : ¬ (1048576 : Int) < ((str k'.outp).size : Int) + ((str tx).size : Int) := by rw [List.length_append] at hbig; omega
                have HBG := Lib.hid hbig
                clear hcat hcatp hR' hK hF' hd' hj hg hrd hyl hdrop hop hop0 hop1 htx hcode hX' hy hb hsy hks hkd s1 s2 eapp s3 hlen hsum hbig
                go_wp2_with fail
                refine (HP.out _ HR2.out).mono ?_
                rintro e w1 ⟨rfl, B1⟩
                have hR1 := HR2.out.below B1
                obtain ⟨d0, d1, d2, d3, d4, d5, d6, d7, d8⟩ := hR1.cells
                have hlt1 := hR1.lt
                have HR1 := Lib.hid hR1
                have HF1 := Lib.hid hR1.files
                clear hR1
                go_wp2_with fail
                refine (HRd.out _ HF1.out).mono ?_
                rintro e w2 ⟨rfl, B2⟩
                have hR2 := HR1.out.below B2
                obtain ⟨g0, g1, g2, g3, g4, g5, g6, g7, g8⟩ := hR2.cells
                have f8 := hR2.frozen 8
                have HRR := Lib.hid hR2
                clear hR2
                go_wp2_with fail
                go_roundw
                case rel =>
                  rw [HEA.out]
                  exact ⟨i + 1, n, _, rfl, by go_num, hlt2, HE.out, HRR.out.setOutp (k'.outp ++ tx), HKS.out.1, HKS.out.2, kept_set ((HK2.out.below B1).below B2) (by simp) _, HLN.out, fun _ => by have := HBG.out; show (k'.outp ++ tx).length ≤ _; omega⟩
                case measure => simp [intOf]; omega
            · rw [if_neg hce] at hcat
              have HE := Lib.hid hcat
              have hq2 : (ce != 0) = true := by simpa using hce
              clear hcat hcatp hR' hK hF' hd' hj hg hrd hyl hdrop hop hop0 hop1 htx hcode hX' hy hb hsy hks hkd s1 s2 hS1 hS2 hce
              go_wp2_with fail
              refine (HP.out _ HR2.out).mono ?_
              rintro e w1 ⟨rfl, B1⟩
              have hR1 := HR2.out.below B1
              obtain ⟨d0, d1, d2, d3, d4, d5, d6, d7, d8⟩ := hR1.cells
              have hlt1 := hR1.lt
              have HR1 := Lib.hid hR1
              have HF1 := Lib.hid hR1.files
              clear hR1
              go_wp2_with fail
              refine (HRd.out _ HF1.out).mono ?_
              rintro e w2 ⟨rfl, B2⟩
              go_wp2_with fail
              go_roundw
              case rel => exact ⟨i + 1, 1, k', rfl, by go_num, hlt2, HE.out, HR1.out.below B2, HKS.out.1, HKS.out.2, (HK2.out.below B1).below B2, HO.out.1, HO.out.2⟩
              case measure => simp [intOf]; omega
        · have hq : (k'.code == 0) = false := by simpa using hcode
          have HE : Hid ((k', n) = R) := Lib.hid (by rw [← hcat]; unfold Hp.catA; rw [if_pos hcode])
          have HR2 := Lib.hid hR'
          have HK2 := Lib.hid hK
          clear hcat hcode hR' hK hks hkd hop hop0
          go_wp2_with fail
          go_ret
          rw [← HE.out]
          exact ⟨rfl, ⟨_, HR2.out⟩, HK2.out⟩
      · obtain rfl : i = l.length := by omega
        have HE : Hid ((k', n) = R) := Lib.hid (by rw [← hcat, List.drop_length]; rfl)
        have HR2 := Lib.hid hR'
        have HK2 := Lib.hid hK
        clear hcat hR' hK hks hkd hop hop0
        go_wp2_with fail
        go_ret
        rw [← HE.out]
        exact ⟨rfl, ⟨_, HR2.out⟩, HK2.out⟩
end
end Go.Proofs.YteommneijlelkaaGreatDoor.Hx
