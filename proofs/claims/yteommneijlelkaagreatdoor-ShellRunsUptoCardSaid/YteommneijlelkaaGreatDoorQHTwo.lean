/-
  fromTo, cp, mv.
-/
import Derived.Test.YteommneijlelkaaGreatDoorQSPlain2
import Derived.Test.YteommneijlelkaaGreatDoorQHDo1
namespace Go.Proofs.YteommneijlelkaaGreatDoor.Hx
open Go.RowKit Go.Proofs.YteommneijlelkaaGreatDoor Go.Maps Go.Proofs.YteommneijlelkaaGreatDoor.Sw
set_option maxRecDepth 100000

/-! ### the plain side -/
theorem pieces_app : ∀ (a b : Bs), Pt.pieces (a ++ 47 :: b) = Pt.pieces a ++ Pt.pieces b
  | [], b => by simp [Pt.pieces]
  | c :: a, b => by
    have ih := pieces_app a b
    show Pt.pieces (c :: (a ++ 47 :: b)) = _
    by_cases hc : c = 47
    · rw [Pt.pieces, if_pos hc, ih]
      conv => rhs; rw [Pt.pieces, if_pos hc]
      rfl
    · rw [Pt.pieces, if_neg hc, ih]
      conv => rhs; rw [Pt.pieces, if_neg hc]
      cases h : Pt.pieces a with
      | nil => exact absurd h (Pt.pieces_ne a)
      | cons x xs => rfl
theorem parts_app (a b : Bs) : Pt.parts (a ++ 47 :: b) = Pt.parts a ++ Pt.parts b := by unfold Pt.parts; rw [pieces_app, List.filter_append]
theorem walk_app : ∀ (l m out : List Bs), Pt.walk out (l ++ m) = (Pt.walk out l).bind fun o => Pt.walk o m
  | [], m, out => by simp [Pt.walk]
  | x :: l, m, out => by
    show Pt.walk out (x :: (l ++ m)) = _
    simp only [Pt.walk]
    cases Pt.step out x with
    | none => rfl
    | some o => exact walk_app l m o
theorem go_two (d b : Bs) : Pt.go [] [d, b] = (Pt.walk [] (Pt.parts d)).bind fun o => Pt.walk o (Pt.parts b) := by
  unfold Pt.go
  cases Pt.walk [] (Pt.parts d) with
  | none => rfl
  | some o =>
    show Pt.go o [b] = Pt.walk o (Pt.parts b)
    unfold Pt.go
    cases Pt.walk o (Pt.parts b) <;> rfl
theorem join_under {d b t : Bs} (h : Hp.joinP d b = some t) (x : Bs) : Pt.join [t, x] = Hp.joinP d (b ++ 47 :: x) := by
  obtain ⟨o, ho, hg, rfl⟩ := Pt.join_some h
  unfold Hp.joinP Pt.join
  rw [go_two, go_two, Pt.parts_text hg, Pt.walk_good o [] hg, parts_app]
  rw [go_two] at ho
  simp only [List.nil_append, Option.bind_some]
  cases hw : Pt.walk [] (Pt.parts d) with
  | none => rw [hw] at ho; cases ho
  | some o1 =>
    rw [hw] at ho
    simp only [Option.bind_some] at ho ⊢
    rw [walk_app, ho]
    rfl
/-- The base of a path that Join has returned. -/
theorem base_joined {d b f : Bs} (h : Hp.joinP d b = some f) : rBase f = baseL f := by
  obtain ⟨o, _, hg, rfl⟩ := Pt.join_some h
  rcases List.eq_nil_or_concat o with rfl | ⟨P, x, rfl⟩
  · decide
  · rw [List.concat_eq_append] at hg ⊢
    rw [(rBase_text hg).1, (rBase_text hg).2]

section
variable {w w' : World} {rb sb bm : Nat} {k : Hp.K} {st ran : Int} {pv bv v : Value} {l : List Bs}
/-- What fromTo returns. -/
def TwoPost (w : World) (r : Option (Bs × Bs)) (e : Ending) (w' : World) : Prop :=
  (match r with
   | some q => e = .returned (.tuple #[.string (str q.1), .string (str q.2), .bool true])
   | none => ∃ f t : ByteArray, e = .returned (.tuple #[.string f, .string t, .bool false])) ∧ Below w.heap.size w w'
theorem two_not {k : Hp.K} {l : List Bs} (h : l.length ≠ 2) : Hp.twoA k l = none := by
  rcases l with _ | ⟨x, _ | ⟨y, _ | ⟨z, r⟩⟩⟩
  · rfl
  · rfl
  · exact absurd rfl h
  · rfl
theorem wtL_two {x y : Bs} : Hp.wtL [x, y] = x.length + y.length + 4 := by
  have e : Hp.wtL [x, y] = (x.length + 2) + ((y.length + 2) + 0) := rfl
  omega
set_option maxHeartbeats 2000000 in
theorem fromTo_any (w : World) (k : Hp.K) (v : Value) (l : List Bs) (hR : RunAt w rb sb bm k st ran pv bv) (hd : k.d.length ≤ 100000) (hv : Ws w rb sb bm v l) (hl : Hp.wtL l ≤ 100000) :
    Calls Tryz.prog 124 #[.pointer (some ⟨rb, 0, none⟩), v] w (TwoPost w (Hp.twoA k l)) := by
  have hlt := hR.lt
  obtain ⟨a, c, rfl, hc⟩ := Px.Rg.shape hv
  have HR := Lib.hid hR
  by_cases h2 : l.length = 2
  · obtain ⟨x, y, rfl⟩ : ∃ x y, l = [x, y] := by rcases l with _ | ⟨x, _ | ⟨y, _ | ⟨z, r⟩⟩⟩ <;> simp at h2 ⊢
    have HV := Lib.hid fun (W : World) (hB : Below w.heap.size w W) => (Ws.cell (hv.below hB hlt) (by simp))
    obtain ⟨b, o, rfl, _, hb, hx⟩ := Ws.cell hv (by simp)
    have e0 : w.cell? ⟨b, o, none⟩ = some (.string (str x)) := hx 0 (by simp)
    have HY : Hid (∀ W, Below w.heap.size w W → W.cell? ⟨b, o + 1, none⟩ = some (.string (str y))) := Lib.hid fun W hB => (hB.cell (p := ⟨b, o + 1, none⟩) (Nat.lt_trans hb hlt)).trans (hx 1 (by simp))
    have hc1 : 2 ≤ c := hc
    rw [wtL_two] at hl
    have hsx : (str x).size ≤ 1000000000 := by rw [← bs_len, bs_str]; omega
    have hsy : (str y).size ≤ 1000000000 := by rw [← bs_len, bs_str]; omega
    clear hv hx h2 hc hR HV
    cases hj : Hp.joinP k.d x with
    | none =>
      have HJ : Hid (Hp.joinP k.d (bs (str x)) = none) := Lib.hid hj
      have HE : Hid (Hp.twoA k [x, y] = none) := Lib.hid (by unfold Hp.twoA; simp only; rw [hj])
      clear hj
      go_enter Tryz.func124, Tryz.ntmps124
      go_wp2_with (go_at_call 137; refine (path_no _ (str x) HR.out hd hsx HJ).mono ?_; rintro e w1 ⟨rfl, B1⟩)
      go_ret3
      rw [HE.out]
      exact ⟨⟨_, _, rfl⟩, B1⟩
    | some f =>
      have HJ : Hid (Hp.joinP k.d (bs (str x)) = some f) := Lib.hid hj
      have hfl := Hp.joinP_len hj
      cases hj2 : Hp.joinP k.d y with
      | none =>
        have HJ2 : Hid (Hp.joinP k.d (bs (str y)) = none) := Lib.hid hj2
        have HE : Hid (Hp.twoA k [x, y] = none) := Lib.hid (by unfold Hp.twoA; simp only; rw [hj, hj2])
        clear hj hj2
        go_enter Tryz.func124, Tryz.ntmps124
        go_wp2_with fail
        refine (path_yes _ (str x) f HR.out hd hsx HJ).mono ?_
        rintro e w1 ⟨rfl, B1⟩; have hR1 := HR.out.below B1; have e1 := HY.out _ B1; have hlt1 := hR1.lt
        go_wp2_with fail
        refine (path_no _ (str y) hR1 hd hsy HJ2).mono ?_
        rintro e w2 ⟨rfl, B2⟩
        go_wp2_with fail
        go_ret3
        rw [HE.out]
        exact ⟨⟨_, _, rfl⟩, B1.trans (B2.mono B1.size)⟩
      | some t =>
        have HJ2 : Hid (Hp.joinP k.d (bs (str y)) = some t) := Lib.hid hj2
        have htl := Hp.joinP_len hj2
        have hts : (str t).size ≤ maxLen := by rw [← bs_len, bs_str]; unfold maxLen; omega
        have hts2 : (str t).size ≤ 1000000 := by rw [← bs_len, bs_str]; omega
        have hfs : (str f).size ≤ 1000000 := by rw [← bs_len, bs_str]; omega
        obtain ⟨g, hg⟩ : ∃ g, ((getR k.s.L t).map (·.d)).getD false = g := ⟨_, rfl⟩
        have HG : Hid (((getR k.s.L (bs (str t))).map (·.d)).getD false = g) := Lib.hid hg
        cases g with
        | false =>
          have HE : Hid (Hp.twoA k [x, y] = some (f, t)) := Lib.hid (by unfold Hp.twoA; simp only; rw [hj, hj2]; simp only; rw [hg]; rfl)
          clear hj hj2 hg
          go_enter Tryz.func124, Tryz.ntmps124
          go_wp2_with fail
          refine (path_yes _ (str x) f HR.out hd hsx HJ).mono ?_
          rintro e w1 ⟨rfl, B1⟩; have hR1 := HR.out.below B1; have e1 := HY.out _ B1; have hlt1 := hR1.lt
          go_wp2_with fail
          refine (path_yes _ (str y) t hR1 hd hsy HJ2).mono ?_
          rintro e w2 ⟨rfl, B2⟩; have hR2 := hR1.below B2
          go_wp2_with (first
            | (go_at_call 24; refine (directory_any _ (str t) false hR2 hts HG).mono ?_; rintro e w3 ⟨rfl, B3⟩))
          go_ret3
          rw [HE.out]
          exact ⟨rfl, (B1.trans (B2.mono B1.size)).trans (B3.mono (Nat.le_trans B1.size B2.size))⟩
        | true =>
          have hbl : (baseL f).length ≤ f.length := Hp.base_len f
          have hE : Hp.twoA k [x, y] = (Hp.joinP k.d (y ++ 47 :: baseL f)).map (f, ·) := by unfold Hp.twoA; simp only; rw [hj, hj2]; simp only; rw [hg]; rfl
          have hju := join_under hj2 (baseL f)
          have hbs : (str (baseL f)).size ≤ 1000000 := by rw [← bs_len, bs_str]; omega
          have htot : tot [str t, str (baseL f)] ≤ 140737488355327 := by simp [tot]; omega
          have HBs := Lib.hid fun (W : World) => Base_any W (str f) hfs
          rw [← hju] at hE
          cases hj3 : Pt.join [t, baseL f] with
          | none =>
            rw [hj3] at hE
            have HE := Lib.hid hE
            have HJ3 : Hid (Pt.join ([str t, str (baseL f)].map bs) = none) := Lib.hid hj3
            clear hj hj2 hg hE hju hj3
            go_enter Tryz.func124, Tryz.ntmps124
            go_wp2_with fail
            refine (path_yes _ (str x) f HR.out hd hsx HJ).mono ?_
            rintro e w1 ⟨rfl, B1⟩; have hR1 := HR.out.below B1; have e1 := HY.out _ B1; have hlt1 := hR1.lt
            go_wp2_with fail
            refine (path_yes _ (str y) t hR1 hd hsy HJ2).mono ?_
            rintro e w2 ⟨rfl, B2⟩; have hR2 := hR1.below B2
            go_wp2_with (first
              | (go_at_call 24; refine (directory_any _ (str t) true hR2 hts HG).mono ?_; rintro e w3 ⟨rfl, B3⟩)
              | (go_at_call 168; refine (HBs.out _).mono ?_; rintro e w4 ⟨rfl, rfl⟩)
              | (go_at_call 61; refine (Join_no _ _ _ (strs_two _ (str t) (str (baseL f))) (by simp) htot HJ3).mono ?_; rintro e w5 ⟨rfl, B5⟩; have B4 := ((Below.refl _ w3).alloc (Nat.le_refl _) (.cells #[.string (str t), .string (str (baseL f))] 9)).trans (B5.mono (by simp))))
            go_ret3
            rw [HE.out]
            exact ⟨⟨_, _, rfl⟩, ((B1.trans (B2.mono B1.size)).trans (B3.mono (Nat.le_trans B1.size B2.size))).trans (B4.mono (Nat.le_trans B1.size (Nat.le_trans B2.size B3.size)))⟩
          | some t2 =>
            rw [hj3] at hE
            have HE := Lib.hid hE
            have HJ3 : Hid (Pt.join ([str t, str (baseL f)].map bs) = some t2) := Lib.hid hj3
            clear hj hj2 hg hE hju hj3
            go_enter Tryz.func124, Tryz.ntmps124
            go_wp2_with fail
            refine (path_yes _ (str x) f HR.out hd hsx HJ).mono ?_
            rintro e w1 ⟨rfl, B1⟩; have hR1 := HR.out.below B1; have e1 := HY.out _ B1; have hlt1 := hR1.lt
            go_wp2_with fail
            refine (path_yes _ (str y) t hR1 hd hsy HJ2).mono ?_
            rintro e w2 ⟨rfl, B2⟩; have hR2 := hR1.below B2
            go_wp2_with (first
              | (go_at_call 24; refine (directory_any _ (str t) true hR2 hts HG).mono ?_; rintro e w3 ⟨rfl, B3⟩)
              | (go_at_call 168; refine (HBs.out _).mono ?_; rintro e w4 ⟨rfl, rfl⟩)
              | (go_at_call 61; refine (Join_yes _ _ _ t2 (strs_two _ (str t) (str (baseL f))) (by simp) htot HJ3).mono ?_; rintro e w5 ⟨rfl, B5⟩; have B4 := ((Below.refl _ w3).alloc (Nat.le_refl _) (.cells #[.string (str t), .string (str (baseL f))] 9)).trans (B5.mono (by simp))))
            go_ret3
            rw [HE.out]
            exact ⟨rfl, ((B1.trans (B2.mono B1.size)).trans (B3.mono (Nat.le_trans B1.size B2.size))).trans (B4.mono (Nat.le_trans B1.size (Nat.le_trans B2.size B3.size)))⟩
  · have q : ((l.length : Int) != 2) = true := by simp; omega
    have HE := Lib.hid (two_not (k := k) h2)
    clear hv hR h2
    go_enter Tryz.func124, Tryz.ntmps124
    go_wp2_with fail
    go_ret3
    rw [HE.out]
    exact ⟨⟨_, _, rfl⟩, Below.refl _ _⟩

theorem took_code {k : Hp.K} {s2 : St} {cd : Int} (h0 : k.code = 0) : (k.took (s2, cd)).1.code = if cd = 5 ∨ cd = 12 then cd else 0 := by
  unfold Hp.K.took
  simp only
  split
  · rfl
  · exact h0
/-- Behind a call that has changed the files, and its status. -/
theorem DoPost.zero {s2 : St} (h0 : k.code = 0) (hR : RunAt w' rb sb bm ⟨s2, k.d, k.code, k.inp, k.outp⟩ st ran pv bv) (hK : Kept [rb, sb, bm] w w') : DoPost w rb sb bm st ran pv bv (k.took (s2, 0)) (.returned (.int .i64 0)) w' :=
  DoPost.ok (r := k.took (s2, 0)) (by rw [took_code h0]; rfl) ⟨hR.box, hR.store, hR.n1, hR.n2⟩ hK
theorem DoPost.one {s2 : St} {cd : Int} (h0 : k.code = 0) (hc : cd ≠ 0) (h5 : ¬ (cd = 5 ∨ cd = 12)) (hR : RunAt w' rb sb bm ⟨s2, k.d, k.code, k.inp, k.outp⟩ st ran pv bv) (hK : Kept [rb, sb, bm] w w') : DoPost w rb sb bm st ran pv bv (k.took (s2, cd)) (.returned (.int .i64 1)) w' := by
  have e : (k.took (s2, cd)).2 = 1 := if_neg hc
  have := DoPost.ok (r := k.took (s2, cd)) (w := w) (rb := rb) (sb := sb) (bm := bm) (st := st) (ran := ran) (pv := pv) (bv := bv) (w' := w') (by rw [took_code h0, if_neg h5]) ⟨hR.box, hR.store, hR.n1, hR.n2⟩ hK
  rw [e] at this
  exact this
theorem DoPost.end_ {s2 : St} {cd : Int} (h0 : k.code = 0) (h5 : cd = 5 ∨ cd = 12) (hR : RunAt w' rb sb bm ⟨s2, k.d, k.code, k.inp, k.outp⟩ st ran pv bv) (hK : Kept [rb, sb, bm] w w') : DoPost w rb sb bm st ran pv bv (k.took (s2, cd)) (endE cd) w' := by
  have e : (k.took (s2, cd)).1.code = cd := by rw [took_code h0, if_pos h5]
  refine ⟨?_, hK⟩
  rw [if_neg (by rw [e]; rcases h5 with rfl | rfl <;> decide), e]
  exact ⟨rfl, k.inp, k.outp, hR.box, hR.store, hR.n1, hR.n2⟩

set_option maxHeartbeats 2000000 in
theorem mv_any (w : World) (k : Hp.K) (v : Value) (l : List Bs) (h0 : k.code = 0) (hF : Fine k.s) (hR : RunAt w rb sb bm k st ran pv bv) (hv : Ws w rb sb bm v l) (hl : 2 * k.d.length + Hp.wtL l + 3 ≤ 100000) :
    Calls Tryz.prog 81 #[.pointer (some ⟨rb, 0, none⟩), v] w (DoPost w rb sb bm st ran pv bv (Hp.mvA k l)) := by
  have hT := fromTo_any w k v l hR (by omega) hv (by omega)
  have hlt := hR.lt
  have HR := Lib.hid hR
  cases h2 : Hp.twoA k l with
  | none =>
    have HE : Hid (Hp.mvA k l = (k, 1)) := Lib.hid (by unfold Hp.mvA; rw [h2])
    rw [h2] at hT
    have HT := Lib.hid hT
    clear hT h2 hv hR
    go_enter Tryz.func81, Tryz.ntmps81
    go_wp2_with (go_at_call 124; refine HT.out.mono ?_; rintro e w1 ⟨⟨f, t, rfl⟩, B1⟩)
    go_ret
    rw [HE.out]
    exact DoPost.ok (r := (k, 1)) h0 (HR.out.below B1) (.of_below B1)
  | some q =>
    obtain ⟨f, t⟩ := q
    have hlen := Hp.two_len h2
    have hE : Hp.mvA k l = k.took (Sw.moveA k.s f t) := by unfold Hp.mvA; rw [h2]
    have hM := Lib.hid fun (W : World) (hS : StoreAt W sb bm k.s.L k.s.c) => Move_any W (str f) (str t) hS hF (by rw [← bs_len, bs_str]; omega) (by rw [← bs_len, bs_str]; omega)
    obtain ⟨⟨s2, cd⟩, hq⟩ : ∃ q, Sw.moveA k.s f t = q := ⟨_, rfl⟩
    have HC : Hid (Sw.moveA k.s (bs (str f)) (bs (str t)) = (s2, cd)) := Lib.hid hq
    rw [hq] at hE
    rw [h2] at hT
    have HE := Lib.hid hE
    have HT := Lib.hid hT
    clear hT h2 hv hR hE hq hlen
    by_cases hc : cd = 0
    · subst hc
      go_enter Tryz.func81, Tryz.ntmps81
      go_wp2_with (first
        | (go_at_call 124; refine HT.out.mono ?_; rintro e w1 ⟨rfl, B1⟩; have hR1 := HR.out.below B1; obtain ⟨c0, c1, c3, c4, c8, c9⟩ := hR1.cells; have hlt1 := hR1.lt)
        | (go_at_call 127; refine (hM.out _ hR1.store).mono ?_; rw [HC.out]; rintro e w2 ⟨rfl, hS2, hK2⟩; have hR2 := hR1.stored hS2 hK2; have hK3 := (Kept.of_below B1).trans (hK2.mono (Y := [rb, sb, bm]) (by simp)))
        | (go_at_call 126; refine (status_zero _).mono ?_; rintro e w3 ⟨rfl, rfl⟩))
      go_ret
      rw [HE.out]
      exact DoPost.zero h0 hR2 hK3
    · by_cases h5 : cd = 5 ∨ cd = 12
      · go_enter Tryz.func81, Tryz.ntmps81
        go_wp2_with (first
          | (go_at_call 124; refine HT.out.mono ?_; rintro e w1 ⟨rfl, B1⟩; have hR1 := HR.out.below B1; obtain ⟨c0, c1, c3, c4, c8, c9⟩ := hR1.cells; have hlt1 := hR1.lt)
          | (go_at_call 127; refine (hM.out _ hR1.store).mono ?_; rw [HC.out]; rintro e w2 ⟨rfl, hS2, hK2⟩; have hR2 := hR1.stored hS2 hK2; have hK3 := (Kept.of_below B1).trans (hK2.mono (Y := [rb, sb, bm]) (by simp)))
          | (go_at_call 126; refine (status_end _ cd h5).mono ?_; rintro e w3 ⟨rfl, rfl⟩; unfold endE))
        refine ⟨rfl, ?_⟩
        rw [HE.out]
        exact DoPost.end_ h0 h5 hR2 hK3
      · have h5a : cd ≠ 5 := fun e => h5 (.inl e)
        have h5b : cd ≠ 12 := fun e => h5 (.inr e)
        go_enter Tryz.func81, Tryz.ntmps81
        go_wp2_with (first
          | (go_at_call 124; refine HT.out.mono ?_; rintro e w1 ⟨rfl, B1⟩; have hR1 := HR.out.below B1; obtain ⟨c0, c1, c3, c4, c8, c9⟩ := hR1.cells; have hlt1 := hR1.lt)
          | (go_at_call 127; refine (hM.out _ hR1.store).mono ?_; rw [HC.out]; rintro e w2 ⟨rfl, hS2, hK2⟩; have hR2 := hR1.stored hS2 hK2; have hK3 := (Kept.of_below B1).trans (hK2.mono (Y := [rb, sb, bm]) (by simp)))
          | (go_at_call 126; refine (status_one _ cd hc h5a h5b).mono ?_; rintro e w3 ⟨rfl, rfl⟩))
        go_ret
        rw [HE.out]
        exact DoPost.one h0 hc h5 hR2 hK3

set_option maxHeartbeats 2000000 in
theorem cp_any (w : World) (k : Hp.K) (v : Value) (l : List Bs) (h0 : k.code = 0) (hF : Fine k.s) (hrd : ∀ p, (Hp.readP k p).1.length ≤ 1048576) (hR : RunAt w rb sb bm k st ran pv bv) (hv : Ws w rb sb bm v l) (hl : 2 * k.d.length + Hp.wtL l + 3 ≤ 100000) :
    Calls Tryz.prog 80 #[.pointer (some ⟨rb, 0, none⟩), v] w (DoPost w rb sb bm st ran pv bv (Hp.cpA k l)) := by
  have hT := fromTo_any w k v l hR (by omega) hv (by omega)
  have hlt := hR.lt
  have HR := Lib.hid hR
  cases h2 : Hp.twoA k l with
  | none =>
    have HE : Hid (Hp.cpA k l = (k, 1)) := Lib.hid (by unfold Hp.cpA; rw [h2])
    rw [h2] at hT
    have HT := Lib.hid hT
    clear hT h2 hv hR
    go_enter Tryz.func80, Tryz.ntmps80
    go_wp2_with (go_at_call 124; refine HT.out.mono ?_; rintro e w1 ⟨⟨f, t, rfl⟩, B1⟩)
    go_ret
    rw [HE.out]
    exact DoPost.ok (r := (k, 1)) h0 (HR.out.below B1) (.of_below B1)
  | some q =>
    obtain ⟨f, t⟩ := q
    have hlen := Hp.two_len h2
    rw [h2] at hT
    have HT := Lib.hid hT
    by_cases hft : f = t
    · subst hft
      have q : ((str f).toList == (str f).toList) = true := by simp
      have HE : Hid (Hp.cpA k l = (k, 1)) := Lib.hid (by unfold Hp.cpA; rw [h2]; exact if_pos rfl)
      clear hT h2 hv hR hlen
      go_enter Tryz.func80, Tryz.ntmps80
      go_wp2_with (go_at_call 124; refine HT.out.mono ?_; rintro e w1 ⟨rfl, B1⟩)
      go_ret
      rw [HE.out]
      exact DoPost.ok (r := (k, 1)) h0 (HR.out.below B1) (.of_below B1)
    · have q : ((str f).toList == (str t).toList) = false := by rw [Lib.toList_data, Lib.toList_data, beq_eq_false_iff_ne]; exact hft
      have hE : Hp.cpA k l = if (Hp.readP k f).2 = 0 then k.took (Sw.writeA k.s t (Hp.readP k f).1 false) else (k, 1) := by unfold Hp.cpA; rw [h2]; exact if_neg hft
      have hfm : (str f).size ≤ maxLen := by rw [← bs_len, bs_str]; unfold maxLen; omega
      have HRd := Lib.hid fun (W : World) (hS : StoreAt W sb bm k.s.L k.s.c) => Read_any W (str f) _ hS hfm (Lib.hid rfl)
      have hrl := hrd f
      rcases read_code k f with hc0 | ⟨hc1, hc2, hc5, hc12⟩
      · rw [if_pos hc0] at hE
        have HC1 : Hid ((readA (getR k.s.L (bs (str f)))) = ((Hp.readP k f).1, 0)) := Lib.hid (Prod.ext rfl hc0)
        generalize (Hp.readP k f).1 = tx at *
        have hW := Lib.hid fun (W : World) (hS : StoreAt W sb bm k.s.L k.s.c) => Write_any W (str t) (str tx) false hS hF (by rw [← bs_len, bs_str]; omega) (by rw [← bs_len, bs_str]; omega)
        obtain ⟨⟨s2, cd⟩, hq⟩ : ∃ q, Sw.writeA k.s t tx false = q := ⟨_, rfl⟩
        have HC : Hid (Sw.writeA k.s (bs (str t)) (bs (str tx)) false = (s2, cd)) := Lib.hid hq
        rw [hq] at hE
        have HE := Lib.hid hE
        clear hT h2 hv hR hE hq hlen hft hc0
        by_cases hc : cd = 0
        · subst hc
          go_enter Tryz.func80, Tryz.ntmps80
          go_wp2_with (first
            | (go_at_call 124; refine HT.out.mono ?_; rintro e w1 ⟨rfl, B1⟩; have hR1 := HR.out.below B1; obtain ⟨c0, c1, c3, c4, c8, c9⟩ := hR1.cells; have hlt1 := hR1.lt)
            | (go_at_call 121; refine (HRd.out _ hR1.store).mono ?_; rw [HC1.out]; rintro e w2 ⟨rfl, B2⟩; have hR2 := hR1.below B2; obtain ⟨c0, c1, c3, c4, c8, c9⟩ := hR2.cells; have hlt2 := hR2.lt)
            | (go_at_call 125; refine (hW.out _ hR2.store).mono ?_; rw [HC.out]; rintro e w3 ⟨rfl, hS3, hK3⟩; have hR3 := hR2.stored hS3 hK3; have hK4 := ((Kept.of_below B1).below B2).trans (hK3.mono (Y := [rb, sb, bm]) (by simp)))
            | (go_at_call 126; refine (status_zero _).mono ?_; rintro e w3 ⟨rfl, rfl⟩))
          go_ret
          rw [HE.out]
          exact DoPost.zero h0 hR3 hK4
        · by_cases h5 : cd = 5 ∨ cd = 12
          · go_enter Tryz.func80, Tryz.ntmps80
            go_wp2_with (first
              | (go_at_call 124; refine HT.out.mono ?_; rintro e w1 ⟨rfl, B1⟩; have hR1 := HR.out.below B1; obtain ⟨c0, c1, c3, c4, c8, c9⟩ := hR1.cells; have hlt1 := hR1.lt)
              | (go_at_call 121; refine (HRd.out _ hR1.store).mono ?_; rw [HC1.out]; rintro e w2 ⟨rfl, B2⟩; have hR2 := hR1.below B2; obtain ⟨c0, c1, c3, c4, c8, c9⟩ := hR2.cells; have hlt2 := hR2.lt)
              | (go_at_call 125; refine (hW.out _ hR2.store).mono ?_; rw [HC.out]; rintro e w3 ⟨rfl, hS3, hK3⟩; have hR3 := hR2.stored hS3 hK3; have hK4 := ((Kept.of_below B1).below B2).trans (hK3.mono (Y := [rb, sb, bm]) (by simp)))
              | (go_at_call 126; refine (status_end _ cd h5).mono ?_; rintro e w3 ⟨rfl, rfl⟩; unfold endE))
            refine ⟨rfl, ?_⟩
            rw [HE.out]
            exact DoPost.end_ h0 h5 hR3 hK4
          · have h5a : cd ≠ 5 := fun e => h5 (.inl e)
            have h5b : cd ≠ 12 := fun e => h5 (.inr e)
            go_enter Tryz.func80, Tryz.ntmps80
            go_wp2_with (first
              | (go_at_call 124; refine HT.out.mono ?_; rintro e w1 ⟨rfl, B1⟩; have hR1 := HR.out.below B1; obtain ⟨c0, c1, c3, c4, c8, c9⟩ := hR1.cells; have hlt1 := hR1.lt)
              | (go_at_call 121; refine (HRd.out _ hR1.store).mono ?_; rw [HC1.out]; rintro e w2 ⟨rfl, B2⟩; have hR2 := hR1.below B2; obtain ⟨c0, c1, c3, c4, c8, c9⟩ := hR2.cells; have hlt2 := hR2.lt)
              | (go_at_call 125; refine (hW.out _ hR2.store).mono ?_; rw [HC.out]; rintro e w3 ⟨rfl, hS3, hK3⟩; have hR3 := hR2.stored hS3 hK3; have hK4 := ((Kept.of_below B1).below B2).trans (hK3.mono (Y := [rb, sb, bm]) (by simp)))
              | (go_at_call 126; refine (status_one _ cd hc h5a h5b).mono ?_; rintro e w3 ⟨rfl, rfl⟩))
            go_ret
            rw [HE.out]
            exact DoPost.one h0 hc h5 hR3 hK4
      · rw [if_neg hc2] at hE
        have HE := Lib.hid hE
        obtain ⟨cd, hcd⟩ : ∃ cd, (Hp.readP k f).2 = cd := ⟨_, rfl⟩
        have HC : Hid ((readA (getR k.s.L (bs (str f)))) = ([], cd)) := Lib.hid (Prod.ext hc1 hcd)
        rw [hcd] at hc2 hc5 hc12
        have q0 : (cd == 0) = false := beq_eq_false_iff_ne.2 hc2
        clear hT h2 hv hR hE hlen hft hc1 hcd
        go_enter Tryz.func80, Tryz.ntmps80
        go_wp2_with (first
          | (go_at_call 124; refine HT.out.mono ?_; rintro e w1 ⟨rfl, B1⟩; have hR1 := HR.out.below B1; obtain ⟨c0, c1, c3, c4, c8, c9⟩ := hR1.cells; have hlt1 := hR1.lt)
          | (go_at_call 121; refine (HRd.out _ hR1.store).mono ?_; rw [HC.out]; rintro e w2 ⟨rfl, B2⟩; have hR2 := hR1.below B2)
          | (go_at_call 126; refine (status_one _ cd hc2 hc5 hc12).mono ?_; rintro e w3 ⟨rfl, rfl⟩))
        go_ret
        rw [HE.out]
        exact DoPost.ok (r := (k, 1)) h0 hR2 ((Kept.of_below B1).below B2)
end
end Go.Proofs.YteommneijlelkaaGreatDoor.Hx
