/-
  test.
-/
import Derived.Deep.RegionHeld3
import Derived.Test.YteommneijlelkaaGreatDoorQHDo1
namespace Go.Proofs.YteommneijlelkaaGreatDoor.Hx
open Go.RowKit Go.Proofs.YteommneijlelkaaGreatDoor Go.Maps Go.Proofs.YteommneijlelkaaGreatDoor.Sw
set_option maxRecDepth 100000

def tpA (r : Option F) (b1 b2 b3 : Bool) : Nat := if b1 = true then Hp.truth r.isSome else if b2 = true then Hp.truth ((r.map fun f => !f.d).getD false) else if b3 = true then Hp.truth ((r.map (·.d)).getD false) else 2
section
variable {w w' : World} {rb sb bm : Nat} {k : Hp.K} {st ran : Int} {pv bv v : Value} {l : List Bs}
theorem tp_none (w : World) (o a : ByteArray) (b1 b2 b3 : Bool) (q1 : (o.toList == [45, 101]) = b1) (q2 : (o.toList == [45, 102]) = b2) (q3 : (o.toList == [45, 100]) = b3) (hR : RunAt w rb sb bm k st ran pv bv) (hd : k.d.length ≤ 100000) (ha : a.size ≤ 1000000)
    (HJ : Hid (Hp.joinP k.d (bs a) = none)) :
    Calls Tryz.prog 136 #[.pointer (some ⟨rb, 0, none⟩), .string o, .string a] w fun e w' => e = .returned (.int .i64 (tpA none b1 b2 b3)) ∧ Below w.heap.size w w' := by
  have HR := Lib.hid hR
  clear hR
  cases b1 <;> cases b2 <;> cases b3
  all_goals go_enter Tryz.func136, Tryz.ntmps136
  all_goals go_wp2_with (first
    | (go_at_call 137; refine (path_no _ a (HR.out.alloc _) hd (by omega) HJ).mono ?_; rintro e w1 ⟨rfl, B1⟩; have C1 := ((Below.refl w.heap.size w).alloc (Nat.le_refl _) (.cells #[.string ⟨#[]⟩, .string ⟨#[]⟩, .int .i64 0, .bool false] 44)).trans (B1.mono (by simp)))
    | (go_at_call 130; refine (truth_any _ _).mono ?_; rintro e w2 ⟨rfl, rfl⟩))
  all_goals go_ret
  all_goals exact ⟨rfl, C1⟩
set_option maxHeartbeats 4000000 in
theorem tp_some (w : World) (o a : ByteArray) (p : Bs) (r : Option F) (b1 b2 b3 : Bool) (q1 : (o.toList == [45, 101]) = b1) (q2 : (o.toList == [45, 102]) = b2) (q3 : (o.toList == [45, 100]) = b3) (hR : RunAt w rb sb bm k st ran pv bv) (hd : k.d.length ≤ 100000) (ha : a.size ≤ 1000000)
    (HJ : Hid (Hp.joinP k.d (bs a) = some p)) (HG : Hid (getR k.s.L (bs (str p)) = r)) :
    Calls Tryz.prog 136 #[.pointer (some ⟨rb, 0, none⟩), .string o, .string a] w fun e w' => e = .returned (.int .i64 (tpA r b1 b2 b3)) ∧ Below w.heap.size w w' := by
  have HR := Lib.hid hR
  clear hR
  have hpl := Hp.joinP_len HJ.out
  rw [bs_len] at hpl
  have hps : (str p).size ≤ maxLen := by rw [← bs_len, bs_str]; unfold maxLen; omega
  have hB0 : ∀ o1 : Obj, Below w.heap.size w (w.alloc o1) := fun o1 => (Below.refl w.heap.size w).alloc (Nat.le_refl _) o1
  cases r with
  | none =>
    cases b1 <;> cases b2 <;> cases b3
    all_goals go_enter Tryz.func136, Tryz.ntmps136
    all_goals go_wp2_with (first
      | (go_at_call 137; refine (path_yes _ a p (HR.out.alloc _) hd (by omega) HJ).mono ?_; rintro e w1 ⟨rfl, B1⟩; have hR1 := (HR.out.alloc _).below B1; obtain ⟨c0, c1, c3, c4, c8, c9⟩ := hR1.cells; have hlt1 := hR1.lt; have C1 := (hB0 _).trans (B1.mono (by simp)); have hz := (B1.block w.heap.size (by simp)).trans (heap_new w _ rfl))
      | (go_at_call 40; refine (Get_no _ (str p) hR1.store hps HG).mono ?_; rintro e w2 ⟨rfl, B2⟩; unfold fV noF; have C2 := C1.trans (B2.mono C1.size); have hz1 : w.heap.size < w1.heap.size := (Array.getElem?_eq_some_iff.1 hz).1; have hz2 := (B2.block w.heap.size hz1).trans hz; have z0 := cell_at (i := 0) hz2 rfl; have z1 := cell_at (i := 1) hz2 rfl; have z2 := cell_at (i := 2) hz2 rfl; have z3 := cell_at (i := 3) hz2 rfl; have zf0 := frozen_at hz2 0; have zf1 := frozen_at hz2 1; have zf2 := frozen_at hz2 2; have zf3 := frozen_at hz2 3; have hz4 := (Array.getElem?_eq_some_iff.1 hz2).1)
      | (go_at_call 130; refine (truth_any _ _).mono ?_; rintro e w2 ⟨rfl, rfl⟩))
    all_goals go_ret
    all_goals exact ⟨rfl, (((C2.setCell (p := ⟨w.heap.size, 0, none⟩) (Nat.le_refl _) _).setCell (p := ⟨w.heap.size, 1, none⟩) (Nat.le_refl _) _).setCell (p := ⟨w.heap.size, 2, none⟩) (Nat.le_refl _) _).setCell (p := ⟨w.heap.size, 3, none⟩) (Nat.le_refl _) _⟩
  | some f =>
    obtain ⟨fp, ft, fc, fd⟩ := f
    cases fd <;> cases b1 <;> cases b2 <;> cases b3
    all_goals go_enter Tryz.func136, Tryz.ntmps136
    all_goals go_wp2_with (first
      | (go_at_call 137; refine (path_yes _ a p (HR.out.alloc _) hd (by omega) HJ).mono ?_; rintro e w1 ⟨rfl, B1⟩; have hR1 := (HR.out.alloc _).below B1; obtain ⟨c0, c1, c3, c4, c8, c9⟩ := hR1.cells; have hlt1 := hR1.lt; have C1 := (hB0 _).trans (B1.mono (by simp)); have hz := (B1.block w.heap.size (by simp)).trans (heap_new w _ rfl))
      | (go_at_call 40; refine (Get_yes _ (str p) hR1.store hps HG).mono ?_; rintro e w2 ⟨rfl, B2⟩; unfold fV; have C2 := C1.trans (B2.mono C1.size); have hz1 : w.heap.size < w1.heap.size := (Array.getElem?_eq_some_iff.1 hz).1; have hz2 := (B2.block w.heap.size hz1).trans hz; have z0 := cell_at (i := 0) hz2 rfl; have z1 := cell_at (i := 1) hz2 rfl; have z2 := cell_at (i := 2) hz2 rfl; have z3 := cell_at (i := 3) hz2 rfl; have zf0 := frozen_at hz2 0; have zf1 := frozen_at hz2 1; have zf2 := frozen_at hz2 2; have zf3 := frozen_at hz2 3; have hz4 := (Array.getElem?_eq_some_iff.1 hz2).1)
      | (go_at_call 130; refine (truth_any _ _).mono ?_; rintro e w2 ⟨rfl, rfl⟩))
    all_goals go_ret
    all_goals exact ⟨rfl, (((C2.setCell (p := ⟨w.heap.size, 0, none⟩) (Nat.le_refl _) _).setCell (p := ⟨w.heap.size, 1, none⟩) (Nat.le_refl _) _).setCell (p := ⟨w.heap.size, 2, none⟩) (Nat.le_refl _) _).setCell (p := ⟨w.heap.size, 3, none⟩) (Nat.le_refl _) _⟩
theorem tp_is (k : Hp.K) (o a : Bs) : tpA ((Hp.joinP k.d a).bind fun p => getR k.s.L p) (o == [45, 101]) (o == [45, 102]) (o == [45, 100]) = Hp.testA k [o, a] := by
  unfold Hp.testA tpA
  simp only
  by_cases h1 : o = [45, 101]
  · subst h1
    cases (Hp.joinP k.d a).bind fun p => getR k.s.L p <;> rfl
  · by_cases h2 : o = [45, 102]
    · subst h2
      cases (Hp.joinP k.d a).bind fun p => getR k.s.L p <;> rfl
    · by_cases h3 : o = [45, 100]
      · subst h3
        cases (Hp.joinP k.d a).bind fun p => getR k.s.L p
        · rfl
        · rename_i f; obtain ⟨fp, ft, fc, fd⟩ := f; cases fd <;> rfl
      · rw [if_neg (by simp [h1]), if_neg (by simp [h2]), if_neg (by simp [h3]), if_neg (by simp [h1, h2, h3])]
theorem str_eq (o : Bs) (l : List UInt8) : ((str o).toList == l) = (o == l) := by rw [Lib.toList_data]; rfl
theorem testPath_any (w : World) (o a : Bs) (hR : RunAt w rb sb bm k st ran pv bv) (hd : k.d.length ≤ 100000) (ha : a.length ≤ 1000000) :
    Calls Tryz.prog 136 #[.pointer (some ⟨rb, 0, none⟩), .string (str o), .string (str a)] w fun e w' => e = .returned (.int .i64 (Hp.testA k [o, a])) ∧ Below w.heap.size w w' := by
  have hsa : (str a).size ≤ 1000000 := by rw [← bs_len, bs_str]; exact ha
  rw [← tp_is]
  cases hj : Hp.joinP k.d a with
  | none => exact tp_none w (str o) (str a) _ _ _ (str_eq _ _) (str_eq _ _) (str_eq _ _) hR hd hsa (Lib.hid hj)
  | some p => exact tp_some w (str o) (str a) p _ _ _ _ (str_eq _ _) (str_eq _ _) (str_eq _ _) hR hd hsa (Lib.hid hj) (Lib.hid rfl)

set_option maxHeartbeats 4000000 in
theorem test_any (w : World) (k : Hp.K) (v : Value) (l : List Bs) (h0 : k.code = 0) (hR : RunAt w rb sb bm k st ran pv bv) (hd : k.d.length ≤ 100000) (hv : Ws w rb sb bm v l) (hl : Hp.wtL l ≤ 100000) (hll : l.length ≤ 1000000) :
    Calls Tryz.prog 85 #[.pointer (some ⟨rb, 0, none⟩), v] w (DoPost w rb sb bm st ran pv bv (k, Hp.testA k l)) := by
  have hlt := hR.lt
  obtain ⟨a, c, rfl, hc⟩ := Px.Rg.shape hv
  have HR := Lib.hid hR
  have D0 : Below w.heap.size w w.drew := (Below.refl _ _).drew
  match l, hv, hl, hc, hll with
  | [], hv, _, _, _ =>
    go_enter Tryz.func85, Tryz.ntmps85
    go_wp2_with fail
    go_ret
    exact .ok (r := (k, 2)) h0 hR (.refl _ _)
  | [x], hv, _, hc, _ =>
    obtain ⟨b, o, rfl, _, hb, hx⟩ := Ws.cell hv (by simp)
    have e0 : w.cell? ⟨b, o, none⟩ = some (.string (str x)) := hx 0 (by simp)
    have hc1 : 1 ≤ c := hc
    obtain ⟨g, hg⟩ : ∃ g, (x == []) = g := ⟨_, rfl⟩
    have q : ((str x).toList == []) = g := (str_eq x []).trans hg
    have HE : Hid (Hp.testA k [x] = Hp.truth (!g)) := Lib.hid (by rw [← hg]; cases x <;> rfl)
    clear hx hc hv hg hR
    cases g
    all_goals go_enter Tryz.func85, Tryz.ntmps85
    all_goals go_wp2_with (go_at_call 130; refine (truth_any _ _).mono ?_; rintro e w2 ⟨rfl, rfl⟩)
    all_goals go_ret
    all_goals rw [HE.out]
    · exact .ok (r := (k, Hp.truth (!false))) h0 HR.out (.refl _ _)
    · exact .ok (r := (k, Hp.truth (!true))) h0 HR.out (.refl _ _)
  | [x, y], hv, hl, hc, _ =>
    obtain ⟨b, o, rfl, _, hb, hx⟩ := Ws.cell hv (by simp)
    have e0 : w.cell? ⟨b, o, none⟩ = some (.string (str x)) := hx 0 (by simp)
    have e1 : w.cell? ⟨b, o + 1, none⟩ = some (.string (str y)) := hx 1 (by simp)
    have hc1 : 2 ≤ c := hc
    have hy : y.length ≤ 1000000 := by have e : Hp.wtL [x, y] = (x.length + 2) + ((y.length + 2) + 0) := rfl; omega
    have HT := Lib.hid (testPath_any w.drew x y (hR.below D0) hd hy)
    clear hx hc hv hR
    go_enter Tryz.func85, Tryz.ntmps85
    go_wp2_with fail
    go_still_tail 7, (by kernel_rfl)
    change wpList _ _ _ _ _ w.drew
    generalize w.drew = wd at *
    go_wp2_with (go_at_call 136; refine HT.out.mono ?_; rintro e w2 ⟨rfl, B2⟩)
    go_ret
    exact .ok (r := (k, _)) h0 ((HR.out.below D0).below B2) ((Kept.of_below D0).below B2)
  | [x, y, z], hv, _, hc, _ =>
    obtain ⟨b, o, rfl, _, hb, hx⟩ := Ws.cell hv (by simp)
    have e0 : w.cell? ⟨b, o, none⟩ = some (.string (str x)) := hx 0 (by simp)
    have e1 : w.cell? ⟨b, o + 1, none⟩ = some (.string (str y)) := hx 1 (by simp)
    have e2 : w.cell? ⟨b, o + 2, none⟩ = some (.string (str z)) := hx 2 (by simp)
    have hc1 : 3 ≤ c := hc
    obtain ⟨g, hg⟩ : ∃ g, (x == z) = g := ⟨_, rfl⟩
    have q : ((str x).toList == (str z).toList) = g := by rw [Lib.toList_data, Lib.toList_data]; exact hg
    have qn : ((str x).toList != (str z).toList) = !g := by rw [bne, q]
    obtain ⟨g1, hg1⟩ : ∃ g1, (y == [61]) = g1 := ⟨_, rfl⟩
    have q1 : ((str y).toList == [61]) = g1 := (str_eq y _).trans hg1
    obtain ⟨g2, hg2⟩ : ∃ g2, (y == [33, 61]) = g2 := ⟨_, rfl⟩
    have q2 : ((str y).toList == [33, 61]) = g2 := (str_eq y _).trans hg2
    have HE : Hid (Hp.testA k [x, y, z] = if g1 = true then Hp.truth g else if g2 = true then Hp.truth (!g) else 2) := Lib.hid (by
      unfold Hp.testA
      simp only [← hg, ← hg1, ← hg2, beq_iff_eq])
    clear hx hc hv hg hR hg1 hg2
    cases g1 <;> cases g2 <;> cases g
    all_goals go_enter Tryz.func85, Tryz.ntmps85
    all_goals go_wp2_with fail
    all_goals try go_still_tail 7, (by kernel_rfl)
    all_goals first
      | (change wpList _ _ _ _ _ w.drew
         generalize w.drew = wd at *
         go_wp2_with (go_at_call 130; refine (truth_any _ _).mono ?_; rintro e w2 ⟨rfl, rfl⟩)
         go_ret
         rw [HE.out]
         exact DoPost.ok (r := (k, _)) h0 (HR.out.below D0) (.of_below D0))
      | (go_ret
         rw [HE.out]
         exact DoPost.ok (r := (k, _)) h0 HR.out (.refl _ _))
  | x :: y :: z :: u :: r, hv, _, _, hll =>
    have HE : Hid (Hp.testA k (x :: y :: z :: u :: r) = 2) := Lib.hid rfl
    obtain ⟨n, hn⟩ : ∃ n, (x :: y :: z :: u :: r).length = n := ⟨_, rfl⟩
    have h4 : 4 ≤ n := by rw [← hn]; simp
    rw [hn]
    have q1 : ((n : Int) == 1) = false := by rw [beq_eq_false_iff_ne]; omega
    have q2 : ((n : Int) == 2) = false := by rw [beq_eq_false_iff_ne]; omega
    have q3 : ((n : Int) == 3) = false := by rw [beq_eq_false_iff_ne]; omega
    clear hv hn hll
    go_enter Tryz.func85, Tryz.ntmps85
    go_wp2_with fail
    go_ret
    rw [HE.out]
    exact DoPost.ok (r := (k, 2)) h0 hR (.refl _ _)
end
end Go.Proofs.YteommneijlelkaaGreatDoor.Hx
