/-
  The document's Dir, Base and In (flatironref01), for every string that fits into memory.
-/
import Derived.Test.YtmmilnmlmgcobaaGreatDoorDirs
namespace Go.Proofs.YtmmilnmlmgcobaaGreatDoor
open Go.RowKit
set_option maxRecDepth 100000

theorem tot_small {ps : List ByteArray} {s : ByteArray} (h : ps.map bs = Pt.parts (bs s)) (hs : s.size ≤ 900000) : tot ps ≤ 1000000 ∧ ps.length ≤ 1000000 := by
  have h1 := tot_parts h
  have h2 := len_tot ps
  omega

set_option maxHeartbeats 400000 in
theorem RDir_any (w : World) (s : ByteArray) (hs : s.size ≤ 900000) :
    Calls Tryz.prog 23 #[.string s] w fun e w' => e = .returned (.string (str (Pt.text (Pt.parts (bs s)).dropLast))) ∧ Below w.heap.size w w' := by
  go_enter Tryz.func23, Tryz.ntmps23
  go_wp2_with fail
  refine (Split_any _ s (by omega)).mono ?_
  rintro e w1 ⟨ps, a, c, rfl, hps, hr, B1⟩
  obtain ⟨ht, hl⟩ := tot_small hps hs
  rcases List.eq_nil_or_concat ps with rfl | ⟨L, x, hL⟩
  · have HD : Hid (Pt.text (Pt.parts (bs s)).dropLast = [46]) := Lib.hid (by rw [← hps]; rfl)
    clear hps
    go_wp2
    go_ret
    exact ⟨by rw [HD.out]; rfl, B1⟩
  · rw [List.concat_eq_append] at hL
    subst hL
    have HD : Hid (Pt.text (Pt.parts (bs s)).dropLast = Pt.text (L.map bs)) := Lib.hid (by rw [← hps]; simp)
    have hr2 := owns_popS hr
    obtain ⟨g, c2, e2, hc, hm⟩ := owns_some hr (by simp)
    cases e2
    have hlen : (L ++ [x]).length = L.length + 1 := by simp
    rw [hlen] at hc hl
    rw [hlen]
    have hz : (((L.length : Int) + 1) == 0) = false := by rw [beq_eq_false_iff_ne]; omega
    unfold maxLen at hm
    rw [tot_snoc] at ht
    clear hps hlen hr
    go_wp2_with (go_at_call 58; go_must (refine (Text_any _ _ L (strs_own hr2) (by omega) (by omega)).mono ?_); rintro e w' ⟨rfl, rfl⟩)
    go_ret
    exact ⟨by rw [HD.out]; rfl, B1⟩

/-- The last part. -/
def lastOf (l : List (List UInt8)) : List UInt8 := if l = [] then [46] else l.getLast?.getD []

set_option maxHeartbeats 400000 in
theorem RBase_any (w : World) (s : ByteArray) (hs : s.size ≤ 900000) :
    Calls Tryz.prog 75 #[.string s] w fun e w' => e = .returned (.string (str (lastOf (Pt.parts (bs s))))) ∧ Below w.heap.size w w' := by
  go_enter Tryz.func75, Tryz.ntmps75
  go_wp2_with fail
  refine (Split_any _ s (by omega)).mono ?_
  rintro e w1 ⟨ps, a, c, rfl, hps, hr, B1⟩
  obtain ⟨ht, hl⟩ := tot_small hps hs
  rcases List.eq_nil_or_concat ps with rfl | ⟨L, x, hL⟩
  · have HD : Hid (lastOf (Pt.parts (bs s)) = [46]) := Lib.hid (by rw [← hps]; rfl)
    clear hps
    go_wp2
    go_ret
    exact ⟨by rw [HD.out]; rfl, B1⟩
  · rw [List.concat_eq_append] at hL
    subst hL
    have HD : Hid (str (lastOf (Pt.parts (bs s))) = x) := Lib.hid (by rw [← hps, List.map_append, List.map_singleton, lastOf, if_neg (by simp)]; simp [str_bs])
    obtain ⟨g, c2, e2, hc, hm⟩ := owns_some hr (by simp)
    cases e2
    have hlen : (L ++ [x]).length = L.length + 1 := by simp
    have hcell : w1.cell? ⟨g, L.length, none⟩ = some (.string x) := by
      have := cell_str hr (j := L.length) (by rw [hlen]; omega)
      simpa using this
    rw [hlen] at hc hl
    rw [hlen]
    have hz : (((L.length : Int) + 1) == 0) = false := by rw [beq_eq_false_iff_ne]; omega
    unfold maxLen at hm
    clear hps hlen hr
    go_wp2
    go_ret
    exact ⟨by rw [HD.out]; rfl, B1⟩

theorem prefix_drop {a b : List (List UInt8)} {k : Nat} {x y : List UInt8} {l r : List (List UInt8)} (ha : a.drop k = x :: l) (hb : b.drop k = y :: r) : (b.drop k).isPrefixOf (a.drop k) = (y == x && r.isPrefixOf l) := by
  rw [ha, hb]; rfl

set_option maxHeartbeats 1000000 in
theorem RIn_any (w : World) (p d : ByteArray) (hp : p.size ≤ 900000) (hd : d.size ≤ 900000) :
    Calls Tryz.prog 68 #[.string p, .string d] w fun e w' => e = .returned (.bool ((Pt.parts (bs d)).isPrefixOf (Pt.parts (bs p)))) ∧ Below w.heap.size w w' := by
  go_enter Tryz.func68, Tryz.ntmps68
  go_wp2_with fail
  refine (Split_any _ p (by omega)).mono ?_
  rintro e w1 ⟨ta, a1, c1, rfl, hta, o1, B1⟩
  go_wp2_with fail
  refine (Split_any _ d (by omega)).mono ?_
  rintro e w2 ⟨tb, a2, c2, rfl, htb, o2, B2⟩
  have o1' := owns_below o1 B2
  obtain ⟨_, lta⟩ := tot_small hta hp
  obtain ⟨_, ltb⟩ := tot_small htb hd
  have B12 : Below w.heap.size w w2 := B1.trans (B2.mono B1.size)
  have HR : Hid ((Pt.parts (bs d)).isPrefixOf (Pt.parts (bs p)) = (tb.map bs).isPrefixOf (ta.map bs)) := Lib.hid (by rw [hta, htb])
  clear hta htb o1 B1 B2
  go_wp2_with fail
  go_loopw [7] (fun i wr => ∃ k : Nat, i = .int .i64 k ∧ k ≤ ta.length ∧ k ≤ tb.length ∧ ((tb.map bs).drop k).isPrefixOf ((ta.map bs).drop k) = (tb.map bs).isPrefixOf (ta.map bs) ∧ wr.heap = w2.heap ∧ Below w.heap.size w wr) (fun i _ => tb.length - (intOf i).toNat)
  case atStart => exact ⟨0, rfl, Nat.zero_le _, Nat.zero_le _, rfl, rfl, B12⟩
  case round =>
    obtain ⟨k, rfl, hka, hkb, hcm, hheap, hB⟩ := hrel
    have r1 := owns_heap hheap o1'
    have r2 := owns_heap hheap o2
    have HH := Lib.hid hheap
    have HCM := Lib.hid hcm
    clear hheap hcm o1' o2
    by_cases h2 : k < tb.length
    · by_cases h1 : k < ta.length
      · obtain ⟨g1, c1', e1, _, _⟩ := owns_some r1 (by omega)
        cases e1
        obtain ⟨g2, c2', e2, _, _⟩ := owns_some r2 (by omega)
        cases e2
        have d1 := cell_str r1 h1
        have d2 := cell_str r2 h2
        have hcm := HCM.out
        rw [prefix_drop (drop_map_cons h1) (drop_map_cons h2)] at hcm
        generalize ta[k]?.getD ByteArray.empty = x at *
        generalize tb[k]?.getD ByteArray.empty = y at *
        have i1 : (k : Int) < ta.length := by omega
        have i2 : (k : Int) < tb.length := by omega
        have i3 : decide (ta.length ≤ k) = false := by simp; omega
        by_cases h3 : (x.toList == y.toList) = true
        · have hxy : bs x = bs y := by have := eq_of_beq h3; rw [Lib.toList_data, Lib.toList_data] at this; exact this
          rw [hxy, beq_self_eq_true, Bool.true_and] at hcm
          have HC2 := Lib.hid hcm
          clear hcm HCM hxy
          go_wp2
          go_quiet (fail)
          go_wp2
          go_roundw
          case rel => exact ⟨k + 1, by go_num, h1, h2, HC2.out, HH.out, below_drewN hB nq⟩
          case measure => simp [intOf] <;> omega
        · have h3' : (x.toList == y.toList) = false := by simpa using h3
          have hxy : (bs y == bs x) = false := by rw [beq_eq_false_iff_ne]; intro e; rw [Lib.toList_data, Lib.toList_data] at h3; exact h3 (beq_iff_eq.2 e.symm)
          rw [hxy, Bool.false_and] at hcm
          have HF : Hid ((Pt.parts (bs d)).isPrefixOf (Pt.parts (bs p)) = false) := Lib.hid (by rw [HR.out]; exact hcm.symm)
          clear hcm HCM hxy h3
          go_wp2
          go_quiet (fail)
          go_wp2
          go_ret
          exact ⟨by rw [HF.out]; rfl, below_drewN hB nq⟩
      · have i3 : decide (ta.length ≤ k) = true := by simp; omega
        have i2 : (k : Int) < tb.length := by omega
        have HF : Hid ((Pt.parts (bs d)).isPrefixOf (Pt.parts (bs p)) = false) := Lib.hid (by
          have e2 : (ta.map bs).drop k = [] := List.drop_of_length_le (by rw [List.length_map]; omega)
          rw [HR.out, ← HCM.out, e2, drop_map_cons h2]; rfl)
        clear HCM
        go_wp2
        go_quiet (fail)
        go_wp2
        go_ret
        exact ⟨by rw [HF.out]; rfl, below_drewN hB nq⟩
    · have hge : ¬ (k : Int) < tb.length := by omega
      have HT : Hid ((Pt.parts (bs d)).isPrefixOf (Pt.parts (bs p)) = true) := Lib.hid (by
        have e2 : (tb.map bs).drop k = [] := List.drop_of_length_le (by rw [List.length_map]; omega)
        rw [HR.out, ← HCM.out, e2]; rfl)
      clear HCM
      go_wp2
      go_ret
      exact ⟨by rw [HT.out]; rfl, hB⟩
end Go.Proofs.YtmmilnmlmgcobaaGreatDoor
