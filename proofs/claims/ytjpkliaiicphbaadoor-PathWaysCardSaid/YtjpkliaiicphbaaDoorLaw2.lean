/-
  The law of layer 1 on paths and ways: for every two strings that can be read it returns true; nothing that lay before has turned.
-/
import Derived.Test.YtjpkliaiicphbaaDoorRefDirs
import Derived.Test.YtjpkliaiicphbaaDoorLaw
namespace Go.Proofs.YtjpkliaiicphbaaDoor
open Go.RowKit
set_option maxRecDepth 100000

theorem text_len {ss : List ByteArray} {q : List UInt8} (h : Pt.join (ss.map bs) = some q) (hs : tot ss ≤ 1000) : (str q).size ≤ 2000 := by
  have := join_len h
  rw [← bs_len, bs_str]; omega

/-- What is known of a path that the document's Join has made. -/
structure PathOf (p : ByteArray) (P : List (List UInt8)) : Prop where
  good : ∀ x ∈ P, Pt.Good x
  text : bs p = Pt.text P
  small : p.size ≤ 2000
theorem PathOf.parts {p : ByteArray} {P : List (List UInt8)} (h : PathOf p P) : Pt.parts (bs p) = P := by rw [h.text, Pt.parts_text h.good]
theorem PathOf.len {p : ByteArray} {P : List (List UInt8)} (h : PathOf p P) : P.length ≤ 2001 := by
  have h1 := cost_filter (Pt.pieces (bs p)) Pt.says
  have h2 := len_cost (Pt.parts (bs p))
  rw [cost_pieces, bs_len] at h1
  rw [h.parts] at h2
  have h3 : Pt.parts (bs p) = (Pt.pieces (bs p)).filter Pt.says := rfl
  rw [← h3, h.parts] at h1
  have := h.small
  omega

theorem pathOf_join {s : ByteArray} {q : List UInt8} (h : Pt.join ([s].map bs) = some q) (hs : s.size ≤ 900) : ∃ P, PathOf (str q) P := by
  obtain ⟨P, _, hg, rfl⟩ := Pt.join_some h
  exact ⟨P, hg, rfl, text_len h (by rw [tot_one]; omega)⟩

theorem Dir_path {p : ByteArray} {P : List (List UInt8)} (h : PathOf p P) (w : World) : Calls Tryd.prog 10 #[.string p] w fun e w' => e = .returned (.string (str (Pt.text P.dropLast))) ∧ w = w' := by
  have := Dir_any w p (by have := h.small; omega)
  rwa [h.text, dirL_text h.good] at this
theorem RDir_path {p : ByteArray} {P : List (List UInt8)} (h : PathOf p P) (w : World) : Calls Tryd.prog 11 #[.string p] w fun e w' => e = .returned (.string (str (Pt.text P.dropLast))) ∧ Below w.heap.size w w' := by
  have := RDir_any w p (by have := h.small; omega)
  rwa [h.parts] at this
theorem Base_path {p : ByteArray} {P : List (List UInt8)} (h : PathOf p P) (w : World) : Calls Tryd.prog 12 #[.string p] w fun e w' => e = .returned (.string (str (lastOf P))) ∧ w = w' := by
  have := Base_any w p (by have := h.small; omega)
  rwa [h.text, baseL_text h.good] at this
theorem RBase_path {p : ByteArray} {P : List (List UInt8)} (h : PathOf p P) (w : World) : Calls Tryd.prog 13 #[.string p] w fun e w' => e = .returned (.string (str (lastOf P))) ∧ Below w.heap.size w w' := by
  have := RBase_any w p (by have := h.small; omega)
  rwa [h.parts] at this
theorem In_path {p q : ByteArray} {P Q : List (List UInt8)} (h : PathOf p P) (k : PathOf q Q) (w : World) : Calls Tryd.prog 14 #[.string p, .string q] w fun e w' => e = .returned (.bool (Q.isPrefixOf P)) ∧ w = w' := by
  have := In_any w p q
  rwa [h.text, k.text, inL_text h.good k.good] at this
theorem RIn_path {p q : ByteArray} {P Q : List (List UInt8)} (h : PathOf p P) (k : PathOf q Q) (w : World) : Calls Tryd.prog 15 #[.string p, .string q] w fun e w' => e = .returned (.bool (Q.isPrefixOf P)) ∧ Below w.heap.size w w' := by
  have := RIn_any w p q (by have := h.small; omega) (by have := k.small; omega)
  rwa [h.parts, k.parts] at this
theorem To_path {p q wy : ByteArray} {P Q : List (List UInt8)} (h : PathOf p P) (k : PathOf q Q) (hw : bs wy = Pt.text (wayParts P Q)) (w : World) (m : Int) (hm : w.cell? ⟨0, 0, none⟩ = some (.int .i64 m)) (hw0 : 0 < w.heap.size) :
    Calls Tryd.prog 9 #[.string p, .string q] w fun e w' => e = .returned (.string wy) ∧ Below w.heap.size w w' := by
  have := To_any w m hm hw0 p q (by have := h.small; omega) (by have := k.small; omega)
  rwa [h.text, k.text, way_text h.good k.good, ← hw, str_bs] at this
theorem Split_path (w : World) (s : ByteArray) (S : List (List UInt8)) (hS : Pt.parts (bs s) = S) (hs : s.size ≤ 1000000) :
    Calls Tryd.prog 16 #[.string s] w fun e w' => ∃ (out : List ByteArray) (a : Option Addr) (c : Nat), e = .returned (.slice a out.length c) ∧ out.map bs = S ∧ w'.ownsRow w.heap.size 9 1 (.slice a out.length c) out.length (strC out) ∧ Below w.heap.size w w' := by
  have := Split_any w s hs
  rwa [hS] at this

theorem inter_len' (l : List (List UInt8)) : (Pt.text l).length ≤ cost l + 1 := by
  have := inter_len l
  unfold Pt.text
  split
  · simp
  · omega
theorem len_bs (l : List ByteArray) : (l.map bs).length = l.length := List.length_map _
theorem cost_app (a b : List (List UInt8)) : cost (a ++ b) = cost a + cost b := by unfold cost; rw [List.map_append, List.sum_append]
theorem way_cost (P Q : List (List UInt8)) : cost (wayParts P Q) ≤ 3 * Q.length + cost P := by
  unfold wayParts
  have e1 : cost (List.replicate (Q.length - common P Q) [46, 46]) = (Q.length - common P Q) * 3 := by simp [cost]
  have e2 : cost P = cost (P.take (common P Q)) + cost (P.drop (common P Q)) := by
    rw [← cost_app, List.take_append_drop]
  have e3 : cost (List.replicate (Q.length - common P Q) [46, 46] ++ P.drop (common P Q)) = cost (List.replicate (Q.length - common P Q) [46, 46]) + cost (P.drop (common P Q)) := cost_app _ _
  rw [e3, e1]; omega
theorem PathOf.cost_le {p : ByteArray} {P : List (List UInt8)} (h : PathOf p P) : cost P ≤ 2001 := by
  have h1 := cost_filter (Pt.pieces (bs p)) Pt.says
  rw [cost_pieces, bs_len] at h1
  have h3 : Pt.parts (bs p) = (Pt.pieces (bs p)).filter Pt.says := rfl
  rw [← h3, h.parts] at h1
  have := h.small
  omega

theorem Text_way {w : World} {base : Nat} {v : Value} {ro : List ByteArray} {wy : ByteArray} {L : List (List UInt8)} (hwy : Hid (bs wy = Pt.text L)) (hro : Hid (ro.map bs = L)) (h : w.ownsRow base 9 1 v ro.length (strC ro)) (hn : cost L ≤ 100000) :
    Calls Tryd.prog 17 #[v] w fun e w' => e = .returned (.string wy) ∧ w = w' := by
  have h1 : tot ro ≤ 100000 := by rw [tot_cost, hro.out]; exact hn
  have h2 := len_tot ro
  have := Text_any w v ro (strs_own h) (by omega) (by omega)
  rwa [hro.out, ← hwy.out, str_bs] at this

set_option maxHeartbeats 1000000 in
theorem PathWays_any (w : World) (m : Int) (hm : w.cell? ⟨0, 0, none⟩ = some (.int .i64 m)) (hw0 : 0 < w.heap.size) (a b : ByteArray) (ha : a.size ≤ 140737488355328) (hb : b.size ≤ 140737488355328) :
    Calls Tryd.prog 4 #[.string a, .string b] w fun e w' => e = .returned (.bool true) ∧ Below w.heap.size w w' := by
  have HM := Lib.hid hm
  clear hm
  by_cases hbig : 600 < a.size + b.size
  · go_enter Tryd.func4, Tryd.ntmps4
    go_wp2_with fail
    refine (lives_any w m HM.out hw0).mono ?_
    rintro e w1 ⟨rfl, B1⟩
    have HM1 : w1.cell? ⟨0, 0, none⟩ = some (.int .i64 m) := (B1.cell (p := ⟨0, 0, none⟩) hw0).trans HM.out
    have hl := Lib.hid (lives_any w1 m HM1 (Nat.lt_of_lt_of_le hw0 B1.size))
    go_wp2_with (go_at_call 5; go_must (refine hl.out.mono ?_); rintro e w2 ⟨rfl, B2⟩)
    go_ret
    exact ⟨rfl, B1.trans (B2.mono B1.size)⟩
  · go_enter Tryd.func4, Tryd.ntmps4
    go_wp2_with fail
    refine (lives_any w m HM.out hw0).mono ?_
    rintro e w1 ⟨rfl, B1⟩
    go_wp2_with fail
    have sa := strs_one w1 a 1
    have Ba := B1.alloc B1.size (.cells #[.string a] 9)
    cases hja : Pt.join ([a].map bs) with
    | none =>
      have HA := Lib.hid hja
      refine (RJoin_no _ _ [a] sa (by rw [tot_one]; omega) HA).mono ?_
      rintro e w2 ⟨rfl, B2⟩
      have B02 := Ba.trans (B2.mono Ba.size)
      go_wp2_with fail
      have sb := strs_one w2 b 1
      have Bb := B02.alloc B02.size (.cells #[.string b] 9)
      cases hjb : Pt.join ([b].map bs) with
      | none =>
        have HB := Lib.hid hjb
        refine (RJoin_no _ _ [b] sb (by rw [tot_one]; omega) HB).mono ?_
        rintro e w3 ⟨rfl, B3⟩
        go_wp2_with fail
        go_ret
        exact ⟨rfl, Bb.trans (B3.mono Bb.size)⟩
      | some q =>
        have HB := Lib.hid hjb
        refine (RJoin_yes _ _ [b] q sb (by rw [tot_one]; omega) HB).mono ?_
        rintro e w3 ⟨rfl, B3⟩
        go_wp2_with fail
        go_ret
        exact ⟨rfl, Bb.trans (B3.mono Bb.size)⟩
    | some pl =>
      have HA := Lib.hid hja
      refine (RJoin_yes _ _ [a] pl sa (by rw [tot_one]; omega) HA).mono ?_
      rintro e w2 ⟨rfl, B2⟩
      have B02 := Ba.trans (B2.mono Ba.size)
      go_wp2_with fail
      have sb := strs_one w2 b 1
      have Bb := B02.alloc B02.size (.cells #[.string b] 9)
      cases hjb : Pt.join ([b].map bs) with
      | none =>
        have HB := Lib.hid hjb
        refine (RJoin_no _ _ [b] sb (by rw [tot_one]; omega) HB).mono ?_
        rintro e w3 ⟨rfl, B3⟩
        go_wp2_with fail
        go_ret
        exact ⟨rfl, Bb.trans (B3.mono Bb.size)⟩
      | some ql =>
        have HB := Lib.hid hjb
        refine (RJoin_yes _ _ [b] ql sb (by rw [tot_one]; omega) HB).mono ?_
        rintro e w3 ⟨rfl, B3⟩
        have B03 := Bb.trans (B3.mono Bb.size)
        obtain ⟨P, hP⟩ := pathOf_join hja (by omega)
        obtain ⟨Q, hQ⟩ := pathOf_join hjb (by omega)
        clear HA HB hja hjb sa sb Ba Bb B1 B2 B3 B02
        generalize str pl = p at *
        generalize str ql = q at *
        obtain ⟨wy, hwy⟩ : ∃ wy, Hid (bs wy = Pt.text (wayParts P Q)) := ⟨str (Pt.text (wayParts P Q)), Lib.hid rfl⟩
        have HM3 : w3.cell? ⟨0, 0, none⟩ = some (.int .i64 m) := (B03.cell (p := ⟨0, 0, none⟩) hw0).trans HM.out
        go_wp2_with fail
        refine (To_path hP hQ hwy.out w3 m HM3 (Nat.lt_of_lt_of_le hw0 B03.size)).mono ?_
        rintro e w4 ⟨rfl, B4⟩
        have B04 := B03.trans (B4.mono B03.size)
        clear HM3 B03 B4
        go_wp2_with fail
        have hwl : wy.size ≤ 10000 := by
          have h1 := inter_len' (wayParts P Q)
          rw [← hwy.out, bs_len] at h1
          have h2 := way_cost P Q
          have h3 := hP.cost_le
          have h4 := hQ.len
          omega
        have hqs := hQ.small
        have sj := strs_two w4 q wy 2
        have Bj := B04.alloc B04.size (.cells #[.string q, .string wy] 9)
        refine (Join_yes _ _ [q, wy] (Pt.text P) sj (by simp) (by simp [tot]; omega) (Lib.hid (by
          rw [List.map_cons, List.map_singleton, hQ.text, hwy.out]; exact join_way hP.good hQ.good))).mono ?_
        rintro e w5 ⟨rfl, B5⟩
        have B05 := Bj.trans (B5.mono Bj.size)
        have hpp : str (Pt.text P) = p := by rw [← hP.text, str_bs]
        rw [hpp]
        clear sj Bj B5 B04 hpp
        go_wp2_with fail
        refine (Dir_path hP w5).mono ?_
        rintro e w' ⟨rfl, rfl⟩
        go_wp2_with fail
        refine (RDir_path hP w5).mono ?_
        rintro e w6 ⟨rfl, B6⟩
        have B06 := B05.trans (B6.mono B05.size)
        clear B6 B05
        go_wp2_with fail
        refine (Base_path hP w6).mono ?_
        rintro e w' ⟨rfl, rfl⟩
        go_wp2_with fail
        refine (RBase_path hP w6).mono ?_
        rintro e w7 ⟨rfl, B7⟩
        have B07 := B06.trans (B7.mono B06.size)
        clear B7 B06
        go_wp2_with fail
        refine (In_path hP hQ w7).mono ?_
        rintro e w' ⟨rfl, rfl⟩
        go_wp2_with fail
        refine (RIn_path hP hQ w7).mono ?_
        rintro e w8 ⟨rfl, B8⟩
        have B08 := B07.trans (B8.mono B07.size)
        clear B8 B07
        go_wp2_with fail
        refine (Split_path w8 wy (wayParts P Q) (by rw [hwy.out, parts_text' (step_way hP.good)]) (by omega)).mono ?_
        rintro e w9 ⟨ro, a9, c9, rfl, hro, o9, B9⟩
        have B09 := B08.trans (B9.mono B08.size)
        have HRO := Lib.hid hro
        obtain ⟨u, hu⟩ : ∃ u, Hid (Q.length - common P Q = u) := ⟨_, Lib.hid rfl⟩
        have hlr : ro.length = u + (P.length - common P Q) := by rw [← hu.out, ← way_len, ← hro, List.length_map]
        have HLR := Lib.hid hlr
        have HCL := Lib.hid (common_le P Q)
        have hlb : ro.length ≤ 5000 ∧ P.length ≤ 2001 ∧ Q.length ≤ 2001 := by
          have := hP.len
          have := hQ.len
          have := hu.out
          omega
        have hur : u ≤ ro.length := by omega
        obtain ⟨hlb, hPl, hQl⟩ := hlb
        have hcw : cost (wayParts P Q) ≤ 100000 := by
          have := way_cost P Q
          have := hP.cost_le
          omega
        clear hro B9 B08 hlr
        go_wp2_with fail
        go_loopw [12] (fun i wr => ∃ k : Nat, i = .int .i64 k ∧ k ≤ u ∧ wr.heap = w9.heap ∧ Below w.heap.size w wr) (fun i _ => ro.length - (intOf i).toNat)
        case atStart => exact ⟨0, rfl, Nat.zero_le _, rfl, B09⟩
        case round =>
          obtain ⟨k, rfl, hk, hheap, hB⟩ := hrel
          have r9 := owns_heap hheap o9
          have HH := Lib.hid hheap
          clear hheap o9 B09
          by_cases h1 : k < ro.length
          · obtain ⟨g9, c9', e1, _, _⟩ := owns_some r9 (by omega)
            cases e1
            have d1 := cell_str r9 h1
            have hx : (wayParts P Q)[k]? = some (bs (ro[k]?.getD ByteArray.empty)) := by
              rw [← HRO.out, List.getElem?_map, List.getElem?_eq_getElem h1]; rfl
            have hup := Lib.hid (way_up hP.good hx)
            clear hx
            generalize ro[k]?.getD ByteArray.empty = x at *
            have i1 : (k : Int) < ro.length := by omega
            by_cases h3 : (x.toList == [46, 46]) = true
            · have hxy : bs x = [46, 46] := bs_is h3
              have hk2 : k < u := by have := hup.out.1 hxy; have := hu.out; omega
              clear hxy hup
              go_wp2
              go_roundw
              case rel => exact ⟨k + 1, by go_num, hk2, HH.out, hB⟩
              case measure => simp [intOf] <;> omega
            · have h3' : (x.toList == [46, 46]) = false := by simpa using h3
              have hxy : ¬ bs x = [46, 46] := bs_not h3'
              have hk2 : Hid (k = u) := Lib.hid (by have := mt hup.out.2 hxy; have := hu.out; omega)
              clear hxy hup h3
              go_wp2_with fail
              clear d1 i1 h1 h3'
              refine (Split_path wr q Q (by rw [hQ.text, Pt.parts_text hQ.good]) (by omega)).mono ?_
              rintro e wq ⟨tq, aq, cq, rfl, htq, oq, Bq⟩
              have ltq : tq.length = Q.length := by rw [← htq, List.length_map]
              have r9q := owns_below r9 Bq
              have hBq := hB.trans (Bq.mono hB.size)
              clear r9 hB Bq oq htq HH
              go_wp2_with fail
              obtain ⟨C, hC⟩ : ∃ C, Hid (common P Q = C) := ⟨_, Lib.hid rfl⟩
              have hps := hP.small
              rw [show (Q.length : Int) - (k : Int) = (C : Int) by have := hk2.out; have := hu.out; have := hC.out; have := HCL.out; omega]
              refine (Split_path wq p P (by rw [hP.text, Pt.parts_text hP.good]) (by omega)).mono ?_
              rintro e wl ⟨tl, al, cl, rfl, htl, ol, Bl⟩
              have ltl : tl.length ≤ 2001 := by rw [← List.length_map (f := bs), htl]; omega
              have r9l := owns_below r9q Bl
              have hBl := hBq.trans (Bl.mono hBq.size)
              have HTL := Lib.hid htl
              clear r9q hBq Bl htl
              go_wp2_with fail
              refine (Split_path wl q Q (by rw [hQ.text, Pt.parts_text hQ.good]) (by omega)).mono ?_
              rintro e wm ⟨tm, am, cm, rfl, htm, om, Bm⟩
              have ltm : tm.length ≤ 2001 := by rw [← List.length_map (f := bs), htm]; omega
              have hCl : C ≤ tl.length ∧ C ≤ tm.length := by rw [← len_bs tl, HTL.out, ← len_bs tm, htm, ← hC.out]; exact HCL.out
              obtain ⟨hCl1, hCl2⟩ := hCl
              have hsum : Hid (C + ro.length = tl.length + k) := Lib.hid (by rw [← len_bs tl, HTL.out]; have := hk2.out; have := HLR.out; have := hC.out; have := HCL.out; omega)
              have hsi : (C : Int) + ro.length - k = tl.length := by have := hsum.out; omega
              have hC0 : (0 : Int) ≤ C := by omega
              have r9m := owns_below r9l Bm
              have ol' := owns_below ol Bm
              have hBm := hBl.trans (Bm.mono hBl.size)
              have HTM := Lib.hid htm
              clear r9l ol hBl Bm htm
              by_cases hc1 : C < tl.length
              · by_cases hc2 : C < tm.length
                · obtain ⟨gl, cl', el, _, _⟩ := owns_some ol' (by omega)
                  cases el
                  obtain ⟨gm, cm', em, _, _⟩ := owns_some om (by omega)
                  cases em
                  have dl := cell_str ol' hc1
                  have dm := cell_str om hc2
                  have hne : bs (tl[C]?.getD ByteArray.empty) ≠ bs (tm[C]?.getD ByteArray.empty) := by
                    refine common_max P Q _ _ ?_ ?_
                    · rw [hC.out, ← HTL.out, List.getElem?_map, List.getElem?_eq_getElem hc1]; rfl
                    · rw [hC.out, ← HTM.out, List.getElem?_map, List.getElem?_eq_getElem hc2]; rfl
                  generalize tl[C]?.getD ByteArray.empty = xl at *
                  generalize tm[C]?.getD ByteArray.empty = xm at *
                  have hne2 : (xl.toList == xm.toList) = false := by
                    rw [beq_eq_false_iff_ne]; intro e; rw [Lib.toList_data, Lib.toList_data] at e; exact hne e
                  have i1 : (C : Int) < tl.length := by omega
                  have i2 : (C : Int) < tm.length := by omega
                  clear hne
                  go_wp2_with fail
                  go_quiet (fail)
                  go_wp2_with fail
                  refine (Text_way hwy HRO (owns_heap (w' := wm.drewN nq) rfl r9m) hcw).mono ?_
                  rintro e w' ⟨rfl, rfl⟩
                  go_wp2
                  go_ret
                  exact ⟨rfl, below_drewN hBm nq⟩
                · have i1 : decide (C < tl.length) = true := by simp; omega
                  have i2 : decide (C < tm.length) = false := by simp; omega
                  clear hc1 hc2
                  go_wp2_with fail
                  go_quiet (fail)
                  go_wp2_with fail
                  refine (Text_way hwy HRO (owns_heap (w' := wm.drewN nq) rfl r9m) hcw).mono ?_
                  rintro e w' ⟨rfl, rfl⟩
                  go_wp2
                  go_ret
                  exact ⟨rfl, below_drewN hBm nq⟩
              · have i1 : decide (C < tl.length) = false := by simp; omega
                clear hc1
                go_wp2_with fail
                go_quiet (fail)
                go_wp2_with fail
                refine (Text_way hwy HRO (owns_heap (w' := wm.drewN nq) rfl r9m) hcw).mono ?_
                rintro e w' ⟨rfl, rfl⟩
                go_wp2
                go_ret
                exact ⟨rfl, below_drewN hBm nq⟩
          · have i1 : decide (k < ro.length) = false := by simp; omega
            have hk2 : Hid (k = u) := Lib.hid (by omega)
            go_wp2_with fail
            clear i1 h1
            refine (Split_path wr q Q (by rw [hQ.text, Pt.parts_text hQ.good]) (by omega)).mono ?_
            rintro e wq ⟨tq, aq, cq, rfl, htq, oq, Bq⟩
            have ltq : tq.length = Q.length := by rw [← htq, List.length_map]
            have r9q := owns_below r9 Bq
            have hBq := hB.trans (Bq.mono hB.size)
            clear r9 hB Bq oq htq HH
            go_wp2_with fail
            obtain ⟨C, hC⟩ : ∃ C, Hid (common P Q = C) := ⟨_, Lib.hid rfl⟩
            have hps := hP.small
            rw [show (Q.length : Int) - (k : Int) = (C : Int) by have := hk2.out; have := hu.out; have := hC.out; have := HCL.out; omega]
            refine (Split_path wq p P (by rw [hP.text, Pt.parts_text hP.good]) (by omega)).mono ?_
            rintro e wl ⟨tl, al, cl, rfl, htl, ol, Bl⟩
            have ltl : tl.length ≤ 2001 := by rw [← List.length_map (f := bs), htl]; omega
            have r9l := owns_below r9q Bl
            have hBl := hBq.trans (Bl.mono hBq.size)
            have HTL := Lib.hid htl
            clear r9q hBq Bl htl
            go_wp2_with fail
            refine (Split_path wl q Q (by rw [hQ.text, Pt.parts_text hQ.good]) (by omega)).mono ?_
            rintro e wm ⟨tm, am, cm, rfl, htm, om, Bm⟩
            have ltm : tm.length ≤ 2001 := by rw [← List.length_map (f := bs), htm]; omega
            have hCl : C ≤ tl.length ∧ C ≤ tm.length := by rw [← len_bs tl, HTL.out, ← len_bs tm, htm, ← hC.out]; exact HCL.out
            obtain ⟨hCl1, hCl2⟩ := hCl
            have hsum : Hid (C + ro.length = tl.length + k) := Lib.hid (by rw [← len_bs tl, HTL.out]; have := hk2.out; have := HLR.out; have := hC.out; have := HCL.out; omega)
            have hsi : (C : Int) + ro.length - k = tl.length := by have := hsum.out; omega
            have hC0 : (0 : Int) ≤ C := by omega
            have r9m := owns_below r9l Bm
            have ol' := owns_below ol Bm
            have hBm := hBl.trans (Bm.mono hBl.size)
            have HTM := Lib.hid htm
            clear r9l ol hBl Bm htm
            by_cases hc1 : C < tl.length
            · by_cases hc2 : C < tm.length
              · obtain ⟨gl, cl', el, _, _⟩ := owns_some ol' (by omega)
                cases el
                obtain ⟨gm, cm', em, _, _⟩ := owns_some om (by omega)
                cases em
                have dl := cell_str ol' hc1
                have dm := cell_str om hc2
                have hne : bs (tl[C]?.getD ByteArray.empty) ≠ bs (tm[C]?.getD ByteArray.empty) := by
                  refine common_max P Q _ _ ?_ ?_
                  · rw [hC.out, ← HTL.out, List.getElem?_map, List.getElem?_eq_getElem hc1]; rfl
                  · rw [hC.out, ← HTM.out, List.getElem?_map, List.getElem?_eq_getElem hc2]; rfl
                generalize tl[C]?.getD ByteArray.empty = xl at *
                generalize tm[C]?.getD ByteArray.empty = xm at *
                have hne2 : (xl.toList == xm.toList) = false := by
                  rw [beq_eq_false_iff_ne]; intro e; rw [Lib.toList_data, Lib.toList_data] at e; exact hne e
                have i1 : (C : Int) < tl.length := by omega
                have i2 : (C : Int) < tm.length := by omega
                clear hne
                go_wp2_with fail
                go_quiet (fail)
                go_wp2_with fail
                refine (Text_way hwy HRO (owns_heap (w' := wm.drewN nq) rfl r9m) hcw).mono ?_
                rintro e w' ⟨rfl, rfl⟩
                go_wp2
                go_ret
                exact ⟨rfl, below_drewN hBm nq⟩
              · have i1 : decide (C < tl.length) = true := by simp; omega
                have i2 : decide (C < tm.length) = false := by simp; omega
                clear hc1 hc2
                go_wp2_with fail
                go_quiet (fail)
                go_wp2_with fail
                refine (Text_way hwy HRO (owns_heap (w' := wm.drewN nq) rfl r9m) hcw).mono ?_
                rintro e w' ⟨rfl, rfl⟩
                go_wp2
                go_ret
                exact ⟨rfl, below_drewN hBm nq⟩
            · have i1 : decide (C < tl.length) = false := by simp; omega
              clear hc1
              go_wp2_with fail
              go_quiet (fail)
              go_wp2_with fail
              refine (Text_way hwy HRO (owns_heap (w' := wm.drewN nq) rfl r9m) hcw).mono ?_
              rintro e w' ⟨rfl, rfl⟩
              go_wp2
              go_ret
              exact ⟨rfl, below_drewN hBm nq⟩
end Go.Proofs.YtjpkliaiicphbaaDoor
