/-
  (*list).asWords, (*list).asFiles.
-/
import Derived.Test.YtpliljcjjffipaaGreatDoorQDQ
import Derived.Test.YtpliljcjjffipaaGreatDoorQMRec
import Derived.Test.YtpliljcjjffipaaGreatDoorQKOrder
namespace Go.Proofs.YtpliljcjjffipaaGreatDoor.Dq
open Go.RowKit Go.Proofs.YtpliljcjjffipaaGreatDoor Go.Maps Go.Proofs.YtpliljcjjffipaaGreatDoor.Ww Go.Proofs.YtpliljcjjffipaaGreatDoor.Tw Go.Proofs.YtpliljcjjffipaaGreatDoor.Kw Go.Proofs.YtpliljcjjffipaaGreatDoor.Jw Go.Proofs.YtpliljcjjffipaaGreatDoor.Xb Go.Proofs.YtpliljcjjffipaaGreatDoor.Xw Go.Proofs.YtpliljcjjffipaaGreatDoor.Dz
set_option maxRecDepth 100000

abbrev LsT : TypeId := 266
def lC (rb : Nat) (t : ByteArray) (wv fv : Value) (sp md : Bool) : Array Value := #[.pointer (some ⟨rb, 0, none⟩), .string t, wv, fv, .bool sp, .bool md]
theorem slice_of {w : World} {B : Nat} {e : TypeId} {z : Nat} {v : Value} {n : Nat} {xs : List Value} (h : w.ownsRow B e z v n xs) : ∃ a k c, v = .slice a k c := by
  rcases h.2 with ⟨h, _⟩ | ⟨g, cap, _, h, _⟩
  · exact ⟨_, _, _, h⟩
  · exact ⟨_, _, _, h⟩
section
variable {rb db tb ib kb : Nat} {au gv : Value} {w : World}
set_option maxHeartbeats 4000000 in
theorem asWords_new (hr : w.heap[rb]? = some (.cells (rC db tb au gv ib kb) RT (0, 0))) (lb : Nat) (s : Bs) (hl : w.heap[lb]? = some (.cells (lC rb (str s) (.slice none 0 0) (.slice none 0 0) false false) LsT (0, 0))) (h0 : (36 : UInt8) ∉ s) (hs : s.length ≤ 1000) :
    Calls Tryz.prog 181 #[.pointer (some ⟨lb, 0, none⟩)] w fun e w' => ∃ v, e = .returned v ∧ w'.heap[lb]? = some (.cells (lC rb (str s) v (.slice none 0 0) true false) LsT (0, 0)) ∧ w'.ownsRow w.heap.size ST 1 v (wordsS (str s)).length (strsC (wordsS (str s))) ∧ Kept [lb] w w' := by
  have HW := Lib.hid (words_plain (w := w.drew) hr s h0 hs)
  have c0 : w.cell? ⟨lb, 0, none⟩ = some (.pointer (some ⟨rb, 0, none⟩)) := cell_at hl rfl
  have c1 : w.cell? ⟨lb, 1, none⟩ = some (.string (str s)) := cell_at hl rfl
  have c4 : w.cell? ⟨lb, 4, none⟩ = some (.bool false) := cell_at hl rfl
  have hlt := (Array.getElem?_eq_some_iff.1 hl).1
  have HL := Lib.hid hl
  clear hl hr
  go_enter Tryz.func181, Tryz.ntmps181
  go_wp2_with fail
  go_region_with (go_at_call 115; refine HW.out.mono ?_; rintro e w1 ⟨v, rfl, B1, ho⟩; have hl1 := (B1.block lb (show lb < w.drew.heap.size from hlt)).trans HL.out; have HL1 := Lib.hid hl1; have HO1 := Lib.hid ho; have HB1 := Lib.hid B1; have hlt1 := (Array.getElem?_eq_some_iff.1 hl1).1; have f2 := frozen_at hl1 2; have f4 := frozen_at hl1 4; have k2 : w1.cell? ⟨lb, 2, none⟩ = some (.slice none 0 0) := cell_at hl1 rfl; have k4 : w1.cell? ⟨lb, 4, none⟩ = some (.bool false) := cell_at hl1 rfl; obtain ⟨av, nv, cv, rfl⟩ := slice_of ho; clear hl1 ho B1 HW c0 c1 c4)
  all_goals (
    go_wp2_with fail
    go_ret
    have B1 : Below w.heap.size w w1 := ((Below.refl _ w).drew).trans HB1.out
    have hk := ((Kept.of_below (X := [lb]) B1).setCell (p := ⟨lb, 2, none⟩) (.inl (by simp)) (.slice av nv cv)).setCell (p := ⟨lb, 4, none⟩) (.inl (by simp)) (.bool true)
    refine ⟨_, rfl, heap_set (i := 4) (heap_set (i := 2) HL1.out (.slice av nv cv)) (.bool true), ?_, hk⟩
    refine Mw.own_kept HO1.out fun g' hg' => ?_
    have hge : w.heap.size ≤ g' := by
      rcases HO1.out.2 with ⟨h, _⟩ | ⟨g, _, _, h, hb, _⟩
      · rw [h] at hg'; cases hg'
      · rw [h] at hg'; cases hg'; exact hb
    exact (Below.heap_setCell _ _ _ _ (by show g' ≠ lb; omega)).trans (Below.heap_setCell _ _ _ _ (by show g' ≠ lb; omega)))
set_option maxHeartbeats 8000000 in
/-- No words. -/
theorem asFiles_nil (hr : w.heap[rb]? = some (.cells (rC db tb au gv ib kb) RT (0, 0))) (lb : Nat) (s : Bs) (hl : w.heap[lb]? = some (.cells (lC rb (str s) (.slice none 0 0) (.slice none 0 0) false false) LsT (0, 0))) (h0 : (36 : UInt8) ∉ s) (hs : s.length ≤ 1000) (hw : wordsS (str s) = []) :
    Calls Tryz.prog 183 #[.pointer (some ⟨lb, 0, none⟩)] w fun e w' => e = .returned (.slice none 0 0) ∧ Kept [lb] w w' := by
  have HW := Lib.hid (asWords_new hr lb s hl h0 hs)
  rw [hw] at HW
  have c5 : w.cell? ⟨lb, 5, none⟩ = some (.bool false) := cell_at hl rfl
  have hlt := (Array.getElem?_eq_some_iff.1 hl).1
  clear hl hr
  go_enter Tryz.func183, Tryz.ntmps183
  go_wp2_with fail
  refine HW.out.mono ?_
  rintro e w1 ⟨v, rfl, hl1, ho, hk1⟩
  obtain ⟨av, cv, rfl⟩ : ∃ a c, v = .slice a 0 c := by
    rcases ho.2 with ⟨h, _⟩ | ⟨g, cap, _, h, _⟩
    · exact ⟨_, _, h⟩
    · exact ⟨_, _, h⟩
  have HL1 := Lib.hid hl1
  have HK1 := Lib.hid hk1
  have hlt1 := (Array.getElem?_eq_some_iff.1 hl1).1
  have f5 := frozen_at hl1 5
  have k5 : w1.cell? ⟨lb, 5, none⟩ = some (.bool false) := cell_at hl1 rfl
  have k3 : w1.cell? ⟨lb, 3, none⟩ = some (.slice none 0 0) := cell_at hl1 rfl
  clear hl1 hk1 ho HW c5
  go_wp2_with fail
  refine wp_loop_rounds 1 ?_
  rw [rounds_succ]
  go_wp2_with fail
  go_ret
  exact ⟨rfl, HK1.out.setCell (p := ⟨lb, 5, none⟩) (.inl (by simp)) _⟩
theorem infoFi : (Tryz.prog.info? FiT).map (fun i => (i.zero, i.size, i.bytes)) = some (some (.agg #[.string ⟨#[]⟩, .string ⟨#[]⟩]), 2, 32) := by kernel_rfl
theorem strs_one_is {x : ByteArray} {w : World} {B : Nat} {v : Value} (h : w.ownsRow B ST 1 v [x].length (strsC [x])) : ∃ g c, v = .slice (some ⟨g, 0, none⟩) 1 c ∧ g < w.heap.size ∧ w.cell? ⟨g, 0, none⟩ = some (.string x) ∧ B ≤ g := by
  rcases h.2 with ⟨_, h0⟩ | ⟨g, cap, cur, hv, hb, hg, _⟩
  · cases h0
  · subst hv
    refine ⟨g, cap, rfl, (Array.getElem?_eq_some_iff.1 hg).1, ?_, hb⟩
    have := h.cells (g := g) rfl 0 (.string x) rfl
    rwa [Addr.add_lit] at this
set_option maxHeartbeats 8000000 in
/-- One word. -/
theorem asFiles_one (hr : w.heap[rb]? = some (.cells (rC db tb au gv ib kb) RT (0, 0))) {dir : ByteArray} {tv pv cv gl : Value} (hd : w.heap[db]? = some (.cells (dC dir tb tv pv cv gl) DT (0, 0))) (x : ByteArray) (p : List UInt8) (hsz : dir.size ≤ 1000000 ∧ x.size ≤ 1000000) (h : Hid (Pt.join [bs dir, bs x] = some p))
    (lb : Nat) (s : Bs) (hl : w.heap[lb]? = some (.cells (lC rb (str s) (.slice none 0 0) (.slice none 0 0) false false) LsT (0, 0))) (h0 : (36 : UInt8) ∉ s) (hs : s.length ≤ 1000) (hw : wordsS (str s) = [x]) :
    Calls Tryz.prog 183 #[.pointer (some ⟨lb, 0, none⟩)] w fun e w' => ∃ v, e = .returned v ∧ w'.ownsRow w.heap.size FiT 2 v 1 [.string (str p), .string x] ∧ Kept [lb] w w' := by
  have HW := Lib.hid (asWords_new hr lb s hl h0 hs)
  rw [hw] at HW
  have hnr : rb ≠ lb := fun e => by subst e; rw [hl] at hr; injection hr with h1; injection h1 with h2 h3; revert h3; decide
  have hnd : db ≠ lb := fun e => by subst e; rw [hl] at hd; injection hd with h1; injection h1 with h2 h3; revert h3; decide
  have HFi := Lib.hid fun (W : World) (h1 : W.heap[rb]? = some (.cells (rC db tb au gv ib kb) RT (0, 0))) (h2 : W.heap[db]? = some (.cells (dC dir tb tv pv cv gl) DT (0, 0))) => file_yes h1 h2 x p hsz h
  have c5 : w.cell? ⟨lb, 5, none⟩ = some (.bool false) := cell_at hl rfl
  have hlt := (Array.getElem?_eq_some_iff.1 hl).1
  have hltr := (Array.getElem?_eq_some_iff.1 hr).1
  have hltd := (Array.getElem?_eq_some_iff.1 hd).1
  have HR := Lib.hid hr
  have HD := Lib.hid hd
  clear hl hr hd h hsz
  go_enter Tryz.func183, Tryz.ntmps183
  go_wp2_with fail
  refine HW.out.mono ?_
  rintro e w1 ⟨v, rfl, hl1, ho, hk1⟩
  obtain ⟨gx, cx, rfl, hgx, kx, hge⟩ := strs_one_is ho
  have HR1 := Lib.hid ((hk1.block rb hltr (by simpa using hnr)).trans HR.out)
  have HD1 := Lib.hid ((hk1.block db hltd (by simpa using hnd)).trans HD.out)
  have HL1 := Lib.hid hl1
  have HK1 := Lib.hid hk1
  have hlt1 := (Array.getElem?_eq_some_iff.1 hl1).1
  have f3 := frozen_at hl1 3
  have k3 : w1.cell? ⟨lb, 3, none⟩ = some (.slice none 0 0) := cell_at hl1 rfl
  have k0 : w1.cell? ⟨lb, 0, none⟩ = some (.pointer (some ⟨rb, 0, none⟩)) := cell_at hl1 rfl
  clear hl1 hk1 ho HW c5
  go_wp2_with fail
  refine wp_loop_rounds 2 ?_
  rw [rounds_succ]
  go_wp2_with fail
  obtain ⟨i0, hi, hz0, hz1, hz2⟩ := info_parts infoFi
  have hT0 : (fun (b : Bool) (W : World) => W.cell? ⟨lb, 0, none⟩ = some (.pointer (some ⟨rb, 0, none⟩)) ∧ (b = false → W.cell? ⟨lb, 3, none⟩ = some (.slice none 0 0))) false w1.drew := ⟨k0, fun _ => k3⟩
  refine wp_region_D 15 (fun (b : Bool) (W : World) => W.cell? ⟨lb, 0, none⟩ = some (.pointer (some ⟨rb, 0, none⟩)) ∧ (b = false → W.cell? ⟨lb, 3, none⟩ = some (.slice none 0 0))) (by kernel_rfl) ?_
  refine wpAnyD_pre (i := 0) [0, 15] (v := .pointer (some ⟨lb, 0, none⟩)) (by rfl) rfl (by rfl) (by kernel_rfl) (by kernel_rfl) (by kernel_rfl) (by kernel_rfl) (by kernel_rfl) (fun c a w h => h) (Or.inl ⟨by rfl, ?_⟩) hT0 ?_
  · rintro W hW; have h1 := hW.1; have h2 := hW.2 rfl; go_simp
  simp only [Act.put, List.setIfInBounds_toArray]
  refine wpAnyD_pre (i := 1) [1, 15] (v := .pointer (some ⟨lb, 0, none⟩)) (by rfl) rfl (by rfl) (by kernel_rfl) (by kernel_rfl) (by kernel_rfl) (by kernel_rfl) (by kernel_rfl) (fun c a w h => h) (Or.inl ⟨by rfl, ?_⟩) hT0 ?_
  · rintro W hW; have h1 := hW.1; have h2 := hW.2 rfl; go_simp
  simp only [Act.put]
  refine wpAnyD_pre (i := 2) [2, 15] (v := .pointer (some ⟨lb, 0, none⟩)) (by rfl) rfl (by rfl) (by kernel_rfl) (by kernel_rfl) (by kernel_rfl) (by kernel_rfl) (by kernel_rfl) (fun c a w h => h) (Or.inl ⟨by rfl, ?_⟩) hT0 ?_
  · rintro W hW; have h1 := hW.1; have h2 := hW.2 rfl; go_simp
  simp only [Act.put]
  refine wpAnyD_pre (i := 3) [3, 15] (v := .pointer (some ⟨lb, 3, none⟩)) (by rfl) rfl (by rfl) (by kernel_rfl) (by kernel_rfl) (by kernel_rfl) (by kernel_rfl) (by kernel_rfl) (fun c a w h => h) (Or.inl ⟨by rfl, ?_⟩) hT0 ?_
  · rintro W hW; have h1 := hW.1; have h2 := hW.2 rfl; go_simp
  simp only [Act.put]
  refine wpAnyD_pre (i := 4) [4, 15] (v := .slice none 0 0) (by rfl) rfl (by rfl) (by kernel_rfl) (by kernel_rfl) (by kernel_rfl) (by kernel_rfl) (by kernel_rfl) (fun c a w h => h) (Or.inl ⟨by rfl, ?_⟩) hT0 ?_
  · rintro W hW; have h1 := hW.1; have h2 := hW.2 rfl; go_simp
  simp only [Act.put]
  refine wpAnyD_pre (i := 5) [5, 15] (v := .pointer (some ⟨lb, 0, none⟩)) (by rfl) rfl (by rfl) (by kernel_rfl) (by kernel_rfl) (by kernel_rfl) (by kernel_rfl) (by kernel_rfl) (fun c a w h => h) (Or.inl ⟨by rfl, ?_⟩) hT0 ?_
  · rintro W hW; have h1 := hW.1; have h2 := hW.2 rfl; go_simp
  simp only [Act.put]
  refine wpAnyD_pre (i := 6) [6, 15] (v := .pointer (some ⟨lb, 0, none⟩)) (by rfl) rfl (by rfl) (by kernel_rfl) (by kernel_rfl) (by kernel_rfl) (by kernel_rfl) (by kernel_rfl) (fun c a w h => h) (Or.inl ⟨by rfl, ?_⟩) hT0 ?_
  · rintro W hW; have h1 := hW.1; have h2 := hW.2 rfl; go_simp
  simp only [Act.put]
  refine wpAnyD_pre (i := 7) [7, 15] (v := .pointer (some ⟨lb, 0, none⟩)) (by rfl) rfl (by rfl) (by kernel_rfl) (by kernel_rfl) (by kernel_rfl) (by kernel_rfl) (by kernel_rfl) (fun c a w h => h) (Or.inl ⟨by rfl, ?_⟩) hT0 ?_
  · rintro W hW; have h1 := hW.1; have h2 := hW.2 rfl; go_simp
  simp only [Act.put]
  refine wpAnyD_pre (i := 8) [8, 15] (v := .pointer (some ⟨rb, 0, none⟩)) (by rfl) rfl (by rfl) (by kernel_rfl) (by kernel_rfl) (by kernel_rfl) (by kernel_rfl) (by kernel_rfl) (fun c a w h => h) (Or.inl ⟨by rfl, ?_⟩) hT0 ?_
  · rintro W hW; have h1 := hW.1; have h2 := hW.2 rfl; go_simp
  simp only [Act.put]
  refine wpAnyD_pre (i := 9) [9, 15] (v := .string x) (by rfl) rfl (by rfl) (by kernel_rfl) (by kernel_rfl) (by kernel_rfl) (by kernel_rfl) (by kernel_rfl) (fun c a w h => h) (Or.inl ⟨by rfl, ?_⟩) hT0 ?_
  · rintro W hW; have h1 := hW.1; have h2 := hW.2 rfl; go_simp
  simp only [Act.put]
  refine wpAnyD_one (i := 10) (by kernel_rfl) rfl false (by rfl) (fun K hK => ?_)
  go_simp
  refine (HFi.out w1.drew HR1.out HD1.out).mono ?_
  rintro e w2 ⟨rfl, B2⟩
  have hl2 := (B2.block lb (show lb < w1.drew.heap.size from hlt1)).trans HL1.out
  have HL2 := Lib.hid hl2
  have HB2 := Lib.hid B2
  dsimp only
  refine hK.out _ _ ⟨cell_at hl2 rfl, fun _ => cell_at hl2 rfl⟩ ?_
  clear hK K B2 hl2
  refine wpAnyD_one (i := 11) (by kernel_rfl) rfl false (by rfl) (fun K hK => ?_)
  go_simp
  have hl2a := alloc_keep HL2.out (.cells #[.string (str p), .string x] FiT)
  refine hK.out _ _ ⟨cell_at hl2a rfl, fun _ => cell_at hl2a rfl⟩ ?_
  clear hK K hl2a
  refine wpAnyD_one (i := 12) (by kernel_rfl) rfl false (by rfl) (fun K hK => ?_)
  refine Mw.step_append_own rfl _ _ 84 rfl w.heap.size FiT i0 _ 2 32 Tryz.underlying84 hi hz0 hz1 hz2 rfl (by decide) (.slice none 0 0) 0 [] (by simp [go_sem]) (World.ownsRow_nil _ _ _ _) ⟨w2.heap.size, 0, none⟩ 1 1 [.string (str p), .string x] (by simp [go_sem]) rfl (cells_new _ #[.string (str p), .string x] _ rfl) (by simp [Value.oneCell']) (by unfold maxLen; omega) (by omega) (by have := HK1.out.size; have := HB2.out.size; have e : w1.drew.heap.size = w1.heap.size := rfl; simp; omega) ?_
  intro v3 w3 hown hgrow hat
  obtain ⟨a3, n3, c3, rfl⟩ := slice_of hown
  have hl3 := (hgrow.block lb (by have := HB2.out.size; have e : w1.drew.heap.size = w1.heap.size := rfl; simp; omega) (fun e => by cases e)).trans (alloc_keep HL2.out _)
  have HL3 := Lib.hid hl3
  have HO3 := Lib.hid hown
  have HG3 := Lib.hid hgrow
  refine hK.out _ _ ⟨cell_at hl3 rfl, fun _ => cell_at hl3 rfl⟩ ?_
  clear hK K hown hgrow hat hl3
  refine wpAnyD_one (i := 13) (by kernel_rfl) rfl false (by rfl) (fun K hK => ?_)
  go_simp
  refine hK.out _ _ ⟨cell_at HL3.out rfl, fun _ => cell_at HL3.out rfl⟩ ?_
  clear hK K
  refine wpAnyD_one (i := 14) (by kernel_rfl) rfl false (by rfl) (fun K hK => ?_)
  go_simp
  refine hK.out _ _ ⟨cell_at HL3.out rfl, fun _ => cell_at HL3.out rfl⟩ ?_
  clear hK K
  refine wpAnyD_one (i := 15) (by kernel_rfl) rfl true (by rfl) (fun K hK => ?_)
  have k33 : w3.cell? ⟨lb, 3, none⟩ = some (.slice none 0 0) := cell_at HL3.out rfl
  have f33 := frozen_at HL3.out 3
  have l33 := (Array.getElem?_eq_some_iff.1 HL3.out).1
  go_simp
  have hl4 := heap_set (i := 3) HL3.out (.slice a3 n3 c3)
  refine hK.out _ _ ⟨cell_at hl4 rfl, fun h => by cases h⟩ ?_
  clear hK K
  refine wpAnyD_done (by kernel_rfl) ?_ _
  have hk3 : Kept [lb] w w3 := (((HK1.out.drewN 1).below HB2.out).alloc _).grown HG3.out (fun r e => by cases e)
  have HK4 := Lib.hid (hk3.setCell (p := ⟨lb, 3, none⟩) (.inl (by simp)) (.slice a3 n3 c3))
  have ho4 : (w3.setCell ⟨lb, 3, none⟩ (.slice a3 n3 c3)).ownsRow w.heap.size FiT 2 (.slice a3 n3 c3) 1 [.string (str p), .string x] := Mw.own_kept HO3.out fun g' hg' => Below.heap_setCell _ _ _ _ (by
    show g' ≠ lb
    have hge' : w.heap.size ≤ g' := by
      rcases HO3.out.2 with ⟨h, _⟩ | ⟨g, _, _, h, hb, _⟩
      · rw [h] at hg'; cases hg'
      · rw [h] at hg'; cases hg'; exact hb
    have : lb < w.heap.size := hlt
    omega)
  have HO4 := Lib.hid ho4
  have HL4 := Lib.hid hl4
  clear k33 f33 l33 hl4 ho4 hk3
  have k5 : (w3.setCell ⟨lb, 3, none⟩ (.slice a3 n3 c3)).cell? ⟨lb, 5, none⟩ = some (.bool false) := cell_at HL4.out rfl
  have f5 := frozen_at HL4.out 5
  have l5 := (Array.getElem?_eq_some_iff.1 HL4.out).1
  have k35 : (w3.setCell ⟨lb, 3, none⟩ (.slice a3 n3 c3)).cell? ⟨lb, 3, none⟩ = some (.slice a3 n3 c3) := cell_at HL4.out rfl
  generalize w3.setCell ⟨lb, 3, none⟩ (.slice a3 n3 c3) = w4 at *
  clear k0 k3 kx
  go_wp2_with fail
  rw [rounds_succ]
  go_wp2_with fail
  go_ret
  refine ⟨_, rfl, ?_, HK4.out.setCell (p := ⟨lb, 5, none⟩) (.inl (by simp)) _⟩
  exact Mw.own_kept HO4.out fun g' hg' => Below.heap_setCell _ _ _ _ (by
    show g' ≠ lb
    have hge' : w.heap.size ≤ g' := by
      rcases HO4.out.2 with ⟨h, _⟩ | ⟨g, _, _, h, hb, _⟩
      · rw [h] at hg'; cases hg'
      · rw [h] at hg'; cases hg'; exact hb
    have : lb < w.heap.size := hlt
    omega)
end
end Go.Proofs.YtpliljcjjffipaaGreatDoor.Dq
