/-
  (*reading).explicit, (*reading).rule, (*reading).part of the rule "a: b".
  (*reading).rule of a rule with one target, one need, no recipe.
-/
import Derived.Test.YtpliljcjjffipaaGreatDoorQDQList
import Derived.Test.YtpliljcjjffipaaGreatDoorQDQTarget
import Derived.Test.YtpliljcjjffipaaGreatDoorQTCode0
namespace Go.Proofs.YtpliljcjjffipaaGreatDoor.Dq
open Go.RowKit Go.Proofs.YtpliljcjjffipaaGreatDoor Go.Maps Go.Proofs.YtpliljcjjffipaaGreatDoor.Ww Go.Proofs.YtpliljcjjffipaaGreatDoor.Tw Go.Proofs.YtpliljcjjffipaaGreatDoor.Kw Go.Proofs.YtpliljcjjffipaaGreatDoor.Jw Go.Proofs.YtpliljcjjffipaaGreatDoor.Xb Go.Proofs.YtpliljcjjffipaaGreatDoor.Xw Go.Proofs.YtpliljcjjffipaaGreatDoor.Dz
set_option maxRecDepth 100000

abbrev PT : TypeId := 170
section
variable {rb db tb ib kb : Nat} {au gv : Value} {w : World}
/-- What the rule leaves. -/
def RulePost (w : World) (db tb ib : Nat) (dir : ByteArray) (pv cv gl : Value) (p x : ByteArray) (nv : Value) (e : Ending) (w' : World) : Prop :=
  e = .returned (.tuple #[]) ∧ ∃ g c, w'.heap[db]? = some (.cells (dC dir tb (.slice (some ⟨g, 0, none⟩) 1 c) pv cv gl) DT (0, 0)) ∧ One w' w.heap.size g c [.string p, .string x, nv, .slice none 0 0, .slice none 0 0, .int .i64 0, .bool false] ∧ Kept [db, ib] w w'
set_option maxHeartbeats 4000000 in
theorem explicit_new (hr : w.heap[rb]? = some (.cells (rC db tb au gv ib kb) RT (0, 0))) {dir : ByteArray} {pv cv gl : Value} (hd : w.heap[db]? = some (.cells (dC dir tb (.slice none 0 0) pv cv gl) DT (0, 0))) (hI : MapAt IK w ib []) (x : ByteArray) (p : Bs) (hs : dir.size ≤ 1000000 ∧ x.size ≤ 1000000) (h : Hid (Pt.join [bs dir, bs x] = some p)) (hp : p.length ≤ 1000000)
    (hx1 : (x.toList == [46, 80, 72, 79, 78, 89]) = false) (hx2 : (x.toList == [46, 80, 82, 69, 67, 73, 79, 85, 83]) = false) (_hx3 : ¬ x.toList = [46, 80, 72, 79, 78, 89]) (_hx4 : ¬ x.toList = [46, 80, 82, 69, 67, 73, 79, 85, 83]) (a : Option Addr) (n c : Nat) (hn : n ≤ c)
    (ln : Int) (t nd o : ByteArray) (ra : Option Addr) (rc : Nat) :
    Calls Tryz.prog 182 #[.pointer (some ⟨rb, 0, none⟩), .string x, .slice a n c, .slice none 0 0, .agg (ruC ln t nd o ra rc)] w (RulePost w db tb ib dir pv cv gl (str p) x (.slice a n n)) := by
  have hrl := (Array.getElem?_eq_some_iff.1 hr).1
  have hdl := (Array.getElem?_eq_some_iff.1 hd).1
  have B0 := (Below.refl w.heap.size w).alloc (Nat.le_refl _) (.cells (ruC ln t nd o ra rc) PT)
  have HX0 := Lib.hid (heap_last w (.cells (ruC ln t nd o ra rc) PT))
  have HR0 := Lib.hid ((B0.block _ hrl).trans hr)
  have HD0 := Lib.hid ((B0.block _ hdl).trans hd)
  have HI0 := Lib.hid (show MapAt IK (w.alloc (.cells (ruC ln t nd o ra rc) PT)) ib [] from hI.below B0)
  have HIL := Lib.hid hI.lt
  have HB0 := Lib.hid B0
  have HF := Lib.hid fun (W : World) (h1 : W.heap[rb]? = some (.cells (rC db tb au gv ib kb) RT (0, 0))) (h2 : W.heap[db]? = some (.cells (dC dir tb (.slice none 0 0) pv cv gl) DT (0, 0))) => file_yes h1 h2 x p hs h
  have HT := Lib.hid fun (W : World) (h1 : W.heap[rb]? = some (.cells (rC db tb au gv ib kb) RT (0, 0))) (h2 : W.heap[db]? = some (.cells (dC dir tb (.slice none 0 0) pv cv gl) DT (0, 0))) (h3 : MapAt IK W ib []) => target_new (w := W) h1 h2 h3 p x hp
  have HX := Lib.hid fun W g h1 h2 h3 h4 => extend_new W g a none n c 0 0 ln t nd o ra rc h1 h2 h3 h4 hn (Nat.le_refl _)
  clear hr hd hI B0 h hs hp
  unfold ruC at *
  go_enter Tryz.func182, Tryz.ntmps182
  go_wp2_with fail
  generalize w.alloc (.cells #[.int .i64 1, .int .i64 ln, .string ⟨#[]⟩, .string ⟨#[]⟩, .string ⟨#[]⟩, .bool false, .bool false, .string t, .string nd, .string o, .slice ra 0 rc] PT) = w0 at *
  have hT0 : (fun (b : Bool) (W : World) => W.heap[w.heap.size]? = some (.cells #[.int .i64 1, .int .i64 ln, .string ⟨#[]⟩, .string ⟨#[]⟩, .string ⟨#[]⟩, .bool false, .bool false, .string t, .string nd, .string o, .slice ra 0 rc] PT (0, 0))) false w0.drew := HX0.out
  refine wp_region_D 8 (fun (b : Bool) (W : World) => W.heap[w.heap.size]? = some (.cells #[.int .i64 1, .int .i64 ln, .string ⟨#[]⟩, .string ⟨#[]⟩, .string ⟨#[]⟩, .bool false, .bool false, .string t, .string nd, .string o, .slice ra 0 rc] PT (0, 0))) (by kernel_rfl) ?_
  refine wpAnyD_pre (i := 0) [0, 4, 8] (v := .pointer (some ⟨rb, 0, none⟩)) (by rfl) rfl (by rfl) (by kernel_rfl) (by kernel_rfl) (by kernel_rfl) (by kernel_rfl) (by kernel_rfl) (fun c a w h => h) (Or.inl ⟨by rfl, ?_⟩) hT0 ?_
  · rintro W hW; go_simp
  simp only [Act.put, List.setIfInBounds_toArray]
  refine wpAnyD_pre (i := 1) [1, 3, 4, 8] (v := .pointer (some ⟨rb, 0, none⟩)) (by rfl) rfl (by rfl) (by kernel_rfl) (by kernel_rfl) (by kernel_rfl) (by kernel_rfl) (by kernel_rfl) (fun c a w h => h) (Or.inl ⟨by rfl, ?_⟩) hT0 ?_
  · rintro W hW; go_simp
  simp only [Act.put]
  refine wpAnyD_pre (i := 2) [2, 3, 4, 8] (v := .string x) (by rfl) rfl (by rfl) (by kernel_rfl) (by kernel_rfl) (by kernel_rfl) (by kernel_rfl) (by kernel_rfl) (fun c a w h => h) (Or.inl ⟨by rfl, ?_⟩) hT0 ?_
  · rintro W hW; go_simp
  simp only [Act.put]
  refine wpAnyD_pre (i := 5) [5, 8] (v := .slice a n c) (by rfl) rfl (by rfl) (by kernel_rfl) (by kernel_rfl) (by kernel_rfl) (by kernel_rfl) (by kernel_rfl) (fun c a w h => h) (Or.inl ⟨by rfl, ?_⟩) hT0 ?_
  · rintro W hW; go_simp
  simp only [Act.put]
  refine wpAnyD_pre (i := 6) [6, 8] (v := .slice none 0 0) (by rfl) rfl (by rfl) (by kernel_rfl) (by kernel_rfl) (by kernel_rfl) (by kernel_rfl) (by kernel_rfl) (fun c a w h => h) (Or.inl ⟨by rfl, ?_⟩) hT0 ?_
  · rintro W hW; go_simp
  simp only [Act.put]
  refine wpAnyD_pre (i := 7) [7, 8] (v := .agg #[.int .i64 1, .int .i64 ln, .string ⟨#[]⟩, .string ⟨#[]⟩, .string ⟨#[]⟩, .bool false, .bool false, .string t, .string nd, .string o, .slice ra 0 rc]) (by rfl) rfl (by rfl) (by kernel_rfl) (by kernel_rfl) (by kernel_rfl) (by kernel_rfl) (by kernel_rfl) (fun c a w h => h) (Or.inl ⟨by rfl, ?_⟩) hT0 ?_
  · rintro W hW; have y0 := cell_at (i := 0) hW rfl; have y1 := cell_at (i := 1) hW rfl; have y2 := cell_at (i := 2) hW rfl; have y3 := cell_at (i := 3) hW rfl; have y4 := cell_at (i := 4) hW rfl; have y5 := cell_at (i := 5) hW rfl; have y6 := cell_at (i := 6) hW rfl; have y7 := cell_at (i := 7) hW rfl; have y8 := cell_at (i := 8) hW rfl; have y9 := cell_at (i := 9) hW rfl; have y10 := cell_at (i := 10) hW rfl; go_simp
  simp only [Act.put]
  refine wpAnyD_one (i := 3) (by kernel_rfl) rfl false (by rfl) (fun K hK => ?_)
  go_simp
  refine (HF.out w0.drew HR0.out HD0.out).mono ?_
  rintro e w1 ⟨rfl, B1⟩
  have hlr0 := (Array.getElem?_eq_some_iff.1 HR0.out).1
  have hld0 := (Array.getElem?_eq_some_iff.1 HD0.out).1
  have hlx0 := (Array.getElem?_eq_some_iff.1 HX0.out).1
  have hr1 := (B1.block rb (show rb < w0.drew.heap.size from hlr0)).trans HR0.out
  have hd1 := (B1.block db (show db < w0.drew.heap.size from hld0)).trans HD0.out
  have hx1 := (B1.block w.heap.size (show w.heap.size < w0.drew.heap.size from hlx0)).trans HX0.out
  have hi1 : MapAt IK w1 ib [] := HI0.out.block (w := w0) (B1.block ib (show ib < w0.drew.heap.size from HI0.out.lt))
  have HB1 := Lib.hid (HB0.out.trans ((Below.refl _ w0).drew.trans B1 |>.mono HB0.out.size))
  have H1 := Lib.hid (And.intro hr1 (And.intro hd1 (And.intro hx1 hi1)))
  dsimp only
  refine hK.out _ _ hx1 ?_
  clear hK K B1 hr1 hd1 hx1 hi1
  refine wpAnyD_one (i := 4) (by kernel_rfl) rfl false (by rfl) (fun K hK => ?_)
  go_simp
  refine (HT.out w1 H1.out.1 H1.out.2.1 H1.out.2.2.2).mono ?_
  rintro e w2 ⟨g, cg, rfl, hd2, hone, hk2⟩
  have hlx1 := (Array.getElem?_eq_some_iff.1 H1.out.2.2.1).1
  have hx2 := (hk2.block w.heap.size hlx1 (by simp; have := HIL.out; omega)).trans H1.out.2.2.1
  have HK2 := Lib.hid ((Kept.of_below (X := [db, ib]) HB1.out).trans hk2)
  have HO2 := Lib.hid hone
  have HD2 := Lib.hid hd2
  have hg1 : w1.heap.size ≤ g := hone.lo
  have HG := Lib.hid (show w.heap.size ≤ g from Nat.le_trans HB1.out.size hg1)
  dsimp only
  refine hK.out _ _ hx2 ?_
  clear hK K hk2 hone hd2
  refine wpAnyD_one (i := 8) (by kernel_rfl) rfl true (by rfl) (fun K hK => ?_)
  go_simp
  refine (HX.out w2 g (HO2.out.cell (by decide) rfl) (HO2.out.cell (by decide) rfl) (fun j => HO2.out.frozen j) HO2.out.lt).mono ?_
  rintro e w3 ⟨rfl, hone3, hk3⟩
  have h3 := hone3 _ _ _ HO2.out
  have hlx2 := (Array.getElem?_eq_some_iff.1 hx2).1
  have hx3 := (hk3.block w.heap.size hlx2 (by simp; have := HB0.out.size; have := HB1.out.size; omega)).trans hx2
  have hd3 := (hk3.block db (Array.getElem?_eq_some_iff.1 HD2.out).1 (by simp; have := HG.out; omega)).trans HD2.out
  have HK3 := Lib.hid (trans_new HK2.out hk3 (by simp; exact .inr HG.out))
  have H3 := Lib.hid (And.intro h3 hd3)
  dsimp only
  refine hK.out _ _ hx3 ?_
  clear hK K hk3 hone3 h3 hx3 hd3 hx2
  refine wpAnyD_done (by kernel_rfl) ?_ _
  go_wp2_with fail
  go_end0
  exact ⟨rfl, g, cg, H3.out.2, ⟨HG.out, H3.out.1.row, H3.out.1.c1, H3.out.1.cm⟩, HK3.out⟩
end
end Go.Proofs.YtpliljcjjffipaaGreatDoor.Dq
namespace Go.Proofs.YtpliljcjjffipaaGreatDoor.Dq
open Go.RowKit Go.Proofs.YtpliljcjjffipaaGreatDoor Go.Maps Go.Proofs.YtpliljcjjffipaaGreatDoor.Ww Go.Proofs.YtpliljcjjffipaaGreatDoor.Tw Go.Proofs.YtpliljcjjffipaaGreatDoor.Kw Go.Proofs.YtpliljcjjffipaaGreatDoor.Jw Go.Proofs.YtpliljcjjffipaaGreatDoor.Xb Go.Proofs.YtpliljcjjffipaaGreatDoor.Xw Go.Proofs.YtpliljcjjffipaaGreatDoor.Dz
set_option maxRecDepth 100000

section
variable {rb db tb ib kb : Nat} {au gv : Value} {w : World}
/-- One file in a row. -/
def FAt (w : World) (g : Nat) (x y : ByteArray) : Prop := ∃ cur, w.heap[g]? = some (.cells cur FiT (0, 0)) ∧ cur[0]? = some (.string x) ∧ cur[1]? = some (.string y)
theorem FAt.lt {w : World} {g : Nat} {x y : ByteArray} (h : FAt w g x y) : g < w.heap.size := by
  obtain ⟨_, h, _⟩ := h
  exact (Array.getElem?_eq_some_iff.1 h).1
theorem FAt.block {w w' : World} {g : Nat} {x y : ByteArray} (h : FAt w g x y) (hb : w'.heap[g]? = w.heap[g]?) : FAt w' g x y := by
  obtain ⟨cur, h, h2⟩ := h
  exact ⟨cur, hb.trans h, h2⟩
theorem files_one_is {x y : ByteArray} {w : World} {B : Nat} {v : Value} (h : w.ownsRow B FiT 2 v 1 [.string x, .string y]) : ∃ g c, v = .slice (some ⟨g, 0, none⟩) 1 c ∧ FAt w g x y ∧ B ≤ g ∧ 1 ≤ c := by
  rcases h.2 with ⟨_, h0⟩ | ⟨g, cap, cur, hv, hb, hg, h1, h2, h3, h4⟩
  · cases h0
  · refine ⟨g, cap, hv, ⟨cur, hg, ?_, ?_⟩, hb, h1⟩
    · have := congrArg (·[0]?) h4
      simpa using this
    · have := congrArg (·[1]?) h4
      simpa using this
/-- Two lists, made. -/
def Lists (_w w1 : World) (rb : Nat) (nd o : ByteArray) (v4 v5 : Value) (W : World) : Prop :=
  ∃ b1 b2, v4 = .pointer (some ⟨b1, 0, none⟩) ∧ v5 = .pointer (some ⟨b2, 0, none⟩) ∧ b1 ≠ b2 ∧ W.heap[b1]? = some (.cells (lC rb nd (.slice none 0 0) (.slice none 0 0) false false) LsT (0, 0)) ∧ W.heap[b2]? = some (.cells (lC rb o (.slice none 0 0) (.slice none 0 0) false false) LsT (0, 0)) ∧ w1.heap.size ≤ b1 ∧ w1.heap.size ≤ b2 ∧ Below w1.heap.size w1 W
def RuleP (w : World) (db tb ib : Nat) (dir : ByteArray) (pv cv gl : Value) (p x q y : ByteArray) (e : Ending) (w' : World) : Prop :=
  e = .returned (.tuple #[]) ∧ ∃ g c ga, w'.heap[db]? = some (.cells (dC dir tb (.slice (some ⟨g, 0, none⟩) 1 c) pv cv gl) DT (0, 0)) ∧ One w' w.heap.size g c [.string p, .string x, .slice (some ⟨ga, 0, none⟩) 1 1, .slice none 0 0, .slice none 0 0, .int .i64 0, .bool false] ∧ FAt w' ga q y ∧ Kept [db, ib] w w'
set_option maxHeartbeats 8000000 in
theorem rule_one (hr : w.heap[rb]? = some (.cells (rC db tb au gv ib kb) RT (0, 0))) {dir : ByteArray} {pv cv gl : Value} (hd : w.heap[db]? = some (.cells (dC dir tb (.slice none 0 0) pv cv gl) DT (0, 0))) (hI : MapAt IK w ib []) (x y : ByteArray) (p q : Bs)
    (hs : dir.size ≤ 1000000 ∧ x.size ≤ 1000000) (hs2 : y.size ≤ 1000000) (h : Hid (Pt.join [bs dir, bs x] = some p)) (hq : Hid (Pt.join [bs dir, bs y] = some q)) (hp : p.length ≤ 1000000) (hx1 : (x.toList == [46, 80, 72, 79, 78, 89]) = false) (hx2 : (x.toList == [46, 80, 82, 69, 67, 73, 79, 85, 83]) = false) (hx3 : ¬ x.toList = [46, 80, 72, 79, 78, 89]) (hx4 : ¬ x.toList = [46, 80, 82, 69, 67, 73, 79, 85, 83])
    (ln : Int) (t nd o : Bs) (ra : Option Addr) (rc : Nat) (ht : (36 : UInt8) ∉ t ∧ t.length ≤ 1000 ∧ wordsS (str t) = [x]) (hn : (36 : UInt8) ∉ nd ∧ nd.length ≤ 1000 ∧ wordsS (str nd) = [y]) (ho : (36 : UInt8) ∉ o ∧ o.length ≤ 1000 ∧ wordsS (str o) = []) (hat : (Tp.atA (by8 x)).isSome = false) :
    Calls Tryz.prog 113 #[.pointer (some ⟨rb, 0, none⟩), .agg (ruC ln (str t) (str nd) (str o) ra rc)] w (RuleP w db tb ib dir pv cv gl (str p) x (str q) y) := by
  have hrl := (Array.getElem?_eq_some_iff.1 hr).1
  have hdl := (Array.getElem?_eq_some_iff.1 hd).1
  have B0 := (Below.refl w.heap.size w).alloc (Nat.le_refl _) (.cells (ruC ln (str t) (str nd) (str o) ra rc) PT)
  have hx0 := heap_last w (.cells (ruC ln (str t) (str nd) (str o) ra rc) PT)
  have HX0 := Lib.hid hx0
  have HR0 := Lib.hid ((B0.block _ hrl).trans hr)
  have HD0 := Lib.hid ((B0.block _ hdl).trans hd)
  have HI0 := Lib.hid (show MapAt IK (w.alloc (.cells (ruC ln (str t) (str nd) (str o) ra rc) PT)) ib [] from hI.below B0)
  have HIL := Lib.hid hI.lt
  have HDL := Lib.hid hdl
  have HB0 := Lib.hid B0
  have HW := Lib.hid fun (W : World) (h1 : W.heap[rb]? = some (.cells (rC db tb au gv ib kb) RT (0, 0))) => words_plain (w := W) h1 t ht.1 ht.2.1
  rw [ht.2.2] at HW
  have HF1 := Lib.hid fun (W : World) (h1 : W.heap[rb]? = some (.cells (rC db tb au gv ib kb) RT (0, 0))) (h2 : W.heap[db]? = some (.cells (dC dir tb (.slice none 0 0) pv cv gl) DT (0, 0))) lb h3 => asFiles_one (w := W) h1 h2 y q ⟨hs.1, hs2⟩ hq lb nd h3 hn.1 hn.2.1 hn.2.2
  have HF2 := Lib.hid fun (W : World) (h1 : W.heap[rb]? = some (.cells (rC db tb au gv ib kb) RT (0, 0))) lb h3 => asFiles_nil (w := W) h1 lb o h3 ho.1 ho.2.1 ho.2.2
  have HE := Lib.hid fun (W : World) (h1 : W.heap[rb]? = some (.cells (rC db tb au gv ib kb) RT (0, 0))) (h2 : W.heap[db]? = some (.cells (dC dir tb (.slice none 0 0) pv cv gl) DT (0, 0))) (h3 : MapAt IK W ib []) a c (hc : 1 ≤ c) => explicit_new (w := W) h1 h2 h3 x p hs h hp hx1 hx2 hx3 hx4 a 1 c hc ln (str t) (str nd) (str o) ra rc
  have HH := Lib.hid fun W => Has_any W x hs.2
  rw [hat] at HH
  have y8' := cell_at (i := 8) hx0 rfl
  have y9 := cell_at (i := 9) hx0 rfl
  have hl0 := (Array.getElem?_eq_some_iff.1 hx0).1
  clear hr hd hI B0 h hq hp ht hn ho hat hx0
  unfold ruC at *
  go_enter Tryz.func113, Tryz.ntmps113
  go_wp2_with fail
  generalize w.alloc (.cells #[.int .i64 1, .int .i64 ln, .string ⟨#[]⟩, .string ⟨#[]⟩, .string ⟨#[]⟩, .bool false, .bool false, .string (str t), .string (str nd), .string (str o), .slice ra 0 rc] PT) = w0 at *
  refine Code.wp_mono (Q := fun e a W => match e with
    | .normal => ∃ v4 v5, a = { tmps := #[.pointer (some ⟨rb, 0, none⟩), .agg #[.int .i64 1, .int .i64 ln, .string ⟨#[]⟩, .string ⟨#[]⟩, .string ⟨#[]⟩, .bool false, .bool false, .string (str t), .string (str nd), .string (str o), .slice ra 0 rc], undef, .pointer (some ⟨w.heap.size, 0, none⟩), v4, v5, undef, undef, .pointer (some ⟨rb, 0, none⟩), .pointer (some ⟨w.heap.size, 8, none⟩), .string (str nd), .agg #[.pointer (some ⟨rb, 0, none⟩), .string (str nd), .slice none 0 0, .slice none 0 0, .bool false, .bool false], .pointer (some ⟨rb, 0, none⟩), .pointer (some ⟨w.heap.size, 9, none⟩), .string (str o), .agg #[.pointer (some ⟨rb, 0, none⟩), .string (str o), .slice none 0 0, .slice none 0 0, .bool false, .bool false], undef, undef, undef, undef, undef, undef, undef, undef, undef, undef, undef, undef, undef, undef, undef, undef, undef, undef, undef, undef, undef, undef, undef, undef, undef, undef, undef, undef, undef, undef, undef, undef, undef, undef, undef, undef, undef, undef, undef, undef, undef], defers := [] } ∧ Lists w w0 rb (str nd) (str o) v4 v5 W
    | _ => False) ?_ ?_
  · rintro e a W hq
    cases e with
    | normal =>
      obtain ⟨v4, v5, rfl, b1, b2, rfl, rfl, hbb, hl1, hl2, hb1, hb2, BW⟩ := hq
      have hlr0 := (Array.getElem?_eq_some_iff.1 HR0.out).1
      have hld0 := (Array.getElem?_eq_some_iff.1 HD0.out).1
      have HRW := Lib.hid ((BW.block rb hlr0).trans HR0.out)
      have HDW := Lib.hid ((BW.block db hld0).trans HD0.out)
      have hxw := (BW.block w.heap.size hl0).trans HX0.out
      have HIW := Lib.hid (show MapAt IK W ib [] from HI0.out.block (BW.block ib HI0.out.lt))
      have HXW := Lib.hid hxw
      have HBW := Lib.hid (HB0.out.trans (BW.mono HB0.out.size))
      have HL1 := Lib.hid hl1
      have HL2 := Lib.hid hl2
      have HN := Lib.hid (show w.heap.size ≤ b1 ∧ w.heap.size ≤ b2 ∧ b1 ≠ b2 ∧ rb < w0.heap.size ∧ db < w0.heap.size ∧ w0.heap.size ≤ b1 ∧ w0.heap.size ≤ b2 ∧ w.heap.size < w0.heap.size from ⟨Nat.le_trans HB0.out.size hb1, Nat.le_trans HB0.out.size hb2, hbb, hlr0, hld0, hb1, hb2, hl0⟩)
      clear y8' y9 hl0 hl1 hl2 hbb hb1 hb2 BW hlr0 hld0
      have y7 := cell_at (i := 7) hxw rfl
      have hlw := (Array.getElem?_eq_some_iff.1 hxw).1
      clear hxw
      go_wp2_with fail
      refine (HW.out W HRW.out).mono ?_
      rintro e w2 ⟨v, rfl, B2, ho2⟩
      obtain ⟨gx, cx, rfl, hgx, kx, hge⟩ := strs_one_is ho2
      have HR2 := Lib.hid ((B2.block rb (Array.getElem?_eq_some_iff.1 HRW.out).1).trans HRW.out)
      have HD2 := Lib.hid ((B2.block db (Array.getElem?_eq_some_iff.1 HDW.out).1).trans HDW.out)
      have HX2 := Lib.hid ((B2.block w.heap.size (Array.getElem?_eq_some_iff.1 HXW.out).1).trans HXW.out)
      have HI2 := Lib.hid (show MapAt IK w2 ib [] from HIW.out.block (B2.block ib HIW.out.lt))
      have HL12 := Lib.hid ((B2.block b1 (Array.getElem?_eq_some_iff.1 HL1.out).1).trans HL1.out)
      have HL22 := Lib.hid ((B2.block b2 (Array.getElem?_eq_some_iff.1 HL2.out).1).trans HL2.out)
      have HB2 := Lib.hid (HBW.out.trans (B2.mono HBW.out.size))
      clear B2 ho2 y7 hlw HL1 HL2 HRW HDW HXW HIW
      go_wp2_with fail
      refine wp_loop_rounds 2 ?_
      rw [rounds_succ]
      go_wp2_with fail
      refine (HH.out w2).mono ?_
      rintro e w3 ⟨rfl, B3⟩
      have HR3 := Lib.hid ((B3.block rb (Array.getElem?_eq_some_iff.1 HR2.out).1).trans HR2.out)
      have HD3 := Lib.hid ((B3.block db (Array.getElem?_eq_some_iff.1 HD2.out).1).trans HD2.out)
      have HX3 := Lib.hid ((B3.block w.heap.size (Array.getElem?_eq_some_iff.1 HX2.out).1).trans HX2.out)
      have HI3 := Lib.hid (show MapAt IK w3 ib [] from HI2.out.block (B3.block ib HI2.out.lt))
      have HL13 := Lib.hid ((B3.block b1 (Array.getElem?_eq_some_iff.1 HL12.out).1).trans HL12.out)
      have HL23 := Lib.hid ((B3.block b2 (Array.getElem?_eq_some_iff.1 HL22.out).1).trans HL22.out)
      have HB3 := Lib.hid (HB2.out.trans (B3.mono HB2.out.size))
      clear B3 HR2 HD2 HX2 HI2 HL12 HL22 kx
      go_wp2_with fail
      have hT0 : (fun (b : Bool) (W : World) => W.heap[w.heap.size]? = some (.cells #[.int .i64 1, .int .i64 ln, .string ⟨#[]⟩, .string ⟨#[]⟩, .string ⟨#[]⟩, .bool false, .bool false, .string (str t), .string (str nd), .string (str o), .slice ra 0 rc] PT (0, 0))) false w3.drew := HX3.out
      refine wp_region_D 5 (fun (b : Bool) (W : World) => W.heap[w.heap.size]? = some (.cells #[.int .i64 1, .int .i64 ln, .string ⟨#[]⟩, .string ⟨#[]⟩, .string ⟨#[]⟩, .bool false, .bool false, .string (str t), .string (str nd), .string (str o), .slice ra 0 rc] PT (0, 0))) (by kernel_rfl) ?_
      refine wpAnyD_pre (i := 0) [0, 5] (v := .pointer (some ⟨rb, 0, none⟩)) (by rfl) rfl (by rfl) (by kernel_rfl) (by kernel_rfl) (by kernel_rfl) (by kernel_rfl) (by kernel_rfl) (fun c a w h => h) (Or.inl ⟨by rfl, ?_⟩) hT0 ?_
      · rintro W hW; go_simp
      simp only [Act.put, List.setIfInBounds_toArray]
      refine wpAnyD_pre (i := 1) [1, 5] (v := .string x) (by rfl) rfl (by rfl) (by kernel_rfl) (by kernel_rfl) (by kernel_rfl) (by kernel_rfl) (by kernel_rfl) (fun c a w h => h) (Or.inl ⟨by rfl, ?_⟩) hT0 ?_
      · rintro W hW; go_simp
      simp only [Act.put]
      refine wpAnyD_pre (i := 4) [4, 5] (v := .agg #[.int .i64 1, .int .i64 ln, .string ⟨#[]⟩, .string ⟨#[]⟩, .string ⟨#[]⟩, .bool false, .bool false, .string (str t), .string (str nd), .string (str o), .slice ra 0 rc]) (by rfl) rfl (by rfl) (by kernel_rfl) (by kernel_rfl) (by kernel_rfl) (by kernel_rfl) (by kernel_rfl) (fun c a w h => h) (Or.inl ⟨by rfl, ?_⟩) hT0 ?_
      · rintro W hW; have y0 := cell_at (i := 0) hW rfl; have y1 := cell_at (i := 1) hW rfl; have y2 := cell_at (i := 2) hW rfl; have y3 := cell_at (i := 3) hW rfl; have y4 := cell_at (i := 4) hW rfl; have y5 := cell_at (i := 5) hW rfl; have y6 := cell_at (i := 6) hW rfl; have y7 := cell_at (i := 7) hW rfl; have y8 := cell_at (i := 8) hW rfl; have y9 := cell_at (i := 9) hW rfl; have y10 := cell_at (i := 10) hW rfl; go_simp
      simp only [Act.put]
      refine wpAnyD_one (i := 2) (by kernel_rfl) rfl false (by rfl) (fun K hK => ?_)
      go_simp
      refine (HF1.out w3.drew HR3.out HD3.out b1 HL13.out).mono ?_
      rintro e w4 ⟨v, rfl, ho4, hk4⟩
      obtain ⟨ga, ca, rfl, hfa, hgge, hca⟩ := files_one_is ho4
      have hga := hfa.lt
      have e3 : w3.drew.heap = w3.heap := rfl
      have hkk : ∀ i, i < w3.heap.size → i ≠ b1 → w4.heap[i]? = w3.heap[i]? := fun i hi hb => hk4.block i hi (by simpa using hb)
      have HR4 := Lib.hid ((hkk rb (Array.getElem?_eq_some_iff.1 HR3.out).1 (by have := HN.out; omega)).trans HR3.out)
      have HD4 := Lib.hid ((hkk db (Array.getElem?_eq_some_iff.1 HD3.out).1 (by have := HN.out; omega)).trans HD3.out)
      have hx4 := (hkk w.heap.size (Array.getElem?_eq_some_iff.1 HX3.out).1 (by have := HN.out; omega)).trans HX3.out
      have HI4 := Lib.hid (show MapAt IK w4 ib [] from HI3.out.block (hkk ib HI3.out.lt (by have := HN.out; have := HIL.out; omega)))
      have HL24 := Lib.hid ((hkk b2 (Array.getElem?_eq_some_iff.1 HL23.out).1 (by have := HN.out; omega)).trans HL23.out)
      have HB4 := Lib.hid (HB3.out.drew.trans (hk4.to_below (B := w.heap.size) (show w.heap.size ≤ w3.heap.size from HB3.out.size) (by simp; have := HN.out; omega)))
      have HGA := Lib.hid (show ga < w4.heap.size ∧ FAt w4 ga (str q) y ∧ w3.heap.size ≤ ga ∧ 1 ≤ ca from ⟨hga, hfa, hgge, hca⟩)
      have HX4 := Lib.hid hx4
      dsimp only
      refine hK.out _ _ hx4 ?_
      clear hK K ho4 hk4 hkk hx4 hga hfa hgge hca HR3 HD3 HX3 HI3 HL13
      refine wpAnyD_one (i := 3) (by kernel_rfl) rfl false (by rfl) (fun K hK => ?_)
      go_simp
      refine (HF2.out w4 HR4.out b2 HL24.out).mono ?_
      rintro e w5 ⟨rfl, hk5⟩
      have hkk : ∀ i, i < w4.heap.size → i ≠ b2 → w5.heap[i]? = w4.heap[i]? := fun i hi hb => hk5.block i hi (by simpa using hb)
      have hs34 : w3.heap.size ≤ w4.heap.size := by have := HB4.out; have := HGA.out; omega
      have HR5 := Lib.hid ((hkk rb (Array.getElem?_eq_some_iff.1 HR4.out).1 (by have := HN.out; omega)).trans HR4.out)
      have HD5 := Lib.hid ((hkk db (Array.getElem?_eq_some_iff.1 HD4.out).1 (by have := HN.out; omega)).trans HD4.out)
      have hx5 := (hkk w.heap.size (Array.getElem?_eq_some_iff.1 HX4.out).1 (by have := HN.out; omega)).trans HX4.out
      have HI5 := Lib.hid (show MapAt IK w5 ib [] from HI4.out.block (hkk ib HI4.out.lt (by have := HN.out; have := HIL.out; omega)))
      have hgb : ga ≠ b2 := by have := HGA.out; have := (Array.getElem?_eq_some_iff.1 HL23.out).1; omega
      have HGA5 := Lib.hid (show ga < w5.heap.size ∧ FAt w5 ga (str q) y from ⟨Nat.lt_of_lt_of_le HGA.out.1 hk5.size, HGA.out.2.1.block (hkk ga HGA.out.1 hgb)⟩)
      have HX5 := Lib.hid hx5
      have HB5 := Lib.hid (HB4.out.trans (hk5.to_below (B := w.heap.size) HB4.out.size (by simp; have := HN.out; omega)))
      dsimp only
      refine hK.out _ _ hx5 ?_
      clear hK K hk5 hkk hx5
      refine wpAnyD_one (i := 5) (by kernel_rfl) rfl true (by rfl) (fun K hK => ?_)
      go_simp
      refine (HE.out w5 HR5.out HD5.out HI5.out (some ⟨ga, 0, none⟩) ca HGA.out.2.2.2).mono ?_
      rintro e w6 ⟨rfl, g, cg, hd6, hone, hk6⟩
      have hgne : ga ∉ [db, ib] := by
        have h1 := HGA.out; have h2 := HB3.out.size; have h3 := HDL.out; have h4 := HIL.out
        simp; omega
      have hx6 := (hk6.block w.heap.size (Array.getElem?_eq_some_iff.1 HX5.out).1 (by simp; have := HDL.out; have := HIL.out; omega)).trans HX5.out
      have HF6 := Lib.hid (And.intro hd6 (And.intro hone (And.intro hk6 hgne)))
      dsimp only
      refine hK.out _ _ hx6 ?_
      clear hK K hd6 hone hk6 hgne hx6
      refine wpAnyD_done (by kernel_rfl) ?_ _
      go_wp2_with fail
      rw [rounds_succ]
      go_wp2_with fail
      go_end0
      obtain ⟨hd6, hone, hk6, hgne⟩ := HF6.out
      exact ⟨rfl, g, cg, ga, hd6, ⟨Nat.le_trans HB5.out.size hone.lo, hone.row, hone.c1, hone.cm⟩, HGA5.out.2.block (hk6.block ga HGA5.out.1 hgne), (Kept.of_below (X := [db, ib]) HB5.out).trans hk6⟩
    | _ => exact hq.elim
  · have l1 := heap_last w0 (.cells (lC rb (str nd) (.slice none 0 0) (.slice none 0 0) false false) LsT)
    have l2 := heap_last (w0.alloc (.cells (lC rb (str nd) (.slice none 0 0) (.slice none 0 0) false false) LsT)) (.cells (lC rb (str o) (.slice none 0 0) (.slice none 0 0) false false) LsT)
    rw [World.size_alloc] at l2
    have k1 := heap_last w0 (.cells (lC rb (str o) (.slice none 0 0) (.slice none 0 0) false false) LsT)
    have k2 := heap_last (w0.alloc (.cells (lC rb (str o) (.slice none 0 0) (.slice none 0 0) false false) LsT)) (.cells (lC rb (str nd) (.slice none 0 0) (.slice none 0 0) false false) LsT)
    rw [World.size_alloc] at k2
    have BB : ∀ o1 o2, Below w0.heap.size w0 ((w0.alloc o1).alloc o2).drew := fun o1 o2 => (((Below.refl _ w0).alloc (Nat.le_refl _) o1).alloc (by simp) o2).drew
    have L1 := Lib.hid l1
    have L2 := Lib.hid l2
    have K1 := Lib.hid k1
    have K2 := Lib.hid k2
    have HBB := Lib.hid BB
    clear l1 l2 k1 k2 BB
    go_region
    all_goals first
      | exact ⟨_, _, rfl, w0.heap.size, w0.heap.size + 1, rfl, rfl, by omega, alloc_keep L1.out _, L2.out, Nat.le_refl _, Nat.le_succ _, HBB.out _ _⟩
      | exact ⟨_, _, rfl, w0.heap.size + 1, w0.heap.size, rfl, rfl, by omega, K2.out, alloc_keep K1.out _, Nat.le_succ _, Nat.le_refl _, HBB.out _ _⟩
end
end Go.Proofs.YtpliljcjjffipaaGreatDoor.Dq
