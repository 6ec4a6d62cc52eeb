/-
  (*list).asWords, (*list).asFiles.
  Clip, join, (*Target).extend, (*reading).target: of a target that is new.
  (*reading).explicit, (*reading).rule, (*reading).part of the rule "a: b".
  (*reading).rule of a rule with one target, one need, no recipe.
-/
import Derived.Test.YtgednccpjegbmaaGreatDoorQDQStart
import Derived.Test.YtgednccpjegbmaaGreatDoorQMRec
import Derived.Test.YtgednccpjegbmaaGreatDoorQJBase
import Derived.Test.YtgednccpjegbmaaGreatDoorQTPut
namespace Go.Proofs.YtgednccpjegbmaaGreatDoor.Dq
open Go.RowKit Go.Proofs.YtgednccpjegbmaaGreatDoor Go.Maps Go.Proofs.YtgednccpjegbmaaGreatDoor.Ww Go.Proofs.YtgednccpjegbmaaGreatDoor.Tw Go.Proofs.YtgednccpjegbmaaGreatDoor.Kw Go.Proofs.YtgednccpjegbmaaGreatDoor.Jw Go.Proofs.YtgednccpjegbmaaGreatDoor.Xb Go.Proofs.YtgednccpjegbmaaGreatDoor.Xw Go.Proofs.YtgednccpjegbmaaGreatDoor.Dz
set_option maxRecDepth 100000

abbrev LsT : TypeId := 215
def lC (rb : Nat) (t : ByteArray) (wv fv : Value) (sp md : Bool) : Array Value := #[.pointer (some ⟨rb, 0, none⟩), .string t, wv, fv, .bool sp, .bool md]
theorem slice_of {w : World} {B : Nat} {e : TypeId} {z : Nat} {v : Value} {n : Nat} {xs : List Value} (h : w.ownsRow B e z v n xs) : ∃ a k c, v = .slice a k c := by
  rcases h.2 with ⟨h, _⟩ | ⟨g, cap, _, h, _⟩
  · exact ⟨_, _, _, h⟩
  · exact ⟨_, _, _, h⟩
section
variable {rb db tb ib kb : Nat} {au gv : Value} {w : World}
set_option maxHeartbeats 4000000 in
theorem asWords_new (hr : w.heap[rb]? = some (.cells (rC db tb au gv ib kb) RT (0, 0))) (lb : Nat) (s : Bs) (hl : w.heap[lb]? = some (.cells (lC rb (str s) (.slice none 0 0) (.slice none 0 0) false false) LsT (0, 0))) (h0 : (36 : UInt8) ∉ s) (hs : s.length ≤ 1000) :
    Calls Tryz.prog 134 #[.pointer (some ⟨lb, 0, none⟩)] w fun e w' => ∃ v, e = .returned v ∧ w'.heap[lb]? = some (.cells (lC rb (str s) v (.slice none 0 0) true false) LsT (0, 0)) ∧ w'.ownsRow w.heap.size ST 1 v (wordsS (str s)).length (strsC (wordsS (str s))) ∧ Kept [lb] w w' := by
  have HW := Lib.hid (words_plain (w := w.drew) hr s h0 hs)
  have c0 : w.cell? ⟨lb, 0, none⟩ = some (.pointer (some ⟨rb, 0, none⟩)) := cell_at hl rfl
  have c1 : w.cell? ⟨lb, 1, none⟩ = some (.string (str s)) := cell_at hl rfl
  have c4 : w.cell? ⟨lb, 4, none⟩ = some (.bool false) := cell_at hl rfl
  have hlt := (Array.getElem?_eq_some_iff.1 hl).1
  have HL := Lib.hid hl
  clear hl hr
  go_enter Tryz.func134, Tryz.ntmps134
  go_wp2_with fail
  go_region_with (go_at_call 84; refine HW.out.mono ?_; rintro e w1 ⟨v, rfl, B1, ho⟩; have hl1 := (B1.block lb (show lb < w.drew.heap.size from hlt)).trans HL.out; have HL1 := Lib.hid hl1; have HO1 := Lib.hid ho; have HB1 := Lib.hid B1; have hlt1 := (Array.getElem?_eq_some_iff.1 hl1).1; have f2 := frozen_at hl1 2; have f4 := frozen_at hl1 4; have k2 : w1.cell? ⟨lb, 2, none⟩ = some (.slice none 0 0) := cell_at hl1 rfl; have k4 : w1.cell? ⟨lb, 4, none⟩ = some (.bool false) := cell_at hl1 rfl; obtain ⟨av, nv, cv, rfl⟩ := slice_of ho; clear hl1 ho B1 HW c0 c1 c4)
  all_goals (
    go_wp2_with fail
    go_ret
    have B1 : Below w.heap.size w w1 := ((Below.refl _ w).drew).trans HB1.out
    have hk := ((Kept.of_below (X := [lb]) B1).setCell (p := ⟨lb, 2, none⟩) (.inl (by simp)) (.slice av nv cv)).setCell (p := ⟨lb, 4, none⟩) (.inl (by simp)) (.bool true)
    refine ⟨_, rfl, heap_set (i := 4) (heap_set (i := 2) HL1.out (.slice av nv cv)) (.bool true), ?_, hk⟩
    refine Mw.own_kept HO1.out fun g' hg' => ?_
    have hge : w.heap.size ≤ g' := by
      rcases HO1.out.2 with ⟨h, _⟩ | ⟨g, _, _, h, hb, _⟩
      · rw [h] at hg'; cases hg'
      · rw [h] at hg'; cases hg'; exact hb
    exact (Below.heap_setCell _ _ _ _ (by show g' ≠ lb; omega)).trans (Below.heap_setCell _ _ _ _ (by show g' ≠ lb; omega)))
theorem infoFi : (Tryz.prog.info? FiT).map (fun i => (i.zero, i.size, i.bytes)) = some (some (.agg #[.string ⟨#[]⟩, .string ⟨#[]⟩]), 2, 32) := by kernel_rfl
theorem strs_one_is {x : ByteArray} {w : World} {B : Nat} {v : Value} (h : w.ownsRow B ST 1 v [x].length (strsC [x])) : ∃ g c, v = .slice (some ⟨g, 0, none⟩) 1 c ∧ g < w.heap.size ∧ w.cell? ⟨g, 0, none⟩ = some (.string x) ∧ B ≤ g := by
  rcases h.2 with ⟨_, h0⟩ | ⟨g, cap, cur, hv, hb, hg, _⟩
  · cases h0
  · subst hv
    refine ⟨g, cap, rfl, (Array.getElem?_eq_some_iff.1 hg).1, ?_, hb⟩
    have := h.cells (g := g) rfl 0 (.string x) rfl
    rwa [Addr.add_lit] at this
end
end Go.Proofs.YtgednccpjegbmaaGreatDoor.Dq
namespace Go.Proofs.YtgednccpjegbmaaGreatDoor.Dq
open Go.RowKit Go.Proofs.YtgednccpjegbmaaGreatDoor Go.Maps Go.Proofs.YtgednccpjegbmaaGreatDoor.Ww Go.Proofs.YtgednccpjegbmaaGreatDoor.Tw Go.Proofs.YtgednccpjegbmaaGreatDoor.Kw Go.Proofs.YtgednccpjegbmaaGreatDoor.Jw Go.Proofs.YtgednccpjegbmaaGreatDoor.Xb Go.Proofs.YtgednccpjegbmaaGreatDoor.Xw Go.Proofs.YtgednccpjegbmaaGreatDoor.Dz
set_option maxRecDepth 100000

abbrev GT : TypeId := 133
section
variable {rb db tb ib kb : Nat} {au gv : Value} {w : World}
end
end Go.Proofs.YtgednccpjegbmaaGreatDoor.Dq
namespace Go.Proofs.YtgednccpjegbmaaGreatDoor.Dq
open Go.RowKit Go.Proofs.YtgednccpjegbmaaGreatDoor Go.Maps Go.Proofs.YtgednccpjegbmaaGreatDoor.Ww Go.Proofs.YtgednccpjegbmaaGreatDoor.Tw Go.Proofs.YtgednccpjegbmaaGreatDoor.Kw Go.Proofs.YtgednccpjegbmaaGreatDoor.Jw Go.Proofs.YtgednccpjegbmaaGreatDoor.Xb Go.Proofs.YtgednccpjegbmaaGreatDoor.Xw Go.Proofs.YtgednccpjegbmaaGreatDoor.Dz
set_option maxRecDepth 100000

abbrev PT : TypeId := 130
section
variable {rb db tb ib kb : Nat} {au gv : Value} {w : World}
end
end Go.Proofs.YtgednccpjegbmaaGreatDoor.Dq
namespace Go.Proofs.YtgednccpjegbmaaGreatDoor.Dq
open Go.RowKit Go.Proofs.YtgednccpjegbmaaGreatDoor Go.Maps Go.Proofs.YtgednccpjegbmaaGreatDoor.Ww Go.Proofs.YtgednccpjegbmaaGreatDoor.Tw Go.Proofs.YtgednccpjegbmaaGreatDoor.Kw Go.Proofs.YtgednccpjegbmaaGreatDoor.Jw Go.Proofs.YtgednccpjegbmaaGreatDoor.Xb Go.Proofs.YtgednccpjegbmaaGreatDoor.Xw Go.Proofs.YtgednccpjegbmaaGreatDoor.Dz
set_option maxRecDepth 100000

section
variable {rb db tb ib kb : Nat} {au gv : Value} {w : World}
/-- One file in a row. -/
def FAt (w : World) (g : Nat) (x y : ByteArray) : Prop := ∃ cur, w.heap[g]? = some (.cells cur FiT (0, 0)) ∧ cur[0]? = some (.string x) ∧ cur[1]? = some (.string y)
theorem FAt.lt {w : World} {g : Nat} {x y : ByteArray} (h : FAt w g x y) : g < w.heap.size := by
  obtain ⟨_, h, _⟩ := h
  exact (Array.getElem?_eq_some_iff.1 h).1
theorem FAt.block {w w' : World} {g : Nat} {x y : ByteArray} (h : FAt w g x y) (hb : w'.heap[g]? = w.heap[g]?) : FAt w' g x y := by
  obtain ⟨cur, h, h2⟩ := h
  exact ⟨cur, hb.trans h, h2⟩
theorem files_one_is {x y : ByteArray} {w : World} {B : Nat} {v : Value} (h : w.ownsRow B FiT 2 v 1 [.string x, .string y]) : ∃ g c, v = .slice (some ⟨g, 0, none⟩) 1 c ∧ FAt w g x y ∧ B ≤ g ∧ 1 ≤ c := by
  rcases h.2 with ⟨_, h0⟩ | ⟨g, cap, cur, hv, hb, hg, h1, h2, h3, h4⟩
  · cases h0
  · refine ⟨g, cap, hv, ⟨cur, hg, ?_, ?_⟩, hb, h1⟩
    · have := congrArg (·[0]?) h4
      simpa using this
    · have := congrArg (·[1]?) h4
      simpa using this
/-- Two lists, made. -/
def Lists (_w w1 : World) (rb : Nat) (nd o : ByteArray) (v4 v5 : Value) (W : World) : Prop :=
  ∃ b1 b2, v4 = .pointer (some ⟨b1, 0, none⟩) ∧ v5 = .pointer (some ⟨b2, 0, none⟩) ∧ b1 ≠ b2 ∧ W.heap[b1]? = some (.cells (lC rb nd (.slice none 0 0) (.slice none 0 0) false false) LsT (0, 0)) ∧ W.heap[b2]? = some (.cells (lC rb o (.slice none 0 0) (.slice none 0 0) false false) LsT (0, 0)) ∧ w1.heap.size ≤ b1 ∧ w1.heap.size ≤ b2 ∧ Below w1.heap.size w1 W
end
end Go.Proofs.YtgednccpjegbmaaGreatDoor.Dq
