/-
  Clip, join, (*Target).extend, (*reading).target: of a target that is new.
-/
import Derived.Test.YtpliljcjjffipaaGreatDoorQDQ
import Derived.Test.YtpliljcjjffipaaGreatDoorQKOrder
import Derived.Test.YtpliljcjjffipaaGreatDoorQMRec
namespace Go.Proofs.YtpliljcjjffipaaGreatDoor.Dq
open Go.RowKit Go.Proofs.YtpliljcjjffipaaGreatDoor Go.Maps Go.Proofs.YtpliljcjjffipaaGreatDoor.Ww Go.Proofs.YtpliljcjjffipaaGreatDoor.Tw Go.Proofs.YtpliljcjjffipaaGreatDoor.Kw Go.Proofs.YtpliljcjjffipaaGreatDoor.Jw Go.Proofs.YtpliljcjjffipaaGreatDoor.Xb Go.Proofs.YtpliljcjjffipaaGreatDoor.Xw Go.Proofs.YtpliljcjjffipaaGreatDoor.Dz
set_option maxRecDepth 100000

abbrev GT : TypeId := 87
theorem Clip_any (w : World) (a : Option Addr) (n c : Nat) (h : n ≤ c) : Calls Tryz.prog 306 #[.slice a n c] w fun e w' => e = .returned (.slice a n n) ∧ w' = w := by
  go_enter Tryz.func306, Tryz.ntmps306
  go_wp2_with fail
  go_ret
  exact ⟨rfl, rfl⟩
theorem join_none (w : World) (a : Option Addr) (n c : Nat) (h : n ≤ c) : Calls Tryz.prog 276 #[.slice none 0 0, .slice a n c] w fun e w' => e = .returned (.slice a n n) ∧ w' = w := by
  go_enter Tryz.func276, Tryz.ntmps276
  go_wp2_with fail
  refine (Clip_any w a n c h).mono ?_
  rintro e w2 ⟨rfl, rfl⟩
  go_wp2_with fail
  go_ret
  exact ⟨rfl, rfl⟩
/-- A part of a rule without a recipe. -/
def ruC (ln : Int) (t n o : ByteArray) (ra : Option Addr) (rc : Nat) : Array Value := #[.int .i64 1, .int .i64 ln, .string ⟨#[]⟩, .string ⟨#[]⟩, .string ⟨#[]⟩, .bool false, .bool false, .string t, .string n, .string o, .slice ra 0 rc]
/-- A row of one target. -/
structure One (w : World) (lo g c : Nat) (xs : List Value) : Prop where
  lo : lo ≤ g
  row : ∃ cur, w.heap[g]? = some (.cells cur GT (0, 0)) ∧ cur.size = c * 7 ∧ cur.toList.take 7 = xs
  c1 : 1 ≤ c
  cm : c ≤ 9223372036854775807
theorem One.of {w : World} {lo : Nat} {v : Value} {xs : List Value} (h : w.ownsRow lo GT 7 v 1 xs) : ∃ g c, v = .slice (some ⟨g, 0, none⟩) 1 c ∧ One w lo g c xs := by
  rcases h.2 with ⟨_, h0⟩ | ⟨g, cap, cur, hv, hb, hg, h1, h2, h3, h4⟩
  · cases h0
  · exact ⟨g, cap, hv, hb, ⟨cur, hg, h3, h4⟩, h1, h2⟩
theorem One.cell {w : World} {lo g c : Nat} {xs : List Value} (h : One w lo g c xs) {i : Nat} {u : Value} (hi : i < 7) (hu : xs[i]? = some u) : w.cell? ⟨g, i, none⟩ = some u := by
  obtain ⟨cur, h1, h2, h3⟩ := h.row
  refine cell_at h1 ?_
  rw [← h3, List.getElem?_take_of_lt hi] at hu
  rw [← hu]; simp
theorem One.frozen {w : World} {lo g c : Nat} {xs : List Value} (h : One w lo g c xs) (i : Nat) : w.frozen? ⟨g, i, none⟩ = false := by
  obtain ⟨cur, h1, h2, h3⟩ := h.row
  exact frozen_at h1 i
theorem One.lt {w : World} {lo g c : Nat} {xs : List Value} (h : One w lo g c xs) : g < w.heap.size := by
  obtain ⟨cur, h1, h2, h3⟩ := h.row
  exact (Array.getElem?_eq_some_iff.1 h1).1
theorem One.block {w w' : World} {lo g c : Nat} {xs : List Value} (h : One w lo g c xs) (hb : w'.heap[g]? = w.heap[g]?) : One w' lo g c xs := by
  obtain ⟨cur, h1, h2, h3⟩ := h.row
  exact ⟨h.lo, ⟨cur, hb.trans h1, h2, h3⟩, h.c1, h.cm⟩
theorem One.set {w : World} {lo g c : Nat} {xs : List Value} (h : One w lo g c xs) (i : Nat) (v : Value) : One (w.setCell ⟨g, i, none⟩ v) lo g c (xs.set i v) := by
  obtain ⟨cur, h1, h2, h3⟩ := h.row
  refine ⟨h.lo, ⟨cur.setIfInBounds i v, heap_set (i := i) h1 v, by simpa using h2, ?_⟩, h.c1, h.cm⟩
  rw [Array.toList_setIfInBounds, List.take_set, h3]
theorem alloc_block {W : World} {b : Nat} (h : b < W.heap.size) (o : Obj) : (W.alloc o).drew.heap[b]? = W.heap[b]? := (((Below.refl _ W).alloc (Nat.le_refl _) o).block b h)
set_option maxHeartbeats 2000000 in
theorem extend_new (w : World) (g : Nat) (a a' : Option Addr) (n c n' c' : Nat) (ln : Int) (t nd o : ByteArray) (ra : Option Addr) (rc : Nat) (c2 : w.cell? ⟨g, 2, none⟩ = some (.slice none 0 0)) (c3 : w.cell? ⟨g, 3, none⟩ = some (.slice none 0 0)) (hf : ∀ j, w.frozen? ⟨g, j, none⟩ = false) (hg : g < w.heap.size)
    (h : n ≤ c) (h' : n' ≤ c') :
    Calls Tryz.prog 233 #[.pointer (some ⟨g, 0, none⟩), .slice a n c, .slice a' n' c', .agg (ruC ln t nd o ra rc)] w fun e w' => e = .returned (.tuple #[]) ∧ (∀ lo cp xs, One w lo g cp xs → One w' lo g cp ((xs.set 2 (.slice a n n)).set 3 (.slice a' n' n'))) ∧ Kept [g] w w' := by
  have f2 := hf 2
  have f3 := hf 3
  have HJ := Lib.hid fun W a n c h => join_none W a n c h
  clear hf
  unfold ruC
  go_enter Tryz.func233, Tryz.ntmps233
  go_wp2_with fail
  go_region_with (go_at_call 276; refine (HJ.out _ _ _ _ (by assumption)).mono ?_; rintro e w2 ⟨rfl, rfl⟩)
  all_goals (
    go_wp2_with fail
    refine bodyPost_ret (results_none rfl _ _ _) rfl ?_
    refine ⟨rfl, fun lo cp xs h1 => ((h1.set 2 _).set 3 _).block (alloc_block (by simpa [World.setCell] using hg) _), ((((Kept.refl [g] w).setCell (p := ⟨g, 2, none⟩) (.inl (by simp)) _).setCell (p := ⟨g, 3, none⟩) (.inl (by simp)) _).alloc _).drewN 1⟩)
theorem infoG : (Tryz.prog.info? GT).map (fun i => (i.zero, i.size, i.bytes)) = some (some (.agg #[.string ⟨#[]⟩, .string ⟨#[]⟩, .slice none 0 0, .slice none 0 0, .slice none 0 0, .int .i64 0, .bool false]), 7, 120) := by kernel_rfl
def gC (p x : ByteArray) : List Value := [.string p, .string x, .slice none 0 0, .slice none 0 0, .slice none 0 0, .int .i64 0, .bool false]
/-- An entry, put. -/
theorem put_run {α : Type} {K : Kind α} {w : World} {bm : Nat} {L : List (Bs × α)} {p : Bs} {c : α} (hM : MapAt K w bm L) (hp : p.length ≤ maxLen) (hn : L.length < maxLen) :
    ∃ w', (Instr.mapUpdate K.mt (.map (some bm)) (.string (str p)) (K.val c)).run Tryz.prog w = .ok () w' ∧ MapAt K w' bm (Kp.ins L (p, c)) ∧ w.mapTurned w' bm := by
  obtain ⟨w', hrun, r1, r2⟩ := hM.own.store (val := K.val c) (d := K.enc c) (ps := []) key K.und hn (key_of (p := str p) (by show p.toArray.size ≤ _; rw [List.size_toArray]; exact hp)) (K.elem_mk c)
  rw [show by8 (str p) = p from rfl, Kp.put_mapOf K.enc (f := (p, c)) hM.sorted] at r1
  exact ⟨w', hrun, MapAt.of_own r1 (Kp.sorted_ins hM.sorted), r2⟩
section
variable {rb db tb ib kb : Nat} {au gv : Value} {w : World}
set_option maxHeartbeats 4000000 in
theorem target_new (hr : w.heap[rb]? = some (.cells (rC db tb au gv ib kb) RT (0, 0))) {dir : ByteArray} {pv cv gl : Value} (hd : w.heap[db]? = some (.cells (dC dir tb (.slice none 0 0) pv cv gl) DT (0, 0))) (hI : MapAt IK w ib []) (p : Bs) (x : ByteArray) (hp : p.length ≤ 1000000) :
    Calls Tryz.prog 231 #[.pointer (some ⟨rb, 0, none⟩), .agg #[.string (str p), .string x]] w fun e w' => ∃ g c, e = .returned (.pointer (some ⟨g, 0, none⟩)) ∧ w'.heap[db]? = some (.cells (dC dir tb (.slice (some ⟨g, 0, none⟩) 1 c) pv cv gl) DT (0, 0)) ∧ One w' w.heap.size g c (gC (str p) x) ∧ Kept [db, ib] w w' := by
  have hrl := (Array.getElem?_eq_some_iff.1 hr).1
  have hdl := (Array.getElem?_eq_some_iff.1 hd).1
  have hsz : (str p).size ≤ maxLen := by show p.toArray.size ≤ _; rw [List.size_toArray]; unfold maxLen; omega
  have nir : ib ≠ rb := hI.not_cells hr
  have hib : ib < w.heap.size := hI.lt
  have nid : ib ≠ db := hI.not_cells hd
  have B0 := (Below.refl w.heap.size w).alloc (Nat.le_refl _) (.cells #[.string (str p), .string x] FiT)
  have hx0 := heap_last w (.cells #[.string (str p), .string x] FiT)
  have hr0 := (B0.block _ hrl).trans hr
  have hd0 := (B0.block _ hdl).trans hd
  have hI0 : MapAt IK (w.alloc (.cells #[.string (str p), .string x] FiT)) ib [] := hI.below B0
  have hs0 : (w.alloc (.cells #[.string (str p), .string x] FiT)).heap.size = w.heap.size + 1 := by simp
  have HS0 := Lib.hid hs0
  clear hr hd hI hs0
  go_enter Tryz.func231, Tryz.ntmps231
  go_upto_region 1 with (fail)
  generalize w.alloc (.cells #[.string (str p), .string x] FiT) = w0 at *
  have hL : (Instr.lookup 112 (.map (some ib)) (.string (str p)) true).run Tryz.prog w0.drew = .ok (.tuple #[.int .i64 0, .bool false]) w0.drew := (Kw.MOpt.run_look (K := IK) (w := w0.drew) (m := some ib) (hI0.block (w' := w0.drew) rfl) hsz).1
  have z0 := cell_at (i := 0) hx0 rfl
  have z1 := cell_at (i := 1) hx0 rfl
  have c4 : w0.cell? ⟨rb, 4, none⟩ = some (.map (some ib)) := cell_at hr0 rfl
  have c0 : w0.cell? ⟨rb, 0, none⟩ = some (.pointer (some ⟨db, 0, none⟩)) := cell_at hr0 rfl
  have d2 : w0.cell? ⟨db, 2, none⟩ = some (.slice none 0 0) := cell_at hd0 rfl
  have l1 := (Array.getElem?_eq_some_iff.1 hr0).1
  have l2 := (Array.getElem?_eq_some_iff.1 hd0).1
  have l3 := (Array.getElem?_eq_some_iff.1 hx0).1
  have HR := Lib.hid hr0
  have HD := Lib.hid hd0
  have HX := Lib.hid hx0
  have HI := Lib.hid hI0
  have HB := Lib.hid B0
  have HIW := Lib.hid hib
  clear hr0 hd0 hx0 hI0 B0
  go_region
  all_goals (
    go_wp2_with fail
    obtain ⟨w2, hrun, hM2, ht2⟩ := put_run (K := IK) (w := w0.drew.drew) (p := p) (c := 0) (HI.out.block (w' := w0.drew.drew) rfl) (by unfold maxLen; omega) (by decide)
    replace hrun : (Instr.mapUpdate 112 (.map (some ib)) (.string (str p)) (.int .i64 0)).run Tryz.prog w0.drew.drew = .ok () w2 := hrun
    clear hL
    go_region
    all_goals (
      have hk2 : Kept [ib] w0 w2 := (((Kept.refl [ib] w0).drewN 1).drewN 1).grown ht2.grown (fun r e => by cases e; exact .inl (by simp))
      have hr2 := (hk2.block rb l1 (by simpa using fun e => nir e.symm)).trans HR.out
      have hd2 := (hk2.block db l2 (by simpa using fun e => nid e.symm)).trans HD.out
      have hx2 := (hk2.block w.heap.size l3 (by simpa using fun e => by have := HIW.out; omega)).trans HX.out
      have HK2 := Lib.hid hk2
      clear hrun hM2 ht2 z0 z1 c4 c0 d2 l1 l2 l3 hk2
      have z0 := cell_at (i := 0) hx2 rfl
      have z1 := cell_at (i := 1) hx2 rfl
      have c0 : w2.cell? ⟨rb, 0, none⟩ = some (.pointer (some ⟨db, 0, none⟩)) := cell_at hr2 rfl
      have d2 : w2.cell? ⟨db, 2, none⟩ = some (.slice none 0 0) := cell_at hd2 rfl
      have e2 := frozen_at hd2 2
      have l1 := (Array.getElem?_eq_some_iff.1 hr2).1
      have l2 := (Array.getElem?_eq_some_iff.1 hd2).1
      have l3 := (Array.getElem?_eq_some_iff.1 hx2).1
      have HD2 := Lib.hid hd2
      have HR2 := Lib.hid hr2
      clear hr2 hd2 hx2
      have HNE := Lib.hid (show rb ≠ db from fun e => by subst e; have h1 := HR2.out; rw [HD2.out] at h1; injection h1 with h1; injection h1 with h2 h3; revert h3; decide)
      obtain ⟨i0, hi, hz0, hz1, hz2⟩ := info_parts infoG
      have HKW := Lib.hid (show Kept [db, ib] w w2 from (Kept.of_below HB.out).trans (HK2.out.mono (by simp)))
      go_wp2_with fail
      go_region_law (refine Mw.step_append_own rfl _ _ 66 rfl w.heap.size GT i0 _ 7 120 Tryz.underlying66 hi hz0 hz1 hz2 rfl (by decide) (.slice none 0 0) 0 [] (by simp [go_sem]) (World.ownsRow_nil _ _ _ _) ⟨w2.heap.size, 0, none⟩ 1 1 (gC (str p) x) (by simp [go_sem]) rfl (cells_new _ (gC (str p) x).toArray _ rfl) (by simp [gC, Value.oneCell']) (by unfold maxLen; omega) (by omega) (by have := HKW.out.size; simp; omega) ?_; intro v1 w3 hown hgrow hat; obtain ⟨g, cg, rfl, hone⟩ := One.of hown; have hr3 := (hgrow.block rb (by simp; omega) (fun e => by cases e)).trans (alloc_keep (W := w2.drew) HR2.out _); have hd3 := (hgrow.block db (by simp; omega) (fun e => by cases e)).trans (alloc_keep (W := w2.drew) HD2.out _); have k3 : w3.cell? ⟨db, 2, none⟩ = some (.slice none 0 0) := cell_at hd3 rfl; have q3 := frozen_at hd3 2; have r30 : w3.cell? ⟨rb, 0, none⟩ = some (.pointer (some ⟨db, 0, none⟩)) := cell_at hr3 rfl; have r31 := (Array.getElem?_eq_some_iff.1 hr3).1; have HR3 := Lib.hid hr3; have HD3 := Lib.hid hd3; have l4 := (Array.getElem?_eq_some_iff.1 hd3).1; have HO3 := Lib.hid hone; have HG3 := Lib.hid hgrow; clear hown hgrow hat hr3 hd3 hone)
      all_goals (
        go_wp2_with fail
        go_ret
        have hk3 : Kept [db, ib] w w3 := ((HKW.out.drewN 1).alloc _).grown HG3.out (fun r e => by cases e)
        exact ⟨g, cg, rfl, heap_set (i := 2) HD3.out _, HO3.out.block (Below.heap_setCell _ _ _ _ (by have := HO3.out.lo; show g ≠ db; omega)), hk3.setCell (p := ⟨db, 2, none⟩) (.inl (by simp)) _⟩))
    )
end
end Go.Proofs.YtpliljcjjffipaaGreatDoor.Dq
