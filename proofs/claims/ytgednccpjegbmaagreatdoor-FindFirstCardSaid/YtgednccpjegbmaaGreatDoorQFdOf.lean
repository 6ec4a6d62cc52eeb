/-
  find.explicit without targets; before; a search in memory.
  (*search).files of one word, and of none.
  (*search).complete of patterns of one need and one line each; find.Of without targets.
  find.Of of a makefile of patterns without targets.
-/
import Derived.Test.YtgednccpjegbmaaGreatDoorQFdPart
import Derived.Test.YtgednccpjegbmaaGreatDoorQFdReadP
import Derived.Test.YtgednccpjegbmaaGreatDoorQDQRule2
import Derived.Test.YtgednccpjegbmaaGreatDoorQTPut
import Derived.Deep.RegionHeld3
namespace Go.Proofs.YtgednccpjegbmaaGreatDoor.Dq
open Go.RowKit Go.Proofs.YtgednccpjegbmaaGreatDoor Go.Maps Go.Proofs.YtgednccpjegbmaaGreatDoor.Ww Go.Proofs.YtgednccpjegbmaaGreatDoor.Tw Go.Proofs.YtgednccpjegbmaaGreatDoor.Kw Go.Proofs.YtgednccpjegbmaaGreatDoor.Jw Go.Proofs.YtgednccpjegbmaaGreatDoor.Xb Go.Proofs.YtgednccpjegbmaaGreatDoor.Xw Go.Proofs.YtgednccpjegbmaaGreatDoor.Dz
set_option maxRecDepth 100000
def zeroT : Array Value := #[.string ⟨#[]⟩, .string ⟨#[]⟩, .slice none 0 0, .slice none 0 0, .slice none 0 0, .int .i64 0, .bool false]
/-- A Data without targets. -/
def NoTg (W : World) (db : Nat) (dir : ByteArray) (pv : Value) : Prop := ∃ cb cv gl, W.heap[db]? = some (.cells (dC dir cb (.slice none 0 0) pv cv gl) DT (0, 0))
theorem NoTg.below {W w' : World} {db : Nat} {dir : ByteArray} {pv : Value} (h : NoTg W db dir pv) (hB : Below W.heap.size W w') : NoTg w' db dir pv := by
  obtain ⟨cb, cv, gl, h⟩ := h
  exact ⟨cb, cv, gl, (hB.block _ (Array.getElem?_eq_some_iff.1 h).1).trans h⟩
theorem NoTg.kept {W w' : World} {db : Nat} {dir : ByteArray} {pv : Value} {Y : List Nat} (h : NoTg W db dir pv) (hk : Kept Y W w') (hy : db ∉ Y) : NoTg w' db dir pv := by
  obtain ⟨cb, cv, gl, h⟩ := h
  exact ⟨cb, cv, gl, (hk.block _ (Array.getElem?_eq_some_iff.1 h).1 hy).trans h⟩
theorem NoTg.lt {W : World} {db : Nat} {dir : ByteArray} {pv : Value} (h : NoTg W db dir pv) : db < W.heap.size := by
  obtain ⟨cb, cv, gl, h⟩ := h
  exact (Array.getElem?_eq_some_iff.1 h).1
set_option maxHeartbeats 2000000 in
theorem Get_no {w : World} {db : Nat} {dir : ByteArray} {pv : Value} (h : NoTg w db dir pv) (p : ByteArray) :
    Calls Tryz.prog 48 #[.pointer (some ⟨db, 0, none⟩), .string p] w fun e w' => e = .returned (.tuple #[.agg zeroT, .bool false]) ∧ Below w.heap.size w w' := by
  have hz : (Tryz.prog.info? GT).map (·.size) = some 7 := by kernel_rfl
  have hu : Tryz.prog.underlying GT = some (.struct (Tryz.prog.fieldsOf GT)) := by kernel_rfl
  obtain ⟨cb, cv, gl, h⟩ := h
  have d2 : w.cell? ⟨db, 2, none⟩ = some (.slice none 0 0) := cell_at h rfl
  have hlt := (Array.getElem?_eq_some_iff.1 h).1
  clear h
  go_enter Tryz.func48, Tryz.ntmps48
  go_wp2_with fail
  refine wp_loop_rounds 1 ?_
  rw [rounds_succ]
  go_wp2_with fail
  refine bodyPost_ret (Mw.results_two Tryz.results48 _ _ w.heap.size GT zeroT (0, 0) _ (.bool false) rfl rfl (heap_last _ _) hu rfl hz) rfl ?_
  exact ⟨rfl, (Below.refl _ w).alloc (Nat.le_refl _) _⟩
abbrev nodeZ (p x : ByteArray) : Array Value := nodeC p x (.slice none 0 0) (.slice none 0 0) (.slice none 0 0) ⟨#[]⟩ 0 false false
set_option maxHeartbeats 4000000 in
theorem explicit_no {w : World} {db : Nat} {dir : ByteArray} {pv : Value} (h : NoTg w db dir pv) (p x : ByteArray) :
    Calls Tryz.prog 25 #[.pointer (some ⟨db, 0, none⟩), .agg #[.string p, .string x]] w fun e w' => e = .returned (.agg (nodeZ p x)) ∧ Below w.heap.size w w' := by
  have HG := Lib.hid fun W (hW : Below w.heap.size w W) => Get_no (h.below hW) p
  have HB0 := Lib.hid (((Below.refl w.heap.size w).alloc (Nat.le_refl _) (.cells #[.string p, .string x] FiT)).alloc (by simp) (.cells (nodeZ ⟨#[]⟩ ⟨#[]⟩) NoT))
  have HX0 := Lib.hid (alloc_keep (heap_last w (.cells #[.string p, .string x] FiT)) (.cells (nodeZ ⟨#[]⟩ ⟨#[]⟩) NoT))
  have hn0 := heap_last (w.alloc (.cells #[.string p, .string x] FiT)) (.cells (nodeZ ⟨#[]⟩ ⟨#[]⟩) NoT)
  rw [World.size_alloc] at hn0
  have HN0 := Lib.hid hn0
  have x0 := cell_at (i := 0) HX0.out rfl
  have l0 := (Array.getElem?_eq_some_iff.1 HX0.out).1
  clear h hn0
  go_enter Tryz.func25, Tryz.ntmps25
  go_upto_region 1 with (fail)
  unfold nodeZ nodeC at *
  generalize (w.alloc (.cells #[.string p, .string x] FiT)).alloc (.cells #[.string ⟨#[]⟩, .string ⟨#[]⟩, .slice none 0 0, .slice none 0 0, .slice none 0 0, .string ⟨#[]⟩, .int .i64 0, .bool false, .bool false] NoT) = w0 at *
  go_wp2_with fail
  refine (HG.out w0 HB0.out).mono ?_
  rintro e w1 ⟨rfl, B1⟩
  have HX1 := Lib.hid ((B1.block _ (Array.getElem?_eq_some_iff.1 HX0.out).1).trans HX0.out)
  have HN1 := Lib.hid ((B1.block _ (Array.getElem?_eq_some_iff.1 HN0.out).1).trans HN0.out)
  have HB1 := Lib.hid (HB0.out.trans (B1.mono HB0.out.size))
  have y0 := cell_at (i := 0) HX1.out rfl
  have y1 := cell_at (i := 1) HX1.out rfl
  have l1 := (Array.getElem?_eq_some_iff.1 HX1.out).1
  have HN2 := Lib.hid (alloc_keep HN1.out (.cells zeroT GT))
  have HB2 := Lib.hid (HB1.out.alloc HB1.out.size (.cells zeroT GT))
  unfold zeroT at *
  clear x0 l0 B1 HX0 HN0 HB0 HG
  go_wp2_with (refine wpList_store_row rfl NoT _ _ rfl (w.heap.size + 1) (nodeZ p x) rfl rfl NoT _ HN2.out sizeNo rfl (by simp [nodeC, Value.oneCell']) ?_)
  (try simp only [Exit.inBlock, Exit.then])
  refine bodyPost_ret (results_box Tryz.results25 _ _ (w.heap.size + 1) NoT (nodeZ p x) (0, 0) _ rfl (setRow_heap _ _ _ _ _ _ HN2.out) undNo rfl sizeNo) rfl ?_
  exact ⟨rfl, below_setRow HB2.out (by simp) _⟩
theorem wpList_append_run {ops : Array Oper} {rest : List Oper} {o : Oper} {a : Act} {Q : Exit → Act → World → Prop} {w : World} {v u r : Value} (hg : o.guard = none) (s x : Operand) (t : TypeId)
    (ho : o.op = .call { callee := .builtin .append, args := #[s, x], argTypes := #[t, t] }) (hs : a.eval s = v) (hx : a.eval x = u) (hrun : (Builtin.append_ #[t, t] o.type #[v, u]).run Tryz.prog w = .ok r w)
    (h : wpList Tryz.prog ops Q rest (a.put o.dst r) w) : wpList Tryz.prog ops Q (o :: rest) a w := by
  refine wpList_plain hg fun K hK => ?_
  unfold Oper.wp
  simp [execOp, ho, resolve, invoke, builtin, hs, hx, hrun, Result.andThen]
  exact hK _ _ h
/-- nil, or a row of one. -/
def NilOr1 (v : Value) : Prop := v = .slice none 0 0 ∨ ∃ g c, v = .slice (some ⟨g, 0, none⟩) 1 c ∧ 1 ≤ c
theorem before_nil (w : World) (v : Value) (hv : NilOr1 v) : Calls Tryz.prog 53 #[v, .slice none 0 0] w fun e w' => e = .returned v ∧ w' = w := by
  rcases hv with rfl | ⟨g, c, rfl, hc⟩
  · go_enter Tryz.func53, Tryz.ntmps53
    go_wp2_with fail
    go_ret
    exact ⟨rfl, rfl⟩
  · obtain ⟨i0, hi, _, _, _⟩ := info_parts infoFi
    have hrun : ∀ ty (w : World), (Builtin.append_ #[41, 41] ty #[.slice (some ⟨g, 0, none⟩) 1 c, .slice none 0 0]).run Tryz.prog w = .ok (.slice (some ⟨g, 0, none⟩) 1 c) w := fun ty w => by
      simp [Builtin.append_, run_underlying Tryz.underlying41, sizeOf, typeInfo, hi, Builtin.lenOf, Builtin.firstCells, hc, storeCells]
    go_enter Tryz.func53, Tryz.ntmps53
    go_wp2_with (at_builtin; refine wpList_append_run rfl _ _ _ rfl (by rfl) (by rfl) (hrun _ _) ?_)
    go_ret
    exact ⟨rfl, rfl⟩
theorem kept_setRow {X : List Nat} {a w : World} (h : Kept X a w) {g : Nat} (hg : g ∈ X ∨ a.heap.size ≤ g) (cs : Array Value) : Kept X a (w.setRow g cs) :=
  ⟨h.os, h.tape, h.output, by rw [setRow_size]; exact h.size, fun i hi hx => by rw [setRow_other _ _ _ _ (fun e => by rcases hg with hg | hg; exact hx (e ▸ hg); omega)]; exact h.block i hi hx⟩
/-- A search. -/
abbrev SeT : TypeId := 95
def seC (db : Nat) (th : Value) (k : Int) : Array Value := #[.pointer (some ⟨db, 0, none⟩), th, .int .i64 k, .map none]
def Se (W : World) (sb db : Nat) (th : Value) (k : Int) : Prop := W.heap[sb]? = some (.cells (seC db th k) SeT (0, 0))
theorem Se.lt {W : World} {sb db : Nat} {th : Value} {k : Int} (h : Se W sb db th k) : sb < W.heap.size := (Array.getElem?_eq_some_iff.1 h).1
theorem Se.below {W w' : World} {sb db : Nat} {th : Value} {k : Int} (h : Se W sb db th k) (hB : Below W.heap.size W w') : Se w' sb db th k := (hB.block _ h.lt).trans h
theorem Se.cells {W : World} {sb db : Nat} {th : Value} {k : Int} (h : Se W sb db th k) : W.cell? ⟨sb, 0, none⟩ = some (.pointer (some ⟨db, 0, none⟩)) ∧ W.cell? ⟨sb, 1, none⟩ = some th ∧ W.cell? ⟨sb, 2, none⟩ = some (.int .i64 k) ∧ W.cell? ⟨sb, 3, none⟩ = some (.map none) := ⟨cell_at h rfl, cell_at h rfl, cell_at h rfl, cell_at h rfl⟩
set_option maxHeartbeats 2000000 in
/-- target, of a Data without targets. -/
theorem target_no {w : World} {sb db : Nat} {th : Value} {k : Int} {dir : ByteArray} {pv : Value} (hs : Se w sb db th k) (h : NoTg w db dir pv) (hne : db ≠ sb) (h0 : 0 ≤ k) (hk : k < 32) (p : ByteArray) :
    Calls Tryz.prog 88 #[.pointer (some ⟨sb, 0, none⟩), .string p] w fun e w' => e = .returned (.bool false) ∧ Se w' sb db th (k + 1) ∧ Kept [sb] w w' := by
  obtain ⟨c0, c1, c2, c3⟩ := hs.cells
  have hlt := hs.lt
  have f2 := frozen_at hs 2
  have hS1 : Se (w.setCell ⟨sb, 2, none⟩ (.int .i64 (k + 1))) sb db th (k + 1) := heap_set (i := 2) hs _
  have HK1 := Lib.hid ((Kept.refl [sb] w).setCell (p := ⟨sb, 2, none⟩) (.inl (by simp)) (.int .i64 (k + 1)))
  have HT1 := Lib.hid (h.kept HK1.out (by simpa using hne))
  have HS1 := Lib.hid hS1
  have hl1 := hS1.lt
  have hw : IntKind.i64.wrap (k + 1) = k + 1 := IntWalk.i64_in _ (by omega)
  obtain ⟨e0, e1, e2, e3⟩ := hS1.cells
  clear hs h hS1
  go_enter Tryz.func88, Tryz.ntmps88
  go_wp2_with fail
  generalize w.setCell ⟨sb, 2, none⟩ (.int .i64 (k + 1)) = w1 at *
  refine (Get_no HT1.out p).mono ?_
  rintro e w2 ⟨rfl, B2⟩
  have HS2 := Lib.hid (HS1.out.below B2)
  have HK2 := Lib.hid (HK1.out.trans (Kept.of_below B2))
  clear B2
  unfold zeroT
  go_wp2_with fail
  go_ret
  have hA := (Below.refl w2.heap.size w2).alloc (Nat.le_refl _) (.cells #[.string ⟨#[]⟩, .string ⟨#[]⟩, .slice none 0 0, .slice none 0 0, .slice none 0 0, .int .i64 0, .bool false] GT)
  exact ⟨rfl, HS2.out.below hA, HK2.out.trans (Kept.of_below hA)⟩
end Go.Proofs.YtgednccpjegbmaaGreatDoor.Dq
namespace Go.Proofs.YtgednccpjegbmaaGreatDoor.Dq
open Go.RowKit Go.Proofs.YtgednccpjegbmaaGreatDoor Go.Maps Go.Proofs.YtgednccpjegbmaaGreatDoor.Ww Go.Proofs.YtgednccpjegbmaaGreatDoor.Tw Go.Proofs.YtgednccpjegbmaaGreatDoor.Kw Go.Proofs.YtgednccpjegbmaaGreatDoor.Jw Go.Proofs.YtgednccpjegbmaaGreatDoor.Xb Go.Proofs.YtgednccpjegbmaaGreatDoor.Xw Go.Proofs.YtgednccpjegbmaaGreatDoor.Dz
set_option maxRecDepth 100000
/-- What a search is told of what is there. -/
structure ThereC (F : Nat) (caps : Array Value) (th : ByteArray → Bool) (I : World → Prop) : Prop where
  call : ∀ (W : World) (p : ByteArray), I W → Calls Tryz.prog F (#[.string p] ++ caps) W fun e w' => e = .returned (.bool (th p)) ∧ Below W.heap.size W w'
  enter : ∀ (args : Array Value) (w : World), (callFunc F args).run Tryz.prog w = .ok (.enter F args) w
  below : ∀ W W', Below W.heap.size W W' → I W → I W'
  kept : ∀ W W' sb db thv k, Se W sb db thv k → Kept [sb] W W' → I W → I W'
section
variable {F : Nat} {caps : Array Value} {I : World → Prop} {th : ByteArray → Bool} {w : World} {sb db : Nat} {k : Int} {dir : ByteArray} {pv : Value}
theorem files_none (a : Option Addr) (c : Nat) (st : ByteArray) :
    Calls Tryz.prog 52 #[.pointer (some ⟨sb, 0, none⟩), .slice a 0 c, .string st] w fun e w' => e = .returned (.tuple #[.slice none 0 0, .bool true]) ∧ Below w.heap.size w w' := by
  go_enter Tryz.func52, Tryz.ntmps52
  go_wp2_with fail
  refine wp_loop_rounds 1 ?_
  rw [rounds_succ]
  go_wp2_with fail
  go_ret2
  exact ⟨rfl, Below.refl _ _⟩
set_option maxHeartbeats 4000000 in
theorem files_yes (hC : ThereC F caps th I) (hI : I w) (hs : Se w sb db (.func (.func F) #[] caps) k) (h : NoTg w db dir pv) {g c : Nat} {y : ByteArray} (st nm wp : Bs) (hy : w.cell? ⟨g, 0, none⟩ = some (.string y)) (_hg : g < w.heap.size) (hys : y.size ≤ 1000) (hst : st.length ≤ 1000) (hdir : dir.size ≤ 1000) (hnm : nm.length ≤ 2000) (hput : Tp.putA (by8 y) st = nm) (hj : Hid (Pt.join [bs dir, nm] = some wp)) (hb : th (str wp) = true) :
    Calls Tryz.prog 52 #[.pointer (some ⟨sb, 0, none⟩), .slice (some ⟨g, 0, none⟩) 1 c, .string (str st)] w fun e w' => ∃ v, e = .returned (.tuple #[v, .bool true]) ∧ w'.ownsRow w.heap.size FiT 2 v 1 [.string (str wp), .string (str nm)] ∧ Below w.heap.size w w' := by
  have HP := Lib.hid fun W => Put_any W y (str st) (by omega) (by rw [strL]; omega)
  rw [by8S, hput] at HP
  have HJ := Lib.hid fun W b hb => join2_yes W b hb dir (str nm) wp ⟨by omega, by rw [strL]; omega⟩ hj
  obtain ⟨cb, cv, gl, hd⟩ := h
  have HD := Lib.hid hd
  have HS := Lib.hid hs
  have hen := hC.enter
  have HTh : Hid (∀ W, I W → Calls Tryz.prog F (#[.string (str wp)] ++ caps) W fun e w' => e = .returned (.bool true) ∧ Below W.heap.size W w') := Lib.hid fun W hW => by have := hC.call W (str wp) hW; rw [hb] at this; exact this
  have HIB := Lib.hid hC.below
  have HI := Lib.hid hI
  obtain ⟨i0, hi, hz0, hz1, hz2⟩ := info_parts infoFi
  clear hC hI hs hd hys hst hdir hnm hput hj hb
  go_enter Tryz.func52, Tryz.ntmps52
  go_wp2_with fail
  refine wp_loop_rounds 2 ?_
  rw [rounds_succ]
  go_wp2_with fail
  refine (HP.out w).mono ?_
  rintro e w1 ⟨rfl, B1⟩
  have HS1 := Lib.hid (HS.out.below B1)
  have HD1 := Lib.hid ((B1.block _ (Array.getElem?_eq_some_iff.1 HD.out).1).trans HD.out)
  have HI1 := Lib.hid (HIB.out _ _ B1 HI.out)
  have HB1 := Lib.hid B1
  obtain ⟨a0, a1, _, _⟩ := HS1.out.cells
  have d0 : w1.cell? ⟨db, 0, none⟩ = some (.string dir) := cell_at HD1.out rfl
  have l1 := HS1.out.lt
  have l2 := (Array.getElem?_eq_some_iff.1 HD1.out).1
  clear B1 HP HI HS HD hy _hg
  go_wp2_with fail
  refine (HJ.out w1 _ rfl).mono ?_
  rintro e w2 ⟨rfl, B2⟩
  have HI2 := Lib.hid (HIB.out _ _ B2 HI1.out)
  have HB2 := Lib.hid (HB1.out.trans (B2.mono HB1.out.size))
  have c1 := (HS1.out.below B2).cells.2.1
  have l3 := (HS1.out.below B2).lt
  clear B2 HJ HI1 HS1 HD1 HB1 a0 a1 d0 l1 l2
  go_wp2_with fail
  refine (HTh.out w2 HI2.out).mono ?_
  rintro e w3 ⟨rfl, B3⟩
  have HB3 := Lib.hid (HB2.out.trans (B3.mono HB2.out.size))
  clear B3 HB2 HTh HI2 c1 l3 hen
  go_wp2_with (at_builtin; refine wpList_append_own _ rfl _ _ 41 rfl w.heap.size FiT i0 (.agg #[.string ⟨#[]⟩, .string ⟨#[]⟩]) 2 32 Tryz.underlying41 hi hz0 hz1 hz2 rfl (by decide) _ _ _ rfl (World.ownsRow_nil _ _ _ _) ⟨w3.heap.size, 0, none⟩ 1 1 [.string (str wp), .string (str nm)] rfl rfl (cells_new _ #[.string (str wp), .string (str nm)] _ rfl) (by simp [Value.oneCell']) (by unfold maxLen; omega) (by omega) (by have := HB3.out.size; simp; omega) ?_; intro v' w4 hown' hgrow _; obtain ⟨a2, k2, c2, rfl⟩ := slice_of hown')
  have HO := Lib.hid hown'
  have HB4 := Lib.hid ((HB3.out.alloc HB3.out.size (.cells #[.string (str wp), .string (str nm)] FiT)).grown hgrow (by have := HB3.out.size; simp; omega) (fun r e => by cases e))
  clear hown' hgrow
  rw [rounds_succ]
  go_wp2_with fail
  go_ret2
  exact ⟨_, rfl, HO.out, HB4.out⟩
set_option maxHeartbeats 4000000 in
theorem files_no (hC : ThereC F caps th I) (hI : I w) (hs : Se w sb db (.func (.func F) #[] caps) k) (h : NoTg w db dir pv) (hne : db ≠ sb) (h0 : 0 ≤ k) (hk : k < 32) {g c : Nat} {y : ByteArray} (st nm wp : Bs) (hy : w.cell? ⟨g, 0, none⟩ = some (.string y)) (_hg : g < w.heap.size) (hys : y.size ≤ 1000) (hst : st.length ≤ 1000) (hdir : dir.size ≤ 1000) (hnm : nm.length ≤ 2000) (hput : Tp.putA (by8 y) st = nm) (hj : Hid (Pt.join [bs dir, nm] = some wp)) (hb : th (str wp) = false) :
    Calls Tryz.prog 52 #[.pointer (some ⟨sb, 0, none⟩), .slice (some ⟨g, 0, none⟩) 1 c, .string (str st)] w fun e w' => e = .returned (.tuple #[.slice none 0 0, .bool false]) ∧ Se w' sb db (.func (.func F) #[] caps) (k + 1) ∧ Kept [sb] w w' := by
  have HP := Lib.hid fun W => Put_any W y (str st) (by omega) (by rw [strL]; omega)
  rw [by8S, hput] at HP
  have HJ := Lib.hid fun W b hb => join2_yes W b hb dir (str nm) wp ⟨by omega, by rw [strL]; omega⟩ hj
  have HNT := Lib.hid h
  obtain ⟨cb, cv, gl, hd⟩ := h
  have HD := Lib.hid hd
  have HS := Lib.hid hs
  have HNE := Lib.hid (And.intro hne (And.intro h0 hk))
  have hen := hC.enter
  have HTh : Hid (∀ W, I W → Calls Tryz.prog F (#[.string (str wp)] ++ caps) W fun e w' => e = .returned (.bool false) ∧ Below W.heap.size W w') := Lib.hid fun W hW => by have := hC.call W (str wp) hW; rw [hb] at this; exact this
  have HIB := Lib.hid hC.below
  have HI := Lib.hid hI
  clear hC hI hs hd hys hst hdir hnm hput hj hb hne h0 hk
  go_enter Tryz.func52, Tryz.ntmps52
  go_wp2_with fail
  refine wp_loop_rounds 2 ?_
  rw [rounds_succ]
  go_wp2_with fail
  refine (HP.out w).mono ?_
  rintro e w1 ⟨rfl, B1⟩
  have HS1 := Lib.hid (HS.out.below B1)
  have HN1 := Lib.hid (HNT.out.below B1)
  have HD1 := Lib.hid ((B1.block _ (Array.getElem?_eq_some_iff.1 HD.out).1).trans HD.out)
  have HI1 := Lib.hid (HIB.out _ _ B1 HI.out)
  have HB1 := Lib.hid B1
  obtain ⟨a0, a1, _, _⟩ := HS1.out.cells
  have d0 : w1.cell? ⟨db, 0, none⟩ = some (.string dir) := cell_at HD1.out rfl
  have l1 := HS1.out.lt
  have l2 := (Array.getElem?_eq_some_iff.1 HD1.out).1
  clear B1 HP HI HS HD hy _hg HNT
  go_wp2_with fail
  refine (HJ.out w1 _ rfl).mono ?_
  rintro e w2 ⟨rfl, B2⟩
  have HI2 := Lib.hid (HIB.out _ _ B2 HI1.out)
  have HN2 := Lib.hid (HN1.out.below B2)
  have HS2 := Lib.hid (HS1.out.below B2)
  have HB2 := Lib.hid (HB1.out.trans (B2.mono HB1.out.size))
  have c1 := HS2.out.cells.2.1
  have l3 := HS2.out.lt
  clear B2 HJ HI1 HS1 HD1 HB1 HN1 a0 a1 d0 l1 l2
  go_wp2_with fail
  refine (HTh.out w2 HI2.out).mono ?_
  rintro e w3 ⟨rfl, B3⟩
  have HB3 := Lib.hid (HB2.out.trans (B3.mono HB2.out.size))
  have HTg := Lib.hid (target_no (HS2.out.below B3) (HN2.out.below B3) HNE.out.1 HNE.out.2.1 HNE.out.2.2 (str wp))
  clear B3 HB2 HTh HI2 c1 l3 hen HS2 HN2
  go_wp2_with fail
  refine HTg.out.mono ?_
  rintro e w4 ⟨rfl, hs4, hk4⟩
  have HS4 := Lib.hid hs4
  have HK4 := Lib.hid ((Kept.of_below HB3.out).trans hk4)
  clear hs4 hk4 HTg
  go_wp2_with fail
  go_ret2
  exact ⟨rfl, HS4.out, HK4.out⟩
end
end Go.Proofs.YtgednccpjegbmaaGreatDoor.Dq
namespace Go.Proofs.YtgednccpjegbmaaGreatDoor.Dq
open Go.RowKit Go.Proofs.YtgednccpjegbmaaGreatDoor Go.Maps Go.Proofs.YtgednccpjegbmaaGreatDoor.Ww Go.Proofs.YtgednccpjegbmaaGreatDoor.Tw Go.Proofs.YtgednccpjegbmaaGreatDoor.Kw Go.Proofs.YtgednccpjegbmaaGreatDoor.Jw Go.Proofs.YtgednccpjegbmaaGreatDoor.Xb Go.Proofs.YtgednccpjegbmaaGreatDoor.Xw Go.Proofs.YtgednccpjegbmaaGreatDoor.Dz
set_option maxRecDepth 100000
theorem ClipL_any (w : World) (a : Option Addr) (n c : Nat) (h : n ≤ c) : Calls Tryz.prog 50 #[.slice a n c] w fun e w' => e = .returned (.slice a n n) ∧ w' = w := by
  go_enter Tryz.func50, Tryz.ntmps50
  go_wp2_with fail
  go_ret
  exact ⟨rfl, rfl⟩
/-- One line of a recipe, in a row. -/
def Ln1 (W : World) (v : Value) (r : Ip.L) : Prop := ∃ g c, v = .slice (some ⟨g, 0, none⟩) 1 c ∧ 1 ≤ c ∧ ∃ cur, W.heap[g]? = some (.cells cur Iw.LT (0, 0)) ∧ cur[0]? = some (.int .i64 (r.n : Int)) ∧ cur[1]? = some (.string (str r.t)) ∧ cur[2]? = some (.bool r.q)
theorem ln1_of {W : World} {B : Nat} {v : Value} {r : Ip.L} (h : W.ownsRow B Iw.LT 3 v 1 (Iw.linesC [r])) : Ln1 W v r := by
  rcases h.2 with ⟨_, h0⟩ | ⟨g, cap, cur, hv, hb, hg, h1, h2, h3, h4⟩
  · cases h0
  · refine ⟨g, cap, hv, h1, cur, hg, ?_, ?_, ?_⟩
    · have := congrArg (·[0]?) h4
      simpa [Iw.linesC, Iw.lineC] using this
    · have := congrArg (·[1]?) h4
      have h5 : cur[1]? = some (.string (Iw.str r.t)) := by simpa [Iw.linesC, Iw.lineC] using this
      exact h5
    · have := congrArg (·[2]?) h4
      simpa [Iw.linesC, Iw.lineC] using this
theorem Ln1.below {W w' : World} {v : Value} {r : Ip.L} (h : Ln1 W v r) (hB : Below W.heap.size W w') : Ln1 w' v r := by
  obtain ⟨g, c, e, h1, cur, hg, h2⟩ := h
  exact ⟨g, c, e, h1, cur, (hB.block _ (Array.getElem?_eq_some_iff.1 hg).1).trans hg, h2⟩
theorem Ln1.clip {W : World} {a : Option Addr} {c : Nat} {r : Ip.L} (h : Ln1 W (.slice a 1 c) r) : Ln1 W (.slice a 1 1) r := by
  obtain ⟨g, c, e, h1, h2⟩ := h
  cases e
  exact ⟨g, 1, rfl, Nat.le_refl _, h2⟩
theorem own_keptN {W W' : World} {X : List Nat} {B : Nat} {e : TypeId} {z n : Nat} {v : Value} {xs : List Value} (h : W.ownsRow B e z v n xs) (hk : Kept X W W') (hX : ∀ i ∈ X, ∃ cs T, W.heap[i]? = some (.cells cs T (0, 0)) ∧ T ≠ e) : W'.ownsRow B e z v n xs :=
  own_same h fun g eg hg => hk.block g hg fun hm => by
    obtain ⟨cs, T, h1, h2⟩ := hX g hm
    exact own_ne h h1 h2 eg
theorem Ln1.keptN {W W' : World} {X : List Nat} {v : Value} {r : Ip.L} (h : Ln1 W v r) (hk : Kept X W W') (hX : ∀ i ∈ X, ∃ cs T, W.heap[i]? = some (.cells cs T (0, 0)) ∧ T ≠ Iw.LT) : Ln1 W' v r := by
  obtain ⟨g, c, e, h1, cur, hg, h2⟩ := h
  refine ⟨g, c, e, h1, cur, (hk.block g (Array.getElem?_eq_some_iff.1 hg).1 fun hm => ?_).trans hg, h2⟩
  obtain ⟨cs, T, h3, h4⟩ := hX g hm
  rw [hg] at h3
  injection h3 with h3; injection h3 with _ h3 _
  exact h4 h3.symm
/-- What a pattern meets: its stem, its need's name and path. -/
structure Pn.Meets (q : Pn) (dir x : ByteArray) (st nm wp : Bs) : Prop where
  m : Tp.matchA (by8 q.x) (by8 x) = some st
  p : Tp.putA (by8 q.y) st = nm
  j : Pt.join [bs dir, nm] = some wp
  r : ∃ r, q.R = [r]
  sx : q.x.size ≤ 1000
  sy : q.y.size ≤ 1000
  sn : nm.length ≤ 2000
section
variable {F : Nat} {caps : Array Value} {I : World → Prop} {th : ByteArray → Bool} {w : World} {sb db : Nat} {dir : ByteArray} {pv : Value}
/-- What complete returns. -/
def CompP (w : World) (th : ByteArray → Bool) (nm wp : Pn → Bs) (p x : ByteArray) (st : Bs) (L : List Pn) (e : Ending) (w' : World) : Prop :=
  match L.find? (fun q => th (str (wp q))) with
  | none => e = .returned (.agg (nodeZ p x))
  | some q => ∃ nv rv r, q.R = [r] ∧ e = .returned (.agg (nodeC p x nv (.slice none 0 0) rv (str st) q.ln false true)) ∧ w'.ownsRow w.heap.size FiT 2 nv 1 [.string (str (wp q)), .string (str (nm q))] ∧ Ln1 w' rv r
def CoRel (w : World) (sb db : Nat) (F : Nat) (caps : Array Value) (I : World → Prop) (th : ByteArray → Bool) (wp : Pn → Bs) (p x : ByteArray) (L : List Pn) (v19 : Value) (wr : World) : Prop :=
  ∃ (i : Nat) (k : Int), v19 = .int .i64 i ∧ i ≤ L.length ∧ 0 ≤ k ∧ k ≤ i ∧ (∀ q ∈ L.take i, th (str (wp q)) = false) ∧ Se wr sb db (.func (.func F) #[] caps) k ∧ Kept [sb] w wr ∧ wr.heap[w.heap.size]? = some (.cells (nodeZ p x) NoT (0, 0)) ∧ wr.heap[w.heap.size + 1]? = some (.cells (nodeZ ⟨#[]⟩ ⟨#[]⟩) NoT (0, 0)) ∧ I wr
theorem find_hit {α : Type} {f : α → Bool} {L : List α} {i : Nat} (h : ∀ q ∈ L.take i, f q = false) (hi : i < L.length) (hf : f L[i] = true) : L.find? f = some L[i] := by
  rw [List.find?_eq_some_iff_append]
  refine ⟨hf, L.take i, L.drop (i + 1), ?_, fun a ha => by rw [h a ha]; rfl⟩
  rw [← List.drop_eq_getElem_cons hi, List.take_append_drop]
set_option maxHeartbeats 8000000 in
theorem complete_any (hC : ThereC F caps th I) (hI : I w) (hs : Se w sb db (.func (.func F) #[] caps) 0) (h : NoTg w db dir pv) (hne : db ≠ sb) {B lo : Nat} {l : List PnV} (hP : Pats w B lo pv l) (hn : l.length ≤ 30) (p x : ByteArray) (st : Bs) (nm wp : Pn → Bs) (hx : x.size ≤ 1000) (hst : st.length ≤ 1000) (hdir : dir.size ≤ 1000) (hm : ∀ q ∈ l, q.p.Meets dir x st (nm q.p) (wp q.p)) :
    Calls Tryz.prog 27 #[.pointer (some ⟨sb, 0, none⟩), .agg (nodeZ p x)] w fun e w' => CompP w th nm wp p x st (l.map PnV.p) e w' ∧ Kept [sb] w w' := by
  have HC := Lib.hid hC
  have HI := Lib.hid hI
  have HS := Lib.hid hs
  have HT := Lib.hid h
  have HNE := Lib.hid hne
  have HP := Lib.hid hP
  have HN := Lib.hid hn
  have HM := Lib.hid hm
  have HSz := Lib.hid (And.intro hx (And.intro hst hdir))
  obtain ⟨cb, cv, gl, hd⟩ := h
  have HD := Lib.hid hd
  obtain ⟨pa, pn, pc, hpv⟩ := slice_of hP.row
  have hpn : pn = l.length := by
    rcases hP.row.2 with ⟨h1, h2⟩ | ⟨g, cap, cur, h1, _⟩
    · rw [hpv] at h1; cases h1; omega
    · rw [hpv] at h1; cases h1; rfl
  subst hpn
  subst hpv
  have HB0 := Lib.hid (((Below.refl w.heap.size w).alloc (Nat.le_refl _) (.cells (nodeZ p x) NoT)).alloc (by simp) (.cells (nodeZ ⟨#[]⟩ ⟨#[]⟩) NoT))
  have HX0 := Lib.hid (alloc_keep (heap_last w (.cells (nodeZ p x) NoT)) (.cells (nodeZ ⟨#[]⟩ ⟨#[]⟩) NoT))
  have hn0 := heap_last (w.alloc (.cells (nodeZ p x) NoT)) (.cells (nodeZ ⟨#[]⟩ ⟨#[]⟩) NoT)
  rw [World.size_alloc] at hn0
  have HN0 := Lib.hid hn0
  clear hC hI hs hne hP hn hm hx hst hdir hd hn0
  unfold nodeZ nodeC at *
  go_enter Tryz.func27, Tryz.ntmps27
  go_upto_region 1 with (fail)
  generalize (w.alloc (.cells #[.string p, .string x, .slice none 0 0, .slice none 0 0, .slice none 0 0, .string ⟨#[]⟩, .int .i64 0, .bool false, .bool false] NoT)).alloc (.cells #[.string ⟨#[]⟩, .string ⟨#[]⟩, .slice none 0 0, .slice none 0 0, .slice none 0 0, .string ⟨#[]⟩, .int .i64 0, .bool false, .bool false] NoT) = w0 at *
  have hs0 := HS.out.below HB0.out
  have hd0 := (HB0.out.block _ (Array.getElem?_eq_some_iff.1 HD.out).1).trans HD.out
  have s0 := hs0.cells.1
  have d3 : w0.cell? ⟨db, 3, none⟩ = some (.slice pa l.length pc) := cell_at hd0 rfl
  have ls0 := hs0.lt
  have ld0 := (Array.getElem?_eq_some_iff.1 hd0).1
  have HS0 := Lib.hid hs0
  clear hs0 hd0
  go_wp2_with fail
  clear s0 d3 ls0 ld0
  go_loopw [19] (fun v19 wr => CoRel w sb db F caps I th wp p x (l.map PnV.p) v19 wr) (fun v19 _ => l.length - (intOf v19).toNat)
  case atStart => exact ⟨0, 0, rfl, Nat.zero_le _, Int.le_refl _, Int.le_refl _, by simp, HS0.out, Kept.of_below HB0.out, HX0.out, HN0.out, HC.out.below _ _ HB0.out HI.out⟩
  case round =>
    obtain ⟨i, k, rfl, hi, hk0, hki, hno, hs, hk, hx, hz, hI⟩ := hrel
    rw [List.length_map] at hi
    by_cases hlt : i < l.length
    · have hkr : ∀ {C : Nat} {e : TypeId} {z n : Nat} {v : Value} {xs : List Value}, w.ownsRow C e z v n xs → SeT ≠ e → wr.ownsRow C e z v n xs := fun hr he => own_same hr fun g eg hg => hk.block g hg fun hm => own_ne hr HS.out he (by rw [List.mem_singleton.1 hm] at eg; exact eg)
      obtain ⟨g, hpa⟩ : ∃ g, pa = some ⟨g, 0, none⟩ := by
        rcases HP.out.row.2 with ⟨h1, h2⟩ | ⟨g, cap, cur, h1, _⟩
        · omega
        · injection h1 with h2; exact ⟨g, h2⟩
      subst hpa
      have hrow := hkr HP.out.row (by decide)
      have hgl : g < wr.heap.size := (own_lt hrow rfl).2
      obtain ⟨q, hq⟩ : ∃ q, q = l[i] := ⟨_, rfl⟩
      have hmem : q ∈ l := by rw [hq]; exact List.getElem_mem hlt
      obtain ⟨mm, mp, mj, ⟨r, mr⟩, msx, msy, msn⟩ := HM.out q hmem
      have hnd := hkr (HP.out.needs q hmem) (by decide)
      obtain ⟨gn, cn, hnv, hgn, kn, _⟩ := strs_one_is hnd
      obtain ⟨oa, oc, hov⟩ : ∃ oa oc, q.ov = .slice oa 0 oc := by
        rcases (HP.out.order q hmem).2 with ⟨h1, _⟩ | ⟨g, cap, cur, h1, _⟩
        · exact ⟨_, _, h1⟩
        · exact ⟨_, _, h1⟩
      have hrr := hkr (HP.out.recs q hmem) (by decide)
      rw [mr] at hrr
      have hl1 : Ln1 wr q.rv r := ln1_of hrr
      obtain ⟨gr, cr, hrv, hcr, _⟩ := id hl1
      have hpc : ∀ j, j < 5 → wr.cell? ⟨g, i * 5 + j, none⟩ = (pnC q)[j]? := fun j hj => by rw [hrow.cellAt (i * 5 + j) (by show i * 5 + j < l.length * 5; omega), pnsC_get hlt hj, hq]
      have p0 : wr.cell? ⟨g, i * 5, none⟩ = some (.string q.p.x) := hpc 0 (by decide)
      have p1 : wr.cell? ⟨g, i * 5 + 1, none⟩ = some (.slice (some ⟨gn, 0, none⟩) 1 cn) := by rw [hpc 1 (by decide), ← hnv]; rfl
      have p2 : wr.cell? ⟨g, i * 5 + 2, none⟩ = some (.slice oa 0 oc) := by rw [hpc 2 (by decide), ← hov]; rfl
      have p3 : wr.cell? ⟨g, i * 5 + 3, none⟩ = some (.slice (some ⟨gr, 0, none⟩) 1 cr) := by rw [hpc 3 (by decide), ← hrv]; rfl
      have p4 : wr.cell? ⟨g, i * 5 + 4, none⟩ = some (.int .i64 (q.p.ln : Int)) := hpc 4 (by decide)
      rw [hrv] at hl1
      have HMt : Hid (∀ W, Calls Tryz.prog 51 #[.string q.p.x, .string x] W fun e w' => e = .returned (.tuple #[.string (str st), .bool true]) ∧ Below W.heap.size W w') := Lib.hid fun W => by
        have := Match_any W q.p.x x (by omega) (by have := HSz.out.1; omega)
        rw [mm] at this; exact this
      have x1 : wr.cell? ⟨w.heap.size, 1, none⟩ = some (.string x) := cell_at hx rfl
      have lx := (Array.getElem?_eq_some_iff.1 hx).1
      have hws := hk.size
      have HNX := Lib.hid (show w.heap.size ≠ wr.heap.size by omega)
      have HW1 := Lib.hid hws
      have HCR := Lib.hid hcr
      have HSr := Lib.hid hs
      have HXr := Lib.hid hx
      have HZr := Lib.hid hz
      have HIr := Lib.hid hI
      have HKr := Lib.hid hk
      have HTr := Lib.hid (HT.out.kept hk (by simpa using HNE.out))
      have HLr := Lib.hid hl1
      have HKn := Lib.hid (And.intro kn hgn)
      have HNo := Lib.hid (And.intro hno (And.intro hk0 hki))
      have HQ := Lib.hid (And.intro hq mr)
      have HMm := Lib.hid (And.intro mp (And.intro mj (And.intro msy msn)))
      have hii : (i : Int) < l.length := by omega
      have hi0 : (0 : Int) ≤ (i : Int) := Int.natCast_nonneg _
      clear hpc hrow hnd hrr hl1 hnv hov hrv hmem hk hx hz hI hs hno hk0 hki hq mr mm mp mj msx msy msn kn hgn hi hkr
      go_wp2_with fail
      refine (HMt.out _).mono ?_
      rintro e w1 ⟨rfl, B1⟩
      have hA := ((Below.refl wr.heap.size wr).alloc (Nat.le_refl _) (.cells #[.string q.p.x, .slice (some ⟨gn, 0, none⟩) 1 cn, .slice oa 0 oc, .slice (some ⟨gr, 0, none⟩) 1 cr, .int .i64 (q.p.ln : Int)] PaT)).trans (B1.mono (by simp))
      have HP1 := Lib.hid ((B1.block wr.heap.size (by simp)).trans (heap_last wr (.cells #[.string q.p.x, .slice (some ⟨gn, 0, none⟩) 1 cn, .slice oa 0 oc, .slice (some ⟨gr, 0, none⟩) 1 cr, .int .i64 (q.p.ln : Int)] PaT)))
      have HX1 := Lib.hid ((hA.block _ lx).trans HXr.out)
      have HZ1 := Lib.hid ((hA.block _ (Array.getElem?_eq_some_iff.1 HZr.out).1).trans HZr.out)
      have HS1 := Lib.hid (HSr.out.below hA)
      have HT1 := Lib.hid (HTr.out.below hA)
      have HI1 := Lib.hid (HC.out.below _ _ hA HIr.out)
      have HL1 := Lib.hid (HLr.out.below hA)
      have hA1 := Lib.hid hA.size
      have HK1 := Lib.hid (HKr.out.trans (Kept.of_below hA))
      have HKn1 := Lib.hid (And.intro ((hA.cell (p := ⟨gn, 0, none⟩) HKn.out.2).trans HKn.out.1) (Nat.lt_of_lt_of_le HKn.out.2 hA.size))
      have y1 := cell_at (i := 1) HP1.out rfl
      have ly := (Array.getElem?_eq_some_iff.1 HP1.out).1
      clear hA B1 HXr HZr HSr HTr HIr HLr HKr HKn HMt x1 lx p0 p1 p2 p3 p4 hgl hii hi0
      go_wp2_with fail
      cases hb : th (str (wp q.p)) with
      | true =>
        have HFd : Hid ((l.map PnV.p).find? (fun q => th (str (wp q))) = some q.p) := Lib.hid (by
          have h1 := find_hit (f := fun q : Pn => th (str (wp q))) (L := l.map PnV.p) (i := i) HNo.out.1 (by rw [List.length_map]; exact hlt) (by rw [List.getElem_map, ← HQ.out.1]; exact hb)
          rw [List.getElem_map, ← HQ.out.1] at h1; exact h1)
        refine (files_yes HC.out HI1.out HS1.out HT1.out st (nm q.p) (wp q.p) HKn1.out.1 HKn1.out.2 HMm.out.2.2.1 HSz.out.2.1 HSz.out.2.2 HMm.out.2.2.2 HMm.out.1 (Lib.hid HMm.out.2.1) hb).mono ?_
        rintro e w2 ⟨v, rfl, hov, B2⟩
        have HO2 := Lib.hid hov
        obtain ⟨gf, cf, rfl, _, _, hcf⟩ := files_one_is hov
        have HP2 := Lib.hid ((B2.block _ ly).trans HP1.out)
        have HX2 := Lib.hid ((B2.block _ (Array.getElem?_eq_some_iff.1 HX1.out).1).trans HX1.out)
        have HZ2 := Lib.hid ((B2.block _ (Array.getElem?_eq_some_iff.1 HZ1.out).1).trans HZ1.out)
        have HL2 := Lib.hid (HL1.out.below B2)
        have HK2 := Lib.hid (HK1.out.trans (Kept.of_below B2))
        have z2 := cell_at (i := 2) HP2.out rfl
        have lz := (Array.getElem?_eq_some_iff.1 HP2.out).1
        clear hov B2 HP1 HX1 HZ1 HL1 HS1 HT1 HI1 HKn1 y1 ly hb
        go_wp2_with fail
        refine (files_none oa oc (str st)).mono ?_
        rintro e w3 ⟨rfl, B3⟩
        have HP3 := Lib.hid ((B3.block _ lz).trans HP2.out)
        have HX3 := Lib.hid ((B3.block _ (Array.getElem?_eq_some_iff.1 HX2.out).1).trans HX2.out)
        have HZ3 := Lib.hid ((B3.block _ (Array.getElem?_eq_some_iff.1 HZ2.out).1).trans HZ2.out)
        have HL3 := Lib.hid (HL2.out.below B3)
        have HO3 := Lib.hid (own_same HO2.out fun g _ hg => B3.block g hg)
        have HK3 := Lib.hid (HK2.out.trans (Kept.of_below B3))
        have HWw := Lib.hid (Nat.le_trans HW1.out hA1.out)
        have HV := Lib.hid (And.intro (show NilOr1 (.slice (some ⟨gf, 0, none⟩) 1 cf) from .inr ⟨gf, cf, rfl, hcf⟩) (show NilOr1 (.slice none 0 0) from .inl rfl))
        have HBf := Lib.hid before_nil
        have a2 : w3.cell? ⟨w.heap.size, 2, none⟩ = some (.slice none 0 0) := cell_at HX3.out rfl
        have a3 : w3.cell? ⟨w.heap.size, 3, none⟩ = some (.slice none 0 0) := cell_at HX3.out rfl
        have g2 := frozen_at HX3.out 2
        have g3 := frozen_at HX3.out 3
        have lX := (Array.getElem?_eq_some_iff.1 HX3.out).1
        clear B3 HP2 HX2 HZ2 HL2 HO2 HK2 z2 lz
        go_upto_region 11 with (fail)
        go_cut [9] (fun v9 wx => v9 = .slice (some ⟨gf, 0, none⟩) 1 cf ∧ wx.heap[w.heap.size]? = some (.cells (nodeC p x (.slice (some ⟨gf, 0, none⟩) 1 cf) (.slice none 0 0) (.slice none 0 0) ⟨#[]⟩ 0 false false) NoT (0, 0)) ∧ Kept [w.heap.size] w3 wx)
        case first =>
          go_region_with (go_at_call 53; refine (HBf.out _ _ (by first | exact HV.out.1 | exact HV.out.2)).mono ?_; rintro e w4 ⟨rfl, rfl⟩)
          all_goals go_wp2_with fail
          all_goals go_meet
          all_goals first
            | exact ⟨rfl, heap_set (i := 3) (heap_set (i := 2) HX3.out _) _, (((Kept.refl [w.heap.size] w3).drewN _).setCell (p := ⟨w.heap.size, 2, none⟩) (.inl (by simp)) _).setCell (p := ⟨w.heap.size, 3, none⟩) (.inl (by simp)) _⟩
            | exact ⟨rfl, heap_set (i := 2) (heap_set (i := 3) HX3.out _) _, (((Kept.refl [w.heap.size] w3).drewN _).setCell (p := ⟨w.heap.size, 3, none⟩) (.inl (by simp)) _).setCell (p := ⟨w.heap.size, 2, none⟩) (.inl (by simp)) _⟩
        case rest =>
          obtain ⟨rfl, hx4, hk4⟩ := hcut
          have hne4 : ∀ i ∈ [w.heap.size], ∃ cs T, w3.heap[i]? = some (.cells cs T (0, 0)) ∧ T = NoT := fun i hi => by rw [List.mem_singleton.1 hi]; exact ⟨_, _, HX3.out, rfl⟩
          have HX4 := Lib.hid hx4
          have HP4 := Lib.hid ((hk4.block _ (Array.getElem?_eq_some_iff.1 HP3.out).1 (fun e => HNX.out (List.mem_singleton.1 e).symm)).trans HP3.out)
          have HZ4 := Lib.hid ((hk4.block _ (Array.getElem?_eq_some_iff.1 HZ3.out).1 (fun e => by have := List.mem_singleton.1 e; omega)).trans HZ3.out)
          have HL4 := Lib.hid (HL3.out.keptN hk4 (fun i hi => by obtain ⟨cs, T, h1, rfl⟩ := hne4 i hi; exact ⟨cs, _, h1, by decide⟩))
          have HO4 := Lib.hid (own_keptN HO3.out hk4 (fun i hi => by obtain ⟨cs, T, h1, rfl⟩ := hne4 i hi; exact ⟨cs, _, h1, by decide⟩))
          have HK4 := Lib.hid (trans_new HK3.out hk4 (fun i hi => .inr (by rw [List.mem_singleton.1 hi]; exact Nat.le_refl _)))
          clear hx4 hk4 hne4 a2 a3 g2 g3 lX HX3 HP3 HZ3 HL3 HO3 HK3 HBf HV
          have HCl := Lib.hid fun W => ClipL_any W (some ⟨gr, 0, none⟩) 1 cr HCR.out
          have q3 : wc.cell? ⟨wr.heap.size, 3, none⟩ = some (.slice (some ⟨gr, 0, none⟩) 1 cr) := cell_at HP4.out rfl
          have q4 : wc.cell? ⟨wr.heap.size, 4, none⟩ = some (.int .i64 (q.p.ln : Int)) := cell_at HP4.out rfl
          have lq := (Array.getElem?_eq_some_iff.1 HP4.out).1
          have b4 : wc.cell? ⟨w.heap.size, 4, none⟩ = some (.slice none 0 0) := cell_at HX4.out rfl
          have b5 : wc.cell? ⟨w.heap.size, 5, none⟩ = some (.string ⟨#[]⟩) := cell_at HX4.out rfl
          have b6 : wc.cell? ⟨w.heap.size, 6, none⟩ = some (.int .i64 0) := cell_at HX4.out rfl
          have b8 : wc.cell? ⟨w.heap.size, 8, none⟩ = some (.bool false) := cell_at HX4.out rfl
          have f4 := frozen_at HX4.out 4
          have f5 := frozen_at HX4.out 5
          have f6 := frozen_at HX4.out 6
          have f8 := frozen_at HX4.out 8
          have lX := (Array.getElem?_eq_some_iff.1 HX4.out).1
          go_upto_region 12 with (fail)
          obtain ⟨wo, hwo⟩ : ∃ wo : World, wc = wo := ⟨_, rfl⟩
          go_cut [7] (fun v7 wx => v7 = .string (str st) ∧ wx.heap[w.heap.size]? = some (.cells (nodeC p x (.slice (some ⟨gf, 0, none⟩) 1 cf) (.slice none 0 0) (.slice (some ⟨gr, 0, none⟩) 1 1) (str st) q.p.ln false true) NoT (0, 0)) ∧ Kept [w.heap.size] wo wx)
          case first =>
            subst hwo
            have hnx := HNX.out
            have hnx2 := HNX.out.symm
            have q4b : (wc.setCell ⟨w.heap.size, 4, none⟩ (.slice (some ⟨gr, 0, none⟩) 1 1)).cell? ⟨wr.heap.size, 4, none⟩ = some (.int .i64 (q.p.ln : Int)) := cell_at (set_ne HP4.out hnx2 _) rfl
            go_region_with (go_at_call 50; refine (HCl.out _).mono ?_; rintro e w5 ⟨rfl, rfl⟩)
            all_goals go_wp2_with fail
            all_goals go_meet
            all_goals exact ⟨rfl, heap_set (i := 8) (heap_set (i := 5) (heap_set (i := 6) (heap_set (i := 4) HX4.out _) _) _) _, (((((Kept.refl [w.heap.size] wc).setCell (p := ⟨w.heap.size, 4, none⟩) (.inl (by simp)) _).setCell (p := ⟨w.heap.size, 6, none⟩) (.inl (by simp)) _).setCell (p := ⟨w.heap.size, 5, none⟩) (.inl (by simp)) _).setCell (p := ⟨w.heap.size, 8, none⟩) (.inl (by simp)) _).drewN 1⟩
          case rest =>
            obtain ⟨rfl, hx5, hk5⟩ := hcut
            subst hwo
            have HX5 := Lib.hid hx5
            have HZ5 := Lib.hid ((hk5.block _ (Array.getElem?_eq_some_iff.1 HZ4.out).1 (fun e => by have := List.mem_singleton.1 e; omega)).trans HZ4.out)
            have HL5 := Lib.hid (HL4.out.keptN hk5 (fun i hi => by rw [List.mem_singleton.1 hi]; exact ⟨_, _, HX4.out, by decide⟩))
            have HO5 := Lib.hid (own_keptN HO4.out hk5 (fun i hi => by rw [List.mem_singleton.1 hi]; exact ⟨_, _, HX4.out, by decide⟩))
            have HK5 := Lib.hid (trans_new HK4.out hk5 (fun i hi => .inr (by rw [List.mem_singleton.1 hi]; exact Nat.le_refl _)))
            clear hx5 hk5 q3 q4 lq b4 b5 b6 b8 f4 f5 f6 f8 lX HX4 HP4 HZ4 HL4 HO4 HK4 HCl
            go_wp2_with (first
              | (refine wpList_load_row rfl NoT _ rfl w.heap.size rfl NoT (nodeC p x (.slice (some ⟨gf, 0, none⟩) 1 cf) (.slice none 0 0) (.slice (some ⟨gr, 0, none⟩) 1 1) (str st) q.p.ln false true) (0, 0) _ HX5.out undNo rfl sizeNo ?_)
              | (refine wpList_store_row rfl NoT _ _ rfl (w.heap.size + 1) (nodeC p x (.slice (some ⟨gf, 0, none⟩) 1 cf) (.slice none 0 0) (.slice (some ⟨gr, 0, none⟩) 1 1) (str st) q.p.ln false true) rfl rfl NoT _ HZ5.out sizeNo rfl (by simp [nodeC, Value.oneCell']) ?_))
            (try simp only [Exit.inBlock, Exit.then])
            have hk6 := kept_setRow (Kept.refl [w.heap.size + 1] wc) (g := w.heap.size + 1) (.inl (by simp)) (nodeC p x (.slice (some ⟨gf, 0, none⟩) 1 cf) (.slice none 0 0) (.slice (some ⟨gr, 0, none⟩) 1 1) (str st) q.p.ln false true)
            refine bodyPost_ret (results_box Tryz.results27 _ _ (w.heap.size + 1) NoT (nodeC p x (.slice (some ⟨gf, 0, none⟩) 1 cf) (.slice none 0 0) (.slice (some ⟨gr, 0, none⟩) 1 1) (str st) q.p.ln false true) (0, 0) _ rfl (setRow_heap _ _ _ _ _ _ HZ5.out) undNo rfl sizeNo) rfl ?_
            refine ⟨?_, trans_new HK5.out hk6 (fun i hi => .inr (by rw [List.mem_singleton.1 hi]; exact Nat.le_succ _))⟩
            unfold CompP
            rw [HFd.out]
            exact ⟨_, _, r, HQ.out.2, rfl, own_mono (own_keptN HO5.out hk6 (fun i hi => by rw [List.mem_singleton.1 hi]; exact ⟨_, _, HZ5.out, by decide⟩)) HWw.out, HL5.out.clip.keptN hk6 (fun i hi => by rw [List.mem_singleton.1 hi]; exact ⟨_, _, HZ5.out, by decide⟩)⟩
      | false =>
        refine (files_no HC.out HI1.out HS1.out HT1.out HNE.out HNo.out.2.1 (by have := HNo.out.2.2; have := HN.out; omega) st (nm q.p) (wp q.p) HKn1.out.1 HKn1.out.2 HMm.out.2.2.1 HSz.out.2.1 HSz.out.2.2 HMm.out.2.2.2 HMm.out.1 (Lib.hid HMm.out.2.1) hb).mono ?_
        rintro e w2 ⟨rfl, hs2, hk2⟩
        have hx2 := (hk2.block _ (Array.getElem?_eq_some_iff.1 HX1.out).1 (fun e => by have := HS.out.lt; have := List.mem_singleton.1 e; omega)).trans HX1.out
        have hz2 := (hk2.block _ (Array.getElem?_eq_some_iff.1 HZ1.out).1 (fun e => by have := HS.out.lt; have := List.mem_singleton.1 e; omega)).trans HZ1.out
        have hno2 : ∀ q' ∈ (l.map PnV.p).take (i + 1), th (str (wp q')) = false := fun q' hq' => by
          rw [List.take_succ_eq_append_getElem (by rw [List.length_map]; exact hlt), List.mem_append] at hq'
          rcases hq' with hq' | hq'
          · exact HNo.out.1 q' hq'
          · rw [List.mem_singleton.1 hq', List.getElem_map, ← HQ.out.1]; exact hb
        have HR2 : Hid (CoRel w sb db F caps I th wp p x (l.map PnV.p) (.int .i64 ((i + 1 : Nat) : Int)) w2) := Lib.hid ⟨i + 1, k + 1, rfl, by rw [List.length_map]; exact hlt, by have := HNo.out.2.1; omega, by have := HNo.out.2.2; omega, hno2, hs2, HK1.out.trans hk2, hx2, hz2, HC.out.kept _ _ _ _ _ _ HS1.out hk2 HI1.out⟩
        clear hx2 hz2 hno2 hs2 hk2 hb HP1 HX1 HZ1 HL1 HS1 HT1 HI1 HKn1 y1 ly HK1 HMm HQ HNo
        have hlb := HN.out
        go_wp2_with fail
        have hv : ∀ v, v = Value.int .i64 ((i + 1 : Nat) : Int) → CoRel w sb db F caps I th wp p x (l.map PnV.p) v w2 := fun v h => h ▸ HR2.out
        go_roundw
        case rel => exact hv _ (by go_num)
        case measure => simp [intOf]; omega
    · obtain rfl : i = l.length := by omega
      have HF : Hid ((l.map PnV.p).find? (fun q => th (str (wp q))) = none) := Lib.hid (List.find?_eq_none.2 fun q hq => by
        have := hno q (by rw [← List.length_map (f := PnV.p), List.take_length]; exact hq)
        rw [this]; exact Bool.false_ne_true)
      have HK := Lib.hid hk
      have HZ := Lib.hid hz
      have HX := Lib.hid hx
      have hkn : ¬ (l.length : Int) < l.length := by omega
      clear hno hs hk hz hx hI hi hk0 hki
      go_wp2_with (first
        | (refine wpList_load_row rfl NoT _ rfl w.heap.size rfl NoT (nodeZ p x) (0, 0) _ HX.out undNo rfl sizeNo ?_)
        | (refine wpList_store_row rfl NoT _ _ rfl (w.heap.size + 1) (nodeZ p x) rfl rfl NoT _ HZ.out sizeNo rfl (by simp [nodeC, Value.oneCell']) ?_))
      (try simp only [Exit.inBlock, Exit.then])
      refine bodyPost_ret (results_box Tryz.results27 _ _ (w.heap.size + 1) NoT (nodeZ p x) (0, 0) _ rfl (setRow_heap _ _ _ _ _ _ HZ.out) undNo rfl sizeNo) rfl ?_
      refine ⟨?_, kept_setRow HK.out (.inr (Nat.le_succ _)) _⟩
      unfold CompP
      rw [HF.out]
end
end Go.Proofs.YtgednccpjegbmaaGreatDoor.Dq
namespace Go.Proofs.YtgednccpjegbmaaGreatDoor.Dq
open Go.RowKit Go.Proofs.YtgednccpjegbmaaGreatDoor Go.Maps Go.Proofs.YtgednccpjegbmaaGreatDoor.Ww Go.Proofs.YtgednccpjegbmaaGreatDoor.Tw Go.Proofs.YtgednccpjegbmaaGreatDoor.Kw Go.Proofs.YtgednccpjegbmaaGreatDoor.Jw Go.Proofs.YtgednccpjegbmaaGreatDoor.Xb Go.Proofs.YtgednccpjegbmaaGreatDoor.Xw Go.Proofs.YtgednccpjegbmaaGreatDoor.Dz
set_option maxRecDepth 100000
section
variable {F : Nat} {caps : Array Value} {I : World → Prop} {th : ByteArray → Bool} {w : World} {db : Nat} {dir : ByteArray} {pv : Value}
set_option maxHeartbeats 4000000 in
/-- find.Of. -/
theorem Of_any (hC : ThereC F caps th I) (hnf : ∀ w : World, (binOp .eql 46 (.func (.func F) #[] caps) .nilFunc).run Tryz.prog w = .ok (.bool false) w) (hI : I w) (h : NoTg w db dir pv) {B lo : Nat} {l : List PnV} (hP : Pats w B lo pv l) (hn : l.length ≤ 30) (p x : ByteArray) (st : Bs) (nm wp : Pn → Bs) (hx : x.size ≤ 1000) (hst : st.length ≤ 1000) (hdir : dir.size ≤ 1000) (hm : ∀ q ∈ l, q.p.Meets dir x st (nm q.p) (wp q.p)) :
    Calls Tryz.prog 10 #[.pointer (some ⟨db, 0, none⟩), .agg #[.string p, .string x], .func (.func F) #[] caps] w fun e w' => CompP w th nm wp p x st (l.map PnV.p) e w' ∧ Below w.heap.size w w' := by
  have HE := Lib.hid fun W (hW : Below w.heap.size w W) => explicit_no (h.below hW) p x
  have HCo := Lib.hid fun W sb (hW : Below w.heap.size w W) (hsb : w.heap.size ≤ sb) (hs : Se W sb db (.func (.func F) #[] caps) 0) => complete_any hC (hC.below _ _ hW hI) hs (h.below hW) (by have := h.lt; omega) (hP.below hW) hn p x st nm wp hx hst hdir hm
  have HB0 := Lib.hid (((Below.refl w.heap.size w).alloc (Nat.le_refl _) (.cells #[.string p, .string x] FiT)).alloc (by simp) (.cells (nodeZ ⟨#[]⟩ ⟨#[]⟩) NoT))
  have HX0 := Lib.hid (alloc_keep (heap_last w (.cells #[.string p, .string x] FiT)) (.cells (nodeZ ⟨#[]⟩ ⟨#[]⟩) NoT))
  have hn0 := heap_last (w.alloc (.cells #[.string p, .string x] FiT)) (.cells (nodeZ ⟨#[]⟩ ⟨#[]⟩) NoT)
  rw [World.size_alloc] at hn0
  have HN0 := Lib.hid hn0
  have x0 := cell_at (i := 0) HX0.out rfl
  have x1 := cell_at (i := 1) HX0.out rfl
  have l0 := (Array.getElem?_eq_some_iff.1 HX0.out).1
  have HDb := Lib.hid h.lt
  clear hC hI h hP hn hx hst hdir hm hn0
  unfold nodeZ nodeC at *
  go_enter Tryz.func10, Tryz.ntmps10
  go_upto_region 1 with (fail)
  generalize (w.alloc (.cells #[.string p, .string x] FiT)).alloc (.cells #[.string ⟨#[]⟩, .string ⟨#[]⟩, .slice none 0 0, .slice none 0 0, .slice none 0 0, .string ⟨#[]⟩, .int .i64 0, .bool false, .bool false] NoT) = w0 at *
  go_wp2_with fail
  refine (HE.out w0 HB0.out).mono ?_
  rintro e w1 ⟨rfl, B1⟩
  have HN1 := Lib.hid ((B1.block _ (Array.getElem?_eq_some_iff.1 HN0.out).1).trans HN0.out)
  have HB1 := Lib.hid (HB0.out.trans (B1.mono HB0.out.size))
  clear x0 x1 l0 B1 HX0 HN0 HB0 HE
  go_wp2_with fail
  have hS2 : Se ((w1.alloc (.cells #[.string p, .string x, .slice none 0 0, .slice none 0 0, .slice none 0 0, .string ⟨#[]⟩, .int .i64 0, .bool false, .bool false] NoT)).alloc (.cells #[.pointer (some ⟨db, 0, none⟩), .func (.func F) #[] caps, .int .i64 0, .map none] SeT)) (w1.heap.size + 1) db (.func (.func F) #[] caps) 0 := by
    have := heap_last (w1.alloc (.cells #[.string p, .string x, .slice none 0 0, .slice none 0 0, .slice none 0 0, .string ⟨#[]⟩, .int .i64 0, .bool false, .bool false] NoT)) (.cells #[.pointer (some ⟨db, 0, none⟩), .func (.func F) #[] caps, .int .i64 0, .map none] SeT)
    rw [World.size_alloc] at this; exact this
  have hB2 := (HB1.out.alloc HB1.out.size (.cells #[.string p, .string x, .slice none 0 0, .slice none 0 0, .slice none 0 0, .string ⟨#[]⟩, .int .i64 0, .bool false, .bool false] NoT)).alloc (by have := HB1.out.size; simp; omega) (.cells #[.pointer (some ⟨db, 0, none⟩), .func (.func F) #[] caps, .int .i64 0, .map none] SeT)
  have HN2 := Lib.hid (alloc_keep (alloc_keep HN1.out (.cells #[.string p, .string x, .slice none 0 0, .slice none 0 0, .slice none 0 0, .string ⟨#[]⟩, .int .i64 0, .bool false, .bool false] NoT)) (.cells #[.pointer (some ⟨db, 0, none⟩), .func (.func F) #[] caps, .int .i64 0, .map none] SeT))
  have HB2 := Lib.hid hB2
  have HW1 := Lib.hid HB1.out.size
  refine (HCo.out _ _ hB2 (by have := HB1.out.size; omega) hS2).mono ?_
  rintro e w3 ⟨hc, hk⟩
  have hn3 := (hk.block _ (Array.getElem?_eq_some_iff.1 HN2.out).1 (fun e => by have := List.mem_singleton.1 e; have := (Array.getElem?_eq_some_iff.1 HN1.out).1; omega)).trans HN2.out
  have hb3 := hB2.trans (hk.to_below hB2.size (fun i hi => by rw [List.mem_singleton.1 hi]; have := HB1.out.size; omega))
  have HN3 := Lib.hid hn3
  have HB3 := Lib.hid hb3
  have HSB := Lib.hid hB2.size
  clear hS2 hB2 hk hn3 hb3 HN2 HB2 HCo HN1 HB1
  unfold CompP at hc
  cases hf : (l.map PnV.p).find? (fun q => th (str (wp q))) with
  | none =>
    rw [hf] at hc
    subst hc
    go_wp2_with (refine wpList_store_row rfl NoT _ _ rfl (w.heap.size + 1) (nodeZ p x) rfl rfl NoT _ HN3.out sizeNo rfl (by simp [nodeZ, nodeC, Value.oneCell']) ?_)
    (try simp only [Exit.inBlock, Exit.then])
    refine bodyPost_ret (results_box Tryz.results10 _ _ (w.heap.size + 1) NoT (nodeZ p x) (0, 0) _ rfl (setRow_heap _ _ _ _ _ _ HN3.out) undNo rfl sizeNo) rfl ?_
    exact ⟨by unfold CompP; rw [hf], below_setRow HB3.out (Nat.le_succ _) _⟩
  | some q =>
    rw [hf] at hc
    obtain ⟨nv, rv, r, hr, rfl, hnv, hrv⟩ := hc
    obtain ⟨na, nn, nc, rfl⟩ := slice_of hnv
    obtain ⟨gr, cr, rfl, hcr⟩ := id hrv
    have hk6 := kept_setRow (Kept.refl [w.heap.size + 1] w3) (g := w.heap.size + 1) (.inl (by simp)) (nodeC p x (.slice na nn nc) (.slice none 0 0) (.slice (some ⟨gr, 0, none⟩) 1 cr) (str st) q.ln false true)
    have HO := Lib.hid (own_mono (own_keptN hnv hk6 (fun i hi => by rw [List.mem_singleton.1 hi]; exact ⟨_, _, HN3.out, by decide⟩)) HSB.out)
    have HL := Lib.hid (hrv.keptN hk6 (fun i hi => by rw [List.mem_singleton.1 hi]; exact ⟨_, _, HN3.out, by decide⟩))
    have HR := Lib.hid hr
    clear hnv hrv hk6 hr hcr
    go_wp2_with (refine wpList_store_row rfl NoT _ _ rfl (w.heap.size + 1) (nodeC p x (.slice na nn nc) (.slice none 0 0) (.slice (some ⟨gr, 0, none⟩) 1 cr) (str st) q.ln false true) rfl rfl NoT _ HN3.out sizeNo rfl (by simp [nodeC, Value.oneCell']) ?_)
    (try simp only [Exit.inBlock, Exit.then])
    refine bodyPost_ret (results_box Tryz.results10 _ _ (w.heap.size + 1) NoT (nodeC p x (.slice na nn nc) (.slice none 0 0) (.slice (some ⟨gr, 0, none⟩) 1 cr) (str st) q.ln false true) (0, 0) _ rfl (setRow_heap _ _ _ _ _ _ HN3.out) undNo rfl sizeNo) rfl ?_
    exact ⟨by unfold CompP; rw [hf]; exact ⟨_, _, r, HR.out, rfl, HO.out, HL.out⟩, below_setRow HB3.out (Nat.le_succ _) _⟩
end
end Go.Proofs.YtgednccpjegbmaaGreatDoor.Dq
