/-
  find.command, (Node).Auto, (*Data).Env with a map.
  find.Commands of a node with one line, and of one without.
-/
import Derived.Test.YtgednccpjegbmaaGreatDoorQFdOf
import Derived.Test.YtgednccpjegbmaaGreatDoorQIEach
import Derived.Test.YtgednccpjegbmaaGreatDoorQAPOf
import Derived.Test.YtgednccpjegbmaaGreatDoorQDQStart
import Derived.Laws.EntriesVeiled
namespace Go.Proofs.YtgednccpjegbmaaGreatDoor.Dq
open Go.RowKit Go.Proofs.YtgednccpjegbmaaGreatDoor Go.Maps Go.Proofs.YtgednccpjegbmaaGreatDoor.Ww Go.Proofs.YtgednccpjegbmaaGreatDoor.Tw Go.Proofs.YtgednccpjegbmaaGreatDoor.Kw Go.Proofs.YtgednccpjegbmaaGreatDoor.Jw Go.Proofs.YtgednccpjegbmaaGreatDoor.Xb Go.Proofs.YtgednccpjegbmaaGreatDoor.Xw Go.Proofs.YtgednccpjegbmaaGreatDoor.Dz
set_option maxRecDepth 100000
abbrev CoT : TypeId := 51
theorem infoTL : (Tryz.prog.info? (Tryz.laysTrimL_ren.t 116)).map (fun i => (i.zero, i.size)) = some (some (.agg (Array.replicate 256 (.bool false))), 256) := by kernel_rfl
theorem undCo : Tryz.prog.underlying CoT = some (.struct (Tryz.prog.fieldsOf CoT)) := by kernel_rfl
theorem sizeCo : (Tryz.prog.info? CoT).map (·.size) = some 4 := by kernel_rfl
set_option maxHeartbeats 2000000 in
/-- A line without marks, and without blanks at its ends. -/
theorem command_is (w : World) (t : Bs) (ht : t.length ≤ 1000) (htr : Iw.trimT (str t) = str t) (hl : Lib.trimLeftS t [64, 45, 43, 32, 9, 10] = t) (ln : Int) :
    Calls Tryz.prog 31 #[.string (str t), .int .i64 ln] w fun e w' => e = .returned (.agg #[.string (str t), .bool false, .bool false, .int .i64 ln]) ∧ Below w.heap.size w w' := by
  have hsz : (str t).size ≤ 1000 := by rw [strL]; exact ht
  have HT := Lib.hid fun W => Iw.Trim_any W (str t) (by omega)
  rw [htr] at HT
  have HL : Hid (∀ W, Calls Tryz.prog 62 #[.string (str t), .string ⟨#[64, 45, 43, 32, 9, 10]⟩] W fun e w' => e = .returned (.string (str t)) ∧ Below W.heap.size W w') := Lib.hid fun W => by
    have h := Any.strings_TrimLeft_laid Tryz.laysTrimL infoTL (str t) ⟨#[64, 45, 43, 32, 9, 10]⟩ W (by decide) (fun j b h => by
      match j, h with
      | 0, h => obtain rfl := Option.some.inj h; decide
      | 1, h => obtain rfl := Option.some.inj h; decide
      | 2, h => obtain rfl := Option.some.inj h; decide
      | 3, h => obtain rfl := Option.some.inj h; decide
      | 4, h => obtain rfl := Option.some.inj h; decide
      | 5, h => obtain rfl := Option.some.inj h; decide)
    have e : (⟨(Lib.trimLeftS (str t).data.toList (⟨#[64, 45, 43, 32, 9, 10]⟩ : ByteArray).data.toList).toArray⟩ : ByteArray) = str t := by
      show str (Lib.trimLeftS t [64, 45, 43, 32, 9, 10]) = str t
      rw [hl]
    rw [e] at h
    exact h
  have HS : Hid (∀ W, Calls Tryz.prog 63 #[.string (str t), .string (str t)] W fun e w' => e = .returned (.string ⟨#[]⟩) ∧ w' = W) := Lib.hid fun W => by
    have h := Tryz.strings_TrimSuffix (str t) (str t) W (by omega)
    have e : (⟨(Lib.trimSuffix (str t).data.toList (str t).data.toList).toArray⟩ : ByteArray) = ⟨#[]⟩ := by
      show str (Lib.trimSuffix t t) = str []
      congr 1
      unfold Lib.trimSuffix
      rw [Nat.sub_self]
      have : Lib.hasSuffix t t = true := by unfold Lib.hasSuffix; simp
      rw [if_pos this]; rfl
    rw [e] at h
    exact h
  have HC1 : Hid (∀ W, Calls Tryz.prog 64 #[.string ⟨#[]⟩, .string ⟨#[64]⟩] W fun e w' => e = .returned (.bool false) ∧ w' = W) := Lib.hid fun W => Tryz.strings_Contains_one ⟨#[]⟩ 64 W
  have HC2 : Hid (∀ W, Calls Tryz.prog 64 #[.string ⟨#[]⟩, .string ⟨#[45]⟩] W fun e w' => e = .returned (.bool false) ∧ w' = W) := Lib.hid fun W => Tryz.strings_Contains_one ⟨#[]⟩ 45 W
  generalize str t = s at *
  have HB0 := Lib.hid ((Below.refl w.heap.size w).alloc (Nat.le_refl _) (.cells #[.string ⟨#[]⟩, .bool false, .bool false, .int .i64 0] CoT))
  have HX0 := Lib.hid (heap_last w (.cells #[.string ⟨#[]⟩, .bool false, .bool false, .int .i64 0] CoT))
  clear hsz ht htr hl
  go_enter Tryz.func31, Tryz.ntmps31
  go_upto_region 1 with (fail)
  generalize w.alloc (.cells #[.string ⟨#[]⟩, .bool false, .bool false, .int .i64 0] CoT) = w0 at *
  go_wp2_with fail
  refine (HT.out w0).mono ?_
  rintro e w1 ⟨rfl, B1⟩
  have HX1 := Lib.hid ((B1.block _ (Array.getElem?_eq_some_iff.1 HX0.out).1).trans HX0.out)
  have HB1 := Lib.hid (HB0.out.trans (B1.mono HB0.out.size))
  clear B1 HX0 HB0 HT
  go_wp2_with fail
  refine (HL.out w1).mono ?_
  rintro e w2 ⟨rfl, B2⟩
  have HX2 := Lib.hid ((B2.block _ (Array.getElem?_eq_some_iff.1 HX1.out).1).trans HX1.out)
  have HB2 := Lib.hid (HB1.out.trans (B2.mono HB1.out.size))
  clear B2 HX1 HB1 HL
  go_wp2_with fail
  refine (HS.out w2).mono ?_
  rintro e w3 ⟨rfl, rfl⟩
  go_wp2_with fail
  refine (HC1.out _).mono ?_
  rintro e w4 ⟨rfl, rfl⟩
  go_wp2_with fail
  refine (HC2.out _).mono ?_
  rintro e w5 ⟨rfl, rfl⟩
  go_wp2_with (refine wpList_store_row rfl CoT _ _ rfl w.heap.size #[.string s, .bool false, .bool false, .int .i64 ln] rfl rfl CoT _ HX2.out sizeCo rfl (by simp [Value.oneCell']) ?_)
  (try simp only [Exit.inBlock, Exit.then])
  refine bodyPost_ret (results_box Tryz.results31 _ _ w.heap.size CoT #[.string s, .bool false, .bool false, .int .i64 ln] (0, 0) _ rfl (setRow_heap _ _ _ _ _ _ HX2.out) undCo rfl sizeCo) rfl ?_
  exact ⟨rfl, below_setRow HB2.out (Nat.le_refl _) _⟩
/-- What Auto returns. -/
def AutoP (w : World) (x st : ByteArray) (needs : List ByteArray) (e : Ending) (w' : World) : Prop :=
  ∃ b L, e = .returned (.map (some b)) ∧ Hid (Aw.Has w' b L (Aw.allT (Aw.plainT x st needs))) ∧ Below w.heap.size w w'
section
variable {w : World}
set_option maxHeartbeats 4000000 in
theorem Auto_one (hG : Ew.GM w) (p x f1 st : ByteArray) (rv : Value) (hrv : ∃ a n c, rv = .slice a n c) (ln : Int) (ph ru : Bool) {gf cf : Nat} (f0 : ByteArray) (h0 : w.cell? ⟨gf, 0, none⟩ = some (.string f0)) (h1 : w.cell? ⟨gf, 1, none⟩ = some (.string f1)) (hl : gf < w.heap.size) (hf : f1.size ≤ 100) (hx : x.size ≤ 500) (hst : st.size ≤ 500) :
    Calls Tryz.prog 29 #[.agg (nodeC p x (.slice (some ⟨gf, 0, none⟩) 1 cf) (.slice none 0 0) rv st ln ph ru)] w (AutoP w x st [f1]) := by
  obtain ⟨ra, rn, rc, rfl⟩ := hrv
  obtain ⟨i0, hi, hz0, hz1, hz2⟩ := info_parts infoST
  have HA := Lib.hid fun W v hW (hr : Ww.Rd W W.heap.size v (strsC [f1])) => Aw.AutoC_any W x st v [f1] (hG.below hW) hr (by simp) (by simpa using hf) hx hst
  have HB0 := Lib.hid ((Below.refl w.heap.size w).alloc (Nat.le_refl _) (.cells (nodeC p x (.slice (some ⟨gf, 0, none⟩) 1 cf) (.slice none 0 0) (.slice ra rn rc) st ln ph ru) NoT))
  have HX0 := Lib.hid (heap_last w (.cells (nodeC p x (.slice (some ⟨gf, 0, none⟩) 1 cf) (.slice none 0 0) (.slice ra rn rc) st ln ph ru) NoT))
  have k0 := ((Below.refl w.heap.size w).alloc (Nat.le_refl _) (.cells (nodeC p x (.slice (some ⟨gf, 0, none⟩) 1 cf) (.slice none 0 0) (.slice ra rn rc) st ln ph ru) NoT)).cell (p := ⟨gf, 0, none⟩) hl |>.trans h0
  have k1 := ((Below.refl w.heap.size w).alloc (Nat.le_refl _) (.cells (nodeC p x (.slice (some ⟨gf, 0, none⟩) 1 cf) (.slice none 0 0) (.slice ra rn rc) st ln ph ru) NoT)).cell (p := ⟨gf, 1, none⟩) hl |>.trans h1
  have n1 : (w.alloc (.cells (nodeC p x (.slice (some ⟨gf, 0, none⟩) 1 cf) (.slice none 0 0) (.slice ra rn rc) st ln ph ru) NoT)).cell? ⟨w.heap.size, 1, none⟩ = some (.string x) := cell_at HX0.out rfl
  have n2 : (w.alloc (.cells (nodeC p x (.slice (some ⟨gf, 0, none⟩) 1 cf) (.slice none 0 0) (.slice ra rn rc) st ln ph ru) NoT)).cell? ⟨w.heap.size, 2, none⟩ = some (.slice (some ⟨gf, 0, none⟩) 1 cf) := cell_at HX0.out rfl
  have lx := (Array.getElem?_eq_some_iff.1 HX0.out).1
  have lg : gf < (w.alloc (.cells (nodeC p x (.slice (some ⟨gf, 0, none⟩) 1 cf) (.slice none 0 0) (.slice ra rn rc) st ln ph ru) NoT)).heap.size := by simp; omega
  clear h0 h1 hl hf hx hst hG
  unfold nodeC at *
  go_enter Tryz.func29, Tryz.ntmps29
  go_upto_region 1 with (fail)
  generalize w.alloc (.cells #[.string p, .string x, .slice (some ⟨gf, 0, none⟩) 1 cf, .slice none 0 0, .slice ra rn rc, .string st, .int .i64 ln, .bool ph, .bool ru] NoT) = w0 at *
  go_wp2_with fail
  refine wp_loop_rounds 2 ?_
  rw [rounds_succ]
  go_wp2_with (at_builtin; refine wpList_append_own _ rfl _ _ 76 rfl w.heap.size ST i0 (.string ⟨#[]⟩) 1 16 Tryz.underlying76 hi hz0 hz1 hz2 rfl (by decide) _ _ _ rfl (World.ownsRow_nil _ _ _ _) ⟨w0.heap.size + 1, 0, none⟩ 1 1 [.string f1] rfl rfl (cells_new _ #[.string f1] _ (by simp)) (by simp [Value.oneCell']) (by unfold maxLen; omega) (by omega) (by have := HB0.out.size; simp; omega) ?_; intro v' w4 hown' hgrow _; obtain ⟨a2, k2, c2, rfl⟩ := slice_of hown')
  have B4 := ((HB0.out.alloc HB0.out.size (.cells #[.string f0, .string f1] FiT)).alloc (by have := HB0.out.size; simp; omega) (.cells #[.string f1] ST)).grown hgrow (by have := HB0.out.size; simp; omega) (fun r e => by cases e)
  have h4 := (hgrow.block w.heap.size (by have := HB0.out.size; simp; omega) (fun e => by cases e)).trans (alloc_keep (alloc_keep HX0.out (.cells #[.string f0, .string f1] FiT)) (.cells #[.string f1] ST))
  have HX4 := Lib.hid h4
  have HB4 := Lib.hid B4
  have HR4 := Lib.hid (Ww.Rd.of_own hown')
  clear B4 h4 hown' hgrow k0 k1 n1 n2 lx lg
  rw [rounds_succ]
  have n1 : w4.cell? ⟨w.heap.size, 1, none⟩ = some (.string x) := cell_at HX4.out rfl
  have n5 : w4.cell? ⟨w.heap.size, 5, none⟩ = some (.string st) := cell_at HX4.out rfl
  have lx := (Array.getElem?_eq_some_iff.1 HX4.out).1
  go_wp2_with fail
  refine (HA.out w4 _ HB4.out HR4.out).mono ?_
  rintro e w5 ⟨b, L, rfl, hh, B5⟩
  have H5 := Lib.hid (And.intro hh (HB4.out.trans (B5.mono HB4.out.size)))
  clear hh B5 HA
  go_wp2_with fail
  go_ret
  exact ⟨b, L, rfl, H5.out.1, H5.out.2⟩
set_option maxHeartbeats 4000000 in
theorem Auto_none (hG : Ew.GM w) (p x st : ByteArray) (ln : Int) (ph ru : Bool) (hx : x.size ≤ 500) (hst : st.size ≤ 500) :
    Calls Tryz.prog 29 #[.agg (nodeC p x (.slice none 0 0) (.slice none 0 0) (.slice none 0 0) st ln ph ru)] w (AutoP w x st []) := by
  have HA := Lib.hid fun W hW => Aw.AutoC_any W x st (.slice none 0 0) [] (hG.below hW) (Ww.Rd.of_own (base := 0) (e := ST) (World.ownsRow_nil _ _ _ _)) (by simp) (by simp) hx hst
  have HB0 := Lib.hid ((Below.refl w.heap.size w).alloc (Nat.le_refl _) (.cells (nodeC p x (.slice none 0 0) (.slice none 0 0) (.slice none 0 0) st ln ph ru) NoT))
  clear hx hst hG
  unfold nodeC at *
  go_enter Tryz.func29, Tryz.ntmps29
  go_wp2_with fail
  refine wp_loop_rounds 1 ?_
  rw [rounds_succ]
  go_wp2_with fail
  refine (HA.out _ HB0.out).mono ?_
  rintro e w5 ⟨b, L, rfl, hh, B5⟩
  have H5 := Lib.hid (And.intro hh (HB0.out.trans (B5.mono HB0.out.size)))
  clear hh B5 HA
  go_wp2_with fail
  go_ret
  exact ⟨b, L, rfl, H5.out.1, H5.out.2⟩
def EnvMP (w : World) (tb : Nat) (L : List Aw.En) (e : Ending) (w' : World) : Prop :=
  ∃ sx dx mb, e = .returned (.agg #[.pointer (some ⟨tb, 0, none⟩), .map (some mb), gV sx dx]) ∧ Kw.MapAt Aw.AK w' mb L ∧ Below w.heap.size w w'
set_option maxHeartbeats 4000000 in
theorem env_map {db tb : Nat} {dir : ByteArray} {tv pv cv gl : Value} (hd : w.heap[db]? = some (.cells (dC dir tb tv pv cv gl) DT (0, 0))) (sp : Option Addr) {ab : Nat} {L : List Aw.En} (hM : Kw.MapAt Aw.AK w ab L) :
    Calls Tryz.prog 28 #[.pointer (some ⟨db, 0, none⟩), .pointer sp, .map (some ab)] w (EnvMP w tb L) := by
  have d0 : w.cell? ⟨db, 0, none⟩ = some (.string dir) := cell_at hd rfl
  have d1 : w.cell? ⟨db, 1, none⟩ = some (.pointer (some ⟨tb, 0, none⟩)) := cell_at hd rfl
  have hlt := (Array.getElem?_eq_some_iff.1 hd).1
  have hmf : ∀ (fn : Fn) (first cap : Array Value) (w : World), (Instr.makeFunc fn first cap).run Tryz.prog w = .ok (.func fn first cap) w := fun _ _ _ _ => rfl
  clear hd
  go_enter Tryz.func28, Tryz.ntmps28
  go_wp2_with fail
  have B0 : Below w.heap.size w (((w.alloc (.cells #[.pointer sp] StP)).alloc (.cells #[.pointer none, .map none, .nilFunc] EnvT)).alloc (.cells #[.string dir] ST)) := (((Below.refl _ w).alloc (Nat.le_refl _) _).alloc (by simp) _).alloc (by simp; omega) _
  have e1 : (((w.alloc (.cells #[.pointer sp] StP)).alloc (.cells #[.pointer none, .map none, .nilFunc] EnvT)).alloc (.cells #[.string dir] ST)).heap[w.heap.size + 1]? = some (.cells #[.pointer none, .map none, .nilFunc] EnvT (0, 0)) := alloc_keep (by have := heap_last (w.alloc (.cells #[.pointer sp] StP)) (.cells #[.pointer none, .map none, .nilFunc] EnvT); rwa [World.size_alloc] at this) _
  have d2 := (B0.cell (p := ⟨db, 1, none⟩) hlt).trans d1
  have HM := Lib.hid (hM.below B0)
  clear d0 d1 hM
  generalize (((w.alloc (.cells #[.pointer sp] StP)).alloc (.cells #[.pointer none, .map none, .nilFunc] EnvT)).alloc (.cells #[.string dir] ST)) = w0 at *
  have hlt0 : db < w0.heap.size := Nat.lt_of_lt_of_le hlt B0.size
  have E1 := Lib.hid e1
  have HB := Lib.hid B0
  clear e1 B0 hlt
  go_region_with (go_at_call 56; refine (Aw.mapClone_any w0.drew (HM.out.block rfl)).mono ?_; rintro e w1 ⟨rfl, hM1, B1⟩; have HM1 := Lib.hid hM1; have he1 := (B1.block (w.heap.size + 1) (show w.heap.size + 1 < w0.drew.heap.size from (Array.getElem?_eq_some_iff.1 E1.out).1)).trans E1.out; have HE1 := Lib.hid he1; have HBB := Lib.hid (HB.out.drew.trans (B1.mono HB.out.size)); have c0 := cell_at (i := 0) he1 rfl; have c1 := cell_at (i := 1) he1 rfl; have c2 := cell_at (i := 2) he1 rfl; have f0 := frozen_at he1 0; have f1 := frozen_at he1 1; have f2 := frozen_at he1 2; have hl0 := (Array.getElem?_eq_some_iff.1 he1).1; have hlt1 : db < w1.heap.size := Nat.lt_of_lt_of_le (show db < w0.drew.heap.size from hlt0) B1.size; have d3 : w1.cell? ⟨db, 1, none⟩ = some (.pointer (some ⟨tb, 0, none⟩)) := (B1.cell (p := ⟨db, 1, none⟩) (show db < w0.drew.heap.size from hlt0)).trans d2; clear he1 hM1 B1)
  all_goals (
    have h3 := heap_set (i := 2) (heap_set (i := 1) (heap_set (i := 0) HE1.out (.pointer (some ⟨tb, 0, none⟩))) (.map (some w0.drew.heap.size))) (gV w.heap.size (w.heap.size + 1 + 1))
    have H3 := Lib.hid h3
    have HB3 := Lib.hid ((((HBB.out.setCell (p := ⟨w.heap.size + 1, 0, none⟩) (by simp) (.pointer (some ⟨tb, 0, none⟩))).setCell (p := ⟨w.heap.size + 1, 1, none⟩) (by simp) (.map (some w0.drew.heap.size))).setCell (p := ⟨w.heap.size + 1, 2, none⟩) (by simp) (gV w.heap.size (w.heap.size + 1 + 1))))
    have hne : w0.drew.heap.size ≠ w.heap.size + 1 := Kw.MapAt.not_cells HM1.out HE1.out
    have HM3 := Lib.hid (((HM1.out.setCell (p := ⟨w.heap.size + 1, 0, none⟩) hne (.pointer (some ⟨tb, 0, none⟩))).setCell (p := ⟨w.heap.size + 1, 1, none⟩) hne (.map (some w0.drew.heap.size))).setCell (p := ⟨w.heap.size + 1, 2, none⟩) hne (gV w.heap.size (w.heap.size + 1 + 1)))
    clear h3 c0 c1 c2 f0 f1 f2 d2 d3
    have hu : Tryz.prog.underlying EnvT = some (.struct (Tryz.prog.fieldsOf EnvT)) := by kernel_rfl
    have hz : (Tryz.prog.info? EnvT).map (·.size) = some 3 := by kernel_rfl
    go_wp2_with fail
    (try simp only [Exit.inBlock, Exit.then])
    refine bodyPost_ret (results_box Tryz.results28 _ _ (w.heap.size + 1) EnvT _ (0, 0) _ rfl H3.out hu rfl hz) rfl ?_
    exact ⟨w.heap.size, w.heap.size + 1 + 1, w0.drew.heap.size, rfl, HM3.out, HB3.out⟩)
end
end Go.Proofs.YtgednccpjegbmaaGreatDoor.Dq
namespace Go.Proofs.YtgednccpjegbmaaGreatDoor.Dq
open Go.RowKit Go.Proofs.YtgednccpjegbmaaGreatDoor Go.Maps Go.Proofs.YtgednccpjegbmaaGreatDoor.Ww Go.Proofs.YtgednccpjegbmaaGreatDoor.Tw Go.Proofs.YtgednccpjegbmaaGreatDoor.Kw Go.Proofs.YtgednccpjegbmaaGreatDoor.Jw Go.Proofs.YtgednccpjegbmaaGreatDoor.Xb Go.Proofs.YtgednccpjegbmaaGreatDoor.Xw Go.Proofs.YtgednccpjegbmaaGreatDoor.Dz
set_option maxRecDepth 100000
section
variable {w : World}
theorem infoCo : (Tryz.prog.info? CoT).map (fun i => (i.zero, i.size, i.bytes)) = some (some (.agg #[.string ⟨#[]⟩, .bool false, .bool false, .int .i64 0]), 4, 32) := by kernel_rfl
def CmdP (w : World) (out : Bs) (e : Ending) (w' : World) : Prop :=
  ∃ gl cl, e = .returned (.tuple #[.slice (some ⟨gl, 0, none⟩) 1 cl, .agg #[.int .i64 0, .string ⟨#[]⟩, .int .i64 0]]) ∧ w'.cell? ⟨gl, 0, none⟩ = some (.string (str out)) ∧ gl < w'.heap.size ∧ Below w.heap.size w w'
set_option maxHeartbeats 8000000 in
theorem Commands_one (hG : Ew.GM w) (sp : Option Addr) {db : Nat} {dir : ByteArray} {pv : Value} (h : NoTg w db dir pv) (p x f1 st : ByteArray) (rv : Value) (r : Ip.L) (hr : Ln1 w rv r) (ln : Int) {gf cf : Nat} (f0 : ByteArray) (h0 : w.cell? ⟨gf, 0, none⟩ = some (.string f0)) (h1 : w.cell? ⟨gf, 1, none⟩ = some (.string f1)) (hl : gf < w.heap.size) (hf : f1.size ≤ 100) (hx : x.size ≤ 500) (hst : st.size ≤ 500) (out : Bs) (hout : out ≠ [])
    (HT : ∀ W tb mb L gv, Kw.MapAt Aw.AK W mb L → (∀ q ∈ Aw.allT (Aw.plainT x st [f1]), Kp.get L (by8 q.1) = some (by8 q.1, q.2)) → Calls Tryz.prog 30 #[.agg #[.pointer (some ⟨tb, 0, none⟩), .map (some mb), gv], .string (str r.t)] W fun e w' => e = .returned (.tuple #[.string (str out), .int .i64 0]) ∧ Below W.heap.size W w')
    (HK : ∀ W, Calls Tryz.prog 31 #[.string (str out), .int .i64 (r.n : Int)] W fun e w' => e = .returned (.agg #[.string (str out), .bool false, .bool false, .int .i64 (r.n : Int)]) ∧ Below W.heap.size W w') :
    Calls Tryz.prog 12 #[.pointer (some ⟨db, 0, none⟩), .pointer sp, .agg (nodeC p x (.slice (some ⟨gf, 0, none⟩) 1 cf) (.slice none 0 0) rv st ln false true)] w (CmdP w out) := by
  obtain ⟨i0, hi, hz0, hz1, hz2⟩ := info_parts infoCo
  obtain ⟨gr, cr, rfl, hcr, lcur, hgr, q0, q1, q2⟩ := hr
  obtain ⟨cb, cv, gl, hd⟩ := h
  have HT := Lib.hid HT
  have HK := Lib.hid HK
  have hn0 := heap_last w (.cells (nodeC p x (.slice (some ⟨gf, 0, none⟩) 1 cf) (.slice none 0 0) (.slice (some ⟨gr, 0, none⟩) 1 cr) st ln false true) NoT)
  have hf0 := heap_last (w.alloc (.cells (nodeC p x (.slice (some ⟨gf, 0, none⟩) 1 cf) (.slice none 0 0) (.slice (some ⟨gr, 0, none⟩) 1 cr) st ln false true) NoT)) (.cells #[.int .i64 0, .string ⟨#[]⟩, .int .i64 0] FaT)
  rw [World.size_alloc] at hf0
  have hB0 := ((Below.refl w.heap.size w).alloc (Nat.le_refl _) (.cells (nodeC p x (.slice (some ⟨gf, 0, none⟩) 1 cf) (.slice none 0 0) (.slice (some ⟨gr, 0, none⟩) 1 cr) st ln false true) NoT)).alloc (by simp) (.cells #[.int .i64 0, .string ⟨#[]⟩, .int .i64 0] FaT)
  have HN0 := Lib.hid (alloc_keep hn0 (.cells #[.int .i64 0, .string ⟨#[]⟩, .int .i64 0] FaT))
  have HF0 := Lib.hid hf0
  have HB0 := Lib.hid hB0
  have HA := Lib.hid (Auto_one (hG.below hB0) p x f1 st (.slice (some ⟨gr, 0, none⟩) 1 cr) ⟨_, _, _, rfl⟩ ln false true (cf := cf) f0 ((hB0.cell (p := ⟨gf, 0, none⟩) hl).trans h0) ((hB0.cell (p := ⟨gf, 1, none⟩) hl).trans h1) (Nat.lt_of_lt_of_le hl hB0.size) hf hx hst)
  have HD := Lib.hid hd
  have HR := Lib.hid hgr
  have HQ := Lib.hid (And.intro q0 (And.intro q1 q2))
  have hne1 : ((str out).toList == []) = false := by
    rw [beq_eq_false_iff_ne, toList_by8, by8S]; exact hout
  have hne2 : ¬ (str out).toList = [] := by
    rw [toList_by8, by8S]; exact hout
  have HNE := Lib.hid (And.intro hne1 hne2)
  clear hn0 hf0 hB0 h0 h1 hl hf hx hst hG hd hgr q0 q1 q2 hne1 hne2 hout
  unfold nodeC at *
  go_enter Tryz.func12, Tryz.ntmps12
  go_upto_region 1 with (fail)
  generalize (w.alloc (.cells #[.string p, .string x, .slice (some ⟨gf, 0, none⟩) 1 cf, .slice none 0 0, .slice (some ⟨gr, 0, none⟩) 1 cr, .string st, .int .i64 ln, .bool false, .bool true] NoT)).alloc (.cells #[.int .i64 0, .string ⟨#[]⟩, .int .i64 0] FaT) = w0 at *
  go_wp2_with (refine wpList_load_row rfl NoT _ rfl w.heap.size rfl NoT _ (0, 0) _ HN0.out undNo rfl sizeNo ?_)
  refine HA.out.mono ?_
  rintro e w1 ⟨ab, L, rfl, hh, B1⟩
  have HHas := Lib.hid hh.out
  have HN1 := Lib.hid ((B1.block _ (Array.getElem?_eq_some_iff.1 HN0.out).1).trans HN0.out)
  have HF1 := Lib.hid ((B1.block _ (Array.getElem?_eq_some_iff.1 HF0.out).1).trans HF0.out)
  have HB1 := Lib.hid (HB0.out.trans (B1.mono HB0.out.size))
  clear hh B1 HN0 HF0 HB0 HA
  go_wp2_with fail
  refine (env_map ((HB1.out.block _ (Array.getElem?_eq_some_iff.1 HD.out).1).trans HD.out) sp HHas.out.map).mono ?_
  rintro e w2 ⟨sx, dx, mb, rfl, hM2, B2⟩
  have hA2 := (Below.refl w2.heap.size w2).alloc (Nat.le_refl _) (.cells #[.pointer (some ⟨cb, 0, none⟩), .map (some mb), gV sx dx] EnvT)
  have HM2 := Lib.hid (hM2.below hA2)
  have HAll := Lib.hid HHas.out.all
  have HN2 := Lib.hid (alloc_keep ((B2.block _ (Array.getElem?_eq_some_iff.1 HN1.out).1).trans HN1.out) (.cells #[.pointer (some ⟨cb, 0, none⟩), .map (some mb), gV sx dx] EnvT))
  have HF2 := Lib.hid (alloc_keep ((B2.block _ (Array.getElem?_eq_some_iff.1 HF1.out).1).trans HF1.out) (.cells #[.pointer (some ⟨cb, 0, none⟩), .map (some mb), gV sx dx] EnvT))
  have HE2 := Lib.hid (heap_last w2 (.cells #[.pointer (some ⟨cb, 0, none⟩), .map (some mb), gV sx dx] EnvT))
  have hB2 := HB1.out.trans (B2.mono HB1.out.size)
  have HB2 := Lib.hid (hB2.alloc hB2.size (.cells #[.pointer (some ⟨cb, 0, none⟩), .map (some mb), gV sx dx] EnvT))
  have HS2 := Lib.hid (show (w2.alloc (.cells #[.pointer (some ⟨cb, 0, none⟩), .map (some mb), gV sx dx] EnvT)).heap.size = w2.heap.size + 1 by simp)
  clear hA2 hM2 hB2 B2 HHas HN1 HF1 HB1
  unfold gV at *
  go_upto_region 4 with (fail)
  generalize w2.alloc (.cells #[.pointer (some ⟨cb, 0, none⟩), .map (some mb), .func (.func 54) #[] #[.pointer (some ⟨sx, 0, none⟩), .pointer (some ⟨dx, 0, none⟩)]] EnvT) = w3 at *
  have n4 : w3.cell? ⟨w.heap.size, 4, none⟩ = some (.slice (some ⟨gr, 0, none⟩) 1 cr) := cell_at HN2.out rfl
  have ln4 := (Array.getElem?_eq_some_iff.1 HN2.out).1
  go_wp2_with fail
  clear n4 ln4
  refine wp_loop_rounds 2 ?_
  rw [rounds_succ]
  have hr3 := (HB2.out.block _ (Array.getElem?_eq_some_iff.1 HR.out).1).trans HR.out
  have r0 := cell_at (i := 0) hr3 HQ.out.1
  have r1 := cell_at (i := 1) hr3 HQ.out.2.1
  have r2 := cell_at (i := 2) hr3 HQ.out.2.2
  have lr := (Array.getElem?_eq_some_iff.1 hr3).1
  have e0 := cell_at (i := 0) HE2.out rfl
  have e1 := cell_at (i := 1) HE2.out rfl
  have e2 : w3.cell? ⟨w2.heap.size, 2, none⟩ = some (.func (.func 54) #[] #[.pointer (some ⟨sx, 0, none⟩), .pointer (some ⟨dx, 0, none⟩)]) := cell_at HE2.out rfl
  have le := (Array.getElem?_eq_some_iff.1 HE2.out).1
  clear hr3
  go_wp2_with fail
  have hA3 := (Below.refl w3.heap.size w3).alloc (Nat.le_refl _) (.cells #[.int .i64 (r.n : Int), .string (str r.t), .bool r.q] Iw.LT)
  refine (HT.out _ cb mb L _ (HM2.out.below hA3) HAll.out).mono ?_
  rintro e w4 ⟨rfl, B4⟩
  have B34 := hA3.trans (B4.mono hA3.size)
  have HL4 := Lib.hid ((B4.block w3.heap.size (by simp)).trans (heap_last w3 (.cells #[.int .i64 (r.n : Int), .string (str r.t), .bool r.q] Iw.LT)))
  have HF4 := Lib.hid ((B34.block _ (Array.getElem?_eq_some_iff.1 HF2.out).1).trans HF2.out)
  have HB4 := Lib.hid (HB2.out.trans (B34.mono HB2.out.size))
  have l0 := cell_at (i := 0) HL4.out rfl
  have ll := (Array.getElem?_eq_some_iff.1 HL4.out).1
  clear hA3 B4 B34 HT HM2 HAll HN2 HF2 HB2 HE2 r0 r1 r2 lr e0 e1 e2 le
  go_wp2_with fail
  refine (HK.out w4).mono ?_
  rintro e w5 ⟨rfl, B5⟩
  have HF5 := Lib.hid ((B5.block _ (Array.getElem?_eq_some_iff.1 HF4.out).1).trans HF4.out)
  have HB5 := Lib.hid (HB4.out.trans (B5.mono HB4.out.size))
  have hne1 := HNE.out.1
  have hne2 := HNE.out.2
  clear B5 HK HL4 HF4 HB4 l0 ll
  go_wp2_with (at_builtin; refine wpList_append_own _ rfl _ _ 47 rfl w.heap.size CoT i0 (.agg #[.string ⟨#[]⟩, .bool false, .bool false, .int .i64 0]) 4 32 Tryz.underlying47 hi hz0 hz1 hz2 rfl (by decide) _ _ _ rfl (World.ownsRow_nil _ _ _ _) ⟨w5.heap.size + 1, 0, none⟩ 1 1 [.string (str out), .bool false, .bool false, .int .i64 (r.n : Int)] rfl rfl (cells_new _ #[.string (str out), .bool false, .bool false, .int .i64 (r.n : Int)] _ (by simp)) (by simp [Value.oneCell']) (by unfold maxLen; omega) (by omega) (by have := HB5.out.size; simp; omega) ?_; intro v' w6 hown' hgrow _; obtain ⟨a2, k2, c2, rfl⟩ := slice_of hown')
  obtain ⟨g6, h6a, h6b, h6c⟩ : ∃ g6, Value.slice a2 k2 c2 = .slice (some ⟨g6, 0, none⟩) 1 c2 ∧ w6.cell? ⟨g6, 0, none⟩ = some (.string (str out)) ∧ g6 < w6.heap.size := by
    rcases hown'.2 with ⟨_, h0⟩ | ⟨g, cap, cur, hv, hb, hg, _⟩
    · cases h0
    · cases hv
      refine ⟨g, rfl, ?_, (Array.getElem?_eq_some_iff.1 hg).1⟩
      have := hown'.cells (g := g) rfl 0 (.string (str out)) rfl
      rwa [Addr.add_lit] at this
  have hF6 := (hgrow.block (w.heap.size + 1) (by have := (Array.getElem?_eq_some_iff.1 HF5.out).1; simp; omega) (fun e => by cases e)).trans (alloc_keep (alloc_keep HF5.out (.cells #[.string (str out), .bool false, .bool false, .int .i64 (r.n : Int)] CoT)) (.cells #[.string (str out), .bool false, .bool false, .int .i64 (r.n : Int)] CoT))
  have hB6 := ((HB5.out.alloc HB5.out.size (.cells #[.string (str out), .bool false, .bool false, .int .i64 (r.n : Int)] CoT)).alloc (by have := HB5.out.size; simp; omega) (.cells #[.string (str out), .bool false, .bool false, .int .i64 (r.n : Int)] CoT)).grown hgrow (by have := HB5.out.size; simp; omega) (fun r e => by cases e)
  have hg6 : g6 ≠ w.heap.size + 1 := fun e => by
    rcases hown'.2 with ⟨_, h0⟩ | ⟨g, cap, cur, hv, hb, hg, _⟩
    · cases h0
    · rw [h6a] at hv
      injection hv with hv
      injection hv with hv
      injection hv with hv
      subst hv
      rw [e, hF6] at hg
      cases hg
  injection h6a with h6a h6k
  subst h6a
  subst h6k
  have HF6 := Lib.hid hF6
  have HB6 := Lib.hid hB6
  have H6 := Lib.hid (And.intro h6b (And.intro h6c hg6))
  clear hown' hgrow hF6 hB6 h6b h6c hg6 HF5 HB5 hne1 hne2
  rw [rounds_succ]
  go_wp2_with (refine wpList_store_row rfl FaT _ _ rfl (w.heap.size + 1) #[.int .i64 0, .string ⟨#[]⟩, .int .i64 0] rfl rfl FaT _ HF6.out sizeFa rfl (by simp [Value.oneCell']) ?_)
  (try simp only [Exit.inBlock, Exit.then])
  refine bodyPost_ret (Mw.results_tc Tryz.results12 _ _ (w.heap.size + 1) FaT #[.int .i64 0, .string ⟨#[]⟩, .int .i64 0] (0, 0) _ (.slice (some ⟨g6, 0, none⟩) 1 c2) rfl rfl (setRow_heap _ _ _ _ _ _ HF6.out) undFa rfl sizeFa) rfl ?_
  exact ⟨g6, c2, rfl, (cell_setRow_other _ _ _ _ H6.out.2.2).trans H6.out.1, by rw [setRow_size]; exact H6.out.2.1, below_setRow HB6.out (Nat.le_succ _) _⟩
set_option maxHeartbeats 8000000 in
theorem Commands_none (hG : Ew.GM w) (sp : Option Addr) {db : Nat} {dir : ByteArray} {pv : Value} (h : NoTg w db dir pv) (p x st : ByteArray) (ln : Int) (ph ru : Bool) (hx : x.size ≤ 500) (hst : st.size ≤ 500) :
    Calls Tryz.prog 12 #[.pointer (some ⟨db, 0, none⟩), .pointer sp, .agg (nodeC p x (.slice none 0 0) (.slice none 0 0) (.slice none 0 0) st ln ph ru)] w fun e w' => e = .returned (.tuple #[.slice none 0 0, .agg #[.int .i64 0, .string ⟨#[]⟩, .int .i64 0]]) ∧ Below w.heap.size w w' := by
  obtain ⟨cb, cv, gl, hd⟩ := h
  have hn0 := heap_last w (.cells (nodeC p x (.slice none 0 0) (.slice none 0 0) (.slice none 0 0) st ln ph ru) NoT)
  have hf0 := heap_last (w.alloc (.cells (nodeC p x (.slice none 0 0) (.slice none 0 0) (.slice none 0 0) st ln ph ru) NoT)) (.cells #[.int .i64 0, .string ⟨#[]⟩, .int .i64 0] FaT)
  rw [World.size_alloc] at hf0
  have hB0 := ((Below.refl w.heap.size w).alloc (Nat.le_refl _) (.cells (nodeC p x (.slice none 0 0) (.slice none 0 0) (.slice none 0 0) st ln ph ru) NoT)).alloc (by simp) (.cells #[.int .i64 0, .string ⟨#[]⟩, .int .i64 0] FaT)
  have HN0 := Lib.hid (alloc_keep hn0 (.cells #[.int .i64 0, .string ⟨#[]⟩, .int .i64 0] FaT))
  have HF0 := Lib.hid hf0
  have HB0 := Lib.hid hB0
  have HA := Lib.hid (Auto_none (hG.below hB0) p x st ln ph ru hx hst)
  have HD := Lib.hid hd
  clear hn0 hf0 hB0 hx hst hG hd
  unfold nodeC at *
  go_enter Tryz.func12, Tryz.ntmps12
  go_upto_region 1 with (fail)
  generalize (w.alloc (.cells #[.string p, .string x, .slice none 0 0, .slice none 0 0, .slice none 0 0, .string st, .int .i64 ln, .bool ph, .bool ru] NoT)).alloc (.cells #[.int .i64 0, .string ⟨#[]⟩, .int .i64 0] FaT) = w0 at *
  go_wp2_with (refine wpList_load_row rfl NoT _ rfl w.heap.size rfl NoT _ (0, 0) _ HN0.out undNo rfl sizeNo ?_)
  refine HA.out.mono ?_
  rintro e w1 ⟨ab, L, rfl, hh, B1⟩
  have HHas := Lib.hid hh.out
  have HN1 := Lib.hid ((B1.block _ (Array.getElem?_eq_some_iff.1 HN0.out).1).trans HN0.out)
  have HF1 := Lib.hid ((B1.block _ (Array.getElem?_eq_some_iff.1 HF0.out).1).trans HF0.out)
  have HB1 := Lib.hid (HB0.out.trans (B1.mono HB0.out.size))
  clear hh B1 HN0 HF0 HB0 HA
  go_wp2_with fail
  refine (env_map ((HB1.out.block _ (Array.getElem?_eq_some_iff.1 HD.out).1).trans HD.out) sp HHas.out.map).mono ?_
  rintro e w2 ⟨sx, dx, mb, rfl, hM2, B2⟩
  have HN2 := Lib.hid (alloc_keep ((B2.block _ (Array.getElem?_eq_some_iff.1 HN1.out).1).trans HN1.out) (.cells #[.pointer (some ⟨cb, 0, none⟩), .map (some mb), gV sx dx] EnvT))
  have HF2 := Lib.hid (alloc_keep ((B2.block _ (Array.getElem?_eq_some_iff.1 HF1.out).1).trans HF1.out) (.cells #[.pointer (some ⟨cb, 0, none⟩), .map (some mb), gV sx dx] EnvT))
  have hB2 := HB1.out.trans (B2.mono HB1.out.size)
  have HB2 := Lib.hid (hB2.alloc hB2.size (.cells #[.pointer (some ⟨cb, 0, none⟩), .map (some mb), gV sx dx] EnvT))
  clear hM2 hB2 B2 HHas HN1 HF1 HB1
  unfold gV at *
  go_upto_region 4 with (fail)
  generalize w2.alloc (.cells #[.pointer (some ⟨cb, 0, none⟩), .map (some mb), .func (.func 54) #[] #[.pointer (some ⟨sx, 0, none⟩), .pointer (some ⟨dx, 0, none⟩)]] EnvT) = w3 at *
  have n4 : w3.cell? ⟨w.heap.size, 4, none⟩ = some (.slice none 0 0) := cell_at HN2.out rfl
  have ln4 := (Array.getElem?_eq_some_iff.1 HN2.out).1
  go_wp2_with fail
  refine wp_loop_rounds 1 ?_
  rw [rounds_succ]
  go_wp2_with (refine wpList_store_row rfl FaT _ _ rfl (w.heap.size + 1) #[.int .i64 0, .string ⟨#[]⟩, .int .i64 0] rfl rfl FaT _ HF2.out sizeFa rfl (by simp [Value.oneCell']) ?_)
  (try simp only [Exit.inBlock, Exit.then])
  refine bodyPost_ret (Mw.results_tc Tryz.results12 _ _ (w.heap.size + 1) FaT #[.int .i64 0, .string ⟨#[]⟩, .int .i64 0] (0, 0) _ (.slice none 0 0) rfl rfl (setRow_heap _ _ _ _ _ _ HF2.out) undFa rfl sizeFa) rfl ?_
  exact ⟨rfl, below_setRow HB2.out (Nat.le_succ _) _⟩
end
end Go.Proofs.YtgednccpjegbmaaGreatDoor.Dq
