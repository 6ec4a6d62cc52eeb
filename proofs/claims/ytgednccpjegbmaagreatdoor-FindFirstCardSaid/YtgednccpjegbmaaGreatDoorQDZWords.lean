/-
  expand.functions; the closure by which Text recovers.
  expand.functions: the map of the functions that expand their arguments by themselves.
  An expansion whose cells are any: a text without $; expand.Env.Text by what expand comes to.
  expand.Env.Words, by what expand comes to.
-/
import Derived.Recover
import Derived.Great.Frames
import Derived.Laws.EntriesVeiled
import Derived.Maps.OwnSet
import Derived.Test.YtgednccpjegbmaaGreatDoorQXPlain
import Derived.Maps.Views
import Derived.Deep.RegionHeld3
import Derived.Deep.DeepCutAuto
import Derived.Test.YtgednccpjegbmaaGreatDoorQWSplit
namespace Go.Proofs.YtgednccpjegbmaaGreatDoor.Xw
open Go.RowKit Go.Proofs.YtgednccpjegbmaaGreatDoor Go.Maps Go.Proofs.YtgednccpjegbmaaGreatDoor.Ww Go.Proofs.YtgednccpjegbmaaGreatDoor.Tw Go.Proofs.YtgednccpjegbmaaGreatDoor.Kw Go.Proofs.YtgednccpjegbmaaGreatDoor.Jw Go.Proofs.YtgednccpjegbmaaGreatDoor.Xb
set_option maxRecDepth 100000

abbrev MT : TypeId := 152
theorem catch_idle (cb : Nat) (w : World) :
    CallsD Tryz.prog 58 #[.pointer (some ⟨cb, 0, none⟩)] .returning w fun e u' w' => e = .returned (.tuple #[]) ∧ u' = .returning ∧ w' = w := by
  have hq : ∀ w : World, (binOp .eql 20 .nilIface .nilIface).run Tryz.prog w = .ok (.bool true) w := fun w => by kernel_rfl
  refine callsD_of_wpS Tryz.func58 rfl fun c₀ cs hu => ?_
  apply wpS_seq
  apply wpS_region
  simp [wpOpsS, go_sem, recoverD, hu, Tryz.ntmps58, Exit.thenS]
  refine wpS_of_wp ?_
  have hQ : ∀ a : Act, a.defers = [] → bodyPostS Tryz.prog Tryz.f58 c₀ cs (fun e u' w' => e = Ending.returned (Value.tuple #[]) ∧ u' = .returning ∧ w' = w) .ret a (c₀ :: cs) w := fun a hd => by
    refine ⟨hd, .returning, ?_, .tuple #[], ?_, rfl, rfl, rfl⟩
    · cases c₀; simp_all
    · exact results_none rfl _ _ _
  rw [show (#[Value.pointer (some ⟨cb, 0, none⟩)] ++ ((Array.replicate 15 undef).setIfInBounds 3 Value.nilIface).setIfInBounds 0 Value.nilIface) = #[.pointer (some ⟨cb, 0, none⟩), .nilIface, undef, undef, .nilIface, undef, undef, undef, undef, undef, undef, undef, undef, undef, undef, undef] from by kernel_rfl]
  go_wp2
  exact hQ _ rfl
end Go.Proofs.YtgednccpjegbmaaGreatDoor.Xw
namespace Go.Proofs.YtgednccpjegbmaaGreatDoor.Yw
open Go.RowKit Go.Proofs.YtgednccpjegbmaaGreatDoor Go.Maps Go.Proofs.YtgednccpjegbmaaGreatDoor.Ww Go.Proofs.YtgednccpjegbmaaGreatDoor.Tw Go.Proofs.YtgednccpjegbmaaGreatDoor.Kw Go.Proofs.YtgednccpjegbmaaGreatDoor.Jw Go.Proofs.YtgednccpjegbmaaGreatDoor.Xb Go.Proofs.YtgednccpjegbmaaGreatDoor.Xw
set_option maxRecDepth 100000

/-- How an element reads: as itself. -/
def hR (v : Value) : Option (DataW Value × List MemPlace) := some (.held v, [])
/-- The names: if, or, and, foreach, wildcard. -/
def kn : Nat → Bs
  | 0 => [105, 102]
  | 1 => [111, 114]
  | 2 => [97, 110, 100]
  | 3 => [102, 111, 114, 101, 97, 99, 104]
  | _ => [119, 105, 108, 100, 99, 97, 114, 100]
def kf : Nat → Nat
  | 0 => 97
  | 1 => 98
  | 2 => 99
  | 3 => 100
  | _ => 101
def knD : Nat → DataW Value
  | 0 => .map []
  | n + 1 => (knD n).put (.string (kn n)) (.held (.func (.func (kf n)) #[] #[]))
/-- The map, as far as it has come. -/
def KnAt (W : World) (b n : Nat) : Prop := W.ownsMap Tryz.prog SK hR b n (knD n)
theorem KnAt.lt {W : World} {b n : Nat} (h : KnAt W b n) : b < W.heap.size := World.ownsMap.lt h
theorem KnAt.block {W W' : World} {b n : Nat} (h : KnAt W b n) (hb : W'.heap[b]? = W.heap[b]?) : KnAt W' b n := by
  obtain ⟨es, clock, hh, r⟩ := h
  exact ⟨es, clock, hb.trans hh, r⟩
section
variable {w : World} {ops : Array Oper} {rest : List Oper} {o : Oper} {a : Act} {Q : Exit → Act → World → Prop}
theorem wpList_insert_kn {n b : Nat} (hg : o.guard = none) (m x v : Operand) (hop : o.op = Op.insert MT m x v) (hm : a.eval m = .map (some b)) (hF : KnAt w b n) (hn : n < 5) (hx : a.eval x = .string (str (kn n))) (hv : a.eval v = .func (.func (kf n)) #[] #[])
    (hK : ∀ w', KnAt w' b (n + 1) → w.mapTurned w' b → wpList Tryz.prog ops Q rest (a.put o.dst undef) w') : wpList Tryz.prog ops Q (o :: rest) a w := by
  refine wpList_plain hg fun K' hK' => ?_
  obtain ⟨w', hrun, r1, r2⟩ := World.ownsMap.store (val := .func (.func (kf n)) #[] #[]) (d := .held (.func (.func (kf n)) #[] #[])) (ps := []) hF key Tryz.underlying152 (by unfold maxLen; omega) (key_of (p := str (kn n)) (by
    have : ∀ k : Fin 5, (kn k).length ≤ 20 := by decide
    have h2 := this ⟨n, hn⟩
    rw [str_size]; unfold maxLen; dsimp only at h2; omega)) rfl
  unfold Oper.wp
  simp [execOp, hop, hm, hx, hv, hrun, Result.andThen]
  rw [by8_str] at r1
  exact hK' _ _ (hK w' r1 r2)
end
set_option maxHeartbeats 2000000 in
theorem functions_known (w : World) : Calls Tryz.prog 59 #[] w fun e w' => ∃ b, e = .returned (.map (some b)) ∧ w.heap.size ≤ b ∧ KnAt w' b 5 ∧ Below w.heap.size w w' := by
  have hmm := @run_makeMap Tryz.prog
  have HB := Lib.hid ((Below.refl w.heap.size w).alloc (Nat.le_refl _) (.map #[] 0))
  have H0 : Hid (KnAt (w.alloc (.map #[] 0)) w.heap.size 0) := Lib.hid (World.ownsMap_made (H := Value) w Tryz.prog SK hR)
  go_enter Tryz.func59, Tryz.ntmps59
  go_wp2_with (first
    | (refine wpList_insert_kn (n := 0) (by rfl) _ _ _ (by rfl) (by rfl) H0.out (by decide) (by rfl) (by rfl) ?_; intro w1 h1 t1; have H1 := Lib.hid h1; have HB1 := Lib.hid (HB.out.grown t1.grown HB.out.size (fun k e => by cases e; exact Nat.le_refl _)); clear h1 t1 HB H0)
    | (refine wpList_insert_kn (n := 1) (by rfl) _ _ _ (by rfl) (by rfl) H1.out (by decide) (by rfl) (by rfl) ?_; intro w2 h2 t2; have H2 := Lib.hid h2; have HB2 := Lib.hid (HB1.out.grown t2.grown HB1.out.size (fun k e => by cases e; exact Nat.le_refl _)); clear h2 t2 HB1 H1)
    | (refine wpList_insert_kn (n := 2) (by rfl) _ _ _ (by rfl) (by rfl) H2.out (by decide) (by rfl) (by rfl) ?_; intro w3 h3 t3; have H3 := Lib.hid h3; have HB3 := Lib.hid (HB2.out.grown t3.grown HB2.out.size (fun k e => by cases e; exact Nat.le_refl _)); clear h3 t3 HB2 H2)
    | (refine wpList_insert_kn (n := 3) (by rfl) _ _ _ (by rfl) (by rfl) H3.out (by decide) (by rfl) (by rfl) ?_; intro w4 h4 t4; have H4 := Lib.hid h4; have HB4 := Lib.hid (HB3.out.grown t4.grown HB3.out.size (fun k e => by cases e; exact Nat.le_refl _)); clear h4 t4 HB3 H3)
    | (refine wpList_insert_kn (n := 4) (by rfl) _ _ _ (by rfl) (by rfl) H4.out (by decide) (by rfl) (by rfl) ?_; intro w5 h5 t5; have H5 := Lib.hid h5; have HB5 := Lib.hid (HB4.out.grown t5.grown HB4.out.size (fun k e => by cases e; exact Nat.le_refl _)); clear h5 t5 HB4 H4))
  go_ret
  exact ⟨_, rfl, Nat.le_refl _, H5.out, HB5.out⟩
end Go.Proofs.YtgednccpjegbmaaGreatDoor.Yw
namespace Go.Proofs.YtgednccpjegbmaaGreatDoor.Dz
open Go.RowKit Go.Proofs.YtgednccpjegbmaaGreatDoor Go.Maps Go.Proofs.YtgednccpjegbmaaGreatDoor.Ww Go.Proofs.YtgednccpjegbmaaGreatDoor.Tw Go.Proofs.YtgednccpjegbmaaGreatDoor.Kw Go.Proofs.YtgednccpjegbmaaGreatDoor.Jw Go.Proofs.YtgednccpjegbmaaGreatDoor.Xb Go.Proofs.YtgednccpjegbmaaGreatDoor.Xw
set_option maxRecDepth 100000

section
variable (xb : Nat) (v0 v1 v2 v3 v4 v5 : Value)
/-- The cells of an expansion, so deep. -/
def zC (d : Int) : Array Value := #[v0, v1, v2, v3, v4, v5, .int .i64 d]
def ZAt (w : World) (d : Int) : Prop := w.heap[xb]? = some (.cells (zC v0 v1 v2 v3 v4 v5 d) XT (0, 0))
/-- On its way. -/
structure Zn (w W : World) (d0 d : Int) : Prop where
  h0 : ZAt xb v0 v1 v2 v3 v4 v5 w d0
  cx : ZAt xb v0 v1 v2 v3 v4 v5 W d
  k : Kept [xb] w W
end
section
variable {xb : Nat} {v0 v1 v2 v3 v4 v5 : Value} {w w' W W' : World} {d0 d : Int}
theorem ZAt.lt (h : ZAt xb v0 v1 v2 v3 v4 v5 w d) : xb < w.heap.size := (Array.getElem?_eq_some_iff.1 h).1
theorem ZAt.cells (h : ZAt xb v0 v1 v2 v3 v4 v5 w d) : w.cell? ⟨xb, 0, none⟩ = some v0 ∧ w.cell? ⟨xb, 1, none⟩ = some v1 ∧ w.cell? ⟨xb, 2, none⟩ = some v2 ∧ w.cell? ⟨xb, 3, none⟩ = some v3 ∧ w.cell? ⟨xb, 4, none⟩ = some v4 ∧ w.cell? ⟨xb, 5, none⟩ = some v5 ∧ w.cell? ⟨xb, 6, none⟩ = some (.int .i64 d) :=
  ⟨cell_at h rfl, cell_at h rfl, cell_at h rfl, cell_at h rfl, cell_at h rfl, cell_at h rfl, cell_at h rfl⟩
theorem ZAt.below (h : ZAt xb v0 v1 v2 v3 v4 v5 w d) (hB : Below w.heap.size w w') : ZAt xb v0 v1 v2 v3 v4 v5 w' d := (hB.block _ h.lt).trans h
theorem ZAt.kept {Y : List Nat} (h : ZAt xb v0 v1 v2 v3 v4 v5 w d) (hk : Kept Y w w') (hY : xb ∉ Y) : ZAt xb v0 v1 v2 v3 v4 v5 w' d := (hk.block _ h.lt hY).trans h
theorem Zn.refl (h : ZAt xb v0 v1 v2 v3 v4 v5 w d) : Zn xb v0 v1 v2 v3 v4 v5 w w d d := ⟨h, h, Kept.refl _ _⟩
theorem Zn.fresh {Y : List Nat} (h : Zn xb v0 v1 v2 v3 v4 v5 w W d0 d) (hk : Kept Y W W') (hY : ∀ i ∈ Y, w.heap.size ≤ i) : Zn xb v0 v1 v2 v3 v4 v5 w W' d0 d := by
  have hx : xb ∉ Y := fun e => by have := hY xb e; have := h.h0.lt; omega
  exact ⟨h.h0, h.cx.kept hk hx, ⟨hk.os.trans h.k.os, hk.tape.trans h.k.tape, hk.output.trans h.k.output, Nat.le_trans h.k.size hk.size, fun i hi hx => (hk.block i (Nat.lt_of_lt_of_le hi h.k.size) (fun e => by have := hY i e; omega)).trans (h.k.block i hi hx)⟩⟩
theorem Zn.below (h : Zn xb v0 v1 v2 v3 v4 v5 w W d0 d) (hB : Below W.heap.size W W') : Zn xb v0 v1 v2 v3 v4 v5 w W' d0 d := h.fresh (Kept.of_below (X := []) hB) (by simp)
theorem Zn.deep (h : Zn xb v0 v1 v2 v3 v4 v5 w W d0 d) (e : Int) : Zn xb v0 v1 v2 v3 v4 v5 w (W.setCell ⟨xb, 6, none⟩ (.int .i64 e)) d0 e :=
  ⟨h.h0, heap_set (i := 6) h.cx _, h.k.trans ((Kept.refl _ W).setCell (.inl (by simp)) _)⟩
end
/-- A text without $, as it is. -/
def PlainZ (s : Bs) (d : Int) : Prop := ∀ (xb : Nat) (v0 v1 v2 v3 v4 v5 : Value) (w : World), ZAt xb v0 v1 v2 v3 v4 v5 w d →
  Calls Tryz.prog 60 #[.pointer (some ⟨xb, 0, none⟩), .string (str s)] w fun e w' => e = .returned (.string (str s)) ∧ ZAt xb v0 v1 v2 v3 v4 v5 w' d ∧ Kept [xb] w w'
set_option maxHeartbeats 2000000 in
theorem plain_z (s : Bs) (d : Int) (h0 : (36 : UInt8) ∉ s) (hs : s.length ≤ 1000) (h1 : 0 ≤ d) (hd : d < 60) : PlainZ s d := by
  intro xb v0 v1 v2 v3 v4 v5 w hC
  have hlt := hC.lt
  have c6 := hC.cells.2.2.2.2.2.2
  have f6 := frozen_at hC 6
  have hO1 := (Zn.refl hC).deep (d + 1)
  have c61 : (w.setCell ⟨xb, 6, none⟩ (.int .i64 (d + 1))).cell? ⟨xb, 6, none⟩ = some (.int .i64 (d + 1)) := hO1.cx.cells.2.2.2.2.2.2
  have HB := Lib.hid (res_new (w.setCell ⟨xb, 6, none⟩ (.int .i64 (d + 1))))
  have hsz : (w.setCell ⟨xb, 6, none⟩ (.int .i64 (d + 1))).heap.size = w.heap.size := by simp [World.setCell]
  have HO := Lib.hid (hO1.below ((Below.refl _ _).alloc (Nat.le_refl _) (.cells #[.pointer none, .slice none 0 0] QT)))
  rw [hsz] at HB
  have hdd : ¬ (60 : Int) < (d : Int) + 1 := by omega
  have hss : (str s).size ≤ 1000 := by rw [str_size]; exact hs
  have HCut := Lib.hid fun W => Cut_no W (str s) 36 (by rw [by8_str]; exact h0)
  clear hC hO1 h0
  go_enter Tryz.func60, Tryz.ntmps60
  go_wp2_with fail
  refine wp_loop_rounds 1 ?_
  rw [rounds_succ]
  go_wp2_with fail
  generalize (w.setCell ⟨xb, 6, none⟩ (.int .i64 (d + 1))).alloc (.cells #[.pointer none, .slice none 0 0] QT) = W0 at *
  refine (HCut.out _).mono ?_
  rintro e w1 ⟨rfl, B1⟩
  have HO1 := Lib.hid (HO.out.below B1)
  have HB1 := Lib.hid (HB.out.below B1)
  clear HB HO B1
  have HA := Lib.hid (add_any w1 HB1.out (str s) (by simp only [List.length_nil]; omega) HB1.out.lt)
  go_wp2_with fail
  refine HA.out.mono ?_
  rintro e w2 ⟨rfl, bv, hB2, hK2⟩
  have HO2 := Lib.hid (HO1.out.fresh hK2 (by simp [Value.ownBlock]))
  have HB2 := Lib.hid hB2
  have g6 := HO2.out.cx.cells.2.2.2.2.2.2
  have k6 := frozen_at HO2.out.cx 6
  have hl2 := HO2.out.cx.lt
  have HS := Lib.hid fun W (h : BAt W QT w.heap.size 0 (w.heap.size + 1) s (.pointer (some ⟨w.heap.size, 0, none⟩)) bv (bCs #[.pointer none, .slice none 0 0] w.heap.size 0 bv)) => String_any W h
  have hwr : IntKind.i64.wrap (d + 1 - 1) = d := by rw [show d + 1 - 1 = d by omega]; exact IntWalk.i64_in _ (by omega)
  clear hB2 hK2 HA HB1 HO1 HCut
  go_wp2_with fail
  have HO3 := Lib.hid (HO2.out.deep d)
  have HB3 := Lib.hid (HB2.out.kept ((Kept.refl [xb] w2).setCell (p := ⟨xb, 6, none⟩) (.inl (by simp)) (.int .i64 d)) (by simp; omega) (by simp; omega))
  generalize w2.setCell ⟨xb, 6, none⟩ (.int .i64 d) = w3 at *
  refine (HS.out _ HB3.out).mono ?_
  rintro e w4 ⟨rfl, hK4⟩
  have HO4 := Lib.hid (HO3.out.fresh hK4 (fun i hi => by have := HB3.out.fresh i hi; omega))
  clear HO3 HB3 HB2 HO2 hK4 g6 k6 HS
  go_wp2_with fail
  go_ret
  exact ⟨rfl, HO4.out.cx, HO4.out.k⟩

theorem trans_new {X Y : List Nat} {a b c : World} (h : Kept X a b) (k : Kept Y b c) (hY : ∀ i ∈ Y, i ∈ X ∨ a.heap.size ≤ i) : Kept X a c :=
  ⟨k.os.trans h.os, k.tape.trans h.tape, k.output.trans h.output, Nat.le_trans h.size k.size, fun i hi hx => (k.block i (Nat.lt_of_lt_of_le hi h.size) (fun e => by rcases hY i e with h | h; exact hx h; omega)).trans (h.block i hi hx)⟩
abbrev EnvT : TypeId := 84
abbrev ErrT : TypeId := 27
/-- An expansion that begins. -/
def ZRel (w : World) (v0 v1 v2 v6 : Value) (W : World) : Prop :=
  ∃ (xb kb lb yb : Nat), v6 = .pointer (some ⟨xb, 0, none⟩) ∧ ZAt xb v0 v1 v2 (.map (some kb)) (.map (some lb)) (.map (some yb)) W 0 ∧ Yw.KnAt W kb 5 ∧ w.heap.size ≤ xb ∧ W.heap[w.heap.size + 1]? = some (.cells #[.int .i64 0] ErrT (0, 0)) ∧ Below w.heap.size w W ∧ xb ≠ w.heap.size + 1
theorem alloc_keep {W : World} {b : Nat} {o : Obj} (h : W.heap[b]? = some o) (o' : Obj) : (W.alloc o').heap[b]? = some o :=
  ((Below.refl _ W).alloc (Nat.le_refl _) o').block b (Array.getElem?_eq_some_iff.1 h).1 |>.trans h
theorem kn_alloc {W : World} {b n : Nat} (h : Yw.KnAt W b n) (o : Obj) : Yw.KnAt (W.alloc o) b n := h.block (((Below.refl _ W).alloc (Nat.le_refl _) o).block b h.lt)
theorem zrel_mk {w w0 W : World} {v0 v1 v2 : Value} (HC : w0.heap[w.heap.size + 1]? = some (.cells #[.int .i64 0] ErrT (0, 0))) (HB : Below w.heap.size w w0)
    (kb : Nat) {lb yb xb : Nat} (hB : Below w0.heap.size w0 W) (hk : Yw.KnAt W kb 5) (hx : xb = W.heap.size) :
    ZRel w v0 v1 v2 (.pointer (some ⟨xb, 0, none⟩)) (W.alloc (.cells #[v0, v1, v2, .map (some kb), .map (some lb), .map (some yb), .int .i64 0] XT)) := by
  subst hx
  have BW := HB.trans (hB.mono HB.size)
  have BX := BW.alloc (BW.size) (.cells #[v0, v1, v2, .map (some kb), .map (some lb), .map (some yb), .int .i64 0] XT)
  have h0 := HB.size
  have h1 := hB.size
  have hc := (Array.getElem?_eq_some_iff.1 HC).1
  exact ⟨W.heap.size, kb, lb, yb, rfl, heap_last _ _, kn_alloc hk _, by omega, alloc_keep ((hB.block _ hc).trans HC) _, BX, by omega⟩
set_option maxHeartbeats 8000000 in
theorem Text_z (w : World) (v0 v1 v2 : Value) (s : Bs) (Y : List Nat) (P : ByteArray → World → Prop)
    (HE : ∀ xb kb lb yb W, w.heap.size ≤ xb → ZAt xb v0 v1 v2 (.map (some kb)) (.map (some lb)) (.map (some yb)) W 0 → Yw.KnAt W kb 5 → Below w.heap.size w W →
      Calls Tryz.prog 60 #[.pointer (some ⟨xb, 0, none⟩), .string (str s)] W fun e w' => ∃ r, e = .returned (.string r) ∧ Kept (xb :: Y) W w' ∧ P r w')
    (hY : ∀ i ∈ Y, i < w.heap.size) :
    Calls Tryz.prog 30 #[.agg #[v0, v1, v2], .string (str s)] w fun e w' => ∃ r W, e = .returned (.tuple #[.string r, .int .i64 0]) ∧ Kept Y w w' ∧ P r W ∧ Kept [w.heap.size + 1] W w' ∧ ∃ cs, W.heap[w.heap.size + 1]? = some (.cells cs ErrT (0, 0)) := by
  have hmf : ∀ (fn : Fn) (first cap : Array Value) (w : World), (Instr.makeFunc fn first cap).run Tryz.prog w = .ok (.func fn first cap) w := fun _ _ _ _ => rfl
  have hmm := @run_makeMap Tryz.prog
  have HE := Lib.hid HE
  have HY := Lib.hid hY
  clear hY
  go_enter_defers Tryz.func30, Tryz.ntmps30
  go_upto_region 2 with (fail)
  have ez : ((w.alloc (.cells #[v0, v1, v2] EnvT)).alloc (.cells #[.int .i64 0] ErrT)).heap[w.heap.size]? = some (.cells #[v0, v1, v2] EnvT (0, 0)) := alloc_keep (heap_last _ _) _
  have HC := Lib.hid (show ((w.alloc (.cells #[v0, v1, v2] EnvT)).alloc (.cells #[.int .i64 0] ErrT)).heap[w.heap.size + 1]? = some (.cells #[.int .i64 0] ErrT (0, 0)) from by have := heap_last (w.alloc (.cells #[v0, v1, v2] EnvT)) (.cells #[.int .i64 0] ErrT); rw [World.size_alloc] at this; exact this)
  have HB := Lib.hid (show Below w.heap.size w ((w.alloc (.cells #[v0, v1, v2] EnvT)).alloc (.cells #[.int .i64 0] ErrT)) from ((Below.refl _ w).alloc (Nat.le_refl _) _).alloc (by simp) _)
  have z0 : (((w.alloc (.cells #[v0, v1, v2] EnvT)).alloc (.cells #[.int .i64 0] ErrT))).cell? ⟨w.heap.size, 0, none⟩ = some v0 := cell_at (i := 0) ez rfl
  have z1 : (((w.alloc (.cells #[v0, v1, v2] EnvT)).alloc (.cells #[.int .i64 0] ErrT))).cell? ⟨w.heap.size, 1, none⟩ = some v1 := cell_at (i := 1) ez rfl
  have z2 : (((w.alloc (.cells #[v0, v1, v2] EnvT)).alloc (.cells #[.int .i64 0] ErrT))).cell? ⟨w.heap.size, 2, none⟩ = some v2 := cell_at (i := 2) ez rfl
  have p0 : ((((w.alloc (.cells #[v0, v1, v2] EnvT)).alloc (.cells #[.int .i64 0] ErrT)).alloc (.map #[] 0))).cell? ⟨w.heap.size, 0, none⟩ = some v0 := cell_at (i := 0) (alloc_keep ez (.map #[] 0)) rfl
  have p1 : ((((w.alloc (.cells #[v0, v1, v2] EnvT)).alloc (.cells #[.int .i64 0] ErrT)).alloc (.map #[] 0))).cell? ⟨w.heap.size, 1, none⟩ = some v1 := cell_at (i := 1) (alloc_keep ez (.map #[] 0)) rfl
  have p2 : ((((w.alloc (.cells #[v0, v1, v2] EnvT)).alloc (.cells #[.int .i64 0] ErrT)).alloc (.map #[] 0))).cell? ⟨w.heap.size, 2, none⟩ = some v2 := cell_at (i := 2) (alloc_keep ez (.map #[] 0)) rfl
  have q0 : (((((w.alloc (.cells #[v0, v1, v2] EnvT)).alloc (.cells #[.int .i64 0] ErrT)).alloc (.map #[] 0)).alloc (.map #[] 0))).cell? ⟨w.heap.size, 0, none⟩ = some v0 := cell_at (i := 0) (alloc_keep (alloc_keep ez (.map #[] 0)) (.map #[] 0)) rfl
  have q1 : (((((w.alloc (.cells #[v0, v1, v2] EnvT)).alloc (.cells #[.int .i64 0] ErrT)).alloc (.map #[] 0)).alloc (.map #[] 0))).cell? ⟨w.heap.size, 1, none⟩ = some v1 := cell_at (i := 1) (alloc_keep (alloc_keep ez (.map #[] 0)) (.map #[] 0)) rfl
  have q2 : (((((w.alloc (.cells #[v0, v1, v2] EnvT)).alloc (.cells #[.int .i64 0] ErrT)).alloc (.map #[] 0)).alloc (.map #[] 0))).cell? ⟨w.heap.size, 2, none⟩ = some v2 := cell_at (i := 2) (alloc_keep (alloc_keep ez (.map #[] 0)) (.map #[] 0)) rfl
  have hl := (Array.getElem?_eq_some_iff.1 ez).1
  have hlp := (Array.getElem?_eq_some_iff.1 (alloc_keep ez (.map #[] 0))).1
  have hlq := (Array.getElem?_eq_some_iff.1 (alloc_keep (alloc_keep ez (.map #[] 0)) (.map #[] 0))).1
  clear ez
  generalize (w.alloc (.cells #[v0, v1, v2] EnvT)).alloc (.cells #[.int .i64 0] ErrT) = w0 at *
  refine Code.wp_mono (Q := fun e a W => match e with
    | .normal => ∃ y6 y8 y9 y10 y11 y12 y13, a = Act.put { tmps := #[.agg #[v0, v1, v2], .string (str s), .pointer (some ⟨w.heap.size, 0, none⟩), undef, .string ⟨#[]⟩, .pointer (some ⟨w.heap.size + 1, 0, none⟩), undef, .func (.func 58) #[] #[.pointer (some ⟨w.heap.size + 1, 0, none⟩)], y8, y9, y10, y11, y12, y13, undef, undef, undef], defers := [{ target := .fn (.func 58) #[.pointer (some ⟨w.heap.size + 1, 0, none⟩)], args := #[] }] } (some 6) y6 ∧ ZRel w v0 v1 v2 y6 W
    | _ => False) ?_ ?_
  · rintro e a W hq
    cases e with
    | normal =>
      obtain ⟨y6, y8, y9, y10, y11, y12, y13, rfl, hR⟩ := hq
      obtain ⟨xb, kb, lb, yb, rfl, hC, hkn, hx, hc, hB, nx⟩ := hR
      have hlx := hC.lt
      simp only [Act.put, List.setIfInBounds_toArray, List.set]
      have HC := Lib.hid hC
      have HKN := Lib.hid hkn
      have HBB := Lib.hid hB
      have HCC := Lib.hid hc
      clear hC hB hc hkn z0 z1 z2 p0 p1 p2 q0 q1 q2 hl hlp hlq
      go_wp2_with fail
      refine (HE.out xb kb lb yb _ hx HC.out HKN.out HBB.out).mono ?_
      rintro e w3 ⟨r, rfl, hK, hP⟩
      have hn1 : w.heap.size + 1 ∉ xb :: Y := by
        intro e
        rcases List.mem_cons.1 e with e | e
        · exact nx e.symm
        · have := HY.out _ e; omega
      have hc3 := (hK.block (w.heap.size + 1) (Array.getElem?_eq_some_iff.1 HCC.out).1 hn1).trans HCC.out
      have hYB : Kept Y w W := ⟨HBB.out.os, HBB.out.tape, HBB.out.output, HBB.out.size, fun i hi _ => HBB.out.block i hi⟩
      have hK3 : Kept Y w w3 := trans_new hYB (Y := xb :: Y) hK (fun i hi => by
        rcases List.mem_cons.1 hi with rfl | e
        · exact .inr hx
        · exact .inl e)
      have k3 := cell_at (i := 0) hc3 rfl
      have f3 := frozen_at hc3 0
      have l3 := (Array.getElem?_eq_some_iff.1 hc3).1
      have hc4 := heap_set (i := 0) hc3 (.int .i64 0)
      have c4 : (w3.setCell ⟨w.heap.size + 1, 0, none⟩ (.int .i64 0)).cell? ⟨w.heap.size + 1, 0, none⟩ = some (.int .i64 0) := cell_at (i := 0) hc4 rfl
      have hK1 : Kept [w.heap.size + 1] w3 (w3.setCell ⟨w.heap.size + 1, 0, none⟩ (.int .i64 0)) := (Kept.refl [w.heap.size + 1] w3).setCell (p := ⟨w.heap.size + 1, 0, none⟩) (.inl (by simp)) (.int .i64 0)
      have HK4 := Lib.hid (trans_new hK3 hK1 (fun i hi => by simp at hi; subst hi; exact .inr (Nat.le_succ _)))
      have HK1 := Lib.hid hK1
      have HP := Lib.hid hP
      have HC3 := Lib.hid hc3
      clear hK hc3 hc4 hK3 hK1 hP hYB
      go_wp2_with fail
      refine leaves_cons (f := 58) (args := #[.pointer (some ⟨w.heap.size + 1, 0, none⟩)]) (by simp) (by simp [go_sem]) ?_
      refine (catch_idle (w.heap.size + 1) _).mono ?_
      rintro e u' w4 ⟨rfl, rfl, rfl⟩
      simp only [Leaves, settle]
      refine ⟨.tuple #[.string r, .int .i64 0], ?_, r, w3, rfl, HK4.out, HP.out, HK1.out, _, HC3.out⟩
      simp [results, Tryz.results30, go_sem, c4]
    | _ => exact hq.elim
  · have s0 : w0.drew.heap.size = w0.heap.size := rfl
    have s1 : (w0.alloc (.map #[] 0)).drew.heap.size = w0.heap.size + 1 := World.size_alloc _ _
    have s2 : ((w0.alloc (.map #[] 0)).alloc (.map #[] 0)).drew.heap.size = w0.heap.size + 1 + 1 := by show ((w0.alloc (.map #[] 0)).alloc (.map #[] 0)).heap.size = _; rw [World.size_alloc, World.size_alloc]
    have b0 : Below w0.heap.size w0 w0.drew := (Below.refl _ w0).drew
    have b1 : Below w0.heap.size w0 (w0.alloc (.map #[] 0)).drew := ((Below.refl _ w0).alloc (Nat.le_refl _) _).drew
    have b2 : Below w0.heap.size w0 ((w0.alloc (.map #[] 0)).alloc (.map #[] 0)).drew := (((Below.refl _ w0).alloc (Nat.le_refl _) _).alloc (by rw [World.size_alloc]; omega) _).drew
    go_region_with (go_at_call 59; go_must (refine (Yw.functions_known _).mono ?_; rintro e w1 ⟨kb, rfl, hkb, hkn, B1⟩; have hs1 := B1.size; have HKN := Lib.hid hkn; have y0 : w1.cell? ⟨w.heap.size, 0, none⟩ = some v0 := (B1.cell (p := ⟨w.heap.size, 0, none⟩) (by first | exact hl | exact hlp | exact hlq)).trans (by first | exact z0 | exact p0 | exact q0); have y1 : w1.cell? ⟨w.heap.size, 1, none⟩ = some v1 := (B1.cell (p := ⟨w.heap.size, 1, none⟩) (by first | exact hl | exact hlp | exact hlq)).trans (by first | exact z1 | exact p1 | exact q1); have y2 : w1.cell? ⟨w.heap.size, 2, none⟩ = some v2 := (B1.cell (p := ⟨w.heap.size, 2, none⟩) (by first | exact hl | exact hlp | exact hlq)).trans (by first | exact z2 | exact p2 | exact q2); have hl1 : w.heap.size < w1.heap.size := Nat.lt_of_lt_of_le (by first | exact hl | exact hlp | exact hlq) hs1; have hz1 : _ ≤ w1.heap.size := B1.size; (first | (have hz : w0.heap.size + 2 ≤ w1.heap.size := by omega) | (have hz : w0.heap.size + 1 ≤ w1.heap.size := by omega) | (have hz : w0.heap.size ≤ w1.heap.size := by omega)); have HD : Hid (Below w0.heap.size w0 w1) := (by first | exact Lib.hid (b0.trans (B1.mono (by omega))) | exact Lib.hid (b1.trans (B1.mono (by omega))) | exact Lib.hid (b2.trans (B1.mono (by omega)))); clear hz1 B1 hkn hkb))
    all_goals refine ⟨_, _, _, _, _, _, _, rfl, ?_⟩
    all_goals refine zrel_mk (w0 := w0) HC.out HB.out kb ?_ ?_ ?_
    all_goals first
      | exact HD.out
      | exact HD.out.alloc HD.out.size _
      | exact (HD.out.alloc HD.out.size _).alloc (HD.out.alloc HD.out.size _).size _
      | exact HKN.out
      | exact kn_alloc HKN.out _
      | exact kn_alloc (kn_alloc HKN.out _) _
      | rfl
      | omega
      | (rw [World.size_alloc, World.size_alloc]; done)
      | (rw [World.size_alloc]; done)
end Go.Proofs.YtgednccpjegbmaaGreatDoor.Dz
namespace Go.Proofs.YtgednccpjegbmaaGreatDoor.Dz
open Go.RowKit Go.Proofs.YtgednccpjegbmaaGreatDoor Go.Maps Go.Proofs.YtgednccpjegbmaaGreatDoor.Ww Go.Proofs.YtgednccpjegbmaaGreatDoor.Tw Go.Proofs.YtgednccpjegbmaaGreatDoor.Kw Go.Proofs.YtgednccpjegbmaaGreatDoor.Jw Go.Proofs.YtgednccpjegbmaaGreatDoor.Xb Go.Proofs.YtgednccpjegbmaaGreatDoor.Xw
set_option maxRecDepth 100000

/-- What expand comes to, at the beginning. -/
def BegC (w : World) (v0 v1 v2 : Value) (s : Bs) (Y : List Nat) (P : ByteArray → World → Prop) : Prop :=
  ∀ xb kb lb yb W, w.heap.size ≤ xb → ZAt xb v0 v1 v2 (.map (some kb)) (.map (some lb)) (.map (some yb)) W 0 → Yw.KnAt W kb 5 → Below w.heap.size w W →
      Calls Tryz.prog 60 #[.pointer (some ⟨xb, 0, none⟩), .string (str s)] W fun e w' => ∃ r, e = .returned (.string r) ∧ Kept (xb :: Y) W w' ∧ P r w'
theorem beg_plain (w : World) (v0 v1 v2 : Value) (s : Bs) (h0 : (36 : UInt8) ∉ s) (hs : s.length ≤ 1000) : BegC w v0 v1 v2 s [] (fun r _ => r = str s) := by
  intro xb kb lb yb W _ hC _ _
  refine (plain_z s 0 h0 hs (by omega) (by omega) xb _ _ _ _ _ _ W hC).mono ?_
  rintro e w' ⟨rfl, _, hk⟩
  exact ⟨_, rfl, hk, rfl⟩
theorem BegC.mono {w w' : World} {v0 v1 v2 : Value} {s : Bs} {Y : List Nat} {P : ByteArray → World → Prop} (h : BegC w v0 v1 v2 s Y P) (hB : Below w.heap.size w w') : BegC w' v0 v1 v2 s Y P :=
  fun xb kb lb yb W hx hC hk hW => h xb kb lb yb W (Nat.le_trans hB.size hx) hC hk (hB.trans (hW.mono hB.size))
set_option maxHeartbeats 2000000 in
theorem Words_z (w : World) (v0 v1 v2 : Value) (s : Bs) (Y : List Nat) (P : ByteArray → World → Prop) (HE : BegC w v0 v1 v2 s Y P) (hY : ∀ i ∈ Y, i < w.heap.size) (hz : ∀ r W, P r W → r.size ≤ 100000000) :
    Calls Tryz.prog 137 #[.agg #[v0, v1, v2], .string (str s)] w fun e w' => ∃ r W v, e = .returned (.tuple #[v, .int .i64 0]) ∧ Kept Y w w' ∧ P r W ∧ Kept [w.heap.size + 2] W w' ∧ w'.ownsRow w.heap.size Ww.ST 1 v (wordsS r).length (strsC (wordsS r)) := by
  have HA := Lib.hid ((Below.refl _ w).alloc (Nat.le_refl _) (.cells #[v0, v1, v2] EnvT))
  have HT := Lib.hid (Text_z (w.alloc (.cells #[v0, v1, v2] EnvT)) v0 v1 v2 s Y P (HE.mono HA.out) (fun i hi => by have := hY i hi; simp; omega))
  have HS := Lib.hid fun W r (h : r.size ≤ 100000000) => Split_any W r h
  have HZ := Lib.hid hz
  clear HE hY hz
  go_enter Tryz.func137, Tryz.ntmps137
  go_wp2_with fail
  refine HT.out.mono ?_
  rintro e w1 ⟨r, W, rfl, hk1, hP, hk2, _⟩
  have H1 := Lib.hid (And.intro hk1 (And.intro hP hk2))
  clear hk1 hk2 hP HT
  go_wp2_with fail
  refine (HS.out w1 r (HZ.out r W H1.out.2.1)).mono ?_
  rintro e w2 ⟨v, rfl, ho, B2⟩
  have H2 := Lib.hid (And.intro ho B2)
  clear ho B2 HS HZ
  go_wp2_with fail
  go_ret2
  obtain ⟨hk1, hP, hk2⟩ := H1.out
  obtain ⟨ho, B2⟩ := H2.out
  have hsz : (w.alloc (.cells #[v0, v1, v2] EnvT)).heap.size = w.heap.size + 1 := by simp
  rw [hsz] at hk2
  refine ⟨r, W, v, rfl, ?_, hP, ?_, owns_weaken ho (by have := hk1.size; omega)⟩
  · exact ((Kept.of_below HA.out).trans hk1).trans (Kept.of_below B2)
  · exact hk2.trans (Kept.of_below B2)
end Go.Proofs.YtgednccpjegbmaaGreatDoor.Dz
