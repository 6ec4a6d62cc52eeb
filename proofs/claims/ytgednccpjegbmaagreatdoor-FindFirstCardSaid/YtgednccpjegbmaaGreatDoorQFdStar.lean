/-
  An expansion whose cells are any: a text that is one reference; what abides it.
  expand.Env.Text where no foreach has begun.
  A variable of Auto; a text with a reference of one letter at its end.
-/
import Derived.Test.YtgednccpjegbmaaGreatDoorQDZWords
import Derived.Test.YtgednccpjegbmaaGreatDoorQXIns
import Derived.Test.YtgednccpjegbmaaGreatDoorQAMap
namespace Go.Proofs.YtgednccpjegbmaaGreatDoor.Dz
open Go.RowKit Go.Proofs.YtgednccpjegbmaaGreatDoor Go.Maps Go.Proofs.YtgednccpjegbmaaGreatDoor.Ww Go.Proofs.YtgednccpjegbmaaGreatDoor.Tw Go.Proofs.YtgednccpjegbmaaGreatDoor.Kw Go.Proofs.YtgednccpjegbmaaGreatDoor.Jw Go.Proofs.YtgednccpjegbmaaGreatDoor.Xb Go.Proofs.YtgednccpjegbmaaGreatDoor.Xw
set_option maxRecDepth 100000

/-- What an expansion turns of its own. -/
def Own (W : World) (z : Nat) : Prop := W.heap.size ≤ z ∨ ∃ cs T fz, W.heap[z]? = some (.cells cs T fz) ∧ (T = XT ∨ T = QT ∨ T = Ww.U8 ∨ T = Xw.LT)
/-- What abides that. -/
def Abides (P : World → Prop) : Prop := ∀ W W' Z, Kept Z W W' → (∀ z ∈ Z, Own W z) → P W → P W'
theorem Abides.below {P : World → Prop} (h : Abides P) {W W' : World} (hP : P W) (hB : Below W.heap.size W W') : P W' := h W W' [] (Kept.of_below hB) (by simp) hP
theorem Abides.and {P Q : World → Prop} (h : Abides P) (k : Abides Q) : Abides fun W => P W ∧ Q W := fun W W' Z hk hz hp => ⟨h W W' Z hk hz hp.1, k W W' Z hk hz hp.2⟩
theorem kn_abides (b n : Nat) : Abides fun W => Yw.KnAt W b n := fun W W' Z hk hz hp => hp.block (hk.block _ hp.lt fun e => by
  rcases hz b e with h | ⟨cs, T, fz, h, _⟩
  · have := hp.lt; omega
  · obtain ⟨es, clock, hh, _⟩ := hp
    rw [h] at hh; cases hh)
theorem bat_own {W : World} {b k B : Nat} {l : Bs} {pv bv : Value} {cs : Array Value} (h : BAt W QT b k B l pv bv cs) : ∀ z ∈ b :: bv.ownBlock.toList, Own W z := by
  intro z hz
  rcases List.mem_cons.1 hz with rfl | hz
  · exact .inr ⟨_, _, _, h.cells, .inr (.inl rfl)⟩
  · rcases h.own.2 with ⟨hv, _⟩ | ⟨g, cap, cur, hv, _, hg, _⟩
    · rw [hv] at hz; simp [Value.ownBlock] at hz
    · rw [hv] at hz; simp [Value.ownBlock] at hz; subst hz
      exact .inr ⟨_, _, _, hg, .inr (.inr (.inl rfl))⟩
section
variable (xb : Nat) (v0 v1 v2 v3 v4 v5 : Value) (Y : List Nat) (I P : World → Prop)
/-- A call that leaves the expansion as it was, and what else is told by P. -/
def GoesZ (d : Int) (f : Nat) (args : Array Value) (r : Value) : Prop := ∀ w, ZAt xb v0 v1 v2 v3 v4 v5 w d → I w → (∀ i ∈ Y, i < w.heap.size) →
  Calls Tryz.prog f args w fun e w' => e = .returned r ∧ ZAt xb v0 v1 v2 v3 v4 v5 w' d ∧ Kept (xb :: Y) w w' ∧ P w'
/-- On its way. -/
structure Zk (w W : World) (d : Int) : Prop where
  lx : xb < w.heap.size
  cx : ZAt xb v0 v1 v2 v3 v4 v5 W d
  k : Kept (xb :: Y) w W
end
section
variable {xb : Nat} {v0 v1 v2 v3 v4 v5 : Value} {Y : List Nat} {I P : World → Prop} {w W W' : World} {d : Int}
theorem Zk.refl (h : ZAt xb v0 v1 v2 v3 v4 v5 w d) : Zk xb v0 v1 v2 v3 v4 v5 Y w w d := ⟨h.lt, h, Kept.refl _ _⟩
theorem Zk.fresh {Z : List Nat} (h : Zk xb v0 v1 v2 v3 v4 v5 Y w W d) (hk : Kept Z W W') (hZ : ∀ i ∈ Z, w.heap.size ≤ i) : Zk xb v0 v1 v2 v3 v4 v5 Y w W' d :=
  ⟨h.lx, h.cx.kept hk (fun e => by have := hZ xb e; have := h.lx; omega), ⟨hk.os.trans h.k.os, hk.tape.trans h.k.tape, hk.output.trans h.k.output, Nat.le_trans h.k.size hk.size, fun i hi hx => (hk.block i (Nat.lt_of_lt_of_le hi h.k.size) (fun e => by have := hZ i e; omega)).trans (h.k.block i hi hx)⟩⟩
theorem Zk.below (h : Zk xb v0 v1 v2 v3 v4 v5 Y w W d) (hB : Below W.heap.size W W') : Zk xb v0 v1 v2 v3 v4 v5 Y w W' d := h.fresh (Kept.of_below (X := []) hB) (by simp)
theorem Zk.deep (h : Zk xb v0 v1 v2 v3 v4 v5 Y w W d) (e : Int) : Zk xb v0 v1 v2 v3 v4 v5 Y w (W.setCell ⟨xb, 6, none⟩ (.int .i64 e)) e :=
  ⟨h.lx, heap_set (i := 6) h.cx _, h.k.trans ((Kept.refl _ W).setCell (.inl (by simp)) _)⟩
theorem Zk.call {d' : Int} (h : Zk xb v0 v1 v2 v3 v4 v5 Y w W d) (hC : ZAt xb v0 v1 v2 v3 v4 v5 W' d') (hk : Kept (xb :: Y) W W') : Zk xb v0 v1 v2 v3 v4 v5 Y w W' d' := ⟨h.lx, hC, h.k.trans hk⟩
theorem own_x (h : ZAt xb v0 v1 v2 v3 v4 v5 W d) : Own W xb := .inr ⟨_, _, _, h, .inl rfl⟩
theorem Abides.deep (hP : Abides P) (h : ZAt xb v0 v1 v2 v3 v4 v5 W d) (hp : P W) (e : Int) : P (W.setCell ⟨xb, 6, none⟩ (.int .i64 e)) :=
  hP W _ [xb] ((Kept.refl _ W).setCell (.inl (by simp)) _) (fun z hz => by rw [List.mem_singleton.1 hz]; exact own_x h) hp
end
end Go.Proofs.YtgednccpjegbmaaGreatDoor.Dz
namespace Go.Proofs.YtgednccpjegbmaaGreatDoor.Dz
open Go.RowKit Go.Proofs.YtgednccpjegbmaaGreatDoor Go.Maps Go.Proofs.YtgednccpjegbmaaGreatDoor.Ww Go.Proofs.YtgednccpjegbmaaGreatDoor.Tw Go.Proofs.YtgednccpjegbmaaGreatDoor.Kw Go.Proofs.YtgednccpjegbmaaGreatDoor.Jw Go.Proofs.YtgednccpjegbmaaGreatDoor.Xb Go.Proofs.YtgednccpjegbmaaGreatDoor.Xw
set_option maxRecDepth 100000
/-- An expansion that begins. -/
def ZRelL (w : World) (v0 v1 v2 v6 : Value) (W : World) : Prop :=
  ∃ (xb kb lb yb : Nat), v6 = .pointer (some ⟨xb, 0, none⟩) ∧ ZAt xb v0 v1 v2 (.map (some kb)) (.map (some lb)) (.map (some yb)) W 0 ∧ Yw.KnAt W kb 5 ∧ Kw.MapAt LK W lb [] ∧ w.heap.size ≤ xb ∧ W.heap[w.heap.size + 1]? = some (.cells #[.int .i64 0] ErrT (0, 0)) ∧ Below w.heap.size w W ∧ xb ≠ w.heap.size + 1
theorem lk_new (W : World) : Kw.MapAt LK (W.alloc (.map #[] 0)) W.heap.size [] := Kw.MapAt.new W
theorem lk_new1 (W : World) (o : Obj) : Kw.MapAt LK ((W.alloc o).alloc (.map #[] 0)) (W.heap.size + 1) [] := by
  have := lk_new (W.alloc o)
  rwa [World.size_alloc] at this
theorem lk_newd (W : World) : Kw.MapAt LK (W.alloc (.map #[] 0)).drew W.heap.size [] := (lk_new W).block rfl
theorem lk_newd1 (W : World) (o : Obj) : Kw.MapAt LK ((W.alloc o).alloc (.map #[] 0)).drew (W.heap.size + 1) [] := (lk_new1 W o).block rfl
theorem lk_newd2 (W : World) (o : Obj) : Kw.MapAt LK ((W.alloc (.map #[] 0)).alloc o).drew W.heap.size [] := ((lk_new W).alloc o).block rfl
theorem zrelL_mk {w w0 W : World} {v0 v1 v2 : Value} (HC : w0.heap[w.heap.size + 1]? = some (.cells #[.int .i64 0] ErrT (0, 0))) (HB : Below w.heap.size w w0)
    (kb : Nat) {lb yb xb : Nat} (hB : Below w0.heap.size w0 W) (hk : Yw.KnAt W kb 5) (hl : Kw.MapAt LK W lb []) (hx : xb = W.heap.size) :
    ZRelL w v0 v1 v2 (.pointer (some ⟨xb, 0, none⟩)) (W.alloc (.cells #[v0, v1, v2, .map (some kb), .map (some lb), .map (some yb), .int .i64 0] XT)) := by
  subst hx
  have BW := HB.trans (hB.mono HB.size)
  have BX := BW.alloc (BW.size) (.cells #[v0, v1, v2, .map (some kb), .map (some lb), .map (some yb), .int .i64 0] XT)
  have h0 := HB.size
  have h1 := hB.size
  have hc := (Array.getElem?_eq_some_iff.1 HC).1
  exact ⟨W.heap.size, kb, lb, yb, rfl, heap_last _ _, kn_alloc hk _, hl.alloc _, by omega, alloc_keep ((hB.block _ hc).trans HC) _, BX, by omega⟩
set_option maxHeartbeats 8000000 in
theorem Text_zl (w : World) (v0 v1 v2 : Value) (s : Bs) (Y : List Nat) (P : ByteArray → World → Prop)
    (HE : ∀ xb kb lb yb W, w.heap.size ≤ xb → ZAt xb v0 v1 v2 (.map (some kb)) (.map (some lb)) (.map (some yb)) W 0 → Yw.KnAt W kb 5 → Kw.MapAt LK W lb [] → Below w.heap.size w W →
      Calls Tryz.prog 60 #[.pointer (some ⟨xb, 0, none⟩), .string (str s)] W fun e w' => ∃ r, e = .returned (.string r) ∧ Kept (xb :: Y) W w' ∧ P r w')
    (hY : ∀ i ∈ Y, i < w.heap.size) :
    Calls Tryz.prog 30 #[.agg #[v0, v1, v2], .string (str s)] w fun e w' => ∃ r W, e = .returned (.tuple #[.string r, .int .i64 0]) ∧ Kept Y w w' ∧ P r W ∧ Kept [w.heap.size + 1] W w' ∧ ∃ cs, W.heap[w.heap.size + 1]? = some (.cells cs ErrT (0, 0)) := by
  have hmf : ∀ (fn : Fn) (first cap : Array Value) (w : World), (Instr.makeFunc fn first cap).run Tryz.prog w = .ok (.func fn first cap) w := fun _ _ _ _ => rfl
  have hmm := @run_makeMap Tryz.prog
  have HE := Lib.hid HE
  have HY := Lib.hid hY
  clear hY
  go_enter_defers Tryz.func30, Tryz.ntmps30
  go_upto_region 2 with (fail)
  have ez : ((w.alloc (.cells #[v0, v1, v2] EnvT)).alloc (.cells #[.int .i64 0] ErrT)).heap[w.heap.size]? = some (.cells #[v0, v1, v2] EnvT (0, 0)) := alloc_keep (heap_last _ _) _
  have HC := Lib.hid (show ((w.alloc (.cells #[v0, v1, v2] EnvT)).alloc (.cells #[.int .i64 0] ErrT)).heap[w.heap.size + 1]? = some (.cells #[.int .i64 0] ErrT (0, 0)) from by have := heap_last (w.alloc (.cells #[v0, v1, v2] EnvT)) (.cells #[.int .i64 0] ErrT); rw [World.size_alloc] at this; exact this)
  have HB := Lib.hid (show Below w.heap.size w ((w.alloc (.cells #[v0, v1, v2] EnvT)).alloc (.cells #[.int .i64 0] ErrT)) from ((Below.refl _ w).alloc (Nat.le_refl _) _).alloc (by simp) _)
  have z0 : (((w.alloc (.cells #[v0, v1, v2] EnvT)).alloc (.cells #[.int .i64 0] ErrT))).cell? ⟨w.heap.size, 0, none⟩ = some v0 := cell_at (i := 0) ez rfl
  have z1 : (((w.alloc (.cells #[v0, v1, v2] EnvT)).alloc (.cells #[.int .i64 0] ErrT))).cell? ⟨w.heap.size, 1, none⟩ = some v1 := cell_at (i := 1) ez rfl
  have z2 : (((w.alloc (.cells #[v0, v1, v2] EnvT)).alloc (.cells #[.int .i64 0] ErrT))).cell? ⟨w.heap.size, 2, none⟩ = some v2 := cell_at (i := 2) ez rfl
  have p0 : ((((w.alloc (.cells #[v0, v1, v2] EnvT)).alloc (.cells #[.int .i64 0] ErrT)).alloc (.map #[] 0))).cell? ⟨w.heap.size, 0, none⟩ = some v0 := cell_at (i := 0) (alloc_keep ez (.map #[] 0)) rfl
  have p1 : ((((w.alloc (.cells #[v0, v1, v2] EnvT)).alloc (.cells #[.int .i64 0] ErrT)).alloc (.map #[] 0))).cell? ⟨w.heap.size, 1, none⟩ = some v1 := cell_at (i := 1) (alloc_keep ez (.map #[] 0)) rfl
  have p2 : ((((w.alloc (.cells #[v0, v1, v2] EnvT)).alloc (.cells #[.int .i64 0] ErrT)).alloc (.map #[] 0))).cell? ⟨w.heap.size, 2, none⟩ = some v2 := cell_at (i := 2) (alloc_keep ez (.map #[] 0)) rfl
  have q0 : (((((w.alloc (.cells #[v0, v1, v2] EnvT)).alloc (.cells #[.int .i64 0] ErrT)).alloc (.map #[] 0)).alloc (.map #[] 0))).cell? ⟨w.heap.size, 0, none⟩ = some v0 := cell_at (i := 0) (alloc_keep (alloc_keep ez (.map #[] 0)) (.map #[] 0)) rfl
  have q1 : (((((w.alloc (.cells #[v0, v1, v2] EnvT)).alloc (.cells #[.int .i64 0] ErrT)).alloc (.map #[] 0)).alloc (.map #[] 0))).cell? ⟨w.heap.size, 1, none⟩ = some v1 := cell_at (i := 1) (alloc_keep (alloc_keep ez (.map #[] 0)) (.map #[] 0)) rfl
  have q2 : (((((w.alloc (.cells #[v0, v1, v2] EnvT)).alloc (.cells #[.int .i64 0] ErrT)).alloc (.map #[] 0)).alloc (.map #[] 0))).cell? ⟨w.heap.size, 2, none⟩ = some v2 := cell_at (i := 2) (alloc_keep (alloc_keep ez (.map #[] 0)) (.map #[] 0)) rfl
  have hl := (Array.getElem?_eq_some_iff.1 ez).1
  have hlp := (Array.getElem?_eq_some_iff.1 (alloc_keep ez (.map #[] 0))).1
  have hlq := (Array.getElem?_eq_some_iff.1 (alloc_keep (alloc_keep ez (.map #[] 0)) (.map #[] 0))).1
  clear ez
  generalize (w.alloc (.cells #[v0, v1, v2] EnvT)).alloc (.cells #[.int .i64 0] ErrT) = w0 at *
  refine Code.wp_mono (Q := fun e a W => match e with
    | .normal => ∃ y6 y8 y9 y10 y11 y12 y13, a = Act.put { tmps := #[.agg #[v0, v1, v2], .string (str s), .pointer (some ⟨w.heap.size, 0, none⟩), undef, .string ⟨#[]⟩, .pointer (some ⟨w.heap.size + 1, 0, none⟩), undef, .func (.func 58) #[] #[.pointer (some ⟨w.heap.size + 1, 0, none⟩)], y8, y9, y10, y11, y12, y13, undef, undef, undef], defers := [{ target := .fn (.func 58) #[.pointer (some ⟨w.heap.size + 1, 0, none⟩)], args := #[] }] } (some 6) y6 ∧ ZRelL w v0 v1 v2 y6 W
    | _ => False) ?_ ?_
  · rintro e a W hq
    cases e with
    | normal =>
      obtain ⟨y6, y8, y9, y10, y11, y12, y13, rfl, hR⟩ := hq
      obtain ⟨xb, kb, lb, yb, rfl, hC, hkn, hlk, hx, hc, hB, nx⟩ := hR
      have HLK := Lib.hid hlk
      have hlx := hC.lt
      simp only [Act.put, List.setIfInBounds_toArray, List.set]
      have HC := Lib.hid hC
      have HKN := Lib.hid hkn
      have HBB := Lib.hid hB
      have HCC := Lib.hid hc
      clear hC hB hc hkn hlk z0 z1 z2 p0 p1 p2 q0 q1 q2 hl hlp hlq
      go_wp2_with fail
      refine (HE.out xb kb lb yb _ hx HC.out HKN.out HLK.out HBB.out).mono ?_
      rintro e w3 ⟨r, rfl, hK, hP⟩
      have hn1 : w.heap.size + 1 ∉ xb :: Y := by
        intro e
        rcases List.mem_cons.1 e with e | e
        · exact nx e.symm
        · have := HY.out _ e; omega
      have hc3 := (hK.block (w.heap.size + 1) (Array.getElem?_eq_some_iff.1 HCC.out).1 hn1).trans HCC.out
      have hYB : Kept Y w W := ⟨HBB.out.os, HBB.out.tape, HBB.out.output, HBB.out.size, fun i hi _ => HBB.out.block i hi⟩
      have hK3 : Kept Y w w3 := trans_new hYB (Y := xb :: Y) hK (fun i hi => by
        rcases List.mem_cons.1 hi with rfl | e
        · exact .inr hx
        · exact .inl e)
      have k3 := cell_at (i := 0) hc3 rfl
      have f3 := frozen_at hc3 0
      have l3 := (Array.getElem?_eq_some_iff.1 hc3).1
      have hc4 := heap_set (i := 0) hc3 (.int .i64 0)
      have c4 : (w3.setCell ⟨w.heap.size + 1, 0, none⟩ (.int .i64 0)).cell? ⟨w.heap.size + 1, 0, none⟩ = some (.int .i64 0) := cell_at (i := 0) hc4 rfl
      have hK1 : Kept [w.heap.size + 1] w3 (w3.setCell ⟨w.heap.size + 1, 0, none⟩ (.int .i64 0)) := (Kept.refl [w.heap.size + 1] w3).setCell (p := ⟨w.heap.size + 1, 0, none⟩) (.inl (by simp)) (.int .i64 0)
      have HK4 := Lib.hid (trans_new hK3 hK1 (fun i hi => by simp at hi; subst hi; exact .inr (Nat.le_succ _)))
      have HK1 := Lib.hid hK1
      have HP := Lib.hid hP
      have HC3 := Lib.hid hc3
      clear hK hc3 hc4 hK3 hK1 hP hYB
      go_wp2_with fail
      refine leaves_cons (f := 58) (args := #[.pointer (some ⟨w.heap.size + 1, 0, none⟩)]) (by simp) (by simp [go_sem]) ?_
      refine (catch_idle (w.heap.size + 1) _).mono ?_
      rintro e u' w4 ⟨rfl, rfl, rfl⟩
      simp only [Leaves, settle]
      refine ⟨.tuple #[.string r, .int .i64 0], ?_, r, w3, rfl, HK4.out, HP.out, HK1.out, _, HC3.out⟩
      simp [results, Tryz.results30, go_sem, c4]
    | _ => exact hq.elim
  · have s0 : w0.drew.heap.size = w0.heap.size := rfl
    have s1 : (w0.alloc (.map #[] 0)).drew.heap.size = w0.heap.size + 1 := World.size_alloc _ _
    have s2 : ((w0.alloc (.map #[] 0)).alloc (.map #[] 0)).drew.heap.size = w0.heap.size + 1 + 1 := by show ((w0.alloc (.map #[] 0)).alloc (.map #[] 0)).heap.size = _; rw [World.size_alloc, World.size_alloc]
    have b0 : Below w0.heap.size w0 w0.drew := (Below.refl _ w0).drew
    have b1 : Below w0.heap.size w0 (w0.alloc (.map #[] 0)).drew := ((Below.refl _ w0).alloc (Nat.le_refl _) _).drew
    have b2 : Below w0.heap.size w0 ((w0.alloc (.map #[] 0)).alloc (.map #[] 0)).drew := (((Below.refl _ w0).alloc (Nat.le_refl _) _).alloc (by rw [World.size_alloc]; omega) _).drew
    go_region_with (go_at_call 59; go_must (refine (Yw.functions_known _).mono ?_; rintro e w1 ⟨kb, rfl, hkb, hkn, B1⟩; have hs1 := B1.size; have HKN := Lib.hid hkn; have HMB := Lib.hid (fun (b : Nat) (h : Kw.MapAt LK _ b []) => h.below B1); have y0 : w1.cell? ⟨w.heap.size, 0, none⟩ = some v0 := (B1.cell (p := ⟨w.heap.size, 0, none⟩) (by first | exact hl | exact hlp | exact hlq)).trans (by first | exact z0 | exact p0 | exact q0); have y1 : w1.cell? ⟨w.heap.size, 1, none⟩ = some v1 := (B1.cell (p := ⟨w.heap.size, 1, none⟩) (by first | exact hl | exact hlp | exact hlq)).trans (by first | exact z1 | exact p1 | exact q1); have y2 : w1.cell? ⟨w.heap.size, 2, none⟩ = some v2 := (B1.cell (p := ⟨w.heap.size, 2, none⟩) (by first | exact hl | exact hlp | exact hlq)).trans (by first | exact z2 | exact p2 | exact q2); have hl1 : w.heap.size < w1.heap.size := Nat.lt_of_lt_of_le (by first | exact hl | exact hlp | exact hlq) hs1; have hz1 : _ ≤ w1.heap.size := B1.size; (first | (have hz : w0.heap.size + 2 ≤ w1.heap.size := by omega) | (have hz : w0.heap.size + 1 ≤ w1.heap.size := by omega) | (have hz : w0.heap.size ≤ w1.heap.size := by omega)); have HD : Hid (Below w0.heap.size w0 w1) := (by first | exact Lib.hid (b0.trans (B1.mono (by omega))) | exact Lib.hid (b1.trans (B1.mono (by omega))) | exact Lib.hid (b2.trans (B1.mono (by omega)))); clear hz1 B1 hkn hkb))
    all_goals refine ⟨_, _, _, _, _, _, _, rfl, ?_⟩
    all_goals refine zrelL_mk (w0 := w0) HC.out HB.out kb ?_ ?_ ?_ ?_
    all_goals first
      | exact HD.out
      | exact HD.out.alloc HD.out.size _
      | exact (HD.out.alloc HD.out.size _).alloc (HD.out.alloc HD.out.size _).size _
      | exact HKN.out
      | exact kn_alloc HKN.out _
      | exact kn_alloc (kn_alloc HKN.out _) _
      | exact lk_new _
      | exact lk_new1 _ _
      | exact (lk_new _).alloc _
      | exact HMB.out _ (lk_newd _)
      | exact HMB.out _ (lk_newd1 _ _)
      | exact HMB.out _ (lk_newd2 _ _)
      | exact (HMB.out _ (lk_newd _)).alloc _
      | rfl
      | omega
      | (rw [World.size_alloc, World.size_alloc]; done)
      | (rw [World.size_alloc]; done)
end Go.Proofs.YtgednccpjegbmaaGreatDoor.Dz
namespace Go.Proofs.YtgednccpjegbmaaGreatDoor.Dz
open Go.RowKit Go.Proofs.YtgednccpjegbmaaGreatDoor Go.Maps Go.Proofs.YtgednccpjegbmaaGreatDoor.Ww Go.Proofs.YtgednccpjegbmaaGreatDoor.Tw Go.Proofs.YtgednccpjegbmaaGreatDoor.Kw Go.Proofs.YtgednccpjegbmaaGreatDoor.Jw Go.Proofs.YtgednccpjegbmaaGreatDoor.Xb Go.Proofs.YtgednccpjegbmaaGreatDoor.Xw
set_option maxRecDepth 100000
abbrev BoT : TypeId := 231
section
variable {xb : Nat} {v0 v2 v3 v5 : Value} {w : World} {d : Int}
set_option maxHeartbeats 4000000 in
/-- A name that Auto has. -/
theorem value_auto {ab lb : Nat} {L : List Aw.En} (hC : ZAt xb v0 (.map (some ab)) v2 v3 (.map (some lb)) v5 w d) (hl : Kw.MapAt LK w lb []) (ha : Kw.MapAt Aw.AK w ab L) (n : ByteArray) (v : ByteArray) (hg : Kp.get L (by8 n) = some (by8 n, v)) (hn : n.size ≤ 1000) :
    Calls Tryz.prog 157 #[.pointer (some ⟨xb, 0, none⟩), .string n] w fun e w' => e = .returned (.string v) ∧ Below w.heap.size w w' := by
  have hlt := hC.lt
  obtain ⟨c0, c1, c2, c3, c4, c5, c6⟩ := hC.cells
  have hns : n.size ≤ maxLen := Nat.le_trans hn (by decide)
  have hB := (Below.refl w.heap.size w).alloc (Nat.le_refl _) (.cells #[.string ⟨#[]⟩, .bool false] BoT)
  have ha2 := Kw.MapAt.alloc ha (.cells #[.string ⟨#[]⟩, .bool false] BoT)
  have HB := Lib.hid hB
  have hval : Kw.valA Aw.AK L (by8 n) = v := by unfold Kw.valA; rw [hg]; rfl
  have hsome : (Kp.get L (by8 n)).isSome = true := by rw [hg]; rfl
  have HV := Lib.hid (And.intro hval hsome)
  clear hC hB hval hsome hg ha
  go_enter Tryz.func157, Tryz.ntmps157
  go_wp2_with (at_lookup; first | refine wpList_look (K := LK) _ rfl _ _ rfl rfl rfl (mb := some lb) hl hns (.agg #[.string ⟨#[]⟩, .bool false]) (Lib.hid rfl) ?_ | refine wpList_look_ok (K := Aw.AK) _ rfl _ _ rfl rfl rfl (mb := some ab) ha2 hns (.string v) true (Lib.hid ⟨by rw [HV.out.1]; rfl, HV.out.2⟩) ?_)
  go_ret
  exact ⟨rfl, HB.out⟩
set_option maxHeartbeats 4000000 in
/-- $*. -/
theorem ref_star {Y : List Nat} {v1 v4 : Value} {I : World → Prop} (hI : Abides I) (v : Bs) (HI : GoesZ xb v0 v1 v2 v3 v4 v5 Y I (fun _ => True) d 157 #[.pointer (some ⟨xb, 0, none⟩), .string ⟨#[42]⟩] (.string (str v))) :
    GoesZ xb v0 v1 v2 v3 v4 v5 Y I (fun _ => True) d 105 #[.pointer (some ⟨xb, 0, none⟩), .string (str [42])] (.tuple #[.string (str v), .string (str [])]) := by
  intro w hC hIw hYw
  have HI := Lib.hid (HI w.drew hC (hI.below hIw (Below.refl _ w).drew) hYw)
  have e1 : (⟨#[42]⟩ : ByteArray).extract 0 1 = ⟨#[42]⟩ := by kernel_rfl
  have e2 : (⟨#[42]⟩ : ByteArray).extract 1 1 = ⟨#[]⟩ := by kernel_rfl
  have e3 : (⟨#[42]⟩ : ByteArray).extract 1 (⟨#[42]⟩ : ByteArray).size = ⟨#[]⟩ := by kernel_rfl
  have hlt := hC.lt
  clear hC hIw hYw
  show Calls Tryz.prog 105 #[.pointer (some ⟨xb, 0, none⟩), .string ⟨#[42]⟩] w _
  go_enter Tryz.func105, Tryz.ntmps105
  go_wp2_with fail
  go_region_with (go_at_call 157; refine HI.out.mono ?_; rintro e w4 ⟨rfl, hC4, hK4, hP4⟩; have HC4 := Lib.hid (And.intro hC4 (show Kept (xb :: Y) w w4 from ⟨hK4.os, hK4.tape, hK4.output, hK4.size, hK4.block⟩)); clear hC4 hK4 hP4)
  all_goals (
    go_wp2_with fail
    go_ret2
    exact ⟨rfl, HC4.out.1, HC4.out.2, trivial⟩)
end
section
variable {xb : Nat} {v0 v1 v2 v3 v4 v5 : Value} {Y : List Nat} {I P : World → Prop} {w W W' : World} {d : Int}
set_option maxHeartbeats 4000000 in
theorem expand_pre_z (A R V : Bs) (hA36 : (36 : UInt8) ∉ A) (hAl : A.length ≤ 1000) (hr : R.length ≤ 1000) (hv : V.length ≤ 100000) (h1 : 0 ≤ d) (hd : d < 60) (hI : Abides I) (hP : Abides P) (hYx : xb ∉ Y)
    (HR : GoesZ xb v0 v1 v2 v3 v4 v5 Y I P (d + 1) 105 #[.pointer (some ⟨xb, 0, none⟩), .string (str R)] (.tuple #[.string (str V), .string (str [])])) :
    GoesZ xb v0 v1 v2 v3 v4 v5 Y I P d 60 #[.pointer (some ⟨xb, 0, none⟩), .string (str (A ++ 36 :: R))] (.string (str (A ++ V))) := by
  intro w hC hIw hYw
  have hlt := hC.lt
  have c6 := hC.cells.2.2.2.2.2.2
  have f6 := frozen_at hC 6
  have hO1 := (Zk.refl (Y := Y) hC).deep (d + 1)
  have c61 : (w.setCell ⟨xb, 6, none⟩ (.int .i64 (d + 1))).cell? ⟨xb, 6, none⟩ = some (.int .i64 (d + 1)) := hO1.cx.cells.2.2.2.2.2.2
  have HB := Lib.hid (res_new (w.setCell ⟨xb, 6, none⟩ (.int .i64 (d + 1))))
  have hsz : (w.setCell ⟨xb, 6, none⟩ (.int .i64 (d + 1))).heap.size = w.heap.size := by simp [World.setCell]
  have HO := Lib.hid (hO1.below ((Below.refl _ _).alloc (Nat.le_refl _) (.cells #[.pointer none, .slice none 0 0] QT)))
  have HI := Lib.hid (hI.below (hI.deep hC hIw (d + 1)) ((Below.refl _ _).alloc (Nat.le_refl _) (.cells #[.pointer none, .slice none 0 0] QT)))
  rw [hsz] at HB
  have hdd : ¬ (60 : Int) < d + 1 := by omega
  have hss : (str (A ++ 36 :: R)).size ≤ 1000000 := by rw [str_size]; simp; omega
  have HCut := Lib.hid fun W => Cut_yes W (str (A ++ 36 :: R)) hss 36 A R (by rw [by8_str]) hA36
  have HR := Lib.hid HR
  have HII := Lib.hid hI
  have HPP := Lib.hid hP
  have HYW := Lib.hid hYw
  have HYX := Lib.hid hYx
  have hvs : (str V).size ≤ 100000 := by rw [str_size]; exact hv
  generalize str (A ++ 36 :: R) = sv at *
  clear hC hO1 hss hI hP hIw hYw hYx
  go_enter Tryz.func60, Tryz.ntmps60
  go_wp2_with fail
  refine wp_loop_rounds 2 ?_
  rw [rounds_succ]
  go_wp2_with fail
  generalize (w.setCell ⟨xb, 6, none⟩ (.int .i64 (d + 1))).alloc (.cells #[.pointer none, .slice none 0 0] QT) = W0 at *
  refine (HCut.out _).mono ?_
  rintro e w1 ⟨rfl, B1⟩
  have HO1 := Lib.hid (HO.out.below B1)
  have HI1 := Lib.hid (HII.out.below HI.out B1)
  have HB1 := Lib.hid (HB.out.below B1)
  clear HB HO HI B1 HCut
  have HA := Lib.hid (add_any w1 HB1.out (str A) (by simp only [List.length_nil]; rw [str_size]; omega) HB1.out.lt)
  go_wp2_with fail
  refine HA.out.mono ?_
  rintro e w2 ⟨rfl, bv, hB2, hK2⟩
  rw [by8_str, List.nil_append] at hB2
  have HI2 := Lib.hid (HII.out _ _ _ hK2 (bat_own HB1.out) HI1.out)
  have HO2 := Lib.hid (HO1.out.fresh hK2 (by simp [Value.ownBlock]))
  have HB2 := Lib.hid hB2
  clear hB2 hK2 HA HB1 HO1 HI1
  go_wp2_with fail
  refine (HR.out _ HO2.out.cx HI2.out (fun i hi => Nat.lt_of_lt_of_le (HYW.out i hi) HO2.out.k.size)).mono ?_
  rintro e w3 ⟨rfl, hC3, hK3, hP3⟩
  have HO3 := Lib.hid (HO2.out.call hC3 hK3)
  have hYn : w.heap.size ∉ xb :: Y := fun e => by
    rcases List.mem_cons.1 e with e | e
    · omega
    · have := HYW.out _ e; omega
  have hYm : ∀ i ∈ xb :: Y, i < w.heap.size + 1 := fun i hi => by
    rcases List.mem_cons.1 hi with rfl | e
    · omega
    · have := HYW.out _ e; omega
  have HB3 := Lib.hid (HB2.out.kept hK3 hYn hYm)
  have HP3 := Lib.hid hP3
  have HA := Lib.hid (add_any w3 HB3.out (str V) (by omega) (by have := HB3.out.lt; omega))
  clear hC3 hK3 HB2 HO2 HR HI2 hP3
  go_wp2_with fail
  refine HA.out.mono ?_
  rintro e w4 ⟨rfl, bv4, hB4, hK4⟩
  rw [by8_str] at hB4
  have HP4 := Lib.hid (HPP.out _ _ _ hK4 (bat_own HB3.out) HP3.out)
  have HO4 := Lib.hid (HO3.out.fresh hK4 (by
    intro i hi
    rcases List.mem_cons.1 hi with rfl | hi
    · exact Nat.le_refl _
    · have := HB3.out.fresh i hi; omega))
  have HB4 := Lib.hid hB4
  have HCut := Lib.hid fun W => Cut_no W (str []) 36 (by rw [by8_str]; simp)
  clear hB4 hK4 HA HB3 HO3 HP3
  go_wp2_with fail
  rw [rounds_succ]
  go_wp2_with fail
  refine (HCut.out _).mono ?_
  rintro e w5 ⟨rfl, B5⟩
  have HO5 := Lib.hid (HO4.out.below B5)
  have HB5 := Lib.hid (HB4.out.below B5)
  have HP5 := Lib.hid (HPP.out.below HP4.out B5)
  have HA := Lib.hid (add_any w5 HB5.out (str []) (by rw [str_size, List.length_append]; simp only [List.length_nil]; omega) (by have := HB5.out.lt; omega))
  clear HB4 HO4 B5 HCut HP4
  go_wp2_with fail
  refine HA.out.mono ?_
  rintro e w6 ⟨rfl, bv6, hB6, hK6⟩
  rw [by8_str, List.append_nil] at hB6
  have HP6 := Lib.hid (HPP.out _ _ _ hK6 (bat_own HB5.out) HP5.out)
  have HO6 := Lib.hid (HO5.out.fresh hK6 (by
    intro i hi
    rcases List.mem_cons.1 hi with rfl | hi
    · exact Nat.le_refl _
    · have := HB5.out.fresh i hi; omega))
  have HB6 := Lib.hid hB6
  have g6 := HO6.out.cx.cells.2.2.2.2.2.2
  have k6 := frozen_at HO6.out.cx 6
  have hl6 := HO6.out.cx.lt
  have hwr : IntKind.i64.wrap (d + 1 - 1) = d := by rw [show d + 1 - 1 = d by omega]; exact IntWalk.i64_in _ (by omega)
  clear hB6 hK6 HA HB5 HO5 HP5
  go_wp2_with fail
  have HP7 := Lib.hid (HPP.out.deep HO6.out.cx HP6.out d)
  have HO7 := Lib.hid (HO6.out.deep d)
  have HB7 := Lib.hid (HB6.out.kept ((Kept.refl [xb] w6).setCell (p := ⟨xb, 6, none⟩) (.inl (by simp)) (.int .i64 d)) (by simp; omega) (by simp; omega))
  generalize w6.setCell ⟨xb, 6, none⟩ (.int .i64 d) = w7 at *
  refine (String_any _ HB7.out).mono ?_
  rintro e w8 ⟨rfl, hK8⟩
  have HP8 := Lib.hid (HPP.out _ _ _ hK8 (fun z hz => bat_own HB7.out z (List.mem_cons_of_mem _ hz)) HP7.out)
  have HO8 := Lib.hid (HO7.out.fresh hK8 (fun i hi => by have := HB7.out.fresh i hi; omega))
  clear HO7 HB7 HB6 HO6 hK8 g6 k6 HP6 HP7
  go_wp2_with fail
  go_ret
  exact ⟨rfl, HO8.out.cx, HO8.out.k, HP8.out⟩
end
end Go.Proofs.YtgednccpjegbmaaGreatDoor.Dz
