/-
  expand.Env.Text.
-/
import Derived.Deep.RegionHeld3
import Derived.Deep.DeepCutAuto
import Derived.Test.YtebagfadcjgllaaGreatDoorXCatch
import Derived.Test.YtebagfadcjgllaaGreatDoorJKinds
namespace Go.Proofs.YtebagfadcjgllaaGreatDoor.Xw
open Go.RowKit Go.Proofs.YtebagfadcjgllaaGreatDoor Go.Maps Go.Proofs.YtebagfadcjgllaaGreatDoor.Ww Go.Proofs.YtebagfadcjgllaaGreatDoor.Tw Go.Proofs.YtebagfadcjgllaaGreatDoor.Kw Go.Proofs.YtebagfadcjgllaaGreatDoor.Jw Go.Proofs.YtebagfadcjgllaaGreatDoor.Xb
set_option maxRecDepth 100000

abbrev EnvT : TypeId := 36
abbrev ErrT : TypeId := 44
/-- An expansion that begins. -/
def TRel (w : World) (tb ab : Nat) (gv : Value) (X : List Nat) (L : List Jp.V) (v6 : Value) (W : World) : Prop :=
  ∃ (xb kb lb yb : Nat), v6 = .pointer (some ⟨xb, 0, none⟩) ∧ Cx xb tb ab lb yb gv (.map (some kb)) X L W 0 [] ∧ w.heap.size ≤ xb ∧ w.heap.size ≤ yb ∧ W.heap[w.heap.size + 1]? = some (.cells #[.int .i64 0] ErrT (0, 0)) ∧ Below w.heap.size w W ∧ xb ≠ w.heap.size + 1 ∧ yb ≠ w.heap.size + 1

theorem alloc_keep {W : World} {b : Nat} {o : Obj} (h : W.heap[b]? = some o) (o' : Obj) : (W.alloc o').heap[b]? = some o :=
  ((Below.refl _ W).alloc (Nat.le_refl _) o').block b (Array.getElem?_eq_some_iff.1 h).1 |>.trans h
theorem map_empty {α : Type} (K : Kind α) {W : World} {b : Nat} (h : W.heap[b]? = some (.map #[] 0)) : MapAt K W b [] := by
  obtain ⟨⟨es, clock, hh, r⟩, hs⟩ := MapAt.new (K := K) W
  have e := heap_last W (.map #[] 0)
  rw [hh] at e
  cases e
  exact ⟨⟨_, _, h, r⟩, hs⟩
theorem trel_mk {w w0 W : World} {tb ab : Nat} {gv : Value} {X : List Nat} {L : List Jp.V} (HT : Tab w tb X L [] false) (HA : MapAt AK w ab []) (HX : ∀ i ∈ X, i < w.heap.size) (HC : w0.heap[w.heap.size + 1]? = some (.cells #[.int .i64 0] ErrT (0, 0))) (HB : Below w.heap.size w w0)
    (kb : Nat) {lb yb xb : Nat} (hB : Below w0.heap.size w0 W) (hl : W.heap[lb]? = some (.map #[] 0)) (hy : W.heap[yb]? = some (.map #[] 0)) (hne : lb ≠ yb) (hyb : w0.heap.size ≤ yb) (hx : xb = W.heap.size) :
    TRel w tb ab gv X L (.pointer (some ⟨xb, 0, none⟩)) (W.alloc (.cells #[.pointer (some ⟨tb, 0, none⟩), .map (some ab), gv, .map (some kb), .map (some lb), .map (some yb), .int .i64 0] XT)) := by
  subst hx
  have BW := HB.trans (hB.mono HB.size)
  have BX := BW.alloc (BW.size) (.cells #[.pointer (some ⟨tb, 0, none⟩), .map (some ab), gv, .map (some kb), .map (some lb), .map (some yb), .int .i64 0] XT)
  have hA2 := MapAt.below HA BX
  have hab := HA.lt
  have h0 := HB.size
  have h1 := hB.size
  have hc := (Array.getElem?_eq_some_iff.1 HC).1
  refine ⟨W.heap.size, kb, lb, yb, rfl, ⟨heap_last _ _, HT.below BX, hA2, map_empty LK (alloc_keep hl _), map_empty UK (alloc_keep hy _), by omega, hne, fun h => by have := HX _ h; omega, fun h => by have := HX _ h; omega⟩, by omega, by omega, alloc_keep ((hB.block _ hc).trans HC) _, BX, by omega, by omega⟩
set_option maxHeartbeats 8000000 in
theorem Text_any (w : World) (tb ab : Nat) (gv : Value) (X : List Nat) (L : List Jp.V) (s : Bs) (o : Option Bs) (hT : Tab w tb X L [] false) (ha : MapAt AK w ab []) (hX : ∀ i ∈ X, i < w.heap.size)
    (HE : ∀ xb kb lb yb, ExpandC xb tb ab lb yb gv (.map (some kb)) X L s 0 [] o) :
    Calls Tryz.prog 7 #[.agg #[.pointer (some ⟨tb, 0, none⟩), .map (some ab), gv], .string (str s)] w fun e w' => e = .returned (.tuple #[.string (str (o.getD [])), .int .i64 (if o.isSome = true then 0 else 7)]) ∧ Below w.heap.size w w' := by
  have hmf : ∀ (fn : Fn) (first cap : Array Value) (w : World), (Instr.makeFunc fn first cap).run Tryz.prog w = .ok (.func fn first cap) w := fun _ _ _ _ => rfl
  have hmm := @run_makeMap Tryz.prog
  have HE := Lib.hid HE
  have HT := Lib.hid hT
  have HA := Lib.hid ha
  have HX := Lib.hid hX
  clear hT ha hX
  go_enter_defers Tryz.func7, Tryz.ntmps7
  go_upto_region 2 with (fail)
  have ez : ((w.alloc (.cells #[.pointer (some ⟨tb, 0, none⟩), .map (some ab), gv] EnvT)).alloc (.cells #[.int .i64 0] ErrT)).heap[w.heap.size]? = some (.cells #[.pointer (some ⟨tb, 0, none⟩), .map (some ab), gv] EnvT (0, 0)) := alloc_keep (heap_last _ _) _
  have HZ := Lib.hid ez
  have HC := Lib.hid (show ((w.alloc (.cells #[.pointer (some ⟨tb, 0, none⟩), .map (some ab), gv] EnvT)).alloc (.cells #[.int .i64 0] ErrT)).heap[w.heap.size + 1]? = some (.cells #[.int .i64 0] ErrT (0, 0)) from by have := heap_last (w.alloc (.cells #[.pointer (some ⟨tb, 0, none⟩), .map (some ab), gv] EnvT)) (.cells #[.int .i64 0] ErrT); rw [World.size_alloc] at this; exact this)
  have HB := Lib.hid (show Below w.heap.size w ((w.alloc (.cells #[.pointer (some ⟨tb, 0, none⟩), .map (some ab), gv] EnvT)).alloc (.cells #[.int .i64 0] ErrT)) from ((Below.refl _ w).alloc (Nat.le_refl _) _).alloc (by simp) _)
  have z0 : (((w.alloc (.cells #[.pointer (some ⟨tb, 0, none⟩), .map (some ab), gv] EnvT)).alloc (.cells #[.int .i64 0] ErrT))).cell? ⟨w.heap.size, 0, none⟩ = some (.pointer (some ⟨tb, 0, none⟩)) := cell_at (i := 0) ez rfl
  have z1 : (((w.alloc (.cells #[.pointer (some ⟨tb, 0, none⟩), .map (some ab), gv] EnvT)).alloc (.cells #[.int .i64 0] ErrT))).cell? ⟨w.heap.size, 1, none⟩ = some (.map (some ab)) := cell_at (i := 1) ez rfl
  have z2 : (((w.alloc (.cells #[.pointer (some ⟨tb, 0, none⟩), .map (some ab), gv] EnvT)).alloc (.cells #[.int .i64 0] ErrT))).cell? ⟨w.heap.size, 2, none⟩ = some (gv) := cell_at (i := 2) ez rfl
  have p0 : ((((w.alloc (.cells #[.pointer (some ⟨tb, 0, none⟩), .map (some ab), gv] EnvT)).alloc (.cells #[.int .i64 0] ErrT)).alloc (.map #[] 0))).cell? ⟨w.heap.size, 0, none⟩ = some (.pointer (some ⟨tb, 0, none⟩)) := cell_at (i := 0) (alloc_keep ez (.map #[] 0)) rfl
  have p1 : ((((w.alloc (.cells #[.pointer (some ⟨tb, 0, none⟩), .map (some ab), gv] EnvT)).alloc (.cells #[.int .i64 0] ErrT)).alloc (.map #[] 0))).cell? ⟨w.heap.size, 1, none⟩ = some (.map (some ab)) := cell_at (i := 1) (alloc_keep ez (.map #[] 0)) rfl
  have p2 : ((((w.alloc (.cells #[.pointer (some ⟨tb, 0, none⟩), .map (some ab), gv] EnvT)).alloc (.cells #[.int .i64 0] ErrT)).alloc (.map #[] 0))).cell? ⟨w.heap.size, 2, none⟩ = some (gv) := cell_at (i := 2) (alloc_keep ez (.map #[] 0)) rfl
  have q0 : (((((w.alloc (.cells #[.pointer (some ⟨tb, 0, none⟩), .map (some ab), gv] EnvT)).alloc (.cells #[.int .i64 0] ErrT)).alloc (.map #[] 0)).alloc (.map #[] 0))).cell? ⟨w.heap.size, 0, none⟩ = some (.pointer (some ⟨tb, 0, none⟩)) := cell_at (i := 0) (alloc_keep (alloc_keep ez (.map #[] 0)) (.map #[] 0)) rfl
  have q1 : (((((w.alloc (.cells #[.pointer (some ⟨tb, 0, none⟩), .map (some ab), gv] EnvT)).alloc (.cells #[.int .i64 0] ErrT)).alloc (.map #[] 0)).alloc (.map #[] 0))).cell? ⟨w.heap.size, 1, none⟩ = some (.map (some ab)) := cell_at (i := 1) (alloc_keep (alloc_keep ez (.map #[] 0)) (.map #[] 0)) rfl
  have q2 : (((((w.alloc (.cells #[.pointer (some ⟨tb, 0, none⟩), .map (some ab), gv] EnvT)).alloc (.cells #[.int .i64 0] ErrT)).alloc (.map #[] 0)).alloc (.map #[] 0))).cell? ⟨w.heap.size, 2, none⟩ = some (gv) := cell_at (i := 2) (alloc_keep (alloc_keep ez (.map #[] 0)) (.map #[] 0)) rfl
  have hl := (Array.getElem?_eq_some_iff.1 ez).1
  have hlp := (Array.getElem?_eq_some_iff.1 (alloc_keep ez (.map #[] 0))).1
  have hlq := (Array.getElem?_eq_some_iff.1 (alloc_keep (alloc_keep ez (.map #[] 0)) (.map #[] 0))).1
  clear ez
  generalize (w.alloc (.cells #[.pointer (some ⟨tb, 0, none⟩), .map (some ab), gv] EnvT)).alloc (.cells #[.int .i64 0] ErrT) = w0 at *
  refine Code.wp_mono (Q := fun e a W => match e with
    | .normal => ∃ y6 y8 y9 y10 y11 y12 y13, a = Act.put { tmps := #[.agg #[.pointer (some ⟨tb, 0, none⟩), .map (some ab), gv], .string (str s), .pointer (some ⟨w.heap.size, 0, none⟩), undef, .string ⟨#[]⟩, .pointer (some ⟨w.heap.size + 1, 0, none⟩), undef, .func (.func 14) #[] #[.pointer (some ⟨w.heap.size + 1, 0, none⟩)], y8, y9, y10, y11, y12, y13, undef, undef, undef], defers := [{ target := .fn (.func 14) #[.pointer (some ⟨w.heap.size + 1, 0, none⟩)], args := #[] }] } (some 6) y6 ∧ TRel w tb ab gv X L y6 W
    | _ => False) ?_ ?_
  · rintro e a W hq
    cases e with
    | normal =>
      obtain ⟨y6, y8, y9, y10, y11, y12, y13, rfl, hR⟩ := hq
      obtain ⟨xb, kb, lb, yb, rfl, hC, hx, hy, hc, hB, nx, ny⟩ := hR
      have hlx := hC.lt
      simp only [Act.put, List.setIfInBounds_toArray, List.set]
      have HC := Lib.hid hC
      have HO := Lib.hid (On.refl hC)
      have HBB := Lib.hid hB
      have HCC := Lib.hid hc
      clear hC hB hc z0 z1 z2 p0 p1 p2 q0 q1 q2 hl hlp hlq
      go_wp2_with fail
      refine (HE.out xb kb lb yb _ HC.out).mono ?_
      cases o with
      | none =>
        rintro e w3 ⟨he, hK⟩
        unfold failE at he
        subst he
        have hc3 := (hK.block (w.heap.size + 1) (Array.getElem?_eq_some_iff.1 HCC.out).1 (by simp; omega)).trans HCC.out
        have HB3 := Lib.hid (hK.to_below (B := w.heap.size) HBB.out.size (by simp; omega))
        have hc4 := heap_set (i := 0) hc3 (.int .i64 7)
        have c4 : (w3.setCell ⟨w.heap.size + 1, 0, none⟩ (.int .i64 7)).cell? ⟨w.heap.size + 1, 0, none⟩ = some (.int .i64 7) := cell_at (i := 0) hc4 rfl
        dsimp only
        refine leaves_cons (f := 14) (args := #[.pointer (some ⟨w.heap.size + 1, 0, none⟩)]) (by simp) (by simp [go_sem]) ?_
        refine (catch_fail (w.heap.size + 1) 7 [] w3 _ (cell_at (i := 0) hc3 rfl) (frozen_at hc3 0)).mono ?_
        rintro e u' w4 ⟨rfl, rfl, rfl⟩
        have HB4 := Lib.hid (HBB.out.trans (HB3.out.setCell (p := ⟨w.heap.size + 1, 0, none⟩) (by simp) (.int .i64 7)))
        simp only [settle]
        refine ⟨.tuple #[.string ⟨#[]⟩, .int .i64 7], ?_, ?_, HB4.out⟩
        · simp [results, Tryz.results7, go_sem, c4]
        · rfl
      | some v =>
        rintro e w3 ⟨rfl, hC3, hK⟩
        have hc3 := (hK.block (w.heap.size + 1) (Array.getElem?_eq_some_iff.1 HCC.out).1 (by simp; omega)).trans HCC.out
        have HB3 := Lib.hid (hK.to_below (B := w.heap.size) HBB.out.size (by simp; omega))
        have k3 := cell_at (i := 0) hc3 rfl
        have f3 := frozen_at hc3 0
        have l3 := (Array.getElem?_eq_some_iff.1 hc3).1
        have hc4 := heap_set (i := 0) hc3 (.int .i64 0)
        have c4 : (w3.setCell ⟨w.heap.size + 1, 0, none⟩ (.int .i64 0)).cell? ⟨w.heap.size + 1, 0, none⟩ = some (.int .i64 0) := cell_at (i := 0) hc4 rfl
        have HB4 := Lib.hid (HBB.out.trans (HB3.out.setCell (p := ⟨w.heap.size + 1, 0, none⟩) (by simp) (.int .i64 0)))
        clear hC3 hK hc3 hc4
        go_wp2_with fail
        refine leaves_cons (f := 14) (args := #[.pointer (some ⟨w.heap.size + 1, 0, none⟩)]) (by simp) (by simp [go_sem]) ?_
        refine (catch_idle (w.heap.size + 1) _).mono ?_
        rintro e u' w4 ⟨rfl, rfl, rfl⟩
        simp only [Leaves, settle]
        refine ⟨.tuple #[.string (str v), .int .i64 0], ?_, ?_, HB4.out⟩
        · simp [results, Tryz.results7, go_sem, c4]
        · rfl
    | _ => exact hq.elim
  · have s0 : w0.drew.heap.size = w0.heap.size := rfl
    have s1 : (w0.alloc (.map #[] 0)).drew.heap.size = w0.heap.size + 1 := World.size_alloc _ _
    have s2 : ((w0.alloc (.map #[] 0)).alloc (.map #[] 0)).drew.heap.size = w0.heap.size + 1 + 1 := by show ((w0.alloc (.map #[] 0)).alloc (.map #[] 0)).heap.size = _; rw [World.size_alloc, World.size_alloc]
    have b0 : Below w0.heap.size w0 w0.drew := (Below.refl _ w0).drew
    have b1 : Below w0.heap.size w0 (w0.alloc (.map #[] 0)).drew := ((Below.refl _ w0).alloc (Nat.le_refl _) _).drew
    have b2 : Below w0.heap.size w0 ((w0.alloc (.map #[] 0)).alloc (.map #[] 0)).drew := (((Below.refl _ w0).alloc (Nat.le_refl _) _).alloc (by rw [World.size_alloc]; omega) _).drew
    have m1 : (w0.alloc (.map #[] 0)).drew.heap[w0.heap.size]? = some (.map #[] 0) := heap_last _ _
    have m2 : ((w0.alloc (.map #[] 0)).alloc (.map #[] 0)).drew.heap[w0.heap.size]? = some (.map #[] 0) := alloc_keep (heap_last _ _) _
    have m3 : ((w0.alloc (.map #[] 0)).alloc (.map #[] 0)).drew.heap[w0.heap.size + 1]? = some (.map #[] 0) := by have h := heap_last (w0.alloc (.map #[] 0)) (.map #[] 0); rw [World.size_alloc] at h; exact h
    go_region_with (go_at_call 15; go_must (refine (functions_any _).mono ?_; rintro e w1 ⟨kb, rfl, B1⟩; have hs1 := B1.size; have y0 : w1.cell? ⟨w.heap.size, 0, none⟩ = some (.pointer (some ⟨tb, 0, none⟩)) := (B1.cell (p := ⟨w.heap.size, 0, none⟩) (by first | exact hl | exact hlp | exact hlq)).trans (by first | exact z0 | exact p0 | exact q0); have y1 : w1.cell? ⟨w.heap.size, 1, none⟩ = some (.map (some ab)) := (B1.cell (p := ⟨w.heap.size, 1, none⟩) (by first | exact hl | exact hlp | exact hlq)).trans (by first | exact z1 | exact p1 | exact q1); have y2 : w1.cell? ⟨w.heap.size, 2, none⟩ = some (gv) := (B1.cell (p := ⟨w.heap.size, 2, none⟩) (by first | exact hl | exact hlp | exact hlq)).trans (by first | exact z2 | exact p2 | exact q2); have hl1 : w.heap.size < w1.heap.size := Nat.lt_of_lt_of_le (by first | exact hl | exact hlp | exact hlq) hs1; have hz1 : _ ≤ w1.heap.size := B1.size; (first | (have hz : w0.heap.size + 2 ≤ w1.heap.size := by omega) | (have hz : w0.heap.size + 1 ≤ w1.heap.size := by omega) | (have hz : w0.heap.size ≤ w1.heap.size := by omega)); have HD : Hid (Below w0.heap.size w0 w1) := (by first | exact Lib.hid (b0.trans (B1.mono (by omega))) | exact Lib.hid (b1.trans (B1.mono (by omega))) | exact Lib.hid (b2.trans (B1.mono (by omega)))); try (have hm0 : w1.heap[w0.heap.size]? = some (.map #[] 0) := (B1.block w0.heap.size (by omega)).trans (by first | exact m1 | exact m2)); try (have hm1 : w1.heap[w0.heap.size + 1]? = some (.map #[] 0) := (B1.block (w0.heap.size + 1) (by omega)).trans m3); clear hz1 B1))
    all_goals refine ⟨_, _, _, _, _, _, _, rfl, ?_⟩
    all_goals refine trel_mk (w0 := w0) HT.out HA.out HX.out HC.out HB.out kb ?_ ?_ ?_ ?_ ?_ ?_
    all_goals first
      | exact HD.out
      | exact HD.out.alloc HD.out.size _
      | exact (HD.out.alloc HD.out.size _).alloc (HD.out.alloc HD.out.size _).size _
      | exact hm0
      | exact hm1
      | exact alloc_keep hm0 _
      | exact heap_last _ _
      | exact alloc_keep (heap_last _ _) _
      | (have h := heap_last (w1.alloc (.map #[] 0)) (.map #[] 0); rw [World.size_alloc] at h; exact h)
      | rfl
      | omega
      | (rw [World.size_alloc, World.size_alloc]; done)
      | (rw [World.size_alloc]; done)
end Go.Proofs.YtebagfadcjgllaaGreatDoor.Xw
