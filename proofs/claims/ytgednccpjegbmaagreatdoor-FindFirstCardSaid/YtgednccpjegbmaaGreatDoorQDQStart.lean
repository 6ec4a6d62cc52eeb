/-
  A reading in memory; check, words, file.
  (*Data).Env, start: a reading that begins.
  start: a reading that begins.
-/
import Derived.Test.YtgednccpjegbmaaGreatDoorQDZWords
import Derived.Test.YtgednccpjegbmaaGreatDoorQJPGet
import Derived.Test.YtgednccpjegbmaaGreatDoorQJoin
import Derived.Test.YtgednccpjegbmaaGreatDoorQTPut
namespace Go.Proofs.YtgednccpjegbmaaGreatDoor.Dq
open Go.RowKit Go.Proofs.YtgednccpjegbmaaGreatDoor Go.Maps Go.Proofs.YtgednccpjegbmaaGreatDoor.Ww Go.Proofs.YtgednccpjegbmaaGreatDoor.Tw Go.Proofs.YtgednccpjegbmaaGreatDoor.Kw Go.Proofs.YtgednccpjegbmaaGreatDoor.Jw Go.Proofs.YtgednccpjegbmaaGreatDoor.Xb Go.Proofs.YtgednccpjegbmaaGreatDoor.Xw Go.Proofs.YtgednccpjegbmaaGreatDoor.Dz
set_option maxRecDepth 100000

abbrev DT : TypeId := 78
abbrev RT : TypeId := 88
abbrev ST : TypeId := 9
abbrev FiT : TypeId := 40
/-- Where each path's target is. -/
def inV (n : Int) : Value := .int .i64 n
def inD (n : Int) : DataW Unit := .lit (.int .i64 n)
def inElem : Value → Option (DataW Unit × List MemPlace)
  | .int .i64 n => some (inD n, [])
  | _ => none
theorem inElem_inv (v : Value) (z : DataW Unit × List MemPlace) (h : inElem v = some z) : ∃ n, v = inV n ∧ z = (inD n, []) := by
  unfold inElem at h
  split at h
  · cases h; exact ⟨_, rfl, rfl⟩
  · cases h
def IK : Kind Int := ⟨85, 3, inV, inD, inElem, 0, fun _ => rfl, inElem_inv, fun a b h => by unfold inD at h; simpa using h, Tryz.underlying85, fun w => by kernel_rfl⟩
/-- The cells of a reading, and of what it reads. -/
def rC (db tb : Nat) (au gv : Value) (ib kb : Nat) : Array Value := #[.pointer (some ⟨db, 0, none⟩), .pointer (some ⟨tb, 0, none⟩), au, gv, .map (some ib), .map (some kb)]
def dC (dir : ByteArray) (tb : Nat) (tv pv cv gl : Value) : Array Value := #[.string dir, .pointer (some ⟨tb, 0, none⟩), tv, pv, cv, gl]
theorem set_ne {w : World} {b g i : Nat} {o : Obj} (h : w.heap[b]? = some o) (hn : b ≠ g) (v : Value) : (w.setCell ⟨g, i, none⟩ v).heap[b]? = some o := (Below.heap_setCell _ _ _ _ hn).trans h
theorem check_ok (w : World) : Calls Tryz.prog 127 #[.int .i64 0] w fun e w' => e = .returned (.tuple #[]) ∧ w' = w := by
  go_enter Tryz.func127, Tryz.ntmps127
  go_wp2_with fail
  go_end0
  exact ⟨rfl, rfl⟩
section
variable {rb db tb ib kb : Nat} {au gv : Value} {w : World}
set_option maxHeartbeats 2000000 in
theorem words_q (hr : w.heap[rb]? = some (.cells (rC db tb au gv ib kb) RT (0, 0))) (s : Bs) (Y : List Nat) (P : ByteArray → World → Prop) (HE : BegC w (.pointer (some ⟨tb, 0, none⟩)) au gv s Y P) (hY : ∀ i ∈ Y, i < w.heap.size) (hz : ∀ r W, P r W → r.size ≤ 100000000) :
    Calls Tryz.prog 84 #[.pointer (some ⟨rb, 0, none⟩), .string (str s)] w fun e w' => ∃ r W v, e = .returned v ∧ Kept Y w w' ∧ P r W ∧ Kept [w.heap.size + 2] W w' ∧ w'.ownsRow w.heap.size ST 1 v (wordsS r).length (strsC (wordsS r)) := by
  have HT := Lib.hid (Words_z w (.pointer (some ⟨tb, 0, none⟩)) au gv s Y P HE hY hz)
  have c1 : w.cell? ⟨rb, 1, none⟩ = some (.pointer (some ⟨tb, 0, none⟩)) := cell_at hr rfl
  have c2 : w.cell? ⟨rb, 2, none⟩ = some au := cell_at hr rfl
  have c3 : w.cell? ⟨rb, 3, none⟩ = some gv := cell_at hr rfl
  have hlt := (Array.getElem?_eq_some_iff.1 hr).1
  clear HE hY hz
  go_enter Tryz.func84, Tryz.ntmps84
  go_wp2_with fail
  refine HT.out.mono ?_
  rintro e w1 ⟨r, W, v, rfl, hk1, hP, hk2, ho⟩
  have H1 := Lib.hid (And.intro hk1 (And.intro hP (And.intro hk2 ho)))
  clear hk1 hk2 hP HT ho
  go_wp2_with fail
  refine (check_ok w1).mono ?_
  rintro e w2 ⟨rfl, rfl⟩
  go_wp2_with fail
  go_ret
  obtain ⟨hk1, hP, hk2, ho⟩ := H1.out
  exact ⟨r, W, v, rfl, hk1, hP, hk2, ho⟩
theorem words_plain (hr : w.heap[rb]? = some (.cells (rC db tb au gv ib kb) RT (0, 0))) (s : Bs) (h0 : (36 : UInt8) ∉ s) (hs : s.length ≤ 1000) :
    Calls Tryz.prog 84 #[.pointer (some ⟨rb, 0, none⟩), .string (str s)] w fun e w' => ∃ v, e = .returned v ∧ Below w.heap.size w w' ∧ w'.ownsRow w.heap.size ST 1 v (wordsS (str s)).length (strsC (wordsS (str s))) := by
  refine (words_q hr s [] (fun r _ => r = str s) (beg_plain w _ _ _ s h0 hs) (by simp) (fun r _ h => by rw [h]; show s.toArray.size ≤ _; rw [List.size_toArray]; omega)).mono ?_
  rintro e w' ⟨r, W, v, rfl, hk, rfl, _, ho⟩
  exact ⟨v, rfl, hk.to_below (Nat.le_refl _) (by simp), ho⟩
theorem join2_yes (w : World) (b : Nat) (hb : b = w.heap.size) (dir x : ByteArray) (p : List UInt8) (hs : dir.size ≤ 1000000 ∧ x.size ≤ 1000000) (h : Hid (Pt.join [bs dir, bs x] = some p)) :
    Calls Tryz.prog 19 #[.slice (some ⟨b, 0, none⟩) 2 2] (w.alloc (.cells #[.string dir, .string x] ST)) fun e w' => e = .returned (.tuple #[.string (str p), .int .i64 0]) ∧ Below w.heap.size w w' := by
  subst hb
  have hl : w.heap.size < (w.alloc (.cells #[.string dir, .string x] ST)).heap.size := by simp
  have hc : ∀ j, j < [dir, x].length → (w.alloc (.cells #[.string dir, .string x] ST)).cell? ⟨w.heap.size, 0 + j, none⟩ = some (.string ([dir, x][j]?.getD ByteArray.empty)) := fun j hj => by
    rw [World.cell?_alloc_at _ _ _ _ (by simp)]
    match j, hj with
    | 0, _ => rfl
    | 1, _ => rfl
  have hv : Strs (w.alloc (.cells #[.string dir, .string x] ST)) (.slice (some ⟨w.heap.size, 0, none⟩) 2 2) [dir, x] := Or.inr ⟨w.heap.size, 0, 2, rfl, hl, hc⟩
  have ht : tot [dir, x] ≤ 140737488355327 := by show (dir.size + 1 + (x.size + 1 + 0) : Nat) ≤ _; omega
  refine (Join_yes _ _ [dir, x] p hv (by show (2 : Nat) ≤ 1000000; decide) ht h).mono ?_
  rintro e w' ⟨rfl, B⟩
  exact ⟨rfl, ((Below.refl _ w).alloc (Nat.le_refl _) _).trans (B.mono (by simp))⟩
end
end Go.Proofs.YtgednccpjegbmaaGreatDoor.Dq
namespace Go.Proofs.YtgednccpjegbmaaGreatDoor.Dq
open Go.RowKit Go.Proofs.YtgednccpjegbmaaGreatDoor Go.Maps Go.Proofs.YtgednccpjegbmaaGreatDoor.Ww Go.Proofs.YtgednccpjegbmaaGreatDoor.Tw Go.Proofs.YtgednccpjegbmaaGreatDoor.Kw Go.Proofs.YtgednccpjegbmaaGreatDoor.Jw Go.Proofs.YtgednccpjegbmaaGreatDoor.Xb Go.Proofs.YtgednccpjegbmaaGreatDoor.Xw Go.Proofs.YtgednccpjegbmaaGreatDoor.Dz
set_option maxRecDepth 100000

theorem cloneA_nil (w : World) : Calls Tryz.prog 56 #[.map none] w fun e w' => e = .returned (.map none) ∧ w' = w := by
  have hq : ∀ w : World, (binOp .eql 81 (.map none) (.map none)).run Tryz.prog w = .ok (.bool true) w := fun w => by kernel_rfl
  go_enter Tryz.func56, Tryz.ntmps56
  go_wp2_with fail
  go_ret
  exact ⟨rfl, rfl⟩
abbrev StP : TypeId := 26
/-- The closure that finds: a store's box, a directory's. -/
def gV (sx dx : Nat) : Value := .func (.func 54) #[] #[.pointer (some ⟨sx, 0, none⟩), .pointer (some ⟨dx, 0, none⟩)]
def EnvPost (w : World) (tb : Nat) (sv : Value) (dir : ByteArray) (e : Ending) (w' : World) : Prop :=
  ∃ sx dx, e = .returned (.agg #[.pointer (some ⟨tb, 0, none⟩), .map none, gV sx dx]) ∧ w'.heap[sx]? = some (.cells #[sv] StP (0, 0)) ∧ w'.heap[dx]? = some (.cells #[.string dir] ST (0, 0)) ∧ w.heap.size ≤ sx ∧ w.heap.size ≤ dx ∧ Below w.heap.size w w'
set_option maxHeartbeats 2000000 in
theorem env_any {w : World} {db tb : Nat} {dir : ByteArray} {tv pv cv gl : Value} (hd : w.heap[db]? = some (.cells (dC dir tb tv pv cv gl) DT (0, 0))) (sp : Option Addr) :
    Calls Tryz.prog 28 #[.pointer (some ⟨db, 0, none⟩), .pointer sp, .map none] w (EnvPost w tb (.pointer sp) dir) := by
  have d0 : w.cell? ⟨db, 0, none⟩ = some (.string dir) := cell_at hd rfl
  have d1 : w.cell? ⟨db, 1, none⟩ = some (.pointer (some ⟨tb, 0, none⟩)) := cell_at hd rfl
  have hlt := (Array.getElem?_eq_some_iff.1 hd).1
  have hmf : ∀ (fn : Fn) (first cap : Array Value) (w : World), (Instr.makeFunc fn first cap).run Tryz.prog w = .ok (.func fn first cap) w := fun _ _ _ _ => rfl
  clear hd
  go_enter Tryz.func28, Tryz.ntmps28
  go_wp2_with fail
  have B0 : Below w.heap.size w (((w.alloc (.cells #[.pointer sp] StP)).alloc (.cells #[.pointer none, .map none, .nilFunc] EnvT)).alloc (.cells #[.string dir] ST)) := (((Below.refl _ w).alloc (Nat.le_refl _) _).alloc (by simp) _).alloc (by simp; omega) _
  have e0 : (((w.alloc (.cells #[.pointer sp] StP)).alloc (.cells #[.pointer none, .map none, .nilFunc] EnvT)).alloc (.cells #[.string dir] ST)).heap[w.heap.size]? = some (.cells #[.pointer sp] StP (0, 0)) := alloc_keep (alloc_keep (heap_last _ _) _) _
  have e1 : (((w.alloc (.cells #[.pointer sp] StP)).alloc (.cells #[.pointer none, .map none, .nilFunc] EnvT)).alloc (.cells #[.string dir] ST)).heap[w.heap.size + 1]? = some (.cells #[.pointer none, .map none, .nilFunc] EnvT (0, 0)) := alloc_keep (by have := heap_last (w.alloc (.cells #[.pointer sp] StP)) (.cells #[.pointer none, .map none, .nilFunc] EnvT); rwa [World.size_alloc] at this) _
  have e2 : (((w.alloc (.cells #[.pointer sp] StP)).alloc (.cells #[.pointer none, .map none, .nilFunc] EnvT)).alloc (.cells #[.string dir] ST)).heap[w.heap.size + 1 + 1]? = some (.cells #[.string dir] ST (0, 0)) := by have := heap_last ((w.alloc (.cells #[.pointer sp] StP)).alloc (.cells #[.pointer none, .map none, .nilFunc] EnvT)) (.cells #[.string dir] ST); rwa [World.size_alloc, World.size_alloc] at this
  have d2 := (B0.cell (p := ⟨db, 1, none⟩) hlt).trans d1
  clear d0 d1
  generalize (((w.alloc (.cells #[.pointer sp] StP)).alloc (.cells #[.pointer none, .map none, .nilFunc] EnvT)).alloc (.cells #[.string dir] ST)) = w0 at *
  have c0 := cell_at (i := 0) e1 rfl
  have c1 := cell_at (i := 1) e1 rfl
  have c2 := cell_at (i := 2) e1 rfl
  have f0 := frozen_at e1 0
  have f1 := frozen_at e1 1
  have f2 := frozen_at e1 2
  have hl0 := (Array.getElem?_eq_some_iff.1 e1).1
  have hlt0 : db < w0.heap.size := Nat.lt_of_lt_of_le hlt B0.size
  have E0 := Lib.hid e0
  have E1 := Lib.hid e1
  have E2 := Lib.hid e2
  have HB := Lib.hid B0
  clear e0 e1 e2 B0 hlt
  go_region_with (go_at_call 56; refine (cloneA_nil _).mono ?_; rintro e w1 ⟨rfl, rfl⟩)
  all_goals (
    have h1 := heap_set (i := 0) E1.out (.pointer (some ⟨tb, 0, none⟩))
    have h2 := heap_set (i := 1) h1 (.map none)
    have h3 := heap_set (i := 2) h2 (gV w.heap.size (w.heap.size + 1 + 1))
    have hn0 : w.heap.size ≠ w.heap.size + 1 := by omega
    have hn2 : w.heap.size + 1 + 1 ≠ w.heap.size + 1 := by omega
    have s0 := set_ne (i := 2) (set_ne (i := 1) (set_ne (i := 0) E0.out hn0 (.pointer (some ⟨tb, 0, none⟩))) hn0 (.map none)) hn0 (gV w.heap.size (w.heap.size + 1 + 1))
    have s2 := set_ne (i := 2) (set_ne (i := 1) (set_ne (i := 0) E2.out hn2 (.pointer (some ⟨tb, 0, none⟩))) hn2 (.map none)) hn2 (gV w.heap.size (w.heap.size + 1 + 1))
    have hB3 := (((HB.out.setCell (p := ⟨w.heap.size + 1, 0, none⟩) (by simp) (.pointer (some ⟨tb, 0, none⟩))).setCell (p := ⟨w.heap.size + 1, 1, none⟩) (by simp) (.map none)).setCell (p := ⟨w.heap.size + 1, 2, none⟩) (by simp) (gV w.heap.size (w.heap.size + 1 + 1))).drew
    have H3 := Lib.hid h3
    have S0 := Lib.hid s0
    have S2 := Lib.hid s2
    have HB3 := Lib.hid hB3
    clear h1 h2 h3 s0 s2 hB3 c0 c1 c2 f0 f1 f2
    have hu : Tryz.prog.underlying EnvT = some (.struct (Tryz.prog.fieldsOf EnvT)) := by kernel_rfl
    have hz : (Tryz.prog.info? EnvT).map (·.size) = some 3 := by kernel_rfl
    go_wp2_with fail
    (try simp only [Exit.inBlock, Exit.then])
    refine bodyPost_ret (results_box Tryz.results28 _ _ (w.heap.size + 1) EnvT _ (0, 0) _ rfl H3.out hu rfl hz) rfl ?_
    exact ⟨w.heap.size, w.heap.size + 1 + 1, rfl, S0.out, S2.out, Nat.le_refl _, by omega, HB3.out⟩)
end Go.Proofs.YtgednccpjegbmaaGreatDoor.Dq
namespace Go.Proofs.YtgednccpjegbmaaGreatDoor.Dq
open Go.RowKit Go.Proofs.YtgednccpjegbmaaGreatDoor Go.Maps Go.Proofs.YtgednccpjegbmaaGreatDoor.Ww Go.Proofs.YtgednccpjegbmaaGreatDoor.Tw Go.Proofs.YtgednccpjegbmaaGreatDoor.Kw Go.Proofs.YtgednccpjegbmaaGreatDoor.Jw Go.Proofs.YtgednccpjegbmaaGreatDoor.Xb Go.Proofs.YtgednccpjegbmaaGreatDoor.Xw Go.Proofs.YtgednccpjegbmaaGreatDoor.Dz
set_option maxRecDepth 100000

abbrev RpT : TypeId := 72
abbrev FuT : TypeId := 82
/-- The closure that tells what is looked for. -/
def qV (rx fx : Nat) : Value := .func (.func 43) #[] #[.pointer (some ⟨rx, 0, none⟩), .pointer (some ⟨fx, 0, none⟩)]
/-- A reading that has begun. -/
structure Beg (w W : World) (rb db tb sx dx rx fx ib kb : Nat) (sv : Value) (dir : ByteArray) : Prop where
  r : W.heap[rb]? = some (.cells (rC db tb (.map none) (qV rx fx) ib kb) RT (0, 0))
  d : W.heap[db]? = some (.cells (dC dir tb (.slice none 0 0) (.slice none 0 0) (.slice none 0 0) (.slice none 0 0)) DT (0, 0))
  crx : W.heap[rx]? = some (.cells #[.pointer (some ⟨rb, 0, none⟩)] RpT (0, 0))
  cfx : W.heap[fx]? = some (.cells #[gV sx dx] FuT (0, 0))
  csx : W.heap[sx]? = some (.cells #[sv] StP (0, 0))
  cdx : W.heap[dx]? = some (.cells #[.string dir] ST (0, 0))
  i : Kw.MapAt IK W ib []
  k : Kw.MapAt UK W kb []
  new : w.heap.size ≤ rb ∧ w.heap.size ≤ sx ∧ w.heap.size ≤ dx ∧ w.heap.size ≤ rx ∧ w.heap.size ≤ fx ∧ w.heap.size ≤ ib ∧ w.heap.size ≤ kb
  ne : ib ≠ kb
  b : Below w.heap.size w W
theorem beg_mk {w w1 : World} {db tb sx dx : Nat} {dir : ByteArray} {sp : Option Addr} (hD : w1.heap[db]? = some (.cells (dC dir tb (.slice none 0 0) (.slice none 0 0) (.slice none 0 0) (.slice none 0 0)) DT (0, 0)))
    (h1 : w1.heap[sx]? = some (.cells #[.pointer sp] StP (0, 0))) (h2 : w1.heap[dx]? = some (.cells #[.string dir] ST (0, 0))) (h3 : w.heap.size ≤ sx) (h4 : w.heap.size ≤ dx) (B1 : Below w.heap.size w w1) :
    Beg w (((((w1.alloc (.map #[] 0)).alloc (.map #[] 0)).alloc (.cells (rC db tb (.map none) (qV (w1.heap.size + 1 + 1 + 1) (w1.heap.size + 1 + 1 + 1 + 1)) w1.heap.size (w1.heap.size + 1)) RT)).alloc (.cells #[.pointer (some ⟨w1.heap.size + 1 + 1, 0, none⟩)] RpT)).alloc (.cells #[gV sx dx] FuT))
      (w1.heap.size + 1 + 1) db tb sx dx (w1.heap.size + 1 + 1 + 1) (w1.heap.size + 1 + 1 + 1 + 1) w1.heap.size (w1.heap.size + 1) (.pointer sp) dir := by
  have hs := B1.size
  have m1 := Kw.MapAt.new (K := IK) w1
  have m2 := Kw.MapAt.new (K := UK) (w1.alloc (.map #[] 0))
  have r1 := heap_last ((w1.alloc (.map #[] 0)).alloc (.map #[] 0)) (.cells (rC db tb (.map none) (qV (w1.heap.size + 1 + 1 + 1) (w1.heap.size + 1 + 1 + 1 + 1)) w1.heap.size (w1.heap.size + 1)) RT)
  have r2 := heap_last (((w1.alloc (.map #[] 0)).alloc (.map #[] 0)).alloc (.cells (rC db tb (.map none) (qV (w1.heap.size + 1 + 1 + 1) (w1.heap.size + 1 + 1 + 1 + 1)) w1.heap.size (w1.heap.size + 1)) RT)) (.cells #[.pointer (some ⟨w1.heap.size + 1 + 1, 0, none⟩)] RpT)
  have r3 := heap_last ((((w1.alloc (.map #[] 0)).alloc (.map #[] 0)).alloc (.cells (rC db tb (.map none) (qV (w1.heap.size + 1 + 1 + 1) (w1.heap.size + 1 + 1 + 1 + 1)) w1.heap.size (w1.heap.size + 1)) RT)).alloc (.cells #[.pointer (some ⟨w1.heap.size + 1 + 1, 0, none⟩)] RpT)) (.cells #[gV sx dx] FuT)
  simp only [World.size_alloc] at m2 r1 r2 r3
  refine ⟨alloc_keep (alloc_keep r1 _) _, alloc_keep (alloc_keep (alloc_keep (alloc_keep (alloc_keep hD _) _) _) _) _, alloc_keep r2 _, r3, alloc_keep (alloc_keep (alloc_keep (alloc_keep (alloc_keep h1 _) _) _) _) _, alloc_keep (alloc_keep (alloc_keep (alloc_keep (alloc_keep h2 _) _) _) _) _, (((m1.alloc _).alloc _).alloc _).alloc _, ((m2.alloc _).alloc _).alloc _, ⟨by omega, h3, h4, by omega, by omega, by omega, by omega⟩, by omega, ?_⟩
  exact ((((B1.alloc B1.size _).alloc (by simp; omega) _).alloc (by simp; omega) _).alloc (by simp; omega) _).alloc (by simp; omega) _
set_option maxHeartbeats 4000000 in
theorem start_any {w : World} {db tb : Nat} {dir : ByteArray} (hd : w.heap[db]? = some (.cells (dC dir tb (.slice none 0 0) (.slice none 0 0) (.slice none 0 0) (.slice none 0 0)) DT (0, 0))) (sp : Option Addr) :
    Calls Tryz.prog 22 #[.pointer sp, .pointer (some ⟨db, 0, none⟩)] w fun e w' => ∃ rb sx dx rx fx ib kb, e = .returned (.pointer (some ⟨rb, 0, none⟩)) ∧ Beg w w' rb db tb sx dx rx fx ib kb (.pointer sp) dir := by
  have hmf : ∀ (fn : Fn) (first cap : Array Value) (w : World), (Instr.makeFunc fn first cap).run Tryz.prog w = .ok (.func fn first cap) w := fun _ _ _ _ => rfl
  have hmm := @run_makeMap Tryz.prog
  go_enter Tryz.func22, Tryz.ntmps22
  go_wp2_with fail
  refine (env_any hd sp).mono ?_
  rintro e w1 ⟨sx, dx, rfl, h1, h2, h3, h4, B1⟩
  have HD := Lib.hid ((B1.block _ (Array.getElem?_eq_some_iff.1 hd).1).trans hd)
  have H1 := Lib.hid h1
  have H2 := Lib.hid h2
  have HB1 := Lib.hid B1
  have H34 := Lib.hid (And.intro h3 h4)
  clear hd h1 h2 B1 h3 h4
  unfold gV
  go_wp2_with fail
  go_ret
  refine ⟨w1.heap.size + 1 + 1, sx, dx, w1.heap.size + 1 + 1 + 1, w1.heap.size + 1 + 1 + 1 + 1, w1.heap.size, w1.heap.size + 1, rfl, ?_⟩
  exact beg_mk HD.out H1.out H2.out H34.out.1 H34.out.2 HB1.out
end Go.Proofs.YtgednccpjegbmaaGreatDoor.Dq
