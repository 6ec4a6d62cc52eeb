/-
  A run of the shell in the heap; its small functions: status, truth, skips, path, directory.
-/
import Derived.WalkLawsBesides
import Derived.Test.YteommneijlelkaaGreatDoorQSCells
import Derived.Test.YteommneijlelkaaGreatDoorQSEqual
import Derived.Test.YteommneijlelkaaGreatDoorQSAdd
import Derived.Test.YteommneijlelkaaGreatDoorQPLine
import Derived.Test.YteommneijlelkaaGreatDoorQHRun
namespace Go.Proofs.YteommneijlelkaaGreatDoor.Hx
open Go.RowKit Go.Proofs.YteommneijlelkaaGreatDoor Go.Maps Go.Proofs.YteommneijlelkaaGreatDoor.Sw
set_option maxRecDepth 100000

abbrev Bs := List UInt8
abbrev RT : TypeId := 88
theorem lstr (l : Bs) : Lx.str l = str l := rfl

/-- A run in block rb, of the store in sb (its map: bm). -/
structure RunAt (w : World) (rb sb bm : Nat) (k : Hp.K) (st ran : Int) (pv bv : Value) : Prop where
  box : w.heap[rb]? = some (.cells #[.pointer (some ⟨sb, 0, none⟩), .int .i64 st, .string ⟨#[]⟩, .int .i64 ran, .string (str k.d), .int .i64 0, pv, bv, .string (str k.inp), .string (str k.outp)] RT (0, 0))
  store : StoreAt w sb bm k.s.L k.s.c
  n1 : rb ≠ sb
  n2 : rb ≠ bm
section
variable {w w' : World} {rb sb bm : Nat} {k : Hp.K} {st ran : Int} {pv bv : Value}
theorem RunAt.lt (h : RunAt w rb sb bm k st ran pv bv) : rb < w.heap.size := (Array.getElem?_eq_some_iff.1 h.box).1
theorem RunAt.cells (h : RunAt w rb sb bm k st ran pv bv) :
    w.cell? ⟨rb, 0, none⟩ = some (.pointer (some ⟨sb, 0, none⟩)) ∧ w.cell? ⟨rb, 1, none⟩ = some (.int .i64 st) ∧ w.cell? ⟨rb, 3, none⟩ = some (.int .i64 ran) ∧ w.cell? ⟨rb, 4, none⟩ = some (.string (str k.d)) ∧
    w.cell? ⟨rb, 8, none⟩ = some (.string (str k.inp)) ∧ w.cell? ⟨rb, 9, none⟩ = some (.string (str k.outp)) :=
  ⟨cell_at h.box rfl, cell_at h.box rfl, cell_at h.box rfl, cell_at h.box rfl, cell_at h.box rfl, cell_at h.box rfl⟩
theorem RunAt.frozen (h : RunAt w rb sb bm k st ran pv bv) (i : Nat) : w.frozen? ⟨rb, i, none⟩ = false := frozen_at h.box i
theorem RunAt.below (h : RunAt w rb sb bm k st ran pv bv) (hB : Below w.heap.size w w') : RunAt w' rb sb bm k st ran pv bv :=
  ⟨(hB.block _ h.lt).trans h.box, h.store.below hB, h.n1, h.n2⟩
theorem RunAt.kept {X : List Nat} (h : RunAt w rb sb bm k st ran pv bv) (hK : Kept X w w') (h1 : rb ∉ X) (h2 : sb ∉ X) (h3 : bm ∉ X) : RunAt w' rb sb bm k st ran pv bv :=
  ⟨(hK.block _ h.lt h1).trans h.box, h.store.kept hK h2 h3, h.n1, h.n2⟩
theorem RunAt.alloc (h : RunAt w rb sb bm k st ran pv bv) (o : Obj) : RunAt (w.alloc o) rb sb bm k st ran pv bv := h.below ((Below.refl _ _).alloc (Nat.le_refl _) o)
/-- A new store behind a call. -/
theorem RunAt.stored (h : RunAt w rb sb bm k st ran pv bv) {s : St} (hS : StoreAt w' sb bm s.L s.c) (hK : Kept [sb, bm] w w') : RunAt w' rb sb bm ⟨s, k.d, k.code, k.inp, k.outp⟩ st ran pv bv :=
  ⟨(hK.block _ h.lt (by simp [h.n1, h.n2])).trans h.box, hS, h.n1, h.n2⟩
theorem store_set {L : List F} {c : Int} (h : StoreAt w sb bm L c) {p : Addr} (h1 : p.block ≠ sb) (h2 : p.block ≠ bm) (u : Value) : StoreAt (w.setCell p u) sb bm L c :=
  ⟨(Below.heap_setCell _ _ _ _ (fun e => h1 e.symm)).trans h.cells, h.map.setCell (fun e => h2 e.symm) u⟩
theorem RunAt.set8 (h : RunAt w rb sb bm k st ran pv bv) (x : Bs) : RunAt (w.setCell ⟨rb, 8, none⟩ (.string (str x))) rb sb bm ⟨k.s, k.d, k.code, x, k.outp⟩ st ran pv bv :=
  ⟨heap_set3 h.box _, store_set h.store h.n1 h.n2 _, h.n1, h.n2⟩
theorem RunAt.set9 (h : RunAt w rb sb bm k st ran pv bv) (x : Bs) : RunAt (w.setCell ⟨rb, 9, none⟩ (.string (str x))) rb sb bm ⟨k.s, k.d, k.code, k.inp, x⟩ st ran pv bv :=
  ⟨heap_set3 h.box _, store_set h.store h.n1 h.n2 _, h.n1, h.n2⟩
theorem RunAt.set4 (h : RunAt w rb sb bm k st ran pv bv) (x : Bs) : RunAt (w.setCell ⟨rb, 4, none⟩ (.string (str x))) rb sb bm ⟨k.s, x, k.code, k.inp, k.outp⟩ st ran pv bv :=
  ⟨heap_set3 h.box _, store_set h.store h.n1 h.n2 _, h.n1, h.n2⟩
theorem RunAt.set1 (h : RunAt w rb sb bm k st ran pv bv) (x : Int) : RunAt (w.setCell ⟨rb, 1, none⟩ (.int .i64 x)) rb sb bm k x ran pv bv :=
  ⟨heap_set3 h.box _, store_set h.store h.n1 h.n2 _, h.n1, h.n2⟩
theorem RunAt.set3 (h : RunAt w rb sb bm k st ran pv bv) (x : Int) : RunAt (w.setCell ⟨rb, 3, none⟩ (.int .i64 x)) rb sb bm k st x pv bv :=
  ⟨heap_set3 h.box _, store_set h.store h.n1 h.n2 _, h.n1, h.n2⟩
theorem kept_set {X : List Nat} (hK : Kept X w w') {b i : Nat} (hb : b ∈ X) (u : Value) : Kept X w (w'.setCell ⟨b, i, none⟩ u) := hK.setCell (.inl hb) u
end

/-- What ends a run, as a panic's value. -/
def endE (c : Int) : Ending := .panicked [{ v := .iface 121 (.int .i64 c), recovered := false }]

theorem status_zero (w : World) : Calls Tryz.prog 126 #[.int .i64 0] w fun e w' => e = .returned (.int .i64 0) ∧ w = w' := by
  go_enter Tryz.func126, Tryz.ntmps126
  go_wp2
  go_ret
  exact ⟨rfl, rfl⟩
theorem status_one (w : World) (c : Int) (h0 : c ≠ 0) (h5 : c ≠ 5) (h12 : c ≠ 12) : Calls Tryz.prog 126 #[.int .i64 c] w fun e w' => e = .returned (.int .i64 1) ∧ w = w' := by
  have q0 : (c == 0) = false := beq_eq_false_iff_ne.2 h0
  have q5 : (c == 5) = false := beq_eq_false_iff_ne.2 h5
  have q12 : (c == 12) = false := beq_eq_false_iff_ne.2 h12
  go_enter Tryz.func126, Tryz.ntmps126
  go_wp2
  go_ret
  exact ⟨rfl, rfl⟩
theorem status_end (w : World) (c : Int) (h : c = 5 ∨ c = 12) : Calls Tryz.prog 126 #[.int .i64 c] w fun e w' => e = endE c ∧ w = w' := by
  rcases h with rfl | rfl
  · go_enter Tryz.func126, Tryz.ntmps126
    go_wp2
    exact ⟨rfl, rfl, rfl⟩
  · go_enter Tryz.func126, Tryz.ntmps126
    go_wp2
    exact ⟨rfl, rfl, rfl⟩
theorem truth_any (w : World) (b : Bool) : Calls Tryz.prog 130 #[.bool b] w fun e w' => e = .returned (.int .i64 (Hp.truth b)) ∧ w = w' := by
  cases b
  all_goals go_enter Tryz.func130, Tryz.ntmps130
  all_goals go_wp2
  all_goals go_ret
  all_goals exact ⟨rfl, rfl⟩

section
variable {rb sb bm : Nat} {k : Hp.K} {st ran : Int} {pv bv : Value}
theorem skips_any (w : World) (on : Int) (b : Bool) (hR : RunAt w rb sb bm k st ran pv bv) (hb : b = ((on == 2 && st != 0) || (on == 3 && st == 0))) :
    Calls Tryz.prog 51 #[.pointer (some ⟨rb, 0, none⟩), .int .i64 on] w fun e w' => e = .returned (.bool b) ∧ w = w' := by
  obtain ⟨c0, c1, c3, c4, c8, c9⟩ := hR.cells
  have hlt := hR.lt
  have HB := Lib.hid hb
  clear hb hR
  by_cases h2 : on = 2
  · subst h2
    by_cases h0 : st = 0
    · subst h0
      go_enter Tryz.func51, Tryz.ntmps51
      go_wp2
      go_ret
      exact ⟨by rw [HB.out]; rfl, rfl⟩
    · have q0 : (st == 0) = false := beq_eq_false_iff_ne.2 h0
      have q1 : (st != 0) = true := by simp [h0]
      have HQ : b = true := by rw [HB.out, q1]; rfl
      go_enter Tryz.func51, Tryz.ntmps51
      go_wp2
      go_ret
      exact ⟨by rw [HQ]; rfl, rfl⟩
  · have q2 : (on == 2) = false := beq_eq_false_iff_ne.2 h2
    by_cases h3 : on = 3
    · subst h3
      by_cases h0 : st = 0
      · subst h0
        go_enter Tryz.func51, Tryz.ntmps51
        go_wp2
        go_ret
        exact ⟨by rw [HB.out]; rfl, rfl⟩
      · have q0 : (st == 0) = false := beq_eq_false_iff_ne.2 h0
        have HQ : b = false := by rw [HB.out, q0]; rfl
        go_enter Tryz.func51, Tryz.ntmps51
        go_wp2
        go_ret
        exact ⟨by rw [HQ]; rfl, rfl⟩
    · have q3 : (on == 3) = false := beq_eq_false_iff_ne.2 h3
      have HQ : b = false := by rw [HB.out, q2, q3]; rfl
      go_enter Tryz.func51, Tryz.ntmps51
      go_wp2
      go_ret
      exact ⟨by rw [HQ]; rfl, rfl⟩

theorem strs_two (w : World) (x y : ByteArray) : Strs (w.alloc (.cells #[.string x, .string y] 9)) (.slice (some ⟨w.heap.size, 0, none⟩) 2 2) [x, y] :=
  .inr ⟨w.heap.size, 0, 2, rfl, by simp, fun j hj => by
    rw [World.cell?_alloc_at _ _ _ _ (by simp)]
    match j, hj with
    | 0, _ => rfl
    | 1, _ => rfl⟩
theorem path_yes (w : World) (s : ByteArray) (q : Bs) (hR : RunAt w rb sb bm k st ran pv bv) (hd : k.d.length ≤ 100000) (hs : s.size ≤ 1000000000) (h : Hid (Hp.joinP k.d (bs s) = some q)) :
    Calls Tryz.prog 137 #[.pointer (some ⟨rb, 0, none⟩), .string s] w fun e w' => e = .returned (.tuple #[.string (str q), .int .i64 0]) ∧ Below w.heap.size w w' := by
  obtain ⟨c0, c1, c3, c4, c8, c9⟩ := hR.cells
  have hlt := hR.lt
  have HJ : Hid (Pt.join ([str k.d, s].map bs) = some q) := h
  have hl : (str k.d).size ≤ 100000 := by rw [← bs_len, bs_str]; exact hd
  have hss := strs_two w (str k.d) s
  go_enter Tryz.func137, Tryz.ntmps137
  go_wp2_with (go_at_call 61; refine (Join_yes _ _ [str k.d, s] q hss (by simp) (by simp [tot]; omega) HJ).mono ?_; rintro e w' ⟨rfl, hB2⟩)
  go_ret2
  exact ⟨rfl, ((Below.refl _ w).alloc (Nat.le_refl _) _).trans (hB2.mono (by simp))⟩
theorem path_no (w : World) (s : ByteArray) (hR : RunAt w rb sb bm k st ran pv bv) (hd : k.d.length ≤ 100000) (hs : s.size ≤ 1000000000) (h : Hid (Hp.joinP k.d (bs s) = none)) :
    Calls Tryz.prog 137 #[.pointer (some ⟨rb, 0, none⟩), .string s] w fun e w' => e = .returned (.tuple #[.string (str []), .int .i64 2]) ∧ Below w.heap.size w w' := by
  obtain ⟨c0, c1, c3, c4, c8, c9⟩ := hR.cells
  have hlt := hR.lt
  have HJ : Hid (Pt.join ([str k.d, s].map bs) = none) := h
  have hl : (str k.d).size ≤ 100000 := by rw [← bs_len, bs_str]; exact hd
  have hss := strs_two w (str k.d) s
  go_enter Tryz.func137, Tryz.ntmps137
  go_wp2_with (go_at_call 61; refine (Join_no _ _ [str k.d, s] hss (by simp) (by simp [tot]; omega) HJ).mono ?_; rintro e w' ⟨rfl, hB2⟩)
  go_ret2
  exact ⟨rfl, ((Below.refl _ w).alloc (Nat.le_refl _) _).trans (hB2.mono (by simp))⟩

theorem directory_any (w : World) (p : ByteArray) (b : Bool) (hR : RunAt w rb sb bm k st ran pv bv) (hp : p.size ≤ maxLen) (h : Hid (((getR k.s.L (bs p)).map (·.d)).getD false = b)) :
    Calls Tryz.prog 24 #[.pointer (some ⟨rb, 0, none⟩), .string p] w fun e w' => e = .returned (.bool b) ∧ Below w.heap.size w w' := by
  obtain ⟨c0, c1, c3, c4, c8, c9⟩ := hR.cells
  have hlt := hR.lt
  cases hg : getR k.s.L (bs p) with
  | none =>
    have HG := Lib.hid hg
    have HB : Hid (b = false) := Lib.hid (by rw [← h.out, hg]; rfl)
    clear hg h
    go_enter Tryz.func24, Tryz.ntmps24
    go_wp2_with (go_at_call 40; refine (Get_no _ p hR.store hp HG).mono ?_; rintro e w1 ⟨rfl, B1⟩; unfold fV noF)
    go_ret
    exact ⟨by rw [HB.out]; rfl, B1.alloc B1.size _⟩
  | some f =>
    have HG := Lib.hid hg
    have HB : Hid (b = f.d) := Lib.hid (by rw [← h.out, hg]; rfl)
    obtain ⟨fp, ft, fc, fd⟩ := f
    clear hg h
    go_enter Tryz.func24, Tryz.ntmps24
    go_wp2_with (go_at_call 40; refine (Get_yes _ p hR.store hp HG).mono ?_; rintro e w1 ⟨rfl, B1⟩; unfold fV)
    go_ret
    exact ⟨by rw [HB.out]; rfl, B1.alloc B1.size _⟩
end
end Go.Proofs.YteommneijlelkaaGreatDoor.Hx
