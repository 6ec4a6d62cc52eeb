/-
  kept.grow: a text put behind another one's, in a builder.
-/
import Derived.Test.YtfbddbcedoofeaaJPSet
import Derived.Test.YtfbddbcedoofeaaJSet
namespace Go.Proofs.Ytfbddbcedoofeaa.Jw
open Go.RowKit Go.Proofs.Ytfbddbcedoofeaa Go.Proofs.Ytfbddbcedoofeaa.Ww Go.Proofs.Ytfbddbcedoofeaa.Tw Go.Proofs.Ytfbddbcedoofeaa.Kw
set_option maxRecDepth 100000

theorem sizeK : (Try.prog.info? PK).map (·.size) = some 5 := by kernel_rfl
theorem undK : Try.prog.underlying PK = some (.struct (Try.prog.fieldsOf PK)) := by kernel_rfl
def zeroK : Array Value := #[.string ⟨#[]⟩, .string ⟨#[]⟩, .bool false, .int .i64 0, .pointer none]
/-- The boxes of grow. -/
structure GB (w : World) (k v : Array Value) (W : World) : Prop where
  k : W.heap[w.heap.size]? = some (.cells k PK (0, 0))
  v : W.heap[w.heap.size + 1]? = some (.cells v PV (0, 0))
  r : W.heap[w.heap.size + 2]? = some (.cells zeroK PK (0, 0))
theorem GB.new (w : World) (k v : Array Value) : GB w k v (((w.alloc (.cells k PK)).alloc (.cells v PV)).alloc (.cells zeroK PK)) := by
  have h1 := heap_last w (.cells k PK)
  have h2 := heap_last (w.alloc (.cells k PK)) (.cells v PV)
  have h3 := heap_last ((w.alloc (.cells k PK)).alloc (.cells v PV)) (.cells zeroK PK)
  rw [World.size_alloc] at h2
  rw [World.size_alloc, World.size_alloc] at h3
  have B1 := (Below.refl (w.alloc (.cells k PK)).heap.size (w.alloc (.cells k PK))).alloc (Nat.le_refl _) (.cells v PV)
  have B2 := (Below.refl ((w.alloc (.cells k PK)).alloc (.cells v PV)).heap.size ((w.alloc (.cells k PK)).alloc (.cells v PV))).alloc (Nat.le_refl _) (.cells zeroK PK)
  exact ⟨(B2.block _ (by simp; omega)).trans ((B1.block _ (by simp)).trans h1), (B2.block _ (by simp)).trans h2, h3⟩
theorem GB.lt {w W : World} {k v : Array Value} (h : GB w k v W) : w.heap.size + 2 < W.heap.size := (Array.getElem?_eq_some_iff.1 h.r).1
theorem GB.kept {w W W' : World} {k v : Array Value} {Y : List Nat} (h : GB w k v W) (hk : Kept Y W W') (hY : ∀ i ∈ Y, i < w.heap.size ∨ w.heap.size + 2 < i) : GB w k v W' := by
  have hl := h.lt
  exact ⟨(hk.block _ (by omega) fun e => by have := hY _ e; omega).trans h.k, (hk.block _ (by omega) fun e => by have := hY _ e; omega).trans h.v, (hk.block _ (by omega) fun e => by have := hY _ e; omega).trans h.r⟩
/-- How far grow has come: the builder's text is l. -/
structure GSt (w : World) (X : List Nat) (b : Nat) (l : Bs) (k v : Array Value) (W : World) : Prop where
  box : GB w k v W
  kept : Kept X w W
  lt : ∀ i ∈ X, i < w.heap.size
  bld : ∃ O pv bv, BldAt W b O l pv bv ∧ ∀ i ∈ O, i ∈ X ∨ w.heap.size + 2 < i
theorem GSt.ofB {w W W' : World} {X : List Nat} {b : Nat} {l l' : Bs} {k v : Array Value} {O : List Nat} (h : GSt w X b l k v W) (hO : ∀ i ∈ O, i ∈ X ∨ w.heap.size + 2 < i) (hb : BPost W b O l' W') : GSt w X b l' k v W' := by
  obtain ⟨O', pv, bv, h1, h2, h3⟩ := hb
  have hl := h.box.lt
  refine ⟨h.box.kept h2 fun i hi => ?_, h.kept.trans_new h2 fun i hi => ?_, h.lt, O', pv, bv, h1, fun i hi => ?_⟩
  · rcases hO i hi with h5 | h5
    · exact .inl (h.lt i h5)
    · exact .inr h5
  · rcases hO i hi with h5 | h5
    · exact .inl h5
    · exact .inr (by omega)
  · rcases h3 i hi with h5 | h5
    · exact hO i h5
    · exact .inr (by omega)
theorem GSt.ws {w W : World} {X : List Nat} {b : Nat} {l : Bs} {k v : Array Value} (h : GSt w X b l k v W) (s : Bs) (hl : l.length + s.length ≤ 1000000000000) :
    Calls Try.prog 36 #[.pointer (some ⟨b, 0, none⟩), .string (str s)] W fun e W' => e = .returned (.tuple #[.int .i64 (str s).size, .nilIface]) ∧ GSt w X b (l ++ s) k v W' := by
  obtain ⟨O, pv, bv, hb, hO⟩ := h.bld
  refine (WriteString_any W hb (str s) (by rw [str_size]; exact hl)).mono ?_
  rintro e W' ⟨he, hp⟩
  exact ⟨he, h.ofB hO hp⟩
theorem GSt.wb {w W : World} {X : List Nat} {b : Nat} {l : Bs} {k v : Array Value} (h : GSt w X b l k v W) (hl : l.length + 1 ≤ 1000000000000) :
    Calls Try.prog 37 #[.pointer (some ⟨b, 0, none⟩), .int .u8 32] W fun e W' => e = .returned .nilIface ∧ GSt w X b (l ++ [32]) k v W' := by
  obtain ⟨O, pv, bv, hb, hO⟩ := h.bld
  refine (WriteByte_any W hb 32 hl).mono ?_
  rintro e W' ⟨he, hp⟩
  exact ⟨he, h.ofB hO hp⟩
theorem GSt.st {w W : World} {X : List Nat} {b : Nat} {l : Bs} {k v : Array Value} (h : GSt w X b l k v W) (h0 : l ≠ []) :
    Calls Try.prog 38 #[.pointer (some ⟨b, 0, none⟩)] W fun e W' => e = .returned (.string (str l)) ∧ GSt w X b l k v W' := by
  obtain ⟨O, pv, bv, hb, hO⟩ := h.bld
  refine (String_any W hb h0).mono ?_
  rintro e W' ⟨he, hp, hk⟩
  exact ⟨he, h.ofB hO ⟨O, pv, bv, hp, hk, fun i hi => .inl hi⟩⟩
theorem GSt.put_v {w W : World} {X : List Nat} {b : Nat} {l : Bs} {k v : Array Value} (h : GSt w X b l k v W) (i : Nat) (u : Value) : GSt w X b l k (v.setIfInBounds i u) (W.setCell ⟨w.heap.size + 1, i, none⟩ u) := by
  obtain ⟨O, pv, bv, hb, hO⟩ := h.bld
  refine ⟨⟨heap_ne h.box.k (by omega) u, heap_set h.box.v u, heap_ne h.box.r (by omega) u⟩, h.kept.setCell (p := ⟨w.heap.size + 1, i, none⟩) (.inr (by show w.heap.size ≤ w.heap.size + 1; omega)) u, h.lt, O, pv, bv, ?_, hO⟩
  refine hb.block fun j hj => Below.heap_setCell _ _ _ _ ?_
  intro e
  rcases hO j hj with h5 | h5
  · have := h.lt j h5; rw [e] at this; simp at this; omega
  · rw [e] at h5; simp at h5
theorem GSt.cells {w W : World} {X : List Nat} {b : Nat} {l : Bs} {k0 k1 k2 k3 k4 v0 v1 v2 v3 : Value} (h : GSt w X b l #[k0, k1, k2, k3, k4] #[v0, v1, v2, v3] W) :
    W.cell? ⟨w.heap.size, 1, none⟩ = some k1 ∧ W.cell? ⟨w.heap.size, 4, none⟩ = some k4 ∧ W.cell? ⟨w.heap.size + 1, 0, none⟩ = some v0 ∧ W.cell? ⟨w.heap.size + 1, 1, none⟩ = some v1 ∧ W.cell? ⟨w.heap.size + 1, 2, none⟩ = some v2 ∧ W.cell? ⟨w.heap.size + 1, 3, none⟩ = some v3 ∧ W.frozen? ⟨w.heap.size + 1, 1, none⟩ = false ∧ w.heap.size < W.heap.size ∧ w.heap.size + 1 < W.heap.size := by
  have hl := h.box.lt
  exact ⟨cell_at h.box.k rfl, cell_at h.box.k rfl, cell_at h.box.v rfl, cell_at h.box.v rfl, cell_at h.box.v rfl, cell_at h.box.v rfl, frozen_at h.box.v 1, by omega, by omega⟩

/-- What grow returns. -/
def GrPost (w : World) (X : List Nat) (b : Nat) (v : Jp.V) (x : Bs) (e : Ending) (w' : World) : Prop :=
  e = .returned (.agg #[.string (str v.n), .string (str (x ++ 32 :: v.x)), .bool v.s, .int .i64 v.f, .pointer (some ⟨b, 0, none⟩)]) ∧ Kept X w w' ∧ ∃ O pv bv, BldAt w' b O (x ++ 32 :: v.x) pv bv ∧ ∀ i ∈ O, i ∈ X ∨ w.heap.size ≤ i
theorem GSt.done {w W : World} {X : List Nat} {b : Nat} {v : Jp.V} {x : Bs} {k vv cs : Array Value} (h : GSt w X b (x ++ 32 :: v.x) k vv W) :
    GrPost w X b v x (.returned (.agg #[.string (str v.n), .string (str (x ++ 32 :: v.x)), .bool v.s, .int .i64 v.f, .pointer (some ⟨b, 0, none⟩)])) (W.setRow (w.heap.size + 2) cs) := by
  obtain ⟨O, pv, bv, hb, hO⟩ := h.bld
  refine ⟨rfl, ⟨h.kept.os, h.kept.tape, h.kept.output, by simpa using h.kept.size, fun i hi hx => (setRow_other _ _ _ _ (by omega)).trans (h.kept.block i hi hx)⟩, O, pv, bv, hb.block fun i hi => setRow_other _ _ _ _ ?_, fun i hi => ?_⟩
  · rcases hO i hi with h5 | h5
    · have := h.lt i h5; omega
    · omega
  · rcases hO i hi with h5 | h5
    · exact .inl h5
    · exact .inr (by omega)

set_option maxHeartbeats 4000000 in
theorem grow_some (w : World) (b : Nat) (X : List Nat) (n x : Bs) (s : Bool) (f : Int) (v : Jp.V) (pv bv : Value) (hb : BldAt w b X x pv bv) (hl : x.length + v.x.length + 2 ≤ 1000000000) :
    Calls Try.prog 30 #[.agg #[.string (str n), .string (str x), .bool s, .int .i64 f, .pointer (some ⟨b, 0, none⟩)], .agg (vA v)] w (GrPost w X b v x) := by
  have hB : Below w.heap.size w (((w.alloc (.cells #[.string (str n), .string (str x), .bool s, .int .i64 f, .pointer (some ⟨b, 0, none⟩)] PK)).alloc (.cells (vA v) PV)).alloc (.cells zeroK PK)) := (((Below.refl _ _).alloc (Nat.le_refl _) _).alloc (by simp) _).alloc (by simp; omega) _
  have hg : GSt w X b x #[.string (str n), .string (str x), .bool s, .int .i64 f, .pointer (some ⟨b, 0, none⟩)] (vA v) (((w.alloc (.cells #[.string (str n), .string (str x), .bool s, .int .i64 f, .pointer (some ⟨b, 0, none⟩)] PK)).alloc (.cells (vA v) PV)).alloc (.cells zeroK PK)) :=
    ⟨GB.new _ _ _, .of_below hB, hb.ltO, X, pv, bv, hb.below hB, fun i hi => .inl hi⟩
  have HG := Lib.hid hg
  unfold vA at *
  obtain ⟨p1, p4, q0, q1, q2, q3, f1, l1, l2⟩ := hg.cells
  clear hb hB hg
  go_enter Try.func30, Try.ntmps30
  go_wp2_with fail
  clear p1 p4 q0 q1 q2 q3 f1 l1 l2
  refine (HG.out.wb (by omega)).mono ?_
  rintro e w3 ⟨rfl, h3⟩
  have HG3 := Lib.hid h3
  obtain ⟨p1, p4, q0, q1, q2, q3, f1, l1, l2⟩ := h3.cells
  clear h3 HG
  go_wp2_with fail
  refine (HG3.out.ws v.x (by simp; omega)).mono ?_
  rintro e w4 ⟨rfl, h4⟩
  rw [List.append_assoc, show [32] ++ v.x = 32 :: v.x from rfl] at h4
  have HG4 := Lib.hid h4
  clear p1 p4 q0 q1 q2 q3 f1 l1 l2
  obtain ⟨p1, p4, q0, q1, q2, q3, f1, l1, l2⟩ := h4.cells
  clear h4 HG3
  go_wp2_with fail
  refine (HG4.out.st (by simp)).mono ?_
  rintro e w5 ⟨rfl, h5⟩
  have h6 := h5.put_v 1 (.string (str (x ++ 32 :: v.x)))
  simp only [List.setIfInBounds_toArray, List.set_cons_zero, List.set_cons_succ] at h6
  clear p1 p4 q0 q1 q2 q3 f1 l1 l2
  obtain ⟨p1, p4, q0, q1, q2, q3, f1, l1, l2⟩ := h5.cells
  obtain ⟨r1, r4, s0, s1, s2, s3, g1, m1, m2⟩ := h6.cells
  have H6 := Lib.hid h6
  clear h5 h6 HG4
  go_wp2_with (refine wpList_store_row rfl PK _ _ rfl (w.heap.size + 2) #[.string (str v.n), .string (str (x ++ 32 :: v.x)), .bool v.s, .int .i64 v.f, .pointer (some ⟨b, 0, none⟩)] rfl rfl PK zeroK H6.out.box.r sizeK rfl (by simp [Value.oneCell']) ?_)
  (try simp only [Exit.inBlock, Exit.then])
  refine bodyPost_ret (results_one Try.results30 _ _ (w.heap.size + 2) PK #[.string (str v.n), .string (str (x ++ 32 :: v.x)), .bool v.s, .int .i64 v.f, .pointer (some ⟨b, 0, none⟩)] (0, 0) _ rfl (setRow_heap _ _ _ _ _ _ H6.out.box.r) undK rfl sizeK) rfl ?_
  exact H6.out.done

theorem GSt.made {w : World} {n x : Bs} {s : Bool} {f : Int} {v : Jp.V} : GSt w [] (w.heap.size + 3) [] #[.string (str n), .string (str x), .bool s, .int .i64 f, .pointer (some ⟨w.heap.size + 3, 0, none⟩)] (vA v)
    ((((w.alloc (.cells #[.string (str n), .string (str x), .bool s, .int .i64 f, .pointer (some ⟨w.heap.size + 3, 0, none⟩)] PK)).alloc (.cells (vA v) PV)).alloc (.cells zeroK PK)).alloc (.cells #[.pointer none, .slice none 0 0] BT)) := by
  have hB : Below w.heap.size w (((w.alloc (.cells #[.string (str n), .string (str x), .bool s, .int .i64 f, .pointer (some ⟨w.heap.size + 3, 0, none⟩)] PK)).alloc (.cells (vA v) PV)).alloc (.cells zeroK PK)) := (((Below.refl _ _).alloc (Nat.le_refl _) _).alloc (by simp) _).alloc (by simp; omega) _
  have hbl := BldAt.new (((w.alloc (.cells #[.string (str n), .string (str x), .bool s, .int .i64 f, .pointer (some ⟨w.heap.size + 3, 0, none⟩)] PK)).alloc (.cells (vA v) PV)).alloc (.cells zeroK PK))
  simp only [World.size_alloc] at hbl
  refine ⟨(GB.new _ _ _).kept ((Kept.refl [] _).alloc _) (fun i h => (by cases h)), (Kept.of_below hB).alloc _, fun i h => (by cases h), [w.heap.size + 3], _, _, hbl, fun i hi => .inr ?_⟩
  have := List.mem_singleton.1 hi
  omega
set_option maxHeartbeats 4000000 in
theorem grow_none (w : World) (n x : Bs) (s : Bool) (f : Int) (v : Jp.V) (hl : x.length + v.x.length + 2 ≤ 1000000000) :
    Calls Try.prog 30 #[.agg #[.string (str n), .string (str x), .bool s, .int .i64 f, .pointer none], .agg (vA v)] w (GrPost w [] (w.heap.size + 3) v x) := by
  have hg := GSt.made (w := w) (n := n) (x := x) (s := s) (f := f) (v := v)
  obtain ⟨X, hX⟩ : ∃ X : List Nat, X = [] := ⟨_, rfl⟩
  rw [← hX] at hg ⊢
  obtain ⟨b, hb⟩ : ∃ b, b = w.heap.size + 3 := ⟨_, rfl⟩
  rw [← hb] at hg ⊢
  have HG := Lib.hid hg
  unfold vA at *
  obtain ⟨p1, p4, q0, q1, q2, q3, f1, l1, l2⟩ := hg.cells
  clear hg hX
  go_enter Try.func30, Try.ntmps30
  go_wp2_with fail
  clear p1 p4 q0 q1 q2 q3 f1 l1 l2
  rw [show w.heap.size + 1 + 1 + 1 = b by omega]
  clear hb
  refine (HG.out.ws x (by simp; omega)).mono ?_
  rintro e w2 ⟨rfl, h2⟩
  rw [List.nil_append] at h2
  replace HG := Lib.hid h2
  obtain ⟨p1, p4, q0, q1, q2, q3, f1, l1, l2⟩ := h2.cells
  clear h2
  go_wp2_with fail
  clear p1 p4 q0 q1 q2 q3 f1 l1 l2
  refine (HG.out.wb (by omega)).mono ?_
  rintro e w3 ⟨rfl, h3⟩
  have HG3 := Lib.hid h3
  obtain ⟨p1, p4, q0, q1, q2, q3, f1, l1, l2⟩ := h3.cells
  clear h3 HG
  go_wp2_with fail
  refine (HG3.out.ws v.x (by simp; omega)).mono ?_
  rintro e w4 ⟨rfl, h4⟩
  rw [List.append_assoc, show [32] ++ v.x = 32 :: v.x from rfl] at h4
  have HG4 := Lib.hid h4
  clear p1 p4 q0 q1 q2 q3 f1 l1 l2
  obtain ⟨p1, p4, q0, q1, q2, q3, f1, l1, l2⟩ := h4.cells
  clear h4 HG3
  go_wp2_with fail
  refine (HG4.out.st (by simp)).mono ?_
  rintro e w5 ⟨rfl, h5⟩
  have h6 := h5.put_v 1 (.string (str (x ++ 32 :: v.x)))
  simp only [List.setIfInBounds_toArray, List.set_cons_zero, List.set_cons_succ] at h6
  clear p1 p4 q0 q1 q2 q3 f1 l1 l2
  obtain ⟨p1, p4, q0, q1, q2, q3, f1, l1, l2⟩ := h5.cells
  obtain ⟨r1, r4, s0, s1, s2, s3, g1, m1, m2⟩ := h6.cells
  have H6 := Lib.hid h6
  clear h5 h6 HG4
  go_wp2_with (refine wpList_store_row rfl PK _ _ rfl (w.heap.size + 2) #[.string (str v.n), .string (str (x ++ 32 :: v.x)), .bool v.s, .int .i64 v.f, .pointer (some ⟨b, 0, none⟩)] rfl rfl PK zeroK H6.out.box.r sizeK rfl (by simp [Value.oneCell']) ?_)
  (try simp only [Exit.inBlock, Exit.then])
  refine bodyPost_ret (results_one Try.results30 _ _ (w.heap.size + 2) PK #[.string (str v.n), .string (str (x ++ 32 :: v.x)), .bool v.s, .int .i64 v.f, .pointer (some ⟨b, 0, none⟩)] (0, 0) _ rfl (setRow_heap _ _ _ _ _ _ H6.out.box.r) undK rfl sizeK) rfl ?_
  exact H6.out.done
end Go.Proofs.Ytfbddbcedoofeaa.Jw
