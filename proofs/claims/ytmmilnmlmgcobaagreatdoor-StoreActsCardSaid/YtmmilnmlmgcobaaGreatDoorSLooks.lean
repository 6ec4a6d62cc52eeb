/-
  flatironlaw03.do: one call, of both.
  flatironlaw03.Is, looks: both stores tell the same.
-/
import Derived.Test.YtmmilnmlmgcobaaGreatDoorSRSame
namespace Go.Proofs.YtmmilnmlmgcobaaGreatDoor.Sw
open Go.RowKit Go.Proofs.YtmmilnmlmgcobaaGreatDoor Go.Maps
set_option maxRecDepth 100000

theorem RFiles.kept {X : List Nat} {w w' : World} {v : Value} {L : List F} (h : RFiles w v L) (hk : Kept X w w') (hv : ∀ b, v.ownBlock = some b → b ∉ X) : RFiles w' v L := by
  rcases h with h | ⟨h0, b, cp, rfl, h2, h3, h4⟩
  · exact .inl h
  · exact .inr ⟨h0, b, cp, rfl, h2, Nat.lt_of_lt_of_le h3 hk.size, fun j u hj => (hk.cell (p := ⟨b, j, none⟩) h3 (hv b rfl)).trans (h4 j u hj)⟩

theorem RFiles.own_lt {w : World} {v : Value} {L : List F} (h : RFiles w v L) : ∀ b, v.ownBlock = some b → b < w.heap.size := fun b hb => by
  rcases h with ⟨_, rfl⟩ | ⟨h0, b', cp, rfl, h2, h3, h4⟩
  · cases hb
  · cases hb; exact h3

/-- Both stores, and what is known of them. -/
structure Both (w : World) (sb bm mb : Nat) (v : Value) (s : St) : Prop where
  code : StoreAt w sb bm s.L s.c
  box : w.heap[mb]? = some (.cells #[v, .int .i64 s.c] 34 (0, 0))
  ref : RFiles w v s.L
  fine : Fine s
  closed : Closed s.L
  n1 : mb ≠ sb
  n2 : mb ≠ bm
  own : ∀ b, v.ownBlock = some b → b ≠ sb ∧ b ≠ bm ∧ b ≠ mb
theorem Both.below {w w' : World} {sb bm mb : Nat} {v : Value} {s : St} (h : Both w sb bm mb v s) (hB : Below w.heap.size w w') : Both w' sb bm mb v s :=
  ⟨h.code.below hB, (hB.block mb (Array.getElem?_eq_some_iff.1 h.box).1).trans h.box, h.ref.below hB, h.fine, h.closed, h.n1, h.n2, h.own⟩

def DoPost (w : World) (sb bm mb : Nat) (e : Ending) (w' : World) : Prop :=
  ∃ v s, e = .returned (.bool true) ∧ Both w' sb bm mb v s ∧ Kept [sb, bm, mb] w w'

abbrev TA : TypeId := 28
/-- The act's box, the box of the reference's store. -/
structure ActAt (W : World) (n : Nat) (kd : Int) (P Q : ByteArray) (all : Bool) (v : Value) (c : Int) : Prop where
  lt : n + 2 ≤ W.heap.size
  A : W.heap[n]? = some (.cells #[.int .u8 kd, .string P, .string Q, .bool all] TA (0, 0))
  X : W.heap[n + 1]? = some (.cells #[v, .int .i64 c] TS (0, 0))
theorem ActAt.cells {W : World} {n : Nat} {kd : Int} {P Q : ByteArray} {all : Bool} {v : Value} {c : Int} (h : ActAt W n kd P Q all v c) :
    (n < W.heap.size ∧ n + 1 < W.heap.size) ∧ (W.cell? ⟨n, 0, none⟩ = some (.int .u8 kd) ∧ W.cell? ⟨n, 1, none⟩ = some (.string P) ∧ W.cell? ⟨n, 2, none⟩ = some (.string Q) ∧ W.cell? ⟨n, 3, none⟩ = some (.bool all)) ∧
    (W.cell? ⟨n + 1, 0, none⟩ = some v ∧ W.cell? ⟨n + 1, 1, none⟩ = some (.int .i64 c) ∧ W.frozen? ⟨n + 1, 0, none⟩ = false ∧ W.frozen? ⟨n + 1, 1, none⟩ = false) := by
  have := h.lt
  exact ⟨⟨by omega, by omega⟩, ⟨cell_at h.A rfl, cell_at h.A rfl, cell_at h.A rfl, cell_at h.A rfl⟩, ⟨cell_at h.X rfl, cell_at h.X rfl, frozen_at h.X 0, frozen_at h.X 1⟩⟩
theorem ActAt.kept {X : List Nat} {W W' : World} {n : Nat} {kd : Int} {P Q : ByteArray} {all : Bool} {v : Value} {c : Int} (h : ActAt W n kd P Q all v c) (hk : Kept X W W') (hx : ∀ i ∈ X, i < n) : ActAt W' n kd P Q all v c :=
  have hl := h.lt
  ⟨Nat.le_trans h.lt hk.size, (hk.block n (by omega) (fun e => by have := hx n e; omega)).trans h.A, (hk.block (n + 1) (by omega) (fun e => by have := hx _ e; omega)).trans h.X⟩
theorem ActAt.new (w : World) (kd : Int) (P Q : ByteArray) (all : Bool) (v : Value) (c : Int) : ActAt ((w.alloc (.cells #[.int .u8 kd, .string P, .string Q, .bool all] TA)).alloc (.cells #[v, .int .i64 c] TS)) w.heap.size kd P Q all v c := by
  obtain ⟨a, b⟩ := later2 (Below.refl _ ((w.alloc (.cells #[.int .u8 kd, .string P, .string Q, .bool all] TA)).alloc (.cells #[v, .int .i64 c] TS)))
  exact ⟨by simp, a, b⟩

/-- Both calls behind each other, and the answer laid. -/
theorem do_end {w w1 w2 w3 : World} {sb bm mb : Nat} {v v' : Value} {s : St} {r : St × Int} {kd : Int} {P Q : ByteArray} {all : Bool} (h : Both w sb bm mb v s) (hA : ActAt w1 w.heap.size kd P Q all v s.c) (h1 : Below w.heap.size w w1)
    (hS : StoreAt w2 sb bm r.1.L r.1.c) (hK : Kept [sb, bm] w1 w2) (hR : RFiles w3 v' r.1.L) (hv : v' = v ∨ ∀ b, v'.ownBlock = some b → w2.heap.size ≤ b) (hB : Below w2.heap.size w2 w3) (hF : Fine r.1) (hC : Closed r.1.L) :
    DoPost w sb bm mb (.returned (.bool true)) ((((w3.setCell ⟨w.heap.size + 1, 0, none⟩ v').setCell ⟨w.heap.size + 1, 1, none⟩ (.int .i64 r.1.c)).setCell ⟨mb, 0, none⟩ v').setCell ⟨mb, 1, none⟩ (.int .i64 r.1.c)) := by
  have hm := (Array.getElem?_eq_some_iff.1 h.box).1
  have hsb := h.code.lt
  have hbm := h.code.map.lt
  have hlt := hA.lt
  have k1 : Kept [sb, bm, mb] w w3 := ((Kept.of_below h1).trans (hK.mono (fun i hi => by simp at hi ⊢; rcases hi with hi | hi <;> simp [hi]))).below hB
  have hz : w.heap.size + 2 ≤ w2.heap.size := Nat.le_trans hlt hK.size
  have hz3 : w.heap.size + 2 ≤ w3.heap.size := Nat.le_trans hz hB.size
  have hn1 := h.n1
  have hn2 := h.n2
  have hvb : ∀ b, v'.ownBlock = some b → b ≠ sb ∧ b ≠ bm ∧ b ≠ mb ∧ b ≠ w.heap.size + 1 := fun b hb => by
    rcases hv with rfl | hv
    · obtain ⟨o1, o2, o3⟩ := h.own b hb
      have hlt := h.ref.own_lt b hb
      exact ⟨o1, o2, o3, by omega⟩
    · have := hv b hb
      exact ⟨by omega, by omega, by omega, by omega⟩
  have hbox : w3.heap[mb]? = some (.cells #[v, .int .i64 s.c] 34 (0, 0)) := by
    rw [hB.block mb (by omega), hK.block mb (by omega) (by simp; exact ⟨hn1, hn2⟩), h1.block mb hm]
    exact h.box
  have kx : Kept [w.heap.size + 1, mb] w3 ((((w3.setCell ⟨w.heap.size + 1, 0, none⟩ v').setCell ⟨w.heap.size + 1, 1, none⟩ (.int .i64 r.1.c)).setCell ⟨mb, 0, none⟩ v').setCell ⟨mb, 1, none⟩ (.int .i64 r.1.c)) :=
    ((((Kept.refl _ w3).setCell (.inl (by simp)) _).setCell (.inl (by simp)) _).setCell (.inl (by simp)) _).setCell (.inl (by simp)) _
  refine ⟨v', r.1, rfl, ⟨(hS.below hB).kept kx (by simp; omega) (by simp; omega), ?_, hR.kept kx (fun b hb => ?_), hF, hC, hn1, hn2, fun b hb => ?_⟩, ?_⟩
  · have e1 : ((w3.setCell ⟨w.heap.size + 1, 0, none⟩ v').setCell ⟨w.heap.size + 1, 1, none⟩ (.int .i64 r.1.c)).heap[mb]? = some (.cells #[v, .int .i64 s.c] 34 (0, 0)) := by
      rw [Below.heap_setCell _ _ _ _ (by simp; omega), Below.heap_setCell _ _ _ _ (by simp; omega)]; exact hbox
    rw [heap_set3 (heap_set3 e1 v') (.int .i64 r.1.c)]; rfl
  · obtain ⟨o1, o2, o3, o4⟩ := hvb b hb
    simp; exact ⟨o4, o3⟩
  · obtain ⟨o1, o2, o3, o4⟩ := hvb b hb
    exact ⟨o1, o2, o3⟩
  · exact (((k1.setCell (.inr (by simp)) _).setCell (.inr (by simp)) _).setCell (.inl (by simp)) _).setCell (.inl (by simp)) _

theorem rem_is (kd : Nat) (r : Nat) (h : kd % 6 = r) : (kd : Int).tmod 6 = (r : Int) := by
  subst h; rw [Int.tmod_eq_emod_of_nonneg (by omega)]; omega

theorem Both.not_own {w : World} {sb bm mb : Nat} {v : Value} {s : St} (h : Both w sb bm mb v s) : ∀ b, v.ownBlock = some b → b ∉ [sb, bm] := fun b hb => by
  have := h.own b hb; simp; omega
theorem do_box {w w1 w2 w3 : World} {sb bm mb : Nat} {v : Value} {s : St} (h : Both w sb bm mb v s) (h1 : Below w.heap.size w w1) (hK : Kept [sb, bm] w1 w2) (hB : Below w2.heap.size w2 w3) :
    w3.heap[mb]? = some (.cells #[v, .int .i64 s.c] 34 (0, 0)) := by
  have hm := (Array.getElem?_eq_some_iff.1 h.box).1
  have s1 := h1.size
  have s2 := hK.size
  rw [hB.block mb (by omega), hK.block mb (by omega) (by simp; exact ⟨h.n1, h.n2⟩), h1.block mb hm]
  exact h.box
/-- The reference's own box, behind the two stores into another one. -/
theorem do_mb {w3 : World} {mb n : Nat} {v : Value} {c : Int} (hb : w3.heap[mb]? = some (.cells #[v, .int .i64 c] 34 (0, 0))) (hn : n ≠ mb) (x y : Value) :
    ((w3.setCell ⟨n, 0, none⟩ x).setCell ⟨n, 1, none⟩ y).cell? ⟨mb, 0, none⟩ = some v ∧ ((w3.setCell ⟨n, 0, none⟩ x).setCell ⟨n, 1, none⟩ y).cell? ⟨mb, 1, none⟩ = some (.int .i64 c) ∧
    ((w3.setCell ⟨n, 0, none⟩ x).setCell ⟨n, 1, none⟩ y).frozen? ⟨mb, 0, none⟩ = false ∧ ((w3.setCell ⟨n, 0, none⟩ x).setCell ⟨n, 1, none⟩ y).frozen? ⟨mb, 1, none⟩ = false ∧ mb < w3.heap.size := by
  have e1 : ((w3.setCell ⟨n, 0, none⟩ x).setCell ⟨n, 1, none⟩ y).heap[mb]? = some (.cells #[v, .int .i64 c] 34 (0, 0)) := by
    rw [Below.heap_setCell _ _ _ _ (by simp; omega), Below.heap_setCell _ _ _ _ (by simp; omega)]; exact hb
  exact ⟨cell_at e1 rfl, cell_at e1 rfl, frozen_at e1 0, frozen_at e1 1, (Array.getElem?_eq_some_iff.1 hb).1⟩

/-- The calls, kind by kind. -/
theorem getR_p {L : List F} (hs : Sp.Sorted L) (p : List UInt8) : ∀ f, getR L p = some f → f.p = p := by
  intro f hf
  by_cases h : p = [46]
  · subst h; cases hf; rfl
  · rw [getR_ne h] at hf
    exact ((Sp.get_some hs).1 hf).2

set_option maxHeartbeats 4000000 in
theorem do_write0 (w : World) (sb bm mb : Nat) (v : Value) (s : St) (kd : Nat) (P Q : ByteArray) (all : Bool) (h : Both w sb bm mb v s) (hP : P.size ≤ 50000) (hQ : Q.size ≤ 50000) (h6 : kd % 6 = 0) :
    Calls Tryz.prog 8 #[.pointer (some ⟨sb, 0, none⟩), .pointer (some ⟨mb, 0, none⟩), .agg #[.int .u8 kd, .string P, .string Q, .bool all]] w (DoPost w sb bm mb) := by
  have hrem := rem_is kd 0 h6
  obtain ⟨a, m, cp, rfl⟩ := h.ref.shape
  have m0 : w.cell? ⟨mb, 0, none⟩ = some (.slice a m cp) := cell_at h.box rfl
  have m1 : w.cell? ⟨mb, 1, none⟩ = some (.int .i64 s.c) := cell_at h.box rfl
  have hml := (Array.getElem?_eq_some_iff.1 h.box).1
  have hA := ActAt.new w kd P Q all (.slice a m cp) s.c
  have hB := ((Below.refl w.heap.size w).alloc (Nat.le_refl _) (.cells #[.int .u8 kd, .string P, .string Q, .bool all] TA)).alloc (by simp) (.cells #[.slice a m cp, .int .i64 s.c] TS)
  have hCode := Lib.hid fun (W : World) (hS : StoreAt W sb bm s.L s.c) => Write_any W P Q false hS h.fine (by omega) (by omega)
  have hRef := Lib.hid fun (W : World) (v' : Value) (hR : RFiles W v' s.L) => RWrite_any W v' s P Q false h.fine (by omega) (by omega) hR
  have hFine : Fine (writeA s (bs P) (bs Q) false).1 := h.fine.write (by rw [bs_len]; omega) false
  have hClosed : Closed (writeA s (bs P) (bs Q) false).1.L := write_closed h.closed h.fine.sorted (bs P) (bs Q) false
  obtain ⟨q, hq⟩ : ∃ q, writeA s (bs P) (bs Q) false = q := ⟨_, rfl⟩
  rw [hq] at hCode hRef hFine hClosed
  have hsb := h.code.lt
  have hbm := h.code.map.lt
  have hn1 := h.n1
  have hn2 := h.n2
  have HB := Lib.hid h
  have H6 := Lib.hid h6
  clear hq h h6
  go_enter Tryz.func8, Tryz.ntmps8
  obtain ⟨⟨l0, l1⟩, ⟨p0, p1, p2, p3⟩, ⟨x0, x1, x2, x3⟩⟩ := hA.cells
  go_wp2_with (first
    | (go_at_call 27; go_must (refine (hRef.out _ _ ((HB.out.ref.below hB).kept hK hno)).mono ?_); rintro e w3 ⟨v3, rfl, hR3, hv3, hB3⟩; obtain ⟨a3, m3, cp3, rfl⟩ := hR3.shape; have hA3 := hA2.kept (Kept.of_below (X := []) hB3) (by simp); obtain ⟨⟨l0, l1⟩, ⟨p0, p1, p2, p3⟩, ⟨x0, x1, x2, x3⟩⟩ := hA3.cells; have hbx := do_box HB.out hB hK hB3; have y := do_mb hbx hn0 (.slice a3 m3 cp3) (.int .i64 q.1.c); obtain ⟨y0, y1, y2, y3, y4⟩ := y)
    | (go_at_call 13; go_must (refine (hCode.out _ (HB.out.code.below hB)).mono ?_); rintro e w2 ⟨rfl, hS2, hK⟩; have hA2 := hA.kept hK (by simp; omega); obtain ⟨⟨l0, l1⟩, ⟨p0, p1, p2, p3⟩, ⟨x0, x1, x2, x3⟩⟩ := hA2.cells; have hno := HB.out.not_own; have hn0 : w.heap.size + 1 ≠ mb := (by omega)))
  go_ret
  exact do_end HB.out hA hB hS2 hK hR3 hv3 hB3 hFine hClosed

set_option maxHeartbeats 4000000 in
theorem do_write1 (w : World) (sb bm mb : Nat) (v : Value) (s : St) (kd : Nat) (P Q : ByteArray) (all : Bool) (h : Both w sb bm mb v s) (hP : P.size ≤ 50000) (hQ : Q.size ≤ 50000) (h6 : kd % 6 = 1) :
    Calls Tryz.prog 8 #[.pointer (some ⟨sb, 0, none⟩), .pointer (some ⟨mb, 0, none⟩), .agg #[.int .u8 kd, .string P, .string Q, .bool all]] w (DoPost w sb bm mb) := by
  have hrem := rem_is kd 1 h6
  obtain ⟨a, m, cp, rfl⟩ := h.ref.shape
  have m0 : w.cell? ⟨mb, 0, none⟩ = some (.slice a m cp) := cell_at h.box rfl
  have m1 : w.cell? ⟨mb, 1, none⟩ = some (.int .i64 s.c) := cell_at h.box rfl
  have hml := (Array.getElem?_eq_some_iff.1 h.box).1
  have hA := ActAt.new w kd P Q all (.slice a m cp) s.c
  have hB := ((Below.refl w.heap.size w).alloc (Nat.le_refl _) (.cells #[.int .u8 kd, .string P, .string Q, .bool all] TA)).alloc (by simp) (.cells #[.slice a m cp, .int .i64 s.c] TS)
  have hCode := Lib.hid fun (W : World) (hS : StoreAt W sb bm s.L s.c) => Write_any W P Q true hS h.fine (by omega) (by omega)
  have hRef := Lib.hid fun (W : World) (v' : Value) (hR : RFiles W v' s.L) => RWrite_any W v' s P Q true h.fine (by omega) (by omega) hR
  have hFine : Fine (writeA s (bs P) (bs Q) true).1 := h.fine.write (by rw [bs_len]; omega) true
  have hClosed : Closed (writeA s (bs P) (bs Q) true).1.L := write_closed h.closed h.fine.sorted (bs P) (bs Q) true
  obtain ⟨q, hq⟩ : ∃ q, writeA s (bs P) (bs Q) true = q := ⟨_, rfl⟩
  rw [hq] at hCode hRef hFine hClosed
  have hsb := h.code.lt
  have hbm := h.code.map.lt
  have hn1 := h.n1
  have hn2 := h.n2
  have HB := Lib.hid h
  have H6 := Lib.hid h6
  clear hq h h6
  go_enter Tryz.func8, Tryz.ntmps8
  obtain ⟨⟨l0, l1⟩, ⟨p0, p1, p2, p3⟩, ⟨x0, x1, x2, x3⟩⟩ := hA.cells
  go_wp2_with (first
    | (go_at_call 27; go_must (refine (hRef.out _ _ ((HB.out.ref.below hB).kept hK hno)).mono ?_); rintro e w3 ⟨v3, rfl, hR3, hv3, hB3⟩; obtain ⟨a3, m3, cp3, rfl⟩ := hR3.shape; have hA3 := hA2.kept (Kept.of_below (X := []) hB3) (by simp); obtain ⟨⟨l0, l1⟩, ⟨p0, p1, p2, p3⟩, ⟨x0, x1, x2, x3⟩⟩ := hA3.cells; have hbx := do_box HB.out hB hK hB3; have y := do_mb hbx hn0 (.slice a3 m3 cp3) (.int .i64 q.1.c); obtain ⟨y0, y1, y2, y3, y4⟩ := y)
    | (go_at_call 13; go_must (refine (hCode.out _ (HB.out.code.below hB)).mono ?_); rintro e w2 ⟨rfl, hS2, hK⟩; have hA2 := hA.kept hK (by simp; omega); obtain ⟨⟨l0, l1⟩, ⟨p0, p1, p2, p3⟩, ⟨x0, x1, x2, x3⟩⟩ := hA2.cells; have hno := HB.out.not_own; have hn0 : w.heap.size + 1 ≠ mb := (by omega)))
  go_ret
  exact do_end HB.out hA hB hS2 hK hR3 hv3 hB3 hFine hClosed

set_option maxHeartbeats 4000000 in
theorem do_touch (w : World) (sb bm mb : Nat) (v : Value) (s : St) (kd : Nat) (P Q : ByteArray) (all : Bool) (h : Both w sb bm mb v s) (hP : P.size ≤ 50000) (_hQ : Q.size ≤ 50000) (h6 : kd % 6 = 2) :
    Calls Tryz.prog 8 #[.pointer (some ⟨sb, 0, none⟩), .pointer (some ⟨mb, 0, none⟩), .agg #[.int .u8 kd, .string P, .string Q, .bool all]] w (DoPost w sb bm mb) := by
  have hrem := rem_is kd 2 h6
  obtain ⟨a, m, cp, rfl⟩ := h.ref.shape
  have m0 : w.cell? ⟨mb, 0, none⟩ = some (.slice a m cp) := cell_at h.box rfl
  have m1 : w.cell? ⟨mb, 1, none⟩ = some (.int .i64 s.c) := cell_at h.box rfl
  have hml := (Array.getElem?_eq_some_iff.1 h.box).1
  have hA := ActAt.new w kd P Q all (.slice a m cp) s.c
  have hB := ((Below.refl w.heap.size w).alloc (Nat.le_refl _) (.cells #[.int .u8 kd, .string P, .string Q, .bool all] TA)).alloc (by simp) (.cells #[.slice a m cp, .int .i64 s.c] TS)
  have hCode := Lib.hid fun (W : World) (hS : StoreAt W sb bm s.L s.c) => Touch_any W P hS h.fine (by omega) (getR_p h.fine.sorted (bs P))
  have hRef := Lib.hid fun (W : World) (v' : Value) (hR : RFiles W v' s.L) => RTouch_any W v' s P h.fine (by omega) hR
  have hFine : Fine (touchA s (bs P)).1 := h.fine.touch (by rw [bs_len]; omega)
  have hClosed : Closed (touchA s (bs P)).1.L := touch_closed h.closed h.fine.sorted (bs P)
  obtain ⟨q, hq⟩ : ∃ q, touchA s (bs P) = q := ⟨_, rfl⟩
  rw [hq] at hCode hRef hFine hClosed
  have hsb := h.code.lt
  have hbm := h.code.map.lt
  have hn1 := h.n1
  have hn2 := h.n2
  have HB := Lib.hid h
  have H6 := Lib.hid h6
  clear hq h h6
  go_enter Tryz.func8, Tryz.ntmps8
  obtain ⟨⟨l0, l1⟩, ⟨p0, p1, p2, p3⟩, ⟨x0, x1, x2, x3⟩⟩ := hA.cells
  go_wp2_with (first
    | (go_at_call 29; go_must (refine (hRef.out _ _ ((HB.out.ref.below hB).kept hK hno)).mono ?_); rintro e w3 ⟨v3, rfl, hR3, hv3, hB3⟩; obtain ⟨a3, m3, cp3, rfl⟩ := hR3.shape; have hA3 := hA2.kept (Kept.of_below (X := []) hB3) (by simp); obtain ⟨⟨l0, l1⟩, ⟨p0, p1, p2, p3⟩, ⟨x0, x1, x2, x3⟩⟩ := hA3.cells; have hbx := do_box HB.out hB hK hB3; have y := do_mb hbx hn0 (.slice a3 m3 cp3) (.int .i64 q.1.c); obtain ⟨y0, y1, y2, y3, y4⟩ := y)
    | (go_at_call 28; go_must (refine (hCode.out _ (HB.out.code.below hB)).mono ?_); rintro e w2 ⟨rfl, hS2, hK⟩; have hA2 := hA.kept hK (by simp; omega); obtain ⟨⟨l0, l1⟩, ⟨p0, p1, p2, p3⟩, ⟨x0, x1, x2, x3⟩⟩ := hA2.cells; have hno := HB.out.not_own; have hn0 : w.heap.size + 1 ≠ mb := (by omega)))
  go_ret
  exact do_end HB.out hA hB hS2 hK hR3 hv3 hB3 hFine hClosed

set_option maxHeartbeats 4000000 in
theorem do_mkdir (w : World) (sb bm mb : Nat) (v : Value) (s : St) (kd : Nat) (P Q : ByteArray) (all : Bool) (h : Both w sb bm mb v s) (hP : P.size ≤ 50000) (_hQ : Q.size ≤ 50000) (h6 : kd % 6 = 3) :
    Calls Tryz.prog 8 #[.pointer (some ⟨sb, 0, none⟩), .pointer (some ⟨mb, 0, none⟩), .agg #[.int .u8 kd, .string P, .string Q, .bool all]] w (DoPost w sb bm mb) := by
  have hrem := rem_is kd 3 h6
  obtain ⟨a, m, cp, rfl⟩ := h.ref.shape
  have m0 : w.cell? ⟨mb, 0, none⟩ = some (.slice a m cp) := cell_at h.box rfl
  have m1 : w.cell? ⟨mb, 1, none⟩ = some (.int .i64 s.c) := cell_at h.box rfl
  have hml := (Array.getElem?_eq_some_iff.1 h.box).1
  have hA := ActAt.new w kd P Q all (.slice a m cp) s.c
  have hB := ((Below.refl w.heap.size w).alloc (Nat.le_refl _) (.cells #[.int .u8 kd, .string P, .string Q, .bool all] TA)).alloc (by simp) (.cells #[.slice a m cp, .int .i64 s.c] TS)
  have hCode := Lib.hid fun (W : World) (hS : StoreAt W sb bm s.L s.c) => Mkdir_any W P all hS h.fine (by omega)
  have hRef := Lib.hid fun (W : World) (v' : Value) (hR : RFiles W v' s.L) => RMkdir_any W v' s P all h.fine h.closed (by omega) hR
  have hFine : Fine (mkdirA s (bs P) all).1 := h.fine.mkdir (by rw [bs_len]; omega) all
  have hClosed : Closed (mkdirA s (bs P) all).1.L := mkdir_closed h.closed h.fine.sorted (bs P) all
  obtain ⟨q, hq⟩ : ∃ q, mkdirA s (bs P) all = q := ⟨_, rfl⟩
  rw [hq] at hCode hRef hFine hClosed
  have hsb := h.code.lt
  have hbm := h.code.map.lt
  have hn1 := h.n1
  have hn2 := h.n2
  have HB := Lib.hid h
  have H6 := Lib.hid h6
  clear hq h h6
  go_enter Tryz.func8, Tryz.ntmps8
  obtain ⟨⟨l0, l1⟩, ⟨p0, p1, p2, p3⟩, ⟨x0, x1, x2, x3⟩⟩ := hA.cells
  go_wp2_with (first
    | (go_at_call 30; go_must (refine (hRef.out _ _ ((HB.out.ref.below hB).kept hK hno)).mono ?_); rintro e w3 ⟨v3, rfl, hR3, hv3, hB3⟩; obtain ⟨a3, m3, cp3, rfl⟩ := hR3.shape; have hA3 := hA2.kept (Kept.of_below (X := []) hB3) (by simp); obtain ⟨⟨l0, l1⟩, ⟨p0, p1, p2, p3⟩, ⟨x0, x1, x2, x3⟩⟩ := hA3.cells; have hbx := do_box HB.out hB hK hB3; have y := do_mb hbx hn0 (.slice a3 m3 cp3) (.int .i64 q.1.c); obtain ⟨y0, y1, y2, y3, y4⟩ := y)
    | (go_at_call 14; go_must (refine (hCode.out _ (HB.out.code.below hB)).mono ?_); rintro e w2 ⟨rfl, hS2, hK⟩; have hA2 := hA.kept hK (by simp; omega); obtain ⟨⟨l0, l1⟩, ⟨p0, p1, p2, p3⟩, ⟨x0, x1, x2, x3⟩⟩ := hA2.cells; have hno := HB.out.not_own; have hn0 : w.heap.size + 1 ≠ mb := (by omega)))
  go_ret
  exact do_end HB.out hA hB hS2 hK hR3 hv3 hB3 hFine hClosed

set_option maxHeartbeats 4000000 in
theorem do_remove (w : World) (sb bm mb : Nat) (v : Value) (s : St) (kd : Nat) (P Q : ByteArray) (all : Bool) (h : Both w sb bm mb v s) (hP : P.size ≤ 50000) (_hQ : Q.size ≤ 50000) (h6 : kd % 6 = 4) :
    Calls Tryz.prog 8 #[.pointer (some ⟨sb, 0, none⟩), .pointer (some ⟨mb, 0, none⟩), .agg #[.int .u8 kd, .string P, .string Q, .bool all]] w (DoPost w sb bm mb) := by
  have hrem := rem_is kd 4 h6
  obtain ⟨a, m, cp, rfl⟩ := h.ref.shape
  have m0 : w.cell? ⟨mb, 0, none⟩ = some (.slice a m cp) := cell_at h.box rfl
  have m1 : w.cell? ⟨mb, 1, none⟩ = some (.int .i64 s.c) := cell_at h.box rfl
  have hml := (Array.getElem?_eq_some_iff.1 h.box).1
  have hA := ActAt.new w kd P Q all (.slice a m cp) s.c
  have hB := ((Below.refl w.heap.size w).alloc (Nat.le_refl _) (.cells #[.int .u8 kd, .string P, .string Q, .bool all] TA)).alloc (by simp) (.cells #[.slice a m cp, .int .i64 s.c] TS)
  have hCode := Lib.hid fun (W : World) (hS : StoreAt W sb bm s.L s.c) => Remove_any W P all hS h.fine (by omega)
  have hRef := Lib.hid fun (W : World) (v' : Value) (hR : RFiles W v' s.L) => RRemoveA_any W v' s P all h.fine h.closed (by omega) hR
  have hFine : Fine (removeA s (bs P) all).1 := h.fine.remove (bs P) all
  have hClosed : Closed (removeA s (bs P) all).1.L := remove_closed h.closed h.fine.sorted (bs P) all
  obtain ⟨q, hq⟩ : ∃ q, removeA s (bs P) all = q := ⟨_, rfl⟩
  rw [hq] at hCode hRef hFine hClosed
  have hsb := h.code.lt
  have hbm := h.code.map.lt
  have hn1 := h.n1
  have hn2 := h.n2
  have HB := Lib.hid h
  have H6 := Lib.hid h6
  clear hq h h6
  go_enter Tryz.func8, Tryz.ntmps8
  obtain ⟨⟨l0, l1⟩, ⟨p0, p1, p2, p3⟩, ⟨x0, x1, x2, x3⟩⟩ := hA.cells
  go_wp2_with (first
    | (go_at_call 32; go_must (refine (hRef.out _ _ ((HB.out.ref.below hB).kept hK hno)).mono ?_); rintro e w3 ⟨v3, rfl, hR3, hv3, hB3⟩; obtain ⟨a3, m3, cp3, rfl⟩ := hR3.shape; have hA3 := hA2.kept (Kept.of_below (X := []) hB3) (by simp); obtain ⟨⟨l0, l1⟩, ⟨p0, p1, p2, p3⟩, ⟨x0, x1, x2, x3⟩⟩ := hA3.cells; have hbx := do_box HB.out hB hK hB3; have y := do_mb hbx hn0 (.slice a3 m3 cp3) (.int .i64 q.1.c); obtain ⟨y0, y1, y2, y3, y4⟩ := y)
    | (go_at_call 31; go_must (refine (hCode.out _ (HB.out.code.below hB)).mono ?_); rintro e w2 ⟨rfl, hS2, hK⟩; have hA2 := hA.kept hK (by simp; omega); obtain ⟨⟨l0, l1⟩, ⟨p0, p1, p2, p3⟩, ⟨x0, x1, x2, x3⟩⟩ := hA2.cells; have hno := HB.out.not_own; have hn0 : w.heap.size + 1 ≠ mb := (by omega)))
  go_ret
  exact do_end HB.out hA hB hS2 hK hR3 hv3 hB3 hFine hClosed

set_option maxHeartbeats 4000000 in
theorem do_move (w : World) (sb bm mb : Nat) (v : Value) (s : St) (kd : Nat) (P Q : ByteArray) (all : Bool) (h : Both w sb bm mb v s) (hP : P.size ≤ 50000) (hQ : Q.size ≤ 50000) (h6 : kd % 6 = 5) :
    Calls Tryz.prog 8 #[.pointer (some ⟨sb, 0, none⟩), .pointer (some ⟨mb, 0, none⟩), .agg #[.int .u8 kd, .string P, .string Q, .bool all]] w (DoPost w sb bm mb) := by
  have hrem := rem_is kd 5 h6
  obtain ⟨a, m, cp, rfl⟩ := h.ref.shape
  have m0 : w.cell? ⟨mb, 0, none⟩ = some (.slice a m cp) := cell_at h.box rfl
  have m1 : w.cell? ⟨mb, 1, none⟩ = some (.int .i64 s.c) := cell_at h.box rfl
  have hml := (Array.getElem?_eq_some_iff.1 h.box).1
  have hA := ActAt.new w kd P Q all (.slice a m cp) s.c
  have hB := ((Below.refl w.heap.size w).alloc (Nat.le_refl _) (.cells #[.int .u8 kd, .string P, .string Q, .bool all] TA)).alloc (by simp) (.cells #[.slice a m cp, .int .i64 s.c] TS)
  have hCode := Lib.hid fun (W : World) (hS : StoreAt W sb bm s.L s.c) => Move_any W P Q hS h.fine (by omega) (by omega)
  have hRef := Lib.hid fun (W : World) (v' : Value) (hR : RFiles W v' s.L) => RMoveA_any W v' s P Q h.fine h.closed (by omega) (by omega) hR
  have hFine : Fine (moveA s (bs P) (bs Q)).1 := h.fine.move (by rw [bs_len]; omega)
  have hClosed : Closed (moveA s (bs P) (bs Q)).1.L := move_closed h.closed h.fine.sorted (bs P) (bs Q)
  obtain ⟨q, hq⟩ : ∃ q, moveA s (bs P) (bs Q) = q := ⟨_, rfl⟩
  rw [hq] at hCode hRef hFine hClosed
  have hsb := h.code.lt
  have hbm := h.code.map.lt
  have hn1 := h.n1
  have hn2 := h.n2
  have HB := Lib.hid h
  have H6 := Lib.hid h6
  clear hq h h6
  go_enter Tryz.func8, Tryz.ntmps8
  obtain ⟨⟨l0, l1⟩, ⟨p0, p1, p2, p3⟩, ⟨x0, x1, x2, x3⟩⟩ := hA.cells
  go_wp2_with (first
    | (go_at_call 34; go_must (refine (hRef.out _ _ ((HB.out.ref.below hB).kept hK hno)).mono ?_); rintro e w3 ⟨v3, rfl, hR3, hv3, hB3⟩; obtain ⟨a3, m3, cp3, rfl⟩ := hR3.shape; have hA3 := hA2.kept (Kept.of_below (X := []) hB3) (by simp); obtain ⟨⟨l0, l1⟩, ⟨p0, p1, p2, p3⟩, ⟨x0, x1, x2, x3⟩⟩ := hA3.cells; have hbx := do_box HB.out hB hK hB3; have y := do_mb hbx hn0 (.slice a3 m3 cp3) (.int .i64 q.1.c); obtain ⟨y0, y1, y2, y3, y4⟩ := y)
    | (go_at_call 33; go_must (refine (hCode.out _ (HB.out.code.below hB)).mono ?_); rintro e w2 ⟨rfl, hS2, hK⟩; have hA2 := hA.kept hK (by simp; omega); obtain ⟨⟨l0, l1⟩, ⟨p0, p1, p2, p3⟩, ⟨x0, x1, x2, x3⟩⟩ := hA2.cells; have hno := HB.out.not_own; have hn0 : w.heap.size + 1 ≠ mb := (by omega)))
  go_ret
  exact do_end HB.out hA hB hS2 hK hR3 hv3 hB3 hFine hClosed

theorem do_any (w : World) (sb bm mb : Nat) (v : Value) (s : St) (kd : Nat) (P Q : ByteArray) (all : Bool) (h : Both w sb bm mb v s) (hP : P.size ≤ 50000) (hQ : Q.size ≤ 50000) :
    Calls Tryz.prog 8 #[.pointer (some ⟨sb, 0, none⟩), .pointer (some ⟨mb, 0, none⟩), .agg #[.int .u8 kd, .string P, .string Q, .bool all]] w (DoPost w sb bm mb) := by
  have : kd % 6 = 0 ∨ kd % 6 = 1 ∨ kd % 6 = 2 ∨ kd % 6 = 3 ∨ kd % 6 = 4 ∨ kd % 6 = 5 := by omega
  rcases this with e | e | e | e | e | e
  · exact do_write0 w sb bm mb v s kd P Q all h hP hQ e
  · exact do_write1 w sb bm mb v s kd P Q all h hP hQ e
  · exact do_touch w sb bm mb v s kd P Q all h hP hQ e
  · exact do_mkdir w sb bm mb v s kd P Q all h hP hQ e
  · exact do_remove w sb bm mb v s kd P Q all h hP hQ e
  · exact do_move w sb bm mb v s kd P Q all h hP hQ e
end Go.Proofs.YtmmilnmlmgcobaaGreatDoor.Sw
namespace Go.Proofs.YtmmilnmlmgcobaaGreatDoor.Sw
open Go.RowKit Go.Proofs.YtmmilnmlmgcobaaGreatDoor Go.Maps
set_option maxRecDepth 100000

set_option maxHeartbeats 4000000 in
theorem Is_any (w : World) {sb bm : Nat} {v : Value} {L : List F} {c : Int} (hS : StoreAt w sb bm L c) (hR : RFiles w v L) (hl : L.length ≤ 100000) :
    Calls Tryz.prog 9 #[.pointer (some ⟨sb, 0, none⟩), .agg #[v, .int .i64 c]] w fun e w' => e = .returned (.bool true) ∧ Below w.heap.size w w' := by
  obtain ⟨a, m, cp, rfl⟩ := hR.shape
  have hB0 := (Below.refl w.heap.size w).alloc (Nat.le_refl _) (.cells #[.slice a m cp, .int .i64 c] TS)
  have hbox := heap_new w (.cells #[.slice a m cp, .int .i64 c] TS) rfl
  have HS := Lib.hid fun (W : World) (hB : Below w.heap.size w W) => All_any W (hS.below hB) (by omega)
  have HN := Lib.hid fun (W : World) (hB : Below w.heap.size w W) => Now_any W sb c (hS.below hB).c0
  have HR := Lib.hid fun (W : World) (hB : Below w.heap.size w W) => (hR.below hB).files
  have hlt0 : w.heap.size < (w.alloc (.cells #[.slice a m cp, .int .i64 c] TS)).heap.size := by simp
  go_enter Tryz.func9, Tryz.ntmps9
  go_wp2_with fail
  generalize w.alloc (.cells #[.slice a m cp, .int .i64 c] TS) = w1 at *
  have HW : Hid (∀ W, Below w1.heap.size w1 W → (W.cell? ⟨w.heap.size, 0, none⟩ = some (.slice a m cp) ∧ W.cell? ⟨w.heap.size, 1, none⟩ = some (.int .i64 c))) := Lib.hid fun W hB => ⟨cell_at ((hB.block w.heap.size hlt0).trans hbox) rfl, cell_at ((hB.block w.heap.size hlt0).trans hbox) rfl⟩
  have e1 := (HW.out w1 (Below.refl _ _)).1
  have e2 := (HW.out w1 (Below.refl _ _)).2
  have D0 : Below w1.heap.size w1 w1.drew := (Below.refl _ _).drew
  have C0 := hB0.trans (D0.mono hB0.size)
  clear hS hR hbox
  go_region_held3 (fun w' => w'.cell? ⟨w.heap.size, 0, none⟩ = some (.slice a m cp) ∧ w'.cell? ⟨w.heap.size, 1, none⟩ = some (.int .i64 c))
    (first | go_keep | exact HW.out _ D0 | exact HW.out _ D1 | exact HW.out _ D2)
    (first
      | (go_at_call 16; refine (HN.out _ C2).mono ?_; rintro e wc ⟨rfl, rfl⟩)
      | (go_at_call 35; refine (EqualF_any _ _ _ L hF1 (HR.out _ C1) hl).mono ?_; rintro e wb ⟨rfl, Bb⟩; have D2 := D1.trans (Bb.mono D1.size); have C2 := C1.trans (Bb.mono C1.size))
      | (go_at_call 36; refine (HS.out _ C0).mono ?_; rintro e wa ⟨v1, rfl, hF1, ⟨a1, c1, hv1⟩, Ba⟩; subst hv1; have D1 := D0.trans Ba; have C1 := C0.trans (Ba.mono C0.size)))
  all_goals go_wp2_with fail
  all_goals go_ret
  all_goals exact ⟨rfl, by first | exact C2 | exact C1⟩

theorem getD_get {l : List ByteArray} {j : Nat} (h : j < l.length) : l.getD j ByteArray.empty = l[j] := by simp [List.getD, h]
/-- slices.Equal of two lists of names that are the same. -/
theorem EqualS_any (w : World) (B B' : Nat) (v u : Value) (xs : List ByteArray) (hv : w.ownsRow B 9 1 v xs.length (strC xs)) (hu : w.ownsRow B' 9 1 u xs.length (strC xs)) (hl : xs.length ≤ 1000000) :
    Calls Tryz.prog 42 #[v, u] w fun e w' => e = .returned (.bool true) ∧ Below w.heap.size w w' := by
  rcases Nat.eq_zero_or_pos xs.length with h0 | h0
  · have e : xs = [] := List.length_eq_zero_iff.1 h0
    subst e
    obtain ⟨a, c, rfl⟩ := owns_slice hv
    obtain ⟨a2, c2, rfl⟩ := owns_slice hu
    exact (Tryz.slices_Equal_string_empty a a2 c 0 c2 w (by omega)).mono fun e w' ⟨he, hw⟩ => ⟨he, hw ▸ Below.refl _ _⟩
  · have row : ∀ {B : Nat} {v : Value}, w.ownsRow B 9 1 v xs.length (strC xs) → ∃ b c, v = .slice (some ⟨b, 0, none⟩) xs.length c ∧ ∀ j (h : j < xs.length), w.cell? ⟨b, 0 + j, none⟩ = some (.string xs[j]) := fun h => by
      rcases h.2 with ⟨_, e⟩ | ⟨g, cap, cur, rfl, hb, hg, hn, hc, hs, ht⟩
      · omega
      · refine ⟨g, cap, rfl, fun j hj => ?_⟩
        have := h.cells (g := g) rfl j (.string xs[j]) (by simp [strC, hj])
        simpa [Addr.add_lit] using this
    obtain ⟨b, c, rfl, hx⟩ := row hv
    obtain ⟨b2, c2, rfl, hx2⟩ := row hu
    refine (Tryz.slices_Equal_string b 0 xs.length c b2 0 xs.length c2 xs xs w (Nat.le_refl _) (Nat.le_refl _) (by omega) (by omega) (fun j hj => by rw [getD_get hj]; exact hx j hj) (fun j hj => by rw [getD_get hj]; exact hx2 j hj)).mono fun e w' ⟨he, q, hw⟩ => ⟨?_, hw ▸ below_drewS (Below.refl _ _) q⟩
    rw [he, decide_eq_true rfl]

/-- A file that both look up. -/
def gotV (o : Option F) : F × Bool := match o with
  | some f => (f, true)
  | none => (noF, false)
theorem Get_got (w : World) {sb bm : Nat} {L : List F} {c : Int} (p : ByteArray) (r : Option F) (hS : StoreAt w sb bm L c) (hp : p.size ≤ maxLen) (hf : Hid (getR L (bs p) = r)) :
    Calls Tryz.prog 37 #[.pointer (some ⟨sb, 0, none⟩), .string p] w fun e w' => e = .returned (.tuple #[.agg #[.string (str (gotV r).1.p), .string (str (gotV r).1.t), .int .i64 (gotV r).1.c, .bool (gotV r).1.d], .bool (gotV r).2]) ∧ Below w.heap.size w w' := by
  cases r with
  | some f => exact Get_yes w p hS hp hf
  | none => exact Get_no w p hS hp hf
theorem RGet_got (w : World) (v : Value) (c : Int) {L : List F} (p : ByteArray) (r : Option F) (hl : L.length ≤ 100000) (hF : Files w v L) (hs : Sp.Sorted L) (hf : Hid (getR L (bs p) = r)) :
    Calls Tryz.prog 38 #[.agg #[v, .int .i64 c], .string p] w fun e w' => e = .returned (.tuple #[.agg #[.string (str (gotV r).1.p), .string (str (gotV r).1.t), .int .i64 (gotV r).1.c, .bool (gotV r).1.d], .bool (gotV r).2]) ∧ Below w.heap.size w w' := by
  cases r with
  | some f => exact RGet_yes w v c p hl hF hs hf
  | none => exact RGet_no w v c p hl hF hs hf

set_option maxHeartbeats 4000000 in
theorem looks_any (w : World) {sb bm : Nat} {v : Value} {s : St} (p : ByteArray) (hS : StoreAt w sb bm s.L s.c) (hR : RFiles w v s.L) (hF : Fine s) (hC : Closed s.L) (hp : p.size ≤ 50000) :
    Calls Tryz.prog 10 #[.pointer (some ⟨sb, 0, none⟩), .agg #[v, .int .i64 s.c], .string p] w fun e w' => e = .returned (.bool true) ∧ Below w.heap.size w w' := by
  obtain ⟨a, m, cp, rfl⟩ := hR.shape
  have hl : s.L.length ≤ 100000 := by have := hF.len; omega
  have hpm : p.size ≤ maxLen := by unfold maxLen; omega
  have hpath : ∀ f ∈ s.L, f.p.length ≤ 1000000 := fun f hf => by have := hF.path f hf; omega
  have hnames : (strs (listA s.L (bs p)).1).length ≤ 1000000 := by
    rw [strs_len]
    unfold listA
    cases getR s.L (bs p) with
    | none => simp
    | some f =>
      dsimp only
      split
      · rw [List.length_mergeSort]
        have h1 := List.length_filter_le (fun f => dirL f.p == bs p) s.L
        unfold namesIn
        rw [List.length_map]; omega
      · simp
  have hB0 := (Below.refl w.heap.size w).alloc (Nat.le_refl _) (.cells #[.slice a m cp, .int .i64 s.c] TS)
  have hbox := heap_new w (.cells #[.slice a m cp, .int .i64 s.c] TS) rfl
  have hlt0 : w.heap.size < (w.alloc (.cells #[.slice a m cp, .int .i64 s.c] TS)).heap.size := by simp
  have HG := Lib.hid fun (W : World) (hB : Below w.heap.size w W) => Get_got W p _ (hS.below hB) hpm (Lib.hid rfl)
  have HRG := Lib.hid fun (W : World) (hB : Below w.heap.size w W) => RGet_got W (.slice a m cp) s.c p _ hl (hR.below hB).files hF.sorted (Lib.hid rfl)
  have HRd := Lib.hid fun (W : World) (hB : Below w.heap.size w W) => Read_any W p _ (hS.below hB) hpm (Lib.hid rfl)
  have HRR := Lib.hid fun (W : World) (hB : Below w.heap.size w W) => RRead_any W (.slice a m cp) s.c p _ hl (hR.below hB).files hF.sorted (Lib.hid rfl)
  have HL := Lib.hid fun (W : World) (hB : Below w.heap.size w W) => List_any W p (hS.below hB) hpm hpath hl
  have HRL := Lib.hid fun (W : World) (hB : Below w.heap.size w W) => RListA_any W (.slice a m cp) s p hF hC (hR.below hB)
  generalize getR s.L (bs p) = r at *
  obtain ⟨rd, hrd⟩ : ∃ q, readA r = q := ⟨_, rfl⟩
  obtain ⟨ls, hls⟩ : ∃ q, listA s.L (bs p) = q := ⟨_, rfl⟩
  rw [hrd] at HRd HRR
  rw [hls] at HL HRL hnames
  obtain ⟨⟨⟨gp, gt, gc, gd⟩, gb⟩, hq⟩ : ∃ q : F × Bool, gotV r = q := ⟨_, rfl⟩
  rw [hq] at HG HRG
  simp only at HG HRG
  have hgd := guardF
  have hEq := fun W => eql_same ⟨gp, gt, gc, gd⟩ W
  simp only at hEq
  generalize str gp = sp at *
  generalize str gt = sg at *
  obtain ⟨rt, rn⟩ := rd
  obtain ⟨ln, le⟩ := ls
  simp only at HRd HRR HL HRL hnames
  clear hq hrd hls hS hR hF hC
  go_enter Tryz.func10, Tryz.ntmps10
  go_wp2_with fail
  generalize w.alloc (.cells #[.slice a m cp, .int .i64 s.c] TS) = w1 at *
  have HW : Hid (∀ W, Below w1.heap.size w1 W → (W.cell? ⟨w.heap.size, 0, none⟩ = some (.slice a m cp) ∧ W.cell? ⟨w.heap.size, 1, none⟩ = some (.int .i64 s.c) ∧ w.heap.size < W.heap.size)) := Lib.hid fun W hB => ⟨cell_at ((hB.block w.heap.size hlt0).trans hbox) rfl, cell_at ((hB.block w.heap.size hlt0).trans hbox) rfl, Nat.lt_of_lt_of_le hlt0 hB.size⟩
  clear hbox
  refine (HG.out _ hB0).mono ?_
  rintro e w2 ⟨rfl, D2⟩
  have C2 := hB0.trans (D2.mono hB0.size)
  obtain ⟨m0, m1, ml⟩ := HW.out _ D2
  have hfb := heap_new w2 (.cells #[.string sp, .string sg, .int .i64 gc, .bool gd] TF) rfl
  have hfl : w2.heap.size < (w2.alloc (.cells #[.string sp, .string sg, .int .i64 gc, .bool gd] TF)).heap.size := by simp
  have D3 := D2.alloc D2.size (.cells #[.string sp, .string sg, .int .i64 gc, .bool gd] TF)
  have C3 := C2.alloc C2.size (.cells #[.string sp, .string sg, .int .i64 gc, .bool gd] TF)
  go_wp2_with fail
  generalize w2.alloc (.cells #[.string sp, .string sg, .int .i64 gc, .bool gd] TF) = w3 at *
  generalize w2.heap.size = fb at *
  have HFb : Hid (∀ W, Below w3.heap.size w3 W → (W.cell? ⟨fb, 0, none⟩ = some (.string sp) ∧ W.cell? ⟨fb, 1, none⟩ = some (.string sg) ∧ W.cell? ⟨fb, 2, none⟩ = some (.int .i64 gc) ∧ W.cell? ⟨fb, 3, none⟩ = some (.bool gd) ∧ fb < W.heap.size)) := Lib.hid fun W hB => by
    have h := (hB.block fb hfl).trans hfb
    exact ⟨cell_at h rfl, cell_at h rfl, cell_at h rfl, cell_at h rfl, Nat.lt_of_lt_of_le hfl hB.size⟩
  clear hfb m0 m1 ml
  refine (HRG.out _ C3).mono ?_
  rintro e w4 ⟨rfl, E4⟩
  have D4 := D3.trans (E4.mono D3.size)
  have C4 := C3.trans (E4.mono C3.size)
  have hgb := heap_new w4 (.cells #[.string sp, .string sg, .int .i64 gc, .bool gd] TF) rfl
  have hgl : w4.heap.size < (w4.alloc (.cells #[.string sp, .string sg, .int .i64 gc, .bool gd] TF)).heap.size := by simp
  have D5 := D4.alloc D4.size (.cells #[.string sp, .string sg, .int .i64 gc, .bool gd] TF)
  have E5 := E4.alloc E4.size (.cells #[.string sp, .string sg, .int .i64 gc, .bool gd] TF)
  have C5 := C4.alloc C4.size (.cells #[.string sp, .string sg, .int .i64 gc, .bool gd] TF)
  go_wp2_with fail
  generalize w4.alloc (.cells #[.string sp, .string sg, .int .i64 gc, .bool gd] TF) = w5 at *
  generalize w4.heap.size = gbk at *
  have HGb : Hid (∀ W, Below w5.heap.size w5 W → (W.cell? ⟨gbk, 0, none⟩ = some (.string sp) ∧ W.cell? ⟨gbk, 1, none⟩ = some (.string sg) ∧ W.cell? ⟨gbk, 2, none⟩ = some (.int .i64 gc) ∧ W.cell? ⟨gbk, 3, none⟩ = some (.bool gd) ∧ gbk < W.heap.size)) := Lib.hid fun W hB => by
    have h := (hB.block gbk hgl).trans hgb
    exact ⟨cell_at h rfl, cell_at h rfl, cell_at h rfl, cell_at h rfl, Nat.lt_of_lt_of_le hgl hB.size⟩
  clear hgb
  refine (HRd.out _ C5).mono ?_
  rintro e w6 ⟨rfl, F6⟩
  have D6 := D5.trans (F6.mono D5.size)
  have E6 := E5.trans (F6.mono E5.size)
  have C6 := C5.trans (F6.mono C5.size)
  obtain ⟨m0, m1, ml⟩ := HW.out _ D6
  go_wp2_with fail
  refine (HRR.out _ C6).mono ?_
  rintro e w7 ⟨rfl, F7⟩
  have D7 := D6.trans (F7.mono D6.size)
  have E7 := E6.trans (F7.mono E6.size)
  have G7 := F6.trans (F7.mono F6.size)
  have C7 := C6.trans (F7.mono C6.size)
  clear m0 m1 ml
  go_wp2_with fail
  refine (HL.out _ C7).mono ?_
  rintro e w8 ⟨v8, rfl, hr8, F8⟩
  have D8 := D7.trans (F8.mono D7.size)
  have E8 := E7.trans (F8.mono E7.size)
  have G8 := G7.trans (F8.mono G7.size)
  have C8 := C7.trans (F8.mono C7.size)
  obtain ⟨m0, m1, ml⟩ := HW.out _ D8
  go_wp2_with fail
  refine (HRL.out _ C8).mono ?_
  rintro e w9 ⟨v9, rfl, hr9, F9⟩
  have D9 := D8.trans (F9.mono D8.size)
  have E9 := E8.trans (F9.mono E8.size)
  have G9 := G8.trans (F9.mono G8.size)
  have C9 := C8.trans (F9.mono C8.size)
  obtain ⟨f0, f1, f2, f3, fl⟩ := HFb.out _ E9
  obtain ⟨g0, g1, g2, g3, gl⟩ := HGb.out _ G9
  have hr8' := owns_below hr8 F9
  have hE := EqualS_any w9 _ _ v8 v9 (strs ln) hr8' hr9 hnames
  clear m0 m1 ml hr8 hr8' hr9
  go_wp2_with (go_at_call 42; refine hE.mono ?_; rintro e wa ⟨rfl, F10⟩; have C10 := C9.trans (F10.mono C9.size))
  go_ret
  exact ⟨rfl, C10⟩
end Go.Proofs.YtmmilnmlmgcobaaGreatDoor.Sw
