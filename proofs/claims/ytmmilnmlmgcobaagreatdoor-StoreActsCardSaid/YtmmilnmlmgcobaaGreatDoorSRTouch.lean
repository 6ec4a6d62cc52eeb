/-
  The reference's may, whole; its Write and Touch.
  The reference's Write, whole, and its Touch.
-/
import Derived.Test.YtmmilnmlmgcobaaGreatDoorSRMay
import Derived.Test.YtmmilnmlmgcobaaGreatDoorSClosed2
import Derived.Test.YtmmilnmlmgcobaaGreatDoorSWrite
namespace Go.Proofs.YtmmilnmlmgcobaaGreatDoor.Sw
open Go.RowKit Go.Proofs.YtmmilnmlmgcobaaGreatDoor Go.Maps
set_option maxRecDepth 100000

theorem RMay_any (w : World) (v : Value) (c : Int) (L : List F) (p : ByteArray) (hp : p.size ≤ 900000) (hl : L.length ≤ 100000) (h : RFiles w v L) (hs : Sp.Sorted L) :
    Calls Tryz.prog 62 #[.agg #[v, .int .i64 c], .string p] w (IntPost w (placeA L (bs p))) := by
  cases hc : isPath (bs p) with
  | false =>
    have hC := Lib.hid hc
    have en : placeA L (bs p) = 1 := by rw [placeA, if_pos hc]
    rw [en]
    clear hc en
    have hBa := fun x => (Below.refl w.heap.size w).alloc (Nat.le_refl _) x
    go_enter Tryz.func62, Tryz.ntmps62
    go_wp2_with (go_at_call 20; go_must (refine (RClean_is _ p false hp hC).mono ?_); rintro e w1 ⟨rfl, B1⟩)
    go_ret
    exact ⟨rfl, (hBa _).trans (B1.mono (hBa _).size)⟩
  | true =>
    have hC := Lib.hid hc
    by_cases h0 : (p.toList == [46]) = true
    · have en : placeA L (bs p) = 4 := by rw [placeA, if_neg (by simp [hc]), if_pos (bs_is h0)]
      rw [en]
      clear hc en
      have hBa := fun x => (Below.refl w.heap.size w).alloc (Nat.le_refl _) x
      go_enter Tryz.func62, Tryz.ntmps62
      go_wp2_with (go_at_call 20; go_must (refine (RClean_is _ p true hp hC).mono ?_); rintro e w1 ⟨rfl, B1⟩)
      go_ret
      exact ⟨rfl, (hBa _).trans (B1.mono (hBa _).size)⟩
    · have h0' : (p.toList == [46]) = false := by simpa using h0
      obtain ⟨d, hd⟩ : ∃ d : ByteArray, dirL (bs p) = bs d := ⟨str (dirL (bs p)), rfl⟩
      rcases hr : Sp.pos L (bs p) with ⟨r, y⟩
      have hy : y = (Sp.get L (bs p)).isSome := by have := (Sp.pos_get (p := bs p) hs).1; rwa [hr] at this
      have e1 : placeA L (bs p) = match getR L (bs d) with
        | none => 3
        | some d => if d.d = false then 4 else if Sp.get L (bs p) = none ∧ 4096 ≤ L.length then 12 else 0 := by rw [placeA, if_neg (by simp [hc]), if_neg (bs_not h0'), hd]; rfl
      have e2 : (Sp.get L (bs p) = none) = (y = false) := by rw [hy]; cases Sp.get L (bs p) <;> simp
      cases hg : getR L (bs d) with
      | none =>
        refine RMay_get w v c L p d (str noF.p) (str noF.t) noF.c noF.d false r y _ hp hl h hs hC h0' (Lib.hid hd) (Lib.hid hr) (fun W v hF => RGet_no W v c d hl hF hs (Lib.hid hg)) (Lib.hid ?_)
        rw [e1, hg]
        rfl
      | some g =>
        refine RMay_get w v c L p d (str g.p) (str g.t) g.c g.d true r y _ hp hl h hs hC h0' (Lib.hid hd) (Lib.hid hr) (fun W v hF => RGet_yes W v c d hl hF hs (Lib.hid hg)) (Lib.hid ?_)
        rw [e1, hg]
        dsimp only
        simp only [e2]
        rw [if_neg (show ¬ (true = false) by decide)]

theorem later2 {w w1 : World} {o1 o2 : Obj} (B : Below ((w.alloc o1).alloc o2).heap.size ((w.alloc o1).alloc o2) w1) :
    w1.heap[w.heap.size]? = some o1 ∧ w1.heap[w.heap.size + 1]? = some o2 := by
  have hz1 : (w.alloc o1).heap.size = w.heap.size + 1 := by simp
  exact ⟨(B.block w.heap.size (by simp; omega)).trans ((Below.heap_alloc _ _ _ (by simp)).trans (heap_new _ _ rfl)), (B.block (w.heap.size + 1) (by simp)).trans (heap_new _ _ hz1)⟩

/-- The two boxes of a call that answers a store: its own store, its answer. -/
structure Two (W : World) (n : Nat) (v : Value) (c : Int) : Prop where
  lt : n + 2 ≤ W.heap.size
  H0 : W.heap[n]? = some (.cells #[v, .int .i64 c] 34)
  H1 : W.heap[n + 1]? = some (.cells #[.slice none 0 0, .int .i64 0] 34)
theorem Two.below {W W' : World} {n : Nat} {v : Value} {c : Int} (h : Two W n v c) (hB : Below (n + 2) W W') : Two W' n v c :=
  ⟨Nat.le_trans h.lt hB.size, (hB.block n (by omega)).trans h.H0, (hB.block (n + 1) (by omega)).trans h.H1⟩
theorem Two.new (w : World) (v : Value) (c : Int) : Two ((w.alloc (.cells #[v, .int .i64 c] 34)).alloc (.cells #[.slice none 0 0, .int .i64 0] 34)) w.heap.size v c := by
  obtain ⟨a, b⟩ := later2 (Below.refl _ ((w.alloc (.cells #[v, .int .i64 c] 34)).alloc (.cells #[.slice none 0 0, .int .i64 0] 34)))
  exact ⟨by simp, a, b⟩
theorem Two.cells {W : World} {n : Nat} {v : Value} {c : Int} (h : Two W n v c) :
    (n < W.heap.size ∧ n + 1 < W.heap.size) ∧ (W.cell? ⟨n, 0, none⟩ = some v ∧ W.cell? ⟨n, 1, none⟩ = some (.int .i64 c)) ∧
    (W.cell? ⟨n + 1, 0, none⟩ = some (.slice none 0 0) ∧ W.cell? ⟨n + 1, 1, none⟩ = some (.int .i64 0) ∧ W.frozen? ⟨n + 1, 0, none⟩ = false ∧ W.frozen? ⟨n + 1, 1, none⟩ = false) := by
  have := h.lt
  exact ⟨⟨by omega, by omega⟩, ⟨cell_at h.H0 rfl, cell_at h.H0 rfl⟩, ⟨cell_at h.H1 rfl, cell_at h.H1 rfl, frozen_at h.H1 0, frozen_at h.H1 1⟩⟩
theorem Two.answer {W : World} {n : Nat} {v : Value} {c : Int} (h : Two W n v c) (v' : Value) (c' : Int) :
    (((W.setCell ⟨n + 1, 0, none⟩ v').setCell ⟨n + 1, 1, none⟩ (.int .i64 c')).cell? ⟨n + 1, 0, none⟩ = some v' ∧ ((W.setCell ⟨n + 1, 0, none⟩ v').setCell ⟨n + 1, 1, none⟩ (.int .i64 c')).cell? ⟨n + 1, 1, none⟩ = some (.int .i64 c')) ∧
    ∀ o, (((W.setCell ⟨n + 1, 0, none⟩ v').setCell ⟨n + 1, 1, none⟩ (.int .i64 c')).alloc o).cell? ⟨n + 1, 0, none⟩ = some v' ∧ (((W.setCell ⟨n + 1, 0, none⟩ v').setCell ⟨n + 1, 1, none⟩ (.int .i64 c')).alloc o).cell? ⟨n + 1, 1, none⟩ = some (.int .i64 c') := by
  obtain ⟨_, _, ⟨r0, r1, _, _⟩⟩ := h.cells
  have a0 := (World.cell?_setCell_other (W.setCell ⟨n + 1, 0, none⟩ v') ⟨n + 1, 1, none⟩ ⟨n + 1, 0, none⟩ (.int .i64 c') (by simp)).trans (World.cell?_setCell_same _ _ v' r0)
  have a1 := World.cell?_setCell_same _ _ (.int .i64 c') ((World.cell?_setCell_other W ⟨n + 1, 0, none⟩ ⟨n + 1, 1, none⟩ v' (by simp)).trans r1)
  have hz : ((W.setCell ⟨n + 1, 0, none⟩ v').setCell ⟨n + 1, 1, none⟩ (.int .i64 c')).heap.size = W.heap.size := by simp [World.setCell]
  have hb := fun o => (Below.refl (n + 2) ((W.setCell ⟨n + 1, 0, none⟩ v').setCell ⟨n + 1, 1, none⟩ (.int .i64 c'))).alloc (by rw [hz]; exact h.lt) o
  exact ⟨⟨a0, a1⟩, fun o => ⟨((hb o).cell (p := ⟨n + 1, 0, none⟩) (by simp)).trans a0, ((hb o).cell (p := ⟨n + 1, 1, none⟩) (by simp)).trans a1⟩⟩

set_option maxHeartbeats 1000000 in
theorem RWrite_bad (w : World) (v : Value) (s : St) (p t : ByteArray) (more : Bool) (hp : p.size ≤ 900000) (hl : s.L.length ≤ 100000) (h : RFiles w v s.L) (hs : Sp.Sorted s.L) (n : Int) (hn : Hid (placeA s.L (bs p) = n)) (h0 : ¬ n = 0) :
    Calls Tryz.prog 27 #[.agg #[v, .int .i64 s.c], .string p, .string t, .bool more] w (RPost w v (s, n)) := by
  obtain ⟨a, m, cp, rfl⟩ := h.shape
  obtain ⟨L, c⟩ := s
  have hBa := fun x y => ((Below.refl w.heap.size w).alloc (Nat.le_refl _) x).alloc (by simp) y
  have hT := Two.new w (.slice a m cp) c
  go_enter Tryz.func27, Tryz.ntmps27
  go_wp2_with (go_at_call 62; refine (RMay_any _ _ c L p hp hl (h.below (hBa _ _)) hs).mono ?_; rw [hn.out]; rintro e w1 ⟨rfl, B1⟩; have hT1 := hT.below (B1.mono (by simp)); have hB1 := (hBa _ _).trans (B1.mono (hBa _ _).size); obtain ⟨⟨q0, q1⟩, ⟨m0, m1⟩, ⟨r0, r1, z0, z1⟩⟩ := hT1.cells)
  have hB2 := (hB1.setCell (p := ⟨w.heap.size + 1, 0, none⟩) (by simp) (.slice a m cp)).setCell (p := ⟨w.heap.size + 1, 1, none⟩) (by simp) (.int .i64 c)
  exact bodyPost_ret (v := .tuple #[.agg #[.slice a m cp, .int .i64 c], .int .i64 n]) (by simp [results, Tryz.results27, go_sem, r0, r1]) rfl ⟨_, rfl, h.below hB2, .inl rfl, hB2⟩

set_option maxHeartbeats 1000000 in
theorem RWrite_dir (w : World) (v : Value) (s : St) (p t gp gt : ByteArray) (gc : Int) (ok more : Bool) (hp : p.size ≤ 900000) (hl : s.L.length ≤ 100000) (h : RFiles w v s.L) (hs : Sp.Sorted s.L) (hn : Hid (placeA s.L (bs p) = 0))
    (hG : ∀ W v, Files W v s.L → Calls Tryz.prog 38 #[.agg #[v, .int .i64 s.c], .string p] W fun e w' => e = .returned (.tuple #[.agg #[.string gp, .string gt, .int .i64 gc, .bool true], .bool ok]) ∧ Below W.heap.size W w') :
    Calls Tryz.prog 27 #[.agg #[v, .int .i64 s.c], .string p, .string t, .bool more] w (RPost w v (s, 4)) := by
  obtain ⟨a, m, cp, rfl⟩ := h.shape
  obtain ⟨L, c⟩ := s
  have hBa := fun x y => ((Below.refl w.heap.size w).alloc (Nat.le_refl _) x).alloc (by simp) y
  have hT := Two.new w (.slice a m cp) c
  go_enter Tryz.func27, Tryz.ntmps27
  go_wp2_with (first
    | (go_at_call 62; refine (RMay_any _ _ c L p hp hl (h.below (hBa _ _)) hs).mono ?_; rw [hn.out]; rintro e w1 ⟨rfl, B1⟩; have hT1 := hT.below (B1.mono (by simp)); have hB1 := (hBa _ _).trans (B1.mono (hBa _ _).size); obtain ⟨⟨q0, q1⟩, ⟨m0, m1⟩, ⟨r0, r1, z0, z1⟩⟩ := hT1.cells)
    | (go_at_call 38; refine (hG _ _ (h.below hB1).files).mono ?_; rintro e w2 ⟨rfl, B2⟩; have hT2 := hT1.below (B2.mono hT1.lt); have hB2 := hB1.trans (B2.mono hB1.size); obtain ⟨⟨q0, q1⟩, ⟨m0, m1⟩, ⟨r0, r1, z0, z1⟩⟩ := hT2.cells))
  have hB3 := fun o => ((hB2.setCell (p := ⟨w.heap.size + 1, 0, none⟩) (by simp) (.slice a m cp)).setCell (p := ⟨w.heap.size + 1, 1, none⟩) (by simp) (.int .i64 c)).alloc ((hB2.setCell (p := ⟨w.heap.size + 1, 0, none⟩) (by simp) (.slice a m cp)).setCell (p := ⟨w.heap.size + 1, 1, none⟩) (by simp) (.int .i64 c)).size o
  have hx := (hT2.answer (.slice a m cp) c).2
  exact bodyPost_ret (v := .tuple #[.agg #[.slice a m cp, .int .i64 c], .int .i64 4]) (by simp [results, Tryz.results27, go_sem, (hx _).1, (hx _).2]) rfl ⟨_, rfl, h.below (hB3 _), .inl rfl, hB3 _⟩

set_option maxHeartbeats 1000000 in
theorem RWrite_long (w : World) (v : Value) (s : St) (p t gp gt : ByteArray) (gc : Int) (ok more : Bool) (hp : p.size ≤ 900000) (hl : s.L.length ≤ 100000) (h : RFiles w v s.L) (hs : Sp.Sorted s.L) (hn : Hid (placeA s.L (bs p) = 0))
    (hG : ∀ W v, Files W v s.L → Calls Tryz.prog 38 #[.agg #[v, .int .i64 s.c], .string p] W fun e w' => e = .returned (.tuple #[.agg #[.string gp, .string gt, .int .i64 gc, .bool false], .bool ok]) ∧ Below W.heap.size W w') (hgt : gt.size ≤ 2000000) (ht : t.size ≤ 1048576)
    (hlong : 1048576 < (if more then gt ++ t else t).size) :
    Calls Tryz.prog 27 #[.agg #[v, .int .i64 s.c], .string p, .string t, .bool more] w (RPost w v (s, 12)) := by
  obtain ⟨a, m, cp, rfl⟩ := h.shape
  obtain ⟨L, c⟩ := s
  have hBa := fun x y => ((Below.refl w.heap.size w).alloc (Nat.le_refl _) x).alloc (by simp) y
  have hT := Two.new w (.slice a m cp) c
  cases more with
  | false => exact absurd hlong (by simp; omega)
  | true =>
    replace hlong : 1048576 < (gt ++ t).size := hlong
    have hlong2 : (1048576 : Int) < (gt.size : Int) + t.size := by rw [ByteArray.size_append] at hlong; omega
    clear hlong
    have hm : (gt ++ t).size ≤ maxLen := by rw [ByteArray.size_append]; unfold maxLen; omega
    go_enter Tryz.func27, Tryz.ntmps27
    go_wp2_with (first
    | (go_at_call 62; refine (RMay_any _ _ c L p hp hl (h.below (hBa _ _)) hs).mono ?_; rw [hn.out]; rintro e w1 ⟨rfl, B1⟩; have hT1 := hT.below (B1.mono (by simp)); have hB1 := (hBa _ _).trans (B1.mono (hBa _ _).size); obtain ⟨⟨q0, q1⟩, ⟨m0, m1⟩, ⟨r0, r1, z0, z1⟩⟩ := hT1.cells)
    | (go_at_call 38; refine (hG _ _ (h.below hB1).files).mono ?_; rintro e w2 ⟨rfl, B2⟩; have hT2 := hT1.below (B2.mono hT1.lt); have hB2 := hB1.trans (B2.mono hB1.size); obtain ⟨⟨q0, q1⟩, ⟨m0, m1⟩, ⟨r0, r1, z0, z1⟩⟩ := hT2.cells))
    have hB3 := fun o => ((hB2.setCell (p := ⟨w.heap.size + 1, 0, none⟩) (by simp) (.slice a m cp)).setCell (p := ⟨w.heap.size + 1, 1, none⟩) (by simp) (.int .i64 c)).alloc ((hB2.setCell (p := ⟨w.heap.size + 1, 0, none⟩) (by simp) (.slice a m cp)).setCell (p := ⟨w.heap.size + 1, 1, none⟩) (by simp) (.int .i64 c)).size o
    have hx := (hT2.answer (.slice a m cp) c).2
    exact bodyPost_ret (v := .tuple #[.agg #[.slice a m cp, .int .i64 c], .int .i64 12]) (by simp [results, Tryz.results27, go_sem, (hx _).1, (hx _).2]) rfl ⟨_, rfl, h.below (hB3 _), .inl rfl, hB3 _⟩

set_option maxHeartbeats 1000000 in
theorem RWrite_put (w : World) (v : Value) (s : St) (p t gp gt : ByteArray) (gc : Int) (ok more : Bool) (hp : p.size ≤ 900000) (hl : s.L.length ≤ 100000) (h : RFiles w v s.L) (hs : Sp.Sorted s.L) (hn : Hid (placeA s.L (bs p) = 0))
    (hG : ∀ W v, Files W v s.L → Calls Tryz.prog 38 #[.agg #[v, .int .i64 s.c], .string p] W fun e w' => e = .returned (.tuple #[.agg #[.string gp, .string gt, .int .i64 gc, .bool false], .bool ok]) ∧ Below W.heap.size W w') (_hgt : gt.size ≤ 2000000) (ht : t.size ≤ 1048576)
    (c0 : 0 ≤ s.c) (c1 : s.c < 4611686018427387904) (hlong : (if more then gt ++ t else t).size ≤ 1048576) :
    Calls Tryz.prog 27 #[.agg #[v, .int .i64 s.c], .string p, .string t, .bool more] w (RPost w v (putA s ⟨bs p, bs (if more then gt ++ t else t), 0, false⟩)) := by
  obtain ⟨a, m, cp, rfl⟩ := h.shape
  obtain ⟨L, c⟩ := s
  have hBa := fun x y => ((Below.refl w.heap.size w).alloc (Nat.le_refl _) x).alloc (by simp) y
  have hT := Two.new w (.slice a m cp) c
  generalize hq : putA ⟨L, c⟩ ⟨bs p, bs (if more then gt ++ t else t), 0, false⟩ = q at *
  have hQ := Lib.hid hq
  clear hq
  cases more with
  | false =>
    have hlong2 : ¬ (1048576 : Int) < t.size := by simp at hlong; omega
    have hm : t.size ≤ maxLen := by unfold maxLen; omega
    go_enter Tryz.func27, Tryz.ntmps27
    go_wp2_with (first
    | (go_at_call 62; refine (RMay_any _ _ c L p hp hl (h.below (hBa _ _)) hs).mono ?_; rw [hn.out]; rintro e w1 ⟨rfl, B1⟩; have hT1 := hT.below (B1.mono (by simp)); have hB1 := (hBa _ _).trans (B1.mono (hBa _ _).size); obtain ⟨⟨q0, q1⟩, ⟨m0, m1⟩, ⟨r0, r1, z0, z1⟩⟩ := hT1.cells)
    | (go_at_call 38; refine (hG _ _ (h.below hB1).files).mono ?_; rintro e w2 ⟨rfl, B2⟩; have hT2 := hT1.below (B2.mono hT1.lt); have hB2 := hB1.trans (B2.mono hB1.size); obtain ⟨⟨q0, q1⟩, ⟨m0, m1⟩, ⟨r0, r1, z0, z1⟩⟩ := hT2.cells))
    have hB3 := hB2.alloc hB2.size (.cells #[.string gp, .string gt, .int .i64 gc, .bool false] 26)
    refine (RPut_any _ _ ⟨L, c⟩ p t 0 false hl (h.below hB3) c0 c1).mono ?_
    rw [show putA ⟨L, c⟩ ⟨bs p, bs t, 0, false⟩ = q from hQ.out]
    rintro e w4 ⟨v4, rfl, hR4, hv4, B4⟩
    have hT3 := hT2.below ((Below.refl (w.heap.size + 2) w2).alloc hT2.lt (.cells #[.string gp, .string gt, .int .i64 gc, .bool false] 26))
    have hT4 := hT3.below (B4.mono hT3.lt)
    have hB4 := hB3.trans (B4.mono hB3.size)
    have hne : ∀ b, v4.ownBlock = some b → b ≠ w.heap.size + 1 := fun b hb => by
      rcases hv4 with rfl | hv4
      · have := h.lt b hb; omega
      · have := hv4 b hb; have := hT3.lt; omega
    have hv0 : v4 = .slice a m cp ∨ ∀ b, v4.ownBlock = some b → w.heap.size ≤ b := by
      rcases hv4 with rfl | hv4
      · exact .inl rfl
      · exact .inr fun b hb => by have := hv4 b hb; have := hB3.size; omega
    clear hT hT1 hT2 hT3 hv4 B4 B2 B1 q0 q1 m0 m1 r0 r1 z0 z1
    obtain ⟨⟨q0, q1⟩, ⟨m0, m1⟩, ⟨r0, r1, z0, z1⟩⟩ := hT4.cells
    obtain ⟨a4, m4, cp4, rfl⟩ := hR4.shape
    go_wp2
    have hx := (hT4.answer (.slice a4 m4 cp4) q.1.c).1
    have hB5 := (hB4.setCell (p := ⟨w.heap.size + 1, 0, none⟩) (by simp) (.slice a4 m4 cp4)).setCell (p := ⟨w.heap.size + 1, 1, none⟩) (by simp) (.int .i64 q.1.c)
    exact bodyPost_ret (v := .tuple #[.agg #[.slice a4 m4 cp4, .int .i64 q.1.c], .int .i64 q.2]) (by simp [results, Tryz.results27, go_sem, hx.1, hx.2]) rfl ⟨_, rfl, (hR4.setCell _ _ _ hne).setCell _ _ _ hne, hv0, hB5⟩
  | true =>
    replace hlong : (gt ++ t).size ≤ 1048576 := hlong
    have hlong2 : ¬ (1048576 : Int) < (gt.size : Int) + t.size := by rw [ByteArray.size_append] at hlong; omega
    clear hlong
    have hm : (gt ++ t).size ≤ maxLen := by rw [ByteArray.size_append]; unfold maxLen; omega
    go_enter Tryz.func27, Tryz.ntmps27
    go_wp2_with (first
    | (go_at_call 62; refine (RMay_any _ _ c L p hp hl (h.below (hBa _ _)) hs).mono ?_; rw [hn.out]; rintro e w1 ⟨rfl, B1⟩; have hT1 := hT.below (B1.mono (by simp)); have hB1 := (hBa _ _).trans (B1.mono (hBa _ _).size); obtain ⟨⟨q0, q1⟩, ⟨m0, m1⟩, ⟨r0, r1, z0, z1⟩⟩ := hT1.cells)
    | (go_at_call 38; refine (hG _ _ (h.below hB1).files).mono ?_; rintro e w2 ⟨rfl, B2⟩; have hT2 := hT1.below (B2.mono hT1.lt); have hB2 := hB1.trans (B2.mono hB1.size); obtain ⟨⟨q0, q1⟩, ⟨m0, m1⟩, ⟨r0, r1, z0, z1⟩⟩ := hT2.cells))
    have hB3 := hB2.alloc hB2.size (.cells #[.string gp, .string gt, .int .i64 gc, .bool false] 26)
    refine (RPut_any _ _ ⟨L, c⟩ p (gt ++ t) 0 false hl (h.below hB3) c0 c1).mono ?_
    rw [show putA ⟨L, c⟩ ⟨bs p, bs (gt ++ t), 0, false⟩ = q from hQ.out]
    rintro e w4 ⟨v4, rfl, hR4, hv4, B4⟩
    have hT3 := hT2.below ((Below.refl (w.heap.size + 2) w2).alloc hT2.lt (.cells #[.string gp, .string gt, .int .i64 gc, .bool false] 26))
    have hT4 := hT3.below (B4.mono hT3.lt)
    have hB4 := hB3.trans (B4.mono hB3.size)
    have hne : ∀ b, v4.ownBlock = some b → b ≠ w.heap.size + 1 := fun b hb => by
      rcases hv4 with rfl | hv4
      · have := h.lt b hb; omega
      · have := hv4 b hb; have := hT3.lt; omega
    have hv0 : v4 = .slice a m cp ∨ ∀ b, v4.ownBlock = some b → w.heap.size ≤ b := by
      rcases hv4 with rfl | hv4
      · exact .inl rfl
      · exact .inr fun b hb => by have := hv4 b hb; have := hB3.size; omega
    clear hT hT1 hT2 hT3 hv4 B4 B2 B1 q0 q1 m0 m1 r0 r1 z0 z1
    obtain ⟨⟨q0, q1⟩, ⟨m0, m1⟩, ⟨r0, r1, z0, z1⟩⟩ := hT4.cells
    obtain ⟨a4, m4, cp4, rfl⟩ := hR4.shape
    go_wp2
    have hx := (hT4.answer (.slice a4 m4 cp4) q.1.c).1
    have hB5 := (hB4.setCell (p := ⟨w.heap.size + 1, 0, none⟩) (by simp) (.slice a4 m4 cp4)).setCell (p := ⟨w.heap.size + 1, 1, none⟩) (by simp) (.int .i64 q.1.c)
    exact bodyPost_ret (v := .tuple #[.agg #[.slice a4 m4 cp4, .int .i64 q.1.c], .int .i64 q.2]) (by simp [results, Tryz.results27, go_sem, hx.1, hx.2]) rfl ⟨_, rfl, (hR4.setCell _ _ _ hne).setCell _ _ _ hne, hv0, hB5⟩
end Go.Proofs.YtmmilnmlmgcobaaGreatDoor.Sw
namespace Go.Proofs.YtmmilnmlmgcobaaGreatDoor.Sw
open Go.RowKit Go.Proofs.YtmmilnmlmgcobaaGreatDoor Go.Maps
set_option maxRecDepth 100000

theorem RWrite_any (w : World) (v : Value) (s : St) (p t : ByteArray) (more : Bool) (hF : Fine s) (hp : p.size ≤ 900000) (ht : t.size ≤ 1048576) (h : RFiles w v s.L) :
    Calls Tryz.prog 27 #[.agg #[v, .int .i64 s.c], .string p, .string t, .bool more] w (RPost w v (writeA s (bs p) (bs t) more)) := by
  have hl : s.L.length ≤ 100000 := by have := hF.len; omega
  have hs := hF.sorted
  by_cases h0 : placeA s.L (bs p) = 0
  · have hgr := getR_ne (L := s.L) (ok_ne_root h0)
    have key : ∀ (f : F) (ok : Bool), (Sp.get s.L (bs p)).getD noF = f → (∀ W v, Files W v s.L → Calls Tryz.prog 38 #[.agg #[v, .int .i64 s.c], .string p] W fun e w' => e = .returned (.tuple #[fV f, .bool ok]) ∧ Below W.heap.size W w') →
        Calls Tryz.prog 27 #[.agg #[v, .int .i64 s.c], .string p, .string t, .bool more] w (RPost w v (writeA s (bs p) (bs t) more)) := by
      intro f ok hf hG
      have hft : f.t.length ≤ 1048576 := by rw [← hf]; exact text_of hF _
      obtain ⟨fp, ft, fc, fd⟩ := f
      have hft : ft.length ≤ 1048576 := hft
      have hgs : (str ft).size ≤ 2000000 := by rw [str_len]; omega
      have hwr : writeA s (bs p) (bs t) more = if fd = true then (s, 4) else if 1048576 < (if more then str ft ++ t else t).size then (s, 12) else putA s ⟨bs p, bs (if more then str ft ++ t else t), 0, false⟩ := by
        rw [writeA_ok h0]
        dsimp only
        rw [hf]
        cases more with
        | true =>
          show (if fd = true then (s, (4 : Int)) else if 1048576 < ft.length + (bs t).length then (s, 12) else putA s ⟨bs p, ft ++ bs t, 0, false⟩) = if fd = true then (s, 4) else if 1048576 < (str ft ++ t).size then (s, 12) else putA s ⟨bs p, bs (str ft ++ t), 0, false⟩
          rw [bs_app, bs_str, ByteArray.size_append, str_len, bs_len]
        | false =>
          show (if fd = true then (s, (4 : Int)) else if 1048576 < ([] : List UInt8).length + (bs t).length then (s, 12) else putA s ⟨bs p, [] ++ bs t, 0, false⟩) = if fd = true then (s, 4) else if 1048576 < t.size then (s, 12) else putA s ⟨bs p, bs t, 0, false⟩
          rw [List.nil_append, bs_len, List.length_nil, Nat.zero_add]
      rw [hwr]
      cases fd with
      | true =>
        rw [if_pos rfl]
        exact RWrite_dir w v s p t (str fp) (str ft) fc ok more hp hl h hs (Lib.hid h0) hG
      | false =>
        rw [if_neg (by decide)]
        by_cases hlong : 1048576 < (if more then str ft ++ t else t).size
        · rw [if_pos hlong]
          exact RWrite_long w v s p t (str fp) (str ft) fc ok more hp hl h hs (Lib.hid h0) hG hgs ht hlong
        · rw [if_neg hlong]
          exact RWrite_put w v s p t (str fp) (str ft) fc ok more hp hl h hs (Lib.hid h0) hG hgs ht hF.c0 hF.c1 (by omega)
    cases hg : Sp.get s.L (bs p) with
    | none => exact key noF false (by rw [hg]; rfl) fun W v hf => RGet_no W v s.c p hl hf hs (Lib.hid (by rw [hgr, hg]))
    | some f => exact key f true (by rw [hg]; rfl) fun W v hf => RGet_yes W v s.c p hl hf hs (Lib.hid (by rw [hgr, hg]))
  · rw [writeA_bad h0]
    exact RWrite_bad w v s p t more hp hl h hs _ (Lib.hid rfl) h0

/-- The end of a call that hands on another call's store. -/
theorem RPost.ends {w W : World} {v0 v4 : Value} {L0 : List F} {n : Nat} (h : RFiles w v0 L0) (hn : n = w.heap.size) (hB : Below w.heap.size w W) (hT : n + 2 ≤ W.heap.size)
    (hv4 : v4 = v0 ∨ ∀ b, v4.ownBlock = some b → W.heap.size ≤ b) : (∀ b, v4.ownBlock = some b → b ≠ n + 1) ∧ (v4 = v0 ∨ ∀ b, v4.ownBlock = some b → w.heap.size ≤ b) := by
  subst hn
  constructor
  · intro b hb
    rcases hv4 with rfl | hv4
    · have := h.lt b hb; omega
    · have := hv4 b hb; omega
  · rcases hv4 with rfl | hv4
    · exact .inl rfl
    · exact .inr fun b hb => by have := hv4 b hb; have := hB.size; omega

set_option maxHeartbeats 1000000 in
theorem RTouch_none (w : World) (v : Value) (s : St) (p gp gt : ByteArray) (gc : Int) (hF : Fine s) (hp : p.size ≤ 900000) (h : RFiles w v s.L)
    (hG : ∀ W v, Files W v s.L → Calls Tryz.prog 38 #[.agg #[v, .int .i64 s.c], .string p] W fun e w' => e = .returned (.tuple #[.agg #[.string gp, .string gt, .int .i64 gc, .bool false], .bool false]) ∧ Below W.heap.size W w') :
    Calls Tryz.prog 29 #[.agg #[v, .int .i64 s.c], .string p] w (RPost w v (writeA s (bs p) (bs ⟨#[]⟩) true)) := by
  obtain ⟨a, m, cp, rfl⟩ := h.shape
  obtain ⟨L, c⟩ := s
  have hl : L.length ≤ 100000 := by have := hF.len; simp at this; omega
  have hBa := fun x y => ((Below.refl w.heap.size w).alloc (Nat.le_refl _) x).alloc (by simp) y
  have hT := Two.new w (.slice a m cp) c
  generalize hq : writeA ⟨L, c⟩ (bs p) (bs ⟨#[]⟩) true = q at *
  have hQ := Lib.hid hq
  clear hq
  go_enter Tryz.func29, Tryz.ntmps29
  go_wp2_with (go_at_call 38; refine (hG _ _ (h.below (hBa _ _)).files).mono ?_; rintro e w1 ⟨rfl, B1⟩; have hT1 := hT.below (B1.mono (by simp)); have hB1 := (hBa _ _).trans (B1.mono (hBa _ _).size); obtain ⟨⟨q0, q1⟩, ⟨m0, m1⟩, ⟨r0, r1, z0, z1⟩⟩ := hT1.cells)
  have hB3 := hB1.alloc hB1.size (.cells #[.string gp, .string gt, .int .i64 gc, .bool false] 26)
  refine (RWrite_any _ _ ⟨L, c⟩ p ⟨#[]⟩ true hF hp (by decide) (h.below hB3)).mono ?_
  rw [show writeA ⟨L, c⟩ (bs p) (bs ⟨#[]⟩) true = q from hQ.out]
  rintro e w4 ⟨v4, rfl, hR4, hv4, B4⟩
  have hT3 := hT1.below ((Below.refl (w.heap.size + 2) w1).alloc hT1.lt (.cells #[.string gp, .string gt, .int .i64 gc, .bool false] 26))
  have hT4 := hT3.below (B4.mono hT3.lt)
  have hB4 := hB3.trans (B4.mono hB3.size)
  obtain ⟨hne, hv0⟩ := RPost.ends h rfl hB3 hT3.lt hv4
  clear hT hT1 hT3 hv4 B4 B1 q0 q1 m0 m1 r0 r1 z0 z1
  obtain ⟨⟨q0, q1⟩, ⟨m0, m1⟩, ⟨r0, r1, z0, z1⟩⟩ := hT4.cells
  obtain ⟨a4, m4, cp4, rfl⟩ := hR4.shape
  go_wp2
  have hx := (hT4.answer (.slice a4 m4 cp4) q.1.c).1
  have hB5 := (hB4.setCell (p := ⟨w.heap.size + 1, 0, none⟩) (by simp) (.slice a4 m4 cp4)).setCell (p := ⟨w.heap.size + 1, 1, none⟩) (by simp) (.int .i64 q.1.c)
  exact bodyPost_ret (v := .tuple #[.agg #[.slice a4 m4 cp4, .int .i64 q.1.c], .int .i64 q.2]) (by simp [results, Tryz.results29, go_sem, hx.1, hx.2]) rfl ⟨_, rfl, (hR4.setCell _ _ _ hne).setCell _ _ _ hne, hv0, hB5⟩

set_option maxHeartbeats 1000000 in
theorem RTouch_file (w : World) (v : Value) (s : St) (p gp gt : ByteArray) (gc : Int) (hF : Fine s) (hp : p.size ≤ 900000) (h : RFiles w v s.L)
    (hG : ∀ W v, Files W v s.L → Calls Tryz.prog 38 #[.agg #[v, .int .i64 s.c], .string p] W fun e w' => e = .returned (.tuple #[.agg #[.string gp, .string gt, .int .i64 gc, .bool false], .bool true]) ∧ Below W.heap.size W w') :
    Calls Tryz.prog 29 #[.agg #[v, .int .i64 s.c], .string p] w (RPost w v (writeA s (bs p) (bs ⟨#[]⟩) true)) := by
  obtain ⟨a, m, cp, rfl⟩ := h.shape
  obtain ⟨L, c⟩ := s
  have hl : L.length ≤ 100000 := by have := hF.len; simp at this; omega
  have hBa := fun x y => ((Below.refl w.heap.size w).alloc (Nat.le_refl _) x).alloc (by simp) y
  have hT := Two.new w (.slice a m cp) c
  generalize hq : writeA ⟨L, c⟩ (bs p) (bs ⟨#[]⟩) true = q at *
  have hQ := Lib.hid hq
  clear hq
  go_enter Tryz.func29, Tryz.ntmps29
  go_wp2_with (go_at_call 38; refine (hG _ _ (h.below (hBa _ _)).files).mono ?_; rintro e w1 ⟨rfl, B1⟩; have hT1 := hT.below (B1.mono (by simp)); have hB1 := (hBa _ _).trans (B1.mono (hBa _ _).size); obtain ⟨⟨q0, q1⟩, ⟨m0, m1⟩, ⟨r0, r1, z0, z1⟩⟩ := hT1.cells)
  have hB3 := hB1.alloc hB1.size (.cells #[.string gp, .string gt, .int .i64 gc, .bool false] 26)
  refine (RWrite_any _ _ ⟨L, c⟩ p ⟨#[]⟩ true hF hp (by decide) (h.below hB3)).mono ?_
  rw [show writeA ⟨L, c⟩ (bs p) (bs ⟨#[]⟩) true = q from hQ.out]
  rintro e w4 ⟨v4, rfl, hR4, hv4, B4⟩
  have hT3 := hT1.below ((Below.refl (w.heap.size + 2) w1).alloc hT1.lt (.cells #[.string gp, .string gt, .int .i64 gc, .bool false] 26))
  have hT4 := hT3.below (B4.mono hT3.lt)
  have hB4 := hB3.trans (B4.mono hB3.size)
  obtain ⟨hne, hv0⟩ := RPost.ends h rfl hB3 hT3.lt hv4
  clear hT hT1 hT3 hv4 B4 B1 q0 q1 m0 m1 r0 r1 z0 z1
  obtain ⟨⟨q0, q1⟩, ⟨m0, m1⟩, ⟨r0, r1, z0, z1⟩⟩ := hT4.cells
  obtain ⟨a4, m4, cp4, rfl⟩ := hR4.shape
  go_wp2
  have hx := (hT4.answer (.slice a4 m4 cp4) q.1.c).1
  have hB5 := (hB4.setCell (p := ⟨w.heap.size + 1, 0, none⟩) (by simp) (.slice a4 m4 cp4)).setCell (p := ⟨w.heap.size + 1, 1, none⟩) (by simp) (.int .i64 q.1.c)
  exact bodyPost_ret (v := .tuple #[.agg #[.slice a4 m4 cp4, .int .i64 q.1.c], .int .i64 q.2]) (by simp [results, Tryz.results29, go_sem, hx.1, hx.2]) rfl ⟨_, rfl, (hR4.setCell _ _ _ hne).setCell _ _ _ hne, hv0, hB5⟩

set_option maxHeartbeats 1000000 in
theorem RTouch_root (w : World) (v : Value) (s : St) (p gp gt : ByteArray) (gc : Int) (hF : Fine s) (hp : p.size ≤ 900000) (h : RFiles w v s.L) (h0 : (p.toList == [46]) = true)
    (hG : ∀ W v, Files W v s.L → Calls Tryz.prog 38 #[.agg #[v, .int .i64 s.c], .string p] W fun e w' => e = .returned (.tuple #[.agg #[.string gp, .string gt, .int .i64 gc, .bool true], .bool true]) ∧ Below W.heap.size W w') :
    Calls Tryz.prog 29 #[.agg #[v, .int .i64 s.c], .string p] w (RPost w v (writeA s (bs p) (bs ⟨#[]⟩) true)) := by
  obtain ⟨a, m, cp, rfl⟩ := h.shape
  obtain ⟨L, c⟩ := s
  have hl : L.length ≤ 100000 := by have := hF.len; simp at this; omega
  have hBa := fun x y => ((Below.refl w.heap.size w).alloc (Nat.le_refl _) x).alloc (by simp) y
  have hT := Two.new w (.slice a m cp) c
  generalize hq : writeA ⟨L, c⟩ (bs p) (bs ⟨#[]⟩) true = q at *
  have hQ := Lib.hid hq
  clear hq
  go_enter Tryz.func29, Tryz.ntmps29
  go_wp2_with (go_at_call 38; refine (hG _ _ (h.below (hBa _ _)).files).mono ?_; rintro e w1 ⟨rfl, B1⟩; have hT1 := hT.below (B1.mono (by simp)); have hB1 := (hBa _ _).trans (B1.mono (hBa _ _).size); obtain ⟨⟨q0, q1⟩, ⟨m0, m1⟩, ⟨r0, r1, z0, z1⟩⟩ := hT1.cells)
  have hB3 := hB1.alloc hB1.size (.cells #[.string gp, .string gt, .int .i64 gc, .bool true] 26)
  refine (RWrite_any _ _ ⟨L, c⟩ p ⟨#[]⟩ true hF hp (by decide) (h.below hB3)).mono ?_
  rw [show writeA ⟨L, c⟩ (bs p) (bs ⟨#[]⟩) true = q from hQ.out]
  rintro e w4 ⟨v4, rfl, hR4, hv4, B4⟩
  have hT3 := hT1.below ((Below.refl (w.heap.size + 2) w1).alloc hT1.lt (.cells #[.string gp, .string gt, .int .i64 gc, .bool true] 26))
  have hT4 := hT3.below (B4.mono hT3.lt)
  have hB4 := hB3.trans (B4.mono hB3.size)
  obtain ⟨hne, hv0⟩ := RPost.ends h rfl hB3 hT3.lt hv4
  clear hT hT1 hT3 hv4 B4 B1 q0 q1 m0 m1 r0 r1 z0 z1
  obtain ⟨⟨q0, q1⟩, ⟨m0, m1⟩, ⟨r0, r1, z0, z1⟩⟩ := hT4.cells
  obtain ⟨a4, m4, cp4, rfl⟩ := hR4.shape
  go_wp2
  have hx := (hT4.answer (.slice a4 m4 cp4) q.1.c).1
  have hB5 := (hB4.setCell (p := ⟨w.heap.size + 1, 0, none⟩) (by simp) (.slice a4 m4 cp4)).setCell (p := ⟨w.heap.size + 1, 1, none⟩) (by simp) (.int .i64 q.1.c)
  exact bodyPost_ret (v := .tuple #[.agg #[.slice a4 m4 cp4, .int .i64 q.1.c], .int .i64 q.2]) (by simp [results, Tryz.results29, go_sem, hx.1, hx.2]) rfl ⟨_, rfl, (hR4.setCell _ _ _ hne).setCell _ _ _ hne, hv0, hB5⟩

set_option maxHeartbeats 1000000 in
theorem RTouch_dir (w : World) (v : Value) (s : St) (p gp gt : ByteArray) (gc : Int) (hF : Fine s) (_hp : p.size ≤ 900000) (h : RFiles w v s.L) (h0 : (p.toList == [46]) = false)
    (hG : ∀ W v, Files W v s.L → Calls Tryz.prog 38 #[.agg #[v, .int .i64 s.c], .string p] W fun e w' => e = .returned (.tuple #[.agg #[.string gp, .string gt, .int .i64 gc, .bool true], .bool true]) ∧ Below W.heap.size W w') :
    Calls Tryz.prog 29 #[.agg #[v, .int .i64 s.c], .string p] w (RPost w v (putA s ⟨bs gp, bs gt, gc, true⟩)) := by
  obtain ⟨a, m, cp, rfl⟩ := h.shape
  obtain ⟨L, c⟩ := s
  have hl : L.length ≤ 100000 := by have := hF.len; simp at this; omega
  have hBa := fun x y => ((Below.refl w.heap.size w).alloc (Nat.le_refl _) x).alloc (by simp) y
  have hT := Two.new w (.slice a m cp) c
  generalize hq : putA ⟨L, c⟩ ⟨bs gp, bs gt, gc, true⟩ = q at *
  have hQ := Lib.hid hq
  clear hq
  go_enter Tryz.func29, Tryz.ntmps29
  go_wp2_with (go_at_call 38; refine (hG _ _ (h.below (hBa _ _)).files).mono ?_; rintro e w1 ⟨rfl, B1⟩; have hT1 := hT.below (B1.mono (by simp)); have hB1 := (hBa _ _).trans (B1.mono (hBa _ _).size); obtain ⟨⟨q0, q1⟩, ⟨m0, m1⟩, ⟨r0, r1, z0, z1⟩⟩ := hT1.cells)
  have hB3 := hB1.alloc hB1.size (.cells #[.string gp, .string gt, .int .i64 gc, .bool true] 26)
  refine (RPut_any _ _ ⟨L, c⟩ gp gt gc true hl (h.below hB3) hF.c0 hF.c1).mono ?_
  rw [show putA ⟨L, c⟩ ⟨bs gp, bs gt, gc, true⟩ = q from hQ.out]
  rintro e w4 ⟨v4, rfl, hR4, hv4, B4⟩
  have hT3 := hT1.below ((Below.refl (w.heap.size + 2) w1).alloc hT1.lt (.cells #[.string gp, .string gt, .int .i64 gc, .bool true] 26))
  have hT4 := hT3.below (B4.mono hT3.lt)
  have hB4 := hB3.trans (B4.mono hB3.size)
  obtain ⟨hne, hv0⟩ := RPost.ends h rfl hB3 hT3.lt hv4
  clear hT hT1 hT3 hv4 B4 B1 q0 q1 m0 m1 r0 r1 z0 z1
  obtain ⟨⟨q0, q1⟩, ⟨m0, m1⟩, ⟨r0, r1, z0, z1⟩⟩ := hT4.cells
  obtain ⟨a4, m4, cp4, rfl⟩ := hR4.shape
  go_wp2
  have hx := (hT4.answer (.slice a4 m4 cp4) q.1.c).1
  have hB5 := (hB4.setCell (p := ⟨w.heap.size + 1, 0, none⟩) (by simp) (.slice a4 m4 cp4)).setCell (p := ⟨w.heap.size + 1, 1, none⟩) (by simp) (.int .i64 q.1.c)
  exact bodyPost_ret (v := .tuple #[.agg #[.slice a4 m4 cp4, .int .i64 q.1.c], .int .i64 q.2]) (by simp [results, Tryz.results29, go_sem, hx.1, hx.2]) rfl ⟨_, rfl, (hR4.setCell _ _ _ hne).setCell _ _ _ hne, hv0, hB5⟩

theorem RTouch_any (w : World) (v : Value) (s : St) (p : ByteArray) (hF : Fine s) (hp : p.size ≤ 900000) (h : RFiles w v s.L) :
    Calls Tryz.prog 29 #[.agg #[v, .int .i64 s.c], .string p] w (RPost w v (touchA s (bs p))) := by
  have hl : s.L.length ≤ 100000 := by have := hF.len; omega
  rw [← touch_eq]
  unfold rTouch
  cases hg : getR s.L (bs p) with
  | none => exact RTouch_none w v s p (str noF.p) (str noF.t) noF.c hF hp h fun W v hf => RGet_no W v s.c p hl hf hF.sorted (Lib.hid hg)
  | some f =>
    obtain ⟨fp, ft, fc, fd⟩ := f
    have hG := fun W v hf => RGet_yes W v s.c p hl hf hF.sorted (Lib.hid hg)
    dsimp only
    cases fd with
    | false =>
      rw [if_neg (by simp)]
      exact RTouch_file w v s p (str fp) (str ft) fc hF hp h hG
    | true =>
      by_cases h0 : (p.toList == [46]) = true
      · rw [if_neg (by rw [bs_is h0]; simp)]
        exact RTouch_root w v s p (str fp) (str ft) fc hF hp h h0 hG
      · have h0 : (p.toList == [46]) = false := by simpa using h0
        rw [if_pos ⟨rfl, bs_not h0⟩]
        exact RTouch_dir w v s p (str fp) (str ft) fc hF hp h h0 hG
end Go.Proofs.YtmmilnmlmgcobaaGreatDoor.Sw
