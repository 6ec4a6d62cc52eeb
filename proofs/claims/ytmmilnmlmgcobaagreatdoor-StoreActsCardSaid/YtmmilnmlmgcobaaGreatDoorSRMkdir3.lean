/-
  The reference's Mkdir.
  The reference's Mkdir of all, behind its own call.
  The reference's Mkdir, whole.
-/
import Derived.Test.YtmmilnmlmgcobaaGreatDoorSRTouch
import Derived.Test.YtmmilnmlmgcobaaGreatDoorSMkdir
namespace Go.Proofs.YtmmilnmlmgcobaaGreatDoor.Sw
open Go.RowKit Go.Proofs.YtmmilnmlmgcobaaGreatDoor Go.Maps
set_option maxRecDepth 100000


set_option maxHeartbeats 1000000 in
theorem RMkdir_bad (w : World) (v : Value) (s : St) (p _gp _gt : ByteArray) (_gc : Int) (all : Bool) (hF : Fine s) (hp : p.size ≤ 900000) (h : RFiles w v s.L) (hC : Hid (isPath (bs p) = false)) :
    Calls Tryz.prog 30 #[.agg #[v, .int .i64 s.c], .string p, .bool all] w (RPost w v (s, 1)) := by
  obtain ⟨a, m, cp, rfl⟩ := h.shape
  obtain ⟨L, c⟩ := s
  have hl : L.length ≤ 100000 := by have := hF.len; simp at this; omega
  have hBa := fun x y => ((Below.refl w.heap.size w).alloc (Nat.le_refl _) x).alloc (by simp) y
  have hT := Two.new w (.slice a m cp) c
  go_enter Tryz.func30, Tryz.ntmps30
  go_wp2_with (go_at_call 20; refine (RClean_is _ p false hp hC).mono ?_; rintro e w1 ⟨rfl, B1⟩; have hT1 := hT.below (B1.mono (by simp)); have hB1 := (hBa _ _).trans (B1.mono (hBa _ _).size); obtain ⟨⟨q0, q1⟩, ⟨m0, m1⟩, ⟨r0, r1, z0, z1⟩⟩ := hT1.cells)
  have hB3 := (hB1.setCell (p := ⟨w.heap.size + 1, 0, none⟩) (by simp) (.slice a m cp)).setCell (p := ⟨w.heap.size + 1, 1, none⟩) (by simp) (.int .i64 c)
  have hx := (hT1.answer (.slice a m cp) c).1
  exact bodyPost_ret (v := .tuple #[.agg #[.slice a m cp, .int .i64 c], .int .i64 1]) (by simp [results, Tryz.results30, go_sem, hx.1, hx.2]) rfl ⟨_, rfl, h.below hB3, .inl rfl, hB3⟩

set_option maxHeartbeats 1000000 in
theorem RMkdir_there (w : World) (v : Value) (s : St) (p gp gt : ByteArray) (gc : Int) (_all : Bool) (hF : Fine s) (hp : p.size ≤ 900000) (h : RFiles w v s.L) (hC : Hid (isPath (bs p) = true))
    (hG : ∀ W v, Files W v s.L → Calls Tryz.prog 38 #[.agg #[v, .int .i64 s.c], .string p] W fun e w' => e = .returned (.tuple #[.agg #[.string gp, .string gt, .int .i64 gc, .bool true], .bool true]) ∧ Below W.heap.size W w') :
    Calls Tryz.prog 30 #[.agg #[v, .int .i64 s.c], .string p, .bool true] w (RPost w v (s, 0)) := by
  obtain ⟨a, m, cp, rfl⟩ := h.shape
  obtain ⟨L, c⟩ := s
  have hl : L.length ≤ 100000 := by have := hF.len; simp at this; omega
  have hBa := fun x y => ((Below.refl w.heap.size w).alloc (Nat.le_refl _) x).alloc (by simp) y
  have hT := Two.new w (.slice a m cp) c
  go_enter Tryz.func30, Tryz.ntmps30
  go_wp2_with (first | (go_at_call 20; refine (RClean_is _ p true hp hC).mono ?_; rintro e w1 ⟨rfl, B1⟩; have hT1 := hT.below (B1.mono (by simp)); have hB1 := (hBa _ _).trans (B1.mono (hBa _ _).size); obtain ⟨⟨q0, q1⟩, ⟨m0, m1⟩, ⟨r0, r1, z0, z1⟩⟩ := hT1.cells) | (go_at_call 38; refine (hG _ _ (h.below hB1).files).mono ?_; rintro e w2 ⟨rfl, B2⟩; have hT2 := hT1.below (B2.mono hT1.lt); have hB2 := hB1.trans (B2.mono hB1.size); obtain ⟨⟨q0, q1⟩, ⟨m0, m1⟩, ⟨r0, r1, z0, z1⟩⟩ := hT2.cells))
  have hB3 := ((hB2.setCell (p := ⟨w.heap.size + 1, 0, none⟩) (by simp) (.slice a m cp)).setCell (p := ⟨w.heap.size + 1, 1, none⟩) (by simp) (.int .i64 c)).alloc ((hB2.setCell (p := ⟨w.heap.size + 1, 0, none⟩) (by simp) (.slice a m cp)).setCell (p := ⟨w.heap.size + 1, 1, none⟩) (by simp) (.int .i64 c)).size (.cells #[.string gp, .string gt, .int .i64 gc, .bool true] 26)
  have hx := (hT2.answer (.slice a m cp) c).2 (.cells #[.string gp, .string gt, .int .i64 gc, .bool true] 26)
  exact bodyPost_ret (v := .tuple #[.agg #[.slice a m cp, .int .i64 c], .int .i64 0]) (by simp [results, Tryz.results30, go_sem, hx.1, hx.2]) rfl ⟨_, rfl, h.below hB3, .inl rfl, hB3⟩

set_option maxHeartbeats 1000000 in
theorem RMkdir_dir (w : World) (v : Value) (s : St) (p gp gt : ByteArray) (gc : Int) (_all : Bool) (hF : Fine s) (hp : p.size ≤ 900000) (h : RFiles w v s.L) (hC : Hid (isPath (bs p) = true))
    (hG : ∀ W v, Files W v s.L → Calls Tryz.prog 38 #[.agg #[v, .int .i64 s.c], .string p] W fun e w' => e = .returned (.tuple #[.agg #[.string gp, .string gt, .int .i64 gc, .bool true], .bool true]) ∧ Below W.heap.size W w') :
    Calls Tryz.prog 30 #[.agg #[v, .int .i64 s.c], .string p, .bool false] w (RPost w v (s, 4)) := by
  obtain ⟨a, m, cp, rfl⟩ := h.shape
  obtain ⟨L, c⟩ := s
  have hl : L.length ≤ 100000 := by have := hF.len; simp at this; omega
  have hBa := fun x y => ((Below.refl w.heap.size w).alloc (Nat.le_refl _) x).alloc (by simp) y
  have hT := Two.new w (.slice a m cp) c
  go_enter Tryz.func30, Tryz.ntmps30
  go_wp2_with (first | (go_at_call 20; refine (RClean_is _ p true hp hC).mono ?_; rintro e w1 ⟨rfl, B1⟩; have hT1 := hT.below (B1.mono (by simp)); have hB1 := (hBa _ _).trans (B1.mono (hBa _ _).size); obtain ⟨⟨q0, q1⟩, ⟨m0, m1⟩, ⟨r0, r1, z0, z1⟩⟩ := hT1.cells) | (go_at_call 38; refine (hG _ _ (h.below hB1).files).mono ?_; rintro e w2 ⟨rfl, B2⟩; have hT2 := hT1.below (B2.mono hT1.lt); have hB2 := hB1.trans (B2.mono hB1.size); obtain ⟨⟨q0, q1⟩, ⟨m0, m1⟩, ⟨r0, r1, z0, z1⟩⟩ := hT2.cells))
  have hB3 := ((hB2.setCell (p := ⟨w.heap.size + 1, 0, none⟩) (by simp) (.slice a m cp)).setCell (p := ⟨w.heap.size + 1, 1, none⟩) (by simp) (.int .i64 c)).alloc ((hB2.setCell (p := ⟨w.heap.size + 1, 0, none⟩) (by simp) (.slice a m cp)).setCell (p := ⟨w.heap.size + 1, 1, none⟩) (by simp) (.int .i64 c)).size (.cells #[.string gp, .string gt, .int .i64 gc, .bool true] 26)
  have hx := (hT2.answer (.slice a m cp) c).2 (.cells #[.string gp, .string gt, .int .i64 gc, .bool true] 26)
  exact bodyPost_ret (v := .tuple #[.agg #[.slice a m cp, .int .i64 c], .int .i64 4]) (by simp [results, Tryz.results30, go_sem, hx.1, hx.2]) rfl ⟨_, rfl, h.below hB3, .inl rfl, hB3⟩

set_option maxHeartbeats 1000000 in
theorem RMkdir_file (w : World) (v : Value) (s : St) (p gp gt : ByteArray) (gc : Int) (all : Bool) (hF : Fine s) (hp : p.size ≤ 900000) (h : RFiles w v s.L) (hC : Hid (isPath (bs p) = true))
    (hG : ∀ W v, Files W v s.L → Calls Tryz.prog 38 #[.agg #[v, .int .i64 s.c], .string p] W fun e w' => e = .returned (.tuple #[.agg #[.string gp, .string gt, .int .i64 gc, .bool false], .bool true]) ∧ Below W.heap.size W w') :
    Calls Tryz.prog 30 #[.agg #[v, .int .i64 s.c], .string p, .bool all] w (RPost w v (s, 4)) := by
  obtain ⟨a, m, cp, rfl⟩ := h.shape
  obtain ⟨L, c⟩ := s
  have hl : L.length ≤ 100000 := by have := hF.len; simp at this; omega
  have hBa := fun x y => ((Below.refl w.heap.size w).alloc (Nat.le_refl _) x).alloc (by simp) y
  have hT := Two.new w (.slice a m cp) c
  go_enter Tryz.func30, Tryz.ntmps30
  go_wp2_with (first | (go_at_call 20; refine (RClean_is _ p true hp hC).mono ?_; rintro e w1 ⟨rfl, B1⟩; have hT1 := hT.below (B1.mono (by simp)); have hB1 := (hBa _ _).trans (B1.mono (hBa _ _).size); obtain ⟨⟨q0, q1⟩, ⟨m0, m1⟩, ⟨r0, r1, z0, z1⟩⟩ := hT1.cells) | (go_at_call 38; refine (hG _ _ (h.below hB1).files).mono ?_; rintro e w2 ⟨rfl, B2⟩; have hT2 := hT1.below (B2.mono hT1.lt); have hB2 := hB1.trans (B2.mono hB1.size); obtain ⟨⟨q0, q1⟩, ⟨m0, m1⟩, ⟨r0, r1, z0, z1⟩⟩ := hT2.cells))
  have hB3 := ((hB2.setCell (p := ⟨w.heap.size + 1, 0, none⟩) (by simp) (.slice a m cp)).setCell (p := ⟨w.heap.size + 1, 1, none⟩) (by simp) (.int .i64 c)).alloc ((hB2.setCell (p := ⟨w.heap.size + 1, 0, none⟩) (by simp) (.slice a m cp)).setCell (p := ⟨w.heap.size + 1, 1, none⟩) (by simp) (.int .i64 c)).size (.cells #[.string gp, .string gt, .int .i64 gc, .bool false] 26)
  have hx := (hT2.answer (.slice a m cp) c).2 (.cells #[.string gp, .string gt, .int .i64 gc, .bool false] 26)
  exact bodyPost_ret (v := .tuple #[.agg #[.slice a m cp, .int .i64 c], .int .i64 4]) (by simp [results, Tryz.results30, go_sem, hx.1, hx.2]) rfl ⟨_, rfl, h.below hB3, .inl rfl, hB3⟩

set_option maxHeartbeats 1000000 in
theorem RMkdir_one_no (w : World) (v : Value) (s : St) (p gp gt : ByteArray) (gc : Int) (_all : Bool) (hF : Fine s) (hp : p.size ≤ 900000) (h : RFiles w v s.L) (hC : Hid (isPath (bs p) = true)) (n : Int) (hn : Hid (placeA s.L (bs p) = n)) (h0 : ¬ n = 0)
    (hG : ∀ W v, Files W v s.L → Calls Tryz.prog 38 #[.agg #[v, .int .i64 s.c], .string p] W fun e w' => e = .returned (.tuple #[.agg #[.string gp, .string gt, .int .i64 gc, .bool false], .bool false]) ∧ Below W.heap.size W w') :
    Calls Tryz.prog 30 #[.agg #[v, .int .i64 s.c], .string p, .bool false] w (RPost w v (s, n)) := by
  obtain ⟨a, m, cp, rfl⟩ := h.shape
  obtain ⟨L, c⟩ := s
  have hl : L.length ≤ 100000 := by have := hF.len; simp at this; omega
  have hBa := fun x y => ((Below.refl w.heap.size w).alloc (Nat.le_refl _) x).alloc (by simp) y
  have hT := Two.new w (.slice a m cp) c
  go_enter Tryz.func30, Tryz.ntmps30
  go_wp2_with (first | (go_at_call 20; refine (RClean_is _ p true hp hC).mono ?_; rintro e w1 ⟨rfl, B1⟩; have hT1 := hT.below (B1.mono (by simp)); have hB1 := (hBa _ _).trans (B1.mono (hBa _ _).size); obtain ⟨⟨q0, q1⟩, ⟨m0, m1⟩, ⟨r0, r1, z0, z1⟩⟩ := hT1.cells) | (go_at_call 38; refine (hG _ _ (h.below hB1).files).mono ?_; rintro e w2 ⟨rfl, B2⟩; have hT2 := hT1.below (B2.mono hT1.lt); have hB2 := hB1.trans (B2.mono hB1.size); obtain ⟨⟨q0, q1⟩, ⟨m0, m1⟩, ⟨r0, r1, z0, z1⟩⟩ := hT2.cells; have hB2a := hB2.alloc hB2.size (.cells #[.string gp, .string gt, .int .i64 gc, .bool false] 26); have hT2a := hT2.below ((Below.refl (w.heap.size + 2) w2).alloc hT2.lt (.cells #[.string gp, .string gt, .int .i64 gc, .bool false] 26))) | (go_at_call 62; refine (RMay_any _ _ c L p hp hl (h.below hB2a) hF.sorted).mono ?_; rw [hn.out]; rintro e w3 ⟨rfl, B3⟩; have hT3 := hT2a.below (B3.mono hT2a.lt); have hB3 := hB2a.trans (B3.mono hB2a.size); obtain ⟨⟨q0, q1⟩, ⟨m0, m1⟩, ⟨r0, r1, z0, z1⟩⟩ := hT3.cells))
  have hB4 := (hB3.setCell (p := ⟨w.heap.size + 1, 0, none⟩) (by simp) (.slice a m cp)).setCell (p := ⟨w.heap.size + 1, 1, none⟩) (by simp) (.int .i64 c)
  have hx := (hT3.answer (.slice a m cp) c).1
  exact bodyPost_ret (v := .tuple #[.agg #[.slice a m cp, .int .i64 c], .int .i64 n]) (by simp [results, Tryz.results30, go_sem, hx.1, hx.2]) rfl ⟨_, rfl, h.below hB4, .inl rfl, hB4⟩

set_option maxHeartbeats 1000000 in
theorem RMkdir_one (w : World) (v : Value) (s : St) (p gp gt : ByteArray) (gc : Int) (_all : Bool) (hF : Fine s) (hp : p.size ≤ 900000) (h : RFiles w v s.L) (hC : Hid (isPath (bs p) = true)) (hn : Hid (placeA s.L (bs p) = 0))
    (hG : ∀ W v, Files W v s.L → Calls Tryz.prog 38 #[.agg #[v, .int .i64 s.c], .string p] W fun e w' => e = .returned (.tuple #[.agg #[.string gp, .string gt, .int .i64 gc, .bool false], .bool false]) ∧ Below W.heap.size W w') :
    Calls Tryz.prog 30 #[.agg #[v, .int .i64 s.c], .string p, .bool false] w (RPost w v (putA s ⟨bs p, [], 0, true⟩)) := by
  obtain ⟨a, m, cp, rfl⟩ := h.shape
  obtain ⟨L, c⟩ := s
  have hl : L.length ≤ 100000 := by have := hF.len; simp at this; omega
  have hBa := fun x y => ((Below.refl w.heap.size w).alloc (Nat.le_refl _) x).alloc (by simp) y
  have hT := Two.new w (.slice a m cp) c
  generalize hq : putA ⟨L, c⟩ ⟨bs p, [], 0, true⟩ = q at *
  have hQ := Lib.hid hq
  clear hq
  go_enter Tryz.func30, Tryz.ntmps30
  go_wp2_with (first | (go_at_call 20; refine (RClean_is _ p true hp hC).mono ?_; rintro e w1 ⟨rfl, B1⟩; have hT1 := hT.below (B1.mono (by simp)); have hB1 := (hBa _ _).trans (B1.mono (hBa _ _).size); obtain ⟨⟨q0, q1⟩, ⟨m0, m1⟩, ⟨r0, r1, z0, z1⟩⟩ := hT1.cells) | (go_at_call 38; refine (hG _ _ (h.below hB1).files).mono ?_; rintro e w2 ⟨rfl, B2⟩; have hT2 := hT1.below (B2.mono hT1.lt); have hB2 := hB1.trans (B2.mono hB1.size); obtain ⟨⟨q0, q1⟩, ⟨m0, m1⟩, ⟨r0, r1, z0, z1⟩⟩ := hT2.cells; have hB2a := hB2.alloc hB2.size (.cells #[.string gp, .string gt, .int .i64 gc, .bool false] 26); have hT2a := hT2.below ((Below.refl (w.heap.size + 2) w2).alloc hT2.lt (.cells #[.string gp, .string gt, .int .i64 gc, .bool false] 26))) | (go_at_call 62; refine (RMay_any _ _ c L p hp hl (h.below hB2a) hF.sorted).mono ?_; rw [hn.out]; rintro e w3 ⟨rfl, B3⟩; have hT3 := hT2a.below (B3.mono hT2a.lt); have hB3 := hB2a.trans (B3.mono hB2a.size); obtain ⟨⟨q0, q1⟩, ⟨m0, m1⟩, ⟨r0, r1, z0, z1⟩⟩ := hT3.cells))
  refine (RPut_any _ _ ⟨L, c⟩ p ⟨#[]⟩ 0 true hl (h.below hB3) hF.c0 hF.c1).mono ?_
  rw [show putA ⟨L, c⟩ ⟨bs p, bs ⟨#[]⟩, 0, true⟩ = q from hQ.out]
  rintro e w4 ⟨v4, rfl, hR4, hv4, B4⟩
  have hT4 := hT3.below (B4.mono hT3.lt)
  have hB4 := hB3.trans (B4.mono hB3.size)
  obtain ⟨hne, hv0⟩ := RPost.ends h rfl hB3 hT3.lt hv4
  clear hT hT1 hT2 hT2a hT3 hv4 B4 B3 B2 B1 q0 q1 m0 m1 r0 r1 z0 z1
  obtain ⟨⟨q0, q1⟩, ⟨m0, m1⟩, ⟨r0, r1, z0, z1⟩⟩ := hT4.cells
  obtain ⟨a4, m4, cp4, rfl⟩ := hR4.shape
  go_wp2
  have hx := (hT4.answer (.slice a4 m4 cp4) q.1.c).1
  have hB5 := (hB4.setCell (p := ⟨w.heap.size + 1, 0, none⟩) (by simp) (.slice a4 m4 cp4)).setCell (p := ⟨w.heap.size + 1, 1, none⟩) (by simp) (.int .i64 q.1.c)
  exact bodyPost_ret (v := .tuple #[.agg #[.slice a4 m4 cp4, .int .i64 q.1.c], .int .i64 q.2]) (by simp [results, Tryz.results30, go_sem, hx.1, hx.2]) rfl ⟨_, rfl, (hR4.setCell _ _ _ hne).setCell _ _ _ hne, hv0, hB5⟩
end Go.Proofs.YtmmilnmlmgcobaaGreatDoor.Sw
namespace Go.Proofs.YtmmilnmlmgcobaaGreatDoor.Sw
open Go.RowKit Go.Proofs.YtmmilnmlmgcobaaGreatDoor Go.Maps
set_option maxRecDepth 100000

theorem zero_store {w w1 : World} (hB : Below (w.alloc (.cells #[.slice none 0 0, .int .i64 0] 34)).heap.size (w.alloc (.cells #[.slice none 0 0, .int .i64 0] 34)) w1) :
    (w1.cell? ⟨w.heap.size, 0, none⟩ = some (.slice none 0 0) ∧ w1.cell? ⟨w.heap.size, 1, none⟩ = some (.int .i64 0)) ∧
    (w1.frozen? ⟨w.heap.size, 0, none⟩ = false ∧ w1.frozen? ⟨w.heap.size, 1, none⟩ = false) ∧ w.heap.size < w1.heap.size := by
  have h1 := (hB.block w.heap.size (by simp)).trans (heap_new w (.cells #[.slice none 0 0, .int .i64 0] 34) rfl)
  exact ⟨⟨cell_at h1 rfl, cell_at h1 rfl⟩, ⟨frozen_at h1 0, frozen_at h1 1⟩, (Array.getElem?_eq_some_iff.1 h1).1⟩

theorem Two.put {W : World} {n : Nat} {v : Value} {c : Int} (h : Two W n v c) (v' : Value) (c' : Int) : Two ((W.setCell ⟨n, 0, none⟩ v').setCell ⟨n, 1, none⟩ (.int .i64 c')) n v' c' := by
  have hc := h.H0
  refine ⟨by simpa [World.setCell] using h.lt, by simp [World.setCell, Array.getElem?_modify, hc], ?_⟩
  rw [heap_setCell_other _ _ _ _ (by simp), heap_setCell_other _ _ _ _ (by simp)]
  exact h.H1

/-- Where the walk stands behind the region: the caller's two boxes, the box of the new store, its list. -/
structure Rec (w w3 W : World) (b : Nat) (v v5 : Value) (c : Int) (t : St) : Prop where
  two : Two W w.heap.size v c
  x0 : W.cell? ⟨b, 0, none⟩ = some v5
  x1 : W.cell? ⟨b, 1, none⟩ = some (.int .i64 t.c)
  blt : b < W.heap.size
  bge : w.heap.size + 2 ≤ b
  files : RFiles W v5 t.L
  old : v5 = v ∨ ∀ b, v5.ownBlock = some b → w.heap.size + 2 ≤ b
  below : Below w3.heap.size w3 W

theorem Rec.last {w w3 wb : World} {v v5 : Value} {c : Int} {t : St} (hT : Two w3 w.heap.size v c) (D2 : Below w3.heap.size w3 wb) (hR : RFiles wb v5 t.L) (hv : v5 = v ∨ ∀ b, v5.ownBlock = some b → w3.heap.size ≤ b) :
    Rec w w3 (wb.alloc (.cells #[v5, .int .i64 t.c] 34)) wb.heap.size v v5 c t := by
  have D3 := D2.alloc D2.size (.cells #[v5, .int .i64 t.c] 34)
  have hl := hT.lt
  have hl2 := D2.size
  have hn := heap_new wb (.cells #[v5, .int .i64 t.c] 34) rfl
  refine ⟨hT.below (D3.mono hT.lt), cell_at hn rfl, cell_at hn rfl, by simp, by omega, hR.below ((Below.refl _ _).alloc (Nat.le_refl _) _), ?_, D3⟩
  rcases hv with hv | hv
  · exact .inl hv
  · exact .inr fun b hb => by have := hv b hb; omega

theorem Rec.sets {w w3 wb : World} {b : Nat} {v v5 : Value} {c : Int} {t : St} {u0 u1 : Value} (hT : Two w3 w.heap.size v c) (D2 : Below w3.heap.size w3 wb) (hR : RFiles wb v5 t.L) (hv : v5 = v ∨ ∀ k, v5.ownBlock = some k → b < k)
    (hv3 : v5 = v ∨ ∀ b, v5.ownBlock = some b → w3.heap.size ≤ b) (hv0 : ∀ k, v.ownBlock = some k → k < w.heap.size) (hb : w3.heap.size ≤ b) (hlt : b < wb.heap.size) (d0 : wb.cell? ⟨b, 0, none⟩ = some u0) (d1 : wb.cell? ⟨b, 1, none⟩ = some u1) :
    Rec w w3 ((wb.setCell ⟨b, 0, none⟩ v5).setCell ⟨b, 1, none⟩ (.int .i64 t.c)) b v v5 c t := by
  have D3 := (D2.setCell (p := ⟨b, 0, none⟩) hb v5).setCell (p := ⟨b, 1, none⟩) hb (.int .i64 t.c)
  have hl := hT.lt
  have hne : ∀ k, v5.ownBlock = some k → k ≠ b := fun k hk => by
    rcases hv with rfl | hv
    · have := hv0 k hk; omega
    · have := hv k hk; omega
  refine ⟨hT.below (D3.mono hT.lt), ?_, ?_, by simpa [World.setCell] using hlt, by omega, (hR.setCell _ _ _ hne).setCell _ _ _ hne, ?_, D3⟩
  · exact (World.cell?_setCell_other (wb.setCell ⟨b, 0, none⟩ v5) ⟨b, 1, none⟩ ⟨b, 0, none⟩ (.int .i64 t.c) (by simp)).trans (World.cell?_setCell_same _ _ v5 d0)
  · exact World.cell?_setCell_same _ _ (.int .i64 t.c) ((World.cell?_setCell_other wb ⟨b, 0, none⟩ ⟨b, 1, none⟩ v5 (by simp)).trans d1)
  · rcases hv3 with hv | hv
    · exact .inl hv
    · exact .inr fun b hb => by have := hv b hb; omega

theorem Rec.ends {w w3 W : World} {b : Nat} {v v5 : Value} {c : Int} {t : St} (h : Rec w w3 W b v v5 c t) (hv0 : ∀ k, v.ownBlock = some k → k < w.heap.size) :
    (∀ k, v5.ownBlock = some k → k ≠ w.heap.size) ∧ (∀ k, v5.ownBlock = some k → k ≠ w.heap.size + 1) ∧ (v5 = v ∨ ∀ k, v5.ownBlock = some k → w.heap.size ≤ k) := by
  refine ⟨fun k hk => ?_, fun k hk => ?_, ?_⟩
  · rcases h.old with rfl | h
    · have := hv0 k hk; omega
    · have := h k hk; omega
  · rcases h.old with rfl | h
    · have := hv0 k hk; omega
    · have := h k hk; omega
  · rcases h.old with h | h
    · exact .inl h
    · exact .inr fun k hk => by have := h k hk; omega

set_option maxHeartbeats 1000000 in
theorem RMkdir_rec_bad (w : World) (v : Value) (s : St) (p gp gt : ByteArray) (gc : Int) (_all : Bool) (hF : Fine s) (hp : p.size ≤ 900000) (h : RFiles w v s.L) (hC : Hid (isPath (bs p) = true)) (d : ByteArray) (hd : Hid (dirL (bs p) = bs d)) (t : St) (n : Int) (hRec : ∀ W, Below w.heap.size w W → Calls Tryz.prog 30 #[.agg #[v, .int .i64 s.c], .string d, .bool true] W (RPost W v (t, n))) (h0 : ¬ n = 0)
    (hG : ∀ W v, Files W v s.L → Calls Tryz.prog 38 #[.agg #[v, .int .i64 s.c], .string p] W fun e w' => e = .returned (.tuple #[.agg #[.string gp, .string gt, .int .i64 gc, .bool false], .bool false]) ∧ Below W.heap.size W w') :
    Calls Tryz.prog 30 #[.agg #[v, .int .i64 s.c], .string p, .bool true] w (RPost w v (t, n)) := by
  obtain ⟨a, m, cp, rfl⟩ := h.shape
  obtain ⟨L, c⟩ := s
  have hl : L.length ≤ 100000 := by have := hF.len; simp at this; omega
  have hBa := fun x y => ((Below.refl w.heap.size w).alloc (Nat.le_refl _) x).alloc (by simp) y
  have hT := Two.new w (.slice a m cp) c
  go_enter Tryz.func30, Tryz.ntmps30
  go_wp2_with (first | (go_at_call 20; refine (RClean_is _ p true hp hC).mono ?_; rintro e w1 ⟨rfl, B1⟩; have hT1 := hT.below (B1.mono (by simp)); have hB1 := (hBa _ _).trans (B1.mono (hBa _ _).size); obtain ⟨⟨q0, q1⟩, ⟨m0, m1⟩, ⟨r0, r1, z0, z1⟩⟩ := hT1.cells) | (go_at_call 38; refine (hG _ _ (h.below hB1).files).mono ?_; rintro e w2 ⟨rfl, B2⟩; have hT2 := hT1.below (B2.mono hT1.lt); have hB2 := hB1.trans (B2.mono hB1.size); obtain ⟨⟨q0, q1⟩, ⟨m0, m1⟩, ⟨r0, r1, z0, z1⟩⟩ := hT2.cells; have hB3 := hB2.alloc hB2.size (.cells #[.string gp, .string gt, .int .i64 gc, .bool false] 26); have hT3 := hT2.below ((Below.refl (w.heap.size + 2) w2).alloc hT2.lt (.cells #[.string gp, .string gt, .int .i64 gc, .bool false] 26))))
  generalize w2.alloc (.cells #[.string gp, .string gt, .int .i64 gc, .bool false] 26) = w3 at *
  clear q0 q1 m0 m1 r0 r1 z0 z1
  obtain ⟨⟨q0, q1⟩, ⟨m0, m1⟩, ⟨r0, r1, z0, z1⟩⟩ := hT3.cells
  have hv00 := h.lt
  have HT := Lib.hid hT3
  have HB := Lib.hid hB3
  have HS : Hid (∀ w', Below w3.heap.size w3 w' → (w'.cell? ⟨w.heap.size, 0, none⟩ = some (.slice a m cp) ∧ w'.cell? ⟨w.heap.size, 1, none⟩ = some (.int .i64 c))) := Lib.hid fun w' hB => by
    have := (HT.out.below (hB.mono HT.out.lt)).cells
    exact this.2.1
  have D0 : Below w3.heap.size w3 w3.drew := (Below.refl _ _).drew
  have D0A := (Below.refl w3.heap.size w3).alloc (Nat.le_refl _) (.cells #[.slice none 0 0, .int .i64 0] 34)
  clear B1 B2 hT hT1 hT2 hT3 hB1 hB2 hB3 hG r0 r1 z0 z1
  go_region_held3 (fun w' => w'.cell? ⟨w.heap.size, 0, none⟩ = some (.slice a m cp) ∧ w'.cell? ⟨w.heap.size, 1, none⟩ = some (.int .i64 c))
    (first | go_keep | exact HS.out _ D0 | exact HS.out _ D1 | exact HS.out _ D2 | exact HS.out _ (D0.alloc D0.size _) | exact HS.out _ (D1.alloc D1.size _) | exact HS.out _ (D2.alloc D2.size _) | exact HS.out _ ((D2.setCell (by first | exact D1.size | exact Nat.le_refl _) _).setCell (by first | exact D1.size | exact Nat.le_refl _) _) | exact HS.out _ D0A | exact HS.out _ D0A.drew)
    (first
      | (go_at_call 23; refine (RDir_is _ p d hp hC hd).mono ?_; rintro e wa ⟨rfl, Ba⟩; have D1 := D0.trans Ba)
      | (go_at_call 23; refine (RDir_is _ p d hp hC hd).mono ?_; rintro e wa ⟨rfl, Ba⟩; have D1 := ((Below.refl w3.heap.size w3).alloc (Nat.le_refl _) _).drew.trans (Ba.mono (by simp)); have hz5 := zero_store ((Below.refl _ _).drew.trans Ba); obtain ⟨⟨d0, d1⟩, ⟨z0, z1⟩, hzz⟩ := hz5)
      | (go_at_call 30; have hzz2 := hzz; refine (hRec _ (HB.out.trans (D1.mono HB.out.size))).mono ?_; rintro e wb ⟨v5, rfl, hR5, hv5, Bb⟩; obtain ⟨a5, m5, cp5, rfl⟩ := hR5.shape; have D2 := D1.trans (Bb.mono D1.size); have Kb := Kept.of_below (X := []) Bb; replace d0 := (Bb.cell (p := ⟨w3.heap.size, 0, none⟩) hzz2).trans d0; replace d1 := (Bb.cell (p := ⟨w3.heap.size, 1, none⟩) hzz2).trans d1; replace z0 := (Kb.frozen (p := ⟨w3.heap.size, 0, none⟩) hzz2 (by simp)).trans z0; replace z1 := (Kb.frozen (p := ⟨w3.heap.size, 1, none⟩) hzz2 (by simp)).trans z1)
      | (go_at_call 30; refine (hRec _ (HB.out.trans (D1.mono HB.out.size))).mono ?_; rintro e wb ⟨v5, rfl, hR5, hv5, Bb⟩; obtain ⟨a5, m5, cp5, rfl⟩ := hR5.shape; have D2 := D1.trans (Bb.mono D1.size))
      | (go_at_call 30; refine (hRec _ (HB.out.trans ((D1.alloc D1.size _).mono HB.out.size))).mono ?_; rintro e wb ⟨v5, rfl, hR5, hv5, Bb⟩; obtain ⟨a5, m5, cp5, rfl⟩ := hR5.shape; have D2 := (D1.alloc D1.size _).trans (Bb.mono (D1.alloc D1.size _).size); obtain ⟨⟨d0, d1⟩, ⟨z0, z1⟩, hzz⟩ := zero_store Bb))
  · have hY := Rec.last HT.out D2 hR5 (hv5.imp id fun hv b hb => by have := hv b hb; have := D1.size; omega)
    generalize wb.alloc (.cells #[(.slice a5 m5 cp5), .int .i64 t.c] 34) = W5 at hY ⊢
    generalize wb.heap.size = b5 at hY ⊢
    clear D0 D0A q0 q1 m0 m1 hR5 hv5
    have hB5 := HB.out.trans (hY.below.mono HB.out.size)
    obtain ⟨hn0, hn1, hv0⟩ := hY.ends hv00
    obtain ⟨⟨q0, q1⟩, ⟨m0, m1⟩, ⟨r0, r1, z0, z1⟩⟩ := hY.two.cells
    have x0 := hY.x0
    have x1 := hY.x1
    have y0 := frozen_at hY.two.H0 0
    have y1 := frozen_at hY.two.H0 1
    have qb := hY.blt
    have qg := hY.bge
    go_wp2
    have hx := (hY.two.answer (.slice a5 m5 cp5) t.c).1
    have hB6 := (hB5.setCell (p := ⟨w.heap.size + 1, 0, none⟩) (by simp) (.slice a5 m5 cp5)).setCell (p := ⟨w.heap.size + 1, 1, none⟩) (by simp) (.int .i64 t.c)
    exact bodyPost_ret (v := .tuple #[.agg #[(.slice a5 m5 cp5), .int .i64 t.c], .int .i64 n]) (by simp [results, Tryz.results30, go_sem, hx.1, hx.2]) rfl ⟨_, rfl, (hY.files.setCell _ _ _ hn1).setCell _ _ _ hn1, hv0, hB6⟩
  · have hY := Rec.sets HT.out D2 hR5 (b := wa.heap.size) (hv5.imp id fun hv b hb => by have := hv b hb; simp at this; omega) (hv5.imp id fun hv b hb => by have := hv b hb; simp at this; have := D1.size; omega) hv00 D1.size hzz d0 d1
    generalize (wb.setCell ⟨wa.heap.size, 0, none⟩ (.slice a5 m5 cp5)).setCell ⟨wa.heap.size, 1, none⟩ (.int .i64 t.c) = W5 at hY ⊢
    generalize wa.heap.size = b5 at hY ⊢
    clear D0 D0A q0 q1 m0 m1 hR5 hv5
    have hB5 := HB.out.trans (hY.below.mono HB.out.size)
    obtain ⟨hn0, hn1, hv0⟩ := hY.ends hv00
    obtain ⟨⟨q0, q1⟩, ⟨m0, m1⟩, ⟨r0, r1, z0, z1⟩⟩ := hY.two.cells
    have x0 := hY.x0
    have x1 := hY.x1
    have y0 := frozen_at hY.two.H0 0
    have y1 := frozen_at hY.two.H0 1
    have qb := hY.blt
    have qg := hY.bge
    go_wp2
    have hx := (hY.two.answer (.slice a5 m5 cp5) t.c).1
    have hB6 := (hB5.setCell (p := ⟨w.heap.size + 1, 0, none⟩) (by simp) (.slice a5 m5 cp5)).setCell (p := ⟨w.heap.size + 1, 1, none⟩) (by simp) (.int .i64 t.c)
    exact bodyPost_ret (v := .tuple #[.agg #[(.slice a5 m5 cp5), .int .i64 t.c], .int .i64 n]) (by simp [results, Tryz.results30, go_sem, hx.1, hx.2]) rfl ⟨_, rfl, (hY.files.setCell _ _ _ hn1).setCell _ _ _ hn1, hv0, hB6⟩
  · have hY := Rec.sets HT.out D2 hR5 (b := w3.heap.size) (hv5.imp id fun hv b hb => by have := hv b hb; omega) (hv5.imp id fun hv b hb => by have := hv b hb; have := D1.size; omega) hv00 (Nat.le_refl _) (by have := Bb.size; omega) d0 d1
    generalize (wb.setCell ⟨w3.heap.size, 0, none⟩ (.slice a5 m5 cp5)).setCell ⟨w3.heap.size, 1, none⟩ (.int .i64 t.c) = W5 at hY ⊢
    generalize hb3 : w3.heap.size = b5 at hY ⊢
    clear hb3
    clear D0 D0A q0 q1 m0 m1 hR5 hv5
    have hB5 := HB.out.trans (hY.below.mono HB.out.size)
    obtain ⟨hn0, hn1, hv0⟩ := hY.ends hv00
    obtain ⟨⟨q0, q1⟩, ⟨m0, m1⟩, ⟨r0, r1, z0, z1⟩⟩ := hY.two.cells
    have x0 := hY.x0
    have x1 := hY.x1
    have y0 := frozen_at hY.two.H0 0
    have y1 := frozen_at hY.two.H0 1
    have qb := hY.blt
    have qg := hY.bge
    go_wp2
    have hx := (hY.two.answer (.slice a5 m5 cp5) t.c).1
    have hB6 := (hB5.setCell (p := ⟨w.heap.size + 1, 0, none⟩) (by simp) (.slice a5 m5 cp5)).setCell (p := ⟨w.heap.size + 1, 1, none⟩) (by simp) (.int .i64 t.c)
    exact bodyPost_ret (v := .tuple #[.agg #[(.slice a5 m5 cp5), .int .i64 t.c], .int .i64 n]) (by simp [results, Tryz.results30, go_sem, hx.1, hx.2]) rfl ⟨_, rfl, (hY.files.setCell _ _ _ hn1).setCell _ _ _ hn1, hv0, hB6⟩

set_option maxHeartbeats 1000000 in
theorem RMkdir_rec_no (w : World) (v : Value) (s : St) (p gp gt : ByteArray) (gc : Int) (_all : Bool) (hF : Fine s) (hp : p.size ≤ 900000) (h : RFiles w v s.L) (hC : Hid (isPath (bs p) = true)) (d : ByteArray) (hd : Hid (dirL (bs p) = bs d)) (t : St) (hFt : Fine t) (hRec : ∀ W, Below w.heap.size w W → Calls Tryz.prog 30 #[.agg #[v, .int .i64 s.c], .string d, .bool true] W (RPost W v (t, 0))) (n : Int) (hn : Hid (placeA t.L (bs p) = n)) (h0 : ¬ n = 0)
    (hG : ∀ W v, Files W v s.L → Calls Tryz.prog 38 #[.agg #[v, .int .i64 s.c], .string p] W fun e w' => e = .returned (.tuple #[.agg #[.string gp, .string gt, .int .i64 gc, .bool false], .bool false]) ∧ Below W.heap.size W w') :
    Calls Tryz.prog 30 #[.agg #[v, .int .i64 s.c], .string p, .bool true] w (RPost w v (t, n)) := by
  obtain ⟨a, m, cp, rfl⟩ := h.shape
  obtain ⟨L, c⟩ := s
  have hl : L.length ≤ 100000 := by have := hF.len; simp at this; omega
  have hBa := fun x y => ((Below.refl w.heap.size w).alloc (Nat.le_refl _) x).alloc (by simp) y
  have hT := Two.new w (.slice a m cp) c
  go_enter Tryz.func30, Tryz.ntmps30
  go_wp2_with (first | (go_at_call 20; refine (RClean_is _ p true hp hC).mono ?_; rintro e w1 ⟨rfl, B1⟩; have hT1 := hT.below (B1.mono (by simp)); have hB1 := (hBa _ _).trans (B1.mono (hBa _ _).size); obtain ⟨⟨q0, q1⟩, ⟨m0, m1⟩, ⟨r0, r1, z0, z1⟩⟩ := hT1.cells) | (go_at_call 38; refine (hG _ _ (h.below hB1).files).mono ?_; rintro e w2 ⟨rfl, B2⟩; have hT2 := hT1.below (B2.mono hT1.lt); have hB2 := hB1.trans (B2.mono hB1.size); obtain ⟨⟨q0, q1⟩, ⟨m0, m1⟩, ⟨r0, r1, z0, z1⟩⟩ := hT2.cells; have hB3 := hB2.alloc hB2.size (.cells #[.string gp, .string gt, .int .i64 gc, .bool false] 26); have hT3 := hT2.below ((Below.refl (w.heap.size + 2) w2).alloc hT2.lt (.cells #[.string gp, .string gt, .int .i64 gc, .bool false] 26))))
  generalize w2.alloc (.cells #[.string gp, .string gt, .int .i64 gc, .bool false] 26) = w3 at *
  clear q0 q1 m0 m1 r0 r1 z0 z1
  obtain ⟨⟨q0, q1⟩, ⟨m0, m1⟩, ⟨r0, r1, z0, z1⟩⟩ := hT3.cells
  have hv00 := h.lt
  have HT := Lib.hid hT3
  have HB := Lib.hid hB3
  have HS : Hid (∀ w', Below w3.heap.size w3 w' → (w'.cell? ⟨w.heap.size, 0, none⟩ = some (.slice a m cp) ∧ w'.cell? ⟨w.heap.size, 1, none⟩ = some (.int .i64 c))) := Lib.hid fun w' hB => by
    have := (HT.out.below (hB.mono HT.out.lt)).cells
    exact this.2.1
  have D0 : Below w3.heap.size w3 w3.drew := (Below.refl _ _).drew
  have D0A := (Below.refl w3.heap.size w3).alloc (Nat.le_refl _) (.cells #[.slice none 0 0, .int .i64 0] 34)
  clear B1 B2 hT hT1 hT2 hT3 hB1 hB2 hB3 hG r0 r1 z0 z1
  go_region_held3 (fun w' => w'.cell? ⟨w.heap.size, 0, none⟩ = some (.slice a m cp) ∧ w'.cell? ⟨w.heap.size, 1, none⟩ = some (.int .i64 c))
    (first | go_keep | exact HS.out _ D0 | exact HS.out _ D1 | exact HS.out _ D2 | exact HS.out _ (D0.alloc D0.size _) | exact HS.out _ (D1.alloc D1.size _) | exact HS.out _ (D2.alloc D2.size _) | exact HS.out _ ((D2.setCell (by first | exact D1.size | exact Nat.le_refl _) _).setCell (by first | exact D1.size | exact Nat.le_refl _) _) | exact HS.out _ D0A | exact HS.out _ D0A.drew)
    (first
      | (go_at_call 23; refine (RDir_is _ p d hp hC hd).mono ?_; rintro e wa ⟨rfl, Ba⟩; have D1 := D0.trans Ba)
      | (go_at_call 23; refine (RDir_is _ p d hp hC hd).mono ?_; rintro e wa ⟨rfl, Ba⟩; have D1 := ((Below.refl w3.heap.size w3).alloc (Nat.le_refl _) _).drew.trans (Ba.mono (by simp)); have hz5 := zero_store ((Below.refl _ _).drew.trans Ba); obtain ⟨⟨d0, d1⟩, ⟨z0, z1⟩, hzz⟩ := hz5)
      | (go_at_call 30; have hzz2 := hzz; refine (hRec _ (HB.out.trans (D1.mono HB.out.size))).mono ?_; rintro e wb ⟨v5, rfl, hR5, hv5, Bb⟩; obtain ⟨a5, m5, cp5, rfl⟩ := hR5.shape; have D2 := D1.trans (Bb.mono D1.size); have Kb := Kept.of_below (X := []) Bb; replace d0 := (Bb.cell (p := ⟨w3.heap.size, 0, none⟩) hzz2).trans d0; replace d1 := (Bb.cell (p := ⟨w3.heap.size, 1, none⟩) hzz2).trans d1; replace z0 := (Kb.frozen (p := ⟨w3.heap.size, 0, none⟩) hzz2 (by simp)).trans z0; replace z1 := (Kb.frozen (p := ⟨w3.heap.size, 1, none⟩) hzz2 (by simp)).trans z1)
      | (go_at_call 30; refine (hRec _ (HB.out.trans (D1.mono HB.out.size))).mono ?_; rintro e wb ⟨v5, rfl, hR5, hv5, Bb⟩; obtain ⟨a5, m5, cp5, rfl⟩ := hR5.shape; have D2 := D1.trans (Bb.mono D1.size))
      | (go_at_call 30; refine (hRec _ (HB.out.trans ((D1.alloc D1.size _).mono HB.out.size))).mono ?_; rintro e wb ⟨v5, rfl, hR5, hv5, Bb⟩; obtain ⟨a5, m5, cp5, rfl⟩ := hR5.shape; have D2 := (D1.alloc D1.size _).trans (Bb.mono (D1.alloc D1.size _).size); obtain ⟨⟨d0, d1⟩, ⟨z0, z1⟩, hzz⟩ := zero_store Bb))
  · have hY := Rec.last HT.out D2 hR5 (hv5.imp id fun hv b hb => by have := hv b hb; have := D1.size; omega)
    generalize wb.alloc (.cells #[(.slice a5 m5 cp5), .int .i64 t.c] 34) = W5 at hY ⊢
    generalize wb.heap.size = b5 at hY ⊢
    clear D0 D0A q0 q1 m0 m1 hR5 hv5
    have hB5 := HB.out.trans (hY.below.mono HB.out.size)
    obtain ⟨hn0, hn1, hv0⟩ := hY.ends hv00
    obtain ⟨⟨q0, q1⟩, ⟨m0, m1⟩, ⟨r0, r1, z0, z1⟩⟩ := hY.two.cells
    have x0 := hY.x0
    have x1 := hY.x1
    have y0 := frozen_at hY.two.H0 0
    have y1 := frozen_at hY.two.H0 1
    have qb := hY.blt
    have qg := hY.bge
    have hlt : t.L.length ≤ 100000 := by have := hFt.len; omega
    have hT6 := hY.two.put (.slice a5 m5 cp5) t.c
    have hR6 := (hY.files.setCell _ 0 (.slice a5 m5 cp5) hn0).setCell _ 1 (.int .i64 t.c) hn0
    have hB6 := (hB5.setCell (p := ⟨w.heap.size, 0, none⟩) (by simp) (.slice a5 m5 cp5)).setCell (p := ⟨w.heap.size, 1, none⟩) (by simp) (.int .i64 t.c)
    have hBo := (Below.refl w.heap.size W5)
    clear hBo
    go_wp2_with (go_at_call 62; refine (RMay_any _ _ t.c t.L p hp hlt hR6 hFt.sorted).mono ?_; rw [hn.out]; rintro e w7 ⟨rfl, B7⟩; have hT7 := hT6.below (B7.mono hT6.lt); have hB7 := hB6.trans (B7.mono hB6.size); have hR7 := hR6.below B7; obtain ⟨⟨q0, q1⟩, ⟨m0, m1⟩, ⟨r0, r1, z0, z1⟩⟩ := hT7.cells)
    have hx := (hT7.answer (.slice a5 m5 cp5) t.c).1
    have hB8 := (hB7.setCell (p := ⟨w.heap.size + 1, 0, none⟩) (by simp) (.slice a5 m5 cp5)).setCell (p := ⟨w.heap.size + 1, 1, none⟩) (by simp) (.int .i64 t.c)
    exact bodyPost_ret (v := .tuple #[.agg #[(.slice a5 m5 cp5), .int .i64 t.c], .int .i64 n]) (by simp [results, Tryz.results30, go_sem, hx.1, hx.2]) rfl ⟨_, rfl, (hR7.setCell _ _ _ hn1).setCell _ _ _ hn1, hv0, hB8⟩
  · have hY := Rec.sets HT.out D2 hR5 (b := wa.heap.size) (hv5.imp id fun hv b hb => by have := hv b hb; simp at this; omega) (hv5.imp id fun hv b hb => by have := hv b hb; simp at this; have := D1.size; omega) hv00 D1.size hzz d0 d1
    generalize (wb.setCell ⟨wa.heap.size, 0, none⟩ (.slice a5 m5 cp5)).setCell ⟨wa.heap.size, 1, none⟩ (.int .i64 t.c) = W5 at hY ⊢
    generalize wa.heap.size = b5 at hY ⊢
    clear D0 D0A q0 q1 m0 m1 hR5 hv5
    have hB5 := HB.out.trans (hY.below.mono HB.out.size)
    obtain ⟨hn0, hn1, hv0⟩ := hY.ends hv00
    obtain ⟨⟨q0, q1⟩, ⟨m0, m1⟩, ⟨r0, r1, z0, z1⟩⟩ := hY.two.cells
    have x0 := hY.x0
    have x1 := hY.x1
    have y0 := frozen_at hY.two.H0 0
    have y1 := frozen_at hY.two.H0 1
    have qb := hY.blt
    have qg := hY.bge
    have hlt : t.L.length ≤ 100000 := by have := hFt.len; omega
    have hT6 := hY.two.put (.slice a5 m5 cp5) t.c
    have hR6 := (hY.files.setCell _ 0 (.slice a5 m5 cp5) hn0).setCell _ 1 (.int .i64 t.c) hn0
    have hB6 := (hB5.setCell (p := ⟨w.heap.size, 0, none⟩) (by simp) (.slice a5 m5 cp5)).setCell (p := ⟨w.heap.size, 1, none⟩) (by simp) (.int .i64 t.c)
    have hBo := (Below.refl w.heap.size W5)
    clear hBo
    go_wp2_with (go_at_call 62; refine (RMay_any _ _ t.c t.L p hp hlt hR6 hFt.sorted).mono ?_; rw [hn.out]; rintro e w7 ⟨rfl, B7⟩; have hT7 := hT6.below (B7.mono hT6.lt); have hB7 := hB6.trans (B7.mono hB6.size); have hR7 := hR6.below B7; obtain ⟨⟨q0, q1⟩, ⟨m0, m1⟩, ⟨r0, r1, z0, z1⟩⟩ := hT7.cells)
    have hx := (hT7.answer (.slice a5 m5 cp5) t.c).1
    have hB8 := (hB7.setCell (p := ⟨w.heap.size + 1, 0, none⟩) (by simp) (.slice a5 m5 cp5)).setCell (p := ⟨w.heap.size + 1, 1, none⟩) (by simp) (.int .i64 t.c)
    exact bodyPost_ret (v := .tuple #[.agg #[(.slice a5 m5 cp5), .int .i64 t.c], .int .i64 n]) (by simp [results, Tryz.results30, go_sem, hx.1, hx.2]) rfl ⟨_, rfl, (hR7.setCell _ _ _ hn1).setCell _ _ _ hn1, hv0, hB8⟩
  · have hY := Rec.sets HT.out D2 hR5 (b := w3.heap.size) (hv5.imp id fun hv b hb => by have := hv b hb; omega) (hv5.imp id fun hv b hb => by have := hv b hb; have := D1.size; omega) hv00 (Nat.le_refl _) (by have := Bb.size; omega) d0 d1
    generalize (wb.setCell ⟨w3.heap.size, 0, none⟩ (.slice a5 m5 cp5)).setCell ⟨w3.heap.size, 1, none⟩ (.int .i64 t.c) = W5 at hY ⊢
    generalize hb3 : w3.heap.size = b5 at hY ⊢
    clear hb3
    clear D0 D0A q0 q1 m0 m1 hR5 hv5
    have hB5 := HB.out.trans (hY.below.mono HB.out.size)
    obtain ⟨hn0, hn1, hv0⟩ := hY.ends hv00
    obtain ⟨⟨q0, q1⟩, ⟨m0, m1⟩, ⟨r0, r1, z0, z1⟩⟩ := hY.two.cells
    have x0 := hY.x0
    have x1 := hY.x1
    have y0 := frozen_at hY.two.H0 0
    have y1 := frozen_at hY.two.H0 1
    have qb := hY.blt
    have qg := hY.bge
    have hlt : t.L.length ≤ 100000 := by have := hFt.len; omega
    have hT6 := hY.two.put (.slice a5 m5 cp5) t.c
    have hR6 := (hY.files.setCell _ 0 (.slice a5 m5 cp5) hn0).setCell _ 1 (.int .i64 t.c) hn0
    have hB6 := (hB5.setCell (p := ⟨w.heap.size, 0, none⟩) (by simp) (.slice a5 m5 cp5)).setCell (p := ⟨w.heap.size, 1, none⟩) (by simp) (.int .i64 t.c)
    have hBo := (Below.refl w.heap.size W5)
    clear hBo
    go_wp2_with (go_at_call 62; refine (RMay_any _ _ t.c t.L p hp hlt hR6 hFt.sorted).mono ?_; rw [hn.out]; rintro e w7 ⟨rfl, B7⟩; have hT7 := hT6.below (B7.mono hT6.lt); have hB7 := hB6.trans (B7.mono hB6.size); have hR7 := hR6.below B7; obtain ⟨⟨q0, q1⟩, ⟨m0, m1⟩, ⟨r0, r1, z0, z1⟩⟩ := hT7.cells)
    have hx := (hT7.answer (.slice a5 m5 cp5) t.c).1
    have hB8 := (hB7.setCell (p := ⟨w.heap.size + 1, 0, none⟩) (by simp) (.slice a5 m5 cp5)).setCell (p := ⟨w.heap.size + 1, 1, none⟩) (by simp) (.int .i64 t.c)
    exact bodyPost_ret (v := .tuple #[.agg #[(.slice a5 m5 cp5), .int .i64 t.c], .int .i64 n]) (by simp [results, Tryz.results30, go_sem, hx.1, hx.2]) rfl ⟨_, rfl, (hR7.setCell _ _ _ hn1).setCell _ _ _ hn1, hv0, hB8⟩

set_option maxHeartbeats 1000000 in
theorem RMkdir_rec (w : World) (v : Value) (s : St) (p gp gt : ByteArray) (gc : Int) (_all : Bool) (hF : Fine s) (hp : p.size ≤ 900000) (h : RFiles w v s.L) (hC : Hid (isPath (bs p) = true)) (d : ByteArray) (hd : Hid (dirL (bs p) = bs d)) (t : St) (hFt : Fine t) (hRec : ∀ W, Below w.heap.size w W → Calls Tryz.prog 30 #[.agg #[v, .int .i64 s.c], .string d, .bool true] W (RPost W v (t, 0))) (hn : Hid (placeA t.L (bs p) = 0))
    (hG : ∀ W v, Files W v s.L → Calls Tryz.prog 38 #[.agg #[v, .int .i64 s.c], .string p] W fun e w' => e = .returned (.tuple #[.agg #[.string gp, .string gt, .int .i64 gc, .bool false], .bool false]) ∧ Below W.heap.size W w') :
    Calls Tryz.prog 30 #[.agg #[v, .int .i64 s.c], .string p, .bool true] w (RPost w v (putA t ⟨bs p, [], 0, true⟩)) := by
  obtain ⟨a, m, cp, rfl⟩ := h.shape
  obtain ⟨L, c⟩ := s
  have hl : L.length ≤ 100000 := by have := hF.len; simp at this; omega
  have hBa := fun x y => ((Below.refl w.heap.size w).alloc (Nat.le_refl _) x).alloc (by simp) y
  have hT := Two.new w (.slice a m cp) c
  generalize hq : putA t ⟨bs p, [], 0, true⟩ = q at *
  have hQ := Lib.hid hq
  clear hq
  go_enter Tryz.func30, Tryz.ntmps30
  go_wp2_with (first | (go_at_call 20; refine (RClean_is _ p true hp hC).mono ?_; rintro e w1 ⟨rfl, B1⟩; have hT1 := hT.below (B1.mono (by simp)); have hB1 := (hBa _ _).trans (B1.mono (hBa _ _).size); obtain ⟨⟨q0, q1⟩, ⟨m0, m1⟩, ⟨r0, r1, z0, z1⟩⟩ := hT1.cells) | (go_at_call 38; refine (hG _ _ (h.below hB1).files).mono ?_; rintro e w2 ⟨rfl, B2⟩; have hT2 := hT1.below (B2.mono hT1.lt); have hB2 := hB1.trans (B2.mono hB1.size); obtain ⟨⟨q0, q1⟩, ⟨m0, m1⟩, ⟨r0, r1, z0, z1⟩⟩ := hT2.cells; have hB3 := hB2.alloc hB2.size (.cells #[.string gp, .string gt, .int .i64 gc, .bool false] 26); have hT3 := hT2.below ((Below.refl (w.heap.size + 2) w2).alloc hT2.lt (.cells #[.string gp, .string gt, .int .i64 gc, .bool false] 26))))
  generalize w2.alloc (.cells #[.string gp, .string gt, .int .i64 gc, .bool false] 26) = w3 at *
  clear q0 q1 m0 m1 r0 r1 z0 z1
  obtain ⟨⟨q0, q1⟩, ⟨m0, m1⟩, ⟨r0, r1, z0, z1⟩⟩ := hT3.cells
  have hv00 := h.lt
  have HT := Lib.hid hT3
  have HB := Lib.hid hB3
  have HS : Hid (∀ w', Below w3.heap.size w3 w' → (w'.cell? ⟨w.heap.size, 0, none⟩ = some (.slice a m cp) ∧ w'.cell? ⟨w.heap.size, 1, none⟩ = some (.int .i64 c))) := Lib.hid fun w' hB => by
    have := (HT.out.below (hB.mono HT.out.lt)).cells
    exact this.2.1
  have D0 : Below w3.heap.size w3 w3.drew := (Below.refl _ _).drew
  have D0A := (Below.refl w3.heap.size w3).alloc (Nat.le_refl _) (.cells #[.slice none 0 0, .int .i64 0] 34)
  clear B1 B2 hT hT1 hT2 hT3 hB1 hB2 hB3 hG r0 r1 z0 z1
  go_region_held3 (fun w' => w'.cell? ⟨w.heap.size, 0, none⟩ = some (.slice a m cp) ∧ w'.cell? ⟨w.heap.size, 1, none⟩ = some (.int .i64 c))
    (first | go_keep | exact HS.out _ D0 | exact HS.out _ D1 | exact HS.out _ D2 | exact HS.out _ (D0.alloc D0.size _) | exact HS.out _ (D1.alloc D1.size _) | exact HS.out _ (D2.alloc D2.size _) | exact HS.out _ ((D2.setCell (by first | exact D1.size | exact Nat.le_refl _) _).setCell (by first | exact D1.size | exact Nat.le_refl _) _) | exact HS.out _ D0A | exact HS.out _ D0A.drew)
    (first
      | (go_at_call 23; refine (RDir_is _ p d hp hC hd).mono ?_; rintro e wa ⟨rfl, Ba⟩; have D1 := D0.trans Ba)
      | (go_at_call 23; refine (RDir_is _ p d hp hC hd).mono ?_; rintro e wa ⟨rfl, Ba⟩; have D1 := ((Below.refl w3.heap.size w3).alloc (Nat.le_refl _) _).drew.trans (Ba.mono (by simp)); have hz5 := zero_store ((Below.refl _ _).drew.trans Ba); obtain ⟨⟨d0, d1⟩, ⟨z0, z1⟩, hzz⟩ := hz5)
      | (go_at_call 30; have hzz2 := hzz; refine (hRec _ (HB.out.trans (D1.mono HB.out.size))).mono ?_; rintro e wb ⟨v5, rfl, hR5, hv5, Bb⟩; obtain ⟨a5, m5, cp5, rfl⟩ := hR5.shape; have D2 := D1.trans (Bb.mono D1.size); have Kb := Kept.of_below (X := []) Bb; replace d0 := (Bb.cell (p := ⟨w3.heap.size, 0, none⟩) hzz2).trans d0; replace d1 := (Bb.cell (p := ⟨w3.heap.size, 1, none⟩) hzz2).trans d1; replace z0 := (Kb.frozen (p := ⟨w3.heap.size, 0, none⟩) hzz2 (by simp)).trans z0; replace z1 := (Kb.frozen (p := ⟨w3.heap.size, 1, none⟩) hzz2 (by simp)).trans z1)
      | (go_at_call 30; refine (hRec _ (HB.out.trans (D1.mono HB.out.size))).mono ?_; rintro e wb ⟨v5, rfl, hR5, hv5, Bb⟩; obtain ⟨a5, m5, cp5, rfl⟩ := hR5.shape; have D2 := D1.trans (Bb.mono D1.size))
      | (go_at_call 30; refine (hRec _ (HB.out.trans ((D1.alloc D1.size _).mono HB.out.size))).mono ?_; rintro e wb ⟨v5, rfl, hR5, hv5, Bb⟩; obtain ⟨a5, m5, cp5, rfl⟩ := hR5.shape; have D2 := (D1.alloc D1.size _).trans (Bb.mono (D1.alloc D1.size _).size); obtain ⟨⟨d0, d1⟩, ⟨z0, z1⟩, hzz⟩ := zero_store Bb))
  · have hY := Rec.last HT.out D2 hR5 (hv5.imp id fun hv b hb => by have := hv b hb; have := D1.size; omega)
    generalize wb.alloc (.cells #[(.slice a5 m5 cp5), .int .i64 t.c] 34) = W5 at hY ⊢
    generalize wb.heap.size = b5 at hY ⊢
    clear D0 D0A q0 q1 m0 m1 hR5 hv5
    have hB5 := HB.out.trans (hY.below.mono HB.out.size)
    obtain ⟨hn0, hn1, hv0⟩ := hY.ends hv00
    obtain ⟨⟨q0, q1⟩, ⟨m0, m1⟩, ⟨r0, r1, z0, z1⟩⟩ := hY.two.cells
    have x0 := hY.x0
    have x1 := hY.x1
    have y0 := frozen_at hY.two.H0 0
    have y1 := frozen_at hY.two.H0 1
    have qb := hY.blt
    have qg := hY.bge
    have hlt : t.L.length ≤ 100000 := by have := hFt.len; omega
    have hT6 := hY.two.put (.slice a5 m5 cp5) t.c
    have hR6 := (hY.files.setCell _ 0 (.slice a5 m5 cp5) hn0).setCell _ 1 (.int .i64 t.c) hn0
    have hB6 := (hB5.setCell (p := ⟨w.heap.size, 0, none⟩) (by simp) (.slice a5 m5 cp5)).setCell (p := ⟨w.heap.size, 1, none⟩) (by simp) (.int .i64 t.c)
    have hBo := (Below.refl w.heap.size W5)
    clear hBo
    go_wp2_with (go_at_call 62; refine (RMay_any _ _ t.c t.L p hp hlt hR6 hFt.sorted).mono ?_; rw [hn.out]; rintro e w7 ⟨rfl, B7⟩; have hT7 := hT6.below (B7.mono hT6.lt); have hB7 := hB6.trans (B7.mono hB6.size); have hR7 := hR6.below B7; obtain ⟨⟨q0, q1⟩, ⟨m0, m1⟩, ⟨r0, r1, z0, z1⟩⟩ := hT7.cells)
    refine (RPut_any _ _ t p ⟨#[]⟩ 0 true hlt hR7 hFt.c0 hFt.c1).mono ?_
    rw [show putA t ⟨bs p, bs ⟨#[]⟩, 0, true⟩ = q from hQ.out]
    rintro e w8 ⟨v8, rfl, hR8, hv8, B8⟩
    have hT8 := hT7.below (B8.mono hT7.lt)
    have hB8 := hB7.trans (B8.mono hB7.size)
    have hge := hT7.lt
    have hge2 := hB7.size
    have hne : ∀ k, v8.ownBlock = some k → k ≠ w.heap.size + 1 := fun k hk => by
      rcases hv8 with rfl | hv8
      · exact hn1 k hk
      · have := hv8 k hk; omega
    have hv9 : v8 = .slice a m cp ∨ ∀ k, v8.ownBlock = some k → w.heap.size ≤ k := by
      rcases hv8 with rfl | hv8
      · exact hv0
      · exact .inr fun k hk => by have := hv8 k hk; omega
    clear hT6 hT7 hv8 B8 B7 q0 q1 m0 m1 r0 r1 z0 z1
    obtain ⟨⟨q0, q1⟩, ⟨m0, m1⟩, ⟨r0, r1, z0, z1⟩⟩ := hT8.cells
    obtain ⟨a8, m8, cp8, rfl⟩ := hR8.shape
    go_wp2
    have hx := (hT8.answer (.slice a8 m8 cp8) q.1.c).1
    have hB9 := (hB8.setCell (p := ⟨w.heap.size + 1, 0, none⟩) (by simp) (.slice a8 m8 cp8)).setCell (p := ⟨w.heap.size + 1, 1, none⟩) (by simp) (.int .i64 q.1.c)
    exact bodyPost_ret (v := .tuple #[.agg #[.slice a8 m8 cp8, .int .i64 q.1.c], .int .i64 q.2]) (by simp [results, Tryz.results30, go_sem, hx.1, hx.2]) rfl ⟨_, rfl, (hR8.setCell _ _ _ hne).setCell _ _ _ hne, hv9, hB9⟩
  · have hY := Rec.sets HT.out D2 hR5 (b := wa.heap.size) (hv5.imp id fun hv b hb => by have := hv b hb; simp at this; omega) (hv5.imp id fun hv b hb => by have := hv b hb; simp at this; have := D1.size; omega) hv00 D1.size hzz d0 d1
    generalize (wb.setCell ⟨wa.heap.size, 0, none⟩ (.slice a5 m5 cp5)).setCell ⟨wa.heap.size, 1, none⟩ (.int .i64 t.c) = W5 at hY ⊢
    generalize wa.heap.size = b5 at hY ⊢
    clear D0 D0A q0 q1 m0 m1 hR5 hv5
    have hB5 := HB.out.trans (hY.below.mono HB.out.size)
    obtain ⟨hn0, hn1, hv0⟩ := hY.ends hv00
    obtain ⟨⟨q0, q1⟩, ⟨m0, m1⟩, ⟨r0, r1, z0, z1⟩⟩ := hY.two.cells
    have x0 := hY.x0
    have x1 := hY.x1
    have y0 := frozen_at hY.two.H0 0
    have y1 := frozen_at hY.two.H0 1
    have qb := hY.blt
    have qg := hY.bge
    have hlt : t.L.length ≤ 100000 := by have := hFt.len; omega
    have hT6 := hY.two.put (.slice a5 m5 cp5) t.c
    have hR6 := (hY.files.setCell _ 0 (.slice a5 m5 cp5) hn0).setCell _ 1 (.int .i64 t.c) hn0
    have hB6 := (hB5.setCell (p := ⟨w.heap.size, 0, none⟩) (by simp) (.slice a5 m5 cp5)).setCell (p := ⟨w.heap.size, 1, none⟩) (by simp) (.int .i64 t.c)
    have hBo := (Below.refl w.heap.size W5)
    clear hBo
    go_wp2_with (go_at_call 62; refine (RMay_any _ _ t.c t.L p hp hlt hR6 hFt.sorted).mono ?_; rw [hn.out]; rintro e w7 ⟨rfl, B7⟩; have hT7 := hT6.below (B7.mono hT6.lt); have hB7 := hB6.trans (B7.mono hB6.size); have hR7 := hR6.below B7; obtain ⟨⟨q0, q1⟩, ⟨m0, m1⟩, ⟨r0, r1, z0, z1⟩⟩ := hT7.cells)
    refine (RPut_any _ _ t p ⟨#[]⟩ 0 true hlt hR7 hFt.c0 hFt.c1).mono ?_
    rw [show putA t ⟨bs p, bs ⟨#[]⟩, 0, true⟩ = q from hQ.out]
    rintro e w8 ⟨v8, rfl, hR8, hv8, B8⟩
    have hT8 := hT7.below (B8.mono hT7.lt)
    have hB8 := hB7.trans (B8.mono hB7.size)
    have hge := hT7.lt
    have hge2 := hB7.size
    have hne : ∀ k, v8.ownBlock = some k → k ≠ w.heap.size + 1 := fun k hk => by
      rcases hv8 with rfl | hv8
      · exact hn1 k hk
      · have := hv8 k hk; omega
    have hv9 : v8 = .slice a m cp ∨ ∀ k, v8.ownBlock = some k → w.heap.size ≤ k := by
      rcases hv8 with rfl | hv8
      · exact hv0
      · exact .inr fun k hk => by have := hv8 k hk; omega
    clear hT6 hT7 hv8 B8 B7 q0 q1 m0 m1 r0 r1 z0 z1
    obtain ⟨⟨q0, q1⟩, ⟨m0, m1⟩, ⟨r0, r1, z0, z1⟩⟩ := hT8.cells
    obtain ⟨a8, m8, cp8, rfl⟩ := hR8.shape
    go_wp2
    have hx := (hT8.answer (.slice a8 m8 cp8) q.1.c).1
    have hB9 := (hB8.setCell (p := ⟨w.heap.size + 1, 0, none⟩) (by simp) (.slice a8 m8 cp8)).setCell (p := ⟨w.heap.size + 1, 1, none⟩) (by simp) (.int .i64 q.1.c)
    exact bodyPost_ret (v := .tuple #[.agg #[.slice a8 m8 cp8, .int .i64 q.1.c], .int .i64 q.2]) (by simp [results, Tryz.results30, go_sem, hx.1, hx.2]) rfl ⟨_, rfl, (hR8.setCell _ _ _ hne).setCell _ _ _ hne, hv9, hB9⟩
  · have hY := Rec.sets HT.out D2 hR5 (b := w3.heap.size) (hv5.imp id fun hv b hb => by have := hv b hb; omega) (hv5.imp id fun hv b hb => by have := hv b hb; have := D1.size; omega) hv00 (Nat.le_refl _) (by have := Bb.size; omega) d0 d1
    generalize (wb.setCell ⟨w3.heap.size, 0, none⟩ (.slice a5 m5 cp5)).setCell ⟨w3.heap.size, 1, none⟩ (.int .i64 t.c) = W5 at hY ⊢
    generalize hb3 : w3.heap.size = b5 at hY ⊢
    clear hb3
    clear D0 D0A q0 q1 m0 m1 hR5 hv5
    have hB5 := HB.out.trans (hY.below.mono HB.out.size)
    obtain ⟨hn0, hn1, hv0⟩ := hY.ends hv00
    obtain ⟨⟨q0, q1⟩, ⟨m0, m1⟩, ⟨r0, r1, z0, z1⟩⟩ := hY.two.cells
    have x0 := hY.x0
    have x1 := hY.x1
    have y0 := frozen_at hY.two.H0 0
    have y1 := frozen_at hY.two.H0 1
    have qb := hY.blt
    have qg := hY.bge
    have hlt : t.L.length ≤ 100000 := by have := hFt.len; omega
    have hT6 := hY.two.put (.slice a5 m5 cp5) t.c
    have hR6 := (hY.files.setCell _ 0 (.slice a5 m5 cp5) hn0).setCell _ 1 (.int .i64 t.c) hn0
    have hB6 := (hB5.setCell (p := ⟨w.heap.size, 0, none⟩) (by simp) (.slice a5 m5 cp5)).setCell (p := ⟨w.heap.size, 1, none⟩) (by simp) (.int .i64 t.c)
    have hBo := (Below.refl w.heap.size W5)
    clear hBo
    go_wp2_with (go_at_call 62; refine (RMay_any _ _ t.c t.L p hp hlt hR6 hFt.sorted).mono ?_; rw [hn.out]; rintro e w7 ⟨rfl, B7⟩; have hT7 := hT6.below (B7.mono hT6.lt); have hB7 := hB6.trans (B7.mono hB6.size); have hR7 := hR6.below B7; obtain ⟨⟨q0, q1⟩, ⟨m0, m1⟩, ⟨r0, r1, z0, z1⟩⟩ := hT7.cells)
    refine (RPut_any _ _ t p ⟨#[]⟩ 0 true hlt hR7 hFt.c0 hFt.c1).mono ?_
    rw [show putA t ⟨bs p, bs ⟨#[]⟩, 0, true⟩ = q from hQ.out]
    rintro e w8 ⟨v8, rfl, hR8, hv8, B8⟩
    have hT8 := hT7.below (B8.mono hT7.lt)
    have hB8 := hB7.trans (B8.mono hB7.size)
    have hge := hT7.lt
    have hge2 := hB7.size
    have hne : ∀ k, v8.ownBlock = some k → k ≠ w.heap.size + 1 := fun k hk => by
      rcases hv8 with rfl | hv8
      · exact hn1 k hk
      · have := hv8 k hk; omega
    have hv9 : v8 = .slice a m cp ∨ ∀ k, v8.ownBlock = some k → w.heap.size ≤ k := by
      rcases hv8 with rfl | hv8
      · exact hv0
      · exact .inr fun k hk => by have := hv8 k hk; omega
    clear hT6 hT7 hv8 B8 B7 q0 q1 m0 m1 r0 r1 z0 z1
    obtain ⟨⟨q0, q1⟩, ⟨m0, m1⟩, ⟨r0, r1, z0, z1⟩⟩ := hT8.cells
    obtain ⟨a8, m8, cp8, rfl⟩ := hR8.shape
    go_wp2
    have hx := (hT8.answer (.slice a8 m8 cp8) q.1.c).1
    have hB9 := (hB8.setCell (p := ⟨w.heap.size + 1, 0, none⟩) (by simp) (.slice a8 m8 cp8)).setCell (p := ⟨w.heap.size + 1, 1, none⟩) (by simp) (.int .i64 q.1.c)
    exact bodyPost_ret (v := .tuple #[.agg #[.slice a8 m8 cp8, .int .i64 q.1.c], .int .i64 q.2]) (by simp [results, Tryz.results30, go_sem, hx.1, hx.2]) rfl ⟨_, rfl, (hR8.setCell _ _ _ hne).setCell _ _ _ hne, hv9, hB9⟩
end Go.Proofs.YtmmilnmlmgcobaaGreatDoor.Sw
namespace Go.Proofs.YtmmilnmlmgcobaaGreatDoor.Sw
open Go.RowKit Go.Proofs.YtmmilnmlmgcobaaGreatDoor Go.Maps
set_option maxRecDepth 100000

theorem put_fine {s : St} (h : Fine s) {p : List UInt8} (hp : p.length ≤ 100000) (h0 : placeA s.L p = 0) : Fine (putA s ⟨p, [], 0, true⟩).1 := by
  obtain ⟨P, x, k1, k2, k3, k4⟩ := place_ok h.sorted h0
  exact h.put (by simp) hp k4
theorem rMk_fine : ∀ (n : Nat) {s : St} {p : List UInt8}, Fine s → p.length ≤ 100000 → Fine (rMk n s p).1
  | 0, s, p, h, _ => h
  | n + 1, s, p, h, hp => by
    rw [rMk]
    split
    · exact h
    · rename_i hc
      split
      · split <;> exact h
      · have hd : (dirL p).length ≤ 100000 := Nat.le_trans (dirL_len p (List.length_pos_iff.2 (isPath_ne (by simpa using hc)))) hp
        have ih := rMk_fine n h hd
        split
        · exact ih
        · split
          · exact ih
          · rename_i h3
            exact put_fine ih hp (by simpa using h3)

theorem RMk_any : ∀ (n : Nat) (w : World) (v : Value) (s : St) (p : ByteArray), Fine s → p.size ≤ 100000 → RFiles w v s.L → 0 < n → (∀ P, AllGood P → bs p = Pt.text P → P.length < n) →
    Calls Tryz.prog 30 #[.agg #[v, .int .i64 s.c], .string p, .bool true] w (RPost w v (rMk n s (bs p)))
  | 0, _, _, _, _, _, _, _, h0, _ => absurd h0 (Nat.lt_irrefl _)
  | n + 1, w, v, s, p, hF, hp, h, _, hP => by
    have hl : s.L.length ≤ 100000 := by have := hF.len; omega
    have hp9 : p.size ≤ 900000 := by omega
    rw [rMk]
    cases hc : isPath (bs p) with
    | false => exact RMkdir_bad w v s p ⟨#[]⟩ ⟨#[]⟩ 0 true hF hp9 h (Lib.hid hc)
    | true =>
      rw [if_neg (by decide)]
      cases hg : getR s.L (bs p) with
      | some f =>
        obtain ⟨fp, ft, fc, fd⟩ := f
        have hG := fun W v hf => RGet_yes W v s.c p hl hf hF.sorted (Lib.hid hg)
        cases fd with
        | true => exact RMkdir_there w v s p (str fp) (str ft) fc true hF hp9 h (Lib.hid hc) hG
        | false => exact RMkdir_file w v s p (str fp) (str ft) fc true hF hp9 h (Lib.hid hc) hG
      | none =>
        have hG := fun W v hf => RGet_no W v s.c p hl hf hF.sorted (Lib.hid hg)
        obtain ⟨P, hgood, hpP⟩ := path_iff.1 hc
        obtain ⟨Q, x, rfl⟩ := snoc_of (P := P) (by rintro rfl; rw [hpP] at hg; cases hg)
        have hlen := hP _ hgood hpP
        have hdQ : dirL (bs p) = Pt.text Q := by rw [hpP, dirL_snoc hgood]
        have hdl : (dirL (bs p)).length ≤ (bs p).length := dirL_len _ (List.length_pos_iff.2 (isPath_ne hc))
        have hds : (str (dirL (bs p))).size ≤ 100000 := by rw [str_len]; rw [bs_len] at hdl; omega
        have hd : dirL (bs p) = bs (str (dirL (bs p))) := rfl
        have ih := fun W (hB : Below w.heap.size w W) => RMk_any n W v s (str (dirL (bs p))) hF hds (h.below hB) (by simp at hlen; omega) (fun P' hg' e => by
          rw [← hd, hdQ] at e
          rw [← text_inj hgood.cut hg' e]
          simp at hlen; omega)
        have hFt : Fine (rMk n s (dirL (bs p))).1 := rMk_fine n hF (by rw [bs_len] at hdl; omega)
        rw [← hd] at ih
        dsimp only
        generalize rMk n s (dirL (bs p)) = r at ih hFt ⊢
        obtain ⟨t, e⟩ := r
        dsimp only at ih hFt ⊢
        by_cases h1 : e = 0
        · subst h1
          rw [if_neg (by simp)]
          by_cases h2 : placeA t.L (bs p) = 0
          · rw [if_neg (by simp [h2])]
            exact RMkdir_rec w v s p (str noF.p) (str noF.t) noF.c true hF hp9 h (Lib.hid hc) (str (dirL (bs p))) (Lib.hid hd) t hFt ih (Lib.hid h2) hG
          · rw [if_pos h2]
            exact RMkdir_rec_no w v s p (str noF.p) (str noF.t) noF.c true hF hp9 h (Lib.hid hc) (str (dirL (bs p))) (Lib.hid hd) t hFt ih _ (Lib.hid rfl) h2 hG
        · rw [if_pos h1]
          exact RMkdir_rec_bad w v s p (str noF.p) (str noF.t) noF.c true hF hp9 h (Lib.hid hc) (str (dirL (bs p))) (Lib.hid hd) t e ih h1 hG

theorem RMkdir_any (w : World) (v : Value) (s : St) (p : ByteArray) (all : Bool) (hF : Fine s) (hC : Closed s.L) (hp : p.size ≤ 100000) (h : RFiles w v s.L) :
    Calls Tryz.prog 30 #[.agg #[v, .int .i64 s.c], .string p, .bool all] w (RPost w v (mkdirA s (bs p) all)) := by
  have hl : s.L.length ≤ 100000 := by have := hF.len; omega
  have hp9 : p.size ≤ 900000 := by omega
  rw [← mkdir_eq hC hF.sorted (p.size + 1) (bs p) all (by rw [bs_len]; omega)]
  unfold rMkdir
  cases all with
  | true =>
    rw [if_pos rfl]
    refine RMk_any _ w v s p hF hp h (by omega) fun P hg e => ?_
    have := parts_lt hg
    rw [← e, bs_len] at this
    omega
  | false =>
    rw [if_neg (by decide)]
    cases hc : isPath (bs p) with
    | false => exact RMkdir_bad w v s p ⟨#[]⟩ ⟨#[]⟩ 0 false hF hp9 h (Lib.hid hc)
    | true =>
      rw [if_neg (by decide)]
      unfold mk1
      cases hg : getR s.L (bs p) with
      | some f =>
        obtain ⟨fp, ft, fc, fd⟩ := f
        have hG := fun W v hf => RGet_yes W v s.c p hl hf hF.sorted (Lib.hid hg)
        dsimp only
        rw [if_neg (by simp)]
        cases fd with
        | true => exact RMkdir_dir w v s p (str fp) (str ft) fc false hF hp9 h (Lib.hid hc) hG
        | false => exact RMkdir_file w v s p (str fp) (str ft) fc false hF hp9 h (Lib.hid hc) hG
      | none =>
        have hG := fun W v hf => RGet_no W v s.c p hl hf hF.sorted (Lib.hid hg)
        dsimp only
        by_cases h2 : placeA s.L (bs p) = 0
        · rw [if_neg (by simp [h2])]
          exact RMkdir_one w v s p (str noF.p) (str noF.t) noF.c false hF hp9 h (Lib.hid hc) (Lib.hid h2) hG
        · rw [if_pos h2]
          exact RMkdir_one_no w v s p (str noF.p) (str noF.t) noF.c false hF hp9 h (Lib.hid hc) _ (Lib.hid rfl) h2 hG
end Go.Proofs.YtmmilnmlmgcobaaGreatDoor.Sw
