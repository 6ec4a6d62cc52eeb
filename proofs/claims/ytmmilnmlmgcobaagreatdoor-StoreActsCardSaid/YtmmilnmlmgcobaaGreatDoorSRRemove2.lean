/-
  The reference's Move, from its Remove.
  The reference's Remove.
  The reference's Remove and Move, whole.
-/
import Derived.Test.YtmmilnmlmgcobaaGreatDoorSRMkdir3
import Derived.Test.YtmmilnmlmgcobaaGreatDoorSClosed2
import Derived.Test.YtmmilnmlmgcobaaGreatDoorSMove
namespace Go.Proofs.YtmmilnmlmgcobaaGreatDoor.Sw
open Go.RowKit Go.Proofs.YtmmilnmlmgcobaaGreatDoor Go.Maps
set_option maxRecDepth 100000

set_option maxHeartbeats 1000000 in
theorem RMove_read (w : World) (v : Value) (s : St) (p q tx : ByteArray) (n : Int) (hF : Fine s) (_hp : p.size ≤ 900000) (_hq : q.size ≤ 900000) (h : RFiles w v s.L) (hR : Hid (readA (getR s.L (bs p)) = (bs tx, n))) (h0 : ¬ n = 0) :
    Calls Tryz.prog 34 #[.agg #[v, .int .i64 s.c], .string p, .string q] w (RPost w v (s, n)) := by
  obtain ⟨a, m, cp, rfl⟩ := h.shape
  obtain ⟨L, c⟩ := s
  have hl : L.length ≤ 100000 := by have := hF.len; simp at this; omega
  have hBa := fun x y => ((Below.refl w.heap.size w).alloc (Nat.le_refl _) x).alloc (by simp) y
  have hT := Two.new w (.slice a m cp) c
  go_enter Tryz.func34, Tryz.ntmps34
  go_wp2_with (go_at_call 39; refine (RRead_any _ _ c p _ hl (h.below (hBa _ _)).files hF.sorted (Lib.hid rfl)).mono ?_; rw [hR.out]; rintro e w1 ⟨rfl, B1⟩; have hT1 := hT.below (B1.mono (by simp)); have hB1 := (hBa _ _).trans (B1.mono (hBa _ _).size); obtain ⟨⟨q0, q1⟩, ⟨m0, m1⟩, ⟨r0, r1, z0, z1⟩⟩ := hT1.cells)
  have hB3 := (hB1.setCell (p := ⟨w.heap.size + 1, 0, none⟩) (by simp) (.slice a m cp)).setCell (p := ⟨w.heap.size + 1, 1, none⟩) (by simp) (.int .i64 c)
  have hx := (hT1.answer (.slice a m cp) c).1
  exact bodyPost_ret (v := .tuple #[.agg #[.slice a m cp, .int .i64 c], .int .i64 n]) (by simp [results, Tryz.results34, go_sem, hx.1, hx.2]) rfl ⟨_, rfl, h.below hB3, .inl rfl, hB3⟩

set_option maxHeartbeats 1000000 in
theorem RMove_same (w : World) (v : Value) (s : St) (p q tx : ByteArray) (n : Int) (hF : Fine s) (_hp : p.size ≤ 900000) (_hq : q.size ≤ 900000) (h : RFiles w v s.L) (hR : Hid (readA (getR s.L (bs p)) = (bs tx, n))) (h0 : n = 0) (hpq : (p.toList == q.toList) = true) :
    Calls Tryz.prog 34 #[.agg #[v, .int .i64 s.c], .string p, .string q] w (RPost w v (s, 1)) := by
  subst h0
  obtain ⟨a, m, cp, rfl⟩ := h.shape
  obtain ⟨L, c⟩ := s
  have hl : L.length ≤ 100000 := by have := hF.len; simp at this; omega
  have hBa := fun x y => ((Below.refl w.heap.size w).alloc (Nat.le_refl _) x).alloc (by simp) y
  have hT := Two.new w (.slice a m cp) c
  go_enter Tryz.func34, Tryz.ntmps34
  go_wp2_with (go_at_call 39; refine (RRead_any _ _ c p _ hl (h.below (hBa _ _)).files hF.sorted (Lib.hid rfl)).mono ?_; rw [hR.out]; rintro e w1 ⟨rfl, B1⟩; have hT1 := hT.below (B1.mono (by simp)); have hB1 := (hBa _ _).trans (B1.mono (hBa _ _).size); obtain ⟨⟨q0, q1⟩, ⟨m0, m1⟩, ⟨r0, r1, z0, z1⟩⟩ := hT1.cells)
  have hB3 := (hB1.setCell (p := ⟨w.heap.size + 1, 0, none⟩) (by simp) (.slice a m cp)).setCell (p := ⟨w.heap.size + 1, 1, none⟩) (by simp) (.int .i64 c)
  have hx := (hT1.answer (.slice a m cp) c).1
  exact bodyPost_ret (v := .tuple #[.agg #[.slice a m cp, .int .i64 c], .int .i64 1]) (by simp [results, Tryz.results34, go_sem, hx.1, hx.2]) rfl ⟨_, rfl, h.below hB3, .inl rfl, hB3⟩

set_option maxHeartbeats 1000000 in
theorem RMove_write (w : World) (v : Value) (s : St) (p q tx : ByteArray) (n : Int) (hF : Fine s) (_hp : p.size ≤ 900000) (hq : q.size ≤ 900000) (h : RFiles w v s.L) (hR : Hid (readA (getR s.L (bs p)) = (bs tx, n))) (h0 : n = 0) (hpq : (p.toList == q.toList) = false) (htx : tx.size ≤ 1048576) (t : St) (k : Int) (hW : Hid (writeA s (bs q) (bs tx) false = (t, k))) (hk : ¬ k = 0) :
    Calls Tryz.prog 34 #[.agg #[v, .int .i64 s.c], .string p, .string q] w (RPost w v (s, k)) := by
  subst h0
  obtain ⟨a, m, cp, rfl⟩ := h.shape
  obtain ⟨L, c⟩ := s
  have hl : L.length ≤ 100000 := by have := hF.len; simp at this; omega
  have hBa := fun x y => ((Below.refl w.heap.size w).alloc (Nat.le_refl _) x).alloc (by simp) y
  have hT := Two.new w (.slice a m cp) c
  go_enter Tryz.func34, Tryz.ntmps34
  go_wp2_with (first | (go_at_call 39; refine (RRead_any _ _ c p _ hl (h.below (hBa _ _)).files hF.sorted (Lib.hid rfl)).mono ?_; rw [hR.out]; rintro e w1 ⟨rfl, B1⟩; have hT1 := hT.below (B1.mono (by simp)); have hB1 := (hBa _ _).trans (B1.mono (hBa _ _).size); obtain ⟨⟨q0, q1⟩, ⟨m0, m1⟩, ⟨r0, r1, z0, z1⟩⟩ := hT1.cells) | (go_at_call 27; refine (RWrite_any _ _ ⟨L, c⟩ q tx false hF hq htx (h.below hB1)).mono ?_; rw [hW.out]; rintro e w2 ⟨v5, rfl, hR5, hv5, B2⟩; obtain ⟨a5, m5, cp5, rfl⟩ := hR5.shape; have hT2 := hT1.below (B2.mono hT1.lt); have hB2 := hB1.trans (B2.mono hB1.size); obtain ⟨⟨q0, q1⟩, ⟨m0, m1⟩, ⟨r0, r1, z0, z1⟩⟩ := hT2.cells))
  have hB3 := ((hB2.setCell (p := ⟨w.heap.size + 1, 0, none⟩) (by simp) (.slice a m cp)).setCell (p := ⟨w.heap.size + 1, 1, none⟩) (by simp) (.int .i64 c)).alloc ((hB2.setCell (p := ⟨w.heap.size + 1, 0, none⟩) (by simp) (.slice a m cp)).setCell (p := ⟨w.heap.size + 1, 1, none⟩) (by simp) (.int .i64 c)).size (.cells #[.slice a5 m5 cp5, .int .i64 t.c] 34)
  have hx := (hT2.answer (.slice a m cp) c).2 (.cells #[.slice a5 m5 cp5, .int .i64 t.c] 34)
  exact bodyPost_ret (v := .tuple #[.agg #[.slice a m cp, .int .i64 c], .int .i64 k]) (by simp [results, Tryz.results34, go_sem, hx.1, hx.2]) rfl ⟨_, rfl, h.below hB3, .inl rfl, hB3⟩

set_option maxHeartbeats 1000000 in
theorem RMove_rem (w : World) (v : Value) (s : St) (p q tx : ByteArray) (n : Int) (hF : Fine s) (_hp : p.size ≤ 900000) (hq : q.size ≤ 900000) (h : RFiles w v s.L) (hR : Hid (readA (getR s.L (bs p)) = (bs tx, n))) (h0 : n = 0) (hpq : (p.toList == q.toList) = false) (htx : tx.size ≤ 1048576) (t : St) (k : Int) (hW : Hid (writeA s (bs q) (bs tx) false = (t, k))) (hk : k = 0)
    (hRem : ∀ W v, RFiles W v t.L → Calls Tryz.prog 32 #[.agg #[v, .int .i64 t.c], .string p, .bool false] W (RPost W v (rRemove t (bs p) false))) :
    Calls Tryz.prog 34 #[.agg #[v, .int .i64 s.c], .string p, .string q] w (RPost w v (rRemove t (bs p) false)) := by
  subst h0
  subst hk
  obtain ⟨a, m, cp, rfl⟩ := h.shape
  obtain ⟨L, c⟩ := s
  have hl : L.length ≤ 100000 := by have := hF.len; simp at this; omega
  have hBa := fun x y => ((Below.refl w.heap.size w).alloc (Nat.le_refl _) x).alloc (by simp) y
  have hT := Two.new w (.slice a m cp) c
  go_enter Tryz.func34, Tryz.ntmps34
  go_wp2_with (first | (go_at_call 39; refine (RRead_any _ _ c p _ hl (h.below (hBa _ _)).files hF.sorted (Lib.hid rfl)).mono ?_; rw [hR.out]; rintro e w1 ⟨rfl, B1⟩; have hT1 := hT.below (B1.mono (by simp)); have hB1 := (hBa _ _).trans (B1.mono (hBa _ _).size); obtain ⟨⟨q0, q1⟩, ⟨m0, m1⟩, ⟨r0, r1, z0, z1⟩⟩ := hT1.cells) | (go_at_call 27; refine (RWrite_any _ _ ⟨L, c⟩ q tx false hF hq htx (h.below hB1)).mono ?_; rw [hW.out]; rintro e w2 ⟨v5, rfl, hR5, hv5, B2⟩; obtain ⟨a5, m5, cp5, rfl⟩ := hR5.shape; have hT2 := hT1.below (B2.mono hT1.lt); have hB2 := hB1.trans (B2.mono hB1.size); obtain ⟨⟨q0, q1⟩, ⟨m0, m1⟩, ⟨r0, r1, z0, z1⟩⟩ := hT2.cells))
  have hB3 := hB2.alloc hB2.size (.cells #[.slice a5 m5 cp5, .int .i64 t.c] 34)
  have hT3 := hT2.below ((Below.refl (w.heap.size + 2) w2).alloc hT2.lt (.cells #[.slice a5 m5 cp5, .int .i64 t.c] 34))
  have hR3 := hR5.below ((Below.refl _ _).alloc (Nat.le_refl _) (.cells #[.slice a5 m5 cp5, .int .i64 t.c] 34))
  refine (hRem _ _ hR3).mono ?_
  rintro e w4 ⟨v4, rfl, hR4, hv4, B4⟩
  have hT4 := hT3.below (B4.mono hT3.lt)
  have hB4 := hB3.trans (B4.mono hB3.size)
  have hb1 := hB1.size
  have hl1 := hT1.lt
  have hl3 := hT3.lt
  have hb3 := hB3.size
  have hlo := h.lt
  have hne : ∀ b, v4.ownBlock = some b → b ≠ w.heap.size + 1 := fun b hb => by
    rcases hv4 with rfl | hv4
    · rcases hv5 with e | hv5
      · have := hlo b (by rw [← e]; exact hb); omega
      · have := hv5 b hb; omega
    · have := hv4 b hb; omega
  have hv0 : v4 = .slice a m cp ∨ ∀ b, v4.ownBlock = some b → w.heap.size ≤ b := by
    rcases hv4 with rfl | hv4
    · rcases hv5 with e | hv5
      · exact .inl e
      · exact .inr fun b hb => by have := hv5 b hb; omega
    · exact .inr fun b hb => by have := hv4 b hb; omega
  clear hT hT1 hT2 hT3 hv4 hv5 B4 B2 B1 q0 q1 m0 m1 r0 r1 z0 z1
  obtain ⟨⟨q0, q1⟩, ⟨m0, m1⟩, ⟨r0, r1, z0, z1⟩⟩ := hT4.cells
  obtain ⟨a4, m4, cp4, rfl⟩ := hR4.shape
  go_wp2
  have hx := (hT4.answer (.slice a4 m4 cp4) (rRemove t (bs p) false).1.c).1
  have hB5 := (hB4.setCell (p := ⟨w.heap.size + 1, 0, none⟩) (by simp) (.slice a4 m4 cp4)).setCell (p := ⟨w.heap.size + 1, 1, none⟩) (by simp) (.int .i64 (rRemove t (bs p) false).1.c)
  exact bodyPost_ret (v := .tuple #[.agg #[.slice a4 m4 cp4, .int .i64 (rRemove t (bs p) false).1.c], .int .i64 (rRemove t (bs p) false).2]) (by simp [results, Tryz.results34, go_sem, hx.1, hx.2]) rfl ⟨_, rfl, (hR4.setCell _ _ _ hne).setCell _ _ _ hne, hv0, hB5⟩

theorem RMove_any (w : World) (v : Value) (s : St) (p q : ByteArray) (hF : Fine s) (hC : Closed s.L) (hp : p.size ≤ 100000) (hq : q.size ≤ 100000) (h : RFiles w v s.L)
    (hRem : ∀ W v t, Fine t → RFiles W v t.L → Calls Tryz.prog 32 #[.agg #[v, .int .i64 t.c], .string p, .bool false] W (RPost W v (rRemove t (bs p) false))) :
    Calls Tryz.prog 34 #[.agg #[v, .int .i64 s.c], .string p, .string q] w (RPost w v (moveA s (bs p) (bs q))) := by
  have hp9 : p.size ≤ 900000 := by omega
  have hq9 : q.size ≤ 900000 := by omega
  have htl := read_len hF (bs p)
  rw [← move_eq hC hF.sorted]
  unfold rMove
  rcases hr : readA (getR s.L (bs p)) with ⟨tx, n⟩
  rw [hr] at htl
  have hR : readA (getR s.L (bs p)) = (bs (str tx), n) := hr
  have htx : (str tx).size ≤ 1048576 := by rw [str_len]; exact htl
  dsimp only
  by_cases h0 : n = 0
  · rw [if_neg (by simp [h0])]
    by_cases he : bs p = bs q
    · rw [if_pos he]
      exact RMove_same w v s p q (str tx) n hF hp9 hq9 h (Lib.hid hR) h0 (by rw [Lib.toList_data, Lib.toList_data]; exact beq_iff_eq.2 he)
    · rw [if_neg he]
      have hpq : (p.toList == q.toList) = false := by rw [Lib.toList_data, Lib.toList_data, beq_eq_false_iff_ne]; exact he
      have hFt := hF.write (p := bs q) (t := tx) (by rw [bs_len]; exact hq) false
      rcases hw : writeA s (bs q) tx false with ⟨t, k⟩
      rw [hw] at hFt
      have hW : writeA s (bs q) (bs (str tx)) false = (t, k) := hw
      dsimp only
      by_cases hk : k = 0
      · rw [if_neg (by simp [hk])]
        exact RMove_rem w v s p q (str tx) n hF hp9 hq9 h (Lib.hid hR) h0 hpq htx t k (Lib.hid hW) hk (fun W v hf => hRem W v t hFt hf)
      · rw [if_pos hk]
        exact RMove_write w v s p q (str tx) n hF hp9 hq9 h (Lib.hid hR) h0 hpq htx t k (Lib.hid hW) hk
  · rw [if_pos h0]
    exact RMove_read w v s p q (str tx) n hF hp9 hq9 h (Lib.hid hR) h0
end Go.Proofs.YtmmilnmlmgcobaaGreatDoor.Sw
namespace Go.Proofs.YtmmilnmlmgcobaaGreatDoor.Sw
open Go.RowKit Go.Proofs.YtmmilnmlmgcobaaGreatDoor Go.Maps
set_option maxRecDepth 100000

set_option maxHeartbeats 2000000 in
theorem RRemove_root (w : World) (v : Value) (s : St) (p _gp _gt : ByteArray) (_gc : Int) (_gd all : Bool) (hF : Fine s) (_hp : p.size ≤ 100000) (h : RFiles w v s.L) (h0 : (p.toList == [46]) = true) :
    Calls Tryz.prog 32 #[.agg #[v, .int .i64 s.c], .string p, .bool all] w (RPost w v (s, 1)) := by
  obtain ⟨a, m, cp, rfl⟩ := h.shape
  obtain ⟨L, c⟩ := s
  have hl : L.length ≤ 100000 := by have := hF.len; simp at this; omega
  have hBa := fun x y => ((Below.refl w.heap.size w).alloc (Nat.le_refl _) x).alloc (by simp) y
  have hT := Two.new w (.slice a m cp) c
  go_enter Tryz.func32, Tryz.ntmps32
  go_wp2
  exact bodyPost_ret (v := .tuple #[.agg #[.slice a m cp, .int .i64 c], .int .i64 1]) (by simp [results, Tryz.results32, go_sem]) rfl ⟨_, rfl, h.below (hBa _ _), .inl rfl, hBa _ _⟩

set_option maxHeartbeats 2000000 in
theorem RRemove_none (w : World) (v : Value) (s : St) (p gp gt : ByteArray) (gc : Int) (gd all : Bool) (hF : Fine s) (_hp : p.size ≤ 100000) (h : RFiles w v s.L) (h0 : (p.toList == [46]) = false)
    (hG : ∀ W v, Files W v s.L → Calls Tryz.prog 38 #[.agg #[v, .int .i64 s.c], .string p] W fun e w' => e = .returned (.tuple #[.agg #[.string gp, .string gt, .int .i64 gc, .bool gd], .bool false]) ∧ Below W.heap.size W w') :
    Calls Tryz.prog 32 #[.agg #[v, .int .i64 s.c], .string p, .bool all] w (RPost w v (s, 3)) := by
  obtain ⟨a, m, cp, rfl⟩ := h.shape
  obtain ⟨L, c⟩ := s
  have hl : L.length ≤ 100000 := by have := hF.len; simp at this; omega
  have hBa := fun x y => ((Below.refl w.heap.size w).alloc (Nat.le_refl _) x).alloc (by simp) y
  have hT := Two.new w (.slice a m cp) c
  go_enter Tryz.func32, Tryz.ntmps32
  go_wp2_with (go_at_call 38; refine (hG _ _ (h.below (hBa _ _)).files).mono ?_; rintro e w1 ⟨rfl, B1⟩; have hT1 := hT.below (B1.mono (by simp)); have hB1 := (hBa _ _).trans (B1.mono (hBa _ _).size); obtain ⟨⟨q0, q1⟩, ⟨m0, m1⟩, ⟨r0, r1, z0, z1⟩⟩ := hT1.cells)
  have hB3 := ((hB1.setCell (p := ⟨w.heap.size + 1, 0, none⟩) (by simp) (.slice a m cp)).setCell (p := ⟨w.heap.size + 1, 1, none⟩) (by simp) (.int .i64 c)).alloc ((hB1.setCell (p := ⟨w.heap.size + 1, 0, none⟩) (by simp) (.slice a m cp)).setCell (p := ⟨w.heap.size + 1, 1, none⟩) (by simp) (.int .i64 c)).size (.cells #[.string gp, .string gt, .int .i64 gc, .bool gd] 26)
  have hx := (hT1.answer (.slice a m cp) c).2 (.cells #[.string gp, .string gt, .int .i64 gc, .bool gd] 26)
  exact bodyPost_ret (v := .tuple #[.agg #[.slice a m cp, .int .i64 c], .int .i64 3]) (by simp [results, Tryz.results32, go_sem, hx.1, hx.2]) rfl ⟨_, rfl, h.below hB3, .inl rfl, hB3⟩

def RemRel (w2 : World) (L : List F) (p : List UInt8) (v10 v11 v12 : Value) (wr : World) : Prop :=
  ∃ k : Nat, k ≤ L.length ∧ v12 = .int .i64 k ∧ v11 = .int .i64 (((L.take k).filter fun g => inR g.p p).length : Nat) ∧
    wr.ownsRow w2.heap.size 26 4 v10 ((L.take k).filter fun g => !inR g.p p).length (fCs ((L.take k).filter fun g => !inR g.p p)) ∧ (((L.take k).filter fun g => !inR g.p p) = [] → v10 = .slice none 0 0) ∧ Below w2.heap.size w2 wr

theorem owns_below {wr w3 : World} {base : Nat} {e : TypeId} {z : Nat} {v : Value} {n : Nat} {xs : List Value} (h : wr.ownsRow base e z v n xs) (B : Below wr.heap.size wr w3) : w3.ownsRow base e z v n xs := by
  refine ⟨h.1, ?_⟩
  rcases h.2 with h | ⟨g, cap, cur, h1, h2, h3, h4⟩
  · exact .inl h
  · exact .inr ⟨g, cap, cur, h1, h2, (B.block g (Array.getElem?_eq_some_iff.1 h3).1).trans h3, h4⟩
theorem Two.put0 {W : World} {n : Nat} {v : Value} {c : Int} (h : Two W n v c) (v' : Value) : Two (W.setCell ⟨n, 0, none⟩ v') n v' c := by
  have hc := h.H0
  refine ⟨by simpa [World.setCell] using h.lt, by simp [World.setCell, Array.getElem?_modify, hc], ?_⟩
  rw [heap_setCell_other _ _ _ _ (by simp)]
  exact h.H1
theorem RIn_is (w : World) (f : List UInt8) (p : ByteArray) (b : Bool) (hf : f.length ≤ 100000) (hp : p.size ≤ 100000) (h : Hid (inR f (bs p) = b)) :
    Calls Tryz.prog 68 #[.string (str f), .string p] w fun e w' => e = .returned (.bool b) ∧ Below w.heap.size w w' := by
  have := RIn_any w (str f) p (by rw [str_len]; omega) (by omega)
  have e : (Pt.parts (bs p)).isPrefixOf (Pt.parts (bs (str f))) = b := h.out
  rwa [e] at this

theorem rem_in {w2 : World} {L : List F} {p : List UInt8} {v10 : Value} {wr w3 : World} {k : Nat} (hk : k < L.length) (hi : inR L[k].p p = true)
    (ho : wr.ownsRow w2.heap.size 26 4 v10 ((L.take k).filter fun g => !inR g.p p).length (fCs ((L.take k).filter fun g => !inR g.p p))) (hnil : ((L.take k).filter fun g => !inR g.p p) = [] → v10 = .slice none 0 0) (hB : Below w2.heap.size w2 wr) (B3 : Below wr.heap.size wr w3) :
    RemRel w2 L p v10 (.int .i64 ((((L.take k).filter fun g => inR g.p p).length : Nat) + 1)) (.int .i64 ((k : Int) + 1)) w3 := by
  have e1 : (L.take (k + 1)).filter (fun g => !inR g.p p) = (L.take k).filter fun g => !inR g.p p := by
    rw [List.take_succ_eq_append_getElem hk, List.filter_append]; simp [hi]
  have e2 : (L.take (k + 1)).filter (fun g => inR g.p p) = ((L.take k).filter fun g => inR g.p p) ++ [L[k]] := by
    rw [List.take_succ_eq_append_getElem hk, List.filter_append]; simp [hi]
  refine ⟨k + 1, hk, by simp, by rw [e2]; simp, ?_, by rw [e1]; exact hnil, hB.trans (B3.mono hB.size)⟩
  rw [e1]
  exact owns_below ho B3

theorem rem_out {w2 : World} {L : List F} {p : List UInt8} {v' : Value} {w' : World} {k : Nat} (hk : k < L.length) (hi : inR L[k].p p = false)
    (ho : w'.ownsRow w2.heap.size 26 4 v' (((L.take k).filter fun g => !inR g.p p).length + 1) (fCs ((L.take k).filter fun g => !inR g.p p) ++ [.string (str L[k].p), .string (str L[k].t), .int .i64 L[k].c, .bool L[k].d])) (hB : Below w2.heap.size w2 w') :
    RemRel w2 L p v' (.int .i64 (((L.take k).filter fun g => inR g.p p).length : Nat)) (.int .i64 ((k : Int) + 1)) w' := by
  have e1 : (L.take (k + 1)).filter (fun g => !inR g.p p) = ((L.take k).filter fun g => !inR g.p p) ++ [L[k]] := by
    rw [List.take_succ_eq_append_getElem hk, List.filter_append]; simp [hi]
  have e2 : (L.take (k + 1)).filter (fun g => inR g.p p) = (L.take k).filter fun g => inR g.p p := by
    rw [List.take_succ_eq_append_getElem hk, List.filter_append]; simp [hi]
  refine ⟨k + 1, hk, by simp, by rw [e2], ?_, by rw [e1]; simp, hB⟩
  rw [e1, List.length_append, fCs_app]
  exact ho

set_option maxHeartbeats 2000000 in
theorem RRemove_some (w : World) (v : Value) (s : St) (p gp gt : ByteArray) (gc : Int) (gd all : Bool) (hF : Fine s) (hp : p.size ≤ 100000) (h : RFiles w v s.L) (h0 : (p.toList == [46]) = false)
    (hG : ∀ W v, Files W v s.L → Calls Tryz.prog 38 #[.agg #[v, .int .i64 s.c], .string p] W fun e w' => e = .returned (.tuple #[.agg #[.string gp, .string gt, .int .i64 gc, .bool gd], .bool true]) ∧ Below W.heap.size W w') :
    Calls Tryz.prog 32 #[.agg #[v, .int .i64 s.c], .string p, .bool all] w (RPost w v (if gd = true ∧ all = false ∧ 1 < (s.L.filter fun g => inR g.p (bs p)).length then (s, 4) else (⟨s.L.filter fun g => !inR g.p (bs p), s.c⟩, 0))) := by
  obtain ⟨a, m, cp, rfl⟩ := h.shape
  obtain ⟨L, c⟩ := s
  have hl : L.length ≤ 100000 := by have := hF.len; simp at this; omega
  have hBa := fun x y => ((Below.refl w.heap.size w).alloc (Nat.le_refl _) x).alloc (by simp) y
  have hT := Two.new w (.slice a m cp) c
  obtain ⟨i0, hi, hz0, hz1, hz2⟩ := info_parts infoF
  obtain rfl : m = L.length := by
    rcases h with ⟨rfl, e⟩ | ⟨_, _, _, e, _⟩ <;> (cases e; rfl)
  go_enter Tryz.func32, Tryz.ntmps32
  go_wp2_with (go_at_call 38; refine (hG _ _ (h.below (hBa _ _)).files).mono ?_; rintro e w1 ⟨rfl, B1⟩; have hT1 := hT.below (B1.mono (by simp)); have hB1 := (hBa _ _).trans (B1.mono (hBa _ _).size); obtain ⟨⟨q0, q1⟩, ⟨m0, m1⟩, ⟨r0, r1, z0, z1⟩⟩ := hT1.cells)
  have hBf := hB1.alloc hB1.size (.cells #[.string gp, .string gt, .int .i64 gc, .bool gd] 26)
  have hTf := hT1.below ((Below.refl (w.heap.size + 2) w1).alloc hT1.lt (.cells #[.string gp, .string gt, .int .i64 gc, .bool gd] 26))
  have hx3 : (w1.alloc (.cells #[.string gp, .string gt, .int .i64 gc, .bool gd] 26)).cell? ⟨w1.heap.size, 3, none⟩ = some (.bool gd) := cell_at (heap_new w1 (.cells #[.string gp, .string gt, .int .i64 gc, .bool gd] 26) rfl) rfl
  have hbf : w1.heap.size < (w1.alloc (.cells #[.string gp, .string gt, .int .i64 gc, .bool gd] 26)).heap.size := by simp
  generalize w1.alloc (.cells #[.string gp, .string gt, .int .i64 gc, .bool gd] 26) = w2 at *
  generalize w1.heap.size = bf at *
  clear B1 hT hT1 hB1 q0 q1 m0 m1 r0 r1 z0 z1 hG hBa
  have HW : Hid (∀ W, Below w2.heap.size w2 W → (W.cell? ⟨w.heap.size, 0, none⟩ = some (.slice a L.length cp) ∧ W.cell? ⟨w.heap.size, 1, none⟩ = some (.int .i64 c) ∧ W.cell? ⟨bf, 3, none⟩ = some (.bool gd))) := Lib.hid fun W hB => by
    have := (hTf.below (hB.mono hTf.lt)).cells
    exact ⟨this.2.1.1, this.2.1.2, (hB.cell (p := ⟨bf, 3, none⟩) hbf).trans hx3⟩
  go_loopw [10, 11, 12] (fun v10 v11 v12 wr => RemRel w2 L (bs p) v10 v11 v12 wr) (fun _ _ v _ => L.length - (intOf v).toNat)
  case atStart => exact ⟨0, Nat.zero_le _, rfl, rfl, World.ownsRow_nil _ _ _ _, fun _ => rfl, Below.refl _ _⟩
  case round =>
    obtain ⟨k, hk, rfl, rfl, ho, hnil, hB⟩ := hrel
    obtain ⟨g0, g1, g3⟩ := HW.out wr hB
    by_cases hlt : k < L.length
    · rcases h with ⟨rfl, _⟩ | ⟨_, b, cp', e, h2, h3, h4⟩
      · exact absurd hlt (by simp)
      cases e
      have HC : Hid (∀ W, Below wr.heap.size wr W → (W.cell? ⟨b, k * 4, none⟩ = some (.string (str L[k].p)) ∧ W.cell? ⟨b, k * 4 + 1, none⟩ = some (.string (str L[k].t)) ∧ W.cell? ⟨b, k * 4 + 2, none⟩ = some (.int .i64 L[k].c) ∧ W.cell? ⟨b, k * 4 + 3, none⟩ = some (.bool L[k].d))) := Lib.hid fun W hBW => by
        have hBB := hBf.trans ((hB.trans (hBW.mono hB.size)).mono hBf.size)
        have e : ∀ i u, i < 4 → (fC L[k])[i]? = some u → W.cell? ⟨b, k * 4 + i, none⟩ = some u := fun i u hi hu => (hBB.cell (p := ⟨b, k * 4 + i, none⟩) h3).trans (h4 _ u (by rw [rfCs_get hlt hi]; exact hu))
        exact ⟨e 0 _ (by decide) rfl, e 1 _ (by decide) rfl, e 2 _ (by decide) rfl, e 3 _ (by decide) rfl⟩
      obtain ⟨x0, x1, x2, x3⟩ := HC.out wr (Below.refl _ _)
      have HP : Hid (L[k].p.length ≤ 100000) := Lib.hid (hF.path _ (List.getElem_mem hlt))
      have hki : (k : Int) < L.length := by omega
      cases hin : inR L[k].p (bs p) with
      | true =>
        have HI := Lib.hid hin
        have HO := Lib.hid ho
        have HNil := Lib.hid hnil
        clear hin ho hnil h4 hx3 hTf
        have hcn : (((L.take k).filter fun g => inR g.p (bs p)).length : Nat) ≤ 100000 := by
          have h1 := List.length_filter_le (fun g => inR g.p (bs p)) (L.take k)
          have h2 := List.length_take_le k L
          omega
        go_wp2_with (go_at_call 68; refine (RIn_is _ _ p true HP.out hp HI).mono ?_; rintro e w3 ⟨rfl, B3⟩; obtain ⟨g0, g1, g3⟩ := HW.out w3 (hB.trans (B3.mono hB.size)))
        exact ⟨rem_in hlt HI.out HO.out HNil.out hB B3, by simp [intOf]; omega⟩
      | false =>
        have HI := Lib.hid hin
        obtain ⟨a10, c10, rfl⟩ := owns_slice ho
        have HO := Lib.hid ho
        clear hin ho hnil h4 hx3 hTf
        have hcn : (((L.take k).filter fun g => !inR g.p (bs p)).length : Nat) ≤ 100000 := by
          have h1 := List.length_filter_le (fun g => !inR g.p (bs p)) (L.take k)
          have h2 := List.length_take_le k L
          omega
        obtain ⟨fp, hfp⟩ : ∃ f, L[k] = f := ⟨_, rfl⟩
        have HF := Lib.hid hfp
        rw [hfp] at HC x0 x1 x2 x3 HP HI
        clear hfp
        go_wp2_with (first
          | (go_at_call 68; refine (RIn_is _ _ p false HP.out hp HI).mono ?_; rintro e w3 ⟨rfl, B3⟩; obtain ⟨g0, g1, g3⟩ := HW.out w3 (hB.trans (B3.mono hB.size)); obtain ⟨x0, x1, x2, x3⟩ := HC.out w3 B3; have h3w : b < w3.heap.size := (by have := hBf.size; have := hB.size; have := B3.size; omega); have hsz : w2.heap.size ≤ w3.heap.size := (by have := hB.size; have := B3.size; omega); have HO3 := owns_below HO.out B3; have HN3 := four_new w3 (.string (str fp.p)) (.string (str fp.t)) (.int .i64 fp.c) (.bool fp.d) 26; have D3 := hB.trans (B3.mono hB.size))
          | (at_builtin; refine wpList_append_own _ rfl _ _ 22 rfl w2.heap.size 26 i0 (.agg #[.string ByteArray.empty, .string ByteArray.empty, .int .i64 0, .bool false]) 4 48 Tryz.underlying22 hi hz0 hz1 hz2 rfl (by decide) _ _ _ rfl (HO3.alloc _) ⟨w3.heap.size, 0, none⟩ 1 1 [.string (str fp.p), .string (str fp.t), .int .i64 fp.c, .bool fp.d] rfl rfl HN3 (by simp [Value.oneCell']) (by unfold maxLen; omega) (by omega) (by simp; omega) ?_; intro v4 w4 hown4 hgrow4 _))
        have D4 := (D3.alloc hsz _).grown hgrow4 (by simp; omega) (fun j e => (HO3.lt j e).1)
        have hH := HF.out
        subst hH
        exact ⟨rem_out hlt HI.out hown4 D4, by simp [intOf]; omega⟩
    · obtain rfl : k = L.length := by omega
      simp only [List.take_length] at ho hnil ⊢
      have hT5 := hTf.below (hB.mono hTf.lt)
      have hB5 := hBf.trans (hB.mono hBf.size)
      have hge := hTf.lt
      obtain ⟨⟨q0, q1⟩, ⟨m0, m1⟩, ⟨r0, r1, z0, z1⟩⟩ := hT5.cells
      have y0 := frozen_at hT5.H0 0
      obtain ⟨a10, c10, rfl⟩ := owns_slice ho
      have hx := ((hT5.put0 (.slice a10 (L.filter fun g => !inR g.p (bs p)).length c10)).answer (.slice a10 (L.filter fun g => !inR g.p (bs p)).length c10) c).1
      have hx4 := (hT5.answer (.slice a L.length cp) c).1
      have o5 := owns_kept_cell (owns_kept_cell (owns_kept_cell ho (a := w.heap.size) (by omega) 0 (.slice a10 (L.filter fun g => !inR g.p (bs p)).length c10)) (a := w.heap.size + 1) (by omega) 0 (.slice a10 (L.filter fun g => !inR g.p (bs p)).length c10)) (a := w.heap.size + 1) (by omega) 1 (.int .i64 c)
      have B6 := ((hB5.setCell (p := ⟨w.heap.size, 0, none⟩) (by simp) (.slice a10 (L.filter fun g => !inR g.p (bs p)).length c10)).setCell (p := ⟨w.heap.size + 1, 0, none⟩) (by simp) (.slice a10 (L.filter fun g => !inR g.p (bs p)).length c10)).setCell (p := ⟨w.heap.size + 1, 1, none⟩) (by simp) (.int .i64 c)
      have B4 := (hB5.setCell (p := ⟨w.heap.size + 1, 0, none⟩) (by simp) (.slice a L.length cp)).setCell (p := ⟨w.heap.size + 1, 1, none⟩) (by simp) (.int .i64 c)
      have F6 := RFiles.of_own o5 hnil
      have F4 := h.below B4
      have V6 : ∀ b, (Value.slice a10 (L.filter fun g => !inR g.p (bs p)).length c10).ownBlock = some b → w.heap.size ≤ b := fun b hb => by have := (o5.lt b hb).1; omega
      clear ho hnil o5 hx3 hTf h
      have HF6 := Lib.hid F6
      have HF4 := Lib.hid F4
      have HV6 := Lib.hid V6
      have HX := Lib.hid hx
      have HX4 := Lib.hid hx4
      clear F6 F4 V6 hx hx4
      by_cases hbig : gd = true ∧ all = false ∧ 1 < (L.filter fun g => inR g.p (bs p)).length
      · have HR : Hid ((if gd = true ∧ all = false ∧ 1 < (L.filter fun g => inR g.p (bs p)).length then ((⟨L, c⟩ : St), (4 : Int)) else (⟨L.filter fun g => !inR g.p (bs p), c⟩, 0)) = (⟨L, c⟩, 4)) := Lib.hid (if_pos hbig)
        obtain ⟨rfl, rfl, h1⟩ := hbig
        have i1 : (1 : Int) < ((L.filter fun g => inR g.p (bs p)).length : Nat) := by omega
        go_wp2
        refine bodyPost_ret (v := .tuple #[.agg #[.slice a L.length cp, .int .i64 c], .int .i64 4]) (by simp [results, Tryz.results32, go_sem, HX4.out.1, HX4.out.2]) rfl ?_
        try rw [HR.out]
        exact ⟨_, rfl, HF4.out, .inl rfl, B4⟩
      · have HR : Hid ((if gd = true ∧ all = false ∧ 1 < (L.filter fun g => inR g.p (bs p)).length then ((⟨L, c⟩ : St), (4 : Int)) else (⟨L.filter fun g => !inR g.p (bs p), c⟩, 0)) = (⟨L.filter fun g => !inR g.p (bs p), c⟩, 0)) := Lib.hid (if_neg hbig)
        cases gd with
        | false =>
          go_wp2
          refine bodyPost_ret (v := .tuple #[.agg #[.slice a10 (L.filter fun g => !inR g.p (bs p)).length c10, .int .i64 c], .int .i64 0]) (by simp [results, Tryz.results32, go_sem, HX.out.1, HX.out.2]) rfl ?_
          try rw [HR.out]
          exact ⟨_, rfl, HF6.out, .inr HV6.out, B6⟩
        | true =>
          cases all with
          | true =>
            go_wp2
            refine bodyPost_ret (v := .tuple #[.agg #[.slice a10 (L.filter fun g => !inR g.p (bs p)).length c10, .int .i64 c], .int .i64 0]) (by simp [results, Tryz.results32, go_sem, HX.out.1, HX.out.2]) rfl ?_
            try rw [HR.out]
            exact ⟨_, rfl, HF6.out, .inr HV6.out, B6⟩
          | false =>
            have i1 : ¬ (1 : Int) < ((L.filter fun g => inR g.p (bs p)).length : Nat) := fun e => hbig ⟨rfl, rfl, by omega⟩
            go_wp2
            refine bodyPost_ret (v := .tuple #[.agg #[.slice a10 (L.filter fun g => !inR g.p (bs p)).length c10, .int .i64 c], .int .i64 0]) (by simp [results, Tryz.results32, go_sem, HX.out.1, HX.out.2]) rfl ?_
            try rw [HR.out]
            exact ⟨_, rfl, HF6.out, .inr HV6.out, B6⟩
end Go.Proofs.YtmmilnmlmgcobaaGreatDoor.Sw
namespace Go.Proofs.YtmmilnmlmgcobaaGreatDoor.Sw
open Go.RowKit Go.Proofs.YtmmilnmlmgcobaaGreatDoor Go.Maps
set_option maxRecDepth 100000

theorem RRemove_any (w : World) (v : Value) (s : St) (p : ByteArray) (all : Bool) (hF : Fine s) (hp : p.size ≤ 100000) (h : RFiles w v s.L) :
    Calls Tryz.prog 32 #[.agg #[v, .int .i64 s.c], .string p, .bool all] w (RPost w v (rRemove s (bs p) all)) := by
  have hl : s.L.length ≤ 100000 := by have := hF.len; omega
  unfold rRemove
  by_cases h0 : (p.toList == [46]) = true
  · rw [if_pos (bs_is h0)]
    exact RRemove_root w v s p ⟨#[]⟩ ⟨#[]⟩ 0 false all hF hp h h0
  · have h0 : (p.toList == [46]) = false := by simpa using h0
    rw [if_neg (bs_not h0)]
    cases hg : getR s.L (bs p) with
    | none => exact RRemove_none w v s p (str noF.p) (str noF.t) noF.c noF.d all hF hp h h0 fun W v hf => RGet_no W v s.c p hl hf hF.sorted (Lib.hid hg)
    | some f => exact RRemove_some w v s p (str f.p) (str f.t) f.c f.d all hF hp h h0 fun W v hf => RGet_yes W v s.c p hl hf hF.sorted (Lib.hid hg)

theorem RRemoveA_any (w : World) (v : Value) (s : St) (p : ByteArray) (all : Bool) (hF : Fine s) (hC : Closed s.L) (hp : p.size ≤ 100000) (h : RFiles w v s.L) :
    Calls Tryz.prog 32 #[.agg #[v, .int .i64 s.c], .string p, .bool all] w (RPost w v (removeA s (bs p) all)) := by
  rw [← remove_eq hC hF.sorted]
  exact RRemove_any w v s p all hF hp h

theorem RMoveA_any (w : World) (v : Value) (s : St) (p q : ByteArray) (hF : Fine s) (hC : Closed s.L) (hp : p.size ≤ 100000) (hq : q.size ≤ 100000) (h : RFiles w v s.L) :
    Calls Tryz.prog 34 #[.agg #[v, .int .i64 s.c], .string p, .string q] w (RPost w v (moveA s (bs p) (bs q))) :=
  RMove_any w v s p q hF hC hp hq h fun W v t hFt hf => RRemove_any W v t p false hFt hp hf
end Go.Proofs.YtmmilnmlmgcobaaGreatDoor.Sw
