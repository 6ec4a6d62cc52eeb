/-
  lex.word: turn, takeEscaped, take: a byte more.
-/
import Derived.Test.YtlkcpegjkmfngaaDoorLOpen
namespace Go.Proofs.YtlkcpegjkmfngaaDoor.Lx
open Go.RowKit Go.Proofs.YtlkcpegjkmfngaaDoor
set_option maxRecDepth 100000

theorem turn_any (w : World) (b : Nat) (X : Lp.W) (c : UInt8) (h : WAt w b X) :
    Calls Tryd.prog 65 #[.pointer (some ⟨b, 0, none⟩), .int .u8 (c.toNat : Int)] w
      (TakePost w b (if X.q = 0 then ⟨c, X.e, X.t⟩ else if X.q = c then ⟨0, X.e, X.t⟩ else X) (.returned (.bool (decide (X.q = 0 ∨ X.q = c))))) := by
  obtain ⟨q1, _, hz, hlt⟩ := h.cells
  have hz1 := hz 1
  by_cases h0 : X.q = 0
  · have HP : Hid (TakePost w b ⟨c, X.e, X.t⟩ (.returned (.bool true)) (.returned (.bool true)) (w.setCell ⟨b, 1, none⟩ (.int .u8 (c.toNat : Int)))) := Lib.hid ⟨rfl, h.set1 c, (Below.refl b w).setCell (Nat.le_refl _) _⟩
    rw [if_pos h0, show decide (X.q = 0 ∨ X.q = c) = true by simp [h0]]
    rw [h0] at q1
    have q1' : w.cell? ⟨b, 1, none⟩ = some (.int .u8 0) := q1
    clear h h0 hz q1
    go_enter Tryd.func65, Tryd.ntmps65
    go_wp2
    go_ret
    exact HP.out
  · rw [if_neg h0]
    have hb : ((X.q.toNat : Int) == 0) = false := eq_false (b := 0) h0
    have hb2 : ¬ X.q.toNat = 0 := fun e => h0 (UInt8.toNat_inj.1 e)
    by_cases h1 : X.q = c
    · have HP : Hid (TakePost w b ⟨0, X.e, X.t⟩ (.returned (.bool true)) (.returned (.bool true)) (w.setCell ⟨b, 1, none⟩ (.int .u8 0))) := Lib.hid ⟨rfl, h.set1 0, (Below.refl b w).setCell (Nat.le_refl _) _⟩
      rw [if_pos h1, show decide (X.q = 0 ∨ X.q = c) = true by simp [h1]]
      have hb3 := eq_true h1
      clear h h0 h1 hz
      go_enter Tryd.func65, Tryd.ntmps65
      go_wp2
      go_ret
      exact HP.out
    · have HP : Hid (TakePost w b X (.returned (.bool false)) (.returned (.bool false)) w) := Lib.hid ⟨rfl, h, Below.refl b w⟩
      rw [if_neg h1, show decide (X.q = 0 ∨ X.q = c) = false by simp [h0, h1]]
      have hb3 := eq_false h1
      clear h h0 h1 hz
      go_enter Tryd.func65, Tryd.ntmps65
      go_wp2
      go_ret
      exact HP.out

theorem esc_bytes (X : Lp.W) (c : UInt8) (he : X.e = true) : Lp.takeA X c = ⟨X.q, false, X.t ++ (if X.q ≠ 0 ∧ c ≠ 34 ∧ c ≠ 92 then [92, c] else [c])⟩ := if_pos he

/-- takeEscaped outside quotes. -/
theorem escaped_open (w : World) (b : Nat) (X : Lp.W) (c : UInt8) (hl : X.t.length ≤ 1000000) (hh : X.q = 0) (h : WAt w b X) :
    Calls Tryd.prog 64 #[.pointer (some ⟨b, 0, none⟩), .int .u8 (c.toNat : Int)] w (TakePost w b ⟨X.q, false, X.t ++ [c]⟩ (.returned (.tuple #[]))) := by
  obtain ⟨i0, hi, hz0, hz1, hz2⟩ := info_parts infoU
  obtain ⟨q1, q2, hz, hlt⟩ := h.cells
  obtain ⟨a, cp, H, hrow⟩ := h
  have q0 : w.cell? ⟨b, 0, none⟩ = some (.slice a X.t.length cp) := cell_at H rfl
  rw [hh] at q1
  have q1' : w.cell? ⟨b, 1, none⟩ = some (.int .u8 0) := q1
  clear hz q1 hh
  go_enter Tryd.func64, Tryd.ntmps64
  go_wp2_with (at_builtin; refine wpList_append_own _ rfl _ _ 88 rfl (b + 1) U8 i0 (.int .u8 0) 1 1 Tryd.underlying88 hi hz0 hz1 hz2 rfl (by decide) _ _ _ rfl (hrow.alloc _) ⟨w.heap.size, 0, none⟩ 1 1 [.int .u8 (c.toNat : Int)] rfl rfl (new_at _ (by simp) _ _) (by simp [Value.oneCell']) (by unfold maxLen; omega) (by omega) (by simp; omega) ?_; intro v1 w1 hown1 hgrow1 _; obtain ⟨a1, c1, rfl⟩ := owns_slice hown1; have g1 := raw_grown H hrow hown1 hgrow1; have y10 := g1.z0; have y11 := g1.z2; have y12 := g1.lt; have y13 := g1.c0; have y14 := g1.c2)
  go_end0
  exact ⟨rfl, (g1.wat (t := X.t ++ [c]) (by simp) (by rw [bytesC_app]; rfl)).set2 false, g1.below.setCell (Nat.le_refl _) _⟩
/-- takeEscaped: a quote in quotes. -/
theorem escaped_quote (w : World) (b : Nat) (X : Lp.W) (hl : X.t.length ≤ 1000000) (hh : X.q ≠ 0) (h : WAt w b X) :
    Calls Tryd.prog 64 #[.pointer (some ⟨b, 0, none⟩), .int .u8 34] w (TakePost w b ⟨X.q, false, X.t ++ [34]⟩ (.returned (.tuple #[]))) := by
  obtain ⟨i0, hi, hz0, hz1, hz2⟩ := info_parts infoU
  obtain ⟨q1, q2, hz, hlt⟩ := h.cells
  obtain ⟨a, cp, H, hrow⟩ := h
  have q0 : w.cell? ⟨b, 0, none⟩ = some (.slice a X.t.length cp) := cell_at H rfl
  have hb : ((X.q.toNat : Int) == 0) = false := eq_false (b := 0) hh
  have hb2 : ¬ X.q.toNat = 0 := fun e => hh (UInt8.toNat_inj.1 e)
  clear hz hh
  go_enter Tryd.func64, Tryd.ntmps64
  go_wp2_with (at_builtin; refine wpList_append_own _ rfl _ _ 88 rfl (b + 1) U8 i0 (.int .u8 0) 1 1 Tryd.underlying88 hi hz0 hz1 hz2 rfl (by decide) _ _ _ rfl (hrow.alloc _) ⟨w.heap.size, 0, none⟩ 1 1 [.int .u8 34] rfl rfl (new_at _ (by simp) _ _) (by simp [Value.oneCell']) (by unfold maxLen; omega) (by omega) (by simp; omega) ?_; intro v1 w1 hown1 hgrow1 _; obtain ⟨a1, c1, rfl⟩ := owns_slice hown1; have g1 := raw_grown H hrow hown1 hgrow1; have y10 := g1.z0; have y11 := g1.z2; have y12 := g1.lt; have y13 := g1.c0; have y14 := g1.c2)
  go_end0
  exact ⟨rfl, (g1.wat (t := X.t ++ [34]) (by simp) (by rw [bytesC_app]; rfl)).set2 false, g1.below.setCell (Nat.le_refl _) _⟩
/-- takeEscaped: a backslash in quotes. -/
theorem escaped_back (w : World) (b : Nat) (X : Lp.W) (hl : X.t.length ≤ 1000000) (hh : X.q ≠ 0) (h : WAt w b X) :
    Calls Tryd.prog 64 #[.pointer (some ⟨b, 0, none⟩), .int .u8 92] w (TakePost w b ⟨X.q, false, X.t ++ [92]⟩ (.returned (.tuple #[]))) := by
  obtain ⟨i0, hi, hz0, hz1, hz2⟩ := info_parts infoU
  obtain ⟨q1, q2, hz, hlt⟩ := h.cells
  obtain ⟨a, cp, H, hrow⟩ := h
  have q0 : w.cell? ⟨b, 0, none⟩ = some (.slice a X.t.length cp) := cell_at H rfl
  have hb : ((X.q.toNat : Int) == 0) = false := eq_false (b := 0) hh
  have hb2 : ¬ X.q.toNat = 0 := fun e => hh (UInt8.toNat_inj.1 e)
  clear hz hh
  go_enter Tryd.func64, Tryd.ntmps64
  go_wp2_with (at_builtin; refine wpList_append_own _ rfl _ _ 88 rfl (b + 1) U8 i0 (.int .u8 0) 1 1 Tryd.underlying88 hi hz0 hz1 hz2 rfl (by decide) _ _ _ rfl (hrow.alloc _) ⟨w.heap.size, 0, none⟩ 1 1 [.int .u8 92] rfl rfl (new_at _ (by simp) _ _) (by simp [Value.oneCell']) (by unfold maxLen; omega) (by omega) (by simp; omega) ?_; intro v1 w1 hown1 hgrow1 _; obtain ⟨a1, c1, rfl⟩ := owns_slice hown1; have g1 := raw_grown H hrow hown1 hgrow1; have y10 := g1.z0; have y11 := g1.z2; have y12 := g1.lt; have y13 := g1.c0; have y14 := g1.c2)
  go_end0
  exact ⟨rfl, (g1.wat (t := X.t ++ [92]) (by simp) (by rw [bytesC_app]; rfl)).set2 false, g1.below.setCell (Nat.le_refl _) _⟩

/-- takeEscaped: the backslash and the byte. -/
theorem escaped_two (w : World) (b : Nat) (X : Lp.W) (c : UInt8) (hl : X.t.length ≤ 1000000) (hh : X.q ≠ 0 ∧ c ≠ 34 ∧ c ≠ 92) (h : WAt w b X) :
    Calls Tryd.prog 64 #[.pointer (some ⟨b, 0, none⟩), .int .u8 (c.toNat : Int)] w (TakePost w b ⟨X.q, false, X.t ++ [92, c]⟩ (.returned (.tuple #[]))) := by
  obtain ⟨i0, hi, hz0, hz1, hz2⟩ := info_parts infoU
  obtain ⟨q1, q2, hz, hlt⟩ := h.cells
  obtain ⟨a, cp, H, hrow⟩ := h
  have q0 : w.cell? ⟨b, 0, none⟩ = some (.slice a X.t.length cp) := cell_at H rfl
  obtain ⟨h0, h1, h2⟩ := hh
  have hb : ((X.q.toNat : Int) == 0) = false := eq_false (b := 0) h0
  have hb2 : ¬ X.q.toNat = 0 := fun e => h0 (UInt8.toNat_inj.1 e)
  have hb3 : ((c.toNat : Int) == 34) = false := eq_false (b := 34) h1
  have hb4 : ((c.toNat : Int) == 92) = false := eq_false (b := 92) h2
  have hb5 : ¬ c.toNat = 34 := fun e => h1 (UInt8.toNat_inj.1 e)
  have hb6 : ¬ c.toNat = 92 := fun e => h2 (UInt8.toNat_inj.1 e)
  have hb7 : ¬ (c.toNat : Int) = 34 := by omega
  have hb8 : ¬ (c.toNat : Int) = 92 := by omega
  have hb9 : ((X.q.toNat : Int) != 0) = true := by simp [bne, hb]
  have hb10 : ((c.toNat : Int) != 34) = true := by simp [bne, hb3]
  have hb11 : ((c.toNat : Int) != 92) = true := by simp [bne, hb4]
  clear hz h0 h1 h2
  have tok : True := trivial
  go_enter Tryd.func64, Tryd.ntmps64
  go_wp2_with (first
    | (at_builtin; refine wpList_append_own _ rfl _ _ 88 rfl (b + 1) U8 i0 (.int .u8 0) 1 1 Tryd.underlying88 hi hz0 hz1 hz2 rfl (by decide) _ _ _ rfl (g1.row.alloc _) ⟨w1.heap.size, 0, none⟩ 1 1 [.int .u8 (c.toNat : Int)] rfl rfl (new_at _ (by simp) _ _) (by simp [Value.oneCell']) (by unfold maxLen; omega) (by omega) (by simp; omega) ?_; intro v2 w2 hown2 hgrow2 _; obtain ⟨a2, c2, rfl⟩ := owns_slice hown2; have g2 := raw_grown g1.heap g1.row hown2 hgrow2; have y20 := g2.z0; have y21 := g2.z2; have y22 := g2.lt; have y23 := g2.c0; have y24 := g2.c2)
    | (at_builtin; refine wpList_append_own _ rfl _ _ 88 rfl (b + 1) U8 i0 (.int .u8 0) 1 1 Tryd.underlying88 hi hz0 hz1 hz2 rfl (by decide) _ _ _ rfl (hrow.alloc _) ⟨w.heap.size, 0, none⟩ 1 1 [.int .u8 92] rfl rfl (new_at _ (by simp) _ _) (by simp [Value.oneCell']) (by unfold maxLen; omega) (by omega) (by simp; omega) ?_; intro v1 w1 hown1 hgrow1 _; obtain ⟨a1, c1, rfl⟩ := owns_slice hown1; have g1 := raw_grown H hrow hown1 hgrow1; have y10 := g1.z0; have y11 := g1.z2; have y12 := g1.lt; have y13 := g1.c0; have y14 := g1.c2; clear tok))
  go_end0
  exact ⟨rfl, (g2.wat (t := X.t ++ [92, c]) (by simp) (by rw [bytesC_app, List.append_assoc]; rfl)).set2 false, (g1.below.trans g2.below).setCell (Nat.le_refl _) _⟩
end Go.Proofs.YtlkcpegjkmfngaaDoor.Lx
