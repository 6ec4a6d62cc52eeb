/-
  lex.word: turn, takeEscaped, take: a byte more.
  lex.word.take: a byte more.
  lex.firstWord: the word with which a line begins.
-/
import Derived.Test.YteommneijlelkaaGreatDoorQLOpen
import Derived.Lib.IndexAny
import Derived.Deep.RegionHeld3
import Derived.RegionTactic
import Derived.Test.YteommneijlelkaaGreatDoorShelf
namespace Go.Proofs.YteommneijlelkaaGreatDoor.Lx
open Go.RowKit Go.Proofs.YteommneijlelkaaGreatDoor
set_option maxRecDepth 100000

theorem turn_any (w : World) (b : Nat) (X : Lp.W) (c : UInt8) (h : WAt w b X) :
    Calls Tryz.prog 165 #[.pointer (some ⟨b, 0, none⟩), .int .u8 (c.toNat : Int)] w
      (TakePost w b (if X.q = 0 then ⟨c, X.e, X.t⟩ else if X.q = c then ⟨0, X.e, X.t⟩ else X) (.returned (.bool (decide (X.q = 0 ∨ X.q = c))))) := by
  obtain ⟨q1, _, hz, hlt⟩ := h.cells
  have hz1 := hz 1
  by_cases h0 : X.q = 0
  · have HP : Hid (TakePost w b ⟨c, X.e, X.t⟩ (.returned (.bool true)) (.returned (.bool true)) (w.setCell ⟨b, 1, none⟩ (.int .u8 (c.toNat : Int)))) := Lib.hid ⟨rfl, h.set1 c, (Below.refl b w).setCell (Nat.le_refl _) _⟩
    rw [if_pos h0, show decide (X.q = 0 ∨ X.q = c) = true by simp [h0]]
    rw [h0] at q1
    have q1' : w.cell? ⟨b, 1, none⟩ = some (.int .u8 0) := q1
    clear h h0 hz q1
    go_enter Tryz.func165, Tryz.ntmps165
    go_wp2
    go_ret
    exact HP.out
  · rw [if_neg h0]
    have hb : ((X.q.toNat : Int) == 0) = false := eq_false (b := 0) h0
    have hb2 : ¬ X.q.toNat = 0 := fun e => h0 (UInt8.toNat_inj.1 e)
    by_cases h1 : X.q = c
    · have HP : Hid (TakePost w b ⟨0, X.e, X.t⟩ (.returned (.bool true)) (.returned (.bool true)) (w.setCell ⟨b, 1, none⟩ (.int .u8 0))) := Lib.hid ⟨rfl, h.set1 0, (Below.refl b w).setCell (Nat.le_refl _) _⟩
      rw [if_pos h1, show decide (X.q = 0 ∨ X.q = c) = true by simp [h1]]
      have hb3 := eq_true h1
      clear h h0 h1 hz
      go_enter Tryz.func165, Tryz.ntmps165
      go_wp2
      go_ret
      exact HP.out
    · have HP : Hid (TakePost w b X (.returned (.bool false)) (.returned (.bool false)) w) := Lib.hid ⟨rfl, h, Below.refl b w⟩
      rw [if_neg h1, show decide (X.q = 0 ∨ X.q = c) = false by simp [h0, h1]]
      have hb3 := eq_false h1
      clear h h0 h1 hz
      go_enter Tryz.func165, Tryz.ntmps165
      go_wp2
      go_ret
      exact HP.out

theorem esc_bytes (X : Lp.W) (c : UInt8) (he : X.e = true) : Lp.takeA X c = ⟨X.q, false, X.t ++ (if X.q ≠ 0 ∧ c ≠ 34 ∧ c ≠ 92 then [92, c] else [c])⟩ := if_pos he

/-- takeEscaped outside quotes. -/
theorem escaped_open (w : World) (b : Nat) (X : Lp.W) (c : UInt8) (hl : X.t.length ≤ 1000000) (hh : X.q = 0) (h : WAt w b X) :
    Calls Tryz.prog 164 #[.pointer (some ⟨b, 0, none⟩), .int .u8 (c.toNat : Int)] w (TakePost w b ⟨X.q, false, X.t ++ [c]⟩ (.returned (.tuple #[]))) := by
  obtain ⟨i0, hi, hz0, hz1, hz2⟩ := info_parts infoU
  obtain ⟨q1, q2, hz, hlt⟩ := h.cells
  obtain ⟨a, cp, H, hrow⟩ := h
  have q0 : w.cell? ⟨b, 0, none⟩ = some (.slice a X.t.length cp) := cell_at H rfl
  rw [hh] at q1
  have q1' : w.cell? ⟨b, 1, none⟩ = some (.int .u8 0) := q1
  clear hz q1 hh
  go_enter Tryz.func164, Tryz.ntmps164
  go_wp2_with (at_builtin; refine wpList_append_own _ rfl _ _ 84 rfl (b + 1) U8 i0 (.int .u8 0) 1 1 Tryz.underlying84 hi hz0 hz1 hz2 rfl (by decide) _ _ _ rfl (hrow.alloc _) ⟨w.heap.size, 0, none⟩ 1 1 [.int .u8 (c.toNat : Int)] rfl rfl (new_at _ (by simp) _ _) (by simp [Value.oneCell']) (by unfold maxLen; omega) (by omega) (by simp; omega) ?_; intro v1 w1 hown1 hgrow1 _; obtain ⟨a1, c1, rfl⟩ := owns_slice hown1; have g1 := raw_grown H hrow hown1 hgrow1; have y10 := g1.z0; have y11 := g1.z2; have y12 := g1.lt; have y13 := g1.c0; have y14 := g1.c2)
  go_end0
  exact ⟨rfl, (g1.wat (t := X.t ++ [c]) (by simp) (by rw [bytesC_app]; rfl)).set2 false, g1.below.setCell (Nat.le_refl _) _⟩
/-- takeEscaped: a quote in quotes. -/
theorem escaped_quote (w : World) (b : Nat) (X : Lp.W) (hl : X.t.length ≤ 1000000) (hh : X.q ≠ 0) (h : WAt w b X) :
    Calls Tryz.prog 164 #[.pointer (some ⟨b, 0, none⟩), .int .u8 34] w (TakePost w b ⟨X.q, false, X.t ++ [34]⟩ (.returned (.tuple #[]))) := by
  obtain ⟨i0, hi, hz0, hz1, hz2⟩ := info_parts infoU
  obtain ⟨q1, q2, hz, hlt⟩ := h.cells
  obtain ⟨a, cp, H, hrow⟩ := h
  have q0 : w.cell? ⟨b, 0, none⟩ = some (.slice a X.t.length cp) := cell_at H rfl
  have hb : ((X.q.toNat : Int) == 0) = false := eq_false (b := 0) hh
  have hb2 : ¬ X.q.toNat = 0 := fun e => hh (UInt8.toNat_inj.1 e)
  clear hz hh
  go_enter Tryz.func164, Tryz.ntmps164
  go_wp2_with (at_builtin; refine wpList_append_own _ rfl _ _ 84 rfl (b + 1) U8 i0 (.int .u8 0) 1 1 Tryz.underlying84 hi hz0 hz1 hz2 rfl (by decide) _ _ _ rfl (hrow.alloc _) ⟨w.heap.size, 0, none⟩ 1 1 [.int .u8 34] rfl rfl (new_at _ (by simp) _ _) (by simp [Value.oneCell']) (by unfold maxLen; omega) (by omega) (by simp; omega) ?_; intro v1 w1 hown1 hgrow1 _; obtain ⟨a1, c1, rfl⟩ := owns_slice hown1; have g1 := raw_grown H hrow hown1 hgrow1; have y10 := g1.z0; have y11 := g1.z2; have y12 := g1.lt; have y13 := g1.c0; have y14 := g1.c2)
  go_end0
  exact ⟨rfl, (g1.wat (t := X.t ++ [34]) (by simp) (by rw [bytesC_app]; rfl)).set2 false, g1.below.setCell (Nat.le_refl _) _⟩
/-- takeEscaped: a backslash in quotes. -/
theorem escaped_back (w : World) (b : Nat) (X : Lp.W) (hl : X.t.length ≤ 1000000) (hh : X.q ≠ 0) (h : WAt w b X) :
    Calls Tryz.prog 164 #[.pointer (some ⟨b, 0, none⟩), .int .u8 92] w (TakePost w b ⟨X.q, false, X.t ++ [92]⟩ (.returned (.tuple #[]))) := by
  obtain ⟨i0, hi, hz0, hz1, hz2⟩ := info_parts infoU
  obtain ⟨q1, q2, hz, hlt⟩ := h.cells
  obtain ⟨a, cp, H, hrow⟩ := h
  have q0 : w.cell? ⟨b, 0, none⟩ = some (.slice a X.t.length cp) := cell_at H rfl
  have hb : ((X.q.toNat : Int) == 0) = false := eq_false (b := 0) hh
  have hb2 : ¬ X.q.toNat = 0 := fun e => hh (UInt8.toNat_inj.1 e)
  clear hz hh
  go_enter Tryz.func164, Tryz.ntmps164
  go_wp2_with (at_builtin; refine wpList_append_own _ rfl _ _ 84 rfl (b + 1) U8 i0 (.int .u8 0) 1 1 Tryz.underlying84 hi hz0 hz1 hz2 rfl (by decide) _ _ _ rfl (hrow.alloc _) ⟨w.heap.size, 0, none⟩ 1 1 [.int .u8 92] rfl rfl (new_at _ (by simp) _ _) (by simp [Value.oneCell']) (by unfold maxLen; omega) (by omega) (by simp; omega) ?_; intro v1 w1 hown1 hgrow1 _; obtain ⟨a1, c1, rfl⟩ := owns_slice hown1; have g1 := raw_grown H hrow hown1 hgrow1; have y10 := g1.z0; have y11 := g1.z2; have y12 := g1.lt; have y13 := g1.c0; have y14 := g1.c2)
  go_end0
  exact ⟨rfl, (g1.wat (t := X.t ++ [92]) (by simp) (by rw [bytesC_app]; rfl)).set2 false, g1.below.setCell (Nat.le_refl _) _⟩

/-- takeEscaped: the backslash and the byte. -/
theorem escaped_two (w : World) (b : Nat) (X : Lp.W) (c : UInt8) (hl : X.t.length ≤ 1000000) (hh : X.q ≠ 0 ∧ c ≠ 34 ∧ c ≠ 92) (h : WAt w b X) :
    Calls Tryz.prog 164 #[.pointer (some ⟨b, 0, none⟩), .int .u8 (c.toNat : Int)] w (TakePost w b ⟨X.q, false, X.t ++ [92, c]⟩ (.returned (.tuple #[]))) := by
  obtain ⟨i0, hi, hz0, hz1, hz2⟩ := info_parts infoU
  obtain ⟨q1, q2, hz, hlt⟩ := h.cells
  obtain ⟨a, cp, H, hrow⟩ := h
  have q0 : w.cell? ⟨b, 0, none⟩ = some (.slice a X.t.length cp) := cell_at H rfl
  obtain ⟨h0, h1, h2⟩ := hh
  have hb : ((X.q.toNat : Int) == 0) = false := eq_false (b := 0) h0
  have hb2 : ¬ X.q.toNat = 0 := fun e => h0 (UInt8.toNat_inj.1 e)
  have hb3 : ((c.toNat : Int) == 34) = false := eq_false (b := 34) h1
  have hb4 : ((c.toNat : Int) == 92) = false := eq_false (b := 92) h2
  have hb5 : ¬ c.toNat = 34 := fun e => h1 (UInt8.toNat_inj.1 e)
  have hb6 : ¬ c.toNat = 92 := fun e => h2 (UInt8.toNat_inj.1 e)
  have hb7 : ¬ (c.toNat : Int) = 34 := by omega
  have hb8 : ¬ (c.toNat : Int) = 92 := by omega
  have hb9 : ((X.q.toNat : Int) != 0) = true := by simp [bne, hb]
  have hb10 : ((c.toNat : Int) != 34) = true := by simp [bne, hb3]
  have hb11 : ((c.toNat : Int) != 92) = true := by simp [bne, hb4]
  clear hz h0 h1 h2
  have tok : True := trivial
  go_enter Tryz.func164, Tryz.ntmps164
  go_wp2_with (first
    | (at_builtin; refine wpList_append_own _ rfl _ _ 84 rfl (b + 1) U8 i0 (.int .u8 0) 1 1 Tryz.underlying84 hi hz0 hz1 hz2 rfl (by decide) _ _ _ rfl (g1.row.alloc _) ⟨w1.heap.size, 0, none⟩ 1 1 [.int .u8 (c.toNat : Int)] rfl rfl (new_at _ (by simp) _ _) (by simp [Value.oneCell']) (by unfold maxLen; omega) (by omega) (by simp; omega) ?_; intro v2 w2 hown2 hgrow2 _; obtain ⟨a2, c2, rfl⟩ := owns_slice hown2; have g2 := raw_grown g1.heap g1.row hown2 hgrow2; have y20 := g2.z0; have y21 := g2.z2; have y22 := g2.lt; have y23 := g2.c0; have y24 := g2.c2)
    | (at_builtin; refine wpList_append_own _ rfl _ _ 84 rfl (b + 1) U8 i0 (.int .u8 0) 1 1 Tryz.underlying84 hi hz0 hz1 hz2 rfl (by decide) _ _ _ rfl (hrow.alloc _) ⟨w.heap.size, 0, none⟩ 1 1 [.int .u8 92] rfl rfl (new_at _ (by simp) _ _) (by simp [Value.oneCell']) (by unfold maxLen; omega) (by omega) (by simp; omega) ?_; intro v1 w1 hown1 hgrow1 _; obtain ⟨a1, c1, rfl⟩ := owns_slice hown1; have g1 := raw_grown H hrow hown1 hgrow1; have y10 := g1.z0; have y11 := g1.z2; have y12 := g1.lt; have y13 := g1.c0; have y14 := g1.c2; clear tok))
  go_end0
  exact ⟨rfl, (g2.wat (t := X.t ++ [92, c]) (by simp) (by rw [bytesC_app, List.append_assoc]; rfl)).set2 false, (g1.below.trans g2.below).setCell (Nat.le_refl _) _⟩
end Go.Proofs.YteommneijlelkaaGreatDoor.Lx
namespace Go.Proofs.YteommneijlelkaaGreatDoor.Lx
open Go.RowKit Go.Proofs.YteommneijlelkaaGreatDoor
set_option maxRecDepth 100000

theorem escaped_any (w : World) (b : Nat) (X : Lp.W) (c : UInt8) (hl : X.t.length ≤ 1000000) (h : WAt w b X) :
    Calls Tryz.prog 164 #[.pointer (some ⟨b, 0, none⟩), .int .u8 (c.toNat : Int)] w (TakePost w b ⟨X.q, false, X.t ++ (if X.q ≠ 0 ∧ c ≠ 34 ∧ c ≠ 92 then [92, c] else [c])⟩ (.returned (.tuple #[]))) := by
  by_cases hh : X.q ≠ 0 ∧ c ≠ 34 ∧ c ≠ 92
  · rw [if_pos hh]; exact escaped_two w b X c hl hh h
  · rw [if_neg hh]
    by_cases h0 : X.q = 0
    · exact escaped_open w b X c hl h0 h
    · by_cases h1 : c = 34
      · subst h1; exact escaped_quote w b X hl h0 h
      · by_cases h2 : c = 92
        · subst h2; exact escaped_back w b X hl h0 h
        · exact absurd ⟨h0, h1, h2⟩ hh

theorem take_esc (w : World) (b : Nat) (X : Lp.W) (c : UInt8) (hl : X.t.length ≤ 1000000) (he : X.e = true) (h : WAt w b X) :
    Calls Tryz.prog 117 #[.pointer (some ⟨b, 0, none⟩), .int .u8 (c.toNat : Int)] w (TakePost w b (Lp.takeA X c) (.returned (.tuple #[]))) := by
  obtain ⟨q1, q2, hz, hlt⟩ := h.cells
  rw [he] at q2
  have HA := escaped_any w b X c hl h
  rw [← esc_bytes X c he] at HA
  clear h
  go_enter Tryz.func117, Tryz.ntmps117
  go_wp2_with fail
  refine HA.mono ?_
  rintro e w1 ⟨rfl, hW, hB⟩
  go_wp2_with fail
  go_end0
  exact ⟨rfl, hW, hB⟩

theorem take_back (w : World) (b : Nat) (X : Lp.W) (_hl : X.t.length ≤ 1000000) (he : X.e = false) (hq : X.q ≠ 39) (h : WAt w b X) :
    Calls Tryz.prog 117 #[.pointer (some ⟨b, 0, none⟩), .int .u8 92] w (TakePost w b ⟨X.q, true, X.t⟩ (.returned (.tuple #[]))) := by
  obtain ⟨q1, q2, hz, hlt⟩ := h.cells
  rw [he] at q2
  have hz2 := hz 2
  have hb : ((X.q.toNat : Int) == 39) = false := eq_false (b := 39) hq
  have hb2 : ¬ X.q.toNat = 39 := fun e => hq (UInt8.toNat_inj.1 e)
  have hb3 : ¬ (X.q.toNat : Int) = 39 := by omega
  have hb4 : ((X.q.toNat : Int) != 39) = true := by simp [bne, hb]
  have HW := h.set2 true
  clear h hz hq
  go_enter Tryz.func117, Tryz.ntmps117
  go_wp2_with fail
  go_end0
  exact ⟨rfl, HW, (Below.refl b w).setCell (Nat.le_refl _) _⟩

theorem take_back1 (w : World) (b : Nat) (X : Lp.W) (hl : X.t.length ≤ 1000000) (he : X.e = false) (hq : X.q = 39) (h : WAt w b X) :
    Calls Tryz.prog 117 #[.pointer (some ⟨b, 0, none⟩), .int .u8 92] w (TakePost w b ⟨X.q, X.e, X.t ++ [92]⟩ (.returned (.tuple #[]))) := by
  obtain ⟨i0, hi, hz0, hz1, hz2⟩ := info_parts infoU
  obtain ⟨q1, q2, hz, hlt⟩ := h.cells
  rw [he] at q2
  obtain ⟨a, cp, H, hrow⟩ := h
  have q0 : w.cell? ⟨b, 0, none⟩ = some (.slice a X.t.length cp) := cell_at H rfl
  rw [hq] at q1
  have q1' : w.cell? ⟨b, 1, none⟩ = some (.int .u8 39) := q1
  clear hz q1 hq
  go_enter Tryz.func117, Tryz.ntmps117
  go_wp2_with (at_builtin; refine wpList_append_own _ rfl _ _ 84 rfl (b + 1) U8 i0 (.int .u8 0) 1 1 Tryz.underlying84 hi hz0 hz1 hz2 rfl (by decide) _ _ _ rfl (hrow.alloc _) ⟨w.heap.size, 0, none⟩ 1 1 [.int .u8 92] rfl rfl (new_at _ (by simp) _ _) (by simp [Value.oneCell']) (by unfold maxLen; omega) (by omega) (by simp; omega) ?_; intro v1 w1 hown1 hgrow1 _; obtain ⟨a1, c1, rfl⟩ := owns_slice hown1; have g1 := raw_grown H hrow hown1 hgrow1; have y10 := g1.z0; have y11 := g1.z2; have y12 := g1.lt; have y13 := g1.c0; have y14 := g1.c2)
  go_end0
  exact ⟨rfl, (g1.wat (X := ⟨X.q, X.e, X.t⟩) (t := X.t ++ [92]) (by simp) (by rw [bytesC_app]; rfl)), g1.below⟩

theorem take_other (w : World) (b : Nat) (X : Lp.W) (c : UInt8) (hl : X.t.length ≤ 1000000) (he : X.e = false) (hc : c ≠ 92 ∧ c ≠ 39 ∧ c ≠ 34) (h : WAt w b X) :
    Calls Tryz.prog 117 #[.pointer (some ⟨b, 0, none⟩), .int .u8 (c.toNat : Int)] w (TakePost w b ⟨X.q, X.e, X.t ++ [c]⟩ (.returned (.tuple #[]))) := by
  obtain ⟨i0, hi, hz0, hz1, hz2⟩ := info_parts infoU
  obtain ⟨q1, q2, hz, hlt⟩ := h.cells
  rw [he] at q2
  obtain ⟨a, cp, H, hrow⟩ := h
  have q0 : w.cell? ⟨b, 0, none⟩ = some (.slice a X.t.length cp) := cell_at H rfl
  have hb : ((c.toNat : Int) == 92) = false := eq_false (b := 92) hc.1
  have hb2 : ((c.toNat : Int) == 39) = false := eq_false (b := 39) hc.2.1
  have hb3 : ((c.toNat : Int) == 34) = false := eq_false (b := 34) hc.2.2
  have hb4 : ¬ c.toNat = 92 := fun e => hc.1 (UInt8.toNat_inj.1 e)
  have hb5 : ¬ c.toNat = 39 := fun e => hc.2.1 (UInt8.toNat_inj.1 e)
  have hb6 : ¬ c.toNat = 34 := fun e => hc.2.2 (UInt8.toNat_inj.1 e)
  have hb7 : ¬ (c.toNat : Int) = 92 := by omega
  have hb8 : ¬ (c.toNat : Int) = 39 := by omega
  have hb9 : ¬ (c.toNat : Int) = 34 := by omega
  clear hz hc
  go_enter Tryz.func117, Tryz.ntmps117
  go_wp2_with (at_builtin; refine wpList_append_own _ rfl _ _ 84 rfl (b + 1) U8 i0 (.int .u8 0) 1 1 Tryz.underlying84 hi hz0 hz1 hz2 rfl (by decide) _ _ _ rfl (hrow.alloc _) ⟨w.heap.size, 0, none⟩ 1 1 [.int .u8 (c.toNat : Int)] rfl rfl (new_at _ (by simp) _ _) (by simp [Value.oneCell']) (by unfold maxLen; omega) (by omega) (by simp; omega) ?_; intro v1 w1 hown1 hgrow1 _; obtain ⟨a1, c1, rfl⟩ := owns_slice hown1; have g1 := raw_grown H hrow hown1 hgrow1; have y10 := g1.z0; have y11 := g1.z2; have y12 := g1.lt; have y13 := g1.c0; have y14 := g1.c2)
  go_end0
  exact ⟨rfl, (g1.wat (X := ⟨X.q, X.e, X.t⟩) (t := X.t ++ [c]) (by simp) (by rw [bytesC_app]; rfl)), g1.below⟩

theorem take_turn39 (w : World) (b : Nat) (X : Lp.W) (_hl : X.t.length ≤ 1000000) (he : X.e = false) (hq : X.q = 0 ∨ X.q = 39) (h : WAt w b X) :
    Calls Tryz.prog 117 #[.pointer (some ⟨b, 0, none⟩), .int .u8 39] w (TakePost w b (if X.q = 0 then ⟨39, X.e, X.t⟩ else if X.q = 39 then ⟨0, X.e, X.t⟩ else X) (.returned (.tuple #[]))) := by
  obtain ⟨q1, q2, hz, hlt⟩ := h.cells
  rw [he] at q2
  have HA := turn_any w b X 39 h
  rw [decide_eq_true hq] at HA
  generalize (if X.q = 0 then (⟨39, X.e, X.t⟩ : Lp.W) else if X.q = 39 then ⟨0, X.e, X.t⟩ else X) = Y at *
  clear h hq
  go_enter Tryz.func117, Tryz.ntmps117
  go_wp2_with fail
  refine HA.mono ?_
  rintro e w1 ⟨rfl, hW, hB⟩
  go_wp2_with fail
  go_end0
  exact ⟨rfl, hW, hB⟩

theorem take_in39 (w : World) (b : Nat) (X : Lp.W) (hl : X.t.length ≤ 1000000) (he : X.e = false) (hq : ¬ (X.q = 0 ∨ X.q = 39)) (h : WAt w b X) :
    Calls Tryz.prog 117 #[.pointer (some ⟨b, 0, none⟩), .int .u8 39] w (TakePost w b ⟨X.q, X.e, X.t ++ [39]⟩ (.returned (.tuple #[]))) := by
  obtain ⟨i0, hi, hz0, hz1, hz2⟩ := info_parts infoU
  obtain ⟨q1, q2, hz, hlt⟩ := h.cells
  rw [he] at q2
  have HA := turn_any w b X 39 h
  rw [decide_eq_false hq, if_neg (fun e => hq (.inl e)), if_neg (fun e => hq (.inr e))] at HA
  clear h hq hz
  go_enter Tryz.func117, Tryz.ntmps117
  go_wp2_with fail
  refine HA.mono ?_
  rintro e w2 ⟨rfl, ⟨a, cp, H, hrow⟩, hB⟩
  have q0 : w2.cell? ⟨b, 0, none⟩ = some (.slice a X.t.length cp) := cell_at H rfl
  have hlt2 : b < w2.heap.size := (Array.getElem?_eq_some_iff.1 H).1
  go_wp2_with (at_builtin; refine wpList_append_own _ rfl _ _ 84 rfl (b + 1) U8 i0 (.int .u8 0) 1 1 Tryz.underlying84 hi hz0 hz1 hz2 rfl (by decide) _ _ _ rfl (hrow.alloc _) ⟨w2.heap.size, 0, none⟩ 1 1 [.int .u8 39] rfl rfl (new_at _ (by simp) _ _) (by simp [Value.oneCell']) (by unfold maxLen; omega) (by omega) (by simp; omega) ?_; intro v1 w1 hown1 hgrow1 _; obtain ⟨a1, c1, rfl⟩ := owns_slice hown1; have g1 := raw_grown H hrow hown1 hgrow1; have y10 := g1.z0; have y11 := g1.z2; have y12 := g1.lt; have y13 := g1.c0; have y14 := g1.c2)
  go_end0
  exact ⟨rfl, (g1.wat (X := ⟨X.q, X.e, X.t⟩) (t := X.t ++ [39]) (by simp) (by rw [bytesC_app]; rfl)), hB.trans g1.below⟩

theorem take_turn34 (w : World) (b : Nat) (X : Lp.W) (_hl : X.t.length ≤ 1000000) (he : X.e = false) (hq : X.q = 0 ∨ X.q = 34) (h : WAt w b X) :
    Calls Tryz.prog 117 #[.pointer (some ⟨b, 0, none⟩), .int .u8 34] w (TakePost w b (if X.q = 0 then ⟨34, X.e, X.t⟩ else if X.q = 34 then ⟨0, X.e, X.t⟩ else X) (.returned (.tuple #[]))) := by
  obtain ⟨q1, q2, hz, hlt⟩ := h.cells
  rw [he] at q2
  have HA := turn_any w b X 34 h
  rw [decide_eq_true hq] at HA
  generalize (if X.q = 0 then (⟨34, X.e, X.t⟩ : Lp.W) else if X.q = 34 then ⟨0, X.e, X.t⟩ else X) = Y at *
  clear h hq
  go_enter Tryz.func117, Tryz.ntmps117
  go_wp2_with fail
  refine HA.mono ?_
  rintro e w1 ⟨rfl, hW, hB⟩
  go_wp2_with fail
  go_end0
  exact ⟨rfl, hW, hB⟩

theorem take_in34 (w : World) (b : Nat) (X : Lp.W) (hl : X.t.length ≤ 1000000) (he : X.e = false) (hq : ¬ (X.q = 0 ∨ X.q = 34)) (h : WAt w b X) :
    Calls Tryz.prog 117 #[.pointer (some ⟨b, 0, none⟩), .int .u8 34] w (TakePost w b ⟨X.q, X.e, X.t ++ [34]⟩ (.returned (.tuple #[]))) := by
  obtain ⟨i0, hi, hz0, hz1, hz2⟩ := info_parts infoU
  obtain ⟨q1, q2, hz, hlt⟩ := h.cells
  rw [he] at q2
  have HA := turn_any w b X 34 h
  rw [decide_eq_false hq, if_neg (fun e => hq (.inl e)), if_neg (fun e => hq (.inr e))] at HA
  clear h hq hz
  go_enter Tryz.func117, Tryz.ntmps117
  go_wp2_with fail
  refine HA.mono ?_
  rintro e w2 ⟨rfl, ⟨a, cp, H, hrow⟩, hB⟩
  have q0 : w2.cell? ⟨b, 0, none⟩ = some (.slice a X.t.length cp) := cell_at H rfl
  have hlt2 : b < w2.heap.size := (Array.getElem?_eq_some_iff.1 H).1
  go_wp2_with (at_builtin; refine wpList_append_own _ rfl _ _ 84 rfl (b + 1) U8 i0 (.int .u8 0) 1 1 Tryz.underlying84 hi hz0 hz1 hz2 rfl (by decide) _ _ _ rfl (hrow.alloc _) ⟨w2.heap.size, 0, none⟩ 1 1 [.int .u8 34] rfl rfl (new_at _ (by simp) _ _) (by simp [Value.oneCell']) (by unfold maxLen; omega) (by omega) (by simp; omega) ?_; intro v1 w1 hown1 hgrow1 _; obtain ⟨a1, c1, rfl⟩ := owns_slice hown1; have g1 := raw_grown H hrow hown1 hgrow1; have y10 := g1.z0; have y11 := g1.z2; have y12 := g1.lt; have y13 := g1.c0; have y14 := g1.c2)
  go_end0
  exact ⟨rfl, (g1.wat (X := ⟨X.q, X.e, X.t⟩) (t := X.t ++ [34]) (by simp) (by rw [bytesC_app]; rfl)), hB.trans g1.below⟩

theorem take_any (w : World) (b : Nat) (X : Lp.W) (c : UInt8) (hl : X.t.length ≤ 1000000) (h : WAt w b X) :
    Calls Tryz.prog 117 #[.pointer (some ⟨b, 0, none⟩), .int .u8 (c.toNat : Int)] w (TakePost w b (Lp.takeA X c) (.returned (.tuple #[]))) := by
  cases he : X.e with
  | true => exact take_esc w b X c hl he h
  | false =>
    unfold Lp.takeA
    rw [if_neg (by rw [he]; simp)]
    have e1 : ∀ (q : UInt8) t, (⟨q, X.e, t⟩ : Lp.W) = ⟨q, false, t⟩ := fun q t => by rw [he]
    by_cases hc : c = 92
    · subst hc
      by_cases hq : X.q = 39
      · rw [if_neg (fun h => h.2 hq), if_neg (by decide), ← e1]
        exact take_back1 w b X hl he hq h
      · rw [if_pos ⟨rfl, hq⟩]
        exact take_back w b X hl he hq h
    · rw [if_neg (fun h => hc h.1)]
      by_cases h1 : c = 39
      · subst h1
        rw [if_pos (.inl rfl)]
        by_cases hq : X.q = 0 ∨ X.q = 39
        · have := take_turn39 w b X hl he hq h
          rcases hq with hq | hq
          · rw [if_pos hq] at this ⊢; rw [← e1]; exact this
          · have h0 : ¬ X.q = 0 := by rw [hq]; decide
            rw [if_neg h0, if_pos hq] at this ⊢; rw [← e1]; exact this
        · rw [if_neg (fun e => hq (.inl e)), if_neg (fun e => hq (.inr e)), ← e1]
          exact take_in39 w b X hl he hq h
      · by_cases h2 : c = 34
        · subst h2
          rw [if_pos (.inr rfl)]
          by_cases hq : X.q = 0 ∨ X.q = 34
          · have := take_turn34 w b X hl he hq h
            rcases hq with hq | hq
            · rw [if_pos hq] at this ⊢; rw [← e1]; exact this
            · have h0 : ¬ X.q = 0 := by rw [hq]; decide
              rw [if_neg h0, if_pos hq] at this ⊢; rw [← e1]; exact this
          · rw [if_neg (fun e => hq (.inl e)), if_neg (fun e => hq (.inr e)), ← e1]
            exact take_in34 w b X hl he hq h
        · rw [if_neg (fun e => e.elim h1 h2), ← e1]
          exact take_other w b X c hl he ⟨hc, h1, h2⟩ h
end Go.Proofs.YteommneijlelkaaGreatDoor.Lx
namespace Go.Proofs.YteommneijlelkaaGreatDoor.Lx
open Go.RowKit Go.Proofs.YteommneijlelkaaGreatDoor
set_option maxRecDepth 100000

/-- The bytes that end a word. -/
def endsS : ByteArray := ⟨#[32, 9, 10, 59, 38, 124, 60, 62]⟩
def specS : ByteArray := ⟨#[32, 9, 10, 59, 38, 124, 60, 62, 39, 34, 92]⟩
theorem index_neg {l : List UInt8} {c : UInt8} : Lib.indexByte l c < 0 ↔ l.contains c = false := by
  rw [Lib.contains_iff_indexByte, decide_eq_false_iff_not]
  omega
theorem ends_is (c : UInt8) : (by8 endsS).contains c = Lp.endB c := by
  show List.contains [32, 9, 10, 59, 38, 124, 60, 62] c = _
  simp only [List.contains_cons, List.contains_nil, Bool.or_false, Lp.endB, Lp.blankB, Bool.or_assoc]
theorem IndexByte_is (s : ByteArray) (c : UInt8) (w : World) :
    Calls Tryz.prog 114 #[.string s, .int .u8 (c.toNat : Int)] w fun e w' => e = .returned (.int .i64 (Lib.indexByte (by8 s) c)) ∧ w = w' := by
  refine (Tryz.strings_IndexByte s (c.toNat : Int) w).mono fun e w' ⟨he, hw⟩ => ⟨?_, hw.symm⟩
  rw [he]
  have e : ((c.toNat : Int)).toNat.toUInt8 = c := by simp
  rw [e]; rfl
theorem among_any (w : World) (s : ByteArray) (c : UInt8) : Calls Tryz.prog 73 #[.string s, .int .u8 (c.toNat : Int)] w fun e w' => e = .returned (.bool ((by8 s).contains c)) ∧ w = w' := by
  have hI := IndexByte_is s c w
  have hge := Lib.indexByte_ge (by8 s) c
  have hn := index_neg (l := by8 s) (c := c)
  generalize Lib.indexByte (by8 s) c = i at *
  by_cases h : 0 ≤ i
  · have HT : Hid ((by8 s).contains c = true) := Lib.hid (by
      cases hc : (by8 s).contains c with
      | true => rfl
      | false => have := hn.2 hc; omega)
    clear hn
    go_enter Tryz.func73, Tryz.ntmps73
    go_wp2_with fail
    refine hI.mono ?_
    rintro e w' ⟨rfl, rfl⟩
    go_wp2_with fail
    go_ret
    exact ⟨by rw [HT.out]; rfl, rfl⟩
  · have HT : Hid ((by8 s).contains c = false) := Lib.hid (hn.1 (by omega))
    have hd : decide (0 ≤ i) = false := decide_eq_false h
    clear hn
    go_enter Tryz.func73, Tryz.ntmps73
    go_wp2_with fail
    refine hI.mono ?_
    rintro e w' ⟨rfl, rfl⟩
    go_wp2_with fail
    go_ret
    exact ⟨by rw [HT.out, ← hd]; rfl, rfl⟩

theorem WAt.later {w w' : World} {b : Nat} {X : Lp.W} (h : WAt w b X) (hB : Below w.heap.size w w') : WAt w' b X := by
  have hlt := h.lt
  obtain ⟨a, c, H, hrow⟩ := h
  exact ⟨a, c, (hB.block b hlt).trans H, owns_below hrow hB⟩
theorem WAt.alloc {w : World} {b : Nat} {X : Lp.W} (h : WAt w b X) (o : Obj) : WAt (w.alloc o) b X := h.later ((Below.refl _ _).alloc (Nat.le_refl _) o)

theorem set_two {w : World} {n : Nat} {x y : Value} {T : TypeId} (H : w.heap[n]? = some (.cells #[x, y] T (0, 0))) (u v : Value) : (w.setCell ⟨n, 0, none⟩ u).cell? ⟨n, 0, none⟩ = some u ∧ ((w.setCell ⟨n, 0, none⟩ u).setCell ⟨n, 1, none⟩ v).cell? ⟨n, 1, none⟩ = some v :=
  ⟨cell_at (heap_set3 H u) rfl, cell_at (heap_set3 (heap_set3 H u) v) rfl⟩
theorem str_drop (s : ByteArray) (k : Nat) : str ((by8 s).drop k) = s.extract k s.size := by rw [← by8_drop, str_by8]
def wordV : Option (Bs × Bs) → Value
  | none => .tuple #[.agg #[.int .i64 0, .string ⟨#[]⟩], .string ⟨#[]⟩, .bool false]
  | some p => .tuple #[.agg #[.int .i64 0, .string (str p.1)], .string (str p.2), .bool true]
def WordPost (w : World) (o : Option (Bs × Bs)) (e : Ending) (w' : World) : Prop := e = .returned (wordV o) ∧ Below w.heap.size w w'

/-- What the loop's head knows. -/
def WordRel (w : World) (s : ByteArray) (v : Value) (wr : World) : Prop :=
  ∃ (k : Nat) (X : Lp.W), v = .int .i64 k ∧ k ≤ s.size ∧ WAt wr (w.heap.size + 1) X ∧ Lp.wordA Lp.word0 (by8 s) = Lp.wordA X ((by8 s).drop k) ∧ X.t.length ≤ 2 * k ∧
    wr.heap[w.heap.size]? = some (.cells #[.int .i64 0, .string ⟨#[]⟩] 116 (0, 0)) ∧ Below w.heap.size w wr

theorem take_len (X : Lp.W) (c : UInt8) : (Lp.takeA X c).t.length ≤ X.t.length + 2 := by
  unfold Lp.takeA
  split
  · split <;> simp
  · split
    · simp
    · split
      · split
        · simp
        · split <;> simp
      · simp

set_option maxHeartbeats 2000000 in
theorem firstWord_any (w : World) (s : ByteArray) (hs : s.size ≤ 100000) : Calls Tryz.prog 74 #[.string s] w (WordPost w (Lp.wordA Lp.word0 (by8 s))) := by
  go_enter Tryz.func74, Tryz.ntmps74
  go_wp2_with fail
  go_loopw [9] (fun v wr => WordRel w s v wr) (fun v _ => s.size - (intOf v).toNat)
  case atStart =>
    refine ⟨0, Lp.word0, rfl, Nat.zero_le _, ⟨none, 0, heap_new _ _ (by simp), World.ownsRow_nil _ _ _ _⟩, rfl, Nat.zero_le _, ?_, ((Below.refl _ _).alloc (Nat.le_refl _) _).alloc (by simp) _⟩
    exact (Below.heap_alloc _ _ _ (by simp)).trans (heap_new _ _ rfl)
  case round =>
    obtain ⟨k, X, rfl, hk, hW, hword, hlen, H0, hB⟩ := hrel
    by_cases hlt : k < s.size
    · have hopen := open_any wr _ X hW
      have ham := among_any wr endsS s[k]
      rw [ends_is] at ham
      have htake := take_any wr _ X s[k] (by omega) hW
      have hlen2 := take_len X s[k]
      have hlt0 : w.heap.size < wr.heap.size := (Array.getElem?_eq_some_iff.1 H0).1
      by_cases hstop : X.open = false ∧ Lp.endB s[k] = true
      · have HWd : Hid (Lp.wordA Lp.word0 (by8 s) = some (X.t, (by8 s).drop k)) := Lib.hid (by rw [hword, by8_at hlt, Lp.wordA, if_pos hstop])
        rw [hstop.1] at hopen
        rw [hstop.2] at ham
        clear hword hstop htake
        go_wp2_with fail
        refine hopen.mono ?_
        rintro e w' ⟨rfl, rfl⟩
        go_wp2_with fail
        refine ham.mono ?_
        rintro e w' ⟨rfl, rfl⟩
        go_wp2_with fail
        have HW := Lib.hid fun W (B : Below wr.heap.size wr W) => token_any W _ X (hW.later B)
        have HH := Lib.hid fun W (B : Below wr.heap.size wr W) => (B.block _ hlt0).trans H0
        have D0 : Below wr.heap.size wr wr.drew := (Below.refl _ _).drew
        have hk63 : (k : Int) ≤ s.size := by omega
        clear hopen ham
        go_region_held3 (fun w' => True) (first | go_keep | trivial)
          (first
            | (go_at_call 116; refine (HW.out _ D0).mono ?_; rintro e wa ⟨rfl, Ba⟩; have D1 := D0.trans Ba; have G1 := HH.out _ D1; have z0 := frozen_at G1 0; have z1 := frozen_at G1 1; have c0 : wa.cell? ⟨w.heap.size, 0, none⟩ = some (.int .i64 0) := cell_at G1 rfl; have c1 : wa.cell? ⟨w.heap.size, 1, none⟩ = some (.string ⟨#[]⟩) := cell_at G1 rfl; have hlt1 : w.heap.size < wa.heap.size := (Array.getElem?_eq_some_iff.1 G1).1))
        all_goals (obtain ⟨s0, s1⟩ := set_two G1 (.int .i64 0) (.string (str X.t)))
        all_goals go_wp2_with fail
        all_goals exact bodyPost_ret (v := wordV (some (X.t, (by8 s).drop k))) (by simp [results, Tryz.results74, go_sem, wordV, s0, s1, str_drop]) rfl ⟨by rw [HWd.out], ((hB.trans (D1.mono hB.size)).setCell (Nat.le_refl _) _).setCell (Nat.le_refl _) _⟩
      · have HWd : Hid (Lp.wordA Lp.word0 (by8 s) = Lp.wordA (Lp.takeA X s[k]) ((by8 s).drop (k + 1))) := Lib.hid (by rw [hword, by8_at hlt, Lp.wordA, if_neg hstop])
        clear hword
        cases ho : X.open with
        | true =>
          rw [ho] at hopen
          clear ho ham hstop
          go_wp2_with fail
          refine hopen.mono ?_
          rintro e w' ⟨rfl, rfl⟩
          go_wp2_with fail
          refine htake.mono ?_
          rintro e w1 ⟨rfl, hW1, hB1⟩
          go_wp2_with fail
          go_roundw
          case rel => exact ⟨k + 1, Lp.takeA X s[k], by go_num, hlt, hW1, HWd.out, by omega, (hB1.block _ (by omega)).trans H0, hB.trans (hB1.mono (by omega))⟩
          case measure => simp [intOf]; omega
        | false =>
          have he : Lp.endB s[k] = false := by
            cases he : Lp.endB s[k] with
            | false => rfl
            | true => exact absurd ⟨ho, he⟩ hstop
          rw [ho] at hopen
          rw [he] at ham
          clear ho he hstop
          go_wp2_with fail
          refine hopen.mono ?_
          rintro e w' ⟨rfl, rfl⟩
          go_wp2_with fail
          refine ham.mono ?_
          rintro e w' ⟨rfl, rfl⟩
          go_wp2_with fail
          refine htake.mono ?_
          rintro e w1 ⟨rfl, hW1, hB1⟩
          go_wp2_with fail
          go_roundw
          case rel => exact ⟨k + 1, Lp.takeA X s[k], by go_num, hlt, hW1, HWd.out, by omega, (hB1.block _ (by omega)).trans H0, hB.trans (hB1.mono (by omega))⟩
          case measure => simp [intOf]; omega
    · obtain rfl : k = s.size := by omega
      rw [List.drop_eq_nil_of_le (by rw [by8_len]; omega)] at hword
      have hopen := open_any wr _ X hW
      have htok := token_any wr _ X hW
      have z0 := frozen_at H0 0
      have z1 := frozen_at H0 1
      have c0 : wr.cell? ⟨w.heap.size, 0, none⟩ = some (.int .i64 0) := cell_at H0 rfl
      have c1 : wr.cell? ⟨w.heap.size, 1, none⟩ = some (.string ⟨#[]⟩) := cell_at H0 rfl
      have hlt0 : w.heap.size < wr.heap.size := (Array.getElem?_eq_some_iff.1 H0).1
      cases ho : X.open with
      | true =>
        have HWd : Hid (Lp.wordA Lp.word0 (by8 s) = none) := Lib.hid (by rw [hword, Lp.wordA, if_pos ho])
        rw [ho] at hopen
        clear ho hword htok
        go_wp2_with fail
        refine hopen.mono ?_
        rintro e w' ⟨rfl, rfl⟩
        go_wp2_with fail
        obtain ⟨s0, s1⟩ := set_two H0 (.int .i64 0) (.string ⟨#[]⟩)
        exact bodyPost_ret (v := wordV none) (by simp [results, Tryz.results74, go_sem, wordV, s0, s1]) rfl ⟨by rw [HWd.out], (hB.setCell (Nat.le_refl _) _).setCell (Nat.le_refl _) _⟩
      | false =>
        have HWd : Hid (Lp.wordA Lp.word0 (by8 s) = some (X.t, [])) := Lib.hid (by rw [hword, Lp.wordA, if_neg (by rw [ho]; simp)])
        rw [ho] at hopen
        clear ho hword
        go_wp2_with fail
        refine hopen.mono ?_
        rintro e w' ⟨rfl, rfl⟩
        go_wp2_with fail
        refine htok.mono ?_
        rintro e w2 ⟨rfl, hB2⟩
        have HH := (hB2.block _ hlt0).trans H0
        have z0 := frozen_at HH 0
        have z1 := frozen_at HH 1
        have c0 : w2.cell? ⟨w.heap.size, 0, none⟩ = some (.int .i64 0) := cell_at HH rfl
        have c1 : w2.cell? ⟨w.heap.size, 1, none⟩ = some (.string ⟨#[]⟩) := cell_at HH rfl
        have hlt0 : w.heap.size < w2.heap.size := (Array.getElem?_eq_some_iff.1 HH).1
        go_wp2_with fail
        obtain ⟨s0, s1⟩ := set_two HH (.int .i64 0) (.string (str X.t))
        exact bodyPost_ret (v := wordV (some (X.t, []))) (by simp [results, Tryz.results74, go_sem, wordV, s0, s1]; rfl) rfl ⟨by rw [HWd.out], ((hB.trans (hB2.mono hB.size)).setCell (Nat.le_refl _) _).setCell (Nat.le_refl _) _⟩
end Go.Proofs.YteommneijlelkaaGreatDoor.Lx
