/-
  lex.word.take: a byte more.
-/
import Derived.Test.YtlkcpegjkmfngaaDoorLTake
namespace Go.Proofs.YtlkcpegjkmfngaaDoor.Lx
open Go.RowKit Go.Proofs.YtlkcpegjkmfngaaDoor
set_option maxRecDepth 100000

theorem escaped_any (w : World) (b : Nat) (X : Lp.W) (c : UInt8) (hl : X.t.length ≤ 1000000) (h : WAt w b X) :
    Calls Tryd.prog 64 #[.pointer (some ⟨b, 0, none⟩), .int .u8 (c.toNat : Int)] w (TakePost w b ⟨X.q, false, X.t ++ (if X.q ≠ 0 ∧ c ≠ 34 ∧ c ≠ 92 then [92, c] else [c])⟩ (.returned (.tuple #[]))) := by
  by_cases hh : X.q ≠ 0 ∧ c ≠ 34 ∧ c ≠ 92
  · rw [if_pos hh]; exact escaped_two w b X c hl hh h
  · rw [if_neg hh]
    by_cases h0 : X.q = 0
    · exact escaped_open w b X c hl h0 h
    · by_cases h1 : c = 34
      · subst h1; exact escaped_quote w b X hl h0 h
      · by_cases h2 : c = 92
        · subst h2; exact escaped_back w b X hl h0 h
        · exact absurd ⟨h0, h1, h2⟩ hh

theorem take_esc (w : World) (b : Nat) (X : Lp.W) (c : UInt8) (hl : X.t.length ≤ 1000000) (he : X.e = true) (h : WAt w b X) :
    Calls Tryd.prog 54 #[.pointer (some ⟨b, 0, none⟩), .int .u8 (c.toNat : Int)] w (TakePost w b (Lp.takeA X c) (.returned (.tuple #[]))) := by
  obtain ⟨q1, q2, hz, hlt⟩ := h.cells
  rw [he] at q2
  have HA := escaped_any w b X c hl h
  rw [← esc_bytes X c he] at HA
  clear h
  go_enter Tryd.func54, Tryd.ntmps54
  go_wp2_with fail
  refine HA.mono ?_
  rintro e w1 ⟨rfl, hW, hB⟩
  go_wp2_with fail
  go_end0
  exact ⟨rfl, hW, hB⟩

theorem take_back (w : World) (b : Nat) (X : Lp.W) (_hl : X.t.length ≤ 1000000) (he : X.e = false) (hq : X.q ≠ 39) (h : WAt w b X) :
    Calls Tryd.prog 54 #[.pointer (some ⟨b, 0, none⟩), .int .u8 92] w (TakePost w b ⟨X.q, true, X.t⟩ (.returned (.tuple #[]))) := by
  obtain ⟨q1, q2, hz, hlt⟩ := h.cells
  rw [he] at q2
  have hz2 := hz 2
  have hb : ((X.q.toNat : Int) == 39) = false := eq_false (b := 39) hq
  have hb2 : ¬ X.q.toNat = 39 := fun e => hq (UInt8.toNat_inj.1 e)
  have hb3 : ¬ (X.q.toNat : Int) = 39 := by omega
  have hb4 : ((X.q.toNat : Int) != 39) = true := by simp [bne, hb]
  have HW := h.set2 true
  clear h hz hq
  go_enter Tryd.func54, Tryd.ntmps54
  go_wp2_with fail
  go_end0
  exact ⟨rfl, HW, (Below.refl b w).setCell (Nat.le_refl _) _⟩

theorem take_back1 (w : World) (b : Nat) (X : Lp.W) (hl : X.t.length ≤ 1000000) (he : X.e = false) (hq : X.q = 39) (h : WAt w b X) :
    Calls Tryd.prog 54 #[.pointer (some ⟨b, 0, none⟩), .int .u8 92] w (TakePost w b ⟨X.q, X.e, X.t ++ [92]⟩ (.returned (.tuple #[]))) := by
  obtain ⟨i0, hi, hz0, hz1, hz2⟩ := info_parts infoU
  obtain ⟨q1, q2, hz, hlt⟩ := h.cells
  rw [he] at q2
  obtain ⟨a, cp, H, hrow⟩ := h
  have q0 : w.cell? ⟨b, 0, none⟩ = some (.slice a X.t.length cp) := cell_at H rfl
  rw [hq] at q1
  have q1' : w.cell? ⟨b, 1, none⟩ = some (.int .u8 39) := q1
  clear hz q1 hq
  go_enter Tryd.func54, Tryd.ntmps54
  go_wp2_with (at_builtin; refine wpList_append_own _ rfl _ _ 88 rfl (b + 1) U8 i0 (.int .u8 0) 1 1 Tryd.underlying88 hi hz0 hz1 hz2 rfl (by decide) _ _ _ rfl (hrow.alloc _) ⟨w.heap.size, 0, none⟩ 1 1 [.int .u8 92] rfl rfl (new_at _ (by simp) _ _) (by simp [Value.oneCell']) (by unfold maxLen; omega) (by omega) (by simp; omega) ?_; intro v1 w1 hown1 hgrow1 _; obtain ⟨a1, c1, rfl⟩ := owns_slice hown1; have g1 := raw_grown H hrow hown1 hgrow1; have y10 := g1.z0; have y11 := g1.z2; have y12 := g1.lt; have y13 := g1.c0; have y14 := g1.c2)
  go_end0
  exact ⟨rfl, (g1.wat (X := ⟨X.q, X.e, X.t⟩) (t := X.t ++ [92]) (by simp) (by rw [bytesC_app]; rfl)), g1.below⟩

theorem take_other (w : World) (b : Nat) (X : Lp.W) (c : UInt8) (hl : X.t.length ≤ 1000000) (he : X.e = false) (hc : c ≠ 92 ∧ c ≠ 39 ∧ c ≠ 34) (h : WAt w b X) :
    Calls Tryd.prog 54 #[.pointer (some ⟨b, 0, none⟩), .int .u8 (c.toNat : Int)] w (TakePost w b ⟨X.q, X.e, X.t ++ [c]⟩ (.returned (.tuple #[]))) := by
  obtain ⟨i0, hi, hz0, hz1, hz2⟩ := info_parts infoU
  obtain ⟨q1, q2, hz, hlt⟩ := h.cells
  rw [he] at q2
  obtain ⟨a, cp, H, hrow⟩ := h
  have q0 : w.cell? ⟨b, 0, none⟩ = some (.slice a X.t.length cp) := cell_at H rfl
  have hb : ((c.toNat : Int) == 92) = false := eq_false (b := 92) hc.1
  have hb2 : ((c.toNat : Int) == 39) = false := eq_false (b := 39) hc.2.1
  have hb3 : ((c.toNat : Int) == 34) = false := eq_false (b := 34) hc.2.2
  have hb4 : ¬ c.toNat = 92 := fun e => hc.1 (UInt8.toNat_inj.1 e)
  have hb5 : ¬ c.toNat = 39 := fun e => hc.2.1 (UInt8.toNat_inj.1 e)
  have hb6 : ¬ c.toNat = 34 := fun e => hc.2.2 (UInt8.toNat_inj.1 e)
  have hb7 : ¬ (c.toNat : Int) = 92 := by omega
  have hb8 : ¬ (c.toNat : Int) = 39 := by omega
  have hb9 : ¬ (c.toNat : Int) = 34 := by omega
  clear hz hc
  go_enter Tryd.func54, Tryd.ntmps54
  go_wp2_with (at_builtin; refine wpList_append_own _ rfl _ _ 88 rfl (b + 1) U8 i0 (.int .u8 0) 1 1 Tryd.underlying88 hi hz0 hz1 hz2 rfl (by decide) _ _ _ rfl (hrow.alloc _) ⟨w.heap.size, 0, none⟩ 1 1 [.int .u8 (c.toNat : Int)] rfl rfl (new_at _ (by simp) _ _) (by simp [Value.oneCell']) (by unfold maxLen; omega) (by omega) (by simp; omega) ?_; intro v1 w1 hown1 hgrow1 _; obtain ⟨a1, c1, rfl⟩ := owns_slice hown1; have g1 := raw_grown H hrow hown1 hgrow1; have y10 := g1.z0; have y11 := g1.z2; have y12 := g1.lt; have y13 := g1.c0; have y14 := g1.c2)
  go_end0
  exact ⟨rfl, (g1.wat (X := ⟨X.q, X.e, X.t⟩) (t := X.t ++ [c]) (by simp) (by rw [bytesC_app]; rfl)), g1.below⟩

theorem take_turn39 (w : World) (b : Nat) (X : Lp.W) (_hl : X.t.length ≤ 1000000) (he : X.e = false) (hq : X.q = 0 ∨ X.q = 39) (h : WAt w b X) :
    Calls Tryd.prog 54 #[.pointer (some ⟨b, 0, none⟩), .int .u8 39] w (TakePost w b (if X.q = 0 then ⟨39, X.e, X.t⟩ else if X.q = 39 then ⟨0, X.e, X.t⟩ else X) (.returned (.tuple #[]))) := by
  obtain ⟨q1, q2, hz, hlt⟩ := h.cells
  rw [he] at q2
  have HA := turn_any w b X 39 h
  rw [decide_eq_true hq] at HA
  generalize (if X.q = 0 then (⟨39, X.e, X.t⟩ : Lp.W) else if X.q = 39 then ⟨0, X.e, X.t⟩ else X) = Y at *
  clear h hq
  go_enter Tryd.func54, Tryd.ntmps54
  go_wp2_with fail
  refine HA.mono ?_
  rintro e w1 ⟨rfl, hW, hB⟩
  go_wp2_with fail
  go_end0
  exact ⟨rfl, hW, hB⟩

theorem take_in39 (w : World) (b : Nat) (X : Lp.W) (hl : X.t.length ≤ 1000000) (he : X.e = false) (hq : ¬ (X.q = 0 ∨ X.q = 39)) (h : WAt w b X) :
    Calls Tryd.prog 54 #[.pointer (some ⟨b, 0, none⟩), .int .u8 39] w (TakePost w b ⟨X.q, X.e, X.t ++ [39]⟩ (.returned (.tuple #[]))) := by
  obtain ⟨i0, hi, hz0, hz1, hz2⟩ := info_parts infoU
  obtain ⟨q1, q2, hz, hlt⟩ := h.cells
  rw [he] at q2
  have HA := turn_any w b X 39 h
  rw [decide_eq_false hq, if_neg (fun e => hq (.inl e)), if_neg (fun e => hq (.inr e))] at HA
  clear h hq hz
  go_enter Tryd.func54, Tryd.ntmps54
  go_wp2_with fail
  refine HA.mono ?_
  rintro e w2 ⟨rfl, ⟨a, cp, H, hrow⟩, hB⟩
  have q0 : w2.cell? ⟨b, 0, none⟩ = some (.slice a X.t.length cp) := cell_at H rfl
  have hlt2 : b < w2.heap.size := (Array.getElem?_eq_some_iff.1 H).1
  go_wp2_with (at_builtin; refine wpList_append_own _ rfl _ _ 88 rfl (b + 1) U8 i0 (.int .u8 0) 1 1 Tryd.underlying88 hi hz0 hz1 hz2 rfl (by decide) _ _ _ rfl (hrow.alloc _) ⟨w2.heap.size, 0, none⟩ 1 1 [.int .u8 39] rfl rfl (new_at _ (by simp) _ _) (by simp [Value.oneCell']) (by unfold maxLen; omega) (by omega) (by simp; omega) ?_; intro v1 w1 hown1 hgrow1 _; obtain ⟨a1, c1, rfl⟩ := owns_slice hown1; have g1 := raw_grown H hrow hown1 hgrow1; have y10 := g1.z0; have y11 := g1.z2; have y12 := g1.lt; have y13 := g1.c0; have y14 := g1.c2)
  go_end0
  exact ⟨rfl, (g1.wat (X := ⟨X.q, X.e, X.t⟩) (t := X.t ++ [39]) (by simp) (by rw [bytesC_app]; rfl)), hB.trans g1.below⟩

theorem take_turn34 (w : World) (b : Nat) (X : Lp.W) (_hl : X.t.length ≤ 1000000) (he : X.e = false) (hq : X.q = 0 ∨ X.q = 34) (h : WAt w b X) :
    Calls Tryd.prog 54 #[.pointer (some ⟨b, 0, none⟩), .int .u8 34] w (TakePost w b (if X.q = 0 then ⟨34, X.e, X.t⟩ else if X.q = 34 then ⟨0, X.e, X.t⟩ else X) (.returned (.tuple #[]))) := by
  obtain ⟨q1, q2, hz, hlt⟩ := h.cells
  rw [he] at q2
  have HA := turn_any w b X 34 h
  rw [decide_eq_true hq] at HA
  generalize (if X.q = 0 then (⟨34, X.e, X.t⟩ : Lp.W) else if X.q = 34 then ⟨0, X.e, X.t⟩ else X) = Y at *
  clear h hq
  go_enter Tryd.func54, Tryd.ntmps54
  go_wp2_with fail
  refine HA.mono ?_
  rintro e w1 ⟨rfl, hW, hB⟩
  go_wp2_with fail
  go_end0
  exact ⟨rfl, hW, hB⟩

theorem take_in34 (w : World) (b : Nat) (X : Lp.W) (hl : X.t.length ≤ 1000000) (he : X.e = false) (hq : ¬ (X.q = 0 ∨ X.q = 34)) (h : WAt w b X) :
    Calls Tryd.prog 54 #[.pointer (some ⟨b, 0, none⟩), .int .u8 34] w (TakePost w b ⟨X.q, X.e, X.t ++ [34]⟩ (.returned (.tuple #[]))) := by
  obtain ⟨i0, hi, hz0, hz1, hz2⟩ := info_parts infoU
  obtain ⟨q1, q2, hz, hlt⟩ := h.cells
  rw [he] at q2
  have HA := turn_any w b X 34 h
  rw [decide_eq_false hq, if_neg (fun e => hq (.inl e)), if_neg (fun e => hq (.inr e))] at HA
  clear h hq hz
  go_enter Tryd.func54, Tryd.ntmps54
  go_wp2_with fail
  refine HA.mono ?_
  rintro e w2 ⟨rfl, ⟨a, cp, H, hrow⟩, hB⟩
  have q0 : w2.cell? ⟨b, 0, none⟩ = some (.slice a X.t.length cp) := cell_at H rfl
  have hlt2 : b < w2.heap.size := (Array.getElem?_eq_some_iff.1 H).1
  go_wp2_with (at_builtin; refine wpList_append_own _ rfl _ _ 88 rfl (b + 1) U8 i0 (.int .u8 0) 1 1 Tryd.underlying88 hi hz0 hz1 hz2 rfl (by decide) _ _ _ rfl (hrow.alloc _) ⟨w2.heap.size, 0, none⟩ 1 1 [.int .u8 34] rfl rfl (new_at _ (by simp) _ _) (by simp [Value.oneCell']) (by unfold maxLen; omega) (by omega) (by simp; omega) ?_; intro v1 w1 hown1 hgrow1 _; obtain ⟨a1, c1, rfl⟩ := owns_slice hown1; have g1 := raw_grown H hrow hown1 hgrow1; have y10 := g1.z0; have y11 := g1.z2; have y12 := g1.lt; have y13 := g1.c0; have y14 := g1.c2)
  go_end0
  exact ⟨rfl, (g1.wat (X := ⟨X.q, X.e, X.t⟩) (t := X.t ++ [34]) (by simp) (by rw [bytesC_app]; rfl)), hB.trans g1.below⟩

theorem take_any (w : World) (b : Nat) (X : Lp.W) (c : UInt8) (hl : X.t.length ≤ 1000000) (h : WAt w b X) :
    Calls Tryd.prog 54 #[.pointer (some ⟨b, 0, none⟩), .int .u8 (c.toNat : Int)] w (TakePost w b (Lp.takeA X c) (.returned (.tuple #[]))) := by
  cases he : X.e with
  | true => exact take_esc w b X c hl he h
  | false =>
    unfold Lp.takeA
    rw [if_neg (by rw [he]; simp)]
    have e1 : ∀ (q : UInt8) t, (⟨q, X.e, t⟩ : Lp.W) = ⟨q, false, t⟩ := fun q t => by rw [he]
    by_cases hc : c = 92
    · subst hc
      by_cases hq : X.q = 39
      · rw [if_neg (fun h => h.2 hq), if_neg (by decide), ← e1]
        exact take_back1 w b X hl he hq h
      · rw [if_pos ⟨rfl, hq⟩]
        exact take_back w b X hl he hq h
    · rw [if_neg (fun h => hc h.1)]
      by_cases h1 : c = 39
      · subst h1
        rw [if_pos (.inl rfl)]
        by_cases hq : X.q = 0 ∨ X.q = 39
        · have := take_turn39 w b X hl he hq h
          rcases hq with hq | hq
          · rw [if_pos hq] at this ⊢; rw [← e1]; exact this
          · have h0 : ¬ X.q = 0 := by rw [hq]; decide
            rw [if_neg h0, if_pos hq] at this ⊢; rw [← e1]; exact this
        · rw [if_neg (fun e => hq (.inl e)), if_neg (fun e => hq (.inr e)), ← e1]
          exact take_in39 w b X hl he hq h
      · by_cases h2 : c = 34
        · subst h2
          rw [if_pos (.inr rfl)]
          by_cases hq : X.q = 0 ∨ X.q = 34
          · have := take_turn34 w b X hl he hq h
            rcases hq with hq | hq
            · rw [if_pos hq] at this ⊢; rw [← e1]; exact this
            · have h0 : ¬ X.q = 0 := by rw [hq]; decide
              rw [if_neg h0, if_pos hq] at this ⊢; rw [← e1]; exact this
          · rw [if_neg (fun e => hq (.inl e)), if_neg (fun e => hq (.inr e)), ← e1]
            exact take_in34 w b X hl he hq h
        · rw [if_neg (fun e => e.elim h1 h2), ← e1]
          exact take_other w b X c hl he ⟨hc, h1, h2⟩ h
end Go.Proofs.YtlkcpegjkmfngaaDoor.Lx
