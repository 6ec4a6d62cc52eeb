/-
  What New makes is fine.
-/
import Derived.Test.YtaolccibflniiaaGreatDoorQSNewEq
namespace Go.Proofs.YtaolccibflniiaaGreatDoor.Sw
open Go.RowKit Go.Proofs.YtaolccibflniiaaGreatDoor Go.Maps
set_option maxRecDepth 100000

theorem text_le2 : ∀ (n : Nat) {P Q : List (List UInt8)}, Q.length = n → AllGood (P ++ Q) → (Pt.text P).length ≤ (Pt.text (P ++ Q)).length
  | 0, P, Q, hn, _ => by
    obtain rfl := List.length_eq_zero_iff.1 hn
    rw [List.append_nil]; exact Nat.le_refl _
  | n + 1, P, Q, hn, hg => by
    obtain ⟨R, x, rfl⟩ := snoc_of (P := Q) (by rintro rfl; simp at hn)
    rw [← List.append_assoc] at hg ⊢
    have h1 := text_le2 n (P := P) (Q := R) (by simpa using hn) hg.cut
    have hp : isPath (Pt.text (P ++ R ++ [x])) = true := path_iff.2 ⟨_, hg, rfl⟩
    have h2 := dirL_len (Pt.text (P ++ R ++ [x])) (List.length_pos_iff.2 (isPath_ne hp))
    rw [dirL_snoc hg] at h2
    omega
theorem addAll_c : ∀ (l : List F) (s : St), 0 ≤ s.c → s.c < 4611686018427387904 → (addAll s l).2 = 0 → 0 ≤ (addAll s l).1.c ∧ (addAll s l).1.c < 4611686018427387904
  | [], s, h0, h1, _ => ⟨h0, h1⟩
  | f :: r, s, h0, h1, h => by
    rw [addAll_cons] at h ⊢
    by_cases h2 : (addA s f).2 ≠ 0
    · rw [if_pos h2] at h; exact absurd h h2
    · rw [if_neg h2] at h ⊢
      have h2 : (addA s f).2 = 0 := by simpa using h2
      have hc : 0 ≤ (addA s f).1.c ∧ (addA s f).1.c < 4611686018427387904 := by
        unfold addA at h2 ⊢
        by_cases b : badA f ≠ 0
        · rw [if_pos b] at h2; exact absurd h2 b
        · rw [if_neg b] at h2 ⊢
          obtain ⟨_, _, _, c0, c1, _⟩ := badA_ok (f := f) (by simpa using b)
          by_cases b2 : (Sp.get s.L f.p).isSome = true
          · rw [if_pos b2] at h2; cases h2
          · rw [if_neg b2]
            show 0 ≤ max s.c f.c ∧ max s.c f.c < _
            omega
      exact addAll_c r _ hc.1 hc.2 h
theorem new_fine (l : List F) (hs : ∀ f ∈ l, f.p.length ≤ 50000 ∧ f.t.length ≤ 50000) (h : (newA l).2 = 0) : Fine (newA l).1 := by
  unfold newA at h ⊢
  by_cases h1 : (addAll ⟨[], 0⟩ l).2 ≠ 0
  · rw [if_pos h1] at h; exact absurd h h1
  · rw [if_neg h1] at h ⊢
    have h1 : (addAll ⟨[], 0⟩ l).2 = 0 := by simpa using h1
    by_cases hb : blockedA (addAll ⟨[], 0⟩ l).1.L = true
    · rw [if_pos hb] at h; cases h
    · rw [if_neg hb] at h ⊢
      by_cases hlim : 4096 < (surrAll (addAll ⟨[], 0⟩ l).1.L l).length
      · rw [if_pos hlim] at h; cases h
      · rw [if_neg hlim]
        obtain ⟨s1, s2, s3⟩ := addAll_ok l ⟨[], 0⟩ List.Pairwise.nil h1
        obtain ⟨c0, c1⟩ := addAll_c l ⟨[], 0⟩ (by decide) (by decide) h1
        obtain ⟨L0, hL0⟩ : ∃ L0, (addAll ⟨[], 0⟩ l).1.L = L0 := ⟨_, rfl⟩
        rw [hL0] at s1 s2 hlim ⊢
        have hm : ∀ g, g ∈ L0 ↔ g ∈ l := fun g => by rw [s2]; simp
        have hi : Inv l L0 L0 := ⟨s1, fun g hg => hg, fun g hg => .inl hg⟩
        obtain ⟨n1, _, _, _⟩ := surrAll_spec l (fun f hf => hf) s3 hi
        have hall : ∀ g ∈ surrAll L0 l, g.t.length ≤ 1048576 ∧ g.p.length ≤ 100000 := fun g hg => by
          rcases n1.new_ g hg with h | ⟨h, f, f1, P, Q, f2, f3, f4, f5, f6⟩
          · have := hs g ((hm g).1 h); omega
          · have h7 := text_le2 Q.length rfl f2
            have h8 := (hs f f1).1
            rw [f5] at h8
            refine ⟨by rw [h]; show ([] : List UInt8).length ≤ _; simp, ?_⟩
            rw [f6]; omega
        exact ⟨n1.sorted, c0, c1, by show (surrAll L0 l).length ≤ 4096; omega, fun g hg => (hall g hg).1, fun g hg => (hall g hg).2⟩

end Go.Proofs.YtaolccibflniiaaGreatDoor.Sw
