/-
  What is known of the parts of a text that isn't too long: how many, how long; and of those that are read again.
-/
import Derived.Test.YtjjlafbdhpojpaaDoorVPlain4
namespace Go.Proofs.YtjjlafbdhpojpaaDoor.Vp
set_option maxRecDepth 100000
open Mp (cut has operA opAt assignO assignA oddA namesA pairA recA ruleAt ruleA wordA specialA oneA partA P zero oOver oExport oUnexport marks)

/-- Fields that aren't longer than that. -/
def Fl (N : Nat) (p : P) : Prop := p.name.length ≤ N ∧ p.op.length ≤ N ∧ p.value.length ≤ N ∧ p.targets.length ≤ N ∧ p.needs.length ≤ N ∧ p.order.length ≤ N
theorem part_fl {n N : Nat} {s : Bs} {p : P} (h : partA n s = some p) (hN : s.length + 2 ≤ N) : Fl N p := by
  unfold partA at h
  rw [Option.map_eq_some_iff] at h
  obtain ⟨q, h, rfl⟩ := h
  show Fl N q
  have hw : (wordA s).2.length ≤ s.length := (Mp.pair_len [32, 9] s).2
  have asg : ∀ {t : Bs} {p q : P}, assignA t = some p → t.length ≤ s.length → q.name = p.name → q.op = p.op → q.value = p.value → q.targets = p.targets → q.needs = p.needs → q.order = p.order → Fl N q := fun h ht e1 e2 e3 e4 e5 e6 => by
    obtain ⟨a1, a2, a3, _⟩ := asg_len h
    have hk := (Asg.of h).kind
    rw [hk] at e4 e5 e6
    unfold Fl
    rw [e1, e2, e3, e4, e5, e6]
    exact ⟨by omega, by omega, by omega, Nat.zero_le _, Nat.zero_le _, Nat.zero_le _⟩
  have nam : ∀ {t : Bs} {k : Nat} {p : P}, namesA k t = some p → t.length ≤ s.length → Fl N p := fun h ht => by
    obtain ⟨a1, _⟩ := names_len h
    have hk := (Nms.of h).kind
    unfold Fl
    rw [hk]
    exact ⟨Nat.zero_le _, Nat.zero_le _, Nat.zero_le _, Nat.zero_le _, Nat.le_trans a1 (by omega), Nat.zero_le _⟩
  unfold oneA at h
  split at h
  · rename_i p1 h1
    obtain rfl := Option.some.inj h
    exact asg h1 (Nat.le_refl _) rfl rfl rfl rfl rfl rfl
  · unfold specialA at h
    split at h
    · rw [Option.map_eq_some_iff] at h
      obtain ⟨q, h, rfl⟩ := h
      exact asg h hw rfl rfl rfl rfl rfl rfl
    · split at h
      · split at h
        · rename_i q h2
          obtain rfl := Option.some.inj h
          exact asg h2 hw rfl rfl rfl rfl rfl rfl
        · exact nam h hw
      · split at h
        · exact nam h hw
        · obtain ⟨a1, a2, a3, _⟩ := rule_len h
          unfold ruleA at h
          split at h
          · cases h
          · split at h
            · cases h
            · split at h
              · cases h
              · unfold ruleAt at h
                split at h
                · cases h
                · obtain rfl := Option.some.inj h
                  exact ⟨Nat.zero_le _, Nat.zero_le _, Nat.zero_le _, Nat.le_trans a1 (by omega), Nat.le_trans a2 (by omega), Nat.le_trans a3 (by omega)⟩
theorem add_fl {N : Nat} {l m : List P} {x : Ip.L} (h : Mp.addA l x = some m) (hl : ∀ p ∈ l, Fl N p) (hx : x.t.length + 2 ≤ N) : ∀ p ∈ m, Fl N p := by
  unfold Mp.addA at h
  split at h
  · split at h
    · rename_i p hp
      split at h
      · obtain rfl := Option.some.inj h
        intro q hq
        rcases List.mem_append.1 hq with hq | hq
        · exact hl q (List.dropLast_subset _ hq)
        · obtain rfl := List.mem_singleton.1 hq
          exact hl p (List.mem_of_getLast? hp)
      · cases h
    · cases h
  · rw [Option.map_eq_some_iff] at h
    obtain ⟨p, h, rfl⟩ := h
    intro q hq
    rcases List.mem_append.1 hq with hq | hq
    · exact hl q hq
    · obtain rfl := List.mem_singleton.1 hq
      exact part_fl h hx
theorem go_fl {N : Nat} : ∀ {R : List Ip.L} {l m : List P}, (∀ x ∈ R, x.t.length + 2 ≤ N) → (∀ p ∈ l, Fl N p) → Mp.goA l R = .ok m → (∀ p ∈ m, Fl N p) ∧ m.length ≤ l.length + R.length
  | [], l, m, _, hl, h => by
    have : l = m := by simpa [Mp.goA] using h
    subst this; exact ⟨hl, Nat.le_add_right _ _⟩
  | x :: R, l, m, hR, hl, h => by
    unfold Mp.goA at h
    split at h
    · cases h
    · rename_i l2 h2
      obtain ⟨h3, h4⟩ := go_fl (fun y hy => hR y (List.mem_cons_of_mem _ hy)) (add_fl h2 hl (hR x (by simp))) h
      have := (Mp.addA_len h2).1
      exact ⟨h3, by rw [List.length_cons]; omega⟩
theorem parts_fl {s : Bs} {l : List P} (hp : Mp.partsA s = .ok l) : (∀ p ∈ l, Fl (s.length + 3) p) ∧ l.length ≤ s.length + 1 := by
  obtain ⟨h1, h2⟩ := go_fl (l := []) (N := s.length + 3) (fun x hx => by have := Ip.linesA_len hx; omega) (by simp) hp
  have h3 := Ip.linesA_le s
  have h4 := List.count_le_length (a := (10 : UInt8)) (l := s)
  exact ⟨h1, by simp at h2; omega⟩
theorem nps_len : ∀ {l : List P} {k : Nat}, (nps k l).length = l.length
  | [], _ => rfl
  | p :: l, k => by
    show (nps (k + 1 + p.recipe.length) l).length + 1 = _
    rw [nps_len]; rfl
theorem rl_len : ∀ {l : List Ip.L} {k : Nat}, (rl k l).length = l.length
  | [], _ => rfl
  | x :: l, k => by
    show (rl (k + 1) l).length + 1 = _
    rw [rl_len]; rfl
theorem nps_mem : ∀ {l : List P} {k : Nat} {q : P}, q ∈ nps k l → ∃ p ∈ l, ∃ j, q = { p with line := j, recipe := rl (j + 1) p.recipe }
  | [], _, _, h => by cases h
  | p :: l, k, q, h => by
    rcases List.mem_cons.1 h with rfl | h
    · exact ⟨p, by simp, k, rfl⟩
    · obtain ⟨p', hp', j, e⟩ := nps_mem h
      exact ⟨p', by simp [hp'], j, e⟩
end Go.Proofs.YtjjlafbdhpojpaaDoor.Vp
