/-
  Package words as plain functions on bytes: brackets that are open, and where a text is cut. No program here.
-/
import Derived.Test.YtebagfadcjgllaaGreatDoorProg
namespace Go.Proofs.YtebagfadcjgllaaGreatDoor.Wp
abbrev Bs := List UInt8

/-- Which brackets are open behind one byte more; the last one opened stands last. -/
def next (op : Bs) (c : UInt8) : Bs :=
  if c = 40 ∨ c = 123 then op ++ [c]
  else if c = 41 ∧ op.getLast? = some 40 then op.dropLast
  else if c = 125 ∧ op.getLast? = some 123 then op.dropLast
  else op

/-- Where the first byte of some stands that isn't between brackets, counted from k. -/
def cutA (stops : Bs) : Bs → Bs → Nat → Option Nat
  | _, [], _ => none
  | op, c :: r, k => if op = [] ∧ stops.contains c = true then some k else cutA stops (next op c) r (k + 1)

/-- All of them are opening brackets. -/
def Open (op : Bs) : Prop := ∀ x ∈ op, x = 40 ∨ x = 123
/-- What closes a bracket. -/
def close (c : UInt8) : UInt8 := if c = 40 then 41 else 125

theorem Open.nil : Open [] := fun _ h => by cases h
theorem Open.snoc {op : Bs} {c : UInt8} (h : Open op) (hc : c = 40 ∨ c = 123) : Open (op ++ [c]) := fun x hx => by
  rcases List.mem_append.1 hx with h' | h'
  · exact h x h'
  · rw [List.mem_singleton.1 h']; exact hc
theorem Open.cut {op : Bs} (h : Open op) : Open op.dropLast := fun x hx => h x (List.dropLast_subset op hx)
theorem Open.next {op : Bs} {c : UInt8} (h : Open op) : Open (next op c) := by
  unfold Wp.next
  split
  · rename_i hc; exact h.snoc hc
  · split
    · exact h.cut
    · split
      · exact h.cut
      · exact h

theorem next_open {op : Bs} {c : UInt8} (h : c = 40 ∨ c = 123) : next op c = op ++ [c] := if_pos h
theorem next_close {op : Bs} {c d : UInt8} (ho : Open op) (hl : op.getLast? = some d) (h : c = close d) : next op c = op.dropLast := by
  have hd := ho d (List.mem_of_getLast? hl)
  subst h
  rcases hd with rfl | rfl
  · have h1 : close 40 = 41 := rfl
    rw [h1]
    unfold next
    rw [if_neg (by decide), if_pos ⟨rfl, hl⟩]
  · have h1 : close 123 = 125 := rfl
    rw [h1]
    unfold next
    rw [if_neg (by decide), if_neg (by rintro ⟨h, _⟩; exact absurd h (by decide)), if_pos ⟨rfl, hl⟩]
theorem next_other {op : Bs} {c : UInt8} (h1 : ¬ c = 40) (h2 : ¬ c = 123) (h : ∀ d, op.getLast? = some d → ¬ c = close d) : next op c = op := by
  unfold next
  rw [if_neg (fun e => e.elim h1 h2)]
  by_cases a : c = 41 ∧ op.getLast? = some 40
  · exact absurd a.1 (h 40 a.2)
  · rw [if_neg a]
    by_cases b : c = 125 ∧ op.getLast? = some 123
    · exact absurd b.1 (h 123 b.2)
    · rw [if_neg b]

theorem next_len (op : Bs) (c : UInt8) : (next op c).length ≤ op.length + 1 := by
  unfold next
  split
  · simp
  · split
    · simp; omega
    · split
      · simp; omega
      · omega

theorem cutA_nil (stops op : Bs) (k : Nat) : cutA stops op [] k = none := by cases op <;> rfl
theorem cutA_hit {stops : Bs} {c : UInt8} {r : Bs} {k : Nat} (h : stops.contains c = true) : cutA stops [] (c :: r) k = some k := if_pos ⟨rfl, h⟩
theorem cutA_miss {stops op : Bs} {c : UInt8} {r : Bs} {k : Nat} (h : ¬ (op = [] ∧ stops.contains c = true)) : cutA stops op (c :: r) k = cutA stops (next op c) r (k + 1) := if_neg h
theorem cutA_lt : ∀ {stops op t : Bs} {k i : Nat}, cutA stops op t k = some i → k ≤ i ∧ i < k + t.length
  | stops, op, [], k, i, h => by rw [cutA_nil] at h; cases h
  | stops, op, c :: r, k, i, h => by
    by_cases hh : op = [] ∧ stops.contains c = true
    · obtain ⟨rfl, hc⟩ := hh
      rw [cutA_hit hc] at h
      obtain rfl := Option.some.inj h
      simp
    · rw [cutA_miss hh] at h
      have := cutA_lt h
      simp; omega
end Go.Proofs.YtebagfadcjgllaaGreatDoor.Wp
