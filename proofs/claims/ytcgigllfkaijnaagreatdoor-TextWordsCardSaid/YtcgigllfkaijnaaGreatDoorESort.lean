/-
  Strings, each once, in their order: two lists put together. No program here.
-/
import Derived.Test.YtcgigllfkaijnaaGreatDoorWUniq
namespace Go.Proofs.YtcgigllfkaijnaaGreatDoor.Wp

/-- Two lists put together; what both have once. -/
def mrgU : List ByteArray → List ByteArray → List ByteArray
  | [], q => q
  | x :: p, [] => x :: p
  | x :: p, y :: q => if x = y then x :: mrgU p q else if bl x.data.toList y.data.toList = true then x :: mrgU p (y :: q) else y :: mrgU (x :: p) q
termination_by p q => p.length + q.length
decreasing_by all_goals (simp only [List.length_cons]; omega)
theorem mrgU_left (q : List ByteArray) : mrgU [] q = q := by rw [mrgU]
theorem mrgU_right (p : List ByteArray) : mrgU p [] = p := by cases p <;> rw [mrgU]
theorem mrgU_same {x : ByteArray} {p q : List ByteArray} : mrgU (x :: p) (x :: q) = x :: mrgU p q := by rw [mrgU, if_pos rfl]
theorem mrgU_lt {x y : ByteArray} {p q : List ByteArray} (h : bl x.data.toList y.data.toList = true) : mrgU (x :: p) (y :: q) = x :: mrgU p (y :: q) := by
  rw [mrgU, if_neg (by rintro rfl; rw [bl_irrefl] at h; cases h), if_pos h]
theorem mrgU_gt {x y : ByteArray} {p q : List ByteArray} (h : bl y.data.toList x.data.toList = true) : mrgU (x :: p) (y :: q) = y :: mrgU (x :: p) q := by
  rw [mrgU, if_neg (by rintro rfl; rw [bl_irrefl] at h; cases h), if_neg (by
    intro h2
    have := bl_trans h h2
    rw [bl_irrefl] at this; cases this)]
/-- One of three. -/
theorem three (x y : ByteArray) : x = y ∨ bl x.data.toList y.data.toList = true ∨ bl y.data.toList x.data.toList = true := by
  by_cases h : x = y
  · exact .inl h
  · cases h1 : bl x.data.toList y.data.toList with
    | true => exact .inr (.inl rfl)
    | false => exact .inr (.inr (bl_total h1 fun e => h (bytes_ext e)))
theorem mrgU_mem : ∀ (p q : List ByteArray) (z : ByteArray), z ∈ mrgU p q ↔ z ∈ p ∨ z ∈ q
  | [], q, z => by rw [mrgU_left]; simp
  | x :: p, [], z => by rw [mrgU_right]; simp
  | x :: p, y :: q, z => by
    rcases three x y with rfl | h | h
    · rw [mrgU_same, List.mem_cons, mrgU_mem p q z, List.mem_cons, List.mem_cons]
      constructor
      · rintro (h | h | h)
        · exact .inl (.inl h)
        · exact .inl (.inr h)
        · exact .inr (.inr h)
      · rintro ((h | h) | (h | h))
        · exact .inl h
        · exact .inr (.inl h)
        · exact .inl h
        · exact .inr (.inr h)
    · rw [mrgU_lt h, List.mem_cons, mrgU_mem p (y :: q) z, List.mem_cons (a := z) (b := x), or_assoc]
    · rw [mrgU_gt h, List.mem_cons, mrgU_mem (x :: p) q z, List.mem_cons (a := z) (b := y)]
      constructor
      · rintro (h | h | h)
        · exact .inr (.inl h)
        · exact .inl h
        · exact .inr (.inr h)
      · rintro (h | h | h)
        · exact .inr (.inl h)
        · exact .inl h
        · exact .inr (.inr h)
termination_by p q => p.length + q.length
theorem mrgU_len : ∀ (p q : List ByteArray), (mrgU p q).length ≤ p.length + q.length
  | [], q => by rw [mrgU_left]; simp
  | x :: p, [] => by rw [mrgU_right]; simp
  | x :: p, y :: q => by
    rcases three x y with rfl | h | h
    · have := mrgU_len p q
      rw [mrgU_same, List.length_cons, List.length_cons, List.length_cons]; omega
    · have := mrgU_len p (y :: q)
      rw [mrgU_lt h, List.length_cons, List.length_cons]; omega
    · have := mrgU_len (x :: p) q
      rw [mrgU_gt h, List.length_cons, List.length_cons (a := y)]; omega
termination_by p q => p.length + q.length
/-- Rising, no one twice. -/
def Strict (l : List ByteArray) : Prop := l.Pairwise fun x y => bl x.data.toList y.data.toList = true
theorem mrgU_strict : ∀ (p q : List ByteArray), Strict p → Strict q → Strict (mrgU p q)
  | [], q, _, hq => by rw [mrgU_left]; exact hq
  | x :: p, [], hp, _ => by rw [mrgU_right]; exact hp
  | x :: p, y :: q, hp, hq => by
    have hp' := List.pairwise_cons.1 hp
    have hq' := List.pairwise_cons.1 hq
    rcases three x y with rfl | h | h
    · rw [mrgU_same]
      refine List.pairwise_cons.2 ⟨fun z hz => ?_, mrgU_strict p q hp'.2 hq'.2⟩
      rcases (mrgU_mem p q z).1 hz with h | h
      · exact hp'.1 z h
      · exact hq'.1 z h
    · rw [mrgU_lt h]
      refine List.pairwise_cons.2 ⟨fun z hz => ?_, mrgU_strict p (y :: q) hp'.2 hq⟩
      rcases (mrgU_mem p (y :: q) z).1 hz with h1 | h1
      · exact hp'.1 z h1
      · rcases List.mem_cons.1 h1 with rfl | h1
        · exact h
        · exact bl_trans h (hq'.1 z h1)
    · rw [mrgU_gt h]
      refine List.pairwise_cons.2 ⟨fun z hz => ?_, mrgU_strict (x :: p) q hp hq'.2⟩
      rcases (mrgU_mem (x :: p) q z).1 hz with h1 | h1
      · rcases List.mem_cons.1 h1 with rfl | h1
        · exact h
        · exact bl_trans h (hp'.1 z h1)
      · exact hq'.1 z h1
termination_by p q => p.length + q.length
/-- Two rising lists of the same strings are one. -/
theorem strict_ext : ∀ {p q : List ByteArray}, Strict p → Strict q → (∀ z, z ∈ p ↔ z ∈ q) → p = q
  | [], [], _, _, _ => rfl
  | [], y :: q, _, _, h => absurd ((h y).2 (by simp)) (by simp)
  | x :: p, [], _, _, h => absurd ((h x).1 (by simp)) (by simp)
  | x :: p, y :: q, hp, hq, h => by
    have hp' := List.pairwise_cons.1 hp
    have hq' := List.pairwise_cons.1 hq
    have irr : ∀ z : ByteArray, ¬ bl z.data.toList z.data.toList = true := fun z e => by rw [bl_irrefl] at e; cases e
    have e : x = y := by
      rcases List.mem_cons.1 ((h x).1 (by simp)) with h1 | h1
      · exact h1
      · rcases List.mem_cons.1 ((h y).2 (by simp)) with h2 | h2
        · exact h2.symm
        · exact absurd (bl_trans (hq'.1 x h1) (hp'.1 y h2)) (irr y)
    subst e
    congr 1
    refine strict_ext hp'.2 hq'.2 fun z => ?_
    constructor
    · intro hz
      rcases List.mem_cons.1 ((h z).1 (by simp [hz])) with rfl | h1
      · exact absurd (hp'.1 z hz) (irr z)
      · exact h1
    · intro hz
      rcases List.mem_cons.1 ((h z).2 (by simp [hz])) with rfl | h1
      · exact absurd (hq'.1 z hz) (irr z)
      · exact h1
/-- Each once, in their order: both halves, put together. -/
def srt : Nat → List ByteArray → List ByteArray
  | 0, l => l
  | n + 1, l => if l.length < 2 then l else mrgU (srt n (l.take (l.length / 2))) (srt n (l.drop (l.length / 2)))
theorem srt_len : ∀ (n : Nat) (l : List ByteArray), (srt n l).length ≤ l.length
  | 0, l => Nat.le_refl _
  | n + 1, l => by
    rw [srt]
    split
    · exact Nat.le_refl _
    · have h1 := srt_len n (l.take (l.length / 2))
      have h2 := srt_len n (l.drop (l.length / 2))
      have h3 := mrgU_len (srt n (l.take (l.length / 2))) (srt n (l.drop (l.length / 2)))
      rw [List.length_take] at h1
      rw [List.length_drop] at h2
      omega
theorem srt_mem : ∀ (n : Nat) (l : List ByteArray) (z : ByteArray), z ∈ srt n l ↔ z ∈ l
  | 0, l, z => Iff.rfl
  | n + 1, l, z => by
    rw [srt]
    split
    · exact Iff.rfl
    · rw [mrgU_mem, srt_mem n, srt_mem n, ← List.mem_append, List.take_append_drop]
theorem srt_strict : ∀ (n : Nat) (l : List ByteArray), l.length ≤ n + 1 → Strict (srt n l)
  | 0, l, h => by
    rw [srt]
    match l, h with
    | [], _ => exact List.Pairwise.nil
    | [x], _ => exact List.pairwise_singleton _ _
  | n + 1, l, h => by
    rw [srt]
    split
    · rename_i h2
      match l, h2 with
      | [], _ => exact List.Pairwise.nil
      | [x], _ => exact List.pairwise_singleton _ _
    · exact mrgU_strict _ _ (srt_strict n _ (by rw [List.length_take]; omega)) (srt_strict n _ (by rw [List.length_drop]; omega))
theorem srt_pos {n : Nat} {l : List ByteArray} (h : 0 < l.length) : 0 < (srt n l).length := by
  obtain ⟨x, hx⟩ := List.exists_mem_of_length_pos h
  exact List.length_pos_of_mem ((srt_mem n l x).2 hx)
/-- A list's strings, each once, in their order. -/
def sortS (l : List ByteArray) : List ByteArray := srt l.length l
theorem sort_mem {l : List ByteArray} {z : ByteArray} : z ∈ sortS l ↔ z ∈ l := srt_mem _ _ _
theorem sort_strict (l : List ByteArray) : Strict (sortS l) := srt_strict _ _ (by omega)
theorem sort_len (l : List ByteArray) : (sortS l).length ≤ l.length := srt_len _ _
theorem sort_ext {p l : List ByteArray} (hp : Strict p) (h : ∀ z, z ∈ p ↔ z ∈ l) : p = sortS l := strict_ext hp (sort_strict l) fun z => (h z).trans sort_mem.symm
end Go.Proofs.YtcgigllfkaijnaaGreatDoor.Wp
