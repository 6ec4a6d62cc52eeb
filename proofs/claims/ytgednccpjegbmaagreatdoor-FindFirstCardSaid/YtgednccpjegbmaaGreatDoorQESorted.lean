/-
  Each element of a list once; the reference's way, over sorted places. No program here.
  Strings, each once, in their order: two lists put together. No program here.
  flatironref13.sorted: words, each once, rising.
-/
import Derived.Test.YtgednccpjegbmaaGreatDoorQTBase
import Derived.OwnWalk
import Derived.Test.YtgednccpjegbmaaGreatDoorQEEach
namespace Go.Proofs.YtgednccpjegbmaaGreatDoor.Wp

theorem bytes_ext {a b : ByteArray} (h : a.data.toList = b.data.toList) : a = b := by
  have : a.data = b.data := Array.toList_inj.1 h
  cases a; cases b; simp at this; subst this; rfl
/-- Is a word on a list? -/
def has (acc : List ByteArray) (x : ByteArray) : Bool := acc.any fun y => y.data.toList == x.data.toList
theorem has_iff {acc : List ByteArray} {x : ByteArray} : has acc x = true ↔ x ∈ acc := by
  unfold has
  rw [List.any_eq_true]
  constructor
  · rintro ⟨y, hy, e⟩
    rw [← bytes_ext (beq_iff_eq.1 e)]; exact hy
  · intro h; exact ⟨x, h, beq_self_eq_true _⟩
/-- A list's elements once, in the order of their first occurrences. -/
def addU (acc : List ByteArray) (x : ByteArray) : List ByteArray := if has acc x = true then acc else acc ++ [x]
theorem addU_old {acc : List ByteArray} {x : ByteArray} (h : has acc x = true) : addU acc x = acc := if_pos h
theorem addU_new {acc : List ByteArray} {x : ByteArray} (h : has acc x = false) : addU acc x = acc ++ [x] := if_neg (by rw [h]; decide)
def uniq (l : List ByteArray) : List ByteArray := l.foldl addU []

theorem uniq_snoc (l : List ByteArray) (x : ByteArray) : uniq (l ++ [x]) = addU (uniq l) x := by simp [uniq, List.foldl_append]
theorem uniq_take {l : List ByteArray} {k : Nat} (h : k < l.length) : uniq (l.take (k + 1)) = addU (uniq (l.take k)) l[k] := by
  rw [List.take_succ_eq_append_getElem h, uniq_snoc]
theorem mem_addU {acc : List ByteArray} {x y : ByteArray} : y ∈ addU acc x ↔ y ∈ acc ∨ y = x := by
  unfold addU
  split
  · rename_i h
    exact ⟨.inl, fun e => e.elim id fun e => e ▸ has_iff.1 h⟩
  · simp
theorem mem_fold : ∀ (l acc : List ByteArray) (y : ByteArray), y ∈ l.foldl addU acc ↔ y ∈ acc ∨ y ∈ l
  | [], acc, y => by simp
  | x :: l, acc, y => by rw [List.foldl_cons, mem_fold l, mem_addU, List.mem_cons, or_assoc]
theorem mem_uniq {l : List ByteArray} {y : ByteArray} : y ∈ uniq l ↔ y ∈ l := by unfold uniq; rw [mem_fold]; simp
theorem fold_len : ∀ (l acc : List ByteArray), (l.foldl addU acc).length ≤ acc.length + l.length
  | [], acc => by simp
  | x :: l, acc => by
    have h1 := fold_len l (addU acc x)
    have h2 : (addU acc x).length ≤ acc.length + 1 := by unfold addU; split <;> simp
    rw [List.foldl_cons, List.length_cons]; omega
theorem uniq_len (l : List ByteArray) : (uniq l).length ≤ l.length := by have := fold_len l []; simpa [uniq] using this
theorem fold_nodup : ∀ (l acc : List ByteArray), acc.Nodup → (l.foldl addU acc).Nodup
  | [], _, h => h
  | x :: l, acc, h => by
    rw [List.foldl_cons]
    refine fold_nodup l _ ?_
    unfold addU
    split
    · exact h
    · rename_i hx
      rw [List.nodup_append]
      refine ⟨h, by simp, ?_⟩
      intro a ha b hb e
      simp at hb
      subst hb; subst e
      exact hx (has_iff.2 ha)
theorem uniq_nodup (l : List ByteArray) : (uniq l).Nodup := fold_nodup l [] (by simp)
/-- Bytes in their order. -/
abbrev bl := Op.bytesLess
theorem bl_irrefl : ∀ (x : Bs), bl x x = false
  | [] => rfl
  | a :: x => by
    show (decide (a < a) || (a == a && bl x x)) = false
    rw [bl_irrefl x]; simp
theorem bl_trans : ∀ {x y z : Bs}, bl x y = true → bl y z = true → bl x z = true
  | _, _, [], _, h => by simp [bl, Op.bytesLess] at h
  | [], _, _ :: _, _, _ => rfl
  | _ :: _, [], _ :: _, h, _ => by simp [bl, Op.bytesLess] at h
  | a :: x, b :: y, c :: z, h1, h2 => by
    have e1 : decide (a < b) || (a == b && bl x y) := h1
    have e2 : decide (b < c) || (b == c && bl y z) := h2
    show (decide (a < c) || (a == c && bl x z)) = true
    simp only [Bool.or_eq_true, decide_eq_true_eq, Bool.and_eq_true, beq_iff_eq] at e1 e2 ⊢
    rcases e1 with e1 | ⟨rfl, e1⟩
    · rcases e2 with e2 | ⟨rfl, e2⟩
      · exact .inl (UInt8.lt_trans e1 e2)
      · exact .inl e1
    · rcases e2 with e2 | ⟨rfl, e2⟩
      · exact .inl e2
      · exact .inr ⟨rfl, bl_trans e1 e2⟩
theorem bl_total : ∀ {x y : Bs}, bl x y = false → x ≠ y → bl y x = true
  | [], [], _, h => absurd rfl h
  | [], _ :: _, h, _ => by simp [bl, Op.bytesLess] at h
  | _ :: _, [], _, _ => rfl
  | a :: x, b :: y, h, hn => by
    have e1 : (decide (a < b) || (a == b && bl x y)) = false := h
    show (decide (b < a) || (b == a && bl y x)) = true
    simp only [Bool.or_eq_false_iff, decide_eq_false_iff_not, Bool.and_eq_false_iff, beq_eq_false_iff_ne] at e1
    simp only [Bool.or_eq_true, decide_eq_true_eq, Bool.and_eq_true, beq_iff_eq]
    by_cases hab : a = b
    · subst hab
      rcases e1.2 with e | e
      · exact absurd rfl e
      · exact .inr ⟨rfl, bl_total e (fun h => hn (by rw [h]))⟩
    · left
      have := e1.1
      rw [UInt8.lt_iff_toNat_lt] at this ⊢
      have hne : a.toNat ≠ b.toNat := fun e => hab (UInt8.toNat_inj.1 e)
      omega
end Go.Proofs.YtgednccpjegbmaaGreatDoor.Wp
namespace Go.Proofs.YtgednccpjegbmaaGreatDoor.Wp

/-- Two lists put together; what both have once. -/
def mrgU : List ByteArray → List ByteArray → List ByteArray
  | [], q => q
  | x :: p, [] => x :: p
  | x :: p, y :: q => if x = y then x :: mrgU p q else if bl x.data.toList y.data.toList = true then x :: mrgU p (y :: q) else y :: mrgU (x :: p) q
termination_by p q => p.length + q.length
decreasing_by all_goals (simp only [List.length_cons]; omega)
theorem mrgU_left (q : List ByteArray) : mrgU [] q = q := by rw [mrgU]
theorem mrgU_right (p : List ByteArray) : mrgU p [] = p := by cases p <;> rw [mrgU]
theorem mrgU_same {x : ByteArray} {p q : List ByteArray} : mrgU (x :: p) (x :: q) = x :: mrgU p q := by rw [mrgU, if_pos rfl]
theorem mrgU_lt {x y : ByteArray} {p q : List ByteArray} (h : bl x.data.toList y.data.toList = true) : mrgU (x :: p) (y :: q) = x :: mrgU p (y :: q) := by
  rw [mrgU, if_neg (by rintro rfl; rw [bl_irrefl] at h; cases h), if_pos h]
theorem mrgU_gt {x y : ByteArray} {p q : List ByteArray} (h : bl y.data.toList x.data.toList = true) : mrgU (x :: p) (y :: q) = y :: mrgU (x :: p) q := by
  rw [mrgU, if_neg (by rintro rfl; rw [bl_irrefl] at h; cases h), if_neg (by
    intro h2
    have := bl_trans h h2
    rw [bl_irrefl] at this; cases this)]
/-- One of three. -/
theorem three (x y : ByteArray) : x = y ∨ bl x.data.toList y.data.toList = true ∨ bl y.data.toList x.data.toList = true := by
  by_cases h : x = y
  · exact .inl h
  · cases h1 : bl x.data.toList y.data.toList with
    | true => exact .inr (.inl rfl)
    | false => exact .inr (.inr (bl_total h1 fun e => h (bytes_ext e)))
theorem mrgU_mem : ∀ (p q : List ByteArray) (z : ByteArray), z ∈ mrgU p q ↔ z ∈ p ∨ z ∈ q
  | [], q, z => by rw [mrgU_left]; simp
  | x :: p, [], z => by rw [mrgU_right]; simp
  | x :: p, y :: q, z => by
    rcases three x y with rfl | h | h
    · rw [mrgU_same, List.mem_cons, mrgU_mem p q z, List.mem_cons, List.mem_cons]
      constructor
      · rintro (h | h | h)
        · exact .inl (.inl h)
        · exact .inl (.inr h)
        · exact .inr (.inr h)
      · rintro ((h | h) | (h | h))
        · exact .inl h
        · exact .inr (.inl h)
        · exact .inl h
        · exact .inr (.inr h)
    · rw [mrgU_lt h, List.mem_cons, mrgU_mem p (y :: q) z, List.mem_cons (a := z) (b := x), or_assoc]
    · rw [mrgU_gt h, List.mem_cons, mrgU_mem (x :: p) q z, List.mem_cons (a := z) (b := y)]
      constructor
      · rintro (h | h | h)
        · exact .inr (.inl h)
        · exact .inl h
        · exact .inr (.inr h)
      · rintro (h | h | h)
        · exact .inr (.inl h)
        · exact .inl h
        · exact .inr (.inr h)
termination_by p q => p.length + q.length
theorem mrgU_len : ∀ (p q : List ByteArray), (mrgU p q).length ≤ p.length + q.length
  | [], q => by rw [mrgU_left]; simp
  | x :: p, [] => by rw [mrgU_right]; simp
  | x :: p, y :: q => by
    rcases three x y with rfl | h | h
    · have := mrgU_len p q
      rw [mrgU_same, List.length_cons, List.length_cons, List.length_cons]; omega
    · have := mrgU_len p (y :: q)
      rw [mrgU_lt h, List.length_cons, List.length_cons]; omega
    · have := mrgU_len (x :: p) q
      rw [mrgU_gt h, List.length_cons, List.length_cons (a := y)]; omega
termination_by p q => p.length + q.length
/-- Rising, no one twice. -/
def Strict (l : List ByteArray) : Prop := l.Pairwise fun x y => bl x.data.toList y.data.toList = true
theorem mrgU_strict : ∀ (p q : List ByteArray), Strict p → Strict q → Strict (mrgU p q)
  | [], q, _, hq => by rw [mrgU_left]; exact hq
  | x :: p, [], hp, _ => by rw [mrgU_right]; exact hp
  | x :: p, y :: q, hp, hq => by
    have hp' := List.pairwise_cons.1 hp
    have hq' := List.pairwise_cons.1 hq
    rcases three x y with rfl | h | h
    · rw [mrgU_same]
      refine List.pairwise_cons.2 ⟨fun z hz => ?_, mrgU_strict p q hp'.2 hq'.2⟩
      rcases (mrgU_mem p q z).1 hz with h | h
      · exact hp'.1 z h
      · exact hq'.1 z h
    · rw [mrgU_lt h]
      refine List.pairwise_cons.2 ⟨fun z hz => ?_, mrgU_strict p (y :: q) hp'.2 hq⟩
      rcases (mrgU_mem p (y :: q) z).1 hz with h1 | h1
      · exact hp'.1 z h1
      · rcases List.mem_cons.1 h1 with rfl | h1
        · exact h
        · exact bl_trans h (hq'.1 z h1)
    · rw [mrgU_gt h]
      refine List.pairwise_cons.2 ⟨fun z hz => ?_, mrgU_strict (x :: p) q hp hq'.2⟩
      rcases (mrgU_mem (x :: p) q z).1 hz with h1 | h1
      · rcases List.mem_cons.1 h1 with rfl | h1
        · exact h
        · exact bl_trans h (hp'.1 z h1)
      · exact hq'.1 z h1
termination_by p q => p.length + q.length
/-- Two rising lists of the same strings are one. -/
theorem strict_ext : ∀ {p q : List ByteArray}, Strict p → Strict q → (∀ z, z ∈ p ↔ z ∈ q) → p = q
  | [], [], _, _, _ => rfl
  | [], y :: q, _, _, h => absurd ((h y).2 (by simp)) (by simp)
  | x :: p, [], _, _, h => absurd ((h x).1 (by simp)) (by simp)
  | x :: p, y :: q, hp, hq, h => by
    have hp' := List.pairwise_cons.1 hp
    have hq' := List.pairwise_cons.1 hq
    have irr : ∀ z : ByteArray, ¬ bl z.data.toList z.data.toList = true := fun z e => by rw [bl_irrefl] at e; cases e
    have e : x = y := by
      rcases List.mem_cons.1 ((h x).1 (by simp)) with h1 | h1
      · exact h1
      · rcases List.mem_cons.1 ((h y).2 (by simp)) with h2 | h2
        · exact h2.symm
        · exact absurd (bl_trans (hq'.1 x h1) (hp'.1 y h2)) (irr y)
    subst e
    congr 1
    refine strict_ext hp'.2 hq'.2 fun z => ?_
    constructor
    · intro hz
      rcases List.mem_cons.1 ((h z).1 (by simp [hz])) with rfl | h1
      · exact absurd (hp'.1 z hz) (irr z)
      · exact h1
    · intro hz
      rcases List.mem_cons.1 ((h z).2 (by simp [hz])) with rfl | h1
      · exact absurd (hq'.1 z hz) (irr z)
      · exact h1
/-- Each once, in their order: both halves, put together. -/
def srt : Nat → List ByteArray → List ByteArray
  | 0, l => l
  | n + 1, l => if l.length < 2 then l else mrgU (srt n (l.take (l.length / 2))) (srt n (l.drop (l.length / 2)))
theorem srt_len : ∀ (n : Nat) (l : List ByteArray), (srt n l).length ≤ l.length
  | 0, l => Nat.le_refl _
  | n + 1, l => by
    rw [srt]
    split
    · exact Nat.le_refl _
    · have h1 := srt_len n (l.take (l.length / 2))
      have h2 := srt_len n (l.drop (l.length / 2))
      have h3 := mrgU_len (srt n (l.take (l.length / 2))) (srt n (l.drop (l.length / 2)))
      rw [List.length_take] at h1
      rw [List.length_drop] at h2
      omega
theorem srt_mem : ∀ (n : Nat) (l : List ByteArray) (z : ByteArray), z ∈ srt n l ↔ z ∈ l
  | 0, l, z => Iff.rfl
  | n + 1, l, z => by
    rw [srt]
    split
    · exact Iff.rfl
    · rw [mrgU_mem, srt_mem n, srt_mem n, ← List.mem_append, List.take_append_drop]
theorem srt_strict : ∀ (n : Nat) (l : List ByteArray), l.length ≤ n + 1 → Strict (srt n l)
  | 0, l, h => by
    rw [srt]
    match l, h with
    | [], _ => exact List.Pairwise.nil
    | [x], _ => exact List.pairwise_singleton _ _
  | n + 1, l, h => by
    rw [srt]
    split
    · rename_i h2
      match l, h2 with
      | [], _ => exact List.Pairwise.nil
      | [x], _ => exact List.pairwise_singleton _ _
    · exact mrgU_strict _ _ (srt_strict n _ (by rw [List.length_take]; omega)) (srt_strict n _ (by rw [List.length_drop]; omega))
/-- A list's strings, each once, in their order. -/
def sortS (l : List ByteArray) : List ByteArray := srt l.length l
theorem sort_mem {l : List ByteArray} {z : ByteArray} : z ∈ sortS l ↔ z ∈ l := srt_mem _ _ _
theorem sort_strict (l : List ByteArray) : Strict (sortS l) := srt_strict _ _ (by omega)
theorem sort_len (l : List ByteArray) : (sortS l).length ≤ l.length := srt_len _ _
theorem sort_ext {p l : List ByteArray} (hp : Strict p) (h : ∀ z, z ∈ p ↔ z ∈ l) : p = sortS l := strict_ext hp (sort_strict l) fun z => (h z).trans sort_mem.symm
end Go.Proofs.YtgednccpjegbmaaGreatDoor.Wp
namespace Go.Proofs.YtgednccpjegbmaaGreatDoor.Ew
open Go.RowKit Go.Proofs.YtgednccpjegbmaaGreatDoor Go.Proofs.YtgednccpjegbmaaGreatDoor.Ww Go.Proofs.YtgednccpjegbmaaGreatDoor.Tw
set_option maxRecDepth 100000

end Go.Proofs.YtgednccpjegbmaaGreatDoor.Ew
