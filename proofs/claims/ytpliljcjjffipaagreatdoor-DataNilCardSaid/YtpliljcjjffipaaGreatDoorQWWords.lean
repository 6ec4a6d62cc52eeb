/-
  A text's words, as plain lists: where they begin and end; words, put together, are the same again. No program here.
-/
import Derived.Lib.Join
import Derived.Test.YtpliljcjjffipaaGreatDoorQWReads
namespace Go.Proofs.YtpliljcjjffipaaGreatDoor.Wp

def blankB (c : UInt8) : Bool := c == 32 || c == 9 || c == 10

/-- The words of a text, by where they begin and end: f is where the present one began, k is where we are. -/
def itA : Nat → Nat → Bs → List (Nat × Nat)
  | f, k, [] => if f < k then [(f, k)] else []
  | f, k, c :: r => if blankB c = true then (if f < k then (f, k) :: itA (k + 1) (k + 1) r else itA (k + 1) (k + 1) r) else itA f (k + 1) r
def items (u : Bs) : List (Nat × Nat) := itA 0 0 u
def restI (u : Bs) (f k : Nat) : List (Nat × Nat) := if k ≤ u.length then itA f k (u.drop k) else []

theorem restI_start (u : Bs) : restI u 0 0 = items u := by simp [restI, items]
theorem restI_over {u : Bs} {f k : Nat} (h : u.length < k) : restI u f k = [] := if_neg (by omega)
theorem restI_in {u : Bs} {f k : Nat} {c : UInt8} (h : k < u.length) (hc : u[k] = c) (hb : blankB c = false) : restI u f k = restI u f (k + 1) := by
  unfold restI
  rw [if_pos (by omega), if_pos (by omega), List.drop_eq_getElem_cons h, hc, itA, if_neg (by rw [hb]; decide)]
theorem restI_yes {u : Bs} {f k : Nat} (h : k ≤ u.length) (hb : ∀ c, u[k]? = some c → blankB c = true) (hf : f < k) : restI u f k = (f, k) :: restI u (k + 1) (k + 1) := by
  unfold restI
  rw [if_pos h]
  rcases Nat.lt_or_ge k u.length with hk | hk
  · rw [if_pos (by omega), List.drop_eq_getElem_cons hk, itA, if_pos (hb _ (List.getElem?_eq_getElem hk)), if_pos hf]
  · rw [if_neg (by omega), List.drop_of_length_le hk, itA, if_pos hf]
theorem restI_no {u : Bs} {f k : Nat} (h : k ≤ u.length) (hb : ∀ c, u[k]? = some c → blankB c = true) (hf : ¬ f < k) : restI u f k = restI u (k + 1) (k + 1) := by
  unfold restI
  rw [if_pos h]
  rcases Nat.lt_or_ge k u.length with hk | hk
  · rw [if_pos (by omega), List.drop_eq_getElem_cons hk, itA, if_pos (hb _ (List.getElem?_eq_getElem hk)), if_neg hf]
  · rw [if_neg (by omega), List.drop_of_length_le hk, itA, if_neg hf]

theorem itA_len : ∀ (t : Bs) (f k : Nat), f ≤ k → (itA f k t).length ≤ t.length + (if f < k then 1 else 0)
  | [], f, k, _ => by unfold itA; split <;> simp
  | c :: r, f, k, _ => by
    have h1 := itA_len r (k + 1) (k + 1) (Nat.le_refl _)
    have h2 := itA_len r f (k + 1) (by omega)
    rw [if_neg (by omega)] at h1
    rw [if_pos (by omega)] at h2
    unfold itA
    split
    · split
      · simp; omega
      · simp; omega
    · simp; split <;> omega
theorem items_len (u : Bs) : (items u).length ≤ u.length := by
  have := itA_len u 0 0 (Nat.le_refl _)
  simpa [items] using this

/-- A word of a text. -/
def word (u : Bs) (x : Nat × Nat) : Bs := (u.drop x.1).take (x.2 - x.1)
/-- A text's words, one byte after another one: acc is what stands of the present one. -/
def wl : Bs → Bs → List Bs
  | acc, [] => if acc = [] then [] else [acc]
  | acc, c :: r => if blankB c = true then (if acc = [] then wl [] r else acc :: wl [] r) else wl (acc ++ [c]) r

def Good (w : Bs) : Prop := w ≠ [] ∧ ∀ c ∈ w, blankB c = false
end Go.Proofs.YtpliljcjjffipaaGreatDoor.Wp
