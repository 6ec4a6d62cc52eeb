/-
  A slice that reads as a list of cells, whatever its address where it is empty; which calls leave it.
-/
import Derived.Laws.OwnMore
import Derived.Deep.Draws
import Derived.Test.YtebagfadcjgllaaGreatDoorWBase
namespace Go.Proofs.YtebagfadcjgllaaGreatDoor.Ww
open Go.RowKit Go.Proofs.YtebagfadcjgllaaGreatDoor
set_option maxRecDepth 100000

/-- The slice value v reads as the cells xs, which lie below block B. -/
def Rd (w : World) (B : Nat) (v : Value) (xs : List Value) : Prop :=
  ∃ a c, v = .slice a xs.length c ∧ xs.length ≤ c ∧ (xs ≠ [] → ∃ b o, a = some ⟨b, o, none⟩ ∧ b < B ∧ ∀ j u, xs[j]? = some u → w.cell? ⟨b, o + j, none⟩ = some u)

section
variable {w w' : World} {B B' : Nat} {v : Value} {xs : List Value}
theorem Rd.keep (h : Rd w B v xs) (hk : ∀ b o, b < B → w'.cell? ⟨b, o, none⟩ = w.cell? ⟨b, o, none⟩) : Rd w' B v xs := by
  obtain ⟨a, c, hv, hc, h⟩ := h
  refine ⟨a, c, hv, hc, fun hn => ?_⟩
  obtain ⟨b, o, ha, hb, hx⟩ := h hn
  exact ⟨b, o, ha, hb, fun j u hj => (hk _ _ hb).trans (hx j u hj)⟩
theorem Rd.more (h : Rd w B v xs) (hB : B ≤ B') : Rd w B' v xs := by
  obtain ⟨a, c, hv, hc, h⟩ := h
  refine ⟨a, c, hv, hc, fun hn => ?_⟩
  obtain ⟨b, o, ha, hb, hx⟩ := h hn
  exact ⟨b, o, ha, Nat.lt_of_lt_of_le hb hB, hx⟩
theorem Rd.below (h : Rd w B v xs) (hb : Below B w w') : Rd w' B v xs := h.keep fun b o hp => hb.cell (p := ⟨b, o, none⟩) hp
theorem Rd.drewN (h : Rd w B v xs) (k : Nat) : Rd (w.drewN k) B v xs := h
theorem Rd.nil (w : World) (B : Nat) (a : Option Addr) (c : Nat) : Rd w B (.slice a 0 c) [] := ⟨a, c, rfl, Nat.zero_le _, fun h => absurd rfl h⟩
theorem Rd.of_own {base : Nat} {e : TypeId} {n : Nat} (h : w.ownsRow base e 1 v n xs) : Rd w w.heap.size v xs := by
  obtain ⟨hl, h'⟩ := h
  rw [Nat.mul_one] at hl
  rcases h' with ⟨rfl, rfl⟩ | ⟨g, cap, cur, rfl, hb, hg, hn, hc, hs, ht⟩
  · have : xs = [] := List.length_eq_zero_iff.1 hl
    subst this
    exact Rd.nil _ _ _ _
  · refine ⟨_, cap, by rw [hl], by omega, fun _ => ⟨g, 0, rfl, ?_, fun j u hj => ?_⟩⟩
    · exact (Array.getElem?_eq_some_iff.1 hg).1
    · have := World.ownsRow.cells (g := g) ⟨by rw [hl, Nat.mul_one], .inr ⟨g, cap, cur, rfl, hb, hg, hn, hc, hs, ht⟩⟩ rfl j u hj
      simpa [Addr.add_lit] using this
/-- A slice that isn't empty, written out. -/
theorem Rd.open_ (h : Rd w B v xs) (hn : 0 < xs.length) : ∃ b o c, v = .slice (some ⟨b, o, none⟩) xs.length c ∧ xs.length ≤ c ∧ b < B ∧ ∀ j u, xs[j]? = some u → w.cell? ⟨b, o + j, none⟩ = some u := by
  obtain ⟨a, c, hv, hc, h⟩ := h
  obtain ⟨b, o, rfl, hb, hx⟩ := h (List.length_pos_iff.1 hn)
  exact ⟨b, o, c, hv, hc, hb, hx⟩
theorem Rd.shape (h : Rd w B v xs) : ∃ a c, v = .slice a xs.length c ∧ xs.length ≤ c := by
  obtain ⟨a, c, hv, hc, _⟩ := h
  exact ⟨a, c, hv, hc⟩
/-- Without its first cell. -/
theorem Rd.tail_ {b o c : Nat} {x : Value} {n : Nat} (h : Rd w B (.slice (some ⟨b, o, none⟩) n c) (x :: xs)) : Rd w B (.slice (some ⟨b, o + 1, none⟩) xs.length (c - 1)) xs ∧ (1 < c ∨ xs = []) := by
  obtain ⟨a, c', hv, hc, h⟩ := h
  obtain ⟨b', o', ha, hb, hx⟩ := h (by simp)
  cases hv
  cases ha
  refine ⟨⟨_, _, rfl, by simp at hc; omega, fun _ => ⟨b, o + 1, rfl, hb, fun j u hj => ?_⟩⟩, ?_⟩
  · have := hx (j + 1) u (by simpa using hj)
    rwa [show o + (j + 1) = o + 1 + j by omega] at this
  · cases xs with
    | nil => exact .inr rfl
    | cons y r => simp at hc; left; omega
end

theorem below_keep {W w : World} (h : Below W.heap.size W w) {v : Value} {xs : List Value} (hr : Rd W W.heap.size v xs) : Rd w W.heap.size v xs := hr.below h

def strsC (l : List ByteArray) : List Value := l.map Value.string
theorem strsC_len (l : List ByteArray) : (strsC l).length = l.length := by simp [strsC]
theorem strsC_get (l : List ByteArray) {j : Nat} (h : j < l.length) : (strsC l)[j]? = some (.string l[j]) := by simp [strsC, h]
def intsC (l : List Nat) : List Value := l.map fun (n : Nat) => Value.int .i64 (n : Int)
theorem intsC_len (l : List Nat) : (intsC l).length = l.length := by simp [intsC]
theorem intsC_get (l : List Nat) {j : Nat} (h : j < l.length) : (intsC l)[j]? = some (.int .i64 (l[j] : Int)) := by simp [intsC, h]
end Go.Proofs.YtebagfadcjgllaaGreatDoor.Ww
