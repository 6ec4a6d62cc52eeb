/-
  Strings as lists of bytes; small laws that the walks of package words use.
-/
import Derived.WalkKit
import Derived.LoopTactic
import Derived.WalkSpells
import Derived.WalkLawsBesides
import Derived.Lib.Hide
import Derived.Lib.Walk
import Derived.Lib.Bytealg
import Derived.Lib.PathFns
import Derived.Outline
import Derived.Deep.DeepMust
import Derived.Deep.QuietTactic
import Derived.Deep.WholeRow
import Derived.Lib.AsciiSet
import Derived.Laws.ResultCell
import Derived.BigQuiet
import Derived.WalkSmall
import Derived.IntWalk
import Derived.Maps.AppendAt
import Derived.Laws.IdiomStrings
import Derived.Test.YtebagfadcjgllaaGreatDoorWPlain
import Derived.Test.YtebagfadcjgllaaGreatDoorProg
namespace Go.Proofs.YtebagfadcjgllaaGreatDoor.Ww
open Go.RowKit Go.Proofs.YtebagfadcjgllaaGreatDoor
set_option maxRecDepth 100000

abbrev Bs := List UInt8
def by8 (s : ByteArray) : Bs := s.data.toList
theorem by8_len (s : ByteArray) : (by8 s).length = s.size := (Lib.size_eq s).symm
theorem by8_drop (s : ByteArray) (n : Nat) : by8 (s.extract n s.size) = (by8 s).drop n := Lib.extract_to_end s n
theorem by8_take (s : ByteArray) (n : Nat) : by8 (s.extract 0 n) = (by8 s).take n := Lib.extract_from_zero s n
theorem by8_get {s : ByteArray} {k : Nat} (h : k < s.size) : (by8 s)[k]? = some s[k] := Lib.Pa.at_eq s k h
theorem by8_at {s : ByteArray} {k : Nat} (h : k < s.size) : (by8 s).drop k = s[k] :: (by8 s).drop (k + 1) := by
  have hl : k < (by8 s).length := by rw [by8_len]; exact h
  rw [List.drop_eq_getElem_cons hl]
  rfl
theorem by8_nil {s : ByteArray} (h : s.size = 0) : by8 s = [] := List.length_eq_zero_iff.1 (by rw [by8_len]; exact h)
theorem by8_ext {a b : ByteArray} (h : by8 a = by8 b) : a = b := by
  have : a.data = b.data := Array.toList_inj.1 h
  cases a; cases b; simp at this; subst this; rfl
theorem by8_snoc {s : ByteArray} {k : Nat} (h : k < s.size) : (by8 s).take (k + 1) = (by8 s).take k ++ [s[k]] := by
  have hl : k < (by8 s).length := by rw [by8_len]; exact h
  rw [List.take_succ_eq_append_getElem hl]
  rfl
theorem ret_bool {a b : Bool} (h : a = b) : Ending.returned (.bool a) = .returned (.bool b) := by rw [h]
theorem ret_int {a b : Int} (h : a = b) : Ending.returned (.int .i64 a) = .returned (.int .i64 b) := by rw [h]
theorem below_drewN {B : Nat} {a w : World} (h : Below B a w) (n : Nat) : Below B a (w.drewN n) := ⟨h.os, h.tape, h.output, h.size, h.block⟩
theorem eq_true {a b : UInt8} (h : a = b) : (((a.toNat : Nat) : Int) == ((b.toNat : Nat) : Int)) = true := by rw [h]; exact beq_self_eq_true _
theorem eq_false {a b : UInt8} (h : ¬ a = b) : (((a.toNat : Nat) : Int) == ((b.toNat : Nat) : Int)) = false := by
  rw [beq_eq_false_iff_ne]; intro e; exact h (UInt8.toNat_inj.1 (by omega))
theorem owns_slice {w : World} {base : Nat} {e : TypeId} {size : Nat} {v : Value} {n : Nat} {xs : List Value} (h : w.ownsRow base e size v n xs) : ∃ a c, v = .slice a n c := by
  rcases h.2 with ⟨rfl, rfl⟩ | ⟨g, cap, cur, rfl, _⟩
  · exact ⟨_, _, rfl⟩
  · exact ⟨_, _, rfl⟩
/-- A beginning of a row is owned as the row is. -/
theorem owns_take {w : World} {base : Nat} {e : TypeId} {a : Option Addr} {n c : Nat} {xs : List Value} (h : w.ownsRow base e 1 (.slice a n c) n xs) {m : Nat} (hm : m ≤ n) (ha : a ≠ none) : w.ownsRow base e 1 (.slice a m c) m (xs.take m) := by
  obtain ⟨hl, h⟩ := h
  rcases h with ⟨h, _⟩ | ⟨g, cap, cur, h, hb, hg, hn, hc, hs, ht⟩
  · cases h; exact absurd rfl ha
  · cases h
    refine ⟨by rw [List.length_take]; omega, .inr ⟨g, c, cur, rfl, hb, hg, by omega, hc, hs, ?_⟩⟩
    rw [← ht, List.take_take]
    congr 1; omega
theorem owns_addr {w : World} {base : Nat} {e : TypeId} {a : Option Addr} {n c : Nat} {xs : List Value} (h : w.ownsRow base e 1 (.slice a n c) n xs) (hn : 0 < n) : ∃ g, a = some ⟨g, 0, none⟩ ∧ n ≤ c := by
  rcases h.2 with ⟨h, h0⟩ | ⟨g, cap, cur, h, hb, hg, hn, hc, hs, ht⟩
  · omega
  · cases h; exact ⟨g, rfl, hn⟩
theorem owns_cell {w : World} {base : Nat} {e : TypeId} {g n c : Nat} {xs : List Value} (h : w.ownsRow base e 1 (.slice (some ⟨g, 0, none⟩) n c) n xs) {j : Nat} {u : Value} (hj : xs[j]? = some u) : w.cell? ⟨g, j, none⟩ = some u := by
  have := h.cells (g := g) rfl j u hj
  simpa [Addr.add_lit] using this
theorem bcell {W w1 : World} (hb : Below W.heap.size W w1) : (∀ b o, b < W.heap.size → w1.cell? ⟨b, o, none⟩ = W.cell? ⟨b, o, none⟩) ∧ (∀ b o, b < W.heap.size → w1.frozen? ⟨b, o, none⟩ = W.frozen? ⟨b, o, none⟩) :=
  ⟨fun b o h => hb.cell (p := ⟨b, o, none⟩) h, fun b o h => hb.frozen (p := ⟨b, o, none⟩) h⟩
theorem below_setRow {B : Nat} {a w : World} (h : Below B a w) {g : Nat} (hg : B ≤ g) (cs : Array Value) : Below B a (w.setRow g cs) :=
  ⟨h.os, h.tape, h.output, by rw [setRow_size]; exact h.size, fun b hb => by rw [setRow_other _ _ _ _ (by omega)]; exact h.block b hb⟩
end Go.Proofs.YtebagfadcjgllaaGreatDoor.Ww
