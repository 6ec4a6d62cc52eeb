/-
  Package words as plain functions on bytes: brackets that are open, and where a text is cut. No program here.
  Strings as lists of bytes; small laws that the walks of package words use.
  A slice that reads as a list of cells, whatever its address where it is empty; which calls leave it.
  Patterns with a %, in plain words. No program here.
  Strings as lists of bytes, and compared.
-/
import Derived.Test.YtgednccpjegbmaaGreatDoorProg
import Derived.WalkKit
import Derived.LoopTactic
import Derived.WalkSpells
import Derived.WalkLawsBesides
import Derived.Lib.Hide
import Derived.Lib.Walk
import Derived.Lib.Bytealg
import Derived.Lib.PathFns
import Derived.Outline
import Derived.Deep.DeepMust
import Derived.Deep.QuietTactic
import Derived.Deep.WholeRow
import Derived.Lib.AsciiSet
import Derived.Laws.ResultCell
import Derived.BigQuiet
import Derived.WalkSmall
import Derived.IntWalk
import Derived.Maps.AppendAt
import Derived.Laws.IdiomStrings
import Derived.Laws.OwnMore
import Derived.Deep.Draws
namespace Go.Proofs.YtgednccpjegbmaaGreatDoor.Wp
abbrev Bs := List UInt8

/-- Which brackets are open behind one byte more; the last one opened stands last. -/
def next (op : Bs) (c : UInt8) : Bs :=
  if c = 40 ∨ c = 123 then op ++ [c]
  else if c = 41 ∧ op.getLast? = some 40 then op.dropLast
  else if c = 125 ∧ op.getLast? = some 123 then op.dropLast
  else op

/-- Where the first byte of some stands that isn't between brackets, counted from k. -/
def cutA (stops : Bs) : Bs → Bs → Nat → Option Nat
  | _, [], _ => none
  | op, c :: r, k => if op = [] ∧ stops.contains c = true then some k else cutA stops (next op c) r (k + 1)

/-- All of them are opening brackets. -/
def Open (op : Bs) : Prop := ∀ x ∈ op, x = 40 ∨ x = 123
/-- What closes a bracket. -/
def close (c : UInt8) : UInt8 := if c = 40 then 41 else 125

theorem Open.nil : Open [] := fun _ h => by cases h
theorem Open.snoc {op : Bs} {c : UInt8} (h : Open op) (hc : c = 40 ∨ c = 123) : Open (op ++ [c]) := fun x hx => by
  rcases List.mem_append.1 hx with h' | h'
  · exact h x h'
  · rw [List.mem_singleton.1 h']; exact hc
theorem Open.cut {op : Bs} (h : Open op) : Open op.dropLast := fun x hx => h x (List.dropLast_subset op hx)
theorem Open.next {op : Bs} {c : UInt8} (h : Open op) : Open (next op c) := by
  unfold Wp.next
  split
  · rename_i hc; exact h.snoc hc
  · split
    · exact h.cut
    · split
      · exact h.cut
      · exact h

theorem next_open {op : Bs} {c : UInt8} (h : c = 40 ∨ c = 123) : next op c = op ++ [c] := if_pos h
theorem next_close {op : Bs} {c d : UInt8} (ho : Open op) (hl : op.getLast? = some d) (h : c = close d) : next op c = op.dropLast := by
  have hd := ho d (List.mem_of_getLast? hl)
  subst h
  rcases hd with rfl | rfl
  · have h1 : close 40 = 41 := rfl
    rw [h1]
    unfold next
    rw [if_neg (by decide), if_pos ⟨rfl, hl⟩]
  · have h1 : close 123 = 125 := rfl
    rw [h1]
    unfold next
    rw [if_neg (by decide), if_neg (by rintro ⟨h, _⟩; exact absurd h (by decide)), if_pos ⟨rfl, hl⟩]
theorem next_other {op : Bs} {c : UInt8} (h1 : ¬ c = 40) (h2 : ¬ c = 123) (h : ∀ d, op.getLast? = some d → ¬ c = close d) : next op c = op := by
  unfold next
  rw [if_neg (fun e => e.elim h1 h2)]
  by_cases a : c = 41 ∧ op.getLast? = some 40
  · exact absurd a.1 (h 40 a.2)
  · rw [if_neg a]
    by_cases b : c = 125 ∧ op.getLast? = some 123
    · exact absurd b.1 (h 123 b.2)
    · rw [if_neg b]

theorem next_len (op : Bs) (c : UInt8) : (next op c).length ≤ op.length + 1 := by
  unfold next
  split
  · simp
  · split
    · simp; omega
    · split
      · simp; omega
      · omega

theorem cutA_nil (stops op : Bs) (k : Nat) : cutA stops op [] k = none := by cases op <;> rfl
theorem cutA_hit {stops : Bs} {c : UInt8} {r : Bs} {k : Nat} (h : stops.contains c = true) : cutA stops [] (c :: r) k = some k := if_pos ⟨rfl, h⟩
theorem cutA_miss {stops op : Bs} {c : UInt8} {r : Bs} {k : Nat} (h : ¬ (op = [] ∧ stops.contains c = true)) : cutA stops op (c :: r) k = cutA stops (next op c) r (k + 1) := if_neg h
theorem cutA_lt : ∀ {stops op t : Bs} {k i : Nat}, cutA stops op t k = some i → k ≤ i ∧ i < k + t.length
  | stops, op, [], k, i, h => by rw [cutA_nil] at h; cases h
  | stops, op, c :: r, k, i, h => by
    by_cases hh : op = [] ∧ stops.contains c = true
    · obtain ⟨rfl, hc⟩ := hh
      rw [cutA_hit hc] at h
      obtain rfl := Option.some.inj h
      simp
    · rw [cutA_miss hh] at h
      have := cutA_lt h
      simp; omega
end Go.Proofs.YtgednccpjegbmaaGreatDoor.Wp
namespace Go.Proofs.YtgednccpjegbmaaGreatDoor.Ww
open Go.RowKit Go.Proofs.YtgednccpjegbmaaGreatDoor
set_option maxRecDepth 100000

abbrev Bs := List UInt8
def by8 (s : ByteArray) : Bs := s.data.toList
theorem by8_len (s : ByteArray) : (by8 s).length = s.size := (Lib.size_eq s).symm
theorem by8_drop (s : ByteArray) (n : Nat) : by8 (s.extract n s.size) = (by8 s).drop n := Lib.extract_to_end s n
theorem by8_take (s : ByteArray) (n : Nat) : by8 (s.extract 0 n) = (by8 s).take n := Lib.extract_from_zero s n
theorem by8_get {s : ByteArray} {k : Nat} (h : k < s.size) : (by8 s)[k]? = some s[k] := Lib.Pa.at_eq s k h
theorem by8_at {s : ByteArray} {k : Nat} (h : k < s.size) : (by8 s).drop k = s[k] :: (by8 s).drop (k + 1) := by
  have hl : k < (by8 s).length := by rw [by8_len]; exact h
  rw [List.drop_eq_getElem_cons hl]
  rfl
theorem by8_ext {a b : ByteArray} (h : by8 a = by8 b) : a = b := by
  have : a.data = b.data := Array.toList_inj.1 h
  cases a; cases b; simp at this; subst this; rfl
theorem by8_snoc {s : ByteArray} {k : Nat} (h : k < s.size) : (by8 s).take (k + 1) = (by8 s).take k ++ [s[k]] := by
  have hl : k < (by8 s).length := by rw [by8_len]; exact h
  rw [List.take_succ_eq_append_getElem hl]
  rfl
theorem ret_bool {a b : Bool} (h : a = b) : Ending.returned (.bool a) = .returned (.bool b) := by rw [h]
theorem ret_int {a b : Int} (h : a = b) : Ending.returned (.int .i64 a) = .returned (.int .i64 b) := by rw [h]
theorem below_drewN {B : Nat} {a w : World} (h : Below B a w) (n : Nat) : Below B a (w.drewN n) := ⟨h.os, h.tape, h.output, h.size, h.block⟩
theorem eq_true {a b : UInt8} (h : a = b) : (((a.toNat : Nat) : Int) == ((b.toNat : Nat) : Int)) = true := by rw [h]; exact beq_self_eq_true _
theorem eq_false {a b : UInt8} (h : ¬ a = b) : (((a.toNat : Nat) : Int) == ((b.toNat : Nat) : Int)) = false := by
  rw [beq_eq_false_iff_ne]; intro e; exact h (UInt8.toNat_inj.1 (by omega))
theorem owns_slice {w : World} {base : Nat} {e : TypeId} {size : Nat} {v : Value} {n : Nat} {xs : List Value} (h : w.ownsRow base e size v n xs) : ∃ a c, v = .slice a n c := by
  rcases h.2 with ⟨rfl, rfl⟩ | ⟨g, cap, cur, rfl, _⟩
  · exact ⟨_, _, rfl⟩
  · exact ⟨_, _, rfl⟩
/-- A beginning of a row is owned as the row is. -/
theorem owns_take {w : World} {base : Nat} {e : TypeId} {a : Option Addr} {n c : Nat} {xs : List Value} (h : w.ownsRow base e 1 (.slice a n c) n xs) {m : Nat} (hm : m ≤ n) (ha : a ≠ none) : w.ownsRow base e 1 (.slice a m c) m (xs.take m) := by
  obtain ⟨hl, h⟩ := h
  rcases h with ⟨h, _⟩ | ⟨g, cap, cur, h, hb, hg, hn, hc, hs, ht⟩
  · cases h; exact absurd rfl ha
  · cases h
    refine ⟨by rw [List.length_take]; omega, .inr ⟨g, c, cur, rfl, hb, hg, by omega, hc, hs, ?_⟩⟩
    rw [← ht, List.take_take]
    congr 1; omega
theorem owns_addr {w : World} {base : Nat} {e : TypeId} {a : Option Addr} {n c : Nat} {xs : List Value} (h : w.ownsRow base e 1 (.slice a n c) n xs) (hn : 0 < n) : ∃ g, a = some ⟨g, 0, none⟩ ∧ n ≤ c := by
  rcases h.2 with ⟨h, h0⟩ | ⟨g, cap, cur, h, hb, hg, hn, hc, hs, ht⟩
  · omega
  · cases h; exact ⟨g, rfl, hn⟩
theorem owns_cell {w : World} {base : Nat} {e : TypeId} {g n c : Nat} {xs : List Value} (h : w.ownsRow base e 1 (.slice (some ⟨g, 0, none⟩) n c) n xs) {j : Nat} {u : Value} (hj : xs[j]? = some u) : w.cell? ⟨g, j, none⟩ = some u := by
  have := h.cells (g := g) rfl j u hj
  simpa [Addr.add_lit] using this
theorem below_setRow {B : Nat} {a w : World} (h : Below B a w) {g : Nat} (hg : B ≤ g) (cs : Array Value) : Below B a (w.setRow g cs) :=
  ⟨h.os, h.tape, h.output, by rw [setRow_size]; exact h.size, fun b hb => by rw [setRow_other _ _ _ _ (by omega)]; exact h.block b hb⟩
end Go.Proofs.YtgednccpjegbmaaGreatDoor.Ww
namespace Go.Proofs.YtgednccpjegbmaaGreatDoor.Ww
open Go.RowKit Go.Proofs.YtgednccpjegbmaaGreatDoor
set_option maxRecDepth 100000

/-- The slice value v reads as the cells xs, which lie below block B. -/
def Rd (w : World) (B : Nat) (v : Value) (xs : List Value) : Prop :=
  ∃ a c, v = .slice a xs.length c ∧ xs.length ≤ c ∧ (xs ≠ [] → ∃ b o, a = some ⟨b, o, none⟩ ∧ b < B ∧ ∀ j u, xs[j]? = some u → w.cell? ⟨b, o + j, none⟩ = some u)

section
variable {w w' : World} {B B' : Nat} {v : Value} {xs : List Value}
theorem Rd.keep (h : Rd w B v xs) (hk : ∀ b o, b < B → w'.cell? ⟨b, o, none⟩ = w.cell? ⟨b, o, none⟩) : Rd w' B v xs := by
  obtain ⟨a, c, hv, hc, h⟩ := h
  refine ⟨a, c, hv, hc, fun hn => ?_⟩
  obtain ⟨b, o, ha, hb, hx⟩ := h hn
  exact ⟨b, o, ha, hb, fun j u hj => (hk _ _ hb).trans (hx j u hj)⟩
theorem Rd.more (h : Rd w B v xs) (hB : B ≤ B') : Rd w B' v xs := by
  obtain ⟨a, c, hv, hc, h⟩ := h
  refine ⟨a, c, hv, hc, fun hn => ?_⟩
  obtain ⟨b, o, ha, hb, hx⟩ := h hn
  exact ⟨b, o, ha, Nat.lt_of_lt_of_le hb hB, hx⟩
theorem Rd.below (h : Rd w B v xs) (hb : Below B w w') : Rd w' B v xs := h.keep fun b o hp => hb.cell (p := ⟨b, o, none⟩) hp
theorem Rd.nil (w : World) (B : Nat) (a : Option Addr) (c : Nat) : Rd w B (.slice a 0 c) [] := ⟨a, c, rfl, Nat.zero_le _, fun h => absurd rfl h⟩
theorem Rd.of_own {base : Nat} {e : TypeId} {n : Nat} (h : w.ownsRow base e 1 v n xs) : Rd w w.heap.size v xs := by
  obtain ⟨hl, h'⟩ := h
  rw [Nat.mul_one] at hl
  rcases h' with ⟨rfl, rfl⟩ | ⟨g, cap, cur, rfl, hb, hg, hn, hc, hs, ht⟩
  · have : xs = [] := List.length_eq_zero_iff.1 hl
    subst this
    exact Rd.nil _ _ _ _
  · refine ⟨_, cap, by rw [hl], by omega, fun _ => ⟨g, 0, rfl, ?_, fun j u hj => ?_⟩⟩
    · exact (Array.getElem?_eq_some_iff.1 hg).1
    · have := World.ownsRow.cells (g := g) ⟨by rw [hl, Nat.mul_one], .inr ⟨g, cap, cur, rfl, hb, hg, hn, hc, hs, ht⟩⟩ rfl j u hj
      simpa [Addr.add_lit] using this
/-- A slice that isn't empty, written out. -/
theorem Rd.open_ (h : Rd w B v xs) (hn : 0 < xs.length) : ∃ b o c, v = .slice (some ⟨b, o, none⟩) xs.length c ∧ xs.length ≤ c ∧ b < B ∧ ∀ j u, xs[j]? = some u → w.cell? ⟨b, o + j, none⟩ = some u := by
  obtain ⟨a, c, hv, hc, h⟩ := h
  obtain ⟨b, o, rfl, hb, hx⟩ := h (List.length_pos_iff.1 hn)
  exact ⟨b, o, c, hv, hc, hb, hx⟩
theorem Rd.shape (h : Rd w B v xs) : ∃ a c, v = .slice a xs.length c ∧ xs.length ≤ c := by
  obtain ⟨a, c, hv, hc, _⟩ := h
  exact ⟨a, c, hv, hc⟩
end

def strsC (l : List ByteArray) : List Value := l.map Value.string
theorem strsC_len (l : List ByteArray) : (strsC l).length = l.length := by simp [strsC]
theorem strsC_get (l : List ByteArray) {j : Nat} (h : j < l.length) : (strsC l)[j]? = some (.string l[j]) := by simp [strsC, h]
end Go.Proofs.YtgednccpjegbmaaGreatDoor.Ww
namespace Go.Proofs.YtgednccpjegbmaaGreatDoor.Tp
abbrev Bs := List UInt8

/-- Where the first % is. -/
def atA (p : Bs) : Option Nat := p.findIdx? (· == 37)
/-- The stem, if a word is of a pattern. -/
def matchA (p w : Bs) : Option Bs := match atA p with
  | none => if p = w then some [] else none
  | some i => if i + (p.drop (i + 1)).length < w.length ∧ w.take i = p.take i ∧ w.drop (w.length - (p.drop (i + 1)).length) = p.drop (i + 1) then some ((w.drop i).take (w.length - i - (p.drop (i + 1)).length)) else none
/-- A text in the place of the first %. -/
def putA (p s : Bs) : Bs := match atA p with
  | none => p
  | some i => p.take i ++ s ++ p.drop (i + 1)
/-- A word, from one pattern to another one. -/
def changeA (w a b : Bs) : Bs := match matchA a w with
  | none => w
  | some s => if (atA a).isNone = true then b else putA b s

theorem at_lt {p : Bs} {i : Nat} (h : atA p = some i) : i < p.length := by
  unfold atA at h
  exact (List.findIdx?_eq_some_iff_getElem.1 h).1
theorem at_split {p : Bs} {i : Nat} (h : atA p = some i) : p = p.take i ++ 37 :: p.drop (i + 1) ∧ 37 ∉ p.take i := by
  unfold atA at h
  obtain ⟨h1, h2, h3⟩ := List.findIdx?_eq_some_iff_getElem.1 h
  refine ⟨?_, fun hm => ?_⟩
  · have e : p[i] = 37 := by simpa using h2
    conv => lhs; rw [← List.take_append_drop i p, List.drop_eq_getElem_cons h1, e]
  · obtain ⟨j, hj, e⟩ := List.mem_iff_getElem.1 hm
    rw [List.length_take] at hj
    have := h3 j (by omega)
    rw [List.getElem_take] at e
    rw [e] at this
    simp at this
theorem at_none {p : Bs} (h : atA p = none) : 37 ∉ p := by
  unfold atA at h
  rw [List.findIdx?_eq_none_iff] at h
  intro hm
  have := h 37 hm
  simp at this
theorem match_len {p w s : Bs} (h : matchA p w = some s) : s.length ≤ w.length := by
  unfold matchA at h
  split at h
  · split at h
    · obtain rfl := Option.some.inj h; simp
    · cases h
  · split at h
    · obtain rfl := Option.some.inj h
      rw [List.length_take, List.length_drop]; omega
    · cases h
theorem put_len (p s : Bs) : (putA p s).length ≤ p.length + s.length := by
  unfold putA
  split
  · omega
  · rename_i i h
    have := at_lt h
    simp; omega
end Go.Proofs.YtgednccpjegbmaaGreatDoor.Tp
namespace Go.Proofs.YtgednccpjegbmaaGreatDoor.Tw
open Go.RowKit Go.Proofs.YtgednccpjegbmaaGreatDoor Go.Proofs.YtgednccpjegbmaaGreatDoor.Ww
set_option maxRecDepth 100000

def str (l : Bs) : ByteArray := ⟨l.toArray⟩
theorem by8_str (l : Bs) : by8 (str l) = l := rfl
theorem str_by8 (s : ByteArray) : str (by8 s) = s := rfl
theorem str_size (l : Bs) : (str l).size = l.length := by rw [← by8_len, by8_str]
theorem by8_add (a b : ByteArray) : by8 (a ++ b) = by8 a ++ by8 b := by simp [by8]
theorem by8_mid (s : ByteArray) (i j : Nat) : by8 (s.extract i j) = ((by8 s).drop i).take (j - i) := by
  show (s.extract i j).data.toList = _
  rw [ByteArray.data_extract, Array.toList_extract, List.extract_eq_take_drop]; rfl
theorem toList_by8 (s : ByteArray) : s.toList = by8 s := Lib.toList_data s
theorem beq_yes {a b : ByteArray} (h : by8 a = by8 b) : (a.toList == b.toList) = true := by rw [toList_by8, toList_by8, h]; exact beq_self_eq_true _
theorem beq_no {a b : ByteArray} (h : ¬ by8 a = by8 b) : (a.toList == b.toList) = false := by rw [toList_by8, toList_by8]; exact beq_eq_false_iff_ne.2 h
end Go.Proofs.YtgednccpjegbmaaGreatDoor.Tw
