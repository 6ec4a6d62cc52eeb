/-
  Strings as lists of bytes; small laws that the walks of package lex use.
-/
import Derived.WalkKit
import Derived.LoopTactic
import Derived.WalkSpells
import Derived.WalkLawsBesides
import Derived.Lib.Hide
import Derived.Lib.Walk
import Derived.Lib.Bytealg
import Derived.Lib.PathFns
import Derived.Outline
import Derived.Deep.DeepMust
import Derived.Deep.QuietTactic
import Derived.Deep.WholeRow
import Derived.Lib.AsciiSet
import Derived.Laws.ResultCell
import Derived.BigQuiet
import Derived.WalkSmall
import Derived.IntWalk
import Derived.Maps.AppendAt
import Derived.Laws.IdiomStrings
import Derived.Lib.AppendStr
import Derived.Test.YtlkcpegjkmfngaaDoorLPlain
import Derived.Test.YtlkcpegjkmfngaaDoorProg
namespace Go.Proofs.YtlkcpegjkmfngaaDoor.Lx
open Go.RowKit Go.Proofs.YtlkcpegjkmfngaaDoor
set_option maxRecDepth 100000

abbrev Bs := List UInt8
def by8 (s : ByteArray) : Bs := s.data.toList
theorem by8_len (s : ByteArray) : (by8 s).length = s.size := (Lib.size_eq s).symm
theorem by8_drop (s : ByteArray) (n : Nat) : by8 (s.extract n s.size) = (by8 s).drop n := Lib.extract_to_end s n
theorem by8_take (s : ByteArray) (n : Nat) : by8 (s.extract 0 n) = (by8 s).take n := Lib.extract_from_zero s n
theorem by8_get {s : ByteArray} {k : Nat} (h : k < s.size) : (by8 s)[k]? = some s[k] := Lib.Pa.at_eq s k h
theorem by8_at {s : ByteArray} {k : Nat} (h : k < s.size) : (by8 s).drop k = s[k] :: (by8 s).drop (k + 1) := by
  have hl : k < (by8 s).length := by rw [by8_len]; exact h
  rw [List.drop_eq_getElem_cons hl]
  rfl
theorem by8_nil {s : ByteArray} (h : s.size = 0) : by8 s = [] := List.length_eq_zero_iff.1 (by rw [by8_len]; exact h)
theorem by8_ext {a b : ByteArray} (h : by8 a = by8 b) : a = b := by
  have : a.data = b.data := Array.toList_inj.1 h
  cases a; cases b; simp at this; subst this; rfl
theorem by8_snoc {s : ByteArray} {k : Nat} (h : k < s.size) : (by8 s).take (k + 1) = (by8 s).take k ++ [s[k]] := by
  have hl : k < (by8 s).length := by rw [by8_len]; exact h
  rw [List.take_succ_eq_append_getElem hl]
  rfl
theorem ret_bool {a b : Bool} (h : a = b) : Ending.returned (.bool a) = .returned (.bool b) := by rw [h]
theorem ret_int {a b : Int} (h : a = b) : Ending.returned (.int .i64 a) = .returned (.int .i64 b) := by rw [h]
theorem below_drewN {B : Nat} {a w : World} (h : Below B a w) (n : Nat) : Below B a (w.drewN n) := ⟨h.os, h.tape, h.output, h.size, h.block⟩
theorem eq_true {a b : UInt8} (h : a = b) : (((a.toNat : Nat) : Int) == ((b.toNat : Nat) : Int)) = true := by rw [h]; exact beq_self_eq_true _
theorem eq_false {a b : UInt8} (h : ¬ a = b) : (((a.toNat : Nat) : Int) == ((b.toNat : Nat) : Int)) = false := by
  rw [beq_eq_false_iff_ne]; intro e; exact h (UInt8.toNat_inj.1 (by omega))
theorem owns_slice {w : World} {base : Nat} {e : TypeId} {size : Nat} {v : Value} {n : Nat} {xs : List Value} (h : w.ownsRow base e size v n xs) : ∃ a c, v = .slice a n c := by
  rcases h.2 with ⟨rfl, rfl⟩ | ⟨g, cap, cur, rfl, _⟩
  · exact ⟨_, _, rfl⟩
  · exact ⟨_, _, rfl⟩
/-- A beginning of a row is owned as the row is. -/
theorem owns_take {w : World} {base : Nat} {e : TypeId} {a : Option Addr} {n c : Nat} {xs : List Value} (h : w.ownsRow base e 1 (.slice a n c) n xs) {m : Nat} (hm : m ≤ n) (ha : a ≠ none) : w.ownsRow base e 1 (.slice a m c) m (xs.take m) := by
  obtain ⟨hl, h⟩ := h
  rcases h with ⟨h, _⟩ | ⟨g, cap, cur, h, hb, hg, hn, hc, hs, ht⟩
  · cases h; exact absurd rfl ha
  · cases h
    refine ⟨by rw [List.length_take]; omega, .inr ⟨g, c, cur, rfl, hb, hg, by omega, hc, hs, ?_⟩⟩
    rw [← ht, List.take_take]
    congr 1; omega
theorem owns_addr {w : World} {base : Nat} {e : TypeId} {a : Option Addr} {n c : Nat} {xs : List Value} (h : w.ownsRow base e 1 (.slice a n c) n xs) (hn : 0 < n) : ∃ g, a = some ⟨g, 0, none⟩ ∧ n ≤ c := by
  rcases h.2 with ⟨h, h0⟩ | ⟨g, cap, cur, h, hb, hg, hn, hc, hs, ht⟩
  · omega
  · cases h; exact ⟨g, rfl, hn⟩
theorem owns_cell {w : World} {base : Nat} {e : TypeId} {g n c : Nat} {xs : List Value} (h : w.ownsRow base e 1 (.slice (some ⟨g, 0, none⟩) n c) n xs) {j : Nat} {u : Value} (hj : xs[j]? = some u) : w.cell? ⟨g, j, none⟩ = some u := by
  have := h.cells (g := g) rfl j u hj
  simpa [Addr.add_lit] using this
theorem bcell {W w1 : World} (hb : Below W.heap.size W w1) : (∀ b o, b < W.heap.size → w1.cell? ⟨b, o, none⟩ = W.cell? ⟨b, o, none⟩) ∧ (∀ b o, b < W.heap.size → w1.frozen? ⟨b, o, none⟩ = W.frozen? ⟨b, o, none⟩) :=
  ⟨fun b o h => hb.cell (p := ⟨b, o, none⟩) h, fun b o h => hb.frozen (p := ⟨b, o, none⟩) h⟩
theorem below_setRow {B : Nat} {a w : World} (h : Below B a w) {g : Nat} (hg : B ≤ g) (cs : Array Value) : Below B a (w.setRow g cs) :=
  ⟨h.os, h.tape, h.output, by rw [setRow_size]; exact h.size, fun b hb => by rw [setRow_other _ _ _ _ (by omega)]; exact h.block b hb⟩
abbrev U8 : TypeId := 5
theorem infoU : (Tryd.prog.info? U8).map (fun i => (i.zero, i.size, i.bytes)) = some (some (.int .u8 0), 1, 1) := by kernel_rfl
def bytesC (l : List UInt8) : List Value := l.map fun b => Value.int .u8 (b.toNat : Int)
theorem bytesC_app (a b : List UInt8) : bytesC (a ++ b) = bytesC a ++ bytesC b := by simp [bytesC]
theorem bytesC_len (a : List UInt8) : (bytesC a).length = a.length := by simp [bytesC]
theorem bytesC_str (s : ByteArray) : Lib.strCells s = bytesC s.data.toList := rfl
theorem one_new (wr : World) (x : Value) (T : TypeId) : ∀ (j : Nat) (u : Value), [x][j]? = some u → (wr.alloc (.cells #[x] T)).cell? ((⟨wr.heap.size, 0, none⟩ : Addr).add j) = some u := by
  intro j u hj
  rw [Addr.add_lit, World.cell?_alloc_at _ _ _ _ (by simp)]
  match j, hj with
  | 0, hj => simpa using hj
theorem cell_at {w : World} {n i : Nat} {cs : Array Value} {T : TypeId} {v : Value} (h : w.heap[n]? = some (.cells cs T (0, 0))) (hv : cs[i]? = some v) : w.cell? ⟨n, i, none⟩ = some v := by simp [World.cell?, h, hv]
theorem frozen_at {w : World} {n : Nat} {cs : Array Value} {T : TypeId} (h : w.heap[n]? = some (.cells cs T (0, 0))) (i : Nat) : w.frozen? ⟨n, i, none⟩ = false := by simp [World.frozen?, h]
theorem heap_new (w : World) (o : Obj) {n : Nat} (h : w.heap.size = n) : (w.alloc o).heap[n]? = some o := by subst h; exact Array.getElem?_push_size
theorem heap_set3 {w : World} {b i : Nat} {cs : Array Value} {T : TypeId} (h : w.heap[b]? = some (.cells cs T (0, 0))) (v : Value) : (w.setCell ⟨b, i, none⟩ v).heap[b]? = some (.cells (cs.setIfInBounds i v) T (0, 0)) := by
  have hb : b < w.heap.size := (Array.getElem?_eq_some_iff.1 h).1
  have hb' : w.heap[b] = .cells cs T (0, 0) := by have := Array.getElem?_eq_getElem hb; rw [h] at this; exact (Option.some.inj this).symm
  simp [World.setCell, Array.getElem?_modify, h]
theorem owns_kept_cell {w : World} {base : Nat} {e : TypeId} {size : Nat} {v : Value} {m : Nat} {xs : List Value} (h : w.ownsRow base e size v m xs) {a : Nat} (ha : a < base) (i : Nat) (u : Value) : (w.setCell ⟨a, i, none⟩ u).ownsRow base e size v m xs := by
  have hg : w.grownBy (w.setCell ⟨a, i, none⟩ u) (some a) := ⟨rfl, rfl, rfl, by simp [World.setCell], fun k _ hk => heap_setCell_other w ⟨a, i, none⟩ k u (fun e => hk (by rw [e]))⟩
  refine h.kept hg ?_
  rcases hb : v.ownBlock with _ | g
  · exact .inl rfl
  · refine .inr fun e => ?_
    cases e
    have := (h.lt _ hb).1
    omega
theorem owns_below {wr w3 : World} {base : Nat} {e : TypeId} {z : Nat} {v : Value} {n : Nat} {xs : List Value} (h : wr.ownsRow base e z v n xs) (B : Below wr.heap.size wr w3) : w3.ownsRow base e z v n xs := by
  refine ⟨h.1, ?_⟩
  rcases h.2 with h | ⟨g, cap, cur, h1, h2, h3, h4⟩
  · exact .inl h
  · exact .inr ⟨g, cap, cur, h1, h2, (B.block g (Array.getElem?_eq_some_iff.1 h3).1).trans h3, h4⟩
/-- A list of bytes as a string. -/
def str (l : Bs) : ByteArray := ⟨l.toArray⟩
theorem by8_str (l : Bs) : by8 (str l) = l := by simp [by8, str]
theorem str_by8 (s : ByteArray) : str (by8 s) = s := by8_ext (by8_str _)
theorem str_size (l : Bs) : (str l).size = l.length := by rw [← by8_len, by8_str]
theorem convert_row {w : World} {B : Nat} {a : Option Addr} {q : Bs} {c : Nat} (hrow : w.ownsRow B U8 1 (.slice a q.length c) q.length (bytesC q)) :
    (convert 88 9 (.slice a q.length c)).run Tryd.prog w = .ok (.string (str q)) w := by
  by_cases h0 : 0 < q.length
  · obtain ⟨g, rfl, _⟩ := owns_addr hrow h0
    exact run_convert_bytes_back (P := Tryd.prog) w 88 9 5 ⟨g, 0, none⟩ c q Tryd.underlying88 Tryd.underlying5 Tryd.underlying9
          (fun j hj => by
            have := owns_cell hrow (j := j) (u := .int .u8 (q[j].toNat : Int)) (by simp [bytesC, hj])
            rw [Addr.add_lit, Nat.zero_add]
            exact this)
  · have h1 : q = [] := List.eq_nil_of_length_eq_zero (by omega)
    subst h1
    show (convert 88 9 (.slice a 0 c)).run Tryd.prog w = .ok (.string ⟨#[]⟩) w
    rw [run_convert_bytes_string w _ _ 5 a 0 c Tryd.underlying88 Tryd.underlying5 Tryd.underlying9]
    cases a <;> simp [Conv.bytesToString] <;> rfl
end Go.Proofs.YtlkcpegjkmfngaaDoor.Lx
