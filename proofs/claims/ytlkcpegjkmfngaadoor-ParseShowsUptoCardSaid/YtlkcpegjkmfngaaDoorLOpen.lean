/-
  lex.word: the word as far as it is read, in the heap; what its methods do.
-/
import Derived.Test.YtlkcpegjkmfngaaDoorLBase
namespace Go.Proofs.YtlkcpegjkmfngaaDoor.Lx
open Go.RowKit Go.Proofs.YtlkcpegjkmfngaaDoor
set_option maxRecDepth 100000

abbrev WT : TypeId := 106
/-- The word X lies in block b; its text behind it. -/
def WAt (w : World) (b : Nat) (X : Lp.W) : Prop :=
  ∃ a c, w.heap[b]? = some (.cells #[.slice a X.t.length c, .int .u8 (X.q.toNat : Int), .bool X.e] WT (0, 0)) ∧ w.ownsRow (b + 1) U8 1 (.slice a X.t.length c) X.t.length (bytesC X.t)
theorem WAt.lt {w : World} {b : Nat} {X : Lp.W} (h : WAt w b X) : b < w.heap.size := by
  obtain ⟨a, c, h, _⟩ := h
  exact (Array.getElem?_eq_some_iff.1 h).1

theorem open_any (w : World) (b : Nat) (X : Lp.W) (h : WAt w b X) : Calls Tryd.prog 52 #[.pointer (some ⟨b, 0, none⟩)] w fun e w' => e = .returned (.bool X.open) ∧ w = w' := by
  obtain ⟨a, c, H, hrow⟩ := h
  obtain ⟨q, e, t⟩ := X
  have q2 : w.cell? ⟨b, 2, none⟩ = some (.bool e) := cell_at H rfl
  by_cases hq : q = 0
  · subst hq
    have HX : Hid (Lp.W.open ⟨0, e, t⟩ = e) := Lib.hid (by simp [Lp.W.open])
    have q1 : w.cell? ⟨b, 1, none⟩ = some (.int .u8 0) := cell_at H rfl
    clear H hrow
    go_enter Tryd.func52, Tryd.ntmps52
    go_wp2
    go_ret
    exact ⟨by rw [HX.out]; rfl, rfl⟩
  · have hb : ((q.toNat : Int) == 0) = false := eq_false (b := 0) hq
    have hb2 : ¬ q.toNat = 0 := fun e => hq (UInt8.toNat_inj.1 e)
    have HX : Hid (Lp.W.open ⟨q, e, t⟩ = true) := Lib.hid (by simp [Lp.W.open, hq])
    have q1 : w.cell? ⟨b, 1, none⟩ = some (.int .u8 (q.toNat : Int)) := cell_at H rfl
    clear H hrow hq
    go_enter Tryd.func52, Tryd.ntmps52
    go_wp2
    go_ret
    exact ⟨by rw [HX.out]; rfl, rfl⟩

theorem token_any (w : World) (b : Nat) (X : Lp.W) (h : WAt w b X) : Calls Tryd.prog 53 #[.pointer (some ⟨b, 0, none⟩)] w fun e w' => e = .returned (.agg #[.int .i64 0, .string (str X.t)]) ∧ Below w.heap.size w w' := by
  obtain ⟨a, c, H, hrow⟩ := h
  have q0 : w.cell? ⟨b, 0, none⟩ = some (.slice a X.t.length c) := cell_at H rfl
  have hlt : b < w.heap.size := (Array.getElem?_eq_some_iff.1 H).1
  have hconv := convert_row hrow
  have hconv1 := fun o => convert_row (hrow.alloc o)
  clear H hrow
  go_enter Tryd.func53, Tryd.ntmps53
  go_wp2
  exact bodyPost_ret (v := .agg #[.int .i64 0, .string (str X.t)]) (by simp [results, Tryd.results53, go_sem]) rfl ⟨rfl, (Below.refl _ _).alloc (Nat.le_refl _) _⟩

/-- What a step of a word leaves. -/
def TakePost (w : World) (b : Nat) (X : Lp.W) (v : Ending) (e : Ending) (w' : World) : Prop := e = v ∧ WAt w' b X ∧ Below b w w'
theorem WAt.set1 {w : World} {b : Nat} {X : Lp.W} (h : WAt w b X) (q : UInt8) : WAt (w.setCell ⟨b, 1, none⟩ (.int .u8 (q.toNat : Int))) b ⟨q, X.e, X.t⟩ := by
  obtain ⟨a, c, H, hrow⟩ := h
  exact ⟨a, c, heap_set3 H _, owns_kept_cell hrow (Nat.lt_succ_self b) 1 _⟩
theorem WAt.set2 {w : World} {b : Nat} {X : Lp.W} (h : WAt w b X) (e : Bool) : WAt (w.setCell ⟨b, 2, none⟩ (.bool e)) b ⟨X.q, e, X.t⟩ := by
  obtain ⟨a, c, H, hrow⟩ := h
  exact ⟨a, c, heap_set3 H _, owns_kept_cell hrow (Nat.lt_succ_self b) 2 _⟩
theorem WAt.cells {w : World} {b : Nat} {X : Lp.W} (h : WAt w b X) : w.cell? ⟨b, 1, none⟩ = some (.int .u8 (X.q.toNat : Int)) ∧ w.cell? ⟨b, 2, none⟩ = some (.bool X.e) ∧ (∀ i, w.frozen? ⟨b, i, none⟩ = false) ∧ b < w.heap.size := by
  obtain ⟨a, c, H, hrow⟩ := h
  exact ⟨cell_at H rfl, cell_at H rfl, fun i => frozen_at H i, (Array.getElem?_eq_some_iff.1 H).1⟩
/-- The box after its text has grown. -/
structure Grew (w w' : World) (b : Nat) (qv ev old nw : Value) (m : Nat) (xs : List Value) : Prop where
  heap : (w'.setCell ⟨b, 0, none⟩ nw).heap[b]? = some (.cells #[nw, qv, ev] WT (0, 0))
  row : (w'.setCell ⟨b, 0, none⟩ nw).ownsRow (b + 1) U8 1 nw m xs
  below : Below b w (w'.setCell ⟨b, 0, none⟩ nw)
  z0 : w'.frozen? ⟨b, 0, none⟩ = false
  z2 : w'.frozen? ⟨b, 2, none⟩ = false
  lt : b < w'.heap.size
  c0 : w'.cell? ⟨b, 0, none⟩ = some old
  c2 : w'.cell? ⟨b, 2, none⟩ = some ev
theorem raw_grown {w w' : World} {b m m' : Nat} {qv ev old nw : Value} {xs ys : List Value} {o : Obj} (H : w.heap[b]? = some (.cells #[old, qv, ev] WT (0, 0)))
    (hrow : w.ownsRow (b + 1) U8 1 old m xs) (ho : w'.ownsRow (b + 1) U8 1 nw m' ys) (hg : (w.alloc o).grownBy w' old.ownBlock) : Grew w w' b qv ev old nw m' ys := by
  have hb : b < w.heap.size := (Array.getElem?_eq_some_iff.1 H).1
  have h1 := Below.heap_alloc w o b hb
  have h2 : w'.heap[b]? = (w.alloc o).heap[b]? := by
    refine hg.block b (by simp; omega) ?_
    intro e
    have := (hrow.lt b e.symm).1
    omega
  have H' := (h2.trans h1).trans H
  have hB : Below b w w' := ((Below.refl b w).alloc (by omega) o).grown hg (by simp; omega) fun j e => by have := (hrow.lt j e).1; omega
  exact ⟨heap_set3 H' _, owns_kept_cell ho (Nat.lt_succ_self b) 0 _, hB.setCell (Nat.le_refl _) _, frozen_at H' 0, frozen_at H' 2, (Array.getElem?_eq_some_iff.1 H').1, cell_at H' rfl, cell_at H' rfl⟩
theorem Grew.wat {w w' : World} {b m : Nat} {X : Lp.W} {t : Bs} {old : Value} {a : Option Addr} {c : Nat} {xs : List Value} (h : Grew w w' b (.int .u8 (X.q.toNat : Int)) (.bool X.e) old (.slice a m c) m xs) (hm : m = t.length) (hx : xs = bytesC t) :
    WAt (w'.setCell ⟨b, 0, none⟩ (.slice a m c)) b ⟨X.q, X.e, t⟩ := by
  subst hm; subst hx
  exact ⟨a, c, h.heap, h.row⟩
theorem new_at (W : World) {n : Nat} (hn : W.heap.size = n) (x : Value) (T : TypeId) : ∀ (j : Nat) (u : Value), [x][j]? = some u → (W.alloc (.cells #[x] T)).cell? ((⟨n, 0, none⟩ : Addr).add j) = some u := by
  subst hn; exact one_new W x T
end Go.Proofs.YtlkcpegjkmfngaaDoor.Lx
