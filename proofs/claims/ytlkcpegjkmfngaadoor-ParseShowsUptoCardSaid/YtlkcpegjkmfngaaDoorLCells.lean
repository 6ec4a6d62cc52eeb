/-
  Tokens as cells.
-/
import Derived.Test.YtlkcpegjkmfngaaDoorLBase
namespace Go.Proofs.YtlkcpegjkmfngaaDoor.Lx
open Go.RowKit Go.Proofs.YtlkcpegjkmfngaaDoor
set_option maxRecDepth 100000

abbrev TT : TypeId := 63
theorem infoT : (Tryd.prog.info? TT).map (fun i => (i.zero, i.size, i.bytes)) = some (some (.agg #[.int .i64 0, .string ByteArray.empty]), 2, 24) := by kernel_rfl
/-- A token as its two cells. -/
def tC (x : Lp.T) : List Value := [.int .i64 x.k, .string (str x.t)]
def tsC (l : List Lp.T) : List Value := l.flatMap tC
theorem tsC_snoc (l : List Lp.T) (x : Lp.T) : tsC (l ++ [x]) = tsC l ++ tC x := by simp [tsC]
theorem tsC_len (l : List Lp.T) : (tsC l).length = l.length * 2 := by
  induction l with
  | nil => rfl
  | cons x r ih => show (tC x ++ tsC r).length = _; rw [List.length_append, ih]; show 2 + _ = _; simp; omega
theorem tsC_get {l : List Lp.T} {k : Nat} (h : k < l.length) : (tsC l)[k * 2]? = some (.int .i64 l[k].k) ∧ (tsC l)[k * 2 + 1]? = some (.string (str l[k].t)) := by
  induction l generalizing k with
  | nil => cases h
  | cons x r ih =>
    cases k with
    | zero => exact ⟨rfl, rfl⟩
    | succ k =>
      have := ih (k := k) (by simpa using h)
      show (tC x ++ tsC r)[(k + 1) * 2]? = _ ∧ (tC x ++ tsC r)[(k + 1) * 2 + 1]? = _
      rw [List.getElem?_append_right (by show 2 ≤ _; omega), List.getElem?_append_right (by show 2 ≤ _; omega)]
      have e1 : (k + 1) * 2 - (tC x).length = k * 2 := by show (k + 1) * 2 - 2 = _; omega
      have e2 : (k + 1) * 2 + 1 - (tC x).length = k * 2 + 1 := by show (k + 1) * 2 + 1 - 2 = _; omega
      rw [e1, e2]
      exact this
theorem two_at (W : World) {n : Nat} (hn : W.heap.size = n) (x y : Value) (T : TypeId) : ∀ (j : Nat) (u : Value), [x, y][j]? = some u → (W.alloc (.cells #[x, y] T)).cell? ((⟨n, 0, none⟩ : Addr).add j) = some u := by
  subst hn
  intro j u hj
  rw [Addr.add_lit, World.cell?_alloc_at _ _ _ _ (by simp)]
  match j, hj with
  | 0, hj => simpa using hj
  | 1, hj => simpa using hj
end Go.Proofs.YtlkcpegjkmfngaaDoor.Lx
