/-
  A fresh cell.
-/
import Derived.Test.YtebagfadcjgllaaGreatDoorWBase
namespace Go.Proofs.YtebagfadcjgllaaGreatDoor.Ww
open Go.RowKit Go.Proofs.YtebagfadcjgllaaGreatDoor
set_option maxRecDepth 100000

theorem one_new (wr : World) (x : Value) (T : TypeId) : ∀ (j : Nat) (u : Value), [x][j]? = some u → (wr.alloc (.cells #[x] T)).cell? ((⟨wr.heap.size, 0, none⟩ : Addr).add j) = some u := by
  intro j u hj
  rw [Addr.add_lit, World.cell?_alloc_at _ _ _ _ (by simp)]
  match j, hj with
  | 0, hj => simpa using hj
end Go.Proofs.YtebagfadcjgllaaGreatDoor.Ww
