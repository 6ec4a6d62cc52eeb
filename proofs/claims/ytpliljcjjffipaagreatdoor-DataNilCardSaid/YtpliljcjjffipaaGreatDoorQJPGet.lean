/-
  flatironref11: Get, Right, Has, without.
  flatironref11: Right, Has, without.
  vars.New, (*Table).Get, wrong.
-/
import Derived.Test.YtpliljcjjffipaaGreatDoorQJBase
import Derived.Test.YtpliljcjjffipaaGreatDoorQJTab
namespace Go.Proofs.YtpliljcjjffipaaGreatDoor.Jw
open Go.RowKit Go.Proofs.YtpliljcjjffipaaGreatDoor Go.Proofs.YtpliljcjjffipaaGreatDoor.Ww Go.Proofs.YtpliljcjjffipaaGreatDoor.Tw
set_option maxRecDepth 100000

def zeroV : Array Value := #[.string ⟨#[]⟩, .string ⟨#[]⟩, .bool false, .int .i64 0]
/-- What Get returns. -/
def gV (o : Option Jp.V) : Ending := match o with | none => .returned (.tuple #[.agg zeroV, .bool false]) | some v => .returned (.tuple #[.agg (vA v), .bool true])
def GRel (w : World) (vl : Value) (l : List Jp.V) (k : Bs) (vi : Value) (wr : World) : Prop :=
  ∃ i : Nat, vi = .int .i64 i ∧ i ≤ l.length ∧ wr.cell? ⟨w.heap.size, 0, none⟩ = some vl ∧ wr.heap[w.heap.size + 1]? = some (.cells zeroV VT (0, 0)) ∧ Below w.heap.size w wr ∧ Jp.getA l k = Jp.getA (l.drop i) k
end Go.Proofs.YtpliljcjjffipaaGreatDoor.Jw
namespace Go.Proofs.YtpliljcjjffipaaGreatDoor.Jw
open Go.RowKit Go.Proofs.YtpliljcjjffipaaGreatDoor Go.Proofs.YtpliljcjjffipaaGreatDoor.Ww Go.Proofs.YtpliljcjjffipaaGreatDoor.Tw
set_option maxRecDepth 100000

end Go.Proofs.YtpliljcjjffipaaGreatDoor.Jw
namespace Go.Proofs.YtpliljcjjffipaaGreatDoor.Jw
open Go.RowKit Go.Proofs.YtpliljcjjffipaaGreatDoor Go.Proofs.YtpliljcjjffipaaGreatDoor.Ww Go.Proofs.YtpliljcjjffipaaGreatDoor.Tw Go.Proofs.YtpliljcjjffipaaGreatDoor.Kw
set_option maxRecDepth 100000

theorem Grown.nil (w : World) (O : Bs → List Nat) : Grown w [] O := ⟨fun e h => (by cases h), fun e h => (by cases h)⟩
theorem PNew_any (w : World) : Calls Tryz.prog 23 #[] w fun e w' => e = .returned (.pointer (some ⟨w.heap.size, 0, none⟩)) ∧ Tab w' w.heap.size [w.heap.size] [] [] false ∧ Below w.heap.size w w' := by
  have hb := heap_last w (.cells #[.map none, .map none, .bool false] PT)
  have hB := (Below.refl w.heap.size w).alloc (Nat.le_refl _) (.cells #[.map none, .map none, .bool false] PT)
  have HB := Lib.hid hb
  clear hb
  go_enter Tryz.func23, Tryz.ntmps23
  go_wp2
  go_ret
  refine ⟨rfl, ⟨[], none, none, fun _ => [], ⟨HB.out, rfl, rfl, fun b h => (by cases h), fun e h => (by cases h), Grown.nil _ _, by simp, fun b h => (by cases h), fun b h => (by cases h), fun e h => (by cases h)⟩, rfl⟩, hB⟩

end Go.Proofs.YtpliljcjjffipaaGreatDoor.Jw
