/-
  (*expansion).expand of a text without $.
-/
import Derived.Test.YtpliljcjjffipaaGreatDoorQXCtx
import Derived.Test.YtpliljcjjffipaaGreatDoorQTCut
namespace Go.Proofs.YtpliljcjjffipaaGreatDoor.Xw
open Go.RowKit Go.Proofs.YtpliljcjjffipaaGreatDoor Go.Proofs.YtpliljcjjffipaaGreatDoor.Ww Go.Proofs.YtpliljcjjffipaaGreatDoor.Tw Go.Proofs.YtpliljcjjffipaaGreatDoor.Kw Go.Proofs.YtpliljcjjffipaaGreatDoor.Jw Go.Proofs.YtpliljcjjffipaaGreatDoor.Xb
set_option maxRecDepth 100000

abbrev QT : TypeId := 237
theorem liesQ : liesAt Tryz.prog Tryz.prog.depth QT (2 / Tryz.prog.cellsOf QT) 0 BT 1 = true := by kernel_rfl
/-- A result that is made. -/
theorem res_new (w : World) : BAt (w.alloc (.cells #[.pointer none, .slice none 0 0] QT)) QT w.heap.size 0 (w.heap.size + 1) [] (.pointer none) (.slice none 0 0) #[.pointer none, .slice none 0 0] :=
  ⟨heap_last _ _, rfl, rfl, .inl rfl, World.ownsRow_nil _ _ _ _, liesQ, by decide⟩

section
variable {xb tb ab lb yb : Nat} {gv kv : Value} {X : List Nat} {L : List Jp.V}
end
end Go.Proofs.YtpliljcjjffipaaGreatDoor.Xw
