/-
  What the row lays of the library's own variables.
-/
import Derived.Lib.LaidTab
import Derived.MakeChecks
import Derived.FnData
import Derived.ProofKit
import Derived.OpenShut
import Derived.Deep.DeepHandedRow
import Derived.Shelf.Vars
import Derived.Test.YtpliljcjjffipaaGreatDoorRows
namespace Go.Proofs.YtpliljcjjffipaaGreatDoor.Dq
open Go.ChangeShapes Go.WideShapes Go.ChangeAt Go.RowKit Go.Proofs.YtpliljcjjffipaaGreatDoor
set_option maxRecDepth 100000

/-- The numbers of a variable's datum. -/
def leaf0 : DataW Unit → List Value
  | .lit (.int k n) => [.int k n]
  | _ => []
def leaf1 : DataW Unit → List Value
  | .agg qs => qs.flatMap leaf0
  | d => leaf0 d
def leaf2 : DataW Unit → List Value
  | .agg qs => qs.flatMap leaf1
  | d => leaf1 d
/-- A world for the witness: the settled one, the five tables holding what their initialisers lay. -/
noncomputable def laidWorld (os : Os) : World :=
  let w0 := World.holding Tryz.prog os ⟨#[], #[], []⟩
  let put (h : Array Obj) (g : Nat) (cs : List Value) : Array Obj := h.modify g fun
    | .cells _ t frozen => .cells cs.toArray t frozen
    | o => o
  let h1 := put w0.heap 4 (leaf2 Rows.laid_math_bits_deBruijn32tab)
  let h2 := put h1 5 (leaf2 Rows.laid_math_bits_deBruijn64tab)
  let h3 := put h2 3 (leaf2 Rows.laid_internal_strconv_uint64pow10)
  let h4 := put h3 2 (leaf2 Rows.laid_unicode_utf8_acceptRanges)
  let h5 := put h4 1 (leaf2 Rows.laid_unicode_utf8_first)
  { w0 with heap := h5 }
theorem laid_met (os : Os) (args : Array Value) : laidMet Tryz.prog Rows.dataNilRow.laid ((laidWorld os).forCall (fun _ _ => 0) ⟨#[], args, []⟩).memory :=
  laidMet_of_run' 8 (by kernel_rfl) (by kernel_rfl)
end Go.Proofs.YtpliljcjjffipaaGreatDoor.Dq
