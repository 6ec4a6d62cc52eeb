/-
  What the row lays of the library's own variables.
-/
import Derived.Lib.LaidTab
import Derived.MakeChecks
import Derived.FnData
import Derived.ProofKit
import Derived.OpenShut
import Derived.Deep.DeepHandedRow
import Derived.Shelf.Vars
import Derived.Test.YtgednccpjegbmaaGreatDoorRows
import Derived.Test.YtgednccpjegbmaaGreatDoorQEPBase
namespace Go.Proofs.YtgednccpjegbmaaGreatDoor.Fd
open Go.ChangeShapes Go.WideShapes Go.ChangeAt Go.RowKit Go.Proofs.YtgednccpjegbmaaGreatDoor Go.Proofs.YtgednccpjegbmaaGreatDoor.Ew
set_option maxRecDepth 100000

/-- The numbers of a variable's datum. -/
def leaf0 : DataW Unit → List Value
  | .lit (.int k n) => [.int k n]
  | _ => []
def leaf1 : DataW Unit → List Value
  | .agg qs => qs.flatMap leaf0
  | d => leaf0 d
def leaf2 : DataW Unit → List Value
  | .agg qs => qs.flatMap leaf1
  | d => leaf1 d
/-- A world for the witness: the settled one, the five tables holding what their initialisers lay. -/
noncomputable def laidWorld (os : Os) : World :=
  let w0 := World.holding Tryz.prog os ⟨#[], #[], []⟩
  let put (h : Array Obj) (g : Nat) (cs : List Value) : Array Obj := h.modify g fun
    | .cells _ t frozen => .cells cs.toArray t frozen
    | o => o
  let h1 := put w0.heap 4 (leaf2 Rows.laid_math_bits_deBruijn32tab)
  let h2 := put h1 5 (leaf2 Rows.laid_math_bits_deBruijn64tab)
  let h3 := put h2 3 (leaf2 Rows.laid_internal_strconv_uint64pow10)
  let h4 := put h3 2 (leaf2 Rows.laid_unicode_utf8_acceptRanges)
  let h5 := put h4 1 (leaf2 Rows.laid_unicode_utf8_first)
  { w0 with heap := h5 }
theorem laid_met (os : Os) (args : Array Value) : laidMet Tryz.prog Rows.findNilRow.laid ((laidWorld os).forCall (fun _ _ => 0) ⟨#[], args, []⟩).memory :=
  laidMet_of_run' 8 (by kernel_rfl) (by kernel_rfl)
theorem pow_data : (Rows.laid_internal_strconv_uint64pow10 : DataW Unit) = Lib.tabData .u64 Lib.pow10Tab := by kernel_rfl
theorem pow_tab {W : World} (h : laidMetH Tryz.prog Rows.findNilRow.laid W) : Lib.TabIs Tryz.prog W "internal/strconv.uint64pow10" .u64 Lib.pow10Tab := by
  rw [MakeChecks.laidMetH_plain _ _ _ (by kernel_rfl)] at h
  obtain ⟨ps, ⟨_, _, _, _, _, _, _, _, _, _, ⟨_, _, _, _, _, _, _, _, _, _, ⟨g', t', cs, fuel, p, q, hg', ht', hvar, hd, _, _⟩, _⟩, _⟩, _⟩ := h
  obtain rfl := Option.some.inj ((show Tryz.prog.globalNamed "internal/strconv.uint64pow10" = some 3 by kernel_rfl).symm.trans hg')
  obtain rfl := Option.some.inj ((show (Tryz.prog.globals[3]?).map (·.type) = some 351 by kernel_rfl).symm.trans ht')
  unfold Lib.TabIs
  rw [pow_data] at hd
  rw [hvar, ← Lib.cells_of_tab Tryz.underlying351 Tryz.underlying256 (by kernel_rfl) (by kernel_rfl) hd]
theorem max_cell {W : World} (h : W.ShapedOpen Tryz.prog) : ∃ m, W.cell? ⟨0, 0, none⟩ = some (.int .i64 m) :=
  Go.Proofs.cell_of_shapedOpen_int (zero := #[.int .i64 0]) (t := 3) h (of_decide_eq_true (by kernel_rfl)) (by kernel_rfl) rfl (by kernel_rfl) (by kernel_rfl) Tryz.underlying3
theorem gm_of {W : World} (hL : laidMetH Tryz.prog Rows.findNilRow.laid W) (hsh : W.ShapedOpen Tryz.prog) : Ew.GM W := by
  obtain ⟨m, hm⟩ := max_cell hsh
  refine ⟨?_, ⟨m, hm⟩, pow_tab hL⟩
  rcases Nat.lt_or_ge 0 W.heap.size with h | h
  · exact h
  · exfalso
    simp [World.cell?, Array.getElem?_eq_none h] at hm
end Go.Proofs.YtgednccpjegbmaaGreatDoor.Fd
