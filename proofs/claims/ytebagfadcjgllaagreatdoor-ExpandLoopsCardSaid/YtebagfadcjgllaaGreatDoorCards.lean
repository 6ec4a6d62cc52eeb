/-
  DERIVED. GIVEN WITH THE SEED: THE CARDS: each row of YtebagfadcjgllaaGreatDoorRows.lean that lists a variable, with what it lists TIED to the program's text (the seventh form; the later family's looks); each row that meets fmt, with fmt's text TOLD by the authors' own Lean function (tested against real Go, not proved from fmt's source: count such statements apart). THE CARD IS WHAT COUNTS. Prove the row's statement (the work); the ties are given (YtebagfadcjgllaaGreatDoorTie.lean); close each card by the builder's one call (the guide's Derived/Test/ToyasCard.lean, 'card_holds'). Laid BY PROGRAM, IN A SANDBOX (cutbox-door.mjs). By AI agents, Wed Nov 11 2026. No macro, syntax, notation, axiom, sorry.
-/
import Derived.Test.YtebagfadcjgllaaGreatDoorRows
import GoSem.ClaimSeven
namespace Go.Proofs.YtebagfadcjgllaaGreatDoor
namespace Rows

/-- THE TIED CARD OF 'flatironlaw14.ExpandLoops'. -/
def expandLoopsCard : Claim7 := { stood := { row := expandLoopsRow, standIns := [], harness := (true, "4833c78473490dbc1cd3e318974286ef064225d518cb3d69ea91ab26d7cdc4b8"), looks := true }, kinds := [], alts := [], laidByText := true, laidKinds := [.data, .data, .data, .data, .pinned], laidTests := true, laidLooks := .later }
def ExpandLoopsCardSaid : Prop := Claim7.holds Tryz.pinned (.plain (OpenSpec.ofChange expandLoopsSpec)) expandLoopsCard

/-- THE SECOND FORM's CARD OF 'flatironlaw14.ExpandLoops'. -/
def expandLoopsUptoCard : Claim7 := { stood := { row := expandLoopsUptoRow, standIns := [], harness := (true, "4833c78473490dbc1cd3e318974286ef064225d518cb3d69ea91ab26d7cdc4b8"), looks := true }, kinds := [], alts := [], laidByText := true, laidKinds := [.data, .data, .data, .data, .pinned], laidTests := true, laidLooks := .later }
def ExpandLoopsUptoCardSaid : Prop := Claim7.holds Tryz.pinned (.plain (OpenSpec.upto expandLoopsSpec)) expandLoopsUptoCard
end Rows
end Go.Proofs.YtebagfadcjgllaaGreatDoor
