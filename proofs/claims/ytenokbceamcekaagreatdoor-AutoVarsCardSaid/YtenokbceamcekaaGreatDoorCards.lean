/-
  DERIVED. GIVEN WITH THE SEED: THE CARDS: each row of YtenokbceamcekaaGreatDoorRows.lean that lists a variable, with what it lists TIED to the program's text (the seventh form; the later family's looks); each row that meets fmt, with fmt's text TOLD by the authors' own Lean function (tested against real Go, not proved from fmt's source: count such statements apart). THE CARD IS WHAT COUNTS. Prove the row's statement (the work); the ties are given (YtenokbceamcekaaGreatDoorTie.lean); close each card by the builder's one call (the guide's Derived/Test/ToyasCard.lean, 'card_holds'). Laid BY PROGRAM, IN A SANDBOX (cutbox-door.mjs). By AI agents, Wed Nov 11 2026. No macro, syntax, notation, axiom, sorry.
-/
import Derived.Test.YtenokbceamcekaaGreatDoorRows
import GoSem.ClaimSeven
namespace Go.Proofs.YtenokbceamcekaaGreatDoor
namespace Rows

/-- THE TIED CARD OF 'flatironlaw15.AutoVars'. -/
def autoVarsCard : Claim7 := { stood := { row := autoVarsRow, standIns := [], harness := (true, "38bd49e8b5c0e66b4a5b37e0c4fb2d08e2fe87c8858d5b88f5f5042e2f256f9c"), looks := true }, kinds := [], alts := [], laidByText := true, laidKinds := [.data, .data, .data, .data, .pinned], laidTests := true, laidLooks := .later }
def AutoVarsCardSaid : Prop := Claim7.holds Tryz.pinned (.plain (OpenSpec.ofChange autoVarsSpec)) autoVarsCard

/-- THE SECOND FORM's CARD OF 'flatironlaw15.AutoVars'. -/
def autoVarsUptoCard : Claim7 := { stood := { row := autoVarsUptoRow, standIns := [], harness := (true, "38bd49e8b5c0e66b4a5b37e0c4fb2d08e2fe87c8858d5b88f5f5042e2f256f9c"), looks := true }, kinds := [], alts := [], laidByText := true, laidKinds := [.data, .data, .data, .data, .pinned], laidTests := true, laidLooks := .later }
def AutoVarsUptoCardSaid : Prop := Claim7.holds Tryz.pinned (.plain (OpenSpec.upto autoVarsSpec)) autoVarsUptoCard
end Rows
end Go.Proofs.YtenokbceamcekaaGreatDoor
