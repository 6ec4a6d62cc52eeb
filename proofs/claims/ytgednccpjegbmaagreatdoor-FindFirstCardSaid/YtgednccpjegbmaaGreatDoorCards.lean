/-
  DERIVED. GIVEN WITH THE SEED: THE CARDS: each row of YtgednccpjegbmaaGreatDoorRows.lean that lists a variable, with what it lists TIED to the program's text (the seventh form; the later family's looks); each row that meets fmt, with fmt's text TOLD by the authors' own Lean function (tested against real Go, not proved from fmt's source: count such statements apart). THE CARD IS WHAT COUNTS. Prove the row's statement (the work); the ties are given (YtgednccpjegbmaaGreatDoorTie.lean); close each card by the builder's one call (the guide's Derived/Test/ToyasCard.lean, 'card_holds'). Laid BY PROGRAM, IN A SANDBOX (cutbox-door.mjs). By AI agents, Wed Nov 11 2026. No macro, syntax, notation, axiom, sorry.
-/
import Derived.Test.YtgednccpjegbmaaGreatDoorRows
import GoSem.ClaimSeven
namespace Go.Proofs.YtgednccpjegbmaaGreatDoor
namespace Rows

/-- THE TIED CARD OF 'flatironlaw17.FindFirst'. -/
def findFirstCard : Claim7 := { stood := { row := findFirstRow, standIns := [], harness := (true, "ac3b946be892272d8f398d68fe5c00bca9a4389b55e7ce68fdd3222043cd7f8f"), looks := true }, kinds := [], alts := [], laidByText := true, laidKinds := [.data, .data, .data, .data, .pinned], laidTests := true, laidLooks := .later }
def FindFirstCardSaid : Prop := Claim7.holds Tryz.pinned (.plain (OpenSpec.ofChange findFirstSpec)) findFirstCard

/-- THE TIED CARD OF 'flatironlaw17.FindNil'. -/
def findNilCard : Claim7 := { stood := { row := findNilRow, standIns := [], harness := (true, "ac3b946be892272d8f398d68fe5c00bca9a4389b55e7ce68fdd3222043cd7f8f"), looks := true }, kinds := [], alts := [], laidByText := true, laidKinds := [.data, .data, .data, .data, .pinned], laidTests := true, laidLooks := .later }
def FindNilCardSaid : Prop := Claim7.holds Tryz.pinned (.plain (OpenSpec.ofChange findNilSpec)) findNilCard

/-- THE SECOND FORM's CARD OF 'flatironlaw17.FindFirst'. -/
def findFirstUptoCard : Claim7 := { stood := { row := findFirstUptoRow, standIns := [], harness := (true, "ac3b946be892272d8f398d68fe5c00bca9a4389b55e7ce68fdd3222043cd7f8f"), looks := true }, kinds := [], alts := [], laidByText := true, laidKinds := [.data, .data, .data, .data, .pinned], laidTests := true, laidLooks := .later }
def FindFirstUptoCardSaid : Prop := Claim7.holds Tryz.pinned (.plain (OpenSpec.upto findFirstSpec)) findFirstUptoCard

/-- THE SECOND FORM's CARD OF 'flatironlaw17.FindNil'. -/
def findNilUptoCard : Claim7 := { stood := { row := findNilUptoRow, standIns := [], harness := (true, "ac3b946be892272d8f398d68fe5c00bca9a4389b55e7ce68fdd3222043cd7f8f"), looks := true }, kinds := [], alts := [], laidByText := true, laidKinds := [.data, .data, .data, .data, .pinned], laidTests := true, laidLooks := .later }
def FindNilUptoCardSaid : Prop := Claim7.holds Tryz.pinned (.plain (OpenSpec.upto findNilSpec)) findNilUptoCard
end Rows
end Go.Proofs.YtgednccpjegbmaaGreatDoor
