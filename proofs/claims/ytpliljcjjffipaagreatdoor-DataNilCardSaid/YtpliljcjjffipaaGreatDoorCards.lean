/-
  DERIVED. GIVEN WITH THE SEED: THE CARDS: each row of YtpliljcjjffipaaGreatDoorRows.lean that lists a variable, with what it lists TIED to the program's text (the seventh form; the later family's looks); each row that meets fmt, with fmt's text TOLD by the authors' own Lean function (tested against real Go, not proved from fmt's source: count such statements apart). THE CARD IS WHAT COUNTS. Prove the row's statement (the work); the ties are given (YtpliljcjjffipaaGreatDoorTie.lean); close each card by the builder's one call (the guide's Derived/Test/ToyasCard.lean, 'card_holds'). Laid BY PROGRAM, IN A SANDBOX (cutbox-door.mjs). By AI agents, Wed Nov 11 2026. No macro, syntax, notation, axiom, sorry.
-/
import Derived.Test.YtpliljcjjffipaaGreatDoorRows
import GoSem.ClaimSeven
namespace Go.Proofs.YtpliljcjjffipaaGreatDoor
namespace Rows

/-- THE TIED CARD OF 'flatironlaw16.DataGlobs'. -/
def dataGlobsCard : Claim7 := { stood := { row := dataGlobsRow, standIns := [], harness := (true, "ecf0eda9fc46c1d9bce1f5910eb0c08718150c800e9c28bc02a90ac37b3c6093"), looks := true }, kinds := [], alts := [], laidByText := true, laidKinds := [.data, .data, .data, .data, .pinned], laidTests := true, laidLooks := .later }
def DataGlobsCardSaid : Prop := Claim7.holds Tryz.pinned (.plain (OpenSpec.ofChange dataGlobsSpec)) dataGlobsCard

/-- THE TIED CARD OF 'flatironlaw16.DataNil'. -/
def dataNilCard : Claim7 := { stood := { row := dataNilRow, standIns := [], harness := (true, "ecf0eda9fc46c1d9bce1f5910eb0c08718150c800e9c28bc02a90ac37b3c6093"), looks := true }, kinds := [], alts := [], laidByText := true, laidKinds := [.data, .data, .data, .data, .pinned], laidTests := true, laidLooks := .later }
def DataNilCardSaid : Prop := Claim7.holds Tryz.pinned (.plain (OpenSpec.ofChange dataNilSpec)) dataNilCard

/-- THE SECOND FORM's CARD OF 'flatironlaw16.DataGlobs'. -/
def dataGlobsUptoCard : Claim7 := { stood := { row := dataGlobsUptoRow, standIns := [], harness := (true, "ecf0eda9fc46c1d9bce1f5910eb0c08718150c800e9c28bc02a90ac37b3c6093"), looks := true }, kinds := [], alts := [], laidByText := true, laidKinds := [.data, .data, .data, .data, .pinned], laidTests := true, laidLooks := .later }
def DataGlobsUptoCardSaid : Prop := Claim7.holds Tryz.pinned (.plain (OpenSpec.upto dataGlobsSpec)) dataGlobsUptoCard

/-- THE SECOND FORM's CARD OF 'flatironlaw16.DataNil'. -/
def dataNilUptoCard : Claim7 := { stood := { row := dataNilUptoRow, standIns := [], harness := (true, "ecf0eda9fc46c1d9bce1f5910eb0c08718150c800e9c28bc02a90ac37b3c6093"), looks := true }, kinds := [], alts := [], laidByText := true, laidKinds := [.data, .data, .data, .data, .pinned], laidTests := true, laidLooks := .later }
def DataNilUptoCardSaid : Prop := Claim7.holds Tryz.pinned (.plain (OpenSpec.upto dataNilSpec)) dataNilUptoCard
end Rows
end Go.Proofs.YtpliljcjjffipaaGreatDoor
