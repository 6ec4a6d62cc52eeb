/-
  DERIVED. GIVEN WITH THE SEED: THE CARDS: each row of YtgdpbnfgcabneaaGreatDoorRows.lean that lists a variable, with what it lists TIED to the program's text (the seventh form; the later family's looks); each row that meets fmt, with fmt's text TOLD by the authors' own Lean function (tested against real Go, not proved from fmt's source: count such statements apart). THE CARD IS WHAT COUNTS. Prove the row's statement (the work); the ties are given (YtgdpbnfgcabneaaGreatDoorTie.lean); close each card by the builder's one call (the guide's Derived/Test/ToyasCard.lean, 'card_holds'). Laid BY PROGRAM, IN A SANDBOX (cutbox-door.mjs). By AI agents, Wed Nov 11 2026. No macro, syntax, notation, axiom, sorry.
-/
import Derived.Test.YtgdpbnfgcabneaaGreatDoorRows
import GoSem.ClaimSeven
namespace Go.Proofs.YtgdpbnfgcabneaaGreatDoor
namespace Rows

/-- THE TIED CARD OF 'flatironlaw16.DataGlobs'. -/
def dataGlobsCard : Claim7 := { stood := { row := dataGlobsRow, standIns := [], harness := (true, "7e6c92c82b557a094ab5b68bec92e4f61449c042baf03c418bf711fa01b9b326"), looks := true }, kinds := [], alts := [], laidByText := true, laidKinds := [.data, .data, .data, .data, .pinned], laidTests := true, laidLooks := .later }
def DataGlobsCardSaid : Prop := Claim7.holds Tryz.pinned (.plain (OpenSpec.ofChange dataGlobsSpec)) dataGlobsCard

/-- THE TIED CARD OF 'flatironlaw17.FindNodes'. -/
def findNodesCard : Claim7 := { stood := { row := findNodesRow, standIns := [], harness := (true, "7e6c92c82b557a094ab5b68bec92e4f61449c042baf03c418bf711fa01b9b326"), looks := true }, kinds := [], alts := [], laidByText := true, laidKinds := [.data, .data, .data, .data, .pinned], laidTests := true, laidLooks := .later }
def FindNodesCardSaid : Prop := Claim7.holds Tryz.pinned (.plain (OpenSpec.ofChange findNodesSpec)) findNodesCard

/-- THE TIED CARD OF 'flatironlaw17.FindFirst'. -/
def findFirstCard : Claim7 := { stood := { row := findFirstRow, standIns := [], harness := (true, "7e6c92c82b557a094ab5b68bec92e4f61449c042baf03c418bf711fa01b9b326"), looks := true }, kinds := [], alts := [], laidByText := true, laidKinds := [.data, .data, .data, .data, .pinned], laidTests := true, laidLooks := .later }
def FindFirstCardSaid : Prop := Claim7.holds Tryz.pinned (.plain (OpenSpec.ofChange findFirstSpec)) findFirstCard

/-- THE TIED CARD OF 'flatironlaw17.FindNil'. -/
def findNilCard : Claim7 := { stood := { row := findNilRow, standIns := [], harness := (true, "7e6c92c82b557a094ab5b68bec92e4f61449c042baf03c418bf711fa01b9b326"), looks := true }, kinds := [], alts := [], laidByText := true, laidKinds := [.data, .data, .data, .data, .pinned], laidTests := true, laidLooks := .later }
def FindNilCardSaid : Prop := Claim7.holds Tryz.pinned (.plain (OpenSpec.ofChange findNilSpec)) findNilCard

/-- THE SECOND FORM's CARD OF 'flatironlaw16.DataGlobs'. -/
def dataGlobsUptoCard : Claim7 := { stood := { row := dataGlobsUptoRow, standIns := [], harness := (true, "7e6c92c82b557a094ab5b68bec92e4f61449c042baf03c418bf711fa01b9b326"), looks := true }, kinds := [], alts := [], laidByText := true, laidKinds := [.data, .data, .data, .data, .pinned], laidTests := true, laidLooks := .later }
def DataGlobsUptoCardSaid : Prop := Claim7.holds Tryz.pinned (.plain (OpenSpec.upto dataGlobsSpec)) dataGlobsUptoCard

/-- THE SECOND FORM's CARD OF 'flatironlaw17.FindNodes'. -/
def findNodesUptoCard : Claim7 := { stood := { row := findNodesUptoRow, standIns := [], harness := (true, "7e6c92c82b557a094ab5b68bec92e4f61449c042baf03c418bf711fa01b9b326"), looks := true }, kinds := [], alts := [], laidByText := true, laidKinds := [.data, .data, .data, .data, .pinned], laidTests := true, laidLooks := .later }
def FindNodesUptoCardSaid : Prop := Claim7.holds Tryz.pinned (.plain (OpenSpec.upto findNodesSpec)) findNodesUptoCard

/-- THE SECOND FORM's CARD OF 'flatironlaw17.FindFirst'. -/
def findFirstUptoCard : Claim7 := { stood := { row := findFirstUptoRow, standIns := [], harness := (true, "7e6c92c82b557a094ab5b68bec92e4f61449c042baf03c418bf711fa01b9b326"), looks := true }, kinds := [], alts := [], laidByText := true, laidKinds := [.data, .data, .data, .data, .pinned], laidTests := true, laidLooks := .later }
def FindFirstUptoCardSaid : Prop := Claim7.holds Tryz.pinned (.plain (OpenSpec.upto findFirstSpec)) findFirstUptoCard

/-- THE SECOND FORM's CARD OF 'flatironlaw17.FindNil'. -/
def findNilUptoCard : Claim7 := { stood := { row := findNilUptoRow, standIns := [], harness := (true, "7e6c92c82b557a094ab5b68bec92e4f61449c042baf03c418bf711fa01b9b326"), looks := true }, kinds := [], alts := [], laidByText := true, laidKinds := [.data, .data, .data, .data, .pinned], laidTests := true, laidLooks := .later }
def FindNilUptoCardSaid : Prop := Claim7.holds Tryz.pinned (.plain (OpenSpec.upto findNilSpec)) findNilUptoCard
end Rows
end Go.Proofs.YtgdpbnfgcabneaaGreatDoor
