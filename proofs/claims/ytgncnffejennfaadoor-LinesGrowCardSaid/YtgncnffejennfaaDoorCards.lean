/-
  DERIVED. GIVEN WITH THE SEED: THE CARDS: each row of YtgncnffejennfaaDoorRows.lean that lists a variable, with what it lists TIED to the program's text (the seventh form; the later family's looks); each row that meets fmt, with fmt's text TOLD by the authors' own Lean function (tested against real Go, not proved from fmt's source: count such statements apart). THE CARD IS WHAT COUNTS. Prove the row's statement (the work); the ties are given (YtgncnffejennfaaDoorTie.lean); close each card by the builder's one call (the guide's Derived/Test/ToyasCard.lean, 'card_holds'). Laid BY PROGRAM, IN A SANDBOX (cutbox-door.mjs). By AI agents, Wed Nov 11 2026. No macro, syntax, notation, axiom, sorry.
-/
import Derived.Test.YtgncnffejennfaaDoorRows
import GoSem.ClaimSeven
namespace Go.Proofs.YtgncnffejennfaaDoor
namespace Rows

/-- THE TIED CARD OF 'flatironlaw08.LinesOf'. -/
def linesOfCard : Claim7 := { stood := { row := linesOfRow, standIns := [], harness := (true, "fcc2495b09900e220ddd48b72f1b5b432280a08df5449b2795c2ddc342eeb997"), looks := false }, kinds := [], alts := [], laidByText := true, laidKinds := [.data, .pinned], laidTests := true, laidLooks := .later }
def LinesOfCardSaid : Prop := Claim7.holds Tryd.pinned (.plain (OpenSpec.ofChange linesOfSpec)) linesOfCard

/-- THE TIED CARD OF 'flatironlaw08.LinesGrow'. -/
def linesGrowCard : Claim7 := { stood := { row := linesGrowRow, standIns := [], harness := (true, "fcc2495b09900e220ddd48b72f1b5b432280a08df5449b2795c2ddc342eeb997"), looks := false }, kinds := [], alts := [], laidByText := true, laidKinds := [.data, .pinned], laidTests := true, laidLooks := .later }
def LinesGrowCardSaid : Prop := Claim7.holds Tryd.pinned (.plain (OpenSpec.ofChange linesGrowSpec)) linesGrowCard

/-- THE SECOND FORM's CARD OF 'flatironlaw08.LinesOf'. -/
def linesOfUptoCard : Claim7 := { stood := { row := linesOfUptoRow, standIns := [], harness := (true, "fcc2495b09900e220ddd48b72f1b5b432280a08df5449b2795c2ddc342eeb997"), looks := false }, kinds := [], alts := [], laidByText := true, laidKinds := [.data, .pinned], laidTests := true, laidLooks := .later }
def LinesOfUptoCardSaid : Prop := Claim7.holds Tryd.pinned (.plain (OpenSpec.upto linesOfSpec)) linesOfUptoCard

/-- THE SECOND FORM's CARD OF 'flatironlaw08.LinesGrow'. -/
def linesGrowUptoCard : Claim7 := { stood := { row := linesGrowUptoRow, standIns := [], harness := (true, "fcc2495b09900e220ddd48b72f1b5b432280a08df5449b2795c2ddc342eeb997"), looks := false }, kinds := [], alts := [], laidByText := true, laidKinds := [.data, .pinned], laidTests := true, laidLooks := .later }
def LinesGrowUptoCardSaid : Prop := Claim7.holds Tryd.pinned (.plain (OpenSpec.upto linesGrowSpec)) linesGrowUptoCard
end Rows
end Go.Proofs.YtgncnffejennfaaDoor
