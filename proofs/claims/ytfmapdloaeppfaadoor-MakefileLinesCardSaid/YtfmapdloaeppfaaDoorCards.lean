/-
  DERIVED. GIVEN WITH THE SEED: THE CARDS: each row of YtfmapdloaeppfaaDoorRows.lean that lists a variable, with what it lists TIED to the program's text (the seventh form; the later family's looks); each row that meets fmt, with fmt's text TOLD by the authors' own Lean function (tested against real Go, not proved from fmt's source: count such statements apart). THE CARD IS WHAT COUNTS. Prove the row's statement (the work); the ties are given (YtfmapdloaeppfaaDoorTie.lean); close each card by the builder's one call (the guide's Derived/Test/ToyasCard.lean, 'card_holds'). Laid BY PROGRAM, IN A SANDBOX (cutbox-door.mjs). By AI agents, Wed Nov 11 2026. No macro, syntax, notation, axiom, sorry.
-/
import Derived.Test.YtfmapdloaeppfaaDoorRows
import GoSem.ClaimSeven
namespace Go.Proofs.YtfmapdloaeppfaaDoor
namespace Rows

/-- THE TIED CARD OF 'flatironlaw09.MakefileLines'. -/
def makefileLinesCard : Claim7 := { stood := { row := makefileLinesRow, standIns := [], harness := (true, "ba36baa7be35a536dc6700c60321e695a9e89206dc18528abc4b4d217d008974"), looks := false }, kinds := [], alts := [], laidByText := true, laidKinds := [.data, .pinned], laidTests := true, laidLooks := .later }
def MakefileLinesCardSaid : Prop := Claim7.holds Tryd.pinned (.plain (OpenSpec.ofChange makefileLinesSpec)) makefileLinesCard

/-- THE SECOND FORM's CARD OF 'flatironlaw09.MakefileLines'. -/
def makefileLinesUptoCard : Claim7 := { stood := { row := makefileLinesUptoRow, standIns := [], harness := (true, "ba36baa7be35a536dc6700c60321e695a9e89206dc18528abc4b4d217d008974"), looks := false }, kinds := [], alts := [], laidByText := true, laidKinds := [.data, .pinned], laidTests := true, laidLooks := .later }
def MakefileLinesUptoCardSaid : Prop := Claim7.holds Tryd.pinned (.plain (OpenSpec.upto makefileLinesSpec)) makefileLinesUptoCard
end Rows
end Go.Proofs.YtfmapdloaeppfaaDoor
