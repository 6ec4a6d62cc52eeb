/-
  DERIVED. GIVEN WITH THE SEED: THE CARDS: each row of YtdckeefhncdegaaDoorRows.lean that lists a variable, with what it lists TIED to the program's text (the seventh form; the later family's looks); each row that meets fmt, with fmt's text TOLD by the authors' own Lean function (tested against real Go, not proved from fmt's source: count such statements apart). THE CARD IS WHAT COUNTS. Prove the row's statement (the work); the ties are given (YtdckeefhncdegaaDoorTie.lean); close each card by the builder's one call (the guide's Derived/Test/ToyasCard.lean, 'card_holds'). Laid BY PROGRAM, IN A SANDBOX (cutbox-door.mjs). By AI agents, Wed Nov 11 2026. No macro, syntax, notation, axiom, sorry.
-/
import Derived.Test.YtdckeefhncdegaaDoorRows
import GoSem.ClaimSeven
namespace Go.Proofs.YtdckeefhncdegaaDoor
namespace Rows

/-- THE TIED CARD OF 'flatironlaw02.GlobMatches'. -/
def globMatchesCard : Claim7 := { stood := { row := globMatchesRow, standIns := [], harness := (true, "22eef282e9deb7c1071860591246019baa5711238a8b1e57801653e57ffd4b4c"), looks := false }, kinds := [], alts := [], laidByText := true, laidKinds := [.data, .pinned], laidTests := true, laidLooks := .later }
def GlobMatchesCardSaid : Prop := Claim7.holds Tryd.pinned (.plain (OpenSpec.ofChange globMatchesSpec)) globMatchesCard

/-- THE TIED CARD OF 'flatironlaw02.GlobPaths'. -/
def globPathsCard : Claim7 := { stood := { row := globPathsRow, standIns := [], harness := (true, "22eef282e9deb7c1071860591246019baa5711238a8b1e57801653e57ffd4b4c"), looks := false }, kinds := [], alts := [], laidByText := true, laidKinds := [.data, .pinned], laidTests := true, laidLooks := .later }
def GlobPathsCardSaid : Prop := Claim7.holds Tryd.pinned (.plain (OpenSpec.ofChange globPathsSpec)) globPathsCard

/-- THE SECOND FORM's CARD OF 'flatironlaw02.GlobMatches'. -/
def globMatchesUptoCard : Claim7 := { stood := { row := globMatchesUptoRow, standIns := [], harness := (true, "22eef282e9deb7c1071860591246019baa5711238a8b1e57801653e57ffd4b4c"), looks := false }, kinds := [], alts := [], laidByText := true, laidKinds := [.data, .pinned], laidTests := true, laidLooks := .later }
def GlobMatchesUptoCardSaid : Prop := Claim7.holds Tryd.pinned (.plain (OpenSpec.upto globMatchesSpec)) globMatchesUptoCard

/-- THE SECOND FORM's CARD OF 'flatironlaw02.GlobPaths'. -/
def globPathsUptoCard : Claim7 := { stood := { row := globPathsUptoRow, standIns := [], harness := (true, "22eef282e9deb7c1071860591246019baa5711238a8b1e57801653e57ffd4b4c"), looks := false }, kinds := [], alts := [], laidByText := true, laidKinds := [.data, .pinned], laidTests := true, laidLooks := .later }
def GlobPathsUptoCardSaid : Prop := Claim7.holds Tryd.pinned (.plain (OpenSpec.upto globPathsSpec)) globPathsUptoCard
end Rows
end Go.Proofs.YtdckeefhncdegaaDoor
