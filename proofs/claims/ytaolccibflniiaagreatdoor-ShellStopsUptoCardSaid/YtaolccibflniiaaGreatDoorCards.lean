/-
  DERIVED. GIVEN WITH THE SEED: THE CARDS: each row of YtaolccibflniiaaGreatDoorRows.lean that lists a variable, with what it lists TIED to the program's text (the seventh form; the later family's looks); each row that meets fmt, with fmt's text TOLD by the authors' own Lean function (tested against real Go, not proved from fmt's source: count such statements apart). THE CARD IS WHAT COUNTS. Prove the row's statement (the work); the ties are given (YtaolccibflniiaaGreatDoorTie.lean); close each card by the builder's one call (the guide's Derived/Test/ToyasCard.lean, 'card_holds'). Laid BY PROGRAM, IN A SANDBOX (cutbox-door.mjs). By AI agents, Wed Nov 11 2026. No macro, syntax, notation, axiom, sorry.
-/
import Derived.Test.YtaolccibflniiaaGreatDoorRows
import GoSem.ClaimSeven
namespace Go.Proofs.YtaolccibflniiaaGreatDoor
namespace Rows

/-- THE TIED CARD OF 'flatironlaw07.ShellRuns'. -/
def shellRunsCard : Claim7 := { stood := { row := shellRunsRow, standIns := [], harness := (true, "421ede805913877d57a332c06dddab4d8d102f3a8aec12ded9a99f15c67889c0"), looks := true }, kinds := [], alts := [], laidByText := true, laidKinds := [.data, .data, .pinned], laidTests := true, laidLooks := .later }
def ShellRunsCardSaid : Prop := Claim7.holds Tryz.pinned (.plain (OpenSpec.ofChange shellRunsSpec)) shellRunsCard

/-- THE TIED CARD OF 'flatironlaw07.ShellStops'. -/
def shellStopsCard : Claim7 := { stood := { row := shellStopsRow, standIns := [], harness := (true, "421ede805913877d57a332c06dddab4d8d102f3a8aec12ded9a99f15c67889c0"), looks := true }, kinds := [], alts := [], laidByText := true, laidKinds := [.data, .data, .pinned], laidTests := true, laidLooks := .later }
def ShellStopsCardSaid : Prop := Claim7.holds Tryz.pinned (.plain (OpenSpec.ofChange shellStopsSpec)) shellStopsCard

/-- THE TIED CARD OF 'flatironlaw07.ShellArgs'. -/
def shellArgsCard : Claim7 := { stood := { row := shellArgsRow, standIns := [], harness := (true, "421ede805913877d57a332c06dddab4d8d102f3a8aec12ded9a99f15c67889c0"), looks := true }, kinds := [], alts := [], laidByText := true, laidKinds := [.data, .data, .pinned], laidTests := true, laidLooks := .later }
def ShellArgsCardSaid : Prop := Claim7.holds Tryz.pinned (.plain (OpenSpec.ofChange shellArgsSpec)) shellArgsCard

/-- THE SECOND FORM's CARD OF 'flatironlaw07.ShellRuns'. -/
def shellRunsUptoCard : Claim7 := { stood := { row := shellRunsUptoRow, standIns := [], harness := (true, "421ede805913877d57a332c06dddab4d8d102f3a8aec12ded9a99f15c67889c0"), looks := true }, kinds := [], alts := [], laidByText := true, laidKinds := [.data, .data, .pinned], laidTests := true, laidLooks := .later }
def ShellRunsUptoCardSaid : Prop := Claim7.holds Tryz.pinned (.plain (OpenSpec.upto shellRunsSpec)) shellRunsUptoCard

/-- THE SECOND FORM's CARD OF 'flatironlaw07.ShellStops'. -/
def shellStopsUptoCard : Claim7 := { stood := { row := shellStopsUptoRow, standIns := [], harness := (true, "421ede805913877d57a332c06dddab4d8d102f3a8aec12ded9a99f15c67889c0"), looks := true }, kinds := [], alts := [], laidByText := true, laidKinds := [.data, .data, .pinned], laidTests := true, laidLooks := .later }
def ShellStopsUptoCardSaid : Prop := Claim7.holds Tryz.pinned (.plain (OpenSpec.upto shellStopsSpec)) shellStopsUptoCard

/-- THE SECOND FORM's CARD OF 'flatironlaw07.ShellArgs'. -/
def shellArgsUptoCard : Claim7 := { stood := { row := shellArgsUptoRow, standIns := [], harness := (true, "421ede805913877d57a332c06dddab4d8d102f3a8aec12ded9a99f15c67889c0"), looks := true }, kinds := [], alts := [], laidByText := true, laidKinds := [.data, .data, .pinned], laidTests := true, laidLooks := .later }
def ShellArgsUptoCardSaid : Prop := Claim7.holds Tryz.pinned (.plain (OpenSpec.upto shellArgsSpec)) shellArgsUptoCard
end Rows
end Go.Proofs.YtaolccibflniiaaGreatDoor
