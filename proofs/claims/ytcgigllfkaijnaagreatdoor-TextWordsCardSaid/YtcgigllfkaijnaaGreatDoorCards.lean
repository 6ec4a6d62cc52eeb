/-
  DERIVED. GIVEN WITH THE SEED: THE CARDS: each row of YtcgigllfkaijnaaGreatDoorRows.lean that lists a variable, with what it lists TIED to the program's text (the seventh form; the later family's looks); each row that meets fmt, with fmt's text TOLD by the authors' own Lean function (tested against real Go, not proved from fmt's source: count such statements apart). THE CARD IS WHAT COUNTS. Prove the row's statement (the work); the ties are given (YtcgigllfkaijnaaGreatDoorTie.lean); close each card by the builder's one call (the guide's Derived/Test/ToyasCard.lean, 'card_holds'). Laid BY PROGRAM, IN A SANDBOX (cutbox-door.mjs). By AI agents, Wed Nov 11 2026. No macro, syntax, notation, axiom, sorry.
-/
import Derived.Test.YtcgigllfkaijnaaGreatDoorRows
import GoSem.ClaimSeven
namespace Go.Proofs.YtcgigllfkaijnaaGreatDoor
namespace Rows

/-- THE TIED CARD OF 'flatironlaw13.TextCalls'. -/
def textCallsCard : Claim7 := { stood := { row := textCallsRow, standIns := [], harness := (true, "4ca2a465aa980f9238c02ebd0f70ffa5ebde05774307b2ceb7489acd3d0407f5"), looks := false }, kinds := [], alts := [], laidByText := true, laidKinds := [.data, .data, .data, .data, .pinned], laidTests := true, laidLooks := .later }
def TextCallsCardSaid : Prop := Claim7.holds Tryz.pinned (.plain (OpenSpec.ofChange textCallsSpec)) textCallsCard

/-- THE TIED CARD OF 'flatironlaw13.TextAll'. -/
def textAllCard : Claim7 := { stood := { row := textAllRow, standIns := [], harness := (true, "4ca2a465aa980f9238c02ebd0f70ffa5ebde05774307b2ceb7489acd3d0407f5"), looks := false }, kinds := [], alts := [], laidByText := true, laidKinds := [.data, .data, .data, .data, .pinned], laidTests := true, laidLooks := .later }
def TextAllCardSaid : Prop := Claim7.holds Tryz.pinned (.plain (OpenSpec.ofChange textAllSpec)) textAllCard

/-- THE TIED CARD OF 'flatironlaw13.TextWords'. -/
def textWordsCard : Claim7 := { stood := { row := textWordsRow, standIns := [], harness := (true, "4ca2a465aa980f9238c02ebd0f70ffa5ebde05774307b2ceb7489acd3d0407f5"), looks := false }, kinds := [], alts := [], laidByText := true, laidKinds := [.data, .data, .data, .data, .pinned], laidTests := true, laidLooks := .later }
def TextWordsCardSaid : Prop := Claim7.holds Tryz.pinned (.plain (OpenSpec.ofChange textWordsSpec)) textWordsCard

/-- THE SECOND FORM's CARD OF 'flatironlaw13.TextCalls'. -/
def textCallsUptoCard : Claim7 := { stood := { row := textCallsUptoRow, standIns := [], harness := (true, "4ca2a465aa980f9238c02ebd0f70ffa5ebde05774307b2ceb7489acd3d0407f5"), looks := false }, kinds := [], alts := [], laidByText := true, laidKinds := [.data, .data, .data, .data, .pinned], laidTests := true, laidLooks := .later }
def TextCallsUptoCardSaid : Prop := Claim7.holds Tryz.pinned (.plain (OpenSpec.upto textCallsSpec)) textCallsUptoCard

/-- THE SECOND FORM's CARD OF 'flatironlaw13.TextAll'. -/
def textAllUptoCard : Claim7 := { stood := { row := textAllUptoRow, standIns := [], harness := (true, "4ca2a465aa980f9238c02ebd0f70ffa5ebde05774307b2ceb7489acd3d0407f5"), looks := false }, kinds := [], alts := [], laidByText := true, laidKinds := [.data, .data, .data, .data, .pinned], laidTests := true, laidLooks := .later }
def TextAllUptoCardSaid : Prop := Claim7.holds Tryz.pinned (.plain (OpenSpec.upto textAllSpec)) textAllUptoCard

/-- THE SECOND FORM's CARD OF 'flatironlaw13.TextWords'. -/
def textWordsUptoCard : Claim7 := { stood := { row := textWordsUptoRow, standIns := [], harness := (true, "4ca2a465aa980f9238c02ebd0f70ffa5ebde05774307b2ceb7489acd3d0407f5"), looks := false }, kinds := [], alts := [], laidByText := true, laidKinds := [.data, .data, .data, .data, .pinned], laidTests := true, laidLooks := .later }
def TextWordsUptoCardSaid : Prop := Claim7.holds Tryz.pinned (.plain (OpenSpec.upto textWordsSpec)) textWordsUptoCard
end Rows
end Go.Proofs.YtcgigllfkaijnaaGreatDoor
