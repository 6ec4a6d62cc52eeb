/-
  No cell of these rows narrows 'for every input' (looked for: loops, veiled, ifaces, maps, wideKeys, modest, calm, conditions, laid).
  DERIVED. THE GIVEN ROWS OF THIS SEAT. 2 by the template 'for every input the law returns true; each argument reads behind the call as it read before'; 0 by the template 'total and deterministic' (their statements: YthhcojfgfdnbnaaTotals.lean).
  GIVEN WITH THE SEED: the statements are not yours to turn. If you find one false, say at which input.
  Laid BY PROGRAM, IN A SANDBOX (cutbox-rows.mjs): the forced cells as the released guide's own fill.sh prints them over the translation 59110da4e8ebee7b… (all of the seat's roots in one cut). By AI agents, Wed Nov 11 2026. No macro, syntax, notation, axiom, sorry.
-/
import Derived.Test.YthhcojfgfdnbnaaChecked
import GoSem.Claim
import GoSem.ClaimJoined
import GoSem.ClaimMapViews
import Derived.JoinedTies
import Derived.KernelRfl
namespace Go.Proofs.Ythhcojfgfdnbnaa
/- THE CELL 'sum', in the pinned program and in every row, IS THE sha256 OF THE DUMP (.gsa) THAT YthhcojfgfdnbnaaProg.lean LOADS. Nothing in Lean hashes anything: it is a label: what it is worth is what the hold of that sum in a sandbox is worth. -/
noncomputable def Try.pinned : Pinned := { name := "ythhcojfgfdnbnaa", sum := "59110da4e8ebee7ba60dfd1ce2b7b0f7c82f72d4b0653cbdae203396512720fc", checked := Try.checked }
namespace Rows
def none {H : Type} : Left H := { results := [], args := [] }

/-- 'flatironlaw12.StemMatches': WHATEVER THE INPUT: true; the input reads as it did. -/
def stemMatchesSpec : ChangeSpec := { name := "stemMatches", fn := fun _ => fun
  | [d1, d2, d3] => { results := [.lit (.bool true)], args := [d1, d2, d3] }
  | _ => none }
def stemMatchesRow : OpenClaim := { program := "ythhcojfgfdnbnaa", sum := "59110da4e8ebee7ba60dfd1ce2b7b0f7c82f72d4b0653cbdae203396512720fc", func := "flatiron/flatironlaw12.StemMatches", spec := "stemMatches", inPlace := ["internal/bytealg.IndexByteString", "internal/bytealg.IndexString"], named := ["internal/bytealg.MaxLen"], apart := false }
def StemMatchesSaid : Prop := stemMatchesRow.holds Try.pinned (OpenSpec.ofChange stemMatchesSpec)

/-- ITS FALSE NEIGHBOUR: 'it returns false'. Refute it at one input. -/
def stemMatchesWrong : ChangeSpec := { name := "stemMatches", fn := fun _ => fun
  | [d1, d2, d3] => { results := [.lit (.bool false)], args := [d1, d2, d3] }
  | _ => none }
def StemMatchesWrongFalsely : Prop := stemMatchesRow.holds Try.pinned (OpenSpec.ofChange stemMatchesWrong)

/-- 'flatironlaw12.StemChanges': WHATEVER THE INPUT: true; the input reads as it did. -/
def stemChangesSpec : ChangeSpec := { name := "stemChanges", fn := fun _ => fun
  | [d1, d2, d3] => { results := [.lit (.bool true)], args := [d1, d2, d3] }
  | _ => none }
def stemChangesRow : OpenClaim := { program := "ythhcojfgfdnbnaa", sum := "59110da4e8ebee7ba60dfd1ce2b7b0f7c82f72d4b0653cbdae203396512720fc", func := "flatiron/flatironlaw12.StemChanges", spec := "stemChanges", inPlace := ["internal/bytealg.IndexByteString", "internal/bytealg.IndexString"], named := ["internal/bytealg.MaxLen"], apart := false }
def StemChangesSaid : Prop := stemChangesRow.holds Try.pinned (OpenSpec.ofChange stemChangesSpec)

/-- ITS FALSE NEIGHBOUR: 'it returns false'. Refute it at one input. -/
def stemChangesWrong : ChangeSpec := { name := "stemChanges", fn := fun _ => fun
  | [d1, d2, d3] => { results := [.lit (.bool false)], args := [d1, d2, d3] }
  | _ => none }
def StemChangesWrongFalsely : Prop := stemChangesRow.holds Try.pinned (OpenSpec.ofChange stemChangesWrong)

/- THE SECOND FORM. 'bulk': how many values and letters a reading holds, each counted each time it is reached (what is shared counts as often as it is met; a slice's spare places count too). A statement '..UptoSaid' is the law's where the arguments, and the package variables that the reading takes, are together of bulk at most 1048576: NARROWER than '..Said'. Prove '..Said' where nothing that the law and all that it calls make is longer than what came in: it says more and counts as full. Else prove '..UptoSaid'. A law counts once. -/
mutual
def uptoBulk {H : Type} : DataW H → Nat
  | .lit (.string bytes) => bytes.length + 1
  | .lit _ => 1
  | .nil => 1
  | .ptr d => uptoBulk d + 1
  | .slice elems spare => uptoBulkAll elems + uptoBulkAll spare + 1
  | .agg parts => uptoBulkAll parts + 1
  | .iface _ d => uptoBulk d + 1
  | .map entries => uptoBulkEntries entries + 1
  | .held _ => 1
def uptoBulkAll {H : Type} : List (DataW H) → Nat
  | [] => 0
  | d :: r => uptoBulk d + uptoBulkAll r
def uptoBulkEntries {H : Type} : List (Lit × DataW H) → Nat
  | [] => 0
  | x :: r => uptoBulkEntry x + uptoBulkEntries r
def uptoBulkEntry {H : Type} : Lit × DataW H → Nat
  | (.string bytes, d) => bytes.length + uptoBulk d + 1
  | (_, d) => uptoBulk d + 1
 end
def uptoSmall : (H : Type) → List (DataW H) → Bool := fun _ ds => decide (uptoBulkAll ds ≤ 1048576)
def OpenSpec.upto (s : _root_.Go.ChangeSpec) : _root_.Go.OpenSpec := { _root_.Go.OpenSpec.ofChange s with cond := some uptoSmall }

/-- 'flatironlaw12.StemMatches', WHERE WHAT IT READS IS OF BULK AT MOST 1048576: true; the input reads as it did. -/
def stemMatchesUptoRow : OpenClaim := { program := "ythhcojfgfdnbnaa", sum := "59110da4e8ebee7ba60dfd1ce2b7b0f7c82f72d4b0653cbdae203396512720fc", func := "flatiron/flatironlaw12.StemMatches", spec := "stemMatches", inPlace := ["internal/bytealg.IndexByteString", "internal/bytealg.IndexString"], named := ["internal/bytealg.MaxLen"], apart := false, narrowed := true }
def StemMatchesUptoSaid : Prop := stemMatchesUptoRow.holds Try.pinned (OpenSpec.upto stemMatchesSpec)

/-- 'flatironlaw12.StemChanges', WHERE WHAT IT READS IS OF BULK AT MOST 1048576: true; the input reads as it did. -/
def stemChangesUptoRow : OpenClaim := { program := "ythhcojfgfdnbnaa", sum := "59110da4e8ebee7ba60dfd1ce2b7b0f7c82f72d4b0653cbdae203396512720fc", func := "flatiron/flatironlaw12.StemChanges", spec := "stemChanges", inPlace := ["internal/bytealg.IndexByteString", "internal/bytealg.IndexString"], named := ["internal/bytealg.MaxLen"], apart := false, narrowed := true }
def StemChangesUptoSaid : Prop := stemChangesUptoRow.holds Try.pinned (OpenSpec.upto stemChangesSpec)

end Rows
end Go.Proofs.Ythhcojfgfdnbnaa
