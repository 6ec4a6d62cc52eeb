/-
  A makefile of patterns, each of which has one need and one line: its parts.
-/
import Derived.Test.YtgednccpjegbmaaGreatDoorQMPlain2
namespace Go.Proofs.YtgednccpjegbmaaGreatDoor.Fp
open Go.Proofs.YtgednccpjegbmaaGreatDoor
set_option maxRecDepth 100000
abbrev Bs := List UInt8

/-- %.o: %.<e> -/
def ruleS (e : Nat) : Bs := [37, 46, 111, 58, 32, 37, 46, UInt8.ofNat (97 + e)]
def needS (e : Nat) : Bs := [37, 46, UInt8.ofNat (97 + e)]
def targS : Bs := [37, 46, 111]
/-- The chapter's example. -/
def liveS : Bs := ruleS 2 ++ 10 :: 9 :: [101, 99, 104, 111, 32, 36, 42]
end Go.Proofs.YtgednccpjegbmaaGreatDoor.Fp
