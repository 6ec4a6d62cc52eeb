/-
  What Match returns, a word that is changed: how they are said.
-/
import Derived.Test.YtpliljcjjffipaaGreatDoorQTBase
namespace Go.Proofs.YtpliljcjjffipaaGreatDoor.Tw
open Go.RowKit Go.Proofs.YtpliljcjjffipaaGreatDoor Go.Proofs.YtpliljcjjffipaaGreatDoor.Ww
set_option maxRecDepth 100000

/-- What Match returns. -/
def mV (o : Option Bs) : Ending := match o with | none => .returned (.tuple #[.string ⟨#[]⟩, .bool false]) | some s => .returned (.tuple #[.string (str s), .bool true])
/-- A word, changed. -/
def chS (a b x : ByteArray) : ByteArray := str (Tp.changeA (by8 x) (by8 a) (by8 b))
end Go.Proofs.YtpliljcjjffipaaGreatDoor.Tw
