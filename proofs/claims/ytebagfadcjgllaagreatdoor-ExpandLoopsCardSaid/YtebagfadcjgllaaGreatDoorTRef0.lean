/-
  What Match returns, a word that is changed: how they are said.
-/
import Derived.Test.YtebagfadcjgllaaGreatDoorTBase
namespace Go.Proofs.YtebagfadcjgllaaGreatDoor.Tw
open Go.RowKit Go.Proofs.YtebagfadcjgllaaGreatDoor Go.Proofs.YtebagfadcjgllaaGreatDoor.Ww
set_option maxRecDepth 100000

/-- What Match returns. -/
def mV (o : Option Bs) : Ending := match o with | none => .returned (.tuple #[.string ⟨#[]⟩, .bool false]) | some s => .returned (.tuple #[.string (str s), .bool true])
/-- A word, changed. -/
def chS (a b x : ByteArray) : ByteArray := str (Tp.changeA (by8 x) (by8 a) (by8 b))
theorem ch_len (a b x : ByteArray) : (chS a b x).size ≤ x.size + a.size + b.size := by
  unfold chS
  rw [str_size]
  unfold Tp.changeA
  split
  · rw [by8_len]; omega
  · rename_i s h
    have h1 := Tp.match_len h
    have h2 := Tp.put_len (by8 b) s
    rw [by8_len] at *
    split
    · rw [by8_len]; omega
    · omega

end Go.Proofs.YtebagfadcjgllaaGreatDoor.Tw
