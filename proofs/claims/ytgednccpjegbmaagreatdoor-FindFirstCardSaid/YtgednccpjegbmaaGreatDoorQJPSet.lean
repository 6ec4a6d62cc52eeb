/-
  strings.Builder in a block of its own, read by String and written on: copyCheck, WriteString, WriteByte, String; which blocks are its own.
  A variable laid into a table's map: what is of the table then.
  (*Table).Set.
  flatironref11.Set.
-/
import Derived.Lib.Builder
import Derived.Lib.UnsafeStr
import Derived.Lib.FrozenHead2
import Derived.Laws.Externs
import Derived.Lib.Strings
import Derived.Lib.AppendStr
import Derived.Test.YtgednccpjegbmaaGreatDoorQJPGet
import Derived.StillTailTactics
namespace Go.Proofs.YtgednccpjegbmaaGreatDoor.Jw
open Go.RowKit Go.Proofs.YtgednccpjegbmaaGreatDoor Go.Proofs.YtgednccpjegbmaaGreatDoor.Ww Go.Proofs.YtgednccpjegbmaaGreatDoor.Tw Go.Proofs.YtgednccpjegbmaaGreatDoor.Kw
set_option maxRecDepth 100000

end Go.Proofs.YtgednccpjegbmaaGreatDoor.Jw
namespace Go.Proofs.YtgednccpjegbmaaGreatDoor.Jw
open Go.RowKit Go.Proofs.YtgednccpjegbmaaGreatDoor Go.Proofs.YtgednccpjegbmaaGreatDoor.Ww Go.Proofs.YtgednccpjegbmaaGreatDoor.Tw Go.Proofs.YtgednccpjegbmaaGreatDoor.Kw
set_option maxRecDepth 100000

section
variable {w0 w w2 : World} {tb bm : Nat} {X : List Nat} {E : List (Bs × KE)} {M : List (Bs × Int)} {all : Bool} {mn : Option Nat} {O : Bs → List Nat}
end
end Go.Proofs.YtgednccpjegbmaaGreatDoor.Jw
namespace Go.Proofs.YtgednccpjegbmaaGreatDoor.Jw
open Go.RowKit Go.Proofs.YtgednccpjegbmaaGreatDoor Go.Proofs.YtgednccpjegbmaaGreatDoor.Ww Go.Proofs.YtgednccpjegbmaaGreatDoor.Tw Go.Proofs.YtgednccpjegbmaaGreatDoor.Kw
set_option maxRecDepth 100000

theorem _root_.Go.Proofs.YtgednccpjegbmaaGreatDoor.Kw.Kept.trans_new {X Y : List Nat} {a b c : World} (h : Kept X a b) (k : Kept Y b c) (hY : ∀ i ∈ Y, i ∈ X ∨ a.heap.size ≤ i) : Kept X a c :=
  ⟨k.os.trans h.os, k.tape.trans h.tape, k.output.trans h.output, Nat.le_trans h.size k.size, fun i hi hx => (k.block i (Nat.lt_of_lt_of_le hi h.size) fun hy => by
    rcases hY i hy with hh | hh
    · exact hx hh
    · omega).trans (h.block i hi hx)⟩

end Go.Proofs.YtgednccpjegbmaaGreatDoor.Jw
namespace Go.Proofs.YtgednccpjegbmaaGreatDoor.Jw
open Go.RowKit Go.Proofs.YtgednccpjegbmaaGreatDoor Go.Proofs.YtgednccpjegbmaaGreatDoor.Ww Go.Proofs.YtgednccpjegbmaaGreatDoor.Tw
set_option maxRecDepth 100000

end Go.Proofs.YtgednccpjegbmaaGreatDoor.Jw
