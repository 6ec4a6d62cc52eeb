/-
  find.Of and find.Commands without data.
  A part with a recipe, alone in its row.
-/
import Derived.Test.YtgednccpjegbmaaGreatDoorQDQRead
namespace Go.Proofs.YtgednccpjegbmaaGreatDoor.Dq
open Go.RowKit Go.Proofs.YtgednccpjegbmaaGreatDoor Go.Maps Go.Proofs.YtgednccpjegbmaaGreatDoor.Ww Go.Proofs.YtgednccpjegbmaaGreatDoor.Tw Go.Proofs.YtgednccpjegbmaaGreatDoor.Kw Go.Proofs.YtgednccpjegbmaaGreatDoor.Jw Go.Proofs.YtgednccpjegbmaaGreatDoor.Xb Go.Proofs.YtgednccpjegbmaaGreatDoor.Xw Go.Proofs.YtgednccpjegbmaaGreatDoor.Dz
set_option maxRecDepth 100000
abbrev NoT : TypeId := 44
def nodeC (p x : ByteArray) (nv ov rv : Value) (st : ByteArray) (ln : Int) (ph ru : Bool) : Array Value := #[.string p, .string x, nv, ov, rv, .string st, .int .i64 ln, .bool ph, .bool ru]
theorem undNo : Tryz.prog.underlying NoT = some (.struct (Tryz.prog.fieldsOf NoT)) := by kernel_rfl
theorem sizeNo : (Tryz.prog.info? NoT).map (·.size) = some 9 := by kernel_rfl
theorem undFa : Tryz.prog.underlying FaT = some (.struct (Tryz.prog.fieldsOf FaT)) := by kernel_rfl
theorem sizeFa : (Tryz.prog.info? FaT).map (·.size) = some 3 := by kernel_rfl
end Go.Proofs.YtgednccpjegbmaaGreatDoor.Dq
namespace Go.Proofs.YtgednccpjegbmaaGreatDoor.Dq
open Go.RowKit Go.Proofs.YtgednccpjegbmaaGreatDoor Go.Maps Go.Proofs.YtgednccpjegbmaaGreatDoor.Ww Go.Proofs.YtgednccpjegbmaaGreatDoor.Tw Go.Proofs.YtgednccpjegbmaaGreatDoor.Kw Go.Proofs.YtgednccpjegbmaaGreatDoor.Jw Go.Proofs.YtgednccpjegbmaaGreatDoor.Xb Go.Proofs.YtgednccpjegbmaaGreatDoor.Xw Go.Proofs.YtgednccpjegbmaaGreatDoor.Dz
set_option maxRecDepth 100000
end Go.Proofs.YtgednccpjegbmaaGreatDoor.Dq
