/-
  kept.grow: a text put behind another one's, in a builder.
  (*Table).More.
  (*Table).More whole; (*Table).Maybe.
  (*Table).All: the variables, by rising names.
-/
import Derived.Test.YtgednccpjegbmaaGreatDoorQJPSet
import Derived.Deep.RegionHeld3
import Derived.Shelf.SlIter.Nil
import Derived.Sort.OwnSorted
import Derived.Test.YtgednccpjegbmaaGreatDoorShelf
namespace Go.Proofs.YtgednccpjegbmaaGreatDoor.Jw
open Go.RowKit Go.Proofs.YtgednccpjegbmaaGreatDoor Go.Proofs.YtgednccpjegbmaaGreatDoor.Ww Go.Proofs.YtgednccpjegbmaaGreatDoor.Tw Go.Proofs.YtgednccpjegbmaaGreatDoor.Kw
set_option maxRecDepth 100000

end Go.Proofs.YtgednccpjegbmaaGreatDoor.Jw
namespace Go.Proofs.YtgednccpjegbmaaGreatDoor.Jw
open Go.RowKit Go.Proofs.YtgednccpjegbmaaGreatDoor Go.Proofs.YtgednccpjegbmaaGreatDoor.Ww Go.Proofs.YtgednccpjegbmaaGreatDoor.Tw Go.Proofs.YtgednccpjegbmaaGreatDoor.Kw
set_option maxRecDepth 100000

end Go.Proofs.YtgednccpjegbmaaGreatDoor.Jw
namespace Go.Proofs.YtgednccpjegbmaaGreatDoor.Jw
open Go.RowKit Go.Proofs.YtgednccpjegbmaaGreatDoor Go.Proofs.YtgednccpjegbmaaGreatDoor.Ww Go.Proofs.YtgednccpjegbmaaGreatDoor.Tw Go.Proofs.YtgednccpjegbmaaGreatDoor.Kw
set_option maxRecDepth 100000

end Go.Proofs.YtgednccpjegbmaaGreatDoor.Jw
namespace Go.Proofs.YtgednccpjegbmaaGreatDoor.Jw
open Go.RowKit Go.Proofs.YtgednccpjegbmaaGreatDoor Go.Proofs.YtgednccpjegbmaaGreatDoor.Ww Go.Proofs.YtgednccpjegbmaaGreatDoor.Tw Go.Proofs.YtgednccpjegbmaaGreatDoor.Kw Go.Maps Go.Shelf Go.Sort
set_option maxRecDepth 100000

abbrev MK : TypeId := 89



end Go.Proofs.YtgednccpjegbmaaGreatDoor.Jw
