/-
  flatironref12: At, Match, Put, Change.
-/
import Derived.Test.YtgednccpjegbmaaGreatDoorQTPut
namespace Go.Proofs.YtgednccpjegbmaaGreatDoor.Tw
open Go.RowKit Go.Proofs.YtgednccpjegbmaaGreatDoor Go.Proofs.YtgednccpjegbmaaGreatDoor.Ww
set_option maxRecDepth 100000

end Go.Proofs.YtgednccpjegbmaaGreatDoor.Tw
