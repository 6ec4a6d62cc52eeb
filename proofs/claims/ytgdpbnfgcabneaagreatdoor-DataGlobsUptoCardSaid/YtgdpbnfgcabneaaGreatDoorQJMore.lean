/- Part of the proof. -/
import Derived.Test.YtgdpbnfgcabneaaGreatDoorQJPSet
set_option maxRecDepth 100000
set_option maxHeartbeats 40000000
namespace Go.Proofs.YtgdpbnfgcabneaaGreatDoor
namespace Jw
open Go.RowKit Ww Tw
end Jw
end Go.Proofs.YtgdpbnfgcabneaaGreatDoor
