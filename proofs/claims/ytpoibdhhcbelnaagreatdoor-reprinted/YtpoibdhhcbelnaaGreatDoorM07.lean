/- What the reference's small functions on places do: walks. -/
import Derived.BigRegion
import Derived.BigQuiet
import Derived.Deep.QuietTactic
import Derived.Deep.RegionHeld3
import Derived.Deep.AppendLies
import Derived.Test.YtpoibdhhcbelnaaGreatDoorM06
import Derived.Test.YtpoibdhhcbelnaaGreatDoorM02
namespace Go.Proofs.YtpoibdhhcbelnaaGreatDoor
open Go.RowKit

end Go.Proofs.YtpoibdhhcbelnaaGreatDoor
