/- Whether two slices of ranges have one content: the reference's same, and the library's Equal: walks. -/
import Derived.Laws.StructEq
import Derived.BigRegion
import Derived.BigQuiet
import Derived.Deep.QuietTactic
import Derived.Test.YtpoibdhhcbelnaaGreatDoorM06
namespace Go.Proofs.YtpoibdhhcbelnaaGreatDoor
open Go.RowKit

end Go.Proofs.YtpoibdhhcbelnaaGreatDoor
