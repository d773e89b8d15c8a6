/- What the library's functions and the one form of a set come to, in one place. -/
import Derived.Test.YtpoibdhhcbelnaaGreatDoorM10
import Derived.Test.YtpoibdhhcbelnaaGreatDoorM14
namespace Go.Proofs.YtpoibdhhcbelnaaGreatDoor
theorem form_said:FormSaid:=form_any
end Go.Proofs.YtpoibdhhcbelnaaGreatDoor
