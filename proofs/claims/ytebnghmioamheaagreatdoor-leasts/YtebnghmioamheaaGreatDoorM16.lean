import Derived.Test.YtebnghmioamheaaGreatDoorM11
import Derived.Test.YtebnghmioamheaaGreatDoorM15
set_option linter.all false
namespace Go.Proofs.YtebnghmioamheaaGreatDoor
theorem CV:wH:=TG
