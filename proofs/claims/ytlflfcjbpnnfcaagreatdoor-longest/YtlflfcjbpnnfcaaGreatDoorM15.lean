/- What the library's functions and the one form of a set come to, in one place. -/
import Derived.Test.YtlflfcjbpnnfcaaGreatDoorM10
import Derived.Test.YtlflfcjbpnnfcaaGreatDoorM14
namespace Go.Proofs.YtlflfcjbpnnfcaaGreatDoor
theorem form_said : FormSaid := form_any
end Go.Proofs.YtlflfcjbpnnfcaaGreatDoor
