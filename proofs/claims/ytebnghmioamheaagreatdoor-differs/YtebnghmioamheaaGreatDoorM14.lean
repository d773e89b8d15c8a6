import Derived.Shelf.SlSortCmp.NoneTotal
import Derived.Shelf.SlicesG.Cmp
import Derived.Test.YtebnghmioamheaaGreatDoorProg
set_option maxRecDepth 100000
set_option linter.all false
namespace Go.Proofs.YtebnghmioamheaaGreatDoor
open Go.Shelf Tryz
def BR:Go.Shelf.Ren:=⟨fun|6=>244|15=>109|14=>251|28=>153|29=>154|20=>253|21=>254|22=>255|23=>256|24=>257|25=>258|26=>259|27=>260|46=>262|47=>176|48=>177|49=>263|50=>264|57=>267|n=>n,fun|22=>24|24=>92|25=>281|3=>3|39=>182|0=>0|53=>225|55=>183|4=>4|46=>219|45=>218|50=>116|5=>5|9=>9|66=>236|70=>240|76=>252|77=>140|n=>n,fun|n=>n⟩
theorem AN:Go.Proofs.SlLaysF0.n6 prog BR:=by constructor<;>(try intro)<;>first|kernel_rfl|exact⟨Tryz.f244.name,by decide,func244.trans (congrArg some (by kernel_rfl))⟩|exact⟨Tryz.f251.name,by decide,func251.trans (congrArg some (by kernel_rfl))⟩|exact⟨Tryz.f253.name,by decide,func253.trans (congrArg some (by kernel_rfl))⟩|exact⟨Tryz.f254.name,by decide,func254.trans (congrArg some (by kernel_rfl))⟩|exact⟨Tryz.f255.name,by decide,func255.trans (congrArg some (by kernel_rfl))⟩|exact⟨Tryz.f256.name,by decide,func256.trans (congrArg some (by kernel_rfl))⟩|exact⟨Tryz.f257.name,by decide,func257.trans (congrArg some (by kernel_rfl))⟩|exact⟨Tryz.f258.name,by decide,func258.trans (congrArg some (by kernel_rfl))⟩|exact⟨Tryz.f259.name,by decide,func259.trans (congrArg some (by kernel_rfl))⟩|exact⟨Tryz.f260.name,by decide,func260.trans (congrArg some (by kernel_rfl))⟩|exact⟨Tryz.f262.name,by decide,func262.trans (congrArg some (by kernel_rfl))⟩|exact⟨Tryz.f263.name,by decide,func263.trans (congrArg some (by kernel_rfl))⟩|exact⟨Tryz.f264.name,by decide,func264.trans (congrArg some (by kernel_rfl))⟩|exact⟨Tryz.f267.name,by decide,func267.trans (congrArg some (by kernel_rfl))⟩
def AO:Go.Shelf.Ren:=⟨fun|5=>101|7=>140|n=>n,fun|22=>3|3=>3|4=>4|n=>n,fun|n=>n⟩
theorem vF:Go.Proofs.SlLaysC2.n5 prog AO:=by constructor<;>(try intro)<;>first|kernel_rfl|exact⟨Tryz.f101.name,by decide,func101.trans (congrArg some (by kernel_rfl))⟩|exact⟨Tryz.f140.name,by decide,func140.trans (congrArg some (by kernel_rfl))⟩
