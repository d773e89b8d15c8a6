import Derived.Shelf.Spec.TrailingZeros
import Derived.Shelf.Unicode.ValidAny
import Derived.Shelf.SlicesQ.IndexFunc
import Derived.Test.YtebnghmioamheaaGreatDoorProg
import Derived.Test.YtebnghmioamheaaGreatDoorM00
set_option maxRecDepth 100000
set_option linter.all false
namespace Go.Proofs.YtebnghmioamheaaGreatDoor
open Go.Shelf Go.RowKit Tryz
def GY:Go.Shelf.Ren:=⟨fun|29=>164|n=>n,fun|0=>0|3=>3|4=>4|5=>5|22=>183|25=>182|54=>244|n=>n,fun|1=>2|n=>n⟩
theorem UV:Go.Proofs.Lays7.n29 prog GY:=by constructor<;>(try intro)<;>kernel_rfl
def Bb:Go.Shelf.Ren:=⟨fun|196=>52|259=>94|n=>n,fun|0=>0|3=>3|4=>4|5=>5|9=>9|12=>12|46=>182|53=>183|119=>178|138=>180|139=>181|n=>n,fun|3=>0|4=>1|n=>n⟩
theorem KG:Go.Proofs.Lays.n196 prog Bb:=by constructor<;>(try intro)<;>kernel_rfl
def Dn:Go.Shelf.Ren:=⟨fun|8=>157|6=>180|n=>n,fun|22=>24|23=>92|25=>227|4=>4|3=>3|0=>0|n=>n,fun |n=>n⟩
theorem Nq:Go.Proofs.SlLaysH0.n8 prog Dn:=by constructor<;>(try intro)<;>first|kernel_rfl|exact⟨Tryz.f180.name,by decide,func180.trans (congrArg some (by kernel_rfl))⟩|exact⟨Tryz.f157.name,by decide,func157.trans (congrArg some (by kernel_rfl))⟩
theorem Xb (x:Nat)(hx:x<18446744073709551616)(w:World)(hT:x≠0->TabAt 2 Lib.deBruijn64tab w):Calls prog 164 #[.int .u64 x] w λe w'=>e=.returned (Vi (Lib.ctz 64 x))/\w'=w:=Any7.bits_TrailingZeros64 UV x hx w hT
theorem Nr (s:ByteArray)(w:World)(hs:s.size<=9223372036854775807)(hT:Lib.Utf8Tabs 0 1 w):Calls prog 52 #[.string s] w λe w'=>e=.returned (.bool (Lib.validD s.data.toList))/\Bw w w':=Any.utf8_ValidString KG s w hs hT
