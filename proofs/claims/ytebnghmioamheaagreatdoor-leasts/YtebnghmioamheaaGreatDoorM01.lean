import Derived.Shelf.Small.Utf8
import Derived.Shelf.Small.Bits
import Derived.Shelf.Strings.Runes
import Derived.Shelf.Unicode.DecodeAny
import Derived.Test.YtebnghmioamheaaGreatDoorProg
import Derived.Test.YtebnghmioamheaaGreatDoorM00
set_option linter.all false
namespace Go.Proofs.YtebnghmioamheaaGreatDoor
open Go.Shelf Tryz
def vP:Go.Shelf.Ren:=⟨fun|119=>226|n=>n,fun|21=>21|4=>4|n=>n,fun|n=>n⟩
theorem DX:Go.Proofs.Lays.n119 prog vP:=by constructor<;>(try intro)<;>kernel_rfl
theorem Af (r:Int)(w:World):Calls prog 226 #[.int .i32 r] w λe w'=>e=.returned (.bool (Lib.validRune r))/\w'=w:=Any.utf8_ValidRune DX r w
def QL:Go.Shelf.Ren:=⟨fun|128=>153|n=>n,fun|51=>225|3=>3|4=>4|46=>182|5=>5|9=>9|n=>n,fun|n=>n⟩
def vQ:Go.Shelf.Ren:=⟨fun|125=>109|128=>153|129=>154|n=>n,fun|46=>182|3=>3|51=>225|53=>183|4=>4|5=>5|9=>9|n=>n,fun|n=>n⟩
theorem DZ:Go.Proofs.Lays.n125 prog vQ:=by constructor<;>(try intro)<;>kernel_rfl
theorem Dj (x:Int)(w:World)(h0:0<=x)(h1:x<=18446744073709551615):Calls prog 109 #[.int .u64 x] w λe w'=>e=.returned (Vi (Lib.bitLen x.toNat))/\w'=w:=Any.bits_Len DZ x w h0 h1
def vR:Go.Shelf.Ren:=⟨fun|137=>225|217=>238|266=>248|n=>n,fun|9=>9|5=>5|3=>3|n=>n,fun|n=>n⟩
theorem Ea:Go.Proofs.Lays.n137 prog vR:=by constructor<;>(try intro)<;>kernel_rfl
open Go.RowKit in
theorem pj (s:ByteArray)(c:Int)(w:World):Calls prog 225 #[.string s,.int .u8 c] w λe w'=>e=.returned (Vi (Lib.indexByte s.data.toList c.toNat.toUInt8))/\w'=w:=Any.strings_IndexByte Ea s c w
def QM:Go.Shelf.Ren:=⟨fun|129=>154|n=>n,fun|53=>183|3=>3|4=>4|46=>182|5=>5|9=>9|n=>n,fun|n=>n⟩
def QN:Go.Shelf.Ren:=⟨fun|217=>238|266=>248|n=>n,fun|9=>9|5=>5|3=>3|n=>n,fun|n=>n⟩
def QO:Go.Shelf.Ren:=⟨fun|224=>227|n=>n,fun|3=>3|n=>n,fun|n=>n⟩
def QP:Go.Shelf.Ren:=⟨fun|152=>211|137=>225|119=>226|224=>227|225=>228|217=>238|266=>248|n=>n,fun|9=>9|21=>21|3=>3|4=>4|5=>5|0=>0|46=>182|n=>n,fun|n=>n⟩
def vS:Go.Shelf.Ren:=⟨fun|151=>194|152=>211|137=>225|119=>226|224=>227|225=>228|217=>238|266=>248|n=>n,fun|9=>9|21=>21|4=>4|3=>3|5=>5|0=>0|46=>182|n=>n,fun|n=>n⟩
theorem Eb:Go.Proofs.Lays.n151 prog vS:=by constructor<;>(try intro)<;>kernel_rfl
open Go.RowKit Go.Lib in
theorem kA (s:ByteArray)(r:Int)(w:World)(h0:0<=r)(h1:r<128):Calls prog 194 #[.string s,.int .i32 r] w λe w'=>e=.returned (.bool (decide (0<=Lib.indexByte s.data.toList r.toNat.toUInt8)))/\w'=w:=Any.strings_ContainsRune_ascii Eb s r w h0 h1
def ni:Go.Shelf.Ren:=⟨fun|260=>118|n=>n,fun|9=>9|21=>21|3=>3|4=>4|5=>5|119=>178|0=>0|46=>182|139=>181|138=>180|n=>n,fun|3=>0|4=>1|n=>n⟩
theorem Ec:Go.Proofs.Lays.n260 prog ni:=by constructor<;>(try intro)<;>kernel_rfl
def vT:Go.Shelf.Ren:=⟨fun|197=>77|260=>118|n=>n,fun|9=>9|21=>21|3=>3|4=>4|5=>5|105=>164|119=>178|0=>0|46=>182|139=>181|138=>180|n=>n,fun|3=>0|4=>1|n=>n⟩
theorem Ed:Go.Proofs.Lays.n197 prog vT:=by constructor<;>(try intro)<;>kernel_rfl
open Go.RowKit Go.Lib in
theorem kY (s:ByteArray)(w:World)(hT:Lib.Utf8Tabs 0 1 w):Calls prog 77 #[.string s] w λe w'=>e=.returned (.tuple #[.int .i32 (Lib.decodeGo s).1,Vi (Lib.decodeGo s).2])/\Bw w w':=Any.utf8_DecodeRuneInString Ed s w hT
