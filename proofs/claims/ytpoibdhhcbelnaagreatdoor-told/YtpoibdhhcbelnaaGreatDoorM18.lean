/- Contracts of the library that match calls, laid at this program: numbers against numbers. -/
import Derived.Shelf.Spec.TrailingZeros
import Derived.Shelf.Unicode.ValidAny
import Derived.Shelf.SlicesQ.IndexFunc
import Derived.Test.YtpoibdhhcbelnaaGreatDoorProg
namespace Go.Proofs.YtpoibdhhcbelnaaGreatDoor
open Go.Shelf Go.RowKit
def Tryz.tz_ren:Go.Shelf.Ren:=⟨fun | 29=>238 | n=>n,fun | 0=>0 | 3=>3 | 4=>4 | 5=>5 | 22=>217 | 25=>216 | 54=>324 | n=>n,fun | 1=>2 | n=>n⟩
theorem Tryz.tz:Go.Proofs.Lays7.n29 Tryz.prog Tryz.tz_ren:={
  mixed:=by kernel_rfl
  f29:=Tryz.func238.trans (congrArg some (by kernel_rfl))
  t0:=Tryz.underlying0
  a0:=Tryz.isAgg0
  z0:=Tryz.sizeOf0
  v0:=Tryz.zeroValue0
  i0:=by kernel_rfl
  t3:=Tryz.underlying3
  a3:=Tryz.isAgg3
  z3:=Tryz.sizeOf3
  v3:=Tryz.zeroValue3
  i3:=by kernel_rfl
  t4:=Tryz.underlying4
  a4:=Tryz.isAgg4
  z4:=Tryz.sizeOf4
  v4:=Tryz.zeroValue4
  i4:=by kernel_rfl
  t5:=Tryz.underlying5
  a5:=Tryz.isAgg5
  z5:=Tryz.sizeOf5
  v5:=Tryz.zeroValue5
  i5:=by kernel_rfl
  t22:=Tryz.underlying217
  a22:=Tryz.isAgg217
  z22:=Tryz.sizeOf217
  v22:=Tryz.zeroValue217
  i22:=by kernel_rfl
  t25:=Tryz.underlying216
  a25:=Tryz.isAgg216
  z25:=Tryz.sizeOf216
  v25:=Tryz.zeroValue216
  i25:=by kernel_rfl
  t54:=Tryz.underlying324
  a54:=Tryz.isAgg324
  z54:=Tryz.sizeOf324
  g1:=by kernel_rfl }
def Tryz.valid_ren:Go.Shelf.Ren:=⟨fun | 196=>68 | 259=>121 | n=>n,fun | 0=>0 | 3=>3 | 4=>4 | 5=>5 | 9=>9 | 12=>12 | 46=>216 | 53=>217 | 119=>212 | 138=>214 | 139=>215 | n=>n,fun | 3=>0 | 4=>1 | n=>n⟩
theorem Tryz.valid:Go.Proofs.Lays.n196 Tryz.prog Tryz.valid_ren:={
  mixed:=by kernel_rfl
  f196:=Tryz.func68.trans (congrArg some (by kernel_rfl))
  f259:=Tryz.func121.trans (congrArg some (by kernel_rfl))
  t0:=Tryz.underlying0
  a0:=Tryz.isAgg0
  z0:=Tryz.sizeOf0
  v0:=Tryz.zeroValue0
  t3:=Tryz.underlying3
  a3:=Tryz.isAgg3
  z3:=Tryz.sizeOf3
  v3:=Tryz.zeroValue3
  t4:=Tryz.underlying4
  a4:=Tryz.isAgg4
  z4:=Tryz.sizeOf4
  v4:=Tryz.zeroValue4
  t5:=Tryz.underlying5
  a5:=Tryz.isAgg5
  z5:=Tryz.sizeOf5
  v5:=Tryz.zeroValue5
  t9:=Tryz.underlying9
  a9:=Tryz.isAgg9
  z9:=Tryz.sizeOf9
  v9:=Tryz.zeroValue9
  t12:=Tryz.underlying12
  a12:=Tryz.isAgg12
  z12:=Tryz.sizeOf12
  v12:=Tryz.zeroValue12
  t46:=Tryz.underlying216
  a46:=Tryz.isAgg216
  z46:=Tryz.sizeOf216
  v46:=Tryz.zeroValue216
  t53:=Tryz.underlying217
  a53:=Tryz.isAgg217
  z53:=Tryz.sizeOf217
  v53:=Tryz.zeroValue217
  t119:=Tryz.underlying212
  a119:=Tryz.isAgg212
  z119:=Tryz.sizeOf212
  t138:=Tryz.underlying214
  a138:=Tryz.isAgg214
  z138:=Tryz.sizeOf214
  v138:=Tryz.zeroValue214
  t139:=Tryz.underlying215
  a139:=Tryz.isAgg215
  z139:=Tryz.sizeOf215
  v139:=Tryz.zeroValue215
  g3:=by kernel_rfl
  g4:=by kernel_rfl }
def Tryz.hasR_ren:Go.Shelf.Ren:=⟨fun | 8=>234 | 6=>268 | n=>n,fun | 22=>29 | 23=>149 | 25=>300 | 4=>4 | 3=>3 | 0=>0 | n=>n,fun  | n=>n⟩
theorem Tryz.hasR:Go.Proofs.SlLaysH0.n8 Tryz.prog Tryz.hasR_ren:={
  mixed:=by kernel_rfl
  f6:=⟨Tryz.f268.name,by decide,Tryz.func268.trans (congrArg some (by kernel_rfl))⟩
  f8:=⟨Tryz.f234.name,by decide,Tryz.func234.trans (congrArg some (by kernel_rfl))⟩
  t0:=Tryz.underlying0
  a0:=Tryz.isAgg0
  z0:=Tryz.sizeOf0
  v0:=Tryz.zeroValue0
  t3:=Tryz.underlying3
  a3:=Tryz.isAgg3
  z3:=Tryz.sizeOf3
  v3:=Tryz.zeroValue3
  t4:=Tryz.underlying4
  a4:=Tryz.isAgg4
  z4:=Tryz.sizeOf4
  v4:=Tryz.zeroValue4
  t22:=Tryz.underlying29
  a22:=Tryz.isAgg29
  z22:=Tryz.sizeOf29
  v22:=Tryz.zeroValue29
  t25:=Tryz.underlying300
  a25:=Tryz.isAgg300
  z25:=Tryz.sizeOf300
  v25:=Tryz.zeroValue300 }
theorem tz_any (x:Nat)(hx:x<18446744073709551616)(w:World)(hT:x≠0->TabAt 2 Lib.deBruijn64tab w):Calls Tryz.prog 238 #[.int .u64 x] w fun e w'=>e=.returned (.int .i64 (Lib.ctz 64 x))/\w'=w:=Any7.bits_TrailingZeros64 Tryz.tz x hx w hT
theorem valid_any (s:ByteArray)(w:World)(hs:s.size<=9223372036854775807)(hT:Lib.Utf8Tabs 0 1 w):Calls Tryz.prog 68 #[.string s] w fun e w'=>e=.returned (.bool (Lib.validD s.data.toList))/\Below w.heap.size w w':=Any.utf8_ValidString Tryz.valid s w hs hT
end Go.Proofs.YtpoibdhhcbelnaaGreatDoor
