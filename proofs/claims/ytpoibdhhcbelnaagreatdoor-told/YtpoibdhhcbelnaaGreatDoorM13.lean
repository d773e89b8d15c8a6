/- The contracts of the library that the program calls, laid at this program: numbers against numbers. -/
import Derived.Shelf.SlSortCmp.WholeK
import Derived.Shelf.SlSortCmp.NoneTotal
import Derived.Shelf.SlicesG.Cmp
import Derived.Ground.SlsfProg
import Derived.Ground.SlgcProg
import Derived.Test.YtpoibdhhcbelnaaGreatDoorProg
namespace Go.Proofs.YtpoibdhhcbelnaaGreatDoor
open Go.Shelf
def Tryz.sortR_ren:Go.Shelf.Ren:=⟨fun | 6=>243 | 15=>182 | 14=>272 | 28=>230 | 29=>231 | 20=>288 | 21=>289 | 22=>290 | 23=>291 | 24=>292 | 25=>293 | 26=>294 | 27=>295 | 46=>308 | 47=>264 | 48=>265 | 49=>309 | 50=>310 | 57=>319 | n=>n,fun | 22=>29 | 24=>149 | 25=>305 | 3=>3 | 39=>216 | 0=>0 | 53=>298 | 55=>217 | 4=>4 | 46=>292 | 45=>291 | 50=>112 | 5=>5 | 9=>9 | 66=>317 | 70=>321 | 76=>333 | 77=>208 | n=>n,fun | n=>n⟩
theorem Tryz.sortR:Go.Proofs.SlLaysF0.n6 Tryz.prog Tryz.sortR_ren:={
  mixed:=by kernel_rfl
  f6:=⟨Tryz.f243.name,by decide,Tryz.func243.trans (congrArg some (by kernel_rfl))⟩
  f14:=⟨Tryz.f272.name,by decide,Tryz.func272.trans (congrArg some (by kernel_rfl))⟩
  f15:=Tryz.func182.trans (congrArg some (by kernel_rfl))
  f20:=⟨Tryz.f288.name,by decide,Tryz.func288.trans (congrArg some (by kernel_rfl))⟩
  f21:=⟨Tryz.f289.name,by decide,Tryz.func289.trans (congrArg some (by kernel_rfl))⟩
  f22:=⟨Tryz.f290.name,by decide,Tryz.func290.trans (congrArg some (by kernel_rfl))⟩
  f23:=⟨Tryz.f291.name,by decide,Tryz.func291.trans (congrArg some (by kernel_rfl))⟩
  f24:=⟨Tryz.f292.name,by decide,Tryz.func292.trans (congrArg some (by kernel_rfl))⟩
  f25:=⟨Tryz.f293.name,by decide,Tryz.func293.trans (congrArg some (by kernel_rfl))⟩
  f26:=⟨Tryz.f294.name,by decide,Tryz.func294.trans (congrArg some (by kernel_rfl))⟩
  f27:=⟨Tryz.f295.name,by decide,Tryz.func295.trans (congrArg some (by kernel_rfl))⟩
  f28:=Tryz.func230.trans (congrArg some (by kernel_rfl))
  f29:=Tryz.func231.trans (congrArg some (by kernel_rfl))
  f46:=⟨Tryz.f308.name,by decide,Tryz.func308.trans (congrArg some (by kernel_rfl))⟩
  f47:=Tryz.func264.trans (congrArg some (by kernel_rfl))
  f48:=Tryz.func265.trans (congrArg some (by kernel_rfl))
  f49:=⟨Tryz.f309.name,by decide,Tryz.func309.trans (congrArg some (by kernel_rfl))⟩
  f50:=⟨Tryz.f310.name,by decide,Tryz.func310.trans (congrArg some (by kernel_rfl))⟩
  f57:=⟨Tryz.f319.name,by decide,Tryz.func319.trans (congrArg some (by kernel_rfl))⟩
  t0:=Tryz.underlying0
  a0:=Tryz.isAgg0
  z0:=Tryz.sizeOf0
  v0:=Tryz.zeroValue0
  t3:=Tryz.underlying3
  a3:=Tryz.isAgg3
  z3:=Tryz.sizeOf3
  v3:=Tryz.zeroValue3
  t4:=Tryz.underlying4
  a4:=Tryz.isAgg4
  z4:=Tryz.sizeOf4
  v4:=Tryz.zeroValue4
  t5:=Tryz.underlying5
  a5:=Tryz.isAgg5
  z5:=Tryz.sizeOf5
  v5:=Tryz.zeroValue5
  t9:=Tryz.underlying9
  a9:=Tryz.isAgg9
  z9:=Tryz.sizeOf9
  v9:=Tryz.zeroValue9
  t22:=Tryz.underlying29
  a22:=Tryz.isAgg29
  z22:=Tryz.sizeOf29
  v22:=Tryz.zeroValue29
  t25:=Tryz.underlying305
  a25:=Tryz.isAgg305
  z25:=Tryz.sizeOf305
  v25:=Tryz.zeroValue305
  t39:=Tryz.underlying216
  a39:=Tryz.isAgg216
  z39:=Tryz.sizeOf216
  v39:=Tryz.zeroValue216
  t45:=Tryz.underlying291
  a45:=Tryz.isAgg291
  z45:=Tryz.sizeOf291
  v45:=Tryz.zeroValue291
  t46:=Tryz.underlying292
  a46:=Tryz.isAgg292
  z46:=Tryz.sizeOf292
  v46:=Tryz.zeroValue292
  t50:=Tryz.underlying112
  a50:=Tryz.isAgg112
  z50:=Tryz.sizeOf112
  v50:=Tryz.zeroValue112
  t53:=Tryz.underlying298
  a53:=Tryz.isAgg298
  z53:=Tryz.sizeOf298
  v53:=Tryz.zeroValue298
  t55:=Tryz.underlying217
  a55:=Tryz.isAgg217
  z55:=Tryz.sizeOf217
  v55:=Tryz.zeroValue217
  t66:=Tryz.underlying317
  a66:=Tryz.isAgg317
  z66:=Tryz.sizeOf317
  v66:=Tryz.zeroValue317
  t70:=Tryz.underlying321
  a70:=Tryz.isAgg321
  z70:=Tryz.sizeOf321
  v70:=Tryz.zeroValue321
  t76:=Tryz.underlying333
  a76:=Tryz.isAgg333
  z76:=Tryz.sizeOf333
  v76:=Tryz.zeroValue333
  t77:=Tryz.underlying208
  a77:=Tryz.isAgg208
  z77:=Tryz.sizeOf208
  v77:=Tryz.zeroValue208 }
def Tryz.cmpInt_ren:Go.Shelf.Ren:=⟨fun | 5=>175 | 7=>218 | n=>n,fun | 22=>3 | 3=>3 | 4=>4 | n=>n,fun | n=>n⟩
theorem Tryz.cmpInt:Go.Proofs.SlLaysC2.n5 Tryz.prog Tryz.cmpInt_ren:={
  mixed:=by kernel_rfl
  f5:=⟨Tryz.f175.name,by decide,Tryz.func175.trans (congrArg some (by kernel_rfl))⟩
  f7:=⟨Tryz.f218.name,by decide,Tryz.func218.trans (congrArg some (by kernel_rfl))⟩
  t3:=Tryz.underlying3
  a3:=Tryz.isAgg3
  z3:=Tryz.sizeOf3
  v3:=Tryz.zeroValue3
  t4:=Tryz.underlying4
  a4:=Tryz.isAgg4
  z4:=Tryz.sizeOf4
  v4:=Tryz.zeroValue4
  t22:=Tryz.underlying3
  a22:=Tryz.isAgg3
  z22:=Tryz.sizeOf3
  v22:=Tryz.zeroValue3 }
end Go.Proofs.YtpoibdhhcbelnaaGreatDoor
