/- More contracts of the library that the program calls, laid at this program: numbers against numbers. -/
import Derived.Shelf.Strings.Builder1
import Derived.Shelf.Strings.OnBuilder
import Derived.Shelf.Strconv.Itoa3
import Derived.Test.YtpoibdhhcbelnaaGreatDoorProg
namespace Go.Proofs.YtpoibdhhcbelnaaGreatDoor
open Go.Shelf Go.RowKit
def Tryz.lays169_ren:Go.Shelf.Ren:=⟨fun | 169=>112 | n=>n,fun | 70=>198 | 9=>9 | 0=>0 | 72=>200 | 37=>150 | 127=>256 | 3=>3 | 5=>5 | n=>n,fun | n=>n⟩
def Tryz.lays156_ren:Go.Shelf.Ren:=⟨fun | 156=>113 | 165=>165 | 166=>110 | 169=>112 | 240=>164 | 241=>214 | 276=>213 | 277=>249 | n=>n,fun | 31=>26 | 9=>9 | 3=>3 | 4=>4 | 0=>0 | 20=>20 | 72=>200 | 76=>203 | 70=>198 | 37=>150 | 75=>202 | 127=>256 | 164=>284 | 5=>5 | 80=>206 | n=>n,fun | n=>n⟩
def Tryz.lays171_ren:Go.Shelf.Ren:=⟨fun | 171=>114 | 243=>166 | 246=>215 | 283=>250 | 284=>251 | 285=>252 | 286=>253 | 129=>231 | 317=>274 | 318=>275 | 319=>276 | 320=>277 | 337=>297 | 338=>238 | n=>n,fun | 3=>3 | 9=>9 | 2=>2 | 4=>4 | 171=>308 | 0=>0 | 53=>217 | 37=>150 | 5=>5 | 173=>310 | 212=>328 | 51=>298 | 20=>20 | 213=>329 | 46=>216 | 232=>351 | 233=>324 | n=>n,fun | 17=>4 | 18=>5 | 19=>2 | n=>n⟩
theorem Tryz.lays171:Go.Proofs.Lays.n171 Tryz.prog Tryz.lays171_ren:={
  mixed:=by kernel_rfl
  f129:=Tryz.func231.trans (congrArg some (by kernel_rfl))
  f171:=Tryz.func114.trans (congrArg some (by kernel_rfl))
  f243:=Tryz.func166.trans (congrArg some (by kernel_rfl))
  f246:=Tryz.func215.trans (congrArg some (by kernel_rfl))
  f283:=Tryz.func250.trans (congrArg some (by kernel_rfl))
  f284:=Tryz.func251.trans (congrArg some (by kernel_rfl))
  f285:=Tryz.func252.trans (congrArg some (by kernel_rfl))
  f286:=Tryz.func253.trans (congrArg some (by kernel_rfl))
  f317:=Tryz.func274.trans (congrArg some (by kernel_rfl))
  f318:=Tryz.func275.trans (congrArg some (by kernel_rfl))
  f319:=Tryz.func276.trans (congrArg some (by kernel_rfl))
  f320:=Tryz.func277.trans (congrArg some (by kernel_rfl))
  f337:=Tryz.func297.trans (congrArg some (by kernel_rfl))
  f338:=Tryz.func238.trans (congrArg some (by kernel_rfl))
  t0:=Tryz.underlying0
  a0:=Tryz.isAgg0
  z0:=Tryz.sizeOf0
  v0:=Tryz.zeroValue0
  t2:=Tryz.underlying2
  a2:=Tryz.isAgg2
  z2:=Tryz.sizeOf2
  v2:=Tryz.zeroValue2
  t3:=Tryz.underlying3
  a3:=Tryz.isAgg3
  z3:=Tryz.sizeOf3
  v3:=Tryz.zeroValue3
  t4:=Tryz.underlying4
  a4:=Tryz.isAgg4
  z4:=Tryz.sizeOf4
  v4:=Tryz.zeroValue4
  t5:=Tryz.underlying5
  a5:=Tryz.isAgg5
  z5:=Tryz.sizeOf5
  v5:=Tryz.zeroValue5
  t9:=Tryz.underlying9
  a9:=Tryz.isAgg9
  z9:=Tryz.sizeOf9
  v9:=Tryz.zeroValue9
  t20:=Tryz.underlying20
  a20:=Tryz.isAgg20
  z20:=Tryz.sizeOf20
  v20:=Tryz.zeroValue20
  t37:=Tryz.underlying150
  a37:=Tryz.isAgg150
  z37:=Tryz.sizeOf150
  v37:=Tryz.zeroValue150
  t46:=Tryz.underlying216
  a46:=Tryz.isAgg216
  z46:=Tryz.sizeOf216
  v46:=Tryz.zeroValue216
  t51:=Tryz.underlying298
  a51:=Tryz.isAgg298
  z51:=Tryz.sizeOf298
  v51:=Tryz.zeroValue298
  t53:=Tryz.underlying217
  a53:=Tryz.isAgg217
  z53:=Tryz.sizeOf217
  v53:=Tryz.zeroValue217
  t171:=Tryz.underlying308
  a171:=Tryz.isAgg308
  z171:=Tryz.sizeOf308
  v171:=Tryz.zeroValue308
  t173:=Tryz.underlying310
  a173:=Tryz.isAgg310
  z173:=Tryz.sizeOf310
  v173:=Tryz.zeroValue310
  t212:=Tryz.underlying328
  a212:=Tryz.isAgg328
  z212:=Tryz.sizeOf328
  v212:=Tryz.zeroValue328
  t213:=Tryz.underlying329
  a213:=Tryz.isAgg329
  z213:=Tryz.sizeOf329
  t232:=Tryz.underlying351
  a232:=Tryz.isAgg351
  z232:=Tryz.sizeOf351
  v232:=Tryz.zeroValue351
  t233:=Tryz.underlying324
  a233:=Tryz.isAgg324
  z233:=Tryz.sizeOf324
  v233:=Tryz.zeroValue324
  g17:=by kernel_rfl
  g18:=by kernel_rfl
  g19:=by kernel_rfl }
end Go.Proofs.YtpoibdhhcbelnaaGreatDoor
