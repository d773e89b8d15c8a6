/- Contracts of the library on lists of numbers, laid at this program: numbers against numbers. -/
import Derived.Shelf.Sort.Plain
import Derived.Ground.Names2Prog
import Derived.Shelf.Slices.CompactI
import Derived.Shelf.Slices.Cells
import Derived.Ground.SlgnProg
import Derived.Ground.SlgfProg
import Derived.Shelf.SlicesE.DeleteFunc
import Derived.Ground.SlgcProg
import Derived.Test.YtpoibdhhcbelnaaGreatDoorProg
namespace Go.Proofs.YtpoibdhhcbelnaaGreatDoor
open Go.Shelf Go.RowKit
def Tryz.lays189_ren:Go.Shelf.Ren:=⟨fun | 189=>132 | 125=>182 | 257=>181 | 128=>230 | 129=>231 | 294=>221 | 295=>222 | 296=>223 | 297=>224 | 298=>225 | 299=>226 | 216=>227 | 300=>228 | 301=>229 | 328=>263 | 329=>264 | 330=>265 | 331=>266 | 332=>267 | 215=>218 | 343=>283 | n=>n,fun | 28=>48 | 3=>3 | 46=>216 | 0=>0 | 51=>298 | 53=>217 | 4=>4 | 183=>292 | 182=>291 | 131=>112 | 5=>5 | 9=>9 | 218=>317 | 222=>321 | 228=>333 | 229=>208 | n=>n,fun | n=>n⟩
theorem Tryz.lays189:Go.Proofs.Lays.n189 Tryz.prog Tryz.lays189_ren:={
  mixed:=by kernel_rfl
  f125:=Tryz.func182.trans (congrArg some (by kernel_rfl))
  f128:=Tryz.func230.trans (congrArg some (by kernel_rfl))
  f129:=Tryz.func231.trans (congrArg some (by kernel_rfl))
  f189:=Tryz.func132.trans (congrArg some (by kernel_rfl))
  f215:=Tryz.func218.trans (congrArg some (by kernel_rfl))
  f216:=Tryz.func227.trans (congrArg some (by kernel_rfl))
  f257:=Tryz.func181.trans (congrArg some (by kernel_rfl))
  f294:=Tryz.func221.trans (congrArg some (by kernel_rfl))
  f295:=Tryz.func222.trans (congrArg some (by kernel_rfl))
  f296:=Tryz.func223.trans (congrArg some (by kernel_rfl))
  f297:=Tryz.func224.trans (congrArg some (by kernel_rfl))
  f298:=Tryz.func225.trans (congrArg some (by kernel_rfl))
  f299:=Tryz.func226.trans (congrArg some (by kernel_rfl))
  f300:=Tryz.func228.trans (congrArg some (by kernel_rfl))
  f301:=Tryz.func229.trans (congrArg some (by kernel_rfl))
  f328:=Tryz.func263.trans (congrArg some (by kernel_rfl))
  f329:=Tryz.func264.trans (congrArg some (by kernel_rfl))
  f330:=Tryz.func265.trans (congrArg some (by kernel_rfl))
  f331:=Tryz.func266.trans (congrArg some (by kernel_rfl))
  f332:=Tryz.func267.trans (congrArg some (by kernel_rfl))
  f343:=Tryz.func283.trans (congrArg some (by kernel_rfl))
  t0:=Tryz.underlying0
  a0:=Tryz.isAgg0
  z0:=Tryz.sizeOf0
  v0:=Tryz.zeroValue0
  t3:=Tryz.underlying3
  a3:=Tryz.isAgg3
  z3:=Tryz.sizeOf3
  v3:=Tryz.zeroValue3
  t4:=Tryz.underlying4
  a4:=Tryz.isAgg4
  z4:=Tryz.sizeOf4
  v4:=Tryz.zeroValue4
  t5:=Tryz.underlying5
  a5:=Tryz.isAgg5
  z5:=Tryz.sizeOf5
  v5:=Tryz.zeroValue5
  t9:=Tryz.underlying9
  a9:=Tryz.isAgg9
  z9:=Tryz.sizeOf9
  v9:=Tryz.zeroValue9
  t28:=Tryz.underlying48
  a28:=Tryz.isAgg48
  z28:=Tryz.sizeOf48
  v28:=Tryz.zeroValue48
  t46:=Tryz.underlying216
  a46:=Tryz.isAgg216
  z46:=Tryz.sizeOf216
  v46:=Tryz.zeroValue216
  t51:=Tryz.underlying298
  a51:=Tryz.isAgg298
  z51:=Tryz.sizeOf298
  v51:=Tryz.zeroValue298
  t53:=Tryz.underlying217
  a53:=Tryz.isAgg217
  z53:=Tryz.sizeOf217
  v53:=Tryz.zeroValue217
  t131:=Tryz.underlying112
  a131:=Tryz.isAgg112
  z131:=Tryz.sizeOf112
  v131:=Tryz.zeroValue112
  t182:=Tryz.underlying291
  a182:=Tryz.isAgg291
  z182:=Tryz.sizeOf291
  v182:=Tryz.zeroValue291
  t183:=Tryz.underlying292
  a183:=Tryz.isAgg292
  z183:=Tryz.sizeOf292
  v183:=Tryz.zeroValue292
  t218:=Tryz.underlying317
  a218:=Tryz.isAgg317
  z218:=Tryz.sizeOf317
  v218:=Tryz.zeroValue317
  t222:=Tryz.underlying321
  a222:=Tryz.isAgg321
  z222:=Tryz.sizeOf321
  v222:=Tryz.zeroValue321
  t228:=Tryz.underlying333
  a228:=Tryz.isAgg333
  z228:=Tryz.sizeOf333
  v228:=Tryz.zeroValue333
  t229:=Tryz.underlying208
  a229:=Tryz.isAgg208
  z229:=Tryz.sizeOf208
  v229:=Tryz.zeroValue208 }
open Go.Sort Go.RowKit in
theorem Tryz.slices_Sort_int (blk off cap:Nat)(zs:List Int)(w:World)(hH:Holds (Value.int .i64) w blk off zs.toArray)(hblk:blk<w.heap.size)(hsz:zs.length<4611686018427387904) :
    Calls Tryz.prog 132 #[.slice (some ⟨blk,off,none⟩) zs.length cap] w fun e w' =>
      e=.returned (.tuple #[])/\∃ n os,w'=grow (putRow (Value.int .i64) (Sort.ahead w n) blk off (zs.mergeSort fun x y=>decide (x<=y)).toArray) os:=Any.slices_Sort_int Tryz.lays189 blk off cap zs w hH hblk hsz
def Tryz.laysNm220_ren:Go.Shelf.Ren:=⟨fun | 20=>133 | n=>n,fun | 22=>48 | 3=>3 | 4=>4 | 0=>0 | n=>n,fun | n=>n⟩
theorem Tryz.laysNm220:Go.Proofs.Lays2.n20 Tryz.prog Tryz.laysNm220_ren:={
  mixed:=by kernel_rfl
  f20:=Tryz.func133.trans (congrArg some (by kernel_rfl))
  t0:=Tryz.underlying0
  a0:=Tryz.isAgg0
  z0:=Tryz.sizeOf0
  v0:=Tryz.zeroValue0
  t3:=Tryz.underlying3
  a3:=Tryz.isAgg3
  z3:=Tryz.sizeOf3
  v3:=Tryz.zeroValue3
  t4:=Tryz.underlying4
  a4:=Tryz.isAgg4
  z4:=Tryz.sizeOf4
  v4:=Tryz.zeroValue4
  t22:=Tryz.underlying48
  a22:=Tryz.isAgg48
  z22:=Tryz.sizeOf48
  v22:=Tryz.zeroValue48
  i3:=by kernel_rfl }
open Go.RowKit Go.Lib Go.Sort in
theorem Tryz.slices_Compact_int (blk off cap:Nat)(zs:List Int)(w:World)(hH:Holds (Value.int .i64) w blk off zs.toArray)(hsz:zs.length<=9223372036854775807)(hcap:zs.length<=cap) :
    Calls Tryz.prog 133 #[.slice (some ⟨blk,off,none⟩) zs.length cap] w fun e w'=>e=.returned (.slice (some ⟨blk,off,none⟩) (Lib.compact zs).length cap)/\∃ q,w'=putRow (Value.int .i64) (Sort.ahead w q) blk off (Lib.compact zs++List.replicate (zs.length-(Lib.compact zs).length) 0).toArray:=Any.slices_Compact_int Tryz.laysNm220 blk off cap zs w hH hsz hcap
def Tryz.laysSlE43_f133_ren:Go.Shelf.Ren:=⟨fun | 43=>133 | n=>n,fun | 22=>48 | 23=>3 | 3=>3 | 4=>4 | 0=>0 | n=>n,fun | n=>n⟩
def Tryz.laysSlH10_f134_ren:Go.Shelf.Ren:=⟨fun | 10=>134 | 6=>183 | n=>n,fun | 22=>48 | 23=>3 | 25=>88 | 3=>3 | 4=>4 | 0=>0 | n=>n,fun | n=>n⟩
theorem Tryz.laysSlH10_f134:Go.Proofs.SlLaysH.n10 Tryz.prog Tryz.laysSlH10_f134_ren:={
  mixed:=by kernel_rfl
  f6:=⟨Tryz.f183.name,by decide,Tryz.func183.trans (congrArg some (by kernel_rfl))⟩
  f10:=⟨Tryz.f134.name,by decide,Tryz.func134.trans (congrArg some (by kernel_rfl))⟩
  t0:=Tryz.underlying0
  a0:=Tryz.isAgg0
  z0:=Tryz.sizeOf0
  v0:=Tryz.zeroValue0
  t3:=Tryz.underlying3
  a3:=Tryz.isAgg3
  z3:=Tryz.sizeOf3
  v3:=Tryz.zeroValue3
  t4:=Tryz.underlying4
  a4:=Tryz.isAgg4
  z4:=Tryz.sizeOf4
  v4:=Tryz.zeroValue4
  t22:=Tryz.underlying48
  a22:=Tryz.isAgg48
  z22:=Tryz.sizeOf48
  v22:=Tryz.zeroValue48
  a23:=Tryz.isAgg3
  z23:=Tryz.sizeOf3
  t25:=Tryz.underlying88
  a25:=Tryz.isAgg88
  z25:=Tryz.sizeOf88
  v25:=Tryz.zeroValue88 }
open Go.RowKit Go.Lib Go.Sort in
theorem Tryz.slices_DeleteFunc {α:Type}[Inhabited α](enc:α->Value)(hO:OneCell enc)(p:α->Bool)(g:Nat)(lb:Array Value)(eg:∀ args w,(callFunc g args).run Tryz.prog w=.ok (.enter g args) w)(zr:α)(v23:∀ w,(zeroValue 3).run Tryz.prog w=.ok (enc zr) w)(blk off cap:Nat)(d:Array α)(w:World)(hp:PredAt Tryz.prog g lb enc p w)(hpo:PredOver Tryz.prog g lb enc p blk off d.size w)(hH:Holds enc w blk off d)(hsz:d.size<=9223372036854775807)(hcap:d.size<=cap) :
    Calls Tryz.prog 134 #[.slice (some ⟨blk,off,none⟩) d.size cap,.func (.func g) #[] lb] w fun e w'=>e=.returned (.slice (some ⟨blk,off,none⟩) (d.toList.filter fun x=>!p x).length cap)/\∃ q,w'=putRow enc (Sort.ahead w q) blk off ((d.toList.filter fun x=>!p x)++List.replicate (d.size-(d.toList.filter fun x=>!p x).length) zr).toArray:=AnyE.slices_DeleteFunc Tryz.laysSlH10_f134 enc hO p g lb eg zr v23 blk off cap d w hp hpo hH hsz hcap
end Go.Proofs.YtpoibdhhcbelnaaGreatDoor
