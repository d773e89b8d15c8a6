import Derived.Shelf.Sort.Plain
import Derived.Shelf.Slices.Cells
import Derived.Shelf.SlicesE.DeleteFunc
import Derived.Ground.SlgcProg
import Derived.Test.YtebnghmioamheaaGreatDoorProg
import Derived.Test.YtebnghmioamheaaGreatDoorM00
set_option maxRecDepth 100000
set_option linter.all false
namespace Go.Proofs.YtebnghmioamheaaGreatDoor
open Go.Shelf Go.RowKit Tryz
def wA:Go.Shelf.Ren:=⟨fun|189=>65|125=>109|257=>108|128=>153|129=>154|294=>144|295=>145|296=>146|297=>147|298=>148|299=>149|216=>150|300=>151|301=>152|328=>175|329=>176|330=>177|331=>178|332=>179|215=>140|343=>193|n=>n,fun|28=>61|3=>3|46=>182|0=>0|51=>225|53=>183|4=>4|183=>219|182=>218|131=>116|5=>5|9=>9|218=>236|222=>240|228=>252|229=>140|n=>n,fun|n=>n⟩
theorem EY:Go.Proofs.Lays.n189 prog wA:=by constructor<;>(try intro)<;>kernel_rfl
open Go.Sort Go.RowKit in
theorem qI (blk off cap:Nat)(zs:LZ)(w:World)(hH:Holds (Value.int .i64) w blk off zs.toArray)(hblk:blk<w.heap.size)(hsz:zs.length<4611686018427387904):Calls prog 65 #[.slice (some (aD blk off)) zs.length cap] w λe w'=>
   e=.returned (.tuple #[])/\∃n os,w'=grow (putRow (Value.int .i64) (Sort.ahead w n) blk off (zs.mergeSort λx y=>decide (x<=y)).toArray) os:=Any.slices_Sort_int EY blk off cap zs w hH hblk hsz
def sR:Go.Shelf.Ren:=⟨fun|20=>66|n=>n,fun|22=>61|3=>3|4=>4|0=>0|n=>n,fun|n=>n⟩
theorem Br:Go.Proofs.Lays2.n20 prog sR:=by constructor<;>(try intro)<;>kernel_rfl
open Go.RowKit Go.Lib Go.Sort in
theorem ou (blk off cap:Nat)(zs:LZ)(w:World)(hH:Holds (Value.int .i64) w blk off zs.toArray)(hsz:zs.length<=9223372036854775807)(hcap:zs.length<=cap):Calls prog 66 #[.slice (some (aD blk off)) zs.length cap] w λe w'=>e=.returned (.slice (some (aD blk off)) (Lib.compact zs).length cap)/\∃q,w'=putRow (Value.int .i64) (Sort.ahead w q) blk off (Lib.compact zs++List.replicate (zs.length-(Lib.compact zs).length) 0).toArray:=Any.slices_Compact_int Br blk off cap zs w hH hsz hcap
def GT:Go.Shelf.Ren:=⟨fun|43=>66|n=>n,fun|22=>61|23=>3|3=>3|4=>4|0=>0|n=>n,fun|n=>n⟩
def ow:Go.Shelf.Ren:=⟨fun|10=>67|6=>110|n=>n,fun|22=>61|23=>3|25=>44|3=>3|4=>4|0=>0|n=>n,fun|n=>n⟩
theorem si:Go.Proofs.SlLaysH.n10 prog ow:=by constructor<;>(try intro)<;>first|kernel_rfl|exact⟨Tryz.f110.name,by decide,func110.trans (congrArg some (by kernel_rfl))⟩|exact⟨Tryz.f67.name,by decide,func67.trans (congrArg some (by kernel_rfl))⟩
open Go.RowKit Go.Lib Go.Sort in
theorem px {α:Type}[Inhabited α](enc:α->Value)(hO:OneCell enc)(p:α->Bool)(g:Nat)(lb:Array Value)(eg:∀args w,(callFunc g args).run prog w=.ok (.enter g args) w)(zr:α)(v23:∀w,(zeroValue 3).run prog w=.ok (enc zr) w)(blk off cap:Nat)(d:Array α)(w:World)(hp:PredAt prog g lb enc p w)(hpo:PredOver prog g lb enc p blk off d.size w)(hH:Holds enc w blk off d)(hsz:d.size<=9223372036854775807)(hcap:d.size<=cap):Calls prog 67 #[.slice (some (aD blk off)) d.size cap,Vf g lb] w λe w'=>e=.returned (.slice (some (aD blk off)) (d.toList.filter λx=>!p x).length cap)/\∃q,w'=putRow enc (Sort.ahead w q) blk off ((d.toList.filter λx=>!p x)++List.replicate (d.size-(d.toList.filter λx=>!p x).length) zr).toArray:=AnyE.slices_DeleteFunc si enc hO p g lb eg zr v23 blk off cap d w hp hpo hH hsz hcap
