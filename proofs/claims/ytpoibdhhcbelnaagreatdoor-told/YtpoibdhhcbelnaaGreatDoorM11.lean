/- What the listed tables give the walks. -/
import Derived.ProofKit
import Derived.PinnedBridge
import Derived.Lib.LaidU8T
import Derived.Test.YtpoibdhhcbelnaaGreatDoorRows
import Derived.Test.YtpoibdhhcbelnaaGreatDoorM10
namespace Go.Proofs.YtpoibdhhcbelnaaGreatDoor
open Go.RowKit Go.Shelf Go.Lib
theorem Tryz.own:ownKnob Tryz.prog.godebug=none:=by kernel_rfl
theorem Tryz.u8:U8Extra Tryz.prog Tryz.lays260_ren:=⟨by kernel_rfl,by kernel_rfl,by kernel_rfl,by kernel_rfl,by kernel_rfl,by kernel_rfl,by kernel_rfl⟩
theorem accept_eq:(Rows.laid_unicode_utf8_acceptRanges:DataW Unit)=Lib.acceptData:=by kernel_rfl
theorem tabs_mk {W:World}(hT:Lib.Utf8Tabs 0 1 W)(hs:7<=W.heap.size):Tabs W :=
  ⟨hs,fun W' hW=>⟨fun c hc=>(World.cell?_of_block (w:=W) (hW 0 (by decide))).trans (hT.1 c hc),fun i hi=>⟨(World.cell?_of_block (w:=W) (hW 1 (by decide))).trans (hT.2 i hi).1,(World.cell?_of_block (w:=W) (hW 1 (by decide))).trans (hT.2 i hi).2⟩⟩⟩
theorem var_lt {W:World}{n:String}{cs:Array Value}{g:Nat}(hg:Tryz.prog.globalNamed n=some g)(hvar:W.var? Tryz.prog n=some cs):g<W.heap.size:=by
  rcases Nat.lt_or_ge g W.heap.size with h | h
  · exact h
  · simp only [World.var?,hg,Option.bind_some,Array.getElem?_eq_none h] at hvar
    cases hvar
end Go.Proofs.YtpoibdhhcbelnaaGreatDoor
