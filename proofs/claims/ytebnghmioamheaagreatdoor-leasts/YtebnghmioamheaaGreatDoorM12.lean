import Derived.ProofKit
import Derived.PinnedBridge
import Derived.Lib.LaidU8T
import Derived.Test.YtebnghmioamheaaGreatDoorRows
import Derived.Test.YtebnghmioamheaaGreatDoorM11
set_option linter.all false
namespace Go.Proofs.YtebnghmioamheaaGreatDoor
open Go.RowKit Go.Shelf Go.Lib
theorem SC:ownKnob Tryz.prog.godebug=none:=by kernel_rfl
theorem VS:U8Extra Tryz.prog ni:=⟨by kernel_rfl,by kernel_rfl,by kernel_rfl,by kernel_rfl,by kernel_rfl,by kernel_rfl,by kernel_rfl⟩
theorem Pg:(Rows.laid_unicode_utf8_acceptRanges:DataW Unit)=Lib.acceptData:=by kernel_rfl
theorem VT {W:World}(hT:Lib.Utf8Tabs 0 1 W)(hs:7<=W.heap.size):jz W :=
 ⟨hs,λe a=>⟨λc d=>(zP (w:=W) (a 0 (by decide))).trans (hT.1 c d),λi b=>⟨(zP (w:=W) (a 1 (by decide))).trans (hT.2 i b).1,(zP (w:=W) (a 1 (by decide))).trans (hT.2 i b).2⟩⟩⟩
theorem XA {W:World}{n:String}{cs:Array Value}{g:Nat}(hg:Tryz.prog.globalNamed n=some g)(hvar:W.var? Tryz.prog n=some cs):g<W.heap.size:=by
 rcases Nat.lt_or_ge g W.heap.size with h|h
 ·exact h
 ·simp only[World.var?,hg,Option.bind_some,xI h]at hvar;cases hvar
