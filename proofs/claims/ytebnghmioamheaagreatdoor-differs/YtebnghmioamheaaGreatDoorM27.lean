import Derived.Test.YtebnghmioamheaaGreatDoorM12
import Derived.Test.YtebnghmioamheaaGreatDoorM26
set_option linter.all false
namespace Go.Proofs.YtebnghmioamheaaGreatDoor
open Go.RowKit Go.Shelf Go.Lib
theorem XW:(Rows.laid_math_bits_deBruijn64tab:DataW Unit)=Lib.tabData .u8 (Lib.deBruijn64tab.map Int.ofNat):=by kernel_rfl
theorem WH {W:World}(h:Lib.VarReads Tryz.prog W "math/bits.deBruijn64tab" Rows.laid_math_bits_deBruijn64tab):TabAt 2 Lib.deBruijn64tab W:=by
 rw[XW]at h;obtain⟨g,t,k,e,p,d,c,a,f⟩:=h;obtain rfl:g=2:=yT (d.symm.trans (by kernel_rfl));obtain rfl:t=244:=yT (c.symm.trans (by kernel_rfl));have b:=Lib.cells_of_tab Tryz.underlying244 Tryz.underlying5 (by kernel_rfl) (by kernel_rfl) f;intro j i;rw[World.var?_cell d a j,<-Array.getElem?_toList,b];simp only[zg,zB i,yw,xM,Option.getD_some];rfl
