import Derived.Test.YtebnghmioamheaaGreatDoorM27
import Derived.Test.YtebnghmioamheaaGreatDoorM44
set_option linter.all false
namespace Go.Proofs.YtebnghmioamheaaGreatDoor
open Go.RowKit Go.Shelf Go.Lib
theorem XQ:(Rows.laid_internal_strconv_uint64pow10:DataW Unit)=Lib.tabData .u64 Lib.pow10Tab:=by kernel_rfl
theorem Wj {W:World}(h:Lib.VarReads Tryz.prog W "internal/strconv.uint64pow10" Rows.laid_internal_strconv_uint64pow10):aZ W:=by
 rw[XQ]at h;obtain⟨g,t,i,d,p,f,b,a,e⟩:=h;obtain rfl:g=3:=yT (f.symm.trans (by kernel_rfl));obtain rfl:t=264:=yT (b.symm.trans (by kernel_rfl));have c:=Lib.cells_of_tab Tryz.underlying264 (by kernel_rfl) (by kernel_rfl) (by kernel_rfl) e;unfold aZ Lib.TabIs;rw[a,<-c]
theorem Mo {W:World}(hL:laidMet Tryz.prog Rows.leastsRow.laid W):Bc W:=by
 have f:Lib.Utf8Tabs 0 1 W:=utf8Tabs_of_readsT (U8Types.of260 Ec) VS (Pinned.utf8First_eq▸Lib.laidMet.reads hL (.tail _ (.tail _ (.tail _ (.tail _ (.tail _ (.head _))))))) (Pg▸Lib.laidMet.reads hL (.tail _ (.tail _ (.tail _ (.head _)))));have b:7<=W.heap.size:=by
  obtain⟨g,t,i,d,p,c,e,a,h⟩:=Lib.laidMet.reads hL (.tail _ (.tail _ (.tail _ (.tail _ (.head _)))));obtain rfl:g=6:=yT (c.symm.trans (by kernel_rfl));exact XA c a
 exact⟨⟨VT f b,WH (Lib.laidMet.reads hL (.tail _ (.head _)))⟩,Wj (Lib.laidMet.reads hL (.tail _ (.tail _ (.head _)))),b⟩
