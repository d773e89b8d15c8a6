/- What the tables that the rows of package bramblekeep list give the walks. -/
import Derived.Test.YtpoibdhhcbelnaaGreatDoorM27
import Derived.Test.YtpoibdhhcbelnaaGreatDoorM45
namespace Go.Proofs.YtpoibdhhcbelnaaGreatDoor
open Go.RowKit Go.Shelf Go.Lib
theorem pow_eq:(Rows.laid_internal_strconv_uint64pow10:DataW Unit)=Lib.tabData .u64 Lib.pow10Tab:=by kernel_rfl
theorem pow_tab {W : World} (h : Lib.VarReads Tryz.prog W "internal/strconv.uint64pow10" Rows.laid_internal_strconv_uint64pow10) : PowT W := by
  rw [pow_eq] at h
  obtain ⟨g,t,cs,fuel,p,hg,hty,hvar,hd⟩:=h
  obtain rfl:g=4:=Option.some.inj (hg.symm.trans (by kernel_rfl))
  obtain rfl:t=328:=Option.some.inj (hty.symm.trans (by kernel_rfl))
  have hcs:=Lib.cells_of_tab Tryz.underlying328 (by kernel_rfl) (by kernel_rfl) (by kernel_rfl) hd
  unfold PowT Lib.TabIs
  rw [hvar,<- hcs]
theorem tabs_logic {W:World}(hL:laidMet Tryz.prog Rows.logicRow.laid W):ATab W:=by
  have hT:Lib.Utf8Tabs 0 1 W:=utf8Tabs_of_readsT (U8Types.of260 Tryz.lays260) Tryz.u8 (Pinned.utf8First_eq▸Lib.laidMet.reads hL (.tail _ (.tail _ (.tail _ (.tail _ (.tail _ (.head _))))))) (accept_eq▸Lib.laidMet.reads hL (.tail _ (.tail _ (.tail _ (.head _)))))
  have h7:7<=W.heap.size:=by
    obtain ⟨g,t,cs,fuel,p,hg,hty,hvar,hd⟩:=Lib.laidMet.reads hL (.tail _ (.tail _ (.tail _ (.tail _ (.head _)))))
    obtain rfl:g=6:=Option.some.inj (hg.symm.trans (by kernel_rfl))
    exact var_lt hg hvar
  exact ⟨⟨tabs_mk hT h7,deb_tab (Lib.laidMet.reads hL (.tail _ (.head _)))⟩,pow_tab (Lib.laidMet.reads hL (.tail _ (.tail _ (.head _)))),h7⟩
end Go.Proofs.YtpoibdhhcbelnaaGreatDoor
