/- What the tables that the row of Matches lists give the walks. -/
import Derived.Test.YtpoibdhhcbelnaaGreatDoorM11
import Derived.Test.YtpoibdhhcbelnaaGreatDoorM26
namespace Go.Proofs.YtpoibdhhcbelnaaGreatDoor
open Go.RowKit Go.Shelf Go.Lib
theorem deb_eq:(Rows.laid_math_bits_deBruijn64tab:DataW Unit)=Lib.tabData .u8 (Lib.deBruijn64tab.map Int.ofNat):=by kernel_rfl
theorem deb_tab {W : World} (h : Lib.VarReads Tryz.prog W "math/bits.deBruijn64tab" Rows.laid_math_bits_deBruijn64tab) : TabAt 2 Lib.deBruijn64tab W := by
  rw [deb_eq] at h
  obtain ⟨g,t,cs,fuel,p,hg,hty,hvar,hd⟩:=h
  obtain rfl:g=2:=Option.some.inj (hg.symm.trans (by kernel_rfl))
  obtain rfl:t=324:=Option.some.inj (hty.symm.trans (by kernel_rfl))
  have hcs:=Lib.cells_of_tab Tryz.underlying324 Tryz.underlying5 (by kernel_rfl) (by kernel_rfl) hd
  intro j hj
  rw [World.var?_cell hg hvar j,<- Array.getElem?_toList,hcs]
  simp only [List.getElem?_map,List.getElem?_eq_getElem hj,Option.map_some,List.getD_eq_getElem?_getD,Option.getD_some]
  rfl
end Go.Proofs.YtpoibdhhcbelnaaGreatDoor
