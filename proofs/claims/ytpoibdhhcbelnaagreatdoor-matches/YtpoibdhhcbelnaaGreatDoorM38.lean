/- What the tables that the row of Matches lists give the walks. -/
import Derived.Test.YtpoibdhhcbelnaaGreatDoorM12
import Derived.Test.YtpoibdhhcbelnaaGreatDoorM37
namespace Go.Proofs.YtpoibdhhcbelnaaGreatDoor
open Go.RowKit Go.Shelf Go.Lib

theorem deb_eq : (Rows.laid_math_bits_deBruijn64tab : DataW Unit) = Lib.tabData .u8 (Lib.deBruijn64tab.map Int.ofNat) := by kernel_rfl
theorem deb_tab {W : World} (h : Lib.VarReads Tryz.prog W "math/bits.deBruijn64tab" Rows.laid_math_bits_deBruijn64tab) : TabAt 2 Lib.deBruijn64tab W := by
  rw [deb_eq] at h
  obtain ⟨g, t, cs, fuel, p, hg, hty, hvar, hd⟩ := h
  obtain rfl : g = 2 := Option.some.inj (hg.symm.trans (by kernel_rfl))
  obtain rfl : t = 324 := Option.some.inj (hty.symm.trans (by kernel_rfl))
  have hcs := Lib.cells_of_tab Tryz.underlying324 Tryz.underlying5 (by kernel_rfl) (by kernel_rfl) hd
  intro j hj
  rw [World.var?_cell hg hvar j, ← Array.getElem?_toList, hcs]
  simp only [List.getElem?_map, List.getElem?_eq_getElem hj, Option.map_some, List.getD_eq_getElem?_getD, Option.getD_some]
  rfl
theorem tabs_matches {W : World} (hL : laidMet Tryz.prog Rows.matchesRow.laid W) : MTab W := by
  have hT : Lib.Utf8Tabs 0 1 W := utf8Tabs_of_readsT (U8Types.of260 Tryz.lays260) Tryz.u8 (Pinned.utf8First_eq ▸ Lib.laidMet.reads hL (.tail _ (.tail _ (.tail _ (.head _))))) (accept_eq ▸ Lib.laidMet.reads hL (.tail _ (.head _)))
  refine ⟨tabs_mk hT ?_, deb_tab (Lib.laidMet.reads hL (.head _))⟩
  obtain ⟨g, t, cs, fuel, p, hg, hty, hvar, hd⟩ := Lib.laidMet.reads hL (.tail _ (.tail _ (.head _)))
  obtain rfl : g = 6 := Option.some.inj (hg.symm.trans (by kernel_rfl))
  exact var_lt hg hvar
end Go.Proofs.YtpoibdhhcbelnaaGreatDoor
