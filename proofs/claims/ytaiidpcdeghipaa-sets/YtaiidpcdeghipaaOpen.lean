/- How a slice of ranges that came in reads: from the row's reading to its list. -/
import Derived.Test.YtaiidpcdeghipaaRows
import Derived.Test.YtaiidpcdeghipaaSmall
import Derived.ProofKit
import Derived.OpenShut
import Derived.ShutString
import Derived.ChangeOld
import Derived.Deep.SlicePairs
namespace Go.Proofs.Ytaiidpcdeghipaa
open Go.ChangeShapes Go.WideShapes Go.ChangeAt Go.RowKit Go.Deep

theorem Try.own : ownKnob Try.prog.godebug = none := by kernel_rfl
theorem Try.laidOut : laidOutB Try.prog = true := by kernel_rfl
theorem Try.cells27 : Try.prog.cellsOf 27 = 2 := by kernel_rfl
theorem Try.cells3 : Try.prog.cellsOf 3 = 1 := by kernel_rfl

theorem open_ranges {H : Type} {enc : TypeId × Value → H} {W : World} {ao : Option Addr} {len cap fuel : Nat} {x : DataW H × List MemPlace}
    (h : DataW.trod enc Try.prog W 0 (fun _ => true) true fuel 22 [.slice ao len cap] = some x) : ∃ l : List (Int × Int), l.length = len ∧ Rd W ao l ∧ (ao = none → cap = 0) := by
  rcases open_slice_pairs Try.underlying22 Try.underlying27 Try.cells27 rfl rfl Try.cells3 Try.cells3 h with ⟨hcs, _⟩ | ⟨a, len', cap', m, n, V0, V1, D0, D1, P0, P1, hcs, _, hl, hm, hmm, _, hc⟩
  · simp at hcs
    obtain ⟨rfl, rfl, rfl⟩ := hcs
    exact ⟨[], rfl, fun i x hx => by simp at hx, fun _ => rfl⟩
  · simp at hcs
    obtain ⟨rfl, rfl, rfl⟩ := hcs
    simp only [if_true] at hmm
    subst hmm
    refine ⟨(List.range len).map fun i => (intOf (V0 i), intOf (V1 i)), by simp, fun i x hx => ?_, fun h => by cases h⟩
    simp only [List.getElem?_map] at hx
    have hi : i < len := by
      rcases Nat.lt_or_ge i len with h' | h'
      · exact h'
      · rw [List.getElem?_eq_none (by simpa using h')] at hx; simp at hx
    rw [List.getElem?_eq_getElem (by simpa using hi)] at hx
    simp at hx
    obtain ⟨h1, h2, t1, t2⟩ := hc i (by omega)
    obtain ⟨n1, e1, _, _⟩ := DataW.trod_int Try.underlying3 t1
    obtain ⟨n2, e2, _, _⟩ := DataW.trod_int Try.underlying3 t2
    simp at e1 e2
    obtain ⟨b, off, spot⟩ := a
    have hspot : spot = none := by simpa [Addr.add] using World.cell?_spot (hc 0 (by omega)).1
    subst hspot
    rw [add_plain] at h1 h2
    refine ⟨b, off, rfl, ?_, ?_, ?_⟩
    · exact World.block_lt_of_cell? W _ h1
    · rw [h1, ← hx, e1]; rfl
    · rw [Nat.add_assoc, h2, ← hx, e2]; rfl
end Go.Proofs.Ytaiidpcdeghipaa
