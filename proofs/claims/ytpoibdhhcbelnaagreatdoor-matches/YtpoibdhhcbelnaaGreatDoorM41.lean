/- The closed facts of the row of Matches, one by one. -/
import Derived.JoinedOf
import Derived.SevenTiedAt
import Derived.KernelRfl
import Derived.Test.YtpoibdhhcbelnaaGreatDoorRows
import Derived.Test.YtpoibdhhcbelnaaGreatDoorCards
namespace Go.Proofs.YtpoibdhhcbelnaaGreatDoor
set_option maxRecDepth 100000

set_option maxHeartbeats 40000000 in
theorem matches_facts : joinedFacts Tryz.pinned.checked.prog 4 Tryz.f4 Rows.matchesSpec Rows.matchesRow = true := by
  unfold joinedFacts
  simp only [Bool.and_eq_true]
  and_intros
  all_goals as_aux_lemma => kernel_rfl
theorem matches_named : Tryz.pinned.checked.prog.funcNamed Rows.matchesRow.func = some 4 := by kernel_rfl
theorem matches_inst : Tryz.f4.isInstance Tryz.pinned.checked.prog Rows.matchesRow.origin Rows.matchesRow.targs := of_decide_eq_true (by kernel_rfl)
theorem matches_wrap : Tryz.f4.isWrapper Tryz.pinned.checked.prog Rows.matchesRow.wrapper Rows.matchesRow.mainSum := by
  unfold Func.isWrapper
  first | (rw [if_pos (by decide +kernel)]; kernel_rfl) | (rw [if_neg (by decide +kernel)]; exact ⟨rfl, rfl⟩)
theorem matches_wf : Rows.matchesRow.wfByText (OpenSpec.ofChange Rows.matchesSpec) = true := by kernel_rfl
theorem matches_main : Tryz.pinned.checked.prog.mainIs = some (Rows.matchesCard.stood.harness.1, Rows.matchesCard.stood.harness.2.toList) := by kernel_rfl
theorem matches_looks : true = Tryz.pinned.checked.prog.looks [] := by kernel_rfl
theorem matches_goes : false = Rows.matchesRow.goesBy Tryz.pinned.checked.prog := by kernel_rfl
theorem matches_stand : ([9, 26].all fun u => !Tryz.pinned.checked.prog.wantsStandIn u) = true := by kernel_rfl
theorem matches_params : ∀ (j : Nat) t, Tryz.f4.params[j]? = some t → Tryz.pinned.checked.prog.wantsStandIn t = false := by
  intro j t ht
  rw [Tryz.params4] at ht
  have hm : t ∈ [9, 26] := by simpa using Array.mem_of_getElem? ht
  simpa using List.all_eq_true.1 matches_stand t hm
end Go.Proofs.YtpoibdhhcbelnaaGreatDoor
