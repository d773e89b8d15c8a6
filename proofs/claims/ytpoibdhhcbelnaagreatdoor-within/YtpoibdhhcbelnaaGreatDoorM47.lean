/- The closed facts of the row of Within, one by one. -/
import Derived.JoinedOf
import Derived.SevenTiedAt
import Derived.KernelRfl
import Derived.Test.YtpoibdhhcbelnaaGreatDoorRows
import Derived.Test.YtpoibdhhcbelnaaGreatDoorCards
namespace Go.Proofs.YtpoibdhhcbelnaaGreatDoor
set_option maxRecDepth 100000

set_option maxHeartbeats 40000000 in
theorem within_facts : joinedFacts Tryz.pinned.checked.prog 12 Tryz.f12 Rows.withinSpec Rows.withinRow = true := by
  unfold joinedFacts
  simp only [Bool.and_eq_true]
  and_intros
  all_goals as_aux_lemma => kernel_rfl
theorem within_named : Tryz.pinned.checked.prog.funcNamed Rows.withinRow.func = some 12 := by kernel_rfl
theorem within_inst : Tryz.f12.isInstance Tryz.pinned.checked.prog Rows.withinRow.origin Rows.withinRow.targs := of_decide_eq_true (by kernel_rfl)
theorem within_wrap : Tryz.f12.isWrapper Tryz.pinned.checked.prog Rows.withinRow.wrapper Rows.withinRow.mainSum := by
  unfold Func.isWrapper
  first | (rw [if_pos (by decide +kernel)]; kernel_rfl) | (rw [if_neg (by decide +kernel)]; exact ⟨rfl, rfl⟩)
theorem within_wf : Rows.withinRow.wfByText (OpenSpec.ofChange Rows.withinSpec) = true := by kernel_rfl
theorem within_main : Tryz.pinned.checked.prog.mainIs = some (Rows.withinCard.stood.harness.1, Rows.withinCard.stood.harness.2.toList) := by kernel_rfl
theorem within_looks : true = Tryz.pinned.checked.prog.looks [] := by kernel_rfl
theorem within_goes : false = Rows.withinRow.goesBy Tryz.pinned.checked.prog := by kernel_rfl
theorem within_stand : ([48, 48].all fun u => !Tryz.pinned.checked.prog.wantsStandIn u) = true := by kernel_rfl
theorem within_params : ∀ (j : Nat) t, Tryz.f12.params[j]? = some t → Tryz.pinned.checked.prog.wantsStandIn t = false := by
  intro j t ht
  rw [Tryz.params12] at ht
  have hm : t ∈ [48, 48] := by simpa using Array.mem_of_getElem? ht
  simpa using List.all_eq_true.1 within_stand t hm
end Go.Proofs.YtpoibdhhcbelnaaGreatDoor
