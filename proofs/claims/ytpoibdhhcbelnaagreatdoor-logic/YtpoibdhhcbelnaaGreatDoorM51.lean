/- The closed facts of the row of Logic, one by one. -/
import Derived.JoinedOf
import Derived.SevenTiedAt
import Derived.KernelRfl
import Derived.Test.YtpoibdhhcbelnaaGreatDoorRows
import Derived.Test.YtpoibdhhcbelnaaGreatDoorCards
namespace Go.Proofs.YtpoibdhhcbelnaaGreatDoor
set_option maxRecDepth 100000

set_option maxHeartbeats 40000000 in
theorem logic_facts : joinedFacts Tryz.pinned.checked.prog 9 Tryz.f9 Rows.logicSpec Rows.logicRow = true := by
  unfold joinedFacts
  simp only [Bool.and_eq_true]
  and_intros
  all_goals as_aux_lemma => kernel_rfl
theorem logic_named : Tryz.pinned.checked.prog.funcNamed Rows.logicRow.func = some 9 := by kernel_rfl
theorem logic_inst : Tryz.f9.isInstance Tryz.pinned.checked.prog Rows.logicRow.origin Rows.logicRow.targs := of_decide_eq_true (by kernel_rfl)
theorem logic_wrap : Tryz.f9.isWrapper Tryz.pinned.checked.prog Rows.logicRow.wrapper Rows.logicRow.mainSum := by
  unfold Func.isWrapper
  first | (rw [if_pos (by decide +kernel)]; kernel_rfl) | (rw [if_neg (by decide +kernel)]; exact ⟨rfl, rfl⟩)
theorem logic_wf : Rows.logicRow.wfByText (OpenSpec.ofChange Rows.logicSpec) = true := by kernel_rfl
theorem logic_main : Tryz.pinned.checked.prog.mainIs = some (Rows.logicCard.stood.harness.1, Rows.logicCard.stood.harness.2.toList) := by kernel_rfl
theorem logic_looks : true = Tryz.pinned.checked.prog.looks [] := by kernel_rfl
theorem logic_goes : false = Rows.logicRow.goesBy Tryz.pinned.checked.prog := by kernel_rfl
theorem logic_stand : ([48, 48, 48].all fun u => !Tryz.pinned.checked.prog.wantsStandIn u) = true := by kernel_rfl
theorem logic_params : ∀ (j : Nat) t, Tryz.f9.params[j]? = some t → Tryz.pinned.checked.prog.wantsStandIn t = false := by
  intro j t ht
  rw [Tryz.params9] at ht
  have hm : t ∈ [48, 48, 48] := by simpa using Array.mem_of_getElem? ht
  simpa using List.all_eq_true.1 logic_stand t hm
end Go.Proofs.YtpoibdhhcbelnaaGreatDoor
