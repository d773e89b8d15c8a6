/- The closed facts of the row of Reprinted, one by one. -/
import Derived.JoinedOf
import Derived.SevenTiedAt
import Derived.KernelRfl
import Derived.Test.YtpoibdhhcbelnaaGreatDoorRows
import Derived.Test.YtpoibdhhcbelnaaGreatDoorCards
namespace Go.Proofs.YtpoibdhhcbelnaaGreatDoor
set_option maxRecDepth 100000

set_option maxHeartbeats 40000000 in
theorem reprinted_facts : joinedFacts Tryz.pinned.checked.prog 8 Tryz.f8 Rows.reprintedSpec Rows.reprintedRow = true := by
  unfold joinedFacts
  simp only [Bool.and_eq_true]
  and_intros
  all_goals as_aux_lemma => kernel_rfl
theorem reprinted_named : Tryz.pinned.checked.prog.funcNamed Rows.reprintedRow.func = some 8 := by kernel_rfl
theorem reprinted_inst : Tryz.f8.isInstance Tryz.pinned.checked.prog Rows.reprintedRow.origin Rows.reprintedRow.targs := of_decide_eq_true (by kernel_rfl)
theorem reprinted_wrap : Tryz.f8.isWrapper Tryz.pinned.checked.prog Rows.reprintedRow.wrapper Rows.reprintedRow.mainSum := by
  unfold Func.isWrapper
  first | (rw [if_pos (by decide +kernel)]; kernel_rfl) | (rw [if_neg (by decide +kernel)]; exact ⟨rfl, rfl⟩)
theorem reprinted_wf : Rows.reprintedRow.wfByText (OpenSpec.ofChange Rows.reprintedSpec) = true := by kernel_rfl
theorem reprinted_main : Tryz.pinned.checked.prog.mainIs = some (Rows.reprintedCard.stood.harness.1, Rows.reprintedCard.stood.harness.2.toList) := by kernel_rfl
theorem reprinted_looks : true = Tryz.pinned.checked.prog.looks [] := by kernel_rfl
theorem reprinted_goes : false = Rows.reprintedRow.goesBy Tryz.pinned.checked.prog := by kernel_rfl
theorem reprinted_stand : ([48, 48, 9].all fun u => !Tryz.pinned.checked.prog.wantsStandIn u) = true := by kernel_rfl
theorem reprinted_params : ∀ (j : Nat) t, Tryz.f8.params[j]? = some t → Tryz.pinned.checked.prog.wantsStandIn t = false := by
  intro j t ht
  rw [Tryz.params8] at ht
  have hm : t ∈ [48, 48, 9] := by simpa using Array.mem_of_getElem? ht
  simpa using List.all_eq_true.1 reprinted_stand t hm
end Go.Proofs.YtpoibdhhcbelnaaGreatDoor
