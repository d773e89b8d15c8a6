/- The closed facts of the row of Prints, one by one. -/
import Derived.JoinedOf
import Derived.SevenTiedAt
import Derived.KernelRfl
import Derived.Test.YtpoibdhhcbelnaaGreatDoorRows
import Derived.Test.YtpoibdhhcbelnaaGreatDoorCards
namespace Go.Proofs.YtpoibdhhcbelnaaGreatDoor
set_option maxRecDepth 100000

set_option maxHeartbeats 40000000 in
theorem prints_facts : joinedFacts Tryz.pinned.checked.prog 3 Tryz.f3 Rows.printsSpec Rows.printsRow = true := by
  unfold joinedFacts
  simp only [Bool.and_eq_true]
  and_intros
  all_goals as_aux_lemma => kernel_rfl
theorem prints_named : Tryz.pinned.checked.prog.funcNamed Rows.printsRow.func = some 3 := by kernel_rfl
theorem prints_inst : Tryz.f3.isInstance Tryz.pinned.checked.prog Rows.printsRow.origin Rows.printsRow.targs := of_decide_eq_true (by kernel_rfl)
theorem prints_wrap : Tryz.f3.isWrapper Tryz.pinned.checked.prog Rows.printsRow.wrapper Rows.printsRow.mainSum := by
  unfold Func.isWrapper
  first | (rw [if_pos (by decide +kernel)]; kernel_rfl) | (rw [if_neg (by decide +kernel)]; exact ⟨rfl, rfl⟩)
theorem prints_wf : Rows.printsRow.wfByText (OpenSpec.ofChange Rows.printsSpec) = true := by kernel_rfl
theorem prints_main : Tryz.pinned.checked.prog.mainIs = some (Rows.printsCard.stood.harness.1, Rows.printsCard.stood.harness.2.toList) := by kernel_rfl
theorem prints_looks : true = Tryz.pinned.checked.prog.looks [] := by kernel_rfl
theorem prints_goes : false = Rows.printsRow.goesBy Tryz.pinned.checked.prog := by kernel_rfl
theorem prints_stand : ([9].all fun u => !Tryz.pinned.checked.prog.wantsStandIn u) = true := by kernel_rfl
theorem prints_params : ∀ (j : Nat) t, Tryz.f3.params[j]? = some t → Tryz.pinned.checked.prog.wantsStandIn t = false := by
  intro j t ht
  rw [Tryz.params3] at ht
  have hm : t ∈ [9] := by simpa using Array.mem_of_getElem? ht
  simpa using List.all_eq_true.1 prints_stand t hm
end Go.Proofs.YtpoibdhhcbelnaaGreatDoor
