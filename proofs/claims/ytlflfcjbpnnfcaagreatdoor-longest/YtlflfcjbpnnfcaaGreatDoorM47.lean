/- The closed facts of the row of Longest, one by one. -/
import Derived.JoinedOf
import Derived.SevenTiedAt
import Derived.KernelRfl
import Derived.Test.YtlflfcjbpnnfcaaGreatDoorRows
import Derived.Test.YtlflfcjbpnnfcaaGreatDoorCards
namespace Go.Proofs.YtlflfcjbpnnfcaaGreatDoor
set_option maxRecDepth 100000

set_option maxHeartbeats 40000000 in
theorem longest_facts : joinedFacts Tryz.pinned.checked.prog 12 Tryz.f12 Rows.longestSpec Rows.longestRow = true := by
  unfold joinedFacts
  simp only [Bool.and_eq_true]
  and_intros
  all_goals as_aux_lemma => kernel_rfl
theorem longest_named : Tryz.pinned.checked.prog.funcNamed Rows.longestRow.func = some 12 := by kernel_rfl
theorem longest_inst : Tryz.f12.isInstance Tryz.pinned.checked.prog Rows.longestRow.origin Rows.longestRow.targs := of_decide_eq_true (by kernel_rfl)
theorem longest_wrap : Tryz.f12.isWrapper Tryz.pinned.checked.prog Rows.longestRow.wrapper Rows.longestRow.mainSum := by
  unfold Func.isWrapper
  first | (rw [if_pos (by decide +kernel)]; kernel_rfl) | (rw [if_neg (by decide +kernel)]; exact ⟨rfl, rfl⟩)
theorem longest_wf : Rows.longestRow.wfByText (OpenSpec.ofChange Rows.longestSpec) = true := by kernel_rfl
theorem longest_main : Tryz.pinned.checked.prog.mainIs = some (Rows.longestCard.stood.harness.1, Rows.longestCard.stood.harness.2.toList) := by kernel_rfl
theorem longest_looks : true = Tryz.pinned.checked.prog.looks [] := by kernel_rfl
theorem longest_goes : false = Rows.longestRow.goesBy Tryz.pinned.checked.prog := by kernel_rfl
theorem longest_stand : ([48, 48, 48].all fun u => !Tryz.pinned.checked.prog.wantsStandIn u) = true := by kernel_rfl
theorem longest_params : ∀ (j : Nat) t, Tryz.f12.params[j]? = some t → Tryz.pinned.checked.prog.wantsStandIn t = false := by
  intro j t ht
  rw [Tryz.params12] at ht
  have hm : t ∈ [48, 48, 48] := by simpa using Array.mem_of_getElem? ht
  simpa using List.all_eq_true.1 longest_stand t hm
end Go.Proofs.YtlflfcjbpnnfcaaGreatDoor
