/- The closed facts of the row of Told, one by one. -/
import Derived.JoinedOf
import Derived.SevenTiedAt
import Derived.KernelRfl
import Derived.Test.YtpoibdhhcbelnaaGreatDoorRows
import Derived.Test.YtpoibdhhcbelnaaGreatDoorCards
namespace Go.Proofs.YtpoibdhhcbelnaaGreatDoor
set_option maxRecDepth 100000
set_option maxHeartbeats 40000000 in
theorem told_facts:joinedFacts Tryz.pinned.checked.prog 11 Tryz.f11 Rows.toldSpec Rows.toldRow=true:=by
  unfold joinedFacts
  simp only [Bool.and_eq_true]
  and_intros
  all_goals as_aux_lemma=>kernel_rfl
theorem told_named:Tryz.pinned.checked.prog.funcNamed Rows.toldRow.func=some 11:=by kernel_rfl
theorem told_inst:Tryz.f11.isInstance Tryz.pinned.checked.prog Rows.toldRow.origin Rows.toldRow.targs:=of_decide_eq_true (by kernel_rfl)
theorem told_wrap:Tryz.f11.isWrapper Tryz.pinned.checked.prog Rows.toldRow.wrapper Rows.toldRow.mainSum:=by
  unfold Func.isWrapper
  first | (rw [if_pos (by decide +kernel)];kernel_rfl) | (rw [if_neg (by decide +kernel)];exact ⟨rfl,rfl⟩)
theorem told_wf:Rows.toldRow.wfByText (OpenSpec.ofChange Rows.toldSpec)=true:=by kernel_rfl
theorem told_main:Tryz.pinned.checked.prog.mainIs=some (Rows.toldCard.stood.harness.1,Rows.toldCard.stood.harness.2.toList):=by kernel_rfl
theorem told_looks:true=Tryz.pinned.checked.prog.looks []:=by kernel_rfl
theorem told_goes:false=Rows.toldRow.goesBy Tryz.pinned.checked.prog:=by kernel_rfl
theorem told_stand:([48,48,3,48].all fun u=>!Tryz.pinned.checked.prog.wantsStandIn u)=true:=by kernel_rfl
theorem told_params:∀ (j:Nat) t,Tryz.f11.params[j]?=some t->Tryz.pinned.checked.prog.wantsStandIn t=false:=by
  intro j t ht
  rw [Tryz.params11] at ht
  have hm:t∈[48,48,3,48]:=by simpa using Array.mem_of_getElem? ht
  simpa using List.all_eq_true.1 told_stand t hm
end Go.Proofs.YtpoibdhhcbelnaaGreatDoor
