/- The closed facts of the row of Shortest, one by one. -/
import Derived.JoinedOf
import Derived.SevenTiedAt
import Derived.KernelRfl
import Derived.Test.YtpoibdhhcbelnaaGreatDoorRows
import Derived.Test.YtpoibdhhcbelnaaGreatDoorCards
namespace Go.Proofs.YtpoibdhhcbelnaaGreatDoor
set_option maxRecDepth 100000
set_option maxHeartbeats 40000000 in
theorem shortest_facts:joinedFacts Tryz.pinned.checked.prog 10 Tryz.f10 Rows.shortestSpec Rows.shortestRow=true:=by
  unfold joinedFacts
  simp only [Bool.and_eq_true]
  and_intros
  all_goals as_aux_lemma=>kernel_rfl
theorem shortest_named:Tryz.pinned.checked.prog.funcNamed Rows.shortestRow.func=some 10:=by kernel_rfl
theorem shortest_inst:Tryz.f10.isInstance Tryz.pinned.checked.prog Rows.shortestRow.origin Rows.shortestRow.targs:=of_decide_eq_true (by kernel_rfl)
theorem shortest_wrap:Tryz.f10.isWrapper Tryz.pinned.checked.prog Rows.shortestRow.wrapper Rows.shortestRow.mainSum:=by
  unfold Func.isWrapper
  first | (rw [if_pos (by decide +kernel)];kernel_rfl) | (rw [if_neg (by decide +kernel)];exact ⟨rfl,rfl⟩)
theorem shortest_wf:Rows.shortestRow.wfByText (OpenSpec.ofChange Rows.shortestSpec)=true:=by kernel_rfl
theorem shortest_main:Tryz.pinned.checked.prog.mainIs=some (Rows.shortestCard.stood.harness.1,Rows.shortestCard.stood.harness.2.toList):=by kernel_rfl
theorem shortest_looks:true=Tryz.pinned.checked.prog.looks []:=by kernel_rfl
theorem shortest_goes:false=Rows.shortestRow.goesBy Tryz.pinned.checked.prog:=by kernel_rfl
theorem shortest_stand:([48,3,48].all fun u=>!Tryz.pinned.checked.prog.wantsStandIn u)=true:=by kernel_rfl
theorem shortest_params:∀ (j:Nat) t,Tryz.f10.params[j]?=some t->Tryz.pinned.checked.prog.wantsStandIn t=false:=by
  intro j t ht
  rw [Tryz.params10] at ht
  have hm:t∈[48,3,48]:=by simpa using Array.mem_of_getElem? ht
  simpa using List.all_eq_true.1 shortest_stand t hm
end Go.Proofs.YtpoibdhhcbelnaaGreatDoor
