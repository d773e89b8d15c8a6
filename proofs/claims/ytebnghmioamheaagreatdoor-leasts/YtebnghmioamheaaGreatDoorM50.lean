import Derived.SevenTiedAt
import Derived.Test.YtebnghmioamheaaGreatDoorCards
import Derived.Test.YtebnghmioamheaaGreatDoorM03
set_option maxHeartbeats 40000000
set_option linter.all false
namespace Go.Proofs.YtebnghmioamheaaGreatDoor
set_option maxRecDepth 100000
theorem FV:joinedFacts Tryz.pinned.checked.prog 3 Tryz.f3 Rows.leastsSpec Rows.leastsRow=true:=by
 unfold joinedFacts;simp only[yP]
 and_intros
 all_goals as_aux_lemma=>kernel_rfl
theorem tI:Tryz.pinned.checked.prog.funcNamed Rows.leastsRow.func=some 3:=by kernel_rfl
theorem Iq:Tryz.f3.isInstance Tryz.pinned.checked.prog Rows.leastsRow.origin Rows.leastsRow.targs:=of_decide_eq_true (by kernel_rfl)
theorem Ir:Tryz.f3.isWrapper Tryz.pinned.checked.prog Rows.leastsRow.wrapper Rows.leastsRow.mainSum:=by
 unfold Func.isWrapper
 first|(rw[zX (by decide +kernel)];kernel_rfl)|(rw[zR (by decide +kernel)];exact⟨rfl,rfl⟩)
theorem PM:Rows.leastsRow.wfByText (OpenSpec.ofChange Rows.leastsSpec)=true:=by kernel_rfl
theorem Is:Tryz.pinned.checked.prog.mainIs=some (Rows.leastsCard.stood.harness.1,Rows.leastsCard.stood.harness.2.toList):=by kernel_rfl
theorem FW:true=Tryz.pinned.checked.prog.looks []:=by kernel_rfl
theorem It:false=Rows.leastsRow.goesBy Tryz.pinned.checked.prog:=by kernel_rfl
theorem FX:([9,3].all λu=>!Tryz.pinned.checked.prog.wantsStandIn u)=true:=by kernel_rfl
theorem Dx:∀(j:Nat) t,Tryz.f3.params[j]?=some t->Tryz.pinned.checked.prog.wantsStandIn t=false:=by
 intro j t a;rw[Tryz.params3]at a;have b:t∈[9,3]:=by simpa using Array.mem_of_getElem? a
 simpa using List.all_eq_true.1 FX t b
