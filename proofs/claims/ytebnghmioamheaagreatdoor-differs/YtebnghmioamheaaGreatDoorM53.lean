import Derived.SevenTiedAt
import Derived.Test.YtebnghmioamheaaGreatDoorCards
import Derived.Test.YtebnghmioamheaaGreatDoorM03
set_option maxHeartbeats 40000000
set_option linter.all false
namespace Go.Proofs.YtebnghmioamheaaGreatDoor
set_option maxRecDepth 100000
theorem IG:joinedFacts Tryz.pinned.checked.prog 4 Tryz.f4 Rows.differsSpec Rows.differsRow=true:=by
 unfold joinedFacts;simp only[yP]
 and_intros
 all_goals as_aux_lemma=>kernel_rfl
theorem wW:Tryz.pinned.checked.prog.funcNamed Rows.differsRow.func=some 4:=by kernel_rfl
theorem SA:Tryz.f4.isInstance Tryz.pinned.checked.prog Rows.differsRow.origin Rows.differsRow.targs:=of_decide_eq_true (by kernel_rfl)
theorem VZ:Tryz.f4.isWrapper Tryz.pinned.checked.prog Rows.differsRow.wrapper Rows.differsRow.mainSum:=by
 unfold Func.isWrapper
 first|(rw[zX (by decide +kernel)];kernel_rfl)|(rw[zR (by decide +kernel)];exact⟨rfl,rfl⟩)
theorem aaw:Rows.differsRow.wfByText (OpenSpec.ofChange Rows.differsSpec)=true:=by kernel_rfl
theorem Wz:Tryz.pinned.checked.prog.mainIs=some (Rows.differsCard.stood.harness.1,Rows.differsCard.stood.harness.2.toList):=by kernel_rfl
theorem MA:true=Tryz.pinned.checked.prog.looks []:=by kernel_rfl
theorem WA:false=Rows.differsRow.goesBy Tryz.pinned.checked.prog:=by kernel_rfl
theorem MD:([9,9,3].all λu=>!Tryz.pinned.checked.prog.wantsStandIn u)=true:=by kernel_rfl
theorem Iy:∀(j:Nat) t,Tryz.f4.params[j]?=some t->Tryz.pinned.checked.prog.wantsStandIn t=false:=by
 intro j t a;rw[Tryz.params4]at a;have b:t∈[9,9,3]:=by simpa using Array.mem_of_getElem? a
 simpa using List.all_eq_true.1 MD t b
