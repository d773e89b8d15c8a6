import Derived.RangeFuncNested
import Derived.RangeFuncBound
import Derived.OwnWalkIn
import Derived.TacticsInMore
import Derived.LoopNIn
import Derived.LoopIn
import Derived.Test.YtebnghmioamheaaGreatDoorM30
set_option maxHeartbeats 1000000
set_option linter.all false
namespace Go.Proofs.YtebnghmioamheaaGreatDoor
open Go.Shelf Go.RowKit Tryz
attribute [local go_sem] Oper.semAt_some
theorem IU (F:Fence)(n:Nat)(h5:F.fn 113)(hro:F.round=none)(a:OA)(len cap:Nat)(w:World) :
  CallsIn F n prog 113 #[.slice a len cap] w λe w'=>e=.returned (Vf 158 #[Vp w.heap.size])/\w'=w.alloc (.cells #[.slice a len cap] 110):=by
 refine callsIn_of_wp func113 rfl h5 ?_ hro;simp only[ntmps113,List.size_toArray,zG,zh,Nat.reduceAdd,Nat.reduceSub,Array.replicate_succ,Array.replicate_zero,List.push_toArray,List.append_toArray,zd,zV]
 gi_wp2
 go_ret;exact⟨rfl,rfl⟩
