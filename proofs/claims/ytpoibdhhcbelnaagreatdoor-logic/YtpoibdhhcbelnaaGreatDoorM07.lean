/- What the reference's small functions on places do: walks. -/
import Derived.BigRegion
import Derived.BigQuiet
import Derived.Deep.QuietTactic
import Derived.Deep.RegionHeld3
import Derived.Deep.AppendLies
import Derived.Test.YtpoibdhhcbelnaaGreatDoorM06
import Derived.Test.YtpoibdhhcbelnaaGreatDoorM02
namespace Go.Proofs.YtpoibdhhcbelnaaGreatDoor
open Go.RowKit

set_option maxRecDepth 100000 in
set_option maxHeartbeats 400000 in
theorem up_any (n : Int) (w : World) (h0 : 0 ≤ n) (h1 : n ≤ 1114111) : Calls Tryz.prog 74 #[.int .i64 n] w fun e w' => e = .returned (.int .i64 (Brm.up n)) ∧ w' = w := by
  go_enter Tryz.func74, Tryz.ntmps74
  go_wp2
  all_goals (go_ret; exact ⟨ret_int (by unfold Brm.up; (repeat' split) <;> omega), rfl⟩)

end Go.Proofs.YtpoibdhhcbelnaaGreatDoor
