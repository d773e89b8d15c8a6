/- What the reference's small functions on places do: walks. -/
import Derived.BigRegion
import Derived.BigQuiet
import Derived.Deep.QuietTactic
import Derived.Deep.RegionHeld3
import Derived.Deep.AppendLies
import Derived.Test.YtpoibdhhcbelnaaGreatDoorM06
import Derived.Test.YtpoibdhhcbelnaaGreatDoorM02
namespace Go.Proofs.YtpoibdhhcbelnaaGreatDoor
open Go.RowKit

set_option maxRecDepth 100000 in
set_option maxHeartbeats 400000 in
theorem up_any (n : Int) (w : World) (h0 : 0 ≤ n) (h1 : n ≤ 1114111) : Calls Tryz.prog 74 #[.int .i64 n] w fun e w' => e = .returned (.int .i64 (Brm.up n)) ∧ w' = w := by
  go_enter Tryz.func74, Tryz.ntmps74
  go_wp2
  all_goals (go_ret; exact ⟨ret_int (by unfold Brm.up; (repeat' split) <;> omega), rfl⟩)

set_option maxRecDepth 100000 in
set_option maxHeartbeats 400000 in
theorem down_any (n : Int) (w : World) (h0 : 0 ≤ n) (h1 : n ≤ 1114111) : Calls Tryz.prog 325 #[.int .i64 n] w fun e w' => e = .returned (.int .i64 (Brm.down n)) ∧ w' = w := by
  go_enter Tryz.func325, Tryz.ntmps325
  go_wp2
  all_goals (go_ret; exact ⟨ret_int (by unfold Brm.down; (repeat' split) <;> omega), rfl⟩)

set_option maxRecDepth 100000 in
set_option maxHeartbeats 400000 in
theorem back_any (n : Int) (w : World) (h0 : 0 ≤ n) (h1 : n ≤ 1114111) : Calls Tryz.prog 81 #[.int .i64 n] w fun e w' => e = .returned (.int .i64 (Brm.back n)) ∧ w' = w := by
  go_enter Tryz.func81, Tryz.ntmps81
  go_wp2
  all_goals (go_ret; exact ⟨ret_int (by unfold Brm.back; (repeat' split) <;> omega), rfl⟩)

set_option maxRecDepth 100000 in
set_option maxHeartbeats 400000 in
theorem rhas_any (ao : Option Addr) (l : List (Int × Int)) (cap : Nat) (r : Int) (w : World) (hcells : Rd w ao l) (hlen : l.length ≤ 1000000) :
    Calls Tryz.prog 73 #[.slice ao l.length cap, .int .i64 r] w fun e w' => e = .returned (.bool (Brm.memB l r)) ∧ w' = w := by
  have HC := hide hcells; clear hcells
  go_enter Tryz.func73, Tryz.ntmps73
  go_wp2
  go_loop [5] (fun i => ∃ k : Nat, k ≤ l.length ∧ i = .int .i64 k ∧ Brm.memB (l.take k) r = false) (fun i => l.length - (intOf i).toNat)
  case atStart => exact ⟨0, Nat.zero_le _, rfl, rfl⟩
  case round =>
    obtain ⟨k, hk, rfl, hm⟩ := hrel
    have HM := hide hm; clear hm
    by_cases hlt : k < l.length
    · obtain ⟨b, off, rfl, hb, h1, h2⟩ := unhide HC k l[k] (List.getElem?_eq_getElem hlt)
      generalize hx : l[k] = x at h1 h2
      have HX : Hid (l[k]? = some x) := by rw [List.getElem?_eq_getElem hlt, hx]; rfl
      clear hx
      obtain ⟨x1, x2⟩ := x
      simp only at h1 h2
      go_wp2
      · go_ret
        exact ⟨ret_bool (mem_of_get HX.out ((Brm.in_iff _ _).2 ⟨‹_›, ‹_›⟩)).symm, rfl⟩
      all_goals
        go_round
        case rel => exact ⟨k + 1, by omega, by go_num, by rw [mem_take_succ HX.out, HM.out, Bool.false_or, ← Bool.not_eq_true, Brm.in_iff]; simp only; omega⟩
        case measure => simp [intOf]; omega
    · go_wp2
      go_ret
      exact ⟨ret_bool (by rw [← unhide HM, List.take_of_length_le (by omega)]), rfl⟩

end Go.Proofs.YtpoibdhhcbelnaaGreatDoor
