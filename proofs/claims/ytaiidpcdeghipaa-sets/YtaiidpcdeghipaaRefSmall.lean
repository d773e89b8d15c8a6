/- What the reference's small functions on places do: walks. -/
import Derived.Test.YtaiidpcdeghipaaNot
import Derived.Test.YtaiidpcdeghipaaPlaces
import Derived.BigRegion
import Derived.BigQuiet
import Derived.Deep.QuietTactic
import Derived.Deep.RegionHeld3
import Derived.Deep.AppendLies
namespace Go.Proofs.Ytaiidpcdeghipaa
open Go.RowKit

set_option maxHeartbeats 400000 in
theorem up_any (n : Int) (w : World) (h0 : 0 ≤ n) (h1 : n ≤ 1114111) : Calls Try.prog 39 #[.int .i64 n] w fun e w' => e = .returned (.int .i64 (Brm.up n)) ∧ w' = w := by
  go_enter Try.func39, Try.ntmps39
  go_wp2
  all_goals (go_ret; exact ⟨ret_int (by unfold Brm.up; (repeat' split) <;> omega), rfl⟩)

set_option maxHeartbeats 400000 in
theorem down_any (n : Int) (w : World) (h0 : 0 ≤ n) (h1 : n ≤ 1114111) : Calls Try.prog 40 #[.int .i64 n] w fun e w' => e = .returned (.int .i64 (Brm.down n)) ∧ w' = w := by
  go_enter Try.func40, Try.ntmps40
  go_wp2
  all_goals (go_ret; exact ⟨ret_int (by unfold Brm.down; (repeat' split) <;> omega), rfl⟩)

set_option maxHeartbeats 400000 in
theorem back_any (n : Int) (w : World) (h0 : 0 ≤ n) (h1 : n ≤ 1114111) : Calls Try.prog 50 #[.int .i64 n] w fun e w' => e = .returned (.int .i64 (Brm.back n)) ∧ w' = w := by
  go_enter Try.func50, Try.ntmps50
  go_wp2
  all_goals (go_ret; exact ⟨ret_int (by unfold Brm.back; (repeat' split) <;> omega), rfl⟩)

set_option maxHeartbeats 400000 in
theorem rhas_any (ao : Option Addr) (l : List (Int × Int)) (cap : Nat) (r : Int) (w : World) (hcells : Rd w ao l) (hlen : l.length ≤ 1000000) :
    Calls Try.prog 41 #[.slice ao l.length cap, .int .i64 r] w fun e w' => e = .returned (.bool (Brm.memB l r)) ∧ w' = w := by
  have HC := hide hcells; clear hcells
  go_enter Try.func41, Try.ntmps41
  go_wp2
  go_loop [5] (fun i => ∃ k : Nat, k ≤ l.length ∧ i = .int .i64 k ∧ Brm.memB (l.take k) r = false) (fun i => l.length - (intOf i).toNat)
  case atStart => exact ⟨0, Nat.zero_le _, rfl, rfl⟩
  case round =>
    obtain ⟨k, hk, rfl, hm⟩ := hrel
    have HM := hide hm; clear hm
    by_cases hlt : k < l.length
    · obtain ⟨b, off, rfl, hb, h1, h2⟩ := unhide HC k l[k] (List.getElem?_eq_getElem hlt)
      generalize hx : l[k] = x at h1 h2
      have HX : Hid (l[k]? = some x) := by rw [List.getElem?_eq_getElem hlt, hx]; rfl
      clear hx
      obtain ⟨x1, x2⟩ := x
      simp only at h1 h2
      go_wp2
      · go_ret
        exact ⟨ret_bool (mem_of_get HX.out ((Brm.in_iff _ _).2 ⟨‹_›, ‹_›⟩)).symm, rfl⟩
      all_goals
        go_round
        case rel => exact ⟨k + 1, by omega, by go_num, by rw [mem_take_succ HX.out, HM.out, Bool.false_or, ← Bool.not_eq_true, Brm.in_iff]; simp only; omega⟩
        case measure => simp [intOf]; omega
    · go_wp2
      go_ret
      exact ⟨ret_bool (by rw [← unhide HM, List.take_of_length_le (by omega)]), rfl⟩

set_option maxHeartbeats 400000 in
theorem risSet_any (ao : Option Addr) (l : List (Int × Int)) (cap : Nat) (w : World) (hcells : Rd w ao l) (hlen : l.length ≤ 9223372036854775806) :
    Calls Try.prog 34 #[.slice ao l.length cap] w fun e w' => e = .returned (.bool (Brm.setB l)) ∧ Below w.heap.size w w' := by
  have HC := hide hcells; clear hcells
  go_enter Try.func34, Try.ntmps34
  go_wp2
  go_loopw [3] (fun i wr => ∃ k : Nat, k ≤ l.length ∧ i = .int .i64 k ∧ (l.take k).all Brm.okB = true ∧ Below w.heap.size w wr) (fun i _ => l.length - (intOf i).toNat)
  case atStart => exact ⟨0, Nat.zero_le _, rfl, rfl, Below.refl _ _⟩
  case round =>
    obtain ⟨k, hk, rfl, hm, hbel⟩ := hrel
    have HM := hide hm; clear hm
    have hsz := hbel.size
    by_cases hlt : k < l.length
    · obtain ⟨b, off, rfl, hb, h1, h2⟩ := unhide HC k l[k] (List.getElem?_eq_getElem hlt)
      generalize hx : l[k] = x at h1 h2
      have HX : Hid (l[k]? = some x) := by rw [List.getElem?_eq_getElem hlt, hx]; rfl
      clear hx
      obtain ⟨x1, x2⟩ := x
      simp only at h1 h2
      rw [← hbel.cell (p := ⟨b, _, none⟩) hb] at h1 h2
      have i1 : (0 : Int) ≤ (k : Int) := Int.natCast_nonneg _
      have i2 : (k : Int) < (l.length : Int) := by omega
      by_cases c1 : x1 < 0
      · go_wp2_with fail
        go_quiet (fail)
        go_wp2
        go_ret
        exact ⟨ret_bool (set_false_of HX.out (by simp [Brm.okB]; omega)).symm, below_drawn hbel⟩
      · have d1 : decide (x1 < 0) = false := by simpa using c1
        by_cases c2 : 1114111 < x2
        · go_wp2_with fail
          go_quiet (fail)
          go_wp2
          go_ret
          exact ⟨ret_bool (set_false_of HX.out (by simp [Brm.okB]; omega)).symm, below_drawn hbel⟩
        · have d2 : decide (1114111 < x2) = false := by simpa using c2
          by_cases c3 : x2 < x1
          · go_wp2_with fail
            go_quiet (fail)
            go_wp2
            go_ret
            exact ⟨ret_bool (set_false_of HX.out (by simp [Brm.okB]; omega)).symm, below_drawn hbel⟩
          · have d3 : decide (x2 < x1) = false := by simpa using c3
            go_wp2_with fail
            go_quiet (fail)
            go_wp2
            go_roundw
            case rel => exact ⟨k + 1, by omega, by go_num, by rw [all_take_succ HX.out, HM.out, Bool.true_and]; simp [Brm.okB]; omega, below_drawn hbel⟩
            case measure => simp [intOf]; omega
    · have HT : Hid (Brm.setB l = decide (l.length ≤ 40)) := by
        have := HM.out
        rw [List.take_of_length_le (by omega)] at this
        show Brm.setB l = _
        unfold Brm.setB; rw [this, Bool.and_true]
      go_wp2
      go_ret
      exact ⟨ret_bool (by rw [HT.out]; simp; omega), hbel⟩
end Go.Proofs.Ytaiidpcdeghipaa
