/- What the law's same does at two slices of one content: a walk. -/
import Derived.Test.YtaiidpcdeghipaaNot
import Derived.Laws.StructEq
import Derived.BigRegion
import Derived.BigQuiet
import Derived.Deep.QuietTactic
namespace Go.Proofs.Ytaiidpcdeghipaa
open Go.RowKit

theorem Try.struct27 : Try.prog.underlying 27 = some (.struct (Try.prog.fieldsOf 27)) := by kernel_rfl
theorem Try.stood27 : Try.prog.stoodInHeld 27 = false := by kernel_rfl
theorem Try.guard27 : Try.prog.eqGuardType Try.prog.depth 27 = false := by kernel_rfl
theorem neq_same (x1 x2 : Int) (w : World) : (binOp .neq 27 (.agg #[.int .i64 x1, .int .i64 x2]) (.agg #[.int .i64 x1, .int .i64 x2])).run Try.prog w = .ok (.bool false) w := by
  have u3 := Try.underlying3
  have a3 := Try.isAgg3
  have z3 := Try.sizeOf3
  rw [run_neq_struct, show (10000 : Nat) = 9999 + 1 from rfl, run_equalIn_agg w 9999 27 _ _ Try.struct27 Try.stood27]
  simp only [Program.fieldsOf, Try.underlying27]
  go_simp

set_option maxHeartbeats 400000 in
theorem same_any (ao bo : Option Addr) (l : List (Int × Int)) (ca cb : Nat) (w : World) (ha : Rd w ao l) (hb : Rd w bo l) (hlen : l.length ≤ 1000000) :
    Calls Try.prog 21 #[.slice ao l.length ca, .slice bo l.length cb] w fun e w' => e = .returned (.bool true) ∧ Below w.heap.size w w' := by
  have HA := hide ha; have HB := hide hb
  clear ha hb
  go_enter Try.func21, Try.ntmps21
  go_wp2
  go_loopw [5] (fun i wr => ∃ (k n : Nat), k ≤ l.length ∧ i = .int .i64 k ∧ wr = w.drewN n) (fun i _ => l.length - (intOf i).toNat)
  case atStart => exact ⟨0, 0, Nat.zero_le _, rfl, rfl⟩
  case round =>
    obtain ⟨k, n, hk, rfl, rfl⟩ := hrel
    by_cases hlt : k < l.length
    · obtain ⟨b, off, rfl, hb, h1, h2⟩ := HA.out k l[k] (List.getElem?_eq_getElem hlt)
      obtain ⟨b', off', rfl, hb', h3, h4⟩ := HB.out k l[k] (List.getElem?_eq_getElem hlt)
      generalize l[k] = x at h1 h2 h3 h4
      obtain ⟨x1, x2⟩ := x
      simp only at h1 h2 h3 h4
      have i1 : (0 : Int) ≤ (k : Int) := Int.natCast_nonneg _
      have i2 : (k : Int) < (l.length : Int) := by omega
      have hne := neq_same x1 x2
      have hgd := Try.guard27
      go_wp2_with fail
      go_quiet (fail)
      go_wp2
      go_roundw
      case rel => exact ⟨k + 1, n + nq, by omega, by go_num, rfl⟩
      case measure => simp [intOf]; omega
    · go_wp2
      go_ret
      exact ⟨rfl, below_drawn (Below.refl _ _)⟩
end Go.Proofs.Ytaiidpcdeghipaa
