/- Whether two slices of ranges have one content: the reference's same, and the library's Equal: walks. -/
import Derived.Laws.StructEq
import Derived.BigRegion
import Derived.BigQuiet
import Derived.Deep.QuietTactic
import Derived.Test.YtpoibdhhcbelnaaGreatDoorM06
namespace Go.Proofs.YtpoibdhhcbelnaaGreatDoor
open Go.RowKit

theorem Tryz.struct149 : Tryz.prog.underlying 149 = some (.struct (Tryz.prog.fieldsOf 149)) := by kernel_rfl
theorem Tryz.stood149 : Tryz.prog.stoodInHeld 149 = false := by kernel_rfl
theorem Tryz.guard149 : Tryz.prog.eqGuardType Tryz.prog.depth 149 = false := by kernel_rfl
theorem neq_same (x1 x2 : Int) (w : World) : (binOp .neq 149 (.agg #[.int .i64 x1, .int .i64 x2]) (.agg #[.int .i64 x1, .int .i64 x2])).run Tryz.prog w = .ok (.bool false) w := by
  have u3 := Tryz.underlying3
  have a3 := Tryz.isAgg3
  have z3 := Tryz.sizeOf3
  rw [run_neq_struct, show (10000 : Nat) = 9999 + 1 from rfl, run_equalIn_agg w 9999 149 _ _ Tryz.struct149 Tryz.stood149]
  simp only [Program.fieldsOf, Tryz.underlying149]
  go_simp
theorem neq_diff (x1 x2 y1 y2 : Int) (h : (x1, x2) ≠ (y1, y2)) (w : World) : (binOp .neq 149 (.agg #[.int .i64 x1, .int .i64 x2]) (.agg #[.int .i64 y1, .int .i64 y2])).run Tryz.prog w = .ok (.bool true) w := by
  have u3 := Tryz.underlying3
  have a3 := Tryz.isAgg3
  have z3 := Tryz.sizeOf3
  rw [run_neq_struct, show (10000 : Nat) = 9999 + 1 from rfl, run_equalIn_agg w 9999 149 _ _ Tryz.struct149 Tryz.stood149]
  simp only [Program.fieldsOf, Tryz.underlying149]
  by_cases h1 : x1 = y1
  · subst h1
    have b2 : (x2 == y2) = false := beq_eq_false_iff_ne.2 (fun e => h (by rw [e]))
    clear h
    go_simp
  · have b1 : (x1 == y1) = false := beq_eq_false_iff_ne.2 h1
    clear h h1
    go_simp
set_option maxRecDepth 100000 in
set_option maxHeartbeats 400000 in
theorem equal_any0 (ao bo : Option Addr) (l m : List (Int × Int)) (K ca cb : Nat) (w : World) (ha : Rd w ao l) (hb : Rd w bo m) (hl : l.length = K) (hm : m.length = K) (hlen : K ≤ 1000000) :
    Calls Tryz.prog 107 #[.slice ao K ca, .slice bo K cb] w fun e w' => e = .returned (.bool (decide (l = m))) ∧ Below w.heap.size w w' := by
    have HA := hide ha; have HB := hide hb; have HL := hide hl; have HM := hide hm
    clear ha hb hl hm
    go_enter Tryz.func107, Tryz.ntmps107
    go_wp2
    go_loopw [13] (fun i wr => ∃ (k n : Nat), k ≤ K ∧ i = .int .i64 k ∧ wr = w.drewN n ∧ l.take k = m.take k) (fun i _ => K - (intOf i).toNat)
    case atStart => exact ⟨0, 0, Nat.zero_le _, rfl, rfl, rfl⟩
    case round =>
      obtain ⟨k, n, hk, rfl, rfl, htk⟩ := hrel
      have HTK := hide htk
      clear htk
      by_cases hlt0 : k < K
      · have hlt : k < m.length := by rw [HM.out]; exact hlt0
        have hlt2 : k < l.length := by rw [HL.out]; exact hlt0
        obtain ⟨b, off, rfl, hb, h1, h2⟩ := HA.out k l[k] (List.getElem?_eq_getElem hlt2)
        obtain ⟨b', off', rfl, hb', h3, h4⟩ := HB.out k m[k] (List.getElem?_eq_getElem hlt)
        have HX : Hid (l.take (k + 1) = l.take k ++ [l[k]]) := List.take_succ_eq_append_getElem hlt2
        have HY : Hid (m.take (k + 1) = m.take k ++ [m[k]]) := List.take_succ_eq_append_getElem hlt
        have HLX : Hid (l[k]? = some l[k]) := List.getElem?_eq_getElem hlt2
        have HMX : Hid (m[k]? = some m[k]) := List.getElem?_eq_getElem hlt
        generalize l[k] = x at h1 h2 HX HLX
        generalize m[k] = y at h3 h4 HY HMX
        obtain ⟨x1, x2⟩ := x
        obtain ⟨y1, y2⟩ := y
        simp only at h1 h2 h3 h4
        have i1 : (0 : Int) ≤ (k : Int) := Int.natCast_nonneg _
        have i2 : (k : Int) < (K : Int) := by omega
        have hgd := Tryz.guard149
        clear hlt2 hlt
        by_cases he : (x1, x2) = (y1, y2)
        · obtain ⟨rfl, rfl⟩ := Prod.mk.inj he
          have hne := neq_same x1 x2
          clear he
          go_wp2_with fail
          go_quiet (fail)
          go_wp2
          go_roundw
          case rel => exact ⟨k + 1, n + nq, by omega, by go_num, rfl, by rw [HX.out, HY.out, HTK.out]⟩
          case measure => simp [intOf]; omega
        · have hne := neq_diff x1 x2 y1 y2 he
          have HF : Hid (decide (l = m) = false) := by
            refine decide_eq_false (fun e => he ?_)
            have a := HLX.out
            have b := HMX.out
            rw [e, b] at a
            exact (Option.some.inj a).symm
          clear he
          go_wp2_with fail
          go_quiet (fail)
          go_wp2
          go_ret
          exact ⟨ret_bool HF.out.symm, by first | exact below_drawn (Below.refl _ _) | exact below_drawn (below_drawn (Below.refl _ _))⟩
      · have HF : Hid (decide (l = m) = true) := by
          have := HTK.out
          rw [List.take_of_length_le (by rw [HL.out]; omega), List.take_of_length_le (by rw [HM.out]; omega)] at this
          exact decide_eq_true this
        go_wp2
        go_ret
        exact ⟨ret_bool HF.out.symm, by first | exact below_drawn (Below.refl _ _) | exact below_drawn (below_drawn (Below.refl _ _))⟩
set_option maxRecDepth 100000 in
set_option maxHeartbeats 400000 in
theorem equal_any (ao bo : Option Addr) (l m : List (Int × Int)) (ca cb : Nat) (w : World) (ha : Rd w ao l) (hb : Rd w bo m) (hlem : m.length ≤ 1000000) :
    Calls Tryz.prog 107 #[.slice ao l.length ca, .slice bo m.length cb] w fun e w' => e = .returned (.bool (decide (l = m))) ∧ Below w.heap.size w w' := by
  by_cases hll : l.length = m.length
  · rw [hll]
    exact equal_any0 ao bo l m m.length ca cb w ha hb hll rfl hlem
  · have HF : Hid (decide (l = m) = false) := decide_eq_false (fun e => hll (by rw [e]))
    have hbq : ((l.length : Int) == (m.length : Int)) = false := beq_eq_false_iff_ne.2 (by omega)
    clear hll ha hb
    go_enter Tryz.func107, Tryz.ntmps107
    go_wp2
    go_ret
    exact ⟨ret_bool HF.out.symm, Below.refl _ _⟩
end Go.Proofs.YtpoibdhhcbelnaaGreatDoor
