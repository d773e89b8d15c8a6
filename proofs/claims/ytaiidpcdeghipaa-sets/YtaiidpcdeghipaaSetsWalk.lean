/- The law Sets: at all slices of ranges and every number it answers true: a walk out of the contracts. -/
import Derived.Test.YtaiidpcdeghipaaSetCall
namespace Go.Proofs.Ytaiidpcdeghipaa
open Go.RowKit

def first3 : List (Int × Int) := [(5, 9), (1, 3), (4, 4)]
theorem first3_form {L : List (Int × Int)} (h : Brm.IsForm first3 L) : L = [(1, 9)] := by
  refine Brm.canon_unique L [(1, 9)] h.1 ⟨fun x hx => by simp at hx; subst hx; exact ⟨by decide, by decide, by decide⟩, by simp⟩ fun r hr => ?_
  rw [h.2 r hr, Bool.eq_iff_iff, Brm.mem_true, Brm.mem_true]
  simp [first3]
  omega

set_option maxRecDepth 100000 in
set_option maxHeartbeats 1000000 in
theorem sets_walk (W : World) (vx vy : Value) (x y : List (Int × Int)) (r : Int) (hx : ArgIn W vx x) (hy : ArgIn W vy y) :
    Calls Try.prog 3 #[vx, vy, .int .i64 r] W fun e w' => e = .returned (.bool true) ∧ Below W.heap.size W w' := by
  have HX := hide hx; have HY := hide hy
  clear hx hy
  have hb0 : Below W.heap.size W (W.alloc (.cells #[.int .i64 5, .int .i64 9, .int .i64 1, .int .i64 3, .int .i64 4, .int .i64 4] 27)) := (Below.refl _ W).alloc (Nat.le_refl _) _
  have hrd : Rd (W.alloc (.cells #[.int .i64 5, .int .i64 9, .int .i64 1, .int .i64 3, .int .i64 4, .int .i64 4] 27)) (some ⟨W.heap.size, 0, none⟩) first3 := by
    intro i z hz
    match i, hz with
    | 0, hz => simp [first3] at hz; subst hz; exact ⟨_, _, rfl, by simp, by simp, by simp⟩
    | 1, hz => simp [first3] at hz; subst hz; exact ⟨_, _, rfl, by simp, by simp, by simp⟩
    | 2, hz => simp [first3] at hz; subst hz; exact ⟨_, _, rfl, by simp, by simp, by simp⟩
    | i + 3, hz => simp [first3] at hz
  have HN := hide (norm_yes (some ⟨W.heap.size, 0, none⟩) first3 3 _ hrd (by decide))
  have HB0 := hide hb0
  have hgd := Try.guard27
  have hne := neq_same 1 9
  clear hrd hb0
  go_enter Try.func3, Try.ntmps3
  go_wp2_with fail
  refine HN.out.mono ?_
  rintro e w1 ⟨v1, rfl, L, ⟨f1, _⟩, o1, b1⟩
  have e1 := first3_form f1
  subst e1
  have k1 : Below W.heap.size W w1 := HB0.out.trans (b1.mono HB0.out.size)
  obtain ⟨g, cap, rfl, hg1, hg2⟩ := own_form (n := 0) o1
  have c0 : w1.cell? ⟨g, 0, none⟩ = some (.int .i64 1) := by rw [o1.cellAt 0 (by simp)]; rfl
  have c1 : w1.cell? ⟨g, 1, none⟩ = some (.int .i64 9) := by rw [o1.cellAt 1 (by simp)]; rfl
  clear o1 f1 b1
  have K1 := hide k1; clear k1
  go_wp2
  have hbk0 : BookAt (w1.alloc (.cells #[.slice none 0 0] 31)) W.heap.size w1.heap.size (.slice none 0 0) [] :=
    ⟨heap_alloc_new w1 _, K1.out.size, World.ownsRow_nil _ _ _ _, fun j e hj => by simp at hj⟩
  have K2 := hide (K1.out.alloc K1.out.size (.cells #[.slice none 0 0] 31))
  have HBK := hide hbk0
  clear hbk0 c0 c1
  go_loopw [10] (fun i wr => ∃ (k : Nat) (bv : Value) (es : List Value), k ≤ 10 ∧ i = .int .i64 k ∧ es.length = 4 * k ∧ BookAt wr W.heap.size w1.heap.size bv es ∧ Below W.heap.size W wr) (fun i _ => 10 - (intOf i).toNat)
  case atStart => exact ⟨0, _, [], by omega, rfl, rfl, HBK.out, K2.out⟩
  case round =>
    obtain ⟨k, bv, es, hk, rfl, hes, hbk, hbel⟩ := hrel
    have HES := hide hes; have HBk := hide hbk; have HBel := hide hbel
    clear hes hbk hbel
    by_cases hlt : k < 10
    · go_wp2_with fail
      refine (setCall_any W _ w1.heap.size k _ r vx vy bv x y es HX.out HY.out HBel.out HBk.out HES.out (by omega)).mono ?_
      rintro e w3 ⟨rfl, bv3, es3, hes3, bk3, b3⟩
      have H3 : Hid (es3.length = 4 * (k + 1)) := by show _ = _; have := HES.out; omega
      have BK3 := hide bk3
      have B3 := hide b3
      clear hes3 bk3 b3
      go_wp2
      go_roundw
      case rel => exact ⟨k + 1, bv3, es3, by omega, by go_num, H3.out, BK3.out, B3.out⟩
      case measure => simp [intOf]; omega
    · go_wp2
      go_ret
      exact ⟨rfl, HBel.out⟩
end Go.Proofs.Ytaiidpcdeghipaa
