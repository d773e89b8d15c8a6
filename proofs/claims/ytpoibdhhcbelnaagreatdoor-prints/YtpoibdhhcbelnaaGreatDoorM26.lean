/- The program's writing: how many times: walks. -/
import Derived.Test.YtpoibdhhcbelnaaGreatDoorM24
import Derived.Test.YtpoibdhhcbelnaaGreatDoorM25
namespace Go.Proofs.YtpoibdhhcbelnaaGreatDoor
open Go.RowKit Brm

theorem itoa_any (m : Int) (w : World) (h0 : 0 ≤ m) (h5 : m ≤ 5) : Calls Tryz.prog 114 #[.int .i64 m] w fun e w' => e = .returned (.string ⟨#[dig m]⟩) ∧ w' = w := by
  obtain ⟨n, rfl⟩ : ∃ n : Nat, m = (n : Int) := ⟨m.toNat, by omega⟩
  have := Tryz.strconv_Itoa_small n (by omega) w
  have e : Lib.decDigits n = [dig (n : Int)] := by
    unfold Lib.decDigits
    rw [dif_pos (by omega)]
    unfold dig
    have e2 : (48 + (n : Int)).toNat = 48 + n := by omega
    rw [e2]
  rw [e] at this
  exact this
set_option maxRecDepth 100000 in
set_option maxHeartbeats 400000 in
theorem times_star2 (w : World) : Calls Tryz.prog 62 #[.int .i64 0, .int .i64 (-1)] w fun e w' => Str (wrTimes 0 (-1)) w e w' := by
  have HE : Hid (wrTimes 0 (-1) = [42]) := by show _ = _; unfold wrTimes; repeat (first | rw [if_pos (by omega)] | rw [if_neg (by omega)])
  go_enter Tryz.func62, Tryz.ntmps62
  go_wp2
  go_ret
  exact ⟨_, rfl, by rw [HE.out]; rfl, Below.refl _ _⟩
set_option maxRecDepth 100000 in
set_option maxHeartbeats 400000 in
theorem times_plus2 (w : World) : Calls Tryz.prog 62 #[.int .i64 1, .int .i64 (-1)] w fun e w' => Str (wrTimes 1 (-1)) w e w' := by
  have HE : Hid (wrTimes 1 (-1) = [43]) := by show _ = _; unfold wrTimes; repeat (first | rw [if_pos (by omega)] | rw [if_neg (by omega)])
  go_enter Tryz.func62, Tryz.ntmps62
  go_wp2
  go_ret
  exact ⟨_, rfl, by rw [HE.out]; rfl, Below.refl _ _⟩
set_option maxRecDepth 100000 in
set_option maxHeartbeats 400000 in
theorem times_opt2 (w : World) : Calls Tryz.prog 62 #[.int .i64 0, .int .i64 1] w fun e w' => Str (wrTimes 0 1) w e w' := by
  have HE : Hid (wrTimes 0 1 = [63]) := by show _ = _; unfold wrTimes; repeat (first | rw [if_pos (by omega)] | rw [if_neg (by omega)])
  go_enter Tryz.func62, Tryz.ntmps62
  go_wp2
  go_ret
  exact ⟨_, rfl, by rw [HE.out]; rfl, Below.refl _ _⟩
set_option maxRecDepth 100000 in
set_option maxHeartbeats 400000 in
theorem times_up2 (m : Int) (h0 : 2 ≤ m) (h1 : m ≤ 5) (w : World) : Calls Tryz.prog 62 #[.int .i64 m, .int .i64 (-1)] w fun e w' => Str (wrTimes m (-1)) w e w' := by
  have HE : Hid (wrTimes m (-1) = [123, dig m, 44, 125]) := by show _ = _; unfold wrTimes; repeat (first | rw [if_pos (by omega)] | rw [if_neg (by omega)])
  have b2730 : (m == 0) = false := beq_eq_false_iff_ne.2 (by omega)
  have b8601 : (m == 1) = false := beq_eq_false_iff_ne.2 (by omega)
  have HI0 := hide (fun w => itoa_any m w (by omega) h1)
  go_enter Tryz.func62, Tryz.ntmps62
  go_wp2_with fail
  refine (HI0.out _).mono ?_
  rintro e w0 ⟨rfl, hw0⟩
  have hx0 := hw0.symm
  subst hx0
  clear hw0
  go_wp2
  go_ret
  exact ⟨_, rfl, by rw [HE.out]; rfl, Below.refl _ _⟩
set_option maxRecDepth 100000 in
set_option maxHeartbeats 400000 in
theorem times_same0 (w : World) : Calls Tryz.prog 62 #[.int .i64 0, .int .i64 0] w fun e w' => Str (wrTimes 0 0) w e w' := by
  have HE : Hid (wrTimes 0 0 = [123, dig 0, 125]) := by show _ = _; unfold wrTimes; repeat (first | rw [if_pos (by omega)] | rw [if_neg (by omega)])
  have HI0 := hide (fun w => itoa_any 0 w (by omega) (by omega))
  go_enter Tryz.func62, Tryz.ntmps62
  go_wp2_with fail
  refine (HI0.out _).mono ?_
  rintro e w0 ⟨rfl, hw0⟩
  have hx0 := hw0.symm
  subst hx0
  clear hw0
  go_wp2
  go_ret
  exact ⟨_, rfl, by rw [HE.out]; rfl, Below.refl _ _⟩
set_option maxRecDepth 100000 in
set_option maxHeartbeats 400000 in
theorem times_same1 (w : World) : Calls Tryz.prog 62 #[.int .i64 1, .int .i64 1] w fun e w' => Str (wrTimes 1 1) w e w' := by
  have HE : Hid (wrTimes 1 1 = [123, dig 1, 125]) := by show _ = _; unfold wrTimes; repeat (first | rw [if_pos (by omega)] | rw [if_neg (by omega)])
  have HI0 := hide (fun w => itoa_any 1 w (by omega) (by omega))
  go_enter Tryz.func62, Tryz.ntmps62
  go_wp2_with fail
  refine (HI0.out _).mono ?_
  rintro e w0 ⟨rfl, hw0⟩
  have hx0 := hw0.symm
  subst hx0
  clear hw0
  go_wp2
  go_ret
  exact ⟨_, rfl, by rw [HE.out]; rfl, Below.refl _ _⟩
set_option maxRecDepth 100000 in
set_option maxHeartbeats 400000 in
theorem times_same2 (m : Int) (h0 : 2 ≤ m) (h1 : m ≤ 5) (w : World) : Calls Tryz.prog 62 #[.int .i64 m, .int .i64 m] w fun e w' => Str (wrTimes m m) w e w' := by
  have HE : Hid (wrTimes m m = [123, dig m, 125]) := by show _ = _; unfold wrTimes; repeat (first | rw [if_pos (by omega)] | rw [if_neg (by omega)])
  have b2730 : (m == 0) = false := beq_eq_false_iff_ne.2 (by omega)
  have b8601 : (m == 1) = false := beq_eq_false_iff_ne.2 (by omega)
  have b9017 : (m == -1) = false := beq_eq_false_iff_ne.2 (by omega)
  have HI0 := hide (fun w => itoa_any m w (by omega) h1)
  go_enter Tryz.func62, Tryz.ntmps62
  go_wp2_with fail
  refine (HI0.out _).mono ?_
  rintro e w0 ⟨rfl, hw0⟩
  have hx0 := hw0.symm
  subst hx0
  clear hw0
  go_wp2
  go_ret
  exact ⟨_, rfl, by rw [HE.out]; rfl, Below.refl _ _⟩
set_option maxRecDepth 100000 in
set_option maxHeartbeats 400000 in
theorem times_two0 (n : Int) (h0 : 2 ≤ n) (h1 : n ≤ 5) (w : World) : Calls Tryz.prog 62 #[.int .i64 0, .int .i64 n] w fun e w' => Str (wrTimes 0 n) w e w' := by
  have HE : Hid (wrTimes 0 n = [123, dig 0, 44, dig n, 125]) := by show _ = _; unfold wrTimes; repeat (first | rw [if_pos (by omega)] | rw [if_neg (by omega)])
  have b6298 : (n == -1) = false := beq_eq_false_iff_ne.2 (by omega)
  have b4902 : (n == 1) = false := beq_eq_false_iff_ne.2 (by omega)
  have b4089 : (0 == n) = false := beq_eq_false_iff_ne.2 (by omega)
  have b3254 : (n == 0) = false := beq_eq_false_iff_ne.2 (by omega)
  have HI0 := hide (fun w => itoa_any 0 w (by omega) (by omega))
  have HI1 := hide (fun w => itoa_any n w (by omega) h1)
  go_enter Tryz.func62, Tryz.ntmps62
  go_wp2_with fail
  refine (HI0.out _).mono ?_
  rintro e w0 ⟨rfl, hw0⟩
  have hx0 := hw0.symm
  subst hx0
  clear hw0
  go_wp2_with fail
  refine (HI1.out _).mono ?_
  rintro e w1 ⟨rfl, hw1⟩
  have hx1 := hw1.symm
  subst hx1
  clear hw1
  go_wp2
  go_ret
  exact ⟨_, rfl, by rw [HE.out]; rfl, Below.refl _ _⟩
set_option maxRecDepth 100000 in
set_option maxHeartbeats 400000 in
theorem times_two1 (n : Int) (h0 : 2 ≤ n) (h1 : n ≤ 5) (w : World) : Calls Tryz.prog 62 #[.int .i64 1, .int .i64 n] w fun e w' => Str (wrTimes 1 n) w e w' := by
  have HE : Hid (wrTimes 1 n = [123, dig 1, 44, dig n, 125]) := by show _ = _; unfold wrTimes; repeat (first | rw [if_pos (by omega)] | rw [if_neg (by omega)])
  have b6298 : (n == -1) = false := beq_eq_false_iff_ne.2 (by omega)
  have b4902 : (n == 1) = false := beq_eq_false_iff_ne.2 (by omega)
  have b2536 : (1 == n) = false := beq_eq_false_iff_ne.2 (by omega)
  have HI0 := hide (fun w => itoa_any 1 w (by omega) (by omega))
  have HI1 := hide (fun w => itoa_any n w (by omega) h1)
  go_enter Tryz.func62, Tryz.ntmps62
  go_wp2_with fail
  refine (HI0.out _).mono ?_
  rintro e w0 ⟨rfl, hw0⟩
  have hx0 := hw0.symm
  subst hx0
  clear hw0
  go_wp2_with fail
  refine (HI1.out _).mono ?_
  rintro e w1 ⟨rfl, hw1⟩
  have hx1 := hw1.symm
  subst hx1
  clear hw1
  go_wp2
  go_ret
  exact ⟨_, rfl, by rw [HE.out]; rfl, Below.refl _ _⟩
set_option maxRecDepth 100000 in
set_option maxHeartbeats 400000 in
theorem times_two2 (m n : Int) (h0 : 2 ≤ m) (h2 : m < n) (h1 : n ≤ 5) (w : World) : Calls Tryz.prog 62 #[.int .i64 m, .int .i64 n] w fun e w' => Str (wrTimes m n) w e w' := by
  have HE : Hid (wrTimes m n = [123, dig m, 44, dig n, 125]) := by show _ = _; unfold wrTimes; repeat (first | rw [if_pos (by omega)] | rw [if_neg (by omega)])
  have b2730 : (m == 0) = false := beq_eq_false_iff_ne.2 (by omega)
  have b8601 : (m == 1) = false := beq_eq_false_iff_ne.2 (by omega)
  have b6298 : (n == -1) = false := beq_eq_false_iff_ne.2 (by omega)
  have b4853 : (m == n) = false := beq_eq_false_iff_ne.2 (by omega)
  have HI0 := hide (fun w => itoa_any m w (by omega) (by omega))
  have HI1 := hide (fun w => itoa_any n w (by omega) h1)
  go_enter Tryz.func62, Tryz.ntmps62
  go_wp2_with fail
  refine (HI0.out _).mono ?_
  rintro e w0 ⟨rfl, hw0⟩
  have hx0 := hw0.symm
  subst hx0
  clear hw0
  go_wp2_with fail
  refine (HI1.out _).mono ?_
  rintro e w1 ⟨rfl, hw1⟩
  have hx1 := hw1.symm
  subst hx1
  clear hw1
  go_wp2
  go_ret
  exact ⟨_, rfl, by rw [HE.out]; rfl, Below.refl _ _⟩
theorem wtimes_any (m n : Int) (w : World) (q0 : 0 ≤ m) (q1 : m ≤ 5) (q2 : n = -1 ∨ (m ≤ n ∧ n ≤ 5)) : Calls Tryz.prog 62 #[.int .i64 m, .int .i64 n] w fun e w' => Str (wrTimes m n) w e w' := by
  rcases q2 with rfl | ⟨h1, h2⟩
  · by_cases a : m = 0
    · subst a; exact times_star2 w
    by_cases a1 : m = 1
    · subst a1; exact times_plus2 w
    exact times_up2 m (by omega) q1 w
  · by_cases e : n = m
    · subst e
      by_cases a : n = 0
      · subst a; exact times_same0 w
      by_cases a1 : n = 1
      · subst a1; exact times_same1 w
      exact times_same2 n (by omega) q1 w
    · by_cases a : m = 0
      · subst a
        by_cases a1 : n = 1
        · subst a1; exact times_opt2 w
        exact times_two0 n (by omega) h2 w
      by_cases a1 : m = 1
      · subst a1; exact times_two1 n (by omega) h2 w
      exact times_two2 m n (by omega) (by omega) h2 w
end Go.Proofs.YtpoibdhhcbelnaaGreatDoor
