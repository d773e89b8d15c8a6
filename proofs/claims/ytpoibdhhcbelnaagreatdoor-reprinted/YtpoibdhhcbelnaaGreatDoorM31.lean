/- Walks and plain laws, some texts in one. -/
import Derived.Test.YtpoibdhhcbelnaaGreatDoorM29
import Derived.Test.YtpoibdhhcbelnaaGreatDoorM30
import Derived.Test.YtpoibdhhcbelnaaGreatDoorM22
import Derived.Test.YtpoibdhhcbelnaaGreatDoorM24
/- The program's writing: how many times: walks. -/
namespace Go.Proofs.YtpoibdhhcbelnaaGreatDoor
open Go.RowKit Brm

theorem itoa_any (m : Int) (w : World) (h0 : 0 ≤ m) (h5 : m ≤ 5) : Calls Tryz.prog 114 #[.int .i64 m] w fun e w' => e = .returned (.string ⟨#[dig m]⟩) ∧ w' = w := by
  obtain ⟨n, rfl⟩ : ∃ n : Nat, m = (n : Int) := ⟨m.toNat, by omega⟩
  have := Tryz.strconv_Itoa_small n (by omega) w
  have e : Lib.decDigits n = [dig (n : Int)] := by
    unfold Lib.decDigits
    rw [dif_pos (by omega)]
    unfold dig
    have e2 : (48 + (n : Int)).toNat = 48 + n := by omega
    rw [e2]
  rw [e] at this
  exact this
set_option maxRecDepth 100000 in
set_option maxHeartbeats 400000 in
theorem times_star2 (w : World) : Calls Tryz.prog 62 #[.int .i64 0, .int .i64 (-1)] w fun e w' => Str (wrTimes 0 (-1)) w e w' := by
  have HE : Hid (wrTimes 0 (-1) = [42]) := by show _ = _; unfold wrTimes; repeat (first | rw [if_pos (by omega)] | rw [if_neg (by omega)])
  go_enter Tryz.func62, Tryz.ntmps62
  go_wp2
  go_ret
  exact ⟨_, rfl, by rw [HE.out]; rfl, Below.refl _ _⟩
set_option maxRecDepth 100000 in
set_option maxHeartbeats 400000 in
theorem times_plus2 (w : World) : Calls Tryz.prog 62 #[.int .i64 1, .int .i64 (-1)] w fun e w' => Str (wrTimes 1 (-1)) w e w' := by
  have HE : Hid (wrTimes 1 (-1) = [43]) := by show _ = _; unfold wrTimes; repeat (first | rw [if_pos (by omega)] | rw [if_neg (by omega)])
  go_enter Tryz.func62, Tryz.ntmps62
  go_wp2
  go_ret
  exact ⟨_, rfl, by rw [HE.out]; rfl, Below.refl _ _⟩
set_option maxRecDepth 100000 in
set_option maxHeartbeats 400000 in
theorem times_opt2 (w : World) : Calls Tryz.prog 62 #[.int .i64 0, .int .i64 1] w fun e w' => Str (wrTimes 0 1) w e w' := by
  have HE : Hid (wrTimes 0 1 = [63]) := by show _ = _; unfold wrTimes; repeat (first | rw [if_pos (by omega)] | rw [if_neg (by omega)])
  go_enter Tryz.func62, Tryz.ntmps62
  go_wp2
  go_ret
  exact ⟨_, rfl, by rw [HE.out]; rfl, Below.refl _ _⟩
set_option maxRecDepth 100000 in
set_option maxHeartbeats 400000 in
theorem times_up2 (m : Int) (h0 : 2 ≤ m) (h1 : m ≤ 5) (w : World) : Calls Tryz.prog 62 #[.int .i64 m, .int .i64 (-1)] w fun e w' => Str (wrTimes m (-1)) w e w' := by
  have HE : Hid (wrTimes m (-1) = [123, dig m, 44, 125]) := by show _ = _; unfold wrTimes; repeat (first | rw [if_pos (by omega)] | rw [if_neg (by omega)])
  have b2730 : (m == 0) = false := beq_eq_false_iff_ne.2 (by omega)
  have b8601 : (m == 1) = false := beq_eq_false_iff_ne.2 (by omega)
  have HI0 := hide (fun w => itoa_any m w (by omega) h1)
  go_enter Tryz.func62, Tryz.ntmps62
  go_wp2_with fail
  refine (HI0.out _).mono ?_
  rintro e w0 ⟨rfl, hw0⟩
  have hx0 := hw0.symm
  subst hx0
  clear hw0
  go_wp2
  go_ret
  exact ⟨_, rfl, by rw [HE.out]; rfl, Below.refl _ _⟩
set_option maxRecDepth 100000 in
set_option maxHeartbeats 400000 in
theorem times_same0 (w : World) : Calls Tryz.prog 62 #[.int .i64 0, .int .i64 0] w fun e w' => Str (wrTimes 0 0) w e w' := by
  have HE : Hid (wrTimes 0 0 = [123, dig 0, 125]) := by show _ = _; unfold wrTimes; repeat (first | rw [if_pos (by omega)] | rw [if_neg (by omega)])
  have HI0 := hide (fun w => itoa_any 0 w (by omega) (by omega))
  go_enter Tryz.func62, Tryz.ntmps62
  go_wp2_with fail
  refine (HI0.out _).mono ?_
  rintro e w0 ⟨rfl, hw0⟩
  have hx0 := hw0.symm
  subst hx0
  clear hw0
  go_wp2
  go_ret
  exact ⟨_, rfl, by rw [HE.out]; rfl, Below.refl _ _⟩
set_option maxRecDepth 100000 in
set_option maxHeartbeats 400000 in
theorem times_same1 (w : World) : Calls Tryz.prog 62 #[.int .i64 1, .int .i64 1] w fun e w' => Str (wrTimes 1 1) w e w' := by
  have HE : Hid (wrTimes 1 1 = [123, dig 1, 125]) := by show _ = _; unfold wrTimes; repeat (first | rw [if_pos (by omega)] | rw [if_neg (by omega)])
  have HI0 := hide (fun w => itoa_any 1 w (by omega) (by omega))
  go_enter Tryz.func62, Tryz.ntmps62
  go_wp2_with fail
  refine (HI0.out _).mono ?_
  rintro e w0 ⟨rfl, hw0⟩
  have hx0 := hw0.symm
  subst hx0
  clear hw0
  go_wp2
  go_ret
  exact ⟨_, rfl, by rw [HE.out]; rfl, Below.refl _ _⟩
set_option maxRecDepth 100000 in
set_option maxHeartbeats 400000 in
theorem times_same2 (m : Int) (h0 : 2 ≤ m) (h1 : m ≤ 5) (w : World) : Calls Tryz.prog 62 #[.int .i64 m, .int .i64 m] w fun e w' => Str (wrTimes m m) w e w' := by
  have HE : Hid (wrTimes m m = [123, dig m, 125]) := by show _ = _; unfold wrTimes; repeat (first | rw [if_pos (by omega)] | rw [if_neg (by omega)])
  have b2730 : (m == 0) = false := beq_eq_false_iff_ne.2 (by omega)
  have b8601 : (m == 1) = false := beq_eq_false_iff_ne.2 (by omega)
  have b9017 : (m == -1) = false := beq_eq_false_iff_ne.2 (by omega)
  have HI0 := hide (fun w => itoa_any m w (by omega) h1)
  go_enter Tryz.func62, Tryz.ntmps62
  go_wp2_with fail
  refine (HI0.out _).mono ?_
  rintro e w0 ⟨rfl, hw0⟩
  have hx0 := hw0.symm
  subst hx0
  clear hw0
  go_wp2
  go_ret
  exact ⟨_, rfl, by rw [HE.out]; rfl, Below.refl _ _⟩
set_option maxRecDepth 100000 in
set_option maxHeartbeats 400000 in
theorem times_two0 (n : Int) (h0 : 2 ≤ n) (h1 : n ≤ 5) (w : World) : Calls Tryz.prog 62 #[.int .i64 0, .int .i64 n] w fun e w' => Str (wrTimes 0 n) w e w' := by
  have HE : Hid (wrTimes 0 n = [123, dig 0, 44, dig n, 125]) := by show _ = _; unfold wrTimes; repeat (first | rw [if_pos (by omega)] | rw [if_neg (by omega)])
  have b6298 : (n == -1) = false := beq_eq_false_iff_ne.2 (by omega)
  have b4902 : (n == 1) = false := beq_eq_false_iff_ne.2 (by omega)
  have b4089 : (0 == n) = false := beq_eq_false_iff_ne.2 (by omega)
  have b3254 : (n == 0) = false := beq_eq_false_iff_ne.2 (by omega)
  have HI0 := hide (fun w => itoa_any 0 w (by omega) (by omega))
  have HI1 := hide (fun w => itoa_any n w (by omega) h1)
  go_enter Tryz.func62, Tryz.ntmps62
  go_wp2_with fail
  refine (HI0.out _).mono ?_
  rintro e w0 ⟨rfl, hw0⟩
  have hx0 := hw0.symm
  subst hx0
  clear hw0
  go_wp2_with fail
  refine (HI1.out _).mono ?_
  rintro e w1 ⟨rfl, hw1⟩
  have hx1 := hw1.symm
  subst hx1
  clear hw1
  go_wp2
  go_ret
  exact ⟨_, rfl, by rw [HE.out]; rfl, Below.refl _ _⟩
set_option maxRecDepth 100000 in
set_option maxHeartbeats 400000 in
theorem times_two1 (n : Int) (h0 : 2 ≤ n) (h1 : n ≤ 5) (w : World) : Calls Tryz.prog 62 #[.int .i64 1, .int .i64 n] w fun e w' => Str (wrTimes 1 n) w e w' := by
  have HE : Hid (wrTimes 1 n = [123, dig 1, 44, dig n, 125]) := by show _ = _; unfold wrTimes; repeat (first | rw [if_pos (by omega)] | rw [if_neg (by omega)])
  have b6298 : (n == -1) = false := beq_eq_false_iff_ne.2 (by omega)
  have b4902 : (n == 1) = false := beq_eq_false_iff_ne.2 (by omega)
  have b2536 : (1 == n) = false := beq_eq_false_iff_ne.2 (by omega)
  have HI0 := hide (fun w => itoa_any 1 w (by omega) (by omega))
  have HI1 := hide (fun w => itoa_any n w (by omega) h1)
  go_enter Tryz.func62, Tryz.ntmps62
  go_wp2_with fail
  refine (HI0.out _).mono ?_
  rintro e w0 ⟨rfl, hw0⟩
  have hx0 := hw0.symm
  subst hx0
  clear hw0
  go_wp2_with fail
  refine (HI1.out _).mono ?_
  rintro e w1 ⟨rfl, hw1⟩
  have hx1 := hw1.symm
  subst hx1
  clear hw1
  go_wp2
  go_ret
  exact ⟨_, rfl, by rw [HE.out]; rfl, Below.refl _ _⟩
set_option maxRecDepth 100000 in
set_option maxHeartbeats 400000 in
theorem times_two2 (m n : Int) (h0 : 2 ≤ m) (h2 : m < n) (h1 : n ≤ 5) (w : World) : Calls Tryz.prog 62 #[.int .i64 m, .int .i64 n] w fun e w' => Str (wrTimes m n) w e w' := by
  have HE : Hid (wrTimes m n = [123, dig m, 44, dig n, 125]) := by show _ = _; unfold wrTimes; repeat (first | rw [if_pos (by omega)] | rw [if_neg (by omega)])
  have b2730 : (m == 0) = false := beq_eq_false_iff_ne.2 (by omega)
  have b8601 : (m == 1) = false := beq_eq_false_iff_ne.2 (by omega)
  have b6298 : (n == -1) = false := beq_eq_false_iff_ne.2 (by omega)
  have b4853 : (m == n) = false := beq_eq_false_iff_ne.2 (by omega)
  have HI0 := hide (fun w => itoa_any m w (by omega) (by omega))
  have HI1 := hide (fun w => itoa_any n w (by omega) h1)
  go_enter Tryz.func62, Tryz.ntmps62
  go_wp2_with fail
  refine (HI0.out _).mono ?_
  rintro e w0 ⟨rfl, hw0⟩
  have hx0 := hw0.symm
  subst hx0
  clear hw0
  go_wp2_with fail
  refine (HI1.out _).mono ?_
  rintro e w1 ⟨rfl, hw1⟩
  have hx1 := hw1.symm
  subst hx1
  clear hw1
  go_wp2
  go_ret
  exact ⟨_, rfl, by rw [HE.out]; rfl, Below.refl _ _⟩
theorem wtimes_any (m n : Int) (w : World) (q0 : 0 ≤ m) (q1 : m ≤ 5) (q2 : n = -1 ∨ (m ≤ n ∧ n ≤ 5)) : Calls Tryz.prog 62 #[.int .i64 m, .int .i64 n] w fun e w' => Str (wrTimes m n) w e w' := by
  rcases q2 with rfl | ⟨h1, h2⟩
  · by_cases a : m = 0
    · subst a; exact times_star2 w
    by_cases a1 : m = 1
    · subst a1; exact times_plus2 w
    exact times_up2 m (by omega) q1 w
  · by_cases e : n = m
    · subst e
      by_cases a : n = 0
      · subst a; exact times_same0 w
      by_cases a1 : n = 1
      · subst a1; exact times_same1 w
      exact times_same2 n (by omega) q1 w
    · by_cases a : m = 0
      · subst a
        by_cases a1 : n = 1
        · subst a1; exact times_opt2 w
        exact times_two0 n (by omega) h2 w
      by_cases a1 : m = 1
      · subst a1; exact times_two1 n (by omega) h2 w
      exact times_two2 m n (by omega) (by omega) h2 w
end Go.Proofs.YtpoibdhhcbelnaaGreatDoor
/- The program's writing: sets: walks. -/
namespace Go.Proofs.YtpoibdhhcbelnaaGreatDoor
open Go.RowKit Brm

theorem builder_below {T e : TypeId} {B b : Nat} {p : Value} {bs : List Value} {w w' : World} (h : Lib.BuilderAt T e B b p bs w) (k : Below w.heap.size w w') : Lib.BuilderAt T e B b p bs w' := by
  obtain ⟨h1, v, hb, ho, hn⟩ := h
  exact ⟨h1, v, (k.block b (Blk.lt (cs := [p, v]) (T := T) hb)).trans hb, own_block ho (fun g hg => k.block g (ho.lt g hg).2), hn⟩
theorem cells_more (l : List UInt8) (s : ByteArray) : Lib.byteCells l ++ Lib.strCells s = Lib.byteCells (l ++ bytesOf s) := by simp [Lib.byteCells, Lib.strCells, bytesOf]
theorem set_long {q : List (Int × Int)} (hd : q ≠ dot) (h : ∀ x, q = [x] → x.1 ≠ x.2) : wrSet q = 91 :: (wrRanges q ++ [93]) := by
  unfold wrSet
  rw [if_neg hd]
  match q, h with
  | [], _ => rfl
  | [x], h => simp only; rw [if_neg (h x rfl)]
  | x :: y :: l, _ => rfl
theorem set_one {c : Int} (hd : [(c, c)] ≠ dot) : wrSet [(c, c)] = Brm.written special c := by
  unfold wrSet
  rw [if_neg hd]; simp
theorem set_dot : wrSet dot = [46] := by unfold wrSet; rw [if_pos rfl]
theorem ranges_take {q : List (Int × Int)} {k : Nat} {x : Int × Int} (h : q[k]? = some x) : wrRanges (q.take (k + 1)) = wrRanges (q.take k) ++ wrRange x := by
  have hk : k < q.length := (List.getElem?_eq_some_iff.1 h).1
  rw [List.take_succ_eq_append_getElem hk, wrRanges_snoc]
  have : q[k] = x := by rw [List.getElem?_eq_getElem hk] at h; exact Option.some.inj h
  rw [this]
set_option maxRecDepth 100000 in
set_option maxHeartbeats 1000000 in
theorem wset_dot (ao : Option Addr) (cap : Nat) (w : World) (hr : Rd w ao dot) : Calls Tryz.prog 60 #[.slice ao dot.length cap] w fun e w' => Str (wrSet dot) w e w' := by
  have HR := hide hr
  have HW := hide set_dot
  clear hr
  go_enter Tryz.func60, Tryz.ntmps60
  go_wp2_with (first
    | (go_at_call 108; refine (pdot_any _).mono ?_; rintro e w1 ⟨v1, rfl, hv1, hb1⟩; obtain ⟨bo, cb, rfl, hrd, _⟩ := hv1.sl.rd; have HB1 := hide hb1; have HRD := hide hrd; clear hv1 hb1 hrd)
    | (go_at_call 107; refine (equal_any _ _ dot _ _ _ _ (HR.out.below HB1.out) HRD.out (by decide)).mono ?_; rintro e w2 ⟨rfl, hb2⟩; have HB2 := hide hb2; clear hb2; rw [show decide (dot = dot) = true from decide_eq_true rfl]; have HB3 := hide (HB1.out.trans (HB2.out.mono HB1.out.size))))
  go_ret
  exact ⟨_, rfl, by rw [HW.out]; rfl, HB3.out⟩
set_option maxRecDepth 100000 in
set_option maxHeartbeats 1000000 in
theorem wset_one (ao : Option Addr) (c : Int) (cap : Nat) (w : World) (hc : runeB c = true) (hr : Rd w ao [(c, c)]) (hd : [(c, c)] ≠ dot) : Calls Tryz.prog 60 #[.slice ao 1 cap] w fun e w' => Str (wrSet [(c, c)]) w e w' := by
  have HR := hide hr
  have HW := hide (set_one hd)
  have HD := hide hd
  have HC := hide (fun w => wrune_special c w hc)
  clear hr hd hc
  go_enter Tryz.func60, Tryz.ntmps60
  go_wp2_with (first
    | (go_at_call 108; refine (pdot_any _).mono ?_; rintro e w1 ⟨v1, rfl, hv1, hb1⟩; obtain ⟨bo, cb, rfl, hrd, _⟩ := hv1.sl.rd; have HB1 := hide hb1; have HRD := hide hrd; clear hv1 hb1 hrd)
    | (go_at_call 107; refine (equal_any _ _ [(c, c)] _ _ _ _ (HR.out.below HB1.out) HRD.out (by decide)).mono ?_; rintro e w2 ⟨rfl, hb2⟩; have HB2 := hide hb2; clear hb2; rw [show decide ([(c, c)] = dot) = false from decide_eq_false HD.out]; have HB3 := hide (HB1.out.trans (HB2.out.mono HB1.out.size)); obtain ⟨bl, off, hao, hbl, k1, k2⟩ := HR.out.below HB3.out 0 (c, c) rfl; subst hao; simp only [Nat.zero_mul, Nat.add_zero] at k1 k2))
  go_quiet (fail)
  go_wp2_with fail
  refine (HC.out _).mono ?_
  rintro e w5 ⟨t, rfl, ht, hb5⟩
  have HT := hide ht
  have HB5 := hide hb5
  clear ht hb5
  go_wp2
  go_ret
  exact ⟨_, rfl, by rw [HW.out, HT.out], (below_drawn HB3.out).trans (HB5.out.mono (below_drawn HB3.out).size)⟩
set_option maxRecDepth 100000 in
set_option maxHeartbeats 1000000 in
theorem wset_more (ao : Option Addr) (q : List (Int × Int)) (cap : Nat) (w : World) (hq : ∀ x ∈ q, runeB x.1 = true ∧ runeB x.2 = true) (hr : Rd w ao q) (hd : q ≠ dot) (h1 : q.length ≠ 1) (hlen : q.length ≤ 100000) : Calls Tryz.prog 60 #[.slice ao q.length cap] w fun e w' => Str (wrSet q) w e w' := by
  have HR := hide hr
  have HQ := hide hq
  have HD := hide hd
  have HWE := hide (set_long hd (fun x hx _ => h1 (by rw [hx]; rfl)))
  have hb1 : ((q.length : Int) == 1) = false := beq_eq_false_iff_ne.2 (by omega)
  have hb2 : (q.length == 1) = false := beq_eq_false_iff_ne.2 h1
  have HL1 : Hid (q.length = q.length) := rfl
  clear hr hd hq h1
  go_enter Tryz.func60, Tryz.ntmps60
  go_wp2_with (first
    | (go_at_call 108; refine (pdot_any _).mono ?_; rintro e w1 ⟨v1, rfl, hv1, hb1⟩; obtain ⟨bo, cb, rfl, hrd, _⟩ := hv1.sl.rd; have HB1 := hide hb1; have HRD := hide hrd; clear hv1 hb1 hrd)
    | (go_at_call 107; refine (equal_any _ _ _ _ _ _ _ (HR.out.below HB1.out) HRD.out (by decide)).mono ?_; rintro e w2 ⟨rfl, hb2⟩; have HB2 := hide hb2; clear hb2; rw [show decide (q = dot) = false from decide_eq_false HD.out]; have HB3 := hide (HB1.out.trans (HB2.out.mono HB1.out.size))))
  go_quiet (fail)
  go_wp2_with fail
  refine (Tryz.Builder_WriteString w.heap.size w2.heap.size [] _ _ (.inl ⟨HB3.out.size, _, by exact Blk.new w2 [.pointer none, .slice none 0 0] 200, World.ownsRow_nil _ _ _ _, by simp [Value.ownBlock]⟩) (by decide) (by have := HB3.out.size; simp; omega)).mono ?_
  rintro e w3 ⟨rfl, hbu3, hb3⟩
  have HBU3 := hide hbu3
  have HB4 : Hid (Below w.heap.size w w3) := (below_drawn (HB3.out.alloc HB3.out.size _)).trans hb3
  clear hbu3 hb3
  go_wp2_with fail
  go_loopw [31] (fun i wr => ∃ (k : Nat), k ≤ q.length ∧ i = .int .i64 k ∧ Lib.BuilderAt 200 5 w.heap.size w2.heap.size (.pointer (some ⟨w2.heap.size, 0, none⟩)) (Lib.byteCells (91 :: wrRanges (q.take k))) wr ∧ Below w.heap.size w wr) (fun i _ => q.length - (intOf i).toNat)
  case atStart => exact ⟨0, Nat.zero_le _, rfl, HBU3.out, HB4.out⟩
  case round =>
    obtain ⟨k, hk, rfl, hbu, hbw⟩ := hrel
    have HBU := hide hbu
    have HBW := hide hbw
    have hlk := wrRanges_len (q.take k)
    rw [List.length_take] at hlk
    have hlk2 : (91 :: wrRanges (q.take k)).length ≤ 1100001 := by simp only [List.length_cons]; omega
    have HLK : Hid ((Lib.byteCells (91 :: wrRanges (q.take k))).length ≤ 1100001) := by show _ ≤ _; rw [Lib.byteCells, List.length_map]; exact hlk2
    have HZW := hide hbw.size
    clear hbu hbw hlk hlk2
    by_cases hlt : k < q.length
    · have hlt2 : k < q.length := by have := HL1.out; omega
      obtain ⟨b, off, hao, hb, k1, k2⟩ := HR.out.below HBW.out k q[k] (List.getElem?_eq_getElem hlt2)
      have HT2 := hide (ranges_take (List.getElem?_eq_getElem hlt2))
      have hg := HQ.out q[k] (List.getElem_mem hlt2)
      generalize q[k] = x at k1 k2 HT2 hg
      clear hlt2
      obtain ⟨a, c⟩ := x
      simp only at k1 k2 HT2 hg
      have HCR := hide (fun w => wrange_any a c w hg.1 hg.2)
      have HLR := hide (wrRange_len (a, c))
      have i1 : (0 : Int) ≤ (k : Int) := Int.natCast_nonneg _
      have i2 : (k : Int) < (q.length : Int) := by omega
      clear hg
      cases hao
      go_wp2_with fail
      refine (HCR.out _).mono ?_
      rintro e w5 ⟨t5, rfl, ht5, hb5⟩
      have HT5 := hide ht5
      have z5 : t5.size ≤ 11 := by rw [← bytes_len, ht5]; exact HLR.out
      have hbA : Below wr.heap.size wr w5 := (new1 wr (.cells #[.int .i64 a, .int .i64 c] 149)).trans (hb5.mono (by simp))
      have HBU5 := hide (builder_below HBU.out hbA)
      have HB5 := hide (HBW.out.trans (hbA.mono HBW.out.size))
      clear ht5 hb5 hbA
      go_wp2_with fail
      refine (Tryz.Builder_WriteString w.heap.size w2.heap.size _ t5 w5 (.inr HBU5.out) (by have := HLK.out; omega) HB5.out.size).mono ?_
      rintro e w6 ⟨rfl, hbu6, hb6⟩
      rw [cells_more] at hbu6
      have HBU6 := hide hbu6
      have HB6 := hide (HB5.out.trans hb6)
      clear hbu6 hb6
      go_wp2
      go_roundw
      case rel =>
        refine ⟨k + 1, by omega, by go_num, ?_, HB6.out⟩
        have := HBU6.out
        rw [HT5.out, List.cons_append, ← HT2.out] at this
        exact this
      case measure => simp [intOf]; omega
    · have hke : k = q.length := by have := HL1.out; omega
      have HKE := hide hke
      clear hke
      go_wp2_with fail
      refine (Tryz.Builder_WriteString w.heap.size w2.heap.size _ _ wr (.inr HBU.out) (by have := HLK.out; show _ + 1 ≤ _; omega) HZW.out).mono ?_
      rintro e w6 ⟨rfl, hbu6, hb6⟩
      rw [cells_more] at hbu6
      have HBU6 := hide hbu6
      have HB6 := hide (HBW.out.trans hb6)
      clear hbu6 hb6
      go_wp2_with fail
      refine (Tryz.Builder_String_any w.heap.size w2.heap.size _ w6 (.inr HBU6.out) HB6.out.size).mono ?_
      rintro e w7 ⟨rfl, hb7⟩
      have HB7 := hide (HB6.out.trans hb7)
      clear hb7
      go_wp2
      go_ret
      refine ⟨_, rfl, ?_, HB7.out⟩
      rw [bytes_str, HKE.out, List.take_length]
      rw [HWE.out]; rfl
set_option maxRecDepth 100000 in
set_option maxHeartbeats 1000000 in
theorem wset_uneq (ao : Option Addr) (x1 x2 : Int) (cap : Nat) (w : World) (hq : ∀ x ∈ [(x1, x2)], runeB x.1 = true ∧ runeB x.2 = true) (hr : Rd w ao [(x1, x2)]) (hd : [(x1, x2)] ≠ dot) (hx : x1 ≠ x2) : Calls Tryz.prog 60 #[.slice ao 1 cap] w fun e w' => Str (wrSet [(x1, x2)]) w e w' := by
  have HR := hide hr
  have HQ := hide hq
  have HD := hide hd
  have HWE := hide (set_long hd (fun x hx2 => by cases hx2; exact hx))
  have hb1 : (x1 == x2) = false := beq_eq_false_iff_ne.2 hx
  clear hr hd hq hx
  go_enter Tryz.func60, Tryz.ntmps60
  go_wp2_with (first
    | (go_at_call 108; refine (pdot_any _).mono ?_; rintro e w1 ⟨v1, rfl, hv1, hb1⟩; obtain ⟨bo, cb, rfl, hrd, _⟩ := hv1.sl.rd; have HB1 := hide hb1; have HRD := hide hrd; clear hv1 hb1 hrd)
    | (go_at_call 107; refine (equal_any _ _ [(x1, x2)] _ _ _ _ (HR.out.below HB1.out) HRD.out (by decide)).mono ?_; rintro e w2 ⟨rfl, hb2⟩; have HB2 := hide hb2; clear hb2; rw [show decide ([(x1, x2)] = dot) = false from decide_eq_false HD.out]; have HB3 := hide (HB1.out.trans (HB2.out.mono HB1.out.size)); obtain ⟨bl, off, hao, hbl, k1, k2⟩ := HR.out.below HB3.out 0 (x1, x2) rfl; subst hao; simp only [Nat.zero_mul, Nat.add_zero] at k1 k2))
  go_quiet (fail)
  go_wp2_with fail
  clear k1 k2 hbl hb1 HD
  generalize hQ : [(x1, x2)] = q at HQ HR HWE
  have HQQ := hide hQ
  have hlen1 : q.length = 1 := by rw [← hQ]; rfl
  have HL1 : Hid (q.length = 1) := hlen1
  have hlen : q.length ≤ 100000 := by omega
  clear hQ hlen1
  refine (Tryz.Builder_WriteString w.heap.size w2.heap.size [] _ _ (.inl ⟨HB3.out.size, _, by exact Blk.new w2 [.pointer none, .slice none 0 0] 200, World.ownsRow_nil _ _ _ _, by simp [Value.ownBlock]⟩) (by decide) (by have := HB3.out.size; simp; omega)).mono ?_
  rintro e w3 ⟨rfl, hbu3, hb3⟩
  have HBU3 := hide hbu3
  have HB4 : Hid (Below w.heap.size w w3) := (below_drawn (HB3.out.alloc HB3.out.size _)).trans hb3
  clear hbu3 hb3
  go_wp2_with fail
  go_loopw [31] (fun i wr => ∃ (k : Nat), k ≤ 1 ∧ i = .int .i64 k ∧ Lib.BuilderAt 200 5 w.heap.size w2.heap.size (.pointer (some ⟨w2.heap.size, 0, none⟩)) (Lib.byteCells (91 :: wrRanges (q.take k))) wr ∧ Below w.heap.size w wr) (fun i _ => 1 - (intOf i).toNat)
  case atStart => exact ⟨0, Nat.zero_le _, rfl, HBU3.out, HB4.out⟩
  case round =>
    obtain ⟨k, hk, rfl, hbu, hbw⟩ := hrel
    have HBU := hide hbu
    have HBW := hide hbw
    have hlk := wrRanges_len (q.take k)
    rw [List.length_take] at hlk
    have hlk2 : (91 :: wrRanges (q.take k)).length ≤ 1100001 := by simp only [List.length_cons]; omega
    have HLK : Hid ((Lib.byteCells (91 :: wrRanges (q.take k))).length ≤ 1100001) := by show _ ≤ _; rw [Lib.byteCells, List.length_map]; exact hlk2
    have HZW := hide hbw.size
    clear hbu hbw hlk hlk2
    by_cases hlt : k < 1
    · have hlt2 : k < q.length := by have := HL1.out; omega
      obtain ⟨b, off, hao, hb, k1, k2⟩ := HR.out.below HBW.out k q[k] (List.getElem?_eq_getElem hlt2)
      have HT2 := hide (ranges_take (List.getElem?_eq_getElem hlt2))
      have hg := HQ.out q[k] (List.getElem_mem hlt2)
      generalize q[k] = x at k1 k2 HT2 hg
      clear hlt2
      obtain ⟨a, c⟩ := x
      simp only at k1 k2 HT2 hg
      have HCR := hide (fun w => wrange_any a c w hg.1 hg.2)
      have HLR := hide (wrRange_len (a, c))
      have i1 : (0 : Int) ≤ (k : Int) := Int.natCast_nonneg _
      have i2 : (k : Int) < (1 : Int) := by omega
      clear hg
      cases hao
      go_wp2_with fail
      refine (HCR.out _).mono ?_
      rintro e w5 ⟨t5, rfl, ht5, hb5⟩
      have HT5 := hide ht5
      have z5 : t5.size ≤ 11 := by rw [← bytes_len, ht5]; exact HLR.out
      have hbA : Below wr.heap.size wr w5 := (new1 wr (.cells #[.int .i64 a, .int .i64 c] 149)).trans (hb5.mono (by simp))
      have HBU5 := hide (builder_below HBU.out hbA)
      have HB5 := hide (HBW.out.trans (hbA.mono HBW.out.size))
      clear ht5 hb5 hbA
      go_wp2_with fail
      refine (Tryz.Builder_WriteString w.heap.size w2.heap.size _ t5 w5 (.inr HBU5.out) (by have := HLK.out; omega) HB5.out.size).mono ?_
      rintro e w6 ⟨rfl, hbu6, hb6⟩
      rw [cells_more] at hbu6
      have HBU6 := hide hbu6
      have HB6 := hide (HB5.out.trans hb6)
      clear hbu6 hb6
      go_wp2
      go_roundw
      case rel =>
        refine ⟨k + 1, by omega, by go_num, ?_, HB6.out⟩
        have := HBU6.out
        rw [HT5.out, List.cons_append, ← HT2.out] at this
        exact this
      case measure => simp [intOf]; omega
    · have hke : k = q.length := by have := HL1.out; omega
      have HKE := hide hke
      clear hke
      go_wp2_with fail
      refine (Tryz.Builder_WriteString w.heap.size w2.heap.size _ _ wr (.inr HBU.out) (by have := HLK.out; show _ + 1 ≤ _; omega) HZW.out).mono ?_
      rintro e w6 ⟨rfl, hbu6, hb6⟩
      rw [cells_more] at hbu6
      have HBU6 := hide hbu6
      have HB6 := hide (HBW.out.trans hb6)
      clear hbu6 hb6
      go_wp2_with fail
      refine (Tryz.Builder_String_any w.heap.size w2.heap.size _ w6 (.inr HBU6.out) HB6.out.size).mono ?_
      rintro e w7 ⟨rfl, hb7⟩
      have HB7 := hide (HB6.out.trans hb7)
      clear hb7
      go_wp2
      go_ret
      refine ⟨_, rfl, ?_, HB7.out⟩
      rw [bytes_str, HKE.out, List.take_length]
      rw [HQQ.out, HWE.out]; rfl
theorem wset_any (A : Nat → Prop) (v : Value) (q : List (Int × Int)) (w : World) (hs : SlA w A v q) (hq : Canon q) (hlen : q.length ≤ 100000) : Calls Tryz.prog 60 #[v] w fun e w' => Str (wrSet q) w e w' := by
  obtain ⟨ao, cap, rfl, hr, _⟩ := hs.sl.rd
  have hg : ∀ x ∈ q, runeB x.1 = true ∧ runeB x.2 = true := fun x hx => ⟨(hq.1 x hx).1, (hq.1 x hx).2.1⟩
  by_cases hd : q = dot
  · subst hd; exact wset_dot ao cap w hr
  · by_cases h1 : q.length = 1
    · obtain ⟨⟨x1, x2⟩, rfl⟩ : ∃ x, q = [x] := List.length_eq_one_iff.1 h1
      by_cases hx : x1 = x2
      · subst hx; exact wset_one ao x1 cap w (hg (x1, x1) (by simp)).1 hr hd
      · exact wset_uneq ao x1 x2 cap w hg hr hd hx
    · exact wset_more ao q cap w hg hr hd h1 hlen
end Go.Proofs.YtpoibdhhcbelnaaGreatDoor
/- The program's writing: whole patterns: walks. -/
namespace Go.Proofs.YtpoibdhhcbelnaaGreatDoor
open Go.RowKit Brm

def WriteOk (p : Pat) : Prop := ∀ (A : Nat → Prop) (x : Nat) (w : World), PN w A p x → p.wr.length ≤ 4000 → p.Ok → Calls Tryz.prog 35 #[Ptr x] w fun e w' => Str p.wr w e w'
theorem PN.below {w w' : World} {A : Nat → Prop} {p : Pat} {x : Nat} (h : PN w A p x) (hb : Below w.heap.size w w') : PN w' A p x := PN.keep (Keeps.below hb) p x h
theorem Tryz.info9 : (Tryz.prog.info? 9).map (fun i => (i.zero, i.size, i.bytes)) = some (some (.string ⟨#[]⟩), 1, 16) := by kernel_rfl
theorem str_new (w : World) (t : ByteArray) : ∀ j u, [Value.string t][j]? = some u → (w.alloc (.cells #[.string t] 9)).cell? ((⟨w.heap.size, 0, none⟩ : Addr).add j) = some u := by
  intro j u hj
  match j, hj with
  | 0, hj => simp at hj; subst hj; simp [Addr.add]
theorem str_one (t : ByteArray) : ∀ u ∈ [Value.string t], u.oneCell' = true := by
  intro u hu; simp at hu; subst hu; rfl
theorem own_at {w : World} {A : Nat → Prop} {lv : Value} {n : Nat} {xs : List Nat} (h : Own w A 65 1 lv n (xs.map Ptr)) {i x : Nat} (hi : xs[i]? = some x) : ∃ b cap, lv = .slice (some ⟨b, 0, none⟩) n cap ∧ b < w.heap.size ∧ w.cell? ⟨b, i, none⟩ = some (Ptr x) := by
  have hx : (xs.map Ptr)[i]? = some (Ptr x) := by rw [List.getElem?_map, hi]; rfl
  rcases h.1.2 with ⟨rfl, h0⟩ | ⟨b, cap, cur, rfl, hg, hh, hr⟩
  · have hl := h.1.1
    have := (List.getElem?_eq_some_iff.1 hx).1
    omega
  · refine ⟨b, cap, rfl, (h.1.lt b rfl).2, ?_⟩
    have := h.1.cells rfl i (Ptr x) hx
    rw [Addr.add_lit] at this; simpa using this
theorem own_str {w : World} {B n : Nat} {v : Value} {ts : List ByteArray} (h : w.ownsRow B 9 1 v n (ts.map Value.string)) : (v = .slice none 0 0 ∧ n = 0) ∨ ∃ g cap, v = .slice (some ⟨g, 0, none⟩) n cap ∧ n ≤ cap ∧ g < w.heap.size ∧ ∀ j x, ts[j]? = some x → w.cell? ⟨g, 0 + j, none⟩ = some (.string x) := by
  rcases h.2 with h2 | ⟨g, cap, cur, rfl, hg, hh, hn, hr⟩
  · exact .inl h2
  · refine .inr ⟨g, cap, rfl, hn, (h.lt g rfl).2, fun j x hj => ?_⟩
    have := h.cells rfl j (.string x) (by rw [List.getElem?_map, hj]; rfl)
    rw [Addr.add_lit] at this; exact this
theorem own9_form {w : World} {B n : Nat} {v : Value} {xs : List Value} (h : w.ownsRow B 9 1 v n xs) : ∃ ao cap, v = .slice ao n cap := by
  rcases h.2 with ⟨rfl, rfl⟩ | ⟨g, cap, cur, rfl, _⟩ <;> exact ⟨_, _, rfl⟩
set_option maxRecDepth 100000 in
set_option maxHeartbeats 1000000 in
theorem wparts_any (A : Nat → Prop) (l : List Pat) (xs : List Nat) (lv : Value) (sep : ByteArray) (w : World) (ho : Own w A 65 1 lv l.length (xs.map Ptr)) (hl : PL w A l xs) (hk : ∀ p ∈ l, WriteOk p) (hok : ∀ p ∈ l, p.Ok) (hlen : (Lib.join (wrL l) (bytesOf sep)).length ≤ 4000) (h100 : l.length ≤ 100) :
    Calls Tryz.prog 61 #[lv, .string sep] w fun e w' => Str (Lib.join (wrL l) (bytesOf sep)) w e w' := by
  obtain ⟨ao, cap, rfl⟩ := own65_form ho.1
  have HO0 := hide ho
  have HL0 := hide hl
  have HK := hide hk
  have HOK := hide hok
  have HLEN := hide hlen
  obtain ⟨i0, hi, hz0, hz1, hz2⟩ := info_parts Tryz.info9
  clear ho hl hk hok hlen
  go_enter Tryz.func61, Tryz.ntmps61
  go_wp2_with fail
  go_loopw [5, 10] (fun o i wr => ∃ (ts : List ByteArray), ts.length ≤ l.length ∧ i = .int .i64 ts.length ∧ wr.ownsRow w.heap.size 9 1 o ts.length (ts.map Value.string) ∧ ts.map bytesOf = wrL (l.take ts.length) ∧ Below w.heap.size w wr) (fun _ i _ => l.length - (intOf i).toNat)
  case atStart => exact ⟨[], Nat.zero_le _, rfl, World.ownsRow_nil _ _ _ _, rfl, Below.refl _ _⟩
  case round =>
    obtain ⟨ts, hts, rfl, hown, hmap, hbw⟩ := hrel
    have HOW := hide hown
    have HMP := hide hmap
    have HBW := hide hbw
    have HSZ := hide hbw.size
    clear hmap hbw
    by_cases hlt : ts.length < l.length
    · obtain ⟨x, hx, hpn⟩ := PL.at l xs HL0.out ts.length l[ts.length] (List.getElem?_eq_getElem hlt)
      obtain ⟨bl, cap1, hlv, hbl, hcell⟩ := own_at HO0.out hx
      cases hlv
      have hcell2 := (HBW.out.cell (p := ⟨bl, ts.length, none⟩) hbl).trans hcell
      have hbl2 : bl < wr.heap.size := Nat.lt_of_lt_of_le hbl HSZ.out
      have HPL : Hid ((l[ts.length]).wr.length ≤ 4000) := Nat.le_trans (join_mem_le (bytesOf sep) (wrL l) _ (by rw [wrL_map]; exact List.mem_map_of_mem (List.getElem_mem hlt))) HLEN.out
      have HC := hide (HK.out l[ts.length] (List.getElem_mem hlt) A x wr (hpn.below HBW.out) HPL.out (HOK.out _ (List.getElem_mem hlt)))
      have HW : Hid (wrL (l.take (ts.length + 1)) = wrL (l.take ts.length) ++ [(l[ts.length]).wr]) := by
        show _ = _
        rw [wrL_map, List.take_succ_eq_append_getElem hlt, List.map_append, ← wrL_map]; rfl
      generalize l[ts.length] = p at HC HPL HW
      have i1 : (0 : Int) ≤ (ts.length : Int) := Int.natCast_nonneg _
      have i2 : (ts.length : Int) < (l.length : Int) := by omega
      obtain ⟨ao2, cap2, rfl⟩ := own9_form hown
      clear hpn hx hcell hbl hown
      go_wp2_with fail
      refine HC.out.mono ?_
      rintro e w5 ⟨t5, rfl, ht5, hb5⟩
      have HT5 := hide ht5
      have HOW5 := hide (own_block HOW.out (fun q hq => hb5.block q (HOW.out.lt q hq).2))
      have HB5 := hide (HBW.out.trans (hb5.mono HBW.out.size))
      have hsz5 := HB5.out.size
      clear ht5 hb5
      go_wp2_with (at_builtin; refine wpList_append_own _ rfl _ _ 26 rfl w.heap.size 9 i0 (.string ⟨#[]⟩) 1 16 Tryz.underlying26 hi hz0 hz1 hz2 rfl (by decide) _ _ _ rfl (HOW5.out.alloc _) ⟨w5.heap.size, 0, none⟩ 1 1 [.string t5] rfl rfl (str_new _ _) (str_one _) (by unfold maxLen; omega) (by omega) (by simp; omega) ?_; intro v6 w6 ho6 hg6 hn6; have HO6 := hide ho6; have HG6 := hide hg6; clear ho6 hg6 hn6)
      go_roundw
      case rel =>
        refine ⟨ts ++ [t5], by rw [List.length_append]; simp only [List.length_cons, List.length_nil]; omega, by rw [List.length_append]; simp only [List.length_cons, List.length_nil]; go_num, ?_, ?_, ?_⟩
        · rw [List.length_append, List.map_append]; exact HO6.out
        · rw [List.length_append, List.map_append, HMP.out]
          simp only [List.length_cons, List.length_nil, Nat.zero_add]
          rw [HW.out]
          simp [HT5.out]
        · exact HB5.out.trans (((Below.refl _ _).alloc HB5.out.size _).grown HG6.out (by have := HB5.out.size; simp; omega) (fun q e => (HOW5.out.lt q e).1))
      case measure => simp [intOf]; omega
    · have hke : ts.length = l.length := by omega
      have HJ : Hid (Lib.join (ts.map (·.data.toList)) sep.data.toList = Lib.join (wrL l) (bytesOf sep)) := by
        show _ = _
        have h9 := HMP.out
        rw [hke, List.take_length] at h9
        rw [← h9]; rfl
      have HJL : Hid ((Lib.join (ts.map (·.data.toList)) sep.data.toList).length ≤ 140737488355328) := by show _ ≤ _; rw [HJ.out]; have := HLEN.out; omega
      have hdd : decide ((ts.length : Int) < (l.length : Int)) = false := decide_eq_false (by omega)
      rcases own_str hown with ⟨rfl, h0⟩ | ⟨g, cap2, rfl, hc2, hg2, hcl⟩
      · have HN : Hid (ts = []) := List.length_eq_zero_iff.1 h0
        clear hown hke
        go_wp2_with fail
        refine (Tryz.strings_Join_none none 0 sep wr).mono ?_
        rintro e w7 ⟨rfl, hw7⟩
        have hw8 := hw7.symm
        subst hw8
        clear hw7
        go_wp2
        go_ret
        refine ⟨_, rfl, ?_, HBW.out⟩
        rw [← HJ.out, HN.out]; rfl
      · have HCL := hide hcl
        clear hown hke hcl
        go_wp2_with fail
        refine (Tryz.strings_Join g 0 cap2 ts sep wr HCL.out hg2 (by omega) hc2 HJL.out).mono ?_
        rintro e w7 ⟨rfl, hb7⟩
        have HB7 := hide (HBW.out.trans (hb7.mono HBW.out.size))
        clear hb7
        go_wp2
        go_ret
        refine ⟨_, rfl, ?_, HB7.out⟩
        rw [bytes_str, HJ.out]
theorem Blk.five {w : World} {b : Nat} {v0 v1 v2 v3 v4 : Value} {T : TypeId} (h : Blk w b [v0, v1, v2, v3, v4] T) : w.cell? ⟨b, 0, none⟩ = some v0 ∧ w.cell? ⟨b, 1, none⟩ = some v1 ∧ w.cell? ⟨b, 2, none⟩ = some v2 ∧ w.cell? ⟨b, 3, none⟩ = some v3 ∧ w.cell? ⟨b, 4, none⟩ = some v4 ∧ b < w.heap.size :=
  ⟨h.cell 0, h.cell 1, h.cell 2, h.cell 3, h.cell 4, h.lt⟩
/-- One part, nothing between. -/
theorem wparts_one (A : Nat → Prop) (p : Pat) (x : Nat) (lv : Value) (w : World) (ho : Own w A 65 1 lv 1 [Ptr x]) (hp : PN w A p x) (hk : WriteOk p) (hok : p.Ok) (hlen : p.wr.length ≤ 4000) : Calls Tryz.prog 61 #[lv, .string { data := #[] }] w fun e w' => Str p.wr w e w' := by
  have e : Lib.join (wrL [p]) (bytesOf { data := #[] }) = p.wr := Lib.join_one _ _
  have := wparts_any A [p] [x] lv { data := #[] } w ho ⟨x, [], rfl, hp, rfl⟩ (by simpa using hk) (by simpa using hok) (by rw [e]; exact hlen) (by simp)
  rw [e] at this
  exact this
set_option maxRecDepth 100000 in
set_option maxHeartbeats 400000 in
theorem write_set (q : List (Int × Int)) : WriteOk (.set q) := by
  intro A x w h hl hok
  obtain ⟨_, sv, hb, hs⟩ := h
  have HL : Hid (q.length ≤ 100000) := by have := wrSet_pos q; have : (wrSet q).length ≤ 4000 := hl; show _ ≤ _; omega
  have HC := hide (wset_any A sv q w hs hok HL.out)
  obtain ⟨ao, cap, rfl, _, _⟩ := hs.sl.rd
  obtain ⟨x0, x1, x2, x3, x4, hlt⟩ := hb.five
  clear hb hs hl hok
  go_enter Tryz.func35, Tryz.ntmps35
  go_wp2_with fail
  refine HC.out.mono ?_
  rintro e w2 ⟨t, rfl, ht, hb2⟩
  have HT := hide ht
  have HB := hide hb2
  clear ht hb2
  go_wp2
  go_ret
  exact ⟨_, rfl, HT.out, HB.out⟩
set_option maxRecDepth 100000 in
set_option maxHeartbeats 400000 in
theorem write_row (l : List Pat) (ih : ∀ p ∈ l, WriteOk p) : WriteOk (.row l) := by
  intro A x w h hl hok
  obtain ⟨_, h100, lv, xs, hb, ho, hpl⟩ := h
  have HC := hide (wparts_any A l xs lv { data := #[] } w ho hpl ih ((okL_iff l).1 hok) hl h100)
  obtain ⟨ao, cap, rfl⟩ := own65_form ho.1
  obtain ⟨x0, x1, x2, x3, x4, hlt⟩ := hb.five
  clear hb ho hl hok ih hpl h100
  go_enter Tryz.func35, Tryz.ntmps35
  go_wp2_with fail
  refine HC.out.mono ?_
  rintro e w2 ⟨t, rfl, ht, hb2⟩
  have HT := hide ht
  have HB := hide hb2
  clear ht hb2
  go_wp2
  go_ret
  exact ⟨_, rfl, HT.out, HB.out⟩
set_option maxRecDepth 100000 in
set_option maxHeartbeats 400000 in
theorem write_or (l : List Pat) (ih : ∀ p ∈ l, WriteOk p) : WriteOk (.or l) := by
  intro A x w h hl hok
  obtain ⟨h100, xs, hpl, hcase⟩ := h
  rcases hcase with ⟨h1, rfl⟩ | ⟨_, _, lv, hb, ho⟩
  · match l, h1, hpl, ih, hl, hok with
    | [p], _, hpl, ih, hl, hok =>
      obtain ⟨y, r, e, hp, _⟩ := hpl
      cases e
      have e2 : (Pat.or [p]).wr = p.wr := Lib.join_one _ _
      rw [e2] at hl ⊢
      exact ih p (by simp) A x w hp hl hok.1.1
  · have HC := hide (wparts_any A l xs lv { data := #[124] } w ho hpl ih ((okL_iff l).1 hok.1) hl h100)
    obtain ⟨ao, cap, rfl⟩ := own65_form ho.1
    obtain ⟨x0, x1, x2, x3, x4, hlt⟩ := hb.five
    clear hb ho hl hok ih hpl h100
    go_enter Tryz.func35, Tryz.ntmps35
    go_wp2_with fail
    refine HC.out.mono ?_
    rintro e w2 ⟨t, rfl, ht, hb2⟩
    have HT := hide ht
    have HB := hide hb2
    clear ht hb2
    go_wp2
    go_ret
    exact ⟨_, rfl, HT.out, HB.out⟩
set_option maxRecDepth 100000 in
set_option maxHeartbeats 400000 in
theorem write_and (l : List Pat) (ih : ∀ p ∈ l, WriteOk p) : WriteOk (.and l) := by
  intro A x w h hl hok
  obtain ⟨h100, xs, hpl, hcase⟩ := h
  rcases hcase with ⟨h1, rfl⟩ | ⟨_, _, lv, hb, ho⟩
  · match l, h1, hpl, ih, hl, hok with
    | [p], _, hpl, ih, hl, hok =>
      obtain ⟨y, r, e, hp, _⟩ := hpl
      cases e
      have e2 : (Pat.and [p]).wr = p.wr := Lib.join_one _ _
      rw [e2] at hl ⊢
      exact ih p (by simp) A x w hp hl hok.1.1
  · have HC := hide (wparts_any A l xs lv { data := #[38] } w ho hpl ih ((okL_iff l).1 hok.1) hl h100)
    obtain ⟨ao, cap, rfl⟩ := own65_form ho.1
    obtain ⟨x0, x1, x2, x3, x4, hlt⟩ := hb.five
    clear hb ho hl hok ih hpl h100
    go_enter Tryz.func35, Tryz.ntmps35
    go_wp2_with fail
    refine HC.out.mono ?_
    rintro e w2 ⟨t, rfl, ht, hb2⟩
    have HT := hide ht
    have HB := hide hb2
    clear ht hb2
    go_wp2
    go_ret
    exact ⟨_, rfl, HT.out, HB.out⟩
set_option maxRecDepth 100000 in
set_option maxHeartbeats 1000000 in
theorem write_not (p : Pat) (ih : WriteOk p) : WriteOk (.not p) := by
  intro A x w h hl hok
  obtain ⟨_, lv, y, hb, ho, hp⟩ := h
  have hpl : p.wr.length ≤ 4000 := by have h9 : (126 :: p.wr).length ≤ 4000 := hl; simp at h9; omega
  have HC := hide (wparts_one A p y lv w ho hp ih hok hpl)
  obtain ⟨ao, cap, rfl⟩ := own65_form ho.1
  obtain ⟨x0, x1, x2, x3, x4, hlt⟩ := hb.five
  have HPL := hide hpl
  clear hb ho hl hok ih hp hpl
  go_enter Tryz.func35, Tryz.ntmps35
  go_wp2_with fail
  refine HC.out.mono ?_
  rintro e w2 ⟨t, rfl, ht, hb2⟩
  have HT := hide ht
  have HB := hide hb2
  have z : t.size ≤ 4000 := by rw [← bytes_len, ht]; exact HPL.out
  clear ht hb2
  go_wp2
  go_ret
  exact ⟨_, rfl, by rw [bytes_add, HT.out]; rfl, HB.out⟩
set_option maxRecDepth 100000 in
set_option maxHeartbeats 1000000 in
theorem write_group (p : Pat) (ih : WriteOk p) : WriteOk (.group p) := by
  intro A x w h hl hok
  obtain ⟨_, lv, y, hb, ho, hp⟩ := h
  have hpl : p.wr.length ≤ 4000 := by have h9 : (40 :: (p.wr ++ [41])).length ≤ 4000 := hl; simp at h9; omega
  have HC := hide (wparts_one A p y lv w ho hp ih hok hpl)
  obtain ⟨ao, cap, rfl⟩ := own65_form ho.1
  obtain ⟨x0, x1, x2, x3, x4, hlt⟩ := hb.five
  have HPL := hide hpl
  clear hb ho hl hok ih hp hpl
  go_enter Tryz.func35, Tryz.ntmps35
  go_wp2_with fail
  refine HC.out.mono ?_
  rintro e w2 ⟨t, rfl, ht, hb2⟩
  have HT := hide ht
  have HB := hide hb2
  have z : t.size ≤ 4000 := by rw [← bytes_len, ht]; exact HPL.out
  clear ht hb2
  go_wp2
  go_ret
  exact ⟨_, rfl, by rw [bytes_add, bytes_add, HT.out]; rfl, HB.out⟩
set_option maxRecDepth 100000 in
set_option maxHeartbeats 1000000 in
theorem write_many (p : Pat) (m n : Int) (ih : WriteOk p) : WriteOk (.many p m n) := by
  intro A x w h hl hok
  obtain ⟨_, lv, y, hb, ho, hp⟩ := h
  have hpl : p.wr.length ≤ 4000 := by have h9 : (p.wr ++ wrTimes m n).length ≤ 4000 := hl; simp at h9; omega
  have HC := hide (fun w' (hw : Below w.heap.size w w') => wparts_one A p y lv w' (ho.below hw) (hp.below hw) ih hok.1 hpl)
  have HCC := hide (fun w => wtimes_any m n w hok.2.1 hok.2.2.1 hok.2.2.2)
  have HLT := hide (wrTimes_len m n)
  obtain ⟨ao, cap, rfl⟩ := own65_form ho.1
  obtain ⟨x0, x1, x2, x3, x4, hlt⟩ := hb.five
  have HPL := hide hpl
  clear hb ho hl hok ih hp hpl
  go_enter Tryz.func35, Tryz.ntmps35
  go_wp2_with fail
  go_region_held3 (fun w' => Below w.heap.size w w' ∧ w'.cell? ⟨x, 2, none⟩ = some (.slice ao 1 cap) ∧ w'.cell? ⟨x, 3, none⟩ = some (.int .i64 m) ∧ w'.cell? ⟨x, 4, none⟩ = some (.int .i64 n))
    (first | exact ⟨(Below.refl _ _).drew, x2, x3, x4⟩ | exact ⟨by assumption, (Below.cell (by assumption) hlt).trans x2, (Below.cell (by assumption) hlt).trans x3, (Below.cell (by assumption) hlt).trans x4⟩)
    ((first
      | (go_at_call 61; refine (HC.out _ (‹Below w.heap.size w _ ∧ _›.1)).mono ?_; rintro e w5 ⟨t5, rfl, ht5, hb5⟩; have hb6 : Below w.heap.size w w5 := (‹Below w.heap.size w _ ∧ _›.1).trans (hb5.mono (‹Below w.heap.size w _ ∧ _›.1).size); have HT5 := hide ht5; have z5 : t5.size ≤ 4000 := (by rw [← bytes_len, ht5]; exact HPL.out); clear ht5 hb5)
      | (go_at_call 62; refine (HCC.out _).mono ?_; rintro e w7 ⟨t7, rfl, ht7, hb7⟩; have hb8 : Below w.heap.size w w7 := hb6.trans (hb7.mono hb6.size); have HT7 := hide ht7; have z7 : t7.size ≤ 5 := (by rw [← bytes_len, ht7]; exact HLT.out); have z8 : t5.size + t7.size ≤ 9223372036854775807 := (by omega); have z9 := fun w => run_string_add_sum (P := Tryz.prog) (w := w) t5 t7 z8; have z10 : decide (9223372036854775807 < t5.size + t7.size) = false := decide_eq_false (by omega); have z11 : (9223372036854775807 < t5.size + t7.size) = False := eq_false (by omega); clear ht7 hb7)))
  go_wp2
  go_ret
  exact ⟨_, rfl, by rw [bytes_add, HT5.out, HT7.out]; rfl, hb8⟩
mutual
theorem write_all : ∀ (p : Pat), WriteOk p
  | .set s => write_set s
  | .row l => write_row l (write_allL l)
  | .or l => write_or l (write_allL l)
  | .and l => write_and l (write_allL l)
  | .not p => write_not p (write_all p)
  | .many p m n => write_many p m n (write_all p)
  | .group p => write_group p (write_all p)
theorem write_allL : ∀ (l : List Pat), ∀ p ∈ l, WriteOk p
  | [] => fun p h => by cases h
  | q :: l => by
    have hq := write_all q
    have hl := write_allL l
    intro p h
    rcases List.mem_cons.1 h with rfl | h
    · exact hq
    · exact hl p h
end
end Go.Proofs.YtpoibdhhcbelnaaGreatDoor
