/- Walks and plain laws, some texts in one. -/
import Derived.Deep.RegionHeld3
import Derived.Test.YtpoibdhhcbelnaaGreatDoorM19
import Derived.Test.YtpoibdhhcbelnaaGreatDoorM23
import Derived.Test.YtpoibdhhcbelnaaGreatDoorM17
/- The reference's writing: sets: a walk. -/
namespace Go.Proofs.YtpoibdhhcbelnaaGreatDoor
open Go.RowKit Brm

theorem back_inj {a b : Int} (h : back a = back b) : a = b := by unfold back at h; split at h <;> split at h <;> omega
theorem told_inj : ∀ (a b : List (Int × Int)), told a = told b → a = b
  | [], [], _ => rfl
  | [], y :: b, h => by simp [told] at h
  | x :: a, [], h => by simp [told] at h
  | x :: a, y :: b, h => by
    simp only [told, List.map_cons, List.cons.injEq, Prod.mk.injEq] at h
    obtain ⟨⟨h1, h2⟩, h3⟩ := h
    have e : x = y := Prod.ext (back_inj h1) (back_inj h2)
    rw [e, told_inj a b h3]
theorem sl_of {w : World} {A : Nat → Prop} {v : Value} {s : List (Int × Int)} (h : SetV w A v s) : ∃ q ao cap, PCanon q ∧ told q = s ∧ v = .slice ao q.length cap ∧ Rd w ao q := by
  obtain ⟨q, h1, h2, ⟨rfl, rfl⟩ | ⟨b, off, cap, rfl, _, _, _, hr⟩⟩ := h
  · exact ⟨[], none, 0, h1, h2, rfl, fun i x hx => by simp at hx⟩
  · exact ⟨q, _, cap, h1, h2, rfl, hr⟩
theorem back_rune {a : Int} (h0 : 0 ≤ a) (h1 : a ≤ 1112063) : runeB (back a) = true := by
  rw [rune_iff]; unfold back; split <;> omega
theorem wr_one {a b : Int} (h : b = a) : wrRange (back a, back b) = Brm.written inner (back a) := by subst h; simp [wrRange]
theorem wr_two {a b : Int} (h : b = a + 1) : wrRange (back a, back b) = Brm.written inner (back a) ++ Brm.written inner (back b) := by
  subst h
  have e1 : ¬ back (a + 1) = back a := fun e => by have := back_inj e; omega
  have e2 : back (a + 1) = after (back a) := by unfold back after; repeat' split
                                                all_goals omega
  unfold wrRange
  rw [if_neg e1, if_pos e2]
theorem wr_more {a b : Int} (h : a + 1 < b) : wrRange (back a, back b) = Brm.written inner (back a) ++ (45 :: Brm.written inner (back b)) := by
  have e1 : ¬ back b = back a := fun e => by have := back_inj e; omega
  have e2 : ¬ back b = after (back a) := by unfold back after; repeat' split
                                            all_goals omega
  unfold wrRange
  rw [if_neg e1, if_neg e2]
theorem wrRanges_snoc (l : List (Int × Int)) (x : Int × Int) : wrRanges (l ++ [x]) = wrRanges l ++ wrRange x := by simp [wrRanges]
theorem told_take {q : List (Int × Int)} {k : Nat} {x : Int × Int} (h : q[k]? = some x) : told (q.take (k + 1)) = told (q.take k) ++ [(back x.1, back x.2)] := by
  have hk : k < q.length := (List.getElem?_eq_some_iff.1 h).1
  rw [List.take_succ_eq_append_getElem hk, told, List.map_append, ← told]
  have : q[k] = x := by rw [List.getElem?_eq_getElem hk] at h; exact Option.some.inj h
  simp [this]
theorem wrSet_long {q : List (Int × Int)} (hd : told q ≠ dot) (h : ∀ x, q = [x] → x.1 ≠ x.2) : wrSet (told q) = 91 :: (wrRanges (told q) ++ [93]) := by
  unfold wrSet
  rw [if_neg hd]
  match q, h with
  | [], _ => rfl
  | [x], h =>
    have := h x rfl
    simp only [told, List.map_cons, List.map_nil]
    rw [if_neg (fun e => this (back_inj e))]
  | x :: y :: l, _ => rfl
theorem wrSet_one {x : Int × Int} (hd : told [x] ≠ dot) (h : x.1 = x.2) : wrSet (told [x]) = Brm.written special (back x.1) := by
  unfold wrSet
  rw [if_neg hd]
  simp only [told, List.map_cons, List.map_nil]
  rw [if_pos (by rw [h])]

set_option maxRecDepth 100000 in
set_option maxHeartbeats 1000000 in
theorem shown_more (ao : Option Addr) (q : List (Int × Int)) (cap : Nat) (w : World) (hq : PCanon q) (hr : Rd w ao q) (hd : told q ≠ dot) (h1 : q.length ≠ 1) (hlen : q.length ≤ 100000) : Calls Tryz.prog 66 #[.slice ao q.length cap] w fun e w' => ∃ t, e = .returned (.string t) ∧ bytesOf t = wrSet (told q) ∧ Below w.heap.size w w' := by
      have HQ := hide hq; have HR := hide hr; have HD := hide hd
      have HWE := hide (wrSet_long hd (fun x hx _ => h1 (by rw [hx]; rfl)))
      have HDL : Hid (dot.length ≤ 1000000) := by show _ ≤ _; decide
      have hb1 : ((q.length : Int) == 1) = false := beq_eq_false_iff_ne.2 (by omega)
      clear hq hr hd h1
      go_enter Tryz.func66, Tryz.ntmps66
      go_wp2_with (first
        | (go_at_call 119; refine (dot_any _).mono ?_; rintro e w1 ⟨v1, rfl, hv1, hb1⟩; obtain ⟨qd, bo, cb, hqd, htd, rfl, hrd⟩ := sl_of hv1; have HB1 := hide hb1; have HRD := hide hrd; have HTD := hide htd; have HQL : Hid (qd.length ≤ 1000000) := (by have := HDL.out; rw [← HTD.out, told_len] at this; exact this); clear hv1 hb1 hrd htd hqd)
        | (go_at_call 118; refine (rsame_any _ _ _ _ _ _ _ (HR.out.below HB1.out) HRD.out HQL.out).mono ?_; rintro e w2 ⟨rfl, hb2⟩; have HB2 := hide hb2; clear hb2; rw [show decide (q = qd) = false from decide_eq_false (fun e => HD.out (by rw [e]; exact HTD.out))]; have HB3 := hide (HB1.out.trans (HB2.out.mono HB1.out.size))))
      go_quiet (fail)
      go_wp2
      have HL1 : Hid (q.length = q.length) := rfl
      have HQQ : Hid (q = q) := rfl
      have hql : q.length ≤ 100000 := by have := HL1.out; omega
      go_loopw [4, 5] (fun o i wr => ∃ (k : Nat) (t : ByteArray), k ≤ q.length ∧ i = .int .i64 k ∧ o = .string t ∧ bytesOf t = 91 :: wrRanges (told (q.take k)) ∧ Below w.heap.size w wr) (fun _ i _ => q.length - (intOf i).toNat)
      case atStart => exact ⟨0, _, Nat.zero_le _, rfl, rfl, rfl, below_drawn HB3.out⟩
      case round =>
        obtain ⟨k, t, hk, rfl, rfl, ho, hbw⟩ := hrel
        have HO := hide ho
        have HBW := hide hbw
        have hts : t.size ≤ 1 + 11 * k := by
          rw [← bytes_len, ho]
          have := wrRanges_len (told (q.take k))
          rw [told_len, List.length_take] at this
          simp only [List.length_cons]; omega
        clear ho hbw
        by_cases hlt : k < q.length
        · have hlt2 : k < q.length := by have := HL1.out; omega
          obtain ⟨b, off, hao, hb, k1, k2⟩ := HR.out.below HBW.out k q[k] (List.getElem?_eq_getElem hlt2)
          have HT2 := hide (told_take (List.getElem?_eq_getElem hlt2))
          have hg := HQ.out.1 q[k] (List.getElem_mem hlt2)
          generalize q[k] = x at k1 k2 HT2 hg
          clear hlt2
          obtain ⟨a, c⟩ := x
          simp only at k1 k2 HT2
          have g0 : 0 ≤ a := hg.1
          have g1 : a ≤ c := hg.2.1
          have g2 : c ≤ 1112063 := hg.2.2
          have i1 : (0 : Int) ≤ (k : Int) := Int.natCast_nonneg _
          have g3 : a ≤ 1112063 := by omega
          have i2 : (k : Int) < (q.length : Int) := by omega
          clear hg
          cases hao
          have cA := fun w => back_any a w g0 (by omega)
          have cC := fun w => back_any c w (by omega) (by omega)
          have HRA := back_rune g0 (by omega : a ≤ 1112063)
          have HRB := back_rune (a := c) (by omega) g2
          obtain ⟨A9, hA9⟩ : ∃ A9, back a = A9 := ⟨_, rfl⟩
          obtain ⟨C9, hC9⟩ : ∃ C9, back c = C9 := ⟨_, rfl⟩
          have HA9 := hide hA9
          have HC9 := hide hC9
          have cWA := fun w => written_any (back a) { data := #[91, 93, 92, 45, 94] } w HRA (by decide)
          have cWC := fun w => written_any (back c) { data := #[91, 93, 92, 45, 94] } w HRB (by decide)
          by_cases hc : c = a
          · have HW : Hid (wrRange (back a, back c) = _) := wr_one hc
            have hdd : decide (a + 1 < c) = false := decide_eq_false (by omega)
            have hde : decide (a < c) = false := decide_eq_false (by omega)
            rw [hA9] at cA cWA
            rw [hC9] at cC cWC
            clear hc HRA HRB hA9 hC9
            go_wp2_with fail
            refine (cA _).mono ?_
            rintro e w3 ⟨rfl, hw3⟩; have hw32 := hw3.symm; subst hw32; clear hw3
            go_wp2_with fail
            refine (cWA _).mono ?_
            rintro e w4 ⟨s4, rfl, hs4, hb4⟩; have HS4 := hide (hs4.trans (written_inner _)); have HB4 := hide hb4; have z4 : s4.size ≤ 5 := (by rw [← bytes_len, HS4.out]; exact written_len _ _); clear hs4 hb4 cA cWA
            go_wp2
            go_roundw
            case rel => exact ⟨k + 1, _, by omega, by go_num, rfl, by rw [bytes_add, HO.out, HS4.out, HT2.out, wrRanges_snoc, HW.out, HA9.out]; simp, HBW.out.trans (HB4.out.mono HBW.out.size)⟩
            case measure => simp [intOf]; omega
          · by_cases hc2 : c = a + 1
            · have HW : Hid (wrRange (back a, back c) = _) := wr_two hc2
              have hdd : decide (a + 1 < c) = false := decide_eq_false (by omega)
              have hde : decide (a < c) = true := decide_eq_true (by omega)
              rw [hA9] at cA cWA
              rw [hC9] at cC cWC
              clear hc hc2 HRA HRB hA9 hC9
              go_wp2_with fail
              refine (cA _).mono ?_
              rintro e w3 ⟨rfl, hw3⟩; have hw32 := hw3.symm; subst hw32; clear hw3
              go_wp2_with fail
              refine (cWA _).mono ?_
              rintro e w4 ⟨s4, rfl, hs4, hb4⟩; have HS4 := hide (hs4.trans (written_inner _)); have HB4 := hide hb4; have z4 : s4.size ≤ 5 := (by rw [← bytes_len, HS4.out]; exact written_len _ _); clear hs4 hb4 cA cWA
              go_wp2_with fail
              refine (cC _).mono ?_
              rintro e w3 ⟨rfl, hw3⟩; have hw32 := hw3.symm; subst hw32; clear hw3
              go_wp2_with fail
              refine (cWC _).mono ?_
              rintro e w5 ⟨s5, rfl, hs5, hb5⟩; have HS5 := hide (hs5.trans (written_inner _)); have HB5 := hide hb5; have z5 : s5.size ≤ 5 := (by rw [← bytes_len, HS5.out]; exact written_len _ _); clear hs5 hb5 cC cWC
              go_wp2
              go_roundw
              case rel => exact ⟨k + 1, _, by omega, by go_num, rfl, by rw [bytes_add, bytes_add, HO.out, HS4.out, HS5.out, HT2.out, wrRanges_snoc, HW.out, HA9.out, HC9.out]; simp, (HBW.out.trans (HB4.out.mono HBW.out.size)).trans (HB5.out.mono (HBW.out.trans (HB4.out.mono HBW.out.size)).size)⟩
              case measure => simp [intOf]; omega
            · have hcc : a + 1 < c := by omega
              have HW : Hid (wrRange (back a, back c) = _) := wr_more hcc
              have hdd : decide (a + 1 < c) = true := decide_eq_true (by omega)
              have hde : decide (a < c) = true := decide_eq_true (by omega)
              rw [hA9] at cA cWA
              rw [hC9] at cC cWC
              clear hc hc2 hcc HRA HRB hA9 hC9
              go_wp2_with fail
              refine (cA _).mono ?_
              rintro e w3 ⟨rfl, hw3⟩; have hw32 := hw3.symm; subst hw32; clear hw3
              go_wp2_with fail
              refine (cWA _).mono ?_
              rintro e w4 ⟨s4, rfl, hs4, hb4⟩; have HS4 := hide (hs4.trans (written_inner _)); have HB4 := hide hb4; have z4 : s4.size ≤ 5 := (by rw [← bytes_len, HS4.out]; exact written_len _ _); clear hs4 hb4 cA cWA
              go_wp2_with fail
              refine (cC _).mono ?_
              rintro e w3 ⟨rfl, hw3⟩; have hw32 := hw3.symm; subst hw32; clear hw3
              go_wp2_with fail
              refine (cWC _).mono ?_
              rintro e w5 ⟨s5, rfl, hs5, hb5⟩; have HS5 := hide (hs5.trans (written_inner _)); have HB5 := hide hb5; have z5 : s5.size ≤ 5 := (by rw [← bytes_len, HS5.out]; exact written_len _ _); clear hs5 hb5 cC cWC
              go_wp2
              go_roundw
              case rel => exact ⟨k + 1, _, by omega, by go_num, rfl, by rw [bytes_add, bytes_add, bytes_add, HO.out, HS4.out, HS5.out, HT2.out, wrRanges_snoc, HW.out, HA9.out, HC9.out]; simp [bytesOf], (HBW.out.trans (HB4.out.mono HBW.out.size)).trans (HB5.out.mono (HBW.out.trans (HB4.out.mono HBW.out.size)).size)⟩
              case measure => simp [intOf]; omega
        · have hke : k = q.length := by have := HL1.out; omega
          have HKE := hide hke
          clear hke
          go_wp2
          go_ret
          exact ⟨_, rfl, by rw [bytes_add, HO.out, HKE.out, List.take_length]; first | (rw [HWE.out]; simp [bytesOf]; done) | (rw [HQQ.out, HWE.out]; simp [bytesOf]; done), HBW.out⟩
set_option maxRecDepth 100000 in
set_option maxHeartbeats 1000000 in
theorem shown_uneq (ao : Option Addr) (x1 x2 : Int) (cap : Nat) (w : World) (hq : PCanon [(x1, x2)]) (hr : Rd w ao [(x1, x2)]) (hd : told [(x1, x2)] ≠ dot) (hx : x1 ≠ x2) : Calls Tryz.prog 66 #[.slice ao 1 cap] w fun e w' => ∃ t, e = .returned (.string t) ∧ bytesOf t = wrSet (told [(x1, x2)]) ∧ Below w.heap.size w w' := by
      have HQ := hide hq; have HR := hide hr; have HD := hide hd
      have HWE := hide (wrSet_long hd (fun x hx2 => by cases hx2; exact hx))
      have HDL : Hid (dot.length ≤ 1000000) := by show _ ≤ _; decide
      have hb1 : (x1 == x2) = false := beq_eq_false_iff_ne.2 hx
      clear hq hr hd hx
      go_enter Tryz.func66, Tryz.ntmps66
      go_wp2_with (first
        | (go_at_call 119; refine (dot_any _).mono ?_; rintro e w1 ⟨v1, rfl, hv1, hb1⟩; obtain ⟨qd, bo, cb, hqd, htd, rfl, hrd⟩ := sl_of hv1; have HB1 := hide hb1; have HRD := hide hrd; have HTD := hide htd; have HQL : Hid (qd.length ≤ 1000000) := (by have := HDL.out; rw [← HTD.out, told_len] at this; exact this); clear hv1 hb1 hrd htd hqd)
        | (go_at_call 118; refine (rsame_any _ _ [(x1, x2)] _ _ _ _ (HR.out.below HB1.out) HRD.out HQL.out).mono ?_; rintro e w2 ⟨rfl, hb2⟩; have HB2 := hide hb2; clear hb2; rw [show decide ([(x1, x2)] = qd) = false from decide_eq_false (fun e => HD.out (by rw [e]; exact HTD.out))]; have HB3 := hide (HB1.out.trans (HB2.out.mono HB1.out.size)); obtain ⟨bl, off, hao, hbl, k1, k2⟩ := HR.out.below HB3.out 0 (x1, x2) rfl; subst hao; simp only [Nat.zero_mul, Nat.add_zero] at k1 k2))
      go_quiet (fail)
      go_wp2
      clear k1 k2 hbl hb1
      generalize hQ : [(x1, x2)] = q at HQ HR HWE
      have hlen1 : q.length = 1 := by rw [← hQ]; rfl
      have HL1 := hide hlen1
      have HQQ := hide hQ
      clear hQ hlen1
      have hql : 1 ≤ 100000 := by have := HL1.out; omega
      go_loopw [4, 5] (fun o i wr => ∃ (k : Nat) (t : ByteArray), k ≤ 1 ∧ i = .int .i64 k ∧ o = .string t ∧ bytesOf t = 91 :: wrRanges (told (q.take k)) ∧ Below w.heap.size w wr) (fun _ i _ => 1 - (intOf i).toNat)
      case atStart => exact ⟨0, _, Nat.zero_le _, rfl, rfl, rfl, below_drawn HB3.out⟩
      case round =>
        obtain ⟨k, t, hk, rfl, rfl, ho, hbw⟩ := hrel
        have HO := hide ho
        have HBW := hide hbw
        have hts : t.size ≤ 1 + 11 * k := by
          rw [← bytes_len, ho]
          have := wrRanges_len (told (q.take k))
          rw [told_len, List.length_take] at this
          simp only [List.length_cons]; omega
        clear ho hbw
        by_cases hlt : k < 1
        · have hlt2 : k < q.length := by have := HL1.out; omega
          obtain ⟨b, off, hao, hb, k1, k2⟩ := HR.out.below HBW.out k q[k] (List.getElem?_eq_getElem hlt2)
          have HT2 := hide (told_take (List.getElem?_eq_getElem hlt2))
          have hg := HQ.out.1 q[k] (List.getElem_mem hlt2)
          generalize q[k] = x at k1 k2 HT2 hg
          clear hlt2
          obtain ⟨a, c⟩ := x
          simp only at k1 k2 HT2
          have g0 : 0 ≤ a := hg.1
          have g1 : a ≤ c := hg.2.1
          have g2 : c ≤ 1112063 := hg.2.2
          have i1 : (0 : Int) ≤ (k : Int) := Int.natCast_nonneg _
          have g3 : a ≤ 1112063 := by omega
          have i2 : (k : Int) < (1 : Int) := by omega
          clear hg
          cases hao
          have cA := fun w => back_any a w g0 (by omega)
          have cC := fun w => back_any c w (by omega) (by omega)
          have HRA := back_rune g0 (by omega : a ≤ 1112063)
          have HRB := back_rune (a := c) (by omega) g2
          obtain ⟨A9, hA9⟩ : ∃ A9, back a = A9 := ⟨_, rfl⟩
          obtain ⟨C9, hC9⟩ : ∃ C9, back c = C9 := ⟨_, rfl⟩
          have HA9 := hide hA9
          have HC9 := hide hC9
          have cWA := fun w => written_any (back a) { data := #[91, 93, 92, 45, 94] } w HRA (by decide)
          have cWC := fun w => written_any (back c) { data := #[91, 93, 92, 45, 94] } w HRB (by decide)
          by_cases hc : c = a
          · have HW : Hid (wrRange (back a, back c) = _) := wr_one hc
            have hdd : decide (a + 1 < c) = false := decide_eq_false (by omega)
            have hde : decide (a < c) = false := decide_eq_false (by omega)
            rw [hA9] at cA cWA
            rw [hC9] at cC cWC
            clear hc HRA HRB hA9 hC9
            go_wp2_with fail
            refine (cA _).mono ?_
            rintro e w3 ⟨rfl, hw3⟩; have hw32 := hw3.symm; subst hw32; clear hw3
            go_wp2_with fail
            refine (cWA _).mono ?_
            rintro e w4 ⟨s4, rfl, hs4, hb4⟩; have HS4 := hide (hs4.trans (written_inner _)); have HB4 := hide hb4; have z4 : s4.size ≤ 5 := (by rw [← bytes_len, HS4.out]; exact written_len _ _); clear hs4 hb4 cA cWA
            go_wp2
            go_roundw
            case rel => exact ⟨k + 1, _, by omega, by go_num, rfl, by rw [bytes_add, HO.out, HS4.out, HT2.out, wrRanges_snoc, HW.out, HA9.out]; simp, HBW.out.trans (HB4.out.mono HBW.out.size)⟩
            case measure => simp [intOf]; omega
          · by_cases hc2 : c = a + 1
            · have HW : Hid (wrRange (back a, back c) = _) := wr_two hc2
              have hdd : decide (a + 1 < c) = false := decide_eq_false (by omega)
              have hde : decide (a < c) = true := decide_eq_true (by omega)
              rw [hA9] at cA cWA
              rw [hC9] at cC cWC
              clear hc hc2 HRA HRB hA9 hC9
              go_wp2_with fail
              refine (cA _).mono ?_
              rintro e w3 ⟨rfl, hw3⟩; have hw32 := hw3.symm; subst hw32; clear hw3
              go_wp2_with fail
              refine (cWA _).mono ?_
              rintro e w4 ⟨s4, rfl, hs4, hb4⟩; have HS4 := hide (hs4.trans (written_inner _)); have HB4 := hide hb4; have z4 : s4.size ≤ 5 := (by rw [← bytes_len, HS4.out]; exact written_len _ _); clear hs4 hb4 cA cWA
              go_wp2_with fail
              refine (cC _).mono ?_
              rintro e w3 ⟨rfl, hw3⟩; have hw32 := hw3.symm; subst hw32; clear hw3
              go_wp2_with fail
              refine (cWC _).mono ?_
              rintro e w5 ⟨s5, rfl, hs5, hb5⟩; have HS5 := hide (hs5.trans (written_inner _)); have HB5 := hide hb5; have z5 : s5.size ≤ 5 := (by rw [← bytes_len, HS5.out]; exact written_len _ _); clear hs5 hb5 cC cWC
              go_wp2
              go_roundw
              case rel => exact ⟨k + 1, _, by omega, by go_num, rfl, by rw [bytes_add, bytes_add, HO.out, HS4.out, HS5.out, HT2.out, wrRanges_snoc, HW.out, HA9.out, HC9.out]; simp, (HBW.out.trans (HB4.out.mono HBW.out.size)).trans (HB5.out.mono (HBW.out.trans (HB4.out.mono HBW.out.size)).size)⟩
              case measure => simp [intOf]; omega
            · have hcc : a + 1 < c := by omega
              have HW : Hid (wrRange (back a, back c) = _) := wr_more hcc
              have hdd : decide (a + 1 < c) = true := decide_eq_true (by omega)
              have hde : decide (a < c) = true := decide_eq_true (by omega)
              rw [hA9] at cA cWA
              rw [hC9] at cC cWC
              clear hc hc2 hcc HRA HRB hA9 hC9
              go_wp2_with fail
              refine (cA _).mono ?_
              rintro e w3 ⟨rfl, hw3⟩; have hw32 := hw3.symm; subst hw32; clear hw3
              go_wp2_with fail
              refine (cWA _).mono ?_
              rintro e w4 ⟨s4, rfl, hs4, hb4⟩; have HS4 := hide (hs4.trans (written_inner _)); have HB4 := hide hb4; have z4 : s4.size ≤ 5 := (by rw [← bytes_len, HS4.out]; exact written_len _ _); clear hs4 hb4 cA cWA
              go_wp2_with fail
              refine (cC _).mono ?_
              rintro e w3 ⟨rfl, hw3⟩; have hw32 := hw3.symm; subst hw32; clear hw3
              go_wp2_with fail
              refine (cWC _).mono ?_
              rintro e w5 ⟨s5, rfl, hs5, hb5⟩; have HS5 := hide (hs5.trans (written_inner _)); have HB5 := hide hb5; have z5 : s5.size ≤ 5 := (by rw [← bytes_len, HS5.out]; exact written_len _ _); clear hs5 hb5 cC cWC
              go_wp2
              go_roundw
              case rel => exact ⟨k + 1, _, by omega, by go_num, rfl, by rw [bytes_add, bytes_add, bytes_add, HO.out, HS4.out, HS5.out, HT2.out, wrRanges_snoc, HW.out, HA9.out, HC9.out]; simp [bytesOf], (HBW.out.trans (HB4.out.mono HBW.out.size)).trans (HB5.out.mono (HBW.out.trans (HB4.out.mono HBW.out.size)).size)⟩
              case measure => simp [intOf]; omega
        · have hke : k = q.length := by have := HL1.out; omega
          have HKE := hide hke
          clear hke
          go_wp2
          go_ret
          exact ⟨_, rfl, by rw [bytes_add, HO.out, HKE.out, List.take_length]; first | (rw [HWE.out]; simp [bytesOf]; done) | (rw [HQQ.out, HWE.out]; simp [bytesOf]; done), HBW.out⟩
set_option maxRecDepth 100000 in
set_option maxHeartbeats 1000000 in
theorem shown_any (A : Nat → Prop) (v : Value) (s : List (Int × Int)) (w : World) (h : SetV w A v s) (hlen : s.length ≤ 100000) : Calls Tryz.prog 66 #[v] w fun e w' => ∃ t, e = .returned (.string t) ∧ bytesOf t = wrSet s ∧ Below w.heap.size w w' := by
  obtain ⟨q, ao, cap, hq, rfl, rfl, hr⟩ := sl_of h
  rw [told_len] at hlen
  have HQ := hide hq; have HR := hide hr
  clear h hq hr
  have HDL : Hid (dot.length ≤ 1000000) := by show _ ≤ _; decide
  by_cases hd : told q = dot
  · have HD := hide hd
    clear hd
    go_enter Tryz.func66, Tryz.ntmps66
    go_wp2_with (first
      | (go_at_call 119; refine (dot_any _).mono ?_; rintro e w1 ⟨v1, rfl, hv1, hb1⟩; obtain ⟨qd, bo, cb, hqd, htd, rfl, hrd⟩ := sl_of hv1; have HB1 := hide hb1; have HRD := hide hrd; have HTD := hide htd; have HQL : Hid (qd.length ≤ 1000000) := (by have := HDL.out; rw [← HTD.out, told_len] at this; exact this); clear hv1 hb1 hrd htd hqd)
      | (go_at_call 118; refine (rsame_any _ _ _ _ _ _ _ (HR.out.below HB1.out) HRD.out HQL.out).mono ?_; rintro e w2 ⟨rfl, hb2⟩; have HB2 := hide hb2; clear hb2; rw [show decide (q = qd) = true from decide_eq_true (told_inj _ _ (HD.out.trans HTD.out.symm))]))
    go_ret
    exact ⟨_, rfl, by rw [HD.out]; rfl, HB1.out.trans (HB2.out.mono HB1.out.size)⟩
  · have HD := hide hd
    clear hd
    by_cases h1 : ∃ x, q = [x] ∧ x.1 = x.2
    · obtain ⟨⟨x1, x2⟩, rfl, hx⟩ := h1
      simp only at hx
      subst hx
      have hg := (HQ.out.1 (x1, x1) (by simp))
      have g0 : 0 ≤ x1 := hg.1
      have g1 : x1 ≤ 1112063 := hg.2.2
      have HRU := hide (back_rune g0 g1)
      have HWE := hide (wrSet_one HD.out rfl)
      clear hg
      go_enter Tryz.func66, Tryz.ntmps66
      go_wp2_with (first
        | (go_at_call 119; refine (dot_any _).mono ?_; rintro e w1 ⟨v1, rfl, hv1, hb1⟩; obtain ⟨qd, bo, cb, hqd, htd, rfl, hrd⟩ := sl_of hv1; have HB1 := hide hb1; have HRD := hide hrd; have HTD := hide htd; have HQL : Hid (qd.length ≤ 1000000) := (by have := HDL.out; rw [← HTD.out, told_len] at this; exact this); clear hv1 hb1 hrd htd hqd)
        | (go_at_call 118; go_loud (refine (rsame_any _ _ [(x1, x1)] _ _ _ _ (HR.out.below HB1.out) HRD.out HQL.out).mono ?_; rintro e w2 ⟨rfl, hb2⟩; have HB2 := hide hb2; clear hb2; rw [show decide ([(x1, x1)] = qd) = false from decide_eq_false (fun e => HD.out (by rw [e]; exact HTD.out))]; have HB3 := hide (HB1.out.trans (HB2.out.mono HB1.out.size)); obtain ⟨bl, off, hao, hbl, k1, k2⟩ := HR.out.below HB3.out 0 (x1, x1) rfl; subst hao; simp only [Nat.zero_mul, Nat.add_zero] at k1 k2))
        | (go_at_call 81; refine (back_any _ _ (by omega) (by omega)).mono ?_; rintro e w3 ⟨rfl, hw3⟩; have hw32 := hw3.symm; subst hw32)
        | (go_at_call 120; refine (written_any _ _ _ HRU.out (by decide)).mono ?_; rintro e w3 ⟨s3, rfl, hs3, hb3⟩; have HS3 := hide hs3; have HB4 := hide hb3; clear hs3 hb3))
      go_quiet (fail)
      go_wp2_with (first
        | (go_at_call 81; refine (back_any _ _ (by omega) (by omega)).mono ?_; rintro e w3 ⟨rfl, hw3⟩; have hw32 := hw3.symm; subst hw32)
        | (go_at_call 120; refine (written_any _ _ _ HRU.out (by decide)).mono ?_; rintro e w3 ⟨s3, rfl, hs3, hb3⟩; have HS3 := hide hs3; have HB4 := hide hb3; clear hs3 hb3))
      go_ret
      exact ⟨_, rfl, by rw [HS3.out, written_special, HWE.out], (below_drawn HB3.out).trans (HB4.out.mono (below_drawn HB3.out).size)⟩
    · have HWE := hide (wrSet_long HD.out (fun x hx hxx => h1 ⟨x, hx, hxx⟩))
      by_cases hl1 : q.length = 1
      · obtain ⟨⟨x1, x2⟩, rfl⟩ : ∃ x, q = [x] := List.length_eq_one_iff.1 hl1
        have hxx : x1 ≠ x2 := fun e => h1 ⟨(x1, x2), rfl, e⟩
        exact shown_uneq ao x1 x2 cap w HQ.out HR.out HD.out hxx
      · exact shown_more ao q cap w HQ.out HR.out HD.out hl1 hlen
end Go.Proofs.YtpoibdhhcbelnaaGreatDoor
/- The reference's writing: parts: walks. -/
namespace Go.Proofs.YtpoibdhhcbelnaaGreatDoor
open Go.RowKit Brm

def TextOk (p : Pat) : Prop := ∀ (A : Nat → Prop) (c : List Value) (g : Nat) (w : World), NV w A p c g → p.wr.length ≤ 4000 → p.Ok → Calls Tryz.prog 37 #[.agg c.toArray] w fun e w' => ∃ t, e = .returned (.string t) ∧ bytesOf t = p.wr ∧ Below w.heap.size w w'
theorem NV.alloc {w : World} {A : Nat → Prop} {p : Pat} {c : List Value} {g : Nat} (h : NV w A p c g) (o : Obj) : NV (w.alloc o) A p c g := NV.keep (Keeps.alloc _ _ _) p c g h
theorem NV.below {w w' : World} {A : Nat → Prop} {p : Pat} {c : List Value} {g : Nat} (h : NV w A p c g) (hb : Below w.heap.size w w') : NV w' A p c g := NV.keep (Keeps.below hb) p c g h
theorem Own.below {w w' : World} {A : Nat → Prop} {e : TypeId} {size : Nat} {v : Value} {n : Nat} {xs : List Value} (h : Own w A e size v n xs) (hb : Below w.heap.size w w') : Own w' A e size v n xs := h.keep (Keeps.below hb)
theorem own_six {w : World} {A : Nat → Prop} {lv : Value} {n : Nat} {xs : List Value} (h : Own w A 32 6 lv n xs) {i : Nat} (hi : i < n) {k : Int} {so : Option Addr} {sn sc : Nat} {lo : Option Addr} {ln lc : Nat} {mm nn rr : Int} (hc : Six k so sn sc lo ln lc mm nn rr = (xs.drop (i * 6)).take 6) :
    ∃ b cap, lv = .slice (some ⟨b, 0, none⟩) n cap ∧ b < w.heap.size ∧ w.cell? ⟨b, i * 6, none⟩ = some (.int .i64 k) ∧ w.cell? ⟨b, i * 6 + 1, none⟩ = some (.slice so sn sc) ∧ w.cell? ⟨b, i * 6 + 2, none⟩ = some (.slice lo ln lc) ∧ w.cell? ⟨b, i * 6 + 3, none⟩ = some (.int .i64 mm) ∧ w.cell? ⟨b, i * 6 + 4, none⟩ = some (.int .i64 nn) ∧ w.cell? ⟨b, i * 6 + 5, none⟩ = some (.int .i64 rr) := by
  rcases h.1.2 with ⟨rfl, h0⟩ | ⟨b, cap, cur, rfl, hg, hh, hr⟩
  · omega
  · refine ⟨b, cap, rfl, (h.1.lt b rfl).2, ?_⟩
    have key : ∀ j u, (Six k so sn sc lo ln lc mm nn rr)[j]? = some u → w.cell? ⟨b, i * 6 + j, none⟩ = some u := by
      intro j u hj
      have hj6 : j < 6 := (List.getElem?_eq_some_iff.1 hj).1
      have hx : xs[i * 6 + j]? = some u := by
        rw [hc, List.getElem?_take, if_pos hj6, List.getElem?_drop] at hj
        exact hj
      have := h.1.cells rfl (i * 6 + j) u hx
      rw [Addr.add_lit] at this; simpa using this
    exact ⟨key 0 _ rfl, key 1 _ rfl, key 2 _ rfl, key 3 _ rfl, key 4 _ rfl, key 5 _ rfl⟩
theorem enc_pos (c : Int) : 1 ≤ (Lib.encodeRune c).length := by
  have := (Lib.encodeRuneZ_length c).1
  simpa [Lib.encodeRune] using this
theorem written_pos (must : Int → Bool) (c : Int) : 1 ≤ (Brm.written must c).length := by
  have := enc_pos c
  unfold Brm.written; repeat' split
  all_goals first | (simp; done) | (simp; omega) | omega
theorem wrRange_pos (x : Int × Int) : 1 ≤ (wrRange x).length := by
  have := written_pos inner x.1
  unfold wrRange; repeat' split
  all_goals first | omega | (simp; omega)
theorem wrRanges_pos : ∀ (l : List (Int × Int)), l.length ≤ (wrRanges l).length
  | [] => by simp
  | x :: l => by
    have := wrRanges_pos l
    have := wrRange_pos x
    unfold wrRanges at *
    simp only [List.map_cons, List.flatten_cons, List.length_append, List.length_cons]; omega
theorem wrSet_pos (s : List (Int × Int)) : s.length ≤ (wrSet s).length + 10 := by
  unfold wrSet
  split
  · rename_i h; subst h; decide
  · split
    · simp
    · have := wrRanges_pos s; simp; omega
theorem ret_str {a b : ByteArray} (h : bytesOf a = bytesOf b) : Ending.returned (.string a) = .returned (.string b) := by rw [bytes_ext h]
set_option maxRecDepth 100000 in
set_option maxHeartbeats 400000 in
theorem text_set (s : List (Int × Int)) : TextOk (.set s) := by
  intro A c g w h hl _
  obtain ⟨sv, rfl, hs⟩ := h
  obtain ⟨so, sn, sc, rfl⟩ := set_isl hs
  have HS := hide (hs.keep (Keeps.alloc A w (.cells #[.int .i64 1, .slice so sn sc, .slice none 0 0, .int .i64 0, .int .i64 0, .int .i64 0] 32)))
  have HL : Hid (s.length ≤ 100000) := by have := wrSet_pos s; have : (wrSet s).length ≤ 4000 := hl; show _ ≤ _; omega
  clear hs hl
  show Calls Tryz.prog 37 #[.agg #[.int .i64 1, .slice so sn sc, .slice none 0 0, .int .i64 0, .int .i64 0, .int .i64 0]] w _
  go_enter Tryz.func37, Tryz.ntmps37
  go_wp2_with (go_at_call 66; refine (shown_any A _ _ _ HS.out HL.out).mono ?_; rintro e w2 ⟨t, rfl, ht, hb⟩; have HT := hide ht; have HB := hide hb; clear ht hb)
  go_ret
  exact ⟨_, rfl, HT.out, (new1 _ _).trans (HB.out.mono (by simp))⟩
set_option maxRecDepth 100000 in
set_option maxHeartbeats 400000 in
theorem text_not (p : Pat) (ih : TextOk p) : TextOk (.not p) := by
  intro A c g w h hl hok
  obtain ⟨lv, xs, rfl, ho, hn⟩ := h
  obtain ⟨k, so, sn, sc, lo, ln, lc, mm, nn, rr, rfl⟩ := hn.len
  obtain ⟨b, cap, rfl, hb, c0, c1, c2, c3, c4, c5⟩ := own_six ho (i := 0) (by omega) rfl
  simp only [Nat.zero_mul, Nat.zero_add] at c0 c1 c2 c3 c4 c5
  have HC := hide (ih A _ g (w.alloc (.cells #[.int .i64 5, .slice none 0 0, .slice (some ⟨b, 0, none⟩) 1 cap, .int .i64 0, .int .i64 0, .int .i64 0] 32)) (hn.alloc _) (by have : (126 :: p.wr).length ≤ 4000 := hl; simp at this; omega) hok)
  have HL : Hid (p.wr.length ≤ 4000) := by have : (126 :: p.wr).length ≤ 4000 := hl; simp at this; show _ ≤ _; omega
  clear hn ho hl hok
  show Calls Tryz.prog 37 #[.agg #[.int .i64 5, .slice none 0 0, .slice (some ⟨b, 0, none⟩) 1 cap, .int .i64 0, .int .i64 0, .int .i64 0]] w _
  go_enter Tryz.func37, Tryz.ntmps37
  go_wp2_with fail
  refine HC.out.mono ?_
  rintro e w2 ⟨t, rfl, ht, hb2⟩
  have HT := hide ht; have HB := hide hb2
  have z : t.size ≤ 4000 := by rw [← bytes_len, ht]; exact HL.out
  clear ht hb2
  go_wp2
  go_ret
  exact ⟨_, rfl, by rw [bytes_add, HT.out]; rfl, (new1 _ _).trans (HB.out.mono (by simp))⟩
end Go.Proofs.YtpoibdhhcbelnaaGreatDoor
/- The reference's writing: parts with others in them: walks. -/
namespace Go.Proofs.YtpoibdhhcbelnaaGreatDoor
open Go.RowKit Brm

set_option maxRecDepth 100000 in
set_option maxHeartbeats 400000 in
theorem text_group (p : Pat) (ih : TextOk p) : TextOk (.group p) := by
  intro A c g w h hl hok
  obtain ⟨lv, xs, rfl, ho, hn⟩ := h
  obtain ⟨k, so, sn, sc, lo, ln, lc, mm, nn, rr, rfl⟩ := hn.len
  obtain ⟨b, cap, rfl, hb, c0, c1, c2, c3, c4, c5⟩ := own_six ho (i := 0) (by omega) rfl
  simp only [Nat.zero_mul, Nat.zero_add] at c0 c1 c2 c3 c4 c5
  have hpl : p.wr.length ≤ 4000 := by have : (40 :: (p.wr ++ [41])).length ≤ 4000 := hl; simp at this; omega
  have HC := hide (ih A _ (g + 1) (w.alloc (.cells #[.int .i64 7, .slice none 0 0, .slice (some ⟨b, 0, none⟩) 1 cap, .int .i64 0, .int .i64 0, .int .i64 g] 32)) (hn.alloc _) hpl hok)
  have HL := hide hpl
  clear hn ho hl hok hpl
  show Calls Tryz.prog 37 #[.agg #[.int .i64 7, .slice none 0 0, .slice (some ⟨b, 0, none⟩) 1 cap, .int .i64 0, .int .i64 0, .int .i64 g]] w _
  go_enter Tryz.func37, Tryz.ntmps37
  go_wp2_with fail
  refine HC.out.mono ?_
  rintro e w2 ⟨t, rfl, ht, hb2⟩
  have HT := hide ht; have HB := hide hb2
  have z : t.size ≤ 4000 := by rw [← bytes_len, ht]; exact HL.out
  clear ht hb2
  go_wp2
  go_ret
  exact ⟨_, rfl, by rw [bytes_add, bytes_add, HT.out]; rfl, (new1 _ _).trans (HB.out.mono (by simp))⟩
theorem sm_all {W0 w' : World} {B b o : Nat} {u2 u3 u4 v0 v1 v2 v3 v4 v5 : Value} (hb : Below W0.heap.size W0 w') (hB : B < W0.heap.size) (hbb : b < W0.heap.size) (x2 : W0.cell? ⟨B, 2, none⟩ = some u2) (x3 : W0.cell? ⟨B, 3, none⟩ = some u3) (x4 : W0.cell? ⟨B, 4, none⟩ = some u4)
    (c0 : W0.cell? ⟨b, o, none⟩ = some v0) (c1 : W0.cell? ⟨b, o + 1, none⟩ = some v1) (c2 : W0.cell? ⟨b, o + 2, none⟩ = some v2) (c3 : W0.cell? ⟨b, o + 3, none⟩ = some v3) (c4 : W0.cell? ⟨b, o + 4, none⟩ = some v4) (c5 : W0.cell? ⟨b, o + 5, none⟩ = some v5) :
    Below W0.heap.size W0 w' ∧ w'.cell? ⟨B, 2, none⟩ = some u2 ∧ w'.cell? ⟨B, 3, none⟩ = some u3 ∧ w'.cell? ⟨B, 4, none⟩ = some u4 ∧ w'.cell? ⟨b, o, none⟩ = some v0 ∧ w'.cell? ⟨b, o + 1, none⟩ = some v1 ∧ w'.cell? ⟨b, o + 2, none⟩ = some v2 ∧ w'.cell? ⟨b, o + 3, none⟩ = some v3 ∧ w'.cell? ⟨b, o + 4, none⟩ = some v4 ∧ w'.cell? ⟨b, o + 5, none⟩ = some v5 :=
  ⟨hb, (hb.cell hB).trans x2, (hb.cell hB).trans x3, (hb.cell hB).trans x4, (hb.cell hbb).trans c0, (hb.cell hbb).trans c1, (hb.cell hbb).trans c2, (hb.cell hbb).trans c3, (hb.cell hbb).trans c4, (hb.cell hbb).trans c5⟩
set_option maxRecDepth 100000 in
set_option maxHeartbeats 1000000 in
theorem text_many (p : Pat) (m n : Int) (ih : TextOk p) : TextOk (.many p m n) := by
  intro A c g w h hl hok
  obtain ⟨lv, xs, rfl, ho, hn⟩ := h
  obtain ⟨k, so, sn, sc, lo, ln, lc, mm, nn, rr, rfl⟩ := hn.len
  obtain ⟨hokp, q0, q1, q2⟩ := hok
  obtain ⟨b, cap, rfl, hb, c0, c1, c2, c3, c4, c5⟩ := own_six ho (i := 0) (by omega) rfl
  simp only [Nat.zero_mul, Nat.zero_add] at c0 c1 c2 c3 c4 c5
  have hpl : p.wr.length ≤ 4000 := by have : (p.wr ++ wrTimes m n).length ≤ 4000 := hl; simp at this; omega
  have HC : Hid (∀ w', Below (w.alloc (.cells #[.int .i64 6, .slice none 0 0, .slice (some ⟨b, 0, none⟩) 1 cap, .int .i64 m, .int .i64 n, .int .i64 0] 32)).heap.size (w.alloc (.cells #[.int .i64 6, .slice none 0 0, .slice (some ⟨b, 0, none⟩) 1 cap, .int .i64 m, .int .i64 n, .int .i64 0] 32)) w' → _) := fun w' hw' => ih A _ g w' ((hn.alloc _).below hw') hpl hokp
  have HCC := hide (fun w => counted_any m n w q0 q1 q2)
  have HL := hide hpl
  have HLT := hide (wrTimes_len m n)
  have n1 := new1 w (.cells #[.int .i64 6, .slice none 0 0, .slice (some ⟨b, 0, none⟩) 1 cap, .int .i64 m, .int .i64 n, .int .i64 0] 32)
  have hbx := Blk.new w [.int .i64 6, .slice none 0 0, .slice (some ⟨b, 0, none⟩) 1 cap, .int .i64 m, .int .i64 n, .int .i64 0] 32
  have HN1 := hide n1
  clear hn ho hl hokp hpl q0 q1 q2
  show Calls Tryz.prog 37 #[.agg #[.int .i64 6, .slice none 0 0, .slice (some ⟨b, 0, none⟩) 1 cap, .int .i64 m, .int .i64 n, .int .i64 0]] w _
  go_enter Tryz.func37, Tryz.ntmps37
  go_wp2_with fail
  generalize hW : w.alloc (.cells #[.int .i64 6, .slice none 0 0, .slice (some ⟨b, 0, none⟩) 1 cap, .int .i64 m, .int .i64 n, .int .i64 0] 32) = W0 at HC HN1 hbx n1
  have x2 := hbx.cell 2
  have x3 := hbx.cell 3
  have x4 := hbx.cell 4
  have hBl := hbx.lt
  have hbb : b < W0.heap.size := by omega
  rw [← n1.cell (p := ⟨b, _, none⟩) hb] at c0 c1 c2 c3 c4 c5
  simp only [List.getElem?_cons_succ, List.getElem?_cons_zero] at x2 x3 x4
  clear hbx hW n1
  go_region_held3 (fun w' => Below W0.heap.size W0 w' ∧ w'.cell? ⟨w.heap.size, 2, none⟩ = some (.slice (some ⟨b, 0, none⟩) 1 cap) ∧ w'.cell? ⟨w.heap.size, 3, none⟩ = some (.int .i64 m) ∧ w'.cell? ⟨w.heap.size, 4, none⟩ = some (.int .i64 n) ∧ w'.cell? ⟨b, 0, none⟩ = some (.int .i64 k) ∧ w'.cell? ⟨b, 0 + 1, none⟩ = some (.slice so sn sc) ∧ w'.cell? ⟨b, 0 + 2, none⟩ = some (.slice lo ln lc) ∧ w'.cell? ⟨b, 0 + 3, none⟩ = some (.int .i64 mm) ∧ w'.cell? ⟨b, 0 + 4, none⟩ = some (.int .i64 nn) ∧ w'.cell? ⟨b, 0 + 5, none⟩ = some (.int .i64 rr))
    (first | exact sm_all (o := 0) (Below.refl _ _).drew hBl hbb x2 x3 x4 c0 c1 c2 c3 c4 c5 | exact sm_all (o := 0) (by assumption) hBl hbb x2 x3 x4 c0 c1 c2 c3 c4 c5)
    ((first
      | (go_at_call 37; refine (HC.out _ (‹Below W0.heap.size W0 _ ∧ _›.1)).mono ?_; rintro e w5 ⟨t5, rfl, ht5, hb5⟩; have hb6 : Below W0.heap.size W0 w5 := (‹Below W0.heap.size W0 _ ∧ _›.1).trans (hb5.mono (‹Below W0.heap.size W0 _ ∧ _›.1).size); have HT5 := hide ht5; have z5 : t5.size ≤ 4000 := (by rw [← bytes_len, ht5]; exact HL.out); clear ht5 hb5)
      | (go_at_call 67; refine (HCC.out _).mono ?_; rintro e w7 ⟨t7, rfl, ht7, hb7⟩; have hb8 : Below W0.heap.size W0 w7 := hb6.trans (hb7.mono hb6.size); have HT7 := hide ht7; have z7 : t7.size ≤ 5 := (by rw [← bytes_len, ht7]; exact HLT.out); have z8 : t5.size + t7.size ≤ 9223372036854775807 := (by omega); have z9 := fun w => run_string_add_sum (P := Tryz.prog) (w := w) t5 t7 z8; have z10 : decide (9223372036854775807 < t5.size + t7.size) = false := decide_eq_false (by omega); have z11 : (9223372036854775807 < t5.size + t7.size) = False := eq_false (by omega); clear ht7 hb7)))
  go_wp2
  go_ret
  exact ⟨_, rfl, by rw [bytes_add, HT5.out, HT7.out]; rfl, HN1.out.trans (hb8.mono HN1.out.size)⟩
end Go.Proofs.YtpoibdhhcbelnaaGreatDoor
/- The reference's writing: parts with some others in them: walks. -/
namespace Go.Proofs.YtpoibdhhcbelnaaGreatDoor
open Go.RowKit Brm

theorem Blk.six {w : World} {b : Nat} {v0 v1 v2 v3 v4 v5 : Value} {T : TypeId} (h : Blk w b [v0, v1, v2, v3, v4, v5] T) : w.cell? ⟨b, 0, none⟩ = some v0 ∧ w.cell? ⟨b, 1, none⟩ = some v1 ∧ w.cell? ⟨b, 2, none⟩ = some v2 ∧ w.cell? ⟨b, 3, none⟩ = some v3 ∧ w.cell? ⟨b, 4, none⟩ = some v4 ∧ w.cell? ⟨b, 5, none⟩ = some v5 :=
  ⟨h.cell 0, h.cell 1, h.cell 2, h.cell 3, h.cell 4, h.cell 5⟩
theorem own_cap {w : World} {B : Nat} {e : TypeId} {size n : Nat} {v : Value} {xs : List Value} (h : w.ownsRow B e size v n xs) : n ≤ 9223372036854775807 := by
  rcases h.2 with ⟨rfl, rfl⟩ | ⟨g, cap, cur, rfl, _, _, h1, h2, _⟩
  · omega
  · unfold maxLen at h2; omega
set_option maxRecDepth 100000 in
set_option maxHeartbeats 1000000 in
theorem text_row (l : List Pat) (ih : ∀ p ∈ l, TextOk p) : TextOk (.row l) := by
  intro A c g w h hl hok
  obtain ⟨lv, xs, rfl, ho, hn⟩ := h
  obtain ⟨lo, lc, rfl⟩ := own6_form ho.1
  have HO0 := hide (ho.below (new1 w (.cells #[.int .i64 2, .slice none 0 0, .slice lo l.length lc, .int .i64 0, .int .i64 0, .int .i64 0] 32)))
  have HN0 := hide (NL.keep (Keeps.below (new1 w (.cells #[.int .i64 2, .slice none 0 0, .slice lo l.length lc, .int .i64 0, .int .i64 0, .int .i64 0] 32))) l xs g hn)
  have HIH := hide ih
  have HOK := hide ((okL_iff l).1 hok)
  have hwl : (Lib.join (wrL l) []).length ≤ 4000 := hl
  have HWL := hide hwl
  have HN1 := hide (new1 w (.cells #[.int .i64 2, .slice none 0 0, .slice lo l.length lc, .int .i64 0, .int .i64 0, .int .i64 0] 32))
  have hln := own_cap ho.1
  clear hn ho hl hok ih hwl
  show Calls Tryz.prog 37 #[.agg #[.int .i64 2, .slice none 0 0, .slice lo l.length lc, .int .i64 0, .int .i64 0, .int .i64 0]] w _
  go_enter Tryz.func37, Tryz.ntmps37
  go_wp2_with fail
  have hbx := Blk.new w [.int .i64 2, .slice none 0 0, .slice lo l.length lc, .int .i64 0, .int .i64 0, .int .i64 0] 32
  have HBX : Hid (Blk (w.alloc (.cells #[.int .i64 2, .slice none 0 0, .slice lo l.length lc, .int .i64 0, .int .i64 0, .int .i64 0] 32)) w.heap.size [.int .i64 2, .slice none 0 0, .slice lo l.length lc, .int .i64 0, .int .i64 0, .int .i64 0] 32) := hbx
  clear hbx
  generalize hW : w.alloc (.cells #[.int .i64 2, .slice none 0 0, .slice lo l.length lc, .int .i64 0, .int .i64 0, .int .i64 0] 32) = W0 at HO0 HN0 HN1 HBX
  clear hW
  go_loopw [3, 4] (fun o i wr => ∃ (k : Nat) (t : ByteArray), k ≤ l.length ∧ i = .int .i64 k ∧ o = .string t ∧ bytesOf t = Lib.join (wrL (l.take k)) [] ∧ Below W0.heap.size W0 wr) (fun _ i _ => l.length - (intOf i).toNat)
  case atStart => exact ⟨0, _, Nat.zero_le _, rfl, rfl, rfl, Below.refl _ _⟩
  case round =>
    obtain ⟨k, t, hk, rfl, rfl, ht, hbw⟩ := hrel
    have HO := hide ht
    have HBW := hide hbw
    have hts : t.size ≤ 4000 := by
      rw [← bytes_len, ht]
      have := join_le [] (wrL l) k
      rw [wrL_map, ← List.map_take, ← wrL_map, ← wrL_map] at this
      exact Nat.le_trans this HWL.out
    obtain ⟨x0, x1, x2, x3, x4, x5⟩ := (HBX.out.below hbw).six
    have hBl := (HBX.out.below hbw).lt
    clear ht hbw
    by_cases hlt : k < l.length
    · obtain ⟨cc, gg, hcv, hcx⟩ := NL.at l xs g HN0.out k l[k] (List.getElem?_eq_getElem hlt)
      obtain ⟨kk, so, sn, sc, lo1, ln1, lc1, mm, nn, rr, rfl⟩ := hcv.len
      obtain ⟨b, cap, hlv, hb, c0, c1, c2, c3, c4, c5⟩ := own_six (HO0.out.below HBW.out) hlt hcx
      cases hlv
      have HPL : Hid ((l[k]).wr.length ≤ 4000) := Nat.le_trans (join_mem_le [] (wrL l) _ (by rw [wrL_map]; exact List.mem_map_of_mem (List.getElem_mem hlt))) HWL.out
      have HC : Hid (∀ W, Below wr.heap.size wr W → _) := fun W hW => HIH.out l[k] (List.getElem_mem hlt) A _ gg W ((hcv.below HBW.out).below hW) HPL.out (HOK.out _ (List.getElem_mem hlt))
      replace HC := hide (HC.out wr (Below.refl _ _))
      have HW : Hid (Lib.join (wrL (l.take (k + 1))) [] = if k = 0 then (l[k]).wr else Lib.join (wrL (l.take k)) [] ++ [] ++ (l[k]).wr) := by
        show _ = _
        rw [wrL_map, List.take_succ_eq_append_getElem hlt, List.map_append, List.map_cons, List.map_nil, join_snoc, ← wrL_map]
        by_cases hk0 : k = 0
        · subst hk0; rfl
        · rw [if_neg hk0, if_neg]
          rw [wrL_map]; intro e
          have := congrArg List.length e
          rw [List.length_map, List.length_take] at this
          simp only [List.length_nil] at this; omega
      generalize l[k] = p at HC HPL HW
      have i1 : (0 : Int) ≤ (k : Int) := Int.natCast_nonneg _
      have i2 : (k : Int) < (l.length : Int) := by omega
      clear hcv hcx
      by_cases hk0 : k = 0
      · subst hk0
        simp only [Nat.zero_mul, Nat.zero_add] at c0 c1 c2 c3 c4 c5
        replace HW := hide (HW.out.trans (if_pos rfl))
        have HO2 : Hid (t = ⟨#[]⟩) := bytes_ext (by rw [HO.out]; rfl)
        go_wp2_with fail
        refine HC.out.mono ?_
        rintro e w5 ⟨t5, rfl, ht5, hb5⟩
        have HT := hide ht5
        have HB5 := hide hb5
        have z5 : t5.size ≤ 4000 := by rw [← bytes_len, ht5]; exact HPL.out
        clear ht5 hb5
        go_wp2
        go_roundw
        case rel => exact ⟨1, _, by omega, by go_num, rfl, by rw [bytes_add, HT.out, HW.out, HO2.out]; rfl, HBW.out.trans (HB5.out.mono HBW.out.size)⟩
        case measure => simp [intOf]; omega
      · replace HW := hide (HW.out.trans (if_neg hk0))
        have i3 : (0 : Int) < (k : Int) := by omega
        clear hk0
        go_wp2_with fail
        refine HC.out.mono ?_
        rintro e w5 ⟨t5, rfl, ht5, hb5⟩
        have HT := hide ht5
        have HB5 := hide hb5
        have z5 : t5.size ≤ 4000 := by rw [← bytes_len, ht5]; exact HPL.out
        clear ht5 hb5
        go_wp2
        go_roundw
        case rel => exact ⟨k + 1, _, by omega, by go_num, rfl, by rw [bytes_add, HT.out, HW.out, HO.out]; simp, HBW.out.trans (HB5.out.mono HBW.out.size)⟩
        case measure => simp [intOf]; omega
    · have hke : k = l.length := by omega
      have HKE := hide hke
      clear hke
      go_wp2
      go_ret
      exact ⟨_, rfl, by rw [HO.out, HKE.out, List.take_length]; rfl, HN1.out.trans (HBW.out.mono HN1.out.size)⟩
set_option maxRecDepth 100000 in
set_option maxHeartbeats 1000000 in
theorem text_or (l : List Pat) (ih : ∀ p ∈ l, TextOk p) : TextOk (.or l) := by
  intro A c g w h hl hok
  obtain ⟨lv, xs, rfl, ho, hn⟩ := h
  obtain ⟨lo, lc, rfl⟩ := own6_form ho.1
  have HO0 := hide (ho.below (new1 w (.cells #[.int .i64 3, .slice none 0 0, .slice lo l.length lc, .int .i64 0, .int .i64 0, .int .i64 0] 32)))
  have HN0 := hide (NL.keep (Keeps.below (new1 w (.cells #[.int .i64 3, .slice none 0 0, .slice lo l.length lc, .int .i64 0, .int .i64 0, .int .i64 0] 32))) l xs g hn)
  have HIH := hide ih
  have HOK := hide ((okL_iff l).1 hok.1)
  have hwl : (Lib.join (wrL l) [124]).length ≤ 4000 := hl
  have HWL := hide hwl
  have HN1 := hide (new1 w (.cells #[.int .i64 3, .slice none 0 0, .slice lo l.length lc, .int .i64 0, .int .i64 0, .int .i64 0] 32))
  have hln := own_cap ho.1
  clear hn ho hl hok ih hwl
  show Calls Tryz.prog 37 #[.agg #[.int .i64 3, .slice none 0 0, .slice lo l.length lc, .int .i64 0, .int .i64 0, .int .i64 0]] w _
  go_enter Tryz.func37, Tryz.ntmps37
  go_wp2_with fail
  have hbx := Blk.new w [.int .i64 3, .slice none 0 0, .slice lo l.length lc, .int .i64 0, .int .i64 0, .int .i64 0] 32
  have HBX : Hid (Blk (w.alloc (.cells #[.int .i64 3, .slice none 0 0, .slice lo l.length lc, .int .i64 0, .int .i64 0, .int .i64 0] 32)) w.heap.size [.int .i64 3, .slice none 0 0, .slice lo l.length lc, .int .i64 0, .int .i64 0, .int .i64 0] 32) := hbx
  clear hbx
  generalize hW : w.alloc (.cells #[.int .i64 3, .slice none 0 0, .slice lo l.length lc, .int .i64 0, .int .i64 0, .int .i64 0] 32) = W0 at HO0 HN0 HN1 HBX
  clear hW
  go_loopw [3, 4] (fun o i wr => ∃ (k : Nat) (t : ByteArray), k ≤ l.length ∧ i = .int .i64 k ∧ o = .string t ∧ bytesOf t = Lib.join (wrL (l.take k)) [124] ∧ Below W0.heap.size W0 wr) (fun _ i _ => l.length - (intOf i).toNat)
  case atStart => exact ⟨0, _, Nat.zero_le _, rfl, rfl, rfl, Below.refl _ _⟩
  case round =>
    obtain ⟨k, t, hk, rfl, rfl, ht, hbw⟩ := hrel
    have HO := hide ht
    have HBW := hide hbw
    have hts : t.size ≤ 4000 := by
      rw [← bytes_len, ht]
      have := join_le [124] (wrL l) k
      rw [wrL_map, ← List.map_take, ← wrL_map, ← wrL_map] at this
      exact Nat.le_trans this HWL.out
    obtain ⟨x0, x1, x2, x3, x4, x5⟩ := (HBX.out.below hbw).six
    have hBl := (HBX.out.below hbw).lt
    clear ht hbw
    by_cases hlt : k < l.length
    · obtain ⟨cc, gg, hcv, hcx⟩ := NL.at l xs g HN0.out k l[k] (List.getElem?_eq_getElem hlt)
      obtain ⟨kk, so, sn, sc, lo1, ln1, lc1, mm, nn, rr, rfl⟩ := hcv.len
      obtain ⟨b, cap, hlv, hb, c0, c1, c2, c3, c4, c5⟩ := own_six (HO0.out.below HBW.out) hlt hcx
      cases hlv
      have HPL : Hid ((l[k]).wr.length ≤ 4000) := Nat.le_trans (join_mem_le [124] (wrL l) _ (by rw [wrL_map]; exact List.mem_map_of_mem (List.getElem_mem hlt))) HWL.out
      have HC : Hid (∀ W, Below wr.heap.size wr W → _) := fun W hW => HIH.out l[k] (List.getElem_mem hlt) A _ gg W ((hcv.below HBW.out).below hW) HPL.out (HOK.out _ (List.getElem_mem hlt))
      replace HC := hide (HC.out wr (Below.refl _ _))
      have HW : Hid (Lib.join (wrL (l.take (k + 1))) [124] = if k = 0 then (l[k]).wr else Lib.join (wrL (l.take k)) [124] ++ [124] ++ (l[k]).wr) := by
        show _ = _
        rw [wrL_map, List.take_succ_eq_append_getElem hlt, List.map_append, List.map_cons, List.map_nil, join_snoc, ← wrL_map]
        by_cases hk0 : k = 0
        · subst hk0; rfl
        · rw [if_neg hk0, if_neg]
          rw [wrL_map]; intro e
          have := congrArg List.length e
          rw [List.length_map, List.length_take] at this
          simp only [List.length_nil] at this; omega
      generalize l[k] = p at HC HPL HW
      have i1 : (0 : Int) ≤ (k : Int) := Int.natCast_nonneg _
      have i2 : (k : Int) < (l.length : Int) := by omega
      clear hcv hcx
      by_cases hk0 : k = 0
      · subst hk0
        simp only [Nat.zero_mul, Nat.zero_add] at c0 c1 c2 c3 c4 c5
        replace HW := hide (HW.out.trans (if_pos rfl))
        have HO2 : Hid (t = ⟨#[]⟩) := bytes_ext (by rw [HO.out]; rfl)
        go_wp2_with fail
        refine HC.out.mono ?_
        rintro e w5 ⟨t5, rfl, ht5, hb5⟩
        have HT := hide ht5
        have HB5 := hide hb5
        have z5 : t5.size ≤ 4000 := by rw [← bytes_len, ht5]; exact HPL.out
        clear ht5 hb5
        go_wp2
        go_roundw
        case rel => exact ⟨1, _, by omega, by go_num, rfl, by rw [bytes_add, HT.out, HW.out, HO2.out]; rfl, HBW.out.trans (HB5.out.mono HBW.out.size)⟩
        case measure => simp [intOf]; omega
      · replace HW := hide (HW.out.trans (if_neg hk0))
        have i3 : (0 : Int) < (k : Int) := by omega
        clear hk0
        go_wp2_with fail
        refine HC.out.mono ?_
        rintro e w5 ⟨t5, rfl, ht5, hb5⟩
        have HT := hide ht5
        have HB5 := hide hb5
        have z5 : t5.size ≤ 4000 := by rw [← bytes_len, ht5]; exact HPL.out
        clear ht5 hb5
        go_wp2
        go_roundw
        case rel => exact ⟨k + 1, _, by omega, by go_num, rfl, by rw [bytes_add, bytes_add, HT.out, HW.out, HO.out]; rfl, HBW.out.trans (HB5.out.mono HBW.out.size)⟩
        case measure => simp [intOf]; omega
    · have hke : k = l.length := by omega
      have HKE := hide hke
      clear hke
      go_wp2
      go_ret
      exact ⟨_, rfl, by rw [HO.out, HKE.out, List.take_length]; rfl, HN1.out.trans (HBW.out.mono HN1.out.size)⟩
set_option maxRecDepth 100000 in
set_option maxHeartbeats 1000000 in
theorem text_and (l : List Pat) (ih : ∀ p ∈ l, TextOk p) : TextOk (.and l) := by
  intro A c g w h hl hok
  obtain ⟨lv, xs, rfl, ho, hn⟩ := h
  obtain ⟨lo, lc, rfl⟩ := own6_form ho.1
  have HO0 := hide (ho.below (new1 w (.cells #[.int .i64 4, .slice none 0 0, .slice lo l.length lc, .int .i64 0, .int .i64 0, .int .i64 0] 32)))
  have HN0 := hide (NL.keep (Keeps.below (new1 w (.cells #[.int .i64 4, .slice none 0 0, .slice lo l.length lc, .int .i64 0, .int .i64 0, .int .i64 0] 32))) l xs g hn)
  have HIH := hide ih
  have HOK := hide ((okL_iff l).1 hok.1)
  have hwl : (Lib.join (wrL l) [38]).length ≤ 4000 := hl
  have HWL := hide hwl
  have HN1 := hide (new1 w (.cells #[.int .i64 4, .slice none 0 0, .slice lo l.length lc, .int .i64 0, .int .i64 0, .int .i64 0] 32))
  have hln := own_cap ho.1
  clear hn ho hl hok ih hwl
  show Calls Tryz.prog 37 #[.agg #[.int .i64 4, .slice none 0 0, .slice lo l.length lc, .int .i64 0, .int .i64 0, .int .i64 0]] w _
  go_enter Tryz.func37, Tryz.ntmps37
  go_wp2_with fail
  have hbx := Blk.new w [.int .i64 4, .slice none 0 0, .slice lo l.length lc, .int .i64 0, .int .i64 0, .int .i64 0] 32
  have HBX : Hid (Blk (w.alloc (.cells #[.int .i64 4, .slice none 0 0, .slice lo l.length lc, .int .i64 0, .int .i64 0, .int .i64 0] 32)) w.heap.size [.int .i64 4, .slice none 0 0, .slice lo l.length lc, .int .i64 0, .int .i64 0, .int .i64 0] 32) := hbx
  clear hbx
  generalize hW : w.alloc (.cells #[.int .i64 4, .slice none 0 0, .slice lo l.length lc, .int .i64 0, .int .i64 0, .int .i64 0] 32) = W0 at HO0 HN0 HN1 HBX
  clear hW
  go_loopw [3, 4] (fun o i wr => ∃ (k : Nat) (t : ByteArray), k ≤ l.length ∧ i = .int .i64 k ∧ o = .string t ∧ bytesOf t = Lib.join (wrL (l.take k)) [38] ∧ Below W0.heap.size W0 wr) (fun _ i _ => l.length - (intOf i).toNat)
  case atStart => exact ⟨0, _, Nat.zero_le _, rfl, rfl, rfl, Below.refl _ _⟩
  case round =>
    obtain ⟨k, t, hk, rfl, rfl, ht, hbw⟩ := hrel
    have HO := hide ht
    have HBW := hide hbw
    have hts : t.size ≤ 4000 := by
      rw [← bytes_len, ht]
      have := join_le [38] (wrL l) k
      rw [wrL_map, ← List.map_take, ← wrL_map, ← wrL_map] at this
      exact Nat.le_trans this HWL.out
    obtain ⟨x0, x1, x2, x3, x4, x5⟩ := (HBX.out.below hbw).six
    have hBl := (HBX.out.below hbw).lt
    clear ht hbw
    by_cases hlt : k < l.length
    · obtain ⟨cc, gg, hcv, hcx⟩ := NL.at l xs g HN0.out k l[k] (List.getElem?_eq_getElem hlt)
      obtain ⟨kk, so, sn, sc, lo1, ln1, lc1, mm, nn, rr, rfl⟩ := hcv.len
      obtain ⟨b, cap, hlv, hb, c0, c1, c2, c3, c4, c5⟩ := own_six (HO0.out.below HBW.out) hlt hcx
      cases hlv
      have HPL : Hid ((l[k]).wr.length ≤ 4000) := Nat.le_trans (join_mem_le [38] (wrL l) _ (by rw [wrL_map]; exact List.mem_map_of_mem (List.getElem_mem hlt))) HWL.out
      have HC : Hid (∀ W, Below wr.heap.size wr W → _) := fun W hW => HIH.out l[k] (List.getElem_mem hlt) A _ gg W ((hcv.below HBW.out).below hW) HPL.out (HOK.out _ (List.getElem_mem hlt))
      replace HC := hide (HC.out wr (Below.refl _ _))
      have HW : Hid (Lib.join (wrL (l.take (k + 1))) [38] = if k = 0 then (l[k]).wr else Lib.join (wrL (l.take k)) [38] ++ [38] ++ (l[k]).wr) := by
        show _ = _
        rw [wrL_map, List.take_succ_eq_append_getElem hlt, List.map_append, List.map_cons, List.map_nil, join_snoc, ← wrL_map]
        by_cases hk0 : k = 0
        · subst hk0; rfl
        · rw [if_neg hk0, if_neg]
          rw [wrL_map]; intro e
          have := congrArg List.length e
          rw [List.length_map, List.length_take] at this
          simp only [List.length_nil] at this; omega
      generalize l[k] = p at HC HPL HW
      have i1 : (0 : Int) ≤ (k : Int) := Int.natCast_nonneg _
      have i2 : (k : Int) < (l.length : Int) := by omega
      clear hcv hcx
      by_cases hk0 : k = 0
      · subst hk0
        simp only [Nat.zero_mul, Nat.zero_add] at c0 c1 c2 c3 c4 c5
        replace HW := hide (HW.out.trans (if_pos rfl))
        have HO2 : Hid (t = ⟨#[]⟩) := bytes_ext (by rw [HO.out]; rfl)
        go_wp2_with fail
        refine HC.out.mono ?_
        rintro e w5 ⟨t5, rfl, ht5, hb5⟩
        have HT := hide ht5
        have HB5 := hide hb5
        have z5 : t5.size ≤ 4000 := by rw [← bytes_len, ht5]; exact HPL.out
        clear ht5 hb5
        go_wp2
        go_roundw
        case rel => exact ⟨1, _, by omega, by go_num, rfl, by rw [bytes_add, HT.out, HW.out, HO2.out]; rfl, HBW.out.trans (HB5.out.mono HBW.out.size)⟩
        case measure => simp [intOf]; omega
      · replace HW := hide (HW.out.trans (if_neg hk0))
        have i3 : (0 : Int) < (k : Int) := by omega
        clear hk0
        go_wp2_with fail
        refine HC.out.mono ?_
        rintro e w5 ⟨t5, rfl, ht5, hb5⟩
        have HT := hide ht5
        have HB5 := hide hb5
        have z5 : t5.size ≤ 4000 := by rw [← bytes_len, ht5]; exact HPL.out
        clear ht5 hb5
        go_wp2
        go_roundw
        case rel => exact ⟨k + 1, _, by omega, by go_num, rfl, by rw [bytes_add, bytes_add, HT.out, HW.out, HO.out]; rfl, HBW.out.trans (HB5.out.mono HBW.out.size)⟩
        case measure => simp [intOf]; omega
    · have hke : k = l.length := by omega
      have HKE := hide hke
      clear hke
      go_wp2
      go_ret
      exact ⟨_, rfl, by rw [HO.out, HKE.out, List.take_length]; rfl, HN1.out.trans (HBW.out.mono HN1.out.size)⟩
mutual
theorem text_all : ∀ (p : Pat), TextOk p
  | .set s => text_set s
  | .row l => text_row l (text_allL l)
  | .or l => text_or l (text_allL l)
  | .and l => text_and l (text_allL l)
  | .not p => text_not p (text_all p)
  | .many p m n => text_many p m n (text_all p)
  | .group p => text_group p (text_all p)
theorem text_allL : ∀ (l : List Pat), ∀ p ∈ l, TextOk p
  | [] => fun p h => by cases h
  | q :: l => by
    have hq := text_all q
    have hl := text_allL l
    intro p h
    rcases List.mem_cons.1 h with rfl | h
    · exact hq
    · exact hl p h
end
end Go.Proofs.YtpoibdhhcbelnaaGreatDoor
