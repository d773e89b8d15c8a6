/- The law Algebra at two sets: a walk out of the contracts. -/
import Derived.Test.YtaiidpcdeghipaaCalls
import Derived.Test.YtaiidpcdeghipaaRisen
import Derived.Deep.DeepCutAuto
namespace Go.Proofs.Ytaiidpcdeghipaa
open Go.RowKit

set_option maxRecDepth 100000 in
set_option maxHeartbeats 2000000 in
theorem algebra_yes (ao bo : Option Addr) (a b : List (Int × Int)) (ca cb : Nat) (r : Int) (w : World) (ha : Rd w ao a) (hb : Rd w bo b) (h1 : Brm.setB a = true) (h2 : Brm.setB b = true) (na : ao = none → ca = 0) (nb : bo = none → cb = 0) :
    Calls Try.prog 4 #[.slice ao a.length ca, .slice bo b.length cb, .int .i64 r] w fun e w' => e = .returned (.bool true) ∧ Below w.heap.size w w' := by
  have HX := hide (norm_yes ao a ca w ha h1)
  have HY := hide (fun w1 (h : Below w.heap.size w w1) => norm_yes bo b cb w1 (hb.below h) h2)
  have HO := hide (fun w1 (h : Below w.heap.size w w1) => sor_yes ao bo a b ca cb w1 (ha.below h) (hb.below h) h1 h2 na nb)
  have HD := hide (fun w1 (h : Below w.heap.size w w1) => sand_yes ao bo a b ca cb w1 (ha.below h) (hb.below h) h1 h2)
  have HN := hide (fun w1 (h : Below w.heap.size w w1) => snot_yes ao a ca w1 (ha.below h) h1)
  have HH := hide (fun w1 (h : Below w.heap.size w w1) => Bool.and_comm (Brm.runeB r) (Brm.memB a r) ▸ shas_yes ao a ca r w1 (ha.below h) h1)
  have p1 := (set_parts h1).1
  have p2 := (set_parts h2).1
  have HIA := hide (fun w1 (h : Below w.heap.size w w1) => in_any ao a ca r w1 (ha.below h) (by omega))
  have HIB := hide (fun w1 (h : Below w.heap.size w w1) => in_any bo b cb r w1 (hb.below h) (by omega))
  clear ha hb h1 h2 na nb
  go_enter Try.func4, Try.ntmps4
  go_wp2_with fail
  refine HX.out.mono ?_
  rintro e w1 ⟨v1, rfl, L1, ⟨f1, l1⟩, o1, b1⟩
  obtain ⟨ao1, cap1, rfl, _, rd1⟩ := own_rd o1
  go_wp2_with fail
  refine (HY.out w1 b1).mono ?_
  rintro e w2 ⟨v2, rfl, L2, ⟨f2, l2⟩, o2, b2⟩
  obtain ⟨ao2, cap2, rfl, _, rd2⟩ := own_rd o2
  have k2 := b1.trans (b2.mono b1.size)
  go_wp2_with fail
  refine (HO.out w2 k2).mono ?_
  rintro e w3 ⟨v3, rfl, L3, ⟨f3, l3⟩, o3, b3⟩
  obtain ⟨ao3, cap3, rfl, _, rd3⟩ := own_rd o3
  have k3 := k2.trans (b3.mono k2.size)
  go_wp2_with fail
  refine (HD.out w3 k3).mono ?_
  rintro e w4 ⟨v4, rfl, L4, ⟨f4, g4, l4⟩, o4, b4⟩
  obtain ⟨ao4, cap4, rfl, _, rd4⟩ := own_rd o4
  have k4 := k3.trans (b4.mono k3.size)
  go_wp2_with fail
  refine (HN.out w4 k4).mono ?_
  rintro e w5 ⟨v5, rfl, L5, ⟨f5, g5, l5⟩, o5, b5⟩
  obtain ⟨ao5, cap5, rfl, _, rd5⟩ := own_rd o5
  have k5 := k4.trans (b5.mono k4.size)
  have q1 : Rd w5 ao1 L1 := (((rd1.below b2).below b3).below b4).below b5
  have q2 : Rd w5 ao2 L2 := ((rd2.below b3).below b4).below b5
  have q3 : Rd w5 ao3 L3 := (rd3.below b4).below b5
  have q4 : Rd w5 ao4 L4 := rd4.below b5
  have R1 := hide (fun w6 (h : Below w5.heap.size w5 w6) => risen_any ao1 L1 cap1 w6 (q1.below h) (by omega) f1.1)
  have R2 := hide (fun w6 (h : Below w5.heap.size w5 w6) => risen_any ao2 L2 cap2 w6 (q2.below h) (by omega) f2.1)
  have R3 := hide (fun w6 (h : Below w5.heap.size w5 w6) => risen_any ao3 L3 cap3 w6 (q3.below h) (by omega) f3.1)
  have R4 := hide (fun w6 (h : Below w5.heap.size w5 w6) => risen_any ao4 L4 cap4 w6 (q4.below h) (by omega) f4)
  have R5 := hide (fun w6 (h : Below w5.heap.size w5 w6) => risen_any ao5 L5 cap5 w6 (rd5.below h) (by omega) f5)

  have N1 := hide (fun w6 (h : Below w5.heap.size w5 w6) => in_any ao1 L1 cap1 r w6 (q1.below h) (by omega))
  have N3 := hide (fun w6 (h : Below w5.heap.size w5 w6) => in_any ao3 L3 cap3 r w6 (q3.below h) (by omega))
  have N4 := hide (fun w6 (h : Below w5.heap.size w5 w6) => in_any ao4 L4 cap4 r w6 (q4.below h) (by omega))
  have N5 := hide (fun w6 (h : Below w5.heap.size w5 w6) => in_any ao5 L5 cap5 r w6 (rd5.below h) (by omega))
  have HE : Hid (Brm.runeB r = true → Brm.memB L1 r = (Brm.memB a r && Brm.runeB r) ∧ Brm.memB L3 r = ((Brm.memB a r && Brm.runeB r) || (Brm.memB b r && Brm.runeB r)) ∧
      Brm.memB L4 r = ((Brm.memB a r && Brm.runeB r) && (Brm.memB b r && Brm.runeB r)) ∧ Brm.memB L5 r = !(Brm.memB a r && Brm.runeB r)) := by
    intro h
    rw [f1.2 r h, f3.2 r h, g4 r h, g5 r h, h, Brm.mem_append]
    simp
  clear rd1 rd2 rd3 rd4 rd5 q1 q2 q3 q4 f1 f2 f3 f4 g4 f5 g5 o1 o2 o3 o4 o5 b1 b2 b3 b4 b5 k2 k3 k4
  clear HX HY HO HD HN
  go_upto_region 9 with fail
  go_cut [19] (fun v wx => v = .bool (Brm.runeB r) ∧ wx = w5)
  case first =>
    go_wp2_with fail
    all_goals
      go_meet
      case rel => exact ⟨congrArg Value.bool (by rw [Bool.eq_iff_iff, Brm.rune_iff]; simp; try omega), rfl⟩
  case rest =>
    obtain ⟨rfl, rfl⟩ := hcut
    go_upto_region 10 with fail
    go_cut [20] (fun v wx => v = .bool (Brm.memB a r && Brm.runeB r) ∧ wx = wc)
    case first =>
      rcases Bool.eq_false_or_eq_true (Brm.memB a r) with hm | hm
      all_goals
        have HI := HIA.out wc k5
        rw [hm] at HI
        have HI2 := hide HI
        clear HI
        go_wp2_with fail
        refine HI2.out.mono ?_
        rintro e w' ⟨rfl, rfl⟩
        go_wp2_with fail
        go_meet
        case rel => exact ⟨by simp [hm], rfl⟩
    case rest =>
      obtain ⟨rfl, rfl⟩ := hcut
      go_upto_region 11 with fail
      go_cut [21] (fun v wx => v = .bool (Brm.memB b r && Brm.runeB r) ∧ wx = wc)
      case first =>
        rcases Bool.eq_false_or_eq_true (Brm.memB b r) with hm | hm
        all_goals
          have HI := HIB.out wc k5
          rw [hm] at HI
          have HI2 := hide HI
          clear HI
          go_wp2_with fail
          refine HI2.out.mono ?_
          rintro e w' ⟨rfl, rfl⟩
          go_wp2_with fail
          go_meet
          case rel => exact ⟨by simp [hm], rfl⟩
      case rest =>
        obtain ⟨rfl, rfl⟩ := hcut
        generalize (Brm.memB a r && Brm.runeB r) = P at HE HH ⊢
        generalize (Brm.memB b r && Brm.runeB r) = Q at HE ⊢
        generalize Brm.runeB r = rr at HE ⊢
        clear HIA HIB
        go_wp2_with fail
        refine (R1.out wc (Below.refl _ _)).mono ?_
        rintro e w6 ⟨rfl, b6⟩
        go_wp2_with fail
        refine (R2.out w6 b6).mono ?_
        rintro e w7 ⟨rfl, b7⟩
        have c7 := b6.trans (b7.mono b6.size)
        go_wp2_with fail
        refine (R3.out w7 c7).mono ?_
        rintro e w8 ⟨rfl, b8⟩
        have c8 := c7.trans (b8.mono c7.size)
        go_wp2_with fail
        refine (R4.out w8 c8).mono ?_
        rintro e w9 ⟨rfl, b9⟩
        have c9 := c8.trans (b9.mono c8.size)
        go_wp2_with fail
        refine (R5.out w9 c9).mono ?_
        rintro e w10 ⟨rfl, b10⟩
        have c10 := c9.trans (b10.mono c9.size)
        have k10 := k5.trans (c10.mono k5.size)
        go_wp2_with fail
        refine (HH.out w10 k10).mono ?_
        rintro e w11 ⟨rfl, b11⟩
        have c11 := c10.trans (b11.mono c10.size)
        have k11 := k5.trans (c11.mono k5.size)
        clear b6 b7 b8 b9 b10 b11 c7 c8 c9 c10 k10 k5 R1 R2 R3 R4 R5 HH
        cases rr with
        | false =>
          cases P <;> (go_wp2; go_ret; exact ⟨rfl, k11⟩)
        | true =>
          obtain ⟨e1, e3, e4, e5⟩ := HE.out rfl
          have M1 := N1.out w11 c11
          have M3 := N3.out w11 c11
          have M4 := N4.out w11 c11
          have M5 := N5.out w11 c11
          rw [e1] at M1
          rw [e3] at M3
          rw [e4] at M4
          rw [e5] at M5
          have H1 := hide M1; have H3 := hide M3; have H4 := hide M4; have H5 := hide M5
          clear M1 M3 M4 M5 e1 e3 e4 e5 HE N1 N3 N4 N5
          cases P <;> cases Q
          all_goals
            go_wp2_with fail
            refine H1.out.mono ?_
            rintro e w' ⟨rfl, rfl⟩
            go_wp2_with fail
            refine H3.out.mono ?_
            rintro e w' ⟨rfl, rfl⟩
            go_wp2_with fail
            refine H4.out.mono ?_
            rintro e w' ⟨rfl, rfl⟩
            go_wp2_with fail
            refine H5.out.mono ?_
            rintro e w' ⟨rfl, rfl⟩
            go_wp2
            go_ret
            exact ⟨rfl, k11⟩
end Go.Proofs.Ytaiidpcdeghipaa
