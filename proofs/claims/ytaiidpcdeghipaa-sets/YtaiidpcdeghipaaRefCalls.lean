/- What the reference's calls on sets answer: walks. -/
import Derived.Test.YtaiidpcdeghipaaRefOps
import Derived.Test.YtaiidpcdeghipaaTold
import Derived.Test.YtaiidpcdeghipaaCalls
namespace Go.Proofs.Ytaiidpcdeghipaa
open Go.RowKit

theorem form_told {l out : List (Int × Int)} (h : NormI l l.length out) : Brm.IsForm l (Brm.told out) :=
  ⟨Brm.told_canon h.1, fun r hr => by rw [Brm.told_mem h.1 r hr, h.2.1 r hr, List.take_length]⟩

set_option maxHeartbeats 400000 in
theorem qnorm_no (ao : Option Addr) (l : List (Int × Int)) (cap : Nat) (w : World) (h : Rd w ao l) (hlen : l.length ≤ 9223372036854775806) (hs : Brm.setB l = false) :
    Calls Try.prog 16 #[.slice ao l.length cap] w fun e w' => e = .returned (.tuple #[.slice none 0 0, .int .i64 1]) ∧ Below w.heap.size w w' := by
  have HI := hide (risSet_any ao l cap w h hlen)
  clear h hlen
  rw [hs] at HI
  go_enter Try.func16, Try.ntmps16
  go_wp2_with (go_at_call 34; refine HI.out.mono ?_; rintro e w1 ⟨rfl, hb⟩)
  go_ret2
  exact ⟨rfl, hb⟩

set_option maxHeartbeats 400000 in
theorem qnot_no (ao : Option Addr) (l : List (Int × Int)) (cap : Nat) (w : World) (h : Rd w ao l) (hlen : l.length ≤ 9223372036854775806) (hs : Brm.setB l = false) :
    Calls Try.prog 17 #[.slice ao l.length cap] w fun e w' => e = .returned (.tuple #[.slice none 0 0, .int .i64 1]) ∧ Below w.heap.size w w' := by
  have HI := hide (risSet_any ao l cap w h hlen)
  clear h hlen
  rw [hs] at HI
  go_enter Try.func17, Try.ntmps17
  go_wp2_with (go_at_call 34; refine HI.out.mono ?_; rintro e w1 ⟨rfl, hb⟩)
  go_ret2
  exact ⟨rfl, hb⟩

set_option maxHeartbeats 400000 in
theorem qhas_no (ao : Option Addr) (l : List (Int × Int)) (cap : Nat) (r : Int) (w : World) (h : Rd w ao l) (hlen : l.length ≤ 9223372036854775806) (hs : Brm.setB l = false) :
    Calls Try.prog 20 #[.slice ao l.length cap, .int .i64 r] w fun e w' => e = .returned (.tuple #[.bool false, .int .i64 1]) ∧ Below w.heap.size w w' := by
  have HI := hide (risSet_any ao l cap w h hlen)
  clear h hlen
  rw [hs] at HI
  go_enter Try.func20, Try.ntmps20
  go_wp2_with (go_at_call 34; refine HI.out.mono ?_; rintro e w1 ⟨rfl, hb⟩)
  go_ret2
  exact ⟨rfl, hb⟩

set_option maxHeartbeats 400000 in
theorem qor_no (ao bo : Option Addr) (a b : List (Int × Int)) (ca cb : Nat) (w : World) (ha : Rd w ao a) (hb : Rd w bo b) (hal : a.length ≤ 9223372036854775806) (hbl : b.length ≤ 9223372036854775806) (hs : (Brm.setB a && Brm.setB b) = false) :
    Calls Try.prog 18 #[.slice ao a.length ca, .slice bo b.length cb] w fun e w' => e = .returned (.tuple #[.slice none 0 0, .int .i64 1]) ∧ Below w.heap.size w w' := by
  have HI := hide (risSet_any ao a ca w ha hal)
  have HJ := hide (fun w1 h1 => risSet_any bo b cb w1 (hb.below h1) hbl)
  clear ha hb hal hbl
  generalize Brm.setB a = p at HI hs
  generalize Brm.setB b = q at HJ hs
  go_enter Try.func18, Try.ntmps18
  go_wp2_with fail
  refine HI.out.mono ?_
  rintro e w1 ⟨rfl, hb1⟩
  go_wp2_with fail
  refine (HJ.out _ hb1).mono ?_
  rintro e w2 ⟨rfl, hb2⟩
  have hb3 := hb1.trans (hb2.mono hb1.size)
  cases p <;> cases q <;> simp at hs <;> (go_wp2; go_ret2; exact ⟨rfl, hb3⟩)

set_option maxHeartbeats 400000 in
theorem qand_no (ao bo : Option Addr) (a b : List (Int × Int)) (ca cb : Nat) (w : World) (ha : Rd w ao a) (hb : Rd w bo b) (hal : a.length ≤ 9223372036854775806) (hbl : b.length ≤ 9223372036854775806) (hs : (Brm.setB a && Brm.setB b) = false) :
    Calls Try.prog 19 #[.slice ao a.length ca, .slice bo b.length cb] w fun e w' => e = .returned (.tuple #[.slice none 0 0, .int .i64 1]) ∧ Below w.heap.size w w' := by
  have HI := hide (risSet_any ao a ca w ha hal)
  have HJ := hide (fun w1 h1 => risSet_any bo b cb w1 (hb.below h1) hbl)
  clear ha hb hal hbl
  generalize Brm.setB a = p at HI hs
  generalize Brm.setB b = q at HJ hs
  go_enter Try.func19, Try.ntmps19
  go_wp2_with fail
  refine HI.out.mono ?_
  rintro e w1 ⟨rfl, hb1⟩
  go_wp2_with fail
  refine (HJ.out _ hb1).mono ?_
  rintro e w2 ⟨rfl, hb2⟩
  have hb3 := hb1.trans (hb2.mono hb1.size)
  cases p <;> cases q <;> simp at hs <;> (go_wp2; go_ret2; exact ⟨rfl, hb3⟩)

set_option maxHeartbeats 400000 in
theorem qnorm_yes (ao : Option Addr) (l : List (Int × Int)) (cap : Nat) (w : World) (h : Rd w ao l) (hs : Brm.setB l = true) :
    Calls Try.prog 16 #[.slice ao l.length cap] w fun e w' => ∃ v, e = .returned (.tuple #[v, .int .i64 0]) ∧ Hands w w' v fun out => Brm.IsForm l out ∧ out.length ≤ l.length := by
  have hp := set_parts hs
  have HI := hide (risSet_any ao l cap w h (by omega))
  have HN := hide (fun w1 hb => rnorm_any ao l cap w1 (h.below hb) (by omega) hp.2)
  have hl := hp.1
  clear h hp
  rw [hs] at HI
  go_enter Try.func16, Try.ntmps16
  go_wp2_with fail
  refine HI.out.mono ?_
  rintro e w1 ⟨rfl, b1⟩
  go_wp2_with fail
  refine (HN.out w1 b1).mono ?_
  rintro e w2 ⟨v2, L, rfl, s2, n2, b2⟩
  obtain ⟨ao2, c2, rfl, rd2, _⟩ := s2.rd
  have k2 := b1.trans (b2.mono b1.size)
  have hL := n2.2.2
  have N2 := hide n2
  clear n2 s2
  go_wp2_with fail
  refine (told_any ao2 L c2 w2 rd2 (by omega) N2.out.1.1).mono ?_
  rintro e w3 ⟨v3, rfl, o3, b3⟩
  have T3 : Hid (Hands w w3 v3 fun out => Brm.IsForm l out ∧ out.length ≤ l.length) := ⟨Brm.told L, ⟨form_told N2.out, by simp [Brm.told]; omega⟩, own_le o3 k2.size, k2.trans (b3.mono k2.size)⟩
  clear o3
  go_wp2
  go_ret2
  exact ⟨v3, rfl, T3.out⟩

set_option maxHeartbeats 400000 in
theorem qnot_yes (ao : Option Addr) (l : List (Int × Int)) (cap : Nat) (w : World) (h : Rd w ao l) (hs : Brm.setB l = true) :
    Calls Try.prog 17 #[.slice ao l.length cap] w fun e w' => ∃ v, e = .returned (.tuple #[v, .int .i64 0]) ∧ Hands w w' v fun out => Brm.Canon out ∧ (∀ r, Brm.runeB r = true → Brm.memB out r = !Brm.memB l r) ∧ out.length ≤ l.length + 1 := by
  have hp := set_parts hs
  have HI := hide (risSet_any ao l cap w h (by omega))
  have HN := hide (fun w1 hb => rnorm_any ao l cap w1 (h.below hb) (by omega) hp.2)
  have hl := hp.1
  clear h hp
  rw [hs] at HI
  go_enter Try.func17, Try.ntmps17
  go_wp2_with fail
  refine HI.out.mono ?_
  rintro e w1 ⟨rfl, b1⟩
  go_wp2_with fail
  refine (HN.out w1 b1).mono ?_
  rintro e w2 ⟨v2, L, rfl, s2, n2, b2⟩
  obtain ⟨ao2, c2, rfl, rd2, _⟩ := s2.rd
  have k2 := b1.trans (b2.mono b1.size)
  have hL := n2.2.2
  have N2 := hide n2
  clear n2 s2
  go_wp2_with fail
  refine (rnot_any ao2 L c2 w2 rd2 (by omega) N2.out.1).mono ?_
  rintro e w3 ⟨v3, rfl, M, ⟨m1, m2, m3⟩, o3, b3⟩
  obtain ⟨ao3, c3, rfl, _, rd3⟩ := own_rd o3
  have k3 := k2.trans (b3.mono k2.size)
  have M1 := hide m1; have M2 := hide m2
  clear m1 m2 o3
  go_wp2_with fail
  refine (told_any ao3 M c3 w3 rd3 (by omega) M1.out.1).mono ?_
  rintro e w4 ⟨v4, rfl, o4, b4⟩
  have T4 : Hid (Hands w w4 v4 fun out => Brm.Canon out ∧ (∀ r, Brm.runeB r = true → Brm.memB out r = !Brm.memB l r) ∧ out.length ≤ l.length + 1) :=
    ⟨Brm.told M, ⟨Brm.told_canon M1.out, fun r hr => by rw [Brm.told_mem M1.out r hr, M2.out _ (Brm.back_up hr).2.1, N2.out.2.1 r hr, List.take_length], by simp [Brm.told]; omega⟩, own_le o4 k3.size, k3.trans (b4.mono k3.size)⟩
  clear o4
  go_wp2
  go_ret2
  exact ⟨v4, rfl, T4.out⟩

set_option maxHeartbeats 400000 in
theorem qor_yes (ao bo : Option Addr) (a b : List (Int × Int)) (ca cb : Nat) (w : World) (ha : Rd w ao a) (hb : Rd w bo b) (h1 : Brm.setB a = true) (h2 : Brm.setB b = true) :
    Calls Try.prog 18 #[.slice ao a.length ca, .slice bo b.length cb] w fun e w' => ∃ v, e = .returned (.tuple #[v, .int .i64 0]) ∧ Hands w w' v fun out => Brm.IsForm (a ++ b) out ∧ out.length ≤ a.length + b.length := by
  have p1 := set_parts h1
  have p2 := set_parts h2
  have HI := hide (risSet_any ao a ca w ha (by omega))
  have HJ := hide (fun w1 h1 => risSet_any bo b cb w1 (hb.below h1) (by omega))
  have HN := hide (fun w1 h => rnorm_any ao a ca w1 (ha.below h) (by omega) p1.2)
  have HM := hide (fun w1 h => rnorm_any bo b cb w1 (hb.below h) (by omega) p2.2)
  have la := p1.1
  have lb := p2.1
  clear ha hb p1 p2
  rw [h1] at HI
  rw [h2] at HJ
  go_enter Try.func18, Try.ntmps18
  go_wp2_with fail
  refine HI.out.mono ?_
  rintro e w1 ⟨rfl, b1⟩
  go_wp2_with fail
  refine (HJ.out _ b1).mono ?_
  rintro e w2 ⟨rfl, b2⟩
  have k2 := b1.trans (b2.mono b1.size)
  go_wp2_with fail
  refine (HN.out w2 k2).mono ?_
  rintro e w3 ⟨v3, L, rfl, s3, n3, b3⟩
  have k3 := k2.trans (b3.mono k2.size)
  have N3 := hide n3; have S3 := hide s3
  have hL := n3.2.2
  clear n3 s3
  go_wp2_with fail
  refine (HM.out w3 k3).mono ?_
  rintro e w4 ⟨v4, M, rfl, s4, n4, b4⟩
  obtain ⟨ao4, c4, rfl, rd4, _⟩ := s4.rd
  have k4 := k3.trans (b4.mono k3.size)
  have N4 := hide n4
  have hM := n4.2.2
  clear n4 s4
  go_wp2_with fail
  refine (ror2_any v3 ao4 L M c4 w4 (S3.out.below b4) rd4 (by omega) (by omega) N3.out.1 N4.out.1).mono ?_
  rintro e w5 ⟨v5, O, rfl, s5, ⟨q1, q2, q3⟩, b5⟩
  obtain ⟨ao5, c5, rfl, rd5, _⟩ := s5.rd
  have k5 := k4.trans (b5.mono k4.size)
  have Q1 := hide q1; have Q2 := hide q2
  clear q1 q2 s5 rd4
  go_wp2_with fail
  refine (told_any ao5 O c5 w5 rd5 (by omega) Q1.out.1).mono ?_
  rintro e w6 ⟨v6, rfl, o6, b6⟩
  have T6 : Hid (Hands w w6 v6 fun out => Brm.IsForm (a ++ b) out ∧ out.length ≤ a.length + b.length) :=
    ⟨Brm.told O, ⟨⟨Brm.told_canon Q1.out, fun r hr => by rw [Brm.told_mem Q1.out r hr, Q2.out, N3.out.2.1 r hr, N4.out.2.1 r hr, List.take_length, List.take_length, Brm.mem_append]⟩, by simp [Brm.told]; omega⟩, own_le o6 k5.size, k5.trans (b6.mono k5.size)⟩
  clear o6
  go_wp2
  go_ret2
  exact ⟨v6, rfl, T6.out⟩

set_option maxHeartbeats 800000 in
theorem qand_yes (ao bo : Option Addr) (a b : List (Int × Int)) (ca cb : Nat) (w : World) (ha : Rd w ao a) (hb : Rd w bo b) (h1 : Brm.setB a = true) (h2 : Brm.setB b = true) :
    Calls Try.prog 19 #[.slice ao a.length ca, .slice bo b.length cb] w fun e w' => ∃ v, e = .returned (.tuple #[v, .int .i64 0]) ∧ Hands w w' v fun out => Brm.Canon out ∧ (∀ r, Brm.runeB r = true → Brm.memB out r = (Brm.memB a r && Brm.memB b r)) ∧ out.length ≤ a.length + b.length + 3 := by
  have p1 := set_parts h1
  have p2 := set_parts h2
  have HI := hide (risSet_any ao a ca w ha (by omega))
  have HJ := hide (fun w1 h1 => risSet_any bo b cb w1 (hb.below h1) (by omega))
  have HN := hide (fun w1 h => rnorm_any ao a ca w1 (ha.below h) (by omega) p1.2)
  have HM := hide (fun w1 h => rnorm_any bo b cb w1 (hb.below h) (by omega) p2.2)
  have la := p1.1
  have lb := p2.1
  clear ha hb p1 p2
  rw [h1] at HI
  rw [h2] at HJ
  go_enter Try.func19, Try.ntmps19
  go_wp2_with fail
  refine HI.out.mono ?_
  rintro e w1 ⟨rfl, b1⟩
  go_wp2_with fail
  refine (HJ.out _ b1).mono ?_
  rintro e w2 ⟨rfl, b2⟩
  have k2 := b1.trans (b2.mono b1.size)
  go_wp2_with fail
  refine (HN.out w2 k2).mono ?_
  rintro e w3 ⟨v3, L, rfl, s3, n3, b3⟩
  obtain ⟨ao3, c3, rfl, rd3, _⟩ := s3.rd
  have k3 := k2.trans (b3.mono k2.size)
  have N3 := hide n3
  have hL := n3.2.2
  clear n3 s3
  go_wp2_with fail
  refine (rnot_any ao3 L c3 w3 rd3 (by omega) N3.out.1).mono ?_
  rintro e w4 ⟨v4, rfl, L', ⟨x1, x2, x3⟩, o4, b4⟩
  have k4 := k3.trans (b4.mono k3.size)
  have X1 := hide x1; have X2 := hide x2; have S4 := hide (own_sl o4)
  clear x1 x2 o4 rd3
  go_wp2_with fail
  refine (HM.out w4 k4).mono ?_
  rintro e w5 ⟨v5, M, rfl, s5, n5, b5⟩
  obtain ⟨ao5, c5, rfl, rd5, _⟩ := s5.rd
  have k5 := k4.trans (b5.mono k4.size)
  have N5 := hide n5
  have hM := n5.2.2
  clear n5 s5
  go_wp2_with fail
  refine (rnot_any ao5 M c5 w5 rd5 (by omega) N5.out.1).mono ?_
  rintro e w6 ⟨v6, rfl, M', ⟨y1, y2, y3⟩, o6, b6⟩
  obtain ⟨ao6, c6, rfl, _, rd6⟩ := own_rd o6
  have k6 := k5.trans (b6.mono k5.size)
  have Y1 := hide y1; have Y2 := hide y2
  clear y1 y2 o6 rd5
  go_wp2_with fail
  refine (ror2_any v4 ao6 L' M' c6 w6 ((S4.out.below b5).below b6) rd6 (by omega) (by omega) X1.out Y1.out).mono ?_
  rintro e w7 ⟨v7, O, rfl, s7, ⟨q1, q2, q3⟩, b7⟩
  obtain ⟨ao7, c7, rfl, rd7, _⟩ := s7.rd
  have k7 := k6.trans (b7.mono k6.size)
  have Q1 := hide q1; have Q2 := hide q2
  clear q1 q2 s7 rd6
  go_wp2_with fail
  refine (rnot_any ao7 O c7 w7 rd7 (by omega) Q1.out).mono ?_
  rintro e w8 ⟨v8, rfl, Z, ⟨z1, z2, z3⟩, o8, b8⟩
  obtain ⟨ao8, c8, rfl, _, rd8⟩ := own_rd o8
  have k8 := k7.trans (b8.mono k7.size)
  have Z1 := hide z1; have Z2 := hide z2
  clear z1 z2 o8 rd7
  go_wp2_with fail
  refine (told_any ao8 Z c8 w8 rd8 (by omega) Z1.out.1).mono ?_
  rintro e w9 ⟨v9, rfl, o9, b9⟩
  have T9 : Hid (Hands w w9 v9 fun out => Brm.Canon out ∧ (∀ r, Brm.runeB r = true → Brm.memB out r = (Brm.memB a r && Brm.memB b r)) ∧ out.length ≤ a.length + b.length + 3) :=
    ⟨Brm.told Z, ⟨Brm.told_canon Z1.out, fun r hr => by
      have hp := (Brm.back_up hr).2.1
      rw [Brm.told_mem Z1.out r hr, Z2.out _ hp, Q2.out, X2.out _ hp, Y2.out _ hp, N3.out.2.1 r hr, N5.out.2.1 r hr, List.take_length, List.take_length]
      cases Brm.memB a r <;> cases Brm.memB b r <;> rfl, by simp [Brm.told]; omega⟩, own_le o9 k8.size, k8.trans (b9.mono k8.size)⟩
  clear o9
  go_wp2
  go_ret2
  exact ⟨v9, rfl, T9.out⟩

set_option maxHeartbeats 400000 in
theorem qhas_yes (ao : Option Addr) (l : List (Int × Int)) (cap : Nat) (r : Int) (w : World) (h : Rd w ao l) (hs : Brm.setB l = true) :
    Calls Try.prog 20 #[.slice ao l.length cap, .int .i64 r] w fun e w' => e = .returned (.tuple #[.bool (Brm.runeB r && Brm.memB l r), .int .i64 0]) ∧ Below w.heap.size w w' := by
  have hp := set_parts hs
  have HI := hide (risSet_any ao l cap w h (by omega))
  have HN := hide (fun w1 hb => rnorm_any ao l cap w1 (h.below hb) (by omega) hp.2)
  have hl := hp.1
  clear h hp
  rw [hs] at HI
  by_cases c0 : 0 ≤ r
  · by_cases c1 : r ≤ 1114111
    · by_cases c2 : Brm.up r = Brm.down r
      · have hr : Brm.runeB r = true := (Brm.updown c0 c1).1 c2
        have HR := hide hr
        have d2 : (Brm.up r == Brm.down r) = true := beq_iff_eq.2 c2
        rw [hr, Bool.true_and]
        clear hr c2
        go_enter Try.func20, Try.ntmps20
        go_wp2_with fail
        refine HI.out.mono ?_
        rintro e w1 ⟨rfl, b1⟩
        go_wp2_with fail
        refine (up_any r _ c0 c1).mono ?_
        rintro e w' ⟨rfl, rfl⟩
        go_wp2_with fail
        refine (down_any r _ c0 c1).mono ?_
        rintro e w' ⟨rfl, rfl⟩
        go_wp2_with fail
        refine (HN.out _ b1).mono ?_
        rintro e w2 ⟨v2, L, rfl, s2, n2, b2⟩
        obtain ⟨ao2, c2, rfl, rd2, _⟩ := s2.rd
        have k2 := b1.trans (b2.mono b1.size)
        have hL := n2.2.2
        have HE : Hid (Brm.memB L (Brm.up r) = Brm.memB l r) := by
          show _ = _
          rw [n2.2.1 r HR.out, List.take_length]
        clear n2 s2
        go_wp2_with fail
        refine (up_any r _ c0 c1).mono ?_
        rintro e w' ⟨rfl, rfl⟩
        go_wp2_with fail
        refine (rhas_any ao2 L c2 (Brm.up r) _ rd2 (by omega)).mono ?_
        rintro e w' ⟨rfl, rfl⟩
        rw [HE.out]
        go_wp2
        go_ret2
        exact ⟨rfl, k2⟩
      · have hr : Brm.runeB r = false := by
          rw [← Bool.not_eq_true]; exact fun h => c2 ((Brm.updown c0 c1).2 h)
        have d2 : (Brm.up r == Brm.down r) = false := beq_eq_false_iff_ne.2 c2
        rw [hr, Bool.false_and]
        clear hr c2
        go_enter Try.func20, Try.ntmps20
        go_wp2_with fail
        refine HI.out.mono ?_
        rintro e w1 ⟨rfl, b1⟩
        go_wp2_with fail
        refine (up_any r _ c0 c1).mono ?_
        rintro e w' ⟨rfl, rfl⟩
        go_wp2_with fail
        refine (down_any r _ c0 c1).mono ?_
        rintro e w' ⟨rfl, rfl⟩
        go_wp2
        go_ret2
        exact ⟨rfl, b1⟩
    · have hr : Brm.runeB r = false := by rw [← Bool.not_eq_true, Brm.rune_iff]; omega
      rw [hr, Bool.false_and]
      clear hr
      go_enter Try.func20, Try.ntmps20
      go_wp2_with fail
      refine HI.out.mono ?_
      rintro e w1 ⟨rfl, b1⟩
      go_wp2
      go_ret2
      exact ⟨rfl, b1⟩
  · have hr : Brm.runeB r = false := by rw [← Bool.not_eq_true, Brm.rune_iff]; omega
    rw [hr, Bool.false_and]
    clear hr
    go_enter Try.func20, Try.ntmps20
    go_wp2_with fail
    refine HI.out.mono ?_
    rintro e w1 ⟨rfl, b1⟩
    go_wp2
    go_ret2
    exact ⟨rfl, b1⟩
end Go.Proofs.Ytaiidpcdeghipaa
