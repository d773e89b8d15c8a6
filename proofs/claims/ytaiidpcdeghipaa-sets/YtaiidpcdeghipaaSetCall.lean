/- What one call of the law's book does: a walk out of the contracts of the program and of the reference. -/
import Derived.Test.YtaiidpcdeghipaaLend
import Derived.Deep.DeepCutAuto
import Derived.Deep.CutBlock
namespace Go.Proofs.Ytaiidpcdeghipaa
open Go.RowKit

theorem LentOk.grown {W w w' : World} {v p : Value} {l : List (Int × Int)} {row : Option Nat} (h : LentOk W w v p l) (hg : w.grownBy w' row) (hne : p.ownBlock = none ∨ p.ownBlock ≠ row) : LentOk W w' v p l :=
  h.stays (stays_grown hg (.inl rfl)) hne
theorem form_unique {l a b : List (Int × Int)} (ha : Brm.IsForm l a) (hb : Brm.IsForm l b) : b = a :=
  Brm.canon_unique b a hb.1 ha.1 fun r hr => by rw [hb.2 r hr, ha.2 r hr]
/-- What the two sides have answered: one list, one error. -/
def Both (w wx : World) (l wv e f : Value) : Prop := ∃ (c : Int) (L : List (Int × Int)) (ao : Option Addr) (cap : Nat), e = .int .i64 c ∧ f = .int .i64 c ∧ L.length ≤ 200 ∧ wx.ownsRow w.heap.size 27 2 l L.length (cellsR L) ∧ wv = .slice ao L.length cap ∧ Rd wx ao L ∧ Below w.heap.size w wx
theorem both_no {w wx : World} {c : Int} (h : Below w.heap.size w wx) : Both w wx (.slice none 0 0) (.slice none 0 0) (.int .i64 c) (.int .i64 c) :=
  ⟨c, [], none, 0, rfl, rfl, by simp, World.ownsRow_nil _ _ _ _, rfl, fun i x hx => by simp at hx, h⟩
theorem both_yes {w w3 w4 : World} {v3 v4 : Value} {L : List (Int × Int)} (hl : L.length ≤ 200) (o3 : w3.ownsRow w.heap.size 27 2 v3 L.length (cellsR L)) (b3 : Below w.heap.size w w3) (o4 : w4.ownsRow w3.heap.size 27 2 v4 L.length (cellsR L)) (b4 : Below w3.heap.size w3 w4) :
    Both w w4 v3 v4 (.int .i64 0) (.int .i64 0) := by
  obtain ⟨ao, cap, rfl, _, rd⟩ := own_rd o4
  exact ⟨0, L, ao, cap, rfl, rfl, hl, own_blk (row := none) (fun k hk _ => b4.block k hk) o3 (none_or _), rfl, rd, b3.trans (b4.mono b3.size)⟩

/-- Behind the compare: the book, the list that came out, and that they lie apart. -/
def Five (W w2 w5 : World) (Bk : Nat) (bv l : Value) (es : List Value) (L : List (Int × Int)) : Prop :=
  BookAt w5 W.heap.size Bk bv es ∧ w5.ownsRow W.heap.size 27 2 l L.length (cellsR L) ∧ W.heap.size ≤ w5.heap.size ∧ (∀ (j : Nat) (e : Value), es[j]? = some e → e.ownBlock = none ∨ e.ownBlock ≠ l.ownBlock) ∧ Below W.heap.size W w5 ∧ Below w2.heap.size w2 w5
theorem tail_five {W w w1 w2 wc w5 : World} {Bk : Nat} {bv l : Value} {es : List Value} {L : List (Int × Int)} (hk : BookAt w W.heap.size Bk bv es) (hW : Below W.heap.size W w) (b1 : Below w.heap.size w w1) (b2 : Below w1.heap.size w1 w2) (bx : Below w2.heap.size w2 wc) (b5 : Below wc.heap.size wc w5)
    (ol : wc.ownsRow w2.heap.size 27 2 l L.length (cellsR L)) : Five W w2 w5 Bk bv l es L := by
  have k1 := hW.trans (b1.mono hW.size)
  have k2 := k1.trans (b2.mono k1.size)
  have kc := k2.trans (bx.mono k2.size)
  have k5 := kc.trans (b5.mono kc.size)
  have o5 : w5.ownsRow w2.heap.size 27 2 l L.length (cellsR L) := own_blk (row := none) (fun k hk _ => b5.block k hk) ol (none_or _)
  refine ⟨book_below (book_below (book_below (book_below hk b1) b2) bx) b5, own_le o5 k2.size, k5.size, fun j e hj => ?_, k5, bx.trans (b5.mono bx.size)⟩
  refine apart_of fun g hg h' => ?_
  have h1 := book_lt hk j e hj g hg
  have h2 := (o5.lt g h').1
  have := b1.size; have := b2.size
  omega
/-- Behind keep: what was lent, the book, and that they lie apart. -/
def Six (W w6 : World) (Bk : Nat) (bv : Value) (es : List Value) (vx p vy pq : Value) (x y : List (Int × Int)) : Prop :=
  LentOk W w6 vx p x ∧ LentOk W w6 vy pq y ∧ Below W.heap.size W w6 ∧ BookAt w6 W.heap.size Bk bv es ∧ (∀ (j : Nat) (e : Value), es[j]? = some e → e.ownBlock = none ∨ e.ownBlock ≠ p.ownBlock) ∧ (∀ (j : Nat) (e : Value), es[j]? = some e → e.ownBlock = none ∨ e.ownBlock ≠ pq.ownBlock) ∧ (pq.ownBlock = none ∨ pq.ownBlock ≠ p.ownBlock)
theorem tail_six {W w w1 w2 wc w5 w6 : World} {Bk : Nat} {bv bv6 l vx p vy pq : Value} {es es6 : List Value} {L x y : List (Int × Int)} (hk : BookAt w W.heap.size Bk bv es) (h5 : Five W w2 w5 Bk bv l es L) (lp1 : LentOk W w1 vx p x) (lp2 : LentOk W w2 vx p x) (lq2 : LentOk W w2 vy pq y)
    (gp : ∀ g, p.ownBlock = some g → w.heap.size ≤ g) (gq : ∀ g, pq.ownBlock = some g → w1.heap.size ≤ g) (b1 : Below w.heap.size w w1) (b2 : Below w1.heap.size w1 w2) (ol : wc.ownsRow w2.heap.size 27 2 l L.length (cellsR L))
    (bk6 : BookAt w6 W.heap.size Bk bv6 es6) (b6 : Below W.heap.size w5 w6) (st6 : Stays w5 w6 l.ownBlock) (loc6 : Loc w5 es es6 l.ownBlock) : Six W w6 Bk bv6 es6 vx p vy pq x y := by
  obtain ⟨_, _, _, _, k5, c5⟩ := h5
  have hll : ∀ g, l.ownBlock = some g → w2.heap.size ≤ g := fun g e => (ol.lt g e).1
  have hp1 : ∀ g, p.ownBlock = some g → g < w1.heap.size := fun g e => (lp1.type g e).2.1
  have hq2 : ∀ g, pq.ownBlock = some g → g < w2.heap.size := fun g e => (lq2.type g e).2.1
  have s1 := b1.size
  have s2 := b2.size
  have s5 := c5.size
  have hpl : p.ownBlock = none ∨ p.ownBlock ≠ l.ownBlock := apart_of fun g hg h' => by have := hp1 g hg; have := hll g h'; omega
  have hql : pq.ownBlock = none ∨ pq.ownBlock ≠ l.ownBlock := apart_of fun g hg h' => by have := hq2 g hg; have := hll g h'; omega
  refine ⟨(lp2.below c5).stays st6 hpl, (lq2.below c5).stays st6 hql, k5.trans b6, bk6, fun j e hj => ?_, fun j e hj => ?_, ?_⟩
  · refine apart_of fun g hg h' => ?_
    rcases loc6 j e hj with h | h | h
    · have := book_lt hk j e h g hg; have := gp g h'; omega
    · have := hll g (h ▸ hg); have := hp1 g h'; omega
    · have := h g hg; have := hp1 g h'; omega
  · refine apart_of fun g hg h' => ?_
    rcases loc6 j e hj with h | h | h
    · have := book_lt hk j e h g hg; have := gq g h'; omega
    · have := hll g (h ▸ hg); have := hq2 g h'; omega
    · have := h g hg; have := hq2 g h'; omega
  · exact apart_of fun g hg h' => by have := gq g hg; have := hp1 g h'; omega
def Seven (W w7 : World) (Bk : Nat) (bv : Value) (es : List Value) (vy pq : Value) (y : List (Int × Int)) : Prop :=
  LentOk W w7 vy pq y ∧ Below W.heap.size W w7 ∧ BookAt w7 W.heap.size Bk bv es ∧ ∀ (j : Nat) (e : Value), es[j]? = some e → e.ownBlock = none ∨ e.ownBlock ≠ pq.ownBlock
theorem tail_seven {W w6 w7 : World} {Bk : Nat} {bv vx p vy pq : Value} {es : List Value} {x y : List (Int × Int)} (h : Six W w6 Bk bv es vx p vy pq x y) (g7 : w6.grownBy w7 p.ownBlock) : Seven W w7 Bk bv es vy pq y := by
  obtain ⟨h1, h2, h3, h4, h5, h6, h7⟩ := h
  exact ⟨h2.grown g7 h7, h3.grown g7 h3.size (fun k e => (h1.type k e).1), book_grown h4 g7 (fun g e => (h1.type g e).2.2) h5, h6⟩
theorem tail_eight {W w7 w8 : World} {Bk : Nat} {bv vy pq : Value} {es : List Value} {y : List (Int × Int)} (h : Seven W w7 Bk bv es vy pq y) (g8 : w7.grownBy w8 pq.ownBlock) : BookAt w8 W.heap.size Bk bv es ∧ Below W.heap.size W w8 := by
  obtain ⟨h1, h2, h3, h4⟩ := h
  exact ⟨book_grown h3 g8 (fun g e => (h1.type g e).2.2) h4, h2.grown g8 h2.size (fun k e => (h1.type k e).1)⟩

set_option maxRecDepth 100000 in
set_option maxHeartbeats 2000000 in
theorem setCall_any (W w : World) (Bk q : Nat) (kind r : Int) (vx vy bv : Value) (x y : List (Int × Int)) (es : List Value) (hx : ArgIn W vx x) (hy : ArgIn W vy y) (hW : Below W.heap.size W w) (hbk : BookAt w W.heap.size Bk bv es) (hq : es.length = 4 * q) (hq2 : q ≤ 100) :
    Calls Try.prog 6 #[.pointer (some ⟨Bk, 0, none⟩), .int .i64 kind, vx, vy, .int .i64 r] w fun e w' => e = .returned (.bool true) ∧ ∃ bv' es', es'.length = es.length + 4 ∧ BookAt w' W.heap.size Bk bv' es' ∧ Below W.heap.size W w' := by
  have HX := hide hx; have HY := hide hy; have HW := hide hW; have HK := hide hbk
  have lx := hx.1
  have ly := hy.1
  obtain ⟨aox, capx, rfl, rdx, nx⟩ := hx.rd
  obtain ⟨aoy, capy, rfl, rdy, ny⟩ := hy.rd
  have RX := hide rdx; have RY := hide rdy
  clear hx hy hW hbk rdx rdy nx ny
  go_enter Try.func6, Try.ntmps6
  go_wp2_with fail
  refine (lent_any W _ x w HX.out HW.out).mono ?_
  rintro e w1 ⟨p, rfl, lp1, b1, gp⟩
  have k1 : Below W.heap.size W w1 := HW.out.trans (b1.mono HW.out.size)
  go_wp2_with fail
  refine (lent_any W _ y w1 HY.out k1).mono ?_
  rintro e w2 ⟨pq, rfl, lq2, b2, gq⟩
  have k2 : Below W.heap.size W w2 := k1.trans (b2.mono k1.size)
  have LP1 := hide lp1; have LP2 := hide (lp1.below b2); have LQ2 := hide lq2
  have GP := hide gp; have GQ := hide gq; have B1 := hide b1; have B2 := hide b2; have K2 := hide k2
  obtain ⟨aop, capp, rfl, rdp, np⟩ := LP2.out.rd
  obtain ⟨aoq, capq, rfl, rdq, nq⟩ := LQ2.out.rd
  have RP := hide rdp; have RQ := hide rdq; have NP := hide np; have NQ := hide nq
  clear lp1 lq2 gp gq b1 b2 k1 k2 rdp rdq np nq
  go_upto_block 0 with fail
  go_cut [13, 14, 15, 16, 17] (fun ok l wv e f wx => ok = .bool true ∧ Both w2 wx l wv e f)
  case first =>
    by_cases h0 : kind = 0
    · have d0 : (kind == 0) = true := beq_iff_eq.2 h0
      clear h0
      by_cases hs : Brm.setB x = true
      · go_wp2_with fail
        refine (norm_yes aop x capp w2 RP.out hs).mono ?_
        rintro e w3 ⟨v3, rfl, L, ⟨f3, l3⟩, o3, b3⟩
        have RX3 := RX.out.below (K2.out.trans (b3.mono K2.out.size))
        go_wp2_with fail
        refine (qnorm_yes aox x capx w3 RX3 hs).mono ?_
        rintro e w4 ⟨v4, rfl, L', ⟨f4, l4⟩, o4, b4⟩
        have e : L' = L := form_unique f3 f4
        subst e
        have ls := (set_parts hs).1
        have HB := hide (both_yes (by omega) o3 b3 o4 b4)
        clear f3 f4 o3 b3 o4 b4
        go_wp2_with fail
        go_meet
        case rel => exact ⟨rfl, HB.out⟩
      · replace hs : Brm.setB x = false := by simpa using hs
        go_wp2_with fail
        refine (norm_no aop x capp w2 RP.out hs).mono ?_
        rintro e w3 ⟨rfl, b3⟩
        have RX3 := RX.out.below (K2.out.trans (b3.mono K2.out.size))
        go_wp2_with fail
        refine (qnorm_no aox x capx w3 RX3 (by omega) hs).mono ?_
        rintro e w4 ⟨rfl, b4⟩
        have HB := hide (both_no (c := 1) (b3.trans (b4.mono b3.size)))
        clear b3 b4
        go_wp2_with fail
        go_meet
        case rel => exact ⟨rfl, HB.out⟩
    have d0 : (kind == 0) = false := beq_eq_false_iff_ne.2 h0
    by_cases h1 : kind = 1
    · have d1 : (kind == 1) = true := beq_iff_eq.2 h1
      clear h0 h1
      by_cases hs : Brm.setB x = true
      · go_wp2_with fail
        refine (snot_yes aop x capp w2 RP.out hs).mono ?_
        rintro e w3 ⟨v3, rfl, L, ⟨f3, g3, l3⟩, o3, b3⟩
        have RX3 := RX.out.below (K2.out.trans (b3.mono K2.out.size))
        go_wp2_with fail
        refine (qnot_yes aox x capx w3 RX3 hs).mono ?_
        rintro e w4 ⟨v4, rfl, L', ⟨f4, g4, l4⟩, o4, b4⟩
        have e : L' = L := Brm.canon_unique L' L f4 f3 fun r hr => by rw [g4 r hr, g3 r hr]
        subst e
        have ls := (set_parts hs).1
        have HB := hide (both_yes (by omega) o3 b3 o4 b4)
        clear f3 f4 g3 g4 o3 b3 o4 b4
        go_wp2_with fail
        go_meet
        case rel => exact ⟨rfl, HB.out⟩
      · replace hs : Brm.setB x = false := by simpa using hs
        go_wp2_with fail
        refine (snot_no aop x capp w2 RP.out hs).mono ?_
        rintro e w3 ⟨rfl, b3⟩
        have RX3 := RX.out.below (K2.out.trans (b3.mono K2.out.size))
        go_wp2_with fail
        refine (qnot_no aox x capx w3 RX3 (by omega) hs).mono ?_
        rintro e w4 ⟨rfl, b4⟩
        have HB := hide (both_no (c := 1) (b3.trans (b4.mono b3.size)))
        clear b3 b4
        go_wp2_with fail
        go_meet
        case rel => exact ⟨rfl, HB.out⟩
    have d1 : (kind == 1) = false := beq_eq_false_iff_ne.2 h1
    by_cases h2 : kind = 2
    · have d2 : (kind == 2) = true := beq_iff_eq.2 h2
      clear h0 h1 h2
      by_cases hs : (Brm.setB x && Brm.setB y) = true
      · obtain ⟨hs1, hs2⟩ : Brm.setB x = true ∧ Brm.setB y = true := by simpa using hs
        clear hs
        go_wp2_with fail
        refine (sor_yes aop aoq x y capp capq w2 RP.out RQ.out hs1 hs2 NP.out NQ.out).mono ?_
        rintro e w3 ⟨v3, rfl, L, ⟨f3, l3⟩, o3, b3⟩
        have RX3 := RX.out.below (K2.out.trans (b3.mono K2.out.size))
        have RY3 := RY.out.below (K2.out.trans (b3.mono K2.out.size))
        go_wp2_with fail
        refine (qor_yes aox aoy x y capx capy w3 RX3 RY3 hs1 hs2).mono ?_
        rintro e w4 ⟨v4, rfl, L', ⟨f4, l4⟩, o4, b4⟩
        have e : L' = L := form_unique f3 f4
        subst e
        have ls1 := (set_parts hs1).1
        have ls2 := (set_parts hs2).1
        have HB := hide (both_yes (by omega) o3 b3 o4 b4)
        clear f3 f4 o3 b3 o4 b4
        go_wp2_with fail
        go_meet
        case rel => exact ⟨rfl, HB.out⟩
      · replace hs : (Brm.setB x && Brm.setB y) = false := by rw [← Bool.not_eq_true]; exact hs
        go_wp2_with fail
        refine (sor_no aop aoq x y capp capq w2 RP.out RQ.out hs).mono ?_
        rintro e w3 ⟨rfl, b3⟩
        have RX3 := RX.out.below (K2.out.trans (b3.mono K2.out.size))
        have RY3 := RY.out.below (K2.out.trans (b3.mono K2.out.size))
        go_wp2_with fail
        refine (qor_no aox aoy x y capx capy w3 RX3 RY3 (by omega) (by omega) hs).mono ?_
        rintro e w4 ⟨rfl, b4⟩
        have HB := hide (both_no (c := 1) (b3.trans (b4.mono b3.size)))
        clear b3 b4
        go_wp2_with fail
        go_meet
        case rel => exact ⟨rfl, HB.out⟩
    have d2 : (kind == 2) = false := beq_eq_false_iff_ne.2 h2
    by_cases h3 : kind = 3
    · have d3 : (kind == 3) = true := beq_iff_eq.2 h3
      clear h0 h1 h2 h3
      by_cases hs : (Brm.setB x && Brm.setB y) = true
      · obtain ⟨hs1, hs2⟩ : Brm.setB x = true ∧ Brm.setB y = true := by simpa using hs
        clear hs
        go_wp2_with fail
        refine (sand_yes aop aoq x y capp capq w2 RP.out RQ.out hs1 hs2).mono ?_
        rintro e w3 ⟨v3, rfl, L, ⟨f3, g3, l3⟩, o3, b3⟩
        have RX3 := RX.out.below (K2.out.trans (b3.mono K2.out.size))
        have RY3 := RY.out.below (K2.out.trans (b3.mono K2.out.size))
        go_wp2_with fail
        refine (qand_yes aox aoy x y capx capy w3 RX3 RY3 hs1 hs2).mono ?_
        rintro e w4 ⟨v4, rfl, L', ⟨f4, g4, l4⟩, o4, b4⟩
        have e : L' = L := Brm.canon_unique L' L f4 f3 fun r hr => by rw [g4 r hr, g3 r hr]
        subst e
        have ls1 := (set_parts hs1).1
        have ls2 := (set_parts hs2).1
        have HB := hide (both_yes (by omega) o3 b3 o4 b4)
        clear f3 f4 g3 g4 o3 b3 o4 b4
        go_wp2_with fail
        go_meet
        case rel => exact ⟨rfl, HB.out⟩
      · replace hs : (Brm.setB x && Brm.setB y) = false := by rw [← Bool.not_eq_true]; exact hs
        go_wp2_with fail
        refine (sand_no aop aoq x y capp capq w2 RP.out RQ.out hs).mono ?_
        rintro e w3 ⟨rfl, b3⟩
        have RX3 := RX.out.below (K2.out.trans (b3.mono K2.out.size))
        have RY3 := RY.out.below (K2.out.trans (b3.mono K2.out.size))
        go_wp2_with fail
        refine (qand_no aox aoy x y capx capy w3 RX3 RY3 (by omega) (by omega) hs).mono ?_
        rintro e w4 ⟨rfl, b4⟩
        have HB := hide (both_no (c := 1) (b3.trans (b4.mono b3.size)))
        clear b3 b4
        go_wp2_with fail
        go_meet
        case rel => exact ⟨rfl, HB.out⟩
    have d3 : (kind == 3) = false := beq_eq_false_iff_ne.2 h3
    clear h0 h1 h2 h3
    by_cases hs : Brm.setB x = true
    · go_wp2_with fail
      refine (shas_yes aop x capp r w2 RP.out hs).mono ?_
      rintro e w3 ⟨rfl, b3⟩
      have RX3 := RX.out.below (K2.out.trans (b3.mono K2.out.size))
      go_wp2_with fail
      refine (qhas_yes aox x capx r w3 RX3 hs).mono ?_
      rintro e w4 ⟨rfl, b4⟩
      have HB := hide (both_no (c := 0) (b3.trans (b4.mono b3.size)))
      clear b3 b4
      generalize (Brm.runeB r && Brm.memB x r) = t
      go_wp2_with fail
      go_meet
      case rel => exact ⟨by simp, HB.out⟩
    · replace hs : Brm.setB x = false := by simpa using hs
      go_wp2_with fail
      refine (shas_no aop x capp r w2 RP.out hs).mono ?_
      rintro e w3 ⟨rfl, b3⟩
      have RX3 := RX.out.below (K2.out.trans (b3.mono K2.out.size))
      go_wp2_with fail
      refine (qhas_no aox x capx r w3 RX3 (by omega) hs).mono ?_
      rintro e w4 ⟨rfl, b4⟩
      have HB := hide (both_no (c := 1) (b3.trans (b4.mono b3.size)))
      clear b3 b4
      go_wp2_with fail
      go_meet
      case rel => exact ⟨rfl, HB.out⟩
  case rest =>
    obtain ⟨rfl, c, L, ao, cap, rfl, rfl, hL, oL, rfl, rdw, bx⟩ := hcut
    obtain ⟨aol, capl, rfl, hcl, rdl⟩ := own_rd oL
    have OL := hide oL; have RL := hide rdl; have RW := hide rdw; have BX := hide bx
    clear oL rdl rdw bx
    go_wp2_with fail
    refine (same_any aol ao L capl cap wc RL.out RW.out (by omega)).mono ?_
    rintro e w5 ⟨rfl, b5⟩
    have T5 := hide (tail_five HK.out HW.out B1.out B2.out BX.out b5 OL.out)
    clear b5
    go_wp2_with fail
    refine (keep_any W.heap.size Bk q bv _ es L w5 T5.out.1 hq hq2 T5.out.2.1 (by omega) T5.out.2.2.1 T5.out.2.2.2.1).mono ?_
    rintro e w6 ⟨rfl, bv6, es6, hes6, bk6, b6, st6, loc6⟩
    have hes : es6.length ≤ 500 := by omega
    have HES := hide hes6
    have T6 := hide (tail_six HK.out T5.out LP1.out LP2.out LQ2.out GP.out GQ.out B1.out B2.out OL.out bk6 b6 st6 loc6)
    clear bk6 b6 st6 loc6 hes6
    go_wp2_with fail
    refine (asLent_any W _ _ x w6 T6.out.1 lx T6.out.2.2.1).mono ?_
    rintro e w7 ⟨rfl, g7⟩
    have T7 := hide (tail_seven T6.out g7)
    clear g7
    go_wp2_with fail
    refine (asLent_any W _ _ y w7 T7.out.1 ly T7.out.2.1).mono ?_
    rintro e w8 ⟨rfl, g8⟩
    have T8 := hide (tail_eight T7.out g8)
    clear g8
    go_wp2_with fail
    refine (looks_any W.heap.size Bk bv6 es6 w8 T8.out.1 hes).mono ?_
    rintro e w' ⟨rfl, rfl⟩
    go_wp2
    go_ret
    exact ⟨rfl, bv6, es6, HES.out, T8.out.1, T8.out.2⟩
end Go.Proofs.Ytaiidpcdeghipaa
