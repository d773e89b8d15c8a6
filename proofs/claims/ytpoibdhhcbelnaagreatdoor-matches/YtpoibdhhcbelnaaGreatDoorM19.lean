/- Walks and plain laws, some texts in one. -/
import Derived.Laws.IdiomStrings
import Derived.Test.YtpoibdhhcbelnaaGreatDoorM18
import Derived.Test.YtpoibdhhcbelnaaGreatDoorM10
import Derived.Test.YtpoibdhhcbelnaaGreatDoorM03
import Derived.Test.YtpoibdhhcbelnaaGreatDoorM05
/- What the reference's "and" and "or" have in common. -/
namespace Go.Proofs.YtpoibdhhcbelnaaGreatDoor
open Go.RowKit Brm

theorem own_blkB {w : World} {y B : Nat} {cs : List Value} (h : Blk w y cs 32) (hl : cs.length = 6) (hB : B ≤ y) : w.ownsRow B 32 6 (.slice (some ⟨y, 0, none⟩) 1 1) 1 cs := by
  refine ⟨by omega, .inr ⟨y, 1, cs.toArray, rfl, hB, h, Nat.le_refl _, by unfold maxLen; omega, by simp [hl], ?_⟩⟩
  simp only [Nat.one_mul]
  rw [List.take_of_length_le (by simp [hl])]
def JoinI (w : World) (X : Nat) (b : Nat) (lv : Value) (l : List Int) (g : Nat) (d m : Int) (n : Nat) (kind : Int) (part : List Int → Res Pat) (sign : Int) (mk : List Pat → Pat) (R : Res Pat) (j : Nat) (wr : World) : Prop :=
  Off b w wr ∧ Blk wr w.heap.size [.int .i64 0, .slice none 0 0, .slice none 0 0, .int .i64 0, .int .i64 0, .int .i64 0] 32 ∧ ∃ lo ln lc, Blk wr X (Six kind none 0 0 lo ln lc 0 0 0) 32 ∧
    ((∃ L s0, LI w X (.slice lo ln lc) L g wr ∧ St wr b lv l s0 ((g + groupsL L : Nat) : Int) d (max m (d + deepL L)) ∧ L.length + s0.length ≤ 61 ∧ s0.length ≤ n ∧ (if s0.head? = some sign then joinLoop part sign mk j L s0.tail else .ok (mk L) s0) = R ∧ s0.length ≤ j) ∨ (∃ s', Bad wr b lv l s' d ∧ R = .bad s'))
/-- The first part. -/
theorem join_start {w w1 : World} {b : Nat} {lv : Value} {l s : List Int} {g : Nat} {d m : Int} {n : Nat} {kind : Int} {part : List Int → Res Pat} {sign : Int} {mk : List Pat → Pat} {k : Int} {so : Option Addr} {sn sc : Nat} {lo1 : Option Addr} {ln1 lc1 : Nat} {mm nn rr : Int}
    (hp : Part b lv l g d m (part s) (w.alloc (.cells #[.int .i64 0, .slice none 0 0, .slice none 0 0, .int .i64 0, .int .i64 0, .int .i64 0] 32)) w1 (Six k so sn sc lo1 ln1 lc1 mm nn rr)) (hgo : ∀ s, Goes (part s) s) (hb : b < w.heap.size) (hn : s.length ≤ n) (h60 : s.length ≤ 60) :
    JoinI w (w1.heap.size + 1) b lv l g d m n kind part sign mk (joinLoop part sign mk (s.length + 1) [] s) s.length ((w1.alloc (.cells #[.int .i64 k, .slice so sn sc, .slice lo1 ln1 lc1, .int .i64 mm, .int .i64 nn, .int .i64 rr] 32)).alloc (.cells #[.int .i64 kind, .slice none 0 0, .slice (some ⟨w1.heap.size, 0, none⟩) 1 1, .int .i64 0, .int .i64 0, .int .i64 0] 32)) := by
  obtain ⟨ho, hp⟩ := hp
  have hs := ho.size
  simp at hs
  have e0 : (w1.alloc (.cells #[.int .i64 k, .slice so sn sc, .slice lo1 ln1 lc1, .int .i64 mm, .int .i64 nn, .int .i64 rr] 32)).heap.size = w1.heap.size + 1 := by simp
  have hX := Blk.new (w1.alloc (.cells #[.int .i64 k, .slice so sn sc, .slice lo1 ln1 lc1, .int .i64 mm, .int .i64 nn, .int .i64 rr] 32)) (Six kind none 0 0 (some ⟨w1.heap.size, 0, none⟩) 1 1 0 0 0) 32
  rw [e0] at hX
  refine ⟨((((Off.refl b w).alloc _).trans ho).alloc _).alloc _, (((Blk.new w [.int .i64 0, .slice none 0 0, .slice none 0 0, .int .i64 0, .int .i64 0, .int .i64 0] 32).off ho (by omega)).alloc _).alloc _, _, _, _, hX, ?_⟩
  have hgs := hgo s
  cases hr : part s with
  | bad s' =>
    rw [hr] at hp
    refine .inr ⟨s', (hp.below ((Below.refl _ _).alloc (Nat.le_refl _) _)).below ((Below.refl _ _).alloc (Nat.le_refl _) _), ?_⟩
    simp only [joinLoop, hr, Res.bind]
  | ok p s' =>
    rw [hr] at hp hgs
    obtain ⟨hnv, hst⟩ := hp
    have hl := List.IsSuffix.length_le hgs
    refine .inl ⟨[p], s', ?_, ?_, by simp; omega, by omega, by simp only [joinLoop, hr, Res.bind, List.nil_append], hl⟩
    · have hY := (Blk.new w1 (Six k so sn sc lo1 ln1 lc1 mm nn rr) 32).alloc (.cells #[.int .i64 kind, .slice none 0 0, .slice (some ⟨w1.heap.size, 0, none⟩) 1 1, .int .i64 0, .int .i64 0, .int .i64 0] 32)
      refine ⟨_, own_blkB hY rfl (by omega), by simp [Value.ownBlock], Six k so sn sc lo1 ln1 lc1 mm nn rr, [], by simp, ?_, rfl⟩
      refine NV.keep ((Keeps.alloc _ _ _).trans (Keeps.alloc _ _ _)) p _ g (NV.mono (fun q hq hA => ?_) p _ g hnv)
      simp at hA
      exact ⟨by omega, by omega, by simp [Value.ownBlock]; omega⟩
    · have e1 : g + p.groups = g + groupsL [p] := by simp [groupsL]
      have e2 : max m (d + (p.deep : Int)) = max m (d + (deepL [p] : Int)) := by simp [deepL]
      rw [e1, e2] at hst
      exact (hst.new _).new _
end Go.Proofs.YtpoibdhhcbelnaaGreatDoor
/- The reference's "and": a walk. -/
namespace Go.Proofs.YtpoibdhhcbelnaaGreatDoor
open Go.RowKit Brm

set_option maxRecDepth 100000 in
set_option maxHeartbeats 1000000 in
theorem and_any3 (n : Nat) (ih : OrOk n) (b : Nat) (lv : Value) (l s : List Int) (g : Nat) (d m : Int) (w : World) (h : St w b lv l s g d m) (hn : s.length ≤ n) : Gives 116 b lv l g d m (andP false (orN false n) s) w := by
  unfold Gives
  have HS0 := hide h
  have HBb := hide h.1.lt
  have hb0 := h.1.lt
  have HT := hide h.2.2.1
  have hls := h.2.1.length_le
  have hl60 := h.2.2.2.1
  have HGO : Hid (∀ s, Goes (rowP false (orN false n) s) s) := rowP_goes (orN_goes false n)
  generalize hR : andP false (orN false n) s = R
  have HR : Hid (joinLoop (rowP false (orN false n)) 38 Pat.and (s.length + 1) [] s = R) := hR
  clear h hR
  go_enter Tryz.func116, Tryz.ntmps116
  go_wp2_with fail
  refine (row_any n ih b lv l _ _ _ _ _ (HS0.out.new (.cells #[.int .i64 0, .slice none 0 0, .slice none 0 0, .int .i64 0, .int .i64 0, .int .i64 0] 32)) hn).mono ?_
  rintro e w1 ⟨k, so, sn, sc, lo1, ln1, lc1, mm, nn, rr, rfl, hpt⟩
  have hi0 := join_start (kind := 4) (sign := 38) (mk := Pat.and) hpt HGO.out hb0 hn (by omega)
  rw [HR.out] at hi0
  have HI0 := hide hi0
  have hsw : w.heap.size + 1 ≤ w1.heap.size := by have := hpt.1.size; simp at this; omega
  clear hpt hi0
  generalize hXe : w1.heap.size + 1 = X at HI0
  have hXw : w.heap.size < X := by omega
  go_wp2_with fail
  go_loopg [4, 5] s.length (fun j _ _ wr => JoinI w X b lv l g d m n 4 (rowP false (orN false n)) 38 Pat.and R j wr)
  case atStart => exact HI0.out
  case round =>
    clear HI0
    obtain ⟨ho, hk0, lo, ln, lc, hx, hcase⟩ := hrel
    have HO := hide ho
    have HK := hide hk0
    have HX := hide hx
    clear ho hk0 hx
    rcases hcase with ⟨L, s0, hli, hst, h60, hsn, heq, hlt⟩ | ⟨s', hbad, hRb⟩
    · have HS := hide hst
      have HLI := hide hli
      have HLT := hide hlt
      by_cases hsg : s0.head? = some 38
      · rw [if_pos hsg] at heq
        obtain ⟨t, rfl⟩ : ∃ t, s0 = 38 :: t := by cases s0 with | nil => simp at hsg | cons c t => simp at hsg; exact ⟨t, by rw [hsg]⟩
        obtain ⟨j', rfl⟩ : ∃ j', gk = j' + 1 := ⟨gk - 1, by simp only [List.length_cons] at hlt; omega⟩
        have HE2 : Hid ((rowP false (orN false n) t).bind (fun p s' => if s'.head? = some 38 then joinLoop (rowP false (orN false n)) 38 Pat.and j' (L ++ [p]) s'.tail else .ok (Pat.and (L ++ [p])) s') = R) := by
          simp only [List.tail_cons, joinLoop] at heq
          exact heq
        have HLN : Hid (t.length ≤ n) := by simp only [List.length_cons] at hsn; show _ ≤ _; omega
        clear hst hli heq hsg
        go_wp2_with fail
        refine (takes_yes _ _ _ _ _ _ _ _ _ HS.out (by decide) (by decide)).mono ?_
        rintro e wt ⟨rfl, hst2, hon0⟩
        have hon : Off b wr wt := hon0
        replace HO := hide (HO.out.trans hon)
        replace HK := hide (HK.out.off hon (by omega))
        replace HX := hide (HX.out.off hon (by omega))
        replace HS := hide hst2
        replace HLI := hide (HLI.out.keep hon hb0)
        clear hst2 hon0 hon
        go_wp2_with fail
        refine (row_any n ih b lv l _ _ _ _ _ HS.out HLN.out).mono ?_
        rintro e w1 ⟨k, so, sn, sc, lo1, ln1, lc1, mm, nn, rr, rfl, hoff, hpt⟩
        have HOF := hide hoff
        have HX1 := hide ((HX.out.off hoff (by omega)).alloc (.cells #[.int .i64 k, .slice so sn sc, .slice lo1 ln1 lc1, .int .i64 mm, .int .i64 nn, .int .i64 rr] 32))
        have HP := hide hpt
        have HXW : Hid (X < wt.heap.size) := HX.out.lt
        have HWN : Hid (wt.heap.size ≤ w1.heap.size) := hoff.size
        clear hoff hpt
        obtain ⟨⟨x0, x1, x2, x3, x4, x5⟩, hxl⟩ := six_cells HX1.out
        have xf2 := HX1.out.frozen 2
        obtain ⟨xs, q1, q2, q3⟩ := HLI.out
        have HQ1 := hide q1
        have HQ3 := hide q3
        have HVX := hide q2
        have hown := own_block q1 (fun q hq => HOF.out.block q (q1.lt q hq).2 (by have := (q1.lt q hq).1; omega))
        have HOW := hide ((hown.alloc (.cells #[.int .i64 k, .slice so sn sc, .slice lo1 ln1 lc1, .int .i64 mm, .int .i64 nn, .int .i64 rr] 32)).alloc (.cells #[.int .i64 k, .slice so sn sc, .slice lo1 ln1 lc1, .int .i64 mm, .int .i64 nn, .int .i64 rr] 32))
        have HVB : Hid (∀ q, (Value.slice lo ln lc).ownBlock = some q → w.heap.size + 1 ≤ q) := fun q hq => (q1.lt q hq).1
        clear hown q1 q2 q3
        go_wp2_with (at_builtin; refine append_node rfl (.tmp 18) (.tmp 20) rfl (w.heap.size + 1) L.length _ _ rfl HOW.out ⟨w1.heap.size + 1, 0, none⟩ (Six k so sn sc lo1 ln1 lc1 mm nn rr) rfl rfl (six_new2 _ _ _ _ _ _ _ _ _ _ _ _) (six_one _ _ _ _ _ _ _ _ _ _) (by omega) (by have := HXW.out; have := HWN.out; simp; omega) ?_; intro v' w3 ho3 hg3 hloc3; have HO3 := hide ho3; have HG3 := hide hg3; have HL3 := hide hloc3; clear ho3 hg3 hloc3; obtain ⟨ao3, cap3, rfl⟩ := own6_form HO3.out; have HX3 := hide (((HX1.out).alloc (.cells #[.int .i64 k, .slice so sn sc, .slice lo1 ln1 lc1, .int .i64 mm, .int .i64 nn, .int .i64 rr] 32)).grown HG3.out (fun e => HVX.out e.symm)); obtain ⟨⟨_, _, x2b, _, _, _⟩, hxl3⟩ := six_cells HX3.out; have xf2b := HX3.out.frozen 2)
        go_roundg j'
        case measure => omega
        case rel =>
          obtain ⟨F1, F2⟩ := push_frame (v' := .slice ao3 (L.length + 1) cap3) HQ1.out hXw HO.out HOF.out HG3.out
          have hvb : some b ≠ (Value.slice lo ln lc).ownBlock := fun e => by have := HVB.out b e.symm; omega
          have hvr : some w.heap.size ≠ (Value.slice lo ln lc).ownBlock := fun e => by have := HVB.out _ e.symm; omega
          refine ⟨F1, F2 _ _ _ (HK.out.off HOF.out (by omega)) (by omega) hvr, ao3, L.length + 1, cap3, HX3.out.set 2 _, ?_⟩
          have hp := HP.out
          have hgs := HGO.out t
          have he := HE2.out
          cases hr : rowP false (orN false n) t with
          | bad s2 =>
            rw [hr] at hp he
            obtain ⟨i1, g1, m1, hrd⟩ := hp
            exact .inr ⟨s2, ⟨i1, g1, m1, F2 _ _ _ hrd (by omega) hvb⟩, he.symm⟩
          | ok p s2 =>
            rw [hr] at hp he hgs
            obtain ⟨hnv, hst⟩ := hp
            have hl := List.IsSuffix.length_le hgs
            have hlt2 := HLT.out
            simp only [List.length_cons] at h60 hsn hlt2
            have e1 : (g + groupsL L) + p.groups = g + groupsL (L ++ [p]) := by rw [groupsL_snoc]; omega
            have e2 : max (max m (d + (deepL L : Int))) (d + (p.deep : Int)) = max m (d + (deepL (L ++ [p]) : Int)) := by rw [deepL_snoc]; omega
            rw [e1, e2] at hst
            refine .inl ⟨L ++ [p], s2, LI.push HQ1.out HVX.out HQ3.out hb0 HXW.out (Nat.lt_trans hXw HXW.out) HOF.out hnv HO3.out HG3.out HL3.out, St.move HT.out F1 hst (F2 _ _ _ hst.1 (by omega) hvb), ?_, by omega, he, by omega⟩
            rw [List.length_append]; simp; omega
      · rw [if_neg hsg] at heq
        have HN := hide hsg
        have HR2 : Hid (R = .ok (Pat.and L) s0) := heq.symm
        clear hst hli heq hsg
        go_wp2_with fail
        refine (takes_no _ _ _ _ _ _ _ _ _ HS.out (by decide) (by decide) HN.out).mono ?_
        rintro e wt ⟨rfl, hwt⟩
        have hon : Off b wr wt := Off.drn hwt
        replace HO := hide (HO.out.trans hon)
        replace HK := hide (HK.out.off hon (by omega))
        replace HX := hide (HX.out.off hon (by omega))
        replace HS := hide (HS.out.drn hwt)
        replace HLI := hide (HLI.out.keep hon hb0)
        clear hwt hon
        obtain ⟨⟨x0, x1, x2, x3, x4, x5⟩, hxl⟩ := six_cells HX.out
        obtain ⟨⟨z0, z1, z2, z3, z4, z5⟩, ⟨y0, y1, y2, y3, y4, y5⟩, hw1⟩ := zero_cells HK.out
        try simp at z0 z1 z2 z3 z4 z5 y0 y1 y2 y3 y4 y5 hw1
        go_wp2_with fail
        refine bodyPost_ret (v := .agg #[.int .i64 4, .slice none 0 0, .slice lo ln lc, .int .i64 0, .int .i64 0, .int .i64 0]) (by simp [results, Tryz.results116, go_sem, z0, z1, z2, z3, z4, z5]) rfl ⟨4, none, 0, 0, lo, ln, lc, 0, 0, 0, rfl, ?_⟩
        rw [HR2.out]
        exact row_end (fun _ _ xs o1 o2 => ⟨_, xs, rfl, o1, o2⟩) (by simp [Pat.groups]) (by simp [Pat.deep]) HLI.out HS.out HO.out HBb.out HT.out rfl
    · have HB := hide hbad
      have HR2 := hide hRb
      clear hbad hRb
      go_wp2_with fail
      refine (takes_bad _ _ _ _ _ _ HB.out (by decide) (by decide)).mono ?_
      rintro e wt ⟨rfl, hwt⟩
      have hon : Off b wr wt := Off.drn hwt
      replace HO := hide (HO.out.trans hon)
      replace HK := hide (HK.out.off hon (by omega))
      replace HX := hide (HX.out.off hon (by omega))
      replace HB := hide (HB.out.off hwt)
      clear hwt hon
      obtain ⟨⟨x0, x1, x2, x3, x4, x5⟩, hxl⟩ := six_cells HX.out
      obtain ⟨⟨z0, z1, z2, z3, z4, z5⟩, ⟨y0, y1, y2, y3, y4, y5⟩, hw1⟩ := zero_cells HK.out
      try simp at z0 z1 z2 z3 z4 z5 y0 y1 y2 y3 y4 y5 hw1
      go_wp2_with fail
      refine bodyPost_ret (v := .agg #[.int .i64 4, .slice none 0 0, .slice lo ln lc, .int .i64 0, .int .i64 0, .int .i64 0]) (by simp [results, Tryz.results116, go_sem, z0, z1, z2, z3, z4, z5]) rfl ⟨4, none, 0, 0, lo, ln, lc, 0, 0, 0, rfl, ?_⟩
      rw [HR2.out]
      exact row_end_bad HB.out HBb.out HO.out rfl
end Go.Proofs.YtpoibdhhcbelnaaGreatDoor
/- The reference's "or": a walk. -/
namespace Go.Proofs.YtpoibdhhcbelnaaGreatDoor
open Go.RowKit Brm

set_option maxRecDepth 100000 in
set_option maxHeartbeats 1000000 in
theorem or_any3 (n : Nat) (ih : OrOk n) (b : Nat) (lv : Value) (l s : List Int) (g : Nat) (d m : Int) (w : World) (h : St w b lv l s g d m) (hn : s.length ≤ n) : Gives 64 b lv l g d m (orP false (orN false n) s) w := by
  unfold Gives
  have HS0 := hide h
  have HBb := hide h.1.lt
  have hb0 := h.1.lt
  have HT := hide h.2.2.1
  have hls := h.2.1.length_le
  have hl60 := h.2.2.2.1
  have HGO : Hid (∀ s, Goes (andP false (orN false n) s) s) := andP_goes (orN_goes false n)
  generalize hR : orP false (orN false n) s = R
  have HR : Hid (joinLoop (andP false (orN false n)) 124 Pat.or (s.length + 1) [] s = R) := hR
  clear h hR
  go_enter Tryz.func64, Tryz.ntmps64
  go_wp2_with fail
  refine (and_any3 n ih b lv l _ _ _ _ _ (HS0.out.new (.cells #[.int .i64 0, .slice none 0 0, .slice none 0 0, .int .i64 0, .int .i64 0, .int .i64 0] 32)) hn).mono ?_
  rintro e w1 ⟨k, so, sn, sc, lo1, ln1, lc1, mm, nn, rr, rfl, hpt⟩
  have hi0 := join_start (kind := 3) (sign := 124) (mk := Pat.or) hpt HGO.out hb0 hn (by omega)
  rw [HR.out] at hi0
  have HI0 := hide hi0
  have hsw : w.heap.size + 1 ≤ w1.heap.size := by have := hpt.1.size; simp at this; omega
  clear hpt hi0
  generalize hXe : w1.heap.size + 1 = X at HI0
  have hXw : w.heap.size < X := by omega
  go_wp2_with fail
  go_loopg [4, 5] s.length (fun j _ _ wr => JoinI w X b lv l g d m n 3 (andP false (orN false n)) 124 Pat.or R j wr)
  case atStart => exact HI0.out
  case round =>
    clear HI0
    obtain ⟨ho, hk0, lo, ln, lc, hx, hcase⟩ := hrel
    have HO := hide ho
    have HK := hide hk0
    have HX := hide hx
    clear ho hk0 hx
    rcases hcase with ⟨L, s0, hli, hst, h60, hsn, heq, hlt⟩ | ⟨s', hbad, hRb⟩
    · have HS := hide hst
      have HLI := hide hli
      have HLT := hide hlt
      by_cases hsg : s0.head? = some 124
      · rw [if_pos hsg] at heq
        obtain ⟨t, rfl⟩ : ∃ t, s0 = 124 :: t := by cases s0 with | nil => simp at hsg | cons c t => simp at hsg; exact ⟨t, by rw [hsg]⟩
        obtain ⟨j', rfl⟩ : ∃ j', gk = j' + 1 := ⟨gk - 1, by simp only [List.length_cons] at hlt; omega⟩
        have HE2 : Hid ((andP false (orN false n) t).bind (fun p s' => if s'.head? = some 124 then joinLoop (andP false (orN false n)) 124 Pat.or j' (L ++ [p]) s'.tail else .ok (Pat.or (L ++ [p])) s') = R) := by
          simp only [List.tail_cons, joinLoop] at heq
          exact heq
        have HLN : Hid (t.length ≤ n) := by simp only [List.length_cons] at hsn; show _ ≤ _; omega
        clear hst hli heq hsg
        go_wp2_with fail
        refine (takes_yes _ _ _ _ _ _ _ _ _ HS.out (by decide) (by decide)).mono ?_
        rintro e wt ⟨rfl, hst2, hon0⟩
        have hon : Off b wr wt := hon0
        replace HO := hide (HO.out.trans hon)
        replace HK := hide (HK.out.off hon (by omega))
        replace HX := hide (HX.out.off hon (by omega))
        replace HS := hide hst2
        replace HLI := hide (HLI.out.keep hon hb0)
        clear hst2 hon0 hon
        go_wp2_with fail
        refine (and_any3 n ih b lv l _ _ _ _ _ HS.out HLN.out).mono ?_
        rintro e w1 ⟨k, so, sn, sc, lo1, ln1, lc1, mm, nn, rr, rfl, hoff, hpt⟩
        have HOF := hide hoff
        have HX1 := hide ((HX.out.off hoff (by omega)).alloc (.cells #[.int .i64 k, .slice so sn sc, .slice lo1 ln1 lc1, .int .i64 mm, .int .i64 nn, .int .i64 rr] 32))
        have HP := hide hpt
        have HXW : Hid (X < wt.heap.size) := HX.out.lt
        have HWN : Hid (wt.heap.size ≤ w1.heap.size) := hoff.size
        clear hoff hpt
        obtain ⟨⟨x0, x1, x2, x3, x4, x5⟩, hxl⟩ := six_cells HX1.out
        have xf2 := HX1.out.frozen 2
        obtain ⟨xs, q1, q2, q3⟩ := HLI.out
        have HQ1 := hide q1
        have HQ3 := hide q3
        have HVX := hide q2
        have hown := own_block q1 (fun q hq => HOF.out.block q (q1.lt q hq).2 (by have := (q1.lt q hq).1; omega))
        have HOW := hide ((hown.alloc (.cells #[.int .i64 k, .slice so sn sc, .slice lo1 ln1 lc1, .int .i64 mm, .int .i64 nn, .int .i64 rr] 32)).alloc (.cells #[.int .i64 k, .slice so sn sc, .slice lo1 ln1 lc1, .int .i64 mm, .int .i64 nn, .int .i64 rr] 32))
        have HVB : Hid (∀ q, (Value.slice lo ln lc).ownBlock = some q → w.heap.size + 1 ≤ q) := fun q hq => (q1.lt q hq).1
        clear hown q1 q2 q3
        go_wp2_with (at_builtin; refine append_node rfl (.tmp 18) (.tmp 20) rfl (w.heap.size + 1) L.length _ _ rfl HOW.out ⟨w1.heap.size + 1, 0, none⟩ (Six k so sn sc lo1 ln1 lc1 mm nn rr) rfl rfl (six_new2 _ _ _ _ _ _ _ _ _ _ _ _) (six_one _ _ _ _ _ _ _ _ _ _) (by omega) (by have := HXW.out; have := HWN.out; simp; omega) ?_; intro v' w3 ho3 hg3 hloc3; have HO3 := hide ho3; have HG3 := hide hg3; have HL3 := hide hloc3; clear ho3 hg3 hloc3; obtain ⟨ao3, cap3, rfl⟩ := own6_form HO3.out; have HX3 := hide (((HX1.out).alloc (.cells #[.int .i64 k, .slice so sn sc, .slice lo1 ln1 lc1, .int .i64 mm, .int .i64 nn, .int .i64 rr] 32)).grown HG3.out (fun e => HVX.out e.symm)); obtain ⟨⟨_, _, x2b, _, _, _⟩, hxl3⟩ := six_cells HX3.out; have xf2b := HX3.out.frozen 2)
        go_roundg j'
        case measure => omega
        case rel =>
          obtain ⟨F1, F2⟩ := push_frame (v' := .slice ao3 (L.length + 1) cap3) HQ1.out hXw HO.out HOF.out HG3.out
          have hvb : some b ≠ (Value.slice lo ln lc).ownBlock := fun e => by have := HVB.out b e.symm; omega
          have hvr : some w.heap.size ≠ (Value.slice lo ln lc).ownBlock := fun e => by have := HVB.out _ e.symm; omega
          refine ⟨F1, F2 _ _ _ (HK.out.off HOF.out (by omega)) (by omega) hvr, ao3, L.length + 1, cap3, HX3.out.set 2 _, ?_⟩
          have hp := HP.out
          have hgs := HGO.out t
          have he := HE2.out
          cases hr : andP false (orN false n) t with
          | bad s2 =>
            rw [hr] at hp he
            obtain ⟨i1, g1, m1, hrd⟩ := hp
            exact .inr ⟨s2, ⟨i1, g1, m1, F2 _ _ _ hrd (by omega) hvb⟩, he.symm⟩
          | ok p s2 =>
            rw [hr] at hp he hgs
            obtain ⟨hnv, hst⟩ := hp
            have hl := List.IsSuffix.length_le hgs
            have hlt2 := HLT.out
            simp only [List.length_cons] at h60 hsn hlt2
            have e1 : (g + groupsL L) + p.groups = g + groupsL (L ++ [p]) := by rw [groupsL_snoc]; omega
            have e2 : max (max m (d + (deepL L : Int))) (d + (p.deep : Int)) = max m (d + (deepL (L ++ [p]) : Int)) := by rw [deepL_snoc]; omega
            rw [e1, e2] at hst
            refine .inl ⟨L ++ [p], s2, LI.push HQ1.out HVX.out HQ3.out hb0 HXW.out (Nat.lt_trans hXw HXW.out) HOF.out hnv HO3.out HG3.out HL3.out, St.move HT.out F1 hst (F2 _ _ _ hst.1 (by omega) hvb), ?_, by omega, he, by omega⟩
            rw [List.length_append]; simp; omega
      · rw [if_neg hsg] at heq
        have HN := hide hsg
        have HR2 : Hid (R = .ok (Pat.or L) s0) := heq.symm
        clear hst hli heq hsg
        go_wp2_with fail
        refine (takes_no _ _ _ _ _ _ _ _ _ HS.out (by decide) (by decide) HN.out).mono ?_
        rintro e wt ⟨rfl, hwt⟩
        have hon : Off b wr wt := Off.drn hwt
        replace HO := hide (HO.out.trans hon)
        replace HK := hide (HK.out.off hon (by omega))
        replace HX := hide (HX.out.off hon (by omega))
        replace HS := hide (HS.out.drn hwt)
        replace HLI := hide (HLI.out.keep hon hb0)
        clear hwt hon
        obtain ⟨⟨x0, x1, x2, x3, x4, x5⟩, hxl⟩ := six_cells HX.out
        obtain ⟨⟨z0, z1, z2, z3, z4, z5⟩, ⟨y0, y1, y2, y3, y4, y5⟩, hw1⟩ := zero_cells HK.out
        try simp at z0 z1 z2 z3 z4 z5 y0 y1 y2 y3 y4 y5 hw1
        go_wp2_with fail
        refine bodyPost_ret (v := .agg #[.int .i64 3, .slice none 0 0, .slice lo ln lc, .int .i64 0, .int .i64 0, .int .i64 0]) (by simp [results, Tryz.results64, go_sem, z0, z1, z2, z3, z4, z5]) rfl ⟨3, none, 0, 0, lo, ln, lc, 0, 0, 0, rfl, ?_⟩
        rw [HR2.out]
        exact row_end (fun _ _ xs o1 o2 => ⟨_, xs, rfl, o1, o2⟩) (by simp [Pat.groups]) (by simp [Pat.deep]) HLI.out HS.out HO.out HBb.out HT.out rfl
    · have HB := hide hbad
      have HR2 := hide hRb
      clear hbad hRb
      go_wp2_with fail
      refine (takes_bad _ _ _ _ _ _ HB.out (by decide) (by decide)).mono ?_
      rintro e wt ⟨rfl, hwt⟩
      have hon : Off b wr wt := Off.drn hwt
      replace HO := hide (HO.out.trans hon)
      replace HK := hide (HK.out.off hon (by omega))
      replace HX := hide (HX.out.off hon (by omega))
      replace HB := hide (HB.out.off hwt)
      clear hwt hon
      obtain ⟨⟨x0, x1, x2, x3, x4, x5⟩, hxl⟩ := six_cells HX.out
      obtain ⟨⟨z0, z1, z2, z3, z4, z5⟩, ⟨y0, y1, y2, y3, y4, y5⟩, hw1⟩ := zero_cells HK.out
      try simp at z0 z1 z2 z3 z4 z5 y0 y1 y2 y3 y4 y5 hw1
      go_wp2_with fail
      refine bodyPost_ret (v := .agg #[.int .i64 3, .slice none 0 0, .slice lo ln lc, .int .i64 0, .int .i64 0, .int .i64 0]) (by simp [results, Tryz.results64, go_sem, z0, z1, z2, z3, z4, z5]) rfl ⟨3, none, 0, 0, lo, ln, lc, 0, 0, 0, rfl, ?_⟩
      rw [HR2.out]
      exact row_end_bad HB.out HBb.out HO.out rfl
theorem or_all : ∀ n, OrOk n
  | 0, _, _, _, s, _, _, _, _, _, hn => by omega
  | n + 1, b, lv, l, s, g, d, m, w, h, hn => or_any3 n (or_all n) b lv l s g d m w h (by omega)
end Go.Proofs.YtpoibdhhcbelnaaGreatDoor
/- The reference's writing: the bytes of a rune: walks. -/
namespace Go.Proofs.YtpoibdhhcbelnaaGreatDoor
open Go.RowKit Brm

theorem conv_lit (w : World) (zs : List Int) (hz : ∀ x ∈ zs, 0 ≤ x ∧ x < 256) : (convert 150 9 (.slice (some ⟨w.heap.size, 0, none⟩) zs.length zs.length)).run Tryz.prog (w.alloc (.cells (zs.map (Value.int .u8)).toArray 5)) = .ok (.string ⟨(zs.map fun x => x.toNat.toUInt8).toArray⟩) (w.alloc (.cells (zs.map (Value.int .u8)).toArray 5)) := by
  have h := run_convert_bytes_back (P := Tryz.prog) (w.alloc (.cells (zs.map (Value.int .u8)).toArray 5)) 150 9 5 ⟨w.heap.size, 0, none⟩ zs.length (zs.map fun x => x.toNat.toUInt8) Tryz.underlying150 Tryz.underlying5 Tryz.underlying9 (fun j hj => by
    rw [Addr.add_lit, Nat.zero_add, (Blk.new w (zs.map (Value.int .u8)) 5).cell]
    have hj2 : j < zs.length := by simpa using hj
    rw [List.getElem?_map, List.getElem?_eq_getElem hj2, List.getElem_map]
    have := hz zs[j] (List.getElem_mem hj2)
    simp only [Option.map_some]
    congr 2
    rw [UInt8.toNat_ofNat_of_lt' (by show _ < 256; omega)]
    omega)
  simpa using h
set_option maxRecDepth 100000 in
set_option maxHeartbeats 400000 in
theorem text_one (c : Int) (w : World) (h0 : 0 ≤ c) (h1 : c < 128) : Calls Tryz.prog 80 #[.int .i64 c] w fun e w' => ∃ s, e = .returned (.string s) ∧ bytesOf s = Lib.encodeRune c ∧ Below w.heap.size w w' := by
  have hcv := conv_lit w [c] (by simp; omega)
  have HE : Hid (Lib.encodeRune c = [c.toNat.toUInt8]) := by show _ = _; unfold Lib.encodeRune; rw [Lib.encodeRuneZ_one h0 (by omega)]; rfl
  simp only [List.length_cons, List.length_nil, List.map_cons, List.map_nil] at hcv
  go_enter Tryz.func80, Tryz.ntmps80
  go_wp2
  go_ret
  exact ⟨_, rfl, by rw [HE.out]; rfl, (Below.refl _ _).alloc (Nat.le_refl _) _⟩
set_option maxRecDepth 100000 in
set_option maxHeartbeats 400000 in
theorem text_two (c : Int) (w : World) (h0 : 128 ≤ c) (h1 : c < 2048) : Calls Tryz.prog 80 #[.int .i64 c] w fun e w' => ∃ s, e = .returned (.string s) ∧ bytesOf s = Lib.encodeRune c ∧ Below w.heap.size w w' := by
  have hcv := conv_lit w [192 + c / 64, 128 + c % 64] (by simp only [List.mem_cons, List.not_mem_nil, or_false]; rintro x hx; (repeat' (rcases hx with rfl | hx)) <;> (try subst hx) <;> omega)
  have HE : Hid (Lib.encodeRune c = [(192 + c / 64).toNat.toUInt8, (128 + c % 64).toNat.toUInt8]) := by show _ = _; unfold Lib.encodeRune; rw [Lib.encodeRuneZ_two h0 (by omega)]; rfl
  simp only [List.length_cons, List.length_nil, List.map_cons, List.map_nil] at hcv
  have d1 : decide (c < 128) = false := decide_eq_false (by omega)
  go_enter Tryz.func80, Tryz.ntmps80
  go_wp2
  go_ret
  exact ⟨_, rfl, by rw [HE.out]; rfl, (Below.refl _ _).alloc (Nat.le_refl _) _⟩
set_option maxRecDepth 100000 in
set_option maxHeartbeats 400000 in
theorem text_three (c : Int) (w : World) (h0 : 2048 ≤ c) (h1 : c < 65536) (hr : c < 55296 ∨ 57343 < c) : Calls Tryz.prog 80 #[.int .i64 c] w fun e w' => ∃ s, e = .returned (.string s) ∧ bytesOf s = Lib.encodeRune c ∧ Below w.heap.size w w' := by
  have hcv := conv_lit w [224 + c / 4096, 128 + c / 64 % 64, 128 + c % 64] (by simp only [List.mem_cons, List.not_mem_nil, or_false]; rintro x hx; (repeat' (rcases hx with rfl | hx)) <;> (try subst hx) <;> omega)
  have HE : Hid (Lib.encodeRune c = [(224 + c / 4096).toNat.toUInt8, (128 + c / 64 % 64).toNat.toUInt8, (128 + c % 64).toNat.toUInt8]) := by show _ = _; unfold Lib.encodeRune; rw [Lib.encodeRuneZ_three (by omega)]; rfl
  simp only [List.length_cons, List.length_nil, List.map_cons, List.map_nil] at hcv
  clear hr
  have d1 : decide (c < 128) = false := decide_eq_false (by omega)
  have d2 : decide (c < 2048) = false := decide_eq_false (by omega)
  go_enter Tryz.func80, Tryz.ntmps80
  go_wp2
  go_ret
  exact ⟨_, rfl, by rw [HE.out]; rfl, (Below.refl _ _).alloc (Nat.le_refl _) _⟩
set_option maxRecDepth 100000 in
set_option maxHeartbeats 400000 in
theorem text_four (c : Int) (w : World) (h0 : 65536 ≤ c) (h1 : c ≤ 1114111) : Calls Tryz.prog 80 #[.int .i64 c] w fun e w' => ∃ s, e = .returned (.string s) ∧ bytesOf s = Lib.encodeRune c ∧ Below w.heap.size w w' := by
  have hcv := conv_lit w [240 + c / 262144, 128 + c / 4096 % 64, 128 + c / 64 % 64, 128 + c % 64] (by simp only [List.mem_cons, List.not_mem_nil, or_false]; rintro x hx; (repeat' (rcases hx with rfl | hx)) <;> (try subst hx) <;> omega)
  have HE : Hid (Lib.encodeRune c = [(240 + c / 262144).toNat.toUInt8, (128 + c / 4096 % 64).toNat.toUInt8, (128 + c / 64 % 64).toNat.toUInt8, (128 + c % 64).toNat.toUInt8]) := by show _ = _; unfold Lib.encodeRune; rw [Lib.encodeRuneZ_four h0 h1]; rfl
  simp only [List.length_cons, List.length_nil, List.map_cons, List.map_nil] at hcv
  have d1 : decide (c < 128) = false := decide_eq_false (by omega)
  have d2 : decide (c < 2048) = false := decide_eq_false (by omega)
  have d3 : decide (c < 65536) = false := decide_eq_false (by omega)
  go_enter Tryz.func80, Tryz.ntmps80
  go_wp2
  go_ret
  exact ⟨_, rfl, by rw [HE.out]; rfl, (Below.refl _ _).alloc (Nat.le_refl _) _⟩
theorem text_any (c : Int) (w : World) (hc : runeB c = true) : Calls Tryz.prog 80 #[.int .i64 c] w fun e w' => ∃ s, e = .returned (.string s) ∧ bytesOf s = Lib.encodeRune c ∧ Below w.heap.size w w' := by
  have h := (rune_iff c).1 hc
  by_cases a1 : c < 128
  · exact text_one c w (by omega) a1
  · by_cases a2 : c < 2048
    · exact text_two c w (by omega) a2
    · by_cases a3 : c < 65536
      · exact text_three c w (by omega) a3 (by omega)
      · exact text_four c w (by omega) (by omega)
end Go.Proofs.YtpoibdhhcbelnaaGreatDoor
/- The reference's writing: a rune with its backslash; how many times: walks. -/
namespace Go.Proofs.YtpoibdhhcbelnaaGreatDoor
open Go.RowKit Brm

theorem enc_len (c : Int) : (Lib.encodeRune c).length ≤ 4 := by
  have := (Lib.encodeRuneZ_length c).2
  simpa [Lib.encodeRune] using this
set_option maxRecDepth 100000 in
set_option maxHeartbeats 400000 in
theorem written_any (c : Int) (m : ByteArray) (w : World) (hc : runeB c = true) (hm : m.size ≤ 1000) : Calls Tryz.prog 120 #[.int .i64 c, .string m] w fun e w' => ∃ s, e = .returned (.string s) ∧ bytesOf s = Brm.written (fun c => amongB c m) c ∧ Below w.heap.size w w' := by
  by_cases h1 : c = 10
  · subst h1; go_enter Tryz.func120, Tryz.ntmps120; go_wp2; go_ret; exact ⟨_, rfl, rfl, Below.refl _ _⟩
  by_cases h2 : c = 9
  · subst h2; go_enter Tryz.func120, Tryz.ntmps120; go_wp2; go_ret; exact ⟨_, rfl, rfl, Below.refl _ _⟩
  by_cases h3 : c = 13
  · subst h3; go_enter Tryz.func120, Tryz.ntmps120; go_wp2; go_ret; exact ⟨_, rfl, rfl, Below.refl _ _⟩
  have b1 : (c == 10) = false := beq_eq_false_iff_ne.2 h1
  have b2 : (c == 9) = false := beq_eq_false_iff_ne.2 h2
  have b3 : (c == 13) = false := beq_eq_false_iff_ne.2 h3
  have HC := hide hc
  have HM := hide hm
  have HL := hide (enc_len c)
  by_cases ha : amongB c m = true
  · have HE : Hid (Brm.written (fun c => amongB c m) c = 92 :: Lib.encodeRune c) := by show _ = _; unfold Brm.written; rw [if_neg h1, if_neg h2, if_neg h3, if_pos ha]
    clear h1 h2 h3 hc hm
    go_enter Tryz.func120, Tryz.ntmps120
    go_wp2_with (first
      | (go_at_call 171; refine (among_any _ _ _ HM.out).mono ?_; rintro e w1 ⟨rfl, hw⟩; rw [ha]; have hw2 := hw.symm; subst hw2)
      | (go_at_call 80; refine (text_any _ _ HC.out).mono ?_; rintro e w1 ⟨s1, rfl, hs1, hb1⟩; have HS1 := hide hs1; have HB1 := hide hb1; have hs4 : s1.size ≤ 4 := (by rw [← bytes_len, hs1]; exact HL.out); clear hs1 hb1))
    go_ret
    exact ⟨_, rfl, by rw [HE.out, bytes_add, HS1.out]; rfl, HB1.out⟩
  · have ha : amongB c m = false := by simpa using ha
    have HE : Hid (Brm.written (fun c => amongB c m) c = Lib.encodeRune c) := by show _ = _; unfold Brm.written; rw [if_neg h1, if_neg h2, if_neg h3]; simp [ha]
    clear h1 h2 h3 hc hm
    go_enter Tryz.func120, Tryz.ntmps120
    go_wp2_with (first
      | (go_at_call 171; refine (among_any _ _ _ HM.out).mono ?_; rintro e w1 ⟨rfl, hw⟩; rw [ha]; have hw2 := hw.symm; subst hw2)
      | (go_at_call 80; refine (text_any _ _ HC.out).mono ?_; rintro e w1 ⟨s1, rfl, hs1, hb1⟩; have HS1 := hide hs1; have HB1 := hide hb1; clear hs1 hb1))
    go_ret
    exact ⟨_, rfl, by rw [HE.out, HS1.out], HB1.out⟩
theorem written_special (c : Int) : Brm.written (fun c => amongB c { data := #[124, 38, 126, 42, 43, 63, 123, 125, 46, 92, 91, 93, 40, 41] }) c = Brm.written special c := by
  have : (fun c => amongB c { data := #[124, 38, 126, 42, 43, 63, 123, 125, 46, 92, 91, 93, 40, 41] }) = special := funext amongB_special
  rw [this]
theorem written_inner (c : Int) : Brm.written (fun c => amongB c { data := #[91, 93, 92, 45, 94] }) c = Brm.written inner c := by
  have : (fun c => amongB c { data := #[91, 93, 92, 45, 94] }) = inner := funext amongB_inner
  rw [this]
theorem lit1 (w : World) (z : Int) (h0 : 0 ≤ z) (h1 : z < 256) : (convert 150 9 (.slice (some ⟨w.heap.size, 0, none⟩) 1 1)).run Tryz.prog (w.alloc (.cells #[.int .u8 z] 5)) = .ok (.string ⟨#[z.toNat.toUInt8]⟩) (w.alloc (.cells #[.int .u8 z] 5)) := by
  have := conv_lit w [z] (by simp; omega)
  simpa using this
theorem lit2 (w : World) (o : Obj) (z : Int) (h0 : 0 ≤ z) (h1 : z < 256) : (convert 150 9 (.slice (some ⟨w.heap.size + 1, 0, none⟩) 1 1)).run Tryz.prog ((w.alloc o).alloc (.cells #[.int .u8 z] 5)) = .ok (.string ⟨#[z.toNat.toUInt8]⟩) ((w.alloc o).alloc (.cells #[.int .u8 z] 5)) := by
  have := lit1 (w.alloc o) z h0 h1
  simpa using this
theorem new1 (w : World) (o : Obj) : Below w.heap.size w (w.alloc o) := (Below.refl _ _).alloc (Nat.le_refl _) _
theorem new2 (w : World) (o o' : Obj) : Below w.heap.size w ((w.alloc o).alloc o') := (new1 w o).alloc (by simp) _
set_option maxRecDepth 100000 in
set_option maxHeartbeats 400000 in
theorem counted_star  (w : World) : Calls Tryz.prog 67 #[.int .i64 0, .int .i64 (-1)] w fun e w' => ∃ s, e = .returned (.string s) ∧ bytesOf s = wrTimes 0 (-1) ∧ Below w.heap.size w w' := by
  have hcv := lit1 w 48 (by omega) (by omega)
  have HE : Hid (wrTimes 0 (-1) = [42]) := by show _ = _; unfold wrTimes; repeat (first | rw [if_pos (by omega)] | rw [if_neg (by omega)])
  go_enter Tryz.func67, Tryz.ntmps67
  go_wp2
  go_ret
  exact ⟨_, rfl, by rw [HE.out]; rfl, new1 _ _⟩
set_option maxRecDepth 100000 in
set_option maxHeartbeats 400000 in
theorem counted_plus  (w : World) : Calls Tryz.prog 67 #[.int .i64 1, .int .i64 (-1)] w fun e w' => ∃ s, e = .returned (.string s) ∧ bytesOf s = wrTimes 1 (-1) ∧ Below w.heap.size w w' := by
  have hcv := lit1 w 49 (by omega) (by omega)
  have HE : Hid (wrTimes 1 (-1) = [43]) := by show _ = _; unfold wrTimes; repeat (first | rw [if_pos (by omega)] | rw [if_neg (by omega)])
  go_enter Tryz.func67, Tryz.ntmps67
  go_wp2
  go_ret
  exact ⟨_, rfl, by rw [HE.out]; rfl, new1 _ _⟩
set_option maxRecDepth 100000 in
set_option maxHeartbeats 400000 in
theorem counted_up (m : Int) (h0 : 2 ≤ m) (h1 : m ≤ 5) (w : World) : Calls Tryz.prog 67 #[.int .i64 m, .int .i64 (-1)] w fun e w' => ∃ s, e = .returned (.string s) ∧ bytesOf s = wrTimes m (-1) ∧ Below w.heap.size w w' := by
  have hcv := lit1 w (48 + m) (by omega) (by omega)
  have HE : Hid (wrTimes m (-1) = [123, dig m, 44, 125]) := by show _ = _; unfold wrTimes; repeat (first | rw [if_pos (by omega)] | rw [if_neg (by omega)])
  have b0 : (m == 0) = false := beq_eq_false_iff_ne.2 (by omega)
  have b1 : (m == 1) = false := beq_eq_false_iff_ne.2 (by omega)
  go_enter Tryz.func67, Tryz.ntmps67
  go_wp2
  go_ret
  exact ⟨_, rfl, by rw [HE.out]; rfl, new1 _ _⟩
set_option maxRecDepth 100000 in
set_option maxHeartbeats 400000 in
theorem counted_opt  (w : World) : Calls Tryz.prog 67 #[.int .i64 0, .int .i64 1] w fun e w' => ∃ s, e = .returned (.string s) ∧ bytesOf s = wrTimes 0 1 ∧ Below w.heap.size w w' := by
  have hcv := lit1 w 48 (by omega) (by omega)
  have HE : Hid (wrTimes 0 1 = [63]) := by show _ = _; unfold wrTimes; repeat (first | rw [if_pos (by omega)] | rw [if_neg (by omega)])
  go_enter Tryz.func67, Tryz.ntmps67
  go_wp2
  go_ret
  exact ⟨_, rfl, by rw [HE.out]; rfl, new1 _ _⟩
set_option maxRecDepth 100000 in
set_option maxHeartbeats 400000 in
theorem counted_same0  (w : World) : Calls Tryz.prog 67 #[.int .i64 0, .int .i64 0] w fun e w' => ∃ s, e = .returned (.string s) ∧ bytesOf s = wrTimes 0 0 ∧ Below w.heap.size w w' := by
  have hcv := lit1 w 48 (by omega) (by omega)
  have HE : Hid (wrTimes 0 0 = [123, dig 0, 125]) := by show _ = _; unfold wrTimes; repeat (first | rw [if_pos (by omega)] | rw [if_neg (by omega)])
  go_enter Tryz.func67, Tryz.ntmps67
  go_wp2
  go_ret
  exact ⟨_, rfl, by rw [HE.out]; rfl, new1 _ _⟩
set_option maxRecDepth 100000 in
set_option maxHeartbeats 400000 in
theorem counted_same1  (w : World) : Calls Tryz.prog 67 #[.int .i64 1, .int .i64 1] w fun e w' => ∃ s, e = .returned (.string s) ∧ bytesOf s = wrTimes 1 1 ∧ Below w.heap.size w w' := by
  have hcv := lit1 w 49 (by omega) (by omega)
  have HE : Hid (wrTimes 1 1 = [123, dig 1, 125]) := by show _ = _; unfold wrTimes; repeat (first | rw [if_pos (by omega)] | rw [if_neg (by omega)])
  go_enter Tryz.func67, Tryz.ntmps67
  go_wp2
  go_ret
  exact ⟨_, rfl, by rw [HE.out]; rfl, new1 _ _⟩
set_option maxRecDepth 100000 in
set_option maxHeartbeats 400000 in
theorem counted_same (m : Int) (h0 : 2 ≤ m) (h1 : m ≤ 5) (w : World) : Calls Tryz.prog 67 #[.int .i64 m, .int .i64 m] w fun e w' => ∃ s, e = .returned (.string s) ∧ bytesOf s = wrTimes m m ∧ Below w.heap.size w w' := by
  have hcv := lit1 w (48 + m) (by omega) (by omega)
  have HE : Hid (wrTimes m m = [123, dig m, 125]) := by show _ = _; unfold wrTimes; repeat (first | rw [if_pos (by omega)] | rw [if_neg (by omega)])
  have b0 : (m == 0) = false := beq_eq_false_iff_ne.2 (by omega)
  have b1 : (m == 1) = false := beq_eq_false_iff_ne.2 (by omega)
  have d0 : decide (m < 0) = false := decide_eq_false (by omega)
  go_enter Tryz.func67, Tryz.ntmps67
  go_wp2
  go_ret
  exact ⟨_, rfl, by rw [HE.out]; rfl, new1 _ _⟩
set_option maxRecDepth 100000 in
set_option maxHeartbeats 400000 in
theorem counted_zero (n : Int) (h0 : 2 ≤ n) (h1 : n ≤ 5) (w : World) : Calls Tryz.prog 67 #[.int .i64 0, .int .i64 n] w fun e w' => ∃ s, e = .returned (.string s) ∧ bytesOf s = wrTimes 0 n ∧ Below w.heap.size w w' := by
  have hcv := lit1 w 48 (by omega) (by omega)
  have hcv2 := lit2 w (.cells #[.int .u8 48] 5) (48 + n) (by omega) (by omega)
  have HE : Hid (wrTimes 0 n = [123, dig 0, 44, dig n, 125]) := by show _ = _; unfold wrTimes; repeat (first | rw [if_pos (by omega)] | rw [if_neg (by omega)])
  have d0 : decide (n < 0) = false := decide_eq_false (by omega)
  have b1 : (n == 1) = false := beq_eq_false_iff_ne.2 (by omega)
  have b2 : ((0 : Int) == n) = false := beq_eq_false_iff_ne.2 (by omega)
  go_enter Tryz.func67, Tryz.ntmps67
  go_wp2
  go_ret
  exact ⟨_, rfl, by rw [HE.out]; rfl, new2 _ _ _⟩
set_option maxRecDepth 100000 in
set_option maxHeartbeats 400000 in
theorem counted_one (n : Int) (h0 : 2 ≤ n) (h1 : n ≤ 5) (w : World) : Calls Tryz.prog 67 #[.int .i64 1, .int .i64 n] w fun e w' => ∃ s, e = .returned (.string s) ∧ bytesOf s = wrTimes 1 n ∧ Below w.heap.size w w' := by
  have hcv := lit1 w 49 (by omega) (by omega)
  have hcv2 := lit2 w (.cells #[.int .u8 49] 5) (48 + n) (by omega) (by omega)
  have HE : Hid (wrTimes 1 n = [123, dig 1, 44, dig n, 125]) := by show _ = _; unfold wrTimes; repeat (first | rw [if_pos (by omega)] | rw [if_neg (by omega)])
  have d0 : decide (n < 0) = false := decide_eq_false (by omega)
  have b2 : ((1 : Int) == n) = false := beq_eq_false_iff_ne.2 (by omega)
  go_enter Tryz.func67, Tryz.ntmps67
  go_wp2
  go_ret
  exact ⟨_, rfl, by rw [HE.out]; rfl, new2 _ _ _⟩
set_option maxRecDepth 100000 in
set_option maxHeartbeats 400000 in
theorem counted_two (m n : Int) (h0 : 2 ≤ m) (h1 : m < n) (h2 : n ≤ 5) (w : World) : Calls Tryz.prog 67 #[.int .i64 m, .int .i64 n] w fun e w' => ∃ s, e = .returned (.string s) ∧ bytesOf s = wrTimes m n ∧ Below w.heap.size w w' := by
  have hcv := lit1 w (48 + m) (by omega) (by omega)
  have hcv2 := lit2 w (.cells #[.int .u8 (48 + m)] 5) (48 + n) (by omega) (by omega)
  have HE : Hid (wrTimes m n = [123, dig m, 44, dig n, 125]) := by show _ = _; unfold wrTimes; repeat (first | rw [if_pos (by omega)] | rw [if_neg (by omega)])
  have b0 : (m == 0) = false := beq_eq_false_iff_ne.2 (by omega)
  have b1 : (m == 1) = false := beq_eq_false_iff_ne.2 (by omega)
  have d0 : decide (n < 0) = false := decide_eq_false (by omega)
  have b2 : (m == n) = false := beq_eq_false_iff_ne.2 (by omega)
  go_enter Tryz.func67, Tryz.ntmps67
  go_wp2
  go_ret
  exact ⟨_, rfl, by rw [HE.out]; rfl, new2 _ _ _⟩
theorem counted_any (m n : Int) (w : World) (h0 : 0 ≤ m) (h1 : m ≤ 5) (h2 : n = -1 ∨ m ≤ n ∧ n ≤ 5) : Calls Tryz.prog 67 #[.int .i64 m, .int .i64 n] w fun e w' => ∃ s, e = .returned (.string s) ∧ bytesOf s = wrTimes m n ∧ Below w.heap.size w w' := by
  rcases h2 with rfl | ⟨h2, h3⟩
  · by_cases e0 : m = 0
    · subst e0; exact counted_star w
    · by_cases e1 : m = 1
      · subst e1; exact counted_plus w
      · exact counted_up m (by omega) h1 w
  · by_cases e : m = n
    · subst e
      by_cases e0 : m = 0
      · subst e0; exact counted_same0 w
      · by_cases e1 : m = 1
        · subst e1; exact counted_same1 w
        · exact counted_same m (by omega) h1 w
    · by_cases e0 : m = 0
      · subst e0
        by_cases e1 : n = 1
        · subst e1; exact counted_opt w
        · exact counted_zero n (by omega) h3 w
      · by_cases e1 : m = 1
        · subst e1; exact counted_one n (by omega) h3 w
        · exact counted_two m n (by omega) (by omega) h3 w
end Go.Proofs.YtpoibdhhcbelnaaGreatDoor
