/- Walks and plain laws, some texts in one. -/
import Derived.BigQuiet
import Derived.Test.YtpoibdhhcbelnaaGreatDoorM45
import Derived.Test.YtpoibdhhcbelnaaGreatDoorM42
/- The law Within: plain facts, and a walk. -/
namespace Go.Proofs.YtpoibdhhcbelnaaGreatDoor
open Go.Shelf Go.RowKit Go.Lib Brm

/-- A pattern in two groups. -/
def twinP (p : Pat) : Pat := .or [.and [.row [.group (.or [.and [.row [.group p]]])]]]
theorem twin_mt {p : Pat} {t : List Int} : (twinP p).Mt t ↔ p.Mt t := by
  show (oneP (.group (oneP (.group p)))).Mt t ↔ _
  rw [mt_one]
  show (oneP (.group p)).Mt t ↔ _
  rw [mt_one]
  exact Iff.rfl
theorem twin_groups (p : Pat) : (twinP p).groups = p.groups + 2 := by simp [twinP, Pat.groups, groupsL]
theorem twin_cl {p : Pat} (h : Cl p) : Cl (twinP p) := by simp [twinP, Cl, ClL, h]
theorem pos_mono (bs : List UInt8) (i : Nat) : ∀ d, posOf i bs ≤ posOf (i + d) bs
  | 0 => Nat.le_refl _
  | d + 1 => by
    have := pos_mono bs i d
    rw [← Nat.add_assoc, posOf_succ]
    omega
theorem toB_nat (bs : List UInt8) (u : Nat) : toB bs (u : Int) = (posOf u bs : Int) := by simp [toB]
theorem toB_no (bs : List UInt8) : toB bs (-1) = -1 := by simp [toB]
/-- What the law asks of the places. -/
structure BPr (n : Nat) (G : List Int) : Prop where
  len : ∃ k, G.length = 2 * k ∧ 2 ≤ k
  small : G.length ≤ 100000
  g0 : G[0]? = some 0
  g1 : G[1]? = some (n : Int)
  g2 : G[2]? = some 0
  g3 : G[3]? = some (n : Int)
  pair : ∀ q, 2 * q + 1 < G.length → (G[2 * q]? = some (-1) ∧ G[2 * q + 1]? = some (-1)) ∨ ∃ a b : Nat, a ≤ b ∧ b ≤ n ∧ G[2 * q]? = some (a : Int) ∧ G[2 * q + 1]? = some (b : Int)
theorem bpr_of {bs : List UInt8} {l : List Int} {p : Pat} {got : List Int} (hr : Runes bs l) (hg : p.groups ≤ 1000) (hlen : got.length = 2 * (twinP p).groups) (h : Tk l (twinP p) 0 0 l.length (List.replicate (2 * (twinP p).groups) (-1)) got) : BPr bs.length (got.map (toB bs)) := by
  have hgr := twin_groups p
  have hstd := tk_std l (twinP p) 0 0 l.length _ got (Nat.zero_le _) (Nat.le_refl _) h
  have hpr := hstd.2 (prok_none _ _)
  obtain ⟨t0, t1, t2, t3⟩ := tk_twice (by rw [List.length_replicate]; omega) h
  have hall := posOf_all hr
  exact {
    len := ⟨(twinP p).groups, by rw [List.length_map, hlen], by omega⟩
    small := by rw [List.length_map, hlen]; omega
    g0 := by rw [List.getElem?_map, t0]; rfl
    g1 := by rw [List.getElem?_map, t1]; show some (toB bs (l.length : Int)) = _; rw [toB_nat, hall]
    g2 := by rw [List.getElem?_map, t2]; rfl
    g3 := by rw [List.getElem?_map, t3]; show some (toB bs (l.length : Int)) = _; rw [toB_nat, hall]
    pair := fun q hq => by
      rw [List.length_map] at hq
      rw [List.getElem?_map, List.getElem?_map]
      rcases hpr q hq with ⟨h1, h2⟩ | ⟨u, v, h1, h2, h3, h4⟩
      · exact .inl ⟨by rw [h1]; show some (toB bs (-1)) = _; rw [toB_no], by rw [h2]; show some (toB bs (-1)) = _; rw [toB_no]⟩
      · refine .inr ⟨posOf u bs, posOf v bs, ?_, ?_, by rw [h3]; show some (toB bs (u : Int)) = _; rw [toB_nat], by rw [h4]; show some (toB bs (v : Int)) = _; rw [toB_nat]⟩
        · have := pos_mono bs u (v - u)
          rw [show u + (v - u) = v by omega] at this
          exact this
        · have := pos_mono bs v (l.length - v)
          rw [show v + (l.length - v) = l.length by omega, hall] at this
          exact this }
end Go.Proofs.YtpoibdhhcbelnaaGreatDoor
/- The law Within: a walk. -/
namespace Go.Proofs.YtpoibdhhcbelnaaGreatDoor
open Go.Shelf Go.RowKit Go.Lib Brm

theorem RX.few {w : World} {A : Nat → Prop} {p : Pat} {bx : Nat} (h : RX w A p bx) : p.groups ≤ 1000 := by
  obtain ⟨_, _, _, _, _, _, _, _, _, _, _, _, _, _, _, _, _, _, _, _, h9⟩ := h
  exact h9
set_option maxRecDepth 100000 in
set_option maxHeartbeats 8000000 in
theorem within_walk (a1 a2 : Option Addr) (c1 c2 : Nat) (r1 r2 : List Int) (w : World) (hT : ATab w) (h1 : IntsA w a1 r1) (h2 : IntsA w a2 r2) (l1 : r1.length ≤ 9223372036854775807) (l2 : r2.length ≤ 9223372036854775807) :
    Calls Tryz.prog 12 #[.slice a1 r1.length c1, .slice a2 r2.length c2] w fun e w' => e = .returned (.bool true) ∧ Below w.heap.size w w' := by
  have HT := hide hT
  have HI2 := hide h2
  have HC := hide (pattern_any a1 c1 r1 w h1 l1)
  clear hT h1 h2
  go_enter Tryz.func12, Tryz.ntmps12
  go_wp2_with fail
  refine HC.out.mono ?_
  rintro e x1 ⟨s1, rfl, ⟨⟨p, hp, hcl⟩, z1⟩, hb1⟩
  have X1 := hide hb1
  have HW := hide hp
  have HCL := hide (twin_cl hcl)
  have hsz : (ByteArray.mk #[40, 40] ++ s1 ++ ByteArray.mk #[41, 41]).size = s1.size + 4 := by
    have : (ByteArray.mk #[40, 40]).size = 2 := rfl
    have : (ByteArray.mk #[41, 41]).size = 2 := rfl
    simp only [ByteArray.size_append]; omega
  have HRD : Hid (ReadR (bytesOf (ByteArray.mk #[40, 40] ++ s1 ++ ByteArray.mk #[41, 41])) (0, 0, some (twinP p))) := whole_read (by rw [bytes_add, bytes_add]; exact good_twin hp) (by decide) (by rw [bytes_len, hsz]; omega)
  have HMD := hide (kmade_walk _ x1 (twinP p) (HT.out.below hb1) (by rw [hsz]; omega) HRD.out)
  have HOK := hide (readR_some HRD.out).2.2.1
  clear hb1 hp hcl HC hsz
  go_wp2_with fail
  refine HMD.out.mono ?_
  rintro e x2 ⟨hb2, bx, rfl, hX⟩
  have X2 := hide (X1.out.trans (hb2.mono X1.out.size))
  have HX := hide hX
  have HC3 := hide (ktext_any a2 c2 r2 x2 (HI2.out.below (X1.out.trans (hb2.mono X1.out.size))) l2)
  clear hb2 hX HMD
  go_wp2_with fail
  refine HC3.out.mono ?_
  rintro e x3 ⟨t, rfl, ⟨⟨l, hl⟩, zt⟩, hb3⟩
  have X3 := hide (X2.out.trans (hb3.mono X2.out.size))
  have HR := hide hl
  have HGR := hide (rxgroups_any (twinP p) HOK.out HCL.out bx t x3 _ (HX.out.below hb3) ((HT.out.below (X2.out.trans (hb3.mono X2.out.size))).1) (by omega))
  have HLB := hide (bytes_len t)
  clear hb3 hl HC3
  go_wp2_with fail
  refine HGR.out.mono ?_
  rintro e x4 ⟨hb4, er, ol, htr, hans⟩
  have X4 := hide (X3.out.trans (hb4.mono X3.out.size))
  obtain ⟨rfl, rfl⟩ := textR_unique (show TextR (bytesOf t) 0 (some l) from .inr (.inr ⟨by rw [HLB.out]; omega, l, HR.out, rfl, rfl⟩)) htr
  have A1 := hide (is_one HR.out (HT.out.below X4.out) HW.out z1 zt)
  have HMT : Hid (mT (twinP p) l 0 l.length = true ↔ p.Mt l) := by
    show _ ↔ _
    rw [mT_iff, sub_all, twin_mt]
    exact ⟨fun h => h.2, fun h => ⟨Nat.zero_le _, h⟩⟩
  rcases hans with ⟨hmf, rfl⟩ | ⟨hmt, gb, got, rfl, hgb, hblk, hlen, htk⟩
  · have HNO : Hid (¬ p.Mt l) := fun h => by have := HMT.out.2 h; rw [hmf] at this; cases this
    clear hb4 htr hmf HGR
    go_wp2_with fail
    refine (A1.out _ (Below.refl _ _)).mono ?_
    rintro e x5 ⟨hx, v1, rfl, b1⟩
    have X5 := hide (X4.out.trans (hx.mono X4.out.size))
    obtain rfl : v1 = 0 := by rcases b1 with ⟨h, _⟩ | ⟨_, h⟩; exact absurd h HNO.out; exact h
    clear hx b1
    go_wp2_with fail
    go_ret
    exact ⟨rfl, X5.out⟩
  · have HYES : Hid (p.Mt l) := HMT.out.1 hmt
    have hgr := twin_groups p
    have HPR := hide (bpr_of HR.out (by have := HX.out.few; omega) hlen htk)
    rw [HLB.out] at HPR
    have hgl : got.length = (got.map (toB (bytesOf t))).length := by rw [List.length_map]
    rw [hgl]
    have HBK := hide hblk
    clear hb4 htr hmt hgb hblk hlen htk HGR hgr hgl
    generalize got.map (toB (bytesOf t)) = G at HPR HBK ⊢
    go_wp2_with fail
    refine (A1.out _ (Below.refl _ _)).mono ?_
    rintro e x5 ⟨hx, v1, rfl, b1⟩
    have X5 := hide (X4.out.trans (hx.mono X4.out.size))
    obtain rfl : v1 = 1 := by rcases b1 with ⟨_, h⟩ | ⟨h, _⟩; exact h; exact absurd HYES.out h
    have HB5 := hide (HBK.out.below hx)
    clear hx b1
    obtain ⟨⟨k, hk1, hk2⟩, hsm, hg0, hg1, hg2, hg3, hpair⟩ := HPR.out
    have e0 : x5.cell? ⟨gb, 0, none⟩ = some (.int .i64 0) := by rw [HB5.out.cell]; exact gInts_at hg0
    have e1 : x5.cell? ⟨gb, 1, none⟩ = some (.int .i64 (t.size : Int)) := by rw [HB5.out.cell]; exact gInts_at hg1
    have e2 : x5.cell? ⟨gb, 2, none⟩ = some (.int .i64 0) := by rw [HB5.out.cell]; exact gInts_at hg2
    have e3 : x5.cell? ⟨gb, 3, none⟩ = some (.int .i64 (t.size : Int)) := by rw [HB5.out.cell]; exact gInts_at hg3
    have hbl := HB5.out.lt
    have HPAIR := hide hpair
    generalize hn : G.length = n at *
    have n4 : (4 : Int) ≤ (n : Int) := by omega
    have nlt : decide ((n : Int) < 4) = false := decide_eq_false (by omega)
    have nmod : (n : Int).tmod 2 = 0 := Int.tmod_eq_zero_of_dvd ⟨(k : Int), by omega⟩
    have n0 : (0 : Int) < (n : Int) := by omega
    have n1 : (1 : Int) < (n : Int) := by omega
    have n2 : (2 : Int) < (n : Int) := by omega
    have n3 : (3 : Int) < (n : Int) := by omega
    have HK1 := hide hk1
    clear hg0 hg1 hg2 hg3 hpair hk1 hn
    go_wp2_with fail
    go_loopw [11] (fun ix wr => ∃ i q : Nat, i = 2 * q ∧ i ≤ n ∧ ix = .int .i64 i ∧ Below x5.heap.size x5 wr) (fun ix _ => n - (intOf ix).toNat)
    case atStart => exact ⟨4, 2, rfl, by omega, rfl, Below.refl _ _⟩
    case round =>
      obtain ⟨i, q, hiq, hin, rfl, hbel⟩ := hrel
      have HBr := hide hbel
      have HIQ := hide hiq
      have i0 : (0 : Int) ≤ (i : Int) := Int.natCast_nonneg _
      have hblr : gb < wr.heap.size := Nat.lt_of_lt_of_le hbl hbel.size
      by_cases hlt : i < n
      · have i1 : (i : Int) < (n : Int) := by omega
        have i2 : (i : Int) + 1 < (n : Int) := by have := HK1.out; omega
        have i3 : (0 : Int) ≤ (i : Int) + 1 := by omega
        have hpq := HPAIR.out q (by omega)
        rw [← hiq] at hpq
        clear hiq
        rcases hpq with ⟨p0, p1⟩ | ⟨a, b, hab, hbn, p0, p1⟩
        · have y0 : wr.cell? ⟨gb, i, none⟩ = some (.int .i64 (-1)) := by rw [(HB5.out.below hbel).cell]; exact gInts_at p0
          have y1 : wr.cell? ⟨gb, i + 1, none⟩ = some (.int .i64 (-1)) := by rw [(HB5.out.below hbel).cell]; exact gInts_at p1
          clear hbel p0 p1
          go_wp2_with fail
          go_quiet (fail)
          go_wp2_with fail
          go_roundw
          case rel => exact ⟨i + 2, q + 1, by have := HIQ.out; omega, by have := HIQ.out; have := HK1.out; omega, by go_num, ⟨HBr.out.os, HBr.out.tape, HBr.out.output, HBr.out.size, HBr.out.block⟩⟩
          case measure => simp [intOf]; omega
        · have y0 : wr.cell? ⟨gb, i, none⟩ = some (.int .i64 (a : Int)) := by rw [(HB5.out.below hbel).cell]; exact gInts_at p0
          have y1 : wr.cell? ⟨gb, i + 1, none⟩ = some (.int .i64 (b : Int)) := by rw [(HB5.out.below hbel).cell]; exact gInts_at p1
          have z0 : ((a : Int) == -1) = false := beq_eq_false_iff_ne.2 (by omega)
          have z1' : decide ((0 : Int) ≤ (a : Int)) = true := decide_eq_true (by omega)
          have z2 : decide ((a : Int) ≤ (b : Int)) = true := decide_eq_true (by omega)
          have z3 : decide ((b : Int) ≤ (t.size : Int)) = true := decide_eq_true (by omega)
          have z4 : (0 : Int) ≤ (a : Int) := by omega
          clear hbel p0 p1
          go_wp2_with fail
          go_quiet (fail)
          go_wp2_with fail
          go_roundw
          case rel => exact ⟨i + 2, q + 1, by have := HIQ.out; omega, by have := HIQ.out; have := HK1.out; omega, by go_num, ⟨HBr.out.os, HBr.out.tape, HBr.out.output, HBr.out.size, HBr.out.block⟩⟩
          case measure => simp [intOf]; omega
      · have i1 : decide (i < n) = false := decide_eq_false hlt
        clear hbel hiq
        go_wp2_with fail
        go_ret
        exact ⟨rfl, X5.out.trans (HBr.out.mono X5.out.size)⟩
end Go.Proofs.YtpoibdhhcbelnaaGreatDoor
