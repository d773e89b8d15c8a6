/- Walks and plain laws, some texts in one. -/
import Derived.BigRegion
import Derived.Test.YtpoibdhhcbelnaaGreatDoorM37
import Derived.Test.YtpoibdhhcbelnaaGreatDoorM39
/- The program lives: a pattern of every kind matches one text and not another: a walk. -/
namespace Go.Proofs.YtpoibdhhcbelnaaGreatDoor
open Go.Shelf Go.RowKit Go.Lib Brm

def livesIn : List UInt8 := [126, 40, 46, 42, 97, 97, 46, 42, 41, 38, 97, 46, 42, 98]
def livesPat : Pat := match orN false 15 (livesIn.map fun x => (x.toNat : Int)) with | .ok p _ => p | .bad _ => .row []
def dotS : Pat := .many (.set dot) 0 (-1)
def chr (c : Int) : Pat := .set [(c, c)]
theorem livesPat_eq : livesPat = .or [.and [.row [.not (.group (.or [.and [.row [dotS, chr 97, chr 97, dotS]]]))], .row [chr 97, dotS, chr 98]]] := by rfl
theorem lives_read : ReadR livesIn (0, 0, some livesPat) := .inr (.inr ⟨by decide, _, ascii_runes livesIn (by decide), by kernel_rfl⟩)
theorem chr_one (c : Int) : (chr c).Mt [c] := ⟨c, rfl, by simp [memB, inB]⟩
theorem chr_is {c : Int} {t : List Int} (h : (chr c).Mt t) : t = [c] := by
  obtain ⟨d, rfl, hd⟩ := h
  simp [memB, inB] at hd
  rw [show d = c by omega]
theorem lives_yes : livesPat.Mt [97, 98, 97, 98] := by
  rw [livesPat_eq]
  refine .inl ⟨⟨[97, 98, 97, 98], [], by simp, ?_, rfl⟩, ⟨[97], [98, 97, 98], rfl, chr_one 97, [98, 97], [98], rfl, ?_, [98], [], rfl, chr_one 98, rfl⟩, trivial⟩
  · rintro (⟨⟨a, b, e, _, c, d, e2, hc, f, g, e3, hf, _⟩, _⟩ | h)
    · rw [chr_is hc] at e2
      rw [chr_is hf] at e3
      rw [e2, e3] at e
      have h9 := congrArg List.length e
      rcases a with _ | ⟨x, _ | ⟨y, _ | ⟨z, a⟩⟩⟩
      · simp at e
      · simp at e
      · simp at e
      · simp at h9; omega
    · exact h
  · exact ⟨2, by decide, .inl (by decide), [98], [97], rfl, ⟨98, rfl, by decide⟩, [97], [], rfl, ⟨97, rfl, by decide⟩, rfl⟩
theorem lives_no : ¬ livesPat.Mt [97, 97, 98] := by
  rw [livesPat_eq]
  rintro (⟨⟨a, b, e, ha, hb⟩, _⟩ | h)
  · rw [show b = [] from hb, List.append_nil] at e
    apply ha
    rw [← e]
    exact .inl ⟨⟨[], [97, 97, 98], rfl, ⟨0, by decide, .inl (by decide), rfl⟩, [97], [97, 98], rfl, chr_one 97, [97], [98], rfl, chr_one 97, [98], [], rfl, ⟨1, by decide, .inl (by decide), [98], [], rfl, ⟨98, rfl, by decide⟩, rfl⟩, rfl⟩, trivial⟩
  · exact h
theorem lives_abab : matchB livesPat (some [97, 98, 97, 98]) = true := mT_iff.2 ⟨Nat.zero_le _, by rw [sub_all]; exact lives_yes⟩
theorem lives_aab : matchB livesPat (some [97, 97, 98]) = false := by
  apply Bool.eq_false_iff.2
  intro h
  have := (mT_iff.1 h).2
  rw [sub_all] at this
  exact lives_no this
theorem text_abab : TextR [97, 98, 97, 98] 0 (some [97, 98, 97, 98]) := .inr (.inr ⟨by decide, _, ascii_runes [97, 98, 97, 98] (by decide), rfl, rfl⟩)
theorem text_aab : TextR [97, 97, 98] 0 (some [97, 97, 98]) := .inr (.inr ⟨by decide, _, ascii_runes [97, 97, 98] (by decide), rfl, rfl⟩)
set_option maxRecDepth 100000 in
set_option maxHeartbeats 4000000 in
theorem lives_walk (w : World) (hT : MTab w) : Calls Tryz.prog 15 #[] w fun e w' => e = .returned (.bool true) ∧ Below w.heap.size w w' := by
  have HR := hide (rxnew_any ⟨#[126, 40, 46, 42, 97, 97, 46, 42, 41, 38, 97, 46, 42, 98]⟩ w hT (by decide))
  have HT := hide hT
  clear hT
  go_enter Tryz.func15, Tryz.ntmps15
  go_wp2_with fail
  refine HR.out.mono ?_
  rintro e w1 ⟨hb1, nv, er, place, op, hr, rfl, hop⟩
  have hu := readR_unique lives_read (show ReadR livesIn (er, place, op) from hr)
  simp only [Prod.mk.injEq] at hu
  obtain ⟨rfl, rfl, rfl⟩ := hu
  obtain ⟨bx, rfl, hX⟩ := hop
  have hok := (readR_some lives_read).2.2.1
  have HM1 := hide (fun (w' : World) (hb : Below w1.heap.size w1 w') => rxmatch_any livesPat hok bx ⟨#[97, 98, 97, 98]⟩ w' _ (hX.below hb) ((HT.out.below hb1).below hb) (by decide))
  have HM2 := hide (fun (w' : World) (hb : Below w1.heap.size w1 w') => rxmatch_any livesPat hok bx ⟨#[97, 97, 98]⟩ w' _ (hX.below hb) ((HT.out.below hb1).below hb) (by decide))
  have HB1 := hide hb1
  clear hb1 hr hX hok
  go_wp2_with fail
  refine (HM1.out _ (Below.refl _ _)).mono ?_
  rintro e w2 ⟨hb2, er2, ol2, rfl, ht2⟩
  have hu2 := textR_unique text_abab (show TextR [97, 98, 97, 98] er2 ol2 from ht2)
  obtain ⟨rfl, rfl⟩ := hu2
  rw [lives_abab]
  have HB2 := hide hb2
  clear hb2 ht2 HM1
  go_wp2_with fail
  refine (HM2.out _ HB2.out).mono ?_
  rintro e w3 ⟨hb3, er3, ol3, rfl, ht3⟩
  have hu3 := textR_unique text_aab (show TextR [97, 97, 98] er3 ol3 from ht3)
  obtain ⟨rfl, rfl⟩ := hu3
  rw [lives_aab]
  have HB3 := hide hb3
  clear hb3 ht3 HM2
  go_wp2_with fail
  go_ret
  exact ⟨rfl, HB1.out.trans ((HB2.out.trans (HB3.out.mono HB2.out.size)).mono HB1.out.size)⟩
end Go.Proofs.YtpoibdhhcbelnaaGreatDoor
/- Both sides read a pattern: a walk. -/
namespace Go.Proofs.YtpoibdhhcbelnaaGreatDoor
open Go.Shelf Go.RowKit Go.Lib Brm

abbrev Z6 : List Value := [.int .i64 0, .slice none 0 0, .slice none 0 0, .int .i64 0, .int .i64 0, .int .i64 0]
/-- What both sides come to: the same fault, or the same pattern. -/
def MadeQ (w : World) (e : Ending) (w' : World) : Prop := Below w.heap.size w w' ∧ ∃ (nv : Value) (k : Int) (so : Option Addr) (sn sc : Nat) (lo : Option Addr) (ln lc : Nat) (mm nn rr gr : Int) (op : Option Pat), e = .returned (.tuple #[nv, .agg #[.int .i64 k, .slice so sn sc, .slice lo ln lc, .int .i64 mm, .int .i64 nn, .int .i64 rr], .int .i64 gr, .bool true]) ∧
  match op with | some p => p.Ok ∧ p.wr.length ≤ 4000 ∧ (∃ bx A, nv = Ptr bx ∧ RX w' A p bx) ∧ NV w' (fun _ => True) p (Six k so sn sc lo ln lc mm nn rr) 0 ∧ gr = (p.groups : Int) | none => nv = .pointer none
theorem cells_put6 {w : World} {r : Nat} {c0 c1 c2 c3 c4 c5 : Value} (h : Blk w r Z6 32) : Blk (put6 w r c0 c1 c2 c3 c4 c5) r [c0, c1, c2, c3, c4, c5] 32 := (((((h.set 0 c0).set 1 c1).set 2 c2).set 3 c3).set 4 c4).set 5 c5
theorem below_put6 {B r : Nat} {a w : World} (h : Below B a w) (hr : B ≤ r) (c0 c1 c2 c3 c4 c5 : Value) : Below B a (put6 w r c0 c1 c2 c3 c4 c5) := (((((h.setCell hr _).setCell hr _).setCell hr _).setCell hr _).setCell hr _).setCell hr _
set_option maxRecDepth 100000 in
set_option maxHeartbeats 4000000 in
theorem made_walk (s : ByteArray) (w : World) (hT : MTab w) (hm : s.size ≤ 9223372036854775807) : Calls Tryz.prog 16 #[.string s] w (MadeQ w) := by
  have hN1 : Below w.heap.size w (w.alloc (.cells #[.int .i64 0, .slice none 0 0, .slice none 0 0, .int .i64 0, .int .i64 0, .int .i64 0] 32)) := (Below.refl _ _).alloc (Nat.le_refl _) _
  have HR1 := hide (Blk.new w Z6 32)
  have HC := hide (rxnew_any s (w.alloc (.cells #[.int .i64 0, .slice none 0 0, .slice none 0 0, .int .i64 0, .int .i64 0, .int .i64 0] 32)) (hT.below hN1) hm)
  have HN1 := hide hN1
  have HM := hide hm
  clear hT hm hN1
  go_enter Tryz.func16, Tryz.ntmps16
  go_wp2_with fail
  generalize hW : w.alloc (.cells #[.int .i64 0, .slice none 0 0, .slice none 0 0, .int .i64 0, .int .i64 0, .int .i64 0] 32) = W1 at HC HN1 HR1 ⊢
  clear hW
  refine HC.out.mono ?_
  rintro e w2 ⟨hb2, nv, er, place, op, hr, rfl, hop⟩
  have HB2 := hide hb2
  have HRD := hide hr
  have HR2 := hide (HR1.out.below hb2)
  clear hb2
  go_wp2_with fail
  refine (read_ref s _ HM.out).mono ?_
  rintro e w3 ⟨hb3, k, so, sn, sc, lo, ln, lc, mm, nn, rr, gr, er', place', op', hr', rfl, hop'⟩
  have hu := readR_unique hr hr'
  simp only [Prod.mk.injEq] at hu
  obtain ⟨rfl, rfl, rfl⟩ := hu
  have hr3 := HR2.out.below hb3
  have HB3 := hide hb3
  cases op' with
  | none =>
    have hne : (er' == 0) = false := beq_eq_false_iff_ne.2 (readR_none hr)
    have HNE2 : Hid ((er' != 0) = true) := bne_iff_ne.2 (readR_none hr)
    have hop2 : nv = .pointer none := hop
    subst hop2
    clear hr hr' hop hop' hb3
    have hN4 : Below w3.heap.size w3 (w3.alloc (.cells #[.int .i64 k, .slice so sn sc, .slice lo ln lc, .int .i64 mm, .int .i64 nn, .int .i64 rr] 32)) := (Below.refl _ _).alloc (Nat.le_refl _) _
    have hr4 := hr3.below hN4
    have hx4 := Blk.new w3 [.int .i64 k, .slice so sn sc, .slice lo ln lc, .int .i64 mm, .int .i64 nn, .int .i64 rr] 32
    have HN4 := hide hN4
    have HR4 := hide hr4
    have HX4 := hide hx4
    have hrl := hr3.lt
    clear hN4 hr4 hx4 hr3
    go_wp2_with fail
    generalize hW : w3.alloc (.cells #[.int .i64 k, .slice so sn sc, .slice lo ln lc, .int .i64 mm, .int .i64 nn, .int .i64 rr] 32) = W4 at HN4 HR4 HX4 ⊢
    clear hW
    obtain ⟨x0, x1, x2, x3, x4, x5⟩ := HX4.out.six
    obtain ⟨y0, y1, y2, y3, y4, y5⟩ := HR4.out.six
    have f0 := HR4.out.frozen 0
    have f1 := HR4.out.frozen 1
    have f2 := HR4.out.frozen 2
    have f3 := HR4.out.frozen 3
    have f4 := HR4.out.frozen 4
    have f5 := HR4.out.frozen 5
    go_region
    try go_wp2_with fail
    have hz := (cells_put6 (c0 := .int .i64 k) (c1 := .slice so sn sc) (c2 := .slice lo ln lc) (c3 := .int .i64 mm) (c4 := .int .i64 nn) (c5 := .int .i64 rr) HR4.out).six
    have hbw := (below_put6 (HN1.out.trans ((HB2.out.mono HN1.out.size).trans ((HB3.out.mono (Nat.le_trans HN1.out.size HB2.out.size)).trans (HN4.out.mono (Nat.le_trans (Nat.le_trans HN1.out.size HB2.out.size) HB3.out.size))))) (Nat.le_refl _) (.int .i64 k) (.slice so sn sc) (.slice lo ln lc) (.int .i64 mm) (.int .i64 nn) (.int .i64 rr)).drew
    refine bodyPost_ret (v := .tuple #[.pointer none, .agg #[.int .i64 k, .slice so sn sc, .slice lo ln lc, .int .i64 mm, .int .i64 nn, .int .i64 rr], .int .i64 gr, .bool true]) (by simp [results, Tryz.results16, go_sem, hz.1, hz.2.1, hz.2.2.1, hz.2.2.2.1, hz.2.2.2.2.1, hz.2.2.2.2.2, HNE2.out]) rfl ?_
    exact ⟨hbw, _, k, so, sn, sc, lo, ln, lc, mm, nn, rr, gr, none, rfl, rfl⟩
  | some p =>
    obtain ⟨rfl, rfl, hok, hlen⟩ := readR_some hr
    obtain ⟨bx, rfl, hX⟩ := hop
    obtain ⟨hNV, rfl⟩ := hop'
    have HX := hide (hX.below hb3)
    have HNV := hide hNV
    have HOK := hide hok
    have HLEN := hide hlen
    clear hr hr' hb3 hX hNV hok hlen
    have hN4 : Below w3.heap.size w3 (w3.alloc (.cells #[.int .i64 k, .slice so sn sc, .slice lo ln lc, .int .i64 mm, .int .i64 nn, .int .i64 rr] 32)) := (Below.refl _ _).alloc (Nat.le_refl _) _
    have hr4 := hr3.below hN4
    have hx4 := Blk.new w3 [.int .i64 k, .slice so sn sc, .slice lo ln lc, .int .i64 mm, .int .i64 nn, .int .i64 rr] 32
    have HN4 := hide hN4
    have HR4 := hide hr4
    have HX4 := hide hx4
    have hrl := hr3.lt
    clear hN4 hr4 hx4 hr3
    go_wp2_with fail
    generalize hW : w3.alloc (.cells #[.int .i64 k, .slice so sn sc, .slice lo ln lc, .int .i64 mm, .int .i64 nn, .int .i64 rr] 32) = W4 at HN4 HR4 HX4 ⊢
    clear hW
    obtain ⟨x0, x1, x2, x3, x4, x5⟩ := HX4.out.six
    obtain ⟨y0, y1, y2, y3, y4, y5⟩ := HR4.out.six
    have f0 := HR4.out.frozen 0
    have f1 := HR4.out.frozen 1
    have f2 := HR4.out.frozen 2
    have f3 := HR4.out.frozen 3
    have f4 := HR4.out.frozen 4
    have f5 := HR4.out.frozen 5
    go_region
    try go_wp2_with fail
    have hz := (cells_put6 (c0 := .int .i64 k) (c1 := .slice so sn sc) (c2 := .slice lo ln lc) (c3 := .int .i64 mm) (c4 := .int .i64 nn) (c5 := .int .i64 rr) HR4.out).six
    have hbw := (below_put6 (HN1.out.trans ((HB2.out.mono HN1.out.size).trans ((HB3.out.mono (Nat.le_trans HN1.out.size HB2.out.size)).trans (HN4.out.mono (Nat.le_trans (Nat.le_trans HN1.out.size HB2.out.size) HB3.out.size))))) (Nat.le_refl _) (.int .i64 k) (.slice so sn sc) (.slice lo ln lc) (.int .i64 mm) (.int .i64 nn) (.int .i64 rr)).drew
    refine bodyPost_ret (v := .tuple #[Ptr bx, .agg #[.int .i64 k, .slice so sn sc, .slice lo ln lc, .int .i64 mm, .int .i64 nn, .int .i64 rr], .int .i64 p.groups, .bool true]) (by simp [results, Tryz.results16, go_sem, hz.1, hz.2.1, hz.2.2.1, hz.2.2.2.1, hz.2.2.2.2.1, hz.2.2.2.2.2]) rfl ?_
    have hnr : ¬ New W1 w.heap.size := fun h => by have h9 : W1.heap.size ≤ w.heap.size := h; have := HR1.out.lt; omega
    have hnr2 : ¬ w2.heap.size ≤ w.heap.size := fun h => by have := HR2.out.lt; omega
    exact ⟨hbw, _, k, so, sn, sc, lo, ln, lc, mm, nn, rr, p.groups, some p, rfl, HOK.out, by have := HLEN.out; omega, ⟨bx, New W1, rfl, (HX.out.below HN4.out).keep ((Keeps.refl _ _).put6 hnr _ _ _ _ _ _).drew⟩, NV.mono (fun _ _ _ => trivial) p _ 0 (NV.keep ((Keeps.refl (fun q => w2.heap.size ≤ q) W4).put6 hnr2 _ _ _ _ _ _).drew p _ 0 (NV.keep (Keeps.below HN4.out) p _ 0 HNV.out)), rfl⟩
end Go.Proofs.YtpoibdhhcbelnaaGreatDoor
/- The law Matches: a walk. -/
namespace Go.Proofs.YtpoibdhhcbelnaaGreatDoor
open Go.Shelf Go.RowKit Go.Lib Brm

def Sr (w : World) (ao : Option Addr) (ts : List ByteArray) : Prop := ∀ (i : Nat) (t : ByteArray), ts[i]? = some t → ∃ b o, ao = some ⟨b, o, none⟩ ∧ b < w.heap.size ∧ w.cell? ⟨b, o + i, none⟩ = some (.string t)
theorem Sr.below {w w' : World} {ao : Option Addr} {ts : List ByteArray} (h : Sr w ao ts) (k : Below w.heap.size w w') : Sr w' ao ts := fun i t ht => by
  obtain ⟨b, o, e, hb, hc⟩ := h i t ht
  exact ⟨b, o, e, Nat.lt_of_lt_of_le hb k.size, (k.cell (p := ⟨b, o + i, none⟩) hb).trans hc⟩
set_option maxRecDepth 100000 in
set_option maxHeartbeats 4000000 in
theorem matches_walk (s : ByteArray) (ao : Option Addr) (ts : List ByteArray) (cap : Nat) (w : World) (hT : MTab w) (hm : s.size ≤ 9223372036854775807) (hS : Sr w ao ts) (hmt : ∀ t ∈ ts, t.size ≤ 9223372036854775807) (hlen : ts.length ≤ 9223372036854775807) : Calls Tryz.prog 4 #[.string s, .slice ao ts.length cap] w fun e w' => e = .returned (.bool true) ∧ Below w.heap.size w w' := by
  have HT := hide hT
  have HM := hide hm
  have HS := hide hS
  have HMT := hide hmt
  clear hT hm hS hmt
  go_enter Tryz.func4, Tryz.ntmps4
  go_wp2_with fail
  refine (lives_walk w HT.out).mono ?_
  rintro e w1 ⟨rfl, hb1⟩
  have HB1 := hide hb1
  have HT1 := hide (HT.out.below hb1)
  clear hb1
  go_wp2_with fail
  refine (made_walk s w1 HT1.out HM.out).mono ?_
  rintro e w2 ⟨hb2, nv, k, so, sn, sc, lo, ln, lc, mm, nn, rr, gr, op, rfl, hop⟩
  have hN3 : Below w2.heap.size w2 (w2.alloc (.cells #[.int .i64 k, .slice so sn sc, .slice lo ln lc, .int .i64 mm, .int .i64 nn, .int .i64 rr] 32)) := (Below.refl _ _).alloc (Nat.le_refl _) _
  have HX3 := hide (Blk.new w2 [.int .i64 k, .slice so sn sc, .slice lo ln lc, .int .i64 mm, .int .i64 nn, .int .i64 rr] 32)
  have HB3 := hide (HB1.out.trans ((hb2.mono HB1.out.size).trans (hN3.mono (Nat.le_trans HB1.out.size hb2.size))))
  have HT3 := hide ((HT1.out.below hb2).below hN3)
  cases op with
  | none =>
    have hop2 : nv = .pointer none := hop
    subst hop2
    clear hop hb2 hN3
    go_wp2_with fail
    generalize hW : w2.alloc (.cells #[.int .i64 k, .slice so sn sc, .slice lo ln lc, .int .i64 mm, .int .i64 nn, .int .i64 rr] 32) = W3 at HX3 HB3 HT3 ⊢
    clear hW
    go_loopw [10] (fun ix wr => ix = .int .i64 0 ∧ wr = W3) (fun _ _ => 0)
    case atStart => exact ⟨rfl, rfl⟩
    case round =>
      obtain ⟨rfl, rfl⟩ := hrel
      by_cases h0 : 0 < ts.length
      · have h1 : (0 : Int) < (ts.length : Int) := by omega
        go_wp2
        go_ret
        exact ⟨rfl, HB3.out⟩
      · have h1 : ts.length = 0 := by omega
        go_wp2
        go_ret
        exact ⟨rfl, HB3.out⟩
  | some p =>
    obtain ⟨hok, hwr, ⟨bx, A, rfl, hX⟩, hNV, hgr⟩ := hop
    have HRX := hide (hX.below hN3)
    have HNV := hide (NV.keep (Keeps.below hN3) p _ 0 hNV)
    have HOK := hide hok
    have HWR := hide hwr
    clear hb2 hN3 hX hNV hok hwr
    go_wp2_with fail
    generalize hW : w2.alloc (.cells #[.int .i64 k, .slice so sn sc, .slice lo ln lc, .int .i64 mm, .int .i64 nn, .int .i64 rr] 32) = W3 at HX3 HB3 HT3 HRX HNV ⊢
    clear hW
    go_loopw [10] (fun ix wr => ∃ i : Nat, i ≤ ts.length ∧ ix = .int .i64 i ∧ Below W3.heap.size W3 wr) (fun ix _ => ts.length - (intOf ix).toNat)
    case atStart => exact ⟨0, Nat.zero_le _, rfl, Below.refl _ _⟩
    case round =>
      obtain ⟨i, hi, rfl, hb⟩ := hrel
      have HB := hide hb
      have i0 : (0 : Int) ≤ (i : Int) := Int.natCast_nonneg _
      by_cases hlt : i < ts.length
      · have hg := List.getElem?_eq_getElem hlt
        have hmm9 := HMT.out ts[i] (List.getElem_mem hlt)
        generalize ts[i] = t at hg hmm9
        obtain ⟨b, o, rfl, hbl, hc0⟩ := ((HS.out.below HB3.out).below hb) i t hg
        have i1 : (i : Int) < (ts.length : Int) := by omega
        have HC := hide (rxmatch_any p HOK.out bx t wr A (HRX.out.below hb) (HT3.out.below hb) hmm9)
        have HD := hide (fun (w' : World) (hw : Below wr.heap.size wr w') => rmatch_any p (fun _ => True) k so sn sc lo ln lc mm nn rr 0 t w' ((HNV.out.below hb).below hw) HWR.out HOK.out hmm9)
        have hx := HX3.out.below hb
        have HX := hide hx
        clear hb hg hx
        go_wp2_with fail
        refine HC.out.mono ?_
        rintro e w4 ⟨hb4, er, ol, rfl, ht4⟩
        have hx4 := HX.out.below hb4
        obtain ⟨x0, x1, x2, x3, x4, x5⟩ := hx4.six
        have hxl := hx4.lt
        have hc4 := (hb4.cell (p := ⟨b, o + i, none⟩) hbl).trans hc0
        have hbl4 := Nat.lt_of_lt_of_le hbl hb4.size
        have HX4 := hide hx4
        have HB4 := hide hb4
        have HT4 := hide ht4
        have HD4 : Hid (∀ w', Below w4.heap.size w4 w' → Calls Tryz.prog 18 #[.agg #[.int .i64 k, .slice so sn sc, .slice lo ln lc, .int .i64 mm, .int .i64 nn, .int .i64 rr], .string t] w' fun e w5 => e = .returned (.tuple #[.bool (matchB p ol), .int .i64 er]) ∧ Below w'.heap.size w' w5) := fun w' hw => (HD.out w' (HB4.out.trans (hw.mono HB4.out.size))).mono (fun e w5 h5 => by
          obtain ⟨hb5, er5, ol5, he, ht5⟩ := h5
          obtain ⟨rfl, rfl⟩ := textR_unique HT4.out ht5
          exact ⟨he, hb5⟩)
        generalize matchB p ol = mb at HD4 ⊢
        clear hb4 ht4 hx4 hc0
        go_wp2_with fail
        go_region_held3 (fun w' => Below w4.heap.size w4 w' ∧ w'.cell? ⟨w2.heap.size, 0, none⟩ = some (.int .i64 k) ∧ w'.cell? ⟨w2.heap.size, 1, none⟩ = some (.slice so sn sc) ∧ w'.cell? ⟨w2.heap.size, 2, none⟩ = some (.slice lo ln lc) ∧ w'.cell? ⟨w2.heap.size, 3, none⟩ = some (.int .i64 mm) ∧ w'.cell? ⟨w2.heap.size, 4, none⟩ = some (.int .i64 nn) ∧ w'.cell? ⟨w2.heap.size, 5, none⟩ = some (.int .i64 rr) ∧ w'.cell? ⟨b, o + i, none⟩ = some (.string t))
          (first | exact ⟨(Below.refl _ _).drew, x0, x1, x2, x3, x4, x5, hc4⟩ | exact HS5.out)
          ((go_at_call 18; refine (HD4.out _ (‹Below w4.heap.size w4 _ ∧ _›.1)).mono ?_; rintro e w5 ⟨rfl, hb5⟩; have hb6 : Below w4.heap.size w4 w5 := (‹Below w4.heap.size w4 _ ∧ _›.1).trans (hb5.mono (‹Below w4.heap.size w4 _ ∧ _›.1).size); have HS5 : Hid (Below w4.heap.size w4 w5 ∧ w5.cell? ⟨w2.heap.size, 0, none⟩ = some (.int .i64 k) ∧ w5.cell? ⟨w2.heap.size, 1, none⟩ = some (.slice so sn sc) ∧ w5.cell? ⟨w2.heap.size, 2, none⟩ = some (.slice lo ln lc) ∧ w5.cell? ⟨w2.heap.size, 3, none⟩ = some (.int .i64 mm) ∧ w5.cell? ⟨w2.heap.size, 4, none⟩ = some (.int .i64 nn) ∧ w5.cell? ⟨w2.heap.size, 5, none⟩ = some (.int .i64 rr) ∧ w5.cell? ⟨b, o + i, none⟩ = some (.string t)) := (by obtain ⟨a0, a1, a2, a3, a4, a5⟩ := (HX4.out.below hb6).six; exact ⟨hb6, a0, a1, a2, a3, a4, a5, (hb6.cell (p := ⟨b, o + i, none⟩) hbl4).trans hc4⟩); have HB6 := hide hb6; clear hb5 hb6))
        go_wp2_with fail
        go_roundw
        case rel => exact ⟨i + 1, by omega, by go_num, HB.out.trans ((HB4.out.trans (HB6.out.mono HB4.out.size)).mono HB.out.size)⟩
        case measure => simp [intOf]; omega
      · have h1 : decide (i < ts.length) = false := decide_eq_false hlt
        clear hb
        go_wp2
        go_ret
        exact ⟨rfl, HB3.out.trans (HB.out.mono HB3.out.size)⟩
end Go.Proofs.YtpoibdhhcbelnaaGreatDoor
