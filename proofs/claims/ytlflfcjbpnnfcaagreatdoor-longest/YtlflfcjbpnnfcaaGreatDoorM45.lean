/- Walks and plain laws, some texts in one. -/
import Derived.Lib.OthersKept
import Derived.WalkSmall
import Derived.Test.YtlflfcjbpnnfcaaGreatDoorM44
import Derived.Test.YtlflfcjbpnnfcaaGreatDoorM29
/- Places in runes turned into places in bytes: a walk. -/
namespace Go.Proofs.YtlflfcjbpnnfcaaGreatDoor
open Go.Shelf Go.RowKit Go.Lib Brm

/-- A place in runes as one in bytes; -1 stays. -/
def toB (bs : List UInt8) (v : Int) : Int := if 0 ≤ v then (posOf v.toNat bs : Int) else v
def bkL (bs : List UInt8) (got : List Int) (k : Nat) : List Int := (got.take k).map (toB bs) ++ got.drop k
theorem bkL_len (bs : List UInt8) (got : List Int) (k : Nat) : (bkL bs got k).length = got.length := by simp [bkL]; omega
theorem bkL_get (bs : List UInt8) (got : List Int) (k q : Nat) (hk : k ≤ got.length) : (bkL bs got k)[q]? = if q < k then (got[q]?).map (toB bs) else got[q]? := by
  unfold bkL
  by_cases h : q < k
  · rw [if_pos h, List.getElem?_append_left (by simp; omega), List.getElem?_map, List.getElem?_take, if_pos h]
  · rw [if_neg h, List.getElem?_append_right (by simp; omega), List.getElem?_drop]
    congr 1
    simp
    omega
theorem bkL_at {bs : List UInt8} {got : List Int} {k : Nat} (h : k < got.length) : (bkL bs got k)[k]? = some got[k] := by
  rw [bkL_get bs got k k (Nat.le_of_lt h), if_neg (Nat.lt_irrefl _)]
  exact List.getElem?_eq_getElem h
theorem bkL_set {bs : List UInt8} {got : List Int} {k : Nat} (h : k < got.length) : (bkL bs got k).set k (toB bs got[k]) = bkL bs got (k + 1) := by
  apply List.ext_getElem?
  intro q
  rw [bkL_get bs got (k + 1) q h]
  by_cases e : q = k
  · subst e
    rw [List.getElem?_set_self (by rw [bkL_len]; exact h), if_pos (by omega), List.getElem?_eq_getElem h]
    rfl
  · rw [List.getElem?_set_ne (by omega), bkL_get bs got k q (Nat.le_of_lt h)]
    by_cases h1 : q < k
    · rw [if_pos h1, if_pos (by omega)]
    · rw [if_neg h1, if_neg (by omega)]
theorem bkL_skip {bs : List UInt8} {got : List Int} {k : Nat} (h : k < got.length) (hv : toB bs got[k] = got[k]) : bkL bs got k = bkL bs got (k + 1) := by
  rw [← bkL_set h, hv]
  apply List.ext_getElem?
  intro q
  by_cases e : q = k
  · subst e
    rw [List.getElem?_set_self (by rw [bkL_len]; exact h), bkL_at h]
  · rw [List.getElem?_set_ne (by omega)]
theorem pos_lt {bs : List UInt8} {l : List Int} (h : Runes bs l) {k : Nat} (hk : k < l.length) : posOf k bs < bs.length := by
  obtain ⟨h1, h2⟩ := Brm.runes_drop h k (Nat.le_of_lt hk)
  apply Nat.lt_of_not_le
  intro hle
  have hd : bs.drop (posOf k bs) = [] := List.drop_eq_nil_iff.2 hle
  rw [hd] at h1
  generalize he : l.drop k = r at h1
  cases h1 with
  | nil => have := List.drop_eq_nil_iff.1 he; omega
  | cons hne _ _ _ => exact hne rfl
theorem own_row3 {w : World} {B n : Nat} {v : Value} {xs : List Value} (h : w.ownsRow B 3 1 v n xs) (hn : 0 < n) : ∃ b cap, v = .slice (some ⟨b, 0, none⟩) n cap ∧ B ≤ b ∧ b < w.heap.size ∧ ∀ i u, xs[i]? = some u → w.cell? ⟨b, i, none⟩ = some u := by
  rcases h.2 with ⟨_, h0⟩ | ⟨b, cap, cur, rfl, hg, hh, hr⟩
  · omega
  · refine ⟨b, cap, rfl, (h.lt b rfl).1, (h.lt b rfl).2, fun i u hi => ?_⟩
    have := h.cells rfl i u hi
    rw [Addr.add_lit] at this; simpa using this
/-- The places where runes begin, in memory. -/
def BegI (w : World) (s : ByteArray) (k : Nat) (v : Value) (wr : World) : Prop := wr.ownsRow (w.heap.size + 1) 3 1 v k (ints (posns (bytesOf s) k)) ∧ wr.heap[w.heap.size]? = some (.stringIter s (posOf k (bytesOf s))) ∧ Below w.heap.size w wr ∧ w.heap.size + 1 ≤ wr.heap.size
set_option maxRecDepth 100000 in
set_option maxHeartbeats 4000000 in
theorem tobytes_any (s : ByteArray) (l got : List Int) (gb : Nat) (w : World) (hr : Runes (bytesOf s) l) (hl : l.length ≤ 40) (hb : Blk w gb (gInts got) 3) (hg : ∀ v ∈ got, v = -1 ∨ ∃ u : Nat, v = (u : Int) ∧ u ≤ l.length) (hlen : got.length ≤ 100000) :
    Calls Tryz.prog 53 #[.slice (some ⟨gb, 0, none⟩) got.length got.length, .string s] w fun e w' => e = .returned (.tuple #[]) ∧ KR (fun k => k = gb) w w' ∧ Blk w' gb (gInts (got.map (toB (bytesOf s)))) 3 := by
  have HR := hide hr
  have HB := hide hb
  have HGG := hide hg
  have hgl := hb.lt
  have HLB : Hid ((bytesOf s).length = s.size) := bytes_len s
  have HSTART : Hid (BegI w s 0 (.slice none 0 0) (w.iter s 0)) := ⟨⟨rfl, .inl ⟨rfl, rfl⟩⟩, World.iter_heap w s 0, (Below.refl _ w).alloc (Nat.le_refl _) _, by simp [World.iter]⟩
  clear hr hb hg
  go_enter Tryz.func53, Tryz.ntmps53
  go_wp2_with fail
  go_loopg [4] l.length (fun j v wr => ∃ k, k + j = l.length ∧ BegI w s k v wr)
  case atStart => exact ⟨0, by omega, HSTART.out⟩
  case round =>
    obtain ⟨k, hkj, hown, hit, hbel, hs1⟩ := hrel
    by_cases hlt : k < l.length
    · have hp : posOf k (bytesOf s) < s.size := by rw [← HLB.out]; exact pos_lt HR.out hlt
      have hnx : ∀ ty, (Instr.next (.pointer (some ⟨w.heap.size, 0, none⟩)) true ty).run Tryz.prog wr = _ := fun ty => Lib.run_next_any_at wr w.heap.size s (posOf k (bytesOf s)) ty hit hp
      simp only [decode_drop, ← posOf_succ] at hnx
      have HO1 := hide (ownsRow_iterAt hown (k := w.heap.size) (by omega) s (posOf (k + 1) (bytesOf s)))
      have HIT1 := hide (Lib.iterAt_heap wr w.heap.size s _ (posOf (k + 1) (bytesOf s)) hit)
      have HB1 := hide (Lib.below_iterAt hbel (Nat.le_refl _) s (posOf (k + 1) (bytesOf s)))
      have hs2 : w.heap.size + 1 ≤ (wr.iterAt w.heap.size s (posOf (k + 1) (bytesOf s))).heap.size := by rw [Lib.iterAt_size]; exact hs1
      generalize wr.iterAt w.heap.size s (posOf (k + 1) (bytesOf s)) = W1 at hnx HO1 HIT1 HB1 hs2
      have HPS : Hid (ints (posns (bytesOf s) k) ++ [.int .i64 (posOf k (bytesOf s))] = ints (posns (bytesOf s) (k + 1))) := by show _ = _; rw [posns_succ]; simp [ints]
      generalize hpp : posOf k (bytesOf s) = p at hnx HPS hp hit
      generalize (decL (List.drop p (bytesOf s))).1 = d at hnx
      have hkk : k ≤ 1000 := by omega
      clear hown hit hbel hs1 hpp
      go_wp2_with (at_builtin; refine append_int rfl (.tmp 13) (.tmp 15) rfl (w.heap.size + 1) k _ _ rfl (HO1.out.alloc _) ⟨W1.heap.size, 0, none⟩ [.int .i64 p] rfl rfl (int_new _ _) (int_one _) (by omega) (by simp; omega) ?_; intro v1 w1 ho1 hg1 hl1; have H1 := hide ho1; have G1 := hide hg1; clear ho1 hg1 hl1)
      go_roundg (gk - 1)
      case measure => omega
      case rel =>
        refine ⟨k + 1, by omega, by rw [← HPS.out]; exact H1.out, ?_, (HB1.out.alloc (by omega) _).grown G1.out (by simp; omega) (fun q e => by have := (HO1.out.lt q e).1; omega), ?_⟩
        · rw [G1.out.block w.heap.size (by simp; omega) (fun e => by have := (HO1.out.lt _ e.symm).1; omega)]
          exact (Below.heap_alloc _ _ _ (by omega)).trans HIT1.out
        · have := G1.out.size
          simp at this; omega
    · have hke : k = l.length := by omega
      have hpe : posOf k (bytesOf s) = s.size := by rw [hke, posOf_all HR.out, HLB.out]
      have hnx : ∀ ty, (Instr.next (.pointer (some ⟨w.heap.size, 0, none⟩)) true ty).run Tryz.prog wr = _ := fun ty => Lib.run_next_end_at wr w.heap.size s (posOf k (bytesOf s)) ty hit (by omega)
      have HO1 := hide hown
      have HB1 := hide hbel
      have hkk : k ≤ 1000 := by omega
      have HPS : Hid (ints (posns (bytesOf s) k) ++ [.int .i64 (s.size : Int)] = ints (posns (bytesOf s) (k + 1))) := by show _ = _; rw [posns_succ, hpe]; simp [ints]
      clear hown hit hbel hpe
      go_wp2_with (at_builtin; refine append_int rfl (.tmp 17) (.tmp 20) rfl (w.heap.size + 1) k _ _ rfl (HO1.out.alloc _) ⟨wr.heap.size, 0, none⟩ [.int .i64 s.size] rfl rfl (int_new _ _) (int_one _) (by omega) (by simp; omega) ?_; intro v1 w1 ho1 hg1 hl1; rw [HPS.out] at ho1; obtain ⟨b, cap, rfl, hb1, hb2, hcells⟩ := own_row3 ho1 (by omega); have HC1 := hide hcells; have G1 := hide hg1; clear ho1 hg1 hl1 hcells)
      have hbel1 : Below w.heap.size w w1 := (HB1.out.alloc (by omega) _).grown G1.out (by simp; omega) (fun q e => by have := (HO1.out.lt q e).1; omega)
      have HBB := hide (HB.out.below hbel1)
      have HK1 : Hid (KR (fun k => k = gb) w w1) := KR.below hbel1
      have HCP : Hid (∀ u : Nat, u ≤ l.length → w1.cell? ⟨b, u, none⟩ = some (.int .i64 (posOf u (bytesOf s) : Int))) := fun u hu => HC1.out u _ (by simp [ints, posns, show u < k + 1 by omega])
      have HNE : Hid (b ≠ gb) := by show _ ≠ _; omega
      clear hbel1 HC1 G1 HO1 HB1 hnx
      go_loopw [24] (fun ix wr => ∃ q : Nat, q ≤ got.length ∧ ix = .int .i64 q ∧ KR (fun k => k = gb) w1 wr ∧ Blk wr gb (gInts (bkL (bytesOf s) got q)) 3) (fun ix _ => got.length - (intOf ix).toNat)
      case atStart => exact ⟨0, Nat.zero_le _, rfl, KR.refl _ _, by simpa [bkL] using HBB.out⟩
      case round =>
        obtain ⟨q, hq, rfl, hK, hB⟩ := hrel
        have q0 : (0 : Int) ≤ (q : Int) := Int.natCast_nonneg _
        by_cases hlq : q < got.length
        · have q1 : (q : Int) < (got.length : Int) := by omega
          have x0 : wr.cell? ⟨gb, q, none⟩ = some (.int .i64 got[q]) := by rw [hB.cell]; exact gInts_at (bkL_at hlq)
          have x1 := hB.frozen q
          have x2 := hB.lt
          have HKr := hide hK
          have HBr := hide hB
          rcases HGG.out got[q] (List.getElem_mem hlq) with hv | ⟨u, hv, hu⟩
          · have HT : Hid (bkL (bytesOf s) got q = bkL (bytesOf s) got (q + 1)) := bkL_skip hlq (by rw [hv]; rfl)
            rw [hv] at x0
            clear hK hB hv
            go_wp2_with fail
            go_roundw
            case rel => exact ⟨q + 1, by omega, by go_num, HKr.out, by rw [← HT.out]; exact HBr.out⟩
            case measure => simp [intOf]; omega
          · have HT : Hid ((bkL (bytesOf s) got q).set q (posOf u (bytesOf s) : Int) = bkL (bytesOf s) got (q + 1)) := by
              show _ = _
              rw [← bkL_set hlq, hv]
              simp [toB]
            rw [hv] at x0
            have u0 : (0 : Int) ≤ (u : Int) := Int.natCast_nonneg _
            have u1 : (u : Int) < ((k : Int) + 1) := by omega
            have hb3 : b < wr.heap.size := Nat.lt_of_lt_of_le hb2 hK.size
            have x3 : wr.cell? ⟨b, u, none⟩ = some (.int .i64 (posOf u (bytesOf s) : Int)) := (hK.cell (p := ⟨b, u, none⟩) hb2 HNE.out).trans (HCP.out u hu)
            generalize posOf u (bytesOf s) = P at x3 HT
            clear hK hB hv
            go_wp2_with fail
            go_roundw
            case rel => exact ⟨q + 1, by omega, by go_num, HKr.out.set (p := ⟨gb, q, none⟩) rfl _, by rw [← HT.out, gInts_set]; exact HBr.out.set q _⟩
            case measure => simp [intOf]; omega
        · have hqe : q = got.length := by omega
          have q1 : decide (q < got.length) = false := decide_eq_false hlq
          have HT : Hid (bkL (bytesOf s) got q = got.map (toB (bytesOf s))) := by show _ = _; rw [hqe]; simp [bkL]
          have HKr := hide (HK1.out.trans hK)
          have HBr := hide hB
          clear hK hB hqe
          go_wp2_with fail
          go_end0
          exact ⟨rfl, HKr.out, by rw [← HT.out]; exact HBr.out⟩
end Go.Proofs.YtlflfcjbpnnfcaaGreatDoor
/- The program's Groups: a walk. -/
namespace Go.Proofs.YtlflfcjbpnnfcaaGreatDoor
open Go.Shelf Go.RowKit Go.Lib Brm

theorem prok_none (n m : Nat) : PrOk n (List.replicate m (-1)) := fun q hq => .inl ⟨by rw [List.length_replicate] at hq; rw [List.getElem?_replicate, if_pos (by omega)], by rw [List.length_replicate] at hq; rw [List.getElem?_replicate, if_pos hq]⟩
theorem prok_mem {n k : Nat} {a : List Int} (h : PrOk n a) (hl : a.length = 2 * k) : ∀ v ∈ a, v = -1 ∨ ∃ u : Nat, v = (u : Int) ∧ u ≤ n := by
  intro v hv
  obtain ⟨i, hi, rfl⟩ := List.getElem_of_mem hv
  have hi2 := List.getElem?_eq_getElem hi
  rcases Nat.mod_two_eq_zero_or_one i with h0 | h0
  · have e : i = 2 * (i / 2) := by omega
    rcases h (i / 2) (by omega) with ⟨h1, _⟩ | ⟨u, v, h1, h2, h3, _⟩
    · rw [← e, hi2] at h1; simp at h1; exact .inl h1
    · rw [← e, hi2] at h3; simp at h3; exact .inr ⟨u, h3, by omega⟩
  · have e : i = 2 * (i / 2) + 1 := by omega
    rcases h (i / 2) (by omega) with ⟨_, h1⟩ | ⟨u, v, h1, h2, _, h3⟩
    · rw [← e, hi2] at h1; simp at h1; exact .inl h1
    · rw [← e, hi2] at h3; simp at h3; exact .inr ⟨v, h3, by omega⟩
/-- What Groups answers. -/
def GrpA (p : Pat) (bs : List UInt8) (w : World) (e : Ending) (w' : World) : Prop := ∃ er ol, TextR bs er ol ∧ match ol with
  | none => e = .returned (.tuple #[.slice none 0 0, .int .i64 er])
  | some l => (mT p l 0 l.length = false ∧ e = .returned (.tuple #[.slice none 0 0, .int .i64 8])) ∨
      (mT p l 0 l.length = true ∧ ∃ gb got, e = .returned (.tuple #[.slice (some ⟨gb, 0, none⟩) got.length got.length, .int .i64 0]) ∧ w.heap.size ≤ gb ∧ Blk w' gb (gInts (got.map (toB bs))) 3 ∧ got.length = 2 * p.groups ∧ Tk l p 0 0 l.length (List.replicate (2 * p.groups) (-1)) got)
set_option maxRecDepth 100000 in
set_option maxHeartbeats 4000000 in
theorem rxgroups_any (p : Pat) (hok : p.Ok) (hcl : Cl p) (bx : Nat) (s : ByteArray) (w : World) (A : Nat → Prop) (hX : RX w A p bx) (hT : MTab w) (hm : s.size ≤ 9223372036854775807) : Calls Tryz.prog 24 #[.pointer (some ⟨bx, 0, none⟩), .string s] w fun e w' => Below w.heap.size w w' ∧ GrpA p (bytesOf s) w e w' := by
  have HC := hide (textErr_any s w hT hm)
  have HX := hide hX
  have HT := hide hT
  have H3 := hide (rx_has hX hcl hok (K := 3) (.inl rfl))
  have H4 := hide (rx_has hX hcl hok (K := 4) (.inr rfl))
  clear hX hT hm hcl
  go_enter Tryz.func24, Tryz.ntmps24
  go_wp2_with fail
  refine HC.out.mono ?_
  rintro e w1 ⟨hb1, er, ol, rfl, htr⟩
  have HB1 := hide hb1
  have HTR := hide htr
  cases ol with
  | none =>
    have hne : (er == 0) = false := beq_eq_false_iff_ne.2 (textR_none htr)
    clear htr hb1
    go_wp2
    refine bodyPost_ret (v := .tuple #[.slice none 0 0, .int .i64 er]) (by simp [results, Tryz.results24, go_sem]) rfl ?_
    exact ⟨HB1.out, er, none, HTR.out, rfl⟩
  | some l =>
    have e0 := textR_some htr
    subst e0
    obtain ⟨h40, hru⟩ : l.length ≤ 40 ∧ Runes (bytesOf s) l := by
      rcases htr with ⟨_, _, h⟩ | ⟨_, _, _, h⟩ | ⟨h1, l', h2, _, h⟩
      · cases h
      · cases h
      · cases h; exact ⟨Nat.le_trans (runes_len h2) h1, h2⟩
    have HRU := hide hru
    clear htr hru hb1 HC
    go_wp2_with fail
    refine (H3.out _ HB1.out).mono ?_
    rintro e w2 ⟨rfl, hb2⟩
    have HB2 := hide (HB1.out.trans (hb2.mono HB1.out.size))
    clear hb2
    go_wp2_with fail
    refine (H4.out _ HB2.out).mono ?_
    rintro e w3 ⟨rfl, hb3⟩
    have HB3 := hide (HB2.out.trans (hb3.mono HB2.out.size))
    clear hb3
    obtain ⟨rc, W2, hconv, hra, hb4⟩ := conv_any s w3 HRU.out h40
    obtain ⟨_, v0, v1, v2, v3, v4, bp, x, hx, _, _, _, hpk⟩ := HX.out.below HB3.out
    have c5 : w3.cell? ⟨bx, 5, none⟩ = some (.pointer (some ⟨bp, 0, none⟩)) := by rw [hx.cell]; rfl
    have HM := hide (groups_any p hok W2 _ bp l (some ⟨w3.heap.size, 0, none⟩) rc (hpk.keep (Keeps.below hb4)) h40 (runes_all HRU.out) ((HT.out.below HB3.out).below hb4).2 hra)
    have HB4 := hide (HB3.out.trans (hb4.mono HB3.out.size))
    clear hra hb4 hx hpk
    unfold GrpR at HM
    go_wp2_with fail
    refine HM.out.mono ?_
    rintro e w5 ⟨hb5, ⟨hmf, rfl⟩ | ⟨hmt, gb, got, rfl, hgb, hblk, hlen, htk⟩⟩
    · have HB5 := hide (HB4.out.trans (hb5.mono HB4.out.size))
      have HMF := hide hmf
      clear hb5 hmf
      go_wp2_with fail
      refine bodyPost_ret (v := .tuple #[.slice none 0 0, .int .i64 8]) (by simp [results, Tryz.results24, go_sem]) rfl ?_
      exact ⟨HB5.out, 0, some l, HTR.out, .inl ⟨HMF.out, rfl⟩⟩
    · have HB5 := hide (HB4.out.trans (hb5.mono HB4.out.size))
      have HMT := hide hmt
      have HTK := hide htk
      have HLEN := hide hlen
      have HGB : Hid (w.heap.size ≤ gb) := Nat.le_trans HB4.out.size hgb
      have hstd := tk_std l p 0 0 l.length _ got (Nat.zero_le _) (Nat.le_refl _) htk
      have hpr := prok_mem (hstd.2 (prok_none _ _)) hlen
      have HTB := hide (tobytes_any s l got gb w5 HRU.out h40 hblk hpr (by have := HX.out; obtain ⟨_, _, _, _, _, _, _, _, _, _, _, _, _, _, _, _, _, _, _, _, h9⟩ := this; omega))
      clear hb5 hmt htk hlen hblk hgb hstd hpr
      go_wp2_with fail
      refine HTB.out.mono ?_
      rintro e w6 ⟨rfl, hK6, hB6⟩
      have HB6 := hide (Below.ofKR HB5.out hK6 (fun g e => by rw [e]; exact HGB.out) HB5.out.size)
      have HBLK := hide hB6
      clear hK6 hB6 HTB
      go_wp2_with fail
      refine bodyPost_ret (v := .tuple #[.slice (some ⟨gb, 0, none⟩) got.length got.length, .int .i64 0]) (by simp [results, Tryz.results24, go_sem]) rfl ?_
      exact ⟨HB6.out, 0, some l, HTR.out, .inr ⟨HMT.out, gb, got, rfl, HGB.out, HBLK.out, HLEN.out, HTK.out⟩⟩
end Go.Proofs.YtlflfcjbpnnfcaaGreatDoor
