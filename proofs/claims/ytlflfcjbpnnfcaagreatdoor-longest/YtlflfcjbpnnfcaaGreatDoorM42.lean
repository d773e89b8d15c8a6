/- Walks and plain laws, some texts in one. -/
import Derived.Test.YtlflfcjbpnnfcaaGreatDoorM38
import Derived.Test.YtlflfcjbpnnfcaaGreatDoorM39
import Derived.Test.YtlflfcjbpnnfcaaGreatDoorM41
/- The program's Differ at a letter's star; what the law's helpers read: walks. -/
namespace Go.Proofs.YtlflfcjbpnnfcaaGreatDoor
open Go.Shelf Go.RowKit Go.Lib Brm

theorem whole_read {k : Nat} {bs : List UInt8} {p : Pat} (h : Whole k bs p) (hk : k ≤ 8) (hl : bs.length ≤ 60) : ReadR bs (0, 0, some p) := by
  obtain ⟨l, h1, h2, h3⟩ := h
  refine .inr (.inr ⟨hl, l, h1, ?_⟩)
  unfold outcome
  rw [h2.top]
  simp only
  rw [if_neg (by omega)]
def starIn : List UInt8 := [97, 42]
def starOne : Pat := .or [.and [.row [.many (.set [(97, 97)]) 0 (-1)]]]
theorem star_read : ReadR starIn (0, 0, some starOne) := .inr (.inr ⟨by decide, _, ascii_runes starIn (by decide), by kernel_rfl⟩)
theorem star_aaa : matchB starOne (some [97, 97, 97]) = true := mT_iff.2 ⟨Nat.zero_le _, by
  rw [sub_all]
  exact .inl ⟨⟨[97, 97, 97], [], rfl, ⟨3, by decide, .inl (by decide), [97], [97, 97], rfl, chr_one 97, [97], [97], rfl, chr_one 97, [97], [], rfl, chr_one 97, rfl⟩, rfl⟩, trivial⟩⟩
theorem star_ab : matchB starOne (some [97, 98]) = false := by
  apply Bool.eq_false_iff.2
  intro h
  have h := (mT_iff.1 h).2
  rw [sub_all] at h
  rcases h with ⟨⟨a, b, e, ⟨r, _, _, hr⟩, hb⟩, _⟩ | h
  · rw [show b = [] from hb, List.append_nil] at e
    subst e
    match r, hr with
    | 0, hr => cases hr
    | 1, ⟨a, b, e, ha, hb⟩ => rw [show b = [] from hb, chr_is ha] at e; simp at e
    | r + 2, ⟨a, b, e, ha, c, d, e2, hc, _⟩ => rw [chr_is ha] at e; rw [e2, chr_is hc] at e; simp at e
  · exact h
theorem text_aaa : TextR [97, 97, 97] 0 (some [97, 97, 97]) := .inr (.inr ⟨by decide, _, ascii_runes [97, 97, 97] (by decide), rfl, rfl⟩)
theorem text_ab : TextR [97, 98] 0 (some [97, 98]) := .inr (.inr ⟨by decide, _, ascii_runes [97, 98] (by decide), rfl, rfl⟩)
theorem own_oneP {w : World} {A : Nat → Prop} {lv : Value} {x : Nat} (h : Own w A 65 1 lv 1 [Ptr x]) : ∃ b c, lv = .slice (some ⟨b, 0, none⟩) 1 c ∧ b < w.heap.size ∧ w.cell? ⟨b, 0, none⟩ = some (Ptr x) := by
  obtain ⟨⟨_, h⟩, _⟩ := h
  rcases h with ⟨_, h⟩ | ⟨g, cap, cur, rfl, _, hg, _, _, hsz, ht⟩
  · cases h
  · refine ⟨g, cap, rfl, (Array.getElem?_eq_some_iff.1 hg).1, ?_⟩
    rcases cur with ⟨cur⟩
    rcases cur with _ | ⟨c, cur⟩
    · simp at ht
    · simp at ht
      subst ht
      simp [World.cell?, hg]
theorem star_rx {w : World} {A : Nat → Prop} {bx : Nat} (h : RX w A starOne bx) : ∃ xm xs b1 c1 b2 c2 la lc, StarN w bx xm xs b1 c1 b2 c2 la lc := by
  obtain ⟨_, v0, v1, v2, v3, v4, bp, x, hb, ⟨_, hx⟩, hp, _⟩ := h
  obtain ⟨_, xs, ⟨x1, r1, rfl, h1, rfl⟩, h2⟩ := hp
  rcases h2 with ⟨_, h2⟩ | ⟨h2, _⟩
  · cases h2
    obtain ⟨_, ys, ⟨y1, s1, rfl, h3, rfl⟩, h4⟩ := h1
    rcases h4 with ⟨_, h4⟩ | ⟨h4, _⟩
    · cases h4
      obtain ⟨_, _, lv, zs, hb1, ho1, ⟨xm, t1, rfl, ⟨_, lv2, xs, hb2, ho2, ⟨_, sv, hb3, hs⟩⟩, rfl⟩⟩ := h3
      obtain ⟨b1, c1, rfl, l1, p1⟩ := own_oneP ho1
      obtain ⟨b2, c2, rfl, l2, p2⟩ := own_oneP ho2
      rcases hs with ⟨_, hs⟩ | ⟨b3, o3, c3, rfl, _, _, _, hr⟩
      · cases hs
      · have he := Eq.trans (Eq.symm hx) hb1
        simp at he
        obtain ⟨rfl, rfl, rfl, rfl, rfl⟩ := he
        exact ⟨xm, xs, b1, c1, b2, c2, some ⟨b3, o3, none⟩, c3, ⟨_, hb⟩, p1, l1, hb2, p2, l2, hb3, hr⟩
    · simp at h4
  · simp at h2
set_option maxRecDepth 100000 in
set_option maxHeartbeats 4000000 in
theorem reach_two (w : World) : Calls Tryz.prog 42 #[.int .i64 2] w fun e w' => e = .returned (.bool true) ∧ w' = w := by
  go_enter Tryz.func42, Tryz.ntmps42
  go_wp2
  go_ret
  exact ⟨rfl, rfl⟩
set_option maxRecDepth 100000 in
set_option maxHeartbeats 4000000 in
theorem rxdiffer_star (w : World) (A : Nat → Prop) (bx : Nat) (hX : RX w A starOne bx) (hP : PowT w) (h7 : 7 ≤ w.heap.size) :
    Calls Tryz.prog 21 #[.pointer (some ⟨bx, 0, none⟩), .pointer (some ⟨bx, 0, none⟩), .int .i64 2] w fun e w' => e = .returned (.tuple #[.string ⟨#[]⟩, .bool false, .int .i64 0]) ∧ Below w.heap.size w w' := by
  obtain ⟨xm, xs, b1, c1, b2, c2, la, lc, hN⟩ := star_rx hX
  have HD : Hid (∀ w', Below w.heap.size w w' → Calls Tryz.prog 49 #[.pointer (some ⟨bx, 0, none⟩), .pointer (some ⟨bx, 0, none⟩), .int .i64 2] w' fun e w9 => e = .returned (.tuple #[.string ⟨#[]⟩, .bool false]) ∧ Below w.heap.size w w9) := fun w' hb =>
    (differ_self w' bx xm xs b1 c1 b2 c2 la lc (hN.below hb) (hP.below hb) (Nat.le_trans h7 hb.size)).mono (fun e w9 h => ⟨h.1, hb.trans (h.2.mono hb.size)⟩)
  have hbl : bx < w.heap.size := by obtain ⟨_, h⟩ := hN.row; exact h.lt
  clear hX hP hN
  go_enter Tryz.func21, Tryz.ntmps21
  go_wp2_with (go_at_call 42; refine (reach_two _).mono ?_; rintro e w' ⟨rfl, hw⟩; have hw8 := hw.symm; subst hw8; clear hw)
  go_region_held3 (fun w' => Below w.heap.size w w')
    (first | exact (Below.refl _ _).drew | exact HB5.out)
    ((go_at_call 49; refine (HD.out _ ‹Below w.heap.size w _›).mono ?_; rintro e w5 ⟨rfl, hb5⟩; have HB5 := hide hb5; clear hb5))
  all_goals go_wp2_with fail
  refine bodyPost_ret (v := .tuple #[.string ⟨#[]⟩, .bool false, .int .i64 0]) (by simp [results, Tryz.results21, go_sem]) rfl ?_
  exact ⟨rfl, HB5.out⟩
end Go.Proofs.YtlflfcjbpnnfcaaGreatDoor
/- The law's helpers: what is made of a pattern, and whether it matches: walks. -/
namespace Go.Proofs.YtlflfcjbpnnfcaaGreatDoor
open Go.Shelf Go.RowKit Go.Lib Brm

/-- All tables. -/
def ATab (w : World) : Prop := MTab w ∧ PowT w ∧ 7 ≤ w.heap.size
theorem ATab.below {w w' : World} (h : ATab w) (k : Below w.heap.size w w') : ATab w' := ⟨h.1.below k, h.2.1.below k, Nat.le_trans h.2.2 k.size⟩
set_option maxRecDepth 100000 in
set_option maxHeartbeats 4000000 in
theorem kmade_walk (s : ByteArray) (w : World) (p : Pat) (hT : ATab w) (hm : s.size ≤ 9223372036854775807) (hp : ReadR (bytesOf s) (0, 0, some p)) : Calls Tryz.prog 30 #[.string s] w fun e w' => Below w.heap.size w w' ∧ ∃ bx, e = .returned (.pointer (some ⟨bx, 0, none⟩)) ∧ RX w' (New w) p bx := by
  have HR := hide (rxnew_any s w hT.1 hm)
  have HT := hide hT
  clear hT hm
  go_enter Tryz.func30, Tryz.ntmps30
  go_wp2_with fail
  refine HR.out.mono ?_
  rintro e w1 ⟨hb1, nv, er, place, op, hr, rfl, hop⟩
  have hu := readR_unique hp hr
  simp only [Prod.mk.injEq] at hu
  obtain ⟨rfl, rfl, rfl⟩ := hu
  obtain ⟨bx, rfl, hX⟩ := hop
  have HT1 := hide (HT.out.below hb1)
  have HB1 := hide hb1
  have HX := hide hX
  have HR2 := hide (rxnew_any ⟨#[97, 42]⟩ w1 (HT.out.below hb1).1 (by decide))
  clear hb1 hr hX HR hp
  go_wp2_with fail
  refine HR2.out.mono ?_
  rintro e w2 ⟨hb2, nv, er, place, op, hr, rfl, hop⟩
  have hu := readR_unique star_read (show ReadR starIn (er, place, op) from hr)
  simp only [Prod.mk.injEq] at hu
  obtain ⟨rfl, rfl, rfl⟩ := hu
  obtain ⟨by2, rfl, hY⟩ := hop
  have hok := (readR_some star_read).2.2.1
  have HT2 := hide (HT1.out.below hb2)
  have HB2 := hide hb2
  have HY2 := hide hY
  have HD := hide (rxdiffer_star w2 _ by2 hY HT2.out.2.1 HT2.out.2.2)
  have HM1 := hide (fun (w' : World) (hb : Below w2.heap.size w2 w') => rxmatch_any starOne hok by2 ⟨#[97, 97, 97]⟩ w' _ (hY.below hb) (HT2.out.below hb).1 (by decide))
  have HM2 := hide (fun (w' : World) (hb : Below w2.heap.size w2 w') => rxmatch_any starOne hok by2 ⟨#[97, 98]⟩ w' _ (hY.below hb) (HT2.out.below hb).1 (by decide))
  clear hb2 hr hY hok HR2
  go_wp2_with fail
  refine HD.out.mono ?_
  rintro e w3 ⟨rfl, hb3⟩
  have HB3 := hide hb3
  clear hb3 HD
  go_wp2_with fail
  refine (HM1.out _ HB3.out).mono ?_
  rintro e w4 ⟨hb4, er2, ol2, rfl, ht2⟩
  obtain ⟨rfl, rfl⟩ := textR_unique text_aaa (show TextR [97, 97, 97] er2 ol2 from ht2)
  rw [star_aaa]
  have HB4 := hide (HB3.out.trans (hb4.mono HB3.out.size))
  clear hb4 ht2 HM1
  go_wp2_with fail
  refine (HM2.out _ HB4.out).mono ?_
  rintro e w5 ⟨hb5, er3, ol3, rfl, ht3⟩
  obtain ⟨rfl, rfl⟩ := textR_unique text_ab (show TextR [97, 98] er3 ol3 from ht3)
  rw [star_ab]
  have HB5 := hide (HB4.out.trans (hb5.mono HB4.out.size))
  clear hb5 ht3 HM2
  go_wp2_with fail
  go_ret
  have hb15 := HB2.out.trans (HB5.out.mono HB2.out.size)
  exact ⟨HB1.out.trans (hb15.mono HB1.out.size), bx, rfl, HX.out.below hb15⟩
set_option maxRecDepth 100000 in
set_option maxHeartbeats 4000000 in
theorem is_walk (s t : ByteArray) (w : World) (p : Pat) (hT : ATab w) (hp : ReadR (bytesOf s) (0, 0, some p)) (hm : s.size ≤ 60) (ht : t.size ≤ 40) : Calls Tryz.prog 29 #[.string s, .string t] w fun e w' => Below w.heap.size w w' ∧ ∃ v, e = .returned (.int .i64 v) ∧ IsV p (bytesOf t) v := by
  have HC := hide (kmade_walk s w p hT (by omega) hp)
  have HT := hide hT
  have HOK := hide (readR_some hp).2.2.1
  have HL : Hid ((bytesOf t).length ≤ 40) := by show _ ≤ _; rw [bytes_len]; exact ht
  have HTM : Hid (t.size ≤ 9223372036854775807) := by show _ ≤ _; omega
  clear hT hp hm ht
  go_enter Tryz.func29, Tryz.ntmps29
  go_wp2_with fail
  refine HC.out.mono ?_
  rintro e w1 ⟨hb1, bx, rfl, hX⟩
  have HB1 := hide hb1
  have HM := hide (rxmatch_any p HOK.out bx t w1 _ hX (HT.out.below hb1).1 HTM.out)
  clear hb1 hX HC
  go_wp2_with fail
  refine HM.out.mono ?_
  rintro e w2 ⟨hb2, er, ol, rfl, htr⟩
  have HB2 := hide (HB1.out.trans (hb2.mono HB1.out.size))
  clear hb2 HM
  rcases htr with ⟨h40, _, _⟩ | ⟨_, ⟨k, hk⟩, rfl, rfl⟩ | ⟨_, l, hl, rfl, rfl⟩
  · exact absurd HL.out (by omega)
  · have HK := hide hk
    clear hk
    go_wp2_with fail
    go_ret
    have hno : ¬ ∃ l, Runes (bytesOf t) l := fun ⟨l, h⟩ => runes_not_broken h k HK.out
    exact ⟨HB2.out, 2, rfl, .inr (.inr ⟨fun ⟨l, h, _⟩ => hno ⟨l, h⟩, rfl, hno⟩)⟩
  · have HR := hide hl
    clear hl
    rcases hmb : matchB p (some l) with _ | _
    · have HNO : Hid (¬ p.Mt l) := fun h => by
        have h9 : matchB p (some l) = true := mT_iff.2 ⟨Nat.zero_le _, by rw [sub_all]; exact h⟩
        rw [hmb] at h9; cases h9
      clear hmb
      go_wp2_with fail
      go_ret
      exact ⟨HB2.out, 0, rfl, .inr (.inl ⟨fun ⟨l', h, h'⟩ => HNO.out (by rw [runes_unique HR.out h] at h'; exact h'), ⟨l, HR.out⟩, rfl⟩)⟩
    · have HY : Hid (p.Mt l) := by have h9 := (mT_iff.1 (show mT p l 0 l.length = true from hmb)).2; rw [sub_all] at h9; exact h9
      clear hmb
      go_wp2_with fail
      go_ret
      exact ⟨HB2.out, 1, rfl, .inl ⟨⟨l, HR.out, HY.out⟩, rfl⟩⟩
end Go.Proofs.YtlflfcjbpnnfcaaGreatDoor
/- The law Logic: plain facts, and what each call says. -/
namespace Go.Proofs.YtlflfcjbpnnfcaaGreatDoor
open Go.Shelf Go.RowKit Go.Lib Brm

def Bt (P : Prop) (v : Int) : Prop := (P ∧ v = 1) ∨ (¬ P ∧ v = 0)
/-- A call of 'is' whose pattern is known. -/
def IsC (w : World) (s t : ByteArray) (P : Int → Prop) : Prop := ∀ w', Below w.heap.size w w' → Calls Tryz.prog 29 #[.string s, .string t] w' fun e w9 => Below w.heap.size w w9 ∧ ∃ v, e = .returned (.int .i64 v) ∧ P v
theorem is_of {w : World} {s t : ByteArray} {k : Nat} {p : Pat} (hT : ATab w) (h : Whole k (bytesOf s) p) (hk : k ≤ 8) (hs : s.size ≤ 60) (ht : t.size ≤ 40) : IsC w s t (IsV p (bytesOf t)) := fun w' hb =>
  (is_walk s t w' p (hT.below hb) (whole_read h hk (by rw [bytes_len]; exact hs)) hs ht).mono (fun _ _ ⟨h1, h2⟩ => ⟨hb.trans (h1.mono hb.size), h2⟩)
section
variable {w : World} {s1 s2 t : ByteArray} {p q : Pat} {l : List Int} (hl : Runes (bytesOf t) l) (hT : ATab w) (h1 : Whole 2 (bytesOf s1) p) (h2 : Whole 2 (bytesOf s2) q) (z1 : s1.size ≤ 24) (z2 : s2.size ≤ 24) (zt : t.size ≤ 16)
include hl hT h1 z1 zt
include h2 z2
end
theorem bytes_take (t : ByteArray) (i : Nat) : bytesOf (t.extract 0 i) = (bytesOf t).take i := by
  unfold bytesOf
  simp [ByteArray.data_extract, Array.toList_extract]
theorem is_pre {w : World} {s t : ByteArray} {p : Pat} (hT : ATab w) (h : Whole 2 (bytesOf s) p) (hs : s.size ≤ 24) (ht : t.size ≤ 16) (i : Nat) : IsC w s (t.extract 0 i) (IsV p ((bytesOf t).take i)) := by
  rw [← bytes_take]
  exact is_of hT h (by decide) (by omega) (by rw [ByteArray.size_extract]; omega)
theorem is_suf {w : World} {s t : ByteArray} {p : Pat} (hT : ATab w) (h : Whole 2 (bytesOf s) p) (hs : s.size ≤ 24) (ht : t.size ≤ 16) (i : Nat) : IsC w s (t.extract i t.size) (IsV p ((bytesOf t).drop i)) := by
  rw [← bytes_drop]
  exact is_of hT h (by decide) (by omega) (by rw [ByteArray.size_extract]; omega)
end Go.Proofs.YtlflfcjbpnnfcaaGreatDoor
