/- Walks and plain laws, some texts in one. -/
import Derived.Test.YtpoibdhhcbelnaaGreatDoorM46
import Derived.Test.YtpoibdhhcbelnaaGreatDoorM20
import Derived.Test.YtpoibdhhcbelnaaGreatDoorM48
/- The program's Differ at a letter's star; what the law's helpers read: walks. -/
namespace Go.Proofs.YtpoibdhhcbelnaaGreatDoor
open Go.Shelf Go.RowKit Go.Lib Brm

theorem whole_read {k : Nat} {bs : List UInt8} {p : Pat} (h : Whole k bs p) (hk : k ≤ 8) (hl : bs.length ≤ 60) : ReadR bs (0, 0, some p) := by
  obtain ⟨l, h1, h2, h3⟩ := h
  refine .inr (.inr ⟨hl, l, h1, ?_⟩)
  unfold outcome
  rw [h2.top]
  simp only
  rw [if_neg (by omega)]
def starIn : List UInt8 := [97, 42]
def starOne : Pat := .or [.and [.row [.many (.set [(97, 97)]) 0 (-1)]]]
theorem star_read : ReadR starIn (0, 0, some starOne) := .inr (.inr ⟨by decide, _, ascii_runes starIn (by decide), by kernel_rfl⟩)
theorem star_aaa : matchB starOne (some [97, 97, 97]) = true := mT_iff.2 ⟨Nat.zero_le _, by
  rw [sub_all]
  exact .inl ⟨⟨[97, 97, 97], [], rfl, ⟨3, by decide, .inl (by decide), [97], [97, 97], rfl, chr_one 97, [97], [97], rfl, chr_one 97, [97], [], rfl, chr_one 97, rfl⟩, rfl⟩, trivial⟩⟩
theorem star_ab : matchB starOne (some [97, 98]) = false := by
  apply Bool.eq_false_iff.2
  intro h
  have h := (mT_iff.1 h).2
  rw [sub_all] at h
  rcases h with ⟨⟨a, b, e, ⟨r, _, _, hr⟩, hb⟩, _⟩ | h
  · rw [show b = [] from hb, List.append_nil] at e
    subst e
    match r, hr with
    | 0, hr => cases hr
    | 1, ⟨a, b, e, ha, hb⟩ => rw [show b = [] from hb, chr_is ha] at e; simp at e
    | r + 2, ⟨a, b, e, ha, c, d, e2, hc, _⟩ => rw [chr_is ha] at e; rw [e2, chr_is hc] at e; simp at e
  · exact h
theorem text_aaa : TextR [97, 97, 97] 0 (some [97, 97, 97]) := .inr (.inr ⟨by decide, _, ascii_runes [97, 97, 97] (by decide), rfl, rfl⟩)
theorem text_ab : TextR [97, 98] 0 (some [97, 98]) := .inr (.inr ⟨by decide, _, ascii_runes [97, 98] (by decide), rfl, rfl⟩)
theorem own_oneP {w : World} {A : Nat → Prop} {lv : Value} {x : Nat} (h : Own w A 65 1 lv 1 [Ptr x]) : ∃ b c, lv = .slice (some ⟨b, 0, none⟩) 1 c ∧ b < w.heap.size ∧ w.cell? ⟨b, 0, none⟩ = some (Ptr x) := by
  obtain ⟨⟨_, h⟩, _⟩ := h
  rcases h with ⟨_, h⟩ | ⟨g, cap, cur, rfl, _, hg, _, _, hsz, ht⟩
  · cases h
  · refine ⟨g, cap, rfl, (Array.getElem?_eq_some_iff.1 hg).1, ?_⟩
    rcases cur with ⟨cur⟩
    rcases cur with _ | ⟨c, cur⟩
    · simp at ht
    · simp at ht
      subst ht
      simp [World.cell?, hg]
theorem star_rx {w : World} {A : Nat → Prop} {bx : Nat} (h : RX w A starOne bx) : ∃ xm xs b1 c1 b2 c2 la lc, StarN w bx xm xs b1 c1 b2 c2 la lc := by
  obtain ⟨_, v0, v1, v2, v3, v4, bp, x, hb, ⟨_, hx⟩, hp, _⟩ := h
  obtain ⟨_, xs, ⟨x1, r1, rfl, h1, rfl⟩, h2⟩ := hp
  rcases h2 with ⟨_, h2⟩ | ⟨h2, _⟩
  · cases h2
    obtain ⟨_, ys, ⟨y1, s1, rfl, h3, rfl⟩, h4⟩ := h1
    rcases h4 with ⟨_, h4⟩ | ⟨h4, _⟩
    · cases h4
      obtain ⟨_, _, lv, zs, hb1, ho1, ⟨xm, t1, rfl, ⟨_, lv2, xs, hb2, ho2, ⟨_, sv, hb3, hs⟩⟩, rfl⟩⟩ := h3
      obtain ⟨b1, c1, rfl, l1, p1⟩ := own_oneP ho1
      obtain ⟨b2, c2, rfl, l2, p2⟩ := own_oneP ho2
      rcases hs with ⟨_, hs⟩ | ⟨b3, o3, c3, rfl, _, _, _, hr⟩
      · cases hs
      · have he := Eq.trans (Eq.symm hx) hb1
        simp at he
        obtain ⟨rfl, rfl, rfl, rfl, rfl⟩ := he
        exact ⟨xm, xs, b1, c1, b2, c2, some ⟨b3, o3, none⟩, c3, ⟨_, hb⟩, p1, l1, hb2, p2, l2, hb3, hr⟩
    · simp at h4
  · simp at h2
set_option maxRecDepth 100000 in
set_option maxHeartbeats 4000000 in
theorem reach_two (w : World) : Calls Tryz.prog 42 #[.int .i64 2] w fun e w' => e = .returned (.bool true) ∧ w' = w := by
  go_enter Tryz.func42, Tryz.ntmps42
  go_wp2
  go_ret
  exact ⟨rfl, rfl⟩
set_option maxRecDepth 100000 in
set_option maxHeartbeats 4000000 in
theorem rxdiffer_star (w : World) (A : Nat → Prop) (bx : Nat) (hX : RX w A starOne bx) (hP : PowT w) (h7 : 7 ≤ w.heap.size) :
    Calls Tryz.prog 21 #[.pointer (some ⟨bx, 0, none⟩), .pointer (some ⟨bx, 0, none⟩), .int .i64 2] w fun e w' => e = .returned (.tuple #[.string ⟨#[]⟩, .bool false, .int .i64 0]) ∧ Below w.heap.size w w' := by
  obtain ⟨xm, xs, b1, c1, b2, c2, la, lc, hN⟩ := star_rx hX
  have HD : Hid (∀ w', Below w.heap.size w w' → Calls Tryz.prog 49 #[.pointer (some ⟨bx, 0, none⟩), .pointer (some ⟨bx, 0, none⟩), .int .i64 2] w' fun e w9 => e = .returned (.tuple #[.string ⟨#[]⟩, .bool false]) ∧ Below w.heap.size w w9) := fun w' hb =>
    (differ_self w' bx xm xs b1 c1 b2 c2 la lc (hN.below hb) (hP.below hb) (Nat.le_trans h7 hb.size)).mono (fun e w9 h => ⟨h.1, hb.trans (h.2.mono hb.size)⟩)
  have hbl : bx < w.heap.size := by obtain ⟨_, h⟩ := hN.row; exact h.lt
  clear hX hP hN
  go_enter Tryz.func21, Tryz.ntmps21
  go_wp2_with (go_at_call 42; refine (reach_two _).mono ?_; rintro e w' ⟨rfl, hw⟩; have hw8 := hw.symm; subst hw8; clear hw)
  go_region_held3 (fun w' => Below w.heap.size w w')
    (first | exact (Below.refl _ _).drew | exact HB5.out)
    ((go_at_call 49; refine (HD.out _ ‹Below w.heap.size w _›).mono ?_; rintro e w5 ⟨rfl, hb5⟩; have HB5 := hide hb5; clear hb5))
  all_goals go_wp2_with fail
  refine bodyPost_ret (v := .tuple #[.string ⟨#[]⟩, .bool false, .int .i64 0]) (by simp [results, Tryz.results21, go_sem]) rfl ?_
  exact ⟨rfl, HB5.out⟩
end Go.Proofs.YtpoibdhhcbelnaaGreatDoor
/- The law's helpers: what is made of a pattern, and whether it matches: walks. -/
namespace Go.Proofs.YtpoibdhhcbelnaaGreatDoor
open Go.Shelf Go.RowKit Go.Lib Brm

/-- All tables. -/
def ATab (w : World) : Prop := MTab w ∧ PowT w ∧ 7 ≤ w.heap.size
theorem ATab.below {w w' : World} (h : ATab w) (k : Below w.heap.size w w') : ATab w' := ⟨h.1.below k, h.2.1.below k, Nat.le_trans h.2.2 k.size⟩
set_option maxRecDepth 100000 in
set_option maxHeartbeats 4000000 in
theorem kmade_walk (s : ByteArray) (w : World) (p : Pat) (hT : ATab w) (hm : s.size ≤ 9223372036854775807) (hp : ReadR (bytesOf s) (0, 0, some p)) : Calls Tryz.prog 30 #[.string s] w fun e w' => Below w.heap.size w w' ∧ ∃ bx, e = .returned (.pointer (some ⟨bx, 0, none⟩)) ∧ RX w' (New w) p bx := by
  have HR := hide (rxnew_any s w hT.1 hm)
  have HT := hide hT
  clear hT hm
  go_enter Tryz.func30, Tryz.ntmps30
  go_wp2_with fail
  refine HR.out.mono ?_
  rintro e w1 ⟨hb1, nv, er, place, op, hr, rfl, hop⟩
  have hu := readR_unique hp hr
  simp only [Prod.mk.injEq] at hu
  obtain ⟨rfl, rfl, rfl⟩ := hu
  obtain ⟨bx, rfl, hX⟩ := hop
  have HT1 := hide (HT.out.below hb1)
  have HB1 := hide hb1
  have HX := hide hX
  have HR2 := hide (rxnew_any ⟨#[97, 42]⟩ w1 (HT.out.below hb1).1 (by decide))
  clear hb1 hr hX HR hp
  go_wp2_with fail
  refine HR2.out.mono ?_
  rintro e w2 ⟨hb2, nv, er, place, op, hr, rfl, hop⟩
  have hu := readR_unique star_read (show ReadR starIn (er, place, op) from hr)
  simp only [Prod.mk.injEq] at hu
  obtain ⟨rfl, rfl, rfl⟩ := hu
  obtain ⟨by2, rfl, hY⟩ := hop
  have hok := (readR_some star_read).2.2.1
  have HT2 := hide (HT1.out.below hb2)
  have HB2 := hide hb2
  have HY2 := hide hY
  have HD := hide (rxdiffer_star w2 _ by2 hY HT2.out.2.1 HT2.out.2.2)
  have HM1 := hide (fun (w' : World) (hb : Below w2.heap.size w2 w') => rxmatch_any starOne hok by2 ⟨#[97, 97, 97]⟩ w' _ (hY.below hb) (HT2.out.below hb).1 (by decide))
  have HM2 := hide (fun (w' : World) (hb : Below w2.heap.size w2 w') => rxmatch_any starOne hok by2 ⟨#[97, 98]⟩ w' _ (hY.below hb) (HT2.out.below hb).1 (by decide))
  clear hb2 hr hY hok HR2
  go_wp2_with fail
  refine HD.out.mono ?_
  rintro e w3 ⟨rfl, hb3⟩
  have HB3 := hide hb3
  clear hb3 HD
  go_wp2_with fail
  refine (HM1.out _ HB3.out).mono ?_
  rintro e w4 ⟨hb4, er2, ol2, rfl, ht2⟩
  obtain ⟨rfl, rfl⟩ := textR_unique text_aaa (show TextR [97, 97, 97] er2 ol2 from ht2)
  rw [star_aaa]
  have HB4 := hide (HB3.out.trans (hb4.mono HB3.out.size))
  clear hb4 ht2 HM1
  go_wp2_with fail
  refine (HM2.out _ HB4.out).mono ?_
  rintro e w5 ⟨hb5, er3, ol3, rfl, ht3⟩
  obtain ⟨rfl, rfl⟩ := textR_unique text_ab (show TextR [97, 98] er3 ol3 from ht3)
  rw [star_ab]
  have HB5 := hide (HB4.out.trans (hb5.mono HB4.out.size))
  clear hb5 ht3 HM2
  go_wp2_with fail
  go_ret
  have hb15 := HB2.out.trans (HB5.out.mono HB2.out.size)
  exact ⟨HB1.out.trans (hb15.mono HB1.out.size), bx, rfl, HX.out.below hb15⟩
set_option maxRecDepth 100000 in
set_option maxHeartbeats 4000000 in
theorem is_walk (s t : ByteArray) (w : World) (p : Pat) (hT : ATab w) (hp : ReadR (bytesOf s) (0, 0, some p)) (hm : s.size ≤ 60) (ht : t.size ≤ 40) : Calls Tryz.prog 29 #[.string s, .string t] w fun e w' => Below w.heap.size w w' ∧ ∃ v, e = .returned (.int .i64 v) ∧ IsV p (bytesOf t) v := by
  have HC := hide (kmade_walk s w p hT (by omega) hp)
  have HT := hide hT
  have HOK := hide (readR_some hp).2.2.1
  have HL : Hid ((bytesOf t).length ≤ 40) := by show _ ≤ _; rw [bytes_len]; exact ht
  have HTM : Hid (t.size ≤ 9223372036854775807) := by show _ ≤ _; omega
  clear hT hp hm ht
  go_enter Tryz.func29, Tryz.ntmps29
  go_wp2_with fail
  refine HC.out.mono ?_
  rintro e w1 ⟨hb1, bx, rfl, hX⟩
  have HB1 := hide hb1
  have HM := hide (rxmatch_any p HOK.out bx t w1 _ hX (HT.out.below hb1).1 HTM.out)
  clear hb1 hX HC
  go_wp2_with fail
  refine HM.out.mono ?_
  rintro e w2 ⟨hb2, er, ol, rfl, htr⟩
  have HB2 := hide (HB1.out.trans (hb2.mono HB1.out.size))
  clear hb2 HM
  rcases htr with ⟨h40, _, _⟩ | ⟨_, ⟨k, hk⟩, rfl, rfl⟩ | ⟨_, l, hl, rfl, rfl⟩
  · exact absurd HL.out (by omega)
  · have HK := hide hk
    clear hk
    go_wp2_with fail
    go_ret
    have hno : ¬ ∃ l, Runes (bytesOf t) l := fun ⟨l, h⟩ => runes_not_broken h k HK.out
    exact ⟨HB2.out, 2, rfl, .inr (.inr ⟨fun ⟨l, h, _⟩ => hno ⟨l, h⟩, rfl, hno⟩)⟩
  · have HR := hide hl
    clear hl
    rcases hmb : matchB p (some l) with _ | _
    · have HNO : Hid (¬ p.Mt l) := fun h => by
        have h9 : matchB p (some l) = true := mT_iff.2 ⟨Nat.zero_le _, by rw [sub_all]; exact h⟩
        rw [hmb] at h9; cases h9
      clear hmb
      go_wp2_with fail
      go_ret
      exact ⟨HB2.out, 0, rfl, .inr (.inl ⟨fun ⟨l', h, h'⟩ => HNO.out (by rw [runes_unique HR.out h] at h'; exact h'), ⟨l, HR.out⟩, rfl⟩)⟩
    · have HY : Hid (p.Mt l) := by have h9 := (mT_iff.1 (show mT p l 0 l.length = true from hmb)).2; rw [sub_all] at h9; exact h9
      clear hmb
      go_wp2_with fail
      go_ret
      exact ⟨HB2.out, 1, rfl, .inl ⟨⟨l, HR.out, HY.out⟩, rfl⟩⟩
end Go.Proofs.YtpoibdhhcbelnaaGreatDoor
/- The law Logic: plain facts, and what each call says. -/
namespace Go.Proofs.YtpoibdhhcbelnaaGreatDoor
open Go.Shelf Go.RowKit Go.Lib Brm

def Bt (P : Prop) (v : Int) : Prop := (P ∧ v = 1) ∨ (¬ P ∧ v = 0)
theorem Bt.le {P : Prop} {v : Int} (h : Bt P v) : v ≤ 1 := by rcases h with ⟨_, rfl⟩ | ⟨_, rfl⟩ <;> decide
theorem Bt.or {P Q : Prop} {u v x : Int} (h : Bt P u) (k : Bt Q v) (j : Bt (P ∨ Q) x) : x = max u v := by
  rcases h with ⟨a, rfl⟩ | ⟨a, rfl⟩ <;> rcases k with ⟨b, rfl⟩ | ⟨b, rfl⟩ <;> rcases j with ⟨c, rfl⟩ | ⟨c, rfl⟩ <;> simp_all <;> decide
theorem Bt.and {P Q : Prop} {u v x : Int} (h : Bt P u) (k : Bt Q v) (j : Bt (P ∧ Q) x) : x = min u v := by
  rcases h with ⟨a, rfl⟩ | ⟨a, rfl⟩ <;> rcases k with ⟨b, rfl⟩ | ⟨b, rfl⟩ <;> rcases j with ⟨c, rfl⟩ | ⟨c, rfl⟩ <;> simp_all <;> decide
theorem Bt.not {P : Prop} {u x : Int} (h : Bt P u) (j : Bt (¬ P) x) : x = 1 - u := by
  rcases h with ⟨a, rfl⟩ | ⟨a, rfl⟩ <;> rcases j with ⟨c, rfl⟩ | ⟨c, rfl⟩ <;> simp_all
theorem Bt.same {P Q : Prop} {u x : Int} (h : Bt P u) (j : Bt Q x) (e : P ↔ Q) : x = u := by
  rcases h with ⟨a, rfl⟩ | ⟨a, rfl⟩ <;> rcases j with ⟨c, rfl⟩ | ⟨c, rfl⟩ <;> simp_all
theorem mt_twice {x : Pat} {t : List Int} : (oneP (.not (.not (.group x)))).Mt t ↔ x.Mt t := by rw [mt_one]; simp [Pat.Mt]
theorem mt_notg {x : Pat} {t : List Int} : (oneP (.not (.group x))).Mt t ↔ ¬ x.Mt t := by rw [mt_one]; simp [Pat.Mt]
/-- A call of 'is' whose pattern is known. -/
def IsC (w : World) (s t : ByteArray) (P : Int → Prop) : Prop := ∀ w', Below w.heap.size w w' → Calls Tryz.prog 29 #[.string s, .string t] w' fun e w9 => Below w.heap.size w w9 ∧ ∃ v, e = .returned (.int .i64 v) ∧ P v
theorem is_of {w : World} {s t : ByteArray} {k : Nat} {p : Pat} (hT : ATab w) (h : Whole k (bytesOf s) p) (hk : k ≤ 8) (hs : s.size ≤ 60) (ht : t.size ≤ 40) : IsC w s t (IsV p (bytesOf t)) := fun w' hb =>
  (is_walk s t w' p (hT.below hb) (whole_read h hk (by rw [bytes_len]; exact hs)) hs ht).mono (fun _ _ ⟨h1, h2⟩ => ⟨hb.trans (h1.mono hb.size), h2⟩)
theorem is_bit {w : World} {s t : ByteArray} {k : Nat} {p : Pat} {l : List Int} {P : Prop} (hl : Runes (bytesOf t) l) (hT : ATab w) (h : Whole k (bytesOf s) p) (hk : k ≤ 8) (hs : s.size ≤ 60) (ht : t.size ≤ 40) (e : p.Mt l ↔ P) : IsC w s t (Bt P) := fun w' hb =>
  (is_of hT h hk hs ht w' hb).mono (fun _ _ ⟨h1, v, h2, h3⟩ => ⟨h1, v, h2, by rw [← e]; exact h3.bit hl⟩)
section
variable {w : World} {s1 s2 t : ByteArray} {p q : Pat} {l : List Int} (hl : Runes (bytesOf t) l) (hT : ATab w) (h1 : Whole 2 (bytesOf s1) p) (h2 : Whole 2 (bytesOf s2) q) (z1 : s1.size ≤ 24) (z2 : s2.size ≤ 24) (zt : t.size ≤ 16)
include hl hT h1 z1 zt
theorem is_one : IsC w s1 t (Bt (p.Mt l)) := is_bit hl hT h1 (by decide) (by omega) (by omega) Iff.rfl
theorem is_not : IsC w (ByteArray.mk #[126, 40] ++ s1 ++ ByteArray.mk #[41]) t (Bt (¬ p.Mt l)) :=
  is_bit hl hT (by rw [bytes_add, bytes_add]; exact good_not h1) (by decide) (by have : (ByteArray.mk #[126, 40]).size = 2 := rfl; have : (ByteArray.mk #[41]).size = 1 := rfl; simp only [ByteArray.size_append]; omega) (by omega) mt_notg
theorem is_twice : IsC w (ByteArray.mk #[126, 126, 40] ++ s1 ++ ByteArray.mk #[41]) t (Bt (p.Mt l)) :=
  is_bit hl hT (by rw [bytes_add, bytes_add]; exact good_twice h1) (by decide) (by have : (ByteArray.mk #[126, 126, 40]).size = 3 := rfl; have : (ByteArray.mk #[41]).size = 1 := rfl; simp only [ByteArray.size_append]; omega) (by omega) mt_twice
theorem is_star : IsC w (ByteArray.mk #[40] ++ s1 ++ ByteArray.mk #[41, 42]) t (Bt ((starP p).Mt l)) :=
  is_bit hl hT (by rw [bytes_add, bytes_add]; exact good_star h1) (by decide) (by have : (ByteArray.mk #[40]).size = 1 := rfl; have : (ByteArray.mk #[41, 42]).size = 2 := rfl; simp only [ByteArray.size_append]; omega) (by omega) Iff.rfl
include h2 z2
theorem is_or : IsC w (ByteArray.mk #[40] ++ s1 ++ ByteArray.mk #[41, 124, 40] ++ s2 ++ ByteArray.mk #[41]) t (Bt (p.Mt l ∨ q.Mt l)) :=
  is_bit hl hT (by rw [bytes_add, bytes_add, bytes_add, bytes_add]; exact good_or h1 h2) (by decide) (by have : (ByteArray.mk #[40]).size = 1 := rfl; have : (ByteArray.mk #[41]).size = 1 := rfl; have : (ByteArray.mk #[41, 124, 40]).size = 3 := rfl; simp only [ByteArray.size_append]; omega) (by omega) mt_or
theorem is_and : IsC w (ByteArray.mk #[40] ++ s1 ++ ByteArray.mk #[41, 38, 40] ++ s2 ++ ByteArray.mk #[41]) t (Bt (p.Mt l ∧ q.Mt l)) :=
  is_bit hl hT (by rw [bytes_add, bytes_add, bytes_add, bytes_add]; exact good_and h1 h2) (by decide) (by have : (ByteArray.mk #[40]).size = 1 := rfl; have : (ByteArray.mk #[41]).size = 1 := rfl; have : (ByteArray.mk #[41, 38, 40]).size = 3 := rfl; simp only [ByteArray.size_append]; omega) (by omega) mt_and
theorem is_row : IsC w (ByteArray.mk #[40] ++ s1 ++ ByteArray.mk #[41, 40] ++ s2 ++ ByteArray.mk #[41]) t (Bt (∃ a b, l = a ++ b ∧ p.Mt a ∧ q.Mt b)) :=
  is_bit hl hT (by rw [bytes_add, bytes_add, bytes_add, bytes_add]; exact Brm.good_row h1 h2) (by decide) (by have : (ByteArray.mk #[40]).size = 1 := rfl; have : (ByteArray.mk #[41]).size = 1 := rfl; have : (ByteArray.mk #[41, 40]).size = 2 := rfl; simp only [ByteArray.size_append]; omega) (by omega) mt_row2
end
theorem bytes_take (t : ByteArray) (i : Nat) : bytesOf (t.extract 0 i) = (bytesOf t).take i := by
  unfold bytesOf
  simp [ByteArray.data_extract, Array.toList_extract]
theorem is_pre {w : World} {s t : ByteArray} {p : Pat} (hT : ATab w) (h : Whole 2 (bytesOf s) p) (hs : s.size ≤ 24) (ht : t.size ≤ 16) (i : Nat) : IsC w s (t.extract 0 i) (IsV p ((bytesOf t).take i)) := by
  rw [← bytes_take]
  exact is_of hT h (by decide) (by omega) (by rw [ByteArray.size_extract]; omega)
theorem is_suf {w : World} {s t : ByteArray} {p : Pat} (hT : ATab w) (h : Whole 2 (bytesOf s) p) (hs : s.size ≤ 24) (ht : t.size ≤ 16) (i : Nat) : IsC w s (t.extract i t.size) (IsV p ((bytesOf t).drop i)) := by
  rw [← bytes_drop]
  exact is_of hT h (by decide) (by omega) (by rw [ByteArray.size_extract]; omega)
theorem is_sufstar {w : World} {s t : ByteArray} {p : Pat} (hT : ATab w) (h : Whole 2 (bytesOf s) p) (hs : s.size ≤ 24) (ht : t.size ≤ 16) (i : Nat) : IsC w (ByteArray.mk #[40] ++ s ++ ByteArray.mk #[41, 42]) (t.extract i t.size) (IsV (starP p) ((bytesOf t).drop i)) := by
  rw [← bytes_drop]
  exact is_of hT (by rw [bytes_add, bytes_add]; exact good_star h) (by decide) (by have : (ByteArray.mk #[40]).size = 1 := rfl; have : (ByteArray.mk #[41, 42]).size = 2 := rfl; simp only [ByteArray.size_append]; omega) (by rw [ByteArray.size_extract]; omega)
end Go.Proofs.YtpoibdhhcbelnaaGreatDoor
/- The law Logic: a walk. -/
namespace Go.Proofs.YtpoibdhhcbelnaaGreatDoor
open Go.Shelf Go.RowKit Go.Lib Brm

theorem Bt.snoc {R : Nat → Prop} {i : Nat} {c c' : Int} (h : Bt (∃ k, k < i ∧ R k) c) (h1 : R i → c' = 1) (h0 : ¬ R i → c' = c) : Bt (∃ k, k < i + 1 ∧ R k) c' := by
  by_cases hr : R i
  · exact .inl ⟨⟨i, by omega, hr⟩, h1 hr⟩
  · rw [h0 hr]
    rcases h with ⟨⟨k, hk, hR⟩, rfl⟩ | ⟨hn, rfl⟩
    · exact .inl ⟨⟨k, by omega, hR⟩, rfl⟩
    · refine .inr ⟨fun ⟨k, hk, hR⟩ => ?_, rfl⟩
      rcases Nat.lt_or_ge k i with h | h
      · exact hn ⟨k, h, hR⟩
      · have : k = i := by omega
        subst this; exact hr hR
def CutR (p q : Pat) (bs : List UInt8) (k : Nat) : Prop := Yes p (bs.take k) ∧ Yes q (bs.drop k)
def AgR (p : Pat) (bs : List UInt8) (k : Nat) : Prop := (0 < k ∧ Yes p (bs.take k) ∧ Yes (starP p) (bs.drop k)) ∨ bs = []
def LogI (w : World) (p q : Pat) (bs : List UInt8) (j : Nat) (cv av iv : Value) (wr : World) : Prop := ∃ (i : Nat) (c a : Int), cv = .int .i64 c ∧ av = .int .i64 a ∧ iv = .int .i64 (i : Int) ∧ i ≤ bs.length + 1 ∧ bs.length + 1 - i ≤ j ∧ Bt (∃ k, k < i ∧ CutR p q bs k) c ∧ Bt (∃ k, k < i ∧ AgR p bs k) a ∧ Below w.heap.size w wr
theorem cut_all {p q : Pat} {bs : List UInt8} {l : List Int} (h : Runes bs l) : (∃ k, k < bs.length + 1 ∧ CutR p q bs k) ↔ ∃ a b, l = a ++ b ∧ p.Mt a ∧ q.Mt b := by
  rw [← yes_cut h]
  exact ⟨fun ⟨k, h1, h2⟩ => ⟨k, by omega, h2⟩, fun ⟨k, h1, h2⟩ => ⟨k, by omega, h2⟩⟩
theorem ag_all {p : Pat} {bs : List UInt8} {l : List Int} (h : Runes bs l) : (∃ k, k < bs.length + 1 ∧ AgR p bs k) ↔ (starP p).Mt l := by
  rw [← yes_again h]
  constructor
  · rintro ⟨k, h1, ⟨h2, h3⟩ | h2⟩
    · exact .inl ⟨k, h2, by omega, h3⟩
    · exact .inr h2
  · rintro (⟨k, h1, h2, h3⟩ | h2)
    · exact ⟨k, by omega, .inl ⟨h1, h3⟩⟩
    · exact ⟨0, by omega, .inr h2⟩
theorem is_beq {p : Pat} {bs : List UInt8} {v : Int} (h : IsV p bs v) (y : Yes p bs) : (v == 1) = true := beq_iff_eq.2 (h.one.2 y)
theorem is_bne {p : Pat} {bs : List UInt8} {v : Int} (h : IsV p bs v) (y : ¬ Yes p bs) : (v == 1) = false := beq_eq_false_iff_ne.2 (fun e => y (h.one.1 e))
set_option maxRecDepth 100000 in
set_option maxHeartbeats 8000000 in
theorem logic_walk (a1 a2 a3 : Option Addr) (c1 c2 c3 : Nat) (r1 r2 r3 : List Int) (w : World) (hT : ATab w) (h1 : IntsA w a1 r1) (h2 : IntsA w a2 r2) (h3 : IntsA w a3 r3) (l1 : r1.length ≤ 9223372036854775807) (l2 : r2.length ≤ 9223372036854775807) (l3 : r3.length ≤ 9223372036854775807) :
    Calls Tryz.prog 9 #[.slice a1 r1.length c1, .slice a2 r2.length c2, .slice a3 r3.length c3] w fun e w' => e = .returned (.bool true) ∧ Below w.heap.size w w' := by
  have HT := hide hT
  have HI2 := hide h2
  have HI3 := hide h3
  have HC := hide (pattern_any a1 c1 r1 w h1 l1)
  clear hT h1 h2 h3
  go_enter Tryz.func9, Tryz.ntmps9
  go_wp2_with fail
  refine HC.out.mono ?_
  rintro e w1 ⟨s1, rfl, ⟨⟨p, hp⟩, z1⟩, hb1⟩
  have HB1 := hide hb1
  have HP := hide hp
  have HC2 := hide (pattern_any a2 c2 r2 w1 (HI2.out.below hb1) l2)
  clear hb1 hp HC HI2
  go_wp2_with fail
  refine HC2.out.mono ?_
  rintro e w2 ⟨s2, rfl, ⟨⟨q, hq⟩, z2⟩, hb2⟩
  have HB2 := hide (HB1.out.trans (hb2.mono HB1.out.size))
  have HQ := hide hq
  have HC3 := hide (ktext_any a3 c3 r3 w2 (HI3.out.below HB2.out) l3)
  clear hb2 hq HC2 HI3 HB1
  go_wp2_with fail
  refine HC3.out.mono ?_
  rintro e w3 ⟨t, rfl, ⟨⟨l, hl⟩, zt⟩, hb3⟩
  have HB3 := hide (HB2.out.trans (hb3.mono HB2.out.size))
  have HR := hide hl
  have HT3 := hide (HT.out.below HB3.out)
  have A1 := hide (is_one HR.out HT3.out HP.out z1 zt)
  have A2 := hide (is_one HR.out HT3.out HQ.out z2 zt)
  have A3 := hide (is_or HR.out HT3.out HP.out HQ.out z1 z2 zt)
  have A4 := hide (is_and HR.out HT3.out HP.out HQ.out z1 z2 zt)
  have A5 := hide (is_not HR.out HT3.out HP.out z1 zt)
  have A6 := hide (is_twice HR.out HT3.out HP.out z1 zt)
  have A7 := hide (is_row HR.out HT3.out HP.out HQ.out z1 z2 zt)
  have A8 := hide (is_star HR.out HT3.out HP.out z1 zt)
  have A9 := hide (fun i => is_pre HT3.out HP.out z1 zt i)
  have A10 := hide (fun i => is_suf HT3.out HQ.out z2 zt i)
  have A11 := hide (fun i => is_sufstar HT3.out HP.out z1 zt i)
  have HLEN : Hid ((bytesOf t).length = t.size) := bytes_len t
  clear hb3 hl HC3 HB2 HT HP HQ
  go_wp2_with fail
  refine (A1.out _ (Below.refl _ _)).mono ?_
  rintro e x1 ⟨hx, v1, rfl, b1⟩
  have X1 := hide hx
  have B1 := hide b1
  have d1 : decide ((1 : Int) < v1) = false := decide_eq_false (by have := b1.le; omega)
  clear hx b1 A1
  go_wp2_with fail
  refine (A2.out _ X1.out).mono ?_
  rintro e x2 ⟨hx, v2, rfl, b2⟩
  have X2 := hide hx
  have B2 := hide b2
  have d2 : decide ((1 : Int) < v2) = false := decide_eq_false (by have := b2.le; omega)
  clear hx b2 A2
  go_wp2_with fail
  refine (A3.out _ X2.out).mono ?_
  rintro e x3 ⟨hx, v3, rfl, b3⟩
  have X3 := hide hx
  have B3 := hide b3
  have d3 : decide ((1 : Int) < v3) = false := decide_eq_false (by have := b3.le; omega)
  clear hx b3 A3
  go_wp2_with fail
  refine (A4.out _ X3.out).mono ?_
  rintro e x4 ⟨hx, v4, rfl, b4⟩
  have X4 := hide hx
  have B4 := hide b4
  have d4 : decide ((1 : Int) < v4) = false := decide_eq_false (by have := b4.le; omega)
  clear hx b4 A4
  go_wp2_with fail
  refine (A5.out _ X4.out).mono ?_
  rintro e x5 ⟨hx, v5, rfl, b5⟩
  have X5 := hide hx
  have B5 := hide b5
  have d5 : decide ((1 : Int) < v5) = false := decide_eq_false (by have := b5.le; omega)
  clear hx b5 A5
  go_wp2_with fail
  refine (A6.out _ X5.out).mono ?_
  rintro e x6 ⟨hx, v6, rfl, b6⟩
  have X6 := hide hx
  have B6 := hide b6
  have d6 : decide ((1 : Int) < v6) = false := decide_eq_false (by have := b6.le; omega)
  clear hx b6 A6
  go_wp2_with fail
  refine (A7.out _ X6.out).mono ?_
  rintro e x7 ⟨hx, v7, rfl, b7⟩
  have X7 := hide hx
  have B7 := hide b7
  have d7 : decide ((1 : Int) < v7) = false := decide_eq_false (by have := b7.le; omega)
  clear hx b7 A7
  go_wp2_with fail
  refine (A8.out _ X7.out).mono ?_
  rintro e x8 ⟨hx, v8, rfl, b8⟩
  have X8 := hide hx
  have B8 := hide b8
  have d8 : decide ((1 : Int) < v8) = false := decide_eq_false (by have := b8.le; omega)
  clear hx b8 A8
  go_wp2_with fail
  go_loopg [18, 19, 20] (t.size + 1) (fun j cv av iv wr => LogI w3 p q (bytesOf t) j cv av iv wr)
  case atStart => exact ⟨0, 0, 0, rfl, rfl, rfl, by omega, by rw [HLEN.out]; omega, .inr ⟨fun ⟨k, hk, _⟩ => absurd hk (by omega), rfl⟩, .inr ⟨fun ⟨k, hk, _⟩ => absurd hk (by omega), rfl⟩, X8.out⟩
  case round =>
    obtain ⟨i, c, a, rfl, rfl, rfl, hi, hj, hc, ha, hb⟩ := hrel
    have HBC := hide hc
    have HBA := hide ha
    have HB := hide hb
    have i0 : (0 : Int) ≤ (i : Int) := Int.natCast_nonneg _
    rw [HLEN.out] at hi hj
    clear hc ha hb
    by_cases hle : i ≤ t.size
    · have i1 : (i : Int) ≤ (t.size : Int) := by omega
      have i2 : decide ((i : Int) ≤ (t.size : Int)) = true := decide_eq_true i1
      clear d1 d2 d3 d4 d5 d6 d7 d8
      go_wp2_with fail
      refine (A9.out i _ HB.out).mono ?_
      rintro e x9 ⟨hx, u1, rfl, b9⟩
      have X9 := hide hx
      have B9 := hide b9
      clear hx b9
      go_wp2_with fail
      refine (A10.out i _ X9.out).mono ?_
      rintro e x10 ⟨hx, u2, rfl, b10⟩
      have X10 := hide hx
      have B10 := hide b10
      clear hx b10
      go_wp2_with fail
      refine (A11.out i _ X10.out).mono ?_
      rintro e x11 ⟨hx, u3, rfl, b11⟩
      have X11 := hide hx
      have B11 := hide b11
      clear hx b11
      clear A9 A10 A11 B1 B2 B3 B4 B5 B6 B7 B8
      by_cases yA : Yes p ((bytesOf t).take i)
      · have fA := is_beq B9.out yA
        by_cases yB : Yes q ((bytesOf t).drop i)
        · have fB := is_beq B10.out yB
          by_cases yC : Yes (starP p) ((bytesOf t).drop i)
          · have fC := is_beq B11.out yC
            by_cases yI : 0 < i
            · have fI : decide ((0 : Int) < (i : Int)) = true := decide_eq_true (by omega)
              go_wp2_with fail
              go_roundg (gk - 1)
              case measure => omega
              case rel => exact ⟨i + 1, 1, 1, rfl, rfl, by go_num, by rw [HLEN.out]; omega, by rw [HLEN.out]; omega, HBC.out.snoc (fun _ => rfl) (fun h => absurd ⟨yA, yB⟩ h), HBA.out.snoc (fun _ => rfl) (fun h => absurd (.inl ⟨yI, yA, yC⟩) h), X11.out⟩
            · have fI : decide ((0 : Int) < (i : Int)) = false := decide_eq_false (by omega)
              by_cases yE : bytesOf t = []
              · have fE : t.toList = [] := (Lib.toList_data t).trans yE
                go_wp2_with fail
                go_roundg (gk - 1)
                case measure => omega
                case rel => exact ⟨i + 1, 1, 1, rfl, rfl, by go_num, by rw [HLEN.out]; omega, by rw [HLEN.out]; omega, HBC.out.snoc (fun _ => rfl) (fun h => absurd ⟨yA, yB⟩ h), HBA.out.snoc (fun _ => rfl) (fun h => absurd (.inr yE) h), X11.out⟩
              · have fE : ¬ t.toList = [] := fun e => yE ((Lib.toList_data t).symm.trans e)
                have fE2 : (t.toList == []) = false := beq_eq_false_iff_ne.2 fE
                have fE3 : decide (t.toList = []) = false := decide_eq_false fE
                have fE4 : t.toList.isEmpty = false := List.isEmpty_eq_false_iff.2 fE
                go_wp2_with fail
                go_roundg (gk - 1)
                case measure => omega
                case rel => exact ⟨i + 1, 1, a, rfl, rfl, by go_num, by rw [HLEN.out]; omega, by rw [HLEN.out]; omega, HBC.out.snoc (fun _ => rfl) (fun h => absurd ⟨yA, yB⟩ h), HBA.out.snoc (fun h => by rcases h with h | h; exact absurd h.1 yI; exact absurd h yE) (fun _ => rfl), X11.out⟩
          · have fC := is_bne B11.out yC
            by_cases yE : bytesOf t = []
            · have fE : t.toList = [] := (Lib.toList_data t).trans yE
              go_wp2_with fail
              go_roundg (gk - 1)
              case measure => omega
              case rel => exact ⟨i + 1, 1, 1, rfl, rfl, by go_num, by rw [HLEN.out]; omega, by rw [HLEN.out]; omega, HBC.out.snoc (fun _ => rfl) (fun h => absurd ⟨yA, yB⟩ h), HBA.out.snoc (fun _ => rfl) (fun h => absurd (.inr yE) h), X11.out⟩
            · have fE : ¬ t.toList = [] := fun e => yE ((Lib.toList_data t).symm.trans e)
              have fE2 : (t.toList == []) = false := beq_eq_false_iff_ne.2 fE
              have fE3 : decide (t.toList = []) = false := decide_eq_false fE
              have fE4 : t.toList.isEmpty = false := List.isEmpty_eq_false_iff.2 fE
              go_wp2_with fail
              go_roundg (gk - 1)
              case measure => omega
              case rel => exact ⟨i + 1, 1, a, rfl, rfl, by go_num, by rw [HLEN.out]; omega, by rw [HLEN.out]; omega, HBC.out.snoc (fun _ => rfl) (fun h => absurd ⟨yA, yB⟩ h), HBA.out.snoc (fun h => by rcases h with h | h; exact absurd h.2.2 yC; exact absurd h yE) (fun _ => rfl), X11.out⟩
        · have fB := is_bne B10.out yB
          by_cases yC : Yes (starP p) ((bytesOf t).drop i)
          · have fC := is_beq B11.out yC
            by_cases yI : 0 < i
            · have fI : decide ((0 : Int) < (i : Int)) = true := decide_eq_true (by omega)
              go_wp2_with fail
              go_roundg (gk - 1)
              case measure => omega
              case rel => exact ⟨i + 1, c, 1, rfl, rfl, by go_num, by rw [HLEN.out]; omega, by rw [HLEN.out]; omega, HBC.out.snoc (fun h => absurd h.2 yB) (fun _ => rfl), HBA.out.snoc (fun _ => rfl) (fun h => absurd (.inl ⟨yI, yA, yC⟩) h), X11.out⟩
            · have fI : decide ((0 : Int) < (i : Int)) = false := decide_eq_false (by omega)
              by_cases yE : bytesOf t = []
              · have fE : t.toList = [] := (Lib.toList_data t).trans yE
                go_wp2_with fail
                go_roundg (gk - 1)
                case measure => omega
                case rel => exact ⟨i + 1, c, 1, rfl, rfl, by go_num, by rw [HLEN.out]; omega, by rw [HLEN.out]; omega, HBC.out.snoc (fun h => absurd h.2 yB) (fun _ => rfl), HBA.out.snoc (fun _ => rfl) (fun h => absurd (.inr yE) h), X11.out⟩
              · have fE : ¬ t.toList = [] := fun e => yE ((Lib.toList_data t).symm.trans e)
                have fE2 : (t.toList == []) = false := beq_eq_false_iff_ne.2 fE
                have fE3 : decide (t.toList = []) = false := decide_eq_false fE
                have fE4 : t.toList.isEmpty = false := List.isEmpty_eq_false_iff.2 fE
                go_wp2_with fail
                go_roundg (gk - 1)
                case measure => omega
                case rel => exact ⟨i + 1, c, a, rfl, rfl, by go_num, by rw [HLEN.out]; omega, by rw [HLEN.out]; omega, HBC.out.snoc (fun h => absurd h.2 yB) (fun _ => rfl), HBA.out.snoc (fun h => by rcases h with h | h; exact absurd h.1 yI; exact absurd h yE) (fun _ => rfl), X11.out⟩
          · have fC := is_bne B11.out yC
            by_cases yE : bytesOf t = []
            · have fE : t.toList = [] := (Lib.toList_data t).trans yE
              go_wp2_with fail
              go_roundg (gk - 1)
              case measure => omega
              case rel => exact ⟨i + 1, c, 1, rfl, rfl, by go_num, by rw [HLEN.out]; omega, by rw [HLEN.out]; omega, HBC.out.snoc (fun h => absurd h.2 yB) (fun _ => rfl), HBA.out.snoc (fun _ => rfl) (fun h => absurd (.inr yE) h), X11.out⟩
            · have fE : ¬ t.toList = [] := fun e => yE ((Lib.toList_data t).symm.trans e)
              have fE2 : (t.toList == []) = false := beq_eq_false_iff_ne.2 fE
              have fE3 : decide (t.toList = []) = false := decide_eq_false fE
              have fE4 : t.toList.isEmpty = false := List.isEmpty_eq_false_iff.2 fE
              go_wp2_with fail
              go_roundg (gk - 1)
              case measure => omega
              case rel => exact ⟨i + 1, c, a, rfl, rfl, by go_num, by rw [HLEN.out]; omega, by rw [HLEN.out]; omega, HBC.out.snoc (fun h => absurd h.2 yB) (fun _ => rfl), HBA.out.snoc (fun h => by rcases h with h | h; exact absurd h.2.2 yC; exact absurd h yE) (fun _ => rfl), X11.out⟩
      · have fA := is_bne B9.out yA
        by_cases yE : bytesOf t = []
        · have fE : t.toList = [] := (Lib.toList_data t).trans yE
          go_wp2_with fail
          go_roundg (gk - 1)
          case measure => omega
          case rel => exact ⟨i + 1, c, 1, rfl, rfl, by go_num, by rw [HLEN.out]; omega, by rw [HLEN.out]; omega, HBC.out.snoc (fun h => absurd h.1 yA) (fun _ => rfl), HBA.out.snoc (fun _ => rfl) (fun h => absurd (.inr yE) h), X11.out⟩
        · have fE : ¬ t.toList = [] := fun e => yE ((Lib.toList_data t).symm.trans e)
          have fE2 : (t.toList == []) = false := beq_eq_false_iff_ne.2 fE
          have fE3 : decide (t.toList = []) = false := decide_eq_false fE
          have fE4 : t.toList.isEmpty = false := List.isEmpty_eq_false_iff.2 fE
          go_wp2_with fail
          go_roundg (gk - 1)
          case measure => omega
          case rel => exact ⟨i + 1, c, a, rfl, rfl, by go_num, by rw [HLEN.out]; omega, by rw [HLEN.out]; omega, HBC.out.snoc (fun h => absurd h.1 yA) (fun _ => rfl), HBA.out.snoc (fun h => by rcases h with h | h; exact absurd h.2.1 yA; exact absurd h yE) (fun _ => rfl), X11.out⟩
    · have i2 : decide ((i : Int) ≤ (t.size : Int)) = false := decide_eq_false (by omega)
      have hit : i = (bytesOf t).length + 1 := by rw [HLEN.out]; omega
      have e3 : v3 = max v1 v2 := B1.out.or B2.out B3.out
      have e4 : v4 = min v1 v2 := B1.out.and B2.out B4.out
      have e5 : v5 = 1 - v1 := B1.out.not B5.out
      have e6 : v6 = v1 := B1.out.same B6.out Iff.rfl
      have e7 : v7 = c := HBC.out.same B7.out (by rw [hit]; exact cut_all HR.out)
      have e8 : v8 = a := HBA.out.same B8.out (by rw [hit]; exact ag_all HR.out)
      have hb9 := HB3.out.trans (HB.out.mono HB3.out.size)
      have HB9 := hide hb9
      subst e7 e8
      have hle2 : decide (i ≤ t.size) = false := decide_eq_false hle
      clear hb9 hit hi hj d3 d4 d5 d6 d7 d8 d1 d2 B3 B4 B5 B6 B7 B8 HBC HBA
      have n1 : v1 = 1 ∨ v1 = 0 := B1.out.elim (fun h => .inl h.2) (fun h => .inr h.2)
      have n2 : v2 = 1 ∨ v2 = 0 := B2.out.elim (fun h => .inl h.2) (fun h => .inr h.2)
      clear B1 B2 A9 A10 A11
      rcases n1 with rfl | rfl <;> rcases n2 with rfl | rfl
      · obtain rfl : v3 = 1 := e3.trans (by decide)
        obtain rfl : v4 = 1 := e4.trans (by decide)
        obtain rfl : v5 = 0 := e5.trans (by decide)
        obtain rfl : v6 = 1 := e6
        clear e3 e4 e5
        go_wp2_with fail
        go_ret
        exact ⟨rfl, HB9.out⟩
      · obtain rfl : v3 = 1 := e3.trans (by decide)
        obtain rfl : v4 = 0 := e4.trans (by decide)
        obtain rfl : v5 = 0 := e5.trans (by decide)
        obtain rfl : v6 = 1 := e6
        clear e3 e4 e5
        have m1 : ∀ w : World, (Builtin.max_ #[3, 3] 3 #[.int .i64 1, .int .i64 0]).run Tryz.prog w = .ok (.int .i64 1) w := fun w => Lib.run_max_ints w #[3, 3] 3 .i64 .i64 1 0
        have m2 : ∀ w : World, (Builtin.min_ #[3, 3] 3 #[.int .i64 1, .int .i64 0]).run Tryz.prog w = .ok (.int .i64 0) w := fun w => Lib.run_min_ints w #[3, 3] 3 .i64 .i64 1 0
        go_wp2_with fail
        go_ret
        exact ⟨rfl, HB9.out⟩
      · obtain rfl : v3 = 1 := e3.trans (by decide)
        obtain rfl : v4 = 0 := e4.trans (by decide)
        obtain rfl : v5 = 1 := e5.trans (by decide)
        obtain rfl : v6 = 0 := e6
        clear e3 e4 e5
        have m1 : ∀ w : World, (Builtin.max_ #[3, 3] 3 #[.int .i64 0, .int .i64 1]).run Tryz.prog w = .ok (.int .i64 1) w := fun w => Lib.run_max_ints w #[3, 3] 3 .i64 .i64 0 1
        have m2 : ∀ w : World, (Builtin.min_ #[3, 3] 3 #[.int .i64 0, .int .i64 1]).run Tryz.prog w = .ok (.int .i64 0) w := fun w => Lib.run_min_ints w #[3, 3] 3 .i64 .i64 0 1
        go_wp2_with fail
        go_ret
        exact ⟨rfl, HB9.out⟩
      · obtain rfl : v3 = 0 := e3.trans (by decide)
        obtain rfl : v4 = 0 := e4.trans (by decide)
        obtain rfl : v5 = 1 := e5.trans (by decide)
        obtain rfl : v6 = 0 := e6
        clear e3 e4 e5
        go_wp2_with fail
        go_ret
        exact ⟨rfl, HB9.out⟩
end Go.Proofs.YtpoibdhhcbelnaaGreatDoor
