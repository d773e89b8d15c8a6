/- Walks and plain laws, some texts in one. -/
import Derived.Test.YtlflfcjbpnnfcaaGreatDoorM45
import Derived.Test.YtlflfcjbpnnfcaaGreatDoorM42
/- The law Within: plain facts, and a walk. -/
namespace Go.Proofs.YtlflfcjbpnnfcaaGreatDoor
open Go.Shelf Go.RowKit Go.Lib Brm

/-- A pattern in two groups. -/
def twinP (p : Pat) : Pat := .or [.and [.row [.group (.or [.and [.row [.group p]]])]]]
theorem pos_mono (bs : List UInt8) (i : Nat) : ∀ d, posOf i bs ≤ posOf (i + d) bs
  | 0 => Nat.le_refl _
  | d + 1 => by
    have := pos_mono bs i d
    rw [← Nat.add_assoc, posOf_succ]
    omega
theorem toB_nat (bs : List UInt8) (u : Nat) : toB bs (u : Int) = (posOf u bs : Int) := by simp [toB]
/-- What the law asks of the places. -/
structure BPr (n : Nat) (G : List Int) : Prop where
  len : ∃ k, G.length = 2 * k ∧ 2 ≤ k
  small : G.length ≤ 100000
  g0 : G[0]? = some 0
  g1 : G[1]? = some (n : Int)
  g2 : G[2]? = some 0
  g3 : G[3]? = some (n : Int)
  pair : ∀ q, 2 * q + 1 < G.length → (G[2 * q]? = some (-1) ∧ G[2 * q + 1]? = some (-1)) ∨ ∃ a b : Nat, a ≤ b ∧ b ≤ n ∧ G[2 * q]? = some (a : Int) ∧ G[2 * q + 1]? = some (b : Int)
end Go.Proofs.YtlflfcjbpnnfcaaGreatDoor
/- The law Longest: plain facts. -/
namespace Go.Proofs.YtlflfcjbpnnfcaaGreatDoor
open Brm

/-- The cells of the groups below stand. -/
def LowG (g : Nat) (a b : List Int) : Prop := b.length = a.length ∧ ∀ n, n < 2 * g → b[n]? = a[n]?
theorem LowG.refl (g : Nat) (a : List Int) : LowG g a a := ⟨rfl, fun _ _ => rfl⟩
theorem LowG.trans {g : Nat} {a b c : List Int} (h : LowG g a b) (k : LowG g b c) : LowG g a c := ⟨k.1.trans h.1, fun n hn => (k.2 n hn).trans (h.2 n hn)⟩
theorem LowG.mono {g g' : Nat} {a b : List Int} (h : LowG g' a b) (k : g ≤ g') : LowG g a b := ⟨h.1, fun n hn => h.2 n (by omega)⟩
theorem turns_low {g : Nat} {step : Nat → Nat → Nat → List Int → List Int → Prop} {j : Nat} (hs : ∀ t i k a b, step t i k a b → LowG g a b) {i t : Nat} {a : List Int} {t' : Nat} {c : List Int} (h : Turns step j i t a t' c) : LowG g a c := by
  induction h with
  | done t a => exact LowG.refl _ _
  | turn _ hst _ ih => exact (hs _ _ _ _ _ hst).trans ih
mutual
theorem tk_low (x : List Int) : ∀ (p : Pat) (g i j : Nat) (a b : List Int), Tk x p g i j a b → LowG g a b
  | .set _, _, _, _, a, b, h => by rw [show b = a from h]; exact LowG.refl _ _
  | .row ps, g, i, j, a, b, h => tkR_low x ps g i j a b h
  | .or ps, g, i, j, a, b, h => tkO_low x ps g i j a b h
  | .and ps, g, i, j, a, b, h => tkF_low x ps g i j a b h
  | .not _, _, _, _, a, b, h => by rw [show b = a from h]; exact LowG.refl _ _
  | .many p m n, g, i, j, a, b, h => by
    obtain ⟨t, c, ht, hr⟩ := h
    have h3 : LowG g a c := turns_low (fun t i' k a b ⟨_, hT⟩ => tk_low x p g i' k a b hT) ht
    rcases hr with ⟨_, hr⟩ | ⟨_, rfl⟩
    · exact h3.trans (tk_low x p g j j c b hr)
    · exact h3
  | .group p, g, i, j, a, b, h => by
    obtain ⟨c, hc, rfl⟩ := h
    have := (tk_low x p (g + 1) i j a c hc).mono (Nat.le_succ g)
    exact ⟨by simp [this.1], fun n hn => by rw [List.getElem?_set_ne (by omega), List.getElem?_set_ne (by omega)]; exact this.2 n hn⟩
theorem tkR_low (x : List Int) : ∀ (ps : List Pat) (g i j : Nat) (a b : List Int), TkR x ps g i j a b → LowG g a b
  | [], _, _, _, a, b, h => by rw [show b = a from h]; exact LowG.refl _ _
  | p :: ps, g, i, j, a, b, h => by
    obtain ⟨k, c, _, hT, hr⟩ := h
    exact (tk_low x p g i k a c hT).trans ((tkR_low x ps _ k j c b hr).mono (Nat.le_add_right _ _))
theorem tkO_low (x : List Int) : ∀ (ps : List Pat) (g i j : Nat) (a b : List Int), TkO x ps g i j a b → LowG g a b
  | [], _, _, _, _, _, h => h.elim
  | p :: ps, g, i, j, a, b, h => by
    rcases h with ⟨_, h⟩ | ⟨_, h⟩
    · exact tk_low x p g i j a b h
    · exact (tkO_low x ps _ i j a b h).mono (Nat.le_add_right _ _)
theorem tkF_low (x : List Int) : ∀ (ps : List Pat) (g i j : Nat) (a b : List Int), TkF x ps g i j a b → LowG g a b
  | [], _, _, _, a, b, h => by rw [show b = a from h]; exact LowG.refl _ _
  | p :: ps, g, i, j, a, b, h => by
    rcases h with ⟨_, h⟩ | ⟨_, rfl⟩
    · exact tk_low x p g i j a b h
    · exact LowG.refl _ _
end
/-- Two patterns, each in a group, behind one another. -/
def pairP (p q : Pat) : Pat := .or [.and [.row [.group p, .group q]]]
theorem pair_groups (p q : Pat) : (pairP p q).groups = p.groups + q.groups + 2 := by simp [pairP, Pat.groups, groupsL]; omega
theorem pair_cl {p q : Pat} (h : Cl p) (k : Cl q) : Cl (pairP p q) := by simp [pairP, Cl, ClL, h, k]
theorem rest_end {x : List Int} {r : Nat} (h : restT [] x r x.length = true) : r = x.length := by
  obtain ⟨h1, h2⟩ := restT_iff.1 h
  have h3 := sub_len h1 (Nat.le_refl _)
  rw [show sub x r x.length = [] from h2] at h3
  simp at h3; omega
theorem tk_pair {x : List Int} {p q : Pat} {a b : List Int} (ha : 2 * (p.groups + 2) ≤ a.length) (h : Tk x (pairP p q) 0 0 x.length a b) :
    ∃ k, HiB (fun r => mT p x 0 r && mT q x r x.length) (x.length + 1) k ∧ b[0]? = some 0 ∧ b[1]? = some (k : Int) ∧ b[2 * (p.groups + 1)]? = some (k : Int) ∧ b[2 * (p.groups + 1) + 1]? = some (x.length : Int) := by
  rcases h with ⟨_, h⟩ | ⟨_, h⟩
  · rcases h with ⟨_, h⟩ | ⟨h0, _⟩
    · obtain ⟨k, c, hk, hT, hr⟩ := h
      obtain ⟨k', c', hk', hT', rfl⟩ := hr
      have hf := hk'.2.1
      simp only [Bool.and_eq_true] at hf
      have := rest_end hf.2
      subst this
      obtain ⟨c0, hc0, rfl⟩ := hT
      obtain ⟨d, hd, rfl⟩ := hT'
      have l1 := (tk_low x p _ _ _ _ _ hc0).1
      have l2 := tk_low x q _ _ _ _ _ hd
      have hlen : d.length = a.length := by rw [l2.1]; simp [l1]
      have hg : 0 + (Pat.group p).groups = p.groups + 1 := by simp [Pat.groups]
      rw [hg] at l2 ⊢
      refine ⟨k, hk.congr (fun r _ => ?_), ?_, ?_, ?_, ?_⟩
      · show (mT (.group p) x 0 r && restT [.group q] x r x.length) = _
        rw [← mT_group]
        congr 1
        rw [Bool.eq_iff_iff, restT_iff, mT_iff]
        constructor
        · rintro ⟨h1, u, v, e, hu, hv⟩
          rw [show v = [] from hv, List.append_nil] at e
          exact ⟨h1, e ▸ hu⟩
        · rintro ⟨h1, h2⟩
          exact ⟨h1, _, [], by simp, h2, rfl⟩
      · rw [List.getElem?_set_ne (by omega), List.getElem?_set_ne (by omega), l2.2 0 (by omega), List.getElem?_set_ne (by omega)]
        exact List.getElem?_set_self (by omega)
      · rw [List.getElem?_set_ne (by omega), List.getElem?_set_ne (by omega), l2.2 1 (by omega)]
        exact List.getElem?_set_self (by simp; omega)
      · rw [List.getElem?_set_ne (by omega)]
        exact List.getElem?_set_self (by omega)
      · exact List.getElem?_set_self (by simp; omega)
    · exact absurd rfl h0
  · exact h.elim
theorem pos_pre {u : List UInt8} {a : List Int} (h : Runes u a) (v : List UInt8) : posOf a.length (u ++ v) = u.length := by
  induction h with
  | nil => rfl
  | cons hne hd hn _ ih =>
    rename_i bs c n l _
    have hle := decL_le hne hd
    have e : decL (bs ++ v) = (c, n) := decL_pre hd hn (by rw [List.length_append]; omega) fun j hj => byteAt_append (by omega)
    show (decL (bs ++ v)).2 + posOf l.length ((bs ++ v).drop (decL (bs ++ v)).2) = bs.length
    rw [e]
    show n + posOf l.length ((bs ++ v).drop n) = _
    rw [List.drop_append_of_le_length hle.2, ih, List.length_drop]
    omega
/-- A place in bytes at which a text parts so. -/
def GoodC (p q : Pat) (bs : List UInt8) (i : Nat) : Prop := i ≤ bs.length ∧ Yes p (bs.take i) ∧ Yes q (bs.drop i)
theorem goodC_iff {p q : Pat} {bs : List UInt8} {l : List Int} (h : Runes bs l) {i : Nat} : GoodC p q bs i ↔ ∃ k, k ≤ l.length ∧ i = posOf k bs ∧ mT p l 0 k = true ∧ mT q l k l.length = true := by
  constructor
  · rintro ⟨h0, ⟨a, ha, pa⟩, b, hb, qb⟩
    have := runes_append ha hb
    rw [List.take_append_drop] at this
    have e := runes_unique this h
    subst e
    have hp := pos_pre ha (bs.drop i)
    rw [List.take_append_drop, List.length_take, Nat.min_eq_left h0] at hp
    refine ⟨a.length, by simp, hp.symm, mT_iff.2 ⟨Nat.zero_le _, ?_⟩, mT_iff.2 ⟨by simp, ?_⟩⟩
    · have : sub (a ++ b) 0 a.length = a := by simp [sub]
      rw [this]; exact pa
    · have : sub (a ++ b) a.length (a ++ b).length = b := by simp [sub]
      rw [this]; exact qb
  · rintro ⟨k, hk, rfl, h1, h2⟩
    have e : l = sub l 0 k ++ sub l k l.length := by rw [← sub_cat (Nat.zero_le _) hk, sub_all]
    rw [e] at h
    obtain ⟨u, v, hu, ru, rv⟩ := runes_split h
    have hl : (sub l 0 k).length = k := by rw [sub_len (Nat.zero_le _) hk]; omega
    have hp := pos_pre ru v
    rw [hl, ← hu] at hp
    rw [hp, hu]
    exact ⟨by simp, ⟨_, by simpa using ru, (mT_iff.1 h1).2⟩, _, by simpa using rv, (mT_iff.1 h2).2⟩
/-- The greatest so far. -/
def BestI (p q : Pat) (bs : List UInt8) (i : Nat) (b : Int) : Prop := (b = -1 ∧ ∀ j, j < i → ¬ GoodC p q bs j) ∨ ∃ g : Nat, b = (g : Int) ∧ g < i ∧ GoodC p q bs g ∧ ∀ j, g < j → j < i → ¬ GoodC p q bs j
theorem BestI.yes {p q : Pat} {bs : List UInt8} {i : Nat} (h : GoodC p q bs i) : BestI p q bs (i + 1) (i : Int) := .inr ⟨i, rfl, by omega, h, fun j h1 h2 => by omega⟩
theorem BestI.no {p q : Pat} {bs : List UInt8} {i : Nat} {b : Int} (k : BestI p q bs i b) (h : ¬ GoodC p q bs i) : BestI p q bs (i + 1) b := by
  rcases k with ⟨rfl, k⟩ | ⟨g, rfl, k1, k2, k3⟩
  · exact .inl ⟨rfl, fun j hj => by
      by_cases e : j = i
      · rw [e]; exact h
      · exact k j (by omega)⟩
  · exact .inr ⟨g, rfl, by omega, k2, fun j h1 h2 => by
      by_cases e : j = i
      · rw [e]; exact h
      · exact k3 j h1 (by omega)⟩
theorem pair_mt {p q : Pat} {bs : List UInt8} {l : List Int} (h : Runes bs l) : mT (pairP p q) l 0 l.length = true ↔ ∃ i, GoodC p q bs i := by
  rw [mT_iff, sub_all]
  show (0 ≤ l.length ∧ Pat.Mt (.or [.and [.row [.group p, .group q]]]) l) ↔ _
  rw [mt_row2]
  constructor
  · rintro ⟨_, a, b, rfl, ha, hb⟩
    refine ⟨_, (goodC_iff h).2 ⟨a.length, by simp, rfl, mT_iff.2 ⟨Nat.zero_le _, ?_⟩, mT_iff.2 ⟨by simp, ?_⟩⟩⟩
    · have : sub (a ++ b) 0 a.length = a := by simp [sub]
      rw [this]; exact ha
    · have : sub (a ++ b) a.length (a ++ b).length = b := by simp [sub]
      rw [this]; exact hb
  · rintro ⟨i, hi⟩
    obtain ⟨k, hk, _, h1, h2⟩ := (goodC_iff h).1 hi
    exact ⟨Nat.zero_le _, _, _, (by rw [← sub_cat (Nat.zero_le _) hk, sub_all]), (mT_iff.1 h1).2, (mT_iff.1 h2).2⟩
/-- The greatest of all is where the first part ends. -/
theorem best_end {p q : Pat} {bs : List UInt8} {l : List Int} (h : Runes bs l) {b : Int} (hb : BestI p q bs (bs.length + 1) b) :
    (b = -1 ∧ mT (pairP p q) l 0 l.length = false) ∨ (0 ≤ b ∧ mT (pairP p q) l 0 l.length = true ∧ ∀ k, HiB (fun r => mT p l 0 r && mT q l r l.length) (l.length + 1) k → b = (posOf k bs : Int)) := by
  rcases hb with ⟨rfl, k⟩ | ⟨g, rfl, k1, k2, k3⟩
  · refine .inl ⟨rfl, Bool.eq_false_iff.2 fun e => ?_⟩
    obtain ⟨i, hi⟩ := (pair_mt h).1 e
    exact k i (by have := hi.1; omega) hi
  · refine .inr ⟨by omega, (pair_mt h).2 ⟨g, k2⟩, fun k hk => ?_⟩
    have hf := hk.2.1
    simp only [Bool.and_eq_true] at hf
    have hG : GoodC p q bs (posOf k bs) := (goodC_iff h).2 ⟨k, by have := hk.1; omega, rfl, hf.1, hf.2⟩
    obtain ⟨k', h1, h2, h3, h4⟩ := (goodC_iff h).1 k2
    have hle := hk.ge (j := k') (by omega) (by simp [h3, h4])
    have hm := pos_mono bs k' (k - k')
    rw [show k' + (k - k') = k by omega, ← h2] at hm
    rcases Nat.lt_or_ge g (posOf k bs) with hlt | hge
    · exact absurd hG (k3 _ hlt (by have := hG.1; omega))
    · congr 1; omega
end Go.Proofs.YtlflfcjbpnnfcaaGreatDoor
/- The law Longest: a walk. -/
namespace Go.Proofs.YtlflfcjbpnnfcaaGreatDoor
open Go.Shelf Go.RowKit Go.Lib Brm

theorem RX.few {w : World} {A : Nat → Prop} {p : Pat} {bx : Nat} (h : RX w A p bx) : p.groups ≤ 1000 := by
  obtain ⟨_, _, _, _, _, _, _, _, _, _, _, _, _, _, _, _, _, _, _, _, h9⟩ := h
  exact h9
theorem isv_beq {p : Pat} {bs : List UInt8} {v : Int} (h : IsV p bs v) (y : Yes p bs) : (v == 1) = true := by rw [h.one.2 y]; rfl
theorem isv_bne {p : Pat} {bs : List UInt8} {v : Int} (h : IsV p bs v) (y : ¬ Yes p bs) : (v == 1) = false := beq_eq_false_iff_ne.2 fun e => y (h.one.1 e)
/-- What Groups answers, for the law. -/
def LoA (p q : Pat) (l : List Int) (bs : List UInt8) (w : World) (ao : Option Addr) (n : Nat) (er : Int) : Prop :=
  (mT (pairP p q) l 0 l.length = false ∧ n = 0 ∧ er = 8) ∨
  (mT (pairP p q) l 0 l.length = true ∧ er = 0 ∧ ∃ gb G k, ao = some ⟨gb, 0, none⟩ ∧ Blk w gb (gInts G) 3 ∧ G.length = n ∧ n = 2 * (p.groups + q.groups + 2) ∧ n ≤ 100000 ∧ HiB (fun r => mT p l 0 r && mT q l r l.length) (l.length + 1) k ∧ G[0]? = some 0 ∧ G[1]? = some (posOf k bs : Int) ∧ G[2 * (p.groups + 1)]? = some (posOf k bs : Int) ∧ G[2 * (p.groups + 1) + 1]? = some (bs.length : Int))
theorem LoA.below {p q : Pat} {l : List Int} {bs : List UInt8} {w w' : World} {ao : Option Addr} {n : Nat} {er : Int} (h : LoA p q l bs w ao n er) (k : Below w.heap.size w w') : LoA p q l bs w' ao n er := by
  rcases h with h | ⟨h1, h2, gb, G, m, h3, h4, h5⟩
  · exact .inl h
  · exact .inr ⟨h1, h2, gb, G, m, h3, h4.below k, h5⟩
theorem loa_of {p q : Pat} {l : List Int} {bs : List UInt8} {w0 w : World} {e : Ending} (hr : Runes bs l) (h40 : bs.length ≤ 40) (hg : (pairP p q).groups ≤ 1000) (h : GrpA (pairP p q) bs w0 e w) : ∃ ao n er, e = .returned (.tuple #[.slice ao n n, .int .i64 er]) ∧ LoA p q l bs w ao n er := by
  obtain ⟨er, ol, htr, hans⟩ := h
  obtain ⟨rfl, rfl⟩ := textR_unique (show TextR bs 0 (some l) from .inr (.inr ⟨h40, l, hr, rfl, rfl⟩)) htr
  rcases hans with ⟨hmf, rfl⟩ | ⟨hmt, gb, got, rfl, hgb, hblk, hlen, htk⟩
  · exact ⟨none, 0, 8, rfl, .inl ⟨hmf, rfl, rfl⟩⟩
  · have hgr := pair_groups p q
    obtain ⟨k, hk, t0, t1, t2, t3⟩ := tk_pair (by rw [List.length_replicate]; omega) htk
    refine ⟨some ⟨gb, 0, none⟩, got.length, 0, rfl, .inr ⟨hmt, rfl, gb, got.map (toB bs), k, rfl, hblk, List.length_map _, by omega, by omega, hk, ?_, ?_, ?_, ?_⟩⟩
    · rw [List.getElem?_map, t0]; rfl
    · rw [List.getElem?_map, t1]; show some (toB bs (k : Int)) = _; rw [toB_nat]
    · rw [List.getElem?_map, t2]; show some (toB bs (k : Int)) = _; rw [toB_nat]
    · rw [List.getElem?_map, t3]; show some (toB bs (l.length : Int)) = _; rw [toB_nat, posOf_all hr]
set_option maxRecDepth 100000 in
set_option maxHeartbeats 8000000 in
theorem longlaw_walk (a1 a2 a3 : Option Addr) (c1 c2 c3 : Nat) (r1 r2 r3 : List Int) (w : World) (hT : ATab w) (h1 : IntsA w a1 r1) (h2 : IntsA w a2 r2) (h3 : IntsA w a3 r3) (l1 : r1.length ≤ 9223372036854775807) (l2 : r2.length ≤ 9223372036854775807) (l3 : r3.length ≤ 9223372036854775807) :
    Calls Tryz.prog 12 #[.slice a1 r1.length c1, .slice a2 r2.length c2, .slice a3 r3.length c3] w fun e w' => e = .returned (.bool true) ∧ Below w.heap.size w w' := by
  have HT := hide hT
  have HI2 := hide h2
  have HI3 := hide h3
  have HC := hide (pattern_any a1 c1 r1 w h1 l1)
  clear hT h1 h2 h3
  go_enter Tryz.func12, Tryz.ntmps12
  go_wp2_with fail
  refine HC.out.mono ?_
  rintro e x1 ⟨s1, rfl, ⟨⟨p, hp, hcl⟩, z1⟩, hb1⟩
  have X1 := hide hb1
  have HW := hide hp
  have HCL := hide hcl
  have HC2 := hide (pattern_any a2 c2 r2 x1 (HI2.out.below hb1) l2)
  clear hb1 hp hcl HC
  go_wp2_with fail
  refine HC2.out.mono ?_
  rintro e x2 ⟨s2, rfl, ⟨⟨q, hq, hcl2⟩, z2⟩, hb2⟩
  have X2 := hide (X1.out.trans (hb2.mono X1.out.size))
  have HW2 := hide hq
  have HCLP := hide (pair_cl HCL.out hcl2)
  have hsz : (ByteArray.mk #[40] ++ s1 ++ ByteArray.mk #[41, 40] ++ s2 ++ ByteArray.mk #[41]).size = s1.size + s2.size + 4 := by
    have : (ByteArray.mk #[40]).size = 1 := rfl
    have : (ByteArray.mk #[41, 40]).size = 2 := rfl
    have : (ByteArray.mk #[41]).size = 1 := rfl
    simp only [ByteArray.size_append]; omega
  have HRD : Hid (ReadR (bytesOf (ByteArray.mk #[40] ++ s1 ++ ByteArray.mk #[41, 40] ++ s2 ++ ByteArray.mk #[41])) (0, 0, some (pairP p q))) := whole_read (by rw [bytes_add, bytes_add, bytes_add, bytes_add]; exact Brm.good_row HW.out hq) (by decide) (by rw [bytes_len, hsz]; omega)
  have HMD := hide (kmade_walk _ x2 (pairP p q) (HT.out.below (X1.out.trans (hb2.mono X1.out.size))) (by rw [hsz]; omega) HRD.out)
  have HOK := hide (readR_some HRD.out).2.2.1
  clear hb2 hq hcl2 HC2 hsz
  go_wp2_with fail
  refine HMD.out.mono ?_
  rintro e x3 ⟨hb3, bx, rfl, hX⟩
  have X3 := hide (X2.out.trans (hb3.mono X2.out.size))
  have HX := hide hX
  have HC3 := hide (ktext_any a3 c3 r3 x3 (HI3.out.below (X2.out.trans (hb3.mono X2.out.size))) l3)
  clear hb3 hX HMD
  go_wp2_with fail
  refine HC3.out.mono ?_
  rintro e x4 ⟨t, rfl, ⟨⟨l, hl⟩, zt⟩, hb4⟩
  have X4 := hide (X3.out.trans (hb4.mono X3.out.size))
  have HR := hide hl
  have HGR := hide (rxgroups_any (pairP p q) HOK.out HCLP.out bx t x4 _ (HX.out.below hb4) ((HT.out.below (X3.out.trans (hb4.mono X3.out.size))).1) (by omega))
  have HLB := hide (bytes_len t)
  clear hb4 hl HC3
  go_wp2_with fail
  refine HGR.out.mono ?_
  rintro e x5 ⟨hb5, hans⟩
  have X5 := hide (X4.out.trans (hb5.mono X4.out.size))
  obtain ⟨ao, n, er, rfl, hlo⟩ := loa_of HR.out (by rw [HLB.out]; omega) HX.out.few hans
  have HLO := hide hlo
  have A1 := hide (fun i (x : World) (hx : Below w.heap.size w x) => is_pre (HT.out.below hx) HW.out z1 zt i)
  have A2 := hide (fun i (x : World) (hx : Below w.heap.size w x) => is_suf (HT.out.below hx) HW2.out z2 zt i)
  clear hb5 hans hlo HGR
  go_wp2_with fail
  go_loopw [13, 14] (fun bv iv wr => ∃ i : Nat, ∃ b : Int, i ≤ t.size + 1 ∧ iv = .int .i64 i ∧ bv = .int .i64 b ∧ BestI p q (bytesOf t) i b ∧ -1 ≤ b ∧ b ≤ 100 ∧ Below x5.heap.size x5 wr) (fun _ iv _ => t.size + 1 - (intOf iv).toNat)
  case atStart => exact ⟨0, -1, by omega, rfl, rfl, .inl ⟨rfl, fun j hj => by omega⟩, by omega, by omega, Below.refl _ _⟩
  case round =>
    obtain ⟨i, b, hi, rfl, rfl, hbest, hb1, hb2, hbel⟩ := hrel
    have HBEST := hide hbest
    have HBL := hide hbel
    have HBW := hide (X5.out.trans (hbel.mono X5.out.size))
    have i0 : (0 : Int) ≤ (i : Int) := Int.natCast_nonneg _
    clear hbest hbel
    by_cases hle : i ≤ t.size
    · have i1 : (i : Int) ≤ (t.size : Int) := by omega
      have i2 : decide ((i : Int) ≤ (t.size : Int)) = true := decide_eq_true i1
      go_wp2_with fail
      refine (A1.out i wr HBW.out wr (Below.refl _ _)).mono ?_
      rintro e y1 ⟨hx, u1, rfl, b9⟩
      have Y1 := hide hx
      have B9 := hide b9
      clear hx b9
      go_wp2_with fail
      refine (A2.out i y1 (HBW.out.trans (Y1.out.mono HBW.out.size)) y1 (Below.refl _ _)).mono ?_
      rintro e y2 ⟨hx, u2, rfl, b10⟩
      have Y2 := hide (HBL.out.trans ((Y1.out.trans (hx.mono Y1.out.size)).mono HBL.out.size))
      have B10 := hide b10
      clear hx b10
      by_cases yA : Yes p ((bytesOf t).take i)
      · have fA := isv_beq B9.out yA
        by_cases yB : Yes q ((bytesOf t).drop i)
        · have fB := isv_beq B10.out yB
          go_wp2_with fail
          go_roundw
          case rel => exact ⟨i + 1, (i : Int), by omega, by go_num, rfl, BestI.yes ⟨by rw [HLB.out]; exact hle, yA, yB⟩, by omega, by omega, Y2.out⟩
          case measure => simp [intOf]; omega
        · have fB := isv_bne B10.out yB
          go_wp2_with fail
          go_roundw
          case rel => exact ⟨i + 1, b, by omega, by go_num, rfl, HBEST.out.no (fun h => yB h.2.2), hb1, hb2, Y2.out⟩
          case measure => simp [intOf]; omega
      · have fA := isv_bne B9.out yA
        go_wp2_with fail
        go_roundw
        case rel => exact ⟨i + 1, b, by omega, by go_num, rfl, HBEST.out.no (fun h => yA h.2.1), hb1, hb2, Y2.out⟩
        case measure => simp [intOf]; omega
    · have hie : i = (bytesOf t).length + 1 := by rw [HLB.out]; omega
      have i1 : ¬ (i : Int) ≤ (t.size : Int) := by omega
      have i2 : decide ((i : Int) ≤ (t.size : Int)) = false := decide_eq_false i1
      have hend := best_end HR.out (by rw [← hie]; exact HBEST.out)
      have hlo := HLO.out.below HBL.out
      clear hie
      rcases hend with ⟨rfl, hmf⟩ | ⟨hb0, hmt, hhi⟩
      · rcases hlo with ⟨_, rfl, rfl⟩ | ⟨hm, _⟩
        · clear hmf
          go_wp2_with fail
          go_ret
          exact ⟨rfl, HBW.out⟩
        · rw [hmf] at hm; cases hm
      · rcases hlo with ⟨hm, _⟩ | ⟨_, rfl, gb, G, k, rfl, hblk, hGl, hn, hns, hk, g0, g1, g2, g3⟩
        · rw [hmt] at hm; cases hm
        · have hbk := hhi k hk
          rw [← hbk] at g1 g2
          rw [HLB.out] at g3
          have HBLK := hide hblk
          have hbl := hblk.lt
          have e0 : wr.cell? ⟨gb, 0, none⟩ = some (.int .i64 0) := by rw [hblk.cell]; exact gInts_at g0
          have e1 : wr.cell? ⟨gb, 1, none⟩ = some (.int .i64 b) := by rw [hblk.cell]; exact gInts_at g1
          have HG2 := hide g2
          have HG3 := hide g3
          have HGL := hide hGl
          have HN := hide hn
          have n4 : (4 : Int) ≤ (n : Int) := by omega
          have n4' : decide ((4 : Int) ≤ (n : Int)) = true := decide_eq_true n4
          have n0 : (0 : Int) < (n : Int) := by omega
          have n1 : (1 : Int) < (n : Int) := by omega
          have bn : decide (b < 0) = false := decide_eq_false (by omega)
          have bn2 : ¬ b < 0 := by omega
          have hn4 : 4 ≤ n := by omega
          clear hblk hGl hn hk g0 g1 g2 g3 hbk hhi hmt
          go_wp2_with fail
          go_loopw [17, 18] (fun ev iv w9 => ∃ j m : Nat, ∃ f : Bool, j = 2 * m ∧ j ≤ n ∧ iv = .int .i64 j ∧ ev = .bool f ∧ (2 * (p.groups + 1) < j → f = true) ∧ w9 = wr) (fun _ iv _ => n - (intOf iv).toNat)
          case atStart => exact ⟨2, 1, false, rfl, by omega, rfl, rfl, fun h => by omega, rfl⟩
          case round =>
            obtain ⟨j, m, f, hjm, hjn, rfl, rfl, hf, hw9⟩ := hrel
            have hw8 := hw9.symm
            subst hw8
            clear hw9
            have HJM := hide hjm
            have HF := hide hf
            have j0 : (0 : Int) ≤ (j : Int) := Int.natCast_nonneg _
            by_cases hlt : j < n
            · have hj1 : j + 1 < n := by have := HN.out; omega
              have j1 : (j : Int) < (n : Int) := by omega
              have j2 : (j : Int) + 1 < (n : Int) := by omega
              have j3 : (0 : Int) ≤ (j : Int) + 1 := by omega
              obtain ⟨v0, hv0⟩ : ∃ v0, G[j]? = some v0 := ⟨_, List.getElem?_eq_getElem (by rw [HGL.out]; exact hlt)⟩
              obtain ⟨v1, hv1⟩ : ∃ v1, G[j + 1]? = some v1 := ⟨_, List.getElem?_eq_getElem (by rw [HGL.out]; exact hj1)⟩
              have y0 := (HBLK.out.cell j).trans (gInts_at hv0)
              have y1 := (HBLK.out.cell (j + 1)).trans (gInts_at hv1)
              have HV0 := hide hv0
              have HV1 := hide hv1
              clear hjm hf hv0 hv1
              cases f with
              | true =>
                go_wp2_with fail
                go_roundw
                case rel => exact ⟨j + 2, m + 1, true, by have := HJM.out; omega, by omega, by go_num, rfl, fun _ => rfl, trivial⟩
                case measure => simp [intOf]; omega
              | false =>
                by_cases q0 : v0 = b
                · have q0' : (v0 == b) = true := beq_iff_eq.2 q0
                  by_cases q1 : v1 = (t.size : Int)
                  · have q1' : (v1 == (t.size : Int)) = true := beq_iff_eq.2 q1
                    clear q0 q1
                    go_wp2_with fail
                    go_roundw
                    case rel => exact ⟨j + 2, m + 1, true, by have := HJM.out; omega, by omega, by go_num, rfl, fun _ => rfl, trivial⟩
                    case measure => simp [intOf]; omega
                  · have q1' : (v1 == (t.size : Int)) = false := beq_eq_false_iff_ne.2 q1
                    have HQ1 := hide q1
                    clear q0 q1
                    go_wp2_with fail
                    go_roundw
                    case rel =>
                      refine ⟨j + 2, m + 1, false, by have := HJM.out; omega, by omega, by go_num, rfl, fun h => ?_, trivial⟩
                      by_cases hj : 2 * (p.groups + 1) < j
                      · exact HF.out hj
                      · have hje : 2 * (p.groups + 1) = j := by have := HJM.out; omega
                        have h9 := HG3.out
                        rw [hje, HV1.out] at h9
                        exact absurd (Option.some.inj h9) HQ1.out
                    case measure => simp [intOf]; omega
                · have q0' : (v0 == b) = false := beq_eq_false_iff_ne.2 q0
                  have HQ0 := hide q0
                  clear q0
                  go_wp2_with fail
                  go_roundw
                  case rel =>
                    refine ⟨j + 2, m + 1, false, by have := HJM.out; omega, by omega, by go_num, rfl, fun h => ?_, trivial⟩
                    by_cases hj : 2 * (p.groups + 1) < j
                    · exact HF.out hj
                    · have hje : 2 * (p.groups + 1) = j := by have := HJM.out; omega
                      have h9 := HG2.out
                      rw [hje, HV0.out] at h9
                      exact absurd (Option.some.inj h9) HQ0.out
                  case measure => simp [intOf]; omega
            · have hft : f = true := hf (by have := HN.out; omega)
              subst hft
              have j1 : decide (j < n) = false := decide_eq_false hlt
              clear hjm hf
              go_wp2_with fail
              go_ret
              exact ⟨rfl, HBW.out⟩
end Go.Proofs.YtlflfcjbpnnfcaaGreatDoor
