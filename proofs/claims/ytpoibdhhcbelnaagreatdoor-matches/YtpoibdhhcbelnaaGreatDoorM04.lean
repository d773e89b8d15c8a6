/- Walks and plain laws, some texts in one. -/
import Derived.Lib.DecodeN
import Derived.Test.YtpoibdhhcbelnaaGreatDoorM03
/- Texts as runes, plainly: no program stands here. -/
namespace Go.Proofs.YtpoibdhhcbelnaaGreatDoor
namespace Brm

def byteAt (bs : List UInt8) (k : Nat) : Nat := (bs.getD k 0).toNat
/-- The rune at the front of a text, and how many bytes it has; 65533 and 1: none is there. -/
def decL (bs : List UInt8) : Nat × Nat := Lib.decodeN bs.length (byteAt bs 0) (byteAt bs 1) (byteAt bs 2) (byteAt bs 3)
def noRune : Nat × Nat := (65533, 1)
theorem byteAt_lt (bs : List UInt8) (k : Nat) : byteAt bs k < 256 := (bs.getD k 0).toNat_lt
theorem byteAt_out {bs : List UInt8} {k : Nat} (h : bs.length ≤ k) : byteAt bs k = 0 := by
  unfold byteAt
  rw [List.getD_eq_getElem?_getD, List.getElem?_eq_none h]; rfl

theorem decL_fit {bs : List UInt8} (hne : bs ≠ []) : 1 ≤ (decL bs).2 ∧ (decL bs).2 ≤ bs.length ∧ (decL bs).2 ≤ 4 ∧ runeB (decL bs).1 = true := by
  have hl : 1 ≤ bs.length := by cases bs with | nil => exact absurd rfl hne | cons => simp
  have h0 := byteAt_lt bs 0
  have h1 := byteAt_lt bs 1
  have h2 := byteAt_lt bs 2
  have h3 := byteAt_lt bs 3
  unfold decL Lib.decodeN
  repeat' split
  all_goals simp only [rune_iff]
  all_goals refine ⟨by omega, by omega, by omega, by omega⟩
theorem decL_ascii {bs : List UInt8} (h : (decL bs).1 < 128) : (decL bs).1 = byteAt bs 0 ∧ (decL bs).2 = 1 := by
  unfold decL Lib.decodeN at h ⊢
  revert h
  repeat' split
  all_goals intro h
  all_goals first | (exact ⟨rfl, rfl⟩) | (exfalso; simp only at h; omega)
theorem decL_low {bs : List UInt8} (h : byteAt bs 0 < 128) : decL bs = (byteAt bs 0, 1) := by
  unfold decL Lib.decodeN; rw [if_pos h]

inductive Runes : List UInt8 → List Int → Prop
  | nil : Runes [] []
  | cons {bs : List UInt8} {c n : Nat} {l : List Int} : bs ≠ [] → decL bs = (c, n) → (c, n) ≠ noRune → Runes (bs.drop n) l → Runes bs ((c : Int) :: l)
inductive Broken : List UInt8 → Nat → Prop
  | here {bs : List UInt8} : bs ≠ [] → decL bs = noRune → Broken bs 0
  | later {bs : List UInt8} {c n k : Nat} : bs ≠ [] → decL bs = (c, n) → (c, n) ≠ noRune → Broken (bs.drop n) k → Broken bs (n + k)

theorem runes_or : ∀ (m : Nat) (bs : List UInt8), bs.length ≤ m → (∃ l, Runes bs l) ∨ ∃ k, Broken bs k
  | 0, bs, h => by
    have : bs = [] := List.length_eq_zero_iff.1 (by omega)
    subst this; exact .inl ⟨[], .nil⟩
  | m + 1, bs, h => by
    by_cases hne : bs = []
    · subst hne; exact .inl ⟨[], .nil⟩
    · have hf := decL_fit hne
      by_cases hd : decL bs = noRune
      · exact .inr ⟨0, .here hne hd⟩
      · rcases runes_or m (bs.drop (decL bs).2) (by rw [List.length_drop]; omega) with ⟨l, hl⟩ | ⟨k, hk⟩
        · exact .inl ⟨_, .cons hne (c := (decL bs).1) (n := (decL bs).2) rfl hd hl⟩
        · exact .inr ⟨_, .later hne (c := (decL bs).1) (n := (decL bs).2) rfl hd hk⟩
theorem runes_all {bs : List UInt8} {l : List Int} (h : Runes bs l) : AllR l := by
  induction h with
  | nil => intro c hc; simp at hc
  | cons hne hd hn hr ih =>
    intro d hmem
    rcases List.mem_cons.1 hmem with rfl | hm
    · have := (decL_fit hne).2.2.2; rw [hd] at this; exact this
    · exact ih d hm
theorem runes_len {bs : List UInt8} {l : List Int} (h : Runes bs l) : l.length ≤ bs.length := by
  induction h with
  | nil => simp
  | cons hne hd hn hr ih =>
    have := decL_fit hne
    rw [hd] at this
    rw [List.length_drop] at ih
    simp only [List.length_cons]; simp only at this; omega
theorem runes_unique {bs : List UInt8} {l : List Int} (h : Runes bs l) : ∀ {l' : List Int}, Runes bs l' → l' = l := by
  induction h with
  | nil => intro l' h'; cases h' with | nil => rfl | cons hne => exact absurd rfl hne
  | cons hne hd hn hr ih =>
    intro l' h'
    cases h' with
    | nil => exact absurd rfl hne
    | cons hne' hd' hn' hr' =>
      rw [hd] at hd'
      cases hd'
      rw [ih hr']
theorem runes_not_broken {bs : List UInt8} {l : List Int} (h : Runes bs l) : ∀ k, ¬ Broken bs k := by
  induction h with
  | nil => intro k hk; cases hk with | here hne => exact hne rfl | later hne => exact hne rfl
  | cons hne hd hn hr ih =>
    intro k hk
    cases hk with
    | here _ hd' => exact hn (hd.symm.trans hd')
    | later _ hd' hn' hb => rw [hd] at hd'; cases hd'; exact ih _ hb
theorem broken_unique {bs : List UInt8} {k : Nat} (h : Broken bs k) : ∀ {k' : Nat}, Broken bs k' → k' = k := by
  induction h with
  | here hne hd =>
    intro k' h'
    cases h' with
    | here => rfl
    | later _ hd' hn' _ => exact absurd (hd'.symm.trans hd) hn'
  | later hne hd hn hb ih =>
    intro k' h'
    cases h' with
    | here _ hd' => exact absurd (hd.symm.trans hd') hn
    | later _ hd' hn' hb' => rw [hd] at hd'; cases hd'; rw [ih hb']
/-- How many bytes the first runes have. -/
def posOf : Nat → List UInt8 → Nat
  | 0, _ => 0
  | j + 1, bs => (decL bs).2 + posOf j (bs.drop (decL bs).2)
theorem runes_drop {bs : List UInt8} {l : List Int} (h : Runes bs l) : ∀ (j : Nat), j ≤ l.length → Runes (bs.drop (posOf j bs)) (l.drop j) ∧ posOf j bs ≤ bs.length := by
  induction h with
  | nil => intro j hj; simp at hj; subst hj; exact ⟨.nil, by simp [posOf]⟩
  | @cons bs c n l hne hd hn hr ih =>
    intro j hj
    cases j with
    | zero => exact ⟨.cons hne hd hn hr, by simp [posOf]⟩
    | succ j =>
      have := ih j (by simpa using hj)
      have hf := decL_fit hne
      rw [hd] at hf
      simp only [posOf, hd]
      rw [List.drop_drop] at this
      rw [List.length_drop] at this
      refine ⟨this.1, ?_⟩
      simp only at hf
      omega
theorem posOf_succ : ∀ (j : Nat) (bs : List UInt8), posOf (j + 1) bs = posOf j bs + (decL (bs.drop (posOf j bs))).2
  | 0, bs => by simp [posOf]
  | j + 1, bs => by
    rw [posOf, posOf_succ j (bs.drop (decL bs).2), posOf, List.drop_drop, Nat.add_assoc]
theorem posOf_all {bs : List UInt8} {l : List Int} (h : Runes bs l) : posOf l.length bs = bs.length := by
  have := runes_drop h l.length (Nat.le_refl _)
  rw [List.drop_length] at this
  have h2 : bs.drop (posOf l.length bs) = [] := by
    cases hd : bs.drop (posOf l.length bs) with
    | nil => rfl
    | cons a t =>
      have h3 := this.1
      rw [hd] at h3
      cases h3
  have h4 := List.drop_eq_nil_iff.1 h2
  omega
theorem runes_head {bs : List UInt8} {c : Int} {l : List Int} (h : Runes bs (c :: l)) : bs ≠ [] ∧ ((decL bs).1 : Int) = c ∧ decL bs ≠ noRune ∧ Runes (bs.drop (decL bs).2) l := by
  cases h with
  | cons hne hd hn hr => rw [hd]; exact ⟨hne, rfl, hn, hr⟩
end Brm
end Go.Proofs.YtpoibdhhcbelnaaGreatDoor
/- The rune at the front of a text, by its first byte: no program stands here. -/
namespace Go.Proofs.YtpoibdhhcbelnaaGreatDoor
namespace Brm

def contB (b : Nat) : Bool := decide (128 ≤ b ∧ b ≤ 191)
theorem cont_iff {b : Nat} : contB b = true ↔ 128 ≤ b ∧ b ≤ 191 := by simp [contB]
/-- A rune of n bytes out of its number and the least one that n bytes may have. -/
def okRune (least c : Nat) : Bool := decide (least ≤ c ∧ c ≤ 1114111 ∧ ¬ (55296 ≤ c ∧ c < 57344))
theorem okRune_iff {least c : Nat} : okRune least c = true ↔ (least ≤ c ∧ c ≤ 1114111 ∧ ¬ (55296 ≤ c ∧ c < 57344)) := by simp only [okRune, decide_eq_true_eq]
def num2 (bs : List UInt8) : Nat := 64 * (byteAt bs 0 - 192) + (byteAt bs 1 - 128)
def num3 (bs : List UInt8) : Nat := 64 * (64 * (byteAt bs 0 - 224) + (byteAt bs 1 - 128)) + (byteAt bs 2 - 128)
def num4 (bs : List UInt8) : Nat := 64 * (64 * (64 * (byteAt bs 0 - 240) + (byteAt bs 1 - 128)) + (byteAt bs 2 - 128)) + (byteAt bs 3 - 128)
theorem dec_none {bs : List UInt8} (h : (128 ≤ byteAt bs 0 ∧ byteAt bs 0 < 192) ∨ 248 ≤ byteAt bs 0) : decL bs = noRune := by
  have h0 := byteAt_lt bs 0
  unfold decL Lib.decodeN noRune
  rw [if_neg (by omega), if_neg (by omega), if_neg (by omega), if_neg (by omega)]
theorem dec_two {bs : List UInt8} (h1 : 192 ≤ byteAt bs 0) (h2 : byteAt bs 0 < 224) : decL bs = if 2 ≤ bs.length ∧ contB (byteAt bs 1) = true ∧ okRune 128 (num2 bs) = true then (num2 bs, 2) else noRune := by
  have h3 := byteAt_lt bs 1
  simp only [cont_iff, okRune_iff]
  unfold decL Lib.decodeN noRune num2
  rw [if_neg (by omega)]
  by_cases c : 1 < bs.length ∧ byteAt bs 1 / 64 = 2
  · rw [if_pos ⟨by omega, c⟩]
    by_cases d : byteAt bs 0 % 32 * 64 + byteAt bs 1 % 64 ≥ 128
    · rw [if_pos d, if_pos (by omega)]; exact Prod.ext (by simp only; omega) rfl
    · rw [if_neg d, if_neg (by omega)]
  · rw [if_neg (by omega), if_neg (by omega), if_neg (by omega), if_neg (by omega)]
theorem dec_three {bs : List UInt8} (h1 : 224 ≤ byteAt bs 0) (h2 : byteAt bs 0 < 240) :
    decL bs = if 3 ≤ bs.length ∧ contB (byteAt bs 1) = true ∧ contB (byteAt bs 2) = true ∧ okRune 2048 (num3 bs) = true then (num3 bs, 3) else noRune := by
  have h3 := byteAt_lt bs 1
  have h4 := byteAt_lt bs 2
  simp only [cont_iff, okRune_iff]
  unfold decL Lib.decodeN noRune num3
  rw [if_neg (by omega), if_neg (by omega)]
  by_cases c : (1 < bs.length ∧ byteAt bs 1 / 64 = 2) ∧ (2 < bs.length ∧ byteAt bs 2 / 64 = 2)
  · rw [if_pos ⟨by omega, c⟩]
    split
    · rw [if_pos (by omega)]; exact Prod.ext (by simp only; omega) rfl
    · rw [if_neg (by omega)]
  · rw [if_neg (by omega), if_neg (by omega), if_neg (by omega)]
theorem dec_four {bs : List UInt8} (h1 : 240 ≤ byteAt bs 0) (h2 : byteAt bs 0 < 248) :
    decL bs = if 4 ≤ bs.length ∧ contB (byteAt bs 1) = true ∧ contB (byteAt bs 2) = true ∧ contB (byteAt bs 3) = true ∧ okRune 65536 (num4 bs) = true then (num4 bs, 4) else noRune := by
  have h3 := byteAt_lt bs 1
  have h4 := byteAt_lt bs 2
  have h5 := byteAt_lt bs 3
  simp only [cont_iff, okRune_iff]
  unfold decL Lib.decodeN noRune num4
  rw [if_neg (by omega), if_neg (by omega), if_neg (by omega)]
  by_cases c : (1 < bs.length ∧ byteAt bs 1 / 64 = 2) ∧ (2 < bs.length ∧ byteAt bs 2 / 64 = 2) ∧ (3 < bs.length ∧ byteAt bs 3 / 64 = 2)
  · rw [if_pos ⟨by omega, c⟩]
    split
    · rw [if_pos (by omega)]; exact Prod.ext (by simp only; omega) rfl
    · rw [if_neg (by omega)]
  · rw [if_neg (by omega), if_neg (by omega)]
/-- What the reference says of the front of a text: how many bytes, and which rune; 0 and 0: none. -/
def firstR (bs : List UInt8) : Int × Int := if decL bs = noRune then (0, 0) else (((decL bs).2 : Int), ((decL bs).1 : Int))
/-- The number so far, behind so many bytes. -/
def numTo (bs : List UInt8) (base k : Nat) : Nat := match k with | 0 => 0 | 1 => byteAt bs 0 - base | k + 2 => 64 * numTo bs base (k + 1) + (byteAt bs (k + 1) - 128)
def contTo (bs : List UInt8) (k : Nat) : Prop := ∀ j, 1 ≤ j → j < k → contB (byteAt bs j) = true
theorem contTo2 {bs : List UInt8} (h : contB (byteAt bs 1) = true) : contTo bs 2 := by
  intro j h1 h2
  have : j = 1 := by omega
  subst this; exact h
theorem contTo3 {bs : List UInt8} (h : contB (byteAt bs 1) = true) (k : contB (byteAt bs 2) = true) : contTo bs 3 := by
  intro j h1 h2
  have : j = 1 ∨ j = 2 := by omega
  rcases this with rfl | rfl
  · exact h
  · exact k
theorem contTo4 {bs : List UInt8} (h : contB (byteAt bs 1) = true) (k : contB (byteAt bs 2) = true) (m : contB (byteAt bs 3) = true) : contTo bs 4 := by
  intro j h1 h2
  have : j = 1 ∨ j = 2 ∨ j = 3 := by omega
  rcases this with rfl | rfl | rfl
  · exact h
  · exact k
  · exact m
/-- How many bytes, by the first one; the least number; what the first byte is from. -/
def sizeOf (a : Nat) : Nat := if 192 ≤ a ∧ a < 224 then 2 else if 224 ≤ a ∧ a < 240 then 3 else if 240 ≤ a ∧ a < 248 then 4 else 0
def leastOf (a : Nat) : Nat := if 192 ≤ a ∧ a < 224 then 128 else if 224 ≤ a ∧ a < 240 then 2048 else if 240 ≤ a ∧ a < 248 then 65536 else 0
def baseOf (a : Nat) : Nat := if 192 ≤ a ∧ a < 224 then 192 else if 224 ≤ a ∧ a < 240 then 224 else if 240 ≤ a ∧ a < 248 then 240 else 0
theorem first_low {bs : List UInt8} (h : byteAt bs 0 < 128) : firstR bs = (1, (byteAt bs 0 : Int)) := by
  unfold firstR; rw [decL_low h, if_neg (by unfold noRune; intro e; simp at e; omega)]; rfl
theorem first_bad {bs : List UInt8} (h : decL bs = noRune) : firstR bs = (0, 0) := by unfold firstR; rw [if_pos h]
theorem first_none {bs : List UInt8} (h : 128 ≤ byteAt bs 0) (hs : sizeOf (byteAt bs 0) = 0) : firstR bs = (0, 0) := by
  refine first_bad (dec_none ?_)
  unfold sizeOf at hs
  repeat' split at hs
  all_goals omega
theorem dec_high {bs : List UInt8} (hs : sizeOf (byteAt bs 0) ≠ 0) :
    (decL bs = (numTo bs (baseOf (byteAt bs 0)) (sizeOf (byteAt bs 0)), sizeOf (byteAt bs 0)) ∧ decL bs ≠ noRune ∧ sizeOf (byteAt bs 0) ≤ bs.length ∧ contTo bs (sizeOf (byteAt bs 0)) ∧ okRune (leastOf (byteAt bs 0)) (numTo bs (baseOf (byteAt bs 0)) (sizeOf (byteAt bs 0))) = true) ∨
    (decL bs = noRune ∧ ¬ (sizeOf (byteAt bs 0) ≤ bs.length ∧ contTo bs (sizeOf (byteAt bs 0)) ∧ okRune (leastOf (byteAt bs 0)) (numTo bs (baseOf (byteAt bs 0)) (sizeOf (byteAt bs 0))) = true)) := by
  have nr : ∀ a n : Nat, 2 ≤ n → (a, n) ≠ noRune := fun a n h e => by unfold noRune at e; cases e; omega
  by_cases c2 : 192 ≤ byteAt bs 0 ∧ byteAt bs 0 < 224
  · rw [show sizeOf (byteAt bs 0) = 2 from if_pos c2, show leastOf (byteAt bs 0) = 128 from if_pos c2, show baseOf (byteAt bs 0) = 192 from if_pos c2]
    rw [dec_two c2.1 c2.2]
    by_cases d : 2 ≤ bs.length ∧ contB (byteAt bs 1) = true ∧ okRune 128 (num2 bs) = true
    · rw [if_pos d]
      exact .inl ⟨rfl, nr _ _ (by omega), d.1, contTo2 d.2.1, d.2.2⟩
    · rw [if_neg d]
      exact .inr ⟨rfl, fun h => d ⟨h.1, h.2.1 1 (by omega) (by omega), h.2.2⟩⟩
  · by_cases c3 : 224 ≤ byteAt bs 0 ∧ byteAt bs 0 < 240
    · rw [show sizeOf (byteAt bs 0) = 3 from (if_neg c2).trans (if_pos c3), show leastOf (byteAt bs 0) = 2048 from (if_neg c2).trans (if_pos c3), show baseOf (byteAt bs 0) = 224 from (if_neg c2).trans (if_pos c3)]
      rw [dec_three c3.1 c3.2]
      by_cases d : 3 ≤ bs.length ∧ contB (byteAt bs 1) = true ∧ contB (byteAt bs 2) = true ∧ okRune 2048 (num3 bs) = true
      · rw [if_pos d]
        exact .inl ⟨rfl, nr _ _ (by omega), d.1, contTo3 d.2.1 d.2.2.1, d.2.2.2⟩
      · rw [if_neg d]
        exact .inr ⟨rfl, fun h => d ⟨h.1, h.2.1 1 (by omega) (by omega), h.2.1 2 (by omega) (by omega), h.2.2⟩⟩
    · by_cases c4 : 240 ≤ byteAt bs 0 ∧ byteAt bs 0 < 248
      · rw [show sizeOf (byteAt bs 0) = 4 from (if_neg c2).trans ((if_neg c3).trans (if_pos c4)), show leastOf (byteAt bs 0) = 65536 from (if_neg c2).trans ((if_neg c3).trans (if_pos c4)), show baseOf (byteAt bs 0) = 240 from (if_neg c2).trans ((if_neg c3).trans (if_pos c4))]
        rw [dec_four c4.1 c4.2]
        by_cases d : 4 ≤ bs.length ∧ contB (byteAt bs 1) = true ∧ contB (byteAt bs 2) = true ∧ contB (byteAt bs 3) = true ∧ okRune 65536 (num4 bs) = true
        · rw [if_pos d]
          exact .inl ⟨rfl, nr _ _ (by omega), d.1, contTo4 d.2.1 d.2.2.1 d.2.2.2.1, d.2.2.2.2⟩
        · rw [if_neg d]
          exact .inr ⟨rfl, fun h => d ⟨h.1, h.2.1 1 (by omega) (by omega), h.2.1 2 (by omega) (by omega), h.2.1 3 (by omega) (by omega), h.2.2⟩⟩
      · exact absurd ((if_neg c2).trans ((if_neg c3).trans (if_neg c4))) hs
end Brm
end Go.Proofs.YtpoibdhhcbelnaaGreatDoor
