/- Walks and plain laws, some texts in one. -/
import Derived.Lib.DecodeN
import Derived.Test.YtpoibdhhcbelnaaGreatDoorM03
/- Texts as runes, plainly: no program stands here. -/
namespace Go.Proofs.YtpoibdhhcbelnaaGreatDoor
namespace Brm

def byteAt (bs : List UInt8) (k : Nat) : Nat := (bs.getD k 0).toNat
/-- The rune at the front of a text, and how many bytes it has; 65533 and 1: none is there. -/
def decL (bs : List UInt8) : Nat × Nat := Lib.decodeN bs.length (byteAt bs 0) (byteAt bs 1) (byteAt bs 2) (byteAt bs 3)
def noRune : Nat × Nat := (65533, 1)
theorem byteAt_lt (bs : List UInt8) (k : Nat) : byteAt bs k < 256 := (bs.getD k 0).toNat_lt
theorem decL_fit {bs : List UInt8} (hne : bs ≠ []) : 1 ≤ (decL bs).2 ∧ (decL bs).2 ≤ bs.length ∧ (decL bs).2 ≤ 4 ∧ runeB (decL bs).1 = true := by
  have hl : 1 ≤ bs.length := by cases bs with | nil => exact absurd rfl hne | cons => simp
  have h0 := byteAt_lt bs 0
  have h1 := byteAt_lt bs 1
  have h2 := byteAt_lt bs 2
  have h3 := byteAt_lt bs 3
  unfold decL Lib.decodeN
  repeat' split
  all_goals simp only [rune_iff]
  all_goals refine ⟨by omega, by omega, by omega, by omega⟩
theorem decL_ascii {bs : List UInt8} (h : (decL bs).1 < 128) : (decL bs).1 = byteAt bs 0 ∧ (decL bs).2 = 1 := by
  unfold decL Lib.decodeN at h ⊢
  revert h
  repeat' split
  all_goals intro h
  all_goals first | (exact ⟨rfl, rfl⟩) | (exfalso; simp only at h; omega)
theorem decL_low {bs : List UInt8} (h : byteAt bs 0 < 128) : decL bs = (byteAt bs 0, 1) := by
  unfold decL Lib.decodeN; rw [if_pos h]

inductive Runes : List UInt8 → List Int → Prop
  | nil : Runes [] []
  | cons {bs : List UInt8} {c n : Nat} {l : List Int} : bs ≠ [] → decL bs = (c, n) → (c, n) ≠ noRune → Runes (bs.drop n) l → Runes bs ((c : Int) :: l)
inductive Broken : List UInt8 → Nat → Prop
  | here {bs : List UInt8} : bs ≠ [] → decL bs = noRune → Broken bs 0
  | later {bs : List UInt8} {c n k : Nat} : bs ≠ [] → decL bs = (c, n) → (c, n) ≠ noRune → Broken (bs.drop n) k → Broken bs (n + k)

theorem runes_or : ∀ (m : Nat) (bs : List UInt8), bs.length ≤ m → (∃ l, Runes bs l) ∨ ∃ k, Broken bs k
  | 0, bs, h => by
    have : bs = [] := List.length_eq_zero_iff.1 (by omega)
    subst this; exact .inl ⟨[], .nil⟩
  | m + 1, bs, h => by
    by_cases hne : bs = []
    · subst hne; exact .inl ⟨[], .nil⟩
    · have hf := decL_fit hne
      by_cases hd : decL bs = noRune
      · exact .inr ⟨0, .here hne hd⟩
      · rcases runes_or m (bs.drop (decL bs).2) (by rw [List.length_drop]; omega) with ⟨l, hl⟩ | ⟨k, hk⟩
        · exact .inl ⟨_, .cons hne (c := (decL bs).1) (n := (decL bs).2) rfl hd hl⟩
        · exact .inr ⟨_, .later hne (c := (decL bs).1) (n := (decL bs).2) rfl hd hk⟩
theorem runes_all {bs : List UInt8} {l : List Int} (h : Runes bs l) : AllR l := by
  induction h with
  | nil => intro c hc; simp at hc
  | cons hne hd hn hr ih =>
    intro d hmem
    rcases List.mem_cons.1 hmem with rfl | hm
    · have := (decL_fit hne).2.2.2; rw [hd] at this; exact this
    · exact ih d hm
theorem runes_len {bs : List UInt8} {l : List Int} (h : Runes bs l) : l.length ≤ bs.length := by
  induction h with
  | nil => simp
  | cons hne hd hn hr ih =>
    have := decL_fit hne
    rw [hd] at this
    rw [List.length_drop] at ih
    simp only [List.length_cons]; simp only at this; omega
theorem runes_unique {bs : List UInt8} {l : List Int} (h : Runes bs l) : ∀ {l' : List Int}, Runes bs l' → l' = l := by
  induction h with
  | nil => intro l' h'; cases h' with | nil => rfl | cons hne => exact absurd rfl hne
  | cons hne hd hn hr ih =>
    intro l' h'
    cases h' with
    | nil => exact absurd rfl hne
    | cons hne' hd' hn' hr' =>
      rw [hd] at hd'
      cases hd'
      rw [ih hr']
theorem runes_not_broken {bs : List UInt8} {l : List Int} (h : Runes bs l) : ∀ k, ¬ Broken bs k := by
  induction h with
  | nil => intro k hk; cases hk with | here hne => exact hne rfl | later hne => exact hne rfl
  | cons hne hd hn hr ih =>
    intro k hk
    cases hk with
    | here _ hd' => exact hn (hd.symm.trans hd')
    | later _ hd' hn' hb => rw [hd] at hd'; cases hd'; exact ih _ hb
theorem broken_unique {bs : List UInt8} {k : Nat} (h : Broken bs k) : ∀ {k' : Nat}, Broken bs k' → k' = k := by
  induction h with
  | here hne hd =>
    intro k' h'
    cases h' with
    | here => rfl
    | later _ hd' hn' _ => exact absurd (hd'.symm.trans hd) hn'
  | later hne hd hn hb ih =>
    intro k' h'
    cases h' with
    | here _ hd' => exact absurd (hd.symm.trans hd') hn
    | later _ hd' hn' hb' => rw [hd] at hd'; cases hd'; rw [ih hb']
/-- How many bytes the first runes have. -/
def posOf : Nat → List UInt8 → Nat
  | 0, _ => 0
  | j + 1, bs => (decL bs).2 + posOf j (bs.drop (decL bs).2)
theorem runes_drop {bs : List UInt8} {l : List Int} (h : Runes bs l) : ∀ (j : Nat), j ≤ l.length → Runes (bs.drop (posOf j bs)) (l.drop j) ∧ posOf j bs ≤ bs.length := by
  induction h with
  | nil => intro j hj; simp at hj; subst hj; exact ⟨.nil, by simp [posOf]⟩
  | @cons bs c n l hne hd hn hr ih =>
    intro j hj
    cases j with
    | zero => exact ⟨.cons hne hd hn hr, by simp [posOf]⟩
    | succ j =>
      have := ih j (by simpa using hj)
      have hf := decL_fit hne
      rw [hd] at hf
      simp only [posOf, hd]
      rw [List.drop_drop] at this
      rw [List.length_drop] at this
      refine ⟨this.1, ?_⟩
      simp only at hf
      omega
theorem posOf_succ : ∀ (j : Nat) (bs : List UInt8), posOf (j + 1) bs = posOf j bs + (decL (bs.drop (posOf j bs))).2
  | 0, bs => by simp [posOf]
  | j + 1, bs => by
    rw [posOf, posOf_succ j (bs.drop (decL bs).2), posOf, List.drop_drop, Nat.add_assoc]
theorem posOf_all {bs : List UInt8} {l : List Int} (h : Runes bs l) : posOf l.length bs = bs.length := by
  have := runes_drop h l.length (Nat.le_refl _)
  rw [List.drop_length] at this
  have h2 : bs.drop (posOf l.length bs) = [] := by
    cases hd : bs.drop (posOf l.length bs) with
    | nil => rfl
    | cons a t =>
      have h3 := this.1
      rw [hd] at h3
      cases h3
  have h4 := List.drop_eq_nil_iff.1 h2
  omega
theorem runes_head {bs : List UInt8} {c : Int} {l : List Int} (h : Runes bs (c :: l)) : bs ≠ [] ∧ ((decL bs).1 : Int) = c ∧ decL bs ≠ noRune ∧ Runes (bs.drop (decL bs).2) l := by
  cases h with
  | cons hne hd hn hr => rw [hd]; exact ⟨hne, rfl, hn, hr⟩
end Brm
end Go.Proofs.YtpoibdhhcbelnaaGreatDoor
/- The rune at the front of a text, by its first byte: no program stands here. -/
namespace Go.Proofs.YtpoibdhhcbelnaaGreatDoor
namespace Brm

def contB (b : Nat) : Bool := decide (128 ≤ b ∧ b ≤ 191)
/-- A rune of n bytes out of its number and the least one that n bytes may have. -/
def okRune (least c : Nat) : Bool := decide (least ≤ c ∧ c ≤ 1114111 ∧ ¬ (55296 ≤ c ∧ c < 57344))
def num2 (bs : List UInt8) : Nat := 64 * (byteAt bs 0 - 192) + (byteAt bs 1 - 128)
def num3 (bs : List UInt8) : Nat := 64 * (64 * (byteAt bs 0 - 224) + (byteAt bs 1 - 128)) + (byteAt bs 2 - 128)
def num4 (bs : List UInt8) : Nat := 64 * (64 * (64 * (byteAt bs 0 - 240) + (byteAt bs 1 - 128)) + (byteAt bs 2 - 128)) + (byteAt bs 3 - 128)
/-- What the reference says of the front of a text: how many bytes, and which rune; 0 and 0: none. -/
def firstR (bs : List UInt8) : Int × Int := if decL bs = noRune then (0, 0) else (((decL bs).2 : Int), ((decL bs).1 : Int))
/-- The number so far, behind so many bytes. -/
def numTo (bs : List UInt8) (base k : Nat) : Nat := match k with | 0 => 0 | 1 => byteAt bs 0 - base | k + 2 => 64 * numTo bs base (k + 1) + (byteAt bs (k + 1) - 128)
def contTo (bs : List UInt8) (k : Nat) : Prop := ∀ j, 1 ≤ j → j < k → contB (byteAt bs j) = true
/-- How many bytes, by the first one; the least number; what the first byte is from. -/
def sizeOf (a : Nat) : Nat := if 192 ≤ a ∧ a < 224 then 2 else if 224 ≤ a ∧ a < 240 then 3 else if 240 ≤ a ∧ a < 248 then 4 else 0
def leastOf (a : Nat) : Nat := if 192 ≤ a ∧ a < 224 then 128 else if 224 ≤ a ∧ a < 240 then 2048 else if 240 ≤ a ∧ a < 248 then 65536 else 0
def baseOf (a : Nat) : Nat := if 192 ≤ a ∧ a < 224 then 192 else if 224 ≤ a ∧ a < 240 then 224 else if 240 ≤ a ∧ a < 248 then 240 else 0
end Brm
end Go.Proofs.YtpoibdhhcbelnaaGreatDoor
/- Texts of runes, one behind another, and their parts, plainly: no program stands here. -/
namespace Go.Proofs.YtpoibdhhcbelnaaGreatDoor
namespace Brm

/-- The rune at the front is told by its own bytes alone. -/
theorem decL_pre {bs bs' : List UInt8} {c n : Nat} (h : decL bs = (c, n)) (hn : (c, n) ≠ noRune) (hl : n ≤ bs'.length) (hk : ∀ k, k < n → byteAt bs' k = byteAt bs k) : decL bs' = (c, n) := by
  unfold decL Lib.decodeN at h
  unfold noRune at hn
  split at h
  · rename_i h1
    cases h
    have e0 := hk 0 (by omega)
    unfold decL Lib.decodeN
    rw [e0, if_pos h1]
  split at h
  · rename_i h1 h2
    split at h
    · rename_i h3
      cases h
      have e0 := hk 0 (by omega)
      have e1 := hk 1 (by omega)
      unfold decL Lib.decodeN
      rw [e0, e1, if_neg h1, if_pos ⟨h2.1, by omega, h2.2.2⟩, if_pos h3]
    · exact absurd h.symm hn
  split at h
  · rename_i h1 h2 h3
    split at h
    · rename_i h4
      cases h
      have e0 := hk 0 (by omega)
      have e1 := hk 1 (by omega)
      have e2 := hk 2 (by omega)
      unfold decL Lib.decodeN
      rw [e0, e1, e2, if_neg h1, if_neg (by omega), if_pos ⟨h3.1, ⟨by omega, h3.2.1.2⟩, by omega, h3.2.2.2⟩, if_pos h4]
    · exact absurd h.symm hn
  split at h
  · rename_i h1 h2 h3 h4
    split at h
    · rename_i h5
      cases h
      have e0 := hk 0 (by omega)
      have e1 := hk 1 (by omega)
      have e2 := hk 2 (by omega)
      have e3 := hk 3 (by omega)
      unfold decL Lib.decodeN
      rw [e0, e1, e2, e3, if_neg h1, if_neg (by omega), if_neg (by omega), if_pos ⟨h4.1, ⟨by omega, h4.2.1.2⟩, ⟨by omega, h4.2.2.1.2⟩, by omega, h4.2.2.2.2⟩, if_pos h5]
    · exact absurd h.symm hn
  · exact absurd h.symm hn
theorem byteAt_append {a b : List UInt8} {k : Nat} (h : k < a.length) : byteAt (a ++ b) k = byteAt a k := by
  unfold byteAt; rw [List.getD_eq_getElem?_getD, List.getD_eq_getElem?_getD, List.getElem?_append_left h]
theorem decL_le {bs : List UInt8} {c n : Nat} (hne : bs ≠ []) (h : decL bs = (c, n)) : 1 ≤ n ∧ n ≤ bs.length := by
  have := decL_fit hne; rw [h] at this; exact ⟨this.1, this.2.1⟩
theorem runes_append {a b : List UInt8} {l m : List Int} (h : Runes a l) (k : Runes b m) : Runes (a ++ b) (l ++ m) := by
  induction h with
  | nil => exact k
  | cons hne hd hn _ ih =>
    rename_i bs c n l _
    have hle := decL_le hne hd
    refine .cons (by intro e; exact hne (List.append_eq_nil_iff.1 e).1) (decL_pre hd hn (by rw [List.length_append]; omega) fun j hj => byteAt_append (by omega)) hn ?_
    rw [List.drop_append_of_le_length hle.2]
    exact ih
theorem runes_low {b : UInt8} (h : b.toNat < 128) : Runes [b] [(b.toNat : Int)] := by
  have hb : byteAt [b] 0 = b.toNat := rfl
  have hd := decL_low (bs := [b]) (by rw [hb]; exact h)
  rw [hb] at hd
  exact .cons (by simp) hd (by unfold noRune; intro e; have := congrArg Prod.fst e; simp at this; omega) .nil
theorem runes_lows : ∀ {bs : List UInt8}, (∀ b ∈ bs, b.toNat < 128) → Runes bs (bs.map fun b => (b.toNat : Int))
  | [], _ => .nil
  | b :: bs, h => runes_append (runes_low (h b (by simp))) (runes_lows fun x hx => h x (by simp [hx]))
theorem runes_e : Runes [195, 169] [233] := by
  refine .cons (c := 233) (n := 2) (by simp) rfl (by decide) .nil
end Brm
end Go.Proofs.YtpoibdhhcbelnaaGreatDoor
/- The patterns that are made of raw numbers are patterns, plainly: no program stands here. -/
namespace Go.Proofs.YtpoibdhhcbelnaaGreatDoor
namespace Brm

def GoodA (k : Nat) (bs : List UInt8) : Prop := ∃ l p, Runes bs l ∧ AtomW l p ∧ p.deep ≤ k
def GoodR (k : Nat) (bs : List UInt8) : Prop := ∃ l ps, Runes bs l ∧ RowW l ps ∧ deepL ps ≤ k
def Whole (k : Nat) (bs : List UInt8) (p : Pat) : Prop := ∃ l, Runes bs l ∧ OrU l p ∧ p.deep ≤ k
def GoodP (k : Nat) (bs : List UInt8) : Prop := ∃ p, Whole k bs p
theorem GoodA.mono {k k' : Nat} {bs : List UInt8} (h : GoodA k bs) (hk : k ≤ k') : GoodA k' bs := by obtain ⟨l, p, h1, h2, h3⟩ := h; exact ⟨l, p, h1, h2, by omega⟩
/- how often -/
def sfxs : List (List UInt8) := [[], [], [42], [43], [63], [123, 50, 125], [123, 49, 44, 50, 125]]
def atoms : List (List UInt8) := [[97], [98], [99], [46], [91, 97, 98, 93], [91, 94, 97, 93], [195, 169], [92, 100], [40, 97, 98, 41]]
theorem atoms_good {a : List UInt8} (h : a ∈ atoms) : GoodA 1 a := by
  simp only [atoms, List.mem_cons, List.not_mem_nil, or_false] at h
  rcases h with rfl | rfl | rfl | rfl | rfl | rfl | rfl | rfl | rfl
  · exact ⟨[97], _, runes_lows (by decide), atom_char rfl, by simp [Pat.deep]⟩
  · exact ⟨[98], _, runes_lows (by decide), atom_char rfl, by simp [Pat.deep]⟩
  · exact ⟨[99], _, runes_lows (by decide), atom_char rfl, by simp [Pat.deep]⟩
  · exact ⟨[46], _, runes_lows (by decide), atom_dot, by simp [Pat.deep]⟩
  · exact ⟨[91, 97, 98, 93], _, runes_lows (by decide), atom_ab, by simp [Pat.deep]⟩
  · exact ⟨[91, 94, 97, 93], _, runes_lows (by decide), atom_nota, by simp [Pat.deep]⟩
  · exact ⟨[233], _, runes_e, atom_char rfl, by simp [Pat.deep]⟩
  · exact ⟨[92, 100], _, runes_lows (by decide), atom_digit, by simp [Pat.deep]⟩
  · refine ⟨[40, 97, 98, 41], _, runes_lows (by decide), OrU.group (l := [97, 98]) ⟨_, rfl, .one ⟨_, rfl, .one ⟨_, rfl, .cons (l := [97]) (atom_char rfl).core.item (.one (l := [98]) (atom_char rfl).core.item)⟩⟩⟩, ?_⟩
    simp [Pat.deep, deepL]
theorem sfx_good {a s : List UInt8} {k : Nat} (h : GoodA k a) (hs : s ∈ sfxs) : ∃ l p, Runes (a ++ s) l ∧ ItemW l p ∧ p.deep ≤ k := by
  obtain ⟨l, p, h1, h2, h3⟩ := h
  have go : ∀ {t : List UInt8} {mn : Int × Int}, (∀ b ∈ t, b.toNat < 128) → TimesW (t.map fun b => (b.toNat : Int)) mn → ∃ l p, Runes (a ++ t) l ∧ ItemW l p ∧ p.deep ≤ k :=
    fun {t mn} ht hw => ⟨_, _, runes_append h1 (runes_lows ht), (h2.core.many hw).item, by simpa [Pat.deep] using h3⟩
  simp only [sfxs, List.mem_cons, List.not_mem_nil, or_false] at hs
  rcases hs with rfl | rfl | rfl | rfl | rfl | rfl | rfl
  · exact ⟨l, p, by simpa using h1, h2.core.item, h3⟩
  · exact ⟨l, p, by simpa using h1, h2.core.item, h3⟩
  · exact go (by decide) times_star
  · exact go (by decide) times_plus
  · exact go (by decide) times_maybe
  · exact go (by decide) times_two
  · exact go (by decide) times_onetwo
theorem good_nil (k : Nat) : GoodR k [] := ⟨[], [], .nil, .nil, by simp [deepL]⟩
theorem good_snoc {k : Nat} {r a s : List UInt8} (h : GoodR k r) (ha : GoodA k a) (hs : s ∈ sfxs) : GoodR k (r ++ a ++ s) := by
  obtain ⟨l, ps, h1, h2, h3⟩ := h
  obtain ⟨m, p, k1, k2, k3⟩ := sfx_good ha hs
  exact ⟨l ++ m, ps ++ [p], by rw [List.append_assoc]; exact runes_append h1 k1, h2.snoc k2, by rw [deepL_snoc]; omega⟩
theorem good_end {k : Nat} {r : List UInt8} (h : GoodR k r) : GoodP k r := by
  obtain ⟨l, ps, h1, h2, h3⟩ := h
  exact ⟨_, l, h1, ⟨_, rfl, .one ⟨_, rfl, .one ⟨_, rfl, h2⟩⟩⟩, by simp [Pat.deep, deepL]; omega⟩
theorem good_bar {k : Nat} {r a : List UInt8} (h : GoodR k r) (ha : GoodA k a) : GoodP k (r ++ [124] ++ a) := by
  obtain ⟨l, ps, h1, h2, h3⟩ := h
  obtain ⟨m, p, k1, k2, k3⟩ := ha
  refine ⟨_, l ++ 124 :: m, ?_, ⟨_, rfl, .cons ⟨_, rfl, .one ⟨_, rfl, h2⟩⟩ (.one ⟨_, rfl, .one ⟨_, rfl, .one k2.core.item⟩⟩)⟩, by simp [Pat.deep, deepL]; omega⟩
  have := runes_append (runes_append h1 (runes_low (b := 124) (by decide))) k1
  rw [List.append_assoc l] at this
  exact this
theorem good_group {k : Nat} {bs : List UInt8} (h : GoodP k bs) : GoodA (k + 1) ([40] ++ bs ++ [41]) := by
  obtain ⟨p, l, h1, h2, h3⟩ := h
  refine ⟨_, _, ?_, h2.group, by simp [Pat.deep]; omega⟩
  have := runes_append (runes_append (runes_low (b := 40) (by decide)) h1) (runes_low (b := 41) (by decide))
  rw [List.append_assoc [_]] at this
  exact this
/- out of whole ones -/
/- what a pattern says of a text's bytes: 1 and 0; 2: they are no text -/
def Yes (p : Pat) (bs : List UInt8) : Prop := ∃ l, Runes bs l ∧ p.Mt l
def IsV (p : Pat) (bs : List UInt8) (v : Int) : Prop := (Yes p bs ∧ v = 1) ∨ (¬ Yes p bs ∧ (∃ l, Runes bs l) ∧ v = 0) ∨ (¬ Yes p bs ∧ v = 2 ∧ ¬ ∃ l, Runes bs l)
theorem IsV.bit {p : Pat} {bs : List UInt8} {v : Int} (h : IsV p bs v) {l : List Int} (hr : Runes bs l) : (p.Mt l ∧ v = 1) ∨ (¬ p.Mt l ∧ v = 0) := by
  rcases h with ⟨⟨l', h1, h2⟩, rfl⟩ | ⟨a, _, rfl⟩ | ⟨_, _, h⟩
  · rw [runes_unique hr h1] at h2; exact .inl ⟨h2, rfl⟩
  · exact .inr ⟨fun h => a ⟨l, hr, h⟩, rfl⟩
  · exact absurd ⟨l, hr⟩ h
end Brm
end Go.Proofs.YtpoibdhhcbelnaaGreatDoor
/- What is read lies in layers, plainly: no program stands here. -/
namespace Go.Proofs.YtpoibdhhcbelnaaGreatDoor
namespace Brm

mutual
/-- Layers: 0 alternatives, 1 all of some, 2 a row, 3 a part of a row, 4 a part that may come often. -/
def Lev : Pat → Nat → Prop
  | .set s, k => (k = 3 ∨ k = 4) ∧ Canon s
  | .row l, k => k = 2 ∧ LevL l 3
  | .or l, k => k = 0 ∧ l ≠ [] ∧ LevL l 1
  | .and l, k => k = 1 ∧ l ≠ [] ∧ LevL l 2
  | .not p, k => k = 3 ∧ Lev p 3
  | .many p m n, k => (k = 3 ∨ k = 4) ∧ Lev p 4 ∧ TimesOk (m, n)
  | .group p, k => (k = 3 ∨ k = 4) ∧ Lev p 0
def LevL : List Pat → Nat → Prop
  | [], _ => True
  | p :: l, k => Lev p k ∧ LevL l k
end
theorem levL_snoc : ∀ {l : List Pat} {p : Pat} {k : Nat}, LevL l k → Lev p k → LevL (l ++ [p]) k
  | [], _, _, _, hp => ⟨hp, trivial⟩
  | _ :: _, _, _, h, hp => ⟨h.1, levL_snoc h.2 hp⟩
theorem lev_part {p : Pat} (h : Lev p 4) : Lev p 3 := by
  cases p with
  | set s => exact ⟨.inl rfl, h.2⟩
  | row l => exact absurd h.1 (by decide)
  | or l => exact absurd h.1 (by decide)
  | and l => exact absurd h.1 (by decide)
  | not p => exact absurd h.1 (by decide)
  | many p m n => exact ⟨.inl rfl, h.2⟩
  | group p => exact ⟨.inl rfl, h.2⟩
def LevP (k : Nat) (r : Res Pat) : Prop := match r with | .ok p _ => Lev p k | .bad _ => True
theorem manyLoop_lev : ∀ (n : Nat) (x : Pat) (s : List Int), Lev x 4 → LevP 4 (manyLoop n x s)
  | 0, _, _, _ => trivial
  | n + 1, x, s, hx => by
    unfold manyLoop
    split
    · have h1 := timesP_times s
      cases hr : timesP s with
      | bad s' => trivial
      | ok mn s' => rw [hr] at h1; exact manyLoop_lev n (.many x mn.1 mn.2) s' ⟨.inr rfl, hx, h1⟩
    · exact hx
theorem atomP_lev {rec : List Int → Res Pat} (hr : ∀ s, AllR s → LevP 0 (rec s)) {s : List Int} (hs : AllR s) : LevP 4 (atomP rec s) := by
  cases s with
  | nil => trivial
  | cons c s =>
    simp only [atomP]
    split
    · have h1 := hr s hs.tail
      cases h : rec s with
      | bad s' => trivial
      | ok p s' =>
        rw [h] at h1
        simp only [Res.bind, closeP]
        split
        · exact ⟨.inr rfl, h1⟩
        · trivial
    split
    · have h1 := bracketP_set hs.tail
      cases h : bracketP s with
      | bad s' => trivial
      | ok l s' => rw [h] at h1; exact ⟨.inr rfl, h1.1⟩
    split
    · exact ⟨.inr rfl, canon_dot⟩
    split
    · cases s with
      | nil => trivial
      | cons d s =>
        simp only [escP]
        split
        · rename_i h
          exact ⟨.inr rfl, canon_one (rune_of (by have := sign_rune h; omega) (sign_rune h).2)⟩
        · split
          · rename_i h
            exact ⟨.inr rfl, (class_ok h).1⟩
          · trivial
    split
    · trivial
    · exact ⟨.inr rfl, canon_one hs.head⟩
theorem manyP_lev {rec : List Int → Res Pat} (hr : ∀ s, AllR s → LevP 0 (rec s)) {s : List Int} (hs : AllR s) : LevP 4 (manyP rec s) := by
  unfold manyP
  have h1 := atomP_lev hr hs
  cases h : atomP rec s with
  | bad s' => trivial
  | ok p s' => rw [h] at h1; exact manyLoop_lev _ p s' h1
theorem LevP.part {r : Res Pat} (h : LevP 4 r) : LevP 3 r := by
  cases r with
  | bad s => trivial
  | ok p s => exact lev_part h
theorem notP_lev {rec : List Int → Res Pat} (hr : ∀ s, AllR s → LevP 0 (rec s)) : ∀ {s : List Int}, AllR s → LevP 3 (notP rec s)
  | [], hs => (manyP_lev hr hs).part
  | c :: s, hs => by
    simp only [notP]
    split
    · have h1 := notP_lev hr hs.tail
      cases h : notP rec s with
      | bad s' => trivial
      | ok p s' => rw [h] at h1; exact ⟨rfl, h1⟩
    · exact (manyP_lev hr hs).part
theorem rowLoop_lev {lax : Bool} {rec : List Int → Res Pat} (hg : ∀ s, Goes (rec s) s) (hr : ∀ s, AllR s → LevP 0 (rec s)) : ∀ (n : Nat) (l : List Pat) (s : List Int), AllR s → LevL l 3 → LevP 2 (rowLoop lax rec n l s)
  | 0, _, _, _, _ => trivial
  | n + 1, l, s, hs, hl => by
    unfold rowLoop
    split
    · exact ⟨rfl, hl⟩
    · have h1 := notP_lev hr hs
      have h2 := notP_takes hg s
      cases h : notP rec s with
      | bad s' => trivial
      | ok p s' =>
        rw [h] at h1 h2
        exact rowLoop_lev hg hr n (l ++ [p]) s' (hs.suf h2.2) (levL_snoc hl h1)
theorem joinLoop_lev {part : List Int → Res Pat} {sign : Int} {mk : List Pat → Pat} {k j : Nat} (hk : ∀ l, LevL l j → l ≠ [] → Lev (mk l) k)
    (hg : ∀ s, Goes (part s) s) (hr : ∀ s, AllR s → LevP j (part s)) : ∀ (n : Nat) (l : List Pat) (s : List Int), AllR s → LevL l j → LevP k (joinLoop part sign mk n l s)
  | 0, _, _, _, _ => trivial
  | n + 1, l, s, hs, hl => by
    unfold joinLoop
    have h1 := hr s hs
    have h2 := hg s
    cases h : part s with
    | bad s' => trivial
    | ok p s' =>
      rw [h] at h1 h2
      simp only [Res.bind]
      split
      · exact joinLoop_lev hk hg hr n (l ++ [p]) s'.tail ((hs.suf h2).suf (tail_suf _)) (levL_snoc hl h1)
      · exact hk _ (levL_snoc hl h1) (by simp)
theorem orN_lev (lax : Bool) : ∀ (n : Nat) (s : List Int), AllR s → LevP 0 (orN lax n s)
  | 0, _, _ => trivial
  | n + 1, s, hs => by
    have hrow : ∀ s, AllR s → LevP 2 (rowP lax (orN lax n) s) := fun s hs => rowLoop_lev (lax := lax) (orN_goes lax n) (orN_lev lax n) (s.length + 1) [] s hs trivial
    have hand : ∀ s, AllR s → LevP 1 (andP lax (orN lax n) s) := fun s hs => joinLoop_lev (mk := .and) (fun l h k => ⟨rfl, k, h⟩) (rowP_goes (orN_goes lax n)) hrow _ _ s hs trivial
    exact joinLoop_lev (mk := .or) (fun l h k => ⟨rfl, k, h⟩) (andP_goes (orN_goes lax n)) hand _ _ s hs trivial
end Brm
end Go.Proofs.YtpoibdhhcbelnaaGreatDoor
/- What is written of a pattern reads back as that pattern, plainly: no program stands here. -/
namespace Go.Proofs.YtpoibdhhcbelnaaGreatDoor
namespace Brm

theorem u8_nat {k : Nat} (h : k < 256) : (k.toUInt8).toNat = k := by
  simp [Nat.toUInt8]; omega
theorem runes_enc {c : Int} (hc : runeB c = true) : Runes (Lib.encodeRune c) [c] := by
  rw [rune_iff] at hc
  obtain ⟨n, rfl⟩ : ∃ n : Nat, c = (n : Int) := ⟨c.toNat, by omega⟩
  have key : ∀ {bs : List UInt8} {k : Nat}, bs ≠ [] → k = bs.length → decL bs = (n, k) → 1 ≤ k → (n = 65533 → k ≠ 1) → Runes bs [(n : Int)] := by
    intro bs k hne hk hd h1 hx
    refine .cons hne hd (fun e => ?_) (by rw [hk, List.drop_length]; exact .nil)
    unfold noRune at e
    simp only [Prod.mk.injEq] at e
    exact hx e.1 e.2
  unfold Lib.encodeRune
  by_cases h1 : n ≤ 127
  · rw [Lib.encodeRuneZ_one (by omega) (by omega)]
    have b0 : (((n : Int)).toNat.toUInt8).toNat = n := u8_nat (by omega)
    refine key (k := 1) (by simp) rfl ?_ (by omega) (by omega)
    rw [decL_low (by show _ < _; unfold byteAt; simp only [List.map_cons, List.getD_cons_zero]; rw [b0]; omega)]
    show (_, 1) = _
    unfold byteAt; simp only [List.map_cons, List.getD_cons_zero]; rw [b0]
  by_cases h2 : n ≤ 2047
  · rw [Lib.encodeRuneZ_two (by omega) (by omega)]
    have b0 : ((192 + (n : Int) / 64).toNat.toUInt8).toNat = 192 + n / 64 := by rw [show (192 + (n : Int) / 64).toNat = 192 + n / 64 by omega]; exact u8_nat (by omega)
    have b1 : ((128 + (n : Int) % 64).toNat.toUInt8).toNat = 128 + n % 64 := by rw [show (128 + (n : Int) % 64).toNat = 128 + n % 64 by omega]; exact u8_nat (by omega)
    refine key (k := 2) (by simp) rfl ?_ (by omega) (by omega)
    unfold decL byteAt
    simp only [List.map_cons, List.map_nil, List.getD_cons_zero, List.getD_cons_succ, List.length_cons, List.length_nil, b0, b1]
    unfold Lib.decodeN
    rw [if_neg (by omega), if_pos (by omega), if_pos (by omega)]
    simp only [Prod.mk.injEq, and_true]; omega
  by_cases h3 : n ≤ 65535
  · rw [Lib.encodeRuneZ_three (by omega)]
    have b0 : ((224 + (n : Int) / 4096).toNat.toUInt8).toNat = 224 + n / 4096 := by rw [show (224 + (n : Int) / 4096).toNat = 224 + n / 4096 by omega]; exact u8_nat (by omega)
    have b1 : ((128 + (n : Int) / 64 % 64).toNat.toUInt8).toNat = 128 + n / 64 % 64 := by rw [show (128 + (n : Int) / 64 % 64).toNat = 128 + n / 64 % 64 by omega]; exact u8_nat (by omega)
    have b2 : ((128 + (n : Int) % 64).toNat.toUInt8).toNat = 128 + n % 64 := by rw [show (128 + (n : Int) % 64).toNat = 128 + n % 64 by omega]; exact u8_nat (by omega)
    refine key (k := 3) (by simp) rfl ?_ (by omega) (by omega)
    unfold decL byteAt
    simp only [List.map_cons, List.map_nil, List.getD_cons_zero, List.getD_cons_succ, List.length_cons, List.length_nil, b0, b1, b2]
    unfold Lib.decodeN
    have e : (224 + n / 4096) % 16 * 4096 + (128 + n / 64 % 64) % 64 * 64 + (128 + n % 64) % 64 = n := by omega
    rw [e, if_neg (by omega), if_neg (by omega), if_pos (by omega), if_pos (by omega)]
  · rw [Lib.encodeRuneZ_four (by omega) (by omega)]
    have b0 : ((240 + (n : Int) / 262144).toNat.toUInt8).toNat = 240 + n / 262144 := by rw [show (240 + (n : Int) / 262144).toNat = 240 + n / 262144 by omega]; exact u8_nat (by omega)
    have b1 : ((128 + (n : Int) / 4096 % 64).toNat.toUInt8).toNat = 128 + n / 4096 % 64 := by rw [show (128 + (n : Int) / 4096 % 64).toNat = 128 + n / 4096 % 64 by omega]; exact u8_nat (by omega)
    have b2 : ((128 + (n : Int) / 64 % 64).toNat.toUInt8).toNat = 128 + n / 64 % 64 := by rw [show (128 + (n : Int) / 64 % 64).toNat = 128 + n / 64 % 64 by omega]; exact u8_nat (by omega)
    have b3 : ((128 + (n : Int) % 64).toNat.toUInt8).toNat = 128 + n % 64 := by rw [show (128 + (n : Int) % 64).toNat = 128 + n % 64 by omega]; exact u8_nat (by omega)
    refine key (k := 4) (by simp) rfl ?_ (by omega) (by omega)
    unfold decL byteAt
    simp only [List.map_cons, List.map_nil, List.getD_cons_zero, List.getD_cons_succ, List.length_cons, List.length_nil, b0, b1, b2, b3]
    unfold Lib.decodeN
    have e : (240 + n / 262144) % 8 * 262144 + (128 + n / 4096 % 64) % 64 * 4096 + (128 + n / 64 % 64) % 64 * 64 + (128 + n % 64) % 64 = n := by omega
    rw [e, if_neg (by omega), if_neg (by omega), if_neg (by omega), if_pos (by omega), if_pos (by omega)]
/- letters -/
def wrR (must : Int → Bool) (c : Int) : List Int := if c = 10 then [92, 110] else if c = 9 then [92, 116] else if c = 13 then [92, 114] else if must c then [92, c] else [c]
theorem wrR_runes (must : Int → Bool) {c : Int} (hc : runeB c = true) : Runes (written must c) (wrR must c) := by
  unfold written wrR
  split
  · exact runes_lows (bs := [92, 110]) (by decide)
  split
  · exact runes_lows (bs := [92, 116]) (by decide)
  split
  · exact runes_lows (bs := [92, 114]) (by decide)
  split
  · exact runes_append (runes_low (b := 92) (by decide)) (runes_enc hc)
  · exact runes_enc hc
theorem inner_cases {c : Int} (h : inner c = true) : c = 91 ∨ c = 93 ∨ c = 92 ∨ c = 45 ∨ c = 94 := by simpa [inner] using h
theorem inner_not {c : Int} (h : ¬ inner c = true) : ¬ (c = 91 ∨ c = 93 ∨ c = 92 ∨ c = 45 ∨ c = 94) := fun k => h (by simpa [inner] using k)
theorem wrR_head (c : Int) (s : List Int) : ∃ d t, wrR inner c ++ s = d :: t ∧ d ≠ 45 ∧ d ≠ 93 ∧ d ≠ 94 := by
  unfold wrR
  split
  · exact ⟨92, _, rfl, by decide, by decide, by decide⟩
  split
  · exact ⟨92, _, rfl, by decide, by decide, by decide⟩
  split
  · exact ⟨92, _, rfl, by decide, by decide, by decide⟩
  split
  · exact ⟨92, _, rfl, by decide, by decide, by decide⟩
  · rename_i h
    have := inner_not h
    exact ⟨c, s, rfl, by omega, by omega, by omega⟩
theorem item_wrR (c : Int) (s : List Int) : itemP (wrR inner c ++ s) = rangeP c s := by
  unfold wrR
  split
  · subst c; rfl
  split
  · subst c; rfl
  split
  · subst c; rfl
  split
  · rename_i h
    rcases inner_cases h with rfl | rfl | rfl | rfl | rfl <;> rfl
  · rename_i h
    have k := inner_not h
    show itemP (c :: s) = _
    simp only [itemP]
    rw [if_neg (by omega), if_neg h]
theorem single_wrR {a c : Int} (h : a ≤ c) (s : List Int) : singleP a (wrR inner c ++ s) = .ok c s := by
  have esc : ∀ d, isSign d = true → signOf d = c → a ≤ 126 → singleP a (92 :: d :: s) = .ok c s := by
    intro d h1 h2 h3
    simp only [singleP]
    rw [if_pos trivial, if_pos h3]
    simp only [signP]
    rw [h2, if_pos (by simp [h1, h])]
  unfold wrR
  split
  · subst c; exact esc 110 rfl rfl (by omega)
  split
  · subst c; exact esc 116 rfl rfl (by omega)
  split
  · subst c; exact esc 114 rfl rfl (by omega)
  split
  · rename_i k
    rcases inner_cases k with rfl | rfl | rfl | rfl | rfl
    · exact esc 91 rfl rfl (by omega)
    · exact esc 93 rfl rfl (by omega)
    · exact esc 92 rfl rfl (by omega)
    · exact esc 45 rfl rfl (by omega)
    · exact esc 94 rfl rfl (by omega)
  · rename_i k
    have k2 := inner_not k
    show singleP a (c :: s) = _
    simp only [singleP]
    rw [if_neg (by omega), if_pos (by simp [k, h])]
theorem range_one {a d : Int} (t : List Int) (h : d ≠ 45) : rangeP a (d :: t) = .ok [(a, a)] (d :: t) := by simp only [rangeP]; rw [if_neg h]
theorem range_two {a b : Int} (h : a ≤ b) (s : List Int) : rangeP a (45 :: (wrR inner b ++ s)) = .ok [(a, b)] s := by
  simp only [rangeP]; rw [if_pos trivial, single_wrR h]; rfl
/- ranges -/
def rgR (x : Int × Int) : List Int := if x.2 = x.1 then wrR inner x.1 else if x.2 = after x.1 then wrR inner x.1 ++ wrR inner x.2 else wrR inner x.1 ++ 45 :: wrR inner x.2
def rgL (x : Int × Int) : List (Int × Int) := if x.2 = x.1 then [(x.1, x.1)] else if x.2 = after x.1 then [(x.1, x.1), (x.2, x.2)] else [(x.1, x.2)]
def rgsR (l : List (Int × Int)) : List Int := (l.map rgR).flatten
def rgsL (l : List (Int × Int)) : List (Int × Int) := (l.map rgL).flatten
theorem rgR_runes {x : Int × Int} (h : Good x) : Runes (wrRange x) (rgR x) := by
  obtain ⟨h1, h2, _⟩ := h
  unfold wrRange rgR
  split
  · exact wrR_runes _ h1
  split
  · exact runes_append (wrR_runes _ h1) (wrR_runes _ h2)
  · exact runes_append (wrR_runes _ h1) (runes_append (runes_low (b := 45) (by decide)) (wrR_runes _ h2))
theorem rgsR_runes : ∀ {l : List (Int × Int)}, (∀ x ∈ l, Good x) → Runes (wrRanges l) (rgsR l)
  | [], _ => .nil
  | x :: l, h => by
    have h1 := rgR_runes (h x (by simp))
    have h2 := rgsR_runes (l := l) (fun y hy => h y (by simp [hy]))
    exact runes_append h1 h2
theorem rgsR_head (l : List (Int × Int)) (t : List Int) : ∃ d u, rgsR l ++ 93 :: t = d :: u ∧ d ≠ 45 ∧ d ≠ 94 ∧ (l ≠ [] → d ≠ 93) := by
  cases l with
  | nil => exact ⟨93, t, rfl, by decide, by decide, fun h => absurd rfl h⟩
  | cons x l =>
    have go : ∀ u, ∃ d v, wrR inner x.1 ++ u = d :: v ∧ d ≠ 45 ∧ d ≠ 94 ∧ (x :: l ≠ [] → d ≠ 93) := fun u => by
      obtain ⟨d, v, e, h1, h2, h3⟩ := wrR_head x.1 u
      exact ⟨d, v, e, h1, h3, fun _ => h2⟩
    show ∃ d u, (rgR x ++ rgsR l) ++ 93 :: t = d :: u ∧ _
    unfold rgR
    split
    · rw [List.append_assoc]; exact go _
    split
    · rw [List.append_assoc, List.append_assoc]; exact go _
    · rw [List.append_assoc, List.append_assoc]; exact go _
theorem wrR_len (c : Int) : 1 ≤ (wrR inner c).length := by
  obtain ⟨d, t, e, _⟩ := wrR_head c []
  rw [List.append_nil] at e; rw [e]; simp
theorem items_back : ∀ (l : List (Int × Int)) (n : Nat) (acc : List (Int × Int)) (t : List Int), (∀ x ∈ l, Good x) → (rgsR l).length < n → itemsP n acc (rgsR l ++ 93 :: t) = .ok (acc ++ rgsL l) t
  | [], 0, _, _, _, h => by simp at h
  | [], n + 1, acc, t, _, _ => by
    show itemsP (n + 1) acc (93 :: t) = _
    unfold itemsP
    rw [if_pos (show (93 :: t).head? = some 93 from rfl)]
    simp [rgsL]
  | x :: l, n, acc, t, hg, hn => by
    have hx := hg x (by simp)
    have hl : ∀ y ∈ l, Good y := fun y hy => hg y (by simp [hy])
    have hlen : (rgsR (x :: l)).length = (rgR x).length + (rgsR l).length := by simp [rgsR]
    have one : ∀ (c : Int) (m : Nat) (b : List (Int × Int)) (s : List Int), (∃ d u, s = d :: u ∧ d ≠ 45) → itemsP (m + 1) b (wrR inner c ++ s) = itemsP m (b ++ [(c, c)]) s := by
      intro c m b s ⟨d, u, e, hd⟩
      obtain ⟨d', t', e', _, h93, _⟩ := wrR_head c s
      unfold itemsP
      rw [if_neg (by rw [e']; simpa using h93), item_wrR, e, range_one u hd]
      cases m <;> rfl
    obtain ⟨d, u, e, hd, _⟩ := rgsR_head l t
    have hr : rgsR (x :: l) ++ 93 :: t = rgR x ++ (rgsR l ++ 93 :: t) := by simp [rgsR]
    have hL : rgsL (x :: l) = rgL x ++ rgsL l := by simp [rgsL]
    rw [hr, hL]
    rw [hlen] at hn
    have w1 := wrR_len x.1
    have w2 := wrR_len x.2
    by_cases c1 : x.2 = x.1
    · rw [show rgR x = wrR inner x.1 from if_pos c1, show rgL x = [(x.1, x.1)] from if_pos c1] at *
      obtain ⟨m, rfl⟩ : ∃ m, n = m + 1 := ⟨n - 1, by omega⟩
      rw [one x.1 m acc _ ⟨d, u, e, hd⟩, items_back l m _ t hl (by omega), List.append_assoc]
    · by_cases c2 : x.2 = after x.1
      · rw [show rgR x = wrR inner x.1 ++ wrR inner x.2 from (if_neg c1).trans (if_pos c2), show rgL x = [(x.1, x.1), (x.2, x.2)] from (if_neg c1).trans (if_pos c2)] at *
        rw [List.length_append] at hn
        obtain ⟨m, rfl⟩ : ∃ m, n = m + 1 + 1 := ⟨n - 2, by omega⟩
        obtain ⟨d2, u2, e2, hd2, _⟩ := wrR_head x.2 (rgsR l ++ 93 :: t)
        rw [List.append_assoc, one x.1 (m + 1) acc _ ⟨d2, u2, e2, hd2⟩, one x.2 m _ _ ⟨d, u, e, hd⟩, items_back l m _ t hl (by omega)]
        simp
      · rw [show rgR x = wrR inner x.1 ++ 45 :: wrR inner x.2 from (if_neg c1).trans (if_neg c2), show rgL x = [(x.1, x.2)] from (if_neg c1).trans (if_neg c2)] at *
        rw [List.length_append, List.length_cons] at hn
        obtain ⟨m, rfl⟩ : ∃ m, n = m + 1 := ⟨n - 1, by omega⟩
        obtain ⟨d', t', e', _, h93, _⟩ := wrR_head x.1 (45 :: (wrR inner x.2 ++ (rgsR l ++ 93 :: t)))
        rw [List.append_assoc, List.cons_append]
        unfold itemsP
        rw [if_neg (by rw [e']; simpa using h93), item_wrR, range_two hx.2.2]
        show itemsP m (acc ++ [(x.1, x.2)]) (rgsR l ++ 93 :: t) = _
        rw [items_back l m _ t hl (by omega), List.append_assoc]
theorem rgL_mem {x : Int × Int} (h : Good x) {r : Int} (hr : runeB r = true) : memB (rgL x) r = inB x r := by
  obtain ⟨h1, h2, h3⟩ := h
  rw [rune_iff] at h1 h2 hr
  unfold rgL
  split
  · rename_i e
    simp only [memB, List.any_cons, List.any_nil, Bool.or_false]
    unfold inB; rw [decide_eq_decide]; simp only; omega
  split
  · rename_i e1 e
    simp only [memB, List.any_cons, List.any_nil, Bool.or_false]
    rw [Bool.eq_iff_iff, Bool.or_eq_true, in_iff, in_iff, in_iff]
    unfold after at e
    simp only
    split at e <;> omega
  · simp only [memB, List.any_cons, List.any_nil, Bool.or_false]
theorem rgL_ok {x : Int × Int} (h : Good x) : ∀ y ∈ rgL x, okB y = true := by
  obtain ⟨h1, h2, h3⟩ := h
  unfold rgL
  split
  · intro y hy; simp at hy; subst hy; exact good_ok ⟨h1, h1, Int.le_refl _⟩
  split
  · intro y hy; simp at hy; rcases hy with rfl | rfl
    · exact good_ok ⟨h1, h1, Int.le_refl _⟩
    · exact good_ok ⟨h2, h2, Int.le_refl _⟩
  · intro y hy; simp at hy; subst hy; exact good_ok ⟨h1, h2, h3⟩
theorem form_back {s : List (Int × Int)} (h : Canon s) : form (rgsL s) = s := by
  symm
  refine form_unique ?_ ⟨h, fun r hr => ?_⟩
  · intro y hy
    unfold rgsL at hy
    rw [List.mem_flatten] at hy
    obtain ⟨l, hl, hy⟩ := hy
    obtain ⟨x, hx, rfl⟩ := List.mem_map.1 hl
    exact rgL_ok (h.1 x hx) y hy
  · have : ∀ (l : List (Int × Int)), (∀ x ∈ l, Good x) → memB l r = memB (rgsL l) r := by
      intro l
      induction l with
      | nil => intro _; rfl
      | cons x l ih =>
        intro hl
        rw [show rgsL (x :: l) = rgL x ++ rgsL l by simp [rgsL], mem_append, mem_cons, rgL_mem (hl x (by simp)) hr, ih (fun y hy => hl y (by simp [hy]))]
    exact this s h.1
theorem atom_bracket {s : List (Int × Int)} (h : Canon s) : AtomW (91 :: (rgsR s ++ [93])) (.set s) := by
  refine ⟨⟨91, _, rfl, by decide, rfl, rfl⟩, fun n rest _ => ?_⟩
  show (bracketP ((rgsR s ++ [93]) ++ rest)).map Pat.set = _
  rw [List.append_assoc]
  show (bracketP (rgsR s ++ 93 :: rest)).map Pat.set = _
  obtain ⟨d, u, e, _, h94, _⟩ := rgsR_head s rest
  unfold bracketP
  rw [if_neg (by rw [e]; simpa using h94), items_back s _ [] rest h.1 (by simp; omega)]
  show Res.ok (Pat.set (form ([] ++ rgsL s))) rest = _
  rw [List.nil_append, form_back h]
theorem special_cases {c : Int} (h : special c = true) : c = 124 ∨ c = 38 ∨ c = 126 ∨ c = 42 ∨ c = 43 ∨ c = 63 ∨ c = 123 ∨ c = 125 ∨ c = 46 ∨ c = 92 ∨ c = 91 ∨ c = 93 ∨ c = 40 ∨ c = 41 := by simpa [special] using h
theorem atom_one (c : Int) : AtomW (wrR special c) (.set [(c, c)]) := by
  have esc : ∀ d, isSign d = true → signOf d = c → AtomW [92, d] (.set [(c, c)]) := by
    intro d h1 h2
    refine ⟨⟨92, _, rfl, by decide, rfl, rfl⟩, fun n rest _ => ?_⟩
    show (escP (d :: rest)).map _ = _
    simp only [escP]
    rw [if_pos h1, h2]; rfl
  unfold wrR
  split
  · subst c; exact esc 110 rfl rfl
  split
  · subst c; exact esc 116 rfl rfl
  split
  · subst c; exact esc 114 rfl rfl
  split
  · rename_i h
    rcases special_cases h with rfl | rfl | rfl | rfl | rfl | rfl | rfl | rfl | rfl | rfl | rfl | rfl | rfl | rfl <;> exact esc _ rfl rfl
  · rename_i h
    exact atom_char (by simpa using h)
theorem set_back {s : List (Int × Int)} (h : Canon s) : ∃ l, Runes (wrSet s) l ∧ AtomW l (.set s) := by
  have br : Runes (91 :: (wrRanges s ++ [93])) (91 :: (rgsR s ++ [93])) := runes_append (runes_low (b := 91) (by decide)) (runes_append (rgsR_runes h.1) (runes_low (b := 93) (by decide)))
  unfold wrSet
  split
  · rename_i e; subst e; exact ⟨[46], runes_low (b := 46) (by decide), atom_dot⟩
  · split
    · rename_i x _
      split
      · rename_i e
        have : x = (x.1, x.1) := by rw [Prod.ext_iff]; exact ⟨rfl, e.symm⟩
        have hx := h.1 x (by simp)
        rw [this]
        exact ⟨_, wrR_runes _ hx.1, atom_one _⟩
      · exact ⟨_, br, atom_bracket h⟩
    · exact ⟨_, br, atom_bracket h⟩
theorem times_back {m n : Int} (h : TimesOk (m, n)) : ∃ t, Runes (wrTimes m n) t ∧ TimesW t (m, n) := by
  obtain ⟨h0, h1, h2⟩ := h
  simp only at h0 h1 h2
  have hm : m = 0 ∨ m = 1 ∨ m = 2 ∨ m = 3 ∨ m = 4 ∨ m = 5 := by omega
  have hn : n = -1 ∨ n = 0 ∨ n = 1 ∨ n = 2 ∨ n = 3 ∨ n = 4 ∨ n = 5 := by omega
  rcases hm with rfl | rfl | rfl | rfl | rfl | rfl <;> rcases hn with rfl | rfl | rfl | rfl | rfl | rfl | rfl <;> first
    | exact ⟨_, runes_lows (by decide), ⟨_, _, rfl, rfl⟩, fun _ => rfl⟩
    | omega
/- whole patterns -/
theorem join_nil_cons (a : List UInt8) (l : List (List UInt8)) : Lib.join (a :: l) [] = a ++ Lib.join l [] := by
  cases l with
  | nil => simp [Lib.join_one, Lib.join_nil]
  | cons b l => simp [Lib.join_cons, Lib.joinTail]
theorem join_two (a b : List UInt8) (l : List (List UInt8)) (sep : List UInt8) : Lib.join (a :: b :: l) sep = a ++ (sep ++ Lib.join (b :: l) sep) := by simp [Lib.join_cons, Lib.joinTail]
def Reads (p : Pat) (k : Nat) : Prop := ∃ l, Runes p.wr l ∧ (k = 0 → OrU l p) ∧ (k = 1 → AndU l p) ∧ (k = 2 → RowU l p) ∧ (k = 3 → ItemW l p) ∧ (k = 4 → CoreW l p)
theorem reads_core {p : Pat} {k : Nat} {l : List Int} (hr : Runes p.wr l) (h : CoreW l p) (hk : k = 3 ∨ k = 4) : Reads p k := ⟨l, hr, fun e => by omega, fun e => by omega, fun e => by omega, fun _ => h.item, fun _ => h⟩
mutual
theorem patBack : ∀ (p : Pat) (k : Nat), Lev p k → Reads p k
  | .set s, k, h => by
    obtain ⟨l, h1, h2⟩ := set_back h.2
    exact reads_core h1 h2.core h.1
  | .row l, k, h => by
    obtain ⟨rfl, h⟩ := h
    obtain ⟨r, h1, h2⟩ := (patBackL l 3 h).1 rfl
    exact ⟨r, by simpa [Pat.wr] using h1, by simp, by simp, fun _ => ⟨l, rfl, h2⟩, by simp, by simp⟩
  | .or l, k, h => by
    obtain ⟨rfl, hne, h⟩ := h
    obtain ⟨r, h1, h2⟩ := (patBackL l 1 h).2.2 rfl hne
    exact ⟨r, by simpa [Pat.wr] using h1, fun _ => ⟨l, rfl, h2⟩, by simp, by simp, by simp, by simp⟩
  | .and l, k, h => by
    obtain ⟨rfl, hne, h⟩ := h
    obtain ⟨r, h1, h2⟩ := (patBackL l 2 h).2.1 rfl hne
    exact ⟨r, by simpa [Pat.wr] using h1, by simp, fun _ => ⟨l, rfl, h2⟩, by simp, by simp, by simp⟩
  | .not p, k, h => by
    obtain ⟨rfl, h⟩ := h
    obtain ⟨r, h1, _, _, _, h2, _⟩ := patBack p 3 h
    exact ⟨126 :: r, by simp only [Pat.wr]; exact runes_append (runes_low (b := 126) (by decide)) h1, by simp, by simp, by simp, fun _ => (h2 rfl).not, by simp⟩
  | .many p m n, k, h => by
    obtain ⟨hk, h, ht⟩ := h
    obtain ⟨r, h1, _, _, _, _, h2⟩ := patBack p 4 h
    obtain ⟨t, t1, t2⟩ := times_back ht
    exact reads_core (by simp only [Pat.wr]; exact runes_append h1 t1) ((h2 rfl).many t2) hk
  | .group p, k, h => by
    obtain ⟨hk, h⟩ := h
    obtain ⟨r, h1, h2, _⟩ := patBack p 0 h
    exact reads_core (by simp only [Pat.wr]; exact runes_append (runes_low (b := 40) (by decide)) (runes_append h1 (runes_low (b := 41) (by decide)))) (h2 rfl).group.core hk
theorem patBackL : ∀ (l : List Pat) (k : Nat), LevL l k → (k = 3 → ∃ r, Runes (Lib.join (wrL l) []) r ∧ RowW r l) ∧ (k = 2 → l ≠ [] → ∃ r, Runes (Lib.join (wrL l) [38]) r ∧ JoinW RowU 38 r l) ∧ (k = 1 → l ≠ [] → ∃ r, Runes (Lib.join (wrL l) [124]) r ∧ JoinW AndU 124 r l)
  | [], k, _ => ⟨fun _ => ⟨[], by simp [wrL, Lib.join_nil]; exact .nil, .nil⟩, fun _ h => absurd rfl h, fun _ h => absurd rfl h⟩
  | p :: l, k, h => by
    obtain ⟨r, h1, _, a1, a2, a3, _⟩ := patBack p k h.1
    obtain ⟨b3, b2, b1⟩ := patBackL l k h.2
    refine ⟨fun e => ?_, fun e _ => ?_, fun e _ => ?_⟩
    · obtain ⟨t, t1, t2⟩ := b3 e
      exact ⟨r ++ t, by simp only [wrL]; rw [join_nil_cons]; exact runes_append h1 t1, .cons (a3 e) t2⟩
    · cases l with
      | nil => exact ⟨r, by simpa [wrL, Lib.join_one] using h1, .one (a2 e)⟩
      | cons q l =>
        obtain ⟨t, t1, t2⟩ := b2 e (by simp)
        exact ⟨r ++ 38 :: t, by simp only [wrL]; rw [join_two]; exact runes_append h1 (runes_append (runes_low (b := 38) (by decide)) t1), .cons (a2 e) t2⟩
    · cases l with
      | nil => exact ⟨r, by simpa [wrL, Lib.join_one] using h1, .one (a1 e)⟩
      | cons q l =>
        obtain ⟨t, t1, t2⟩ := b1 e (by simp)
        exact ⟨r ++ 124 :: t, by simp only [wrL]; rw [join_two]; exact runes_append h1 (runes_append (runes_low (b := 124) (by decide)) t1), .cons (a1 e) t2⟩
end
/-- What is written of a pattern that was read is that pattern whole. -/
theorem whole_back {n : Nat} {s t : List Int} {p : Pat} {lax : Bool} (hs : AllR s) (h : orN lax n s = .ok p t) : ∃ l, Runes p.wr l ∧ OrU l p := by
  have := orN_lev lax n s hs
  rw [h] at this
  obtain ⟨l, h1, h2, _⟩ := patBack p 0 this
  exact ⟨l, h1, h2 rfl⟩
end Brm
end Go.Proofs.YtpoibdhhcbelnaaGreatDoor
