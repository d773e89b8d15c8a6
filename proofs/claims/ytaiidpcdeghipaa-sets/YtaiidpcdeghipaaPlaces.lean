/- Plain facts on sets of places (runes numbered without a gap), and that a set has one form alone: no program stands here. -/
import Derived.Test.YtaiidpcdeghipaaPlain
namespace Go.Proofs.Ytaiidpcdeghipaa
namespace Brm

def up (n : Int) : Int := if n < 55296 then n else if n < 57344 then 55296 else n - 2048
def down (n : Int) : Int := if n < 55296 then n else if n < 57344 then 55295 else n - 2048
def back (n : Int) : Int := if n < 55296 then n else n + 2048
def PGood (x : Int × Int) : Prop := 0 ≤ x.1 ∧ x.1 ≤ x.2 ∧ x.2 ≤ 1112063
def PCanon (l : List (Int × Int)) : Prop := (∀ x ∈ l, PGood x) ∧ l.Pairwise fun x y => x.2 + 1 < y.1
def told (l : List (Int × Int)) : List (Int × Int) := l.map fun x => (back x.1, back x.2)
def place (n : Int) : Prop := 0 ≤ n ∧ n ≤ 1112063

/- one form alone -/
theorem canon_unique : ∀ (a b : List (Int × Int)), Canon a → Canon b → (∀ r, runeB r = true → memB a r = memB b r) → a = b
  | [], [], _, _, _ => rfl
  | [], y :: t, _, hb, h => by
    have g := (canon_head hb).1
    have := h y.1 g.1
    rw [mem_cons, (in_iff y y.1).2 ⟨Int.le_refl _, g.2.2⟩] at this
    simp [memB] at this
  | x :: s, [], ha, _, h => by
    have g := (canon_head ha).1
    have := h x.1 g.1
    rw [mem_cons, (in_iff x x.1).2 ⟨Int.le_refl _, g.2.2⟩] at this
    simp [memB] at this
  | x :: s, y :: t, ha, hb, h => by
    obtain ⟨gx, hx⟩ := canon_head ha
    obtain ⟨gy, hy⟩ := canon_head hb
    have low : ∀ {u v : Int × Int} {p q : List (Int × Int)}, Canon (u :: p) → Canon (v :: q) → (∀ r, runeB r = true → memB (u :: p) r = memB (v :: q) r) → ¬ u.1 < v.1 := by
      intro u v p q hu hv huv hlt
      obtain ⟨gu, _⟩ := canon_head hu
      obtain ⟨gv, hq⟩ := canon_head hv
      have e := huv u.1 gu.1
      rw [mem_cons, (in_iff u u.1).2 ⟨Int.le_refl _, gu.2.2⟩, Bool.true_or] at e
      obtain ⟨z, hz, hz2⟩ := mem_true.1 e.symm
      rcases List.mem_cons.1 hz with rfl | hz
      · omega
      · have := hq z hz; have := lt_after v.2; have := gv.2.2; omega
    have high : ∀ {u v : Int × Int} {p q : List (Int × Int)}, Canon (u :: p) → Canon (v :: q) → u.1 = v.1 → (∀ r, runeB r = true → memB (u :: p) r = memB (v :: q) r) → ¬ u.2 < v.2 := by
      intro u v p q hu hv he huv hlt
      obtain ⟨gu, hp⟩ := canon_head hu
      obtain ⟨gv, _⟩ := canon_head hv
      have ra := (rune_iff _).1 gu.2.1
      have rb := (rune_iff _).1 gv.2.1
      have hle : after u.2 ≤ v.2 := after_le gv.2.1 hlt
      have hr : runeB (after u.2) = true := by rw [rune_iff]; unfold after at hle ⊢; split at hle <;> omega
      have e := huv (after u.2) hr
      have h1 := lt_after u.2
      have h2 := gu.2.2
      rw [mem_cons (x := v), (in_iff v _).2 ⟨by omega, hle⟩, Bool.true_or] at e
      obtain ⟨z, hz, hz2⟩ := mem_true.1 e
      rcases List.mem_cons.1 hz with rfl | hz
      · omega
      · have := hp z hz; omega
    have h' : ∀ r, runeB r = true → memB (y :: t) r = memB (x :: s) r := fun r hr => (h r hr).symm
    have e1 : x.1 = y.1 := by have := low ha hb h; have := low hb ha h'; omega
    have e2 : x.2 = y.2 := by have := high ha hb e1 h; have := high hb ha e1.symm h'; omega
    have exy : x = y := Prod.ext e1 e2
    subst exy
    have := canon_unique s t (canon_tail ha) (canon_tail hb) fun r hr => by
      have e := h r hr
      rw [mem_cons, mem_cons] at e
      by_cases hc : inB x r = true
      · have h1 := (in_iff x r).1 hc
        rw [tail_out ha h1.2, tail_out hb h1.2]
      · have hf : inB x r = false := by simpa using hc
        simpa [hf] using e
    rw [this]

/- places and runes -/
theorem back_up {r : Int} (h : runeB r = true) : back (up r) = r ∧ place (up r) ∧ up r = down r := by
  rw [rune_iff] at h
  unfold back up down place
  refine ⟨?_, ?_, ?_⟩ <;> (repeat' split) <;> omega
theorem updown {r : Int} (h0 : 0 ≤ r) (h1 : r ≤ 1114111) : (up r = down r) ↔ runeB r = true := by
  rw [rune_iff]
  unfold up down
  (repeat' split) <;> omega
theorem lift_in (x : Int × Int) (r : Int) (hx : okB x = true) (hr : runeB r = true) : inB (up x.1, down x.2) (up r) = inB x r := by
  simp [okB] at hx
  rw [rune_iff] at hr
  rw [Bool.eq_iff_iff, in_iff, in_iff]
  simp only
  unfold up down
  (repeat' split) <;> omega
theorem lift_good (x : Int × Int) (hx : okB x = true) (h : up x.1 ≤ down x.2) : PGood (up x.1, down x.2) := by
  simp [okB] at hx
  unfold PGood
  refine ⟨?_, h, ?_⟩ <;> simp only <;> unfold up down at * <;> (repeat' split) <;> omega
theorem pcanon_nil : PCanon [] := ⟨by simp, by simp⟩
theorem told_canon {l : List (Int × Int)} (h : PCanon l) : Canon (told l) := by
  refine ⟨fun x hx => ?_, ?_⟩
  · obtain ⟨y, hy, rfl⟩ := List.mem_map.1 hx
    have g := h.1 y hy
    unfold PGood at g
    refine ⟨?_, ?_, ?_⟩
    · rw [rune_iff]; simp only; unfold back; split <;> omega
    · rw [rune_iff]; simp only; unfold back; split <;> omega
    · show back y.1 ≤ back y.2; unfold back; split <;> split <;> omega
  · unfold told
    rw [List.pairwise_map]
    refine List.Pairwise.imp_of_mem ?_ h.2
    intro x y hx hy hxy
    have gx := h.1 x hx
    have gy := h.1 y hy
    unfold PGood at gx gy
    show after (back x.2) < back y.1
    unfold after back
    (repeat' split) <;> omega
theorem told_mem {l : List (Int × Int)} (h : PCanon l) (r : Int) (hr : runeB r = true) : memB (told l) r = memB l (up r) := by
  rw [Bool.eq_iff_iff, mem_true, mem_true]
  rw [rune_iff] at hr
  constructor
  · rintro ⟨x, hx, h1, h2⟩
    obtain ⟨y, hy, rfl⟩ := List.mem_map.1 hx
    have g := h.1 y hy
    unfold PGood at g
    refine ⟨y, hy, ?_⟩
    simp only at h1 h2
    unfold back at h1 h2; unfold up
    (repeat' split at h1) <;> (repeat' split at h2) <;> (repeat' split) <;> omega
  · rintro ⟨y, hy, h1, h2⟩
    have g := h.1 y hy
    unfold PGood at g
    refine ⟨_, List.mem_map_of_mem hy, ?_⟩
    simp only
    unfold up at h1 h2; unfold back
    (repeat' split at h1) <;> (repeat' split) <;> omega

/- join -/
def JInv (l : List (Int × Int)) (x : Int × Int) (i0 : Nat) (y : Int × Int) (i : Nat) : Prop :=
  i0 ≤ i ∧ i ≤ l.length ∧ PGood y ∧ (∀ z ∈ l.take i0, z.2 + 1 < y.1) ∧ (∀ z ∈ l.drop i, y.1 ≤ z.2 + 1) ∧
  ∀ n, (memB (l.take i0) n || inB y n || memB (l.drop i) n) = (memB l n || inB x n)
theorem pcanon_parts {l : List (Int × Int)} {k : Nat} {x : Int × Int} (h : PCanon l) (hx : l[k]? = some x) : PGood x ∧ (∀ z ∈ l.take k, z.2 + 1 < x.1) ∧ ∀ z ∈ l.drop (k + 1), x.2 + 1 < z.1 := by
  obtain ⟨hk, e⟩ := List.getElem?_eq_some_iff.1 hx
  have hd : l.drop k = x :: l.drop (k + 1) := by rw [← e]; exact List.drop_eq_getElem_cons hk
  have hp := List.pairwise_append.1 ((List.take_append_drop k l).symm ▸ h.2)
  rw [hd] at hp
  exact ⟨h.1 x (List.mem_of_getElem? hx), fun z hz => hp.2.2 z hz x (by simp), (List.pairwise_cons.1 hp.2.1).1⟩
theorem jinv_start {l : List (Int × Int)} {x : Int × Int} {i : Nat} (hl : PCanon l) (hx : PGood x) (hi : i ≤ l.length) (h1 : ∀ z ∈ l.take i, z.2 + 1 < x.1) (h2 : ∀ z, l[i]? = some z → x.1 ≤ z.2 + 1) : JInv l x i x i := by
  refine ⟨Nat.le_refl _, hi, hx, h1, fun z hz => ?_, fun n => ?_⟩
  · cases hy : l[i]? with
    | none =>
      have : l.length ≤ i := List.getElem?_eq_none_iff.1 hy
      rw [List.drop_of_length_le this] at hz; simp at hz
    | some y =>
      obtain ⟨hk, e⟩ := List.getElem?_eq_some_iff.1 hy
      have hd : l.drop i = y :: l.drop (i + 1) := by rw [← e]; exact List.drop_eq_getElem_cons hk
      have hp := pcanon_parts hl hy
      have h3 := h2 y hy
      rw [hd] at hz
      rcases List.mem_cons.1 hz with rfl | hz
      · exact h3
      · have := hp.2.2 z hz
        have := hl.1 z (List.mem_of_mem_drop hz)
        unfold PGood at this; omega
  · have : memB l n = (memB (l.take i) n || memB (l.drop i) n) := by rw [← mem_append, List.take_append_drop]
    rw [this]
    cases memB (l.take i) n <;> cases inB x n <;> simp
def merged (y z : Int × Int) : Int × Int := (min y.1 z.1, max y.2 z.2)
theorem jinv_step {l : List (Int × Int)} {x y z : Int × Int} {i0 i : Nat} (hl : PCanon l) (h : JInv l x i0 y i) (hz : l[i]? = some z) (hle : z.1 ≤ y.2 + 1) : JInv l x i0 (merged y z) (i + 1) := by
  obtain ⟨h1, h2, h3, h4, h5, h6⟩ := h
  obtain ⟨hk, e⟩ := List.getElem?_eq_some_iff.1 hz
  have hd : l.drop i = z :: l.drop (i + 1) := by rw [← e]; exact List.drop_eq_getElem_cons hk
  obtain ⟨gz, p1, p2⟩ := pcanon_parts hl hz
  have hyz := h5 z (by rw [hd]; simp)
  unfold PGood at h3 gz
  refine ⟨by omega, by omega, ?_, fun u hu => ?_, fun u hu => ?_, fun n => ?_⟩
  · unfold PGood merged; simp only; omega
  · have a1 := h4 u hu
    have a2 := p1 u (by
      have : l.take i0 = (l.take i).take i0 := by rw [List.take_take, Nat.min_eq_left h1]
      rw [this] at hu; exact List.mem_of_mem_take hu)
    unfold merged; simp only; omega
  · have a1 := h5 u (by rw [hd]; exact List.mem_cons_of_mem _ hu)
    unfold merged; simp only; omega
  · rw [← h6 n, hd, mem_cons]
    have : inB (merged y z) n = (inB y n || inB z n) := by
      rw [Bool.eq_iff_iff, Bool.or_eq_true, in_iff, in_iff, in_iff]; unfold merged; simp only; omega
    rw [this]
    cases memB (l.take i0) n <;> cases inB y n <;> cases inB z n <;> simp
theorem jinv_end {l : List (Int × Int)} {x y : Int × Int} {i0 i : Nat} (hl : PCanon l) (h : JInv l x i0 y i) (he : ∀ z, l[i]? = some z → y.2 + 1 < z.1) :
    PCanon (l.take i0 ++ [y] ++ l.drop i) ∧ ∀ n, memB (l.take i0 ++ [y] ++ l.drop i) n = (memB l n || inB x n) := by
  obtain ⟨h1, h2, h3, h4, h5, h6⟩ := h
  have hd : ∀ z ∈ l.drop i, y.2 + 1 < z.1 := by
    intro z hz
    cases hy : l[i]? with
    | none =>
      have : l.length ≤ i := List.getElem?_eq_none_iff.1 hy
      rw [List.drop_of_length_le this] at hz; simp at hz
    | some u =>
      obtain ⟨hk, e⟩ := List.getElem?_eq_some_iff.1 hy
      have hd : l.drop i = u :: l.drop (i + 1) := by rw [← e]; exact List.drop_eq_getElem_cons hk
      have hp := pcanon_parts hl hy
      have h3 := he u hy
      have gu := hp.1
      rw [hd] at hz
      rcases List.mem_cons.1 hz with rfl | hz
      · exact h3
      · have := hp.2.2 z hz
        unfold PGood at gu; omega
  refine ⟨⟨fun z hz => ?_, ?_⟩, fun n => ?_⟩
  · simp only [List.mem_append, List.mem_singleton] at hz
    rcases hz with (hz | rfl) | hz
    · exact hl.1 z (List.mem_of_mem_take hz)
    · exact h3
    · exact hl.1 z (List.mem_of_mem_drop hz)
  · have hp := List.pairwise_append.1 ((List.take_append_drop i l).symm ▸ hl.2)
    have hq := List.pairwise_append.1 ((List.take_append_drop i0 l).symm ▸ hl.2)
    rw [List.append_assoc]
    refine List.pairwise_append.2 ⟨hq.1, List.pairwise_append.2 ⟨by simp, hp.2.1, fun u hu z hz => ?_⟩, fun u hu z hz => ?_⟩
    · simp at hu; subst hu; exact hd z hz
    · rcases List.mem_append.1 hz with hz | hz
      · simp at hz; subst hz; exact h4 u hu
      · have a := h4 u hu; have b := hd z hz; unfold PGood at h3; omega
  · rw [mem_append, mem_append, ← h6 n]; simp [memB]

/- not -/
def PInv (l rest out : List (Int × Int)) (frm : Int) : Prop :=
  PCanon out ∧ PCanon rest ∧ 0 ≤ frm ∧ frm ≤ 1112064 ∧ (∀ y ∈ rest, frm ≤ y.1) ∧ (∀ x ∈ out, x.2 + 1 < frm) ∧
  (∀ n, place n → memB out n = (decide (n < frm) && !memB l n)) ∧ ∀ n, place n → frm ≤ n → memB l n = memB rest n
theorem pcanon_snoc {x : Int × Int} {l : List (Int × Int)} (h : PCanon l) (g : PGood x) (hl : ∀ y ∈ l, y.2 + 1 < x.1) : PCanon (l ++ [x]) := by
  refine ⟨fun y hy => ?_, List.pairwise_append.2 ⟨h.2, by simp, fun y hy z hz => ?_⟩⟩
  · rcases List.mem_append.1 hy with hy | hy
    · exact h.1 y hy
    · simp at hy; exact hy ▸ g
  · simp at hz; subst hz; exact hl y hy
theorem pcanon_cons {x : Int × Int} {l : List (Int × Int)} (h : PCanon (x :: l)) : PGood x ∧ (∀ y ∈ l, x.2 + 1 < y.1) ∧ PCanon l :=
  ⟨h.1 x (by simp), (List.pairwise_cons.1 h.2).1, fun y hy => h.1 y (List.mem_cons_of_mem _ hy), (List.pairwise_cons.1 h.2).2⟩
theorem pinv_start {l : List (Int × Int)} (h : PCanon l) : PInv l l [] 0 := by
  refine ⟨pcanon_nil, h, by omega, by omega, fun y hy => (h.1 y hy).1, by simp, fun n hn => ?_, fun n _ _ => rfl⟩
  have : ¬ n < 0 := by unfold place at hn; omega
  simp [memB, this]
def putP (out : List (Int × Int)) (frm lo : Int) : List (Int × Int) := out ++ if frm < lo then [(frm, lo - 1)] else []
theorem pinv_step {l rest out : List (Int × Int)} {frm : Int} {x : Int × Int} (h : PInv l (x :: rest) out frm) : PInv l rest (putP out frm x.1) (x.2 + 1) := by
  obtain ⟨hc, hr, h0, h1, hlo, hout, hm, hrest⟩ := h
  obtain ⟨gx, hx, hcr⟩ := pcanon_cons hr
  unfold PGood at gx
  have hfx := hlo x (by simp)
  refine ⟨?_, hcr, by omega, by omega, fun y hy => by have := hx y hy; omega, fun z hz => ?_, fun n hn => ?_, fun n hn hle => ?_⟩
  · unfold putP; split
    · exact pcanon_snoc hc ⟨by simp only; omega, by simp only; omega, by simp only; omega⟩ fun y hy => hout y hy
    · simpa using hc
  · unfold putP at hz
    rcases List.mem_append.1 hz with hz | hz
    · have := hout z hz; omega
    · split at hz
      · simp at hz; subst hz; simp only; omega
      · simp at hz
  · have e0 : memB (putP out frm x.1) n = (memB out n || decide (frm ≤ n ∧ n < x.1)) := by
      unfold putP; rw [mem_append]; congr 1
      rw [Bool.eq_iff_iff, decide_eq_true_iff]
      split
      · simp only [memB, List.any_cons, List.any_nil, Bool.or_false, in_iff]; omega
      · simp only [memB, List.any_nil, Bool.false_eq_true, false_iff]; omega
    rw [e0, hm n hn]
    by_cases c1 : n < frm
    · have c2 : n < x.2 + 1 := by omega
      have c3 : ¬ (frm ≤ n ∧ n < x.1) := by omega
      simp [c1, c2, c3]
    · have h4 := hrest n hn (by omega)
      rw [mem_cons] at h4
      have tail : n ≤ x.2 → memB rest n = false := by
        intro hle; rw [mem_false]; intro y hy hc2; have := hx y hy; omega
      by_cases c5 : n < x.1
      · have h6 : memB l n = false := by
          rw [h4, Bool.or_eq_false_iff]
          refine ⟨?_, tail (by omega)⟩
          rw [← Bool.not_eq_true, in_iff]; omega
        have c7 : n < x.2 + 1 := by omega
        have c8 : frm ≤ n ∧ n < x.1 := by omega
        simp [c1, h6, c7, c8]
      · have c8 : ¬ (frm ≤ n ∧ n < x.1) := by omega
        by_cases c9 : n ≤ x.2
        · have h6 : memB l n = true := by rw [h4, (in_iff x n).2 (by omega)]; rfl
          simp [c1, h6, c8]
        · have c7 : ¬ n < x.2 + 1 := by omega
          simp [c1, c7, c8]
  · rw [hrest n hn (by omega), mem_cons]
    have : inB x n = false := by rw [← Bool.not_eq_true, in_iff]; omega
    rw [this]; rfl
def endP (out : List (Int × Int)) (frm : Int) : List (Int × Int) := out ++ if frm ≤ 1112063 then [(frm, 1112063)] else []
theorem pinv_end {l out : List (Int × Int)} {frm : Int} (h : PInv l [] out frm) : PCanon (endP out frm) ∧ ∀ n, place n → memB (endP out frm) n = !memB l n := by
  obtain ⟨hc, _, h0, h1, _, hout, hm, hrest⟩ := h
  constructor
  · unfold endP; split
    · exact pcanon_snoc hc ⟨h0, by assumption, by simp⟩ fun y hy => hout y hy
    · simpa using hc
  · intro n hn
    unfold endP
    rw [mem_append, hm n hn]
    unfold place at hn
    by_cases c1 : n < frm
    · have : memB (if frm ≤ 1112063 then [(frm, (1112063 : Int))] else []) n = false := by
        split
        · rw [mem_false]; simp; omega
        · rfl
      simp [c1, this]
    · have h2 : memB l n = false := by rw [hrest n hn (by omega)]; rfl
      rw [if_pos (by omega)]
      have : memB [(frm, (1112063 : Int))] n = true := by
        rw [mem_true]; exact ⟨(frm, 1112063), by simp, by show frm ≤ n ∧ n ≤ 1112063; omega⟩
      simp [c1, h2, this]

end Brm
end Go.Proofs.Ytaiidpcdeghipaa
