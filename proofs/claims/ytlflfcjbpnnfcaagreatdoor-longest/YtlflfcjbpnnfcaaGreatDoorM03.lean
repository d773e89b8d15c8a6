/- Walks and plain laws, some texts in one. -/
import Derived.Lib.RuneBytes
import Derived.Lib.Join
import Derived.Test.YtlflfcjbpnnfcaaGreatDoorM02
/- How a pattern is written, plainly: no program stands here. -/
namespace Go.Proofs.YtlflfcjbpnnfcaaGreatDoor
namespace Brm

def written (must : Int → Bool) (c : Int) : List UInt8 :=
  if c = 10 then [92, 110] else if c = 9 then [92, 116] else if c = 13 then [92, 114] else if must c then 92 :: Lib.encodeRune c else Lib.encodeRune c
def wrRange (x : Int × Int) : List UInt8 :=
  if x.2 = x.1 then written inner x.1 else if x.2 = after x.1 then written inner x.1 ++ written inner x.2 else written inner x.1 ++ (45 :: written inner x.2)
def wrRanges (l : List (Int × Int)) : List UInt8 := (l.map wrRange).flatten
def wrSet (s : List (Int × Int)) : List UInt8 :=
  if s = dot then [46] else match s with
  | [x] => if x.1 = x.2 then written special x.1 else 91 :: (wrRanges s ++ [93])
  | _ => 91 :: (wrRanges s ++ [93])
def dig (m : Int) : UInt8 := (48 + m).toNat.toUInt8
def wrTimes (m n : Int) : List UInt8 :=
  if m = 0 ∧ n = -1 then [42] else if m = 1 ∧ n = -1 then [43] else if m = 0 ∧ n = 1 then [63] else if n = -1 then [123, dig m, 44, 125] else if m = n then [123, dig m, 125] else [123, dig m, 44, dig n, 125]
mutual
def Pat.wr : Pat → List UInt8
  | .set s => wrSet s
  | .row l => Lib.join (wrL l) []
  | .or l => Lib.join (wrL l) [124]
  | .and l => Lib.join (wrL l) [38]
  | .not p => 126 :: p.wr
  | .many p m n => p.wr ++ wrTimes m n
  | .group p => 40 :: (p.wr ++ [41])
def wrL : List Pat → List (List UInt8)
  | [] => []
  | p :: l => p.wr :: wrL l
end
theorem wrL_map (l : List Pat) : wrL l = l.map Pat.wr := by
  induction l with
  | nil => rfl
  | cons p l ih => rw [wrL, ih]; rfl

theorem join_snoc (l : List (List UInt8)) (x sep : List UInt8) : Lib.join (l ++ [x]) sep = if l = [] then x else Lib.join l sep ++ sep ++ x := by
  cases l with
  | nil => simp [Lib.join_one]
  | cons y l => simp [Lib.join_cons, Lib.joinTail, List.append_assoc]
theorem written_len (must : Int → Bool) (c : Int) : (written must c).length ≤ 5 := by
  have := (Lib.encodeRuneZ_length c).2
  have e : (Lib.encodeRune c).length ≤ 4 := by simpa [Lib.encodeRune] using this
  unfold written
  repeat' split
  all_goals first | (simp; done) | (simp; omega) | omega
theorem wrRange_len (x : Int × Int) : (wrRange x).length ≤ 11 := by
  have := written_len inner x.1
  have := written_len inner x.2
  unfold wrRange
  repeat' split
  all_goals first | omega | (simp; omega)
theorem wrRanges_len : ∀ (l : List (Int × Int)), (wrRanges l).length ≤ 11 * l.length
  | [] => by simp [wrRanges]
  | x :: l => by
    have := wrRanges_len l
    have := wrRange_len x
    unfold wrRanges at *
    simp only [List.map_cons, List.flatten_cons, List.length_append, List.length_cons]; omega
theorem wrSet_len (s : List (Int × Int)) : (wrSet s).length ≤ 11 * s.length + 5 := by
  have := wrRanges_len s
  unfold wrSet
  split
  · simp
  · split
    · rename_i x _
      split
      · have := written_len special x.1; simp; omega
      · simp at this ⊢; omega
    · simp; omega
theorem wrTimes_len (m n : Int) : (wrTimes m n).length ≤ 5 := by
  unfold wrTimes; repeat' split
  all_goals simp
end Brm
end Go.Proofs.YtlflfcjbpnnfcaaGreatDoor
/- What is read is well made, and what is written of it is not long: no program stands here. -/
namespace Go.Proofs.YtlflfcjbpnnfcaaGreatDoor
namespace Brm

mutual
def Pat.Ok : Pat → Prop
  | .set s => Canon s
  | .row l => OkL l
  | .or l => OkL l ∧ l ≠ []
  | .and l => OkL l ∧ l ≠ []
  | .not p => p.Ok
  | .many p m n => p.Ok ∧ 0 ≤ m ∧ m ≤ 5 ∧ (n = -1 ∨ (m ≤ n ∧ n ≤ 5))
  | .group p => p.Ok
def OkL : List Pat → Prop
  | [] => True
  | p :: l => p.Ok ∧ OkL l
end
theorem okL_iff (l : List Pat) : OkL l ↔ ∀ p ∈ l, p.Ok := by
  induction l with
  | nil => simp [OkL]
  | cons p l ih => simp [OkL, ih]
theorem okL_snoc {l : List Pat} {p : Pat} (h : OkL l) (hp : p.Ok) : OkL (l ++ [p]) := by
  rw [okL_iff] at *
  intro q hq
  rcases List.mem_append.1 hq with hq | hq
  · exact h q hq
  · simp at hq; exact hq ▸ hp

theorem pjoin_len : ∀ (l : List (Int × Int)) (x : Int × Int), (pjoin l x).length ≤ l.length + 1
  | [], _ => by simp [pjoin]
  | y :: l, x => by
    unfold pjoin
    have h1 := pjoin_len l x
    have h2 := pjoin_len l (min y.1 x.1, max y.2 x.2)
    repeat' split
    all_goals simp; try omega
theorem fold_len : ∀ (l out : List (Int × Int)), (l.foldl pput out).length ≤ out.length + l.length
  | [], out => by simp
  | x :: l, out => by
    have h1 := fold_len l (pput out x)
    have h2 : (pput out x).length ≤ out.length + 1 := by
      unfold pput; split
      · exact pjoin_len _ _
      · omega
    simp only [List.foldl_cons, List.length_cons]; omega
theorem form_len (l : List (Int × Int)) : (form l).length ≤ l.length := by
  have := fold_len l []
  simpa [form, told, places] using this
theorem notFrom_len : ∀ (l : List (Int × Int)) (next : Int), (notFrom next l).length ≤ l.length + 1
  | [], next => by unfold notFrom; split <;> simp
  | x :: l, next => by
    have := notFrom_len l (after x.2)
    unfold notFrom
    split <;> simp <;> omega
theorem notC_len (l : List (Int × Int)) : (notC l).length ≤ l.length + 1 := notFrom_len l 0

def AllR (s : List Int) : Prop := ∀ c ∈ s, runeB c = true
theorem AllR.suf {s t : List Int} (h : AllR t) (k : s <:+ t) : AllR s := fun c hc => h c (k.subset hc)
theorem AllR.tail {c : Int} {s : List Int} (h : AllR (c :: s)) : AllR s := fun d hd => h d (List.mem_cons_of_mem _ hd)
theorem AllR.head {c : Int} {s : List Int} (h : AllR (c :: s)) : runeB c = true := h c (by simp)

theorem sign_cases {c : Int} (h : isSign c = true) : c = 124 ∨ c = 38 ∨ c = 126 ∨ c = 42 ∨ c = 43 ∨ c = 63 ∨ c = 123 ∨ c = 125 ∨ c = 46 ∨ c = 92 ∨ c = 91 ∨ c = 93 ∨ c = 40 ∨ c = 41 ∨ c = 45 ∨ c = 94 ∨ c = 110 ∨ c = 116 ∨ c = 114 := by simpa [isSign] using h
theorem sign_rune {c : Int} (h : isSign c = true) : 9 ≤ signOf c ∧ signOf c ≤ 126 := by
  rcases sign_cases h with rfl | rfl | rfl | rfl | rfl | rfl | rfl | rfl | rfl | rfl | rfl | rfl | rfl | rfl | rfl | rfl | rfl | rfl | rfl <;> decide
theorem class_cases {c : Int} (h : isClass c = true) : c = 100 ∨ c = 119 ∨ c = 115 ∨ c = 68 ∨ c = 87 ∨ c = 83 := by simpa [isClass] using h
instance (x : Int × Int) : Decidable (Good x) := by unfold Good; infer_instance
instance (l : List (Int × Int)) : Decidable (Canon l) := by unfold Canon; infer_instance
theorem canon_digits : Canon digits := by decide
theorem canon_words : Canon words := by decide
theorem canon_spaces : Canon spaces := by decide
theorem class_ok {c : Int} (h : isClass c = true) : Canon (classOf c) ∧ (classOf c).length ≤ 5 := by
  rcases class_cases h with rfl | rfl | rfl | rfl | rfl | rfl
  · exact ⟨canon_digits, by decide⟩
  · exact ⟨canon_words, by decide⟩
  · exact ⟨canon_spaces, by decide⟩
  · exact ⟨(notC_is canon_digits).1, by decide⟩
  · exact ⟨(notC_is canon_words).1, by decide⟩
  · exact ⟨(notC_is canon_spaces).1, by decide⟩
theorem canon_one {c : Int} (h : runeB c = true) : Canon [(c, c)] := ⟨fun x hx => by simp at hx; subst hx; exact ⟨h, h, Int.le_refl _⟩, by simp⟩
theorem canon_dot : Canon dot := (notC_is (canon_one (by decide))).1
theorem rune_of {c : Int} (h0 : 0 ≤ c) (h1 : c ≤ 126) : runeB c = true := by rw [rune_iff]; omega

/-- A rune that is not less than another. -/
def NumP (least : Int) (r : Res Int) : Prop := match r with | .ok b _ => least ≤ b ∧ runeB b = true | .bad _ => True
theorem signP_num (least : Int) (s : List Int) : NumP least (signP least s) := by
  cases s with
  | nil => trivial
  | cons c s =>
    simp only [signP]
    split
    · rename_i h
      simp at h
      have := sign_rune h.1
      exact ⟨h.2, rune_of (by omega) this.2⟩
    · trivial
theorem singleP_num {least : Int} {s : List Int} (hs : AllR s) : NumP least (singleP least s) := by
  cases s with
  | nil => trivial
  | cons c s =>
    simp only [singleP]
    split
    · split
      · exact signP_num _ _
      · trivial
    · split
      · rename_i h
        simp at h
        exact ⟨h.2, hs.head⟩
      · trivial
/-- Ranges, not too many of them. -/
def ListP (k : Nat) (r : Res (List (Int × Int))) (s : List Int) : Prop := match r with | .ok l s' => (∀ x ∈ l, okB x = true) ∧ l.length + 5 * s'.length ≤ k + 5 * s.length | .bad _ => True
theorem ok_pair {a b : Int} (ha : runeB a = true) (hb : runeB b = true) (h : a ≤ b) : ∀ x ∈ [(a, b)], okB x = true := by
  intro x hx; simp at hx; subst hx
  exact good_ok ⟨ha, hb, h⟩
theorem rangeP_list {a : Int} {s : List Int} (ha : runeB a = true) (hs : AllR s) : ListP 1 (rangeP a s) s := by
  cases s with
  | nil => exact ⟨ok_pair ha ha (Int.le_refl _), by simp⟩
  | cons c s =>
    simp only [rangeP]
    split
    · have h1 := singleP_takes a s
      have h2 := singleP_num (least := a) hs.tail
      cases hr : singleP a s with
      | bad s' => trivial
      | ok b s' =>
        rw [hr] at h1 h2
        have := h1.1
        exact ⟨ok_pair ha h2.2 h2.1, by simp; omega⟩
    · exact ⟨ok_pair ha ha (Int.le_refl _), by simp⟩
theorem itemP_list {s : List Int} (hs : AllR s) : ListP 0 (itemP s) s := by
  cases s with
  | nil => trivial
  | cons c s =>
    simp only [itemP]
    split
    · cases s with
      | nil => trivial
      | cons d s =>
        simp only [escP]
        split
        · rename_i h
          have := rangeP_list (rune_of (by have := sign_rune h; omega) (sign_rune h).2) hs.tail.tail
          show ListP 0 (rangeP (signOf d) s) _
          cases hr : rangeP (signOf d) s with
          | bad s' => trivial
          | ok l s' => rw [hr] at this; exact ⟨this.1, by have := this.2; simp at this ⊢; omega⟩
        · split
          · rename_i h
            exact ⟨canon_ok (class_ok h).1, by have := (class_ok h).2; simp; omega⟩
          · trivial
    · split
      · trivial
      · have := rangeP_list hs.head hs.tail
        cases hr : rangeP c s with
        | bad s' => trivial
        | ok l s' => rw [hr] at this; exact ⟨this.1, by have := this.2; simp at this ⊢; omega⟩
theorem itemsP_list : ∀ (n : Nat) (l : List (Int × Int)) (s : List Int), AllR s → (∀ x ∈ l, okB x = true) → ListP l.length (itemsP n l s) s
  | 0, _, _, _, _ => trivial
  | n + 1, l, s, hs, hl => by
    unfold itemsP
    split
    · exact ⟨hl, by simp; omega⟩
    · have h1 := itemP_list hs
      have h2 := itemP_takes s
      cases hr : itemP s with
      | bad s' => trivial
      | ok x s' =>
        rw [hr] at h1 h2
        have h3 := itemsP_list n (l ++ x) s' (hs.suf h2.2) (fun y hy => by rcases List.mem_append.1 hy with hy | hy; exact hl y hy; exact h1.1 y hy)
        show ListP _ (itemsP n (l ++ x) s') _
        cases hr2 : itemsP n (l ++ x) s' with
        | bad s2 => trivial
        | ok y s2 => rw [hr2] at h3; exact ⟨h3.1, by have := h3.2; have := h1.2; simp at *; omega⟩
/-- A set in its one form, of not too many ranges. -/
def SetP (r : Res (List (Int × Int))) (s : List Int) : Prop := match r with | .ok l s' => Canon l ∧ l.length + 5 * s'.length ≤ 1 + 5 * s.length | .bad _ => True
theorem bracketP_set {s : List Int} (hs : AllR s) : SetP (bracketP s) s := by
  unfold bracketP
  split
  · rename_i hh
    have h1 := itemsP_list (s.length + 1) [] s.tail (hs.suf (tail_suf s)) (by simp)
    have h2 := (head_less hh).1
    cases hr : itemsP (s.length + 1) [] s.tail with
    | bad s' => trivial
    | ok l s' =>
      rw [hr] at h1
      have e1 := form_len l
      have e2 := notC_len (form l)
      exact ⟨(notC_is (form_is h1.1).1).1, by have := h1.2; simp at this h2; show (notC (form l)).length + _ ≤ _; omega⟩
  · have h1 := itemsP_list (s.length + 1) [] s hs (by simp)
    cases hr : itemsP (s.length + 1) [] s with
    | bad s' => trivial
    | ok l s' =>
      rw [hr] at h1
      have e1 := form_len l
      exact ⟨(form_is h1.1).1, by have := h1.2; simp at this; omega⟩

theorem countP_num (least : Int) (s : List Int) : match countP least s with | .ok n _ => least ≤ n ∧ n ≤ 5 | .bad _ => True := by
  cases s with
  | nil => trivial
  | cons c s =>
    simp only [countP]
    split
    · rename_i h
      split at h
      · cases h; omega
      · cases h
    · trivial
def TimesOk (mn : Int × Int) : Prop := 0 ≤ mn.1 ∧ mn.1 ≤ 5 ∧ (mn.2 = -1 ∨ (mn.1 ≤ mn.2 ∧ mn.2 ≤ 5))
def TimesP (r : Res (Int × Int)) : Prop := match r with | .ok mn _ => TimesOk mn | .bad _ => True
theorem closeP_times {mn : Int × Int} {c : Int} {s : List Int} (h : TimesOk mn) : TimesP (closeP mn c s) := by
  unfold closeP; split
  · exact h
  · trivial
theorem countsP_times (s : List Int) : TimesP (countsP s) := by
  unfold countsP
  have h1 := countP_num 0 s
  cases hr : countP 0 s with
  | bad s' => trivial
  | ok m s1 =>
    rw [hr] at h1
    simp only at h1
    simp only [Res.bind]
    split
    · split
      · exact ⟨h1.1, h1.2, .inl rfl⟩
      · have h2 := countP_num m s1.tail
        cases hr2 : countP m s1.tail with
        | bad s' => trivial
        | ok n s2 =>
          rw [hr2] at h2
          exact closeP_times ⟨h1.1, h1.2, .inr h2⟩
    · exact closeP_times ⟨h1.1, h1.2, .inr ⟨Int.le_refl _, h1.2⟩⟩
theorem timesP_times (s : List Int) : TimesP (timesP s) := by
  cases s with
  | nil => trivial
  | cons c s =>
    simp only [timesP]
    split; exact ⟨by decide, by decide, .inl rfl⟩
    split; exact ⟨by decide, by decide, .inl rfl⟩
    split; exact ⟨by decide, by decide, .inr ⟨by decide, by decide⟩⟩
    split; exact countsP_times s
    trivial

/-- A pattern, well made, whose text is not long. -/
def PatP (k : Nat) (r : Res Pat) (s : List Int) : Prop := match r with | .ok p s' => p.Ok ∧ p.wr.length + 60 * s'.length ≤ k + 60 * s.length | .bad _ => True
theorem PatP.weak {k k' : Nat} {r : Res Pat} {s s' : List Int} (h : PatP k r s) (hk : k + 60 * s.length ≤ k' + 60 * s'.length) : PatP k' r s' := by
  cases r with
  | bad s => trivial
  | ok p t => exact ⟨h.1, by have := h.2; omega⟩
theorem manyLoop_pat : ∀ (n : Nat) (x : Pat) (s : List Int), x.Ok → PatP x.wr.length (manyLoop n x s) s
  | 0, _, _, _ => trivial
  | n + 1, x, s, hx => by
    unfold manyLoop
    split
    · have h1 := timesP_times s
      have h2 := timesP_takes s
      cases hr : timesP s with
      | bad s' => trivial
      | ok mn s' =>
        rw [hr] at h1 h2
        have := h2.1
        have e := wrTimes_len mn.1 mn.2
        refine (manyLoop_pat n (.many x mn.1 mn.2) s' ⟨hx, h1⟩).weak ?_
        simp only [Pat.wr, List.length_append]; omega
    · exact ⟨hx, Nat.le_refl _⟩
theorem atomP_pat {rec : List Int → Res Pat} (hr : ∀ s, AllR s → PatP 0 (rec s) s) {s : List Int} (hs : AllR s) : PatP 0 (atomP rec s) s := by
  cases s with
  | nil => trivial
  | cons c s =>
    simp only [atomP]
    split
    · have h1 := hr s hs.tail
      cases h : rec s with
      | bad s' => trivial
      | ok p s' =>
        rw [h] at h1
        simp only [Res.bind, closeP]
        split
        · rename_i hh
          have := (head_less hh).1
          exact ⟨h1.1, by have := h1.2; simp [Pat.wr] at *; omega⟩
        · trivial
    split
    · have h1 := bracketP_set hs.tail
      cases h : bracketP s with
      | bad s' => trivial
      | ok l s' =>
        rw [h] at h1
        have h3 := bracketP_takes s
        rw [h] at h3
        have h4 := h3.1
        have := wrSet_len l
        exact ⟨h1.1, by have := h1.2; simp [Pat.wr] at *; omega⟩
    split
    · exact ⟨canon_dot, by simp [Pat.wr, wrSet]; omega⟩
    split
    · cases s with
      | nil => trivial
      | cons d s =>
        simp only [escP]
        split
        · rename_i h
          have := wrSet_len [(signOf d, signOf d)]
          exact ⟨canon_one (rune_of (by have := sign_rune h; omega) (sign_rune h).2), by simp [Pat.wr] at *; omega⟩
        · split
          · rename_i h
            have := wrSet_len (classOf d)
            have := class_ok h
            exact ⟨this.1, by simp [Pat.wr] at *; omega⟩
          · trivial
    split
    · trivial
    · have := wrSet_len [(c, c)]
      exact ⟨canon_one hs.head, by simp [Pat.wr] at *; omega⟩
theorem manyP_pat {rec : List Int → Res Pat} (hr : ∀ s, AllR s → PatP 0 (rec s) s) {s : List Int} (hs : AllR s) : PatP 0 (manyP rec s) s := by
  unfold manyP
  have h1 := atomP_pat hr hs
  cases h : atomP rec s with
  | bad s' => trivial
  | ok p s' =>
    rw [h] at h1
    exact (manyLoop_pat _ p s' h1.1).weak (by have := h1.2; omega)
theorem notP_pat {rec : List Int → Res Pat} (hr : ∀ s, AllR s → PatP 0 (rec s) s) : ∀ {s : List Int}, AllR s → PatP 0 (notP rec s) s
  | [], hs => manyP_pat hr hs
  | c :: s, hs => by
    simp only [notP]
    split
    · have h1 := notP_pat hr hs.tail
      cases h : notP rec s with
      | bad s' => trivial
      | ok p s' => rw [h] at h1; exact ⟨h1.1, by have := h1.2; simp [Pat.wr] at *; omega⟩
    · exact manyP_pat hr hs
theorem join_len_snoc (l : List Pat) (p : Pat) (sep : List UInt8) : (Lib.join (wrL (l ++ [p])) sep).length ≤ (Lib.join (wrL l) sep).length + sep.length + p.wr.length := by
  rw [wrL_map, wrL_map, List.map_append, List.map_singleton, join_snoc]
  split
  · omega
  · simp only [List.length_append]; omega
theorem rowLoop_pat {lax : Bool} {rec : List Int → Res Pat} (hg : ∀ s, Goes (rec s) s) (hr : ∀ s, AllR s → PatP 0 (rec s) s) : ∀ (n : Nat) (l : List Pat) (s : List Int), AllR s → OkL l → PatP (Lib.join (wrL l) []).length (rowLoop lax rec n l s) s
  | 0, _, _, _, _ => trivial
  | n + 1, l, s, hs, hl => by
    unfold rowLoop
    split
    · exact ⟨hl, Nat.le_refl _⟩
    · have h1 := notP_pat hr hs
      have h2 := notP_takes hg s
      cases h : notP rec s with
      | bad s' => trivial
      | ok p s' =>
        rw [h] at h1 h2
        refine (rowLoop_pat hg hr n (l ++ [p]) s' (hs.suf h2.2) (okL_snoc hl h1.1)).weak ?_
        have := join_len_snoc l p []
        have := h1.2
        simp at *; omega
theorem joinLoop_pat {part : List Int → Res Pat} {sign : Int} {mk : List Pat → Pat} {sep : List UInt8} (hsep : sep.length ≤ 1) (hw : ∀ l, (mk l).wr = Lib.join (wrL l) sep) (hk : ∀ l, OkL l → l ≠ [] → (mk l).Ok)
    (hg : ∀ s, Goes (part s) s) (hr : ∀ s, AllR s → PatP 0 (part s) s) : ∀ (n : Nat) (l : List Pat) (s : List Int), AllR s → OkL l → PatP ((Lib.join (wrL l) sep).length + 1) (joinLoop part sign mk n l s) s
  | 0, _, _, _, _ => trivial
  | n + 1, l, s, hs, hl => by
    unfold joinLoop
    have h1 := hr s hs
    have h2 := hg s
    cases h : part s with
    | bad s' => trivial
    | ok p s' =>
      rw [h] at h1 h2
      have e := join_len_snoc l p sep
      have e2 := h1.2
      simp only [Res.bind]
      split
      · rename_i hh
        have := (head_less hh).1
        refine (joinLoop_pat hsep hw hk hg hr n (l ++ [p]) s'.tail ((hs.suf h2).suf (tail_suf _)) (okL_snoc hl h1.1)).weak ?_
        omega
      · exact ⟨hk _ (okL_snoc hl h1.1) (by simp), by rw [hw]; omega⟩
/-- The same, of the first part on: nothing is between. -/
theorem joinLoop_pat0 {part : List Int → Res Pat} {sign : Int} {mk : List Pat → Pat} {sep : List UInt8} (hsep : sep.length ≤ 1) (hw : ∀ l, (mk l).wr = Lib.join (wrL l) sep) (hk : ∀ l, OkL l → l ≠ [] → (mk l).Ok)
    (hg : ∀ s, Goes (part s) s) (hr : ∀ s, AllR s → PatP 0 (part s) s) (n : Nat) (s : List Int) (hs : AllR s) : PatP 0 (joinLoop part sign mk n [] s) s := by
  cases n with
  | zero => trivial
  | succ n =>
    unfold joinLoop
    have h1 := hr s hs
    have h2 := hg s
    cases h : part s with
    | bad s' => trivial
    | ok p s' =>
      rw [h] at h1 h2
      have e2 := h1.2
      have e : Lib.join (wrL [p]) sep = p.wr := by simp [wrL, Lib.join_one]
      simp only [Res.bind, List.nil_append]
      split
      · rename_i hh
        have := (head_less hh).1
        refine (joinLoop_pat hsep hw hk hg hr n [p] s'.tail ((hs.suf h2).suf (tail_suf _)) ⟨h1.1, trivial⟩).weak ?_
        rw [e]; omega
      · exact ⟨hk _ ⟨h1.1, trivial⟩ (by simp), by rw [hw, e]; exact e2⟩
theorem orN_pat (lax : Bool) : ∀ (n : Nat) (s : List Int), AllR s → PatP 0 (orN lax n s) s
  | 0, _, _ => trivial
  | n + 1, s, hs => by
    have hrow : ∀ s, AllR s → PatP 0 (rowP lax (orN lax n) s) s := fun s hs => (rowLoop_pat (lax := lax) (orN_goes lax n) (orN_pat lax n) (s.length + 1) [] s hs trivial).weak (by simp [wrL, Lib.join_nil])
    have hand : ∀ s, AllR s → PatP 0 (andP lax (orN lax n) s) s := fun s hs => joinLoop_pat0 (mk := .and) (sep := [38]) (by simp) (fun l => by simp [Pat.wr]) (fun l h k => ⟨h, k⟩) (rowP_goes (orN_goes lax n)) hrow _ s hs
    exact joinLoop_pat0 (mk := .or) (sep := [124]) (by simp) (fun l => by simp [Pat.wr]) (fun l h k => ⟨h, k⟩) (andP_goes (orN_goes lax n)) hand _ s hs
end Brm
end Go.Proofs.YtlflfcjbpnnfcaaGreatDoor
/- What a pattern matches, plainly: no program stands here. -/
namespace Go.Proofs.YtlflfcjbpnnfcaaGreatDoor
namespace Brm

/-- So many texts, one behind the other. -/
def Rep (P : List Int → Prop) : Nat → List Int → Prop
  | 0, t => t = []
  | k + 1, t => ∃ a b, t = a ++ b ∧ P a ∧ Rep P k b
mutual
def Pat.Mt : Pat → List Int → Prop
  | .set s, t => ∃ c, t = [c] ∧ memB s c = true
  | .row l, t => MtRow l t
  | .or l, t => MtOr l t
  | .and l, t => MtAnd l t
  | .not p, t => ¬ p.Mt t
  | .many p m n, t => ∃ r : Nat, m ≤ r ∧ (n < 0 ∨ (r : Int) ≤ n) ∧ Rep p.Mt r t
  | .group p, t => p.Mt t
def MtRow : List Pat → List Int → Prop
  | [], t => t = []
  | p :: l, t => ∃ a b, t = a ++ b ∧ p.Mt a ∧ MtRow l b
def MtOr : List Pat → List Int → Prop
  | [], _ => False
  | p :: l, t => p.Mt t ∨ MtOr l t
def MtAnd : List Pat → List Int → Prop
  | [], _ => True
  | p :: l, t => p.Mt t ∧ MtAnd l t
end

/-- The part of a text from one place to another. -/
def sub (t : List Int) (i j : Nat) : List Int := (t.drop i).take (j - i)
theorem sub_self (t : List Int) (i : Nat) : sub t i i = [] := by simp [sub]
theorem sub_all (t : List Int) : sub t 0 t.length = t := by simp [sub]
theorem sub_len {t : List Int} {i j : Nat} (h : i ≤ j) (hj : j ≤ t.length) : (sub t i j).length = j - i := by simp [sub]; omega
theorem sub_one {t : List Int} {i : Nat} {c : Int} (h : t[i]? = some c) : sub t i (i + 1) = [c] := by
  unfold sub
  have hlt : i < t.length := (List.getElem?_eq_some_iff.1 h).1
  rw [List.drop_eq_getElem_cons hlt]
  have := (List.getElem?_eq_some_iff.1 h).2
  simp [this]
theorem sub_cat {t : List Int} {i k j : Nat} (h1 : i ≤ k) (h2 : k ≤ j) : sub t i j = sub t i k ++ sub t k j := by
  unfold sub
  have e : j - i = (k - i) + (j - k) := by omega
  rw [e, List.take_add, List.drop_drop]
  congr 2
  congr 1
  omega
/-- Each way to part a part of a text is at a place of the text. -/
theorem sub_split {t : List Int} {i j : Nat} {a b : List Int} (h1 : i ≤ j) (h2 : j ≤ t.length) (h : sub t i j = a ++ b) : ∃ k, i ≤ k ∧ k ≤ j ∧ a = sub t i k ∧ b = sub t k j := by
  have hl := sub_len h1 h2
  rw [h, List.length_append] at hl
  refine ⟨i + a.length, by omega, by omega, ?_, ?_⟩
  · have : a = (a ++ b).take a.length := by simp
    rw [this, ← h]
    unfold sub
    rw [List.take_take]
    congr 1
    simp [List.length_take, List.length_drop]
    omega
  · have : b = (a ++ b).drop a.length := by simp
    rw [this, ← h]
    unfold sub
    rw [List.drop_take, List.drop_drop]
    congr 1
    omega
theorem row_cons_iff {p : Pat} {l : List Pat} {t : List Int} {i j : Nat} (h1 : i ≤ j) (h2 : j ≤ t.length) : MtRow (p :: l) (sub t i j) ↔ ∃ k, i ≤ k ∧ k ≤ j ∧ p.Mt (sub t i k) ∧ MtRow l (sub t k j) := by
  constructor
  · rintro ⟨a, b, e, ha, hb⟩
    obtain ⟨k, k1, k2, rfl, rfl⟩ := sub_split h1 h2 e
    exact ⟨k, k1, k2, ha, hb⟩
  · rintro ⟨k, k1, k2, ha, hb⟩
    exact ⟨_, _, sub_cat k1 k2, ha, hb⟩
theorem rep_succ_iff {P : List Int → Prop} {r : Nat} {t : List Int} {i j : Nat} (h1 : i ≤ j) (h2 : j ≤ t.length) : Rep P (r + 1) (sub t i j) ↔ ∃ k, i ≤ k ∧ k ≤ j ∧ P (sub t i k) ∧ Rep P r (sub t k j) := by
  constructor
  · rintro ⟨a, b, e, ha, hb⟩
    obtain ⟨k, k1, k2, rfl, rfl⟩ := sub_split h1 h2 e
    exact ⟨k, k1, k2, ha, hb⟩
  · rintro ⟨k, k1, k2, ha, hb⟩
    exact ⟨_, _, sub_cat k1 k2, ha, hb⟩
theorem rep_add {P : List Int → Prop} : ∀ (a b : Nat) (t : List Int), Rep P (a + b) t ↔ ∃ u v, t = u ++ v ∧ Rep P a u ∧ Rep P b v
  | 0, b, t => by
    rw [Nat.zero_add]
    constructor
    · intro h; exact ⟨[], t, rfl, rfl, h⟩
    · rintro ⟨u, v, rfl, hu, hv⟩
      have : u = [] := hu
      subst this; exact hv
  | a + 1, b, t => by
    rw [Nat.succ_add]
    constructor
    · rintro ⟨x, y, rfl, hx, hy⟩
      obtain ⟨u, v, rfl, hu, hv⟩ := (rep_add a b y).1 hy
      exact ⟨x ++ u, v, by simp, ⟨x, u, rfl, hx, hu⟩, hv⟩
    · rintro ⟨u, v, rfl, ⟨x, y, rfl, hx, hy⟩, hv⟩
      exact ⟨x, y ++ v, by simp, hx, (rep_add a b _).2 ⟨y, v, rfl, hy, hv⟩⟩
/-- Turns that take nothing can be left out. -/
theorem rep_short {P : List Int → Prop} : ∀ (r : Nat) (t : List Int), Rep P r t → ∃ r', r' ≤ t.length ∧ r' ≤ r ∧ Rep P r' t
  | 0, t, h => ⟨0, Nat.zero_le _, Nat.le_refl _, h⟩
  | r + 1, t, h => by
    obtain ⟨a, b, rfl, ha, hb⟩ := h
    obtain ⟨r', h1, h2, h3⟩ := rep_short r b hb
    by_cases e : a = []
    · subst e
      exact ⟨r', by simpa using h1, by omega, by simpa using h3⟩
    · have : 1 ≤ a.length := by cases a with | nil => exact absurd rfl e | cons => simp
      exact ⟨r' + 1, by rw [List.length_append]; omega, by omega, a, b, rfl, ha, h3⟩
theorem mtOr_iff {l : List Pat} {t : List Int} : MtOr l t ↔ ∃ p ∈ l, p.Mt t := by
  induction l with
  | nil => simp [MtOr]
  | cons p l ih => simp [MtOr, ih]
theorem mtAnd_iff {l : List Pat} {t : List Int} : MtAnd l t ↔ ∀ p ∈ l, p.Mt t := by
  induction l with
  | nil => simp [MtAnd]
  | cons p l ih => simp [MtAnd, ih]
end Brm
end Go.Proofs.YtlflfcjbpnnfcaaGreatDoor
/- The parts of a pattern that remember, in the order of their numbers; there are not many: plain. -/
namespace Go.Proofs.YtlflfcjbpnnfcaaGreatDoor
namespace Brm

mutual
def subs : Pat → List Pat
  | .set _ => []
  | .row l => subsL l ++ [.row l]
  | .or l => subsL l ++ (if l.length = 1 then [] else [.or l])
  | .and l => subsL l ++ (if l.length = 1 then [] else [.and l])
  | .not p => subs p ++ [.not p]
  | .many p m n => subs p ++ [.many p m n]
  | .group p => subs p
def subsL : List Pat → List Pat
  | [] => []
  | p :: l => subs p ++ subsL l
end
theorem subsL_snoc : ∀ (l : List Pat) (p : Pat), subsL (l ++ [p]) = subsL l ++ subs p
  | [], p => by simp [subsL]
  | q :: l, p => by simp [subsL, subsL_snoc l p]
def CntP (k : Nat) (r : Res Pat) (s : List Int) : Prop := match r with | .ok p s' => (subs p).length + 3 * s'.length ≤ k + 3 * s.length | .bad _ => True
theorem CntP.weak {k k' : Nat} {r : Res Pat} {s s' : List Int} (h : CntP k r s) (hk : k + 3 * s.length ≤ k' + 3 * s'.length) : CntP k' r s' := by
  cases r with
  | bad s => trivial
  | ok p t => have h' : (subs p).length + 3 * t.length ≤ k + 3 * s.length := h; show (subs p).length + 3 * t.length ≤ _; omega
theorem manyLoop_cnt : ∀ (n : Nat) (x : Pat) (s : List Int), CntP (subs x).length (manyLoop n x s) s
  | 0, _, _ => trivial
  | n + 1, x, s => by
    unfold manyLoop
    split
    · have h2 := timesP_takes s
      cases hr : timesP s with
      | bad s' => trivial
      | ok mn s' =>
        rw [hr] at h2
        have := h2.1
        refine (manyLoop_cnt n (.many x mn.1 mn.2) s').weak ?_
        simp only [subs, List.length_append, List.length_singleton]; omega
    · exact Nat.le_refl _
theorem set_cnt {l : List (Int × Int)} {s s' : List Int} (h : s'.length ≤ s.length) : CntP 0 (.ok (.set l) s') s := by
  show (subs (.set l)).length + 3 * s'.length ≤ 0 + 3 * s.length
  simp [subs]; omega
theorem atomP_cnt {rec : List Int → Res Pat} (hr : ∀ s, CntP 1 (rec s) s) (s : List Int) : CntP 0 (atomP rec s) s := by
  cases s with
  | nil => trivial
  | cons c s =>
    simp only [atomP]
    split
    · have h1 := hr s
      cases h : rec s with
      | bad s' => trivial
      | ok p s' =>
        rw [h] at h1
        simp only [Res.bind, closeP]
        split
        · rename_i hh
          have := (head_less hh).1
          have h1' : (subs p).length + 3 * s'.length ≤ 1 + 3 * s.length := h1
          show (subs (.group p)).length + _ ≤ _
          simp [subs] at *; omega
        · trivial
    split
    · have h3 := bracketP_takes s
      cases h : bracketP s with
      | bad s' => trivial
      | ok l s' =>
        rw [h] at h3
        have h4 := h3.1
        exact set_cnt (by simp; omega)
    split
    · exact set_cnt (by simp)
    split
    · cases s with
      | nil => trivial
      | cons d s =>
        simp only [escP]
        split
        · exact set_cnt (by simp; omega)
        · split
          · exact set_cnt (by simp; omega)
          · trivial
    split
    · trivial
    · exact set_cnt (by simp)
theorem manyP_cnt {rec : List Int → Res Pat} (hr : ∀ s, CntP 1 (rec s) s) (s : List Int) : CntP 0 (manyP rec s) s := by
  unfold manyP
  have h1 := atomP_cnt hr s
  cases h : atomP rec s with
  | bad s' => trivial
  | ok p s' =>
    rw [h] at h1
    have h1' : (subs p).length + 3 * s'.length ≤ 0 + 3 * s.length := h1
    exact (manyLoop_cnt _ p s').weak (by omega)
theorem notP_cnt {rec : List Int → Res Pat} (hr : ∀ s, CntP 1 (rec s) s) : ∀ (s : List Int), CntP 0 (notP rec s) s
  | [] => manyP_cnt hr _
  | c :: s => by
    simp only [notP]
    split
    · have h1 := notP_cnt hr s
      cases h : notP rec s with
      | bad s' => trivial
      | ok p s' =>
        rw [h] at h1
        have h1' : (subs p).length + 3 * s'.length ≤ 0 + 3 * s.length := h1
        show (subs (.not p)).length + _ ≤ _
        simp [subs]; omega
    · exact manyP_cnt hr _
theorem rowLoop_cnt {lax : Bool} {rec : List Int → Res Pat} (hr : ∀ s, CntP 1 (rec s) s) : ∀ (n : Nat) (l : List Pat) (s : List Int), CntP ((subsL l).length + 1) (rowLoop lax rec n l s) s
  | 0, _, _ => trivial
  | n + 1, l, s => by
    unfold rowLoop
    split
    · show (subs (.row l)).length + _ ≤ _
      simp [subs]
    · have h1 := notP_cnt hr s
      cases h : notP rec s with
      | bad s' => trivial
      | ok p s' =>
        rw [h] at h1
        have h1' : (subs p).length + 3 * s'.length ≤ 0 + 3 * s.length := h1
        refine (rowLoop_cnt hr n (l ++ [p]) s').weak ?_
        rw [subsL_snoc, List.length_append]; omega
theorem joinLoop_cnt {part : List Int → Res Pat} {sign : Int} {mk : List Pat → Pat} (hw : ∀ l, (subs (mk l)).length ≤ (subsL l).length + 1) (hr : ∀ s, CntP 1 (part s) s) : ∀ (n : Nat) (l : List Pat) (s : List Int), CntP ((subsL l).length + 2) (joinLoop part sign mk n l s) s
  | 0, _, _ => trivial
  | n + 1, l, s => by
    unfold joinLoop
    have h1 := hr s
    cases h : part s with
    | bad s' => trivial
    | ok p s' =>
      rw [h] at h1
      have h1' : (subs p).length + 3 * s'.length ≤ 1 + 3 * s.length := h1
      have e : (subsL (l ++ [p])).length = (subsL l).length + (subs p).length := by rw [subsL_snoc, List.length_append]
      simp only [Res.bind]
      split
      · rename_i hh
        have := (head_less hh).1
        refine (joinLoop_cnt hw hr n (l ++ [p]) s'.tail).weak ?_
        omega
      · have := hw (l ++ [p])
        show (subs (mk (l ++ [p]))).length + _ ≤ _
        omega
theorem joinLoop_cnt0 {part : List Int → Res Pat} {sign : Int} {mk : List Pat → Pat} (hw : ∀ l, (subs (mk l)).length ≤ (subsL l).length + 1) (hw1 : ∀ p, (subs (mk [p])).length = (subs p).length) (hr : ∀ s, CntP 1 (part s) s) (n : Nat) (s : List Int) : CntP 1 (joinLoop part sign mk n [] s) s := by
  cases n with
  | zero => trivial
  | succ n =>
    unfold joinLoop
    have h1 := hr s
    cases h : part s with
    | bad s' => trivial
    | ok p s' =>
      rw [h] at h1
      have h1' : (subs p).length + 3 * s'.length ≤ 1 + 3 * s.length := h1
      simp only [Res.bind, List.nil_append]
      split
      · rename_i hh
        have := (head_less hh).1
        refine (joinLoop_cnt hw hr n [p] s'.tail).weak ?_
        simp only [subsL, List.append_nil]; omega
      · show (subs (mk [p])).length + _ ≤ _
        rw [hw1]; exact h1'
theorem or_subs_le (l : List Pat) : (subs (.or l)).length ≤ (subsL l).length + 1 := by simp only [subs, List.length_append]; split <;> simp
theorem and_subs_le (l : List Pat) : (subs (.and l)).length ≤ (subsL l).length + 1 := by simp only [subs, List.length_append]; split <;> simp
theorem orN_cnt (lax : Bool) : ∀ (n : Nat) (s : List Int), CntP 1 (orN lax n s) s
  | 0, _ => trivial
  | n + 1, s => by
    have hrow : ∀ s, CntP 1 (rowP lax (orN lax n) s) s := fun s => (rowLoop_cnt (lax := lax) (orN_cnt lax n) (s.length + 1) [] s).weak (by simp [subsL])
    have hand : ∀ s, CntP 1 (andP lax (orN lax n) s) s := fun s => joinLoop_cnt0 (mk := .and) and_subs_le (fun p => by simp [subs, subsL]) hrow _ s
    exact joinLoop_cnt0 (mk := .or) or_subs_le (fun p => by simp [subs, subsL]) hand _ s
end Brm
end Go.Proofs.YtlflfcjbpnnfcaaGreatDoor
/- Whole parts of a pattern are read whole, plainly: no program stands here. -/
namespace Go.Proofs.YtlflfcjbpnnfcaaGreatDoor
namespace Brm

/-- What begins a part of a row: no sign that belongs to what stands ahead, and none that ends a row. -/
def Starts (l : List Int) : Prop := ∃ c t, l = c :: t ∧ isTimes c = false ∧ ends c = false
def Fresh (s : List Int) : Prop := headIs isTimes s = false
def Stops (s : List Int) : Prop := rowEnds false s = true
def Closes (s : List Int) : Prop := s = [] ∨ ∃ t, s = 41 :: t
theorem Closes.stops {s : List Int} (h : Closes s) : Stops s := by rcases h with rfl | ⟨t, rfl⟩ <;> rfl
theorem ends_not_times {c : Int} (h : ends c = true) : isTimes c = false := by
  have : c = 124 ∨ c = 38 ∨ c = 41 := by simpa [ends] using h
  rcases this with rfl | rfl | rfl <;> rfl
theorem Stops.fresh {s : List Int} (h : Stops s) : Fresh s := by
  cases s with
  | nil => rfl
  | cons c t =>
    have : ends c = true := by simpa [Stops, rowEnds] using h
    exact ends_not_times this
theorem Starts.fresh {l : List Int} (h : Starts l) (s : List Int) : Fresh (l ++ s) := by
  obtain ⟨c, t, rfl, h1, _⟩ := h; exact h1
theorem Starts.row {l : List Int} (h : Starts l) (s : List Int) : rowEnds false (l ++ s) = false := by
  obtain ⟨c, t, rfl, _, h2⟩ := h; simp [rowEnds, h2]
theorem Starts.len {l : List Int} (h : Starts l) : 1 ≤ l.length := by obtain ⟨c, t, rfl, _⟩ := h; simp

def AtomW (l : List Int) (p : Pat) : Prop := (∃ c t, l = c :: t ∧ c ≠ 126 ∧ isTimes c = false ∧ ends c = false) ∧ ∀ n rest, l.length ≤ n → atomP (orN false n) (l ++ rest) = .ok p rest
def ItemW (l : List Int) (p : Pat) : Prop := Starts l ∧ ∀ n rest, l.length ≤ n → Fresh rest → notP (orN false n) (l ++ rest) = .ok p rest
def TimesW (t : List Int) (mn : Int × Int) : Prop := (∃ c u, t = c :: u ∧ isTimes c = true) ∧ ∀ rest, timesP (t ++ rest) = .ok mn rest
inductive SfxW : Pat → List Int → Pat → Prop
  | nil {x : Pat} : SfxW x [] x
  | cons {x p : Pat} {t u : List Int} {mn : Int × Int} : TimesW t mn → SfxW (.many x mn.1 mn.2) u p → SfxW x (t ++ u) p
theorem SfxW.snoc {x p : Pat} {u t : List Int} {mn : Int × Int} (h : SfxW x u p) (k : TimesW t mn) : SfxW x (u ++ t) (.many p mn.1 mn.2) := by
  induction h with
  | nil =>
    rename_i x
    have := SfxW.cons (x := x) k (SfxW.nil (x := .many x mn.1 mn.2))
    simpa using this
  | cons ht _ ih => rw [List.append_assoc]; exact .cons ht ih
theorem sfx_read {x p : Pat} {u : List Int} (h : SfxW x u p) : ∀ (f : Nat) (rest : List Int), u.length < f → Fresh rest → manyLoop f x (u ++ rest) = .ok p rest := by
  induction h with
  | nil =>
    intro f rest hf hr
    cases f with
    | zero => omega
    | succ f => rw [List.nil_append]; unfold manyLoop; rw [if_neg (by rw [show headIs isTimes rest = false from hr]; simp)]
  | cons ht _ ih =>
    rename_i x p t u mn _
    intro f rest hf hr
    obtain ⟨⟨c, v, rfl, hc⟩, hread⟩ := ht
    cases f with
    | zero => omega
    | succ f =>
      rw [List.append_assoc]
      unfold manyLoop
      rw [if_pos (show headIs isTimes ((c :: v) ++ (u ++ rest)) = true from hc), hread]
      refine ih f rest ?_ hr
      simp only [List.length_append, List.length_cons] at hf; omega
/-- A part with how often it comes. -/
def CoreW (l : List Int) (p : Pat) : Prop := ∃ a x u, l = a ++ u ∧ AtomW a x ∧ SfxW x u p
theorem AtomW.core {l : List Int} {p : Pat} (h : AtomW l p) : CoreW l p := ⟨l, p, [], by simp, h, .nil⟩
theorem CoreW.many {l t : List Int} {p : Pat} {mn : Int × Int} (h : CoreW l p) (k : TimesW t mn) : CoreW (l ++ t) (.many p mn.1 mn.2) := by
  obtain ⟨a, x, u, rfl, ha, hs⟩ := h
  exact ⟨a, x, u ++ t, by simp, ha, hs.snoc k⟩
theorem CoreW.item {l : List Int} {p : Pat} (h : CoreW l p) : ItemW l p := by
  obtain ⟨a, x, u, rfl, ⟨⟨c, t, rfl, h1, h2, h3⟩, hr⟩, hs⟩ := h
  refine ⟨⟨c, t ++ u, rfl, h2, h3⟩, fun n rest hn hf => ?_⟩
  have e : notP (orN false n) ((c :: t) ++ u ++ rest) = manyP (orN false n) ((c :: t) ++ (u ++ rest)) := by
    rw [List.append_assoc]
    show notP (orN false n) (c :: (t ++ (u ++ rest))) = _
    unfold notP
    rw [if_neg h1]
    rfl
  rw [e]
  unfold manyP
  rw [hr n _ (by simp only [List.length_append] at hn; omega)]
  exact sfx_read hs _ _ (by simp only [List.length_append]; omega) hf
inductive RowW : List Int → List Pat → Prop
  | nil : RowW [] []
  | cons {l t : List Int} {p : Pat} {ps : List Pat} : ItemW l p → RowW t ps → RowW (l ++ t) (p :: ps)
theorem RowW.fresh {l : List Int} {ps : List Pat} (h : RowW l ps) {rest : List Int} (hr : Stops rest) : Fresh (l ++ rest) := by
  cases h with
  | nil => exact hr.fresh
  | cons hi _ => rw [List.append_assoc]; exact hi.1.fresh _
theorem RowW.snoc {l t : List Int} {p : Pat} {ps : List Pat} (h : RowW l ps) (k : ItemW t p) : RowW (l ++ t) (ps ++ [p]) := by
  induction h with
  | nil => simpa using RowW.cons k .nil
  | cons hi _ ih => rw [List.append_assoc]; exact .cons hi ih
theorem RowW.one {l : List Int} {p : Pat} (k : ItemW l p) : RowW l [p] := by simpa using RowW.cons k .nil
theorem row_read {l : List Int} {ps : List Pat} (h : RowW l ps) : ∀ (n f : Nat) (acc : List Pat) (rest : List Int), l.length ≤ n → l.length < f → Stops rest → rowLoop false (orN false n) f acc (l ++ rest) = .ok (.row (acc ++ ps)) rest := by
  induction h with
  | nil =>
    intro n f acc rest _ hf hr
    cases f with
    | zero => omega
    | succ f => rw [List.nil_append]; unfold rowLoop; rw [if_pos (show rowEnds false rest = true from hr), List.append_nil]
  | cons hi ht ih =>
    rename_i l t p ps
    intro n f acc rest hn hf hr
    rw [List.length_append] at hn hf
    have := hi.1.len
    cases f with
    | zero => omega
    | succ f =>
      rw [List.append_assoc]
      unfold rowLoop
      rw [if_neg (by rw [hi.1.row]; simp), hi.2 n _ (by omega) (ht.fresh hr)]
      show rowLoop false (orN false n) f (acc ++ [p]) (t ++ rest) = _
      rw [ih n f _ rest (by omega) (by omega) hr, List.append_assoc]
      rfl
/-- Parts with a sign between each two. -/
inductive JoinW (P : List Int → Pat → Prop) (sign : Int) : List Int → List Pat → Prop
  | one {l : List Int} {p : Pat} : P l p → JoinW P sign l [p]
  | cons {l t : List Int} {p : Pat} {ps : List Pat} : P l p → JoinW P sign t ps → JoinW P sign (l ++ sign :: t) (p :: ps)
theorem join_read {P : List Int → Pat → Prop} {sign : Int} {part : List Int → Res Pat} {mk : List Pat → Pat} {n : Nat} {S : List Int → Prop} (hP : ∀ l p rest, P l p → l.length ≤ n → S rest → part (l ++ rest) = .ok p rest) (hS : ∀ t, S (sign :: t)) {l : List Int} {ps : List Pat} (h : JoinW P sign l ps) :
    ∀ (f : Nat) (acc : List Pat) (rest : List Int), l.length ≤ n → l.length < f → S rest → rest.head? ≠ some sign → joinLoop part sign mk f acc (l ++ rest) = .ok (mk (acc ++ ps)) rest := by
  induction h with
  | one hp =>
    intro f acc rest hn hf hr hh
    cases f with
    | zero => omega
    | succ f =>
      unfold joinLoop
      rw [hP _ _ _ hp hn hr]
      show (if rest.head? = some sign then _ else _) = _
      rw [if_neg hh]
  | cons hp ht ih =>
    rename_i l t p ps
    intro f acc rest hn hf hr hh
    rw [List.length_append, List.length_cons] at hn hf
    cases f with
    | zero => omega
    | succ f =>
      rw [List.append_assoc, List.cons_append]
      unfold joinLoop
      rw [hP _ _ _ hp (by omega) (hS _)]
      show (if (some sign : Option Int) = some sign then joinLoop part sign mk f (acc ++ [p]) (t ++ rest) else _) = _
      rw [if_pos rfl, ih f _ rest (by omega) (by omega) hr hh, List.append_assoc]
      rfl
def RowU (l : List Int) (p : Pat) : Prop := ∃ ps, p = .row ps ∧ RowW l ps
def AndU (l : List Int) (p : Pat) : Prop := ∃ ps, p = .and ps ∧ JoinW RowU 38 l ps
def OrU (l : List Int) (p : Pat) : Prop := ∃ ps, p = .or ps ∧ JoinW AndU 124 l ps
theorem RowU.read {l : List Int} {p : Pat} (h : RowU l p) {n : Nat} (hn : l.length ≤ n) {rest : List Int} (hr : Stops rest) : rowP false (orN false n) (l ++ rest) = .ok p rest := by
  obtain ⟨ps, rfl, hw⟩ := h
  unfold rowP
  rw [row_read hw n _ [] rest hn (by simp only [List.length_append]; omega) hr]
  rfl
theorem AndU.read {l : List Int} {p : Pat} (h : AndU l p) {n : Nat} (hn : l.length ≤ n) {rest : List Int} (hr : Stops rest) (hh : rest.head? ≠ some 38) : andP false (orN false n) (l ++ rest) = .ok p rest := by
  obtain ⟨ps, rfl, hw⟩ := h
  unfold andP
  rw [join_read (n := n) (sign := 38) (mk := Pat.and) (S := Stops) (fun l p rest hp hl hs => RowU.read hp hl hs) (fun t => rfl) hw _ [] rest hn (by simp only [List.length_append]; omega) hr hh]
  rfl
theorem OrU.read {l : List Int} {p : Pat} (h : OrU l p) {n : Nat} (hn : l.length ≤ n) {rest : List Int} (hr : Closes rest) : orP false (orN false n) (l ++ rest) = .ok p rest := by
  obtain ⟨ps, rfl, hw⟩ := h
  unfold orP
  rw [join_read (n := n) (sign := 124) (mk := Pat.or) (S := fun s => Stops s ∧ s.head? ≠ some 38) (fun l p rest hp hl hs => AndU.read hp hl hs.1 hs.2) (fun t => ⟨rfl, by simp⟩) hw _ [] rest hn (by simp only [List.length_append]; omega) ⟨hr.stops, by rcases hr with rfl | ⟨t, rfl⟩ <;> simp⟩ (by rcases hr with rfl | ⟨t, rfl⟩ <;> simp)]
  rfl
theorem OrU.top {l : List Int} {p : Pat} (h : OrU l p) : orN false (l.length + 1) l = .ok p [] := by
  have := h.read (n := l.length) (Nat.le_refl _) (rest := []) (.inl rfl)
  rw [List.append_nil] at this
  exact this
theorem OrU.group {l : List Int} {p : Pat} (h : OrU l p) : AtomW (40 :: (l ++ [41])) (.group p) := by
  refine ⟨⟨40, _, rfl, by decide, rfl, rfl⟩, fun n rest hn => ?_⟩
  simp only [List.length_cons, List.length_append, List.length_nil] at hn
  obtain ⟨m, rfl⟩ : ∃ m, n = m + 1 := ⟨n - 1, by omega⟩
  have e : (40 :: (l ++ [41])) ++ rest = 40 :: (l ++ 41 :: rest) := by simp
  rw [e]
  simp only [atomP, if_pos, orN]
  rw [h.read (n := m) (by omega) (.inr ⟨rest, rfl⟩)]
  rfl
/- the small parts -/
theorem atom_char {c : Int} (h : special c = false) : AtomW [c] (.set [(c, c)]) := by
  have hs : ¬ (c = 124 ∨ c = 38 ∨ c = 126 ∨ c = 42 ∨ c = 43 ∨ c = 63 ∨ c = 123 ∨ c = 125 ∨ c = 46 ∨ c = 92 ∨ c = 91 ∨ c = 93 ∨ c = 40 ∨ c = 41) := by
    intro k; have : special c = true := by simpa [special] using k
    rw [h] at this; cases this
  refine ⟨⟨c, [], rfl, by omega, ?_, ?_⟩, fun n rest _ => ?_⟩
  · cases e : isTimes c with
    | false => rfl
    | true => have : c = 42 ∨ c = 43 ∨ c = 63 ∨ c = 123 := by simpa [isTimes] using e
              omega
  · cases e : ends c with
    | false => rfl
    | true => have : c = 124 ∨ c = 38 ∨ c = 41 := by simpa [ends] using e
              omega
  · show atomP (orN false n) (c :: rest) = _
    simp only [atomP]
    rw [if_neg (by omega), if_neg (by omega), if_neg (by omega), if_neg (by omega), if_neg (by rw [h]; simp)]
theorem atom_dot : AtomW [46] (.set dot) := ⟨⟨46, [], rfl, by decide, rfl, rfl⟩, fun _ _ _ => rfl⟩
theorem atom_digit : AtomW [92, 100] (.set digits) := ⟨⟨92, [100], rfl, by decide, rfl, rfl⟩, fun _ _ _ => rfl⟩
theorem atom_ab : AtomW [91, 97, 98, 93] (.set (form [(97, 97), (98, 98)])) := by
  refine ⟨⟨91, _, rfl, by decide, rfl, rfl⟩, fun n rest _ => ?_⟩
  show (bracketP ([97, 98, 93] ++ rest)).map Pat.set = _
  rfl
theorem atom_nota : AtomW [91, 94, 97, 93] (.set (notC (form [(97, 97)]))) := by
  refine ⟨⟨91, _, rfl, by decide, rfl, rfl⟩, fun n rest _ => ?_⟩
  show (bracketP ([94, 97, 93] ++ rest)).map Pat.set = _
  rfl
theorem times_star : TimesW [42] (0, -1) := ⟨⟨42, [], rfl, rfl⟩, fun _ => rfl⟩
theorem times_plus : TimesW [43] (1, -1) := ⟨⟨43, [], rfl, rfl⟩, fun _ => rfl⟩
theorem times_maybe : TimesW [63] (0, 1) := ⟨⟨63, [], rfl, rfl⟩, fun _ => rfl⟩
theorem times_two : TimesW [123, 50, 125] (2, 2) := ⟨⟨123, _, rfl, rfl⟩, fun _ => rfl⟩
theorem times_onetwo : TimesW [123, 49, 44, 50, 125] (1, 2) := ⟨⟨123, _, rfl, rfl⟩, fun _ => rfl⟩
/- whole ones out of whole ones -/
def oneP (x : Pat) : Pat := .or [.and [.row [x]]]
theorem whole_row {l m : List Int} {p q : Pat} (h : OrU l p) (k : OrU m q) : OrU (40 :: (l ++ [41]) ++ 40 :: (m ++ [41])) (.or [.and [.row [.group p, .group q]]]) :=
  ⟨_, rfl, .one ⟨_, rfl, .one ⟨_, rfl, .cons h.group.core.item (.one k.group.core.item)⟩⟩⟩
/- what they match -/
theorem mt_row1 {p : Pat} {t : List Int} : MtRow [p] t ↔ p.Mt t := by
  constructor
  · rintro ⟨a, b, rfl, ha, hb⟩
    have : b = [] := hb
    subst this; rw [List.append_nil]; exact ha
  · intro h; exact ⟨t, [], by simp, h, rfl⟩
theorem mt_row2 {p q : Pat} {t : List Int} : Pat.Mt (.or [.and [.row [.group p, .group q]]]) t ↔ ∃ a b, t = a ++ b ∧ p.Mt a ∧ q.Mt b := by
  simp only [Pat.Mt, MtOr, MtAnd, or_false, and_true]
  constructor
  · rintro ⟨a, b, rfl, ha, hb⟩; exact ⟨a, b, rfl, ha, (mt_row1 (p := .group q)).1 hb⟩
  · rintro ⟨a, b, rfl, ha, hb⟩; exact ⟨a, b, rfl, ha, (mt_row1 (p := .group q)).2 hb⟩
def starP (p : Pat) : Pat := oneP (.many (.group p) 0 (-1))
end Brm
end Go.Proofs.YtlflfcjbpnnfcaaGreatDoor
