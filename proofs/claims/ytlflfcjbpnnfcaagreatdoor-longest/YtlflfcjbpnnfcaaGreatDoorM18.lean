/- Walks and plain laws, some texts in one. -/
import Derived.Deep.RegionHeld3
import Derived.Deep.AppendLies
import Derived.Laws.Cover4
import Derived.Laws.IdiomStrings
import Derived.Laws.StructEq
import Derived.BigRegion
import Derived.BigQuiet
import Derived.Deep.QuietTactic
import Derived.Test.YtlflfcjbpnnfcaaGreatDoorM15
import Derived.Test.YtlflfcjbpnnfcaaGreatDoorM17
import Derived.Test.YtlflfcjbpnnfcaaGreatDoorM09
import Derived.Test.YtlflfcjbpnnfcaaGreatDoorM03
import Derived.Test.YtlflfcjbpnnfcaaGreatDoorM05
import Derived.Test.YtlflfcjbpnnfcaaGreatDoorM06
/- The program's reader, rune by rune: walks. -/
namespace Go.Proofs.YtlflfcjbpnnfcaaGreatDoor
open Go.RowKit Brm

/-- A reader in memory: the text, the place, how deep, how deep at most. -/
def PRd (w : World) (b : Nat) (s : ByteArray) (pos d m : Int) : Prop := Blk w b [.string s, .int .i64 pos, .int .i64 d, .int .i64 m] 116
/-- A reader in front of the runes r of the runes l. -/
def PSt (w : World) (b : Nat) (s : ByteArray) (l r : List Int) (d m : Int) : Prop :=
  PRd w b s (posOf (l.length - r.length) (bytesOf s)) d m ∧ r <:+ l ∧ Runes (bytesOf s) l ∧ s.size ≤ 60 ∧ Tabs w ∧ 7 ≤ b ∧ 0 ≤ d ∧ d ≤ ((l.length - r.length : Nat) : Int) ∧ 0 ≤ m ∧ m ≤ ((l.length - r.length : Nat) : Int) ∧ d ≤ m
theorem suf_drop {r l : List Int} (h : r <:+ l) : l.drop (l.length - r.length) = r := by
  obtain ⟨p, rfl⟩ := h
  rw [List.length_append, Nat.add_sub_cancel, List.drop_left]
/-- What stands in front. -/
theorem front {s : ByteArray} {l r : List Int} (hr : Runes (bytesOf s) l) (h : r <:+ l) : Runes ((bytesOf s).drop (posOf (l.length - r.length) (bytesOf s))) r ∧ posOf (l.length - r.length) (bytesOf s) ≤ s.size := by
  have := Brm.runes_drop hr (l.length - r.length) (Nat.sub_le _ _)
  rw [suf_drop h, bytes_len] at this
  exact this
theorem front_nil {s : ByteArray} {l : List Int} (hr : Runes (bytesOf s) l) : posOf (l.length - ([] : List Int).length) (bytesOf s) = s.size := by
  rw [List.length_nil, Nat.sub_zero, posOf_all hr, bytes_len]
theorem front_cons {s : ByteArray} {l t : List Int} {c : Int} (hr : Runes (bytesOf s) l) (h : (c :: t) <:+ l) :
    posOf (l.length - (c :: t).length) (bytesOf s) < s.size ∧ ((decL (bytesOf (s.extract (posOf (l.length - (c :: t).length) (bytesOf s)) s.size))).1 : Int) = c ∧ posOf (l.length - t.length) (bytesOf s) = posOf (l.length - (c :: t).length) (bytesOf s) + (decL (bytesOf (s.extract (posOf (l.length - (c :: t).length) (bytesOf s)) s.size))).2 := by
  obtain ⟨h1, h2⟩ := front hr h
  obtain ⟨a1, a2, a3, a4⟩ := runes_head h1
  have hl := h.length_le
  simp only [List.length_cons] at hl
  rw [bytes_drop]
  refine ⟨?_, a2, ?_⟩
  · rcases Nat.lt_or_ge (posOf (l.length - (c :: t).length) (bytesOf s)) s.size with h | h
    · exact h
    · exact absurd (List.drop_eq_nil_iff.2 (by rw [bytes_len]; exact h)) a1
  · have e : l.length - t.length = (l.length - (c :: t).length) + 1 := by simp only [List.length_cons]; omega
    rw [e, posOf_succ]
theorem PSt.cells {w : World} {b : Nat} {s : ByteArray} {l r : List Int} {d m : Int} (h : PSt w b s l r d m) :
    w.cell? ⟨b, 0, none⟩ = some (.string s) ∧ w.cell? ⟨b, 1, none⟩ = some (.int .i64 (posOf (l.length - r.length) (bytesOf s))) ∧ w.cell? ⟨b, 2, none⟩ = some (.int .i64 d) ∧ w.cell? ⟨b, 3, none⟩ = some (.int .i64 m) ∧ b < w.heap.size :=
  ⟨h.1.cell 0, h.1.cell 1, h.1.cell 2, h.1.cell 3, h.1.lt⟩
theorem PSt.below {w w' : World} {b : Nat} {s : ByteArray} {l r : List Int} {d m : Int} (h : PSt w b s l r d m) (k : Below w.heap.size w w') : PSt w' b s l r d m :=
  ⟨Blk.below h.1 k, h.2.1, h.2.2.1, h.2.2.2.1, h.2.2.2.2.1.below k, h.2.2.2.2.2⟩
def nextP (s : List Int) : Int := match s with | [] => -1 | c :: _ => c

set_option maxRecDepth 100000 in
set_option maxHeartbeats 400000 in
theorem runeAt_end (s : ByteArray) (p : Int) (w : World) (hp : (s.size : Int) ≤ p) : Calls Tryz.prog 106 #[.string s, .int .i64 p] w fun e w' => e = .returned (.int .i32 (-1)) ∧ Below w.heap.size w w' := by
  have hd : decide ((s.size : Int) ≤ p) = true := decide_eq_true hp
  go_enter Tryz.func106, Tryz.ntmps106
  go_wp2
  go_ret
  exact ⟨rfl, Below.refl _ _⟩
set_option maxRecDepth 100000 in
set_option maxHeartbeats 400000 in
theorem runeAt_in (s : ByteArray) (p : Nat) (w : World) (hT : Tabs w) (hp : p < s.size) : Calls Tryz.prog 106 #[.string s, .int .i64 p] w fun e w' => e = .returned (.int .i32 (decL (bytesOf (s.extract p s.size))).1) ∧ Below w.heap.size w w' := by
  have hd : decide (s.size ≤ p) = false := decide_eq_false (by omega)
  have HT := hide hT
  have i0 : (0 : Int) ≤ (p : Int) := Int.natCast_nonneg _
  have i1 : (p : Int) ≤ (s.size : Int) := by omega
  have HES : Hid (1 ≤ (s.extract p s.size).size) := by show _ ≤ _; simp; omega
  clear hT hp
  go_enter Tryz.func106, Tryz.ntmps106
  go_wp2_with (go_at_call 103; refine (dec_any _ _ HT.out HES.out).mono ?_; rintro e w1 ⟨rfl, hb⟩; have HB := hide hb; clear hb)
  go_ret
  exact ⟨rfl, HB.out⟩
theorem runeAt_any (s : ByteArray) (l r : List Int) (w : World) (hT : Tabs w) (hr : Runes (bytesOf s) l) (h : r <:+ l) : Calls Tryz.prog 106 #[.string s, .int .i64 (posOf (l.length - r.length) (bytesOf s))] w fun e w' => e = .returned (.int .i32 (nextP r)) ∧ Below w.heap.size w w' := by
  cases r with
  | nil =>
    rw [front_nil hr]
    exact runeAt_end s _ w (Int.le_refl _)
  | cons c t =>
    obtain ⟨h1, h2, h3⟩ := front_cons hr h
    have := runeAt_in s _ w hT h1
    rw [h2] at this
    exact this
set_option maxRecDepth 100000 in
set_option maxHeartbeats 400000 in
theorem look_any (b : Nat) (s : ByteArray) (l r : List Int) (d m : Int) (w : World) (h : PSt w b s l r d m) : Calls Tryz.prog 59 #[.pointer (some ⟨b, 0, none⟩)] w fun e w' => e = .returned (.int .i32 (nextP r)) ∧ Below w.heap.size w w' := by
  obtain ⟨c0, c1, c2, c3, hb⟩ := h.cells
  have HC := hide (fun w' (hw : Below w.heap.size w w') => runeAt_any s l r w' (h.below hw).2.2.2.2.1 h.2.2.1 h.2.1)
  generalize hP : posOf (l.length - r.length) (bytesOf s) = P at c1 HC
  generalize nextP r = N at HC
  clear h hP c2 c3
  go_enter Tryz.func59, Tryz.ntmps59
  go_wp2_with fail
  go_region_held3 (fun w' => Below w.heap.size w w' ∧ w'.cell? ⟨b, 0, none⟩ = some (.string s) ∧ w'.cell? ⟨b, 1, none⟩ = some (.int .i64 P))
    (first | exact ⟨(Below.refl _ _).drew, c0, c1⟩ | exact ⟨by assumption, (Below.cell (by assumption) hb).trans c0, (Below.cell (by assumption) hb).trans c1⟩)
    ((first
      | (go_at_call 106; refine (HC.out _ (‹Below w.heap.size w _ ∧ _›.1)).mono ?_; rintro e w5 ⟨rfl, hb5⟩; have hb6 : Below w.heap.size w w5 := (‹Below w.heap.size w _ ∧ _›.1).trans (hb5.mono (‹Below w.heap.size w _ ∧ _›.1).size); clear hb5)))
  go_wp2
  go_ret
  exact ⟨rfl, hb6⟩
end Go.Proofs.YtlflfcjbpnnfcaaGreatDoor
/- The program's reader: a step, a rune taken: walks. -/
namespace Go.Proofs.YtlflfcjbpnnfcaaGreatDoor
open Go.RowKit Brm

theorem ext_size (s : ByteArray) (p : Nat) : (s.extract p s.size).size = s.size - p := by simp
theorem PSt.stepped {w : World} {b : Nat} {s : ByteArray} {l t : List Int} {c d m : Int} (h : PSt w b s l (c :: t) d m) (q : Int) (hq : q = (posOf (l.length - t.length) (bytesOf s) : Int)) : PSt (w.setCell ⟨b, 1, none⟩ (.int .i64 q)) b s l t d m ∧ Off b w (w.setCell ⟨b, 1, none⟩ (.int .i64 q)) := by
  have ho : Off b w (w.setCell ⟨b, 1, none⟩ (.int .i64 q)) := (Off.refl _ _).setCell 1 _
  have hb := h.2.2.2.2.2
  simp only [List.length_cons] at hb
  refine ⟨⟨?_, (List.suffix_cons c t).trans h.2.1, h.2.2.1, h.2.2.2.1, h.2.2.2.2.1.off ho hb.1, by omega⟩, ho⟩
  subst hq
  exact Blk.set h.1 1 _
set_option maxRecDepth 100000 in
set_option maxHeartbeats 400000 in
theorem step_any (b : Nat) (s : ByteArray) (l t : List Int) (c d m : Int) (w : World) (h : PSt w b s l (c :: t) d m) : Calls Tryz.prog 207 #[.pointer (some ⟨b, 0, none⟩)] w fun e w' => e = .returned (.tuple #[]) ∧ PSt w' b s l t d m ∧ Off b w w' := by
  have HS := hide h
  obtain ⟨c0, c1, c2, c3, hb⟩ := h.cells
  obtain ⟨f1, f2, f3⟩ := front_cons h.2.2.1 h.2.1
  have hs60 := h.2.2.2.1
  have hfit := decL_fit (bs := bytesOf (s.extract (posOf (l.length - (c :: t).length) (bytesOf s)) s.size)) (by intro e; have := congrArg List.length e; rw [bytes_len, ext_size, List.length_nil] at this; omega)
  have HC := hide (fun w' (hw : Below w.heap.size w w') => dec_any (s.extract (posOf (l.length - (c :: t).length) (bytesOf s)) s.size) w' (h.below hw).2.2.2.2.1 (by rw [ext_size]; omega))
  have HST := hide (fun (w' : World) (hw : Below w.heap.size w w') (q : Int) hq => (h.below hw).stepped q hq)
  have HF3 := hide f3
  have hz := hfit.2.2.1
  generalize hP : posOf (l.length - (c :: t).length) (bytesOf s) = P at c1 HC HF3 f1 hz
  generalize (decL (bytesOf (s.extract P s.size))).2 = Z at HC HF3 hz
  generalize (decL (bytesOf (s.extract P s.size))).1 = R at HC
  have i0 : (0 : Int) ≤ (P : Int) := Int.natCast_nonneg _
  have i1 : (P : Int) ≤ (s.size : Int) := by omega
  clear h hP c2 c3 f2 f3 hfit
  go_enter Tryz.func207, Tryz.ntmps207
  go_wp2_with fail
  go_region_held3 (fun w' => Below w.heap.size w w' ∧ w'.cell? ⟨b, 0, none⟩ = some (.string s) ∧ w'.cell? ⟨b, 1, none⟩ = some (.int .i64 P))
    (first | exact ⟨(Below.refl _ _).drew, c0, c1⟩ | exact ⟨by assumption, (Below.cell (by assumption) hb).trans c0, (Below.cell (by assumption) hb).trans c1⟩)
    ((first
      | (go_at_call 103; refine (HC.out _ (‹Below w.heap.size w _ ∧ _›.1)).mono ?_; rintro e w5 ⟨rfl, hb5⟩; have hb6 : Below w.heap.size w w5 := (‹Below w.heap.size w _ ∧ _›.1).trans (hb5.mono (‹Below w.heap.size w _ ∧ _›.1).size); clear hb5)))
  have d1 := (hb6.cell (p := ⟨b, 1, none⟩) hb).trans c1
  have hb9 : b < w5.heap.size := Nat.lt_of_lt_of_le hb hb6.size
  have hfz : w5.frozen? ⟨b, 1, none⟩ = false := (HS.out.below hb6).1.frozen 1
  have HB6 := hide hb6
  have HST6 := hide (HST.out w5 hb6 ((P : Int) + (Z : Int)) (by rw [HF3.out]; simp))
  have HOF : Hid (Off b w w5) := Off.below hb6
  clear hb6 c0 c1
  go_wp2
  go_end0
  exact ⟨rfl, HST6.out.1, HOF.out.trans HST6.out.2⟩
set_option maxRecDepth 100000 in
set_option maxHeartbeats 400000 in
theorem take_yes (b : Nat) (s : ByteArray) (l t : List Int) (c d m : Int) (w : World) (h : PSt w b s l (c :: t) d m) : Calls Tryz.prog 159 #[.pointer (some ⟨b, 0, none⟩), .int .i32 c] w fun e w' => e = .returned (.bool true) ∧ PSt w' b s l t d m ∧ Off b w w' := by
  have HS := hide h
  clear h
  go_enter Tryz.func159, Tryz.ntmps159
  go_wp2_with fail
  refine (look_any b s l _ d m w HS.out).mono ?_
  rintro e w1 ⟨rfl, hb1⟩
  have HB1 := hide hb1
  clear hb1
  simp only [nextP]
  go_wp2_with fail
  refine (step_any b s l t c d m w1 (HS.out.below HB1.out)).mono ?_
  rintro e w2 ⟨rfl, hs2, ho2⟩
  have HS2 := hide hs2
  have HO2 := hide ((Off.below (b := b) HB1.out).trans ho2)
  clear hs2 ho2
  go_wp2
  go_ret
  exact ⟨rfl, HS2.out, HO2.out⟩
theorem nextP_ne {r : List Int} {c : Int} (h : r.head? ≠ some c) (hc : 0 ≤ c) : nextP r ≠ c := by
  cases r with
  | nil => simp only [nextP]; omega
  | cons d t => simpa [nextP] using h
set_option maxRecDepth 100000 in
set_option maxHeartbeats 400000 in
theorem take_no (b : Nat) (s : ByteArray) (l r : List Int) (c d m : Int) (w : World) (h : PSt w b s l r d m) (hc : 0 ≤ c) (hn : r.head? ≠ some c) : Calls Tryz.prog 159 #[.pointer (some ⟨b, 0, none⟩), .int .i32 c] w fun e w' => e = .returned (.bool false) ∧ Below w.heap.size w w' := by
  have HS := hide h
  have hb : (nextP r == c) = false := beq_eq_false_iff_ne.2 (nextP_ne hn hc)
  have HL := hide (look_any b s l r d m w h)
  generalize nextP r = N at HL hb
  clear h hn hc
  go_enter Tryz.func159, Tryz.ntmps159
  go_wp2_with fail
  refine HL.out.mono ?_
  rintro e w1 ⟨rfl, hb1⟩
  have HB1 := hide hb1
  clear hb1
  go_wp2
  go_ret
  exact ⟨rfl, HB1.out⟩
end Go.Proofs.YtlflfcjbpnnfcaaGreatDoor
/- The program's signs: walks. -/
namespace Go.Proofs.YtlflfcjbpnnfcaaGreatDoor
open Go.RowKit Brm

/-- What stands in front: a rune, or nothing more. -/
def Rn (r : Int) : Prop := r = -1 ∨ runeB r = true
theorem nextP_rn {s : ByteArray} {l r : List Int} (hr : Runes (bytesOf s) l) (h : r <:+ l) : Rn (nextP r) := by
  cases r with
  | nil => exact .inl rfl
  | cons c t => exact .inr ((runes_all hr).suf h c (by simp))
theorem asc_special : ∀ x ∈ bytesOf { data := #[124, 38, 126, 42, 43, 63, 123, 125, 46, 92, 91, 93, 40, 41] }, x.toNat < 128 := by decide
theorem asc_inner : ∀ x ∈ bytesOf { data := #[91, 93, 92, 45, 94] }, x.toNat < 128 := by decide
theorem asc_signs : ∀ x ∈ bytesOf { data := #[124, 38, 126, 42, 43, 63, 123, 125, 46, 92, 91, 93, 40, 41, 45, 94] }, x.toNat < 128 := by decide
def isSign0 (c : Int) : Bool := [124, 38, 126, 42, 43, 63, 123, 125, 46, 92, 91, 93, 40, 41, 45, 94].contains c
theorem amongB_signs0 (c : Int) : amongB c { data := #[124, 38, 126, 42, 43, 63, 123, 125, 46, 92, 91, 93, 40, 41, 45, 94] } = isSign0 c := by
  rw [Bool.eq_iff_iff]
  simp [amongB, isSign0]
  omega
theorem has_special (r : Int) (w : World) (hr : runeB r = true) : Calls Tryz.prog 163 #[.string { data := #[124, 38, 126, 42, 43, 63, 123, 125, 46, 92, 91, 93, 40, 41] }, .int .i32 r] w fun e w' => e = .returned (.bool (special r)) ∧ Below w.heap.size w w' := by
  have := contains_any { data := #[124, 38, 126, 42, 43, 63, 123, 125, 46, 92, 91, 93, 40, 41] } r w (by decide) (by decide) asc_special hr
  rw [amongB_special] at this
  exact this
theorem has_inner (r : Int) (w : World) (hr : runeB r = true) : Calls Tryz.prog 163 #[.string { data := #[91, 93, 92, 45, 94] }, .int .i32 r] w fun e w' => e = .returned (.bool (inner r)) ∧ Below w.heap.size w w' := by
  have := contains_any { data := #[91, 93, 92, 45, 94] } r w (by decide) (by decide) asc_inner hr
  rw [amongB_inner] at this
  exact this
theorem has_signs (r : Int) (w : World) (hr : runeB r = true) : Calls Tryz.prog 163 #[.string { data := #[124, 38, 126, 42, 43, 63, 123, 125, 46, 92, 91, 93, 40, 41, 45, 94] }, .int .i32 r] w fun e w' => e = .returned (.bool (isSign0 r)) ∧ Below w.heap.size w w' := by
  have := contains_any { data := #[124, 38, 126, 42, 43, 63, 123, 125, 46, 92, 91, 93, 40, 41, 45, 94] } r w (by decide) (by decide) asc_signs hr
  rw [amongB_signs0] at this
  exact this
def atomB (r : Int) : Bool := r != -1 && !special r
def itemB (r : Int) : Bool := r != -1 && !inner r
theorem rune_ne {r : Int} (h : runeB r = true) : (r == -1) = false := by
  have := (rune_iff r).1 h
  exact beq_eq_false_iff_ne.2 (by omega)
set_option maxRecDepth 100000 in
set_option maxHeartbeats 400000 in
theorem isOfAtom_any (r : Int) (w : World) (hr : Rn r) : Calls Tryz.prog 239 #[.int .i32 r] w fun e w' => e = .returned (.bool (atomB r)) ∧ Below w.heap.size w w' := by
  rcases hr with rfl | hr
  · go_enter Tryz.func239, Tryz.ntmps239
    go_wp2
    go_ret
    exact ⟨rfl, Below.refl _ _⟩
  · have HC := hide (has_special r w hr)
    have hn := rune_ne hr
    have hn2 : (r = -1) = False := eq_false (beq_eq_false_iff_ne.1 hn)
    have hn3 : (r != -1) = true := by rw [bne, hn]; rfl
    have HE : Hid (atomB r = !special r) := by show _ = _; unfold atomB; rw [bne, hn]; rfl
    generalize special r = B at HC HE
    clear hr
    go_enter Tryz.func239, Tryz.ntmps239
    go_wp2_with fail
    refine HC.out.mono ?_
    rintro e w1 ⟨rfl, hb⟩
    have HB := hide hb
    clear hb
    go_wp2
    go_ret
    exact ⟨ret_bool HE.out.symm, HB.out⟩
set_option maxRecDepth 100000 in
set_option maxHeartbeats 400000 in
theorem isOfItem_any (r : Int) (w : World) (hr : Rn r) : Calls Tryz.prog 324 #[.int .i32 r] w fun e w' => e = .returned (.bool (itemB r)) ∧ Below w.heap.size w w' := by
  rcases hr with rfl | hr
  · go_enter Tryz.func324, Tryz.ntmps324
    go_wp2
    go_ret
    exact ⟨rfl, Below.refl _ _⟩
  · have HC := hide (has_inner r w hr)
    have hn := rune_ne hr
    have hn2 : (r = -1) = False := eq_false (beq_eq_false_iff_ne.1 hn)
    have hn3 : (r != -1) = true := by rw [bne, hn]; rfl
    have HE : Hid (itemB r = !inner r) := by show _ = _; unfold itemB; rw [bne, hn]; rfl
    generalize inner r = B at HC HE
    clear hr
    go_enter Tryz.func324, Tryz.ntmps324
    go_wp2_with fail
    refine HC.out.mono ?_
    rintro e w1 ⟨rfl, hb⟩
    have HB := hide hb
    clear hb
    go_wp2
    go_ret
    exact ⟨ret_bool HE.out.symm, HB.out⟩
set_option maxRecDepth 100000 in
set_option maxHeartbeats 400000 in
theorem signed_any (r : Int) (w : World) (hr : Rn r) : Calls Tryz.prog 316 #[.int .i32 r] w fun e w' => ∃ v, e = .returned (.tuple #[.int .i32 v, .bool (isSign r)]) ∧ (isSign r = true → v = signOf r) ∧ Below w.heap.size w w' := by
  by_cases h1 : r = 110
  · subst h1; go_enter Tryz.func316, Tryz.ntmps316; go_wp2; go_ret2; exact ⟨_, rfl, fun _ => rfl, Below.refl _ _⟩
  by_cases h2 : r = 116
  · subst h2; go_enter Tryz.func316, Tryz.ntmps316; go_wp2; go_ret2; exact ⟨_, rfl, fun _ => rfl, Below.refl _ _⟩
  by_cases h3 : r = 114
  · subst h3; go_enter Tryz.func316, Tryz.ntmps316; go_wp2; go_ret2; exact ⟨_, rfl, fun _ => rfl, Below.refl _ _⟩
  have b1 : (r == 110) = false := beq_eq_false_iff_ne.2 h1
  have b2 : (r == 116) = false := beq_eq_false_iff_ne.2 h2
  have b3 : (r == 114) = false := beq_eq_false_iff_ne.2 h3
  have HE : Hid (isSign r = isSign0 r ∧ signOf r = r) := by
    refine ⟨?_, ?_⟩
    · rw [Bool.eq_iff_iff]; simp [isSign, isSign0]; omega
    · unfold signOf; rw [if_neg h1, if_neg h2, if_neg h3]
  clear h1 h2 h3
  rcases hr with rfl | hr
  · go_enter Tryz.func316, Tryz.ntmps316
    go_wp2
    go_ret2
    exact ⟨_, rfl, fun h => by simp [isSign] at h, Below.refl _ _⟩
  · have HC := hide (has_signs r w hr)
    have hn := rune_ne hr
    have hn2 : (r = -1) = False := eq_false (beq_eq_false_iff_ne.1 hn)
    have hn3 : (r != -1) = true := by rw [bne, hn]; rfl
    rw [HE.out.1]
    generalize isSign0 r = B at HC HE
    clear hr
    go_enter Tryz.func316, Tryz.ntmps316
    go_wp2_with fail
    refine HC.out.mono ?_
    rintro e w1 ⟨rfl, hb⟩
    have HB := hide hb
    clear hb
    go_wp2
    go_ret2
    exact ⟨_, rfl, fun _ => HE.out.2.symm, HB.out⟩
end Go.Proofs.YtlflfcjbpnnfcaaGreatDoor
/- The program's reader: signs, single runes, counts: walks. -/
namespace Go.Proofs.YtlflfcjbpnnfcaaGreatDoor
open Go.RowKit Brm

/-- How a call of the reader's ends, by what reading it is. -/
def DoneP {α : Type} (b : Nat) (s : ByteArray) (l : List Int) (d m : Int) (R : Res α) (w' : World) (e : Ending) (ok : α → Ending → Prop) (bad : Ending → Prop) : Prop := match R with | .ok a r => PSt w' b s l r d m ∧ ok a e | .bad r => PSt w' b s l r d m ∧ bad e
def okI (c : Int) (e : Ending) : Prop := e = .returned (.tuple #[.int .i32 c, .bool true])
def badI (e : Ending) : Prop := ∃ v, e = .returned (.tuple #[.int .i32 v, .bool false])
def signR (least : Int) (r : List Int) : Res Int := if least ≤ 126 then signP least r else .bad (92 :: r)
theorem signP_ok {least c : Int} {t : List Int} (h1 : isSign c = true) (h2 : least ≤ signOf c) : signP least (c :: t) = .ok (signOf c) t := by simp [signP, h1, h2]
theorem signP_less {least c : Int} {t : List Int} (h2 : ¬ least ≤ signOf c) : signP least (c :: t) = .bad (c :: t) := by simp [signP, h2]
theorem signP_no {least : Int} {r : List Int} (h1 : isSign (nextP r) = false) : signP least r = .bad r := by
  cases r with
  | nil => rfl
  | cons c t => simp only [nextP] at h1; simp [signP, h1]
set_option maxRecDepth 100000 in
set_option maxHeartbeats 400000 in
theorem sign_far (b : Nat) (s : ByteArray) (l : List Int) (d m : Int) (w : World) (r : List Int) (least : Int) (h : PSt w b s l (92 :: r) d m) (h1 : ¬ least ≤ 126) : Calls Tryz.prog 305 #[.pointer (some ⟨b, 0, none⟩), .int .i32 least] w fun e w' => Off b w w' ∧ DoneP b s l d m (signR least r) w' e okI badI := by
  have hd : decide (126 < least) = true := decide_eq_true (by omega)
  have HR : Hid (signR least r = .bad (92 :: r)) := if_neg h1
  have HS := hide h
  clear h h1
  go_enter Tryz.func305, Tryz.ntmps305
  go_wp2
  go_ret2
  exact ⟨Off.refl _ _, by rw [HR.out]; exact ⟨HS.out, _, rfl⟩⟩
set_option maxRecDepth 100000 in
set_option maxHeartbeats 400000 in
theorem sign_ok (b : Nat) (s : ByteArray) (l : List Int) (d m : Int) (w : World) (c : Int) (t : List Int) (least : Int) (h : PSt w b s l (92 :: c :: t) d m) (h1 : isSign c = true) (h2 : least ≤ signOf c) (h9 : least ≤ 126) : Calls Tryz.prog 305 #[.pointer (some ⟨b, 0, none⟩), .int .i32 least] w fun e w' => Off b w w' ∧ DoneP b s l d m (signR least (c :: t)) w' e okI badI := by
  have hd : decide (126 < least) = false := decide_eq_false (by omega)
  have HR : Hid (signR least (c :: t) = .ok (signOf c) t) := (if_pos h9).trans (signP_ok h1 h2)
  have hdd : decide (signOf c < least) = false := decide_eq_false (by omega)
  have H1 := hide h1
  have HRN : Hid (Rn c) := .inr ((runes_all h.2.2.1).suf h.2.1 c (by simp))
  have HS := hide h
  have HO : Hid (Off b w w) := Off.refl _ _
  clear h h1 h2 h9
  go_enter Tryz.func305, Tryz.ntmps305
  go_wp2_with fail
  refine (take_yes b s l _ _ d m _ HS.out).mono ?_
  rintro e wi ⟨rfl, hsi, hoi⟩
  replace HS := hide hsi
  replace HO := hide (HO.out.trans hoi)
  clear hsi hoi
  go_wp2_with fail
  refine (look_any b s l _ d m _ HS.out).mono ?_
  rintro e wi ⟨rfl, hbi⟩
  replace HS := hide (HS.out.below hbi)
  replace HO := hide (HO.out.trans (Off.below hbi))
  clear hbi
  simp only [nextP]
  go_wp2_with fail
  refine (signed_any _ _ HRN.out).mono ?_
  rintro e wi ⟨v, rfl, hv, hbi⟩
  replace HS := hide (HS.out.below hbi)
  replace HO := hide (HO.out.trans (Off.below hbi))
  clear hbi
  rw [H1.out]
  have hv2 := hv H1.out
  subst hv2
  clear hv
  go_wp2_with fail
  refine (step_any b s l _ _ d m _ HS.out).mono ?_
  rintro e wi ⟨rfl, hsi, hoi⟩
  replace HS := hide hsi
  replace HO := hide (HO.out.trans hoi)
  clear hsi hoi
  go_wp2
  go_ret2
  exact ⟨HO.out, by rw [HR.out]; exact ⟨HS.out, rfl⟩⟩
set_option maxRecDepth 100000 in
set_option maxHeartbeats 400000 in
theorem sign_less (b : Nat) (s : ByteArray) (l : List Int) (d m : Int) (w : World) (c : Int) (t : List Int) (least : Int) (h : PSt w b s l (92 :: c :: t) d m) (h1 : isSign c = true) (h2 : ¬ least ≤ signOf c) (h9 : least ≤ 126) : Calls Tryz.prog 305 #[.pointer (some ⟨b, 0, none⟩), .int .i32 least] w fun e w' => Off b w w' ∧ DoneP b s l d m (signR least (c :: t)) w' e okI badI := by
  have hd : decide (126 < least) = false := decide_eq_false (by omega)
  have HR : Hid (signR least (c :: t) = .bad (c :: t)) := (if_pos h9).trans (signP_less h2)
  have hdd : decide (signOf c < least) = true := decide_eq_true (by omega)
  have H1 := hide h1
  have HRN : Hid (Rn c) := .inr ((runes_all h.2.2.1).suf h.2.1 c (by simp))
  have HS := hide h
  have HO : Hid (Off b w w) := Off.refl _ _
  clear h h1 h2 h9
  go_enter Tryz.func305, Tryz.ntmps305
  go_wp2_with fail
  refine (take_yes b s l _ _ d m _ HS.out).mono ?_
  rintro e wi ⟨rfl, hsi, hoi⟩
  replace HS := hide hsi
  replace HO := hide (HO.out.trans hoi)
  clear hsi hoi
  go_wp2_with fail
  refine (look_any b s l _ d m _ HS.out).mono ?_
  rintro e wi ⟨rfl, hbi⟩
  replace HS := hide (HS.out.below hbi)
  replace HO := hide (HO.out.trans (Off.below hbi))
  clear hbi
  simp only [nextP]
  go_wp2_with fail
  refine (signed_any _ _ HRN.out).mono ?_
  rintro e wi ⟨v, rfl, hv, hbi⟩
  replace HS := hide (HS.out.below hbi)
  replace HO := hide (HO.out.trans (Off.below hbi))
  clear hbi
  rw [H1.out]
  have hv2 := hv H1.out
  subst hv2
  clear hv
  go_wp2
  go_ret2
  exact ⟨HO.out, by rw [HR.out]; exact ⟨HS.out, _, rfl⟩⟩
set_option maxRecDepth 100000 in
set_option maxHeartbeats 400000 in
theorem sign_none (b : Nat) (s : ByteArray) (l : List Int) (d m : Int) (w : World) (r : List Int) (least : Int) (h : PSt w b s l (92 :: r) d m) (h1 : isSign (nextP r) = false) (h9 : least ≤ 126) : Calls Tryz.prog 305 #[.pointer (some ⟨b, 0, none⟩), .int .i32 least] w fun e w' => Off b w w' ∧ DoneP b s l d m (signR least r) w' e okI badI := by
  have hd : decide (126 < least) = false := decide_eq_false (by omega)
  have HR : Hid (signR least r = .bad r) := (if_pos h9).trans (signP_no h1)
  have H1 := hide h1
  have HRN : Hid (Rn (nextP r)) := nextP_rn h.2.2.1 ((List.suffix_cons 92 r).trans h.2.1)
  have HS := hide h
  have HO : Hid (Off b w w) := Off.refl _ _
  clear h h1 h9
  go_enter Tryz.func305, Tryz.ntmps305
  go_wp2_with fail
  refine (take_yes b s l _ _ d m _ HS.out).mono ?_
  rintro e wi ⟨rfl, hsi, hoi⟩
  replace HS := hide hsi
  replace HO := hide (HO.out.trans hoi)
  clear hsi hoi
  go_wp2_with fail
  refine (look_any b s l _ d m _ HS.out).mono ?_
  rintro e wi ⟨rfl, hbi⟩
  replace HS := hide (HS.out.below hbi)
  replace HO := hide (HO.out.trans (Off.below hbi))
  clear hbi
  generalize nextP r = N at HRN H1
  go_wp2_with fail
  refine (signed_any _ _ HRN.out).mono ?_
  rintro e wi ⟨v, rfl, hv, hbi⟩
  replace HS := hide (HS.out.below hbi)
  replace HO := hide (HO.out.trans (Off.below hbi))
  clear hbi
  rw [H1.out]
  clear hv
  go_wp2
  go_ret2
  exact ⟨HO.out, by rw [HR.out]; exact ⟨HS.out, _, rfl⟩⟩
theorem sign_any2 (b : Nat) (s : ByteArray) (l : List Int) (d m : Int) (w : World) (r : List Int) (least : Int) (h : PSt w b s l (92 :: r) d m) : Calls Tryz.prog 305 #[.pointer (some ⟨b, 0, none⟩), .int .i32 least] w fun e w' => Off b w w' ∧ DoneP b s l d m (signR least r) w' e okI badI := by
  by_cases h9 : least ≤ 126
  · cases h1 : isSign (nextP r) with
    | false => exact sign_none b s l d m w r least h h1 h9
    | true =>
      cases r with
      | nil => simp [nextP, isSign] at h1
      | cons c t =>
        simp only [nextP] at h1
        by_cases h2 : least ≤ signOf c
        · exact sign_ok b s l d m w c t least h h1 h2 h9
        · exact sign_less b s l d m w c t least h h1 h2 h9
  · exact sign_far b s l d m w r least h h9
set_option maxRecDepth 100000 in
set_option maxHeartbeats 400000 in
theorem single_sign (b : Nat) (s : ByteArray) (l : List Int) (d m : Int) (w : World) (r : List Int) (least : Int) (h : PSt w b s l (92 :: r) d m) : Calls Tryz.prog 317 #[.pointer (some ⟨b, 0, none⟩), .int .i32 least] w fun e w' => Off b w w' ∧ DoneP b s l d m (singleP least (92 :: r)) w' e okI badI := by
  have HR : Hid (singleP least (92 :: r) = signR least r) := by show _ = _; simp only [singleP, signR]; rfl
  have HS := hide h
  have HO : Hid (Off b w w) := Off.refl _ _
  clear h
  go_enter Tryz.func317, Tryz.ntmps317
  go_wp2_with fail
  refine (look_any b s l _ d m _ HS.out).mono ?_
  rintro e wi ⟨rfl, hbi⟩
  replace HS := hide (HS.out.below hbi)
  replace HO := hide (HO.out.trans (Off.below hbi))
  clear hbi
  simp only [nextP]
  go_wp2_with fail
  refine (sign_any2 b s l d m _ r least HS.out).mono ?_
  rintro e w2 ⟨ho2, hd2⟩
  replace HO := hide (HO.out.trans ho2)
  clear ho2
  generalize signR least r = RR at HR hd2
  cases RR with
  | ok a q =>
    obtain ⟨hs2, rfl⟩ := hd2
    have HS2 := hide hs2
    clear hs2
    go_wp2
    go_ret2
    exact ⟨HO.out, by rw [HR.out]; exact ⟨HS2.out, rfl⟩⟩
  | bad q =>
    obtain ⟨hs2, v, rfl⟩ := hd2
    have HS2 := hide hs2
    clear hs2
    go_wp2
    go_ret2
    exact ⟨HO.out, by rw [HR.out]; exact ⟨HS2.out, _, rfl⟩⟩
set_option maxRecDepth 100000 in
set_option maxHeartbeats 400000 in
theorem single_no (b : Nat) (s : ByteArray) (l : List Int) (d m : Int) (w : World) (r : List Int) (least : Int) (h : PSt w b s l r d m) (h92 : nextP r ≠ 92) (h1 : itemB (nextP r) = false) : Calls Tryz.prog 317 #[.pointer (some ⟨b, 0, none⟩), .int .i32 least] w fun e w' => Off b w w' ∧ DoneP b s l d m (singleP least r) w' e okI badI := by
  have HR : Hid (singleP least r = .bad r) := by
    show _ = _
    cases r with
    | nil => rfl
    | cons c t =>
      have hn := rune_ne ((runes_all h.2.2.1).suf h.2.1 c (by simp))
      simp only [nextP] at h92 h1
      have : inner c = true := by simpa [itemB, bne, hn] using h1
      simp [singleP, h92, this]
  have HI := hide h1
  have hb : (nextP r == 92) = false := beq_eq_false_iff_ne.2 h92
  have HRN : Hid (Rn (nextP r)) := nextP_rn h.2.2.1 h.2.1
  have HS := hide h
  have HO : Hid (Off b w w) := Off.refl _ _
  clear h h1 h92
  go_enter Tryz.func317, Tryz.ntmps317
  go_wp2_with fail
  refine (look_any b s l _ d m _ HS.out).mono ?_
  rintro e wi ⟨rfl, hbi⟩
  replace HS := hide (HS.out.below hbi)
  replace HO := hide (HO.out.trans (Off.below hbi))
  clear hbi
  generalize nextP r = N at HRN HI hb
  go_wp2_with fail
  refine (isOfItem_any _ _ HRN.out).mono ?_
  rintro e wi ⟨rfl, hbi⟩
  rw [HI.out]
  replace HS := hide (HS.out.below hbi)
  replace HO := hide (HO.out.trans (Off.below hbi))
  clear hbi
  go_wp2
  go_ret2
  exact ⟨HO.out, by rw [HR.out]; exact ⟨HS.out, _, rfl⟩⟩
set_option maxRecDepth 100000 in
set_option maxHeartbeats 400000 in
theorem single_less (b : Nat) (s : ByteArray) (l : List Int) (d m : Int) (w : World) (c : Int) (t : List Int) (least : Int) (h : PSt w b s l (c :: t) d m) (h92 : c ≠ 92) (h1 : itemB c = true) (h2 : ¬ least ≤ c) : Calls Tryz.prog 317 #[.pointer (some ⟨b, 0, none⟩), .int .i32 least] w fun e w' => Off b w w' ∧ DoneP b s l d m (singleP least (c :: t)) w' e okI badI := by
  have HR : Hid (singleP least (c :: t) = .bad (c :: t)) := by show _ = _; simp [singleP, h92, h2]
  have HI := hide h1
  have hb : (c == 92) = false := beq_eq_false_iff_ne.2 h92
  have hdd : decide (c < least) = true := decide_eq_true (by omega)
  have HRN : Hid (Rn c) := .inr ((runes_all h.2.2.1).suf h.2.1 c (by simp))
  have HS := hide h
  have HO : Hid (Off b w w) := Off.refl _ _
  clear h h1 h92 h2
  go_enter Tryz.func317, Tryz.ntmps317
  go_wp2_with fail
  refine (look_any b s l _ d m _ HS.out).mono ?_
  rintro e wi ⟨rfl, hbi⟩
  replace HS := hide (HS.out.below hbi)
  replace HO := hide (HO.out.trans (Off.below hbi))
  clear hbi
  simp only [nextP]
  go_wp2_with fail
  refine (isOfItem_any _ _ HRN.out).mono ?_
  rintro e wi ⟨rfl, hbi⟩
  rw [HI.out]
  replace HS := hide (HS.out.below hbi)
  replace HO := hide (HO.out.trans (Off.below hbi))
  clear hbi
  go_wp2
  go_ret2
  exact ⟨HO.out, by rw [HR.out]; exact ⟨HS.out, _, rfl⟩⟩
set_option maxRecDepth 100000 in
set_option maxHeartbeats 400000 in
theorem single_ok (b : Nat) (s : ByteArray) (l : List Int) (d m : Int) (w : World) (c : Int) (t : List Int) (least : Int) (h : PSt w b s l (c :: t) d m) (h92 : c ≠ 92) (h1 : itemB c = true) (h2 : least ≤ c) : Calls Tryz.prog 317 #[.pointer (some ⟨b, 0, none⟩), .int .i32 least] w fun e w' => Off b w w' ∧ DoneP b s l d m (singleP least (c :: t)) w' e okI badI := by
  have HR : Hid (singleP least (c :: t) = .ok c t) := by
    show _ = _
    have : inner c = false := by simp [itemB] at h1; exact h1.2
    simp [singleP, h92, h2, this]
  have HI := hide h1
  have hb : (c == 92) = false := beq_eq_false_iff_ne.2 h92
  have hdd : decide (c < least) = false := decide_eq_false (by omega)
  have HRN : Hid (Rn c) := .inr ((runes_all h.2.2.1).suf h.2.1 c (by simp))
  have HS := hide h
  have HO : Hid (Off b w w) := Off.refl _ _
  clear h h1 h92 h2
  go_enter Tryz.func317, Tryz.ntmps317
  go_wp2_with fail
  refine (look_any b s l _ d m _ HS.out).mono ?_
  rintro e wi ⟨rfl, hbi⟩
  replace HS := hide (HS.out.below hbi)
  replace HO := hide (HO.out.trans (Off.below hbi))
  clear hbi
  simp only [nextP]
  go_wp2_with fail
  refine (isOfItem_any _ _ HRN.out).mono ?_
  rintro e wi ⟨rfl, hbi⟩
  rw [HI.out]
  replace HS := hide (HS.out.below hbi)
  replace HO := hide (HO.out.trans (Off.below hbi))
  clear hbi
  go_wp2_with fail
  refine (step_any b s l _ _ d m _ HS.out).mono ?_
  rintro e wi ⟨rfl, hsi, hoi⟩
  replace HS := hide hsi
  replace HO := hide (HO.out.trans hoi)
  clear hsi hoi
  go_wp2
  go_ret2
  exact ⟨HO.out, by rw [HR.out]; exact ⟨HS.out, rfl⟩⟩
theorem single_any2 (b : Nat) (s : ByteArray) (l : List Int) (d m : Int) (w : World) (r : List Int) (least : Int) (h : PSt w b s l r d m) : Calls Tryz.prog 317 #[.pointer (some ⟨b, 0, none⟩), .int .i32 least] w fun e w' => Off b w w' ∧ DoneP b s l d m (singleP least r) w' e okI badI := by
  by_cases h92 : nextP r = 92
  · cases r with
    | nil => simp [nextP] at h92
    | cons c t => simp only [nextP] at h92; subst h92; exact single_sign b s l d m w t least h
  · cases h1 : itemB (nextP r) with
    | false => exact single_no b s l d m w r least h h92 h1
    | true =>
      cases r with
      | nil => simp [nextP, itemB] at h1
      | cons c t =>
        simp only [nextP] at h92 h1
        by_cases h2 : least ≤ c
        · exact single_ok b s l d m w c t least h h92 h1 h2
        · exact single_less b s l d m w c t least h h92 h1 h2
end Go.Proofs.YtlflfcjbpnnfcaaGreatDoor
/- The program's reader: counts: walks. -/
namespace Go.Proofs.YtlflfcjbpnnfcaaGreatDoor
open Go.RowKit Brm

def okN (n : Int) (e : Ending) : Prop := e = .returned (.tuple #[.int .i64 n, .bool true])
def badN (e : Ending) : Prop := ∃ v, e = .returned (.tuple #[.int .i64 v, .bool false])
def okT (x : Int × Int) (e : Ending) : Prop := e = .returned (.tuple #[.int .i64 x.1, .int .i64 x.2, .bool true])
def badT (e : Ending) : Prop := ∃ v u, e = .returned (.tuple #[.int .i64 v, .int .i64 u, .bool false])
theorem nextP_le {s : ByteArray} {l r : List Int} (hr : Runes (bytesOf s) l) (h : r <:+ l) : -1 ≤ nextP r ∧ nextP r ≤ 1114111 := by
  rcases nextP_rn hr h with h | h
  · omega
  · have := (rune_iff _).1 h; omega
set_option maxRecDepth 100000 in
set_option maxHeartbeats 400000 in
theorem count_ok (b : Nat) (s : ByteArray) (l : List Int) (d m : Int) (w : World) (c : Int) (t : List Int) (least : Int) (h : PSt w b s l (c :: t) d m) (h1 : 48 + least ≤ c) (h2 : c ≤ 53) (g0 : 0 ≤ least) (g1 : least ≤ 5) : Calls Tryz.prog 318 #[.pointer (some ⟨b, 0, none⟩), .int .i64 least] w fun e w' => Off b w w' ∧ DoneP b s l d m (countP least (c :: t)) w' e okN badN := by
  have HR : Hid (countP least (c :: t) = .ok (c - 48) t) := by show _ = _; simp only [countP]; rw [if_pos ⟨h1, h2⟩]
  have hd1 : decide (c - 48 < least) = false := decide_eq_false (by omega)
  have hd2 : decide (5 < c - 48) = false := decide_eq_false (by omega)
  have HS := hide h
  have HO : Hid (Off b w w) := Off.refl _ _
  clear h
  go_enter Tryz.func318, Tryz.ntmps318
  go_wp2_with fail
  refine (look_any b s l _ d m _ HS.out).mono ?_
  rintro e wi ⟨rfl, hbi⟩
  replace HS := hide (HS.out.below hbi)
  replace HO := hide (HO.out.trans (Off.below hbi))
  clear hbi
  simp only [nextP]
  go_wp2_with fail
  refine (step_any b s l _ _ d m _ HS.out).mono ?_
  rintro e wi ⟨rfl, hsi, hoi⟩
  replace HS := hide hsi
  replace HO := hide (HO.out.trans hoi)
  clear hsi hoi
  go_wp2
  go_ret2
  exact ⟨HO.out, by rw [HR.out]; exact ⟨HS.out, rfl⟩⟩
set_option maxRecDepth 100000 in
set_option maxHeartbeats 400000 in
theorem count_low (b : Nat) (s : ByteArray) (l : List Int) (d m : Int) (w : World) (r : List Int) (least : Int) (h : PSt w b s l r d m) (h1 : ¬ 48 + least ≤ nextP r) : Calls Tryz.prog 318 #[.pointer (some ⟨b, 0, none⟩), .int .i64 least] w fun e w' => Off b w w' ∧ DoneP b s l d m (countP least r) w' e okN badN := by
  have HR : Hid (countP least r = .bad r) := by
    show _ = _
    cases r with
    | nil => rfl
    | cons c t => simp only [nextP] at h1; simp only [countP]; rw [if_neg (fun hh => h1 hh.1)]
  have hle := nextP_le h.2.2.1 h.2.1
  have HS := hide h
  have HO : Hid (Off b w w) := Off.refl _ _
  clear h
  go_enter Tryz.func318, Tryz.ntmps318
  go_wp2_with fail
  refine (look_any b s l _ d m _ HS.out).mono ?_
  rintro e wi ⟨rfl, hbi⟩
  replace HS := hide (HS.out.below hbi)
  replace HO := hide (HO.out.trans (Off.below hbi))
  clear hbi
  generalize nextP r = N at h1 hle
  obtain ⟨hl0, hl1⟩ := hle
  have hd1 : decide (N - 48 < least) = true := decide_eq_true (by omega)
  clear h1
  go_wp2
  go_ret2
  exact ⟨HO.out, by rw [HR.out]; exact ⟨HS.out, _, rfl⟩⟩
set_option maxRecDepth 100000 in
set_option maxHeartbeats 400000 in
theorem count_high (b : Nat) (s : ByteArray) (l : List Int) (d m : Int) (w : World) (r : List Int) (least : Int) (h : PSt w b s l r d m) (h1 : 48 + least ≤ nextP r) (h2 : ¬ nextP r ≤ 53) : Calls Tryz.prog 318 #[.pointer (some ⟨b, 0, none⟩), .int .i64 least] w fun e w' => Off b w w' ∧ DoneP b s l d m (countP least r) w' e okN badN := by
  have HR : Hid (countP least r = .bad r) := by
    show _ = _
    cases r with
    | nil => rfl
    | cons c t => simp only [nextP] at h2; simp only [countP]; rw [if_neg (fun hh => h2 hh.2)]
  have hle := nextP_le h.2.2.1 h.2.1
  have HS := hide h
  have HO : Hid (Off b w w) := Off.refl _ _
  clear h
  go_enter Tryz.func318, Tryz.ntmps318
  go_wp2_with fail
  refine (look_any b s l _ d m _ HS.out).mono ?_
  rintro e wi ⟨rfl, hbi⟩
  replace HS := hide (HS.out.below hbi)
  replace HO := hide (HO.out.trans (Off.below hbi))
  clear hbi
  generalize nextP r = N at h1 h2 hle
  obtain ⟨hl0, hl1⟩ := hle
  have hd1 : decide (N - 48 < least) = false := decide_eq_false (by omega)
  have hd2 : decide (5 < N - 48) = true := decide_eq_true (by omega)
  clear h1 h2
  go_wp2
  go_ret2
  exact ⟨HO.out, by rw [HR.out]; exact ⟨HS.out, _, rfl⟩⟩
theorem count_any2 (b : Nat) (s : ByteArray) (l : List Int) (d m : Int) (w : World) (r : List Int) (least : Int) (h : PSt w b s l r d m) (g0 : 0 ≤ least) (g1 : least ≤ 5) : Calls Tryz.prog 318 #[.pointer (some ⟨b, 0, none⟩), .int .i64 least] w fun e w' => Off b w w' ∧ DoneP b s l d m (countP least r) w' e okN badN := by
  by_cases h1 : 48 + least ≤ nextP r
  · by_cases h2 : nextP r ≤ 53
    · cases r with
      | nil => simp [nextP] at h1; omega
      | cons c t => exact count_ok b s l d m w c t least h h1 h2 g0 g1
    · exact count_high b s l d m w r least h h1 h2
  · exact count_low b s l d m w r least h h1
theorem countP_ok {least n : Int} {r q : List Int} (h : countP least r = .ok n q) : least ≤ n ∧ n ≤ 5 ∧ q <:+ r := by
  cases r with
  | nil => simp [countP] at h
  | cons c t =>
    simp only [countP] at h
    split at h
    · rename_i hh
      cases h
      exact ⟨by omega, by omega, List.suffix_cons _ _⟩
    · cases h
theorem head_cons {r : List Int} {c : Int} (h : r.head? = some c) : r = c :: r.tail := by
  cases r with
  | nil => simp at h
  | cons x t => simp at h; rw [h]; rfl
set_option maxRecDepth 100000 in
set_option maxHeartbeats 400000 in
theorem braces_bad0 (b : Nat) (s : ByteArray) (l : List Int) (d m : Int) (w : World) (r : List Int) (q : List Int) (hc : countP 0 r = .bad q) (h : PSt w b s l (123 :: r) d m) : Calls Tryz.prog 307 #[.pointer (some ⟨b, 0, none⟩)] w fun e w' => Off b w w' ∧ DoneP b s l d m (.bad q) w' e okT badT := by
  have HC := hide hc
  have HS := hide h
  have HO : Hid (Off b w w) := Off.refl _ _
  clear h hc
  go_enter Tryz.func307, Tryz.ntmps307
  go_wp2_with fail
  refine (take_yes b s l _ _ d m _ HS.out).mono ?_
  rintro e wi ⟨rfl, hsi, hoi⟩
  replace HS := hide hsi
  replace HO := hide (HO.out.trans hoi)
  clear hsi hoi
  go_wp2_with fail
  refine (count_any2 b s l d m _ _ 0 HS.out (by decide) (by decide)).mono ?_
  rintro e wi ⟨hoi, hdi⟩
  replace HO := hide (HO.out.trans hoi)
  clear hoi
  rw [HC.out] at hdi
  obtain ⟨hsi, v, rfl⟩ := hdi
  replace HS := hide hsi
  clear hsi
  go_wp2
  refine bodyPost_ret (v := .tuple #[.int .i64 0, .int .i64 0, .bool false]) (by simp [results, Tryz.results307, go_sem]) rfl ?_
  exact ⟨HO.out, HS.out, _, _, rfl⟩
set_option maxRecDepth 100000 in
set_option maxHeartbeats 400000 in
theorem braces_one (b : Nat) (s : ByteArray) (l : List Int) (d m : Int) (w : World) (r : List Int) (x : Int) (q : List Int) (hc : countP 0 r = .ok x (125 :: q)) (h : PSt w b s l (123 :: r) d m) : Calls Tryz.prog 307 #[.pointer (some ⟨b, 0, none⟩)] w fun e w' => Off b w w' ∧ DoneP b s l d m (.ok (x, x) q) w' e okT badT := by
  have HC := hide hc
  have HS := hide h
  have HO : Hid (Off b w w) := Off.refl _ _
  clear h hc
  go_enter Tryz.func307, Tryz.ntmps307
  go_wp2_with fail
  refine (take_yes b s l _ _ d m _ HS.out).mono ?_
  rintro e wi ⟨rfl, hsi, hoi⟩
  replace HS := hide hsi
  replace HO := hide (HO.out.trans hoi)
  clear hsi hoi
  go_wp2_with fail
  refine (count_any2 b s l d m _ _ 0 HS.out (by decide) (by decide)).mono ?_
  rintro e wi ⟨hoi, hdi⟩
  replace HO := hide (HO.out.trans hoi)
  clear hoi
  rw [HC.out] at hdi
  obtain ⟨hsi, rfl⟩ := hdi
  replace HS := hide hsi
  clear hsi
  go_wp2_with fail
  refine (take_yes b s l _ _ d m _ HS.out).mono ?_
  rintro e wi ⟨rfl, hsi, hoi⟩
  replace HS := hide hsi
  replace HO := hide (HO.out.trans hoi)
  clear hsi hoi
  go_wp2
  refine bodyPost_ret (v := .tuple #[.int .i64 x, .int .i64 x, .bool true]) (by simp [results, Tryz.results307, go_sem]) rfl ?_
  exact ⟨HO.out, HS.out, rfl⟩
set_option maxRecDepth 100000 in
set_option maxHeartbeats 400000 in
theorem braces_bad1 (b : Nat) (s : ByteArray) (l : List Int) (d m : Int) (w : World) (r : List Int) (x : Int) (q : List Int) (hc : countP 0 r = .ok x q) (h1 : q.head? ≠ some 125) (h2 : q.head? ≠ some 44) (h : PSt w b s l (123 :: r) d m) : Calls Tryz.prog 307 #[.pointer (some ⟨b, 0, none⟩)] w fun e w' => Off b w w' ∧ DoneP b s l d m (.bad q) w' e okT badT := by
  have HC := hide hc
  have H1 := hide h1
  have H2 := hide h2
  have HS := hide h
  have HO : Hid (Off b w w) := Off.refl _ _
  clear h hc h1 h2
  go_enter Tryz.func307, Tryz.ntmps307
  go_wp2_with fail
  refine (take_yes b s l _ _ d m _ HS.out).mono ?_
  rintro e wi ⟨rfl, hsi, hoi⟩
  replace HS := hide hsi
  replace HO := hide (HO.out.trans hoi)
  clear hsi hoi
  go_wp2_with fail
  refine (count_any2 b s l d m _ _ 0 HS.out (by decide) (by decide)).mono ?_
  rintro e wi ⟨hoi, hdi⟩
  replace HO := hide (HO.out.trans hoi)
  clear hoi
  rw [HC.out] at hdi
  obtain ⟨hsi, rfl⟩ := hdi
  replace HS := hide hsi
  clear hsi
  go_wp2_with fail
  refine (take_no b s l _ _ d m _ HS.out (by decide) H1.out).mono ?_
  rintro e wi ⟨rfl, hbi⟩
  replace HS := hide (HS.out.below hbi)
  replace HO := hide (HO.out.trans (Off.below hbi))
  clear hbi
  go_wp2_with fail
  refine (take_no b s l _ _ d m _ HS.out (by decide) H2.out).mono ?_
  rintro e wi ⟨rfl, hbi⟩
  replace HS := hide (HS.out.below hbi)
  replace HO := hide (HO.out.trans (Off.below hbi))
  clear hbi
  go_wp2
  refine bodyPost_ret (v := .tuple #[.int .i64 0, .int .i64 0, .bool false]) (by simp [results, Tryz.results307, go_sem]) rfl ?_
  exact ⟨HO.out, HS.out, _, _, rfl⟩
set_option maxRecDepth 100000 in
set_option maxHeartbeats 400000 in
theorem braces_up (b : Nat) (s : ByteArray) (l : List Int) (d m : Int) (w : World) (r : List Int) (x : Int) (q : List Int) (hc : countP 0 r = .ok x (44 :: 125 :: q)) (h : PSt w b s l (123 :: r) d m) : Calls Tryz.prog 307 #[.pointer (some ⟨b, 0, none⟩)] w fun e w' => Off b w w' ∧ DoneP b s l d m (.ok (x, -1) q) w' e okT badT := by
  have HC := hide hc
  have HS := hide h
  have HO : Hid (Off b w w) := Off.refl _ _
  clear h hc
  go_enter Tryz.func307, Tryz.ntmps307
  go_wp2_with fail
  refine (take_yes b s l _ _ d m _ HS.out).mono ?_
  rintro e wi ⟨rfl, hsi, hoi⟩
  replace HS := hide hsi
  replace HO := hide (HO.out.trans hoi)
  clear hsi hoi
  go_wp2_with fail
  refine (count_any2 b s l d m _ _ 0 HS.out (by decide) (by decide)).mono ?_
  rintro e wi ⟨hoi, hdi⟩
  replace HO := hide (HO.out.trans hoi)
  clear hoi
  rw [HC.out] at hdi
  obtain ⟨hsi, rfl⟩ := hdi
  replace HS := hide hsi
  clear hsi
  go_wp2_with fail
  refine (take_no b s l _ _ d m _ HS.out (by decide) (by simp)).mono ?_
  rintro e wi ⟨rfl, hbi⟩
  replace HS := hide (HS.out.below hbi)
  replace HO := hide (HO.out.trans (Off.below hbi))
  clear hbi
  go_wp2_with fail
  refine (take_yes b s l _ _ d m _ HS.out).mono ?_
  rintro e wi ⟨rfl, hsi, hoi⟩
  replace HS := hide hsi
  replace HO := hide (HO.out.trans hoi)
  clear hsi hoi
  go_wp2_with fail
  refine (take_yes b s l _ _ d m _ HS.out).mono ?_
  rintro e wi ⟨rfl, hsi, hoi⟩
  replace HS := hide hsi
  replace HO := hide (HO.out.trans hoi)
  clear hsi hoi
  go_wp2
  refine bodyPost_ret (v := .tuple #[.int .i64 x, .int .i64 (-1), .bool true]) (by simp [results, Tryz.results307, go_sem]) rfl ?_
  exact ⟨HO.out, HS.out, rfl⟩
set_option maxRecDepth 100000 in
set_option maxHeartbeats 400000 in
theorem braces_bad2 (b : Nat) (s : ByteArray) (l : List Int) (d m : Int) (w : World) (r : List Int) (x : Int) (q q2 : List Int) (hc : countP 0 r = .ok x (44 :: q)) (h1 : q.head? ≠ some 125) (hc2 : countP x q = .bad q2) (h : PSt w b s l (123 :: r) d m) : Calls Tryz.prog 307 #[.pointer (some ⟨b, 0, none⟩)] w fun e w' => Off b w w' ∧ DoneP b s l d m (.bad q2) w' e okT badT := by
  have HC := hide hc
  have HC2 := hide hc2
  have H1 := hide h1
  have hx := countP_ok hc
  obtain ⟨hx0, hx1, _⟩ := hx
  have HS := hide h
  have HO : Hid (Off b w w) := Off.refl _ _
  clear h hc hc2 h1
  go_enter Tryz.func307, Tryz.ntmps307
  go_wp2_with fail
  refine (take_yes b s l _ _ d m _ HS.out).mono ?_
  rintro e wi ⟨rfl, hsi, hoi⟩
  replace HS := hide hsi
  replace HO := hide (HO.out.trans hoi)
  clear hsi hoi
  go_wp2_with fail
  refine (count_any2 b s l d m _ _ 0 HS.out (by decide) (by decide)).mono ?_
  rintro e wi ⟨hoi, hdi⟩
  replace HO := hide (HO.out.trans hoi)
  clear hoi
  rw [HC.out] at hdi
  obtain ⟨hsi, rfl⟩ := hdi
  replace HS := hide hsi
  clear hsi
  go_wp2_with fail
  refine (take_no b s l _ _ d m _ HS.out (by decide) (by simp)).mono ?_
  rintro e wi ⟨rfl, hbi⟩
  replace HS := hide (HS.out.below hbi)
  replace HO := hide (HO.out.trans (Off.below hbi))
  clear hbi
  go_wp2_with fail
  refine (take_yes b s l _ _ d m _ HS.out).mono ?_
  rintro e wi ⟨rfl, hsi, hoi⟩
  replace HS := hide hsi
  replace HO := hide (HO.out.trans hoi)
  clear hsi hoi
  go_wp2_with fail
  refine (take_no b s l _ _ d m _ HS.out (by decide) H1.out).mono ?_
  rintro e wi ⟨rfl, hbi⟩
  replace HS := hide (HS.out.below hbi)
  replace HO := hide (HO.out.trans (Off.below hbi))
  clear hbi
  go_wp2_with fail
  refine (count_any2 b s l d m _ _ x HS.out hx0 hx1).mono ?_
  rintro e wi ⟨hoi, hdi⟩
  replace HO := hide (HO.out.trans hoi)
  clear hoi
  rw [HC2.out] at hdi
  obtain ⟨hsi, v, rfl⟩ := hdi
  replace HS := hide hsi
  clear hsi
  go_wp2
  refine bodyPost_ret (v := .tuple #[.int .i64 x, .int .i64 v, .bool false]) (by simp [results, Tryz.results307, go_sem]) rfl ?_
  exact ⟨HO.out, HS.out, _, _, rfl⟩
set_option maxRecDepth 100000 in
set_option maxHeartbeats 400000 in
theorem braces_two (b : Nat) (s : ByteArray) (l : List Int) (d m : Int) (w : World) (r : List Int) (x y : Int) (q q2 : List Int) (hc : countP 0 r = .ok x (44 :: q)) (h1 : q.head? ≠ some 125) (hc2 : countP x q = .ok y (125 :: q2)) (h : PSt w b s l (123 :: r) d m) : Calls Tryz.prog 307 #[.pointer (some ⟨b, 0, none⟩)] w fun e w' => Off b w w' ∧ DoneP b s l d m (.ok (x, y) q2) w' e okT badT := by
  have HC := hide hc
  have HC2 := hide hc2
  have H1 := hide h1
  have hx := countP_ok hc
  obtain ⟨hx0, hx1, _⟩ := hx
  have HS := hide h
  have HO : Hid (Off b w w) := Off.refl _ _
  clear h hc hc2 h1
  go_enter Tryz.func307, Tryz.ntmps307
  go_wp2_with fail
  refine (take_yes b s l _ _ d m _ HS.out).mono ?_
  rintro e wi ⟨rfl, hsi, hoi⟩
  replace HS := hide hsi
  replace HO := hide (HO.out.trans hoi)
  clear hsi hoi
  go_wp2_with fail
  refine (count_any2 b s l d m _ _ 0 HS.out (by decide) (by decide)).mono ?_
  rintro e wi ⟨hoi, hdi⟩
  replace HO := hide (HO.out.trans hoi)
  clear hoi
  rw [HC.out] at hdi
  obtain ⟨hsi, rfl⟩ := hdi
  replace HS := hide hsi
  clear hsi
  go_wp2_with fail
  refine (take_no b s l _ _ d m _ HS.out (by decide) (by simp)).mono ?_
  rintro e wi ⟨rfl, hbi⟩
  replace HS := hide (HS.out.below hbi)
  replace HO := hide (HO.out.trans (Off.below hbi))
  clear hbi
  go_wp2_with fail
  refine (take_yes b s l _ _ d m _ HS.out).mono ?_
  rintro e wi ⟨rfl, hsi, hoi⟩
  replace HS := hide hsi
  replace HO := hide (HO.out.trans hoi)
  clear hsi hoi
  go_wp2_with fail
  refine (take_no b s l _ _ d m _ HS.out (by decide) H1.out).mono ?_
  rintro e wi ⟨rfl, hbi⟩
  replace HS := hide (HS.out.below hbi)
  replace HO := hide (HO.out.trans (Off.below hbi))
  clear hbi
  go_wp2_with fail
  refine (count_any2 b s l d m _ _ x HS.out hx0 hx1).mono ?_
  rintro e wi ⟨hoi, hdi⟩
  replace HO := hide (HO.out.trans hoi)
  clear hoi
  rw [HC2.out] at hdi
  obtain ⟨hsi, rfl⟩ := hdi
  replace HS := hide hsi
  clear hsi
  go_wp2_with fail
  refine (take_yes b s l _ _ d m _ HS.out).mono ?_
  rintro e wi ⟨rfl, hsi, hoi⟩
  replace HS := hide hsi
  replace HO := hide (HO.out.trans hoi)
  clear hsi hoi
  go_wp2
  refine bodyPost_ret (v := .tuple #[.int .i64 x, .int .i64 y, .bool true]) (by simp [results, Tryz.results307, go_sem]) rfl ?_
  exact ⟨HO.out, HS.out, rfl⟩
set_option maxRecDepth 100000 in
set_option maxHeartbeats 400000 in
theorem braces_bad3 (b : Nat) (s : ByteArray) (l : List Int) (d m : Int) (w : World) (r : List Int) (x y : Int) (q q2 : List Int) (hc : countP 0 r = .ok x (44 :: q)) (h1 : q.head? ≠ some 125) (hc2 : countP x q = .ok y q2) (h3 : q2.head? ≠ some 125) (h : PSt w b s l (123 :: r) d m) : Calls Tryz.prog 307 #[.pointer (some ⟨b, 0, none⟩)] w fun e w' => Off b w w' ∧ DoneP b s l d m (.bad q2) w' e okT badT := by
  have HC := hide hc
  have HC2 := hide hc2
  have H3 := hide h3
  have H1 := hide h1
  have hx := countP_ok hc
  obtain ⟨hx0, hx1, _⟩ := hx
  have HS := hide h
  have HO : Hid (Off b w w) := Off.refl _ _
  clear h3 h hc hc2 h1
  go_enter Tryz.func307, Tryz.ntmps307
  go_wp2_with fail
  refine (take_yes b s l _ _ d m _ HS.out).mono ?_
  rintro e wi ⟨rfl, hsi, hoi⟩
  replace HS := hide hsi
  replace HO := hide (HO.out.trans hoi)
  clear hsi hoi
  go_wp2_with fail
  refine (count_any2 b s l d m _ _ 0 HS.out (by decide) (by decide)).mono ?_
  rintro e wi ⟨hoi, hdi⟩
  replace HO := hide (HO.out.trans hoi)
  clear hoi
  rw [HC.out] at hdi
  obtain ⟨hsi, rfl⟩ := hdi
  replace HS := hide hsi
  clear hsi
  go_wp2_with fail
  refine (take_no b s l _ _ d m _ HS.out (by decide) (by simp)).mono ?_
  rintro e wi ⟨rfl, hbi⟩
  replace HS := hide (HS.out.below hbi)
  replace HO := hide (HO.out.trans (Off.below hbi))
  clear hbi
  go_wp2_with fail
  refine (take_yes b s l _ _ d m _ HS.out).mono ?_
  rintro e wi ⟨rfl, hsi, hoi⟩
  replace HS := hide hsi
  replace HO := hide (HO.out.trans hoi)
  clear hsi hoi
  go_wp2_with fail
  refine (take_no b s l _ _ d m _ HS.out (by decide) H1.out).mono ?_
  rintro e wi ⟨rfl, hbi⟩
  replace HS := hide (HS.out.below hbi)
  replace HO := hide (HO.out.trans (Off.below hbi))
  clear hbi
  go_wp2_with fail
  refine (count_any2 b s l d m _ _ x HS.out hx0 hx1).mono ?_
  rintro e wi ⟨hoi, hdi⟩
  replace HO := hide (HO.out.trans hoi)
  clear hoi
  rw [HC2.out] at hdi
  obtain ⟨hsi, rfl⟩ := hdi
  replace HS := hide hsi
  clear hsi
  go_wp2_with fail
  refine (take_no b s l _ _ d m _ HS.out (by decide) H3.out).mono ?_
  rintro e wi ⟨rfl, hbi⟩
  replace HS := hide (HS.out.below hbi)
  replace HO := hide (HO.out.trans (Off.below hbi))
  clear hbi
  go_wp2
  refine bodyPost_ret (v := .tuple #[.int .i64 x, .int .i64 y, .bool false]) (by simp [results, Tryz.results307, go_sem]) rfl ?_
  exact ⟨HO.out, HS.out, _, _, rfl⟩
theorem braces_any (b : Nat) (s : ByteArray) (l : List Int) (d m : Int) (w : World) (r : List Int) (h : PSt w b s l (123 :: r) d m) : Calls Tryz.prog 307 #[.pointer (some ⟨b, 0, none⟩)] w fun e w' => Off b w w' ∧ DoneP b s l d m (countsP r) w' e okT badT := by
  unfold countsP
  cases hc : countP 0 r with
  | bad q => exact braces_bad0 b s l d m w r q hc h
  | ok x q =>
    simp only [Res.bind]
    by_cases h1 : q.head? = some 44
    · rw [if_pos h1]
      have e1 := head_cons h1
      rw [e1] at hc
      by_cases h2 : q.tail.head? = some 125
      · rw [if_pos h2]
        have e2 := head_cons h2
        rw [e2] at hc
        exact braces_up b s l d m w r x _ hc h
      · rw [if_neg h2]
        cases hc2 : countP x q.tail with
        | bad q2 => exact braces_bad2 b s l d m w r x q.tail q2 hc h2 hc2 h
        | ok y q2 =>
          simp only [closeP]
          by_cases h3 : q2.head? = some 125
          · rw [if_pos h3]
            have e3 := head_cons h3
            rw [e3] at hc2
            exact braces_two b s l d m w r x y q.tail _ hc h2 hc2 h
          · rw [if_neg h3]
            exact braces_bad3 b s l d m w r x y q.tail q2 hc h2 hc2 h3 h
    · rw [if_neg h1]
      simp only [closeP]
      by_cases h2 : q.head? = some 125
      · rw [if_pos h2]
        have e2 := head_cons h2
        rw [e2] at hc
        exact braces_one b s l d m w r x _ hc h
      · rw [if_neg h2]
        exact braces_bad1 b s l d m w r x q hc h2 h1 h
set_option maxRecDepth 100000 in
set_option maxHeartbeats 400000 in
theorem times_star (b : Nat) (s : ByteArray) (l : List Int) (d m : Int) (w : World) (r : List Int) (h : PSt w b s l (42 :: r) d m) : Calls Tryz.prog 287 #[.pointer (some ⟨b, 0, none⟩)] w fun e w' => Off b w w' ∧ DoneP b s l d m (.ok (0, -1) r) w' e okT badT := by
  have HS := hide h
  have HO : Hid (Off b w w) := Off.refl _ _
  clear h
  go_enter Tryz.func287, Tryz.ntmps287
  go_wp2_with fail
  refine (take_yes b s l _ _ d m _ HS.out).mono ?_
  rintro e wi ⟨rfl, hsi, hoi⟩
  replace HS := hide hsi
  replace HO := hide (HO.out.trans hoi)
  clear hsi hoi
  go_wp2
  refine bodyPost_ret (v := .tuple #[.int .i64 0, .int .i64 (-1), .bool true]) (by simp [results, Tryz.results287, go_sem]) rfl ?_
  exact ⟨HO.out, HS.out, rfl⟩
set_option maxRecDepth 100000 in
set_option maxHeartbeats 400000 in
theorem times_plus (b : Nat) (s : ByteArray) (l : List Int) (d m : Int) (w : World) (r : List Int) (h : PSt w b s l (43 :: r) d m) : Calls Tryz.prog 287 #[.pointer (some ⟨b, 0, none⟩)] w fun e w' => Off b w w' ∧ DoneP b s l d m (.ok (1, -1) r) w' e okT badT := by
  have HS := hide h
  have HO : Hid (Off b w w) := Off.refl _ _
  clear h
  go_enter Tryz.func287, Tryz.ntmps287
  go_wp2_with fail
  refine (take_no b s l _ _ d m _ HS.out (by decide) (by simp)).mono ?_
  rintro e wi ⟨rfl, hbi⟩
  replace HS := hide (HS.out.below hbi)
  replace HO := hide (HO.out.trans (Off.below hbi))
  clear hbi
  go_wp2_with fail
  refine (take_yes b s l _ _ d m _ HS.out).mono ?_
  rintro e wi ⟨rfl, hsi, hoi⟩
  replace HS := hide hsi
  replace HO := hide (HO.out.trans hoi)
  clear hsi hoi
  go_wp2
  refine bodyPost_ret (v := .tuple #[.int .i64 1, .int .i64 (-1), .bool true]) (by simp [results, Tryz.results287, go_sem]) rfl ?_
  exact ⟨HO.out, HS.out, rfl⟩
set_option maxRecDepth 100000 in
set_option maxHeartbeats 400000 in
theorem times_opt (b : Nat) (s : ByteArray) (l : List Int) (d m : Int) (w : World) (r : List Int) (h : PSt w b s l (63 :: r) d m) : Calls Tryz.prog 287 #[.pointer (some ⟨b, 0, none⟩)] w fun e w' => Off b w w' ∧ DoneP b s l d m (.ok (0, 1) r) w' e okT badT := by
  have HS := hide h
  have HO : Hid (Off b w w) := Off.refl _ _
  clear h
  go_enter Tryz.func287, Tryz.ntmps287
  go_wp2_with fail
  refine (take_no b s l _ _ d m _ HS.out (by decide) (by simp)).mono ?_
  rintro e wi ⟨rfl, hbi⟩
  replace HS := hide (HS.out.below hbi)
  replace HO := hide (HO.out.trans (Off.below hbi))
  clear hbi
  go_wp2_with fail
  refine (take_no b s l _ _ d m _ HS.out (by decide) (by simp)).mono ?_
  rintro e wi ⟨rfl, hbi⟩
  replace HS := hide (HS.out.below hbi)
  replace HO := hide (HO.out.trans (Off.below hbi))
  clear hbi
  go_wp2_with fail
  refine (take_yes b s l _ _ d m _ HS.out).mono ?_
  rintro e wi ⟨rfl, hsi, hoi⟩
  replace HS := hide hsi
  replace HO := hide (HO.out.trans hoi)
  clear hsi hoi
  go_wp2
  refine bodyPost_ret (v := .tuple #[.int .i64 0, .int .i64 1, .bool true]) (by simp [results, Tryz.results287, go_sem]) rfl ?_
  exact ⟨HO.out, HS.out, rfl⟩
set_option maxRecDepth 100000 in
set_option maxHeartbeats 400000 in
theorem times_brace (b : Nat) (s : ByteArray) (l : List Int) (d m : Int) (w : World) (r : List Int) (h : PSt w b s l (123 :: r) d m) : Calls Tryz.prog 287 #[.pointer (some ⟨b, 0, none⟩)] w fun e w' => Off b w w' ∧ DoneP b s l d m (countsP r) w' e okT badT := by
  have HS := hide h
  have HO : Hid (Off b w w) := Off.refl _ _
  clear h
  go_enter Tryz.func287, Tryz.ntmps287
  go_wp2_with fail
  refine (take_no b s l _ _ d m _ HS.out (by decide) (by simp)).mono ?_
  rintro e wi ⟨rfl, hbi⟩
  replace HS := hide (HS.out.below hbi)
  replace HO := hide (HO.out.trans (Off.below hbi))
  clear hbi
  go_wp2_with fail
  refine (take_no b s l _ _ d m _ HS.out (by decide) (by simp)).mono ?_
  rintro e wi ⟨rfl, hbi⟩
  replace HS := hide (HS.out.below hbi)
  replace HO := hide (HO.out.trans (Off.below hbi))
  clear hbi
  go_wp2_with fail
  refine (take_no b s l _ _ d m _ HS.out (by decide) (by simp)).mono ?_
  rintro e wi ⟨rfl, hbi⟩
  replace HS := hide (HS.out.below hbi)
  replace HO := hide (HO.out.trans (Off.below hbi))
  clear hbi
  go_wp2_with fail
  refine (braces_any b s l d m _ r HS.out).mono ?_
  rintro e w2 ⟨ho2, hd2⟩
  replace HO := hide (HO.out.trans ho2)
  clear ho2
  generalize hRR : countsP r = RR at hd2
  have HRR := hide hRR
  clear hRR
  cases RR with
  | ok a q =>
    obtain ⟨hs2, rfl⟩ := hd2
    have HS2 := hide hs2
    clear hs2
    go_wp2
    refine bodyPost_ret (v := .tuple #[.int .i64 a.1, .int .i64 a.2, .bool true]) (by simp [results, Tryz.results287, go_sem]) rfl ?_
    exact ⟨HO.out, by rw [HRR.out]; exact ⟨HS2.out, rfl⟩⟩
  | bad q =>
    obtain ⟨hs2, v, u, rfl⟩ := hd2
    have HS2 := hide hs2
    clear hs2
    go_wp2
    refine bodyPost_ret (v := .tuple #[.int .i64 v, .int .i64 u, .bool false]) (by simp [results, Tryz.results287, go_sem]) rfl ?_
    exact ⟨HO.out, by rw [HRR.out]; exact ⟨HS2.out, _, _, rfl⟩⟩
theorem times_any (b : Nat) (s : ByteArray) (l : List Int) (d m : Int) (w : World) (r : List Int) (h : PSt w b s l r d m) (ht : headIs isTimes r = true) : Calls Tryz.prog 287 #[.pointer (some ⟨b, 0, none⟩)] w fun e w' => Off b w w' ∧ DoneP b s l d m (timesP r) w' e okT badT := by
  cases r with
  | nil => simp [headIs] at ht
  | cons c t =>
    have hc : c = 42 ∨ c = 43 ∨ c = 63 ∨ c = 123 := by simpa [headIs, isTimes] using ht
    rcases hc with rfl | rfl | rfl | rfl
    · exact times_star b s l d m w t h
    · exact times_plus b s l d m w t h
    · exact times_opt b s l d m w t h
    · exact times_brace b s l d m w t h
end Go.Proofs.YtlflfcjbpnnfcaaGreatDoor
/- The program's sets: the one form, what is not in it, one rune, the dot, the classes: walks. -/
namespace Go.Proofs.YtlflfcjbpnnfcaaGreatDoor
open Go.RowKit Brm

/-- Blocks that a call has made. -/
abbrev New (w : World) : Nat → Prop := fun k => w.heap.size ≤ k
theorem form_set (ao : Option Addr) (l : List (Int × Int)) (cap : Nat) (w : World) (hr : Rd w ao l) (hlen : l.length ≤ 1000000) (hok : ∀ x ∈ l, okB x = true) :
    Calls Tryz.prog 210 #[.slice ao l.length cap] w fun e w' => ∃ v, e = .returned v ∧ SlA w' (New w) v (form l) ∧ Below w.heap.size w w' := by
  refine (form_said ao l cap w hr hlen hok).mono ?_
  rintro e w' ⟨v, rfl, out, ⟨h1, h2⟩, ho, hb⟩
  have := form_unique hok h1
  subst this
  exact ⟨v, rfl, own_slA ho (fun k hk => hk), hb⟩
theorem pnot_set (ao : Option Addr) (l : List (Int × Int)) (cap : Nat) (w : World) (hr : Rd w ao l) (hlen : l.length ≤ 1000000) (hok : ∀ x ∈ l, okB x = true) :
    Calls Tryz.prog 161 #[.slice ao l.length cap] w fun e w' => ∃ v, e = .returned v ∧ SlA w' (New w) v (notC (form l)) ∧ Below w.heap.size w w' := by
  refine (not_any form_said ao l cap w hr hlen hok).mono ?_
  rintro e w' ⟨v, rfl, out, ⟨h1, h2, h3⟩, ho, hb⟩
  have hf := form_is hok
  have := notC_unique hf.1 h1 (fun r hr => by rw [h2 r hr, hf.2 r hr])
  subst this
  exact ⟨v, rfl, own_slA ho (fun k hk => hk), hb⟩
theorem new_sla (w : World) (l : List (Int × Int)) : SlA (w.alloc (.cells (cellsR l).toArray 149)) (New w) (.slice (some ⟨w.heap.size, 0, none⟩) l.length l.length) l :=
  .inr ⟨_, 0, l.length, rfl, Nat.le_refl _, Nat.le_refl _, by simp, rd_lit w l⟩
set_option maxRecDepth 100000 in
set_option maxHeartbeats 400000 in
theorem pone_any (c : Int) (w : World) (h0 : 0 ≤ c) (h1 : c ≤ 1114111) : Calls Tryz.prog 162 #[.int .i32 c] w fun e w' => ∃ v, e = .returned v ∧ SlA w' (New w) v [(c, c)] ∧ Below w.heap.size w w' := by
  have HN := hide (new_sla w [(c, c)])
  have HB := hide ((Below.refl w.heap.size w).alloc (Nat.le_refl _) (.cells (cellsR [(c, c)]).toArray 149))
  go_enter Tryz.func162, Tryz.ntmps162
  go_wp2
  go_ret
  exact ⟨_, rfl, HN.out, HB.out⟩
set_option maxRecDepth 100000 in
set_option maxHeartbeats 400000 in
theorem pdot_any (w : World) : Calls Tryz.prog 108 #[] w fun e w' => ∃ v, e = .returned v ∧ SlA w' (New w) v dot ∧ Below w.heap.size w w' := by
  have HOK : Hid (∀ x ∈ [((10 : Int), (10 : Int))], okB x = true) := by show ∀ x ∈ _, _; decide
  go_enter Tryz.func108, Tryz.ntmps108
  go_wp2_with fail
  refine (pone_any 10 w (by decide) (by decide)).mono ?_
  rintro e w1 ⟨v1, rfl, h1, hb1⟩
  obtain ⟨ao, cap, rfl, hr, _⟩ := h1.sl.rd
  have HR := hide hr
  have HB1 := hide hb1
  clear h1 hr hb1
  go_wp2_with fail
  refine (pnot_set ao [(10, 10)] cap w1 HR.out (by decide) HOK.out).mono ?_
  rintro e w2 ⟨v2, rfl, h2, hb2⟩
  have H2 := hide (SlA.mono h2 (A' := New w) (fun k _ hk => Nat.le_trans HB1.out.size hk))
  have HB2 := hide (HB1.out.trans (hb2.mono HB1.out.size))
  clear h2 hb2
  go_wp2
  go_ret
  refine ⟨_, rfl, ?_, HB2.out⟩
  have e : dot = notC (form [(10, 10)]) := by rw [form_canon (canon_one (by decide))]; rfl
  rw [e]; exact H2.out
def lowOf (c : Int) : Int := if c = 68 then 100 else if c = 87 then 119 else 115
set_option maxRecDepth 100000 in
set_option maxHeartbeats 400000 in
theorem lower_any (c : Int) (w : World) (hc : c = 68 ∨ c = 87 ∨ c = 83) : Calls Tryz.prog 323 #[.int .i32 c] w fun e w' => e = .returned (.int .i32 (lowOf c)) ∧ w' = w := by
  rcases hc with rfl | rfl | rfl <;>
  · go_enter Tryz.func323, Tryz.ntmps323
    go_wp2
    go_ret
    exact ⟨rfl, rfl⟩
def okS (w0 : World) (w' : World) (x : List (Int × Int)) (e : Ending) : Prop := ∃ v, e = .returned (.tuple #[v, .bool true]) ∧ SlA w' (New w0) v x
def badS (e : Ending) : Prop := e = .returned (.tuple #[.slice none 0 0, .bool false])
-- GENERATED
set_option maxRecDepth 100000 in
set_option maxHeartbeats 400000 in
theorem pclass_d (w : World) : Calls Tryz.prog 315 #[.int .i32 100] w fun e w' => okS w w' digits e ∧ Below w.heap.size w w' := by
  have HN := hide (new_sla w digits)
  have HB := hide ((Below.refl w.heap.size w).alloc (Nat.le_refl _) (.cells (cellsR digits).toArray 149))
  go_enter Tryz.func315, Tryz.ntmps315
  go_wp2
  go_ret2
  exact ⟨⟨_, rfl, HN.out⟩, HB.out⟩
set_option maxRecDepth 100000 in
set_option maxHeartbeats 400000 in
theorem pclass_w (w : World) : Calls Tryz.prog 315 #[.int .i32 119] w fun e w' => okS w w' words e ∧ Below w.heap.size w w' := by
  have HN := hide (new_sla w words)
  have HB := hide ((Below.refl w.heap.size w).alloc (Nat.le_refl _) (.cells (cellsR words).toArray 149))
  go_enter Tryz.func315, Tryz.ntmps315
  go_wp2
  go_ret2
  exact ⟨⟨_, rfl, HN.out⟩, HB.out⟩
set_option maxRecDepth 100000 in
set_option maxHeartbeats 400000 in
theorem pclass_s (w : World) : Calls Tryz.prog 315 #[.int .i32 115] w fun e w' => okS w w' spaces e ∧ Below w.heap.size w w' := by
  have HN := hide (new_sla w spaces)
  have HB := hide ((Below.refl w.heap.size w).alloc (Nat.le_refl _) (.cells (cellsR spaces).toArray 149))
  go_enter Tryz.func315, Tryz.ntmps315
  go_wp2
  go_ret2
  exact ⟨⟨_, rfl, HN.out⟩, HB.out⟩
set_option maxRecDepth 100000 in
set_option maxHeartbeats 400000 in
theorem pclass_D (w : World) : Calls Tryz.prog 315 #[.int .i32 68] w fun e w' => okS w w' (notC digits) e ∧ Below w.heap.size w w' := by
  have HL := hide (lower_any 68 w (by decide))
  go_enter Tryz.func315, Tryz.ntmps315
  go_wp2_with fail
  refine HL.out.mono ?_
  rintro e w0 ⟨rfl, hw0⟩
  have hw1 := hw0.symm
  subst hw1
  clear hw0
  rw [show lowOf 68 = 100 from rfl]
  go_wp2_with fail
  refine (pclass_d w).mono ?_
  rintro e w1 ⟨⟨v1, rfl, h1⟩, hb1⟩
  obtain ⟨ao, cap, rfl, hr, _⟩ := h1.sl.rd
  have HR := hide hr
  have HB1 := hide hb1
  clear h1 hr hb1
  go_wp2_with fail
  refine (pnot_set ao digits cap w1 HR.out (by decide) (canon_ok canon_digits)).mono ?_
  rintro e w2 ⟨v2, rfl, h2, hb2⟩
  rw [form_canon canon_digits] at h2
  have H2 := hide (SlA.mono h2 (A' := New w) (fun k _ hk => Nat.le_trans HB1.out.size hk))
  have HB2 := hide (HB1.out.trans (hb2.mono HB1.out.size))
  clear h2 hb2
  go_wp2
  go_ret2
  exact ⟨⟨_, rfl, H2.out⟩, HB2.out⟩
set_option maxRecDepth 100000 in
set_option maxHeartbeats 400000 in
theorem pclass_W (w : World) : Calls Tryz.prog 315 #[.int .i32 87] w fun e w' => okS w w' (notC words) e ∧ Below w.heap.size w w' := by
  have HL := hide (lower_any 87 w (by decide))
  go_enter Tryz.func315, Tryz.ntmps315
  go_wp2_with fail
  refine HL.out.mono ?_
  rintro e w0 ⟨rfl, hw0⟩
  have hw1 := hw0.symm
  subst hw1
  clear hw0
  rw [show lowOf 87 = 119 from rfl]
  go_wp2_with fail
  refine (pclass_w w).mono ?_
  rintro e w1 ⟨⟨v1, rfl, h1⟩, hb1⟩
  obtain ⟨ao, cap, rfl, hr, _⟩ := h1.sl.rd
  have HR := hide hr
  have HB1 := hide hb1
  clear h1 hr hb1
  go_wp2_with fail
  refine (pnot_set ao words cap w1 HR.out (by decide) (canon_ok canon_words)).mono ?_
  rintro e w2 ⟨v2, rfl, h2, hb2⟩
  rw [form_canon canon_words] at h2
  have H2 := hide (SlA.mono h2 (A' := New w) (fun k _ hk => Nat.le_trans HB1.out.size hk))
  have HB2 := hide (HB1.out.trans (hb2.mono HB1.out.size))
  clear h2 hb2
  go_wp2
  go_ret2
  exact ⟨⟨_, rfl, H2.out⟩, HB2.out⟩
set_option maxRecDepth 100000 in
set_option maxHeartbeats 400000 in
theorem pclass_S (w : World) : Calls Tryz.prog 315 #[.int .i32 83] w fun e w' => okS w w' (notC spaces) e ∧ Below w.heap.size w w' := by
  have HL := hide (lower_any 83 w (by decide))
  go_enter Tryz.func315, Tryz.ntmps315
  go_wp2_with fail
  refine HL.out.mono ?_
  rintro e w0 ⟨rfl, hw0⟩
  have hw1 := hw0.symm
  subst hw1
  clear hw0
  rw [show lowOf 83 = 115 from rfl]
  go_wp2_with fail
  refine (pclass_s w).mono ?_
  rintro e w1 ⟨⟨v1, rfl, h1⟩, hb1⟩
  obtain ⟨ao, cap, rfl, hr, _⟩ := h1.sl.rd
  have HR := hide hr
  have HB1 := hide hb1
  clear h1 hr hb1
  go_wp2_with fail
  refine (pnot_set ao spaces cap w1 HR.out (by decide) (canon_ok canon_spaces)).mono ?_
  rintro e w2 ⟨v2, rfl, h2, hb2⟩
  rw [form_canon canon_spaces] at h2
  have H2 := hide (SlA.mono h2 (A' := New w) (fun k _ hk => Nat.le_trans HB1.out.size hk))
  have HB2 := hide (HB1.out.trans (hb2.mono HB1.out.size))
  clear h2 hb2
  go_wp2
  go_ret2
  exact ⟨⟨_, rfl, H2.out⟩, HB2.out⟩
set_option maxRecDepth 100000 in
set_option maxHeartbeats 400000 in
theorem pclass_no (c : Int) (w : World) (h : isClass c = false) : Calls Tryz.prog 315 #[.int .i32 c] w fun e w' => badS e ∧ w' = w := by
  have hn : ¬ (c = 100 ∨ c = 119 ∨ c = 115 ∨ c = 68 ∨ c = 87 ∨ c = 83) := by
    intro hh
    have : isClass c = true := by simpa [isClass] using hh
    rw [h] at this; cases this
  have b1 : (c == 100) = false := beq_eq_false_iff_ne.2 (by omega)
  have b2 : (c == 119) = false := beq_eq_false_iff_ne.2 (by omega)
  have b3 : (c == 115) = false := beq_eq_false_iff_ne.2 (by omega)
  have b4 : (c == 68) = false := beq_eq_false_iff_ne.2 (by omega)
  have b5 : (c == 87) = false := beq_eq_false_iff_ne.2 (by omega)
  have b6 : (c == 83) = false := beq_eq_false_iff_ne.2 (by omega)
  clear hn h
  go_enter Tryz.func315, Tryz.ntmps315
  go_wp2
  go_ret2
  exact ⟨rfl, rfl⟩
theorem pclass_yes (c : Int) (w : World) (h : isClass c = true) : Calls Tryz.prog 315 #[.int .i32 c] w fun e w' => okS w w' (classOf c) e ∧ Below w.heap.size w w' := by
  rcases class_cases h with rfl | rfl | rfl | rfl | rfl | rfl
  · exact pclass_d w
  · exact pclass_w w
  · exact pclass_s w
  · exact pclass_D w
  · exact pclass_W w
  · exact pclass_S w
end Go.Proofs.YtlflfcjbpnnfcaaGreatDoor
/- The program's reader: classes: walks. -/
namespace Go.Proofs.YtlflfcjbpnnfcaaGreatDoor
open Go.RowKit Brm

theorem pos_ascii {s : ByteArray} {l t : List Int} {c : Int} (hr : Runes (bytesOf s) l) (h : (c :: t) <:+ l) (hc : c < 128) : posOf (l.length - t.length) (bytesOf s) = posOf (l.length - (c :: t).length) (bytesOf s) + 1 := by
  obtain ⟨h1, h2, h3⟩ := front_cons hr h
  rw [h3]
  have := decL_ascii (bs := bytesOf (s.extract (posOf (l.length - (c :: t).length) (bytesOf s)) s.size)) (by omega)
  rw [this.2]
set_option maxRecDepth 100000 in
set_option maxHeartbeats 400000 in
theorem class_none (b : Nat) (s : ByteArray) (l : List Int) (d m : Int) (w : World) (r : List Int) (h : PSt w b s l r d m) (h1 : nextP r ≠ 92) : Calls Tryz.prog 304 #[.pointer (some ⟨b, 0, none⟩)] w fun e w' => badS e ∧ Below w.heap.size w w' := by
  have HL := hide (look_any b s l r d m w h)
  have hb : (nextP r == 92) = false := beq_eq_false_iff_ne.2 h1
  generalize nextP r = N at HL hb
  clear h h1
  go_enter Tryz.func304, Tryz.ntmps304
  go_wp2_with fail
  refine HL.out.mono ?_
  rintro e w1 ⟨rfl, hb1⟩
  have HB1 := hide hb1
  clear hb1
  go_wp2
  go_ret2
  exact ⟨rfl, HB1.out⟩
set_option maxRecDepth 100000 in
set_option maxHeartbeats 400000 in
theorem class_other (b : Nat) (s : ByteArray) (l : List Int) (d m : Int) (w : World) (r : List Int) (h : PSt w b s l (92 :: r) d m) (h1 : isClass (nextP r) = false) : Calls Tryz.prog 304 #[.pointer (some ⟨b, 0, none⟩)] w fun e w' => badS e ∧ Below w.heap.size w w' := by
  have HL := hide (look_any b s l (92 :: r) d m w h)
  obtain ⟨c0, c1, c2, c3, hb⟩ := h.cells
  have hs2 : r <:+ l := (List.suffix_cons 92 r).trans h.2.1
  have hpa := pos_ascii h.2.2.1 h.2.1 (by decide)
  have HRA := hide (fun w' (hw : Below w.heap.size w w') => runeAt_any s l r w' (h.below hw).2.2.2.2.1 h.2.2.1 hs2)
  rw [hpa] at HRA
  have hps := (front h.2.2.1 hs2).2
  have h60 := h.2.2.2.1
  rw [hpa] at hps
  have HS := hide h
  generalize posOf (l.length - (92 :: r).length) (bytesOf s) = P at c1 HRA hps
  have HCL := hide (fun w => pclass_no (nextP r) w h1)
  generalize nextP r = N at HRA HCL
  clear h1 hs2 hpa
  have hcast : ((P + 1 : Nat) : Int) = (P : Int) + 1 := by omega
  rw [hcast] at HRA
  have p0 : (0 : Int) ≤ (P : Int) := Int.natCast_nonneg _
  have p1 : (P : Int) ≤ 60 := by omega
  have hwrap : IntKind.i64.wrap ((P : Int) + 1) = (P : Int) + 1 := by simp [IntKind.wrap, IntKind.bits, IntKind.signed]; omega
  clear h c2 c3 hcast
  go_enter Tryz.func304, Tryz.ntmps304
  go_wp2_with fail
  refine HL.out.mono ?_
  rintro e w1 ⟨rfl, hb1⟩
  have HB1 := hide hb1
  have hbw : b < w1.heap.size := Nat.lt_of_lt_of_le hb hb1.size
  rw [← hb1.cell (p := ⟨b, _, none⟩) hb] at c0 c1
  replace HRA := hide (fun w' (hw : Below w1.heap.size w1 w') => HRA.out w' (hb1.trans (hw.mono hb1.size)))
  clear hb1
  simp only [nextP]
  go_wp2_with fail
  go_region_held3 (fun w' => Below w1.heap.size w1 w' ∧ w'.cell? ⟨b, 0, none⟩ = some (.string s) ∧ w'.cell? ⟨b, 1, none⟩ = some (.int .i64 P))
    (first | exact ⟨(Below.refl _ _).drew, c0, c1⟩ | exact ⟨by assumption, (Below.cell (by assumption) hbw).trans c0, (Below.cell (by assumption) hbw).trans c1⟩)
    ((first
      | (go_at_call 106; refine (HRA.out _ (‹Below w1.heap.size w1 _ ∧ _›.1)).mono ?_; rintro e w5 ⟨rfl, hb5⟩; have hb6 : Below w1.heap.size w1 w5 := (‹Below w1.heap.size w1 _ ∧ _›.1).trans (hb5.mono (‹Below w1.heap.size w1 _ ∧ _›.1).size); clear hb5)
      | (go_at_call 315; refine (HCL.out _).mono ?_; rintro e w7 ⟨rfl, hw7⟩; have hw72 := hw7.symm; subst hw72; clear hw7)))
  have HB6 := hide (HB1.out.trans (hb6.mono HB1.out.size))
  go_wp2
  go_ret2
  exact ⟨rfl, HB6.out⟩
set_option maxRecDepth 100000 in
set_option maxHeartbeats 400000 in
theorem class_yes (b : Nat) (s : ByteArray) (l : List Int) (d m : Int) (w : World) (c : Int) (t : List Int) (h : PSt w b s l (92 :: c :: t) d m) (h1 : isClass c = true) : Calls Tryz.prog 304 #[.pointer (some ⟨b, 0, none⟩)] w fun e w' => okS w w' (classOf c) e ∧ PSt w' b s l t d m ∧ Off b w w' := by
  have HL := hide (look_any b s l (92 :: c :: t) d m w h)
  obtain ⟨c0, c1, c2, c3, hb⟩ := h.cells
  have hs2 : (c :: t) <:+ l := (List.suffix_cons 92 (c :: t)).trans h.2.1
  have hpa := pos_ascii h.2.2.1 h.2.1 (by decide)
  have HRA := hide (fun w' (hw : Below w.heap.size w w') => runeAt_any s l (c :: t) w' (h.below hw).2.2.2.2.1 h.2.2.1 hs2)
  rw [hpa] at HRA
  have hps := (front h.2.2.1 hs2).2
  have h60 := h.2.2.2.1
  rw [hpa] at hps
  have HS := hide h
  have hca : c < 128 := by rcases class_cases h1 with rfl | rfl | rfl | rfl | rfl | rfl <;> decide
  have hpb := pos_ascii h.2.2.1 hs2 hca
  rw [hpa] at hpb
  have HST : Hid (∀ w', Below w.heap.size w w' → ∀ q : Int, q = (posOf (l.length - t.length) (bytesOf s) : Int) → PSt (w'.setCell ⟨b, 1, none⟩ (.int .i64 q)) b s l t d m ∧ Off b w' (w'.setCell ⟨b, 1, none⟩ (.int .i64 q))) := by
    intro w' hw q hq
    have hh := h.below hw
    have ho : Off b w' (w'.setCell ⟨b, 1, none⟩ (.int .i64 q)) := (Off.refl _ _).setCell 1 _
    have hbd := hh.2.2.2.2.2
    simp only [List.length_cons] at hbd
    refine ⟨⟨?_, (List.suffix_cons c t).trans hs2, hh.2.2.1, hh.2.2.2.1, hh.2.2.2.2.1.off ho hbd.1, by omega⟩, ho⟩
    subst hq
    exact Blk.set hh.1 1 _
  have HPB := hide hpb
  generalize posOf (l.length - (92 :: c :: t).length) (bytesOf s) = P at c1 HRA hps HPB
  have HCL := hide (fun w => pclass_yes c w h1)
  clear h1 hs2 hpa hpb hca
  have hcast : ((P + 1 : Nat) : Int) = (P : Int) + 1 := by omega
  rw [hcast] at HRA
  have p0 : (0 : Int) ≤ (P : Int) := Int.natCast_nonneg _
  have p1 : (P : Int) ≤ 60 := by omega
  have hwrap : IntKind.i64.wrap ((P : Int) + 1) = (P : Int) + 1 := by simp [IntKind.wrap, IntKind.bits, IntKind.signed]; omega
  clear h c2 c3 hcast
  go_enter Tryz.func304, Tryz.ntmps304
  go_wp2_with fail
  refine HL.out.mono ?_
  rintro e w1 ⟨rfl, hb1⟩
  have HB1 := hide hb1
  have hbw : b < w1.heap.size := Nat.lt_of_lt_of_le hb hb1.size
  rw [← hb1.cell (p := ⟨b, _, none⟩) hb] at c0 c1
  replace HRA := hide (fun w' (hw : Below w1.heap.size w1 w') => HRA.out w' (hb1.trans (hw.mono hb1.size)))
  clear hb1
  simp only [nextP]
  go_wp2_with fail
  go_region_held3 (fun w' => Below w1.heap.size w1 w' ∧ w'.cell? ⟨b, 0, none⟩ = some (.string s) ∧ w'.cell? ⟨b, 1, none⟩ = some (.int .i64 P))
    (first | exact ⟨(Below.refl _ _).drew, c0, c1⟩ | exact ⟨by assumption, (Below.cell (by assumption) hbw).trans c0, (Below.cell (by assumption) hbw).trans c1⟩)
    ((first
      | (go_at_call 106; refine (HRA.out _ (‹Below w1.heap.size w1 _ ∧ _›.1)).mono ?_; rintro e w5 ⟨rfl, hb5⟩; have hb6 : Below w1.heap.size w1 w5 := (‹Below w1.heap.size w1 _ ∧ _›.1).trans (hb5.mono (‹Below w1.heap.size w1 _ ∧ _›.1).size); clear hb5)
      | (go_at_call 315; refine (HCL.out _).mono ?_; rintro e w7 ⟨⟨v7, rfl, hv7⟩, hb7⟩; have hb8 : Below w1.heap.size w1 w7 := hb6.trans (hb7.mono hb6.size); have HV7 := hide hv7; have hn7 := hb6.size; clear hb7 hv7)))
  obtain ⟨ao, cap, rfl, hr7, _⟩ := (SlA.sl HV7.out).rd
  clear hr7
  have d1 := (hb8.cell (p := ⟨b, 1, none⟩) hbw).trans c1
  have hb9 : b < w7.heap.size := Nat.lt_of_lt_of_le hbw hb8.size
  have HB9 := hide (HB1.out.trans (hb8.mono HB1.out.size))
  have hfz : w7.frozen? ⟨b, 1, none⟩ = false := (HS.out.below HB9.out).1.frozen 1
  have HST6 := hide (HST.out w7 HB9.out ((P : Int) + 2) (by rw [HPB.out]; omega))
  have HOF : Hid (Off b w w7) := Off.below HB9.out
  have hbo : b < w.heap.size := hb
  have HV8 : Hid (SlA (w7.setCell ⟨b, 1, none⟩ (.int .i64 ((P : Int) + 2))) (New w) (.slice ao (classOf c).length cap) (classOf c)) := by
    have hm := HV7.out
    have hsz := HB1.out.size
    rcases hm with ⟨e1, e2⟩ | ⟨bb, oo, cc, e1, e2, e3, e4, e5⟩
    · exact .inl ⟨e1, e2⟩
    · refine .inr ⟨bb, oo, cc, e1, e2, by show w.heap.size ≤ bb; have : w5.heap.size ≤ bb := e3; omega, by simpa [World.setCell] using e4, ?_⟩
      intro i x hx
      obtain ⟨b3, o3, e6, e7, e8, e9⟩ := e5 i x hx
      cases e6
      have : w5.heap.size ≤ bb := e3
      have hne : bb ≠ b := by omega
      exact ⟨bb, oo, rfl, by simpa [World.setCell] using e7, (HST6.out.2.cell (p := ⟨bb, _, none⟩) e4 hne).trans e8, (HST6.out.2.cell (p := ⟨bb, _, none⟩) e4 hne).trans e9⟩
  clear hb8 hb6 c0 c1 hn7
  go_wp2
  go_ret2
  exact ⟨⟨_, rfl, HV8.out⟩, HST6.out.1, HOF.out.trans HST6.out.2⟩
end Go.Proofs.YtlflfcjbpnnfcaaGreatDoor
/- How the program's patterns lie in memory. -/
namespace Go.Proofs.YtlflfcjbpnnfcaaGreatDoor
open Go.RowKit Brm

abbrev Ptr (b : Nat) : Value := .pointer (some ⟨b, 0, none⟩)
mutual
/-- A pattern of the program's: the block of its node. -/
def PN (w : World) (A : Nat → Prop) : Pat → Nat → Prop
  | .set s, b => A b ∧ ∃ sv, Blk w b [.int .i64 0, sv, .slice none 0 0, .int .i64 0, .int .i64 0] 76 ∧ SlA w A sv s
  | .row l, b => A b ∧ l.length ≤ 100 ∧ ∃ lv xs, Blk w b [.int .i64 1, .slice none 0 0, lv, .int .i64 0, .int .i64 0] 76 ∧ Own w A 65 1 lv l.length (xs.map Ptr) ∧ PL w A l xs
  | .or l, b => l.length ≤ 100 ∧ ∃ xs, PL w A l xs ∧ ((l.length = 1 ∧ xs = [b]) ∨ (l.length ≠ 1 ∧ A b ∧ ∃ lv, Blk w b [.int .i64 2, .slice none 0 0, lv, .int .i64 0, .int .i64 0] 76 ∧ Own w A 65 1 lv l.length (xs.map Ptr)))
  | .and l, b => l.length ≤ 100 ∧ ∃ xs, PL w A l xs ∧ ((l.length = 1 ∧ xs = [b]) ∨ (l.length ≠ 1 ∧ A b ∧ ∃ lv, Blk w b [.int .i64 3, .slice none 0 0, lv, .int .i64 0, .int .i64 0] 76 ∧ Own w A 65 1 lv l.length (xs.map Ptr)))
  | .not p, b => A b ∧ ∃ lv x, Blk w b [.int .i64 4, .slice none 0 0, lv, .int .i64 0, .int .i64 0] 76 ∧ Own w A 65 1 lv 1 [Ptr x] ∧ PN w A p x
  | .many p m n, b => A b ∧ ∃ lv x, Blk w b [.int .i64 5, .slice none 0 0, lv, .int .i64 m, .int .i64 n] 76 ∧ Own w A 65 1 lv 1 [Ptr x] ∧ PN w A p x
  | .group p, b => A b ∧ ∃ lv x, Blk w b [.int .i64 6, .slice none 0 0, lv, .int .i64 0, .int .i64 0] 76 ∧ Own w A 65 1 lv 1 [Ptr x] ∧ PN w A p x
def PL (w : World) (A : Nat → Prop) : List Pat → List Nat → Prop
  | [], xs => xs = []
  | p :: l, xs => ∃ x r, xs = x :: r ∧ PN w A p x ∧ PL w A l r
end
theorem SlA.keep {A : Nat → Prop} {w w' : World} {v : Value} {l : List (Int × Int)} (h : SlA w A v l) (k : Keeps A w w') : SlA w' A v l := by
  rcases h with h | ⟨b, off, cap, e, hc, ha, hb, hr⟩
  · exact .inl h
  · refine .inr ⟨b, off, cap, e, hc, ha, Nat.lt_of_lt_of_le hb k.1, ?_⟩
    intro i x hx
    obtain ⟨b', off', e', hb', c1, c2⟩ := hr i x hx
    cases e'
    have hk := k.2 b hb ha
    exact ⟨b, off, rfl, Nat.lt_of_lt_of_le hb k.1, by rw [World.cell?_of_block (w := w) hk]; exact c1, by rw [World.cell?_of_block (w := w) hk]; exact c2⟩
theorem Blk.keep {A : Nat → Prop} {w w' : World} {b : Nat} {cs : List Value} {T : TypeId} (h : Blk w b cs T) (k : Keeps A w w') (ha : A b) : Blk w' b cs T := (k.2 b h.lt ha).trans h
mutual
theorem PN.keep {A : Nat → Prop} {w w' : World} (k : Keeps A w w') : ∀ (p : Pat) (b : Nat), PN w A p b → PN w' A p b
  | .set s, b, h => by obtain ⟨ha, sv, hb, hs⟩ := h; exact ⟨ha, sv, hb.keep k ha, hs.keep k⟩
  | .row l, b, h => by obtain ⟨ha, h9, lv, xs, hb, ho, hl⟩ := h; exact ⟨ha, h9, lv, xs, hb.keep k ha, ho.keep k, PL.keep k l xs hl⟩
  | .or l, b, h => by
    obtain ⟨h9, xs, hl, hh⟩ := h
    refine ⟨h9, xs, PL.keep k l xs hl, ?_⟩
    rcases hh with hh | ⟨hn, ha, lv, hb, ho⟩
    · exact .inl hh
    · exact .inr ⟨hn, ha, lv, hb.keep k ha, ho.keep k⟩
  | .and l, b, h => by
    obtain ⟨h9, xs, hl, hh⟩ := h
    refine ⟨h9, xs, PL.keep k l xs hl, ?_⟩
    rcases hh with hh | ⟨hn, ha, lv, hb, ho⟩
    · exact .inl hh
    · exact .inr ⟨hn, ha, lv, hb.keep k ha, ho.keep k⟩
  | .not p, b, h => by obtain ⟨ha, lv, x, hb, ho, hl⟩ := h; exact ⟨ha, lv, x, hb.keep k ha, ho.keep k, PN.keep k p x hl⟩
  | .many p m n, b, h => by obtain ⟨ha, lv, x, hb, ho, hl⟩ := h; exact ⟨ha, lv, x, hb.keep k ha, ho.keep k, PN.keep k p x hl⟩
  | .group p, b, h => by obtain ⟨ha, lv, x, hb, ho, hl⟩ := h; exact ⟨ha, lv, x, hb.keep k ha, ho.keep k, PN.keep k p x hl⟩
theorem PL.keep {A : Nat → Prop} {w w' : World} (k : Keeps A w w') : ∀ (l : List Pat) (xs : List Nat), PL w A l xs → PL w' A l xs
  | [], xs, h => h
  | p :: l, xs, h => by obtain ⟨x, r, e, hp, hl⟩ := h; exact ⟨x, r, e, PN.keep k p x hp, PL.keep k l r hl⟩
end
mutual
theorem PN.mono {A A' : Nat → Prop} {w : World} (k : ∀ g, g < w.heap.size → A g → A' g) : ∀ (p : Pat) (b : Nat), PN w A p b → PN w A' p b
  | .set s, b, h => by obtain ⟨ha, sv, hb, hs⟩ := h; exact ⟨k _ hb.lt ha, sv, hb, hs.mono k⟩
  | .row l, b, h => by obtain ⟨ha, h9, lv, xs, hb, ho, hl⟩ := h; exact ⟨k _ hb.lt ha, h9, lv, xs, hb, ho.mono k, PL.mono k l xs hl⟩
  | .or l, b, h => by
    obtain ⟨h9, xs, hl, hh⟩ := h
    refine ⟨h9, xs, PL.mono k l xs hl, ?_⟩
    rcases hh with hh | ⟨hn, ha, lv, hb, ho⟩
    · exact .inl hh
    · exact .inr ⟨hn, k _ hb.lt ha, lv, hb, ho.mono k⟩
  | .and l, b, h => by
    obtain ⟨h9, xs, hl, hh⟩ := h
    refine ⟨h9, xs, PL.mono k l xs hl, ?_⟩
    rcases hh with hh | ⟨hn, ha, lv, hb, ho⟩
    · exact .inl hh
    · exact .inr ⟨hn, k _ hb.lt ha, lv, hb, ho.mono k⟩
  | .not p, b, h => by obtain ⟨ha, lv, x, hb, ho, hl⟩ := h; exact ⟨k _ hb.lt ha, lv, x, hb, ho.mono k, PN.mono k p x hl⟩
  | .many p m n, b, h => by obtain ⟨ha, lv, x, hb, ho, hl⟩ := h; exact ⟨k _ hb.lt ha, lv, x, hb, ho.mono k, PN.mono k p x hl⟩
  | .group p, b, h => by obtain ⟨ha, lv, x, hb, ho, hl⟩ := h; exact ⟨k _ hb.lt ha, lv, x, hb, ho.mono k, PN.mono k p x hl⟩
theorem PL.mono {A A' : Nat → Prop} {w : World} (k : ∀ g, g < w.heap.size → A g → A' g) : ∀ (l : List Pat) (xs : List Nat), PL w A l xs → PL w A' l xs
  | [], xs, h => h
  | p :: l, xs, h => by obtain ⟨x, r, e, hp, hl⟩ := h; exact ⟨x, r, e, PN.mono k p x hp, PL.mono k l r hl⟩
end
theorem PL.len {w : World} {A : Nat → Prop} : ∀ (l : List Pat) (xs : List Nat), PL w A l xs → xs.length = l.length
  | [], xs, h => by rw [show xs = [] from h]; rfl
  | p :: l, xs, h => by obtain ⟨x, r, rfl, hp, hl⟩ := h; simp [PL.len l r hl]
theorem PL.snoc {w : World} {A : Nat → Prop} : ∀ (l : List Pat) (xs : List Nat) (p : Pat) (x : Nat), PL w A l xs → PN w A p x → PL w A (l ++ [p]) (xs ++ [x])
  | [], xs, p, x, h, hp => by rw [show xs = [] from h]; exact ⟨x, [], rfl, hp, rfl⟩
  | q :: l, xs, p, x, h, hp => by
    obtain ⟨y, r, rfl, hq, hl⟩ := h
    exact ⟨y, r ++ [x], by simp, hq, PL.snoc l r p x hl hp⟩
theorem PL.at {w : World} {A : Nat → Prop} : ∀ (l : List Pat) (xs : List Nat), PL w A l xs → ∀ (i : Nat) (p : Pat), l[i]? = some p → ∃ x, xs[i]? = some x ∧ PN w A p x
  | [], _, _, i, p, hi => by simp at hi
  | q :: l, xs, h, 0, p, hi => by obtain ⟨y, r, rfl, hq, hl⟩ := h; simp at hi; subst hi; exact ⟨y, rfl, hq⟩
  | q :: l, xs, h, i + 1, p, hi => by
    obtain ⟨y, r, rfl, hq, hl⟩ := h
    obtain ⟨x, hx, hp⟩ := PL.at l r hl i p (by simpa using hi)
    exact ⟨x, by simpa using hx, hp⟩
/-- A node's block is there. -/
theorem PN.lt {w : World} {A : Nat → Prop} : ∀ (p : Pat) (b : Nat), PN w A p b → p.Ok → A b ∧ b < w.heap.size
  | .set s, b, h, _ => by obtain ⟨ha, sv, hb, hs⟩ := h; exact ⟨ha, hb.lt⟩
  | .row l, b, h, _ => by obtain ⟨ha, _, lv, xs, hb, ho, hl⟩ := h; exact ⟨ha, hb.lt⟩
  | .or [], b, h, hk => absurd rfl hk.2
  | .or [p], b, h, hk => by
    obtain ⟨_, xs, hl, hh⟩ := h
    rcases hh with ⟨_, rfl⟩ | ⟨hn, _⟩
    · obtain ⟨x, r, e, hp, _⟩ := hl
      cases e
      exact PN.lt p b hp hk.1.1
    · exact absurd rfl hn
  | .or (p :: q :: l), b, h, hk => by
    obtain ⟨_, xs, hl, hh⟩ := h
    rcases hh with ⟨hn, _⟩ | ⟨hn, ha, lv, hb, ho⟩
    · simp at hn
    · exact ⟨ha, hb.lt⟩
  | .and [], b, h, hk => absurd rfl hk.2
  | .and [p], b, h, hk => by
    obtain ⟨_, xs, hl, hh⟩ := h
    rcases hh with ⟨_, rfl⟩ | ⟨hn, _⟩
    · obtain ⟨x, r, e, hp, _⟩ := hl
      cases e
      exact PN.lt p b hp hk.1.1
    · exact absurd rfl hn
  | .and (p :: q :: l), b, h, hk => by
    obtain ⟨_, xs, hl, hh⟩ := h
    rcases hh with ⟨hn, _⟩ | ⟨hn, ha, lv, hb, ho⟩
    · simp at hn
    · exact ⟨ha, hb.lt⟩
  | .not p, b, h, _ => by obtain ⟨ha, lv, x, hb, ho, hl⟩ := h; exact ⟨ha, hb.lt⟩
  | .many p m n, b, h, _ => by obtain ⟨ha, lv, x, hb, ho, hl⟩ := h; exact ⟨ha, hb.lt⟩
  | .group p, b, h, _ => by obtain ⟨ha, lv, x, hb, ho, hl⟩ := h; exact ⟨ha, hb.lt⟩
/-- A row of pointers that was just laid. -/
theorem own_ptr (w : World) (x : Nat) : Own (w.alloc (.cells #[Ptr x] 65)) (New w) 65 1 (.slice (some ⟨w.heap.size, 0, none⟩) 1 1) 1 [Ptr x] :=
  ⟨⟨rfl, .inr ⟨w.heap.size, 1, #[Ptr x], rfl, Nat.zero_le _, Blk.new w [Ptr x] 65, Nat.le_refl _, by unfold maxLen; omega, rfl, rfl⟩⟩, fun g hg => by simp [Value.ownBlock] at hg; subst hg; exact Nat.le_refl _⟩
theorem PSt.alloc {w : World} {b : Nat} {s : ByteArray} {l r : List Int} {d m : Int} (h : PSt w b s l r d m) (o : Obj) : PSt (w.alloc o) b s l r d m := h.below ((Below.refl _ _).alloc (Nat.le_refl _) _)
theorem PSt.lt {w : World} {b : Nat} {s : ByteArray} {l r : List Int} {d m : Int} (h : PSt w b s l r d m) : b < w.heap.size := h.1.lt
/-- How a call of the reader's that hands a node back ends. -/
def EndN (b : Nat) (s : ByteArray) (l : List Int) (d m : Int) (R : Res Pat) (w w' : World) (e : Ending) : Prop := match R with
  | .ok p r => ∃ x, e = .returned (.tuple #[Ptr x, .bool true]) ∧ PN w' (New w) p x ∧ PSt w' b s l r d (max m (d + p.deep))
  | .bad r => e = .returned (.tuple #[.pointer none, .bool false]) ∧ ∃ m', PSt w' b s l r d m'
def PGives (F : Nat) (b : Nat) (s : ByteArray) (l : List Int) (d m : Int) (R : Res Pat) (w : World) : Prop :=
  Calls Tryz.prog F #[.pointer (some ⟨b, 0, none⟩)] w fun e w' => Off b w w' ∧ EndN b s l d m R w w' e
def POrOk (n : Nat) : Prop := ∀ (b : Nat) (s : ByteArray) (l r : List Int) (d m : Int) (w : World), PSt w b s l r d m → r.length < n → PGives 58 b s l d m (orN true n r) w

theorem Tryz.info65 : (Tryz.prog.info? 65).map (fun i => (i.zero, i.size, i.bytes)) = some (some (.pointer none), 1, 8) := by kernel_rfl
theorem own_le65 {w : World} {B B' : Nat} {v : Value} {n : Nat} {xs : List Value} (h : w.ownsRow B 65 1 v n xs) (hb : B' ≤ B) : w.ownsRow B' 65 1 v n xs := by
  refine ⟨h.1, ?_⟩
  rcases h.2 with h2 | ⟨g, cap, cur, e, hg, r⟩
  · exact .inl h2
  · exact .inr ⟨g, cap, cur, e, Nat.le_trans hb hg, r⟩
theorem own65_form {w : World} {B n : Nat} {v : Value} {xs : List Value} (h : w.ownsRow B 65 1 v n xs) : ∃ ao cap, v = .slice ao n cap := by
  rcases h.2 with ⟨rfl, rfl⟩ | ⟨g, cap, cur, rfl, _⟩ <;> exact ⟨_, _, rfl⟩
theorem append_ptr {w : World} {ops : Array Oper} {rest : List Oper} {o : Oper} {a : Act} {Q : Exit → Act → World → Prop} (hgd : o.guard = none) (s x : Operand)
    (ho : o.op = .call { callee := .builtin .append, args := #[s, x], argTypes := #[74, 74] }) (B n : Nat) (v : Value) (xs : List Value) (hs : a.eval s = v) (hown : w.ownsRow B 65 1 v n xs)
    (ad : Addr) (news : List Value) (hx : a.eval x = .slice (some ad) 1 1) (hl : news.length = 1) (hnews : ∀ j u, news[j]? = some u → w.cell? (ad.add j) = some u) (h1 : ∀ u ∈ news, u.oneCell' = true)
    (hn : n ≤ 100000) (hB : B ≤ w.heap.size)
    (h : ∀ v' w', w'.ownsRow B 65 1 v' (n + 1) (xs ++ news) → w.grownBy w' v.ownBlock → (v'.ownBlock = v.ownBlock ∨ ∀ g, v'.ownBlock = some g → w.heap.size ≤ g) →
      wpList Tryz.prog ops Q rest (a.put o.dst v') w') : wpList Tryz.prog ops Q (o :: rest) a w := by
  obtain ⟨i0, hi, hz0, hz1, hz2⟩ := info_parts Tryz.info65
  have hrow := hown
  rcases hown.2 with ⟨rfl, rfl⟩ | ⟨g, cap, cur, rfl, hbg, hg, hnc, hcm, hcs, ht⟩
  · refine wpList_append_grows w hgd s x 74 ho 65 i0 (.pointer none) 1 8 Tryz.underlying74 hi hz0 hz1 hz2 rfl (by decide) none 0 0 xs hs (fun _ => ⟨rfl, rfl⟩) hrow.1 (fun b e => by cases e) ad 1 1 news hx hl hnews h1 (by omega) (by unfold maxLen; omega) (by omega) ?_
    intro v' w' ho' hg'
    exact h v' w' (own_le65 ho' hB) ⟨hg'.os, hg'.tape, hg'.output, hg'.size, fun k hk _ => hg'.block k hk (by simp)⟩ (.inr fun g e => (ho'.lt g e).1)
  · by_cases hroom : n + 1 ≤ cap
    · refine wpList_append_fits w hgd s x 74 ho B 65 i0 1 Tryz.underlying74 hi hz1 g n cap xs hs hrow ad 1 1 news hx hl hnews h1 hroom ?_
      intro w' ho' hg'
      exact h _ w' ho' hg' (.inl rfl)
    · refine wpList_append_grows w hgd s x 74 ho 65 i0 (.pointer none) 1 8 Tryz.underlying74 hi hz0 hz1 hz2 rfl (by decide) (some ⟨g, 0, none⟩) n cap xs hs (fun e => by cases e) hrow.1 (fun b e j u hj => by cases e; exact hrow.cells rfl j u hj) ad 1 1 news hx hl hnews h1 (by omega) (by unfold maxLen; omega) (by omega) ?_
      intro v' w' ho' hg'
      exact h v' w' (own_le65 ho' hB) ⟨hg'.os, hg'.tape, hg'.output, hg'.size, fun k hk _ => hg'.block k hk (by simp)⟩ (.inr fun g e => (ho'.lt g e).1)
theorem ptr_new (w : World) (x : Nat) : ∀ j u, [Ptr x][j]? = some u → (w.alloc (.cells #[Ptr x] 65)).cell? ((⟨w.heap.size, 0, none⟩ : Addr).add j) = some u := by
  intro j u hj
  match j, hj with
  | 0, hj => simp at hj; subst hj; simp [Addr.add]
theorem ptr_one (x : Nat) : ∀ u ∈ [Ptr x], u.oneCell' = true := by
  intro u hu; simp at hu; subst hu; rfl
/-- A list of parts under way: its row is the call's own, no part lies in it, nor in the node X. -/
def LP (w : World) (X : Nat) (v : Value) (L : List Pat) (wr : World) : Prop := ∃ xs, wr.ownsRow w.heap.size 65 1 v L.length (xs.map Ptr) ∧ v.ownBlock ≠ some X ∧ PL wr (fun q => w.heap.size ≤ q ∧ q ≠ X ∧ some q ≠ v.ownBlock) L xs
theorem LP.nil (w wr : World) (X : Nat) : LP w X (.slice none 0 0) [] wr := ⟨[], World.ownsRow_nil _ _ _ _, by simp [Value.ownBlock], rfl⟩
theorem LP.keep {w wr w' : World} {X : Nat} {v : Value} {L : List Pat} {b : Nat} (h : LP w X v L wr) (k : Off b wr w') (hb : b < w.heap.size ∨ b = X) : LP w X v L w' := by
  obtain ⟨xs, h1, h2, h3⟩ := h
  refine ⟨xs, own_block h1 (fun q hq => k.block q (h1.lt q hq).2 (fun e => ?_)), h2, PL.keep (Keeps.off k (fun hA => ?_)) L xs h3⟩
  · rcases hb with hb | rfl
    · have := (h1.lt q hq).1; omega
    · exact h2 (e ▸ hq)
  · rcases hb with hb | rfl
    · have := hA.1; omega
    · exact hA.2.1 rfl
theorem LP.own {w wr : World} {X : Nat} {v : Value} {L : List Pat} (h : LP w X v L wr) : ∃ xs, Own wr (New w) 65 1 v L.length (xs.map Ptr) ∧ PL wr (New w) L xs := by
  obtain ⟨xs, h1, h2, h3⟩ := h
  exact ⟨xs, ⟨own_le65 h1 (Nat.zero_le _), fun q hq => (h1.lt q hq).1⟩, PL.mono (fun q _ hA => hA.1) L xs h3⟩
/-- One more part. -/
theorem LP.push {w wr w1 w3 : World} {X b : Nat} {v v' : Value} {L : List Pat} {p : Pat} {x : Nat} {xs : List Nat} {o : Obj}
    (h1 : wr.ownsRow w.heap.size 65 1 v L.length (xs.map Ptr)) (h2 : v.ownBlock ≠ some X) (h3 : PL wr (fun q => w.heap.size ≤ q ∧ q ≠ X ∧ some q ≠ v.ownBlock) L xs) (hb : b < w.heap.size) (hX : X < wr.heap.size) (hw : w.heap.size ≤ wr.heap.size)
    (hoff : Off b wr w1) (hp : PN w1 (New wr) p x)
    (ho3 : w3.ownsRow w.heap.size 65 1 v' (L.length + 1) (xs.map Ptr ++ [Ptr x])) (hg : (w1.alloc o).grownBy w3 v.ownBlock) (hloc : v'.ownBlock = v.ownBlock ∨ ∀ q, v'.ownBlock = some q → (w1.alloc o).heap.size ≤ q) :
    LP w X v' (L ++ [p]) w3 := by
  have hs := hoff.size
  have hX1 : v'.ownBlock ≠ some X := by
    intro e
    rcases hloc with h | h
    · exact h2 (h ▸ e)
    · have h9 := h X e; simp at h9; omega
  have hlt : ∀ q, v.ownBlock = some q → q < wr.heap.size := fun q hq => (h1.lt q hq).2
  have far : ∀ q, q < w1.heap.size → some q ≠ v.ownBlock → some q ≠ v'.ownBlock := by
    intro q hq hne e
    rcases hloc with h | h
    · exact hne (e.trans h)
    · have := h q e.symm; simp at this; omega
  have kk : Keeps (fun q => w.heap.size ≤ q ∧ q ≠ X ∧ some q ≠ v.ownBlock) w1 w3 :=
    (Keeps.alloc _ w1 o).trans (Keeps.grown hg (fun q e hA => hA.2.2 e.symm))
  refine ⟨xs ++ [x], ?_, hX1, ?_⟩
  · rw [List.length_append, List.map_append]; exact ho3
  · refine PL.snoc L xs p x ?_ ?_
    · have a1 := PL.keep (Keeps.off hoff (fun hA => by have := hA.1; omega)) L xs h3
      have a2 := PL.mono (A' := fun q => (w.heap.size ≤ q ∧ q ≠ X ∧ some q ≠ v.ownBlock) ∧ some q ≠ v'.ownBlock) (fun q hq hA => ⟨hA, far q hq hA.2.2⟩) L xs a1
      have a3 := PL.keep (w' := w3) ⟨kk.1, fun q hq hA => kk.2 q hq hA.1⟩ L xs a2
      exact PL.mono (fun q _ hA => ⟨hA.1.1, hA.1.2.1, hA.2⟩) L xs a3
    · have a2 := PN.mono (A' := fun q => (w.heap.size ≤ q ∧ q ≠ X ∧ some q ≠ v.ownBlock) ∧ some q ≠ v'.ownBlock) (fun q hq hA => by
        have hA' : wr.heap.size ≤ q := hA
        have hne : some q ≠ v.ownBlock := fun e => by have := hlt q e.symm; omega
        exact ⟨⟨by omega, by omega, hne⟩, far q hq hne⟩) p x hp
      have a3 := PN.keep (w' := w3) ⟨kk.1, fun q hq hA => kk.2 q hq hA.1⟩ p x a2
      exact PN.mono (fun q _ hA => ⟨hA.1.1, hA.1.2.1, hA.2⟩) p x a3
end Go.Proofs.YtlflfcjbpnnfcaaGreatDoor
/- The program's writing: runes and ranges: walks. -/
namespace Go.Proofs.YtlflfcjbpnnfcaaGreatDoor
open Go.RowKit Brm

/-- What a call hands back: the bytes of a string. -/
def Str (bs : List UInt8) (w : World) (e : Ending) (w' : World) : Prop := ∃ t, e = .returned (.string t) ∧ bytesOf t = bs ∧ Below w.heap.size w w'
end Go.Proofs.YtlflfcjbpnnfcaaGreatDoor
/- The program's reader: items: walks. -/
namespace Go.Proofs.YtlflfcjbpnnfcaaGreatDoor
open Go.RowKit Brm

def ClassAt (r : List Int) : Prop := ∃ c t, r = 92 :: c :: t ∧ isClass c = true
theorem class_no (b : Nat) (s : ByteArray) (l : List Int) (d m : Int) (w : World) (r : List Int) (h : PSt w b s l r d m) (h1 : ¬ ClassAt r) : Calls Tryz.prog 304 #[.pointer (some ⟨b, 0, none⟩)] w fun e w' => badS e ∧ Below w.heap.size w w' := by
  by_cases h92 : nextP r = 92
  · cases r with
    | nil => simp [nextP] at h92
    | cons c t =>
      simp only [nextP] at h92
      subst h92
      refine class_other b s l d m w t h ?_
      cases t with
      | nil => rfl
      | cons c t =>
        cases hc : isClass c with
        | false => exact hc
        | true => exact absurd ⟨c, t, rfl, hc⟩ h1
  · exact class_none b s l d m w r h h92
theorem class_sign {c : Int} (h : isClass c = true) : isSign c = false := by
  rcases class_cases h with rfl | rfl | rfl | rfl | rfl | rfl <;> rfl
theorem item_class {c : Int} {t : List Int} (h : isClass c = true) : itemP (92 :: c :: t) = .ok (classOf c) t := by
  simp [itemP, escP, class_sign h, h, Res.bind]
theorem item_else {r : List Int} (hr : AllR r) (h : ¬ ClassAt r) : itemP r = (singleP 0 r).bind fun a q => rangeP a q := by
  cases r with
  | nil => rfl
  | cons c t =>
    simp only [itemP, singleP]
    by_cases h92 : c = 92
    · subst h92
      simp only [if_true]
      rw [if_pos (by decide)]
      cases t with
      | nil => rfl
      | cons x t =>
        simp only [escP, signP]
        cases hs : isSign x with
        | true =>
          have := sign_rune hs
          have h0 : (0 : Int) ≤ signOf x := by omega
          simp [Res.bind, h0]
        | false =>
          cases hc : isClass x with
          | true => exact absurd ⟨x, t, rfl, hc⟩ h
          | false => simp [Res.bind]
    · have hx := (rune_iff c).1 hr.head
      have h0 : (0 : Int) ≤ c := by omega
      simp only [if_neg h92]
      cases hi : inner c with
      | true => simp [Res.bind]
      | false => simp [h0, Res.bind]
set_option maxRecDepth 100000 in
set_option maxHeartbeats 400000 in
theorem item_yes (b : Nat) (s : ByteArray) (l : List Int) (d m : Int) (w : World) (c : Int) (t : List Int) (h : PSt w b s l (92 :: c :: t) d m) (hc : isClass c = true) : Calls Tryz.prog 306 #[.pointer (some ⟨b, 0, none⟩)] w fun e w' => Off b w w' ∧ DoneP b s l d m (itemP (92 :: c :: t)) w' e (fun x e => okS w w' x e) badS := by
  have HC := hide (class_yes b s l d m w c t h hc)
  have HR := hide (item_class (t := t) hc)
  clear h hc
  go_enter Tryz.func306, Tryz.ntmps306
  go_wp2_with fail
  refine HC.out.mono ?_
  rintro e w1 ⟨⟨v1, rfl, hv1⟩, hs1, ho1⟩
  obtain ⟨ao, cap, rfl, _, _⟩ := hv1.sl.rd
  have HV := hide hv1
  have HS := hide hs1
  have HO := hide ho1
  clear hv1 hs1 ho1
  go_wp2
  go_ret2
  exact ⟨HO.out, by rw [HR.out]; exact ⟨HS.out, _, rfl, HV.out⟩⟩
set_option maxRecDepth 100000 in
set_option maxHeartbeats 400000 in
theorem item_no (b : Nat) (s : ByteArray) (l : List Int) (d m : Int) (w : World) (r : List Int) (h : PSt w b s l r d m) (hc : ¬ ClassAt r) : Calls Tryz.prog 306 #[.pointer (some ⟨b, 0, none⟩)] w fun e w' => Off b w w' ∧ DoneP b s l d m (itemP r) w' e (fun x e => okS w w' x e) badS := by
  have HC := hide (class_no b s l d m w r h hc)
  have hall := (runes_all h.2.2.1).suf h.2.1
  have HA := hide hall
  have HR := hide (item_else hall hc)
  have HNU := hide (singleP_num (least := 0) hall)
  have HTK := hide (singleP_takes 0 r)
  have HS := hide h
  have HO : Hid (Off b w w) := Off.refl _ _
  clear h hc hall
  go_enter Tryz.func306, Tryz.ntmps306
  go_wp2_with fail
  refine HC.out.mono ?_
  rintro e wi ⟨rfl, hbi⟩
  replace HS := hide (HS.out.below hbi)
  replace HO := hide (HO.out.trans (Off.below hbi))
  clear hbi
  go_wp2_with fail
  refine (single_any2 b s l d m _ r 0 HS.out).mono ?_
  rintro e w2 ⟨ho2, hd2⟩
  replace HO := hide (HO.out.trans ho2)
  clear ho2 HC
  generalize singleP 0 r = RR at HR hd2 HNU HTK
  cases RR with
  | bad q =>
    obtain ⟨hs2, v, rfl⟩ := hd2
    have HS2 := hide hs2
    clear hs2
    go_wp2
    go_ret2
    exact ⟨HO.out, by rw [HR.out]; exact ⟨HS2.out, rfl⟩⟩
  | ok low q =>
    obtain ⟨hs2, rfl⟩ := hd2
    replace HS := hide hs2
    obtain ⟨hlow0, hlow1⟩ := HNU.out
    have hlow2 : low ≤ 1114111 := by have := (rune_iff low).1 hlow1; omega
    have HLR := hide hlow1
    have HQA := hide ((HA.out).suf (HTK.out).2)
    clear hs2 hlow1
    by_cases hq : q.head? = some 45
    · cases q with
      | nil => simp at hq
      | cons c q =>
        simp only [List.head?_cons, Option.some.injEq] at hq
        subst hq
        go_wp2_with fail
        refine (take_yes b s l _ _ d m _ HS.out).mono ?_
        rintro e wi ⟨rfl, hsi, hoi⟩
        replace HS := hide hsi
        replace HO := hide (HO.out.trans hoi)
        clear hsi hoi
        have HR2 : Hid (itemP r = (singleP low q).map fun b => [(low, b)]) := by show _ = _; rw [HR.out]; simp [Res.bind, rangeP]
        have HNU2 := hide (singleP_num (least := low) HQA.out.tail)
        go_wp2_with fail
        refine (single_any2 b s l d m _ q low HS.out).mono ?_
        rintro e w3 ⟨ho3, hd3⟩
        replace HO := hide (HO.out.trans ho3)
        clear ho3
        generalize singleP low q = R3 at HR2 hd3 HNU2
        cases R3 with
        | bad q3 =>
          obtain ⟨hs3, v, rfl⟩ := hd3
          have HS3 := hide hs3
          clear hs3
          go_wp2
          go_ret2
          exact ⟨HO.out, by rw [HR2.out]; exact ⟨HS3.out, rfl⟩⟩
        | ok high q3 =>
          obtain ⟨hs3, rfl⟩ := hd3
          obtain ⟨hh0, hh1⟩ := HNU2.out
          have hh2 : high ≤ 1114111 := by have := (rune_iff high).1 hh1; omega
          have hh3 : 0 ≤ high := by omega
          have HS3 := hide (hs3.alloc (.cells (cellsR [(low, high)]).toArray 149))
          have HN := hide (new_sla w3 [(low, high)])
          have HO3 := hide (HO.out.alloc (.cells (cellsR [(low, high)]).toArray 149))
          have HSZ := hide HO.out.size
          clear hs3 hh0 hh1
          go_wp2
          go_ret2
          refine ⟨HO3.out, by rw [HR2.out]; exact ⟨HS3.out, _, rfl, SlA.mono HN.out (fun k _ hk => Nat.le_trans HSZ.out hk)⟩⟩
    · have HR2 : Hid (itemP r = .ok [(low, low)] q) := by
        show _ = _
        rw [HR.out]
        cases q with
        | nil => rfl
        | cons c q =>
          have : ¬ c = 45 := by simpa using hq
          simp [Res.bind, rangeP, this]
      have HQ := hide hq
      clear hq
      go_wp2_with fail
      refine (take_no b s l _ _ d m _ HS.out (by decide) HQ.out).mono ?_
      rintro e wi ⟨rfl, hbi⟩
      replace HS := hide (HS.out.below hbi)
      replace HO := hide (HO.out.trans (Off.below hbi))
      clear hbi
      go_wp2_with fail
      rename_i w5
      refine (pone_any low _ hlow0 hlow2).mono ?_
      rintro e w6 ⟨v6, rfl, hv6, hb6⟩
      obtain ⟨ao, cap, rfl, _, _⟩ := hv6.sl.rd
      have HSZ := hide HO.out.size
      have HV6 : Hid (SlA w6 (New w) _ [(low, low)]) := hv6.mono (fun k _ hk => Nat.le_trans HSZ.out hk)
      have HS6 := hide (HS.out.below hb6)
      have HO6 := hide (HO.out.trans (Off.below hb6))
      clear hv6 hb6
      go_wp2
      go_ret2
      exact ⟨HO6.out, by rw [HR2.out]; exact ⟨HS6.out, _, rfl, HV6.out⟩⟩
theorem pitem_any (b : Nat) (s : ByteArray) (l : List Int) (d m : Int) (w : World) (r : List Int) (h : PSt w b s l r d m) : Calls Tryz.prog 306 #[.pointer (some ⟨b, 0, none⟩)] w fun e w' => Off b w w' ∧ DoneP b s l d m (itemP r) w' e (fun x e => okS w w' x e) badS := by
  by_cases hc : ClassAt r
  · obtain ⟨c, t, rfl, hc⟩ := hc
    exact item_yes b s l d m w c t h hc
  · exact item_no b s l d m w r h hc
end Go.Proofs.YtlflfcjbpnnfcaaGreatDoor
/- The program's reader: what stands behind a backslash: a walk. -/
namespace Go.Proofs.YtlflfcjbpnnfcaaGreatDoor
open Go.RowKit Brm

def escPat (e : Int ⊕ List (Int × Int)) : Pat := match e with | .inl a => .set [(a, a)] | .inr l => .set l
theorem esc_class {c : Int} {t : List Int} (h : isClass c = true) : (escP (c :: t)).map escPat = .ok (.set (classOf c)) t := by
  simp [escP, class_sign h, h, Res.map, escPat]
theorem esc_else {r : List Int} (h : ¬ ClassAt (92 :: r)) : (escP r).map escPat = (signR 0 r).map fun a => .set [(a, a)] := by
  unfold signR
  rw [if_pos (by decide)]
  cases r with
  | nil => rfl
  | cons x t =>
    simp only [escP, signP]
    cases hs : isSign x with
    | true =>
      have := sign_rune hs
      have h0 : (0 : Int) ≤ signOf x := by omega
      simp [Res.map, h0, escPat]
    | false =>
      cases hc : isClass x with
      | true => exact absurd ⟨x, t, rfl, hc⟩ h
      | false => simp [Res.map]
theorem max_same {m d : Int} (h : d ≤ m) : max m (d + ((0 : Nat) : Int)) = m := by omega
/-- A node of a set. -/
theorem pn_set {w0 w : World} {sv : Value} {x : List (Int × Int)} (hs : SlA w (New w0) sv x) (hw : w0.heap.size ≤ w.heap.size) : PN (w.alloc (.cells #[.int .i64 0, sv, .slice none 0 0, .int .i64 0, .int .i64 0] 76)) (New w0) (.set x) w.heap.size :=
  ⟨hw, sv, Blk.new w [.int .i64 0, sv, .slice none 0 0, .int .i64 0, .int .i64 0] 76, hs.keep (Keeps.alloc _ _ _)⟩
/-- What a set's node is handed back as. -/
theorem end_set {w0 w : World} {b : Nat} {s : ByteArray} {l r : List Int} {d m : Int} {sv : Value} {x : List (Int × Int)} (ho : Off b w0 w) (hs : SlA w (New w0) sv x) (hp : PSt w b s l r d m) :
    Off b w0 (w.alloc (.cells #[.int .i64 0, sv, .slice none 0 0, .int .i64 0, .int .i64 0] 76)) ∧ EndN b s l d m (.ok (.set x) r) w0 (w.alloc (.cells #[.int .i64 0, sv, .slice none 0 0, .int .i64 0, .int .i64 0] 76)) (.returned (.tuple #[Ptr w.heap.size, .bool true])) := by
  refine ⟨ho.alloc _, w.heap.size, rfl, pn_set hs ho.size, ?_⟩
  have h := hp.alloc (.cells #[.int .i64 0, sv, .slice none 0 0, .int .i64 0, .int .i64 0] 76)
  have hd : d ≤ m := hp.2.2.2.2.2.2.2.2.2.2
  show PSt _ b s l r d (max m (d + ((0 : Nat) : Int)))
  rw [max_same hd]
  exact h
set_option maxRecDepth 100000 in
set_option maxHeartbeats 400000 in
theorem escape_yes (b : Nat) (s : ByteArray) (l : List Int) (d m : Int) (w : World) (c : Int) (t : List Int) (h : PSt w b s l (92 :: c :: t) d m) (hc : isClass c = true) : PGives 284 b s l d m ((escP (c :: t)).map escPat) w := by
  have HC := hide (class_yes b s l d m w c t h hc)
  have HR := hide (esc_class (t := t) hc)
  clear h hc
  unfold PGives
  rw [HR.out]
  go_enter Tryz.func284, Tryz.ntmps284
  go_wp2_with fail
  refine HC.out.mono ?_
  rintro e w1 ⟨⟨v1, rfl, hv1⟩, hs1, ho1⟩
  obtain ⟨ao, cap, rfl, _, _⟩ := hv1.sl.rd
  have HE := hide (end_set ho1 hv1 hs1)
  clear hv1 hs1 ho1
  go_wp2
  go_ret2
  exact HE.out
set_option maxRecDepth 100000 in
set_option maxHeartbeats 400000 in
theorem escape_no (b : Nat) (s : ByteArray) (l : List Int) (d m : Int) (w : World) (r : List Int) (h : PSt w b s l (92 :: r) d m) (hc : ¬ ClassAt (92 :: r)) : PGives 284 b s l d m ((escP r).map escPat) w := by
  have HC := hide (class_no b s l d m w (92 :: r) h hc)
  have HR := hide (esc_else hc)
  have HNU := hide (signP_num 0 r)
  have HS := hide h
  have HO : Hid (Off b w w) := Off.refl _ _
  clear h hc
  have HSG := hide (fun w' hw => sign_any2 b s l d m w' r 0 hw)
  have hsr : signR 0 r = signP 0 r := if_pos (by decide)
  rw [hsr] at HSG HR
  clear hsr
  generalize signP 0 r = RR at HSG HNU HR
  generalize (escP r).map escPat = R at HR ⊢
  unfold PGives
  go_enter Tryz.func284, Tryz.ntmps284
  go_wp2_with fail
  refine HC.out.mono ?_
  rintro e wi ⟨rfl, hbi⟩
  replace HS := hide (HS.out.below hbi)
  replace HO := hide (HO.out.trans (Off.below hbi))
  clear hbi
  go_wp2_with fail
  refine (HSG.out _ HS.out).mono ?_
  rintro e w2 ⟨ho2, hd2⟩
  replace HO := hide (HO.out.trans ho2)
  clear ho2 HC
  cases RR with
  | bad q =>
    obtain ⟨hs2, v, rfl⟩ := hd2
    have HS2 := hide hs2
    clear hs2
    go_wp2
    go_ret2
    exact ⟨HO.out, by rw [HR.out]; exact ⟨rfl, _, HS2.out⟩⟩
  | ok low q =>
    obtain ⟨hs2, rfl⟩ := hd2
    replace HS := hide hs2
    obtain ⟨hlow0, hlow1⟩ := HNU.out
    have hlow2 : low ≤ 1114111 := by have := (rune_iff low).1 hlow1; omega
    clear hs2 hlow1
    go_wp2_with fail
    refine (pone_any low _ hlow0 hlow2).mono ?_
    rintro e w6 ⟨v6, rfl, hv6, hb6⟩
    obtain ⟨ao, cap, rfl, _, _⟩ := hv6.sl.rd
    have HE := hide (end_set (HO.out.trans (Off.below hb6)) (hv6.mono (A' := New w) (fun k _ hk => Nat.le_trans HO.out.size hk)) (HS.out.below hb6))
    clear hv6 hb6
    go_wp2
    go_ret2
    rw [HR.out]
    exact HE.out
theorem escape_any (b : Nat) (s : ByteArray) (l : List Int) (d m : Int) (w : World) (r : List Int) (h : PSt w b s l (92 :: r) d m) : PGives 284 b s l d m ((escP r).map escPat) w := by
  by_cases hc : ClassAt (92 :: r)
  · obtain ⟨c, t, e, hc⟩ := hc
    cases e
    exact escape_yes b s l d m w c t h hc
  · exact escape_no b s l d m w r h hc
end Go.Proofs.YtlflfcjbpnnfcaaGreatDoor
