/- Plain facts on sets of runes as lists of ranges: no program stands here. -/
namespace Go.Proofs.Ytaiidpcdeghipaa
namespace Brm

def runeB (r : Int) : Bool := decide (0 ≤ r ∧ r ≤ 55295 ∨ 57344 ≤ r ∧ r ≤ 1114111)
def after (r : Int) : Int := if r = 55295 then 57344 else r + 1
def before (r : Int) : Int := if r = 57344 then 55295 else r - 1
def inB (x : Int × Int) (r : Int) : Bool := decide (x.1 ≤ r ∧ r ≤ x.2)
def memB (l : List (Int × Int)) (r : Int) : Bool := l.any fun x => inB x r
def okB (x : Int × Int) : Bool := decide (0 ≤ x.1 ∧ x.2 ≤ 1114111 ∧ x.1 ≤ x.2)
def setB (l : List (Int × Int)) : Bool := decide (l.length ≤ 40) && l.all okB
def clip (x : Int × Int) : Int × Int := (if runeB x.1 = true then x.1 else 57344, if runeB x.2 = true then x.2 else 55295)
def riseB (x : Int × Int) : Bool := decide (x.1 ≤ x.2)
def runes (l : List (Int × Int)) : List (Int × Int) := (l.map clip).filter riseB
def Good (x : Int × Int) : Prop := runeB x.1 = true ∧ runeB x.2 = true ∧ x.1 ≤ x.2
def Canon (l : List (Int × Int)) : Prop := (∀ x ∈ l, Good x) ∧ l.Pairwise fun x y => after x.2 < y.1
def IsForm (l out : List (Int × Int)) : Prop := Canon out ∧ ∀ r, runeB r = true → memB out r = memB l r

theorem rune_iff (r : Int) : runeB r = true ↔ (0 ≤ r ∧ r ≤ 55295 ∨ 57344 ≤ r ∧ r ≤ 1114111) := by simp [runeB]
theorem in_iff (x : Int × Int) (r : Int) : inB x r = true ↔ x.1 ≤ r ∧ r ≤ x.2 := by simp [inB]
theorem mem_nil (r : Int) : memB [] r = false := rfl
theorem mem_cons (x : Int × Int) (l : List (Int × Int)) (r : Int) : memB (x :: l) r = (inB x r || memB l r) := by simp [memB]
theorem mem_append (a b : List (Int × Int)) (r : Int) : memB (a ++ b) r = (memB a r || memB b r) := by simp [memB]
theorem mem_true {l : List (Int × Int)} {r : Int} : memB l r = true ↔ ∃ x ∈ l, x.1 ≤ r ∧ r ≤ x.2 := by simp [memB, inB]
theorem mem_false {l : List (Int × Int)} {r : Int} : memB l r = false ↔ ∀ x ∈ l, ¬ (x.1 ≤ r ∧ r ≤ x.2) := by
  rw [← Bool.not_eq_true, mem_true]; simp
theorem canon_nil : Canon [] := ⟨by simp, by simp⟩
theorem canon_tail {x : Int × Int} {l : List (Int × Int)} (h : Canon (x :: l)) : Canon l :=
  ⟨fun y hy => h.1 y (List.mem_cons_of_mem _ hy), (List.pairwise_cons.1 h.2).2⟩
theorem canon_head {x : Int × Int} {l : List (Int × Int)} (h : Canon (x :: l)) : Good x ∧ ∀ y ∈ l, after x.2 < y.1 :=
  ⟨h.1 x (by simp), (List.pairwise_cons.1 h.2).1⟩
theorem canon_snoc {x : Int × Int} {l : List (Int × Int)} (h : Canon l) (g : Good x) (hl : ∀ y ∈ l, after y.2 < x.1) : Canon (l ++ [x]) := by
  refine ⟨fun y hy => ?_, List.pairwise_append.2 ⟨h.2, by simp, fun y hy z hz => ?_⟩⟩
  · rcases List.mem_append.1 hy with hy | hy
    · exact h.1 y hy
    · simp at hy; exact hy ▸ g
  · simp at hz; subst hz; exact hl y hy
theorem after_le {a r : Int} (hr : runeB r = true) (h : a < r) : after a ≤ r := by
  rw [rune_iff] at hr; unfold after; split <;> omega
theorem rise_iff (x : Int × Int) : riseB x = true ↔ x.1 ≤ x.2 := by simp [riseB]
theorem lt_after (a : Int) : a < after a := by unfold after; split <;> omega
theorem perm_mem {a b : List (Int × Int)} (h : a.Perm b) (r : Int) : memB a r = memB b r := by
  rw [Bool.eq_iff_iff, mem_true, mem_true]
  exact ⟨fun ⟨x, hx, e⟩ => ⟨x, h.mem_iff.1 hx, e⟩, fun ⟨x, hx, e⟩ => ⟨x, h.mem_iff.2 hx, e⟩⟩

/- runes -/
theorem clip_in (x : Int × Int) (r : Int) (hx : okB x = true) (hr : runeB r = true) : inB (clip x) r = inB x r := by
  simp [okB] at hx
  rw [rune_iff] at hr
  rw [Bool.eq_iff_iff, in_iff, in_iff]
  unfold clip
  by_cases h1 : runeB x.1 = true <;> by_cases h2 : runeB x.2 = true <;> simp only [h1, h2, if_true, if_false, Bool.false_eq_true] <;> rw [rune_iff] at h1 h2 <;> omega
theorem clip_good (x : Int × Int) (h : riseB (clip x) = true) : Good (clip x) := by
  simp [riseB] at h
  refine ⟨?_, ?_, h⟩ <;> unfold clip <;> simp only <;> split <;> first | assumption | decide
theorem runes_good (l : List (Int × Int)) : ∀ x ∈ runes l, Good x := by
  intro x hx
  simp only [runes, List.mem_filter, List.mem_map] at hx
  obtain ⟨⟨y, _, rfl⟩, h⟩ := hx
  exact clip_good y h
theorem runes_snoc (l : List (Int × Int)) (x : Int × Int) : runes (l ++ [x]) = runes l ++ if riseB (clip x) = true then [clip x] else [] := by
  simp only [runes, List.map_append, List.filter_append, List.map_cons, List.map_nil, List.filter_cons, List.filter_nil]
theorem runes_length (l : List (Int × Int)) : (runes l).length ≤ l.length := by
  unfold runes; have := List.length_filter_le riseB (l.map clip); simpa using this
theorem runes_mem (l : List (Int × Int)) (r : Int) (hl : ∀ x ∈ l, okB x = true) (hr : runeB r = true) : memB (runes l) r = memB l r := by
  induction l with
  | nil => rfl
  | cons x t ih =>
    have ih' := ih (fun y hy => hl y (List.mem_cons_of_mem _ hy))
    have hx := clip_in x r (hl x (by simp)) hr
    have e : runes (x :: t) = (if riseB (clip x) = true then [clip x] else []) ++ runes t := by
      simp only [runes, List.map_cons, List.filter_cons]; split <;> simp
    rw [e, mem_append, mem_cons, ih', ← hx]
    split
    · simp [memB]
    · rename_i h
      have : inB (clip x) r = false := by
        rw [← Bool.not_eq_true, in_iff]; simp [riseB] at h; omega
      simp [this, memB]

/- Form -/
theorem form_new {d out : List (Int × Int)} {x : Int × Int} (hc : Canon out) (hm : ∀ r, runeB r = true → memB out r = memB d r) (g : Good x)
    (hn : out = [] ∨ ∃ p last, out = p ++ [last] ∧ after last.2 < x.1) :
    Canon (out ++ [x]) ∧ ∀ r, runeB r = true → memB (out ++ [x]) r = memB (d ++ [x]) r := by
  refine ⟨canon_snoc hc g ?_, fun r hr => by rw [mem_append, mem_append, hm r hr]⟩
  rcases hn with rfl | ⟨p, last, rfl, hl⟩
  · simp
  · intro y hy
    rcases List.mem_append.1 hy with hy | hy
    · have h1 := (List.pairwise_append.1 hc.2).2.2 y hy last (by simp)
      have h2 := (hc.1 last (by simp)).2.2
      have := lt_after last.2
      omega
    · simp at hy; exact hy ▸ hl
theorem form_join {d p : List (Int × Int)} {last x : Int × Int} (hc : Canon (p ++ [last])) (hm : ∀ r, runeB r = true → memB (p ++ [last]) r = memB d r) (g : Good x)
    (h1 : last.1 ≤ x.1) (h2 : x.1 ≤ after last.2) :
    Canon (p ++ [(last.1, max last.2 x.2)]) ∧ ∀ r, runeB r = true → memB (p ++ [(last.1, max last.2 x.2)]) r = memB (d ++ [x]) r := by
  have gl := hc.1 last (by simp)
  have cp : Canon p := ⟨fun y hy => hc.1 y (by simp [hy]), (List.pairwise_append.1 hc.2).1⟩
  refine ⟨canon_snoc cp ⟨gl.1, ?_, ?_⟩ fun y hy => (List.pairwise_append.1 hc.2).2.2 y hy last (by simp), fun r hr => ?_⟩
  · show runeB (max last.2 x.2) = true
    rw [Int.max_def]; split
    · exact g.2.1
    · exact gl.2.1
  · show last.1 ≤ max last.2 x.2
    have := gl.2.2; omega
  · have := hm r hr
    rw [mem_append] at this
    rw [mem_append, mem_append, ← this, Bool.or_assoc]
    congr 1
    simp only [memB, List.any_cons, List.any_nil, Bool.or_false]
    rw [Bool.eq_iff_iff, Bool.or_eq_true, in_iff, in_iff, in_iff]
    have ha : last.2 < r → after last.2 ≤ r := after_le hr
    have := gl.2.2
    have := g.2.2
    simp only
    omega

/- And -/
def AInv (a b a' b' out : List (Int × Int)) : Prop :=
  Canon out ∧ Canon a' ∧ Canon b' ∧ (∀ r, runeB r = true → (memB out r || (memB a' r && memB b' r)) = (memB a r && memB b r)) ∧
  ∀ x ∈ out, (∀ y ∈ a', after x.2 < y.1) ∨ ∀ y ∈ b', after x.2 < y.1
theorem ainv_start {a b : List (Int × Int)} (ha : Canon a) (hb : Canon b) : AInv a b a b [] :=
  ⟨canon_nil, ha, hb, fun r _ => by simp [memB], by simp⟩
theorem ainv_end {a b a' b' out : List (Int × Int)} (h : AInv a b a' b' out) (he : a' = [] ∨ b' = []) : Canon out ∧ ∀ r, runeB r = true → memB out r = (memB a r && memB b r) := by
  refine ⟨h.1, fun r hr => ?_⟩
  rw [← h.2.2.2.1 r hr]
  rcases he with rfl | rfl <;> simp [memB]
def both (x y : Int × Int) : Int × Int := (max x.1 y.1, min x.2 y.2)
theorem tail_out {x : Int × Int} {l : List (Int × Int)} {r : Int} (h : Canon (x :: l)) (hr : r ≤ x.2) : memB l r = false := by
  rw [mem_false]
  intro y hy hc
  have := (canon_head h).2 y hy
  have := lt_after x.2
  omega
theorem ainv_put {a b s t out : List (Int × Int)} {x y : Int × Int} (h : AInv a b (x :: s) (y :: t) out) :
    (riseB (both x y) = true → Good (both x y) ∧ ∀ z ∈ out, after z.2 < (both x y).1) := by
  intro hr
  have gx := (canon_head h.2.1).1
  have gy := (canon_head h.2.2.1).1
  rw [rise_iff] at hr
  refine ⟨⟨?_, ?_, ?_⟩, fun z hz => ?_⟩
  · show runeB (max x.1 y.1) = true
    rw [Int.max_def]; split
    · exact gy.1
    · exact gx.1
  · show runeB (min x.2 y.2) = true
    rw [Int.min_def]; split
    · exact gx.2.1
    · exact gy.2.1
  · exact hr
  · show after z.2 < max x.1 y.1
    rcases h.2.2.2.2 z hz with e | e
    · have := e x (by simp); omega
    · have := e y (by simp); omega
def putB (out : List (Int × Int)) (x y : Int × Int) : List (Int × Int) := out ++ if riseB (both x y) = true then [both x y] else []
theorem putB_canon {a b s t out : List (Int × Int)} {x y : Int × Int} (h : AInv a b (x :: s) (y :: t) out) : Canon (putB out x y) := by
  unfold putB
  split
  · rename_i hr
    exact canon_snoc h.1 (ainv_put h hr).1 (ainv_put h hr).2
  · simpa using h.1
theorem putB_mem (out : List (Int × Int)) (x y : Int × Int) (r : Int) : memB (putB out x y) r = (memB out r || (inB x r && inB y r)) := by
  unfold putB
  rw [mem_append]
  congr 1
  rw [Bool.eq_iff_iff, Bool.and_eq_true, in_iff, in_iff]
  split
  · simp only [memB, List.any_cons, List.any_nil, Bool.or_false, in_iff, both]; omega
  · rename_i hr
    rw [rise_iff] at hr; unfold both at hr; simp only at hr
    simp only [memB, List.any_nil, Bool.false_eq_true, false_iff]; omega
theorem ainv_left {a b s t out : List (Int × Int)} {x y : Int × Int} (h : AInv a b (x :: s) (y :: t) out) (hlt : x.2 < y.2) : AInv a b s (y :: t) (putB out x y) := by
  refine ⟨putB_canon h, canon_tail h.2.1, h.2.2.1, fun r hr => ?_, fun z hz => ?_⟩
  · rw [← h.2.2.2.1 r hr, putB_mem, mem_cons, mem_cons]
    by_cases hx : inB x r = true
    · have h1 := (in_iff x r).1 hx
      rw [tail_out h.2.2.1 (r := r) (by omega), tail_out h.2.1 (r := r) (by omega)]
      simp [hx]
    · simp [hx]
  · unfold putB at hz
    rcases List.mem_append.1 hz with hz | hz
    · rcases h.2.2.2.2 z hz with e | e
      · exact .inl fun u hu => e u (List.mem_cons_of_mem _ hu)
      · exact .inr e
    · split at hz
      · simp at hz; subst hz
        refine .inl fun u hu => ?_
        have := (canon_head h.2.1).2 u hu
        have e : (both x y).2 = x.2 := by simp [both]; omega
        rw [e]; exact this
      · simp at hz
theorem ainv_right {a b s t out : List (Int × Int)} {x y : Int × Int} (h : AInv a b (x :: s) (y :: t) out) (hlt : ¬ x.2 < y.2) : AInv a b (x :: s) t (putB out x y) := by
  refine ⟨putB_canon h, h.2.1, canon_tail h.2.2.1, fun r hr => ?_, fun z hz => ?_⟩
  · rw [← h.2.2.2.1 r hr, putB_mem, mem_cons, mem_cons]
    by_cases hy : inB y r = true
    · have h1 := (in_iff y r).1 hy
      rw [tail_out h.2.2.1 (r := r) (by omega), tail_out h.2.1 (r := r) (by omega)]
      simp [hy]
    · simp [hy]
  · unfold putB at hz
    rcases List.mem_append.1 hz with hz | hz
    · rcases h.2.2.2.2 z hz with e | e
      · exact .inl e
      · exact .inr fun u hu => e u (List.mem_cons_of_mem _ hu)
    · split at hz
      · simp at hz; subst hz
        refine .inr fun u hu => ?_
        have := (canon_head h.2.2.1).2 u hu
        have e : (both x y).2 = y.2 := by simp [both]; omega
        rw [e]; exact this
      · simp at hz

/- Not -/
def NInv (l rest out : List (Int × Int)) (next : Int) : Prop :=
  Canon out ∧ Canon rest ∧ (runeB next = true ∨ next = 1114112) ∧ (∀ y ∈ rest, next ≤ y.1) ∧ (∀ x ∈ out, after x.2 < next) ∧
  (∀ r, runeB r = true → memB out r = (decide (r < next) && !memB l r)) ∧ ∀ r, runeB r = true → next ≤ r → memB l r = memB rest r
theorem ninv_start {l : List (Int × Int)} (h : Canon l) : NInv l l [] 0 := by
  refine ⟨canon_nil, h, .inl (by decide), fun y hy => ?_, by simp, fun r hr => ?_, fun r _ _ => rfl⟩
  · have := (h.1 y hy).1; rw [rune_iff] at this; omega
  · rw [rune_iff] at hr
    have : ¬ r < 0 := by omega
    simp [memB, this]
def putN (out : List (Int × Int)) (next lo : Int) : List (Int × Int) := out ++ if next < lo then [(next, before lo)] else []
theorem ninv_step {l rest out : List (Int × Int)} {next : Int} {x : Int × Int} (h : NInv l (x :: rest) out next) : NInv l rest (putN out next x.1) (after x.2) := by
  obtain ⟨hc, hr, hn, hlo, hout, hm, hrest⟩ := h
  obtain ⟨gx, hx⟩ := canon_head hr
  have hnx : next ≤ x.1 := hlo x (by simp)
  have rx1 := (rune_iff _).1 gx.1
  have rx2 := (rune_iff _).1 gx.2.1
  have hle := gx.2.2
  have hnr : next < x.1 → runeB next = true := fun hl => hn.resolve_right (by omega)
  have hgood : next < x.1 → Good (next, before x.1) := by
    intro hl
    have hn' := (rune_iff _).1 (hnr hl)
    refine ⟨hnr hl, ?_, ?_⟩
    · rw [rune_iff]; unfold before; simp only; split <;> omega
    · show next ≤ before x.1
      unfold before; split <;> omega
  have hba : next < x.1 → after (before x.1) = x.1 := by
    intro hl
    have hn' := (rune_iff _).1 (hnr hl)
    unfold after before; split <;> split <;> omega
  refine ⟨?_, canon_tail hr, ?_, fun y hy => ?_, fun z hz => ?_, fun r hrr => ?_, fun r hrr hle' => ?_⟩
  · unfold putN; split
    · rename_i hl; exact canon_snoc hc (hgood hl) fun y hy => hout y hy
    · simpa using hc
  · by_cases e : x.2 = 1114111
    · right; rw [e]; decide
    · left; rw [rune_iff]; unfold after; split <;> omega
  · have := hx y hy; omega
  · have h1 := lt_after x.2
    unfold putN at hz
    rcases List.mem_append.1 hz with hz | hz
    · have := hout z hz; omega
    · split at hz
      · rename_i hl; simp at hz; subst hz; show after (before x.1) < _; rw [hba hl]; omega
      · simp at hz
  · have e0 : memB (putN out next x.1) r = (memB out r || decide (next ≤ r ∧ r < x.1)) := by
      unfold putN; rw [mem_append]; congr 1
      rw [rune_iff] at hrr
      rw [Bool.eq_iff_iff, decide_eq_true_iff]
      split
      · rename_i hl
        have hn' := (rune_iff _).1 (hnr hl)
        simp only [memB, List.any_cons, List.any_nil, Bool.or_false, in_iff]
        unfold before; split <;> omega
      · simp only [memB, List.any_nil, Bool.false_eq_true, false_iff]; omega
    rw [e0, hm r hrr]
    have ha : (r < after x.2) ↔ r ≤ x.2 := by
      constructor
      · intro h; by_cases e : x.2 < r
        · have := after_le hrr e; omega
        · omega
      · intro h; have := lt_after x.2; omega
    by_cases h1 : r < next
    · have h2 : r < after x.2 := ha.2 (by omega)
      have h3 : ¬ (next ≤ r ∧ r < x.1) := by omega
      simp [h1, h2, h3]
    · have h4 := hrest r hrr (by omega)
      rw [mem_cons] at h4
      by_cases h5 : r < x.1
      · have h6 : memB l r = false := by
          rw [h4, Bool.or_eq_false_iff]
          refine ⟨?_, tail_out hr (by omega)⟩
          rw [← Bool.not_eq_true, in_iff]; omega
        have h7 : r < after x.2 := ha.2 (by omega)
        have h8 : next ≤ r ∧ r < x.1 := by omega
        simp [h1, h6, h7, h8]
      · have h8 : ¬ (next ≤ r ∧ r < x.1) := by omega
        by_cases h9 : r ≤ x.2
        · have h6 : memB l r = true := by
            rw [h4, (in_iff x r).2 (by omega)]; rfl
          simp [h1, h6, h8]
        · have h7 : ¬ r < after x.2 := fun h => h9 (ha.1 h)
          simp [h1, h7, h8]
  · have h1 := lt_after x.2
    rw [hrest r hrr (by omega), mem_cons]
    have : inB x r = false := by rw [← Bool.not_eq_true, in_iff]; omega
    rw [this]; rfl
def endN (out : List (Int × Int)) (next : Int) : List (Int × Int) := out ++ if next ≤ 1114111 then [(next, 1114111)] else []
theorem ninv_end {l out : List (Int × Int)} {next : Int} (h : NInv l [] out next) : Canon (endN out next) ∧ ∀ r, runeB r = true → memB (endN out next) r = !memB l r := by
  obtain ⟨hc, _, hn, _, hout, hm, hrest⟩ := h
  constructor
  · unfold endN; split
    · refine canon_snoc hc ⟨hn.resolve_right (by omega), by simp [runeB], by assumption⟩ fun y hy => hout y hy
    · simpa using hc
  · intro r hr
    unfold endN
    rw [mem_append, hm r hr]
    by_cases h1 : r < next
    · have : memB (if next ≤ 1114111 then [(next, (1114111 : Int))] else []) r = false := by
        split
        · rw [mem_false]; simp; omega
        · rfl
      simp [h1, this]
    · have h2 : memB l r = false := by rw [hrest r hr (by omega)]; rfl
      have hr' := (rune_iff _).1 hr
      rw [if_pos (by omega)]
      have : memB [(next, (1114111 : Int))] r = true := by
        rw [mem_true]; exact ⟨(next, 1114111), by simp, by show next ≤ r ∧ r ≤ 1114111; omega⟩
      simp [h1, h2, this]

end Brm
end Go.Proofs.Ytaiidpcdeghipaa
