/- The law's book of lists: what is known of it, and how it stays known. -/
import Derived.Test.YtaiidpcdeghipaaLent
namespace Go.Proofs.Ytaiidpcdeghipaa
open Go.RowKit

def markOf (j : Nat) : Int := -1 - ((j / 4 : Nat) : Int)
def marks (m : Int) (n : Nat) : List (Int × Int) := List.replicate n (m, 0)
/-- What holds of a book: its struct, its row of lists, and that each list reads as its owner left it. -/
def BookAt (w : World) (B Bk : Nat) (bv : Value) (es : List Value) : Prop :=
  w.heap[Bk]? = some (.cells #[bv] 31 (0, 0)) ∧ B ≤ Bk ∧ w.ownsRow B 22 1 bv es.length es ∧ ∀ j e, es[j]? = some e → ∃ n, n ≤ 1000 ∧ w.ownsRow B 27 2 e n (cellsR (marks (markOf j) n))

/-- Blocks of ranges, but for one, are as they were. -/
def Stays (w w' : World) (row : Option Nat) : Prop := ∀ k c fr, w.heap[k]? = some (.cells c 27 fr) → some k ≠ row → w'.heap[k]? = w.heap[k]?
theorem Stays.refl (w : World) (row : Option Nat) : Stays w w row := fun _ _ _ _ _ => rfl
theorem Stays.trans {a b c : World} {row : Option Nat} (h : Stays a b row) (k : Stays b c row) : Stays a c row := fun j d fr hj hne => by
  have h1 := h j d fr hj hne
  rw [k j d fr (h1.trans hj) hne, h1]
theorem Stays.own {w w' : World} {row : Option Nat} (h : Stays w w' row) {B n : Nat} {v : Value} {xs : List Value} (ho : w.ownsRow B 27 2 v n xs) (hne : v.ownBlock = none ∨ v.ownBlock ≠ row) : w'.ownsRow B 27 2 v n xs := by
  refine ⟨ho.1, ?_⟩
  rcases ho.2 with h2 | ⟨g, cap, cur, rfl, hb, hg, r⟩
  · exact .inl h2
  · refine .inr ⟨g, cap, cur, rfl, hb, ?_, r⟩
    have hr : some g ≠ row := by
      rcases hne with e | e
      · cases e
      · exact e
    rw [h g cur _ hg hr]; exact hg
theorem lt_of_heap {w : World} {k : Nat} {o : Obj} (h : w.heap[k]? = some o) : k < w.heap.size := by
  rcases Nat.lt_or_ge k w.heap.size with h' | h'
  · exact h'
  · rw [Array.getElem?_eq_none h'] at h; cases h
theorem stays_alloc (w : World) (o : Obj) (row : Option Nat) : Stays w (w.alloc o) row := fun k _ _ hk _ => Below.heap_alloc w o k (lt_of_heap hk)
theorem stays_grown {w w' : World} {row row' : Option Nat} (h : w.grownBy w' row') (hr : row' = row ∨ ∃ g c t fr, row' = some g ∧ w.heap[g]? = some (.cells c t fr) ∧ t ≠ 27) : Stays w w' row := by
  intro k c fr hk hne
  refine h.block k (lt_of_heap hk) ?_
  rcases hr with rfl | ⟨g, c', t, fr', rfl, hg, ht⟩
  · exact hne
  · intro e
    have : k = g := Option.some.inj e
    subst this
    rw [hk] at hg
    simp only [Option.some.injEq, Obj.cells.injEq] at hg
    exact ht hg.2.1.symm
theorem own_type {w : World} {B e size n : Nat} {v : Value} {xs : List Value} (h : w.ownsRow B e size v n xs) : ∀ g, v.ownBlock = some g → ∃ c, w.heap[g]? = some (.cells c e (0, 0)) := by
  intro g hg
  rcases h.2 with ⟨rfl, _⟩ | ⟨g', cap, cur, rfl, _, hh, _⟩
  · cases hg
  · simp [Value.ownBlock] at hg; subst hg; exact ⟨cur, hh⟩
theorem own_apart {w : World} {B B' e e' size size' n n' : Nat} {v v' : Value} {xs xs' : List Value} (h : w.ownsRow B e size v n xs) (h' : w.ownsRow B' e' size' v' n' xs') (hne : e ≠ e') : v.ownBlock = none ∨ v.ownBlock ≠ v'.ownBlock := by
  cases hg : v.ownBlock with
  | none => exact .inl rfl
  | some g =>
    right
    intro e0
    obtain ⟨c, hc⟩ := own_type h g hg
    obtain ⟨c', hc'⟩ := own_type h' g e0.symm
    rw [hc] at hc'
    simp only [Option.some.injEq, Obj.cells.injEq] at hc'
    exact hne hc'.2.1
theorem stays_own22 {w w' : World} {B n : Nat} {v : Value} {xs : List Value} (ho : w.ownsRow B 22 1 v n xs) (hg : w.grownBy w' v.ownBlock) (row : Option Nat) : Stays w w' row := by
  cases hb : v.ownBlock with
  | none =>
    rw [hb] at hg
    intro k _ _ hk _
    exact hg.block k (lt_of_heap hk) (by simp)
  | some g =>
    obtain ⟨c, hc⟩ := own_type ho g hb
    rw [hb] at hg
    exact stays_grown hg (.inr ⟨g, c, 22, (0, 0), rfl, hc, by decide⟩)
theorem stays_box {w : World} {Bk : Nat} {bv u : Value} (h : w.heap[Bk]? = some (.cells #[bv] 31 (0, 0))) (row : Option Nat) : Stays w (w.setCell ⟨Bk, 0, none⟩ u) row := by
  intro k _ _ hk _
  have : k ≠ Bk := fun e => by
    subst e
    rw [hk] at h
    simp only [Option.some.injEq, Obj.cells.injEq] at h
    exact absurd h.2.1 (by decide)
  exact Below.heap_setCell w ⟨Bk, 0, none⟩ u k this

/-- An append in place leaves what lay ahead. -/
theorem own_in_place {w w' : World} {B g n j cap : Nat} {xs news ys : List Value} (h : w.ownsRow B 27 2 (.slice (some ⟨g, 0, none⟩) n cap) n xs) (h' : w'.ownsRow B 27 2 (.slice (some ⟨g, 0, none⟩) (n + 1) cap) (n + 1) (xs ++ news))
    (he : w.ownsRow B 27 2 (.slice (some ⟨g, 0, none⟩) j cap) j ys) (hj : j ≤ n) : w'.ownsRow B 27 2 (.slice (some ⟨g, 0, none⟩) j cap) j ys := by
  have hx := h.1
  refine ⟨he.1, ?_⟩
  rcases h.2 with ⟨e, _⟩ | ⟨g1, c1, cur, e, _, hg, _, _, _, ht⟩
  · cases e
  rcases he.2 with ⟨e', _⟩ | ⟨g2, c2, cur2, e', _, hg2, _, _, _, ht2⟩
  · cases e'
  rcases h'.2 with ⟨e'', _⟩ | ⟨g3, c3, cur3, e'', hb3, hg3, hn3, hm3, hs3, ht3⟩
  · cases e''
  injection e with a1 _ a3; injection a1 with a1; injection a1 with a1; subst a1; subst a3
  injection e' with a1 _ a3; injection a1 with a1; injection a1 with a1; subst a1; subst a3
  injection e'' with a1 _ a3; injection a1 with a1; injection a1 with a1; subst a1; subst a3
  rw [hg] at hg2
  simp only [Option.some.injEq, Obj.cells.injEq, and_true] at hg2
  subst hg2
  refine .inr ⟨g, cap, cur3, rfl, hb3, hg3, by omega, hm3, hs3, ?_⟩
  have e1 : cur3.toList.take (j * 2) = ((cur3.toList.take ((n + 1) * 2)).take (n * 2)).take (j * 2) := by
    rw [List.take_take, List.take_take]; congr 1; omega
  have e2 : (xs ++ news).take (n * 2) = xs := by rw [List.take_append_of_le_length (by omega), List.take_of_length_le (by omega)]
  have e3 : min (j * 2) (n * 2) = j * 2 := by omega
  rw [e1, ht3, e2, ← ht, List.take_take, e3, ht2]

/-- An append of one range to a row that the call owns: where the new row lies, and what stays. -/
theorem append_one {w : World} {ops : Array Oper} {rest : List Oper} {o : Oper} {a : Act} {Q : Exit → Act → World → Prop} (hgd : o.guard = none) (s x : Operand)
    (ho : o.op = .call { callee := .builtin .append, args := #[s, x], argTypes := #[22, 22] }) (B n : Nat) (v : Value) (xs : List Value) (hs : a.eval s = v) (hown : w.ownsRow B 27 2 v n xs)
    (ad : Addr) (news : List Value) (hx : a.eval x = .slice (some ad) 1 1) (hl : news.length = 2) (hnews : ∀ j u, news[j]? = some u → w.cell? (ad.add j) = some u) (h1 : ∀ u ∈ news, u.oneCell' = true)
    (hn : n ≤ 100000) (hB : B ≤ w.heap.size)
    (h : ∀ v' w', w'.ownsRow B 27 2 v' (n + 1) (xs ++ news) → Stays w w' v.ownBlock → Below B w w' →
      (∀ e j ys, w.ownsRow B 27 2 e j ys → (e.ownBlock = none ∨ e.ownBlock ≠ v.ownBlock ∨ ∃ g cap, e = .slice (some ⟨g, 0, none⟩) j cap ∧ v = .slice (some ⟨g, 0, none⟩) n cap ∧ j ≤ n) →
        w'.ownsRow B 27 2 e j ys ∧ (e.ownBlock = none ∨ e.ownBlock ≠ v'.ownBlock ∨ ∃ g cap, e = .slice (some ⟨g, 0, none⟩) j cap ∧ v' = .slice (some ⟨g, 0, none⟩) (n + 1) cap ∧ j ≤ n + 1)) →
      (∀ k, k < w.heap.size → some k ≠ v.ownBlock → w'.heap[k]? = w.heap[k]?) → (v'.ownBlock = v.ownBlock ∨ ∀ g, v'.ownBlock = some g → w.heap.size ≤ g) →
      wpList Try.prog ops Q rest (a.put o.dst v') w') : wpList Try.prog ops Q (o :: rest) a w := by
  obtain ⟨i0, hi, hz0, hz1, hz2⟩ := info_parts Try.info27
  have hrow := hown
  rcases hown.2 with ⟨rfl, rfl⟩ | ⟨g, cap, cur, rfl, hbg, hg, hnc, hcm, hcs, ht⟩
  · refine wpList_append_grows w hgd s x 22 ho 27 i0 (.agg #[.int .i64 0, .int .i64 0]) 2 16 Try.underlying22 hi hz0 hz1 hz2 rfl (by decide) none 0 0 xs hs (fun _ => ⟨rfl, rfl⟩) hrow.1 (fun b e => by cases e) ad 1 1 news hx hl hnews h1 (by omega) (by unfold maxLen; omega) (by omega) ?_
    intro v' w' ho' hg'
    refine h v' w' (own_le ho' hB) (fun k _ _ hk _ => hg'.block k (lt_of_heap hk) (by simp)) ((Below.refl _ _).grown hg' hB (fun k e => by cases e)) ?_ (fun k hk _ => hg'.block k hk (by simp)) (.inr fun g e => (ho'.lt g e).1)
    intro e j ys he _
    refine ⟨he.kept hg' ?_, ?_⟩
    · cases e.ownBlock with
      | none => exact .inl rfl
      | some g => right; simp
    · cases hb : e.ownBlock with
      | none => exact .inl rfl
      | some k =>
        right; left
        intro e0
        have h1 := (he.lt k hb).2
        have h2 := (ho'.lt k e0.symm).1
        omega
  · by_cases hroom : n + 1 ≤ cap
    · refine wpList_append_fits w hgd s x 22 ho B 27 i0 2 Try.underlying22 hi hz1 g n cap xs hs hrow ad 1 1 news hx hl hnews h1 hroom ?_
      intro w' ho' hg'
      refine h _ w' ho' (stays_grown hg' (.inl rfl)) ((Below.refl _ _).grown hg' hB (fun k e => by cases e; exact hbg)) ?_ (fun k hk hne => hg'.block k hk hne) (.inl rfl)
      intro e j ys he hc
      rcases hc with hc | hc | ⟨g2, cap2, rfl, e2, hj⟩
      · exact ⟨he.kept hg' (.inl hc), .inl hc⟩
      · exact ⟨he.kept hg' (.inr hc), .inr (.inl hc)⟩
      · injection e2 with a1 _ a3
        injection a1 with a1
        injection a1 with a1
        subst a1; subst a3
        exact ⟨own_in_place hrow ho' he hj, .inr (.inr ⟨g, cap, rfl, rfl, by omega⟩)⟩
    · refine wpList_append_grows w hgd s x 22 ho 27 i0 (.agg #[.int .i64 0, .int .i64 0]) 2 16 Try.underlying22 hi hz0 hz1 hz2 rfl (by decide) (some ⟨g, 0, none⟩) n cap xs hs (fun e => by cases e) hrow.1 (fun b e j u hj => by cases e; exact hrow.cells rfl j u hj) ad 1 1 news hx hl hnews h1 (by omega) (by unfold maxLen; omega) (by omega) ?_
      intro v' w' ho' hg'
      refine h v' w' (own_le ho' hB) (fun k _ _ hk _ => hg'.block k (lt_of_heap hk) (by simp)) ((Below.refl _ _).grown hg' hB (fun k e => by cases e)) ?_ (fun k hk _ => hg'.block k hk (by simp)) (.inr fun g e => (ho'.lt g e).1)
      intro e j ys he _
      refine ⟨he.kept hg' ?_, ?_⟩
      · cases e.ownBlock with
        | none => exact .inl rfl
        | some g => right; simp
      · cases hb : e.ownBlock with
        | none => exact .inl rfl
        | some k =>
          right; left
          intro e0
          have h1 := (he.lt k hb).2
          have h2 := (ho'.lt k e0.symm).1
          omega

theorem own22_form {w : World} {B n : Nat} {v : Value} {xs : List Value} (h : w.ownsRow B 22 1 v n xs) : ∃ ao cap, v = .slice ao n cap := by
  rcases h.2 with ⟨rfl, rfl⟩ | ⟨g, cap, cur, rfl, _⟩
  · exact ⟨none, 0, rfl⟩
  · exact ⟨_, cap, rfl⟩
theorem own27_form {w : World} {B n : Nat} {v : Value} {xs : List Value} (h : w.ownsRow B 27 2 v n xs) : ∃ ao cap, v = .slice ao n cap := by
  rcases h.2 with ⟨rfl, rfl⟩ | ⟨g, cap, cur, rfl, _⟩
  · exact ⟨none, 0, rfl⟩
  · exact ⟨_, cap, rfl⟩
theorem not_book {w : World} {B Bk n : Nat} {bv v : Value} {xs : List Value} {e size : Nat} (hk : w.heap[Bk]? = some (.cells #[bv] 31 (0, 0))) (ho : w.ownsRow B e size v n xs) (he : e ≠ 31) : some Bk ≠ v.ownBlock := by
  intro e0
  obtain ⟨c, hc⟩ := own_type ho Bk e0.symm
  rw [hk] at hc
  simp only [Option.some.injEq, Obj.cells.injEq] at hc
  exact he hc.2.1.symm
theorem below_of_stays {B : Nat} {a w w' : World} {row : Option Nat} (h : Below B a w) (hg : w.grownBy w' row) (hB : B ≤ w.heap.size) (hr : ∀ k, row = some k → B ≤ k) : Below B a w' := h.grown hg hB hr

/-- One more list in the book. -/
theorem book_push {w w3 : World} {B Bk n : Nat} {bv bv3 gv : Value} {es : List Value} {o : Obj} (hk : BookAt w B Bk bv es) (hgv : w.ownsRow B 27 2 gv n (cellsR (marks (markOf es.length) n))) (hn : n ≤ 1000) (hB : B ≤ w.heap.size)
    (hg : (w.alloc o).grownBy w3 bv.ownBlock) (h3 : w3.ownsRow B 22 1 bv3 (es.length + 1) (es ++ [gv])) :
    BookAt (w3.setCell ⟨Bk, 0, none⟩ bv3) B Bk bv3 (es ++ [gv]) ∧ (∀ row, Stays w (w3.setCell ⟨Bk, 0, none⟩ bv3) row) ∧ Below B w (w3.setCell ⟨Bk, 0, none⟩ bv3) := by
  obtain ⟨h1, h2, h4, h5⟩ := hk
  have hs1 : ∀ row, Stays w w3 row := fun row => (stays_alloc w o row).trans (stays_own22 (h4.alloc o) hg row)
  have hk3 : w3.heap[Bk]? = some (.cells #[bv] 31 (0, 0)) := by
    rw [hg.block Bk (by have := lt_of_heap h1; simp; omega) (not_book h1 h4 (by decide)), Below.heap_alloc w o Bk (lt_of_heap h1)]; exact h1
  have hs2 : ∀ row, Stays w (w3.setCell ⟨Bk, 0, none⟩ bv3) row := fun row => (hs1 row).trans (stays_box hk3 row)
  refine ⟨⟨?_, h2, ?_, ?_⟩, hs2, ?_⟩
  · rw [heap_setCell_same w3 Bk 0 #[bv] 31 bv3 hk3]; rfl
  · rw [List.length_append]
    exact ownsRow_setCell_other h3 (fun e => not_book hk3 h3 (by decide) e.symm) bv3
  · intro j e hj
    rcases Nat.lt_or_ge j es.length with hlt | hge
    · rw [List.getElem?_append_left hlt] at hj
      obtain ⟨m, hm, ho⟩ := h5 j e hj
      exact ⟨m, hm, (hs2 none).own ho (by cases e.ownBlock with | none => exact .inl rfl | some g => right; simp)⟩
    · rw [List.getElem?_append_right hge] at hj
      have hj0 : j = es.length := by
        have := (List.getElem?_eq_some_iff.1 hj).1; simp at this; omega
      subst hj0
      simp at hj; subst hj
      exact ⟨n, hn, (hs2 none).own hgv (by cases gv.ownBlock with | none => exact .inl rfl | some g => right; simp)⟩
  · refine (((Below.refl B w).alloc hB o).grown hg (by simp; omega) (fun k e => (h4.lt k e).1)).setCell h2 bv3
end Go.Proofs.Ytaiidpcdeghipaa
