/- What the law lends out and asks back, at whatever slice; a book that stands while a lent row is written over. -/
import Derived.Test.YtaiidpcdeghipaaLooks
import Derived.Test.YtaiidpcdeghipaaRefCalls
namespace Go.Proofs.Ytaiidpcdeghipaa
open Go.RowKit

/-- A slice of ranges that came in. -/
def ArgIn (W : World) (v : Value) (l : List (Int × Int)) : Prop := l.length ≤ 8796093022208 ∧ ((v = .slice none 0 0 ∧ l = []) ∨ ∃ ad cap, v = .slice (some ad) l.length cap ∧ Rd W (some ad) l)
/-- What was lent for it. -/
def LentOk (W w : World) (v p : Value) (l : List (Int × Int)) : Prop :=
  (v = .slice none 0 0 ∧ p = .slice none 0 0 ∧ l = []) ∨ ∃ ad cap g, v = .slice (some ad) l.length cap ∧ p = .slice (some ⟨g, 0, none⟩) l.length (l.length + 8) ∧ Rd W (some ad) l ∧
    w.ownsRow W.heap.size 27 2 (.slice (some ⟨g, 0, none⟩) (l.length + 8) (l.length + 8)) (l.length + 8) (cellsR (l ++ mark8))

theorem ArgIn.rd {W : World} {v : Value} {l : List (Int × Int)} (h : ArgIn W v l) : ∃ ao cap, v = .slice ao l.length cap ∧ Rd W ao l ∧ (ao = none → cap = 0) := by
  rcases h.2 with ⟨rfl, rfl⟩ | ⟨ad, cap, rfl, hr⟩
  · exact ⟨none, 0, rfl, fun i x hx => by simp at hx, fun _ => rfl⟩
  · exact ⟨_, cap, rfl, hr, fun h => by cases h⟩
theorem LentOk.rd {W w : World} {v p : Value} {l : List (Int × Int)} (h : LentOk W w v p l) : ∃ ao cap, p = .slice ao l.length cap ∧ Rd w ao l ∧ (ao = none → cap = 0) := by
  rcases h with ⟨_, rfl, rfl⟩ | ⟨ad, cap, g, _, rfl, _, ho⟩
  · exact ⟨none, 0, rfl, fun i x hx => by simp at hx, fun _ => rfl⟩
  · refine ⟨_, l.length + 8, rfl, fun i x hx => ⟨g, 0, rfl, (ho.lt g rfl).2, ?_, ?_⟩, fun h => by cases h⟩
    · have hi : i < l.length := (List.getElem?_eq_some_iff.1 hx).1
      have hx' : (l ++ mark8)[i]? = some x := by rw [List.getElem?_append_left hi]; exact hx
      rw [Nat.zero_add, ho.cellAt _ (by omega)]; exact (cellsR_get hx').1
    · have hi : i < l.length := (List.getElem?_eq_some_iff.1 hx).1
      have hx' : (l ++ mark8)[i]? = some x := by rw [List.getElem?_append_left hi]; exact hx
      rw [Nat.zero_add, ho.cellAt _ (by omega)]; exact (cellsR_get hx').2
theorem LentOk.below {W w w' : World} {v p : Value} {l : List (Int × Int)} (h : LentOk W w v p l) (hb : Below w.heap.size w w') : LentOk W w' v p l := by
  rcases h with h | ⟨ad, cap, g, h1, h2, h3, ho⟩
  · exact .inl h
  · refine .inr ⟨ad, cap, g, h1, h2, h3, own_blk (row := none) (fun k hk _ => hb.block k hk) ho (none_or _)⟩
theorem LentOk.stays {W w w' : World} {v p : Value} {l : List (Int × Int)} {row : Option Nat} (h : LentOk W w v p l) (hs : Stays w w' row) (hne : p.ownBlock = none ∨ p.ownBlock ≠ row) : LentOk W w' v p l := by
  rcases h with h | ⟨ad, cap, g, h1, rfl, h3, ho⟩
  · exact .inl h
  · exact .inr ⟨ad, cap, g, h1, rfl, h3, hs.own ho hne⟩
theorem LentOk.type {W w : World} {v p : Value} {l : List (Int × Int)} (h : LentOk W w v p l) : ∀ g, p.ownBlock = some g → W.heap.size ≤ g ∧ g < w.heap.size ∧ ∃ c, w.heap[g]? = some (.cells c 27 (0, 0)) := by
  intro g hg
  rcases h with ⟨_, rfl, _⟩ | ⟨ad, cap, g', h1, rfl, h3, ho⟩
  · cases hg
  · simp [Value.ownBlock] at hg; subst hg
    exact ⟨(ho.lt _ rfl).1, (ho.lt _ rfl).2, own_type ho _ rfl⟩

theorem lent_any (W : World) (v : Value) (l : List (Int × Int)) (w : World) (h : ArgIn W v l) (hW : Below W.heap.size W w) :
    Calls Try.prog 15 #[v] w fun e w' => ∃ p, e = .returned p ∧ LentOk W w' v p l ∧ Below w.heap.size w w' ∧ ∀ g, p.ownBlock = some g → w.heap.size ≤ g := by
  obtain ⟨hl, h⟩ := h
  rcases h with ⟨rfl, rfl⟩ | ⟨ad, cap, rfl, hr⟩
  · refine (lent_nil w).mono ?_
    rintro e w' ⟨rfl, rfl⟩
    exact ⟨_, rfl, .inl ⟨rfl, rfl, rfl⟩, Below.refl _ _, fun g e => by cases e⟩
  · refine (lent_some ad l cap w (hr.below hW) hl).mono ?_
    rintro e w' ⟨g, rfl, ho, hb⟩
    exact ⟨_, rfl, .inr ⟨ad, cap, g, rfl, rfl, hr, own_le ho hW.size⟩, hb, fun g' e => by simp [Value.ownBlock] at e; subst e; exact (ho.lt _ rfl).1⟩

theorem asLent_any (W : World) (v p : Value) (l : List (Int × Int)) (w : World) (h : LentOk W w v p l) (hl : l.length ≤ 8796093022208) (hW : Below W.heap.size W w) :
    Calls Try.prog 23 #[p, v] w fun e w' => e = .returned (.bool true) ∧ w.grownBy w' p.ownBlock := by
  rcases h with ⟨rfl, rfl, rfl⟩ | ⟨ad, cap, g, rfl, rfl, hr, ho⟩
  · refine (asLent_nil _ w).mono ?_
    rintro e w' ⟨rfl, rfl⟩
    exact ⟨rfl, ⟨rfl, rfl, rfl, Nat.le_refl _, fun _ _ _ => rfl⟩⟩
  · exact asLent_some ad l cap g W w hr hW hl ho

theorem book_grown {w w' : World} {B Bk : Nat} {bv : Value} {es : List Value} {row : Option Nat} (hk : BookAt w B Bk bv es) (hg : w.grownBy w' row) (ht : ∀ g, row = some g → ∃ c, w.heap[g]? = some (.cells c 27 (0, 0)))
    (hap : ∀ (j : Nat) (e : Value), es[j]? = some e → e.ownBlock = none ∨ e.ownBlock ≠ row) : BookAt w' B Bk bv es := by
  obtain ⟨h1, h2, h4, h5⟩ := hk
  have hblk : ∀ k, k < w.heap.size → some k ≠ row → w'.heap[k]? = w.heap[k]? := fun k hk hne => hg.block k hk hne
  have hne : ∀ {k c t fr}, w.heap[k]? = some (.cells c t fr) → t ≠ 27 → some k ≠ row := by
    intro k c t fr hk ht' e
    obtain ⟨c', hc'⟩ := ht k e.symm
    rw [hk] at hc'
    simp only [Option.some.injEq, Obj.cells.injEq] at hc'
    exact ht' hc'.2.1
  refine ⟨?_, h2, own_blk hblk h4 ?_, fun j e hj => ?_⟩
  · rw [hblk Bk (lt_of_heap h1) (hne h1 (by decide))]; exact h1
  · cases hb : bv.ownBlock with
    | none => exact .inl rfl
    | some g =>
      right
      obtain ⟨c, hc⟩ := own_type h4 g hb
      exact hne hc (by decide)
  · obtain ⟨c, hc, ho⟩ := h5 j e hj
    exact ⟨c, hc, own_blk hblk ho (hap j e hj)⟩
theorem book_below {w w' : World} {B Bk : Nat} {bv : Value} {es : List Value} (hk : BookAt w B Bk bv es) (hb : Below w.heap.size w w') : BookAt w' B Bk bv es :=
  book_grown (row := none) hk ⟨hb.os, hb.tape, hb.output, hb.size, fun k hk _ => hb.block k hk⟩ (fun g e => by cases e) (fun j e _ => none_or e)
theorem book_lt {w : World} {B Bk : Nat} {bv : Value} {es : List Value} (hk : BookAt w B Bk bv es) : ∀ (j : Nat) (e : Value), es[j]? = some e → ∀ g, e.ownBlock = some g → g < w.heap.size := by
  intro j e hj g hg
  obtain ⟨c, hc, ho⟩ := hk.2.2.2 j e hj
  exact (ho.lt g hg).2
theorem apart_of {e : Value} {row : Option Nat} (h : ∀ g, e.ownBlock = some g → row ≠ some g) : e.ownBlock = none ∨ e.ownBlock ≠ row := by
  cases hb : e.ownBlock with
  | none => exact .inl rfl
  | some g => exact .inr fun h' => h g hb h'.symm
end Go.Proofs.Ytaiidpcdeghipaa
