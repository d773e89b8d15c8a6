/- How the law's keep goes on with its book: steps without a walk. -/
import Derived.Test.YtaiidpcdeghipaaBook
namespace Go.Proofs.Ytaiidpcdeghipaa
open Go.RowKit

def Ent (w : World) (B : Nat) (gv : Value) (n : Nat) (m : Int) (e : Value) : Prop :=
  ∃ j, j ≤ 1000 ∧ w.ownsRow B 27 2 e j (cellsR (marks m j)) ∧ (e.ownBlock = none ∨ e.ownBlock ≠ gv.ownBlock ∨ ∃ g cap, e = .slice (some ⟨g, 0, none⟩) j cap ∧ gv = .slice (some ⟨g, 0, none⟩) n cap ∧ j ≤ n)
def Kept2 (w wr : World) (B Bk q : Nat) (row : Option Nat) (n : Nat) (m : Int) (gv : Value) (k : Nat) (bv : Value) (es : List Value) : Prop :=
  es.length = 4 * q + k ∧ wr.ownsRow B 27 2 gv (n + k) (cellsR (marks m (n + k))) ∧ wr.heap[Bk]? = some (.cells #[bv] 31 (0, 0)) ∧ B ≤ Bk ∧ wr.ownsRow B 22 1 bv es.length es ∧
  (∀ j e, es[j]? = some e → Ent wr B gv (n + k) (markOf j) e) ∧ wr.heap[w.heap.size]? = some (.cells #[.int .i64 m, .int .i64 0] 27 (0, 0)) ∧
  (gv.ownBlock = row ∨ ∀ g, gv.ownBlock = some g → w.heap.size < g) ∧ Below B w wr ∧ Stays w wr row

theorem own_blk {w w' : World} {row : Option Nat} (h : ∀ k, k < w.heap.size → some k ≠ row → w'.heap[k]? = w.heap[k]?) {B e size n : Nat} {v : Value} {xs : List Value} (ho : w.ownsRow B e size v n xs) (hne : v.ownBlock = none ∨ v.ownBlock ≠ row) : w'.ownsRow B e size v n xs := by
  refine ⟨ho.1, ?_⟩
  rcases ho.2 with h2 | ⟨g, cap, cur, rfl, hb, hg, r⟩
  · exact .inl h2
  · refine .inr ⟨g, cap, cur, rfl, hb, ?_, r⟩
    have hr : some g ≠ row := by
      rcases hne with e | e
      · cases e
      · exact e
    rw [h g (lt_of_heap hg) hr]; exact hg
theorem none_or (v : Value) : v.ownBlock = none ∨ v.ownBlock ≠ none := by
  cases v.ownBlock with
  | none => exact .inl rfl
  | some g => right; simp
theorem own_self {w : World} {B n : Nat} {v : Value} {xs : List Value} (h : w.ownsRow B 27 2 v n xs) : v.ownBlock = none ∨ ∃ g cap, v = .slice (some ⟨g, 0, none⟩) n cap := by
  rcases h.2 with ⟨rfl, _⟩ | ⟨g, cap, cur, rfl, _⟩
  · exact .inl rfl
  · exact .inr ⟨g, cap, rfl⟩

theorem kept2_start {w wr : World} {B Bk q : Nat} {row : Option Nat} {m : Int} {v bv : Value} {es : List Value} {n : Nat} {xs : List Value} (hk : BookAt w B Bk bv es) (hq : es.length = 4 * q) (hv : w.ownsRow B 27 2 v n xs) (hr : v.ownBlock = row)
    (hap : ∀ (j : Nat) (e : Value), es[j]? = some e → e.ownBlock = none ∨ e.ownBlock ≠ row) (hB : B ≤ w.heap.size) (hg : (w.alloc (.cells #[.int .i64 m, .int .i64 0] 27)).grownBy wr row)
    (ho : wr.ownsRow B 27 2 v n (cellsR (marks m n))) : Kept2 w wr B Bk q row n m v 0 bv es := by
  obtain ⟨h1, h2, h4, h5⟩ := hk
  have hrl : ∀ g, row = some g → B ≤ g ∧ g < w.heap.size := fun g e => hv.lt g (hr.trans e)
  have hblk : ∀ k, k < w.heap.size → some k ≠ row → wr.heap[k]? = w.heap[k]? := fun k hk hne => by
    rw [hg.block k (by simp; omega) hne, Below.heap_alloc w _ k hk]
  refine ⟨by omega, ho, ?_, h2, ?_, fun j e hj => ?_, ?_, .inl hr, ?_, ?_⟩
  · rw [hblk Bk (lt_of_heap h1) (by rw [← hr]; exact not_book h1 hv (by decide))]; exact h1
  · exact own_blk hblk h4 (by rw [← hr]; exact own_apart h4 hv (by decide))
  · obtain ⟨c, hc, hoc⟩ := h5 j e hj
    refine ⟨c, hc, own_blk hblk hoc (hap j e hj), ?_⟩
    rcases hap j e hj with h | h
    · exact .inl h
    · exact .inr (.inl (by rw [hr]; exact h))
  · rw [hg.block w.heap.size (by simp) (fun e => by have := (hrl _ e.symm).2; omega)]
    exact heap_alloc_new w _
  · exact ((Below.refl B w).alloc hB _).grown hg (by simp; omega) (fun k e => (hrl k e).1)
  · intro k c fr hk hne
    exact hblk k (lt_of_heap hk) hne

theorem kept2_mid {w wr w3 : World} {B Bk q : Nat} {row : Option Nat} {m : Int} {gv bv bv3 : Value} {es : List Value} {n k : Nat} {o : Obj} (K : Kept2 w wr B Bk q row n m gv k bv es) (hk : k < 4) (hm : m = -1 - (q : Int)) (hn : n ≤ 500) (hB : B ≤ wr.heap.size)
    (hg : (wr.alloc o).grownBy w3 bv.ownBlock) (h3 : w3.ownsRow B 22 1 bv3 (es.length + 1) (es ++ [gv])) :
    let w4 := w3.setCell ⟨Bk, 0, none⟩ bv3
    BookAt w4 B Bk bv3 (es ++ [gv]) ∧ w4.ownsRow B 27 2 gv (n + k) (cellsR (marks m (n + k))) ∧ (∀ j e, (es ++ [gv])[j]? = some e → Ent w4 B gv (n + k) (markOf j) e) ∧
    w4.heap[w.heap.size]? = some (.cells #[.int .i64 m, .int .i64 0] 27 (0, 0)) ∧ Below B wr w4 ∧ (∀ r, Stays wr w4 r) := by
  intro w4
  obtain ⟨k1, k2, k3, k4, k5, k6, k7, k8, k9, k10⟩ := K
  have hmk : markOf es.length = m := by rw [k1, hm]; unfold markOf; omega
  have hbk : BookAt wr B Bk bv es := ⟨k3, k4, k5, fun j e hj => by obtain ⟨c, hc, ho, _⟩ := k6 j e hj; exact ⟨c, hc, ho⟩⟩
  obtain ⟨p1, p2, p3⟩ := book_push (n := n + k) hbk (by rw [hmk]; exact k2) (by omega) hB hg h3
  have hgv : w4.ownsRow B 27 2 gv (n + k) (cellsR (marks m (n + k))) := (p2 none).own k2 (none_or gv)
  refine ⟨p1, hgv, fun j e hj => ?_, ?_, p3, p2⟩
  · rcases Nat.lt_or_ge j es.length with hlt | hge
    · rw [List.getElem?_append_left hlt] at hj
      obtain ⟨c, hc, ho, hd⟩ := k6 j e hj
      exact ⟨c, hc, (p2 none).own ho (none_or e), hd⟩
    · rw [List.getElem?_append_right hge] at hj
      have hj0 : j = es.length := by
        have := (List.getElem?_eq_some_iff.1 hj).1; simp at this; omega
      subst hj0
      simp at hj; subst hj
      refine ⟨n + k, by omega, by rw [hmk]; exact hgv, ?_⟩
      rcases own_self hgv with h | ⟨g, cap, h⟩
      · exact .inl h
      · exact .inr (.inr ⟨g, cap, h, h, Nat.le_refl _⟩)
  · rw [p2 none w.heap.size _ _ k7 (by simp)]; exact k7

theorem kept2_step {w wr w4 w5 : World} {B Bk q : Nat} {row : Option Nat} {m : Int} {gv v5 bv bv3 : Value} {es : List Value} {n k : Nat} {o : Obj} (K : Kept2 w wr B Bk q row n m gv k bv es)
    (hrl : ∀ g, row = some g → g < w.heap.size)
    (p1 : BookAt w4 B Bk bv3 (es ++ [gv])) (p2 : w4.ownsRow B 27 2 gv (n + k) (cellsR (marks m (n + k)))) (p3 : ∀ j e, (es ++ [gv])[j]? = some e → Ent w4 B gv (n + k) (markOf j) e)
    (p4 : w4.heap[w.heap.size]? = some (.cells #[.int .i64 m, .int .i64 0] 27 (0, 0))) (p5 : Below B wr w4) (p6 : ∀ r, Stays wr w4 r) (hB : B ≤ w4.heap.size)
    (ho5 : w5.ownsRow B 27 2 v5 (n + k + 1) (cellsR (marks m (n + k)) ++ [.int .i64 m, .int .i64 0])) (hb5 : Below B (w4.alloc o) w5)
    (hent : ∀ e j ys, (w4.alloc o).ownsRow B 27 2 e j ys → (e.ownBlock = none ∨ e.ownBlock ≠ gv.ownBlock ∨ ∃ g cap, e = .slice (some ⟨g, 0, none⟩) j cap ∧ gv = .slice (some ⟨g, 0, none⟩) (n + k) cap ∧ j ≤ n + k) →
        w5.ownsRow B 27 2 e j ys ∧ (e.ownBlock = none ∨ e.ownBlock ≠ v5.ownBlock ∨ ∃ g cap, e = .slice (some ⟨g, 0, none⟩) j cap ∧ v5 = .slice (some ⟨g, 0, none⟩) (n + k + 1) cap ∧ j ≤ n + k + 1))
    (hblk : ∀ j, j < (w4.alloc o).heap.size → some j ≠ gv.ownBlock → w5.heap[j]? = (w4.alloc o).heap[j]?) (hloc : v5.ownBlock = gv.ownBlock ∨ ∀ g, v5.ownBlock = some g → (w4.alloc o).heap.size ≤ g) :
    Kept2 w w5 B Bk q row n m v5 (k + 1) bv3 (es ++ [gv]) := by
  obtain ⟨k1, k2, k3, k4, k5, k6, k7, k8, k9, k10⟩ := K
  obtain ⟨b1, b2, b3, b4⟩ := p1
  have hgl : ∀ g, gv.ownBlock = some g → g ≠ w.heap.size := fun g e => by
    rcases k8 with h | h
    · have := hrl g (h ▸ e); omega
    · have := h g e; omega
  have hblk4 : ∀ j, j < w4.heap.size → some j ≠ gv.ownBlock → w5.heap[j]? = w4.heap[j]? := fun j hj hne => by
    rw [hblk j (by simp; omega) hne, Below.heap_alloc w4 o j hj]
  have hw4 : w.heap.size < w4.heap.size := lt_of_heap p4
  refine ⟨by simp; omega, ?_, ?_, b2, ?_, fun j e hj => ?_, ?_, ?_, ?_, ?_⟩
  · have e1 : cellsR (marks m (n + k)) ++ [.int .i64 m, .int .i64 0] = cellsR (marks m (n + (k + 1))) := by
      rw [show n + (k + 1) = n + k + 1 from by omega]
      unfold marks
      rw [List.replicate_succ', cellsR_append]; rfl
    rw [← e1]; exact ho5
  · rw [hblk4 Bk (lt_of_heap b1) (not_book b1 p2 (by decide))]; exact b1
  · exact own_blk hblk4 b3 (own_apart b3 p2 (by decide))
  · obtain ⟨c, hc, ho, hd⟩ := p3 j e hj
    obtain ⟨h1, h2⟩ := hent e c _ (ho.alloc o) hd
    exact ⟨c, hc, h1, h2⟩
  · rw [hblk4 w.heap.size hw4 (fun e => hgl _ e.symm rfl)]; exact p4
  · rcases hloc with h | h
    · rcases k8 with h8 | h8
      · exact .inl (h.trans h8)
      · exact .inr fun g e => h8 g (h ▸ e)
    · exact .inr fun g e => by have := h g e; simp at this; omega
  · exact (k9.trans p5).trans (((Below.refl B w4).alloc hB o).trans hb5)
  · intro j c fr hj hne
    have h1 := k10 j c fr hj hne
    have h2 := p6 none j c fr (h1.trans hj) (by simp)
    have hjw : j < w.heap.size := lt_of_heap hj
    rw [hblk4 j (by omega) ?_, h2, h1]
    intro e
    rcases k8 with h8 | h8
    · exact hne (e.trans h8)
    · have := h8 j e.symm; omega
end Go.Proofs.Ytaiidpcdeghipaa
