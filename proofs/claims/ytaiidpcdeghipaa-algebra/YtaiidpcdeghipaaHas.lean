/- What ranges.Has does: a walk over the library's ContainsFunc by its contract. -/
import Derived.Test.YtaiidpcdeghipaaOr
namespace Go.Proofs.Ytaiidpcdeghipaa
open Go.Shelf Go.RowKit Go.Lib

set_option maxHeartbeats 400000 in
theorem index_empty (ao : Option Addr) (cap : Nat) (fv : Value) (w : World) : Calls Try.prog 53 #[.slice ao 0 cap, fv] w fun e w' => e = .returned (.int .i64 (-1)) ∧ w' = w := by
  go_enter Try.func53, Try.ntmps53
  go_wp2
  go_loop [8] (fun i => i = .int .i64 0) (fun _ => 0)
  case atStart => rfl
  case round =>
    subst hrel
    go_wp2
    go_ret
    exact ⟨rfl, rfl⟩

set_option maxHeartbeats 400000 in
theorem contains_empty (ao : Option Addr) (cap : Nat) (fv : Value) (w : World) : Calls Try.prog 46 #[.slice ao 0 cap, fv] w fun e w' => e = .returned (.bool false) ∧ w' = w := by
  go_enter Try.func46, Try.ntmps46
  go_wp2_with (go_at_call 53; refine (index_empty _ _ _ _).mono ?_; rintro e w' ⟨rfl, rfl⟩)
  go_ret
  exact ⟨rfl, rfl⟩

theorem pred_any (r : Int) (B : Nat) (w : World) (hB : B < w.heap.size) (hcell : w.cell? ⟨B, 0, none⟩ = some (.int .i64 r)) :
    PredBelow Try.prog 44 #[.pointer (some ⟨B, 0, none⟩)] (fun x => .agg (encR x).toArray) (fun x => Brm.inB x r) w := fun W x hb => by
  have hc : W.cell? ⟨B, 0, none⟩ = some (.int .i64 r) := (hb.cell (p := ⟨B, 0, none⟩) hB).trans hcell
  have hBW : B < W.heap.size := Nat.lt_of_lt_of_le hB hb.size
  have hne : B ≠ W.heap.size := by omega
  show Calls Try.prog 44 #[.agg #[.int .i64 x.1, .int .i64 x.2], .pointer (some ⟨B, 0, none⟩)] W _
  go_enter Try.func44, Try.ntmps44
  go_wp2
  all_goals (go_ret; exact ⟨ret_bool (by rw [Bool.eq_iff_iff, Brm.in_iff]; simp; try omega), hb.alloc hb.size _⟩)

theorem contains_any (ao : Option Addr) (l : List (Int × Int)) (cap : Nat) (r : Int) (B : Nat) (w : World) (h : Rd w ao l) (hlen : l.length ≤ 1000000) (hB : B < w.heap.size) (hcell : w.cell? ⟨B, 0, none⟩ = some (.int .i64 r)) :
    Calls Try.prog 46 #[.slice ao l.length cap, .func (.func 44) #[] #[.pointer (some ⟨B, 0, none⟩)]] w fun e w' => e = .returned (.bool (Brm.memB l r)) ∧ Below w.heap.size w w' := by
  cases hl : l with
  | nil =>
    refine (contains_empty ao cap _ w).mono ?_
    rintro e w' ⟨rfl, rfl⟩
    exact ⟨rfl, Below.refl _ _⟩
  | cons x t =>
    rw [← hl]
    obtain ⟨b, off, rfl, hb, _⟩ := h 0 x (by rw [hl]; rfl)
    have eg : ∀ args w, (callFunc 44 args).run Try.prog w = .ok (.enter 44 args) w := enters_of Try.func44 (by kernel_rfl) rfl
    have hcon := AnyQ.slices_ContainsFunc Try.hasR 2 Try.isAgg27 Try.sizeOf27 encR (fun _ => rfl) (fun x => Brm.inB x r) 44 #[.pointer (some ⟨B, 0, none⟩)] eg b off l.length cap l w
      (pred_any r B w hB hcell) (Nat.le_refl _) (by omega) hb (fun j hj i v hi => by
        have hg : l[j]? = some l[j]! := by rw [List.getElem?_eq_getElem hj, getElem!_pos l j hj]
        obtain ⟨b', off', e, _, h1, h2⟩ := h j _ hg
        simp only [Option.some.injEq, Addr.mk.injEq, and_true] at e
        obtain ⟨rfl, rfl⟩ := e
        generalize l[j]! = y at hi h1 h2
        match i, hi with
        | 0, hi => simp [encR] at hi; rw [← hi]; exact h1
        | 1, hi => simp [encR] at hi; rw [← hi]; exact h2
        | i + 2, hi => simp [encR] at hi)
    change Calls Try.prog 46 _ _ _ at hcon
    rw [List.take_length] at hcon
    exact hcon

set_option maxHeartbeats 400000 in
theorem has_any (ao : Option Addr) (l : List (Int × Int)) (cap : Nat) (r : Int) (w : World) (h : Rd w ao l) (hlen : l.length ≤ 1000000) :
    Calls Try.prog 28 #[.slice ao l.length cap, .int .i64 r] w fun e w' => e = .returned (.bool (Brm.runeB r && Brm.memB l r)) ∧ Below w.heap.size w w' := by
  have hb0 : Below w.heap.size w (w.alloc (.cells #[.int .i64 r] 3)) := (Below.refl _ w).alloc (Nat.le_refl _) _
  have HB0 := hide hb0
  have HC := hide (contains_any ao l cap r w.heap.size _ (h.below hb0) hlen (by simp) (by simp))
  clear h hb0
  by_cases hr : Brm.runeB r = true
  · rw [hr, Bool.true_and]
    generalize Brm.memB l r = m at HC ⊢
    go_enter Try.func28, Try.ntmps28
    go_wp2_with (first | (go_at_call 45; refine (isRune_any _ _).mono ?_; rintro e w' ⟨rfl, rfl⟩) | (go_at_call 46; refine HC.out.mono ?_; rintro e w' ⟨rfl, hb'⟩))
    go_ret
    exact ⟨rfl, HB0.out.trans (hb'.mono HB0.out.size)⟩
  · have hf : Brm.runeB r = false := by simpa using hr
    rw [hf, Bool.false_and]
    clear hr
    go_enter Try.func28, Try.ntmps28
    go_wp2_with (go_at_call 45; refine (isRune_any _ _).mono ?_; rintro e w' ⟨rfl, rfl⟩)
    go_ret
    exact ⟨rfl, HB0.out⟩
end Go.Proofs.Ytaiidpcdeghipaa
