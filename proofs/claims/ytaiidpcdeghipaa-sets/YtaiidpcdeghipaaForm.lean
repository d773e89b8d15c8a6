/- What ranges.Form does: a walk over the library's sort by its contract. -/
import Derived.Test.YtaiidpcdeghipaaSort
namespace Go.Proofs.Ytaiidpcdeghipaa
open Go.RowKit

def FInv (S out : List (Int × Int)) (k : Nat) : Prop :=
  Brm.Canon out ∧ (∀ r, Brm.runeB r = true → Brm.memB out r = Brm.memB (S.take k) r) ∧ (∀ x ∈ out, ∀ y ∈ S.drop k, x.1 ≤ y.1) ∧ out.length ≤ k


theorem finv_new {S out : List (Int × Int)} {k : Nat} {x : Int × Int} (h : FInv S out k) (hx : S[k]? = some x) (hs : S.Pairwise fun x y => x.1 ≤ y.1) (g : Brm.Good x)
    (hn : out = [] ∨ ∃ p last, out = p ++ [last] ∧ Brm.after last.2 < x.1) : FInv S (out ++ [x]) (k + 1) := by
  obtain ⟨h1, h2, h3, h4⟩ := h
  have hf := Brm.form_new h1 h2 g hn
  have ht : S.take (k + 1) = S.take k ++ [x] := by rw [List.take_add_one, hx]; rfl
  refine ⟨hf.1, fun r hr => by rw [hf.2 r hr, ht], fun z hz y hy => ?_, by simp; omega⟩
  have hd := drop_cons hx
  rcases List.mem_append.1 hz with hz | hz
  · exact h3 z hz y (by rw [hd]; exact List.mem_cons_of_mem _ hy)
  · simp at hz; subst hz
    have := (List.pairwise_append.1 ((List.take_append_drop k S).symm ▸ hs)).2.1
    rw [hd] at this
    exact (List.pairwise_cons.1 this).1 y hy

theorem finv_join {S p : List (Int × Int)} {k : Nat} {x last : Int × Int} (h : FInv S (p ++ [last]) k) (hx : S[k]? = some x) (g : Brm.Good x) (hj : x.1 ≤ Brm.after last.2) : FInv S (p ++ [(last.1, max last.2 x.2)]) (k + 1) := by
  obtain ⟨h1, h2, h3, h4⟩ := h
  have hd := drop_cons hx
  have hl : last.1 ≤ x.1 := h3 last (by simp) x (by rw [hd]; simp)
  have hf := Brm.form_join h1 h2 g hl hj
  have ht : S.take (k + 1) = S.take k ++ [x] := by rw [List.take_add_one, hx]; rfl
  refine ⟨hf.1, fun r hr => by rw [hf.2 r hr, ht], fun z hz y hy => ?_, by simp at h4 ⊢; omega⟩
  rcases List.mem_append.1 hz with hz | hz
  · exact h3 z (by simp [hz]) y (by rw [hd]; exact List.mem_cons_of_mem _ hy)
  · simp at hz; subst hz
    exact h3 last (by simp) y (by rw [hd]; exact List.mem_cons_of_mem _ hy)

theorem finv_end {l S out : List (Int × Int)} {k : Nat} (h : FInv S out k) (hk : S.length ≤ k) (hp : S.Perm (Brm.runes l)) (hok : ∀ x ∈ l, Brm.okB x = true) : Brm.IsForm l out :=
  ⟨h.1, fun r hr => by rw [h.2.1 r hr, List.take_of_length_le hk, Brm.perm_mem hp, Brm.runes_mem l r hok hr]⟩

theorem cells_last (p : List (Int × Int)) (x1 x2 y : Int) : (cellsR (p ++ [(x1, x2)])).set (p.length * 2 + 1) (.int .i64 y) = cellsR (p ++ [(x1, y)]) := by
  rw [cellsR_append, cellsR_append, List.set_append_right _ _ (by rw [cellsR_length]; omega), cellsR_length]
  simp [cellsR]

theorem own_form {w : World} {B n : Nat} {v : Value} {xs : List Value} (h : w.ownsRow B 27 2 v (n + 1) xs) : ∃ g cap, v = .slice (some ⟨g, 0, none⟩) (n + 1) cap ∧ B ≤ g ∧ g < w.heap.size := by
  have h' := h
  rcases h.2 with ⟨_, h0⟩ | ⟨g, cap, cur, rfl, _⟩
  · omega
  · exact ⟨g, cap, rfl, h'.lt g rfl⟩
theorem own_join {w : World} {B g cap q : Nat} {p : List (Int × Int)} {l1 l2 y : Int} {o : Obj} (h : w.ownsRow B 27 2 (.slice (some ⟨g, 0, none⟩) (p.length + 1) cap) (p.length + 1) (cellsR (p ++ [(l1, l2)]))) :
    (((w.alloc o).drewN q).setCell ⟨g, p.length * 2 + 1, none⟩ (.int .i64 y)).ownsRow B 27 2 (.slice (some ⟨g, 0, none⟩) (p.length + 1) cap) (p ++ [(l1, y)]).length (cellsR (p ++ [(l1, y)])) := by
  have h2 : ((w.alloc o).drewN q).ownsRow B 27 2 (.slice (some ⟨g, 0, none⟩) (p.length + 1) cap) (p.length + 1) (cellsR (p ++ [(l1, l2)])) := h.alloc o
  have h3 := (h2.stored (p.length * 2 + 1) (.int .i64 y)).1
  rw [cells_last] at h3
  simpa using h3

set_option maxHeartbeats 400000 in
theorem form_any : FormSaid := by
  intro ao l cap w hcells hlen hok
  obtain ⟨i0, hi, hz0, hz1, hz2⟩ := info_parts Try.info27
  have HR := hide (runesOnly_any ao l cap w hcells hlen)
  have hrl := Brm.runes_length l
  have HG := hide (Brm.runes_good l)
  have HOK := hide hok
  clear hcells hok
  go_enter Try.func14, Try.ntmps14
  go_wp2_with fail
  refine HR.out.mono ?_
  rintro e w1 ⟨v1, rfl, hown1, hbel1⟩
  go_wp2_with fail
  refine (sort_any _ v1 _ w1 hown1 (by omega)).mono ?_
  rintro e w2 ⟨rfl, S, hperm, hsort, hown2, hbel2⟩
  obtain ⟨ao1, cap1, rfl, hcap1, hrd1⟩ := own_rd hown2
  have HC := hide hrd1
  have HP := hide hperm
  have HS := hide hsort
  have hSl : S.length ≤ l.length := by rw [hperm.length_eq]; exact hrl
  clear hrd1 hperm hsort hown2 hown1 hrl
  go_wp2
  go_loopw [4, 14] (fun v i wr => ∃ (k : Nat) (out : List (Int × Int)), k ≤ S.length ∧ i = .int .i64 k ∧ FInv S out k ∧ wr.ownsRow w2.heap.size 27 2 v out.length (cellsR out) ∧ Below w2.heap.size w2 wr) (fun _ i _ => S.length - (intOf i).toNat)
  case atStart => exact ⟨0, [], Nat.zero_le _, rfl, ⟨Brm.canon_nil, fun _ _ => rfl, by simp, by simp⟩, World.ownsRow_nil _ _ _ _, Below.refl _ _⟩
  case round =>
    obtain ⟨k, out, hk, rfl, hinv, hown, hbel⟩ := hrel
    have hsz := hbel.size
    have hol := hinv.2.2.2
    have HI := hide hinv; clear hinv
    by_cases hlt : k < S.length
    · obtain ⟨b, off, rfl, hb, h1, h2⟩ := HC.out k S[k] (List.getElem?_eq_getElem hlt)
      generalize hx : S[k] = x at h1 h2
      have HX : Hid (S[k]? = some x) := by rw [List.getElem?_eq_getElem hlt, hx]; rfl
      clear hx
      have HGX := hide (HG.out x (HP.out.mem_iff.1 (List.mem_of_getElem? HX.out)))
      obtain ⟨x1, x2⟩ := x
      simp only at h1 h2
      rw [← hbel.cell (p := ⟨b, _, none⟩) hb] at h1 h2
      rcases List.eq_nil_or_concat out with rfl | ⟨p, last, rfl⟩
      · obtain ⟨aov, capv, rfl, _, _⟩ := own_rd hown
        go_wp2_with fail
        have hg : decide ((-1 : Int) ≥ 0) = false := rfl
        go_quiet (fail)
        go_wp2_with (at_builtin; refine wpList_append_own _ rfl _ _ 22 rfl w2.heap.size 27 i0 (.agg #[.int .i64 0, .int .i64 0]) 2 16 Try.underlying22 hi hz0 hz1 hz2 rfl (by decide) _ _ _ rfl ((hown.alloc _).alloc _) ⟨wr.heap.size + 1, 0, none⟩ 1 1 [.int .i64 x1, .int .i64 x2] rfl rfl (new_cells _ _ _ _) (new_one _ _) (by unfold maxLen; omega) (by omega) (by simp; omega) ?_; intro v' w3 hown' hgrow _)
        have R1 := own_snoc (c := [] ++ [(x1, x2)]) (y := (x1, x2)) hown' rfl
        have R2 := Below.keep (below_drawn ((hbel.alloc (by omega) _).alloc (by simp; omega) _)) (by simp; omega) ((hown.alloc _).alloc _) hgrow
        go_roundw
        case rel => exact ⟨k + 1, [] ++ [(x1, x2)], by omega, by go_num, finv_new HI.out HX.out HS.out HGX.out (.inl rfl), R1, R2⟩
        case measure => simp [intOf]; omega
      · obtain ⟨last1, last2⟩ := last
        have hpl : p.length + 1 ≤ k := by simpa using hol
        simp only [List.concat_eq_append, List.length_append, List.length_cons, List.length_nil, Nat.zero_add] at *
        obtain ⟨g, capv, rfl, hg1, hg2⟩ := own_form hown
        have hcl : wr.cell? ⟨g, p.length * 2 + 1, none⟩ = some (.int .i64 last2) := by
          rw [hown.cellAt _ (by omega)]; exact (cellsR_get (x := (last1, last2)) (by simp)).2
        have hfz : wr.frozen? ⟨g, p.length * 2 + 1, none⟩ = false := hown.frozenAt _
        have e1 : ∀ o c, (wr.alloc o).cell? ⟨g, c, none⟩ = wr.cell? ⟨g, c, none⟩ := fun o c => cell_old o c hg2
        have e2 : ∀ o c, (wr.alloc o).frozen? ⟨g, c, none⟩ = wr.frozen? ⟨g, c, none⟩ := fun o c => frozen_old o c hg2
        have HGL := hide (HI.out.1.1 (last1, last2) (by simp))
        have hr2 := (Brm.rune_iff _).1 HGL.out.2.1
        simp only at hr2
        have q1 : 0 ≤ last2 := by omega
        have q2 : last2 ≤ 1114111 := by omega
        clear hr2
        by_cases hj : x1 ≤ Brm.after last2
        · go_wp2_with fail
          go_quiet ((go_at_call 33; exact Calls.quiet_of_same (after_any _ _ (by omega) (by omega))))
          go_wp2_with fail
          go_region
          go_wp2
          go_roundw
          case rel => exact ⟨k + 1, p ++ [(last1, max last2 x2)], by omega, by go_num, finv_join HI.out HX.out HGX.out hj, own_join hown, (below_drawn (hbel.alloc (by omega) _)).setCell hg1 _⟩
          case measure => simp [intOf]; omega
        · have HJ := hide hj
          go_wp2_with fail
          go_quiet ((go_at_call 33; exact Calls.quiet_of_same (after_any _ _ (by omega) (by omega))))
          go_wp2_with (at_builtin; refine wpList_append_own _ rfl _ _ 22 rfl w2.heap.size 27 i0 (.agg #[.int .i64 0, .int .i64 0]) 2 16 Try.underlying22 hi hz0 hz1 hz2 rfl (by decide) _ _ _ rfl ((hown.alloc _).alloc _) ⟨wr.heap.size + 1, 0, none⟩ 1 1 [.int .i64 x1, .int .i64 x2] rfl rfl (new_cells _ _ _ _) (new_one _ _) (by unfold maxLen; omega) (by omega) (by simp; omega) ?_; intro v' w3 hown' hgrow _)
          have R1 := own_snoc (c := (p ++ [(last1, last2)]) ++ [(x1, x2)]) (a := p ++ [(last1, last2)]) (y := (x1, x2)) (by simpa using hown') rfl
          have R2 := Below.keep (below_drawn ((hbel.alloc (by omega) _).alloc (by simp; omega) _)) (by simp; omega) ((hown.alloc _).alloc _) hgrow
          go_roundw
          case rel => exact ⟨k + 1, (p ++ [(last1, last2)]) ++ [(x1, x2)], by omega, by go_num, finv_new HI.out HX.out HS.out HGX.out (.inr ⟨p, (last1, last2), rfl, by have := HJ.out; simp only; omega⟩), R1, R2⟩
          case measure => simp [intOf]; omega
    · obtain ⟨aov, capv, rfl, _, _⟩ := own_rd hown
      go_wp2
      go_ret
      exact ⟨_, rfl, out, ⟨finv_end HI.out (by omega) HP.out HOK.out, by omega⟩, own_le hown (Nat.le_trans hbel1.size hbel2.size), (hbel1.trans hbel2).trans (hbel.mono (Nat.le_trans hbel1.size hbel2.size))⟩
end Go.Proofs.Ytaiidpcdeghipaa
