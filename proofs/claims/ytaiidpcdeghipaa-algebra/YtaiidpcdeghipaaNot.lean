/- What ranges.Not does, over what Form does: a walk. -/
import Derived.Test.YtaiidpcdeghipaaRunes
namespace Go.Proofs.Ytaiidpcdeghipaa
open Go.RowKit

/-- A slice in memory of the call's own, of ranges that are as asked. -/
def Hands (w w' : World) (v : Value) (ok : List (Int × Int) → Prop) : Prop := ∃ out, ok out ∧ w'.ownsRow w.heap.size 27 2 v out.length (cellsR out) ∧ Below w.heap.size w w'

/-- What Form hands back: the one form of what came in, in memory of its own. -/
def FormSaid : Prop := ∀ (ao : Option Addr) (l : List (Int × Int)) (cap : Nat) (w : World), Rd w ao l → l.length ≤ 1000000 → (∀ x ∈ l, Brm.okB x = true) →
  Calls Try.prog 14 #[.slice ao l.length cap] w fun e w' => ∃ v, e = .returned v ∧ Hands w w' v fun out => Brm.IsForm l out ∧ out.length ≤ l.length

theorem cellsR_get {l : List (Int × Int)} {i : Nat} {x : Int × Int} (h : l[i]? = some x) : (cellsR l)[i * 2]? = some (.int .i64 x.1) ∧ (cellsR l)[i * 2 + 1]? = some (.int .i64 x.2) := by
  induction l generalizing i with
  | nil => simp at h
  | cons y t ih =>
    have e : cellsR (y :: t) = .int .i64 y.1 :: .int .i64 y.2 :: cellsR t := by simp [cellsR]
    rw [e]
    cases i with
    | zero => simp at h; subst h; simp
    | succ i =>
      simp at h
      have := ih h
      rw [show (i + 1) * 2 = i * 2 + 1 + 1 from by omega]
      simpa using this

theorem own_rd {w : World} {B : Nat} {v : Value} {l : List (Int × Int)} (h : w.ownsRow B 27 2 v l.length (cellsR l)) : ∃ ao cap, v = .slice ao l.length cap ∧ l.length ≤ cap ∧ Rd w ao l := by
  have h' := h
  obtain ⟨h1, h2⟩ := h
  rcases h2 with ⟨rfl, h0⟩ | ⟨g, cap, cur, rfl, hg, hh, hc, _⟩
  · exact ⟨none, 0, by rw [h0], by omega, fun i x hx => by rw [List.length_eq_zero_iff.1 h0] at hx; simp at hx⟩
  · refine ⟨some ⟨g, 0, none⟩, cap, rfl, hc, fun i x hx => ⟨g, 0, rfl, ?_, ?_, ?_⟩⟩
    · exact (h'.lt g rfl).2
    · have hi : i < l.length := (List.getElem?_eq_some_iff.1 hx).1
      rw [Nat.zero_add, h'.cellAt _ (by omega)]; exact (cellsR_get hx).1
    · have hi : i < l.length := (List.getElem?_eq_some_iff.1 hx).1
      rw [Nat.zero_add, h'.cellAt _ (by omega)]; exact (cellsR_get hx).2

theorem own_le {w : World} {B B' : Nat} {v : Value} {n : Nat} {xs : List Value} (h : w.ownsRow B 27 2 v n xs) (hb : B' ≤ B) : w.ownsRow B' 27 2 v n xs := by
  refine ⟨h.1, ?_⟩
  rcases h.2 with h2 | ⟨g, cap, cur, a, b, c⟩
  · exact .inl h2
  · exact .inr ⟨g, cap, cur, a, Nat.le_trans hb b, c⟩

theorem box_keep {w w2 : World} {B : Nat} {v : Value} {n : Nat} {xs : List Value} {x1 x2 : Int} {o : Obj} (h : w.ownsRow B 27 2 v n xs) (hg : ((w.alloc (.cells #[.int .i64 x1, .int .i64 x2] 27)).alloc o).grownBy w2 v.ownBlock) :
    w2.cell? ⟨w.heap.size, 0, none⟩ = some (.int .i64 x1) ∧ w2.cell? ⟨w.heap.size, 1, none⟩ = some (.int .i64 x2) := by
  have hne : ∀ j, some (⟨w.heap.size, j, none⟩ : Addr).block ≠ v.ownBlock := fun j e => by have := (h.lt _ e.symm).2; simp at this
  exact ⟨hg.cell (by simp) (hne 0), hg.cell (by simp) (hne 1)⟩

theorem new_cells0 (w : World) (y1 y2 : Int) : ∀ j u, [Value.int .i64 y1, Value.int .i64 y2][j]? = some u → (w.alloc (.cells #[.int .i64 y1, .int .i64 y2] 27)).cell? ((⟨w.heap.size, 0, none⟩ : Addr).add j) = some u := by
  intro j u hj
  match j, hj with
  | 0, hj => simp at hj; subst hj; simp [Addr.add]
  | 1, hj => simp at hj; subst hj; simp [Addr.add]

theorem drop_cons {l : List (Int × Int)} {k : Nat} {x : Int × Int} (h : l[k]? = some x) : l.drop k = x :: l.drop (k + 1) := by
  obtain ⟨hk, e⟩ := List.getElem?_eq_some_iff.1 h
  rw [← e]; exact List.drop_eq_getElem_cons hk

theorem cell_old {w : World} {b : Nat} (o : Obj) (c : Nat) (h : b < w.heap.size) : (w.alloc o).cell? ⟨b, c, none⟩ = w.cell? ⟨b, c, none⟩ :=
  World.cell?_of_block (w := w) (a := ⟨b, c, none⟩) (Below.heap_alloc w o b h)
theorem frozen_old {w : World} {b : Nat} (o : Obj) (c : Nat) (h : b < w.heap.size) : (w.alloc o).frozen? ⟨b, c, none⟩ = w.frozen? ⟨b, c, none⟩ :=
  World.frozen?_of_block (w := w) (a := ⟨b, c, none⟩) (Below.heap_alloc w o b h)
theorem below_drawn {B n : Nat} {w w' : World} (h : Below B w w') : Below B w (w'.drewN n) := ⟨h.os, h.tape, h.output, h.size, h.block⟩

set_option maxHeartbeats 400000 in
theorem not_any (hF : FormSaid) (ao : Option Addr) (l : List (Int × Int)) (cap : Nat) (w : World) (hcells : Rd w ao l) (hlen : l.length ≤ 1000000) (hok : ∀ x ∈ l, Brm.okB x = true) :
    Calls Try.prog 27 #[.slice ao l.length cap] w fun e w' => ∃ v, e = .returned v ∧ Hands w w' v fun out => Brm.Canon out ∧ (∀ r, Brm.runeB r = true → Brm.memB out r = !Brm.memB l r) ∧ out.length ≤ l.length + 1 := by
  obtain ⟨i0, hi, hz0, hz1, hz2⟩ := info_parts Try.info27
  have HF := hide (hF ao l cap w hcells hlen hok)
  clear hF hcells hok
  go_enter Try.func27, Try.ntmps27
  go_wp2_with (go_at_call 14; refine HF.out.mono ?_; rintro e w1 ⟨v, rfl, L, ⟨hform, hLl⟩, hown1, hbel1⟩; obtain ⟨ao1, cap1, rfl, hcap1, hrd1⟩ := own_rd hown1; have HC := hide hrd1; clear hrd1; have HF1 := hide hform; clear hform hown1)
  have hn0 := hide (Brm.ninv_start HF1.out.1)
  go_loopw [3, 4, 10] (fun v nx i wr => ∃ (k : Nat) (out : List (Int × Int)) (next : Int), k ≤ L.length ∧ i = .int .i64 k ∧ nx = .int .i64 next ∧ Brm.NInv L (L.drop k) out next ∧ out.length ≤ k ∧ wr.ownsRow w1.heap.size 27 2 v out.length (cellsR out) ∧ Below w1.heap.size w1 wr) (fun _ _ i _ => L.length - (intOf i).toNat)
  case atStart => exact ⟨0, [], 0, Nat.zero_le _, rfl, rfl, hn0.out, Nat.zero_le _, World.ownsRow_nil _ _ _ _, Below.refl _ _⟩
  case round =>
    obtain ⟨k, out, next, hk, rfl, rfl, hinv, hol, hown, hbel⟩ := hrel
    have hsz := hbel.size
    have HI := hide hinv; clear hinv
    by_cases hlt : k < L.length
    · obtain ⟨b, off, rfl, hb, h1, h2⟩ := HC.out k L[k] (List.getElem?_eq_getElem hlt)
      generalize hx : L[k] = x at h1 h2
      have HX : Hid (L[k]? = some x) := by rw [List.getElem?_eq_getElem hlt, hx]; rfl
      clear hx
      obtain ⟨x1, x2⟩ := x
      simp only at h1 h2
      rw [← hbel.cell (p := ⟨b, _, none⟩) hb] at h1 h2
      have HI2 := hide (drop_cons HX.out ▸ HI.out)
      have hg := (Brm.canon_head HI2.out.2.1).1
      have hx1 := (Brm.rune_iff _).1 hg.1
      have hx2 := (Brm.rune_iff _).1 hg.2.1
      simp only at hx1 hx2
      have b1 : 0 ≤ x1 := by omega
      have b2 : x1 ≤ 1114111 := by omega
      have b3 : 0 ≤ x2 := by omega
      have b4 : x2 ≤ 1114111 := by omega
      clear hg hx1 hx2
      have HN := hide (Brm.ninv_step HI2.out)
      by_cases hle : next < x1
      · have HP : Hid (Brm.putN out next x1 = out ++ [(next, Brm.before x1)]) := by show Brm.putN out next x1 = _; unfold Brm.putN; rw [if_pos hle]
        go_wp2_with (first
          | (at_builtin; refine wpList_append_own _ rfl _ _ 22 rfl w1.heap.size 27 i0 (.agg #[.int .i64 0, .int .i64 0]) 2 16 Try.underlying22 hi hz0 hz1 hz2 rfl (by decide) _ _ _ rfl ((hown.alloc _).alloc _) ⟨wr.heap.size + 1, 0, none⟩ 1 1 [.int .i64 next, .int .i64 (Brm.before x1)] rfl rfl (new_cells _ _ _ _) (new_one _ _) (by unfold maxLen; omega) (by omega) (by simp; omega) ?_; intro v' w2 hown' hgrow _; obtain ⟨_, hbx⟩ := box_keep hown hgrow)
          | (go_at_call 43; refine (before_any _ _ (by omega) (by omega)).mono ?_; rintro e w' ⟨rfl, rfl⟩)
          | (go_at_call 33; refine (after_any _ _ (by omega) (by omega)).mono ?_; rintro e w' ⟨rfl, rfl⟩))
        have R1 := own_snoc (y := (next, Brm.before x1)) hown' HP.out
        have R2 := Below.keep ((hbel.alloc (by omega) _).alloc (by simp; omega) _) (by simp; omega) ((hown.alloc _).alloc _) hgrow
        go_roundw
        case rel => exact ⟨k + 1, Brm.putN out next x1, Brm.after x2, by omega, by go_num, rfl, HN.out, by rw [HP.out]; simp; omega, R1, R2⟩
        case measure => simp [intOf]; omega
      · have HP : Hid (Brm.putN out next x1 = out) := by show Brm.putN out next x1 = _; unfold Brm.putN; rw [if_neg hle]; simp
        go_wp2_with (go_at_call 33; refine (after_any _ _ (by omega) (by omega)).mono ?_; rintro e w' ⟨rfl, rfl⟩)
        go_roundw
        case rel => exact ⟨k + 1, out, Brm.after x2, by omega, by go_num, rfl, by have := HN.out; rw [HP.out] at this; exact this, by omega, hown.alloc _, hbel.alloc (by omega) _⟩
        case measure => simp [intOf]; omega
    · have hinv2 : Brm.NInv L [] out next := by have := HI.out; rwa [List.drop_of_length_le (by omega)] at this
      have HE := hide (Brm.ninv_end hinv2); clear hinv2
      by_cases hle : next ≤ 1114111
      · go_wp2_with (at_builtin; refine wpList_append_own _ rfl _ _ 22 rfl w1.heap.size 27 i0 (.agg #[.int .i64 0, .int .i64 0]) 2 16 Try.underlying22 hi hz0 hz1 hz2 rfl (by decide) _ _ _ rfl (hown.alloc _) ⟨wr.heap.size, 0, none⟩ 1 1 [.int .i64 next, .int .i64 1114111] rfl rfl (new_cells0 _ _ _) (new_one _ _) (by unfold maxLen; omega) (by omega) (by simp; omega) ?_; intro v' w2 hown' hgrow _)
        have HP : Brm.endN out next = out ++ [(next, 1114111)] := by unfold Brm.endN; rw [if_pos hle]
        have R1 := own_snoc (y := (next, 1114111)) hown' HP
        have R2 := Below.keep (hbel.alloc (by omega) _) (by simp; omega) (hown.alloc _) hgrow
        have hE := HE.out
        have hF := HF1.out
        go_ret
        exact ⟨_, rfl, Brm.endN out next, ⟨hE.1, fun r hr => by rw [hE.2 r hr, hF.2 r hr], by rw [HP]; simp; omega⟩, own_le R1 hbel1.size, hbel1.trans (R2.mono hbel1.size)⟩
      · have HP : Hid (Brm.endN out next = out) := by show Brm.endN out next = out; unfold Brm.endN; rw [if_neg hle]; simp
        go_wp2
        have hE := HE.out
        rw [HP.out] at hE
        have hF := HF1.out
        go_ret
        exact ⟨_, rfl, out, ⟨hE.1, fun r hr => by rw [hE.2 r hr, hF.2 r hr], by omega⟩, own_le hown hbel1.size, hbel1.trans (hbel.mono hbel1.size)⟩
end Go.Proofs.Ytaiidpcdeghipaa
