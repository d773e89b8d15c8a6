/- What runesOnly does to the world: a walk, and the words for rows that a call owns. -/
import Derived.Test.YtaiidpcdeghipaaSmall
namespace Go.Proofs.Ytaiidpcdeghipaa
open Go.RowKit
def cellsR (l : List (Int × Int)) : List Value := l.flatMap fun x => [.int .i64 x.1, .int .i64 x.2]
theorem cellsR_append (a b : List (Int × Int)) : cellsR (a ++ b) = cellsR a ++ cellsR b := by simp [cellsR]
theorem cellsR_length (a : List (Int × Int)) : (cellsR a).length = a.length * 2 := by
  induction a with
  | nil => rfl
  | cons x t ih => simp only [cellsR, List.flatMap_cons, List.length_append, List.length_cons, List.length_nil] at *; omega
theorem Try.info27 : (Try.prog.info? 27).map (fun i => (i.zero, i.size, i.bytes)) = some (some (.agg #[.int .i64 0, .int .i64 0]), 2, 16) := by kernel_rfl

theorem Below.keep {B : Nat} {w W w1 : World} {v : Value} {n : Nat} {xs : List Value} (hb : Below B w W) (hB : B ≤ W.heap.size) (ho : W.ownsRow B 27 2 v n xs) (hg : W.grownBy w1 v.ownBlock) : Below B w w1 :=
  hb.grown hg hB fun k e => (ho.lt k e).1
theorem own_box {B : Nat} {w : World} {v : Value} {n : Nat} {xs : List Value} (h : w.ownsRow B 27 2 v n xs) (o : Obj) (j : Nat) (u : Value) : ((w.alloc o).setCell ⟨w.heap.size, j, none⟩ u).ownsRow B 27 2 v n xs :=
  ownsRow_setCell_other (h.alloc o) (fun e => by have := (h.lt _ e).2; simp at this) u
theorem runes_take {l : List (Int × Int)} {k : Nat} {x : Int × Int} (hx : l[k]? = some x) : Brm.runes (l.take (k + 1)) = Brm.runes (l.take k) ++ if Brm.riseB (Brm.clip x) = true then [Brm.clip x] else [] := by
  rw [List.take_add_one, hx]; exact Brm.runes_snoc _ _
theorem runes_drop {l : List (Int × Int)} {k : Nat} {x : Int × Int} (hx : l[k]? = some x) (h : ¬ (Brm.clip x).1 ≤ (Brm.clip x).2) : Brm.runes (l.take (k + 1)) = Brm.runes (l.take k) := by
  rw [runes_take hx, if_neg (by rw [Brm.rise_iff]; exact h)]; simp
theorem runes_keep {l : List (Int × Int)} {k : Nat} {x y : Int × Int} (hx : l[k]? = some x) (hy : Brm.clip x = y) (h : y.1 ≤ y.2) : Brm.runes (l.take (k + 1)) = Brm.runes (l.take k) ++ [y] := by
  rw [runes_take hx, hy, if_pos (by rw [Brm.rise_iff]; exact h)]
theorem own_snoc {w : World} {B : Nat} {v : Value} {a c : List (Int × Int)} {y : Int × Int} (h : w.ownsRow B 27 2 v (a.length + 1) (cellsR a ++ [.int .i64 y.1, .int .i64 y.2])) (e : c = a ++ [y]) : w.ownsRow B 27 2 v c.length (cellsR c) := by
  subst e
  rw [cellsR_append, List.length_append]
  exact h
theorem new_cells (w : World) (o : Obj) (y1 y2 : Int) : ∀ j u, [Value.int .i64 y1, Value.int .i64 y2][j]? = some u → ((w.alloc o).alloc (.cells #[.int .i64 y1, .int .i64 y2] 27)).cell? ((⟨w.heap.size + 1, 0, none⟩ : Addr).add j) = some u := by
  intro j u hj
  match j, hj with
  | 0, hj => simp at hj; subst hj; simp [Addr.add]
  | 1, hj => simp at hj; subst hj; simp [Addr.add]
theorem new_one (y1 y2 : Int) : ∀ u ∈ [Value.int .i64 y1, Value.int .i64 y2], u.oneCell' = true := by
  intro u hu; simp at hu; rcases hu with rfl | rfl <;> rfl
theorem own_same {w : World} {B : Nat} {v : Value} {a c : List (Int × Int)} (h : w.ownsRow B 27 2 v a.length (cellsR a)) (e : c = a) : w.ownsRow B 27 2 v c.length (cellsR c) := by
  subst e; exact h

set_option maxHeartbeats 400000 in
theorem runesOnly_any (ao : Option Addr) (l : List (Int × Int)) (cap : Nat) (w : World) (hcells : Rd w ao l) (hlen : l.length ≤ 1000000) :
    Calls Try.prog 29 #[.slice ao l.length cap] w fun e w' => ∃ v, e = .returned v ∧ w'.ownsRow w.heap.size 27 2 v (Brm.runes l).length (cellsR (Brm.runes l)) ∧ Below w.heap.size w w' := by
  have HC := hide hcells; clear hcells
  obtain ⟨i0, hi, hz0, hz1, hz2⟩ := info_parts Try.info27
  go_enter Try.func29, Try.ntmps29
  go_wp2
  go_loopw [3, 8] (fun v i wr => ∃ k : Nat, k ≤ l.length ∧ i = .int .i64 k ∧ wr.ownsRow w.heap.size 27 2 v (Brm.runes (l.take k)).length (cellsR (Brm.runes (l.take k))) ∧ Below w.heap.size w wr) (fun _ i _ => l.length - (intOf i).toNat)
  case atStart => exact ⟨0, Nat.zero_le _, rfl, World.ownsRow_nil _ _ _ _, Below.refl _ _⟩
  case round =>
    obtain ⟨k, hk, rfl, hown, hbel⟩ := hrel
    have hsz := hbel.size
    by_cases hlt : k < l.length
    · obtain ⟨b, off, rfl, hb, h1, h2⟩ := unhide HC k l[k] (List.getElem?_eq_getElem hlt)
      generalize hx : l[k] = x at h1 h2
      have HX : Hid (l[k]? = some x) := by rw [List.getElem?_eq_getElem hlt, hx]; rfl
      clear hx
      obtain ⟨x1, x2⟩ := x
      simp only at h1 h2
      rw [← hbel.cell (p := ⟨b, _, none⟩) hb] at h1 h2
      have hkl : (Brm.runes (l.take k)).length ≤ 1000000 := by have := Brm.runes_length (l.take k); simp at this; omega
      by_cases r1 : Brm.runeB x1 = true
      · by_cases r2 : Brm.runeB x2 = true
        · have HY : Hid (Brm.clip (x1, x2) = (x1, x2)) := by show Brm.clip (x1, x2) = (x1, x2); simp [Brm.clip, r1, r2]
          by_cases hle : (x1 : Int) ≤ x2
          · go_wp2_with (first
              | (at_builtin; refine wpList_append_own _ rfl _ _ 22 rfl w.heap.size 27 i0 (.agg #[.int .i64 0, .int .i64 0]) 2 16 Try.underlying22 hi hz0 hz1 hz2 rfl (by decide) _ _ _ rfl ((hown.alloc _).alloc _) ⟨wr.heap.size + 1, 0, none⟩ 1 1 [.int .i64 x1, .int .i64 x2] rfl rfl (new_cells _ _ _ _) (new_one _ _) (by unfold maxLen; omega) (by omega) (by simp; omega) ?_; intro v' w1 hown' hgrow _)
              | (go_at_call 45; refine (isRune_any _ _).mono ?_; rintro e w' ⟨rfl, rfl⟩))
            have R1 := own_snoc (y := (x1, x2)) hown' (runes_keep HX.out HY.out (by simpa using hle))
            have R2 := Below.keep ((hbel.alloc (by omega) _).alloc (by simp; omega) _) (by simp; omega) ((hown.alloc _).alloc _) hgrow
            clear hown' hgrow hown hbel
            go_wp2
            go_roundw
            case rel => exact ⟨k + 1, by omega, by go_num, R1, R2⟩
            case measure => simp [intOf]; omega
          · go_wp2_with (go_at_call 45; refine (isRune_any _ _).mono ?_; rintro e w' ⟨rfl, rfl⟩)
            go_roundw
            case rel => exact ⟨k + 1, by omega, by go_num, own_same (hown.alloc _) (runes_drop HX.out (by rw [HY.out]; simp only; omega)), hbel.alloc (by omega) _⟩
            case measure => simp [intOf]; omega
        · have HY : Hid (Brm.clip (x1, x2) = (x1, 55295)) := by show Brm.clip (x1, x2) = (x1, 55295); simp [Brm.clip, r1, r2]
          by_cases hle : (x1 : Int) ≤ 55295
          · go_wp2_with (first
              | (at_builtin; refine wpList_append_own _ rfl _ _ 22 rfl w.heap.size 27 i0 (.agg #[.int .i64 0, .int .i64 0]) 2 16 Try.underlying22 hi hz0 hz1 hz2 rfl (by decide) _ _ _ rfl ((hown.alloc _).alloc _) ⟨wr.heap.size + 1, 0, none⟩ 1 1 [.int .i64 x1, .int .i64 55295] rfl rfl (new_cells _ _ _ _) (new_one _ _) (by unfold maxLen; omega) (by omega) (by simp; omega) ?_; intro v' w1 hown' hgrow _)
              | (go_at_call 45; refine (isRune_any _ _).mono ?_; rintro e w' ⟨rfl, rfl⟩))
            have R1 := own_snoc (y := (x1, 55295)) hown' (runes_keep HX.out HY.out (by simpa using hle))
            have R2 := Below.keep ((hbel.alloc (by omega) _).alloc (by simp; omega) _) (by simp; omega) ((hown.alloc _).alloc _) hgrow
            clear hown' hgrow hown hbel
            go_wp2
            go_roundw
            case rel => exact ⟨k + 1, by omega, by go_num, R1, R2⟩
            case measure => simp [intOf]; omega
          · go_wp2_with (go_at_call 45; refine (isRune_any _ _).mono ?_; rintro e w' ⟨rfl, rfl⟩)
            go_roundw
            case rel => exact ⟨k + 1, by omega, by go_num, own_same (hown.alloc _) (runes_drop HX.out (by rw [HY.out]; simp only; omega)), hbel.alloc (by omega) _⟩
            case measure => simp [intOf]; omega
      · by_cases r2 : Brm.runeB x2 = true
        · have HY : Hid (Brm.clip (x1, x2) = (57344, x2)) := by show Brm.clip (x1, x2) = (57344, x2); simp [Brm.clip, r1, r2]
          by_cases hle : (57344 : Int) ≤ x2
          · go_wp2_with (first
              | (at_builtin; refine wpList_append_own _ rfl _ _ 22 rfl w.heap.size 27 i0 (.agg #[.int .i64 0, .int .i64 0]) 2 16 Try.underlying22 hi hz0 hz1 hz2 rfl (by decide) _ _ _ rfl ((hown.alloc _).alloc _) ⟨wr.heap.size + 1, 0, none⟩ 1 1 [.int .i64 57344, .int .i64 x2] rfl rfl (new_cells _ _ _ _) (new_one _ _) (by unfold maxLen; omega) (by omega) (by simp; omega) ?_; intro v' w1 hown' hgrow _)
              | (go_at_call 45; refine (isRune_any _ _).mono ?_; rintro e w' ⟨rfl, rfl⟩))
            have R1 := own_snoc (y := (57344, x2)) hown' (runes_keep HX.out HY.out (by simpa using hle))
            have R2 := Below.keep ((hbel.alloc (by omega) _).alloc (by simp; omega) _) (by simp; omega) ((hown.alloc _).alloc _) hgrow
            clear hown' hgrow hown hbel
            go_wp2
            go_roundw
            case rel => exact ⟨k + 1, by omega, by go_num, R1, R2⟩
            case measure => simp [intOf]; omega
          · go_wp2_with (go_at_call 45; refine (isRune_any _ _).mono ?_; rintro e w' ⟨rfl, rfl⟩)
            go_roundw
            case rel => exact ⟨k + 1, by omega, by go_num, own_same (hown.alloc _) (runes_drop HX.out (by rw [HY.out]; simp only; omega)), hbel.alloc (by omega) _⟩
            case measure => simp [intOf]; omega
        · have HY : Hid (Brm.clip (x1, x2) = (57344, 55295)) := by show Brm.clip (x1, x2) = (57344, 55295); simp [Brm.clip, r1, r2]
          go_wp2_with (go_at_call 45; refine (isRune_any _ _).mono ?_; rintro e w' ⟨rfl, rfl⟩)
          go_roundw
          case rel => exact ⟨k + 1, by omega, by go_num, own_same (hown.alloc _) (runes_drop HX.out (by rw [HY.out]; simp only; omega)), hbel.alloc (by omega) _⟩
          case measure => simp [intOf]; omega
    · go_wp2
      go_ret
      exact ⟨_, rfl, own_same hown (by rw [List.take_of_length_le (by omega)]), hbel⟩
end Go.Proofs.Ytaiidpcdeghipaa
