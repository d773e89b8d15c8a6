/- The law's own look at a form: risen answers true of ranges in their one form: a walk. -/
import Derived.Test.YtaiidpcdeghipaaSmall
import Derived.Test.YtaiidpcdeghipaaNot
import Derived.BigRegion
import Derived.BigQuiet
import Derived.Deep.QuietTactic
namespace Go.Proofs.Ytaiidpcdeghipaa
open Go.RowKit

theorem gap_any (B : Nat) (r : Int) (W : World) (hB : B < W.heap.size) (c0 : W.cell? ⟨B, 0, none⟩ = some (.int .i64 55296)) (c1 : W.cell? ⟨B, 1, none⟩ = some (.int .i64 57343)) (hr : Brm.runeB r = true) :
    Calls Try.prog 10 #[.slice (some ⟨B, 0, none⟩) 1 1, .int .i64 r] W fun e w' => e = .returned (.bool false) ∧ w' = W := by
  have hrd : Rd W (some ⟨B, 0, none⟩) [(55296, 57343)] := by
    intro i x hx
    match i, hx with
    | 0, hx => simp at hx; subst hx; exact ⟨B, 0, rfl, hB, c0, c1⟩
  have hm : Brm.memB [(55296, 57343)] r = false := by
    rw [Brm.mem_false]; rw [Brm.rune_iff] at hr; intro x hx; simp at hx; subst hx; simp only; omega
  have := in_any (some ⟨B, 0, none⟩) [(55296, 57343)] 1 r W hrd (by simp)
  rw [hm] at this
  exact this

theorem canon_at {l : List (Int × Int)} {k : Nat} {x y : Int × Int} (h : Brm.Canon l) (hx : l[k]? = some x) (hy : l[k + 1]? = some y) : Brm.after x.2 < y.1 := by
  obtain ⟨hk, ex⟩ := List.getElem?_eq_some_iff.1 hx
  obtain ⟨hk2, ey⟩ := List.getElem?_eq_some_iff.1 hy
  have := List.pairwise_iff_getElem.1 h.2 k (k + 1) hk hk2 (by omega)
  rw [ex, ey] at this
  exact this

theorem new2 (w : World) (o o' : Obj) (y1 y2 : Int) : (((w.alloc o).alloc o').alloc (.cells #[.int .i64 y1, .int .i64 y2] 27)).cell? ⟨w.heap.size + 1 + 1, 0, none⟩ = some (.int .i64 y1) ∧
    (((w.alloc o).alloc o').alloc (.cells #[.int .i64 y1, .int .i64 y2] 27)).cell? ⟨w.heap.size + 1 + 1, 1, none⟩ = some (.int .i64 y2) := by
  have e : w.heap.size + 1 + 1 = ((w.alloc o).alloc o').heap.size := by simp
  rw [e]
  generalize (w.alloc o).alloc o' = W
  constructor <;> simp
theorem box2 (w : World) (o o' : Obj) (y1 y2 : Int) : (((w.alloc (.cells #[.int .i64 y1, .int .i64 y2] 27)).alloc o).alloc o').cell? ⟨w.heap.size, 0, none⟩ = some (.int .i64 y1) := by
  rw [cell_old _ _ (by simp; omega), cell_old _ _ (by simp)]; simp

set_option maxHeartbeats 400000 in
theorem risen_any (ao : Option Addr) (l : List (Int × Int)) (cap : Nat) (w : World) (hcells : Rd w ao l) (hlen : l.length ≤ 1000000) (hc : Brm.Canon l) :
    Calls Try.prog 11 #[.slice ao l.length cap] w fun e w' => e = .returned (.bool true) ∧ Below w.heap.size w w' := by
  have HC := hide hcells; clear hcells
  have HN := hide hc; clear hc
  go_enter Try.func11, Try.ntmps11
  go_wp2
  go_loopw [3] (fun i wr => ∃ k : Nat, k ≤ l.length ∧ i = .int .i64 k ∧ Below w.heap.size w wr) (fun i _ => l.length - (intOf i).toNat)
  case atStart => exact ⟨0, Nat.zero_le _, rfl, Below.refl _ _⟩
  case round =>
    obtain ⟨k, hk, rfl, hbel⟩ := hrel
    have hsz := hbel.size
    by_cases hlt : k < l.length
    · obtain ⟨b, off, rfl, hb, h1, h2⟩ := HC.out k l[k] (List.getElem?_eq_getElem hlt)
      generalize hx : l[k] = x at h1 h2
      have HX : Hid (l[k]? = some x) := by rw [List.getElem?_eq_getElem hlt, hx]; rfl
      clear hx
      obtain ⟨x1, x2⟩ := x
      simp only at h1 h2
      rw [← hbel.cell (p := ⟨b, _, none⟩) hb] at h1 h2
      have HG := hide (HN.out.1 (x1, x2) (List.mem_of_getElem? HX.out))
      have g1 := HG.out.1
      have g2 := HG.out.2.1
      have r1 := (Brm.rune_iff _).1 g1
      have r2 := (Brm.rune_iff _).1 g2
      have t1 : x1 ≤ x2 := HG.out.2.2
      have t2 : 0 ≤ x1 := by simp only at r1; omega
      have t3 : x2 ≤ 1114111 := by simp only at r2; omega
      clear r1 r2
      have G1 := hide g1; have G2 := hide g2; clear g1 g2
      go_wp2_with fail
      refine (gap_any _ x1 _ (by simp) (by simp) (by simp) G1.out).mono ?_
      rintro e w' ⟨rfl, rfl⟩
      go_wp2_with fail
      refine (gap_any _ x2 _ (by simp) (by exact (new2 _ _ _ _ _).1) (by exact (new2 _ _ _ _ _).2) G2.out).mono ?_
      rintro e w' ⟨rfl, rfl⟩
      go_wp2_with fail
      have R := ((hbel.alloc (by omega) (.cells #[.int .i64 x1, .int .i64 x2] 27)).alloc (by simp; omega) (.cells #[.int .i64 55296, .int .i64 57343] 27)).alloc (by simp; omega) (.cells #[.int .i64 55296, .int .i64 57343] 27)
      have hbx : (((wr.alloc (.cells #[.int .i64 x1, .int .i64 x2] 27)).alloc (.cells #[.int .i64 55296, .int .i64 57343] 27)).alloc (.cells #[.int .i64 55296, .int .i64 57343] 27)).cell? ⟨wr.heap.size, 0, none⟩ = some (.int .i64 x1) := box2 _ _ _ _ _
      generalize (((wr.alloc (.cells #[.int .i64 x1, .int .i64 x2] 27)).alloc (.cells #[.int .i64 55296, .int .i64 57343] 27)).alloc (.cells #[.int .i64 55296, .int .i64 57343] 27)) = w3 at R hbx ⊢
      clear h1 h2 hbel
      rcases Nat.eq_zero_or_pos k with rfl | hpos
      · have hgd : decide (((0 : Nat) : Int) > 0) = false := rfl
        go_quiet (fail)
        go_wp2
        go_roundw
        case rel => exact ⟨1, by omega, rfl, below_drawn R⟩
        case measure => simp [intOf]; omega
      · obtain ⟨j, rfl⟩ : ∃ j, k = j + 1 := ⟨k - 1, by omega⟩
        obtain ⟨b', off', e, hb', h1, h2⟩ := HC.out j l[j] (List.getElem?_eq_getElem (by omega))
        simp only [Option.some.injEq, Addr.mk.injEq, and_true] at e
        obtain ⟨rfl, rfl⟩ := e
        generalize hy : l[j] = y at h1 h2
        have HY : Hid (l[j]? = some y) := by rw [List.getElem?_eq_getElem (by omega), hy]; rfl
        clear hy
        have HA := hide (canon_at HN.out HY.out HX.out)
        have HGY := hide (HN.out.1 y (List.mem_of_getElem? HY.out))
        obtain ⟨y1, y2⟩ := y
        simp only at h2
        rw [← R.cell (p := ⟨b, _, none⟩) hb] at h2
        clear h1
        have hy := (Brm.rune_iff _).1 HGY.out.2.1
        have s0 : 0 ≤ y2 := by simp only at hy; omega
        have s1 : y2 ≤ 1114111 := by simp only at hy; omega
        have s2 : y2 + 1 < x1 := by have := HA.out; simp only [Brm.after] at this; split at this <;> omega
        clear hy
        have HQ : Hid (x1 = 57344 → y2 = 55295 → False) := by
          intro q1 q2; have := HA.out; simp only [Brm.after] at this; rw [if_pos q2] at this; omega
        have hd1 : decide (x1 ≤ y2 + 1) = false := by simp; omega
        by_cases q1 : x1 = 57344
        · have b1 : (x1 == 57344) = true := beq_iff_eq.2 q1
          have b2 : (y2 == 55295) = false := beq_eq_false_iff_ne.2 (HQ.out q1)
          clear q1
          go_quiet (fail)
          go_wp2
          go_roundw
          case rel => exact ⟨j + 1 + 1, by omega, by go_num, below_drawn R⟩
          case measure => simp [intOf]; omega
        · have b1 : (x1 == 57344) = false := beq_eq_false_iff_ne.2 q1
          clear q1
          go_quiet (fail)
          go_wp2
          go_roundw
          case rel => exact ⟨j + 1 + 1, by omega, by go_num, below_drawn R⟩
          case measure => simp [intOf]; omega
    · go_wp2
      go_ret
      exact ⟨rfl, hbel⟩
end Go.Proofs.Ytaiidpcdeghipaa
