/- What the reference's join does: a walk. -/
import Derived.Test.YtaiidpcdeghipaaRefSmall
import Derived.Test.YtaiidpcdeghipaaOr
import Derived.Deep.DeepCutAuto
import Derived.Laws.AppendOwnNone
namespace Go.Proofs.Ytaiidpcdeghipaa
open Go.RowKit

/-- A slice of ranges that is nil, or leads to a row. -/
def Sl (w : World) (v : Value) (l : List (Int × Int)) : Prop :=
  (v = .slice none 0 0 ∧ l = []) ∨ ∃ b off cap, v = .slice (some ⟨b, off, none⟩) l.length cap ∧ l.length ≤ cap ∧ b < w.heap.size ∧ Rd w (some ⟨b, off, none⟩) l
theorem Sl.below {w w' : World} {v : Value} {l : List (Int × Int)} (h : Sl w v l) (hb : Below w.heap.size w w') : Sl w' v l := by
  rcases h with h | ⟨b, off, cap, e, hc, hlt, hr⟩
  · exact .inl h
  · exact .inr ⟨b, off, cap, e, hc, Nat.lt_of_lt_of_le hlt hb.size, hr.below hb⟩
theorem own_sl {w : World} {B : Nat} {v : Value} {l : List (Int × Int)} (h : w.ownsRow B 27 2 v l.length (cellsR l)) : Sl w v l := by
  have h' := h
  obtain ⟨ao, cap, rfl, hc, hr⟩ := own_rd h
  rcases h'.2 with ⟨e, h0⟩ | ⟨g, cap', cur, e, hg, hh, _⟩
  · exact .inl ⟨e, List.length_eq_zero_iff.1 h0⟩
  · injection e with e1 _ e3
    subst e1; subst e3
    exact .inr ⟨g, 0, cap, rfl, hc, (h'.lt g rfl).2, hr⟩
theorem Sl.rd {w : World} {v : Value} {l : List (Int × Int)} (h : Sl w v l) : ∃ ao cap, v = .slice ao l.length cap ∧ Rd w ao l ∧ (ao = none → cap = 0) := by
  rcases h with ⟨rfl, rfl⟩ | ⟨b, off, cap, rfl, hc, hlt, hr⟩
  · exact ⟨none, 0, rfl, fun i x hx => by simp at hx, fun _ => rfl⟩
  · exact ⟨_, cap, rfl, hr, fun h => by cases h⟩

def testA (l : List (Int × Int)) (k : Nat) (x1 : Int) : Bool := match l[k]? with | some y => decide (y.2 + 1 < x1) | none => false
def testB (l : List (Int × Int)) (k : Nat) (x2 : Int) : Bool := match l[k]? with | some y => decide (y.1 ≤ x2 + 1) | none => false

theorem box_far {B n : Nat} {W w3 : World} {v : Value} {xs : List Value} {o : Obj} (h : W.ownsRow (B + 1) 27 2 v n xs) (hB : B < W.heap.size) (hg : (W.alloc o).grownBy w3 v.ownBlock) :
    (∀ j, w3.cell? ⟨B, j, none⟩ = W.cell? ⟨B, j, none⟩) ∧ ∀ j, w3.frozen? ⟨B, j, none⟩ = W.frozen? ⟨B, j, none⟩ := by
  have hne : ∀ j, some (⟨B, j, none⟩ : Addr).block ≠ v.ownBlock := fun j e => by have := (h.lt _ e.symm).1; simp only at this; omega
  refine ⟨fun j => ?_, fun j => ?_⟩
  · rw [hg.cell_far ⟨B, j, none⟩ (by simp; omega) (hne j)]; exact cell_old o j hB
  · rw [hg.frozen_far ⟨B, j, none⟩ (by simp; omega) (hne j)]; exact frozen_old o j hB
theorem take_pre {l : List (Int × Int)} {k : Nat} {y : Int × Int} {x1 : Int} (h : ∀ z ∈ l.take k, z.2 + 1 < x1) (hy : l[k]? = some y) (hlt : y.2 + 1 < x1) : ∀ z ∈ l.take (k + 1), z.2 + 1 < x1 := by
  intro z hz
  rw [List.take_add_one, hy] at hz
  rcases List.mem_append.1 hz with hz | hz
  · exact h z hz
  · simp at hz; subst hz; exact hlt
theorem testA_true {l : List (Int × Int)} {k : Nat} {x1 : Int} (h : testA l k x1 = true) : ∃ y, l[k]? = some y ∧ y.2 + 1 < x1 := by
  unfold testA at h
  split at h
  · rename_i y hy; exact ⟨y, hy, by simpa using h⟩
  · cases h
theorem testA_false {l : List (Int × Int)} {k : Nat} {x1 : Int} (h : testA l k x1 = false) : ∀ y, l[k]? = some y → x1 ≤ y.2 + 1 := by
  intro y hy
  unfold testA at h
  rw [hy] at h
  simp at h; omega
theorem testB_true {l : List (Int × Int)} {k : Nat} {x2 : Int} (h : testB l k x2 = true) : ∃ y, l[k]? = some y ∧ y.1 ≤ x2 + 1 := by
  unfold testB at h
  split at h
  · rename_i y hy; exact ⟨y, hy, by simpa using h⟩
  · cases h
theorem testB_false {l : List (Int × Int)} {k : Nat} {x2 : Int} (h : testB l k x2 = false) : ∀ y, l[k]? = some y → x2 + 1 < y.1 := by
  intro y hy
  unfold testB at h
  rw [hy] at h
  simp at h; omega
theorem rd_drop {w : World} {b o na i : Nat} {l : List (Int × Int)} (h : Rd w (some ⟨b, o, none⟩) l) (hi : i ≤ l.length) (hna : l.length ≤ na) : Rd w (if na = i then some ⟨b, o, none⟩ else some ⟨b, o + i * 2, none⟩) (l.drop i) := by
  intro j y hy
  have hj : i + j < l.length := by
    have := (List.getElem?_eq_some_iff.1 hy).1; simp at this; omega
  rw [if_neg (by omega)]
  obtain ⟨b', o', e, hb, h1, h2⟩ := h (i + j) y (by simpa using hy)
  simp only [Option.some.injEq, Addr.mk.injEq, and_true] at e
  obtain ⟨rfl, rfl⟩ := e
  refine ⟨b, o + i * 2, rfl, hb, ?_, ?_⟩
  · rw [show o + i * 2 + j * 2 = o + (i + j) * 2 from by omega]; exact h1
  · rw [show o + i * 2 + j * 2 + 1 = o + (i + j) * 2 + 1 from by omega]; exact h2

theorem box_set {w wr : World} {v : Value} {k n : Nat} {xs : List Value} {y1 y2 n1 n2 : Int} (hown : wr.ownsRow (w.heap.size + 1) 27 2 v k xs) (hb0 : wr.cell? ⟨w.heap.size, 0, none⟩ = some (.int .i64 y1)) (hb1 : wr.cell? ⟨w.heap.size, 1, none⟩ = some (.int .i64 y2))
    (hf0 : wr.frozen? ⟨w.heap.size, 0, none⟩ = false) (hf1 : wr.frozen? ⟨w.heap.size, 1, none⟩ = false) (hsz : w.heap.size < wr.heap.size) (hbel : Below w.heap.size w wr) :
    (((wr.drewN n).setCell ⟨w.heap.size, 0, none⟩ (.int .i64 n1)).setCell ⟨w.heap.size, 1, none⟩ (.int .i64 n2)).drew.ownsRow (w.heap.size + 1) 27 2 v k xs ∧
    (((wr.drewN n).setCell ⟨w.heap.size, 0, none⟩ (.int .i64 n1)).setCell ⟨w.heap.size, 1, none⟩ (.int .i64 n2)).drew.cell? ⟨w.heap.size, 0, none⟩ = some (.int .i64 n1) ∧
    (((wr.drewN n).setCell ⟨w.heap.size, 0, none⟩ (.int .i64 n1)).setCell ⟨w.heap.size, 1, none⟩ (.int .i64 n2)).drew.cell? ⟨w.heap.size, 1, none⟩ = some (.int .i64 n2) ∧
    (((wr.drewN n).setCell ⟨w.heap.size, 0, none⟩ (.int .i64 n1)).setCell ⟨w.heap.size, 1, none⟩ (.int .i64 n2)).drew.frozen? ⟨w.heap.size, 0, none⟩ = false ∧
    (((wr.drewN n).setCell ⟨w.heap.size, 0, none⟩ (.int .i64 n1)).setCell ⟨w.heap.size, 1, none⟩ (.int .i64 n2)).drew.frozen? ⟨w.heap.size, 1, none⟩ = false ∧
    w.heap.size < (((wr.drewN n).setCell ⟨w.heap.size, 0, none⟩ (.int .i64 n1)).setCell ⟨w.heap.size, 1, none⟩ (.int .i64 n2)).drew.heap.size ∧
    Below w.heap.size w (((wr.drewN n).setCell ⟨w.heap.size, 0, none⟩ (.int .i64 n1)).setCell ⟨w.heap.size, 1, none⟩ (.int .i64 n2)).drew := by
  have hown' : (wr.drewN n).ownsRow (w.heap.size + 1) 27 2 v k xs := hown
  refine ⟨ownsRow_setCell_below (ownsRow_setCell_below hown' (Nat.lt_succ_self _) _) (Nat.lt_succ_self _) _, ?_, ?_, ?_, ?_, ?_, ?_⟩
  · simp [go_sem, hb0]
  · simp [go_sem, hb1]
  · simp [hf0]
  · simp [hf1]
  · simpa using hsz
  · exact (((below_drawn hbel).setCell (Nat.le_refl _) _).setCell (Nat.le_refl _) _).drew
theorem own_cat {w : World} {B k m : Nat} {v : Value} {l : List (Int × Int)} {y1 y2 : Int} (h : w.ownsRow B 27 2 v (k + 1 + (l.length - m)) (cellsR (l.take k) ++ [.int .i64 y1, .int .i64 y2] ++ cellsR (l.drop m))) (hk : (l.take k).length = k) :
    w.ownsRow B 27 2 v (l.take k ++ [(y1, y2)] ++ l.drop m).length (cellsR (l.take k ++ [(y1, y2)] ++ l.drop m)) := by
  have e : (l.take k ++ [(y1, y2)] ++ l.drop m).length = k + 1 + (l.length - m) := by rw [List.length_append, List.length_append, hk, List.length_drop]; rfl
  rw [e, cellsR_append, cellsR_append]
  exact h
set_option maxRecDepth 100000 in
set_option maxHeartbeats 1000000 in
theorem join_some (b off cap : Nat) (l : List (Int × Int)) (x1 x2 : Int) (w : World) (hcells : Rd w (some ⟨b, off, none⟩) l) (hb : b < w.heap.size) (hcap : l.length ≤ cap) (hlen : l.length ≤ 1000000) (hl : Brm.PCanon l) (hx : Brm.PGood (x1, x2)) :
    Calls Try.prog 51 #[.slice (some ⟨b, off, none⟩) l.length cap, .agg #[.int .i64 x1, .int .i64 x2]] w fun e w' => ∃ v, e = .returned v ∧ Hands w w' v fun out => Brm.PCanon out ∧ (∀ n, Brm.memB out n = (Brm.memB l n || Brm.inB (x1, x2) n)) ∧ out.length ≤ l.length + 1 := by
  have HC := hide hcells; have HL := hide hl; have HX := hide hx
  clear hcells hl hx
  obtain ⟨i0, hi, hz0, hz1, hz2⟩ := info_parts Try.info27
  go_enter Try.func51, Try.ntmps51
  go_wp2
  go_loopw [5, 6] (fun v i wr => ∃ k : Nat, k ≤ l.length ∧ i = .int .i64 k ∧ (∀ z ∈ l.take k, z.2 + 1 < x1) ∧ wr.ownsRow (w.heap.size + 1) 27 2 v (l.take k).length (cellsR (l.take k)) ∧
      wr.cell? ⟨w.heap.size, 0, none⟩ = some (.int .i64 x1) ∧ wr.cell? ⟨w.heap.size, 1, none⟩ = some (.int .i64 x2) ∧ wr.frozen? ⟨w.heap.size, 0, none⟩ = false ∧ wr.frozen? ⟨w.heap.size, 1, none⟩ = false ∧
      w.heap.size < wr.heap.size ∧ Below w.heap.size w wr) (fun _ i _ => l.length - (intOf i).toNat)
  case atStart => exact ⟨0, Nat.zero_le _, rfl, by simp, World.ownsRow_nil _ _ _ _, by simp, by simp, by simp, by simp, by simp, (Below.refl _ w).alloc (Nat.le_refl _) _⟩
  case round =>
    obtain ⟨k, hk, rfl, hpre, hown, hb0, hb1, hf0, hf1, hsz, hbel⟩ := hrel
    have HP := hide hpre; clear hpre
    go_upto_region 3 with fail
    go_cut [21] (fun v wx => v = .bool (testA l k x1) ∧ ∃ n, wx = wr.drewN n)
    case first =>
      have i1 : (0 : Int) ≤ (k : Int) := Int.natCast_nonneg _
      by_cases hlt : k < l.length
      · obtain ⟨b', off', e, _, h1, h2⟩ := HC.out k l[k] (List.getElem?_eq_getElem hlt)
        simp only [Option.some.injEq, Addr.mk.injEq, and_true] at e
        obtain ⟨rfl, rfl⟩ := e
        generalize hy : l[k] = y at h1 h2
        have HY : Hid (testA l k x1 = decide (y.2 + 1 < x1)) := by
          show testA l k x1 = _
          unfold testA; rw [List.getElem?_eq_getElem hlt, hy]
        have hgy := HL.out.1 y (hy ▸ List.getElem_mem hlt)
        clear hy
        obtain ⟨y1, y2⟩ := y
        unfold Brm.PGood at hgy
        simp only at h1 h2 hgy
        obtain ⟨g1, g2, g3⟩ := hgy
        rw [← hbel.cell (p := ⟨b, _, none⟩) hb] at h1 h2
        have i2 : (k : Int) < (l.length : Int) := by omega
        go_quiet (fail)
        go_wp2_with fail
        go_meet
        case rel => exact ⟨by rw [HY.out], _, rfl⟩
      · have hd : decide ((k : Int) < (l.length : Int)) = false := by simp; omega
        have HY : Hid (testA l k x1 = false) := by
          show testA l k x1 = _
          unfold testA; rw [List.getElem?_eq_none (by omega)]
        go_quiet (fail)
        go_wp2_with fail
        go_meet
        case rel => exact ⟨by rw [HY.out], _, rfl⟩
    case rest =>
      obtain ⟨rfl, nq, rfl⟩ := hcut
      cases hT : testA l k x1 with
      | true =>
        obtain ⟨y, hy, hlt1⟩ := testA_true hT
        have hlt : k < l.length := (List.getElem?_eq_some_iff.1 hy).1
        have HY := hide hy
        obtain ⟨b', off', e, _, h1, h2⟩ := HC.out k y hy
        simp only [Option.some.injEq, Addr.mk.injEq, and_true] at e
        obtain ⟨rfl, rfl⟩ := e
        obtain ⟨y1, y2⟩ := y
        simp only at h1 h2 hlt1
        have HLT := hide hlt1
        clear hy hT hlt1
        rw [← hbel.cell (p := ⟨b, _, none⟩) hb] at h1 h2
        have htl : (l.take k).length = k := by simp; omega
        rw [htl] at hown
        have HO : Hid ((wr.drewN nq).ownsRow (w.heap.size + 1) 27 2 _ k (cellsR (l.take k))) := hown
        go_wp2_with (at_builtin; refine wpList_append_own _ rfl _ _ 22 rfl (w.heap.size + 1) 27 i0 (.agg #[.int .i64 0, .int .i64 0]) 2 16 Try.underlying22 hi hz0 hz1 hz2 rfl (by decide) _ _ _ rfl (HO.out.alloc _) ⟨wr.heap.size, 0, none⟩ 1 1 [.int .i64 y1, .int .i64 y2] rfl rfl (new_cells0 _ _ _) (new_one _ _) (by unfold maxLen; omega) (by omega) (by simp; omega) ?_; intro v' w3 hown' hgrow _)
        have R1 : w3.ownsRow (w.heap.size + 1) 27 2 v' (l.take (k + 1)).length (cellsR (l.take (k + 1))) := own_snoc (a := l.take k) (y := (y1, y2)) (by rw [htl]; exact hown') (by rw [List.take_add_one, HY.out]; rfl)
        have R2 := Below.keep ((below_drawn hbel : Below w.heap.size w (wr.drewN nq)).alloc (by simp; omega) _) (by simp; omega) (own_le (HO.out.alloc _) (Nat.le_succ _)) hgrow
        obtain ⟨fc, ff⟩ := box_far HO.out hsz hgrow
        go_roundw
        case rel => exact ⟨k + 1, by omega, by go_num, take_pre HP.out HY.out HLT.out, R1, by rw [fc]; exact hb0, by rw [fc]; exact hb1, by rw [ff]; exact hf0, by rw [ff]; exact hf1, by have := hgrow.size; simp at this; omega, R2⟩
        case measure => simp [intOf]; omega
      | false =>
        have HF := hide (testA_false hT)
        clear hT
        have HJ := hide (Brm.jinv_start HL.out HX.out hk HP.out HF.out)
        have htl : (l.take k).length = k := by simp; omega
        rw [htl] at hown
        go_wp2
        go_loopw [6] (fun i wr2 => ∃ (m : Nat) (y1 y2 : Int), i = .int .i64 m ∧ Brm.JInv l (x1, x2) k (y1, y2) m ∧ wr2.ownsRow (w.heap.size + 1) 27 2 u5 k (cellsR (l.take k)) ∧
            wr2.cell? ⟨w.heap.size, 0, none⟩ = some (.int .i64 y1) ∧ wr2.cell? ⟨w.heap.size, 1, none⟩ = some (.int .i64 y2) ∧ wr2.frozen? ⟨w.heap.size, 0, none⟩ = false ∧ wr2.frozen? ⟨w.heap.size, 1, none⟩ = false ∧
            w.heap.size < wr2.heap.size ∧ Below w.heap.size w wr2) (fun i _ => l.length - (intOf i).toNat)
        case atStart => exact ⟨k, x1, x2, rfl, HJ.out, hown, hb0, hb1, hf0, hf1, hsz, below_drawn hbel⟩
        case round =>
          clear hown hb0 hb1 hf0 hf1 hsz hbel
          obtain ⟨m, y1, y2, rfl, hinv, hown, hb0, hb1, hf0, hf1, hsz, hbel⟩ := hrel
          have HI := hide hinv; clear hinv
          have hml := HI.out.2.1
          have hgy := HI.out.2.2.1
          unfold Brm.PGood at hgy
          simp only at hgy
          obtain ⟨g1, g2, g3⟩ := hgy
          have hne : b ≠ w.heap.size := by omega
          go_upto_region 6 with fail
          go_cut [45] (fun v wx => v = .bool (testB l m y2) ∧ ∃ n, wx = wr.drewN n)
          case first =>
            have i1 : (0 : Int) ≤ (m : Int) := Int.natCast_nonneg _
            by_cases hlt : m < l.length
            · obtain ⟨b', off', e, _, h1, h2⟩ := HC.out m l[m] (List.getElem?_eq_getElem hlt)
              simp only [Option.some.injEq, Addr.mk.injEq, and_true] at e
              obtain ⟨rfl, rfl⟩ := e
              generalize hy : l[m] = z at h1 h2
              have HY : Hid (testB l m y2 = decide (z.1 ≤ y2 + 1)) := by
                show testB l m y2 = _
                unfold testB; rw [List.getElem?_eq_getElem hlt, hy]
              clear hy
              obtain ⟨z1, z2⟩ := z
              simp only at h1 h2
              rw [← hbel.cell (p := ⟨b, _, none⟩) hb] at h1 h2
              have i2 : (m : Int) < (l.length : Int) := by omega
              go_quiet (fail)
              go_wp2_with fail
              go_meet
              case rel => exact ⟨by rw [HY.out], _, rfl⟩
            · have hd : decide ((m : Int) < (l.length : Int)) = false := by simp; omega
              have HY : Hid (testB l m y2 = false) := by
                show testB l m y2 = _
                unfold testB; rw [List.getElem?_eq_none (by omega)]
              go_quiet (fail)
              go_wp2_with fail
              go_meet
              case rel => exact ⟨by rw [HY.out], _, rfl⟩
          case rest =>
            obtain ⟨rfl, nq2, rfl⟩ := hcut
            cases hT : testB l m y2 with
            | true =>
              obtain ⟨z, hz, hzle⟩ := testB_true hT
              have hlt : m < l.length := (List.getElem?_eq_some_iff.1 hz).1
              have HZ := hide hz
              have HS := hide (Brm.jinv_step HL.out HI.out hz hzle)
              obtain ⟨b', off', e, _, h1, h2⟩ := HC.out m z hz
              simp only [Option.some.injEq, Addr.mk.injEq, and_true] at e
              obtain ⟨rfl, rfl⟩ := e
              obtain ⟨z1, z2⟩ := z
              simp only at h1 h2
              clear hz hT hzle
              rw [← hbel.cell (p := ⟨b, _, none⟩) hb] at h1 h2
              have i1 : (0 : Int) ≤ (m : Int) := Int.natCast_nonneg _
              have i2 : (m : Int) < (l.length : Int) := by omega
              go_wp2_with fail
              go_region
              go_wp2_with fail
              go_region
              go_wp2
              obtain ⟨q1, q2, q3, q4, q5, q6, q7⟩ := box_set (n := nq2 + 1) (n1 := min y1 z1) (n2 := max y2 z2) hown hb0 hb1 hf0 hf1 hsz hbel
              go_roundw
              case rel => exact ⟨m + 1, min y1 z1, max y2 z2, by go_num, HS.out, q1, q2, q3, q4, q5, q6, q7⟩
              case measure => simp [intOf]; omega
            | false =>
              have HE := hide (Brm.jinv_end HL.out HI.out (testB_false hT))
              clear hT
              have hkm := HI.out.1
              have HO : Hid ((wr.drewN nq2).ownsRow (w.heap.size + 1) 27 2 u5 k (cellsR (l.take k))) := hown
              by_cases hcm : cap = m
              · go_wp2_with (first
                  | (at_builtin; refine wpList_append_own _ rfl (.tmp 66) (.tmp 68) 22 rfl (w.heap.size + 1) 27 i0 (.agg #[.int .i64 0, .int .i64 0]) 2 16 Try.underlying22 hi hz0 hz1 hz2 rfl (by decide) _ _ _ rfl (HO.out.alloc _) ⟨wr.heap.size, 0, none⟩ 1 1 [.int .i64 y1, .int .i64 y2] rfl rfl (new_cells0 _ _ _) (new_one _ _) (by unfold maxLen; omega) (by omega) (by simp; omega) ?_; intro v' w3 hown' hgrow _; have R2 := Below.keep ((below_drawn hbel : Below w.heap.size w (wr.drewN nq2)).alloc (by simp; omega) _) (by simp; omega) (own_le (HO.out.alloc _) (Nat.le_succ _)) hgrow)
                  | (at_builtin; refine wpList_append_own _ rfl (.tmp 70) (.tmp 73) 22 rfl (w.heap.size + 1) 27 i0 (.agg #[.int .i64 0, .int .i64 0]) 2 16 Try.underlying22 hi hz0 hz1 hz2 rfl (by decide) _ _ _ rfl hown' ⟨b, off, none⟩ (l.length - m) _ (cellsR (l.drop m)) rfl (by rw [cellsR_length, List.length_drop]) (src_cells (rd_drop HC.out hml hcap) R2 (by rw [if_pos hcm])) (src_one _) (by unfold maxLen; omega) (by omega) (by have := R2.size; have := hgrow.size; simp at this; omega) ?_; intro v4 w4 hown4 hgrow4 _))
                have R4 := Below.keep R2 (by have := R2.size; omega) (own_le hown' (Nat.le_succ _)) hgrow4
                go_ret
                exact ⟨v4, rfl, l.take k ++ [(y1, y2)] ++ l.drop m, ⟨HE.out.1, HE.out.2, by simp; omega⟩, own_le (own_cat hown4 htl) (Nat.le_succ _), R4⟩
              · go_wp2_with (first
                  | (at_builtin; refine wpList_append_own _ rfl (.tmp 66) (.tmp 68) 22 rfl (w.heap.size + 1) 27 i0 (.agg #[.int .i64 0, .int .i64 0]) 2 16 Try.underlying22 hi hz0 hz1 hz2 rfl (by decide) _ _ _ rfl (HO.out.alloc _) ⟨wr.heap.size, 0, none⟩ 1 1 [.int .i64 y1, .int .i64 y2] rfl rfl (new_cells0 _ _ _) (new_one _ _) (by unfold maxLen; omega) (by omega) (by simp; omega) ?_; intro v' w3 hown' hgrow _; have R2 := Below.keep ((below_drawn hbel : Below w.heap.size w (wr.drewN nq2)).alloc (by simp; omega) _) (by simp; omega) (own_le (HO.out.alloc _) (Nat.le_succ _)) hgrow)
                  | (at_builtin; refine wpList_append_own _ rfl (.tmp 70) (.tmp 73) 22 rfl (w.heap.size + 1) 27 i0 (.agg #[.int .i64 0, .int .i64 0]) 2 16 Try.underlying22 hi hz0 hz1 hz2 rfl (by decide) _ _ _ rfl hown' ⟨b, off + m * 2, none⟩ (l.length - m) _ (cellsR (l.drop m)) rfl (by rw [cellsR_length, List.length_drop]) (src_cells (rd_drop HC.out hml hcap) R2 (by rw [if_neg hcm])) (src_one _) (by unfold maxLen; omega) (by omega) (by have := R2.size; have := hgrow.size; simp at this; omega) ?_; intro v4 w4 hown4 hgrow4 _))
                have R4 := Below.keep R2 (by have := R2.size; omega) (own_le hown' (Nat.le_succ _)) hgrow4
                go_ret
                exact ⟨v4, rfl, l.take k ++ [(y1, y2)] ++ l.drop m, ⟨HE.out.1, HE.out.2, by simp; omega⟩, own_le (own_cat hown4 htl) (Nat.le_succ _), R4⟩
end Go.Proofs.Ytaiidpcdeghipaa
