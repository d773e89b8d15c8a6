/- Walks and plain laws, some texts in one. -/
import Derived.Deep.DeepCutAuto
import Derived.Laws.AppendOwnNone
import Derived.Lib.MinMax
import Derived.Test.YtpoibdhhcbelnaaGreatDoorM07
import Derived.Test.YtpoibdhhcbelnaaGreatDoorM08
/- What the reference's join does: a walk. -/
namespace Go.Proofs.YtpoibdhhcbelnaaGreatDoor
open Go.RowKit

/-- A slice of ranges that is nil, or leads to a row. -/
def Sl (w : World) (v : Value) (l : List (Int × Int)) : Prop :=
  (v = .slice none 0 0 ∧ l = []) ∨ ∃ b off cap, v = .slice (some ⟨b, off, none⟩) l.length cap ∧ l.length ≤ cap ∧ b < w.heap.size ∧ Rd w (some ⟨b, off, none⟩) l
theorem Sl.below {w w' : World} {v : Value} {l : List (Int × Int)} (h : Sl w v l) (hb : Below w.heap.size w w') : Sl w' v l := by
  rcases h with h | ⟨b, off, cap, e, hc, hlt, hr⟩
  · exact .inl h
  · exact .inr ⟨b, off, cap, e, hc, Nat.lt_of_lt_of_le hlt hb.size, hr.below hb⟩
theorem own_sl {w : World} {B : Nat} {v : Value} {l : List (Int × Int)} (h : w.ownsRow B 149 2 v l.length (cellsR l)) : Sl w v l := by
  have h' := h
  obtain ⟨ao, cap, rfl, hc, hr⟩ := own_rd h
  rcases h'.2 with ⟨e, h0⟩ | ⟨g, cap', cur, e, hg, hh, _⟩
  · exact .inl ⟨e, List.length_eq_zero_iff.1 h0⟩
  · injection e with e1 _ e3
    subst e1; subst e3
    exact .inr ⟨g, 0, cap, rfl, hc, (h'.lt g rfl).2, hr⟩
theorem Sl.rd {w : World} {v : Value} {l : List (Int × Int)} (h : Sl w v l) : ∃ ao cap, v = .slice ao l.length cap ∧ Rd w ao l ∧ (ao = none → cap = 0) := by
  rcases h with ⟨rfl, rfl⟩ | ⟨b, off, cap, rfl, hc, hlt, hr⟩
  · exact ⟨none, 0, rfl, fun i x hx => by simp at hx, fun _ => rfl⟩
  · exact ⟨_, cap, rfl, hr, fun h => by cases h⟩

def testA (l : List (Int × Int)) (k : Nat) (x1 : Int) : Bool := match l[k]? with | some y => decide (y.2 + 1 < x1) | none => false
def testB (l : List (Int × Int)) (k : Nat) (x2 : Int) : Bool := match l[k]? with | some y => decide (y.1 ≤ x2 + 1) | none => false

theorem box_far {B n : Nat} {W w3 : World} {v : Value} {xs : List Value} {o : Obj} (h : W.ownsRow (B + 1) 149 2 v n xs) (hB : B < W.heap.size) (hg : (W.alloc o).grownBy w3 v.ownBlock) :
    (∀ j, w3.cell? ⟨B, j, none⟩ = W.cell? ⟨B, j, none⟩) ∧ ∀ j, w3.frozen? ⟨B, j, none⟩ = W.frozen? ⟨B, j, none⟩ := by
  have hne : ∀ j, some (⟨B, j, none⟩ : Addr).block ≠ v.ownBlock := fun j e => by have := (h.lt _ e.symm).1; simp only at this; omega
  refine ⟨fun j => ?_, fun j => ?_⟩
  · rw [hg.cell_far ⟨B, j, none⟩ (by simp; omega) (hne j)]; exact cell_old o j hB
  · rw [hg.frozen_far ⟨B, j, none⟩ (by simp; omega) (hne j)]; exact frozen_old o j hB
theorem take_pre {l : List (Int × Int)} {k : Nat} {y : Int × Int} {x1 : Int} (h : ∀ z ∈ l.take k, z.2 + 1 < x1) (hy : l[k]? = some y) (hlt : y.2 + 1 < x1) : ∀ z ∈ l.take (k + 1), z.2 + 1 < x1 := by
  intro z hz
  rw [List.take_add_one, hy] at hz
  rcases List.mem_append.1 hz with hz | hz
  · exact h z hz
  · simp at hz; subst hz; exact hlt
theorem testA_true {l : List (Int × Int)} {k : Nat} {x1 : Int} (h : testA l k x1 = true) : ∃ y, l[k]? = some y ∧ y.2 + 1 < x1 := by
  unfold testA at h
  split at h
  · rename_i y hy; exact ⟨y, hy, by simpa using h⟩
  · cases h
theorem testA_false {l : List (Int × Int)} {k : Nat} {x1 : Int} (h : testA l k x1 = false) : ∀ y, l[k]? = some y → x1 ≤ y.2 + 1 := by
  intro y hy
  unfold testA at h
  rw [hy] at h
  simp at h; omega
theorem testB_true {l : List (Int × Int)} {k : Nat} {x2 : Int} (h : testB l k x2 = true) : ∃ y, l[k]? = some y ∧ y.1 ≤ x2 + 1 := by
  unfold testB at h
  split at h
  · rename_i y hy; exact ⟨y, hy, by simpa using h⟩
  · cases h
theorem testB_false {l : List (Int × Int)} {k : Nat} {x2 : Int} (h : testB l k x2 = false) : ∀ y, l[k]? = some y → x2 + 1 < y.1 := by
  intro y hy
  unfold testB at h
  rw [hy] at h
  simp at h; omega
theorem rd_drop {w : World} {b o na i : Nat} {l : List (Int × Int)} (h : Rd w (some ⟨b, o, none⟩) l) (hi : i ≤ l.length) (hna : l.length ≤ na) : Rd w (if na = i then some ⟨b, o, none⟩ else some ⟨b, o + i * 2, none⟩) (l.drop i) := by
  intro j y hy
  have hj : i + j < l.length := by
    have := (List.getElem?_eq_some_iff.1 hy).1; simp at this; omega
  rw [if_neg (by omega)]
  obtain ⟨b', o', e, hb, h1, h2⟩ := h (i + j) y (by simpa using hy)
  simp only [Option.some.injEq, Addr.mk.injEq, and_true] at e
  obtain ⟨rfl, rfl⟩ := e
  refine ⟨b, o + i * 2, rfl, hb, ?_, ?_⟩
  · rw [show o + i * 2 + j * 2 = o + (i + j) * 2 from by omega]; exact h1
  · rw [show o + i * 2 + j * 2 + 1 = o + (i + j) * 2 + 1 from by omega]; exact h2

theorem box_set {w wr : World} {v : Value} {k n : Nat} {xs : List Value} {y1 y2 n1 n2 : Int} (hown : wr.ownsRow (w.heap.size + 1) 149 2 v k xs) (hb0 : wr.cell? ⟨w.heap.size, 0, none⟩ = some (.int .i64 y1)) (hb1 : wr.cell? ⟨w.heap.size, 1, none⟩ = some (.int .i64 y2))
    (hf0 : wr.frozen? ⟨w.heap.size, 0, none⟩ = false) (hf1 : wr.frozen? ⟨w.heap.size, 1, none⟩ = false) (hsz : w.heap.size < wr.heap.size) (hbel : Below w.heap.size w wr) :
    (((wr.drewN n).setCell ⟨w.heap.size, 0, none⟩ (.int .i64 n1)).setCell ⟨w.heap.size, 1, none⟩ (.int .i64 n2)).drew.ownsRow (w.heap.size + 1) 149 2 v k xs ∧
    (((wr.drewN n).setCell ⟨w.heap.size, 0, none⟩ (.int .i64 n1)).setCell ⟨w.heap.size, 1, none⟩ (.int .i64 n2)).drew.cell? ⟨w.heap.size, 0, none⟩ = some (.int .i64 n1) ∧
    (((wr.drewN n).setCell ⟨w.heap.size, 0, none⟩ (.int .i64 n1)).setCell ⟨w.heap.size, 1, none⟩ (.int .i64 n2)).drew.cell? ⟨w.heap.size, 1, none⟩ = some (.int .i64 n2) ∧
    (((wr.drewN n).setCell ⟨w.heap.size, 0, none⟩ (.int .i64 n1)).setCell ⟨w.heap.size, 1, none⟩ (.int .i64 n2)).drew.frozen? ⟨w.heap.size, 0, none⟩ = false ∧
    (((wr.drewN n).setCell ⟨w.heap.size, 0, none⟩ (.int .i64 n1)).setCell ⟨w.heap.size, 1, none⟩ (.int .i64 n2)).drew.frozen? ⟨w.heap.size, 1, none⟩ = false ∧
    w.heap.size < (((wr.drewN n).setCell ⟨w.heap.size, 0, none⟩ (.int .i64 n1)).setCell ⟨w.heap.size, 1, none⟩ (.int .i64 n2)).drew.heap.size ∧
    Below w.heap.size w (((wr.drewN n).setCell ⟨w.heap.size, 0, none⟩ (.int .i64 n1)).setCell ⟨w.heap.size, 1, none⟩ (.int .i64 n2)).drew := by
  have hown' : (wr.drewN n).ownsRow (w.heap.size + 1) 149 2 v k xs := hown
  refine ⟨ownsRow_setCell_below (ownsRow_setCell_below hown' (Nat.lt_succ_self _) _) (Nat.lt_succ_self _) _, ?_, ?_, ?_, ?_, ?_, ?_⟩
  · simp [go_sem, hb0]
  · simp [go_sem, hb1]
  · simp [hf0]
  · simp [hf1]
  · simpa using hsz
  · exact (((below_drawn hbel).setCell (Nat.le_refl _) _).setCell (Nat.le_refl _) _).drew
theorem own_cat {w : World} {B k m : Nat} {v : Value} {l : List (Int × Int)} {y1 y2 : Int} (h : w.ownsRow B 149 2 v (k + 1 + (l.length - m)) (cellsR (l.take k) ++ [.int .i64 y1, .int .i64 y2] ++ cellsR (l.drop m))) (hk : (l.take k).length = k) :
    w.ownsRow B 149 2 v (l.take k ++ [(y1, y2)] ++ l.drop m).length (cellsR (l.take k ++ [(y1, y2)] ++ l.drop m)) := by
  have e : (l.take k ++ [(y1, y2)] ++ l.drop m).length = k + 1 + (l.length - m) := by rw [List.length_append, List.length_append, hk, List.length_drop]; rfl
  rw [e, cellsR_append, cellsR_append]
  exact h
set_option maxRecDepth 100000 in
set_option maxHeartbeats 1000000 in
theorem join_some (b off cap : Nat) (l : List (Int × Int)) (x1 x2 : Int) (w : World) (hcells : Rd w (some ⟨b, off, none⟩) l) (hb : b < w.heap.size) (hcap : l.length ≤ cap) (hlen : l.length ≤ 1000000) (hl : Brm.PCanon l) (hx : Brm.PGood (x1, x2)) :
    Calls Tryz.prog 322 #[.slice (some ⟨b, off, none⟩) l.length cap, .agg #[.int .i64 x1, .int .i64 x2]] w fun e w' => ∃ v, e = .returned v ∧ Hands w w' v fun out => Brm.PCanon out ∧ (∀ n, Brm.memB out n = (Brm.memB l n || Brm.inB (x1, x2) n)) ∧ out.length ≤ l.length + 1 := by
  have HC := hide hcells; have HL := hide hl; have HX := hide hx
  clear hcells hl hx
  obtain ⟨i0, hi, hz0, hz1, hz2⟩ := info_parts Tryz.info149
  go_enter Tryz.func322, Tryz.ntmps322
  go_wp2
  go_loopw [5, 6] (fun v i wr => ∃ k : Nat, k ≤ l.length ∧ i = .int .i64 k ∧ (∀ z ∈ l.take k, z.2 + 1 < x1) ∧ wr.ownsRow (w.heap.size + 1) 149 2 v (l.take k).length (cellsR (l.take k)) ∧
      wr.cell? ⟨w.heap.size, 0, none⟩ = some (.int .i64 x1) ∧ wr.cell? ⟨w.heap.size, 1, none⟩ = some (.int .i64 x2) ∧ wr.frozen? ⟨w.heap.size, 0, none⟩ = false ∧ wr.frozen? ⟨w.heap.size, 1, none⟩ = false ∧
      w.heap.size < wr.heap.size ∧ Below w.heap.size w wr) (fun _ i _ => l.length - (intOf i).toNat)
  case atStart => exact ⟨0, Nat.zero_le _, rfl, by simp, World.ownsRow_nil _ _ _ _, by simp, by simp, by simp, by simp, by simp, (Below.refl _ w).alloc (Nat.le_refl _) _⟩
  case round =>
    obtain ⟨k, hk, rfl, hpre, hown, hb0, hb1, hf0, hf1, hsz, hbel⟩ := hrel
    have HP := hide hpre; clear hpre
    go_upto_region 3 with fail
    go_cut [21] (fun v wx => v = .bool (testA l k x1) ∧ ∃ n, wx = wr.drewN n)
    case first =>
      have i1 : (0 : Int) ≤ (k : Int) := Int.natCast_nonneg _
      by_cases hlt : k < l.length
      · obtain ⟨b', off', e, _, h1, h2⟩ := HC.out k l[k] (List.getElem?_eq_getElem hlt)
        simp only [Option.some.injEq, Addr.mk.injEq, and_true] at e
        obtain ⟨rfl, rfl⟩ := e
        generalize hy : l[k] = y at h1 h2
        have HY : Hid (testA l k x1 = decide (y.2 + 1 < x1)) := by
          show testA l k x1 = _
          unfold testA; rw [List.getElem?_eq_getElem hlt, hy]
        have hgy := HL.out.1 y (hy ▸ List.getElem_mem hlt)
        clear hy
        obtain ⟨y1, y2⟩ := y
        unfold Brm.PGood at hgy
        simp only at h1 h2 hgy
        obtain ⟨g1, g2, g3⟩ := hgy
        rw [← hbel.cell (p := ⟨b, _, none⟩) hb] at h1 h2
        have i2 : (k : Int) < (l.length : Int) := by omega
        go_quiet (fail)
        go_wp2_with fail
        go_meet
        case rel => exact ⟨by rw [HY.out], _, rfl⟩
      · have hd : decide ((k : Int) < (l.length : Int)) = false := by simp; omega
        have HY : Hid (testA l k x1 = false) := by
          show testA l k x1 = _
          unfold testA; rw [List.getElem?_eq_none (by omega)]
        go_quiet (fail)
        go_wp2_with fail
        go_meet
        case rel => exact ⟨by rw [HY.out], _, rfl⟩
    case rest =>
      obtain ⟨rfl, nq, rfl⟩ := hcut
      cases hT : testA l k x1 with
      | true =>
        obtain ⟨y, hy, hlt1⟩ := testA_true hT
        have hlt : k < l.length := (List.getElem?_eq_some_iff.1 hy).1
        have HY := hide hy
        obtain ⟨b', off', e, _, h1, h2⟩ := HC.out k y hy
        simp only [Option.some.injEq, Addr.mk.injEq, and_true] at e
        obtain ⟨rfl, rfl⟩ := e
        obtain ⟨y1, y2⟩ := y
        simp only at h1 h2 hlt1
        have HLT := hide hlt1
        clear hy hT hlt1
        rw [← hbel.cell (p := ⟨b, _, none⟩) hb] at h1 h2
        have htl : (l.take k).length = k := by simp; omega
        rw [htl] at hown
        have HO : Hid ((wr.drewN nq).ownsRow (w.heap.size + 1) 149 2 _ k (cellsR (l.take k))) := hown
        go_wp2_with (at_builtin; refine wpList_append_own _ rfl _ _ 29 rfl (w.heap.size + 1) 149 i0 (.agg #[.int .i64 0, .int .i64 0]) 2 16 Tryz.underlying29 hi hz0 hz1 hz2 rfl (by decide) _ _ _ rfl (HO.out.alloc _) ⟨wr.heap.size, 0, none⟩ 1 1 [.int .i64 y1, .int .i64 y2] rfl rfl (new_cells0 _ _ _) (new_one _ _) (by unfold maxLen; omega) (by omega) (by simp; omega) ?_; intro v' w3 hown' hgrow _)
        have R1 : w3.ownsRow (w.heap.size + 1) 149 2 v' (l.take (k + 1)).length (cellsR (l.take (k + 1))) := own_snoc (a := l.take k) (y := (y1, y2)) (by rw [htl]; exact hown') (by rw [List.take_add_one, HY.out]; rfl)
        have R2 := Below.keep ((below_drawn hbel : Below w.heap.size w (wr.drewN nq)).alloc (by simp; omega) _) (by simp; omega) (own_le (HO.out.alloc _) (Nat.le_succ _)) hgrow
        obtain ⟨fc, ff⟩ := box_far HO.out hsz hgrow
        go_roundw
        case rel => exact ⟨k + 1, by omega, by go_num, take_pre HP.out HY.out HLT.out, R1, by rw [fc]; exact hb0, by rw [fc]; exact hb1, by rw [ff]; exact hf0, by rw [ff]; exact hf1, by have := hgrow.size; simp at this; omega, R2⟩
        case measure => simp [intOf]; omega
      | false =>
        have HF := hide (testA_false hT)
        clear hT
        have HJ := hide (Brm.jinv_start HL.out HX.out hk HP.out HF.out)
        have htl : (l.take k).length = k := by simp; omega
        rw [htl] at hown
        go_wp2
        go_loopw [6] (fun i wr2 => ∃ (m : Nat) (y1 y2 : Int), i = .int .i64 m ∧ Brm.JInv l (x1, x2) k (y1, y2) m ∧ wr2.ownsRow (w.heap.size + 1) 149 2 u5 k (cellsR (l.take k)) ∧
            wr2.cell? ⟨w.heap.size, 0, none⟩ = some (.int .i64 y1) ∧ wr2.cell? ⟨w.heap.size, 1, none⟩ = some (.int .i64 y2) ∧ wr2.frozen? ⟨w.heap.size, 0, none⟩ = false ∧ wr2.frozen? ⟨w.heap.size, 1, none⟩ = false ∧
            w.heap.size < wr2.heap.size ∧ Below w.heap.size w wr2) (fun i _ => l.length - (intOf i).toNat)
        case atStart => exact ⟨k, x1, x2, rfl, HJ.out, hown, hb0, hb1, hf0, hf1, hsz, below_drawn hbel⟩
        case round =>
          clear hown hb0 hb1 hf0 hf1 hsz hbel
          obtain ⟨m, y1, y2, rfl, hinv, hown, hb0, hb1, hf0, hf1, hsz, hbel⟩ := hrel
          have HI := hide hinv; clear hinv
          have hml := HI.out.2.1
          have hgy := HI.out.2.2.1
          unfold Brm.PGood at hgy
          simp only at hgy
          obtain ⟨g1, g2, g3⟩ := hgy
          have hne : b ≠ w.heap.size := by omega
          go_upto_region 6 with fail
          go_cut [45] (fun v wx => v = .bool (testB l m y2) ∧ ∃ n, wx = wr.drewN n)
          case first =>
            have i1 : (0 : Int) ≤ (m : Int) := Int.natCast_nonneg _
            by_cases hlt : m < l.length
            · obtain ⟨b', off', e, _, h1, h2⟩ := HC.out m l[m] (List.getElem?_eq_getElem hlt)
              simp only [Option.some.injEq, Addr.mk.injEq, and_true] at e
              obtain ⟨rfl, rfl⟩ := e
              generalize hy : l[m] = z at h1 h2
              have HY : Hid (testB l m y2 = decide (z.1 ≤ y2 + 1)) := by
                show testB l m y2 = _
                unfold testB; rw [List.getElem?_eq_getElem hlt, hy]
              clear hy
              obtain ⟨z1, z2⟩ := z
              simp only at h1 h2
              rw [← hbel.cell (p := ⟨b, _, none⟩) hb] at h1 h2
              have i2 : (m : Int) < (l.length : Int) := by omega
              go_quiet (fail)
              go_wp2_with fail
              go_meet
              case rel => exact ⟨by rw [HY.out], _, rfl⟩
            · have hd : decide ((m : Int) < (l.length : Int)) = false := by simp; omega
              have HY : Hid (testB l m y2 = false) := by
                show testB l m y2 = _
                unfold testB; rw [List.getElem?_eq_none (by omega)]
              go_quiet (fail)
              go_wp2_with fail
              go_meet
              case rel => exact ⟨by rw [HY.out], _, rfl⟩
          case rest =>
            obtain ⟨rfl, nq2, rfl⟩ := hcut
            cases hT : testB l m y2 with
            | true =>
              obtain ⟨z, hz, hzle⟩ := testB_true hT
              have hlt : m < l.length := (List.getElem?_eq_some_iff.1 hz).1
              have HZ := hide hz
              have HS := hide (Brm.jinv_step HL.out HI.out hz hzle)
              obtain ⟨b', off', e, _, h1, h2⟩ := HC.out m z hz
              simp only [Option.some.injEq, Addr.mk.injEq, and_true] at e
              obtain ⟨rfl, rfl⟩ := e
              obtain ⟨z1, z2⟩ := z
              simp only at h1 h2
              clear hz hT hzle
              rw [← hbel.cell (p := ⟨b, _, none⟩) hb] at h1 h2
              have i1 : (0 : Int) ≤ (m : Int) := Int.natCast_nonneg _
              have i2 : (m : Int) < (l.length : Int) := by omega
              go_wp2_with fail
              go_region
              go_wp2_with fail
              go_region
              go_wp2
              obtain ⟨q1, q2, q3, q4, q5, q6, q7⟩ := box_set (n := nq2 + 1) (n1 := min y1 z1) (n2 := max y2 z2) hown hb0 hb1 hf0 hf1 hsz hbel
              go_roundw
              case rel => exact ⟨m + 1, min y1 z1, max y2 z2, by go_num, HS.out, q1, q2, q3, q4, q5, q6, q7⟩
              case measure => simp [intOf]; omega
            | false =>
              have HE := hide (Brm.jinv_end HL.out HI.out (testB_false hT))
              clear hT
              have hkm := HI.out.1
              have HO : Hid ((wr.drewN nq2).ownsRow (w.heap.size + 1) 149 2 u5 k (cellsR (l.take k))) := hown
              by_cases hcm : cap = m
              · go_wp2_with (first
                  | (at_builtin; refine wpList_append_own _ rfl (.tmp 66) (.tmp 68) 29 rfl (w.heap.size + 1) 149 i0 (.agg #[.int .i64 0, .int .i64 0]) 2 16 Tryz.underlying29 hi hz0 hz1 hz2 rfl (by decide) _ _ _ rfl (HO.out.alloc _) ⟨wr.heap.size, 0, none⟩ 1 1 [.int .i64 y1, .int .i64 y2] rfl rfl (new_cells0 _ _ _) (new_one _ _) (by unfold maxLen; omega) (by omega) (by simp; omega) ?_; intro v' w3 hown' hgrow _; have R2 := Below.keep ((below_drawn hbel : Below w.heap.size w (wr.drewN nq2)).alloc (by simp; omega) _) (by simp; omega) (own_le (HO.out.alloc _) (Nat.le_succ _)) hgrow)
                  | (at_builtin; refine wpList_append_own _ rfl (.tmp 70) (.tmp 73) 29 rfl (w.heap.size + 1) 149 i0 (.agg #[.int .i64 0, .int .i64 0]) 2 16 Tryz.underlying29 hi hz0 hz1 hz2 rfl (by decide) _ _ _ rfl hown' ⟨b, off, none⟩ (l.length - m) _ (cellsR (l.drop m)) rfl (by rw [cellsR_length, List.length_drop]) (src_cells (rd_drop HC.out hml hcap) R2 (by rw [if_pos hcm])) (src_one _) (by unfold maxLen; omega) (by omega) (by have := R2.size; have := hgrow.size; simp at this; omega) ?_; intro v4 w4 hown4 hgrow4 _))
                have R4 := Below.keep R2 (by have := R2.size; omega) (own_le hown' (Nat.le_succ _)) hgrow4
                go_ret
                exact ⟨v4, rfl, l.take k ++ [(y1, y2)] ++ l.drop m, ⟨HE.out.1, HE.out.2, by simp; omega⟩, own_le (own_cat hown4 htl) (Nat.le_succ _), R4⟩
              · go_wp2_with (first
                  | (at_builtin; refine wpList_append_own _ rfl (.tmp 66) (.tmp 68) 29 rfl (w.heap.size + 1) 149 i0 (.agg #[.int .i64 0, .int .i64 0]) 2 16 Tryz.underlying29 hi hz0 hz1 hz2 rfl (by decide) _ _ _ rfl (HO.out.alloc _) ⟨wr.heap.size, 0, none⟩ 1 1 [.int .i64 y1, .int .i64 y2] rfl rfl (new_cells0 _ _ _) (new_one _ _) (by unfold maxLen; omega) (by omega) (by simp; omega) ?_; intro v' w3 hown' hgrow _; have R2 := Below.keep ((below_drawn hbel : Below w.heap.size w (wr.drewN nq2)).alloc (by simp; omega) _) (by simp; omega) (own_le (HO.out.alloc _) (Nat.le_succ _)) hgrow)
                  | (at_builtin; refine wpList_append_own _ rfl (.tmp 70) (.tmp 73) 29 rfl (w.heap.size + 1) 149 i0 (.agg #[.int .i64 0, .int .i64 0]) 2 16 Tryz.underlying29 hi hz0 hz1 hz2 rfl (by decide) _ _ _ rfl hown' ⟨b, off + m * 2, none⟩ (l.length - m) _ (cellsR (l.drop m)) rfl (by rw [cellsR_length, List.length_drop]) (src_cells (rd_drop HC.out hml hcap) R2 (by rw [if_neg hcm])) (src_one _) (by unfold maxLen; omega) (by omega) (by have := R2.size; have := hgrow.size; simp at this; omega) ?_; intro v4 w4 hown4 hgrow4 _))
                have R4 := Below.keep R2 (by have := R2.size; omega) (own_le hown' (Nat.le_succ _)) hgrow4
                go_ret
                exact ⟨v4, rfl, l.take k ++ [(y1, y2)] ++ l.drop m, ⟨HE.out.1, HE.out.2, by simp; omega⟩, own_le (own_cat hown4 htl) (Nat.le_succ _), R4⟩
end Go.Proofs.YtpoibdhhcbelnaaGreatDoor
/- What the reference's join does at whatever slice, its norm, not and or: walks. -/
namespace Go.Proofs.YtpoibdhhcbelnaaGreatDoor
open Go.RowKit

set_option maxRecDepth 100000 in
set_option maxHeartbeats 1000000 in
theorem join_nil (x1 x2 : Int) (w : World) (hx : Brm.PGood (x1, x2)) :
    Calls Tryz.prog 322 #[.slice none 0 0, .agg #[.int .i64 x1, .int .i64 x2]] w fun e w' => ∃ v, e = .returned v ∧ Hands w w' v fun out => Brm.PCanon out ∧ (∀ n, Brm.memB out n = (Brm.memB [] n || Brm.inB (x1, x2) n)) ∧ out.length ≤ 0 + 1 := by
  have HX := hide hx
  clear hx
  obtain ⟨i0, hi, hz0, hz1, hz2⟩ := info_parts Tryz.info149
  have hd : decide ((0 : Int) < 0) = false := rfl
  go_enter Tryz.func322, Tryz.ntmps322
  go_wp2
  go_loopw [5, 6] (fun v i wr => v = .slice none 0 0 ∧ i = .int .i64 0 ∧ ∃ n, wr = (w.alloc (.cells #[.int .i64 x1, .int .i64 x2] 149)).drewN n) (fun _ _ _ => 0)
  case atStart => exact ⟨rfl, rfl, 0, rfl⟩
  case round =>
    obtain ⟨rfl, rfl, n, rfl⟩ := hrel
    go_wp2_with fail
    go_quiet (fail)
    go_wp2
    go_loopw [6] (fun i wr => i = .int .i64 0 ∧ ∃ n, wr = (w.alloc (.cells #[.int .i64 x1, .int .i64 x2] 149)).drewN n) (fun _ _ => 0)
    case atStart => exact ⟨rfl, n + nq, by simp [World.drewN, Nat.add_assoc]⟩
    case round =>
      obtain ⟨rfl, m, rfl⟩ := hrel
      go_wp2_with fail
      go_quiet (fail)
      go_wp2_with (first
        | (at_builtin; refine wpList_append_own _ rfl (.tmp 66) (.tmp 68) 29 rfl (w.heap.size + 1) 149 i0 (.agg #[.int .i64 0, .int .i64 0]) 2 16 Tryz.underlying29 hi hz0 hz1 hz2 rfl (by decide) _ _ _ rfl (World.ownsRow_nil _ _ _ _) ⟨w.heap.size + 1, 0, none⟩ 1 1 [.int .i64 x1, .int .i64 x2] rfl rfl (new_cells _ _ _ _) (new_one _ _) (by unfold maxLen; omega) (by omega) (by simp) ?_; intro v' w3 hown' hgrow _)
        | (at_builtin; refine wpList_append_own_none rfl (.tmp 70) (.tmp 73) 29 rfl (w.heap.size + 1) 149 i0 2 Tryz.underlying29 hi _ _ _ rfl hown' rfl ?_))
      have R2 : Below w.heap.size w w3 := ((below_drawn ((Below.refl _ w).alloc (Nat.le_refl _) _)).alloc (by simp) _).grown hgrow (by simp; omega) (fun k e => by cases e)
      go_ret
      exact ⟨v', rfl, [(x1, x2)], ⟨⟨fun z hz => by simp at hz; exact hz ▸ HX.out, by simp⟩, fun n => by simp [Brm.memB], by simp⟩, own_le hown' (Nat.le_succ _), R2⟩

theorem join_any (v : Value) (l : List (Int × Int)) (x1 x2 : Int) (w : World) (h : Sl w v l) (hlen : l.length ≤ 1000000) (hl : Brm.PCanon l) (hx : Brm.PGood (x1, x2)) :
    Calls Tryz.prog 322 #[v, .agg #[.int .i64 x1, .int .i64 x2]] w fun e w' => ∃ v, e = .returned v ∧ Hands w w' v fun out => Brm.PCanon out ∧ (∀ n, Brm.memB out n = (Brm.memB l n || Brm.inB (x1, x2) n)) ∧ out.length ≤ l.length + 1 := by
  rcases h with ⟨rfl, rfl⟩ | ⟨b, off, cap, rfl, hc, hlt, hr⟩
  · exact join_nil x1 x2 w hx
  · exact join_some b off cap l x1 x2 w hr hlt hc hlen hl hx

/-- What norm has made of the first ranges. -/
def NormI (l : List (Int × Int)) (k : Nat) (out : List (Int × Int)) : Prop :=
  Brm.PCanon out ∧ (∀ r, Brm.runeB r = true → Brm.memB out (Brm.up r) = Brm.memB (l.take k) r) ∧ out.length ≤ k
theorem normi_keep {l out out' : List (Int × Int)} {k : Nat} {x : Int × Int} (h : NormI l k out) (hx : l[k]? = some x) (hok : Brm.okB x = true) (h1 : Brm.PCanon out')
    (h2 : ∀ n, Brm.memB out' n = (Brm.memB out n || Brm.inB (Brm.up x.1, Brm.down x.2) n)) (h3 : out'.length ≤ out.length + 1) : NormI l (k + 1) out' :=
  ⟨h1, fun r hr => by rw [h2, h.2.1 r hr, Brm.lift_in x r hok hr, mem_take_succ hx], by have := h.2.2; omega⟩
theorem normi_drop {l out : List (Int × Int)} {k : Nat} {x : Int × Int} (h : NormI l k out) (hx : l[k]? = some x) (hok : Brm.okB x = true) (hn : ¬ Brm.up x.1 ≤ Brm.down x.2) : NormI l (k + 1) out := by
  refine ⟨h.1, fun r hr => ?_, by have := h.2.2; omega⟩
  rw [h.2.1 r hr, mem_take_succ hx, ← Brm.lift_in x r hok hr]
  have : Brm.inB (Brm.up x.1, Brm.down x.2) (Brm.up r) = false := by
    rw [← Bool.not_eq_true, Brm.in_iff]; simp only; omega
  rw [this, Bool.or_false]

set_option maxRecDepth 100000 in
set_option maxHeartbeats 800000 in
theorem rnorm_any (ao : Option Addr) (l : List (Int × Int)) (cap : Nat) (w : World) (hcells : Rd w ao l) (hlen : l.length ≤ 1000000) (hok : ∀ x ∈ l, Brm.okB x = true) :
    Calls Tryz.prog 321 #[.slice ao l.length cap] w fun e w' => ∃ v out, e = .returned v ∧ Sl w' v out ∧ NormI l l.length out ∧ Below w.heap.size w w' := by
  have HC := hide hcells; have HK := hide hok
  clear hcells hok
  go_enter Tryz.func321, Tryz.ntmps321
  go_wp2
  go_loopw [3, 4] (fun v i wr => ∃ (k : Nat) (out : List (Int × Int)), k ≤ l.length ∧ i = .int .i64 k ∧ Sl wr v out ∧ NormI l k out ∧ Below w.heap.size w wr) (fun _ i _ => l.length - (intOf i).toNat)
  case atStart => exact ⟨0, [], Nat.zero_le _, rfl, .inl ⟨rfl, rfl⟩, ⟨Brm.pcanon_nil, fun _ _ => rfl, by simp⟩, Below.refl _ _⟩
  case round =>
    obtain ⟨k, out, hk, rfl, hsl, hinv, hbel⟩ := hrel
    have hsz := hbel.size
    have HS := hide hsl; have HI := hide hinv
    have hol := hinv.2.2
    clear hsl hinv
    by_cases hlt : k < l.length
    · obtain ⟨b, off, rfl, hb, h1, h2⟩ := HC.out k l[k] (List.getElem?_eq_getElem hlt)
      generalize hx : l[k] = x at h1 h2
      have HX : Hid (l[k]? = some x) := by rw [List.getElem?_eq_getElem hlt, hx]; rfl
      clear hx
      have HOK := hide (HK.out x (List.mem_of_getElem? HX.out))
      have hok2 := HOK.out
      obtain ⟨x1, x2⟩ := x
      simp [Brm.okB] at hok2
      obtain ⟨g1, g2, g3⟩ := hok2
      simp only at h1 h2
      rw [← hbel.cell (p := ⟨b, _, none⟩) hb] at h1 h2
      have i1 : (0 : Int) ≤ (k : Int) := Int.natCast_nonneg _
      have i2 : (k : Int) < (l.length : Int) := by omega
      have hbw : b < wr.heap.size := by omega
      have w1 := World.new_ne wr _ h1
      have w2 := World.new_ne wr _ h2
      go_wp2_with fail
      go_region_held3 (fun w' => w'.cell? ⟨b, off + k * 2, none⟩ = some (.int .i64 x1) ∧ w'.cell? ⟨b, off + k * 2 + 1, none⟩ = some (.int .i64 x2))
        (go_keep)
        ((first
          | (go_at_call 74; refine (up_any _ _ (by omega) (by omega)).mono ?_; rintro e w' ⟨rfl, rfl⟩)
          | (go_at_call 325; refine (down_any _ _ (by omega) (by omega)).mono ?_; rintro e w' ⟨rfl, rfl⟩)))
      all_goals
        by_cases hle : Brm.up x1 ≤ Brm.down x2
        · have HG := hide (Brm.lift_good (x1, x2) HOK.out hle)
          go_wp2_with fail
          refine (join_any _ out _ _ _ (HS.out.below ((Below.refl _ wr).alloc (Nat.le_refl _) _).drew) (by omega) HI.out.1 HG.out).mono ?_
          rintro e w3 ⟨v3, rfl, out', ⟨q1, q2, q3⟩, o3, b3⟩
          have R2 : Below w.heap.size w w3 := (hbel.alloc (by omega) _).drew.trans (b3.mono (by simp; omega))
          have R1 := hide (normi_keep HI.out HX.out HOK.out q1 q2 q3)
          clear q1 q2
          have S1 := hide (own_sl o3)
          go_wp2
          go_roundw
          case rel => exact ⟨k + 1, out', by omega, by go_num, S1.out, R1.out, R2⟩
          case measure => simp [intOf]; omega
        · have R1 := hide (normi_drop HI.out HX.out HOK.out hle)
          go_wp2
          go_roundw
          case rel => exact ⟨k + 1, out, by omega, by go_num, HS.out.below ((Below.refl _ wr).alloc (Nat.le_refl _) _).drew, R1.out, (hbel.alloc (by omega) _).drew⟩
          case measure => simp [intOf]; omega
    · go_wp2
      go_ret
      exact ⟨_, out, rfl, HS.out, (by have e : k = l.length := by omega
                                      exact e ▸ HI.out), hbel⟩
end Go.Proofs.YtpoibdhhcbelnaaGreatDoor
/- What the reference's not and or do: walks. -/
namespace Go.Proofs.YtpoibdhhcbelnaaGreatDoor
open Go.RowKit

set_option maxRecDepth 100000 in
set_option maxHeartbeats 800000 in
theorem rnot_any (ao : Option Addr) (l : List (Int × Int)) (cap : Nat) (w : World) (hcells : Rd w ao l) (hlen : l.length ≤ 1000000) (hl : Brm.PCanon l) :
    Calls Tryz.prog 169 #[.slice ao l.length cap] w fun e w' => ∃ v, e = .returned v ∧ Hands w w' v fun out => Brm.PCanon out ∧ (∀ n, Brm.place n → Brm.memB out n = !Brm.memB l n) ∧ out.length ≤ l.length + 1 := by
  have HC := hide hcells; have HL := hide hl
  clear hcells hl
  obtain ⟨i0, hi, hz0, hz1, hz2⟩ := info_parts Tryz.info149
  have hn0 := hide (Brm.pinv_start HL.out)
  go_enter Tryz.func169, Tryz.ntmps169
  go_wp2
  go_loopw [3, 4, 5] (fun v nx i wr => ∃ (k : Nat) (out : List (Int × Int)) (frm : Int), k ≤ l.length ∧ i = .int .i64 k ∧ nx = .int .i64 frm ∧ Brm.PInv l (l.drop k) out frm ∧ out.length ≤ k ∧ wr.ownsRow w.heap.size 149 2 v out.length (cellsR out) ∧ Below w.heap.size w wr) (fun _ _ i _ => l.length - (intOf i).toNat)
  case atStart => exact ⟨0, [], 0, Nat.zero_le _, rfl, rfl, hn0.out, Nat.zero_le _, World.ownsRow_nil _ _ _ _, Below.refl _ _⟩
  case round =>
    obtain ⟨k, out, frm, hk, rfl, rfl, hinv, hol, hown, hbel⟩ := hrel
    have hsz := hbel.size
    have HI := hide hinv; clear hinv
    have f0 := HI.out.2.2.1
    have f1 := HI.out.2.2.2.1
    by_cases hlt : k < l.length
    · obtain ⟨b, off, rfl, hb, h1, h2⟩ := HC.out k l[k] (List.getElem?_eq_getElem hlt)
      generalize hx : l[k] = x at h1 h2
      have HX : Hid (l[k]? = some x) := by rw [List.getElem?_eq_getElem hlt, hx]; rfl
      clear hx
      have hg := HL.out.1 x (List.mem_of_getElem? HX.out)
      obtain ⟨x1, x2⟩ := x
      unfold Brm.PGood at hg
      simp only at h1 h2 hg
      obtain ⟨g1, g2, g3⟩ := hg
      rw [← hbel.cell (p := ⟨b, _, none⟩) hb] at h1 h2
      have HI2 := hide (drop_cons HX.out ▸ HI.out)
      have HN := hide (Brm.pinv_step HI2.out)
      have e1 : ∀ o c, (wr.alloc o).cell? ⟨b, c, none⟩ = wr.cell? ⟨b, c, none⟩ := fun o c => cell_old o c (by omega)
      by_cases hle : frm < x1
      · have HP : Hid (Brm.putP out frm x1 = out ++ [(frm, x1 - 1)]) := by show Brm.putP out frm x1 = _; unfold Brm.putP; rw [if_pos hle]
        have HB2 := hide hb
        go_wp2_with (at_builtin; refine wpList_append_own _ rfl _ _ 29 rfl w.heap.size 149 i0 (.agg #[.int .i64 0, .int .i64 0]) 2 16 Tryz.underlying29 hi hz0 hz1 hz2 rfl (by decide) _ _ _ rfl (hown.alloc _) ⟨wr.heap.size, 0, none⟩ 1 1 [.int .i64 frm, .int .i64 (x1 - 1)] rfl rfl (new_cells0 _ _ _) (new_one _ _) (by unfold maxLen; omega) (by omega) (by simp; omega) ?_; intro v' w2 hown' hgrow _; have R2 := Below.keep (hbel.alloc (by omega) _) (by simp; omega) (hown.alloc _) hgrow; have hbx : w2.cell? ⟨b, off + k * 2 + 1, none⟩ = some (.int .i64 x2) := (R2.cell (p := ⟨b, _, none⟩) hb).trans ((hbel.cell (p := ⟨b, _, none⟩) hb).symm.trans h2))
        have R1 := own_snoc (y := (frm, x1 - 1)) hown' HP.out
        go_roundw
        case rel => exact ⟨k + 1, Brm.putP out frm x1, x2 + 1, by omega, by go_num, rfl, HN.out, by rw [HP.out]; simp; omega, R1, R2⟩
        case measure => simp [intOf]; omega
      · have HP : Hid (Brm.putP out frm x1 = out) := by show Brm.putP out frm x1 = _; unfold Brm.putP; rw [if_neg hle]; simp
        go_wp2
        go_roundw
        case rel => exact ⟨k + 1, out, x2 + 1, by omega, by go_num, rfl, by have := HN.out; rw [HP.out] at this; exact this, by omega, hown, hbel⟩
        case measure => simp [intOf]; omega
    · have hinv2 : Brm.PInv l [] out frm := by have := HI.out; rwa [List.drop_of_length_le (by omega)] at this
      have HE := hide (Brm.pinv_end hinv2); clear hinv2
      by_cases hle : frm ≤ 1112063
      · go_wp2_with (at_builtin; refine wpList_append_own _ rfl _ _ 29 rfl w.heap.size 149 i0 (.agg #[.int .i64 0, .int .i64 0]) 2 16 Tryz.underlying29 hi hz0 hz1 hz2 rfl (by decide) _ _ _ rfl (hown.alloc _) ⟨wr.heap.size, 0, none⟩ 1 1 [.int .i64 frm, .int .i64 1112063] rfl rfl (new_cells0 _ _ _) (new_one _ _) (by unfold maxLen; omega) (by omega) (by simp; omega) ?_; intro v' w2 hown' hgrow _)
        have HP : Brm.endP out frm = out ++ [(frm, 1112063)] := by unfold Brm.endP; rw [if_pos hle]
        have R1 := own_snoc (y := (frm, 1112063)) hown' HP
        have R2 := Below.keep (hbel.alloc (by omega) _) (by simp; omega) (hown.alloc _) hgrow
        have hE := HE.out
        go_ret
        exact ⟨_, rfl, Brm.endP out frm, ⟨hE.1, hE.2, by rw [HP]; simp; omega⟩, R1, R2⟩
      · have HP : Hid (Brm.endP out frm = out) := by show Brm.endP out frm = out; unfold Brm.endP; rw [if_neg hle]; simp
        go_wp2
        have hE := HE.out
        rw [HP.out] at hE
        go_ret
        exact ⟨_, rfl, out, ⟨hE.1, hE.2, by omega⟩, hown, hbel⟩

set_option maxRecDepth 100000 in
set_option maxHeartbeats 800000 in
theorem ror2_any (v : Value) (bo : Option Addr) (a b : List (Int × Int)) (cb : Nat) (w : World) (ha : Sl w v a) (hb : Rd w bo b) (hal : a.length ≤ 400000) (hbl : b.length ≤ 400000) (hla : Brm.PCanon a) (hlb : Brm.PCanon b) :
    Calls Tryz.prog 312 #[v, .slice bo b.length cb] w fun e w' => ∃ v out, e = .returned v ∧ Sl w' v out ∧ (Brm.PCanon out ∧ (∀ n, Brm.memB out n = (Brm.memB a n || Brm.memB b n)) ∧ out.length ≤ a.length + b.length) ∧ Below w.heap.size w w' := by
  have HA := hide ha; have HB := hide hb; have HLA := hide hla; have HLB := hide hlb
  clear ha hb hla hlb
  go_enter Tryz.func312, Tryz.ntmps312
  go_wp2
  go_loopw [5, 6] (fun u i wr => ∃ (k : Nat) (out : List (Int × Int)), k ≤ b.length ∧ i = .int .i64 k ∧ Sl wr u out ∧ (Brm.PCanon out ∧ (∀ n, Brm.memB out n = (Brm.memB a n || Brm.memB (b.take k) n)) ∧ out.length ≤ a.length + k) ∧ Below w.heap.size w wr) (fun _ i _ => b.length - (intOf i).toNat)
  case atStart => exact ⟨0, a, Nat.zero_le _, rfl, HA.out, ⟨HLA.out, fun n => by simp [Brm.memB], by simp⟩, Below.refl _ _⟩
  case round =>
    obtain ⟨k, out, hk, rfl, hsl, ⟨q1, q2, q3⟩, hbel⟩ := hrel
    have HS := hide hsl; have Q1 := hide q1; have Q2 := hide q2
    clear hsl q1 q2
    have hsz := hbel.size
    by_cases hlt : k < b.length
    · obtain ⟨bb, off, rfl, hbb, h1, h2⟩ := HB.out k b[k] (List.getElem?_eq_getElem hlt)
      generalize hx : b[k] = x at h1 h2
      have HX : Hid (b[k]? = some x) := by rw [List.getElem?_eq_getElem hlt, hx]; rfl
      clear hx
      have HG := hide (HLB.out.1 x (List.mem_of_getElem? HX.out))
      obtain ⟨x1, x2⟩ := x
      simp only at h1 h2
      rw [← hbel.cell (p := ⟨bb, _, none⟩) hbb] at h1 h2
      go_wp2_with fail
      refine (join_any _ out _ _ _ HS.out (by omega) Q1.out HG.out).mono ?_
      rintro e w3 ⟨v3, rfl, out', ⟨p1, p2, p3⟩, o3, b3⟩
      have R2 : Below w.heap.size w w3 := hbel.trans (b3.mono hsz)
      have S1 := hide (own_sl o3)
      have P1 := hide p1
      have P2 : Hid (∀ n, Brm.memB out' n = (Brm.memB a n || Brm.memB (b.take (k + 1)) n)) := fun n => by rw [p2 n, Q2.out n, mem_take_succ HX.out, Bool.or_assoc]
      clear p1 p2 o3
      go_wp2
      go_roundw
      case rel => exact ⟨k + 1, out', by omega, by go_num, S1.out, ⟨P1.out, P2.out, by omega⟩, R2⟩
      case measure => simp [intOf]; omega
    · go_wp2
      go_ret
      exact ⟨_, out, rfl, HS.out, ⟨Q1.out, fun n => by rw [Q2.out n, List.take_of_length_le (by omega)], by omega⟩, hbel⟩
end Go.Proofs.YtpoibdhhcbelnaaGreatDoor
/- The reference's calls on sets, and where what they hand back lies: walks. -/
namespace Go.Proofs.YtpoibdhhcbelnaaGreatDoor
open Go.RowKit

/-- A slice of ranges that is nil, or leads to a row in one of some blocks. -/
def SlA (w : World) (A : Nat → Prop) (v : Value) (l : List (Int × Int)) : Prop :=
  (v = .slice none 0 0 ∧ l = []) ∨ ∃ b off cap, v = .slice (some ⟨b, off, none⟩) l.length cap ∧ l.length ≤ cap ∧ A b ∧ b < w.heap.size ∧ Rd w (some ⟨b, off, none⟩) l
theorem SlA.sl {w : World} {A : Nat → Prop} {v : Value} {l : List (Int × Int)} (h : SlA w A v l) : Sl w v l := by
  rcases h with h | ⟨b, off, cap, e, hc, _, hlt, hr⟩
  · exact .inl h
  · exact .inr ⟨b, off, cap, e, hc, hlt, hr⟩
theorem SlA.below {w w' : World} {A : Nat → Prop} {v : Value} {l : List (Int × Int)} (h : SlA w A v l) (hb : Below w.heap.size w w') : SlA w' A v l := by
  rcases h with h | ⟨b, off, cap, e, hc, ha, hlt, hr⟩
  · exact .inl h
  · exact .inr ⟨b, off, cap, e, hc, ha, Nat.lt_of_lt_of_le hlt hb.size, hr.below hb⟩
theorem own_slA {w : World} {B : Nat} {A : Nat → Prop} {v : Value} {l : List (Int × Int)} (h : w.ownsRow B 149 2 v l.length (cellsR l)) (hA : ∀ k, B ≤ k → A k) : SlA w A v l := by
  rcases own_sl h with h2 | ⟨b, off, cap, rfl, hc, hlt, hr⟩
  · exact .inl h2
  · rcases h.2 with ⟨e, _⟩ | ⟨g, cap', cur, e, hg, _⟩
    · cases e
    · cases e
      exact .inr ⟨b, 0, cap, rfl, hc, hA b hg, hlt, hr⟩
theorem SlA.mono {w : World} {A A' : Nat → Prop} {v : Value} {l : List (Int × Int)} (h : SlA w A v l) (k : ∀ g, g < w.heap.size → A g → A' g) : SlA w A' v l := by
  rcases h with h | ⟨b, off, cap, e, hc, ha, hlt, hr⟩
  · exact .inl h
  · exact .inr ⟨b, off, cap, e, hc, k b hlt ha, hlt, hr⟩

set_option maxRecDepth 100000 in
set_option maxHeartbeats 800000 in
theorem rnormA (ao : Option Addr) (l : List (Int × Int)) (cap : Nat) (w : World) (hcells : Rd w ao l) (hlen : l.length ≤ 1000000) (hok : ∀ x ∈ l, Brm.okB x = true) :
    Calls Tryz.prog 321 #[.slice ao l.length cap] w fun e w' => ∃ v out, e = .returned v ∧ SlA w' (fun k => w.heap.size ≤ k) v out ∧ NormI l l.length out ∧ Below w.heap.size w w' := by
  have HC := hide hcells; have HK := hide hok
  clear hcells hok
  go_enter Tryz.func321, Tryz.ntmps321
  go_wp2
  go_loopw [3, 4] (fun v i wr => ∃ (k : Nat) (out : List (Int × Int)), k ≤ l.length ∧ i = .int .i64 k ∧ SlA wr (fun k => w.heap.size ≤ k) v out ∧ NormI l k out ∧ Below w.heap.size w wr) (fun _ i _ => l.length - (intOf i).toNat)
  case atStart => exact ⟨0, [], Nat.zero_le _, rfl, .inl ⟨rfl, rfl⟩, ⟨Brm.pcanon_nil, fun _ _ => rfl, by simp⟩, Below.refl _ _⟩
  case round =>
    obtain ⟨k, out, hk, rfl, hsl, hinv, hbel⟩ := hrel
    have hsz := hbel.size
    have HS := hide hsl; have HI := hide hinv
    have hol := hinv.2.2
    clear hsl hinv
    by_cases hlt : k < l.length
    · obtain ⟨b, off, rfl, hb, h1, h2⟩ := HC.out k l[k] (List.getElem?_eq_getElem hlt)
      generalize hx : l[k] = x at h1 h2
      have HX : Hid (l[k]? = some x) := by rw [List.getElem?_eq_getElem hlt, hx]; rfl
      clear hx
      have HOK := hide (HK.out x (List.mem_of_getElem? HX.out))
      have hok2 := HOK.out
      obtain ⟨x1, x2⟩ := x
      simp [Brm.okB] at hok2
      obtain ⟨g1, g2, g3⟩ := hok2
      simp only at h1 h2
      rw [← hbel.cell (p := ⟨b, _, none⟩) hb] at h1 h2
      have i1 : (0 : Int) ≤ (k : Int) := Int.natCast_nonneg _
      have i2 : (k : Int) < (l.length : Int) := by omega
      have hbw : b < wr.heap.size := by omega
      have w1 := World.new_ne wr _ h1
      have w2 := World.new_ne wr _ h2
      go_wp2_with fail
      go_region_held3 (fun w' => w'.cell? ⟨b, off + k * 2, none⟩ = some (.int .i64 x1) ∧ w'.cell? ⟨b, off + k * 2 + 1, none⟩ = some (.int .i64 x2))
        (go_keep)
        ((first
          | (go_at_call 74; refine (up_any _ _ (by omega) (by omega)).mono ?_; rintro e w' ⟨rfl, rfl⟩)
          | (go_at_call 325; refine (down_any _ _ (by omega) (by omega)).mono ?_; rintro e w' ⟨rfl, rfl⟩)))
      all_goals
        by_cases hle : Brm.up x1 ≤ Brm.down x2
        · have HG := hide (Brm.lift_good (x1, x2) HOK.out hle)
          go_wp2_with fail
          refine (join_any _ out _ _ _ (HS.out.below ((Below.refl _ wr).alloc (Nat.le_refl _) _).drew).sl (by omega) HI.out.1 HG.out).mono ?_
          rintro e w3 ⟨v3, rfl, out', ⟨q1, q2, q3⟩, o3, b3⟩
          have R2 : Below w.heap.size w w3 := (hbel.alloc (by omega) _).drew.trans (b3.mono (by simp; omega))
          have R1 := hide (normi_keep HI.out HX.out HOK.out q1 q2 q3)
          clear q1 q2
          have S1 := hide (own_slA (A := fun k => w.heap.size ≤ k) o3 (fun k hk => by simp at hk; omega))
          go_wp2
          go_roundw
          case rel => exact ⟨k + 1, out', by omega, by go_num, S1.out, R1.out, R2⟩
          case measure => simp [intOf]; omega
        · have R1 := hide (normi_drop HI.out HX.out HOK.out hle)
          go_wp2
          go_roundw
          case rel => exact ⟨k + 1, out, by omega, by go_num, HS.out.below ((Below.refl _ wr).alloc (Nat.le_refl _) _).drew, R1.out, (hbel.alloc (by omega) _).drew⟩
          case measure => simp [intOf]; omega
    · go_wp2
      go_ret
      exact ⟨_, out, rfl, HS.out, (by have e : k = l.length := by omega
                                      exact e ▸ HI.out), hbel⟩

set_option maxRecDepth 100000 in
set_option maxHeartbeats 800000 in
theorem rorA (A : Nat → Prop) (v : Value) (bo : Option Addr) (a b : List (Int × Int)) (cb : Nat) (w : World) (ha : SlA w A v a) (hA : ∀ k, w.heap.size ≤ k → A k) (hb : Rd w bo b) (hal : a.length ≤ 400000) (hbl : b.length ≤ 400000) (hla : Brm.PCanon a) (hlb : Brm.PCanon b) :
    Calls Tryz.prog 312 #[v, .slice bo b.length cb] w fun e w' => ∃ v out, e = .returned v ∧ SlA w' A v out ∧ (Brm.PCanon out ∧ (∀ n, Brm.memB out n = (Brm.memB a n || Brm.memB b n)) ∧ out.length ≤ a.length + b.length) ∧ Below w.heap.size w w' := by
  have HAA := hide hA; clear hA; have HA := hide ha; have HB := hide hb; have HLA := hide hla; have HLB := hide hlb
  clear ha hb hla hlb
  go_enter Tryz.func312, Tryz.ntmps312
  go_wp2
  go_loopw [5, 6] (fun u i wr => ∃ (k : Nat) (out : List (Int × Int)), k ≤ b.length ∧ i = .int .i64 k ∧ SlA wr A u out ∧ (Brm.PCanon out ∧ (∀ n, Brm.memB out n = (Brm.memB a n || Brm.memB (b.take k) n)) ∧ out.length ≤ a.length + k) ∧ Below w.heap.size w wr) (fun _ i _ => b.length - (intOf i).toNat)
  case atStart => exact ⟨0, a, Nat.zero_le _, rfl, HA.out, ⟨HLA.out, fun n => by simp [Brm.memB], by simp⟩, Below.refl _ _⟩
  case round =>
    obtain ⟨k, out, hk, rfl, hsl, ⟨q1, q2, q3⟩, hbel⟩ := hrel
    have HS := hide hsl; have Q1 := hide q1; have Q2 := hide q2
    clear hsl q1 q2
    have hsz := hbel.size
    by_cases hlt : k < b.length
    · obtain ⟨bb, off, rfl, hbb, h1, h2⟩ := HB.out k b[k] (List.getElem?_eq_getElem hlt)
      generalize hx : b[k] = x at h1 h2
      have HX : Hid (b[k]? = some x) := by rw [List.getElem?_eq_getElem hlt, hx]; rfl
      clear hx
      have HG := hide (HLB.out.1 x (List.mem_of_getElem? HX.out))
      obtain ⟨x1, x2⟩ := x
      simp only at h1 h2
      rw [← hbel.cell (p := ⟨bb, _, none⟩) hbb] at h1 h2
      go_wp2_with fail
      refine (join_any _ out _ _ _ HS.out.sl (by omega) Q1.out HG.out).mono ?_
      rintro e w3 ⟨v3, rfl, out', ⟨p1, p2, p3⟩, o3, b3⟩
      have R2 : Below w.heap.size w w3 := hbel.trans (b3.mono hsz)
      have S1 := hide (own_slA (A := A) o3 (fun k hk => HAA.out k (by omega)))
      have P1 := hide p1
      have P2 : Hid (∀ n, Brm.memB out' n = (Brm.memB a n || Brm.memB (b.take (k + 1)) n)) := fun n => by rw [p2 n, Q2.out n, mem_take_succ HX.out, Bool.or_assoc]
      clear p1 p2 o3
      go_wp2
      go_roundw
      case rel => exact ⟨k + 1, out', by omega, by go_num, S1.out, ⟨P1.out, P2.out, by omega⟩, R2⟩
      case measure => simp [intOf]; omega
    · go_wp2
      go_ret
      exact ⟨_, out, rfl, HS.out, ⟨Q1.out, fun n => by rw [Q2.out n, List.take_of_length_le (by omega)], by omega⟩, hbel⟩
end Go.Proofs.YtpoibdhhcbelnaaGreatDoor
