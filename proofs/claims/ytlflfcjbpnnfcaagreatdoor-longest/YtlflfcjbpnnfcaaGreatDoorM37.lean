/- Walks and plain laws, some texts in one. -/
import Derived.Test.YtlflfcjbpnnfcaaGreatDoorM36
import Derived.Test.YtlflfcjbpnnfcaaGreatDoorM33
/- The runes with which a least text can do: some numbers, in memory of their own: walks. -/
namespace Go.Proofs.YtlflfcjbpnnfcaaGreatDoor
open Go.Shelf Go.RowKit

/-- Nodes in memory behind a slice. -/
def NodesA (w : World) (a : Option Addr) (xs : List Nat) : Prop := ∀ j x, xs[j]? = some x → ∃ b off, a = some ⟨b, off, none⟩ ∧ b < w.heap.size ∧ w.cell? ⟨b, off + j, none⟩ = some (.pointer (some ⟨x, 0, none⟩))
theorem NodesA.below {w w' : World} {a : Option Addr} {xs : List Nat} (h : NodesA w a xs) (k : Below w.heap.size w w') : NodesA w' a xs := by
  intro j x hx
  obtain ⟨b, off, rfl, hb, hc⟩ := h j x hx
  exact ⟨b, off, rfl, Nat.lt_of_lt_of_le hb k.size, (k.cell (p := ⟨b, _, none⟩) hb).trans hc⟩
/-- What firsts hands back: numbers from 0 to the greatest rune, in a block of its own. -/
def FirstsQ (K : Nat) (w : World) (e : Ending) (w' : World) : Prop := ∃ (L : List Int) (g c : Nat), e = .returned (.slice (some ⟨g, 0, none⟩) L.length c) ∧ L.length ≤ c ∧ L.length ≤ K ∧ (∀ x ∈ L, 0 ≤ x ∧ x ≤ 1114111) ∧ w.heap.size ≤ g ∧ RowH w' g L ∧ Below w.heap.size w w'
/-- A node whose set has few ranges, and whose parts' firsts are at most so many. -/
structure NodeF (w : World) (x : Nat) (K : Nat) : Prop where
  set : ∃ la lc l, w.cell? ⟨x, 1, none⟩ = some (.slice la l.length lc) ∧ Rd w la l ∧ l.length ≤ 10 ∧ ∀ y ∈ l, 0 ≤ y.1 ∧ y.1 ≤ 1114111 ∧ 0 ≤ y.2 ∧ y.2 ≤ 1114111
  parts : ∃ pv, w.cell? ⟨x, 2, none⟩ = some pv ∧ (∃ a n c, pv = .slice a n c) ∧ ∀ W, Below w.heap.size w W → Calls Tryz.prog 90 #[pv] W (FirstsQ K W)
  lt : x < w.heap.size
theorem NodeF.below {w w' : World} {x K : Nat} (h : NodeF w x K) (k : Below w.heap.size w w') : NodeF w' x K := by
  obtain ⟨⟨la, lc, l, h1, h2, h3⟩, ⟨pv, h4, h5, h6⟩, h7⟩ := h
  exact ⟨⟨la, lc, l, (k.cell (p := ⟨x, 1, none⟩) h7).trans h1, h2.below k, h3⟩, ⟨pv, (k.cell (p := ⟨x, 2, none⟩) h7).trans h4, h5, fun W hW => h6 W (k.trans (hW.mono k.size))⟩, Nat.lt_of_lt_of_le h7 k.size⟩
theorem after_range {r : Int} (h0 : 0 ≤ r) (h1 : r ≤ 1114111) : 0 ≤ Brm.after r ∧ Brm.after r ≤ 1114112 := by unfold Brm.after; split <;> omega
/-- A row of one's own, as Sort takes it. -/
theorem own_row {w : World} {B n : Nat} {v : Value} {L : List Int} (h : w.ownsRow B 3 1 v n (ints L)) (hn : 0 < n) : ∃ g c, v = .slice (some ⟨g, 0, none⟩) L.length c ∧ L.length ≤ c ∧ B ≤ g ∧ RowH w g L := by
  have hl := h.1
  simp [ints] at hl
  have hrow := h
  rcases h.2 with ⟨_, h0⟩ | ⟨g, cap, cur, rfl, hg, hh, r⟩
  · omega
  · refine ⟨g, cap, by rw [hl], by rw [hl]; exact r.1, hg, ⟨fun j hj => ?_, (hrow.lt g rfl).2⟩⟩
    have hj' : j < L.length := by simpa using hj
    refine ⟨?_, hrow.frozenAt _⟩
    rw [Nat.zero_add, hrow.cellAt j (by omega)]
    simp [ints, List.getElem?_map, List.getElem?_eq_getElem hj', getElem!_pos L.toArray j (by simpa using hj')]
end Go.Proofs.YtlflfcjbpnnfcaaGreatDoor
/- The runes with which a least text can do: the walk. -/
namespace Go.Proofs.YtlflfcjbpnnfcaaGreatDoor
open Go.Shelf Go.RowKit

theorem own_below {w w' : World} {B n : Nat} {v : Value} {xs : List Value} (h : w.ownsRow B 3 1 v n xs) (k : Below w.heap.size w w') : w'.ownsRow B 3 1 v n xs := by
  have hlt := h.lt
  obtain ⟨h1, h2⟩ := h
  refine ⟨h1, ?_⟩
  rcases h2 with h2 | ⟨g, cap, cur, rfl, hg, hh, r⟩
  · exact .inl h2
  · exact .inr ⟨g, cap, cur, rfl, hg, (k.block g (hlt g rfl).2).trans hh, r⟩
theorem pair_cells (w : World) (y1 y2 : Int) : ∀ j u, [Value.int .i64 y1, Value.int .i64 y2][j]? = some u → (w.alloc (.cells #[.int .i64 y1, .int .i64 y2] 3)).drew.cell? ((⟨w.heap.size, 0, none⟩ : Addr).add j) = some u := by
  intro j u hj
  match j, hj with
  | 0, hj => simp at hj; subst hj; simp [Addr.add]
  | 1, hj => simp at hj; subst hj; simp [Addr.add]
/-- The numbers so far: of one's own, few, and in their bounds. -/
def OutI (w : World) (S N : Nat) (ov : Value) (wr : World) : Prop := ∃ L : List Int, wr.ownsRow S 3 1 ov L.length (ints L) ∧ 0 < L.length ∧ L.length ≤ N ∧ (∀ x ∈ L, 0 ≤ x ∧ x ≤ 1114112) ∧ Below S w wr
theorem OutI.below {w wr w' : World} {S N : Nat} {ov : Value} (h : OutI w S N ov wr) (k : Below wr.heap.size wr w') (hS : S ≤ wr.heap.size) : OutI w S N ov w' := by
  obtain ⟨L, h1, h2, h3, h4, h5⟩ := h
  exact ⟨L, own_below h1 k, h2, h3, h4, h5.trans (k.mono hS)⟩
theorem OutI.mono {w wr : World} {S N N' : Nat} {ov : Value} (h : OutI w S N ov wr) (k : N ≤ N') : OutI w S N' ov wr := by
  obtain ⟨L, h1, h2, h3, h4, h5⟩ := h
  exact ⟨L, h1, h2, by omega, h4, h5⟩
set_option maxRecDepth 100000 in
set_option maxHeartbeats 4000000 in
theorem firsts_any (a : Option Addr) (c : Nat) (xs : List Nat) (K : Nat) (w : World) (hA : NodesA w a xs) (hN : ∀ x ∈ xs, NodeF w x K) (hl : xs.length ≤ 10) (hK : K ≤ 5000) :
    Calls Tryz.prog 90 #[.slice a xs.length c] w (FirstsQ (1 + xs.length * (20 + K)) w) := by
  obtain ⟨i0, hi, hz0, hz1, hz2⟩ := info_parts Tryz.info3
  obtain ⟨W0, hW0⟩ : ∃ W0, w.alloc (.cells #[.int .i64 0] 3) = W0 := ⟨_, rfl⟩
  have hB0 : Below w.heap.size w W0 := by rw [← hW0]; exact (Below.refl _ _).alloc (Nat.le_refl _) _
  have hO0 : OutI w w.heap.size 1 (.slice (some ⟨w.heap.size, 0, none⟩) 1 1) W0 := by
    rw [← hW0]
    exact ⟨[0], World.ownsRow_lit w #[.int .i64 0] 1 (Nat.le_refl _) (by unfold maxLen; omega) rfl, by simp, by simp, by simp, (Below.refl _ _).alloc (Nat.le_refl _) _⟩
  have hs0 : W0.heap.size = w.heap.size + 1 := by rw [← hW0]; simp
  have HA := hide hA
  have HN := hide hN
  have HW0 := hide hW0
  have HB0 := hide hB0
  have HO0 := hide hO0
  clear hA hN hW0 hB0 hO0
  go_enter Tryz.func90, Tryz.ntmps90
  go_wp2_with fail
  rw [HW0.out]
  generalize hS : w.heap.size = S at *
  go_loopg [3, 11] xs.length (fun j ov iv wr => ∃ i : Nat, iv = .int .i64 (i : Int) ∧ i ≤ xs.length ∧ xs.length - i ≤ j ∧ OutI w S (1 + i * (20 + K)) ov wr ∧ S < wr.heap.size)
  case atStart => exact ⟨0, rfl, Nat.zero_le _, by omega, HO0.out.mono (by omega), by omega⟩
  case round =>
    obtain ⟨i, rfl, hil, hj, hout, hSr⟩ := hrel
    have k0 : (0 : Int) ≤ (i : Int) := Int.natCast_nonneg _
    have hBel : Below S w wr := by obtain ⟨L, _, _, _, _, h5⟩ := hout; exact h5
    have hBw : Below w.heap.size w wr := by rw [hS]; exact hBel
    by_cases hlt : i < xs.length
    · have k1 : (i : Int) < (xs.length : Int) := by omega
      obtain ⟨x, hx⟩ : ∃ x, xs[i]? = some x := ⟨_, List.getElem?_eq_getElem hlt⟩
      obtain ⟨b, off, rfl, hb, hcx⟩ := (HA.out.below hBw) i x hx
      have hnode := HN.out x (List.mem_of_getElem? hx)
      obtain ⟨la, lc, l, hc0, hrd, hl10, hrng⟩ := hnode.set
      have hc1 := (hBw.cell (p := ⟨x, 1, none⟩) hnode.lt).trans hc0
      have hxl : x < wr.heap.size := Nat.lt_of_lt_of_le hnode.lt hBw.size
      have HNODE := hide hnode
      have HOUT := hide hout
      have HRD := hide hrd
      have HRNG := hide hrng
      have hbw : b < wr.heap.size := hb
      clear hx hnode hout hrd hrng hBel hBw hc0
      go_wp2_with fail
      go_loopg [3, 20] l.length (fun j ov qv wr => ∃ q : Nat, qv = .int .i64 (q : Int) ∧ q ≤ l.length ∧ l.length - q ≤ j ∧ OutI w S (1 + i * (20 + K) + 2 * q) ov wr ∧ S < wr.heap.size)
      case atStart => exact ⟨0, rfl, Nat.zero_le _, by omega, HOUT.out, hSr⟩
      case round =>
        obtain ⟨q, rfl, hql, hqj, hout2, hSr2⟩ := hrel
        have q0 : (0 : Int) ≤ (q : Int) := Int.natCast_nonneg _
        have hBel2 : Below S w wr := by obtain ⟨L, _, _, _, _, h5⟩ := hout2; exact h5
        have hBw2 : Below w.heap.size w wr := by rw [hS]; exact hBel2
        by_cases hqlt : q < l.length
        · have q1 : (q : Int) < (l.length : Int) := by omega
          obtain ⟨b2, off2, rfl, hb2, h1, h2⟩ := (HRD.out.below hBw2) q l[q] (List.getElem?_eq_getElem hqlt)
          have hr4 := HRNG.out l[q] (List.getElem_mem hqlt)
          generalize l[q] = y at h1 h2 hr4
          obtain ⟨x1, x2⟩ := y
          simp only at h1 h2 hr4
          obtain ⟨r1, r2, r3, r4⟩ := hr4
          have HAF := hide (after_range r3 r4)
          obtain ⟨L, hown, hL0, hLN, hLr, _⟩ := hout2
          have HLR := hide hLr
          have HOWN := hide hown
          have HB2 := hide hBel2
          have hR := Blk.new wr [.int .i64 x1, .int .i64 x2] 149
          have HRB := hide hR
          have hown1 := hown.alloc (.cells #[.int .i64 x1, .int .i64 x2] 149)
          have HBA : Hid (Below S w (wr.alloc (.cells #[.int .i64 x1, .int .i64 x2] 149))) := hBel2.alloc (Nat.le_of_lt hSr2) _
          have HRS : Hid (S ≤ wr.heap.size) := Nat.le_of_lt hSr2
          clear hLr hown hBel2 hBw2 hSr2 hR
          go_wp2_with fail
          generalize hR : wr.heap.size = R at *
          obtain ⟨W1, hW1⟩ : ∃ W1, wr.alloc (.cells #[.int .i64 x1, .int .i64 x2] 149) = W1 := ⟨_, rfl⟩
          rw [hW1] at HRB hown1 HBA
          have e0 : W1.cell? ⟨R, 0, none⟩ = some (.int .i64 x1) := HRB.out.cell 0
          have e1 : W1.cell? ⟨R, 1, none⟩ = some (.int .i64 x2) := HRB.out.cell 1
          rw [hW1]
          refine wp_region_held_drew (S := fun w' : World => w'.cell? ⟨R, 0, none⟩ = some (.int .i64 x1) ∧ w'.cell? ⟨R, 1, none⟩ = some (.int .i64 x2)) (by kernel_rfl) ⟨e0, e1⟩ (fun hHeld => ?_)
          refine wpAnyH_take (i := 0) (oi := _) (v := u3) rfl (by kernel_rfl) (by kernel_rfl) (by kernel_rfl) (fun _ _ _ h => h) (Or.inl ⟨by rfl, by intro w hSw; go_simp⟩) (by assumption) ?_
          try simp only [Act.put, List.setIfInBounds_toArray, List.set_cons_zero, List.set_cons_succ, List.getElem_toArray, List.getElem_cons_zero]
          refine wpAnyH_take (i := 1) (oi := _) (v := .pointer (some ⟨R, 0, none⟩)) rfl (by kernel_rfl) (by kernel_rfl) (by kernel_rfl) (fun _ _ _ h => h) (Or.inl ⟨by rfl, by intro w hSw; go_simp⟩) (by assumption) ?_
          try simp only [Act.put, List.setIfInBounds_toArray, List.set_cons_zero, List.set_cons_succ, List.getElem_toArray, List.getElem_cons_zero, List.getElem_cons_succ]
          refine wpAnyH_take (i := 2) (oi := _) (v := .int .i64 x1) rfl (by kernel_rfl) (by kernel_rfl) (by kernel_rfl) (fun _ _ _ h => h) (Or.inl ⟨by rfl, by intro w hSw; go_simp⟩) (by assumption) ?_
          try simp only [Act.put, List.setIfInBounds_toArray, List.set_cons_zero, List.set_cons_succ, List.getElem_toArray, List.getElem_cons_zero, List.getElem_cons_succ]
          refine wpAnyH_take (i := 3) (oi := _) (v := .pointer (some ⟨R, 1, none⟩)) rfl (by kernel_rfl) (by kernel_rfl) (by kernel_rfl) (fun _ _ _ h => h) (Or.inl ⟨by rfl, by intro w hSw; go_simp⟩) (by assumption) ?_
          try simp only [Act.put, List.setIfInBounds_toArray, List.set_cons_zero, List.set_cons_succ, List.getElem_toArray, List.getElem_cons_zero, List.getElem_cons_succ]
          refine wpAnyH_take (i := 4) (oi := _) (v := .int .i64 x2) rfl (by kernel_rfl) (by kernel_rfl) (by kernel_rfl) (fun _ _ _ h => h) (Or.inl ⟨by rfl, by intro w hSw; go_simp⟩) (by assumption) ?_
          try simp only [Act.put, List.setIfInBounds_toArray, List.set_cons_zero, List.set_cons_succ, List.getElem_toArray, List.getElem_cons_zero, List.getElem_cons_succ]
          refine wpAnyH_ready (rs := [5]) (by kernel_rfl) (by simp) ?_
          refine AllReadyH.cons (o := _) rfl (fun Kc hK => ?_) AllReadyH.nil
          go_simp
          refine (after_any x2 _ r3 r4).mono ?_
          rintro e w5 ⟨rfl, hw5⟩
          have hw6 := hw5.symm
          subst hw6
          clear hw5
          go_wp2_with fail
          refine hK.out _ _ ⟨e0, e1⟩ (fun hHeld => ?_)
          clear hK Kc
          try simp only [Act.put, List.setIfInBounds_toArray, List.set_cons_zero, List.set_cons_succ]
          refine wpAnyH_ready (rs := [6]) (by kernel_rfl) (by simp) ?_
          refine AllReadyH.cons (o := _) rfl (fun Kc hK => ?_) AllReadyH.nil
          go_simp
          refine hK.out _ _ ⟨(HRB.out.alloc _).cell 0, (HRB.out.alloc _).cell 1⟩ (fun hHeld => ?_)
          clear hK Kc
          try simp only [Act.put, List.setIfInBounds_toArray, List.set_cons_zero, List.set_cons_succ]
          refine wpAnyH_ready (rs := [7]) (by kernel_rfl) (by simp) ?_
          refine AllReadyH.cons (o := _) rfl (fun Kc hK => ?_) AllReadyH.nil
          rw [if_pos (by rfl)]
          have hW1z : W1.heap.size = R + 1 := by rw [← hW1]; simp [hR]
          have hSR := HRS.out
          have hiK : i * (20 + K) ≤ 10 * 5020 := Nat.mul_le_mul (by omega) (by omega)
          have hLb : L.length ≤ 60000 := by omega
          refine wp_append_own _ _ _ 48 rfl S 3 i0 (.int .i64 0) 1 8 Tryz.underlying48 hi hz0 hz1 hz2 rfl (by decide) _ _ _ rfl (hown1.alloc _) ⟨W1.heap.size, 0, none⟩ 2 2 [.int .i64 x1, .int .i64 (Brm.after x2)] rfl rfl (pair_cells W1 _ _) (new_one _ _) (by unfold maxLen; omega) (by omega) (by simp; omega) ?_
          intro v' w3 hown' hgrow _
          have hfar : ∀ k, R ≤ k → some k ≠ Value.ownBlock u3 := fun k hk e => by have := (HOWN.out.lt k e.symm).2; omega
          have hr3 := ((HRB.out.alloc (.cells #[.int .i64 x1, .int .i64 (Brm.after x2)] 3)).drew).grown hgrow (hfar R (Nat.le_refl _))
          have hb3 : Below S w w3 := ((HBA.out.alloc (by omega) (.cells #[.int .i64 x1, .int .i64 (Brm.after x2)] 3)).drew).grown hgrow (by simp; omega) (fun k e => (HOWN.out.lt k e).1)
          have HB3 := hide hb3
          have hsz3 : S < w3.heap.size := by have := hr3.lt; omega
          have HOUT3 : Hid (OutI w S (1 + i * (20 + K) + 2 * (q + 1)) v' w3) := by
            refine ⟨L ++ [x1, Brm.after x2], ?_, by simp, by simp; omega, ?_, hb3⟩
            · have e9 : ints (L ++ [x1, Brm.after x2]) = ints L ++ [.int .i64 x1, .int .i64 (Brm.after x2)] := by simp [ints]
              rw [e9]; simpa using hown'
            · intro y hy
              rcases List.mem_append.1 hy with hy | hy
              · exact HLR.out y hy
              · simp only [List.mem_cons, List.not_mem_nil, or_false] at hy
                rcases hy with rfl | rfl
                · omega
                · exact HAF.out
          refine hK.out _ _ ⟨hr3.cell 0, hr3.cell 1⟩ (fun hHeld => ?_)
          clear hK Kc hgrow hown' hb3 hr3 hfar
          try simp only [Act.put, List.setIfInBounds_toArray, List.set_cons_zero, List.set_cons_succ, List.getElem_toArray, List.getElem_cons_zero, List.getElem_cons_succ]
          refine wpAnyH_take (i := 8) (oi := _) (v := v') rfl (by kernel_rfl) (by kernel_rfl) (by kernel_rfl) (fun _ _ _ h => h) (Or.inl ⟨by rfl, by intro w hSw; go_simp⟩) (by assumption) ?_
          try simp only [Act.put, List.setIfInBounds_toArray, List.set_cons_zero, List.set_cons_succ, List.getElem_toArray, List.getElem_cons_zero, List.getElem_cons_succ]
          refine wpAnyH_done (by kernel_rfl) ?_ _
          go_wp2_with fail
          go_roundg (gk - 1)
          case measure => omega
          case rel => exact ⟨q + 1, by go_num, by omega, by omega, HOUT3.out, hsz3⟩
        · have d1 : decide ((q : Int) < (l.length : Int)) = false := decide_eq_false (by omega)
          have d2 : decide (q < l.length) = false := decide_eq_false hqlt
          obtain ⟨pv, hp0, ⟨pa, pn, pc, rfl⟩, hcall⟩ := HNODE.out.parts
          have hp1 := (hBw2.cell (p := ⟨x, 2, none⟩) HNODE.out.lt).trans hp0
          have hxl2 : x < wr.heap.size := Nat.lt_of_lt_of_le HNODE.out.lt hBw2.size
          have HCALL := hide (hcall wr hBw2)
          have HOUT2 := hide hout2
          clear hp0 hcall hout2 hBel2 hBw2
          go_wp2_with fail
          refine HCALL.out.mono ?_
          rintro e w5 ⟨L5, g5, c5, rfl, hc5, hK5, hr5, hg5, hrow5, hb5⟩
          obtain ⟨L, hown, hL0, hLN, hLr, hBL⟩ := HOUT2.out.below hb5 (Nat.le_of_lt hSr2)
          have hiK : i * (20 + K) ≤ 10 * 5020 := Nat.mul_le_mul (by omega) (by omega)
          have hLb : L.length ≤ 60000 := by omega
          have hs5 : S < w5.heap.size := Nat.lt_of_lt_of_le hSr2 hb5.size
          have HLR := hide hLr
          have HOWN := hide hown
          have HBL := hide hBL
          have HR5 := hide hr5
          have hcells : ∀ j u, (ints L5)[j]? = some u → w5.cell? ((⟨g5, 0, none⟩ : Addr).add j) = some u := by
            intro j u hju
            rw [Addr.add_mid, Nat.zero_add]
            unfold ints at hju
            rw [List.getElem?_map] at hju
            cases hv : L5[j]? with
            | none => rw [hv] at hju; cases hju
            | some z => rw [hv] at hju; cases hju; exact hrow5.cell hv
          have hone : ∀ u ∈ ints L5, u.oneCell' = true := by
            intro u hu
            unfold ints at hu
            obtain ⟨z, _, rfl⟩ := List.mem_map.1 hu
            rfl
          clear hLr hBL hr5 hrow5 hb5 HOUT2
          go_wp2_with (at_builtin; refine wpList_append_own _ rfl _ _ 48 rfl S 3 i0 (.int .i64 0) 1 8 Tryz.underlying48 hi hz0 hz1 hz2 rfl (by decide) _ _ _ rfl hown ⟨g5, 0, none⟩ L5.length c5 (ints L5) rfl (by simp [ints]) hcells hone (by unfold maxLen; omega) (by omega) (Nat.le_of_lt hs5) ?_; intro v' w6 hown' hgrow _)
          have hb6 : Below S w w6 := HBL.out.grown hgrow (Nat.le_of_lt hs5) (fun k e => (HOWN.out.lt k e).1)
          have hs6 : S < w6.heap.size := Nat.lt_of_lt_of_le hs5 hgrow.size
          go_roundg (xs.length - (i + 1))
          case measure => omega
          case rel =>
            refine ⟨i + 1, by go_num, by omega, Nat.le_refl _, ⟨L ++ L5, ?_, by simp; omega, ?_, ?_, hb6⟩, hs6⟩
            · have e9 : ints (L ++ L5) = ints L ++ ints L5 := by simp [ints]
              rw [e9, List.length_append]; exact hown'
            · rw [List.length_append, Nat.succ_mul]; omega
            · intro y hy
              rcases List.mem_append.1 hy with hy | hy
              · exact HLR.out y hy
              · have := HR5.out y hy; omega
    · have d1 : decide ((i : Int) < (xs.length : Int)) = false := decide_eq_false (by omega)
      have d2 : decide (i < xs.length) = false := decide_eq_false hlt
      have hie : i = xs.length := by omega
      subst hie
      obtain ⟨L, hown, hL0, hLN, hLr, hBL⟩ := hout
      have hiK : xs.length * (20 + K) ≤ 10 * 5020 := Nat.mul_le_mul (by omega) (by omega)
      obtain ⟨g, cc, rfl, hcc, hgS, hrow⟩ := own_row hown hL0
      have HLR := hide hLr
      have HROW := hide hrow
      have HBL := hide hBL
      clear hown hLr hrow hBL hBel hBw
      go_wp2_with fail
      refine (sort_row g cc L wr HROW.out (by omega)).mono ?_
      rintro e w1 ⟨rfl, L1, hp1, hrow1, hb1⟩
      have HL1 := hide hp1.length_eq
      have HP1 := hide hp1
      have HROW1 := hide hrow1
      have HB1 := hide hb1
      clear hp1 hrow1 hb1
      go_wp2_with fail
      rw [← HL1.out]
      have hl1 := HL1.out
      refine (compact_row g cc L1 w1 HROW1.out (by omega) (by omega)).mono ?_
      rintro e w2 ⟨L2, rfl, hm2, hl2, hrow2, hb2⟩
      have HM2 := hide hm2
      have HROW2 := hide hrow2
      have HB2 := hide hb2
      clear hm2 hrow2 hb2
      go_wp2_with fail
      refine (delete_row g cc L2 w2 HROW2.out (by omega) (by omega)).mono ?_
      rintro e w3 ⟨L3, rfl, hm3, hl3, hrow3, hb3⟩
      have HM3 := hide hm3
      have HROW3 := hide hrow3
      have HB3 := hide hb3
      clear hm3 hrow3 hb3
      go_wp2_with fail
      go_ret
      refine ⟨L3, g, cc, rfl, by omega, by omega, fun x hx => ⟨?_, (HM3.out x hx).2⟩, by omega, HROW3.out, ?_⟩
      · exact (HLR.out x (HP1.out.mem_iff.1 (HM2.out x (HM3.out x hx).1))).1
      · rw [hS]
        exact HBL.out.trans ((HB1.out.mono hgS).trans ((HB2.out.mono hgS).trans (HB3.out.mono hgS)))
end Go.Proofs.YtlflfcjbpnnfcaaGreatDoor
