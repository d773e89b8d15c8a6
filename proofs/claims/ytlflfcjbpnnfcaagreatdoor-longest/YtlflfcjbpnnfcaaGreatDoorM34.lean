/- Walks and plain laws, some texts in one. -/
import Derived.RangeFuncNested
import Derived.RangeFuncBound
import Derived.RangeFuncCalls
import Derived.RangeFuncLeaves
import Derived.Shelf.Abstract
import Derived.WalkKit
import Derived.OwnWalkIn
import Derived.TacticsInMore
import Derived.LoopNIn
import Derived.LoopIn
import Derived.Test.YtlflfcjbpnnfcaaGreatDoorM33
/- A row of one part is that part: a walk, fenced. -/
namespace Go.Proofs.YtlflfcjbpnnfcaaGreatDoor
open Go.Shelf Go.RowKit
attribute [local go_sem] Oper.semAt_some

set_option maxHeartbeats 1000000 in
theorem backward_in (F : Fence) (n : Nat) (h5 : F.fn 186) (hro : F.round = none) (a : Option Addr) (len cap : Nat) (w : World) :
    CallsIn F n Tryz.prog 186 #[.slice a len cap] w fun e w' => e = .returned (.func (.func 235) #[] #[.pointer (some ⟨w.heap.size, 0, none⟩)]) ∧ w' = w.alloc (.cells #[.slice a len cap] 166) := by
  refine callsIn_of_wp Tryz.func186 rfl h5 ?_ hro
  simp only [Tryz.ntmps186, List.size_toArray, List.length_cons, List.length_nil, Nat.reduceAdd, Nat.reduceSub, Array.replicate_succ, Array.replicate_zero, List.push_toArray, List.append_toArray, List.nil_append, List.cons_append]
  gi_wp2
  go_ret
  exact ⟨rfl, rfl⟩
set_option maxRecDepth 100000 in
set_option maxHeartbeats 2000000 in
/-- One round: the one part. -/
theorem back1_in (F : Fence) (n : Nat) (h7 : F.fn 235) (hro : F.round = none) (hn : 1 ≤ n) (l Bs n₀ b off cap : Nat) (pv : Value) (J Jx : List Unit → World → Prop)
    (hY : ∀ pre (x : Unit) W, J pre W → pre.length < 1 → YieldAt F (n - 1) Tryz.prog l #[.int .i64 0, pv] W fun e W' => (e = .returned (.bool true) ∧ J (pre ++ [x]) W' ∧ Below n₀ W W') ∨ (e = .returned (.bool false) ∧ Jx (pre ++ [x]) W'))
    (W : World) (hBs : W.cell? ⟨Bs, 0, none⟩ = some (.slice (some ⟨b, off, none⟩) 1 cap)) (hc : W.cell? ⟨b, off, none⟩ = some pv) (h0 : J [] W) :
    CallsIn F n Tryz.prog 235 #[.func (.yield l) #[] #[], .pointer (some ⟨Bs, 0, none⟩)] W fun e W' => (∃ v, e = .returned v) ∧ ((∃ ys, ys = [()] ∧ J ys W') ∨ (∃ pre, pre = [()] ∧ Jx pre W')) := by
  obtain ⟨fn, tmps, assign, body, hy, hR⟩ := hY [] () W h0 (by decide)
  refine callsIn_of_wp Tryz.func235 rfl h7 ?_ hro
  simp only [Tryz.ntmps235, List.size_toArray, List.length_cons, List.length_nil, Nat.reduceAdd, Nat.reduceSub, Array.replicate_succ, Array.replicate_zero, List.push_toArray, List.append_toArray, List.nil_append, List.cons_append]
  gi_wp2
  gi_loopw [3] (fun i wr => (i = .int .i64 0 ∧ wr = W) ∨ (i = .int .i64 (-1) ∧ J [()] wr)) (fun i _ => (intOf i + 1).toNat)
  case atStart => exact .inl ⟨rfl, rfl⟩
  case round =>
    rcases hrel with ⟨rfl, hw⟩ | ⟨rfl, hJ⟩
    · subst hw
      gi_wp2
      refine hR.mono ?_
      rintro e W3 (⟨rfl, hJ3, hk3⟩ | ⟨rfl, hJx3⟩)
      · gi_wp2
        go_roundw
        case rel => exact .inr ⟨rfl, hJ3⟩
        case measure => simp [intOf]
      · gi_wp2
        refine bodyPost_ret (results_none rfl _ _ _) rfl ?_
        exact ⟨⟨_, rfl⟩, .inr ⟨_, rfl, hJx3⟩⟩
    · gi_wp2
      go_end0
      exact ⟨⟨_, rfl⟩, .inl ⟨_, rfl, hJ⟩⟩
theorem back_stops (F : Fence) (n : Nat) (h7 : F.fn 235) (hro : F.round = none) (hn : 1 ≤ n) (Bs n₀ b off cap : Nat) (pv : Value) (w : World) (hBs : Bs < w.heap.size) (hn₀ : n₀ ≤ w.heap.size) (hb : b < n₀)
    (hc : w.cell? ⟨Bs, 0, none⟩ = some (.slice (some ⟨b, off, none⟩) 1 cap)) (hp : w.cell? ⟨b, off, none⟩ = some pv) :
    SeqStopsK F n Tryz.prog 235 #[.pointer (some ⟨Bs, 0, none⟩)] (fun _ : Unit => #[.int .i64 0, pv]) (Below n₀) (fun ys => ys = [()]) (fun pre => pre = [()]) 1 w := fun l J Jx W hW _ _ hY h0 =>
  back1_in F n h7 hro hn l Bs n₀ b off cap pv J Jx hY W ((hW.cell (p := ⟨Bs, 0, none⟩) hBs).trans hc) ((hW.cell (p := ⟨b, off, none⟩) (Nat.lt_of_lt_of_le hb hn₀)).trans hp) h0
set_option maxRecDepth 100000 in
set_option maxHeartbeats 4000000 in
theorem rowR_any (m bm x0 x1 a : Nat) (f : List UInt8 → Option Nat) (n : Nat) (b off cap : Nat) (w : World) (hM : MS w m bm (some x0) (some x1) f n) {ca c0 c1 : List Value} {ta t0 t1 : TypeId} (ha : Blk w a ca ta) (hx0 : Blk w x0 c0 t0) (hx1 : Blk w x1 c1 t1) (h0 : a ≠ x0) (h1 : a ≠ x1) (h01 : x0 ≠ x1)
    (hb : b < w.heap.size) (hp : w.cell? ⟨b, off, none⟩ = some (.pointer (some ⟨a, 0, none⟩))) :
    Calls Tryz.prog 138 #[.pointer (some ⟨m, 0, none⟩), .slice (some ⟨b, off, none⟩) 1 cap] w fun e w' => e = .returned (.pointer (some ⟨a, 0, none⟩)) ∧ Below w.heap.size w w' := by
  have HPR := hide (fun (W : World) (hW : Below w.heap.size w W) => pair_end m bm x0 x1 a f n W (hM.below hW) (ha.below hW) (hx0.below hW) (hx1.below hW) h0 h1 h01)
  have c2 : w.cell? ⟨m, 2, none⟩ = some (.pointer (some ⟨x1, 0, none⟩)) := hM.1.cell 2
  have hml := hM.1.lt
  clear hM ha hx0 hx1
  refine (callsIn_wide (n := 3)).1 ?_
  refine callsIn_of_wp_marks Tryz.func138 rfl trivial ?_ rfl
  simp only [Tryz.ntmps138, List.size_toArray, List.length_cons, List.length_nil, Nat.reduceAdd, Nat.reduceSub, Array.replicate_succ, Array.replicate_zero, List.push_toArray, List.append_toArray, List.nil_append, List.cons_append]
  gi_wp2_with (refine ⟨trivial, ?_⟩; gi_at_call 186; refine (backward_in Fence.wide _ trivial rfl _ _ _ _).mono ?_; rintro e w' ⟨rfl, rfl⟩)
  have bM := Boxed.new w 151 (.pointer (some ⟨m, 0, none⟩))
  have bO := Boxed.new (w.alloc (.cells #[.pointer (some ⟨m, 0, none⟩)] 151)) 159 (.pointer (some ⟨x1, 0, none⟩))
  rw [World.size_alloc] at bO
  have bN := Boxed.new ((w.alloc (.cells #[.pointer (some ⟨m, 0, none⟩)] 151)).alloc (.cells #[.pointer (some ⟨x1, 0, none⟩)] 159)) 166 (.slice (some ⟨b, off, none⟩) 1 cap)
  rw [World.size_alloc, World.size_alloc] at bN
  have hB0 : Below w.heap.size w (((w.alloc (.cells #[.pointer (some ⟨m, 0, none⟩)] 151)).alloc (.cells #[.pointer (some ⟨x1, 0, none⟩)] 159)).alloc (.cells #[.slice (some ⟨b, off, none⟩) 1 cap] 166)) := (((Below.refl _ w).alloc (Nat.le_refl _) _).alloc (by simp) _).alloc (by simp; omega) _
  refine wpIn_rangeFunc_ownG rfl (by decide) (gf := 235) (lb := #[.pointer (some ⟨w.heap.size + 1 + 1, 0, none⟩)]) rfl trivial (enters_of Tryz.func235 (by kernel_rfl) rfl)
    (back_stops Fence.wide _ trivial rfl (by decide) (w.heap.size + 1 + 1) w.heap.size b off cap (.pointer (some ⟨a, 0, none⟩)) _ (by simp) (by simp; omega) hb bN.cell ((hB0.cell (p := ⟨b, off, none⟩) hb).trans hp)) belowK_t (belowK_b (by simp; omega)) (Below.refl _ _) (fun _ => rfl)
    (fun pre W => (W.cell? ⟨w.heap.size + 1, 0, none⟩ = some (.pointer (some ⟨if pre = [] then x1 else a, 0, none⟩)) ∧ W.frozen? ⟨w.heap.size + 1, 0, none⟩ = false ∧ W.cell? ⟨w.heap.size, 0, none⟩ = some (.pointer (some ⟨m, 0, none⟩))) ∧ Below w.heap.size w W)
    (fun _ _ _ => False)
    (OwnFrom.and (Own.from (fun s A B row hs hg hr => ⟨cell_kept hs.1 hg hr, (frozen_kept hs.1 hg hr).trans hs.2.1, cell_kept hs.2.2 hg hr⟩) _) (ownFrom_below (Nat.le_refl _) (by simp; omega)))
    (fun _ _ _ _ _ hs _ _ => hs)
    ⟨⟨(bO.alloc _).cell, (bO.alloc _).frozen, ((bM.alloc _).alloc _).cell⟩, hB0⟩
    (fun _ => { tmps := #[.pointer (some ⟨m, 0, none⟩), .slice (some ⟨b, off, none⟩) 1 cap, .pointer (some ⟨w.heap.size, 0, none⟩), undef, .pointer none, .pointer (some ⟨w.heap.size + 1, 0, none⟩), undef, .pointer (some ⟨a, 0, none⟩), .pointer (some ⟨m, 0, none⟩), .pointer (some ⟨m, 0, none⟩), .pointer (some ⟨m, 2, none⟩), .pointer (some ⟨x1, 0, none⟩), .slice (some ⟨b, off, none⟩) 1 cap, .func (.func 235) #[] #[.pointer (some ⟨w.heap.size + 1 + 1, 0, none⟩)], .int .i64 0, .pointer (some ⟨a, 0, none⟩), undef, undef, undef, undef, undef], defers := [] }) ?assign ?body ?done ?stop
  case assign =>
    intro l x W K hK
    gi_wp2
    exact hK
  case body =>
    rintro l pre x W ⟨⟨hc, hf, hc2⟩, hB⟩ hlen
    obtain rfl : pre = [] := List.length_eq_zero_iff.1 (by omega)
    simp only [if_pos] at hc
    have hlW : w.heap.size + 1 < W.heap.size := World.block_lt_of_cell? W ⟨w.heap.size + 1, 0, none⟩ hc
    gi_wp2_with (refine ⟨trivial, ?_⟩; gi_at_call 187; refine (CallsIn.inRound l (callsIn_wide.2 (HPR.out W hB))).mono ?_; rintro e W2 ⟨rfl, hb2⟩; have f2 : W2.frozen? ⟨w.heap.size + 1, 0, none⟩ = false := (hb2.frozen (p := ⟨w.heap.size + 1, 0, none⟩) hlW).trans hf; have g2 : W2.cell? ⟨w.heap.size + 1, 0, none⟩ = some (.pointer (some ⟨x1, 0, none⟩)) := (hb2.cell (p := ⟨w.heap.size + 1, 0, none⟩) hlW).trans hc)
    have hk2 : KeepsOthers W W2 := ⟨hb2.size, fun k o h _ => (hb2.block k (by rcases Nat.lt_or_ge k W.heap.size with hl | hl; exact hl; rw [Array.getElem?_eq_none hl] at h; cases h)).trans h⟩
    have hB2 : Below w.heap.size w W2 := hB.trans (hb2.mono hB.size)
    have hcm : W2.cell? ⟨w.heap.size, 0, none⟩ = some (.pointer (some ⟨m, 0, none⟩)) := (hb2.cell (p := ⟨w.heap.size, 0, none⟩) (by show w.heap.size < W.heap.size; omega)).trans hc2
    refine ⟨(hk2.trans (KeepsOthers.setCell _ _ _)).from _, (hb2.mono hB.size).setCell (p := ⟨w.heap.size + 1, 0, none⟩) (by show w.heap.size ≤ w.heap.size + 1; omega) _, ⟨World.cell?_setCell_same' _ _ _ (by rw [g2]; rfl), by rw [World.frozen?_setCell]; exact f2, (World.cell?_setCell_far _ _ _ _ (by show w.heap.size + 1 ≠ w.heap.size; omega)).trans hcm⟩, hB2.setCell (p := ⟨w.heap.size + 1, 0, none⟩) (by show w.heap.size ≤ w.heap.size + 1; omega) _⟩
  case done =>
    rintro D ys W hD rfl ⟨⟨hc, _, _⟩, hB⟩ hK
    simp at hc
    gi_wp2
    refine ⟨by simp, .inl ⟨_, _, rfl, run_takeDeferred hK, ?_⟩⟩
    exact ⟨_, results_tmp rfl _ _ _, rfl, hB.trans (belowK_b (w := w) (Nat.le_refl _) W D _ _ (by simp at hD; omega) hK rfl rfl)⟩
  case stop =>
    rintro D c pre W _ _ h _
    exact h.elim
end Go.Proofs.YtlflfcjbpnnfcaaGreatDoor
/- The rest of a letter's star, made anew and found again. -/
namespace Go.Proofs.YtlflfcjbpnnfcaaGreatDoor
open Go.Shelf Go.RowKit

theorem nameS_eq : nameS = [48, 32, 57, 55, 32, 57, 55] := by decide +kernel
theorem nameM2_eq : nameM 2 = [53, 32, 48, 32, 45, 49, 32, 50] := by decide +kernel
theorem nS1 : nameS ≠ name1 := by rw [nameS_eq, name1_eq]; decide
theorem nS2 : nameS ≠ name2 := by rw [nameS_eq, name2_eq]; decide
theorem nM1 : nameM 2 ≠ name1 := by rw [nameM2_eq, name1_eq]; decide
theorem nM2 : nameM 2 ≠ name2 := by rw [nameM2_eq, name2_eq]; decide
theorem nMS : nameM 2 ≠ nameS := by rw [nameM2_eq, nameS_eq]; decide
theorem put_same (f : List UInt8 → Option Nat) (a : List UInt8) (x : Nat) : put f a x a = some x := by unfold put; rw [if_pos rfl]
theorem put_other {f : List UInt8 → Option Nat} {a b : List UInt8} {x : Nat} (h : b ≠ a) : put f a x b = f b := by unfold put; rw [if_neg h]
/-- The second time: what was kept is found. -/
theorem of_old (w : World) (m bm x0 x1 n s r : Nat) (f : List UInt8 → Option Nat) (xr xm xs b1 c1 b2 c2 : Nat) (la : Option Addr) (lc : Nat) (hM : MS w m bm (some x0) (some x1) f n) (hP : PowT w) (hN : StarN w xr xm xs b1 c1 b2 c2 la lc) (hn : n ≤ 1000000000)
    (hs : f nameS = some s) (hr : f (nameM 2) = some r) {pa pc fv} (hS : RestB w s 2 0 pa 0 pc false fv ∨ ∃ pa pn pc fv, RestB w s 2 0 pa pn pc false fv) (hsb : s ≠ bm) {ca c0 c9 : List Value} {ta t0 t1 : TypeId} (hr1 : Blk w r ca ta) (hx0 : Blk w x0 c0 t0) (hx1 : Blk w x1 c9 t1) (h0 : r ≠ x0) (h1 : r ≠ x1) (h01 : x0 ≠ x1) :
    Calls Tryz.prog 92 #[.pointer (some ⟨m, 0, none⟩), .pointer (some ⟨xr, 0, none⟩)] w fun e w' => e = .returned (.pointer (some ⟨r, 0, none⟩)) ∧ Below w.heap.size w w' := by
  obtain ⟨sa, sn, sc, sf, hS⟩ : ∃ pa pn pc fv, RestB w s 2 0 pa pn pc false fv := by
    rcases hS with hS | hS
    · exact ⟨_, _, _, _, hS⟩
    · exact hS
  have hset := of_set m bm (some x0) (some x1) f n xs la lc w hM hP hN.set hN.rd hn
  rw [hs] at hset
  have hmany : Calls Tryz.prog 92 #[.pointer (some ⟨m, 0, none⟩), .pointer (some ⟨xm, 0, none⟩)] w fun e w' => e = .returned (.pointer (some ⟨r, 0, none⟩)) ∧ Below w.heap.size w w' := by
    refine of_many m xr xm xs b1 c1 b2 c2 la lc w _ hN (hset.mono ?_)
    rintro e w1 ⟨rfl, hb⟩
    refine ⟨s, rfl, hN.below hb, fun W hW => ?_⟩
    have hBW : Below w.heap.size w W := hb.trans (hW.mono hb.size)
    have hSW := Blk.below hS hBW
    have hst := star_any m bm (some x0) (some x1) f n s 2 (-1) W (hM.below hBW) (hP.below hBW) (hSW.cell 0) false (hSW.cell 3) hsb hSW.lt (by omega) (by omega) (by omega) hn
    rw [show nameOf 5 [0, -1] [2] = nameM 2 from rfl, hr] at hst
    refine hst.mono ?_
    rintro e w' ⟨rfl, hb'⟩
    exact ⟨⟨r, rfl⟩, rfl, hBW.trans (hb'.mono hBW.size)⟩
  refine of_row m xr xm xs b1 c1 b2 c2 la lc w _ hN (hmany.mono ?_)
  rintro e w1 ⟨rfl, hb⟩
  refine ⟨r, rfl, hN.below hb, fun W g c hW hg hcg => ?_⟩
  have hBW : Below w.heap.size w W := hb.trans (hW.mono hb.size)
  refine (rowR_any m bm x0 x1 r f n g 0 c W (hM.below hBW) (hr1.below hBW) (hx0.below hBW) (hx1.below hBW) h0 h1 h01 hg hcg).mono ?_
  rintro e w' ⟨rfl, hb'⟩
  exact ⟨⟨r, rfl⟩, rfl, hBW.trans (hb'.mono hBW.size)⟩
/-- The first time: two rests are made. -/
theorem of_new (w : World) (B m bm x0 x1 : Nat) (f : List UInt8 → Option Nat) (xr xm xs b1 c1 b2 c2 : Nat) (la : Option Addr) (lc : Nat) (w0 : World) (hk : RMk w B m bm x0 x1 f 2) (hP : PowT w) (hN : StarN w0 xr xm xs b1 c1 b2 c2 la lc) (hB : B = w0.heap.size) (h7 : 7 ≤ B) (hw : Below B w0 w)
    (hs : f nameS = none) (hr : f (nameM 2) = none) :
    Calls Tryz.prog 92 #[.pointer (some ⟨m, 0, none⟩), .pointer (some ⟨xr, 0, none⟩)] w fun e w' => ∃ s r, e = .returned (.pointer (some ⟨r, 0, none⟩)) ∧ But (fun k => k = bm) w w' ∧ MS w' m bm (some x0) (some x1) (put (put f nameS s) (nameM 2) r) 4 ∧ (∃ pa pn pc fv, RestB w' s 2 0 pa pn pc false fv) ∧ (∃ pa pn pc fv, RestB w' r 3 5 pa pn pc true fv) ∧ w.heap.size ≤ s ∧ w.heap.size ≤ r := by
  subst hB
  obtain ⟨hM, ⟨p0, q0, r0, v0, hx0⟩, ⟨p1, q1, r1, v1, hx1⟩, a1, a2, a3, a4, a5, a6, a7, a8, a9, a10⟩ := hk
  have hNw := hN.below hw
  have hset := of_set m bm (some x0) (some x1) f 2 xs la lc w hM hP hNw.set hNw.rd (by omega)
  rw [hs] at hset
  have hl0 := Blk.lt hx0
  have hl1 := Blk.lt hx1
  have hmany : Calls Tryz.prog 92 #[.pointer (some ⟨m, 0, none⟩), .pointer (some ⟨xm, 0, none⟩)] w fun e w' => ∃ s r, e = .returned (.pointer (some ⟨r, 0, none⟩)) ∧ But (fun k => k = bm) w w' ∧ MS w' m bm (some x0) (some x1) (put (put f nameS s) (nameM 2) r) 4 ∧ (∃ pa pn pc fv, RestB w' s 2 0 pa pn pc false fv) ∧ (∃ pa pn pc fv, RestB w' r 3 5 pa pn pc true fv) ∧ w.heap.size ≤ s ∧ w.heap.size ≤ r := by
    refine of_many m xr xm xs b1 c1 b2 c2 la lc w _ hNw (hset.mono ?_)
    rintro e w1 ⟨s, hsl, rfl, hbut, hM1, sa, sn, sc, sf, hS⟩
    have hw1 : Below w0.heap.size w0 w1 := hw.trans (hbut.toBelow (fun k hk => by subst hk; exact a2) hw.size)
    refine ⟨s, rfl, hN.below hw1, fun W hW => ?_⟩
    have hSW := Blk.below hS hW
    have hsb : s ≠ bm := by have := hM.2.1.lt; omega
    have hPW : PowT W := (hP.same fun i hi h7' => hbut.block i hi (by omega)).below hW
    have hst := star_any m bm (some x0) (some x1) (put f nameS s) 3 s 2 (-1) W (hM1.below hW) hPW (hSW.cell 0) false (hSW.cell 3) hsb hSW.lt (by omega) (by omega) (by omega) (by omega)
    rw [show nameOf 5 [0, -1] [2] = nameM 2 from rfl, show put f nameS s (nameM 2) = none from (put_other nMS).trans hr] at hst
    refine hst.mono ?_
    rintro e w' ⟨r, hrl, rfl, hbut2, hM2, ra, rn, rc, rf, hR⟩
    have hsW : s < W.heap.size := hSW.lt
    refine ⟨⟨r, rfl⟩, s, r, rfl, (hbut.trans (But.below hW)).trans hbut2, hM2, ⟨_, _, _, _, Blk.but hSW hbut2 hsb⟩, ⟨_, _, _, _, hR⟩, hsl, ?_⟩
    have := hbut.size
    have := hW.size
    omega
  refine of_row m xr xm xs b1 c1 b2 c2 la lc w _ hNw (hmany.mono ?_)
  rintro e w1 ⟨s, r, rfl, hbut, hM1, hS, hR, hsl, hrl⟩
  have hw1 : Below w0.heap.size w0 w1 := hw.trans (hbut.toBelow (fun k hk => by subst hk; exact a2) hw.size)
  refine ⟨r, rfl, hN.below hw1, fun W g c hW hg hcg => ?_⟩
  obtain ⟨ra, rn, rc, rf, hR⟩ := hR
  obtain ⟨sa, sn, sc, sf, hS⟩ := hS
  have hx0' := Blk.but hx0 hbut (fun e => a8 e.symm)
  have hx1' := Blk.but hx1 hbut (fun e => a9 e.symm)
  refine (rowR_any m bm x0 x1 r _ 4 g 0 c W (hM1.below hW) (Blk.below hR hW) (Blk.below hx0' hW) (Blk.below hx1' hW) (by omega) (by omega) a10 hg hcg).mono ?_
  rintro e w' ⟨rfl, hb'⟩
  have hBl : Below w1.heap.size w1 w' := hW.trans (hb'.mono hW.size)
  exact ⟨⟨r, rfl⟩, s, r, rfl, hbut.trans (But.below hBl), hM1.below hBl, ⟨_, _, _, _, Blk.below hS hBl⟩, ⟨_, _, _, _, Blk.below hR hBl⟩, hsl, hrl⟩
end Go.Proofs.YtlflfcjbpnnfcaaGreatDoor
