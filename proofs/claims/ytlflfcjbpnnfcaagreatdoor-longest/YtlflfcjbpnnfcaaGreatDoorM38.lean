/- Walks and plain laws, some texts in one. -/
import Derived.BigRegion
import Derived.BigQuiet
import Derived.Deep.QuietTactic
import Derived.Test.YtlflfcjbpnnfcaaGreatDoorM34
import Derived.Test.YtlflfcjbpnnfcaaGreatDoorM32
import Derived.Test.YtlflfcjbpnnfcaaGreatDoorM37
/- How often a pair was seen: a map with at most one entry. -/
namespace Go.Proofs.YtlflfcjbpnnfcaaGreatDoor
open Go.Shelf Go.RowKit

abbrev key33 : Value := .agg #[.int .i64 3, .int .i64 3]
theorem chk33 (w : World) : (Instr.checkKey false 10000 170 key33).run Tryz.prog w = .ok () w := by kernel_rfl
theorem chk33t (w : World) : (Instr.checkKey true 10000 170 key33).run Tryz.prog w = .ok () w := by kernel_rfl
/-- A block turned. -/
def putO (w : World) (b : Nat) (o : Obj) : World := { w with heap := w.heap.setIfInBounds b o }
theorem find33_none (w : World) : (Instr.findKey 170 key33 []).run Tryz.prog w = .ok none w := by kernel_rfl
theorem find33_one (v : Value) (w : World) : (Instr.findKey 170 key33 [⟨key33, v, 0⟩]).run Tryz.prog w = .ok (some (0, v)) w := by kernel_rfl
theorem seen_look0 {w : World} {b : Nat} (h : w.heap[b]? = some (.map #[] 0)) : (Instr.lookup 157 (.map (some b)) key33 false).run Tryz.prog w = .ok (.int .i64 0) w := by
  simp [Instr.lookup, run_underlying Tryz.underlying157, MapKept.run_getObj_map h, chk33t, find33_none, Tryz.zeroValue3, Result.andThen]
theorem seen_look1 {w : World} {b : Nat} {v : Value} (h : w.heap[b]? = some (.map #[⟨key33, v, 0⟩] 1)) : (Instr.lookup 157 (.map (some b)) key33 false).run Tryz.prog w = .ok v w := by
  simp [Instr.lookup, run_underlying Tryz.underlying157, MapKept.run_getObj_map h, chk33, find33_one, Result.andThen]
theorem seen_entry {w : World} {b : Nat} (h : w.heap[b]? = some (.map #[] 0)) : (Instr.mapEntry 157 (.map (some b)) key33).run Tryz.prog w = .ok (.tuple #[.int .i64 0, goInt 0]) (putO w b (.map #[⟨key33, .int .i64 0, 0⟩] 1)) := by
  simp [Instr.mapEntry, run_underlying Tryz.underlying157, MapKept.run_getObj_map h, chk33, find33_none, Tryz.zeroValue3, MapKept.run_setObj_map _ h, putO, Result.andThen]
theorem seen_store {w : World} {b : Nat} (u : Value) (h : w.heap[b]? = some (.map #[⟨key33, .int .i64 0, 0⟩] 1)) : (Instr.entryStore 157 (.map (some b)) (goInt 0) u).run Tryz.prog w = .ok () (putO w b (.map #[⟨key33, u, 0⟩] 1)) := by
  simp [Instr.entryStore, MapKept.run_getObj_map h, asInt, asIntOf, goInt, MapKept.run_setObj_map _ h, putO, Result.andThen]
theorem putO_self {w : World} {b : Nat} (o : Obj) (h : b < w.heap.size) : (putO w b o).heap[b]? = some o := by
  show (w.heap.setIfInBounds b o)[b]? = some o
  rw [Array.getElem?_setIfInBounds]; simp [h]
theorem putO_other {w : World} {b k : Nat} (o : Obj) (h : k ≠ b) : (putO w b o).heap[k]? = w.heap[k]? := by
  show (w.heap.setIfInBounds b o)[k]? = w.heap[k]?
  rw [Array.getElem?_setIfInBounds, if_neg (Ne.symm h)]
theorem Off.putO {b : Nat} {a w : World} (h : Off b a w) (o : Obj) : Off b a (putO w b o) :=
  ⟨h.os, h.tape, h.output, by show _ ≤ (w.heap.setIfInBounds b o).size; rw [Array.size_setIfInBounds]; exact h.size, fun k hk hne => (putO_other o hne).trans (h.block k hk hne)⟩
end Go.Proofs.YtlflfcjbpnnfcaaGreatDoor
/- A letter's star does not differ from itself: the walk. -/
namespace Go.Proofs.YtlflfcjbpnnfcaaGreatDoor
open Go.Shelf Go.RowKit

theorem firsts_nil (w : World) : Calls Tryz.prog 90 #[.slice none 0 0] w (FirstsQ 1 w) := by
  have := firsts_any none 0 [] 1 w (fun j x hx => by simp at hx) (fun x hx => by simp at hx) (by simp) (by omega)
  simpa using this
theorem star_nodes {w : World} {xr xm xs b1 c1 b2 c2 : Nat} {la : Option Addr} {lc : Nat} (h : StarN w xr xm xs b1 c1 b2 c2 la lc) : NodeF w xr 43 := by
  have hs : ∀ W, Below w.heap.size w W → NodeF W xs 1 := fun W hW => by
    have hb := h.set.below hW
    exact ⟨⟨la, lc, [(97, 97)], hb.cell 1, h.rd.below hW, by simp, by simp⟩, ⟨_, hb.cell 2, ⟨_, _, _, rfl⟩, fun W' _ => firsts_nil W'⟩, hb.lt⟩
  have hm : ∀ W, Below w.heap.size w W → NodeF W xm 22 := fun W hW => by
    have hb := h.many.below hW
    refine ⟨⟨none, 0, [], hb.cell 1, fun i x hx => by simp at hx, by simp, by simp⟩, ⟨_, hb.cell 2, ⟨_, _, _, rfl⟩, fun W' hW' => ?_⟩, hb.lt⟩
    have hB' : Below w.heap.size w W' := hW.trans (hW'.mono hW.size)
    have := firsts_any (some ⟨b2, 0, none⟩) c2 [xs] 1 W' (fun j x hx => ?_) (fun x hx => by simp at hx; subst hx; exact hs W' hB') (by simp) (by omega)
    · simpa using this
    · match j, hx with
      | 0, hx => simp at hx; subst hx; exact ⟨b2, 0, rfl, Nat.lt_of_lt_of_le h.l2 hB'.size, (hB'.cell (p := ⟨b2, 0, none⟩) h.l2).trans h.p2⟩
  obtain ⟨ex, hr⟩ := h.row
  refine ⟨⟨none, 0, [], hr.cell 1, fun i x hx => by simp at hx, by simp, by simp⟩, ⟨_, hr.cell 2, ⟨_, _, _, rfl⟩, fun W' hW' => ?_⟩, hr.lt⟩
  have := firsts_any (some ⟨b1, 0, none⟩) c1 [xm] 22 W' (fun j x hx => ?_) (fun x hx => by simp at hx; subst hx; exact hm W' hW') (by simp) (by omega)
  · simpa using this
  · match j, hx with
    | 0, hx => simp at hx; subst hx; exact ⟨b1, 0, rfl, Nat.lt_of_lt_of_le h.l1 hW'.size, (hW'.cell (p := ⟨b1, 0, none⟩) h.l1).trans h.p1⟩
theorem RMk.below {w w' : World} {B m bm x0 x1 n : Nat} {f : List UInt8 → Option Nat} (h : RMk w B m bm x0 x1 f n) (k : Below w.heap.size w w') : RMk w' B m bm x0 x1 f n := by
  obtain ⟨h1, ⟨a0, a1, a2, a3, h2⟩, ⟨b0, b1, b2, b3, h3⟩, h4⟩ := h
  exact ⟨h1.below k, ⟨_, _, _, _, Blk.below h2 k⟩, ⟨_, _, _, _, Blk.below h3 k⟩, h4⟩
set_option maxRecDepth 100000 in
set_option maxHeartbeats 4000000 in
theorem differ_self (w : World) (xr xm xs b1 c1 b2 c2 : Nat) (la : Option Addr) (lc : Nat) (hN : StarN w xr xm xs b1 c1 b2 c2 la lc) (hP : PowT w) (h7 : 7 ≤ w.heap.size) :
    Calls Tryz.prog 49 #[.pointer (some ⟨xr, 0, none⟩), .pointer (some ⟨xr, 0, none⟩), .int .i64 2] w fun e w' => e = .returned (.tuple #[.string ⟨#[]⟩, .bool false]) ∧ Below w.heap.size w w' := by
  have hmm := @run_makeMap Tryz.prog
  have HNF := hide (star_nodes hN)
  have HN := hide hN
  have HP := hide hP
  have HNM := hide (newMaker_any w hP h7)
  clear hN hP
  go_enter Tryz.func49, Tryz.ntmps49
  go_wp2_with fail
  refine HNM.out.mono ?_
  rintro e w1 ⟨m, bm, x0, x1, rfl, hB1, hk1⟩
  obtain ⟨Wf, hWf⟩ : ∃ Wf, w1.alloc (.cells #[.pointer (some ⟨xr, 0, none⟩), .pointer (some ⟨xr, 0, none⟩)] 65) = Wf := ⟨_, rfl⟩
  have hBf : Below w1.heap.size w1 Wf := by rw [← hWf]; exact (Below.refl _ _).alloc (Nat.le_refl _) _
  have hnodes : NodesA Wf (some ⟨w1.heap.size, 0, none⟩) [xr, xr] := by
    have hb : Blk Wf w1.heap.size [.pointer (some ⟨xr, 0, none⟩), .pointer (some ⟨xr, 0, none⟩)] 65 := by rw [← hWf]; exact Blk.new w1 [.pointer (some ⟨xr, 0, none⟩), .pointer (some ⟨xr, 0, none⟩)] 65
    intro j x hx
    match j, hx with
    | 0, hx => simp at hx; subst hx; exact ⟨w1.heap.size, 0, rfl, hb.lt, hb.cell 0⟩
    | 1, hx => simp at hx; subst hx; exact ⟨w1.heap.size, 0, rfl, hb.lt, hb.cell 1⟩
  have hBwf : Below w.heap.size w Wf := hB1.trans (hBf.mono hB1.size)
  have HF := hide (firsts_any (some ⟨w1.heap.size, 0, none⟩) 2 [xr, xr] 43 Wf hnodes (fun x hx => by simp at hx; subst hx; exact HNF.out.below hBwf) (by simp) (by omega))
  have HWF := hide hWf
  have HB1 := hide hB1
  have HK1 := hide hk1
  have HBF := hide hBf
  clear hWf hBf hnodes hB1 hk1 hBwf HNM
  go_wp2_with fail
  rw [HWF.out]
  refine HF.out.mono ?_
  rintro e w2 ⟨L, g, c, rfl, _, _, _, _, _, hb2⟩
  have HB2 := hide (HBF.out.trans (hb2.mono HBF.out.size))
  clear hb2 HF
  obtain ⟨W3, hW3⟩ : ∃ W3, ((w2.alloc (.cells #[] 163)).alloc (.cells #[.slice (some ⟨w2.heap.size, 0, none⟩) 0 0] 156)).alloc (.map #[] 0) = W3 := ⟨_, rfl⟩
  have hB3 : Below w2.heap.size w2 W3 := by rw [← hW3]; exact (((Below.refl _ _).alloc (Nat.le_refl _) _).alloc (by simp) _).alloc (by simp; omega) _
  have hq0 : Blk W3 w2.heap.size [] 163 := by rw [← hW3]; exact ((Blk.new w2 [] 163).alloc _).alloc _
  have hq1 : Blk W3 (w2.heap.size + 1) [.slice (some ⟨w2.heap.size, 0, none⟩) 0 0] 156 := by
    rw [← hW3]; have := (Blk.new (w2.alloc (.cells #[] 163)) [.slice (some ⟨w2.heap.size, 0, none⟩) 0 0] 156).alloc (.map #[] 0); simpa using this
  have hq2 : W3.heap[w2.heap.size + 2]? = some (.map #[] 0) := by
    rw [← hW3]; have := (MapKept.heap_alloc ((w2.alloc (.cells #[] 163)).alloc (.cells #[.slice (some ⟨w2.heap.size, 0, none⟩) 0 0] 156)) (.map #[] 0)).1; simpa using this
  have hs3 : W3.heap.size = w2.heap.size + 3 := by rw [← hW3]; simp
  have hBw2 : Below w.heap.size w w2 := HB1.out.trans (HB2.out.mono HB1.out.size)
  have hBw3 : Below w.heap.size w W3 := hBw2.trans (hB3.mono hBw2.size)
  have hk3 : RMk W3 w.heap.size m bm x0 x1 _ 2 := (HK1.out.below HB2.out).below hB3
  have hbm1 : bm < w1.heap.size := HK1.out.ms.2.1.lt
  have hbm2 : bm < w2.heap.size := Nat.lt_of_lt_of_le hbm1 HB2.out.size
  have HOF := hide (of_new W3 w.heap.size m bm x0 x1 _ xr xm xs b1 c1 b2 c2 la lc w hk3 (HP.out.below hBw3) HN.out rfl h7 hBw3 ((put_other nS1).trans ((put_other nS2).trans rfl)) ((put_other nM1).trans ((put_other nM2).trans rfl)))
  have HW3 := hide hW3
  have HK3 := hide hk3
  have HBW3 := hide hBw3
  have HQ0 := hide hq0
  have HQ1 := hide hq1
  have HQ2 := hide hq2
  clear hW3 hB3 hq0 hq1 hq2 hBw2 hBw3 hk3 hbm1 HK1 HB1 HB2 HBF HWF
  go_wp2_with fail
  rw [HW3.out]
  generalize hT : w2.heap.size = T at *
  refine HOF.out.mono ?_
  rintro e w4 ⟨s, r, rfl, hbut4, hM4, hS4, ⟨ra, rn, rc, rf, hR4⟩, hs4, hr4⟩
  obtain ⟨⟨_, _, _⟩, ⟨p0, q0, r0, v0, hx0⟩, ⟨p1, q1, r1, v1, hx1⟩, a1, a2, a3, a4, a5, a6, a7, a8, a9, a10⟩ := HK3.out
  have hx0l := Blk.lt hx0
  have hx1l := Blk.lt hx1
  have hx04 := Blk.but hx0 hbut4 (fun e => a8 e.symm)
  have hx14 := Blk.but hx1 hbut4 (fun e => a9 e.symm)
  have hBw4 : Below w.heap.size w w4 := HBW3.out.trans (hbut4.toBelow (fun k hk => by subst hk; exact a2) HBW3.out.size)
  have HOF2 := hide (of_old w4 m bm x0 x1 4 s r _ xr xm xs b1 c1 b2 c2 la lc hM4 (HP.out.below hBw4) (HN.out.below hBw4) (by omega) ((put_other (Ne.symm nMS)).trans (put_same _ _ _)) (put_same _ _ _) (pa := none) (pc := 0) (fv := .pointer none) (.inr hS4) (by omega) hR4 hx04 hx14 (by omega) (by omega) a10)
  have hq04 := HQ0.out.but hbut4 (fun e => by omega)
  have hq14 := HQ1.out.but hbut4 (fun e => by omega)
  have hq24 : w4.heap[T + 2]? = some (.map #[] 0) := (hbut4.block (T + 2) (by omega) (fun e => by omega)).trans HQ2.out
  have HQ04 := hide hq04
  have HQ14 := hide hq14
  have HQ24 := hide hq24
  have HR4 := hide hR4
  have HBW4 := hide hBw4
  have HT4 : Hid (T + 3 ≤ w4.heap.size) := by have := hbut4.size; show _ ≤ _; omega
  have HRL : Hid (W3.heap.size ≤ r) := hr4
  clear hbut4 hM4 hS4 hR4 hs4 hr4 hx0 hx1 hx04 hx14 hBw4 hq04 hq14 hq24 HOF HK3 HBW3 HQ0 HQ1 HQ2
  go_wp2_with fail
  refine HOF2.out.mono ?_
  rintro e w5 ⟨rfl, hb5⟩
  have hbl5 : w.heap.size ≤ T := by omega
  have HPU := hide (push_any w.heap.size (T + 1) T r r w5 (HQ14.out.below hb5) (HQ04.out.below hb5) (by omega) hbl5)
  have HQ25 : Hid (w5.heap[T + 2]? = some (.map #[] 0)) := (hb5.block (T + 2) (by have := HT4.out; omega)).trans HQ24.out
  have HR5 := hide (Blk.below HR4.out hb5)
  have HBW5 := hide (HBW4.out.trans (hb5.mono HBW4.out.size))
  have HT5 : Hid (T + 3 ≤ w5.heap.size) := Nat.le_trans HT4.out hb5.size
  clear hb5 HOF2
  go_wp2_with fail
  refine HPU.out.mono ?_
  rintro e w6 ⟨rfl, ⟨g6, c6, hn6, ho6⟩, hbut6⟩
  have hrT : T + 3 ≤ r := by have := HRL.out; omega
  have hR6 := Blk.but HR5.out hbut6 (fun e => by omega)
  have hm6 : w6.heap[T + 1 + 1]? = some (.map #[] 0) := (hbut6.block (T + 2) (by have := HT5.out; omega) (fun e => by omega)).trans HQ25.out
  have hB6 : Below w.heap.size w w6 := HBW5.out.trans (hbut6.toBelow (fun k hk => by omega) HBW5.out.size)
  obtain ⟨rest6, hbg6, _⟩ := own163_blk ho6
  have hrg : r ≠ g6 := fun e => by subst e; have h8 := Eq.trans (Eq.symm hR6) hbg6; simp at h8
  have hmg : T + 1 + 1 ≠ g6 := fun e => by rw [e] at hm6; have h8 := Eq.trans hm6.symm hbg6; cases h8
  have HPOP := hide (pop_any w.heap.size (T + 1) g6 c6 r r w6 hn6 ho6)
  have HB6 := hide hB6
  have HR6 := hide hR6
  have HM6 := hide hm6
  have HG6 : Hid (w.heap.size ≤ g6) := by obtain ⟨_, _, _, _, _, h⟩ := own163_blk ho6; exact h
  have HHA := hide hn6
  have hta := assert_begun (begunV r r)
  clear hn6 ho6 hbut6 hR6 hm6 hB6 hbg6 HPU HR5 HQ25 HBW5 HQ04 HQ14 HQ24 HR4 HBW4
  go_wp2_with fail
  go_loopg [] 1 (fun j wr => (j = 1 ∧ wr = w6) ∨ ((∃ g c, Blk wr (T + 1) [.slice (some ⟨g, 0, none⟩) 0 c] 156) ∧ Below w.heap.size w wr))
  case atStart => exact .inl ⟨rfl, rfl⟩
  case round =>
    rcases hrel with ⟨rfl, hw⟩ | ⟨⟨g9, c9, hn9⟩, hB9⟩
    · subst hw
      have e0 : wr.cell? ⟨T + 1, 0, none⟩ = some (.slice (some ⟨g6, 0, none⟩) 1 c6) := HHA.out.cell 0
      have hbl := HHA.out.lt
      go_wp2_with (go_at_call 93; refine (len_any _ _ _ _).mono ?_; rintro e w' ⟨rfl, hw⟩; have hw8 := hw.symm; subst hw8; clear hw)
      refine HPOP.out.mono ?_
      rintro e w7 ⟨rfl, hn7, hbut7⟩
      have hR7 := Blk.but HR6.out hbut7 (fun e => by rcases e with e | e; omega; exact hrg e)
      have hm7 : w7.heap[T + 1 + 1]? = some (.map #[] 0) := (hbut7.block (T + 1 + 1) (by rcases Nat.lt_or_ge (T + 1 + 1) wr.heap.size with hl | hl; exact hl; have h9 := HM6.out; rw [Array.getElem?_eq_none hl] at h9; cases h9) (fun e => by rcases e with e | e; omega; exact hmg e)).trans HM6.out
      have hB7 : Below w.heap.size w w7 := HB6.out.trans (hbut7.toBelow (fun k hk => by have := HG6.out; rcases hk with hk | hk <;> omega) HB6.out.size)
      obtain ⟨W8, hW8⟩ : ∃ W8, w7.alloc (.cells #[.slice none 0 0, .pointer (some ⟨r, 0, none⟩), .pointer (some ⟨r, 0, none⟩)] 163) = W8 := ⟨_, rfl⟩
      have hb78 : Below w7.heap.size w7 W8 := by rw [← hW8]; exact (Below.refl _ _).alloc (Nat.le_refl _) _
      have hnw : Blk W8 w7.heap.size [.slice none 0 0, .pointer (some ⟨r, 0, none⟩), .pointer (some ⟨r, 0, none⟩)] 163 := by rw [← hW8]; exact Blk.new w7 [.slice none 0 0, .pointer (some ⟨r, 0, none⟩), .pointer (some ⟨r, 0, none⟩)] 163
      have hR8 := Blk.below hR7 hb78
      have n1 : W8.cell? ⟨w7.heap.size, 1, none⟩ = some (.pointer (some ⟨r, 0, none⟩)) := hnw.cell 1
      have n2 : W8.cell? ⟨w7.heap.size, 2, none⟩ = some (.pointer (some ⟨r, 0, none⟩)) := hnw.cell 2
      have r0c : W8.cell? ⟨r, 0, none⟩ = some (.int .i64 3) := hR8.cell 0
      have r3c : W8.cell? ⟨r, 3, none⟩ = some (.bool true) := hR8.cell 3
      have hrl8 := hR8.lt
      have HW8 := hide hW8
      have HNW := hide hnw
      have HR8 := hide hR8
      have HM8 : Hid (W8.heap[T + 1 + 1]? = some (.map #[] 0)) := (hb78.block _ (Array.getElem?_eq_some_iff.1 hm7).1).trans hm7
      have HN8 := hide (hn7.below hb78)
      have HB8 := hide (hB7.trans (hb78.mono hB7.size))
      clear hn7 hbut7 hR7 hm7 hB7 hW8 hb78 hnw hR8 HPOP
      go_wp2_with fail
      rw [HW8.out]
      generalize hU : w7.heap.size = U at *
      go_quiet (fail)
      go_wp2_with fail
      obtain ⟨W9, hW9⟩ : ∃ W9, W8.drewN nq = W9 := ⟨_, rfl⟩
      have hh9 : W9.heap = W8.heap := by rw [← hW9]; rfl
      have hR9 : Blk W9 r [.int .i64 3, .int .i64 5, .slice ra rn rc, .bool true, rf] 169 := by have h9 := HR8.out; unfold Blk at h9 ⊢; rw [hh9]; exact h9
      have hN9 : Blk W9 U [.slice none 0 0, .pointer (some ⟨r, 0, none⟩), .pointer (some ⟨r, 0, none⟩)] 163 := by have h9 := HNW.out; unfold Blk at h9 ⊢; rw [hh9]; exact h9
      have hA9 : Blk W9 (T + 1) [.slice (some ⟨g6, 0, none⟩) 0 c6] 156 := by have h9 := HN8.out; unfold Blk at h9 ⊢; rw [hh9]; exact h9
      have hM9 : W9.heap[T + 1 + 1]? = some (.map #[] 0) := by rw [hh9]; exact HM8.out
      have hB9 : Below w.heap.size w W9 := by rw [← hW9]; exact below_drawn HB8.out
      rw [hW9]
      have n19 : W9.cell? ⟨U, 1, none⟩ = some (.pointer (some ⟨r, 0, none⟩)) := hN9.cell 1
      have n29 : W9.cell? ⟨U, 2, none⟩ = some (.pointer (some ⟨r, 0, none⟩)) := hN9.cell 2
      have r09 : W9.cell? ⟨r, 0, none⟩ = some (.int .i64 3) := hR9.cell 0
      have hU9 := hN9.lt
      have hr9 := hR9.lt
      have HR9 := hide hR9
      have HNN9 := hide hN9
      have HA9 := hide hA9
      have HM9 := hide hM9
      have HB9 := hide hB9
      clear hW9 hh9 hR9 hN9 hA9 hM9 hB9 n1 n2 r0c r3c HW8 HNW HR8 HM8 HN8 HB8 hrl8
      go_region_held3 (fun w' => w'.cell? ⟨U, 1, none⟩ = some (.pointer (some ⟨r, 0, none⟩)) ∧ w'.cell? ⟨U, 2, none⟩ = some (.pointer (some ⟨r, 0, none⟩)) ∧ w'.cell? ⟨r, 0, none⟩ = some (.int .i64 3))
        (first | exact ⟨n19, n29, r09⟩ | go_keep)
        (fail)
      all_goals go_wp2_with fail
      obtain ⟨X, hX⟩ : ∃ X, (W9.alloc (.cells #[.int .i64 3, .int .i64 3] 170)).drew = X := ⟨_, rfl⟩
      obtain ⟨V, hV⟩ : ∃ V, X.drew = V := ⟨_, rfl⟩
      have hbX : Below W9.heap.size W9 V := by rw [← hV, ← hX]; exact (((Below.refl _ _).alloc (Nat.le_refl _) _).drew).drew
      have hKV : Blk V W9.heap.size [.int .i64 3, .int .i64 3] 170 := by rw [← hV, ← hX]; exact ((Blk.new W9 [.int .i64 3, .int .i64 3] 170).drew).drew
      have HMV : Hid (V.heap[T + 1 + 1]? = some (.map #[] 0)) := (hbX.block _ (Array.getElem?_eq_some_iff.1 HM9.out).1).trans HM9.out
      have hMl : T + 1 + 1 < W9.heap.size := (Array.getElem?_eq_some_iff.1 HM9.out).1
      have hMlV : T + 1 + 1 < V.heap.size := (Array.getElem?_eq_some_iff.1 HMV.out).1
      have HUV := hide (HNN9.out.below hbX)
      have HAV := hide (HA9.out.below hbX)
      have HBV := hide (HB9.out.trans (hbX.mono HB9.out.size))
      have HKV := hide hKV
      have hMU : U ≠ T + 1 + 1 := fun e => by have h8 := HMV.out; rw [← e] at h8; have h9 := HUV.out; unfold Blk at h9; rw [h9] at h8; cases h8
      have HMU := hide hMU
      generalize hY : W9.heap.size = Y at *
      have k0 : ∀ w', Off (T + 1 + 1) V w' → w'.cell? ⟨Y, 0, none⟩ = some (.int .i64 3) := fun w' h => (HKV.out.off h (by omega)).cell 0
      have k1 : ∀ w', Off (T + 1 + 1) V w' → w'.cell? ⟨Y, 1, none⟩ = some (.int .i64 3) := fun w' h => (HKV.out.off h (by omega)).cell 1
      rw [hX]
      clear hbX hKV HR9 HNN9 HA9 HM9 HB9 n19 n29 r09 hX hMU
      refine wp_region_held_drew (S := fun w' : World => w'.cell? ⟨Y, 0, none⟩ = some (.int .i64 3) ∧ w'.cell? ⟨Y, 1, none⟩ = some (.int .i64 3)) (by kernel_rfl) (by rw [hV]; exact ⟨HKV.out.cell 0, HKV.out.cell 1⟩) (fun hHeld => ?_)
      rw [hV]
      rw [hV] at hHeld
      refine wpAnyH_take (i := 0) (oi := _) (v := .map (some (T + 1 + 1))) rfl (by kernel_rfl) (by kernel_rfl) (by kernel_rfl) (fun _ _ _ h => h) (Or.inl ⟨by rfl, by intro w hSw; go_simp⟩) (by assumption) ?_
      try simp only [Act.put, List.setIfInBounds_toArray, List.set_cons_zero, List.set_cons_succ, List.getElem_toArray, List.getElem_cons_zero]
      refine wpAnyH_take (i := 1) (oi := _) (v := key33) rfl (by kernel_rfl) (by kernel_rfl) (by kernel_rfl) (fun _ _ _ h => h) (Or.inl ⟨by rfl, by intro w hSw; go_simp⟩) (by assumption) ?_
      try simp only [Act.put, List.setIfInBounds_toArray, List.set_cons_zero, List.set_cons_succ, List.getElem_toArray, List.getElem_cons_zero, List.getElem_cons_succ]
      have hM1 : (putO V (T + 1 + 1) (.map #[⟨key33, .int .i64 0, 0⟩] 1)).heap[T + 1 + 1]? = some (.map #[⟨key33, .int .i64 0, 0⟩] 1) := putO_self _ hMlV
      have o1 : Off (T + 1 + 1) V (putO V (T + 1 + 1) (.map #[⟨key33, .int .i64 0, 0⟩] 1)) := (Off.refl _ _).putO _
      have o2 : Off (T + 1 + 1) V (putO (putO V (T + 1 + 1) (.map #[⟨key33, .int .i64 0, 0⟩] 1)) (T + 1 + 1) (.map #[⟨key33, .int .i64 1, 0⟩] 1)) := o1.putO _
      have hM2 : (putO (putO V (T + 1 + 1) (.map #[⟨key33, .int .i64 0, 0⟩] 1)) (T + 1 + 1) (.map #[⟨key33, .int .i64 1, 0⟩] 1)).heap[T + 1 + 1]? = some (.map #[⟨key33, .int .i64 1, 0⟩] 1) := putO_self _ (Nat.lt_of_lt_of_le hMlV o1.size)
      refine wpAnyH_ready (rs := [2, 4]) (by kernel_rfl) (by simp) ?_
      refine AllReadyH.cons (o := _) rfl (fun Kc hK => ?_) ?_
      · have q8 := HMV.out
        have q9 := seen_look0 HMV.out
        go_simp
        clear q9
        refine hK.out _ _ ⟨HKV.out.cell 0, HKV.out.cell 1⟩ (fun hHeld => ?_)
        clear hK Kc
        try simp only [Act.put, List.setIfInBounds_toArray, List.set_cons_zero, List.set_cons_succ]
        refine wpAnyH_take (i := 3) (oi := _) (v := .int .i64 1) rfl (by kernel_rfl) (by kernel_rfl) (by kernel_rfl) (fun _ _ _ h => h) (Or.inl ⟨by rfl, by intro w hSw; go_simp; rfl⟩) (by assumption) ?_
        try simp only [Act.put, List.setIfInBounds_toArray, List.set_cons_zero, List.set_cons_succ, List.getElem_toArray, List.getElem_cons_zero, List.getElem_cons_succ]
        refine wpAnyH_ready (rs := [4]) (by kernel_rfl) (by simp) ?_
        refine AllReadyH.cons (o := _) rfl (fun Kc hK => ?_) AllReadyH.nil
        have q9 := seen_entry HMV.out
        go_simp
        clear q9
        refine hK.out _ _ ⟨k0 _ o1, k1 _ o1⟩ (fun hHeld => ?_)
        clear hK Kc
        try simp only [Act.put, List.setIfInBounds_toArray, List.set_cons_zero, List.set_cons_succ]
        refine wpAnyH_take (i := 5) (oi := _) (v := goInt 0) rfl (by kernel_rfl) (by kernel_rfl) (by kernel_rfl) (fun _ _ _ h => h) (Or.inl ⟨by rfl, by intro w hSw; go_simp⟩) (by assumption) ?_
        try simp only [Act.put, List.setIfInBounds_toArray, List.set_cons_zero, List.set_cons_succ, List.getElem_toArray, List.getElem_cons_zero, List.getElem_cons_succ]
        refine wpAnyH_ready (rs := [6]) (by kernel_rfl) (by simp) ?_
        refine AllReadyH.cons (o := _) rfl (fun Kc hK => ?_) AllReadyH.nil
        have q9 : (Instr.entryStore 157 (.map (some (T + 1 + 1))) (.int .i64 0) (.int .i64 1)).run Tryz.prog _ = _ := seen_store (.int .i64 1) hM1
        go_simp
        clear q9
        refine hK.out _ _ ⟨k0 _ o2, k1 _ o2⟩ (fun hHeld => ?_)
        clear hK Kc
        try simp only [Act.put, List.setIfInBounds_toArray, List.set_cons_zero, List.set_cons_succ]
        refine wpAnyH_done (by kernel_rfl) ?_ _
        have u1 := (HUV.out.off o2 HMU.out).cell 1
        have u2 := (HUV.out.off o2 HMU.out).cell 2
        have kk0 := k0 _ o2
        have kk1 := k1 _ o2
        have ks := seen_look1 hM2
        have hY2 : Y < (putO (putO V (T + 1 + 1) (.map #[⟨key33, .int .i64 0, 0⟩] 1)) (T + 1 + 1) (.map #[⟨key33, .int .i64 1, 0⟩] 1)).heap.size := Nat.lt_of_lt_of_le HKV.out.lt o2.size
        have hUn2 : U < (putO (putO V (T + 1 + 1) (.map #[⟨key33, .int .i64 0, 0⟩] 1)) (T + 1 + 1) (.map #[⟨key33, .int .i64 1, 0⟩] 1)).heap.size := Nat.lt_of_lt_of_le HUV.out.lt o2.size
        have hpe := ptr_same r
        have HA2 := hide (HAV.out.off o2 (by omega))
        have HB2 : Hid (Below w.heap.size w (putO (putO V (T + 1 + 1) (.map #[⟨key33, .int .i64 0, 0⟩] 1)) (T + 1 + 1) (.map #[⟨key33, .int .i64 1, 0⟩] 1))) := HBV.out.trans (o2.toBelow (by omega) HBV.out.size)
        generalize putO (putO V (T + 1 + 1) (.map #[⟨key33, .int .i64 0, 0⟩] 1)) (T + 1 + 1) (.map #[⟨key33, .int .i64 1, 0⟩] 1) = Z at *
        clear HUV HKV HAV HBV HMV hM1 hM2 o1 o2 k0 k1 hHeld
        go_wp2_with fail
        go_roundg 0
        case measure => exact Nat.zero_lt_one
        exact .inr ⟨⟨g6, c6, HA2.out⟩, HB2.out⟩
      refine AllReadyH.cons (o := _) rfl (fun Kc hK => ?_) AllReadyH.nil
      have q9 := seen_entry HMV.out
      go_simp
      clear q9
      refine hK.out _ _ ⟨k0 _ o1, k1 _ o1⟩ (fun hHeld => ?_)
      clear hK Kc
      try simp only [Act.put, List.setIfInBounds_toArray, List.set_cons_zero, List.set_cons_succ]
      refine wpAnyH_take (i := 5) (oi := _) (v := goInt 0) rfl (by kernel_rfl) (by kernel_rfl) (by kernel_rfl) (fun _ _ _ h => h) (Or.inl ⟨by rfl, by intro w hSw; go_simp⟩) (by assumption) ?_
      try simp only [Act.put, List.setIfInBounds_toArray, List.set_cons_zero, List.set_cons_succ, List.getElem_toArray, List.getElem_cons_zero, List.getElem_cons_succ]
      refine wpAnyH_ready (rs := [2]) (by kernel_rfl) (by simp) ?_
      refine AllReadyH.cons (o := _) rfl (fun Kc hK => ?_) AllReadyH.nil
      have q9 := seen_look1 hM1
      go_simp
      clear q9
      refine hK.out _ _ ⟨k0 _ o1, k1 _ o1⟩ (fun hHeld => ?_)
      clear hK Kc
      try simp only [Act.put, List.setIfInBounds_toArray, List.set_cons_zero, List.set_cons_succ]
      refine wpAnyH_take (i := 3) (oi := _) (v := .int .i64 1) rfl (by kernel_rfl) (by kernel_rfl) (by kernel_rfl) (fun _ _ _ h => h) (Or.inl ⟨by rfl, by intro w hSw; go_simp; rfl⟩) (by assumption) ?_
      try simp only [Act.put, List.setIfInBounds_toArray, List.set_cons_zero, List.set_cons_succ, List.getElem_toArray, List.getElem_cons_zero, List.getElem_cons_succ]
      refine wpAnyH_ready (rs := [6]) (by kernel_rfl) (by simp) ?_
      refine AllReadyH.cons (o := _) rfl (fun Kc hK => ?_) AllReadyH.nil
      have q9 : (Instr.entryStore 157 (.map (some (T + 1 + 1))) (.int .i64 0) (.int .i64 1)).run Tryz.prog _ = _ := seen_store (.int .i64 1) hM1
      go_simp
      clear q9
      refine hK.out _ _ ⟨k0 _ o2, k1 _ o2⟩ (fun hHeld => ?_)
      clear hK Kc
      try simp only [Act.put, List.setIfInBounds_toArray, List.set_cons_zero, List.set_cons_succ]
      refine wpAnyH_done (by kernel_rfl) ?_ _
      have u1 := (HUV.out.off o2 HMU.out).cell 1
      have u2 := (HUV.out.off o2 HMU.out).cell 2
      have kk0 := k0 _ o2
      have kk1 := k1 _ o2
      have ks := seen_look1 hM2
      have hY2 : Y < (putO (putO V (T + 1 + 1) (.map #[⟨key33, .int .i64 0, 0⟩] 1)) (T + 1 + 1) (.map #[⟨key33, .int .i64 1, 0⟩] 1)).heap.size := Nat.lt_of_lt_of_le HKV.out.lt o2.size
      have hUn2 : U < (putO (putO V (T + 1 + 1) (.map #[⟨key33, .int .i64 0, 0⟩] 1)) (T + 1 + 1) (.map #[⟨key33, .int .i64 1, 0⟩] 1)).heap.size := Nat.lt_of_lt_of_le HUV.out.lt o2.size
      have hpe := ptr_same r
      have HA2 := hide (HAV.out.off o2 (by omega))
      have HB2 : Hid (Below w.heap.size w (putO (putO V (T + 1 + 1) (.map #[⟨key33, .int .i64 0, 0⟩] 1)) (T + 1 + 1) (.map #[⟨key33, .int .i64 1, 0⟩] 1))) := HBV.out.trans (o2.toBelow (by omega) HBV.out.size)
      generalize putO (putO V (T + 1 + 1) (.map #[⟨key33, .int .i64 0, 0⟩] 1)) (T + 1 + 1) (.map #[⟨key33, .int .i64 1, 0⟩] 1) = Z at *
      clear HUV HKV HAV HBV HMV hM1 hM2 o1 o2 k0 k1 hHeld
      go_wp2_with fail
      go_roundg 0
      case measure => exact Nat.zero_lt_one
      exact .inr ⟨⟨g6, c6, HA2.out⟩, HB2.out⟩
    · have e0 : wr.cell? ⟨T + 1, 0, none⟩ = some (.slice (some ⟨g9, 0, none⟩) 0 c9) := hn9.cell 0
      have hbl := hn9.lt
      have HB9 := hide hB9
      clear hn9 hB9
      go_wp2_with (go_at_call 93; refine (len_any _ _ _ _).mono ?_; rintro e w' ⟨rfl, hw⟩; have hw8 := hw.symm; subst hw8; clear hw)
      go_ret2
      exact ⟨rfl, HB9.out⟩
end Go.Proofs.YtlflfcjbpnnfcaaGreatDoor
