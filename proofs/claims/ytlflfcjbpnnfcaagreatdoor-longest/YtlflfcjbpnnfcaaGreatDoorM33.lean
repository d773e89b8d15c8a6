/- Walks and plain laws, some texts in one. -/
import Derived.Deep.RegionWith
import Derived.Deep.DeepCutAuto
import Derived.BigQuiet
import Derived.Deep.QuietTactic
import Derived.LaidEqlPtr
import Derived.Test.YtlflfcjbpnnfcaaGreatDoorM32
import Derived.Test.YtlflfcjbpnnfcaaGreatDoorM00
import Derived.Test.YtlflfcjbpnnfcaaGreatDoorM17
/- The library's calls at a list that has nothing, and a maker's first rest: walks. -/
namespace Go.Proofs.YtlflfcjbpnnfcaaGreatDoor
open Go.Shelf Go.RowKit Go.Lib

set_option maxRecDepth 100000 in
set_option maxHeartbeats 1000000 in
theorem ins_nil (g : Value) (w : World) : Calls Tryz.prog 255 #[.slice none 0 0, .int .i64 0, .int .i64 0, g] w fun e w' => e = .returned (.tuple #[]) ∧ w' = w := by
  go_enter Tryz.func255, Tryz.ntmps255
  go_wp2_with fail
  go_loopg [8] 1 (fun _ iv wr => iv = .int .i64 1 ∧ wr = w)
  case atStart => exact ⟨rfl, rfl⟩
  case round =>
    obtain ⟨rfl, rfl⟩ := hrel
    go_wp2
    go_end0
    exact ⟨rfl, rfl⟩
set_option maxRecDepth 100000 in
set_option maxHeartbeats 1000000 in
theorem pdq_nil (g : Value) (lim : Int) (w : World) : Calls Tryz.prog 217 #[.slice none 0 0, .int .i64 0, .int .i64 0, .int .i64 lim, g] w fun e w' => e = .returned (.tuple #[]) ∧ w' = w := by
  go_enter Tryz.func217, Tryz.ntmps217
  go_wp2_with fail
  go_loopg [1, 2] 1 (fun _ av bv wr => av = .int .i64 0 ∧ bv = .int .i64 0 ∧ wr = w)
  case atStart => exact ⟨rfl, rfl, rfl⟩
  case round =>
    obtain ⟨rfl, rfl, hw⟩ := hrel
    subst hw
    go_wp2_with (go_at_call 255; refine (ins_nil _ _).mono ?_; rintro e w' ⟨rfl, hw⟩; have hw8 := hw.symm; subst hw8; clear hw)
    refine bodyPost_ret (v := .tuple #[]) (by simp [results, Tryz.results217, go_sem]) rfl ?_
    exact ⟨rfl, rfl⟩
set_option maxRecDepth 100000 in
set_option maxHeartbeats 1000000 in
theorem sort_nil (g : Value) (w : World) : Calls Tryz.prog 173 #[.slice none 0 0, g] w fun e w' => e = .returned (.tuple #[]) ∧ w' = w := by
  go_enter Tryz.func173, Tryz.ntmps173
  go_wp2_with (first | (go_at_call 182; refine (Tryz.bits_Len 0 _ (by decide) (by decide)).mono ?_; rintro e w' ⟨rfl, hw⟩; have hw8 := hw.symm; subst hw8; clear hw) | (go_at_call 217; refine (pdq_nil _ _ _).mono ?_; rintro e w' ⟨rfl, hw⟩; have hw8 := hw.symm; subst hw8; clear hw))
  go_end0
  exact ⟨rfl, rfl⟩
set_option maxRecDepth 100000 in
set_option maxHeartbeats 1000000 in
theorem compact_nil (w : World) : Calls Tryz.prog 176 #[.slice none 0 0] w fun e w' => e = .returned (.slice none 0 0) ∧ w' = w := by
  go_enter Tryz.func176, Tryz.ntmps176
  go_wp2
  go_ret
  exact ⟨rfl, rfl⟩
set_option maxRecDepth 100000 in
set_option maxHeartbeats 1000000 in
theorem index_nil (g : Value) (w : World) : Calls Tryz.prog 219 #[.slice none 0 0, g] w fun e w' => e = .returned (.int .i64 (-1)) ∧ w' = w := by
  go_enter Tryz.func219, Tryz.ntmps219
  go_wp2_with fail
  go_loopg [8] 1 (fun _ iv wr => iv = .int .i64 0 ∧ wr = w)
  case atStart => exact ⟨rfl, rfl⟩
  case round =>
    obtain ⟨rfl, hw⟩ := hrel
    subst hw
    go_wp2
    go_ret
    exact ⟨rfl, rfl⟩
set_option maxRecDepth 100000 in
set_option maxHeartbeats 1000000 in
theorem contains_nil (g : Value) (w : World) : Calls Tryz.prog 178 #[.slice none 0 0, g] w fun e w' => e = .returned (.bool false) ∧ w' = w := by
  go_enter Tryz.func178, Tryz.ntmps178
  go_wp2_with (go_at_call 219; refine (index_nil _ _).mono ?_; rintro e w' ⟨rfl, hw⟩; have hw8 := hw.symm; subst hw8; clear hw)
  go_ret
  exact ⟨rfl, rfl⟩
theorem But.later {S T : Nat → Prop} {a b c : World} (h : But S a b) (k : But T b c) (hT : ∀ i, i < a.heap.size → T i → S i) : But S a c :=
  ⟨k.os.trans h.os, k.tape.trans h.tape, k.output.trans h.output, Nat.le_trans h.size k.size, fun i hi hn => (k.block i (Nat.lt_of_lt_of_le hi h.size) (fun ht => hn (hT i hi ht))).trans (h.block i hi hn)⟩
/-- What a call that makes a rest hands back: a new one, kept under its name. -/
def NewRest (w : World) (m bm : Nat) (nn ee : Option Nat) (f : List UInt8 → Option Nat) (n : Nat) (nm : List UInt8) (kd : Int) (en : Bool) (e : Ending) (w' : World) : Prop :=
  ∃ x, w.heap.size ≤ x ∧ e = .returned (.pointer (some ⟨x, 0, none⟩)) ∧ But (fun k => k = bm) w w' ∧ MS w' m bm nn ee (put f nm x) (n + 1) ∧ ∃ pa pn pc fv, RestB w' x n kd pa pn pc en fv
/-- .. or the one that was kept. -/
def OldRest (w : World) (y : Nat) (e : Ending) (w' : World) : Prop := e = .returned (.pointer (some ⟨y, 0, none⟩)) ∧ Below w.heap.size w w'
theorem IntsW.nil (w : World) (a : Option Addr) : IntsW w a [] := fun j x hx => by simp at hx
theorem PtsW.nil (w : World) (a : Option Addr) (num : Nat → Int) : PtsW w a [] num := fun j x hx => by simp at hx
set_option maxRecDepth 100000 in
set_option maxHeartbeats 4000000 in
theorem or_nil (m bm : Nat) (nn ee : Option Nat) (f : List UInt8 → Option Nat) (n : Nat) (w : World) (hM : MS w m bm nn ee f n) (hP : PowT w) (hf : f (nameOf 2 [] []) = none) (hn : n ≤ 1000000000) :
    Calls Tryz.prog 128 #[.pointer (some ⟨m, 0, none⟩), .slice none 0 0] w (NewRest w m bm nn ee f n (nameOf 2 [] []) 2 false) := by
  have HM := hide hM
  have HP := hide hP
  have HF := hide hf
  obtain ⟨W0, hW0⟩ : ∃ W0, (w.alloc (.cells #[.pointer (some ⟨m, 0, none⟩)] 151)).alloc (.cells #[.slice none 0 0] 166) = W0 := ⟨_, rfl⟩
  have hB0 : Below w.heap.size w W0 := by rw [← hW0]; exact ((Below.refl _ _).alloc (Nat.le_refl _) _).alloc (by simp) _
  have hb1 : Blk W0 w.heap.size [.pointer (some ⟨m, 0, none⟩)] 151 := by rw [← hW0]; exact (Blk.new w [.pointer (some ⟨m, 0, none⟩)] 151).alloc _
  have hb2 : Blk W0 (w.heap.size + 1) [.slice none 0 0] 166 := by rw [← hW0]; have := Blk.new (w.alloc (.cells #[.pointer (some ⟨m, 0, none⟩)] 151)) [.slice none 0 0] 166; simpa using this
  have hs0 : W0.heap.size = w.heap.size + 2 := by rw [← hW0]; simp
  have HW0 := hide hW0
  have HB0 := hide hB0
  have c1 : W0.cell? ⟨w.heap.size, 0, none⟩ = some (.pointer (some ⟨m, 0, none⟩)) := hb1.cell 0
  have c2 : W0.cell? ⟨w.heap.size + 1, 0, none⟩ = some (.slice none 0 0) := hb2.cell 0
  have f2 := hb2.frozen 0
  have HB2 := hide hb2
  have HB1 := hide hb1
  clear hM hP hf hW0 hB0 hb2 hb1
  go_enter Tryz.func128, Tryz.ntmps128
  go_wp2_with fail
  rw [HW0.out]
  generalize hS : w.heap.size = S at *
  go_loopg [12] 1 (fun _ iv wr => iv = .int .i64 0 ∧ wr = W0)
  case atStart => exact ⟨rfl, rfl⟩
  case round =>
    obtain ⟨rfl, hw⟩ := hrel
    subst hw
    go_wp2_with (first
      | (go_at_call 173; refine (sort_nil _ _).mono ?_; rintro e w' ⟨rfl, hw⟩; have hw8 := hw.symm; subst hw8; clear hw)
      | (go_at_call 176; refine (compact_nil _).mono ?_; rintro e w' ⟨rfl, hw⟩; have hw8 := hw.symm; subst hw8; clear hw)
      | (go_at_call 178; refine (contains_nil _ _).mono ?_; rintro e w' ⟨rfl, hw⟩; have hw8 := hw.symm; subst hw8; clear hw))
    have hBa : Below S w (wr.setCell ⟨S + 1, 0, none⟩ (.slice none 0 0)) := HB0.out.setCell (p := ⟨S + 1, 0, none⟩) (by show S ≤ S + 1; omega) _
    have hsz : (wr.setCell ⟨S + 1, 0, none⟩ (.slice none 0 0)).heap.size = S + 2 := by simpa [World.setCell] using hs0
    have hx := Blk.new (wr.setCell ⟨S + 1, 0, none⟩ (.slice none 0 0)) [.int .i64 0, .int .i64 2, .slice none 0 0, .bool false, .func (.func 177) #[] #[.pointer (some ⟨S + 1, 0, none⟩), .pointer (some ⟨S, 0, none⟩)]] 169
    rw [hsz] at hx
    have hBb : Below S w ((wr.setCell ⟨S + 1, 0, none⟩ (.slice none 0 0)).alloc (.cells #[.int .i64 0, .int .i64 2, .slice none 0 0, .bool false, .func (.func 177) #[] #[.pointer (some ⟨S + 1, 0, none⟩), .pointer (some ⟨S, 0, none⟩)]] 169)) := hBa.alloc (by rw [hsz]; omega) _
    generalize (wr.setCell ⟨S + 1, 0, none⟩ (.slice none 0 0)).alloc (.cells #[.int .i64 0, .int .i64 2, .slice none 0 0, .bool false, .func (.func 177) #[] #[.pointer (some ⟨S + 1, 0, none⟩), .pointer (some ⟨S, 0, none⟩)]] 169) = W1 at *
    have hBw : Below w.heap.size w W1 := by rw [hS]; exact hBb
    have hM1 := HM.out.below hBw
    have hml : m < S := by rw [← hS]; exact HM.out.1.lt
    have hbl : bm < S := by rw [← hS]; exact HM.out.2.1.lt
    have hk := keep_any m bm nn ee f n (S + 2) 0 2 none 0 false 177 #[.pointer (some ⟨S + 1, 0, none⟩), .pointer (some ⟨S, 0, none⟩)] none 0 [] [] (fun _ => 0) W1 hM1 hx (by omega) (by omega) (IntsW.nil _ _) (PtsW.nil _ _ _) (HP.out.below hBw) (by decide) (by decide) (by decide) (by decide) hn
    rw [List.map_nil, HF.out] at hk
    refine hk.mono ?_
    rintro e w5 ⟨rfl, hbut, hM5, fv, hx5⟩
    have HX5 := hide hx5
    have HM5 := hide hM5
    have HBW := hide hBw
    have HBUT := hide hbut
    clear hx hBa hsz hBb hM1 hk hbut hM5 hx5 hBw
    go_wp2
    go_ret
    exact ⟨S + 2, by omega, rfl, (But.below HBW.out).later HBUT.out (fun i hi h => by rcases h with h | h; omega; exact h), HM5.out, _, _, _, _, HX5.out⟩
end Go.Proofs.YtlflfcjbpnnfcaaGreatDoor
/- The rest of a set: a walk. -/
namespace Go.Proofs.YtlflfcjbpnnfcaaGreatDoor
open Go.Shelf Go.RowKit Go.Lib

def flat (l : List (Int × Int)) : List Int := l.flatMap fun x => [x.1, x.2]
theorem flat_snoc (l : List (Int × Int)) (x : Int × Int) : flat (l ++ [x]) = flat l ++ [x.1, x.2] := by simp [flat]
theorem flat_len (l : List (Int × Int)) : (flat l).length = 2 * l.length := by
  induction l with
  | nil => rfl
  | cons x l ih => simp only [flat, List.flatMap_cons, List.length_append, List.length_cons, List.length_nil] at *; omega
theorem flat_mem {l : List (Int × Int)} {y : Int} (h : y ∈ flat l) : ∃ x ∈ l, y = x.1 ∨ y = x.2 := by
  unfold flat at h
  obtain ⟨x, hx, hy⟩ := List.mem_flatMap.1 h
  exact ⟨x, hx, by simpa using hy⟩
theorem two_cells (w : World) (o : Obj) (y1 y2 : Int) : ∀ j u, [Value.int .i64 y1, Value.int .i64 y2][j]? = some u → ((w.alloc o).alloc (.cells #[.int .i64 y1, .int .i64 y2] 3)).cell? ((⟨w.heap.size + 1, 0, none⟩ : Addr).add j) = some u := by
  intro j u hj
  match j, hj with
  | 0, hj => simp at hj; subst hj; simp [Addr.add]
  | 1, hj => simp at hj; subst hj; simp [Addr.add]
/-- A row of numbers of one's own is read so. -/
theorem own_ints {w : World} {B n : Nat} {v : Value} {L : List Int} (h : w.ownsRow B 3 1 v n (ints L)) (hr : ∀ x ∈ L, -9223372036854775808 ≤ x ∧ x ≤ 9223372036854775807) : ∃ a c, v = .slice a L.length c ∧ IntsW w a L ∧ n = L.length := by
  have hl := h.1
  simp [ints] at hl
  rcases h.2 with ⟨rfl, rfl⟩ | ⟨g, cap, cur, rfl, hg, hh, r⟩
  · have : L = [] := List.length_eq_zero_iff.1 (by omega)
    subst this
    exact ⟨none, 0, rfl, IntsW.nil _ _, rfl⟩
  · refine ⟨some ⟨g, 0, none⟩, cap, by rw [hl], fun j x hx => ?_, by omega⟩
    obtain ⟨bp, e, hc, hlt, _, _⟩ := (show ∃ bp, (some (⟨g, 0, none⟩ : Addr)) = some ⟨bp, 0, none⟩ ∧ w.cell? ⟨bp, j, none⟩ = some (.int .i64 x) ∧ bp < w.heap.size ∧ B ≤ bp ∧ j < n from own3_cell h x hx)
    cases e
    exact ⟨g, 0, rfl, hlt, by rw [Nat.zero_add]; exact hc, hr x (List.mem_of_getElem? hx)⟩
def SetI (w : World) (S : Nat) (la : Option Addr) (lc m : Nat) (l : List (Int × Int)) (j : Nat) (ev iv : Value) (wr : World) : Prop := ∃ i : Nat, iv = .int .i64 (i : Int) ∧ i ≤ l.length ∧ l.length - i ≤ j ∧ wr.ownsRow (S + 2) 3 1 ev (2 * i) (ints (flat (l.take i))) ∧ Below S w wr ∧ Blk wr S [.pointer (some ⟨m, 0, none⟩)] 151 ∧ Blk wr (S + 1) [.slice la l.length lc] 29
set_option maxRecDepth 100000 in
set_option maxHeartbeats 4000000 in
theorem set_any (m bm : Nat) (nn ee : Option Nat) (f : List UInt8 → Option Nat) (n : Nat) (la : Option Addr) (lc : Nat) (l : List (Int × Int)) (w : World) (hM : MS w m bm nn ee f n) (hP : PowT w) (hl : Rd w la l) (hr : ∀ x ∈ l, (-9223372036854775808 ≤ x.1 ∧ x.1 ≤ 9223372036854775807) ∧ (-9223372036854775808 ≤ x.2 ∧ x.2 ≤ 9223372036854775807)) (hl0 : l.length ≠ 0) (hl9 : l.length ≤ 400) (hn : n ≤ 1000000000) :
    Calls Tryz.prog 137 #[.pointer (some ⟨m, 0, none⟩), .slice la l.length lc] w fun e w' => match f (nameOf 0 (flat l) []) with | some y => OldRest w y e w' | none => NewRest w m bm nn ee f n (nameOf 0 (flat l) []) 0 false e w' := by
  obtain ⟨i0, hi, hz0, hz1, hz2⟩ := info_parts Tryz.info3
  obtain ⟨W0, hW0⟩ : ∃ W0, (w.alloc (.cells #[.pointer (some ⟨m, 0, none⟩)] 151)).alloc (.cells #[.slice la l.length lc] 29) = W0 := ⟨_, rfl⟩
  have hB0 : Below w.heap.size w W0 := by rw [← hW0]; exact ((Below.refl _ _).alloc (Nat.le_refl _) _).alloc (by simp) _
  have hb1 : Blk W0 w.heap.size [.pointer (some ⟨m, 0, none⟩)] 151 := by rw [← hW0]; exact (Blk.new w [.pointer (some ⟨m, 0, none⟩)] 151).alloc _
  have hb2 : Blk W0 (w.heap.size + 1) [.slice la l.length lc] 29 := by rw [← hW0]; have := Blk.new (w.alloc (.cells #[.pointer (some ⟨m, 0, none⟩)] 151)) [.slice la l.length lc] 29; simpa using this
  have hs0 : W0.heap.size = w.heap.size + 2 := by rw [← hW0]; simp
  have HM := hide hM
  have HP := hide hP
  have HL := hide hl
  have HR := hide hr
  have HW0 := hide hW0
  have HB0 := hide hB0
  have HB1 := hide hb1
  have HB2 := hide hb2
  have c2 : W0.cell? ⟨w.heap.size + 1, 0, none⟩ = some (.slice la l.length lc) := hb2.cell 0
  have hz : ((l.length : Int) == 0) = false := beq_eq_false_iff_ne.2 (by omega)
  have hz' : (l.length == 0) = false := beq_eq_false_iff_ne.2 hl0
  obtain ⟨NM, hNM⟩ : ∃ NM, nameOf 0 (flat l) [] = NM := ⟨_, rfl⟩
  rw [hNM]
  have HNM := hide hNM
  obtain ⟨R, hR⟩ : ∃ R, f NM = R := ⟨_, rfl⟩
  rw [hR]
  have HRR := hide hR
  clear hM hP hl hr hW0 hB0 hb1 hb2 hNM hR
  go_enter Tryz.func137, Tryz.ntmps137
  go_wp2_with fail
  rw [HW0.out]
  generalize hS : w.heap.size = S at *
  go_wp2_with fail
  go_loopg [5, 18] l.length (fun j ev iv wr => SetI w S la lc m l j ev iv wr)
  case atStart => exact ⟨0, rfl, Nat.zero_le _, by omega, World.ownsRow_nil _ _ _ _, HB0.out, HB1.out, HB2.out⟩
  case round =>
    obtain ⟨i, rfl, hil, hj, hown, hbel, hk1, hk2⟩ := hrel
    have k0 : (0 : Int) ≤ (i : Int) := Int.natCast_nonneg _
    have hsz : S + 2 ≤ wr.heap.size := by have := hk2.lt; omega
    by_cases hlt : i < l.length
    · have k1 : (i : Int) < (l.length : Int) := by omega
      obtain ⟨b, off, rfl, hb, h1, h2⟩ := HL.out i l[i] (List.getElem?_eq_getElem hlt)
      generalize hx : l[i] = x at h1 h2
      have HX : Hid (l.take (i + 1) = l.take i ++ [x]) := take_snocL (by rw [List.getElem?_eq_getElem hlt, hx])
      obtain ⟨x1, x2⟩ := x
      simp only at h1 h2
      rw [hS] at hb
      rw [← hbel.cell (p := ⟨b, _, none⟩) hb] at h1 h2
      have hbw : b < wr.heap.size := by omega
      have HOWN := hide hown
      have HK1 := hide hk1
      have HK2 := hide hk2
      have HBL := hide hbel
      have HXX := hide hx
      clear hx hk1 hk2 hbel
      go_wp2_with (at_builtin; refine wpList_append_own _ rfl _ _ 48 rfl (S + 2) 3 i0 (.int .i64 0) 1 8 Tryz.underlying48 hi hz0 hz1 hz2 rfl (by decide) _ _ _ rfl ((hown.alloc _).alloc _) ⟨wr.heap.size + 1, 0, none⟩ 2 2 [.int .i64 x1, .int .i64 x2] rfl rfl (two_cells _ _ _ _) (new_one _ _) (by unfold maxLen; omega) (by omega) (by simp; omega) ?_; intro v' w3 hown' hgrow _)
      have R2 := ((HBL.out.alloc (by omega) (.cells #[.int .i64 x1, .int .i64 x2] 149)).alloc (by simp; omega) (.cells #[.int .i64 x1, .int .i64 x2] 3)).grown hgrow (by simp; omega) (fun k e => by have := (hown.lt k e).1; omega)
      have hfar : ∀ k, k < S + 2 → some k ≠ Value.ownBlock u5 := fun k hk e => by have := (hown.lt k e.symm).1; omega
      have HB5 := hide (((HK1.out.alloc (.cells #[.int .i64 x1, .int .i64 x2] 149)).alloc (.cells #[.int .i64 x1, .int .i64 x2] 3)).grown hgrow (hfar _ (by omega)))
      have HB6 := hide (((HK2.out.alloc (.cells #[.int .i64 x1, .int .i64 x2] 149)).alloc (.cells #[.int .i64 x1, .int .i64 x2] 3)).grown hgrow (hfar _ (by omega)))
      go_roundg (gk - 1)
      case measure => omega
      case rel =>
        refine ⟨i + 1, by go_num, by omega, by omega, ?_, R2, HB5.out, HB6.out⟩
        have e2 : ints (flat (l.take (i + 1))) = ints (flat (l.take i)) ++ [.int .i64 x1, .int .i64 x2] := by rw [HX.out, flat_snoc]; simp [ints]
        rw [e2, show 2 * (i + 1) = 2 * i + 2 by omega]
        exact hown'
    · have d1 : decide ((i : Int) < (l.length : Int)) = false := decide_eq_false (by omega)
      have d2 : decide (i < l.length) = false := decide_eq_false hlt
      have hie : i = l.length := by omega
      subst hie
      rw [List.take_length] at hown
      have hrf : ∀ x ∈ flat l, -9223372036854775808 ≤ x ∧ x ≤ 9223372036854775807 := fun x hx => by
        obtain ⟨y, hy, e⟩ := flat_mem hx
        rcases e with rfl | rfl
        · exact (HR.out y hy).1
        · exact (HR.out y hy).2
      obtain ⟨ea, ec, rfl, hints, _⟩ := own_ints hown hrf
      have e1 : wr.cell? ⟨S, 0, none⟩ = some (.pointer (some ⟨m, 0, none⟩)) := hk1.cell 0
      have HIN := hide hints
      have HBL := hide hbel
      clear hown hints hk1 hk2 hbel hrf
      go_wp2_with fail
      have hxx := Blk.new wr [.int .i64 0, .int .i64 0, .slice none 0 0, .bool false, .func (.func 184) #[] #[.pointer (some ⟨S + 1, 0, none⟩), .pointer (some ⟨S, 0, none⟩)]] 169
      have hBx : Below wr.heap.size wr (wr.alloc (.cells #[.int .i64 0, .int .i64 0, .slice none 0 0, .bool false, .func (.func 184) #[] #[.pointer (some ⟨S + 1, 0, none⟩), .pointer (some ⟨S, 0, none⟩)]] 169)) := (Below.refl _ _).alloc (Nat.le_refl _) _
      generalize wr.alloc (.cells #[.int .i64 0, .int .i64 0, .slice none 0 0, .bool false, .func (.func 184) #[] #[.pointer (some ⟨S + 1, 0, none⟩), .pointer (some ⟨S, 0, none⟩)]] 169) = W1 at *
      have hBw : Below w.heap.size w W1 := by rw [hS]; exact HBL.out.trans (hBx.mono (by omega))
      have hml : m < S := by rw [← hS]; exact HM.out.1.lt
      have hbl : bm < S := by rw [← hS]; exact HM.out.2.1.lt
      have hk := keep_any m bm nn ee f n wr.heap.size 0 0 none 0 false 184 #[.pointer (some ⟨S + 1, 0, none⟩), .pointer (some ⟨S, 0, none⟩)] ea ec (flat l) [] (fun _ => 0) W1 (HM.out.below hBw) hxx (by omega) (by omega) (HIN.out.below hBx) (PtsW.nil _ _ _) (HP.out.below hBw) (by decide) (by decide) (by rw [flat_len]; omega) (by decide) hn
      rw [List.map_nil, HNM.out, HRR.out] at hk
      refine hk.mono ?_
      have HBW := hide hBw
      cases R with
      | some y =>
        rintro e w5 ⟨rfl, hb5⟩
        have HB5 := hide hb5
        clear hxx hBx hBw hk hb5
        go_wp2
        go_ret
        exact ⟨rfl, HBW.out.trans (HB5.out.mono HBW.out.size)⟩
      | none =>
        rintro e w5 ⟨rfl, hbut, hM5, fv, hx5⟩
        have HX5 := hide hx5
        have HM5 := hide hM5
        have HBUT := hide hbut
        clear hxx hBx hBw hk hbut hM5 hx5
        go_wp2
        go_ret
        exact ⟨wr.heap.size, by omega, rfl, (But.below HBW.out).later HBUT.out (fun i hi h => by rcases h with h | h; omega; exact h), HM5.out, _, _, _, _, HX5.out⟩
end Go.Proofs.YtlflfcjbpnnfcaaGreatDoor
/- The rest of what comes any number of times: a walk. -/
namespace Go.Proofs.YtlflfcjbpnnfcaaGreatDoor
open Go.Shelf Go.RowKit Go.Lib

theorem b3_1 {W : World} {N : Nat} (h : W.heap.size = N) {cs : List Value} {T : TypeId} (o2 o3 : Obj) : Blk (((W.alloc (.cells cs.toArray T)).alloc o2).alloc o3).drew N cs T := by subst h; exact ((Blk.new W cs T).alloc o2).alloc o3
theorem b3_2 {W : World} {N : Nat} (h : W.heap.size = N) {cs : List Value} {T : TypeId} (o1 o3 : Obj) : Blk (((W.alloc o1).alloc (.cells cs.toArray T)).alloc o3).drew (N + 1) cs T := by
  subst h; have := (Blk.new (W.alloc o1) cs T).alloc o3; rw [show (W.alloc o1).heap.size = W.heap.size + 1 by simp] at this; exact this
theorem b3_3 {W : World} {N : Nat} (h : W.heap.size = N) {cs : List Value} {T : TypeId} (o1 o2 : Obj) : Blk (((W.alloc o1).alloc o2).alloc (.cells cs.toArray T)).drew (N + 1 + 1) cs T := by
  subst h; have := Blk.new ((W.alloc o1).alloc o2) cs T; rw [show ((W.alloc o1).alloc o2).heap.size = W.heap.size + 1 + 1 by simp] at this; exact this
theorem below3 (W : World) (o1 o2 o3 : Obj) : Below W.heap.size W (((W.alloc o1).alloc o2).alloc o3).drew := ((((Below.refl _ W).alloc (Nat.le_refl _) _).alloc (by simp) _).alloc (by simp; omega) _).drew
/-- keep at the rest of a star, wherever its parts lie. -/
theorem star_call {w W : World} {m bm : Nat} {nn ee : Option Nat} {f : List UInt8 → Option Nat} {n y : Nat} {ny mo : Int} {cp : Array Value} (hM : MS w m bm nn ee f n) (hP : PowT w) (hy : w.cell? ⟨y, 0, none⟩ = some (.int .i64 ny)) (hyl : y < w.heap.size) (hny : 0 ≤ ny ∧ ny ≤ 1000000000) (hmo : -9223372036854775808 ≤ mo ∧ mo ≤ 9223372036854775807) (hn : n ≤ 1000000000)
    (x xa xb : Nat) (hB : Below w.heap.size w W) (hx : Blk W x [.int .i64 0, .int .i64 5, .slice (some ⟨xa, 0, none⟩) 1 1, .bool true, .func (.func 189) #[] cp] 169) (hxl : w.heap.size ≤ x) (ha : Blk W xa [.pointer (some ⟨y, 0, none⟩)] 159) (hb : Blk W xb [.int .i64 0, .int .i64 mo] 3) :
    Calls Tryz.prog 129 #[.pointer (some ⟨m, 0, none⟩), .pointer (some ⟨x, 0, none⟩), .slice (some ⟨xb, 0, none⟩) 2 2] W fun e w' => match f (nameOf 5 [0, mo] [ny]) with | some z => OldRest w z e w' | none => NewRest w m bm nn ee f n (nameOf 5 [0, mo] [ny]) 5 true e w' := by
  have hml := hM.1.lt
  have hbl := hM.2.1.lt
  have hk := keep_any m bm nn ee f n x 0 5 (some ⟨xa, 0, none⟩) 1 true 189 cp (some ⟨xb, 0, none⟩) 2 [0, mo] [y] (fun _ => ny) W (hM.below hB) hx (by omega) (by omega) ?_ ?_ (hP.below hB) (by decide) (by decide) (by simp) (by simp) hn
  · refine hk.mono ?_
    rw [show ([y].map fun _ => ny) = [ny] from rfl]
    cases f (nameOf 5 [0, mo] [ny]) with
    | some z => rintro e w' ⟨rfl, hb'⟩; exact ⟨rfl, hB.trans (hb'.mono hB.size)⟩
    | none => rintro e w' ⟨rfl, hbut, hM', fv, hx'⟩; exact ⟨x, hxl, rfl, (But.below hB).later hbut (fun i hi h => by rcases h with h | h; omega; exact h), hM', _, _, _, _, hx'⟩
  · intro j z hz
    match j, hz with
    | 0, hz => simp at hz; subst hz; exact ⟨xb, 0, rfl, hb.lt, hb.cell 0, by decide, by decide⟩
    | 1, hz => simp at hz; subst hz; exact ⟨xb, 0, rfl, hb.lt, hb.cell 1, hmo.1, hmo.2⟩
  · intro j z hz
    match j, hz with
    | 0, hz => simp at hz; subst hz; exact ⟨xa, 0, rfl, ha.lt, Nat.lt_of_lt_of_le hyl hB.size, ha.cell 0, (hB.cell (p := ⟨y, 0, none⟩) hyl).trans hy, show -9223372036854775808 ≤ ny by omega, show ny ≤ 9223372036854775807 by omega⟩
set_option maxRecDepth 100000 in
set_option maxHeartbeats 4000000 in
theorem star_any (m bm : Nat) (nn ee : Option Nat) (f : List UInt8 → Option Nat) (n y : Nat) (ny mo : Int) (w : World) (hM : MS w m bm nn ee f n) (hP : PowT w) (hy : w.cell? ⟨y, 0, none⟩ = some (.int .i64 ny)) (ye : Bool) (hye : w.cell? ⟨y, 3, none⟩ = some (.bool ye)) (hyb : y ≠ bm) (hyl : y < w.heap.size) (hny : 0 ≤ ny ∧ ny ≤ 1000000000) (hmo : -9223372036854775808 ≤ mo ∧ mo ≤ 9223372036854775807) (hm0 : mo ≠ 0) (hn : n ≤ 1000000000) :
    Calls Tryz.prog 141 #[.pointer (some ⟨m, 0, none⟩), .pointer (some ⟨y, 0, none⟩), .int .i64 0, .int .i64 mo] w fun e w' => match f (nameOf 5 [0, mo] [ny]) with | some z => OldRest w z e w' | none => NewRest w m bm nn ee f n (nameOf 5 [0, mo] [ny]) 5 true e w' := by
  obtain ⟨W0, hW0⟩ : ∃ W0, (((w.alloc (.cells #[.pointer (some ⟨m, 0, none⟩)] 151)).alloc (.cells #[.pointer (some ⟨y, 0, none⟩)] 159)).alloc (.cells #[.int .i64 0] 3)).alloc (.cells #[.int .i64 mo] 3) = W0 := ⟨_, rfl⟩
  have hB0 : Below w.heap.size w W0 := by rw [← hW0]; exact ((((Below.refl _ _).alloc (Nat.le_refl _) _).alloc (by simp) _).alloc (by simp; omega) _).alloc (by simp; omega) _
  have hb1 : Blk W0 w.heap.size [.pointer (some ⟨m, 0, none⟩)] 151 := by rw [← hW0]; exact (((Blk.new w [.pointer (some ⟨m, 0, none⟩)] 151).alloc _).alloc _).alloc _
  have hb2 : Blk W0 (w.heap.size + 1) [.pointer (some ⟨y, 0, none⟩)] 159 := by rw [← hW0]; have := ((Blk.new (w.alloc (.cells #[.pointer (some ⟨m, 0, none⟩)] 151)) [.pointer (some ⟨y, 0, none⟩)] 159).alloc (.cells #[.int .i64 0] 3)).alloc (.cells #[.int .i64 mo] 3); simpa using this
  have hb3 : Blk W0 (w.heap.size + 2) [.int .i64 0] 3 := by rw [← hW0]; have := (Blk.new ((w.alloc (.cells #[.pointer (some ⟨m, 0, none⟩)] 151)).alloc (.cells #[.pointer (some ⟨y, 0, none⟩)] 159)) [.int .i64 0] 3).alloc (.cells #[.int .i64 mo] 3); simpa using this
  have hb4 : Blk W0 (w.heap.size + 3) [.int .i64 mo] 3 := by rw [← hW0]; have := Blk.new (((w.alloc (.cells #[.pointer (some ⟨m, 0, none⟩)] 151)).alloc (.cells #[.pointer (some ⟨y, 0, none⟩)] 159)).alloc (.cells #[.int .i64 0] 3)) [.int .i64 mo] 3; simpa using this
  have hs0 : W0.heap.size = w.heap.size + 4 := by rw [← hW0]; simp
  have c1 : W0.cell? ⟨w.heap.size, 0, none⟩ = some (.pointer (some ⟨m, 0, none⟩)) := hb1.cell 0
  have c2 : W0.cell? ⟨w.heap.size + 1, 0, none⟩ = some (.pointer (some ⟨y, 0, none⟩)) := hb2.cell 0
  have c3 : W0.cell? ⟨w.heap.size + 2, 0, none⟩ = some (.int .i64 0) := hb3.cell 0
  have c4 : W0.cell? ⟨w.heap.size + 3, 0, none⟩ = some (.int .i64 mo) := hb4.cell 0
  have HW0 := hide hW0
  have HB0 := hide hB0
  have hz : (mo == 0) = false := beq_eq_false_iff_ne.2 hm0
  have HB1 := hide hb1
  have HB2 := hide hb2
  have HB3 := hide hb3
  have HB4 := hide hb4
  have HM := hide hM
  have c5 : W0.cell? ⟨y, 3, none⟩ = some (.bool ye) := (hB0.cell (p := ⟨y, 3, none⟩) hyl).trans hye
  have HC := hide (fun (cp : Array Value) (W : World) => star_call (cp := cp) (W := W) (w := W0) (m := m) (bm := bm) (nn := nn) (ee := ee) (f := f) (n := n) (y := y) (ny := ny) (mo := mo) (hM.below hB0) (hP.below hB0) ((hB0.cell (p := ⟨y, 0, none⟩) hyl).trans hy) (Nat.lt_of_lt_of_le hyl hB0.size) hny hmo hn)
  have hyl0 : y < W0.heap.size := Nat.lt_of_lt_of_le hyl hB0.size
  have hbl : bm < w.heap.size := hM.2.1.lt
  have HH := hide (fun (W' : World) (hb : ∀ k, k < W0.heap.size → k ≠ bm → W'.heap[k]? = W0.heap[k]?) => (show W'.cell? ⟨w.heap.size, 0, none⟩ = some (.pointer (some ⟨m, 0, none⟩)) ∧ W'.cell? ⟨w.heap.size + 1, 0, none⟩ = some (.pointer (some ⟨y, 0, none⟩)) ∧ W'.cell? ⟨w.heap.size + 2, 0, none⟩ = some (.int .i64 0) ∧ W'.cell? ⟨w.heap.size + 3, 0, none⟩ = some (.int .i64 mo) ∧ W'.cell? ⟨y, 3, none⟩ = some (.bool ye) from
    ⟨(World.cell?_of_block (w := W0) (hb w.heap.size hb1.lt (by omega))).trans c1, (World.cell?_of_block (w := W0) (hb (w.heap.size + 1) hb2.lt (by omega))).trans c2, (World.cell?_of_block (w := W0) (hb (w.heap.size + 2) hb3.lt (by omega))).trans c3, (World.cell?_of_block (w := W0) (hb (w.heap.size + 3) hb4.lt (by omega))).trans c4, (World.cell?_of_block (w := W0) (hb _ hyl0 hyb)).trans c5⟩))
  obtain ⟨NM, hNM⟩ : ∃ NM, nameOf 5 [0, mo] [ny] = NM := ⟨_, rfl⟩
  rw [hNM] at HC ⊢
  obtain ⟨R, hR⟩ : ∃ R, f NM = R := ⟨_, rfl⟩
  rw [hR] at HC ⊢
  clear hR hNM
  have HF : Hid (∀ e w5, (match R with | some z => OldRest W0 z e w5 | none => NewRest W0 m bm nn ee f n NM 5 true e w5) → ∃ z, e = .returned (.pointer (some ⟨z, 0, none⟩)) ∧
      (w5.cell? ⟨w.heap.size, 0, none⟩ = some (.pointer (some ⟨m, 0, none⟩)) ∧ w5.cell? ⟨w.heap.size + 1, 0, none⟩ = some (.pointer (some ⟨y, 0, none⟩)) ∧ w5.cell? ⟨w.heap.size + 2, 0, none⟩ = some (.int .i64 0) ∧ w5.cell? ⟨w.heap.size + 3, 0, none⟩ = some (.int .i64 mo) ∧ w5.cell? ⟨y, 3, none⟩ = some (.bool ye)) ∧
      (match R with | some q => OldRest w q (.returned (.pointer (some ⟨z, 0, none⟩))) w5 | none => NewRest w m bm nn ee f n NM 5 true (.returned (.pointer (some ⟨z, 0, none⟩))) w5)) := by
    intro e w5 h5
    cases R with
    | some q =>
      obtain ⟨rfl, hb⟩ := h5
      exact ⟨q, rfl, HH.out _ (fun k hk _ => hb.block k hk), rfl, hB0.trans (hb.mono hB0.size)⟩
    | none =>
      obtain ⟨x, hx, rfl, hbut, hM', hr'⟩ := h5
      exact ⟨x, rfl, HH.out _ (fun k hk hne => hbut.block k hk hne), x, Nat.le_trans hB0.size hx, rfl, (But.below hB0).later hbut (fun i _ h => h), hM', hr'⟩
  clear hM hP hy hye hB0 hb1 hb2 hb3 hb4 hW0 hmo hny
  go_enter Tryz.func141, Tryz.ntmps141
  go_wp2_with fail
  rw [HW0.out]
  generalize hS : w.heap.size = S at *
  go_wp2_with fail
  have HSM := hide hs0
  refine wp_region_held_drew (S := (fun w' : World => w'.cell? ⟨S, 0, none⟩ = some (.pointer (some ⟨m, 0, none⟩)) ∧ w'.cell? ⟨S + 1, 0, none⟩ = some (.pointer (some ⟨y, 0, none⟩)) ∧ w'.cell? ⟨S + 2, 0, none⟩ = some (.int .i64 0) ∧ w'.cell? ⟨S + 3, 0, none⟩ = some (.int .i64 mo) ∧ w'.cell? ⟨y, 3, none⟩ = some (.bool ye))) (by kernel_rfl) ⟨c1, c2, c3, c4, c5⟩ (fun hHeld => ?_)
  refine wpAnyH_take (i := 0) (oi := _) (v := .pointer (some ⟨m, 0, none⟩)) rfl (by kernel_rfl) (by kernel_rfl) (by kernel_rfl) (fun _ _ _ h => h) (Or.inl ⟨by rfl, by intro w hSw; go_simp⟩) (by assumption) ?_
  try simp only [Act.put, List.setIfInBounds_toArray, List.set_cons_zero, List.set_cons_succ, List.getElem_toArray, List.getElem_cons_zero]
  refine wpAnyH_take (i := 1) (oi := _) (v := .pointer (some ⟨y, 0, none⟩)) rfl (by kernel_rfl) (by kernel_rfl) (by kernel_rfl) (fun _ _ _ h => h) (Or.inl ⟨by rfl, by intro w hSw; go_simp⟩) (by assumption) ?_
  try simp only [Act.put, List.setIfInBounds_toArray, List.set_cons_zero, List.set_cons_succ, List.getElem_toArray, List.getElem_cons_zero, List.getElem_cons_succ]
  refine wpAnyH_take (i := 3) (oi := _) (v := .int .i64 0) rfl (by kernel_rfl) (by kernel_rfl) (by kernel_rfl) (fun _ _ _ h => h) (Or.inl ⟨by rfl, by intro w hSw; go_simp⟩) (by assumption) ?_
  try simp only [Act.put, List.setIfInBounds_toArray, List.set_cons_zero, List.set_cons_succ, List.getElem_toArray, List.getElem_cons_zero, List.getElem_cons_succ]
  refine wpAnyH_take (i := 4) (oi := _) (v := .bool true) rfl (by kernel_rfl) (by kernel_rfl) (by kernel_rfl) (fun _ _ _ h => h) (Or.inl ⟨by rfl, by intro w hSw; go_simp⟩) (by assumption) ?_
  try simp only [Act.put, List.setIfInBounds_toArray, List.set_cons_zero, List.set_cons_succ, List.getElem_toArray, List.getElem_cons_zero, List.getElem_cons_succ]
  refine wpAnyH_take (i := 5) (oi := _) (v := .bool true) rfl (by kernel_rfl) (by kernel_rfl) (by kernel_rfl) (fun _ _ _ h => h) (Or.inl ⟨by rfl, by intro w hSw; go_simp⟩) (by assumption) ?_
  try simp only [Act.put, List.setIfInBounds_toArray, List.set_cons_zero, List.set_cons_succ, List.getElem_toArray, List.getElem_cons_zero, List.getElem_cons_succ]
  refine wpAnyH_take (i := 6) (oi := _) (v := undef) rfl (by kernel_rfl) (by kernel_rfl) (by kernel_rfl) (fun _ _ _ h => h) (Or.inr ⟨by rfl, rfl⟩) (by assumption) ?_
  try simp only [Act.put, List.setIfInBounds_toArray, List.set_cons_zero, List.set_cons_succ, List.getElem_toArray, List.getElem_cons_zero, List.getElem_cons_succ]
  refine wpAnyH_take (i := 7) (oi := _) (v := undef) rfl (by kernel_rfl) (by kernel_rfl) (by kernel_rfl) (fun _ _ _ h => h) (Or.inr ⟨by rfl, rfl⟩) (by assumption) ?_
  try simp only [Act.put, List.setIfInBounds_toArray, List.set_cons_zero, List.set_cons_succ, List.getElem_toArray, List.getElem_cons_zero, List.getElem_cons_succ]
  refine wpAnyH_take (i := 8) (oi := _) (v := undef) rfl (by kernel_rfl) (by kernel_rfl) (by kernel_rfl) (fun _ _ _ h => h) (Or.inr ⟨by rfl, rfl⟩) (by assumption) ?_
  try simp only [Act.put, List.setIfInBounds_toArray, List.set_cons_zero, List.set_cons_succ, List.getElem_toArray, List.getElem_cons_zero, List.getElem_cons_succ]
  refine wpAnyH_take (i := 9) (oi := _) (v := undef) rfl (by kernel_rfl) (by kernel_rfl) (by kernel_rfl) (fun _ _ _ h => h) (Or.inr ⟨by rfl, rfl⟩) (by assumption) ?_
  try simp only [Act.put, List.setIfInBounds_toArray, List.set_cons_zero, List.set_cons_succ, List.getElem_toArray, List.getElem_cons_zero, List.getElem_cons_succ]
  refine wpAnyH_take (i := 10) (oi := _) (v := .bool true) rfl (by kernel_rfl) (by kernel_rfl) (by kernel_rfl) (fun _ _ _ h => h) (Or.inl ⟨by rfl, by intro w hSw; go_simp⟩) (by assumption) ?_
  try simp only [Act.put, List.setIfInBounds_toArray, List.set_cons_zero, List.set_cons_succ, List.getElem_toArray, List.getElem_cons_zero, List.getElem_cons_succ]
  refine wpAnyH_take (i := 11) (oi := _) (v := .func (.func 189) #[] #[.pointer (some ⟨S, 0, none⟩), .pointer (some ⟨S + 1, 0, none⟩), .pointer (some ⟨S + 1 + 1, 0, none⟩), .pointer (some ⟨S + 1 + 1 + 1, 0, none⟩)]) rfl (by kernel_rfl) (by kernel_rfl) (by kernel_rfl) (fun _ _ _ h => h) (Or.inl ⟨by rfl, by intro w hSw; go_simp⟩) (by assumption) ?_
  try simp only [Act.put, List.setIfInBounds_toArray, List.set_cons_zero, List.set_cons_succ, List.getElem_toArray, List.getElem_cons_zero, List.getElem_cons_succ]
  refine wpAnyH_take (i := 14) (oi := _) (v := .int .i64 0) rfl (by kernel_rfl) (by kernel_rfl) (by kernel_rfl) (fun _ _ _ h => h) (Or.inl ⟨by rfl, by intro w hSw; go_simp⟩) (by assumption) ?_
  try simp only [Act.put, List.setIfInBounds_toArray, List.set_cons_zero, List.set_cons_succ, List.getElem_toArray, List.getElem_cons_zero, List.getElem_cons_succ]
  refine wpAnyH_take (i := 15) (oi := _) (v := .int .i64 mo) rfl (by kernel_rfl) (by kernel_rfl) (by kernel_rfl) (fun _ _ _ h => h) (Or.inl ⟨by rfl, by intro w hSw; go_simp⟩) (by assumption) ?_
  try simp only [Act.put, List.setIfInBounds_toArray, List.set_cons_zero, List.set_cons_succ, List.getElem_toArray, List.getElem_cons_zero, List.getElem_cons_succ]
  refine wpAnyH_ready (rs := [2, 16]) (by kernel_rfl) (by simp) ?_
  refine AllReadyH.cons (o := _) rfl (fun K hK => ?_) ?_
  · go_simp
    refine hK.out _ _ (HH.out _ (fun k hk _ => Below.heap_alloc _ _ _ hk)) (fun hHeld => ?_)
    clear hK K
    refine wpAnyH_take (i := 12) (oi := _) (v := .agg #[.int .i64 0, .int .i64 5, .slice (some ⟨S + 4, 0, none⟩) 1 1, .bool true, .func (.func 189) #[] #[.pointer (some ⟨S, 0, none⟩), .pointer (some ⟨S + 1, 0, none⟩), .pointer (some ⟨S + 1 + 1, 0, none⟩), .pointer (some ⟨S + 1 + 1 + 1, 0, none⟩)]]) rfl (by kernel_rfl) (by kernel_rfl) (by kernel_rfl) (fun _ _ _ h => h) (Or.inl ⟨by rfl, by intro w hSw; go_simp⟩) (by assumption) ?_
    try simp only [Act.put, List.setIfInBounds_toArray, List.set_cons_zero, List.set_cons_succ, List.getElem_toArray, List.getElem_cons_zero, List.getElem_cons_succ]
    refine wpAnyH_ready (rs := [13, 16]) (by kernel_rfl) (by simp) ?_
    refine AllReadyH.cons (o := _) rfl (fun K hK => ?_) ?_
    · go_simp
      refine hK.out _ _ (HH.out _ (fun k hk _ => (Below.heap_alloc _ _ _ (by simp; omega)).trans (Below.heap_alloc _ _ _ hk))) (fun hHeld => ?_)
      clear hK K
      refine wpAnyH_ready (rs := [16]) (by kernel_rfl) (by simp) ?_
      refine AllReadyH.cons (o := _) rfl (fun K hK => ?_) ?_
      · go_simp
        refine hK.out _ _ (HH.out _ (fun k hk _ => ((Below.heap_alloc _ _ _ (by simp; omega)).trans (Below.heap_alloc _ _ _ (by simp; omega))).trans (Below.heap_alloc _ _ _ hk))) (fun hHeld => ?_)
        clear hK K
        refine wpAnyH_ready (rs := [17]) (by kernel_rfl) (by simp) ?_
        refine AllReadyH.cons (o := _) rfl (fun K hK => ?_) ?_
        · go_simp
          refine (HC.out _ _ _ _ _ (below3 _ _ _ _) (b3_2 HSM.out _ _) (by omega) (b3_1 HSM.out _ _) (b3_3 HSM.out _ _)).mono ?_
          intro e w5 h5
          obtain ⟨z, rfl, hh5, h6⟩ := HF.out e w5 h5
          have H5 := hide h6
          clear h5 h6
          go_wp2_with fail
          refine hK.out _ _ hh5 (fun hHeld => ?_)
          clear hK K
          try simp only [Act.put, List.setIfInBounds_toArray, List.set_cons_zero, List.set_cons_succ]
          refine wpAnyH_take (i := 18) (oi := _) (v := .pointer (some ⟨z, 0, none⟩)) rfl (by kernel_rfl) (by kernel_rfl) (by kernel_rfl) (fun _ _ _ h => h) (Or.inl ⟨by rfl, by intro w hSw; go_simp⟩) (by assumption) ?_
          try simp only [Act.put, List.setIfInBounds_toArray, List.set_cons_zero, List.set_cons_succ, List.getElem_toArray, List.getElem_cons_zero, List.getElem_cons_succ]
          refine wpAnyH_done (by kernel_rfl) ?_ _
          go_wp2_with fail
          all_goals go_ret
          all_goals exact H5.out
        · exact AllReadyH.nil
      · exact AllReadyH.nil
    refine AllReadyH.cons (o := _) rfl (fun K hK => ?_) ?_
    · go_simp
      refine hK.out _ _ (HH.out _ (fun k hk _ => (Below.heap_alloc _ _ _ (by simp; omega)).trans (Below.heap_alloc _ _ _ hk))) (fun hHeld => ?_)
      clear hK K
      refine wpAnyH_ready (rs := [13]) (by kernel_rfl) (by simp) ?_
      refine AllReadyH.cons (o := _) rfl (fun K hK => ?_) ?_
      · go_simp
        refine hK.out _ _ (HH.out _ (fun k hk _ => ((Below.heap_alloc _ _ _ (by simp; omega)).trans (Below.heap_alloc _ _ _ (by simp; omega))).trans (Below.heap_alloc _ _ _ hk))) (fun hHeld => ?_)
        clear hK K
        refine wpAnyH_ready (rs := [17]) (by kernel_rfl) (by simp) ?_
        refine AllReadyH.cons (o := _) rfl (fun K hK => ?_) ?_
        · go_simp
          refine (HC.out _ _ _ _ _ (below3 _ _ _ _) (b3_3 HSM.out _ _) (by omega) (b3_1 HSM.out _ _) (b3_2 HSM.out _ _)).mono ?_
          intro e w5 h5
          obtain ⟨z, rfl, hh5, h6⟩ := HF.out e w5 h5
          have H5 := hide h6
          clear h5 h6
          go_wp2_with fail
          refine hK.out _ _ hh5 (fun hHeld => ?_)
          clear hK K
          try simp only [Act.put, List.setIfInBounds_toArray, List.set_cons_zero, List.set_cons_succ]
          refine wpAnyH_take (i := 18) (oi := _) (v := .pointer (some ⟨z, 0, none⟩)) rfl (by kernel_rfl) (by kernel_rfl) (by kernel_rfl) (fun _ _ _ h => h) (Or.inl ⟨by rfl, by intro w hSw; go_simp⟩) (by assumption) ?_
          try simp only [Act.put, List.setIfInBounds_toArray, List.set_cons_zero, List.set_cons_succ, List.getElem_toArray, List.getElem_cons_zero, List.getElem_cons_succ]
          refine wpAnyH_done (by kernel_rfl) ?_ _
          go_wp2_with fail
          all_goals go_ret
          all_goals exact H5.out
        · exact AllReadyH.nil
      · exact AllReadyH.nil
    · exact AllReadyH.nil
  refine AllReadyH.cons (o := _) rfl (fun K hK => ?_) ?_
  · go_simp
    refine hK.out _ _ (HH.out _ (fun k hk _ => Below.heap_alloc _ _ _ hk)) (fun hHeld => ?_)
    clear hK K
    refine wpAnyH_ready (rs := [2]) (by kernel_rfl) (by simp) ?_
    refine AllReadyH.cons (o := _) rfl (fun K hK => ?_) ?_
    · go_simp
      refine hK.out _ _ (HH.out _ (fun k hk _ => (Below.heap_alloc _ _ _ (by simp; omega)).trans (Below.heap_alloc _ _ _ hk))) (fun hHeld => ?_)
      clear hK K
      refine wpAnyH_take (i := 12) (oi := _) (v := .agg #[.int .i64 0, .int .i64 5, .slice (some ⟨S + 4 + 1, 0, none⟩) 1 1, .bool true, .func (.func 189) #[] #[.pointer (some ⟨S, 0, none⟩), .pointer (some ⟨S + 1, 0, none⟩), .pointer (some ⟨S + 1 + 1, 0, none⟩), .pointer (some ⟨S + 1 + 1 + 1, 0, none⟩)]]) rfl (by kernel_rfl) (by kernel_rfl) (by kernel_rfl) (fun _ _ _ h => h) (Or.inl ⟨by rfl, by intro w hSw; go_simp⟩) (by assumption) ?_
      try simp only [Act.put, List.setIfInBounds_toArray, List.set_cons_zero, List.set_cons_succ, List.getElem_toArray, List.getElem_cons_zero, List.getElem_cons_succ]
      refine wpAnyH_ready (rs := [13]) (by kernel_rfl) (by simp) ?_
      refine AllReadyH.cons (o := _) rfl (fun K hK => ?_) ?_
      · go_simp
        refine hK.out _ _ (HH.out _ (fun k hk _ => ((Below.heap_alloc _ _ _ (by simp; omega)).trans (Below.heap_alloc _ _ _ (by simp; omega))).trans (Below.heap_alloc _ _ _ hk))) (fun hHeld => ?_)
        clear hK K
        refine wpAnyH_ready (rs := [17]) (by kernel_rfl) (by simp) ?_
        refine AllReadyH.cons (o := _) rfl (fun K hK => ?_) ?_
        · go_simp
          refine (HC.out _ _ _ _ _ (below3 _ _ _ _) (b3_3 HSM.out _ _) (by omega) (b3_2 HSM.out _ _) (b3_1 HSM.out _ _)).mono ?_
          intro e w5 h5
          obtain ⟨z, rfl, hh5, h6⟩ := HF.out e w5 h5
          have H5 := hide h6
          clear h5 h6
          go_wp2_with fail
          refine hK.out _ _ hh5 (fun hHeld => ?_)
          clear hK K
          try simp only [Act.put, List.setIfInBounds_toArray, List.set_cons_zero, List.set_cons_succ]
          refine wpAnyH_take (i := 18) (oi := _) (v := .pointer (some ⟨z, 0, none⟩)) rfl (by kernel_rfl) (by kernel_rfl) (by kernel_rfl) (fun _ _ _ h => h) (Or.inl ⟨by rfl, by intro w hSw; go_simp⟩) (by assumption) ?_
          try simp only [Act.put, List.setIfInBounds_toArray, List.set_cons_zero, List.set_cons_succ, List.getElem_toArray, List.getElem_cons_zero, List.getElem_cons_succ]
          refine wpAnyH_done (by kernel_rfl) ?_ _
          go_wp2_with fail
          all_goals go_ret
          all_goals exact H5.out
        · exact AllReadyH.nil
      · exact AllReadyH.nil
    · exact AllReadyH.nil
  · exact AllReadyH.nil
end Go.Proofs.YtlflfcjbpnnfcaaGreatDoor
/- The rest of a set, of what comes any number of times, and of a row, ahead of the first rune: walks. -/
namespace Go.Proofs.YtlflfcjbpnnfcaaGreatDoor
open Go.Shelf Go.RowKit

theorem Tryz.info159 : (Tryz.prog.info? 159).map (fun i => (i.zero, i.size, i.bytes)) = some (some (.pointer none), 1, 8) := by kernel_rfl
/-- The nodes of a letter that comes any number of times. -/
structure StarN (w : World) (xr xm xs b1 c1 b2 c2 : Nat) (la : Option Addr) (lc : Nat) : Prop where
  row : ∃ ex, Blk w xr [.int .i64 1, .slice none 0 0, .slice (some ⟨b1, 0, none⟩) 1 c1, .int .i64 0, .int .i64 0, ex] 79
  p1 : w.cell? ⟨b1, 0, none⟩ = some (.pointer (some ⟨xm, 0, none⟩))
  l1 : b1 < w.heap.size
  many : Blk w xm [.int .i64 5, .slice none 0 0, .slice (some ⟨b2, 0, none⟩) 1 c2, .int .i64 0, .int .i64 (-1)] 76
  p2 : w.cell? ⟨b2, 0, none⟩ = some (.pointer (some ⟨xs, 0, none⟩))
  l2 : b2 < w.heap.size
  set : Blk w xs [.int .i64 0, .slice la 1 lc, .slice none 0 0, .int .i64 0, .int .i64 0] 76
  rd : Rd w la [(97, 97)]
theorem StarN.below {w w' : World} {xr xm xs b1 c1 b2 c2 : Nat} {la : Option Addr} {lc : Nat} (h : StarN w xr xm xs b1 c1 b2 c2 la lc) (k : Below w.heap.size w w') : StarN w' xr xm xs b1 c1 b2 c2 la lc :=
  ⟨by obtain ⟨ex, hr⟩ := h.row; exact ⟨ex, hr.below k⟩, (k.cell (p := ⟨b1, 0, none⟩) h.l1).trans h.p1, Nat.lt_of_lt_of_le h.l1 k.size, h.many.below k, (k.cell (p := ⟨b2, 0, none⟩) h.l2).trans h.p2, Nat.lt_of_lt_of_le h.l2 k.size, h.set.below k, h.rd.below k⟩
def nameS : List UInt8 := nameOf 0 [97, 97] []
def nameM (k : Int) : List UInt8 := nameOf 5 [0, -1] [k]
set_option maxRecDepth 100000 in
set_option maxHeartbeats 4000000 in
theorem of_set (m bm : Nat) (nn ee : Option Nat) (f : List UInt8 → Option Nat) (n xs : Nat) (la : Option Addr) (lc : Nat) (w : World) (hM : MS w m bm nn ee f n) (hP : PowT w) (hN : Blk w xs [.int .i64 0, .slice la 1 lc, .slice none 0 0, .int .i64 0, .int .i64 0] 76) (hR : Rd w la [(97, 97)]) (hn : n ≤ 1000000000) :
    Calls Tryz.prog 92 #[.pointer (some ⟨m, 0, none⟩), .pointer (some ⟨xs, 0, none⟩)] w fun e w' => match f nameS with | some y => OldRest w y e w' | none => NewRest w m bm nn ee f n nameS 0 false e w' := by
  have HC := hide (set_any m bm nn ee f n la lc [(97, 97)] w hM hP hR (by simp) (by simp) (by simp) hn)
  have x0 : w.cell? ⟨xs, 0, none⟩ = some (.int .i64 0) := hN.cell 0
  have x1 : w.cell? ⟨xs, 1, none⟩ = some (.slice la 1 lc) := hN.cell 1
  have x2 : w.cell? ⟨xs, 2, none⟩ = some (.slice none 0 0) := hN.cell 2
  have hxl := hN.lt
  clear hM hP hN hR
  rw [show nameOf 0 (flat [(97, 97)]) [] = nameS from rfl] at HC
  obtain ⟨R, hR⟩ : ∃ R, f nameS = R := ⟨_, rfl⟩
  rw [hR] at HC ⊢
  clear hR
  obtain ⟨NM, hNM⟩ : ∃ NM, nameS = NM := ⟨_, rfl⟩
  rw [hNM] at HC ⊢
  clear hNM
  go_enter Tryz.func92, Tryz.ntmps92
  go_wp2_with fail
  go_loopg [5, 13] 1 (fun _ pv iv wr => pv = .slice none 0 0 ∧ iv = .int .i64 0 ∧ wr = w)
  case atStart => exact ⟨rfl, rfl, rfl⟩
  case round =>
    obtain ⟨rfl, rfl, hw⟩ := hrel
    subst hw
    go_wp2_with fail
    refine HC.out.mono ?_
    intro e w5 h5
    cases R with
    | some y =>
      obtain ⟨rfl, hb⟩ := h5
      have HB := hide hb
      clear hb
      go_wp2
      go_ret
      exact ⟨rfl, HB.out⟩
    | none =>
      obtain ⟨x, hx, rfl, hrest⟩ := h5
      have HB := hide hrest
      have HXX := hide hx
      clear hrest hx
      go_wp2
      go_ret
      exact ⟨x, HXX.out, rfl, HB.out⟩
theorem one_ptr (w : World) (s : Nat) : ∀ j u, [Value.pointer (some ⟨s, 0, none⟩)][j]? = some u → (w.alloc (.cells #[.pointer (some ⟨s, 0, none⟩)] 159)).cell? ((⟨w.heap.size, 0, none⟩ : Addr).add j) = some u := by
  intro j u hj
  match j, hj with
  | 0, hj => simp at hj; subst hj; simp [Addr.add]
theorem own_one {w : World} {B : Nat} {v u : Value} (h : w.ownsRow B 159 1 v 1 [u]) : ∃ g c, v = .slice (some ⟨g, 0, none⟩) 1 c ∧ B ≤ g ∧ g < w.heap.size ∧ w.cell? ⟨g, 0, none⟩ = some u := by
  rcases h.2 with ⟨_, h0⟩ | ⟨g, cap, cur, rfl, hg, hh, r⟩
  · omega
  · refine ⟨g, cap, rfl, hg, (h.lt g rfl).2, ?_⟩
    rw [h.cellAt 0 (by omega)]; rfl
set_option maxRecDepth 100000 in
set_option maxHeartbeats 4000000 in
theorem of_many (m xr xm xs b1 c1 b2 c2 : Nat) (la : Option Addr) (lc : Nat) (w : World) (P : Ending → World → Prop) (hN : StarN w xr xm xs b1 c1 b2 c2 la lc)
    (hpart : Calls Tryz.prog 92 #[.pointer (some ⟨m, 0, none⟩), .pointer (some ⟨xs, 0, none⟩)] w fun e w1 => ∃ s, e = .returned (.pointer (some ⟨s, 0, none⟩)) ∧ StarN w1 xr xm xs b1 c1 b2 c2 la lc ∧ ∀ W, Below w1.heap.size w1 W → Calls Tryz.prog 141 #[.pointer (some ⟨m, 0, none⟩), .pointer (some ⟨s, 0, none⟩), .int .i64 0, .int .i64 (-1)] W fun e w' => (∃ r, e = .returned (.pointer (some ⟨r, 0, none⟩))) ∧ P e w') :
    Calls Tryz.prog 92 #[.pointer (some ⟨m, 0, none⟩), .pointer (some ⟨xm, 0, none⟩)] w P := by
  obtain ⟨i0, hi, hz0, hz1, hz2⟩ := info_parts Tryz.info159
  have HC := hide hpart
  have x0 : w.cell? ⟨xm, 0, none⟩ = some (.int .i64 5) := hN.many.cell 0
  have x2 : w.cell? ⟨xm, 2, none⟩ = some (.slice (some ⟨b2, 0, none⟩) 1 c2) := hN.many.cell 2
  have x3 := hN.p2
  have hxl := hN.many.lt
  have hbl := hN.l2
  clear hN hpart
  go_enter Tryz.func92, Tryz.ntmps92
  go_wp2_with fail
  go_loopg [5, 13] 1 (fun j pv iv wr => (j = 1 ∧ pv = .slice none 0 0 ∧ iv = .int .i64 0 ∧ wr = w) ∨ (iv = .int .i64 1 ∧ ∃ s g c, pv = .slice (some ⟨g, 0, none⟩) 1 c ∧ g < wr.heap.size ∧ wr.cell? ⟨g, 0, none⟩ = some (.pointer (some ⟨s, 0, none⟩)) ∧ StarN wr xr xm xs b1 c1 b2 c2 la lc ∧
    ∀ W, Below wr.heap.size wr W → Calls Tryz.prog 141 #[.pointer (some ⟨m, 0, none⟩), .pointer (some ⟨s, 0, none⟩), .int .i64 0, .int .i64 (-1)] W fun e w' => (∃ r, e = .returned (.pointer (some ⟨r, 0, none⟩))) ∧ P e w'))
  case atStart => exact .inl ⟨rfl, rfl, rfl, rfl⟩
  case round =>
    rcases hrel with ⟨rfl, rfl, rfl, hw⟩ | ⟨rfl, s, g, c, rfl, hg, hcg, hN, hcall⟩
    · subst hw
      go_wp2_with fail
      refine HC.out.mono ?_
      rintro e w1 ⟨s, rfl, hN1, hcall⟩
      have HN1 := hide hN1
      have HCALL := hide hcall
      clear hN1 hcall
      go_wp2_with (at_builtin; refine wpList_append_own _ rfl _ _ 166 rfl w1.heap.size 159 i0 (.pointer none) 1 8 Tryz.underlying166 hi hz0 hz1 hz2 rfl (by decide) _ _ _ rfl ((World.ownsRow_nil _ _ _ _).alloc _) ⟨w1.heap.size, 0, none⟩ 1 1 [.pointer (some ⟨s, 0, none⟩)] rfl rfl (one_ptr _ _) (by intro u hu; simp at hu; subst hu; rfl) (by unfold maxLen; omega) (by omega) (by simp) ?_; intro v' w3 hown' hgrow _)
      obtain ⟨g, c, rfl, hg1, hg2, hg3⟩ := own_one (u := .pointer (some ⟨s, 0, none⟩)) hown'
      have hB3 : Below w1.heap.size w1 w3 := ((Below.refl _ w1).alloc (Nat.le_refl _) _).grown hgrow (by simp) (fun k e => by cases e)
      go_roundg 0
      case measure => omega
      case rel => exact .inr ⟨rfl, s, g, c, rfl, hg2, hg3, HN1.out.below hB3, fun W hW => HCALL.out W (hB3.trans (hW.mono hB3.size))⟩
    · have y0 : wr.cell? ⟨xm, 0, none⟩ = some (.int .i64 5) := hN.many.cell 0
      have y3 : wr.cell? ⟨xm, 3, none⟩ = some (.int .i64 0) := hN.many.cell 3
      have y4 : wr.cell? ⟨xm, 4, none⟩ = some (.int .i64 (-1)) := hN.many.cell 4
      have hyl := hN.many.lt
      have HCALL := hide hcall
      have HNW := hide hN
      clear hcall hN
      go_wp2_with fail
      go_region_with (go_at_call 141; refine (HCALL.out _ (by first | exact (Below.refl _ _).drew | exact below_drawn (Below.refl _ _) | exact Below.refl _ _)).mono ?_; rintro e w5 ⟨⟨r, rfl⟩, h5⟩; have H5 := hide h5; clear h5)
      all_goals go_wp2_with fail
      all_goals go_ret
      all_goals exact H5.out
set_option maxRecDepth 100000 in
set_option maxHeartbeats 4000000 in
theorem of_row (m xr xm xs b1 c1 b2 c2 : Nat) (la : Option Addr) (lc : Nat) (w : World) (P : Ending → World → Prop) (hN : StarN w xr xm xs b1 c1 b2 c2 la lc)
    (hpart : Calls Tryz.prog 92 #[.pointer (some ⟨m, 0, none⟩), .pointer (some ⟨xm, 0, none⟩)] w fun e w1 => ∃ s, e = .returned (.pointer (some ⟨s, 0, none⟩)) ∧ StarN w1 xr xm xs b1 c1 b2 c2 la lc ∧ ∀ W g c, Below w1.heap.size w1 W → g < W.heap.size → W.cell? ⟨g, 0, none⟩ = some (.pointer (some ⟨s, 0, none⟩)) → Calls Tryz.prog 138 #[.pointer (some ⟨m, 0, none⟩), .slice (some ⟨g, 0, none⟩) 1 c] W fun e w' => (∃ r, e = .returned (.pointer (some ⟨r, 0, none⟩))) ∧ P e w') :
    Calls Tryz.prog 92 #[.pointer (some ⟨m, 0, none⟩), .pointer (some ⟨xr, 0, none⟩)] w P := by
  obtain ⟨i0, hi, hz0, hz1, hz2⟩ := info_parts Tryz.info159
  have HC := hide hpart
  obtain ⟨ex, hrow⟩ := hN.row
  have x0 : w.cell? ⟨xr, 0, none⟩ = some (.int .i64 1) := hrow.cell 0
  have x2 : w.cell? ⟨xr, 2, none⟩ = some (.slice (some ⟨b1, 0, none⟩) 1 c1) := hrow.cell 2
  have x3 := hN.p1
  have hxl := hrow.lt
  clear hrow
  have hbl := hN.l1
  clear hN hpart
  go_enter Tryz.func92, Tryz.ntmps92
  go_wp2_with fail
  go_loopg [5, 13] 1 (fun j pv iv wr => (j = 1 ∧ pv = .slice none 0 0 ∧ iv = .int .i64 0 ∧ wr = w) ∨ (iv = .int .i64 1 ∧ ∃ g c, pv = .slice (some ⟨g, 0, none⟩) 1 c ∧ StarN wr xr xm xs b1 c1 b2 c2 la lc ∧
    Calls Tryz.prog 138 #[.pointer (some ⟨m, 0, none⟩), .slice (some ⟨g, 0, none⟩) 1 c] wr fun e w' => (∃ r, e = .returned (.pointer (some ⟨r, 0, none⟩))) ∧ P e w'))
  case atStart => exact .inl ⟨rfl, rfl, rfl, rfl⟩
  case round =>
    rcases hrel with ⟨rfl, rfl, rfl, hw⟩ | ⟨rfl, g, c, rfl, hN, hcall⟩
    · subst hw
      go_wp2_with fail
      refine HC.out.mono ?_
      rintro e w1 ⟨s, rfl, hN1, hcall⟩
      have HN1 := hide hN1
      have HCALL := hide hcall
      clear hN1 hcall
      go_wp2_with (at_builtin; refine wpList_append_own _ rfl _ _ 166 rfl w1.heap.size 159 i0 (.pointer none) 1 8 Tryz.underlying166 hi hz0 hz1 hz2 rfl (by decide) _ _ _ rfl ((World.ownsRow_nil _ _ _ _).alloc _) ⟨w1.heap.size, 0, none⟩ 1 1 [.pointer (some ⟨s, 0, none⟩)] rfl rfl (one_ptr _ _) (by intro u hu; simp at hu; subst hu; rfl) (by unfold maxLen; omega) (by omega) (by simp) ?_; intro v' w3 hown' hgrow _)
      obtain ⟨g, c, rfl, hg1, hg2, hg3⟩ := own_one (u := .pointer (some ⟨s, 0, none⟩)) hown'
      have hB3 : Below w1.heap.size w1 w3 := ((Below.refl _ w1).alloc (Nat.le_refl _) _).grown hgrow (by simp) (fun k e => by cases e)
      go_roundg 0
      case measure => omega
      case rel => exact .inr ⟨rfl, g, c, rfl, HN1.out.below hB3, HCALL.out w3 g c hB3 hg2 hg3⟩
    · obtain ⟨ex, hrow⟩ := hN.row
      have y0 : wr.cell? ⟨xr, 0, none⟩ = some (.int .i64 1) := hrow.cell 0
      have hyl := hrow.lt
      clear hrow
      have HCALL := hide hcall
      clear hcall hN
      go_wp2_with fail
      refine HCALL.out.mono ?_
      rintro e w5 ⟨⟨r, rfl⟩, h5⟩
      have H5 := hide h5
      clear h5
      go_wp2_with fail
      exact H5.out
end Go.Proofs.YtlflfcjbpnnfcaaGreatDoor
/- A new maker: a walk. -/
namespace Go.Proofs.YtlflfcjbpnnfcaaGreatDoor
open Go.Shelf Go.RowKit Go.Lib

def name2 : List UInt8 := nameOf 2 [] []
def name1 : List UInt8 := nameOf 1 [] []
theorem name2_eq : name2 = [50] := by decide +kernel
theorem name1_eq : name1 = [49] := by decide +kernel
theorem name12 : name1 ≠ name2 := by rw [name1_eq, name2_eq]; decide
/-- A maker with its two first rests. -/
structure RMk (w : World) (B m bm x0 x1 : Nat) (f : List UInt8 → Option Nat) (n : Nat) : Prop where
  ms : MS w m bm (some x0) (some x1) f n
  none : ∃ pa pn pc fv, RestB w x0 0 2 pa pn pc false fv
  empty : ∃ pa pn pc fv, RestB w x1 1 1 pa pn pc true fv
  apart : B ≤ m ∧ B ≤ bm ∧ B ≤ x0 ∧ B ≤ x1 ∧ m ≠ bm ∧ m ≠ x0 ∧ m ≠ x1 ∧ bm ≠ x0 ∧ bm ≠ x1 ∧ x0 ≠ x1
/-- Behind the first rest. -/
def Mk2 (w : World) (S : Nat) (wx : World) : Prop := ∃ x0, S + 3 ≤ x0 ∧ MS wx (S + 1) S (some x0) none (put (fun _ => none) name2 x0) 1 ∧ (∃ pa pn pc fv, RestB wx x0 0 2 pa pn pc false fv) ∧ Blk wx (S + 2) [.pointer (some ⟨S + 1, 0, none⟩)] 151 ∧ Below S w wx ∧ PowT wx
def Mk3 (w : World) (S : Nat) (wx : World) : Prop := ∃ x0 x1, RMk wx S (S + 1) S x0 x1 (put (put (fun _ => none) name2 x0) name1 x1) 2 ∧ Blk wx (S + 2) [.pointer (some ⟨S + 1, 0, none⟩)] 151 ∧ Below S w wx
theorem mk2_step {w W0 W w5 : World} {S x0 : Nat} (hS : 7 ≤ S) (h0 : Below S w W0) (hs0 : W0.heap.size = S + 3) (hP : PowT W0) (hb2 : Blk W0 (S + 2) [.pointer (some ⟨S + 1, 0, none⟩)] 151) (hB : Below W0.heap.size W0 W) (hx : W.heap.size ≤ x0) (hbut : But (fun k => k = S) W w5)
    (hM : MS w5 (S + 1) S none none (put (fun _ => none) name2 x0) 1) (hr : ∃ pa pn pc fv, RestB w5 x0 0 2 pa pn pc false fv) :
    w5.cell? ⟨S + 2, 0, none⟩ = some (.pointer (some ⟨S + 1, 0, none⟩)) ∧ w5.cell? ⟨S + 1, 1, none⟩ = some (.pointer none) ∧ w5.frozen? ⟨S + 1, 1, none⟩ = false ∧ S + 1 < w5.heap.size ∧ Mk2 w S (w5.setCell ⟨S + 1, 1, none⟩ (.pointer (some ⟨x0, 0, none⟩))) := by
  have hsz := hB.size
  have hb5 : Blk w5 (S + 2) [.pointer (some ⟨S + 1, 0, none⟩)] 151 := (hb2.below hB).but hbut (by omega)
  have hP5 : PowT w5 := (hP.below hB).same fun i hi h7 => hbut.block i hi (by omega)
  refine ⟨hb5.cell 0, hM.1.cell 1, hM.1.frozen 1, hM.1.lt, x0, by omega, ⟨hM.1.set 1 _, hM.2.1.block (Below.heap_setCell _ _ _ _ (by show S ≠ S + 1; omega)), by omega⟩, ?_, hb5.setOther (p := ⟨S + 1, 1, none⟩) (by show S + 2 ≠ S + 1; omega) _, ?_, ?_⟩
  · obtain ⟨pa, pn, pc, fv, hr⟩ := hr
    exact ⟨pa, pn, pc, fv, Blk.setOther hr (p := ⟨S + 1, 1, none⟩) (by show x0 ≠ S + 1; omega) _⟩
  · exact ((h0.trans (hB.mono (by omega))).trans (hbut.toBelow (fun k hk => by omega) (by omega))).setCell (p := ⟨S + 1, 1, none⟩) (by show S ≤ S + 1; omega) _
  · exact hP5.same fun i hi h7 => Below.heap_setCell _ _ _ _ (by show i ≠ S + 1; omega)
theorem put_none {f : List UInt8 → Option Nat} {a b : List UInt8} {x : Nat} (h : b ≠ a) (k : f b = none) : put f a x b = none := by unfold put; rw [if_neg h]; exact k
theorem mk3_call {w wc : World} {S x0 : Nat} (hx0 : S + 3 ≤ x0) (hM : MS wc (S + 1) S (some x0) none (put (fun _ => none) name2 x0) 1) (hr : ∃ pa pn pc fv, RestB wc x0 0 2 pa pn pc false fv) (hb2 : Blk wc (S + 2) [.pointer (some ⟨S + 1, 0, none⟩)] 151) (hBw : Below S w wc) (hP : PowT wc)
    (W : World) (hB : Below wc.heap.size wc W) (hx : Blk W wc.heap.size [.int .i64 0, .int .i64 1, .slice none 0 0, .bool true, .func (.func 130) #[] #[.pointer (some ⟨S + 1 + 1, 0, none⟩)]] 169) :
    Calls Tryz.prog 129 #[.pointer (some ⟨S + 1, 0, none⟩), .pointer (some ⟨wc.heap.size, 0, none⟩), .slice none 0 0] W fun e w5 => e = .returned (.pointer (some ⟨wc.heap.size, 0, none⟩)) ∧ w5.cell? ⟨S + 2, 0, none⟩ = some (.pointer (some ⟨S + 1, 0, none⟩)) ∧ w5.cell? ⟨S + 1, 2, none⟩ = some (.pointer none) ∧ w5.frozen? ⟨S + 1, 2, none⟩ = false ∧ S + 1 < w5.heap.size ∧
      Mk3 w S (w5.setCell ⟨S + 1, 2, none⟩ (.pointer (some ⟨wc.heap.size, 0, none⟩))) := by
  have hl2 := hb2.lt
  obtain ⟨pa, pn, pc, fv, hr⟩ := hr
  have hlx := Blk.lt hr
  have hk := keep_any (S + 1) S (some x0) none (put (fun _ => none) name2 x0) 1 wc.heap.size 0 1 none 0 true 130 _ none 0 [] [] (fun _ => 0) W (hM.below hB) hx (by omega) (by omega) (IntsW.nil _ _) (PtsW.nil _ _ _) (hP.below hB) (by decide) (by decide) (by decide) (by decide) (by decide)
  rw [List.map_nil, show put (fun _ => none) name2 x0 (nameOf 1 [] []) = none from put_none name12 rfl] at hk
  refine hk.mono ?_
  rintro e w5 ⟨rfl, hbut, hM5, fv5, hx5⟩
  have hr5 := Blk.but (Blk.below hr hB) hbut (by omega)
  have hb5 := (hb2.below hB).but hbut (by omega)
  have hm5 := hM5.1
  refine ⟨rfl, hb5.cell 0, hm5.cell 2, hm5.frozen 2, hm5.lt, x0, wc.heap.size, ⟨⟨hm5.set 2 _, hM5.2.1.block (Below.heap_setCell _ _ _ _ (by show S ≠ S + 1; omega)), by omega⟩, ⟨_, _, _, _, Blk.setOther hr5 (p := ⟨S + 1, 2, none⟩) (by show x0 ≠ S + 1; omega) _⟩, ⟨_, _, _, _, Blk.setOther hx5 (p := ⟨S + 1, 2, none⟩) (by show wc.heap.size ≠ S + 1; omega) _⟩, by omega⟩, hb5.setOther (p := ⟨S + 1, 2, none⟩) (by show S + 2 ≠ S + 1; omega) _, ?_⟩
  exact ((hBw.trans (hB.mono (by omega))).trans (hbut.toBelow (fun k hk => by omega) (by have := hB.size; omega))).setCell (p := ⟨S + 1, 2, none⟩) (by show S ≤ S + 1; omega) _
set_option maxRecDepth 100000 in
set_option maxHeartbeats 4000000 in
theorem newMaker_any (w : World) (hP : PowT w) (h7 : 7 ≤ w.heap.size) : Calls Tryz.prog 89 #[] w fun e w' => ∃ m bm x0 x1, e = .returned (.pointer (some ⟨m, 0, none⟩)) ∧ Below w.heap.size w w' ∧ RMk w' w.heap.size m bm x0 x1 (put (put (fun _ => none) name2 x0) name1 x1) 2 := by
  have hmm := @run_makeMap Tryz.prog
  obtain ⟨W0, hW0⟩ : ∃ W0, ((w.alloc (.map #[] 0)).alloc (.cells #[.map (some w.heap.size), .pointer none, .pointer none] 224)).alloc (.cells #[.pointer (some ⟨w.heap.size + 1, 0, none⟩)] 151) = W0 := ⟨_, rfl⟩
  have hB0 : Below w.heap.size w W0 := by rw [← hW0]; exact (((Below.refl _ _).alloc (Nat.le_refl _) _).alloc (by simp) _).alloc (by simp; omega) _
  have hmp : MapN W0 w.heap.size (fun _ => none) 0 := by rw [← hW0]; exact (MapN.made w).below (((Below.refl _ _).alloc (by simp) _).alloc (by simp) _)
  have hb1 : Blk W0 (w.heap.size + 1) [.map (some w.heap.size), .pointer none, .pointer none] 224 := by
    rw [← hW0]; have := (Blk.new (w.alloc (.map #[] 0)) [.map (some w.heap.size), .pointer none, .pointer none] 224).alloc (.cells #[.pointer (some ⟨w.heap.size + 1, 0, none⟩)] 151); simpa using this
  have hb2 : Blk W0 (w.heap.size + 2) [.pointer (some ⟨w.heap.size + 1, 0, none⟩)] 151 := by
    rw [← hW0]; have := Blk.new ((w.alloc (.map #[] 0)).alloc (.cells #[.map (some w.heap.size), .pointer none, .pointer none] 224)) [.pointer (some ⟨w.heap.size + 1, 0, none⟩)] 151; simpa using this
  have hs0 : W0.heap.size = w.heap.size + 3 := by rw [← hW0]; simp
  have hMS : MS W0 (w.heap.size + 1) w.heap.size none none (fun _ => none) 0 := ⟨hb1, hmp, by omega⟩
  have c2 : W0.cell? ⟨w.heap.size + 2, 0, none⟩ = some (.pointer (some ⟨w.heap.size + 1, 0, none⟩)) := hb2.cell 0
  have HW0 := hide hW0
  have HB0 := hide hB0
  have HB2 := hide hb2
  have HPW := hide (hP.below hB0)
  have HMS := hide hMS
  clear hW0 hB0 hmp hb1 hb2 hMS hP
  go_enter Tryz.func89, Tryz.ntmps89
  go_wp2_with fail
  rw [HW0.out]
  generalize hS : w.heap.size = S at *
  have HOR := hide (fun (w' : World) (hb : Below W0.heap.size W0 w') => or_nil (S + 1) S none none _ 0 w' (HMS.out.below hb) (HPW.out.below hb) rfl (by decide))
  have HST := hide (fun (W w5 : World) (x0 : Nat) => mk2_step (w := w) (W0 := W0) (W := W) (w5 := w5) (S := S) (x0 := x0) h7 HB0.out hs0 HPW.out HB2.out)
  go_cut [] (fun wx => Mk2 w S wx)
  case first =>
    go_region_with (go_at_call 128; refine (HOR.out _ (by first | exact (Below.refl _ _).drew | exact below_drawn (Below.refl _ _) | exact Below.refl _ _)).mono ?_; rintro e w5 ⟨x0, hx0, rfl, hbut, hM5, hr5⟩; obtain ⟨e2, e3, e4, e5, h5⟩ := HST.out _ w5 x0 (by first | exact (Below.refl _ _).drew | exact below_drawn (Below.refl _ _) | exact Below.refl _ _) hx0 hbut hM5 hr5; have H5 := hide h5; clear hbut hM5 hr5 h5)
    all_goals go_wp2_with fail
    all_goals go_meet
    all_goals exact H5.out
  case rest =>
    obtain ⟨x0, hx0, hM, hr, hb2, hBw, hPw⟩ := hcut
    have e1 : wc.cell? ⟨S + 2, 0, none⟩ = some (.pointer (some ⟨S + 1, 0, none⟩)) := hb2.cell 0
    have HKP := hide (mk3_call (w := w) (wc := wc) (S := S) (x0 := x0) hx0 hM hr hb2 hBw hPw)
    have hlt2 := hb2.lt
    clear hM hr hb2 hBw hPw HOR HST
    go_upto_region 3 with fail
    go_cut [] (fun wx => Mk3 w S wx)
    case first =>
      go_region_with (go_at_call 129; refine (HKP.out _ (by first | exact ((Below.refl _ wc).alloc (Nat.le_refl _) _).drew | exact (Below.refl _ wc).drew.alloc (Nat.le_refl _) _) (by first | exact (Blk.new wc _ _).drew | exact Blk.new wc.drew _ _)).mono ?_; rintro e w5 ⟨rfl, e2, e3, e4, e5, h5⟩; have H5 := hide h5; clear h5)
      all_goals go_wp2_with fail
      all_goals go_meet
      all_goals exact H5.out
    case rest =>
      obtain ⟨x0, x1, hmk, hb2, hB⟩ := hcut
      have e2 : wc.cell? ⟨S + 2, 0, none⟩ = some (.pointer (some ⟨S + 1, 0, none⟩)) := hb2.cell 0
      have HMK := hide hmk
      have HBF := hide hB
      clear hmk hb2 hB
      go_wp2_with fail
      go_ret
      subst hS
      exact ⟨_, _, x0, x1, rfl, HBF.out, HMK.out⟩
end Go.Proofs.YtlflfcjbpnnfcaaGreatDoor
/- A rest ahead of the empty one is itself: a walk. -/
namespace Go.Proofs.YtlflfcjbpnnfcaaGreatDoor
open Go.Shelf Go.RowKit Go.Lib

theorem rest_info : ∃ j : TypeInfo, Tryz.prog.info? 169 = some j ∧ j.size ≠ 0 := by
  have h : (Tryz.prog.info? 169).map (fun i => i.size) = some 5 := by kernel_rfl
  cases hi : Tryz.prog.info? 169 with
  | none => rw [hi] at h; cases h
  | some j => rw [hi] at h; simp at h; exact ⟨j, rfl, by omega⟩
theorem ptr_same (a : Nat) (w : World) : (binOp .eql 159 (.pointer (some ⟨a, 0, none⟩)) (.pointer (some ⟨a, 0, none⟩))).run Tryz.prog w = .ok (.bool true) w := by
  obtain ⟨j, hj, _⟩ := rest_info
  exact run_eql_ptr_same w _ Tryz.underlying159 hj
theorem ptr_other {w : World} {a b : Nat} {ca cb : List Value} {ta tb : TypeId} (ha : Blk w a ca ta) (hb : Blk w b cb tb) (hne : a ≠ b) : (binOp .eql 159 (.pointer (some ⟨a, 0, none⟩)) (.pointer (some ⟨b, 0, none⟩))).run Tryz.prog w = .ok (.bool false) w := by
  obtain ⟨j, hj, hz⟩ := rest_info
  exact run_eql_ptr_other w Tryz.underlying159 hj hz (fun e => hne (by injection e)) ha hb
set_option maxRecDepth 100000 in
set_option maxHeartbeats 4000000 in
theorem pair_end (m bm x0 x1 a : Nat) (f : List UInt8 → Option Nat) (n : Nat) (w : World) (hM : MS w m bm (some x0) (some x1) f n) {ca c0 c1 : List Value} {ta t0 t1 : TypeId} (ha : Blk w a ca ta) (hx0 : Blk w x0 c0 t0) (hx1 : Blk w x1 c1 t1) (h0 : a ≠ x0) (h1 : a ≠ x1) (h01 : x0 ≠ x1) :
    Calls Tryz.prog 187 #[.pointer (some ⟨m, 0, none⟩), .pointer (some ⟨a, 0, none⟩), .pointer (some ⟨x1, 0, none⟩)] w fun e w' => e = .returned (.pointer (some ⟨a, 0, none⟩)) ∧ Below w.heap.size w w' := by
  obtain ⟨W0, hW0⟩ : ∃ W0, ((w.alloc (.cells #[.pointer (some ⟨m, 0, none⟩)] 151)).alloc (.cells #[.pointer (some ⟨a, 0, none⟩)] 159)).alloc (.cells #[.pointer (some ⟨x1, 0, none⟩)] 159) = W0 := ⟨_, rfl⟩
  have hB0 : Below w.heap.size w W0 := by rw [← hW0]; exact (((Below.refl _ _).alloc (Nat.le_refl _) _).alloc (by simp) _).alloc (by simp; omega) _
  have hb1 : Blk W0 w.heap.size [.pointer (some ⟨m, 0, none⟩)] 151 := by rw [← hW0]; exact ((Blk.new w [.pointer (some ⟨m, 0, none⟩)] 151).alloc _).alloc _
  have hb2 : Blk W0 (w.heap.size + 1) [.pointer (some ⟨a, 0, none⟩)] 159 := by rw [← hW0]; have := (Blk.new (w.alloc (.cells #[.pointer (some ⟨m, 0, none⟩)] 151)) [.pointer (some ⟨a, 0, none⟩)] 159).alloc (.cells #[.pointer (some ⟨x1, 0, none⟩)] 159); simpa using this
  have hb3 : Blk W0 (w.heap.size + 2) [.pointer (some ⟨x1, 0, none⟩)] 159 := by rw [← hW0]; have := Blk.new ((w.alloc (.cells #[.pointer (some ⟨m, 0, none⟩)] 151)).alloc (.cells #[.pointer (some ⟨a, 0, none⟩)] 159)) [.pointer (some ⟨x1, 0, none⟩)] 159; simpa using this
  have c1 : W0.cell? ⟨w.heap.size, 0, none⟩ = some (.pointer (some ⟨m, 0, none⟩)) := hb1.cell 0
  have c2 : W0.cell? ⟨w.heap.size + 1, 0, none⟩ = some (.pointer (some ⟨a, 0, none⟩)) := hb2.cell 0
  have c3 : W0.cell? ⟨w.heap.size + 2, 0, none⟩ = some (.pointer (some ⟨x1, 0, none⟩)) := hb3.cell 0
  have hm := (hM.below hB0).1
  have c4 : W0.cell? ⟨m, 1, none⟩ = some (.pointer (some ⟨x0, 0, none⟩)) := hm.cell 1
  have c5 : W0.cell? ⟨m, 2, none⟩ = some (.pointer (some ⟨x1, 0, none⟩)) := hm.cell 2
  have hml := hm.lt
  have HW0 := hide hW0
  have HB0 := hide hB0
  have h10 : x1 ≠ x0 := Ne.symm h01
  have q1 := fun k => ptr_other (((ha.below hB0).drewN k)) ((hx0.below hB0).drewN k) h0
  have q2 := fun k => ptr_other (((hx1.below hB0).drewN k)) ((hx0.below hB0).drewN k) h10
  have q3 := fun k => ptr_other (((ha.below hB0).drewN k)) ((hx1.below hB0).drewN k) h1
  have q4 := ptr_same x1
  have r1 := fun k l => ptr_other ((((ha.below hB0).drewN k)).drewN l) (((hx0.below hB0).drewN k).drewN l) h0
  have r2 := fun k l => ptr_other ((((hx1.below hB0).drewN k)).drewN l) (((hx0.below hB0).drewN k).drewN l) h10
  have r3 := fun k l => ptr_other ((((ha.below hB0).drewN k)).drewN l) (((hx1.below hB0).drewN k).drewN l) h1
  clear hM ha hx0 hx1 hB0 hb1 hb2 hb3 hm hW0
  go_enter Tryz.func187, Tryz.ntmps187
  go_wp2_with fail
  rw [HW0.out]
  generalize hS : w.heap.size = S at *
  go_quiet (fail)
  go_wp2_with fail
  go_quiet (fail)
  go_wp2_with fail
  go_quiet (fail)
  go_wp2_with fail
  go_ret
  subst hS
  exact ⟨rfl, by first | exact below_drawn HB0.out | exact below_drawn (below_drawn HB0.out) | exact below_drawn (below_drawn (below_drawn HB0.out))⟩
end Go.Proofs.YtlflfcjbpnnfcaaGreatDoor
