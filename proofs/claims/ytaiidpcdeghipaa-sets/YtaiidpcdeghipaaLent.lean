/- What the law's lent does: a walk. -/
import Derived.Test.YtaiidpcdeghipaaOr
import Derived.Test.YtaiidpcdeghipaaSame
namespace Go.Proofs.Ytaiidpcdeghipaa
open Go.RowKit

/-- copy into the head of a row of ranges that the call owns. -/
theorem wpList_copy_rows {w : World} {ops : Array Oper} {rest : List Oper} {o : Oper} {a : Act} {Q : Exit → Act → World → Prop} (hgd : o.guard = none) (d s : Operand)
    (ho : o.op = .call { callee := .builtin .copy, args := #[d, s], argTypes := #[22, 22] }) (B g N m c : Nat) (ad : Addr) (xs cs : List Value)
    (hd : a.eval d = .slice (some ⟨g, 0, none⟩) N N) (hs : a.eval s = .slice (some ad) m c) (hown : w.ownsRow B 27 2 (.slice (some ⟨g, 0, none⟩) N N) N xs) (hm : m ≤ N) (hcs : cs.length = m * 2)
    (hsrc : ∀ j v, cs[j]? = some v → w.cell? (ad.add j) = some v) (h1 : ∀ v ∈ cs, v.oneCell' = true)
    (h : ∀ w', w'.ownsRow B 27 2 (.slice (some ⟨g, 0, none⟩) N N) N (cs ++ xs.drop (m * 2)) → w.grownBy w' (some g) → wpList Try.prog ops Q rest (a.put o.dst (goInt m)) w') : wpList Try.prog ops Q (o :: rest) a w := by
  obtain ⟨i0, hi, hz0, hz1, hz2⟩ := info_parts Try.info27
  rcases hown.2 with ⟨e0, _⟩ | ⟨g', cap', cur, e0, hb, hg, hn, hmx, hsz, ht⟩
  · cases e0
  · injection e0 with e1 _ e3
    injection e1 with e1
    injection e1 with e1
    subst e1; subst e3
    have hxl := hown.1
    have hfit : 0 + 0 + cs.length ≤ cur.size := by rw [hsz, hcs]; omega
    have hst := run_storeCells_at Try.prog g 0 27 cs 0 cur w hg hfit h1
    have hfc := run_firstCells_some (P := Try.prog) w 2 m ad m c cs hcs hsrc
    have hmin : Nat.min m N = m := Nat.min_eq_left hm
    have hrun : (Builtin.copy_ #[22, 22] o.type #[.slice (some ⟨g, 0, none⟩) N N, .slice (some ad) m c]).run Try.prog w = .ok (goInt m) (w.setRow g (cur.toList.take (0 + 0) ++ cs ++ cur.toList.drop (0 + 0 + cs.length)).toArray) := by
      simp [Builtin.copy_, run_underlying Try.underlying22, Builtin.lenOf, sizeOf, typeInfo, hi, hz1, hmin, hfc]
      simp at hst
      rw [hst]; rfl
    refine wpList_plain hgd fun K hK => ?_
    unfold Oper.wp
    simp only [execOp, ho, resolve, invoke, builtin, hd, hs, Sem.run_bind, Sem.run_pure, Result.andThen_ok, List.map_toArray, List.map_cons, List.map_nil, hrun]
    refine hK _ _ (h _ ⟨?_, .inr ⟨g, N, _, rfl, hb, setRow_heap w g cur _ 27 _ hg, Nat.le_refl _, hmx, ?_, ?_⟩⟩ ⟨rfl, rfl, rfl, by simp [World.setRow], fun k _ hk => setRow_other w g k _ (fun e => hk (by simp [e]))⟩)
    · simp [hcs, hxl]; omega
    · simp [hcs]; omega
    · rw [← ht]
      simp only [Nat.zero_add, List.take_zero, List.nil_append]
      rw [List.take_append, List.take_of_length_le (by rw [hcs]; omega), hcs, List.drop_take]

def mark8 : List (Int × Int) := List.replicate 8 (-77, -77)
def filled (k n : Nat) : List (Int × Int) := List.replicate k (-77, -77) ++ List.replicate (n - k) (0, 0)
theorem cellsR_set (l : List (Int × Int)) (k : Nat) (x y : Int) (h : k < l.length) : ((cellsR l).set (k * 2) (.int .i64 x)).set (k * 2 + 1) (.int .i64 y) = cellsR (l.set k (x, y)) := by
  induction l generalizing k with
  | nil => simp at h
  | cons z t ih =>
    have e : ∀ (z : Int × Int) t, cellsR (z :: t) = .int .i64 z.1 :: .int .i64 z.2 :: cellsR t := fun z t => by simp [cellsR]
    cases k with
    | zero => simp [e]
    | succ k =>
      rw [e, List.set_cons_succ, e, show (k + 1) * 2 = k * 2 + 1 + 1 from by omega]
      simp only [List.set_cons_succ]
      rw [ih k (by simpa using h)]
theorem filled_set (k n : Nat) (h : k < n) : (filled k n).set k (-77, -77) = filled (k + 1) n := by
  unfold filled
  rw [List.set_append_right _ _ (by simp)]
  have e : n - k = (n - (k + 1)) + 1 := by omega
  rw [e, List.replicate_succ]
  simp [List.replicate_succ']
theorem made_cells (n : Nat) : (madeCells (Value.agg #[.int .i64 0, .int .i64 0]).cells (n * 2)).toList = cellsR (filled 0 n) := by
  apply List.ext_getElem?
  intro j
  by_cases hj : j < n * 2
  · have hx : (filled 0 n)[j / 2]? = some (0, 0) := by
      simp [filled, List.getElem?_replicate]; omega
    have hg := cellsR_get hx
    rcases Nat.mod_two_eq_zero_or_one j with h0 | h1
    · have e : j / 2 * 2 = j := by omega
      rw [e] at hg
      rw [hg.1]; simp [madeCells, hj, h0, Value.cells]
    · have e : j / 2 * 2 + 1 = j := by omega
      rw [e] at hg
      rw [hg.2]; simp [madeCells, hj, h1, Value.cells]
  · rw [List.getElem?_eq_none (l := cellsR (filled 0 n)) (by rw [cellsR_length]; simp [filled]; omega), List.getElem?_eq_none]
    rw [Array.length_toList, size_madeCells]; omega
theorem cellsR_drop (l : List (Int × Int)) (k : Nat) : (cellsR l).drop (k * 2) = cellsR (l.drop k) := by
  induction l generalizing k with
  | nil => simp [cellsR]
  | cons z t ih =>
    cases k with
    | zero => simp
    | succ k =>
      have e : cellsR (z :: t) = .int .i64 z.1 :: .int .i64 z.2 :: cellsR t := by simp [cellsR]
      rw [e, show (k + 1) * 2 = k * 2 + 1 + 1 from by omega]
      simp only [List.drop_succ_cons]
      exact ih k
theorem lent_cells (l : List (Int × Int)) : cellsR l ++ (cellsR (filled (l.length + 8) (l.length + 8))).drop (l.length * 2) = cellsR (l ++ mark8) := by
  rw [cellsR_drop, cellsR_append]
  congr 2
  simp [filled, mark8]
theorem own_set {w : World} {B g N : Nat} {l : List (Int × Int)} {k : Nat} {x y : Int} (h : w.ownsRow B 27 2 (.slice (some ⟨g, 0, none⟩) N N) N (cellsR l)) (hk : k < N) :
    ((w.setCell ⟨g, k * 2, none⟩ (.int .i64 x)).setCell ⟨g, k * 2 + 1, none⟩ (.int .i64 y)).ownsRow B 27 2 (.slice (some ⟨g, 0, none⟩) N N) N (cellsR (l.set k (x, y))) ∧
    w.grownBy ((w.setCell ⟨g, k * 2, none⟩ (.int .i64 x)).setCell ⟨g, k * 2 + 1, none⟩ (.int .i64 y)) (some g) := by
  have hl : l.length = N := by have := h.1; rw [cellsR_length] at this; omega
  have h1 := h.stored (k * 2) (.int .i64 x)
  have h2 := h1.1.stored (k * 2 + 1) (.int .i64 y)
  rw [cellsR_set l k x y (by omega)] at h2
  refine ⟨h2.1, ⟨h2.2.os.trans h1.2.os, h2.2.tape.trans h1.2.tape, h2.2.output.trans h1.2.output, Nat.le_trans h1.2.size h2.2.size, fun j hj hne => ?_⟩⟩
  rw [h2.2.block j (Nat.lt_of_lt_of_le hj h1.2.size) hne, h1.2.block j hj hne]

set_option maxRecDepth 100000 in
set_option maxHeartbeats 400000 in
theorem lent_some (ad : Addr) (l : List (Int × Int)) (cap : Nat) (w : World) (hcells : Rd w (some ad) l) (hlen : l.length ≤ 8796093022208) :
    Calls Try.prog 15 #[.slice (some ad) l.length cap] w fun e w' => ∃ g, e = .returned (.slice (some ⟨g, 0, none⟩) l.length (l.length + 8)) ∧
      w'.ownsRow w.heap.size 27 2 (.slice (some ⟨g, 0, none⟩) (l.length + 8) (l.length + 8)) (l.length + 8) (cellsR (l ++ mark8)) ∧ Below w.heap.size w w' := by
  have HC := hide hcells; clear hcells
  obtain ⟨i0, hi, hz0, hz1, hz2⟩ := info_parts Try.info27
  have hq : ∀ (w : World) (c : Nat), (binOp .eql 22 (.slice (some ad) l.length c) (.slice none 0 0)).run Try.prog w = .ok (.bool false) w := fun w c => by
    have := Lib.run_eql_slice_nil (P := Try.prog) w 22 27 (some ad) l.length c 0 0 Try.underlying22
    simpa using this
  go_enter Try.func15, Try.ntmps15
  go_wp2_with (at_make; refine wpList_make_full _ rfl _ _ 22 rfl w.heap.size 27 i0 (.agg #[.int .i64 0, .int .i64 0]) 2 Try.underlying22 hi hz0 hz1 _ _ _ _ (l.length + 8) rfl rfl (by go_num) (by go_num) (by rw [hz2]; omega) (by unfold maxLen; omega) (Nat.le_refl _) ?_; intro w1 hown1 hgrow1)
  go_loopw [4] (fun i wr => ∃ k : Nat, k ≤ l.length + 8 ∧ i = .int .i64 k ∧ wr.ownsRow w.heap.size 27 2 (.slice (some ⟨w.heap.size, 0, none⟩) (l.length + 8) (l.length + 8)) (l.length + 8) (cellsR (filled k (l.length + 8))) ∧ Below w.heap.size w wr) (fun i _ => l.length + 8 - (intOf i).toNat)
  case atStart => exact ⟨0, Nat.zero_le _, rfl, by rw [← made_cells]; exact hown1, (Below.refl _ w).grown hgrow1 (Nat.le_refl _) (fun k e => by cases e)⟩
  case round =>
    clear hown1 hgrow1
    obtain ⟨k, hk, rfl, hown, hbel⟩ := hrel
    have hsz := hbel.size
    by_cases hlt : k < l.length + 8
    · have hfl : (filled k (l.length + 8)).length = l.length + 8 := by simp [filled]; omega
      have hx := List.getElem?_eq_getElem (l := filled k (l.length + 8)) (i := k) (by omega)
      have hc0 : wr.cell? ⟨w.heap.size, k * 2, none⟩ = some (.int .i64 ((filled k (l.length + 8))[k]'(by omega)).1) := by rw [hown.cellAt _ (by omega)]; exact (cellsR_get hx).1
      have hc1 : wr.cell? ⟨w.heap.size, k * 2 + 1, none⟩ = some (.int .i64 ((filled k (l.length + 8))[k]'(by omega)).2) := by rw [hown.cellAt _ (by omega)]; exact (cellsR_get hx).2
      have hf0 := hown.frozenAt (k * 2)
      have hf1 := hown.frozenAt (k * 2 + 1)
      generalize ((filled k (l.length + 8))[k]'(by omega)).1 = z1 at hc0
      generalize ((filled k (l.length + 8))[k]'(by omega)).2 = z2 at hc1
      clear hx
      have S := own_set (x := -77) (y := -77) hown hlt
      rw [filled_set k _ hlt] at S
      have S1 := hide S
      clear S hfl
      go_wp2
      go_roundw
      case rel => exact ⟨k + 1, by omega, by go_num, S1.out.1, hbel.grown S1.out.2 hsz (fun j e => by simp at e; omega)⟩
      case measure => simp [intOf]; omega
    · have hkn : k = l.length + 8 := by omega
      subst hkn
      have hS := src_cells HC.out hbel rfl
      go_wp2_with (first | (refine wpList_copy_rows rfl (.tmp 21) (.tmp 22) (by rfl) w.heap.size w.heap.size (l.length + 8) l.length cap ad _ (cellsR l) rfl rfl hown (by omega) (cellsR_length l) hS (src_one l) ?_; intro w2 hown2 hgrow2))
      rw [lent_cells] at hown2
      go_ret
      exact ⟨w.heap.size, rfl, hown2, hbel.grown hgrow2 hsz (fun j e => by simp at e; omega)⟩

set_option maxHeartbeats 400000 in
theorem lent_nil (w : World) : Calls Try.prog 15 #[.slice none 0 0] w fun e w' => e = .returned (.slice none 0 0) ∧ w' = w := by
  have hq : ∀ (w : World), (binOp .eql 22 (.slice none 0 0) (.slice none 0 0)).run Try.prog w = .ok (.bool true) w := fun w => by
    have := Lib.run_eql_slice_nil (P := Try.prog) w 22 27 none 0 0 0 0 Try.underlying22
    simpa using this
  go_enter Try.func15, Try.ntmps15
  go_wp2
  go_ret
  exact ⟨rfl, rfl⟩

/- asLent -/
def worn (k : Nat) (l : List (Int × Int)) : List (Int × Int) := List.replicate k (0, 1) ++ l.drop k
theorem worn_set {k : Nat} {l : List (Int × Int)} (h : k < l.length) : (worn k l).set k (0, 1) = worn (k + 1) l := by
  unfold worn
  rw [List.set_append_right _ _ (by simp), List.replicate_succ', List.append_assoc]
  congr 1
  simp only [List.length_replicate, Nat.sub_self]
  rw [List.drop_eq_getElem_cons h]; rfl
theorem worn_get {k : Nat} {l : List (Int × Int)} (h : k < l.length) : (worn k l)[k]? = some l[k] := by
  unfold worn
  rw [List.getElem?_append_right (by simp)]
  simp [h]
theorem grown_trans {a b c : World} {row : Option Nat} (h : a.grownBy b row) (k : b.grownBy c row) : a.grownBy c row :=
  ⟨k.os.trans h.os, k.tape.trans h.tape, k.output.trans h.output, Nat.le_trans h.size k.size, fun j hj hne => by rw [k.block j (Nat.lt_of_lt_of_le hj h.size) hne, h.block j hj hne]⟩

set_option maxRecDepth 100000 in
set_option maxHeartbeats 800000 in
theorem asLent_some (ad : Addr) (l : List (Int × Int)) (cap g : Nat) (w0 w : World) (hcells : Rd w0 (some ad) l) (hb0 : Below w0.heap.size w0 w) (hlen : l.length ≤ 8796093022208)
    (hrow : w.ownsRow w0.heap.size 27 2 (.slice (some ⟨g, 0, none⟩) (l.length + 8) (l.length + 8)) (l.length + 8) (cellsR (l ++ mark8))) :
    Calls Try.prog 23 #[.slice (some ⟨g, 0, none⟩) l.length (l.length + 8), .slice (some ad) l.length cap] w fun e w' => e = .returned (.bool true) ∧ w.grownBy w' (some g) := by
  have HC := hide hcells
  clear hcells
  have hq : ∀ (w : World) (c : Nat), (binOp .eql 22 (.slice (some ad) l.length c) (.slice none 0 0)).run Try.prog w = .ok (.bool false) w := fun w c => by
    have := Lib.run_eql_slice_nil (P := Try.prog) w 22 27 (some ad) l.length c 0 0 Try.underlying22
    simpa using this
  have hgB := hrow.lt g rfl
  go_enter Try.func23, Try.ntmps23
  go_wp2
  go_loopw [6] (fun i wr => ∃ k : Nat, k ≤ l.length + 8 ∧ i = .int .i64 k ∧ wr.ownsRow w0.heap.size 27 2 (.slice (some ⟨g, 0, none⟩) (l.length + 8) (l.length + 8)) (l.length + 8) (cellsR (worn k (l ++ mark8))) ∧ w.grownBy wr (some g)) (fun i _ => l.length + 8 - (intOf i).toNat)
  case atStart => exact ⟨0, Nat.zero_le _, rfl, by simpa [worn] using hrow, ⟨rfl, rfl, rfl, Nat.le_refl _, fun _ _ _ => rfl⟩⟩
  case round =>
    clear hrow
    obtain ⟨k, hk, rfl, hown, hgr⟩ := hrel
    have hsz := hgr.size
    have hll : (l ++ mark8).length = l.length + 8 := by simp [mark8]
    by_cases hlt : k < l.length + 8
    · have hx := worn_get (k := k) (l := l ++ mark8) (by omega)
      generalize hz : (l ++ mark8)[k]'(by omega) = z at hx
      have HZ : Hid ((l ++ mark8)[k]? = some z) := by rw [List.getElem?_eq_getElem (by omega), hz]; rfl
      clear hz
      have hc0 : wr.cell? ⟨g, k * 2, none⟩ = some (.int .i64 z.1) := by rw [hown.cellAt _ (by omega)]; exact (cellsR_get hx).1
      have hc1 : wr.cell? ⟨g, k * 2 + 1, none⟩ = some (.int .i64 z.2) := by rw [hown.cellAt _ (by omega)]; exact (cellsR_get hx).2
      have hf0 := hown.frozenAt (k * 2)
      have hf1 := hown.frozenAt (k * 2 + 1)
      clear hx
      have hgw : g < wr.heap.size := by omega
      have e1 : ∀ o c, (wr.alloc o).cell? ⟨g, c, none⟩ = wr.cell? ⟨g, c, none⟩ := fun o c => cell_old o c hgw
      have e2 : ∀ o c, (wr.alloc o).frozen? ⟨g, c, none⟩ = wr.frozen? ⟨g, c, none⟩ := fun o c => frozen_old o c hgw
      obtain ⟨z1, z2⟩ := z
      simp only at hc0 hc1
      have hne := neq_same z1 z2
      have hgd := Try.guard27
      have i1 : (0 : Int) ≤ (k : Int) := Int.natCast_nonneg _
      have i2 : (k : Int) < ((l.length + 8 : Nat) : Int) := by omega
      have HS : Hid (∀ (o : Obj) (n : Nat), ((((wr.alloc o).drewN n).setCell ⟨g, k * 2, none⟩ (.int .i64 0)).setCell ⟨g, k * 2 + 1, none⟩ (.int .i64 1)).ownsRow w0.heap.size 27 2 (.slice (some ⟨g, 0, none⟩) (l.length + 8) (l.length + 8)) (l.length + 8) (cellsR (worn (k + 1) (l ++ mark8))) ∧
          w.grownBy ((((wr.alloc o).drewN n).setCell ⟨g, k * 2, none⟩ (.int .i64 0)).setCell ⟨g, k * 2 + 1, none⟩ (.int .i64 1)) (some g)) := by
        intro o n
        have h0 : ((wr.alloc o).drewN n).ownsRow w0.heap.size 27 2 (.slice (some ⟨g, 0, none⟩) (l.length + 8) (l.length + 8)) (l.length + 8) (cellsR (worn k (l ++ mark8))) := hown.alloc o
        have h1 := own_set (x := 0) (y := 1) h0 hlt
        rw [worn_set (by omega)] at h1
        have ha := grown_trans hgr (World.grownBy_alloc wr o (some g))
        have h2 : w.grownBy ((wr.alloc o).drewN n) (some g) := ⟨ha.os, ha.tape, ha.output, ha.size, ha.block⟩
        exact ⟨h1.1, grown_trans h2 h1.2⟩
      by_cases hin : k < l.length
      · have hzl : l[k]? = some (z1, z2) := by rw [← HZ.out, List.getElem?_append_left hin]
        obtain ⟨b, off, e, hb, h1, h2⟩ := HC.out k (z1, z2) hzl
        have ea : ad = ⟨b, off, none⟩ := Option.some.inj e
        subst ea
        have hbB : Below w0.heap.size w0 wr := hb0.grown hgr hb0.size (fun j e => by simp at e; omega)
        simp only at h1 h2
        rw [← hbB.cell (p := ⟨b, _, none⟩) hb] at h1 h2
        have e3 : ∀ o c, (wr.alloc o).cell? ⟨b, c, none⟩ = wr.cell? ⟨b, c, none⟩ := fun o c => cell_old o c (by omega)
        have i3 : (k : Int) < (l.length : Int) := by omega
        clear hbB hzl e
        go_wp2_with fail
        go_quiet (fail)
        go_wp2
        go_roundw
        case rel => exact ⟨k + 1, by omega, by go_num, (HS.out _ _).1, (HS.out _ _).2⟩
        case measure => simp [intOf]; omega
      · have hz77 : (z1, z2) = ((-77 : Int), (-77 : Int)) := by
          have := HZ.out
          rw [List.getElem?_append_right (by omega)] at this
          unfold mark8 at this
          rw [List.getElem?_replicate] at this
          split at this
          · exact (Option.some.inj this).symm
          · cases this
        injection hz77 with ea eb
        subst ea; subst eb
        go_wp2_with fail
        go_quiet (fail)
        go_wp2
        go_roundw
        case rel => exact ⟨k + 1, by omega, by go_num, (HS.out _ _).1, (HS.out _ _).2⟩
        case measure => simp [intOf]; omega
    · go_wp2
      go_ret
      exact ⟨rfl, hgr⟩

set_option maxHeartbeats 400000 in
theorem asLent_nil (v : Value) (w : World) : Calls Try.prog 23 #[v, .slice none 0 0] w fun e w' => e = .returned (.bool true) ∧ w' = w := by
  have hq : ∀ (w : World), (binOp .eql 22 (.slice none 0 0) (.slice none 0 0)).run Try.prog w = .ok (.bool true) w := fun w => by
    have := Lib.run_eql_slice_nil (P := Try.prog) w 22 27 none 0 0 0 0 Try.underlying22
    simpa using this
  go_enter Try.func23, Try.ntmps23
  go_wp2
  go_ret
  exact ⟨rfl, rfl⟩
end Go.Proofs.Ytaiidpcdeghipaa
