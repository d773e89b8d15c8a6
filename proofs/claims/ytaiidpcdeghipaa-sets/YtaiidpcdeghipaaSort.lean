/- What the library's sort does to a row of ranges that the call owns. -/
import Derived.Test.YtaiidpcdeghipaaNot
import Derived.Test.YtaiidpcdeghipaaShelf
import Derived.BigRegion
import Derived.BigQuiet
import Derived.Deep.QuietTactic
namespace Go.Proofs.Ytaiidpcdeghipaa
open Go.Shelf Go.RowKit Go.Lib Go.Sort

def encR (x : Int × Int) : List Value := [.int .i64 x.1, .int .i64 x.2]

theorem ltLow (x y : Int × Int) : ltOf (fun x y : Int × Int => Lib.compareInt x.1 y.1) x y = decide (x.1 < y.1) := by
  unfold ltOf Lib.compareInt
  by_cases h1 : x.1 < y.1
  · simp [h1]
  · by_cases h2 : y.1 < x.1 <;> simp [h1, h2]

theorem swoLow : SWO (ltOf fun x y : Int × Int => Lib.compareInt x.1 y.1) := {
  irrefl := fun x => by rw [ltLow]; simp
  trans := fun x y z h1 h2 => by rw [ltLow] at *; simp at *; omega
  ntrans := fun x y z h1 h2 => by rw [ltLow] at *; simp at *; omega }

set_option maxHeartbeats 1000000 in
theorem closure_any (x y : Int × Int) (W : World) : Calls Try.prog 31 #[.agg #[.int .i64 x.1, .int .i64 x.2], .agg #[.int .i64 y.1, .int .i64 y.2]] W fun e w' => e = .returned (.int .i64 (Lib.compareInt x.1 y.1)) ∧ ∃ q os', w' = grow (W.drewN q) os' := by
  have hcon := fun W' => AnyG.cmp_Compare_int Try.cmpInt x.1 y.1 W'
  change ∀ W', Calls Try.prog 32 _ _ _ at hcon
  generalize Lib.compareInt x.1 y.1 = r at hcon ⊢
  go_enter Try.func31, Try.ntmps31
  go_wp2_with (go_at_call 32; refine (hcon _).mono ?_; rintro e w' ⟨rfl, rfl⟩)
  go_ret
  exact ⟨rfl, 0, _, by rw [alloc_eq_grow, alloc_eq_grow, grow_grow]; rfl⟩

theorem flat_get (l : List (Int × Int)) (t : Nat) (h : t < l.length * 2) : (cellsR l)[t]? = some ((flatK encR 2 l.toArray)[t]!) := by
  rw [get_flatK encR 2 l.toArray t (by simpa using h)]
  have hi : t / 2 < l.length := by omega
  have hx : l[t / 2]? = some l[t / 2] := List.getElem?_eq_getElem hi
  have e : l.toArray[t / 2]! = l[t / 2] := by simp [getElem!_pos, hi]
  rw [e]
  have := cellsR_get hx
  rcases Nat.mod_two_eq_zero_or_one t with h0 | h1
  · rw [h0]; rw [show t / 2 * 2 = t from by omega] at this; rw [this.1]; rfl
  · rw [h1]; rw [show t / 2 * 2 + 1 = t from by omega] at this; rw [this.2]; rfl

theorem own_holds {w : World} {B g cap : Nat} {l : List (Int × Int)} (h : w.ownsRow B 27 2 (.slice (some ⟨g, 0, none⟩) l.length cap) l.length (cellsR l)) : HoldsK encR 2 w g 0 l.toArray := by
  intro j hj
  have hj' : j < l.length * 2 := by simpa using hj
  refine ⟨?_, by rw [Nat.zero_add]; exact h.frozenAt j⟩
  rw [Nat.zero_add, h.cellAt j hj', flat_get l j hj']
  rfl

theorem own_sorted {w : World} {B g cap q : Nat} {os : Array Obj} {l l' : List (Int × Int)} (h : w.ownsRow B 27 2 (.slice (some ⟨g, 0, none⟩) l.length cap) l.length (cellsR l)) (hl : l'.length = l.length) :
    (sortWorldK encR 2 w g 0 q l'.toArray os).ownsRow B 27 2 (.slice (some ⟨g, 0, none⟩) l'.length cap) l'.length (cellsR l') ∧ Below B w (sortWorldK encR 2 w g 0 q l'.toArray os) := by
  rcases h.2 with ⟨e0, _⟩ | ⟨g', cap', cur, e0, hb, hg, hn, hm, hs, ht⟩
  · cases e0
  · injection e0 with e1 _ e3
    injection e1 with e1
    injection e1 with e1
    subst e1; subst e3
    have hlt : g < w.heap.size := (h.lt g rfl).2
    constructor
    · refine ⟨cellsR_length l', .inr ⟨g, cap, putCells id 0 (flatK encR 2 l'.toArray) cur, rfl, hb, ?_, by omega, hm, by simpa [putCells] using hs, ?_⟩⟩
      · simp only [sortWorldK, grow, putRowK, putRow, mapBlock, Sort.ahead]
        rw [Array.getElem?_append_left (by simpa using hlt), Array.getElem?_modify, if_pos rfl, hg]
        rfl
      · apply List.ext_getElem?
        intro j
        rw [List.getElem?_take, Array.getElem?_toList]
        by_cases hj : j < l'.length * 2
        · have hjc : j < cur.size := by omega
          simp only [if_pos hj, putCells, Array.getElem?_mapIdx, Array.getElem?_eq_getElem hjc, Option.map_some]
          rw [if_pos (by simp; omega), flat_get l' j hj]
          simp
        · rw [if_neg hj, List.getElem?_eq_none (by rw [cellsR_length]; omega)]
    · refine ⟨rfl, rfl, rfl, by simp [sortWorldK, grow, putRowK, putRow, mapBlock, Sort.ahead], fun k hk => ?_⟩
      simp only [sortWorldK, grow, putRowK, putRow, mapBlock, Sort.ahead]
      rw [Array.getElem?_append_left (by simp; omega), Array.getElem?_modify, if_neg (by omega)]

set_option maxHeartbeats 1000000 in
theorem sort_some (l : List (Int × Int)) (g cap B : Nat) (w : World) (h : w.ownsRow B 27 2 (.slice (some ⟨g, 0, none⟩) l.length cap) l.length (cellsR l)) (hlen : l.length ≤ 1000000) :
    Calls Try.prog 30 #[.slice (some ⟨g, 0, none⟩) l.length cap, .func (.func 31) #[] #[]] w fun e w' => e = .returned (.tuple #[]) ∧ ∃ l', l'.Perm l ∧ l'.Pairwise (fun x y => x.1 ≤ y.1) ∧
      w'.ownsRow B 27 2 (.slice (some ⟨g, 0, none⟩) l'.length cap) l'.length (cellsR l') ∧ Below B w w' := by
  have eg : ∀ args w, (callFunc 31 args).run Try.prog w = .ok (.enter 31 args) w := enters_of Try.func31 (by kernel_rfl) rfl
  have hcon := AnyQ.slices_SortFunc Try.sortR 2 Try.isAgg27 Try.sizeOf27 encR (fun _ => rfl) (fun x v hv => by simp [encR] at hv; rcases hv with rfl | rfl <;> rfl) (fun x y => Lib.compareInt x.1 y.1) swoLow 31 #[] g 0 cap l.toArray w eg
    (fun _ _ _ _ x y => closure_any x y _) (own_holds h) (h.lt g rfl).2 (by simp; omega)
  change Calls Try.prog 30 _ _ _ at hcon
  simp only [List.size_toArray] at hcon
  refine hcon.mono ?_
  rintro e w' ⟨he, d', n, os, hp, hs, rfl⟩
  obtain ⟨hsz, _, hperm⟩ := hp
  have hsz' : d'.size = l.length := by simpa using hsz
  have hl' : d'.toList.length = l.length := by simpa using hsz'
  refine ⟨he, d'.toList, ?_, ?_, ?_⟩
  · have e1 : d'.extract 0 l.length = d' := by rw [← hsz']; simp
    have e2 : l.toArray.extract 0 l.length = l.toArray := by simp
    rw [e1, e2] at hperm
    simpa using hperm
  · rw [List.pairwise_iff_getElem]
    intro i j hi hj hij
    have := hs i j (Nat.zero_le _) hij (by omega)
    rw [ltLow] at this
    simp only [decide_eq_false_iff_not] at this
    have hi2 : i < d'.size := by omega
    have hj2 : j < d'.size := by omega
    rw [getElem!_pos d' i hi2, getElem!_pos d' j hj2] at this
    simp only [Array.getElem_toList]
    omega
  · have := own_sorted (q := n) (os := os) (l' := d'.toList) h hl'
    simpa using this

theorem sort_any (l : List (Int × Int)) (v : Value) (B : Nat) (w : World) (h : w.ownsRow B 27 2 v l.length (cellsR l)) (hlen : l.length ≤ 1000000) :
    Calls Try.prog 30 #[v, .func (.func 31) #[] #[]] w fun e w' => e = .returned (.tuple #[]) ∧ ∃ l', l'.Perm l ∧ l'.Pairwise (fun x y => x.1 ≤ y.1) ∧ w'.ownsRow B 27 2 v l'.length (cellsR l') ∧ Below B w w' := by
  rcases h.2 with ⟨rfl, h0⟩ | ⟨g, cap, cur, rfl, _⟩
  · have hl : l = [] := List.length_eq_zero_iff.1 h0
    subst hl
    have hcon := AnyF.slices_SortFunc_none Try.sortR none 0 (.func (.func 31) #[] #[]) w
    change Calls Try.prog 30 _ _ _ at hcon
    refine hcon.mono ?_
    rintro e w' ⟨he, rfl⟩
    exact ⟨he, [], List.Perm.refl _, by simp, h, Below.refl _ _⟩
  · refine (sort_some l g cap B w h hlen).mono ?_
    rintro e w' ⟨he, l', hp, hs, ho, hb⟩
    refine ⟨he, l', hp, hs, ?_, hb⟩
    rw [hp.length_eq] at ho ⊢
    exact ho
end Go.Proofs.Ytaiidpcdeghipaa
