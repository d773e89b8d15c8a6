/- Sort, Compact and DeleteFunc on a row of numbers, in place: what they leave. -/
import Derived.Sort.OwnSortedInts
import Derived.Test.YtlflfcjbpnnfcaaGreatDoorM35
import Derived.Test.YtlflfcjbpnnfcaaGreatDoorM06
namespace Go.Proofs.YtlflfcjbpnnfcaaGreatDoor
open Go.RowKit Go.Sort

/-- A row of numbers at the front of a block. -/
def RowH (w : World) (g : Nat) (L : List Int) : Prop := Sort.Holds (Value.int .i64) w g 0 L.toArray ∧ g < w.heap.size
theorem RowH.block {w w' : World} {g : Nat} {L : List Int} (h : RowH w g L) (k : w'.heap[g]? = w.heap[g]?) (hl : w.heap.size ≤ w'.heap.size) : RowH w' g L :=
  ⟨fun j hj => ⟨(World.cell?_of_block (w := w) (a := ⟨g, 0 + j, none⟩) k).trans (h.1 j hj).1, (World.frozen?_of_block (w := w) (a := ⟨g, 0 + j, none⟩) k).trans (h.1 j hj).2⟩, Nat.lt_of_lt_of_le h.2 hl⟩
theorem RowH.cell {w : World} {g : Nat} {L : List Int} (h : RowH w g L) {j : Nat} {x : Int} (hx : L[j]? = some x) : w.cell? ⟨g, j, none⟩ = some (.int .i64 x) := by
  obtain ⟨hl, rfl⟩ := List.getElem?_eq_some_iff.1 hx
  have := (h.1 j (by simpa using hl)).1
  rw [Nat.zero_add] at this
  rw [this, getElem!_pos L.toArray j (by simpa using hl)]
  simp
theorem RowH.pre {w : World} {g : Nat} {a b : List Int} (h : RowH w g (a ++ b)) : RowH w g a := by
  refine ⟨fun j hj => ?_, h.2⟩
  have hj' : j < a.length := by simpa using hj
  have h1 := h.1 j (by simp; omega)
  refine ⟨?_, h1.2⟩
  rw [h1.1, getElem!_pos (a ++ b).toArray j (by simp; omega), getElem!_pos a.toArray j hj]
  simp [List.getElem_append_left hj']
theorem row_put {w : World} {g q : Nat} {L L' : List Int} (h : RowH w g L) (hl : L'.length = L.length) (os : Array Obj) : RowH (grow (Sort.putRow (Value.int .i64) (Sort.ahead w q) g 0 L'.toArray) os) g L' ∧ Below g w (grow (Sort.putRow (Value.int .i64) (Sort.ahead w q) g 0 L'.toArray) os) := by
  have hH : Sort.Holds (Value.int .i64) (Sort.ahead w q) g 0 L.toArray := h.1
  have h1 := Sort.holds_putRow (Value.int .i64) (Sort.ahead w q) g 0 L.toArray L'.toArray hH (by simpa using hl)
  have hs : (Sort.putRow (Value.int .i64) (Sort.ahead w q) g 0 L'.toArray).heap.size = w.heap.size := by rw [Sort.size_putRow]; rfl
  have hg : w.grownBy (grow (Sort.putRow (Value.int .i64) (Sort.ahead w q) g 0 L'.toArray) os) (some g) := grownBy_sortedI L'.toArray
  refine ⟨RowH.block (w := Sort.putRow (Value.int .i64) (Sort.ahead w q) g 0 L'.toArray) ⟨h1, by rw [hs]; exact h.2⟩ ?_ ?_, (Below.refl g w).grown hg (Nat.le_of_lt h.2) (fun k e => by cases e; exact Nat.le_refl _)⟩
  · show ((Sort.putRow (Value.int .i64) (Sort.ahead w q) g 0 L'.toArray).heap ++ os)[g]? = _
    rw [Array.getElem?_append_left (by rw [hs]; exact h.2)]
  · show _ ≤ ((Sort.putRow (Value.int .i64) (Sort.ahead w q) g 0 L'.toArray).heap ++ os).size
    rw [Array.size_append]; omega
theorem grow_none (w : World) : grow w #[] = w := by unfold grow; simp
theorem compact_mem {L : List Int} {x : Int} (h : x ∈ Lib.compact L) : x ∈ L := by
  unfold Lib.compact Lib.compactUpTo at h
  obtain ⟨j, hj, rfl⟩ := List.mem_map.1 h
  have hl : j < L.length := List.mem_range.1 (List.mem_filter.1 hj).1
  rw [getElem!_pos L.toArray j (by simpa using hl)]
  simp
theorem sort_row (g c : Nat) (L : List Int) (w : World) (h : RowH w g L) (hl : L.length ≤ 1000000) :
    Calls Tryz.prog 132 #[.slice (some ⟨g, 0, none⟩) L.length c] w fun e w' => e = .returned (.tuple #[]) ∧ ∃ L' : List Int, L'.Perm L ∧ RowH w' g L' ∧ Below g w w' := by
  refine (Tryz.slices_Sort_int g 0 c L w h.1 h.2 (by omega)).mono ?_
  rintro e w' ⟨rfl, n, os, rfl⟩
  have hp := List.mergeSort_perm L fun x y => decide (x ≤ y)
  exact ⟨rfl, _, hp, row_put h hp.length_eq os⟩
theorem compact_row (g c : Nat) (L : List Int) (w : World) (h : RowH w g L) (hl : L.length ≤ 1000000) (hc : L.length ≤ c) :
    Calls Tryz.prog 133 #[.slice (some ⟨g, 0, none⟩) L.length c] w fun e w' => ∃ L' : List Int, e = .returned (.slice (some ⟨g, 0, none⟩) L'.length c) ∧ (∀ x ∈ L', x ∈ L) ∧ L'.length ≤ L.length ∧ RowH w' g L' ∧ Below g w w' := by
  refine (Tryz.slices_Compact_int g 0 c L w h.1 (by omega) hc).mono ?_
  rintro e w' ⟨rfl, q, rfl⟩
  have hle := Lib.compact_length_le L
  have hp := row_put (q := q) (L' := Lib.compact L ++ List.replicate (L.length - (Lib.compact L).length) 0) h (by simp; omega) #[]
  rw [grow_none] at hp
  exact ⟨_, rfl, fun x hx => compact_mem hx, hle, hp.1.pre, hp.2⟩
set_option maxRecDepth 100000 in
set_option maxHeartbeats 400000 in
theorem far_any (x : Int) (w : World) : Calls Tryz.prog 135 #[.int .i64 x] w fun e w' => e = .returned (.bool (decide (1114111 < x))) ∧ w' = w := by
  go_enter Tryz.func135, Tryz.ntmps135
  go_wp2
  go_ret
  exact ⟨rfl, rfl⟩
theorem far_gives (x : Int) (w : World) : FnGives Tryz.prog 135 #[] #[.int .i64 x] (.bool (decide (1114111 < x))) w := by
  unfold FnGives
  exact (far_any x w).mono fun e w' h => ⟨h.1, 0, by rw [h.2]; rfl⟩
theorem delete_row (g c : Nat) (L : List Int) (w : World) (h : RowH w g L) (hl : L.length ≤ 1000000) (hc : L.length ≤ c) :
    Calls Tryz.prog 134 #[.slice (some ⟨g, 0, none⟩) L.length c, .func (.func 135) #[] #[]] w fun e w' => ∃ L' : List Int, e = .returned (.slice (some ⟨g, 0, none⟩) L'.length c) ∧ (∀ x ∈ L', x ∈ L ∧ x ≤ 1114111) ∧ L'.length ≤ L.length ∧ RowH w' g L' ∧ Below g w w' := by
  refine (Tryz.slices_DeleteFunc (Value.int .i64) (fun _ => rfl) (fun x => decide (1114111 < x)) 135 #[] (enters_of Tryz.func135 (by kernel_rfl) rfl) 0 (Tryz.zeroValue3) g 0 c L.toArray w (fun W x _ => far_gives x W) (fun n os dk x _ => far_gives x _) h.1 (by simp; omega) (by simpa using hc)).mono ?_
  rintro e w' ⟨rfl, q, rfl⟩
  have hle := List.length_filter_le (fun x => !decide (1114111 < x)) L
  have hp := row_put (q := q) (L' := (L.filter fun x => !decide (1114111 < x)) ++ List.replicate (L.length - (L.filter fun x => !decide (1114111 < x)).length) 0) h (by simp; omega) #[]
  rw [grow_none] at hp
  refine ⟨_, rfl, fun x hx => ?_, hle, hp.1.pre, hp.2⟩
  obtain ⟨h1, h2⟩ := List.mem_filter.1 hx
  exact ⟨h1, by simpa using h2⟩
end Go.Proofs.YtlflfcjbpnnfcaaGreatDoor
