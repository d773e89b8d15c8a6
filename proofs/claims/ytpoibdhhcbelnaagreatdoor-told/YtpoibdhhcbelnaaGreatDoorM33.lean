/- Sort, Compact and DeleteFunc on a row of numbers, in place: what they leave. -/
import Derived.Sort.OwnSortedInts
import Derived.Test.YtpoibdhhcbelnaaGreatDoorM32
import Derived.Test.YtpoibdhhcbelnaaGreatDoorM06
namespace Go.Proofs.YtpoibdhhcbelnaaGreatDoor
open Go.RowKit Go.Sort
def RowH (w:World)(g:Nat)(L:List Int):Prop:=Sort.Holds (Value.int .i64) w g 0 L.toArray/\g<w.heap.size
theorem RowH.block {w w':World}{g:Nat}{L:List Int}(h:RowH w g L)(k:w'.heap[g]?=w.heap[g]?)(hl:w.heap.size<=w'.heap.size):RowH w' g L :=
  ⟨fun j hj=>⟨(World.cell?_of_block (w:=w) (a:=⟨g,0+j,none⟩) k).trans (h.1 j hj).1,(World.frozen?_of_block (w:=w) (a:=⟨g,0+j,none⟩) k).trans (h.1 j hj).2⟩,Nat.lt_of_lt_of_le h.2 hl⟩
theorem RowH.cell {w:World}{g:Nat}{L:List Int}(h:RowH w g L){j:Nat}{x:Int}(hx:L[j]?=some x):w.cell? ⟨g,j,none⟩=some (.int .i64 x):=by
  obtain ⟨hl,rfl⟩:=List.getElem?_eq_some_iff.1 hx
  have:=(h.1 j (by simpa using hl)).1
  rw [Nat.zero_add] at this
  rw [this,getElem!_pos L.toArray j (by simpa using hl)]
  simp
theorem RowH.pre {w:World}{g:Nat}{a b:List Int}(h:RowH w g (a++b)):RowH w g a:=by
  refine ⟨fun j hj=>?_,h.2⟩
  have hj':j<a.length:=by simpa using hj
  have h1:=h.1 j (by simp;omega)
  refine ⟨?_,h1.2⟩
  rw [h1.1,getElem!_pos (a++b).toArray j (by simp;omega),getElem!_pos a.toArray j hj]
  simp [List.getElem_append_left hj']
theorem row_put {w:World}{g q:Nat}{L L':List Int}(h:RowH w g L)(hl:L'.length=L.length)(os:Array Obj):RowH (grow (Sort.putRow (Value.int .i64) (Sort.ahead w q) g 0 L'.toArray) os) g L'/\Below g w (grow (Sort.putRow (Value.int .i64) (Sort.ahead w q) g 0 L'.toArray) os):=by
  have hH:Sort.Holds (Value.int .i64) (Sort.ahead w q) g 0 L.toArray:=h.1
  have h1:=Sort.holds_putRow (Value.int .i64) (Sort.ahead w q) g 0 L.toArray L'.toArray hH (by simpa using hl)
  have hs:(Sort.putRow (Value.int .i64) (Sort.ahead w q) g 0 L'.toArray).heap.size=w.heap.size:=by rw [Sort.size_putRow];rfl
  have hg:w.grownBy (grow (Sort.putRow (Value.int .i64) (Sort.ahead w q) g 0 L'.toArray) os) (some g):=grownBy_sortedI L'.toArray
  refine ⟨RowH.block (w:=Sort.putRow (Value.int .i64) (Sort.ahead w q) g 0 L'.toArray) ⟨h1,by rw [hs];exact h.2⟩ ?_ ?_,(Below.refl g w).grown hg (Nat.le_of_lt h.2) (fun k e=>by cases e;exact Nat.le_refl _)⟩
  · show ((Sort.putRow (Value.int .i64) (Sort.ahead w q) g 0 L'.toArray).heap++os)[g]?=_
    rw [Array.getElem?_append_left (by rw [hs];exact h.2)]
  · show _<=((Sort.putRow (Value.int .i64) (Sort.ahead w q) g 0 L'.toArray).heap++os).size
    rw [Array.size_append];omega
theorem grow_none (w:World):grow w #[]=w:=by unfold grow;simp
theorem compact_mem {L:List Int}{x:Int}(h:x∈Lib.compact L):x∈L:=by
  unfold Lib.compact Lib.compactUpTo at h
  obtain ⟨j,hj,rfl⟩:=List.mem_map.1 h
  have hl:j<L.length:=List.mem_range.1 (List.mem_filter.1 hj).1
  rw [getElem!_pos L.toArray j (by simpa using hl)]
  simp
set_option maxRecDepth 100000 in
set_option maxHeartbeats 400000 in
theorem far_any (x:Int)(w:World):Calls Tryz.prog 135 #[.int .i64 x] w fun e w'=>e=.returned (.bool (decide (1114111<x)))/\w'=w:=by
  go_enter Tryz.func135,Tryz.ntmps135
  go_wp2
  go_ret
  exact ⟨rfl,rfl⟩
theorem far_gives (x:Int)(w:World):FnGives Tryz.prog 135 #[] #[.int .i64 x] (.bool (decide (1114111<x))) w:=by
  unfold FnGives
  exact (far_any x w).mono fun e w' h=>⟨h.1,0,by rw [h.2];rfl⟩
end Go.Proofs.YtpoibdhhcbelnaaGreatDoor
