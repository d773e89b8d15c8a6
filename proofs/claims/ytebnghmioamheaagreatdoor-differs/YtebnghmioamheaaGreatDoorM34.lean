import Derived.Sort.OwnSortedInts
import Derived.Test.YtebnghmioamheaaGreatDoorM33
import Derived.Test.YtebnghmioamheaaGreatDoorM06
set_option maxHeartbeats 400000
set_option maxRecDepth 100000
set_option linter.all false
namespace Go.Proofs.YtebnghmioamheaaGreatDoor
open Go.RowKit Go.Sort Tryz
variable {w:World}{g:Nat}{L:LZ}
def eP (w:World)(g:Nat)(L:List Int):Prop:=Sort.Holds (Value.int .i64) w g 0 L.toArray/\g<w.heap.size
theorem eP.block {w':World}(h:eP w g L)(k:w'.heap[g]?=w.heap[g]?)(hl:w.heap.size<=w'.heap.size):eP w' g L :=
 ⟨λj b=>⟨(zP (w:=w) (a:=⟨g,0+j,none⟩) k).trans (h.1 j b).1,(World.frozen?_of_block (w:=w) (a:=⟨g,0+j,none⟩) k).trans (h.1 j b).2⟩,zF h.2 hl⟩
theorem eP.cell {w:World}{g:Nat}{L:LZ}(h:eP w g L){j:Nat}{x:Int}(hx:L[j]?=some x):w.cell? (aD g j)=some (Vi x):=by
 obtain⟨a,rfl⟩:=zC.1 hx;have:=(h.1 j (by simpa using a)).1;rw[zf]at this;rw[this,getElem!_pos L.toArray j (by simpa using a)];simp
theorem eP.pre {a b:LZ}(h:eP w g (a++b)):eP w g a:=by
 refine⟨λj e=>?_,h.2⟩;have c:j<a.length:=by simpa using e
 have d:=h.1 j (by simp;omega);refine⟨?_,d.2⟩;rw[d.1,getElem!_pos (a++b).toArray j (by simp;omega),getElem!_pos a.toArray j e];simp[List.getElem_append_left c]
theorem Be {q:Nat}{L':LZ}(h:eP w g L)(hl:L'.length=L.length)(os:Array Obj):eP (grow (Sort.putRow (Value.int .i64) (Sort.ahead w q) g 0 L'.toArray) os) g L'/\Below g w (grow (Sort.putRow (Value.int .i64) (Sort.ahead w q) g 0 L'.toArray) os):=by
 have d:Sort.Holds (Value.int .i64) (Sort.ahead w q) g 0 L.toArray:=h.1;have c:=Sort.holds_putRow (Value.int .i64) (Sort.ahead w q) g 0 L.toArray L'.toArray d (by simpa using hl);have a:(Sort.putRow (Value.int .i64) (Sort.ahead w q) g 0 L'.toArray).heap.size=w.heap.size:=by rw[Sort.size_putRow];rfl
 have b:w.grownBy (grow (Sort.putRow (Value.int .i64) (Sort.ahead w q) g 0 L'.toArray) os) (some g):=grownBy_sortedI L'.toArray;refine⟨eP.block (w:=Sort.putRow (Value.int .i64) (Sort.ahead w q) g 0 L'.toArray) ⟨c,by rw[a];exact h.2⟩ ?_ ?_,(zE g w).grown b (yJ h.2) (λk e=>by cases e;exact zA _)⟩
 ·show ((Sort.putRow (Value.int .i64) (Sort.ahead w q) g 0 L'.toArray).heap++os)[g]?=_
  rw[Array.getElem?_append_left (by rw[a];exact h.2)]
 ·show _<=((Sort.putRow (Value.int .i64) (Sort.ahead w q) g 0 L'.toArray).heap++os).size
  rw[Array.size_append];omega
theorem Ci (w:World):grow w #[]=w:=by unfold grow;simp
theorem Hg {x:Int}(h:x∈Lib.compact L):x∈L:=by
 unfold Lib.compact Lib.compactUpTo at h;obtain⟨j,b,rfl⟩:=yH.1 h;have a:j<L.length:=List.mem_range.1 (List.mem_filter.1 b).1;rw[getElem!_pos L.toArray j (by simpa using a)];simp
theorem Vj (x:Int)(w:World):Calls prog 68 #[Vi x] w λe w'=>e=.returned (.bool (decide (1114111<x)))/\w'=w:=by
 go_enter func68,ntmps68;go_wp2;go_ret;exact⟨rfl,rfl⟩
theorem Cj (x:Int)(w:World):FnGives prog 68 #[] #[Vi x] (.bool (decide (1114111<x))) w:=by
 unfold FnGives;exact (Vj x w).mono λe a h=>⟨h.1,0,by rw[h.2];rfl⟩
