/- A world in which but one block has been written, and blocks have been made. -/
import Derived.WalkKit
import Derived.WalkSpells
import Derived.WalkLawsBesides
namespace Go.Proofs.YtpoibdhhcbelnaaGreatDoor
open Go.RowKit
structure Off (b:Nat)(w w':World):Prop where
  os:w'.os=w.os
  tape:w'.tape=w.tape
  output:w'.output=w.output
  size:w.heap.size<=w'.heap.size
  block:∀ k,k<w.heap.size->k≠b->w'.heap[k]?=w.heap[k]?
theorem Off.refl (b:Nat)(w:World):Off b w w:=⟨rfl,rfl,rfl,Nat.le_refl _,fun _ _ _=>rfl⟩
theorem Off.trans {b:Nat}{w1 w2 w3:World}(h:Off b w1 w2)(k:Off b w2 w3):Off b w1 w3 :=
  ⟨k.os.trans h.os,k.tape.trans h.tape,k.output.trans h.output,Nat.le_trans h.size k.size,fun i hi hne=>(k.block i (Nat.lt_of_lt_of_le hi h.size) hne).trans (h.block i hi hne)⟩
theorem Off.below {b:Nat}{w w':World}(h:Below w.heap.size w w'):Off b w w':=⟨h.os,h.tape,h.output,h.size,fun k hk _=>h.block k hk⟩
theorem Off.drew {b:Nat}{a w:World}(h:Off b a w):Off b a w.drew:=⟨h.os,h.tape,h.output,h.size,h.block⟩
theorem Off.drewN {b:Nat}{a w:World}(h:Off b a w)(n:Nat):Off b a (w.drewN n):=⟨h.os,h.tape,h.output,h.size,h.block⟩
theorem Off.alloc {b:Nat}{a w:World}(h:Off b a w)(o:Obj):Off b a (w.alloc o):=h.trans ⟨rfl,rfl,rfl,by simp,fun k hk _=>Below.heap_alloc _ _ _ hk⟩
theorem Off.setCell {b:Nat}{a w:World}(h:Off b a w)(o:Nat)(u:Value):Off b a (w.setCell ⟨b,o,none⟩ u):=h.trans ⟨rfl,rfl,rfl,by simp [World.setCell],fun k _ hne=>Below.heap_setCell _ _ _ _ hne⟩
theorem Off.setNew {b:Nat}{a w:World}(h:Off b a w){p:Addr}(hp:a.heap.size<=p.block)(u:Value):Off b a (w.setCell p u) :=
  ⟨h.os,h.tape,h.output,by have:=h.size;simpa [World.setCell] using this,fun k hk hne=>(Below.heap_setCell _ _ _ _ (by omega)).trans (h.block k hk hne)⟩
theorem Off.grown {b:Nat}{a w w':World}{row:Option Nat}(h:Off b a w)(hg:w.grownBy w' row)(hr:∀ k,row=some k->a.heap.size<=k):Off b a w' :=
  ⟨hg.os.trans h.os,hg.tape.trans h.tape,hg.output.trans h.output,Nat.le_trans h.size hg.size,fun k hk hne=>(hg.block k (Nat.lt_of_lt_of_le hk h.size) (fun e=>by have:=hr k e.symm;omega)).trans (h.block k hk hne)⟩
theorem Off.cell {b:Nat}{w w':World}(h:Off b w w'){p:Addr}(hp:p.block<w.heap.size)(hne:p.block≠b):w'.cell? p=w.cell? p:=World.cell?_of_block (w:=w) (h.block p.block hp hne)
theorem Off.toBelow {b B:Nat}{w w':World}(h:Off b w w')(hb:B<=b)(hB:B<=w.heap.size):Below B w w':=⟨h.os,h.tape,h.output,h.size,fun k hk=>h.block k (by omega) (by omega)⟩
def Blk (w:World)(b:Nat)(cs:List Value)(T:TypeId):Prop:=w.heap[b]?=some (.cells cs.toArray T (0,0))
theorem Blk.lt {w:World}{b:Nat}{cs:List Value}{T:TypeId}(h:Blk w b cs T):b<w.heap.size:=by
  unfold Blk at h
  rcases Nat.lt_or_ge b w.heap.size with hl | hl
  · exact hl
  · rw [Array.getElem?_eq_none hl] at h;cases h
theorem Blk.cell {w:World}{b:Nat}{cs:List Value}{T:TypeId}(h:Blk w b cs T)(i:Nat):w.cell? ⟨b,i,none⟩=cs[i]?:=by
  unfold Blk at h;simp [World.cell?,h]
theorem Blk.frozen {w:World}{b:Nat}{cs:List Value}{T:TypeId}(h:Blk w b cs T)(i:Nat):w.frozen? ⟨b,i,none⟩=false:=by
  unfold Blk at h;simp [World.frozen?,h]
theorem Blk.set {w:World}{b:Nat}{cs:List Value}{T:TypeId}(h:Blk w b cs T)(i:Nat)(u:Value):Blk (w.setCell ⟨b,i,none⟩ u) b (cs.set i u) T:=by
  unfold Blk at *
  simp only [World.setCell,Array.getElem?_modify,if_true,h,Option.map_some]
  simp
theorem Blk.off {w w':World}{b c:Nat}{cs:List Value}{T:TypeId}(h:Blk w b cs T)(k:Off c w w')(hne:b≠c):Blk w' b cs T:=(k.block b h.lt hne).trans h
theorem Blk.below {w w':World}{b:Nat}{cs:List Value}{T:TypeId}(h:Blk w b cs T)(k:Below w.heap.size w w'):Blk w' b cs T:=(k.block b h.lt).trans h
theorem Blk.alloc {w:World}{b:Nat}{cs:List Value}{T:TypeId}(h:Blk w b cs T)(o:Obj):Blk (w.alloc o) b cs T:=(Below.heap_alloc _ _ _ h.lt).trans h
theorem Blk.drew {w:World}{b:Nat}{cs:List Value}{T:TypeId}(h:Blk w b cs T):Blk w.drew b cs T:=h
theorem Blk.drewN {w:World}{b:Nat}{cs:List Value}{T:TypeId}(h:Blk w b cs T)(n:Nat):Blk (w.drewN n) b cs T:=h
theorem Blk.setOther {w:World}{b:Nat}{cs:List Value}{T:TypeId}(h:Blk w b cs T){p:Addr}(hp:b≠p.block)(u:Value):Blk (w.setCell p u) b cs T:=(Below.heap_setCell _ _ _ _ hp).trans h
theorem Blk.grown {w w':World}{b:Nat}{cs:List Value}{T:TypeId}{row:Option Nat}(h:Blk w b cs T)(hg:w.grownBy w' row)(hne:some b≠row):Blk w' b cs T:=(hg.block b h.lt hne).trans h
theorem Blk.new (w:World)(cs:List Value)(T:TypeId):Blk (w.alloc (.cells cs.toArray T)) w.heap.size cs T:=by
  unfold Blk World.alloc;simp
end Go.Proofs.YtpoibdhhcbelnaaGreatDoor
