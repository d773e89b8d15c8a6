import Derived.WalkSpells
import Derived.WalkLawsBesides
set_option linter.all false
namespace Go.Proofs.YtebnghmioamheaaGreatDoor
open Go.RowKit
variable {b:Nat}{w w' a:World}{p:Addr}{T:TypeId}
abbrev Vi (x:Int):Value:=.int .i64 x
abbrev Vz:Value:=.slice none 0 0
abbrev aD (b i:Nat):Addr:=⟨b,i,none⟩
abbrev Vp (b:Nat):Value:=.pointer (some (aD b 0))
abbrev Vs (b n c:Nat):Value:=.slice (some (aD b 0)) n c
abbrev Vf (n:Nat)(c:Array Value):Value:=.func (.func n) #[] c
abbrev Bw (w v:World):Prop:=Below w.heap.size w v
abbrev LQ:=List (Int×Int)
abbrev LZ:=List Int
abbrev LV:=List Value
abbrev OA:=Option Addr
abbrev NP:=Nat->Prop
abbrev Zo:Obj:=.cells #[Vi 0,Vz,Vz,Vi 0,Vi 0,Vi 0] 27
abbrev Zq:LV:=[Vi 0,Vz,Vz,Vi 0,Vi 0,Vi 0]
structure Off (b:Nat)(w w':World):Prop where
 os:w'.os=w.os
 tape:w'.tape=w.tape
 output:w'.output=w.output
 size:w.heap.size<=w'.heap.size
 block:∀k,k<w.heap.size->k≠b->w'.heap[k]?=w.heap[k]?
theorem Off.refl (b:Nat)(w:World):Off b w w:=⟨rfl,rfl,rfl,Nat.le_refl _,λ_ _ _=>rfl⟩
theorem Off.trans {b:Nat}{w1 w2 w3:World}(h:Off b w1 w2)(k:Off b w2 w3):Off b w1 w3 :=
 ⟨k.os.trans h.os,k.tape.trans h.tape,k.output.trans h.output,Nat.le_trans h.size k.size,λi c a=>(k.block i (Nat.lt_of_lt_of_le c h.size) a).trans (h.block i c a)⟩
theorem Off.below (h:Bw w w'):Off b w w':=⟨h.os,h.tape,h.output,h.size,λk a _=>h.block k a⟩
theorem Off.drew {b:Nat}{a w:World}(h:Off b a w):Off b a w.drew:=⟨h.os,h.tape,h.output,h.size,h.block⟩
theorem Off.drewN {b:Nat}{a w:World}(h:Off b a w)(n:Nat):Off b a (w.drewN n):=⟨h.os,h.tape,h.output,h.size,h.block⟩
theorem Off.alloc {b:Nat}{a w:World}(h:Off b a w)(o:Obj):Off b a (w.alloc o):=h.trans ⟨rfl,rfl,rfl,by simp,λk c _=>Below.heap_alloc _ _ _ c⟩
theorem Off.setCell {b:Nat}{a w:World}(h:Off b a w)(o:Nat)(u:Value):Off b a (w.setCell (aD b o) u):=h.trans ⟨rfl,rfl,rfl,by simp[World.setCell],λk _ c=>Below.heap_setCell _ _ _ _ c⟩
theorem Off.setNew (h:Off b a w)(hp:a.heap.size<=p.block)(u:Value):Off b a (w.setCell p u) :=
 ⟨h.os,h.tape,h.output,by have:=h.size;simpa [World.setCell]using this,λk d c=>(Below.heap_setCell _ _ _ _ (by omega)).trans (h.block k d c)⟩
theorem Off.grown {row:Option Nat}(h:Off b a w)(hg:w.grownBy w' row)(hr:∀k,row=some k->a.heap.size<=k):Off b a w' :=
 ⟨hg.os.trans h.os,hg.tape.trans h.tape,hg.output.trans h.output,Nat.le_trans h.size hg.size,λk d c=>(hg.block k (Nat.lt_of_lt_of_le d h.size) (λe=>by have:=hr k e.symm;omega)).trans (h.block k d c)⟩
theorem Off.cell {b:Nat}{w w':World}(h:Off b w w'){p:Addr}(hp:p.block<w.heap.size)(hne:p.block≠b):w'.cell? p=w.cell? p:=World.cell?_of_block (w:=w) (h.block p.block hp hne)
theorem Off.toBelow {B:Nat}(h:Off b w w')(hb:B<=b)(hB:B<=w.heap.size):Below B w w':=⟨h.os,h.tape,h.output,h.size,λk a=>h.block k (by omega) (by omega)⟩
def ag (w:World)(b:Nat)(cs:List Value)(T:TypeId):Prop:=w.heap[b]?=some (.cells cs.toArray T (0,0))
theorem ag.lt {cs:LV}(h:ag w b cs T):b<w.heap.size:=by
 unfold ag at h;rcases Nat.lt_or_ge b w.heap.size with a|a
 ·exact a
 ·rw[Array.getElem?_eq_none a]at h;cases h
theorem ag.cell {w:World}{b:Nat}{cs:LV}{T:TypeId}(h:ag w b cs T)(i:Nat):w.cell? (aD b i)=cs[i]?:=by
 unfold ag at h;simp[World.cell?,h]
theorem ag.frozen {w:World}{b:Nat}{cs:LV}{T:TypeId}(h:ag w b cs T)(i:Nat):w.frozen? (aD b i)=false:=by
 unfold ag at h;simp[World.frozen?,h]
theorem ag.set {w:World}{b:Nat}{cs:LV}{T:TypeId}(h:ag w b cs T)(i:Nat)(u:Value):ag (w.setCell (aD b i) u) b (cs.set i u) T:=by
 unfold ag at *;simp only[World.setCell,Array.getElem?_modify,if_true,h,Option.map_some];simp
theorem ag.off {c:Nat}{cs:LV}(h:ag w b cs T)(k:Off c w w')(hne:b≠c):ag w' b cs T:=(k.block b h.lt hne).trans h
theorem ag.below {cs:LV}(h:ag w b cs T)(k:Bw w w'):ag w' b cs T:=(k.block b h.lt).trans h
theorem ag.alloc {w:World}{b:Nat}{cs:LV}{T:TypeId}(h:ag w b cs T)(o:Obj):ag (w.alloc o) b cs T:=(Below.heap_alloc _ _ _ h.lt).trans h
theorem ag.drew {w:World}{b:Nat}{cs:LV}{T:TypeId}(h:ag w b cs T):ag w.drew b cs T:=h
theorem ag.drewN {w:World}{b:Nat}{cs:LV}{T:TypeId}(h:ag w b cs T)(n:Nat):ag (w.drewN n) b cs T:=h
theorem ag.setOther {cs:LV}(h:ag w b cs T)(hp:b≠p.block)(u:Value):ag (w.setCell p u) b cs T:=(Below.heap_setCell _ _ _ _ hp).trans h
theorem ag.grown {cs:LV}{row:Option Nat}(h:ag w b cs T)(hg:w.grownBy w' row)(hne:some b≠row):ag w' b cs T:=(hg.block b h.lt hne).trans h
theorem ag.new (w:World)(cs:LV)(T:TypeId):ag (w.alloc (.cells cs.toArray T)) w.heap.size cs T:=by
 unfold ag World.alloc;simp
def af (s:ByteArray):List UInt8:=s.data.toList
theorem aL (s:ByteArray):(af s).length=s.size:=by simp[af]
theorem cy (a b:ByteArray):af (a++b)=af a++af b:=by unfold af;simp
