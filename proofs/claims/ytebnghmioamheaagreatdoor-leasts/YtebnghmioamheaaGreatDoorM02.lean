import Derived.Deep.RegionHeld3
import Derived.Test.YtebnghmioamheaaGreatDoorM00
set_option linter.all false
namespace Go.Proofs.YtebnghmioamheaaGreatDoor
open Go.RowKit
variable {w:World}{b o:Nat}{x0 x1 x2 x3 x4 x5:Value}{T:TypeId}
theorem tS:(∀(a:Act) (d:Nat) (v:Value),a.put d v={ a with tmps:=a.tmps.setIfInBounds d v })/\(∀{α:Type} (l:List α) (i:Nat) (a:α),l.toArray.setIfInBounds i a=(l.set i a).toArray)/\(∀{α:Type} (x y:α) (l:List α),(x::l).set 0 y=y::l)/\(∀{α:Type} (x y:α) (l:List α) (i:Nat),(x::l).set (i+1) y=x::l.set i y)/\(∀{α:Type} (l:List α) (i:Nat) (h:i<l.toArray.size),l.toArray[i]=l[i]'(by simpa using h))/\(∀{α:Type} (x:α) (l:List α) (h:0<(x::l).length),(x::l)[0]=x)/\(∀{α:Type} (x:α) (l:List α) (i:Nat) (h:i+1<(x::l).length),(x::l)[i+1]=l[i]'(Nat.lt_of_succ_lt_succ h)) :=
 ⟨λ_ _ _=>rfl,λ_ _ _=>List.setIfInBounds_toArray _ _ _,λ_ _ _=>rfl,λ_ _ _ _=>rfl,λ_ _ _=>rfl,λ_ _ _=>rfl,λ_ _ _ _=>rfl⟩
section
variable {P:Program} {md:Region.Mode} {ops:Array Oper} {Q:Exit->Act->World->Prop} {S:World->Prop} {fuel:Nat} {listed:Array Bool} {a:Act} {w:World} {o o':Oper} {v:Value}
theorem tk (i:Nat)(h:wpAnyH P md ops Q S fuel (listed.setIfInBounds i true) (a.put o.dst v) w)(hi:ops[i]?=some o:=by rfl)(hs:Region.noSelect ops=true:=by kernel_rfl)(hf:Region.free md ops listed i=true:=by kernel_rfl)(hr:(Region.ready md ops listed).contains i=true:=by kernel_rfl)(hQ:∀c a w,Q (.panic c) (a.put o.dst v) w->Q (.panic c) a w:=by intros;assumption)(hw:Region.wanted o (yielded ops a.tmps)=true:=by rfl)(hy:∀w,S w->(execOp a.eval o).run P w=.ok (.value v) w:=by intros;go_simp;try with_reducible rfl)(hS:S w:=by assumption):wpAnyH P md ops Q S (fuel+1) listed a w :=
 wpAnyH_take hi hs hf hr hQ (.inl ⟨hw,hy⟩) hS h
theorem CG (i:Nat)(h:wpAnyH P md ops Q S fuel (listed.setIfInBounds i true) (a.put o.dst undef) w)(hi:ops[i]?=some o:=by rfl)(hs:Region.noSelect ops=true:=by kernel_rfl)(hf:Region.free md ops listed i=true:=by kernel_rfl)(hr:(Region.ready md ops listed).contains i=true:=by kernel_rfl)(hQ:∀c a w,Q (.panic c) (a.put o.dst undef) w->Q (.panic c) a w:=by intros;assumption)(hw:Region.wanted o (yielded ops a.tmps)=false:=by rfl)(hS:S w:=by assumption):wpAnyH P md ops Q S (fuel+1) listed a w :=
 wpAnyH_take hi hs hf hr hQ (.inr ⟨hw,rfl⟩) hS h
theorem di (i:Nat)(h:∀K':Act->World->Prop,Shut (∀a w,S w->(S w->wpAnyH P md ops Q S fuel (listed.setIfInBounds i true) a w)->K' a w)->if Region.wanted o (yielded ops a.tmps)=true then Oper.wp P o a w K' Q else K' (a.put o.dst undef) w)(hr:Region.ready md ops listed=[i]:=by kernel_rfl)(ho:ops[i]?=some o:=by rfl):wpAnyH P md ops Q S (fuel+1) listed a w :=
 wpAnyH_ready hr (by simp) (AllReadyH.cons ho h AllReadyH.nil)
end
section
variable {w:World} {N:Nat} (hS:w.heap.size=N) (c1:List Value) (t1:TypeId) (c2:List Value) (t2:TypeId) (c3:List Value) (t3:TypeId) (c4:List Value) (t4:TypeId)
include hS
theorem dS:∃W,w.alloc (.cells c1.toArray t1)=W/\Bw w W/\ag W N c1 t1/\W.heap.size=N+1:=by
 subst hS;exact⟨_,rfl,(Below.refl _ _).alloc (Nat.le_refl _) _,ag.new w c1 t1,by simp⟩
theorem jK:∃W,(w.alloc (.cells c1.toArray t1)).alloc (.cells c2.toArray t2)=W/\Bw w W/\ag W N c1 t1/\ag W (N+1) c2 t2/\W.heap.size=N+2:=by
 obtain⟨V,e,c,h,f⟩:=dS hS c1 t1;obtain⟨W,g,a,d,b⟩:=dS f c2 t2;exact⟨W,by rw[e,g],c.trans (a.mono (by omega)),h.below a,d,b⟩
theorem rY:∃W,((w.alloc (.cells c1.toArray t1)).alloc (.cells c2.toArray t2)).alloc (.cells c3.toArray t3)=W/\Bw w W/\ag W N c1 t1/\ag W (N+1) c2 t2/\ag W (N+2) c3 t3/\W.heap.size=N+3:=by
 obtain⟨V,e,c,i,f,g⟩:=jK hS c1 t1 c2 t2;obtain⟨W,h,a,d,b⟩:=dS g c3 t3;exact⟨W,by rw[e,h],c.trans (a.mono (by omega)),i.below a,f.below a,d,b⟩
theorem Zx:∃W,(((w.alloc (.cells c1.toArray t1)).alloc (.cells c2.toArray t2)).alloc (.cells c3.toArray t3)).alloc (.cells c4.toArray t4)=W/\Bw w W/\ag W N c1 t1/\ag W (N+1) c2 t2/\ag W (N+2) c3 t3/\ag W (N+3) c4 t4/\W.heap.size=N+4:=by
 obtain⟨V,e,c,j,g,d,h⟩:=rY hS c1 t1 c2 t2 c3 t3;obtain⟨W,i,a,f,b⟩:=dS h c4 t4;exact⟨W,by rw[e,i],c.trans (a.mono (by omega)),j.below a,g.below a,d.below a,f,b⟩
end
theorem ag.six (h:ag w b [x0,x1,x2,x3,x4,x5] T):w.cell? (aD b 0)=some x0/\w.cell? (aD b 1)=some x1/\w.cell? (aD b 2)=some x2/\w.cell? (aD b 3)=some x3/\w.cell? (aD b 4)=some x4/\w.cell? (aD b 5)=some x5 :=
 ⟨h.cell 0,h.cell 1,h.cell 2,h.cell 3,h.cell 4,h.cell 5⟩
theorem ag.ice {cs:LV}(h:ag w b cs T):w.frozen? (aD b 0)=false/\w.frozen? (aD b 1)=false/\w.frozen? (aD b 2)=false/\w.frozen? (aD b 3)=false/\w.frozen? (aD b 4)=false/\w.frozen? (aD b 5)=false/\b<w.heap.size :=
 ⟨h.frozen 0,h.frozen 1,h.frozen 2,h.frozen 3,h.frozen 4,h.frozen 5,h.lt⟩
theorem fg {W:World}{S:Nat}{p:Addr}(h:S≠p.block)(a b c d e f:Value):((((((W.setCell (aD S 0) a).setCell (aD S 1) b).setCell (aD S 2) c).setCell (aD S 3) d).setCell (aD S 4) e).setCell (aD S 5) f).cell? p=W.cell? p:=by
 rw[World.cell?_setCell_far _ _ _ _ h,World.cell?_setCell_far _ _ _ _ h,World.cell?_setCell_far _ _ _ _ h,World.cell?_setCell_far _ _ _ _ h,World.cell?_setCell_far _ _ _ _ h,World.cell?_setCell_far _ _ _ _ h]
theorem JJ (h:∀j v,[x0,x1,x2,x3,x4,x5][j]?=some v->w.cell? ⟨b,o+j,none⟩=some v):w.cell? (aD b o)=some x0/\w.cell? ⟨b,o+1,none⟩=some x1/\w.cell? ⟨b,o+2,none⟩=some x2/\w.cell? ⟨b,o+3,none⟩=some x3/\w.cell? ⟨b,o+4,none⟩=some x4/\w.cell? ⟨b,o+5,none⟩=some x5 :=
 ⟨h 0 _ rfl,h 1 _ rfl,h 2 _ rfl,h 3 _ rfl,h 4 _ rfl,h 5 _ rfl⟩
theorem oT {w':World}{N:Nat}(hB:Below N w w')(hb:b<N)(h:∀j v,[x0,x1,x2,x3,x4,x5][j]?=some v->w.cell? ⟨b,o+j,none⟩=some v):w'.cell? (aD b o)=some x0/\w'.cell? ⟨b,o+1,none⟩=some x1/\w'.cell? ⟨b,o+2,none⟩=some x2/\w'.cell? ⟨b,o+3,none⟩=some x3/\w'.cell? ⟨b,o+4,none⟩=some x4/\w'.cell? ⟨b,o+5,none⟩=some x5 :=
 JJ λj v e=>(hB.cell (p:=⟨b,o+j,none⟩) hb).trans (h j v e)
theorem ag.c13 {x6 x7 x8 x9 x10 x11 x12:Value}(h:ag w b [x0,x1,x2,x3,x4,x5,x6,x7,x8,x9,x10,x11,x12] T):w.cell? (aD b 0)=some x0/\w.cell? (aD b 1)=some x1/\w.cell? (aD b 2)=some x2/\w.cell? (aD b 3)=some x3/\w.cell? (aD b 4)=some x4/\w.cell? (aD b 5)=some x5/\w.cell? (aD b 6)=some x6/\w.cell? (aD b 7)=some x7/\w.cell? (aD b 8)=some x8/\w.cell? (aD b 9)=some x9/\w.cell? (aD b 10)=some x10/\w.cell? (aD b 11)=some x11/\w.cell? (aD b 12)=some x12 :=
 ⟨h.cell 0,h.cell 1,h.cell 2,h.cell 3,h.cell 4,h.cell 5,h.cell 6,h.cell 7,h.cell 8,h.cell 9,h.cell 10,h.cell 11,h.cell 12⟩
theorem ag.f13 {cs:LV}(h:ag w b cs T):w.frozen? (aD b 0)=false/\w.frozen? (aD b 1)=false/\w.frozen? (aD b 2)=false/\w.frozen? (aD b 3)=false/\w.frozen? (aD b 4)=false/\w.frozen? (aD b 5)=false/\w.frozen? (aD b 6)=false/\w.frozen? (aD b 7)=false/\w.frozen? (aD b 8)=false/\w.frozen? (aD b 9)=false/\w.frozen? (aD b 10)=false/\w.frozen? (aD b 11)=false/\w.frozen? (aD b 12)=false/\b<w.heap.size :=
 ⟨h.frozen 0,h.frozen 1,h.frozen 2,h.frozen 3,h.frozen 4,h.frozen 5,h.frozen 6,h.frozen 7,h.frozen 8,h.frozen 9,h.frozen 10,h.frozen 11,h.frozen 12,h.lt⟩
theorem SS {w':World}{N:Nat}{x6 x7 x8 x9 x10 x11 x12:Value}(hB:Below N w w')(hb:b<N)(h:∀j v,[x0,x1,x2,x3,x4,x5,x6,x7,x8,x9,x10,x11,x12][j]?=some v->w.cell? ⟨b,o+j,none⟩=some v):w'.cell? (aD b o)=some x0/\w'.cell? ⟨b,o+1,none⟩=some x1/\w'.cell? ⟨b,o+2,none⟩=some x2/\w'.cell? ⟨b,o+3,none⟩=some x3/\w'.cell? ⟨b,o+4,none⟩=some x4/\w'.cell? ⟨b,o+5,none⟩=some x5/\w'.cell? ⟨b,o+6,none⟩=some x6/\w'.cell? ⟨b,o+7,none⟩=some x7/\w'.cell? ⟨b,o+8,none⟩=some x8/\w'.cell? ⟨b,o+9,none⟩=some x9/\w'.cell? ⟨b,o+10,none⟩=some x10/\w'.cell? ⟨b,o+11,none⟩=some x11/\w'.cell? ⟨b,o+12,none⟩=some x12 :=
 have k:=λj v e=>(hB.cell (p:=⟨b,o+j,none⟩) hb).trans (h j v e)
 ⟨k 0 _ rfl,k 1 _ rfl,k 2 _ rfl,k 3 _ rfl,k 4 _ rfl,k 5 _ rfl,k 6 _ rfl,k 7 _ rfl,k 8 _ rfl,k 9 _ rfl,k 10 _ rfl,k 11 _ rfl,k 12 _ rfl⟩
section
variable {w w':World} {N b o S:Nat} {k:Int} {so:Option Addr} {sn sc:Nat} {lo:Option Addr} {ln lc:Nat} {m n:Int} {s:ByteArray} {v0 v1 v2 v3 v4 v5:Value}
abbrev CT (w:World)(b o:Nat)(k:Int)(so:Option Addr)(sn sc:Nat)(lo:Option Addr)(ln lc:Nat)(m n:Int)(s:ByteArray):Prop :=
 w.cell? (aD b o)=some (Vi k)/\w.cell? ⟨b,o+1,none⟩=some (.slice so sn sc)/\w.cell? ⟨b,o+2,none⟩=some (.slice lo ln lc)/\w.cell? ⟨b,o+3,none⟩=some (Vi m)/\w.cell? ⟨b,o+4,none⟩=some (Vi n)/\w.cell? ⟨b,o+5,none⟩=some (.string s)
abbrev CB (w:World)(b:Nat)(k:Int)(so:Option Addr)(sn sc:Nat)(lo:Option Addr)(ln lc:Nat)(m n:Int)(s:ByteArray):Prop :=
 w.cell? (aD b 0)=some (Vi k)/\w.cell? (aD b 1)=some (.slice so sn sc)/\w.cell? (aD b 2)=some (.slice lo ln lc)/\w.cell? (aD b 3)=some (Vi m)/\w.cell? (aD b 4)=some (Vi n)/\w.cell? (aD b 5)=some (.string s)
theorem CT.below (h:Below N w w')(hb:b<N)(c:CT w b o k so sn sc lo ln lc m n s):CT w' b o k so sn sc lo ln lc m n s :=
 ⟨(h.cell (p:=⟨b,_,none⟩) hb).trans c.1,(h.cell (p:=⟨b,_,none⟩) hb).trans c.2.1,(h.cell (p:=⟨b,_,none⟩) hb).trans c.2.2.1,(h.cell (p:=⟨b,_,none⟩) hb).trans c.2.2.2.1,(h.cell (p:=⟨b,_,none⟩) hb).trans c.2.2.2.2.1,(h.cell (p:=⟨b,_,none⟩) hb).trans c.2.2.2.2.2⟩
theorem CB.below (h:Below N w w')(hb:b<N)(c:CB w b k so sn sc lo ln lc m n s):CB w' b k so sn sc lo ln lc m n s :=
 ⟨(h.cell (p:=⟨b,_,none⟩) hb).trans c.1,(h.cell (p:=⟨b,_,none⟩) hb).trans c.2.1,(h.cell (p:=⟨b,_,none⟩) hb).trans c.2.2.1,(h.cell (p:=⟨b,_,none⟩) hb).trans c.2.2.2.1,(h.cell (p:=⟨b,_,none⟩) hb).trans c.2.2.2.2.1,(h.cell (p:=⟨b,_,none⟩) hb).trans c.2.2.2.2.2⟩
theorem CT.far (h:S≠b)(c:CT w b o k so sn sc lo ln lc m n s):CT ((((((w.setCell (aD S 0) v0).setCell (aD S 1) v1).setCell (aD S 2) v2).setCell (aD S 3) v3).setCell (aD S 4) v4).setCell (aD S 5) v5) b o k so sn sc lo ln lc m n s :=
 ⟨(fg h _ _ _ _ _ _).trans c.1,(fg h _ _ _ _ _ _).trans c.2.1,(fg h _ _ _ _ _ _).trans c.2.2.1,(fg h _ _ _ _ _ _).trans c.2.2.2.1,(fg h _ _ _ _ _ _).trans c.2.2.2.2.1,(fg h _ _ _ _ _ _).trans c.2.2.2.2.2⟩
theorem CB.far (h:S≠b)(c:CB w b k so sn sc lo ln lc m n s):CB ((((((w.setCell (aD S 0) v0).setCell (aD S 1) v1).setCell (aD S 2) v2).setCell (aD S 3) v3).setCell (aD S 4) v4).setCell (aD S 5) v5) b k so sn sc lo ln lc m n s :=
 ⟨(fg h _ _ _ _ _ _).trans c.1,(fg h _ _ _ _ _ _).trans c.2.1,(fg h _ _ _ _ _ _).trans c.2.2.1,(fg h _ _ _ _ _ _).trans c.2.2.2.1,(fg h _ _ _ _ _ _).trans c.2.2.2.2.1,(fg h _ _ _ _ _ _).trans c.2.2.2.2.2⟩
theorem JK {v:Value}(h:S≠b)(c:w.cell? (aD b o)=some v):((((((w.setCell (aD S 0) v0).setCell (aD S 1) v1).setCell (aD S 2) v2).setCell (aD S 3) v3).setCell (aD S 4) v4).setCell (aD S 5) v5).cell? (aD b o)=some v:=(fg h _ _ _ _ _ _).trans c
theorem CT.snd {l:LV}(hr:∀j v,([x0,x1,x2,x3,x4,x5]++l)[j]?=some v->w.cell? ⟨b,o+j,none⟩=some v):∀j v,l[j]?=some v->w.cell? ⟨b,o+6+j,none⟩=some v:=λj v e=>by
 rw[Nat.add_assoc];exact hr (6+j) v (by rw[List.getElem?_append_right (by simp)];simpa using e)
theorem CT.fst {l:LV}(hr:∀j v,([x0,x1,x2,x3,x4,x5]++l)[j]?=some v->w.cell? ⟨b,o+j,none⟩=some v):∀j v,[x0,x1,x2,x3,x4,x5][j]?=some v->w.cell? ⟨b,o+j,none⟩=some v:=λj v e=>
 hr j v (by rw[List.getElem?_append_left (List.getElem?_eq_some_iff.1 e).1];exact e)
end
