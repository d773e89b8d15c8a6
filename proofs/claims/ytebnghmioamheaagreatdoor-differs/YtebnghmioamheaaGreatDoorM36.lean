import Derived.Test.YtebnghmioamheaaGreatDoorM35
import Derived.Test.YtebnghmioamheaaGreatDoorM32
set_option linter.all false
namespace Go.Proofs.YtebnghmioamheaaGreatDoor
open Go.Shelf Go.RowKit Tryz
variable {w:World}{b k:Nat}
abbrev ZL:Value:=.agg #[Vi 3,Vi 3]
def putO (w:World)(b:Nat)(o:Obj):World:={ w with heap:=w.heap.setIfInBounds b o }
theorem sQ (o:Obj)(h:b<w.heap.size):(putO w b o).heap[b]?=some o:=by
 show (w.heap.setIfInBounds b o)[b]?=some o
 rw[Array.getElem?_setIfInBounds];simp[h]
theorem Lr (o:Obj)(h:k≠b):(putO w b o).heap[k]?=w.heap[k]?:=by
 show (w.heap.setIfInBounds b o)[k]?=w.heap[k]?
 rw[Array.getElem?_setIfInBounds,zR (Ne.symm h)]
theorem Off.putO {b:Nat}{a w:World}(h:Off b a w)(o:Obj):Off b a (putO w b o) :=
 ⟨h.os,h.tape,h.output,by show _<=(w.heap.setIfInBounds b o).size;rw[Array.size_setIfInBounds];exact h.size,λk d c=>(Lr o c).trans (h.block k d c)⟩
open Go.Lib
abbrev kV (p:Int×Int):Value:=.agg #[Vi p.1,Vi p.2]
theorem Ld (e:Bool)(p:Int×Int)(w:World):(Instr.checkKey e 10000 114 (kV p)).run prog w=.ok () w:=by
 cases e<;>kernel_rfl
theorem EA:prog.underlying 114=some (.array 2 3):=by kernel_rfl
theorem Xo (p:Int×Int)(w:World):(Instr.keyThatStays (kV p) (kV p)).run prog w=.ok (kV p) w:=by
 simp[Instr.keyThatStays,kV,Instr.sameBits]
theorem Le (d:Nat)(a b:Int)(w:World):(Op.equalIn (d+1) 3 (Vi a) (Vi b)).run prog w=.ok (a==b) w:=by
 simp[Op.equalIn,yp underlying3]
theorem Vk:prog.cellsOf 3=1:=by kernel_rfl
theorem EB (x y:Int)(w:World):(part 3 #[Vi x,Vi y] 0).run prog w=.ok (Vi x) w:=by kernel_rfl
theorem Oh (x y:Int)(w:World):(part 3 #[Vi x,Vi y] 1).run prog w=.ok (Vi y) w:=by kernel_rfl
theorem YW (D:Nat)(p q:Int×Int)(w:World):(Op.equalIn (D+1+1) 114 (kV p) (kV q)).run prog w=.ok (decide (p=q)) w:=by
 obtain⟨i,h,k,j,g⟩:=zz jo;rw[run_equalIn_array w (D+1) _ _ EA h,Vk];obtain⟨a,b⟩:=p;obtain⟨c,d⟩:=q;by_cases e:a=c
 ·by_cases f:b=d
  ·simp[List.range,List.range.loop,Op.eqItems,EB,Oh,Le,e,f,Result.andThen]
  ·simp[List.range,List.range.loop,Op.eqItems,EB,Oh,Le,e,f,Result.andThen]
 ·simp[List.range,List.range.loop,Op.eqItems,EB,Le,e,Result.andThen]
theorem Zr (p q:Int×Int)(w:World):(Op.equal 114 (kV p) (kV q)).run prog w=.ok (decide (p=q)) w:=YW 9998 p q w
abbrev SE:=(Int×Int)×Int×Nat
def sE (t:SE):MapEntry:=⟨kV t.1,Vi t.2.1,t.2.2⟩
def mE:List SE->Int×Int->Nat->Option (Nat×Value)
 | [],_,_=>none
 |t::L,p,i=>if p=t.1 then some (i,Vi t.2.1)else mE L p (i+1)
def du:List SE->Int×Int->Int
 | [],_=>0
 |t::L,p=>if p=t.1 then t.2.1 else du L p
theorem Je:∀(L:List SE) (p:Int×Int) (i:Nat) (w:World),(Instr.findAsking 114 (kV p) (L.map sE) i).run prog w=.ok (mE L p i) w
 | [],p,i,w=>rfl
 |t::L,p,i,w=>by
  have a:=Je L p (i+1) w;simp only[zp,Instr.findAsking,sE];simp only[Sem.run_bind,Zr,Result.andThen_ok];by_cases h:p=t.1
  ·simp[h,mE]
  ·simp only[h,decide_false,yR,if_false,mE];exact a
theorem EC (L:List SE)(p:Int×Int)(w:World):(Instr.findKey 114 (kV p) (L.map sE)).run prog w=.ok (mE L p 0) w:=by
 cases L with
 |nil=>simp[Instr.findKey,yp EA,Instr.findNow,mE]
 |cons t L=>
  have:=Je (t::L) p 0 w;simp only[Instr.findKey,Sem.run_bind,yp EA,Result.andThen_ok,zp,Instr.findNow,Instr.sameNow];exact this
structure SeenW (w:World)(b:Nat)(L:List SE)(k:Nat):Prop where
 obj:w.heap[b]?=some (.map (L.map sE).toArray k)
 born:∀t∈L,t.2.2<k
 one:(L.map (·.2.2)).Pairwise (·≠·)
 keys:(L.map (·.1)).Pairwise (·≠·)
theorem Bf:∀(L:List SE) (p:Int×Int) (i:Nat),(mE L p i=none->du L p=0)/\(∀j v,mE L p i=some (j,v)->v=Vi (du L p)/\i<=j/\∃t,L[j-i]?=some t/\t.1=p/\t.2.1=du L p)
 | [],p,i=>⟨λ_=>rfl,λj v h=>by cases h⟩
 |t::L,p,i=>by
  obtain⟨c,f⟩:=Bf L p (i+1);by_cases h:p=t.1
  ·refine⟨λa=>by simp[mE,h]at a,λj v a=>?_⟩;simp only[mE,zX h]at a;injection a with a;injection a with e1 e2;subst e1 e2;exact⟨by simp[du,h],zA _,t,by simp,h.symm,by simp[du,h]⟩
  ·simp only[mE,du,zR h];refine⟨c,λj v a=>?_⟩;obtain⟨e,g,u,d,b⟩:=f j v a;refine⟨e,by omega,u,?_,b⟩;rw[show j-i=(j-(i+1))+1 by omega];simpa using d
theorem Oi:∀(L:List SE) (p:Int×Int) (i:Nat),mE L p i=none->∀t∈L,t.1≠p
 | [],p,i,_,t,a=>by simp at a
 |u::L,p,i,h,t,a=>by
  by_cases e:p=u.1
  ·simp[mE,e]at h
  ·simp only[mE,zR e]at h;rcases zO.1 a with rfl|a
   ·exact λb=>e b.symm
   ·exact Oi L p (i+1) h t a
theorem SeenW.look {L:List SE}(h:SeenW w b L k)(p:Int×Int):(Instr.lookup 101 (.map (some b)) (kV p) false).run prog w=.ok (Vi (du L p)) w:=by
 have a:=EC L p w;obtain⟨c,d⟩:=Bf L p 0;cases hc:mE L p 0 with
 |none=>
  rw[hc]at a;simp[Instr.lookup,yp underlying101,MapKept.run_getObj_map h.obj,Ld,a,zeroValue3,Result.andThen,c hc]
 |some x=>
  obtain⟨j,v⟩:=x;obtain⟨rfl,_⟩:=d j v hc;rw[hc]at a;simp[Instr.lookup,yp underlying101,MapKept.run_getObj_map h.obj,Ld,a,Result.andThen]
structure SeenP (w:World)(b:Nat)(L:List SE)(k:Nat)(p:Int×Int)(st:Nat):Prop where
 map:SeenW w b L k
 at_:∃v,(p,v,st)∈L
theorem Ry (L:List SE)(p q:Int×Int)(n:Nat):du (L++[(p,0,n)]) q=du L q:=by
 induction L with
 |nil=>simp[du]
 |cons t L ih=>simp only[zV,du,ih]
theorem SeenW.entry {L:List SE}(h:SeenW w b L k)(p:Int×Int):∃(L':List SE) (k' st:Nat),(Instr.mapEntry 101 (.map (some b)) (kV p)).run prog w=.ok (.tuple #[Vi (du L p),goInt (st:Int)]) (putO w b (.map (L'.map sE).toArray k'))/\SeenP (putO w b (.map (L'.map sE).toArray k')) b L' k' p st/\∀q,du L' q=du L q:=by
 have g:=EC L p w;have u:b<w.heap.size:=(yl.1 h.obj).1;obtain⟨A,C⟩:=Bf L p 0;cases hc:mE L p 0 with
 |none=>
  rw[hc]at g;refine⟨L++[(p,0,k)],k+1,k,?_,⟨⟨sQ _ u,λt a=>?_,?_,?_⟩,0,by simp⟩,λq=>Ry L p q k⟩
  ·simp[Instr.mapEntry,yp underlying101,MapKept.run_getObj_map h.obj,Ld,g,zeroValue3,MapKept.run_setObj_map _ h.obj,putO,Result.andThen,A hc,sE]
  ·rcases zM.1 a with a|a
   ·have:=h.born t a;omega
   ·simp at a;subst a;show k<k+1;omega
  ·rw[xH,yA];refine⟨h.one,by simp,λx r y m=>?_⟩;obtain⟨t,a,rfl⟩:=yH.1 r;simp at m;have:=h.born t a;omega
  ·rw[xH,yA];refine⟨h.keys,by simp,λx r y m=>?_⟩;obtain⟨t,a,rfl⟩:=yH.1 r;simp at m;rw[m];exact Oi L p 0 hc t a
 |some x=>
  obtain⟨j,v⟩:=x;obtain⟨rfl,_,t,l,s,B⟩:=C j v hc;rw[Nat.sub_zero]at l;have D:j<L.length:=(zC.1 l).1;obtain⟨n,d,z⟩:=t;simp only at s B;subst s;rw[hc]at g;have o:=Xo n w;have c:(L.map sE).toArray[j]?=some (sE (n,d,z)):=by simp[l]
  have f:((L.map sE).toArray.modify j λe=>{ e with key:=kV n })=(L.map sE).toArray:=by
   apply Array.ext_getElem?;intro i;rw[Array.getElem?_modify];by_cases e:j=i
   ·subst e;rw[zX rfl,c];rfl
   ·rw[zR e]
  refine⟨L,k,z,?_,⟨⟨sQ _ u,h.born,h.one,h.keys⟩,d,zU l⟩,λq=>rfl⟩;simp only[Instr.mapEntry,Sem.run_bind,yp underlying101,Result.andThen_ok,MapKept.run_getObj_map h.obj,Ld,g,c,yw,Option.getD_some];simp[sE,o,f,MapKept.run_setObj_map _ h.obj,putO,Result.andThen]
def iO (L:List SE)(st:Nat)(v:Int):List SE:=L.map λt=>if t.2.2=st then (t.1,v,t.2.2)else t
theorem Ck (L:List SE)(st:Nat)(v:Int):(iO L st v).map (·.2.2)=L.map (·.2.2):=by
 unfold iO;rw[List.map_map];apply List.map_congr_left;intro t _;simp only[Function.comp]
 split<;>rfl
theorem Oj (L:List SE)(st:Nat)(v:Int):(iO L st v).map (·.1)=L.map (·.1):=by
 unfold iO;rw[List.map_map];apply List.map_congr_left;intro t _;simp only[Function.comp]
 split<;>rfl
theorem ED:∀(L:List SE) (p:Int×Int) (x:Int) (st:Nat) (v:Int),(L.map (·.2.2)).Pairwise (·≠·)->(p,x,st)∈L->(∀t∈L,t.1=p->t.2.2=st)->∀q,du (iO L st v) q=if q=p then v else du L q
 | [],p,x,st,v,_,h,_,_=>by simp at h
 |t::L,p,x,st,v,hn,h,hu,q=>by
  rw[zp,yg]at hn;obtain⟨c,g,b⟩:=t;by_cases e:b=st
  ·subst e;have k:c=p:=by
    rcases zO.1 h with e|e
    ·injection e with e1 e2;exact e1.symm
    ·exact absurd rfl (hn.1 b (yH.2 ⟨_,e,rfl⟩))
   subst k;have d:iO L b v=L:=by
    unfold iO
    conv=>rhs;rw[<-List.map_id L]
    apply List.map_congr_left;intro u j;have:=hn.1 u.2.2 (yH.2 ⟨u,j,rfl⟩);rw[zR (λe=>this e.symm)];rfl
   have i:iO ((c,g,b)::L) b v=(c,v,b)::iO L b v:=by simp[iO]
   rw[i,d];simp only[du];by_cases a:q=c
   ·rw[zX a,zX a]
   ·rw[zR a,zR a,zR a]
  ·have m:(p,x,st)∈L:=by
    rcases zO.1 h with f|f
    ·injection f with e1 e2;injection e2 with e2 e3;exact absurd e3.symm e
    ·exact f
   have l:c≠p:=λf=>e (hu (c,g,b) (by simp) f);have i:iO ((c,g,b)::L) st v=(c,g,b)::iO L st v:=by simp[iO,e]
   rw[i];simp only[du];rw[ED L p x st v hn.2 m (λt k=>hu t (by simp[k])) q];by_cases a:q=c
   ·rw[zX a,zX a,zR (λf=>l (a.symm.trans f))]
   ·rw[zR a,zR a]
theorem Cm:∀(L:List SE) (st:Nat),(∃p v,(p,v,st)∈L)->∃i t,(L.map sE).toArray.findIdx? (λe=>(e.born:Int)==(st:Int))=some i/\L[i]?=some t/\t.2.2=st
 | [],st,h=>by obtain⟨p,v,h⟩:=h;simp at h
 |t::L,st,h=>by
  rw[List.findIdx?_toArray,zp,List.findIdx?_cons];by_cases e:t.2.2=st
  ·exact⟨0,t,by simp[sE,e],rfl,e⟩
  ·have j:((((sE t).born:Nat):Int)==(st:Int))=false:=by
    rw[zD];intro k;exact e (by
          have:(sE t).born=st:=by omega
          exact this)
   rw[j];obtain⟨p,v,g⟩:=h;have a:(p,v,st)∈L:=by
    rcases zO.1 g with b|b
    ·exact absurd (by rw[<-b]) e
    ·exact b
   obtain⟨i,u,c,f,d⟩:=Cm L st ⟨p,v,a⟩;rw[List.findIdx?_toArray]at c;exact⟨i+1,u,by simp[c],by simpa using f,d⟩
theorem SeenP.store {st:Nat}{L:List SE}{p:Int×Int}(h:SeenP w b L k p st)(v:Int):∃L',(Instr.entryStore 101 (.map (some b)) (goInt (st:Int)) (Vi v)).run prog w=.ok () (putO w b (.map (L'.map sE).toArray k))/\SeenW (putO w b (.map (L'.map sE).toArray k)) b L' k/\∀q,du L' q=if q=p then v else du L q:=by
 obtain⟨x,y⟩:=h.at_;have O:b<w.heap.size:=(yl.1 h.map.obj).1;obtain⟨i,t,K,s,D⟩:=Cm L st ⟨p,x,y⟩;have J:∀t∈L,t.1=p->t.2.2=st:=λt N e=>by
  obtain⟨a,z,E⟩:=List.getElem_of_mem N;obtain⟨n,d,A⟩:=List.getElem_of_mem y;have l:=yX.1 h.map.keys;have F:(L.map (·.1))[a]'(by simpa using z)=p:=by simp[E,e]
  have G:(L.map (·.1))[n]'(by simpa using d)=p:=by simp[A]
  by_cases g:a=n
  ·subst g;rw[E]at A;rw[A]
  ·rcases Nat.lt_or_gt_of_ne g with c|c
   ·exact absurd (F.trans G.symm) (l a n (by simpa using z) (by simpa using d) c)
   ·exact absurd (G.trans F.symm) (l n a (by simpa using d) (by simpa using z) c)
 have m:((L.map sE).toArray.modify i λe=>{ e with val:=Vi v })=((iO L st v).map sE).toArray:=by
  apply Array.ext_getElem?;intro j;rw[Array.getElem?_modify];simp only[List.getElem?_toArray,iO,List.map_map,zg];by_cases e:i=j
  ·subst e;rw[zX rfl,s];simp[sE,D]
  ·rw[zR e];cases hj:L[j]? with
   |none=>rfl
   |some u=>
    have o:u.2.2≠st:=λP=>by
     have C:=(zC.1 s).1;have f:=(zC.1 hj).1;have H:(L.map (·.2.2))[i]?=some st:=by rw[zg,s];simp[D]
     have I:(L.map (·.2.2))[j]?=some st:=by rw[zg,hj];simp[P]
     have l:=yX.1 h.map.one;rcases Nat.lt_or_gt_of_ne e with c|c
     ·exact l i j (by simpa using C) (by simpa using f) c (by rw[(zC.1 H).2,(zC.1 I).2])
     ·exact l j i (by simpa using f) (by simpa using C) c (by rw[(zC.1 H).2,(zC.1 I).2])
    simp[o]
 refine⟨iO L st v,?_,⟨sQ _ O,λu r=>?_,by rw[Ck];exact h.map.one,by rw[Oj];exact h.map.keys⟩,ED L p x st v h.map.one y J⟩
 ·simp[Instr.entryStore,MapKept.run_getObj_map h.map.obj,asInt,asIntOf,goInt,K,m,MapKept.run_setObj_map _ h.map.obj,putO,Result.andThen]
 ·have:u.2.2∈(iO L st v).map (·.2.2):=yH.2 ⟨u,r,rfl⟩;rw[Ck]at this;obtain⟨M,B,e⟩:=yH.1 this;rw[<-e];exact h.map.born M B
