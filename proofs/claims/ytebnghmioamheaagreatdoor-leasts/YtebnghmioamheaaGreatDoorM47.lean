import Derived.Test.YtebnghmioamheaaGreatDoorM46
set_option linter.all false
namespace Go.Proofs.YtebnghmioamheaaGreatDoor
open Go.RowKit Brm Tryz
variable {l:List Pat}{t v u:Tm}{p:Pat}{w:World}{A:NP}{lo:OA}{xs:LV}{n B cap:Nat}{x:Int}
theorem pW:∀p:Pat,1<=p.nd
 |.set _=>by simp[Pat.nd]
 |.row l=>by simp[Pat.nd]
 |.or l=>by simp[Pat.nd]
 |.and l=>by simp[Pat.nd]
 |.not p=>by simp[Pat.nd]
 |.many p _ _=>by simp[Pat.nd]
 |.group p=>by simp only[Pat.nd];exact pW p
abbrev fA (p:Pat):Tm->Prop:=Gd p.Mt p.me.z (36*p.nd+20*p.rg-12)
def cL:List Pat->List Tm->Prop
 | [],[]=>True
 |p::l,t::m=>fA p t/\cL l m
 |_,_=>False
theorem cL.snoc {p:Pat}{u:Tm}:∀{l:List Pat} {m:List Tm},cL l m->fA p u->cL (l++[p]) (m++[u])
 | [],[],_,k=>⟨k,trivial⟩
 |_::_,_::_,h,k=>⟨h.1,cL.snoc h.2 k⟩
theorem cL.len:∀{l:List Pat} {m:List Tm},cL l m->m.length=l.length
 | [],[],_=>rfl
 |_::_,_::_,h=>by rw[zG,zG,cL.len h.2]
theorem cL.ok:∀{l:List Pat} {m:List Tm},cL l m->dW m
 | [],[],_=>trivial
 |_::_,_::_,h=>⟨h.1.ok,cL.ok h.2⟩
theorem cL.tl:∀{l:List Pat} {m:List Tm},cL l m->bw m+12*m.length<=36*bH l+20*cr l
 | [],[],_=>zA _
 |p::l,t::m,h=>by
  have b:=h.1.tl;have a:=cL.tl h.2;have c:=pW p;simp only[bw,bH,cr,zG];omega
theorem cL.z:∀{l:List Pat} {m:List Tm},cL l m->bd m<=zL l
 | [],[],_=>zA _
 |p::l,t::m,h=>by
  have b:=h.1.z;have a:=cL.z h.2;have e:zL (p::l)=p.me.z+zL l:=rfl;rw[e];simp only[bd];omega
theorem cL.or {v:LZ}:∀{l:List Pat} {m:List Tm},cL l m->(kI m v↔gy l v)
 | [],[],_=>Iff.rfl
 |p::l,t::m,h=>by
  have a:=h.1.lg;simp only[kI,gy,cL.or h.2];rw[a]
theorem cL.and {v:LZ}:∀{l:List Pat} {m:List Tm},cL l m->(iz m v↔eG l v)
 | [],[],_=>Iff.rfl
 |p::l,t::m,h=>by
  have a:=h.1.lg;simp only[iz,eG,cL.and h.2];rw[a]
theorem cL.at:∀{l:List Pat} {m:List Tm},cL l m->∀{i:Nat} {p:Pat} {t:Tm},l[i]?=some p->m[i]?=some t->fA p t
 | [],[],_,i,p,t,h,_=>by simp at h
 |q::l,u::m,h,0,p,t,h1,h2=>by
  simp at h1 h2;subst h1 h2;exact h.1
 |q::l,u::m,h,i+1,p,t,h1,h2=>cL.at h.2 (i:=i) (by simpa using h1) (by simpa using h2)
mutual
theorem pX:∀t:Tm,t.z<=t.tl
 |.none=>by show 1<=12;omega
 |.empty=>by show 1<=12;omega
 |.set _=>by show 1<=12+_;omega
 |.row a b=>by have c:=pX a;have d:=pX b;show a.z+b.z<=a.tl+b.tl+12;omega
 |.or l=>by have c:=mJ l;show max 1 (bd l)<=bw l+12;omega
 |.and l=>by have c:=mJ l;show max 1 (bd l)<=bw l+12;omega
 |.not t=>by have c:=pX t;show t.z<=t.tl+12;omega
 |.many t _ _=>by have c:=pX t;show t.z+1<=t.tl+12;omega
theorem mJ:∀l:List Tm,bd l<=bw l
 | []=>zA _
 |t::l=>by have b:=pX t;have a:=mJ l;simp only[bd,bw];omega
end
theorem YE (l:List Pat):(Pat.and l).me.z=max 1 (zL l):=by
 have e:sumA (λa:Me=>(bB a).z) (bX l)=zL l:=rfl;simp only[Pat.me,bB,orA,nJ];rw[<-e];rfl
theorem Xr {m:List Tm}(h:cL l m)(hg:SomeG 5 m t):fA (.or l) t:=by
 have d:=hg.z;have c:=h.z;have b:=hg.tl;have a:=h.tl;refine⟨hg.ok,?_,?_,?_⟩
 ·funext u;exact propext ((hg.or rfl u).trans h.or)
 ·have e:(Pat.or l).me.z=max 1 (zL l):=rfl;rw[e];omega
 ·simp only[Pat.nd,Pat.rg];omega
theorem Vy {m:List Tm}(h:cL l m)(hg:SomeG 6 m t):fA (.and l) t:=by
 have b:=hg.z;have a:=h.z;have c:=hg.tl;have d:=h.tl;refine⟨hg.ok,?_,?_,?_⟩
 ·funext u;exact propext ((hg.and rfl u).trans h.and)
 ·rw[YE];omega
 ·simp only[Pat.nd,Pat.rg];omega
structure RowG (l:List Pat)(t:Tm):Prop where
 ok:t.Ok
 lg:t.L=λu=>jl l u
 z:t.z<=(Pat.row l).me.z
 tl:t.tl<=36*bH l+20*cr l+12
 e:l=[]->t=.empty
theorem RS:RowG [] .empty:=⟨trivial,by rw[Tm.L_empty];rfl,by simp[Tm.z,Pat.me,bX,rwsM,aV],by simp[Tm.tl,bH,cr],λ_=>rfl⟩
theorem ww (h:fA p t)(hok:v.Ok)(hl:v.L=t.L)(hz:v.z<=t.z)(ht:v.tl<=t.tl):RowG [p] v:=by
 have f:=h.z;have d:=h.tl;refine⟨hok,?_,?_,?_,λe=>by cases e⟩
 ·rw[hl,h.lg];funext u;refine propext ⟨λk=>⟨u,[],by simp,k,rfl⟩,?_⟩;rintro⟨a,b,rfl,k,e⟩;have c:b=[]:=e;subst c;simpa using k
 ·have e:(Pat.row [p]).me.z=p.me.z:=rfl;rw[e];omega
 ·simp only[bH,cr];omega
theorem Oz (hne:l≠[])(h:fA p t)(k:RowG l u)(hg:Gd (aJ t.L u.L) (t.z+u.z) (t.tl+u.tl+12) v):RowG (p::l) v:=by
 have i:=h.z;have g:=h.tl;have f:=k.z;have c:=k.tl;have d:=hg.z;have a:=hg.tl;have b:=pW p;refine⟨hg.ok,?_,?_,?_,λe=>by cases e⟩
 ·rw[hg.lg,h.lg,k.lg];rfl
 ·have e:(Pat.row (p::l)).me.z=p.me.z+(Pat.row l).me.z:=by
   show (rwsM (p.me::bX l)).z=_
   rw[Dd (by rw[im];simpa using hne)];rfl
  rw[e];omega
 ·simp only[bH,cr];omega
theorem VA (h:RowG l t):fA (.row l) t:=by
 refine⟨h.ok,h.lg,h.z,?_⟩;have:=h.tl;simp only[Pat.nd,Pat.rg];omega
theorem Xv (h:fA p t)(k:RowG l u){soa:OA}{sna sca:Nat}{loa:OA}{lna lca:Nat}{ma na:Int}{sa:ByteArray}{sob:OA}{snb scb:Nat}{lob:OA}{lnb lcb:Nat}{mb nb:Int}{sb:ByteArray}(hA:∀g,A g->g<w.heap.size)(hv:aj w A t (TC t.kind soa sna sca loa lna lca ma na sa))(hu:aj w A u (TC u.kind sob snb scb lob lnb lcb mb nb sb))(hb:t.tl+u.tl<=6900000000000000000):Calls prog 38 #[.agg #[Vi t.kind,.slice soa sna sca,.slice loa lna lca,Vi ma,Vi na,.string sa],.agg #[Vi u.kind,.slice sob snb scb,.slice lob lnb lcb,Vi mb,Vi nb,.string sb]] w (eH w A (RowG (p::l))):=by
 cases l with
 |nil=>
  obtain rfl:=k.e rfl;have d:=fE t;have f:=mh t;by_cases c:t.kind=1
  ·refine (qA (A:=A) (.inl c)).mono λe a g=>g.weak λv hv=>?_;subst hv;exact ww h trivial (by rw[rp c]) d f
  ·by_cases b:t.kind=2
   ·refine (Ob (t:=.empty) hA (by simp[Tm.kind]) b rfl hu).mono λe a g=>g.weak λv hv=>?_;subst hv;exact ww h trivial (by rw[rq b]) d f
   ·refine (Et (t:=t) hA c b rfl rfl hv).mono λe a g=>g.weak λv hv=>?_;subst hv;exact ww h h.ok rfl (zA _) (zA _)
 |cons q l=>exact (nY t w A u _ _ _ _ _ _ _ _ _ _ _ _ _ _ _ _ _ _ hA hv hu h.ok k.ok hb).mono λe a g=>g.weak λv hv=>Oz (by simp) h k hv
theorem VB (h:fA p t)(hg:Gd (fZ t.L) t.z (t.tl+12) v):fA (.not p) v:=by
 have f:=h.z;have d:=h.tl;have c:=hg.z;have a:=hg.tl;have b:=pW p;refine⟨hg.ok,by rw[hg.lg,h.lg];rfl,?_,?_⟩
 ·have e:(Pat.not p).me.z=p.me.z:=rfl;omega
 ·simp only[Pat.nd,Pat.rg];omega
theorem RT {m n:Int}(h:fA p t)(hg:Gd (dB t.L m n) (t.z+1) (t.tl+12) v):fA (.many p m n) v:=by
 have f:=h.z;have d:=h.tl;have c:=hg.z;have a:=hg.tl;have b:=pW p;refine⟨hg.ok,by rw[hg.lg,h.lg];rfl,?_,?_⟩
 ·have e:(Pat.many p m n).me.z=p.me.z+1:=rfl;omega
 ·simp only[Pat.nd,Pat.rg];omega
def Lt (p:Pat):Prop:=∀(w:World) (A:Nat->Prop) (g:Nat) (k:Int) (so:Option Addr) (sn sc:Nat) (lo:Option Addr) (ln lc:Nat) (m n r:Int),NV w A p (bT k so sn sc lo ln lc m n r) g->(∀g,A g->g<w.heap.size)->p.Ok->p.nd<=1000000->p.rg<=100000 ->
 Calls prog 17 #[.agg #[Vi k,.slice so sn sc,.slice lo ln lc,Vi m,Vi n,Vi r]] w (eH w A (fA p))
theorem ur:∀{l:List Pat} {p:Pat},p∈l->p.nd<=bH l
 |q::l,p,h=>by
  simp only[bH];rcases zO.1 h with rfl|h
  ·omega
  ·have:=ur h;omega
theorem Bp:∀{l:List Pat} {p:Pat},p∈l->p.rg<=cr l
 |q::l,p,h=>by
  simp only[cr];rcases zO.1 h with rfl|h
  ·omega
  ·have:=Bp h;omega
theorem Bq:∀l:List Pat,l.length<=bH l
 | []=>zA _
 |p::l=>by have b:=pW p;have a:=Bq l;simp only[bH,zG];omega
set_option maxHeartbeats 8000000
set_option maxRecDepth 100000
theorem ag.belowU {w':World}{U b:Nat}{cs:LV}{T:TypeId}(h:ag w b cs T)(k:Below U w w')(hb:b<U):ag w' b cs T:=(k.block b hb).trans h
theorem JD:∀(l:List Pat) (k:Nat),bH (l.drop k)<=bH l/\cr (l.drop k)<=cr l
 |l,0=>by simp
 | [],k+1=>by simp
 |p::l,k+1=>by
  have:=JD l k;simp only[List.drop_succ_cons,bH,cr];omega
def Zb (w:World)(A:Nat->Prop)(l:List Pat)(K:Int)(so:Option Addr)(sn:Nat)(m n:Int)(P:Pat):Prop :=
 (∃K',(K'=5/\K=3\/K'=6/\K=4)/\l≠[]/\∀us t,cL l us->SomeG K' us t->fA P t)\/(K=5/\∃p,P=.not p/\l=[p])\/(K=7/\∃p,P=.group p/\l=[p]) \/
 (K=6/\∃p,P=.many p m n/\l=[p]/\0<=m/\m<=5/\(n=-1\/(m<=n/\n<=5))) \/
 (K=1/\∃bs os q,so=some ⟨bs,os,none⟩/\sn=q.length/\P=.set (told q)/\PCanon q/\q≠[]/\q.length<=100000/\A bs/\Rd w (some ⟨bs,os,none⟩) q)\/(K=1/\sn=0/\P=.set [])\/(K=2/\P=.row l)
abbrev XG (A:Nat->Prop)(N:Nat)(G:Tm->Prop)(wr:World)(e:Ending)(w6:World):Prop :=
 ∃t so sn sc lo ln lc m n s,e=.returned (.agg #[Vi (Tm.kind t),.slice so sn sc,.slice lo ln lc,Vi m,Vi n,.string s])/\Hid (aj w6 (λg=>A g\/N<g) t (TC t.kind so sn sc lo ln lc m n s))/\Hid (G t)/\Below wr.heap.size wr w6
theorem gO {lc g:Nat}{K m n r:Int}{so:OA}{sn sc:Nat}{P:Pat}(hpat:Zb w A l K so sn m n P)(hA:∀g,A g->g<w.heap.size)(ho:cB w A 27 6 (.slice lo l.length lc) l.length xs)(hnl:NL w A l xs g)(ih:∀p∈l,Lt p)(hok:∀p∈l,p.Ok)(hnd:bH l<=1000000)(hrg:cr l<=100000):Calls prog 17 #[.agg #[Vi K,.slice so sn sc,.slice lo l.length lc,Vi m,Vi n,Vi r]] w (eH w A (fA P)):=by
 obtain⟨H,p5,a5,p6,o1,p3⟩:=jK (rfl:w.heap.size=_) [Vi K,.slice so sn sc,.slice lo l.length lc,Vi m,Vi n,Vi r] 27 TZ 58;replace a5:Below _ _ H:=a5;have q8:Hid (∀(i:Nat) (p:Pat) (wr:World),l[i]?=some p->Bw H wr->∃k9 d1 d0 c7 d2 d4 b7 m9 n9 r9 b,lo=some (aD b 0)/\b<wr.heap.size/\wr.cell? ⟨b,i*6,none⟩=some (Vi k9)/\wr.cell? ⟨b,i*6+1,none⟩=some (.slice d1 d0 c7)/\wr.cell? ⟨b,i*6+2,none⟩=some (.slice d2 d4 b7)/\wr.cell? ⟨b,i*6+3,none⟩=some (Vi m9)/\wr.cell? ⟨b,i*6+4,none⟩=some (Vi n9)/\wr.cell? ⟨b,i*6+5,none⟩=some (Vi r9)/\Hid (Calls prog 17 #[.agg #[Vi k9,.slice d1 d0 c7,.slice d2 d4 b7,Vi m9,Vi n9,Vi r9]] wr (eH wr A (fA p)))):=λi p wr hi hb=>by
  have hm:=zU hi;have n2:=(zC.1 hi).1;have h1:=ur hm;have h2:=Bp hm;obtain⟨cc,gg,n4,s9⟩:=NL.at l xs g hnl i p hi;obtain⟨k9,d1,d0,c7,d2,d4,b7,m9,n9,r9,rfl⟩:=n4.len;obtain⟨b,a6,u0,t8,c0,c1,c2,c3,c4,c5⟩:=IX ((ho.below a5).below hb) n2 s9;injection u0 with e1 e2 e3;exact⟨k9,d1,d0,c7,d2,d4,b7,m9,n9,r9,b,e1,t8,c0,c1,c2,c3,c4,c5,ih p hm wr A gg k9 d1 d0 c7 d2 d4 b7 m9 n9 r9 ((n4.below a5).below hb) (λg a=>zF (hA g a) (zJ a5.size hb.size)) (hok p hm) (by omega) (by omega)⟩
 have v6:l.length<=1000000:=zJ (Bq l) hnd;have o6:=aa hnd;have p7:=aa hrg;have b3:=aa p6;have b2:=aa o1;have b4:=aa a5;have s7:=aa p5;have HA:=aa hA;have G:=aa p3;have o9:=aa hpat;have uZ:Hid (∀K' wr d5 a6 M ys,(K'=5/\K=3\/K'=6/\K=4)->l≠[]->Bw H wr->wr.ownsRow H.heap.size 58 6 (.slice d5 M.length a6) M.length ys->aO wr (λg=>A g\/H.heap.size<=g) M ys->cL l M->Calls prog 34 #[.slice d5 M.length a6,Vi K'] wr (XG A (w.heap.size+1) (SomeG K' M) wr)):=λK' wr d5 a6 M ys hK h0 hb b0 g7 c8=>by
  have h1:=c8.tl;have h2:=mJ M;have h3:=hb.size;have q2:M≠[]:=λe=>h0 (by have:=c8.len;rw[e]at this;exact yf this.symm);refine (sT (hK.imp And.left And.left) (A:=λg=>(A g\/H.heap.size<=g)/\g<wr.heap.size) (λg a=>a.2) ((fN b0).mono (λg a h=>⟨.inr h,a⟩)) (aO.mono (λg a h=>⟨h,a⟩) _ _ g7) c8.ok q2 (by omega) (by omega)).mono ?_;rintro e w6 ⟨t,so,sn,sc,lo,ln,lc,m,n,s,rfl,g1,g2,g3⟩;exact⟨t,so,sn,sc,lo,ln,lc,m,n,s,rfl,aj.mono (λg _ a=>by rcases a with⟨a|a,_⟩|a;exact .inl a;exact .inr (by omega);exact .inr (by omega)) _ _ g1,g2,g3⟩
 have s4:Hid (∀p wr t B C z E y D Z nx sx,Bw H wr->aj wr (λg=>A g\/H.heap.size<=g) t (TC t.kind B C z E y D Z nx sx)->fA p t->t.tl<=80000000->Calls prog 35 #[.agg #[Vi t.kind,.slice B C z,.slice E y D,Vi Z,Vi nx,.string sx]] wr (XG A (w.heap.size+1) (fA (.not p)) wr)):=λp wr t B C z E y D Z nx sx hb hv a ht=>by
  have h3:=hb.size;refine (Ki (A:=λg=>(A g\/H.heap.size<=g)/\g<wr.heap.size) (λg a=>a.2) (aj.mono (λg a h=>⟨h,a⟩) _ _ hv) a.ok (by omega)).mono ?_;rintro e w6 ⟨t',so,sn,sc,lo,ln,lc,m,n,s,rfl,g1,g2,g3⟩;exact⟨t',so,sn,sc,lo,ln,lc,m,n,s,rfl,aj.mono (λg _ a=>by rcases a with⟨a|a,_⟩|a;exact .inl a;exact .inr (by omega);exact .inr (by omega)) _ _ g1,VB a g2,g3⟩
 have u2:Hid (∀p wr t B C z E y D Z nx sx,(0<=m/\m<=5/\(n=-1\/(m<=n/\n<=5)))->Bw H wr->aj wr (λg=>A g\/H.heap.size<=g) t (TC t.kind B C z E y D Z nx sx)->fA p t->t.tl<=80000000->Calls prog 36 #[.agg #[Vi t.kind,.slice B C z,.slice E y D,Vi Z,Vi nx,.string sx],Vi m,Vi n] wr (XG A (w.heap.size+1) (fA (.many p m n)) wr)):=λp wr t B C z E y D Z nx sx hm hb hv a ht=>by
  have h3:=hb.size;refine (Cy (A:=λg=>(A g\/H.heap.size<=g)/\g<wr.heap.size) m n (λg a=>a.2) hm.1 hm.2.1 hm.2.2 (aj.mono (λg a h=>⟨h,a⟩) _ _ hv) a.ok (by omega)).mono ?_;rintro e w6 ⟨t',so,sn,sc,lo,ln,lc,m',n',s,rfl,g1,g2,g3⟩;exact⟨t',so,sn,sc,lo,ln,lc,m',n',s,rfl,aj.mono (λg _ a=>by rcases a with⟨a|a,_⟩|a;exact .inl a;exact .inr (by omega);exact .inr (by omega)) _ _ g1,RT a g2,g3⟩
 have s2:Hid (∀bs os q cs wr,PCanon q->q.length<=100000->A bs->Rd w (some ⟨bs,os,none⟩) q->Bw H wr->Calls prog 33 #[.agg #[Vi 3,.slice (some ⟨bs,os,none⟩) q.length cs,Vz,Vi 0,Vi 0,.string ⟨#[]⟩]] wr λe N=>∃s,e=.returned (.agg #[Vi 3,.slice (some ⟨bs,os,none⟩) q.length cs,Vz,Vi 0,Vi 0,.string s])/\aj N A (.set q) (TC 3 (some ⟨bs,os,none⟩) q.length cs none 0 0 0 0 s)/\Bw wr N):=λbs os q cs wr hq i3 h6 g8 hb=>Pt _ (λi x hx=>by
   obtain⟨b',v2,e,f8,c1,c2⟩:=g8 i x hx;injection e with e;injection e with e1 e2;subst e1 e2;exact⟨bs,os,rfl,h6,zF f8 (zJ a5.size hb.size),(hb.cell (p:=⟨bs,_,none⟩) (zF f8 a5.size)).trans ((a5.cell (p:=⟨bs,_,none⟩) f8).trans c1),(hb.cell (p:=⟨bs,_,none⟩) (zF f8 a5.size)).trans ((a5.cell (p:=⟨bs,_,none⟩) f8).trans c2)⟩) hq i3
 have t9:Hid (∀(k U:Nat) (p:Pat) (t u:Tm) (wr:World) (B:Option Addr) (C z:Nat) (E:Option Addr) (y D:Nat) (Z nx:Int) (sx:ByteArray) (i8:Option Addr) (j0 k7:Nat) (l8:Option Addr) (m2 j9:Nat) (my ny:Int) (sy:ByteArray),l[k]?=some p->fA p t->RowG (l.drop (k+1)) u->aj wr (λg=>(A g\/H.heap.size<=g)/\g≠U) t (TC t.kind B C z E y D Z nx sx)->aj wr (λg=>(A g\/H.heap.size<=g)/\g≠U) u (TC u.kind i8 j0 k7 l8 m2 j9 my ny sy)->U<wr.heap.size->Calls prog 38 #[.agg #[Vi t.kind,.slice B C z,.slice E y D,Vi Z,Vi nx,.string sx],.agg #[Vi u.kind,.slice i8 j0 k7,.slice l8 m2 j9,Vi my,Vi ny,.string sy]] wr λe w6=>∃v so sn sc lo ln lc mm nn s,e=.returned (.agg #[Vi (Tm.kind v),.slice so sn sc,.slice lo ln lc,Vi mm,Vi nn,.string s])/\Hid (aj w6 (λg=>((A g\/H.heap.size<=g)/\g≠U)\/wr.heap.size<g) v (TC v.kind so sn sc lo ln lc mm nn s))/\Hid (RowG (l.drop k) v)/\Bw wr w6):=λk U p t u wr B C z E y D Z nx sx i8 j0 k7 l8 m2 j9 my ny sy hk a hr hv hu hU=>by
  have hd:l.drop k=p::l.drop (k+1):=by
   have j8:=(zC.1 hk).1;rw[yC j8];congr 1;exact yT ((zB j8).symm.trans hk)
  have h1:=a.tl;have h2:=hr.tl;have h3:=ur (zU hk);have h4:=Bp (zU hk);have h5:bH (l.drop (k+1))<=bH l/\cr (l.drop (k+1))<=cr l:=JD l (k+1);rw[hd];refine (Xv (A:=λg=>((A g\/H.heap.size<=g)/\g≠U)/\g<wr.heap.size) a hr (λg a=>a.2) (aj.mono (λg a h=>⟨h,a⟩) _ _ hv) (aj.mono (λg a h=>⟨h,a⟩) _ _ hu) (by omega)).mono ?_;rintro e w6 ⟨v,so,sn,sc,lo,ln,lc,m,n,s,rfl,g1,g2,g3⟩;exact⟨v,so,sn,sc,lo,ln,lc,m,n,s,rfl,aj.mono (λg _ a=>by rcases a with a|a;exact .inl a.1;exact .inr a) _ _ g1,g2,g3⟩
 clear hpat p5 a5 p6 o1 p3 ih hok ho hnl hA hnd hrg;obtain⟨i0,hi,o2,m8,n7⟩:=zz lM;go_enter func17,ntmps17;go_upto_region 1 with fail;rw[s7.out];generalize hS:w.heap.size=S at *;go_wp2_with fail
 go_loopw [3,4] (λov iv wr=>∃(i:Nat) (M:List Tm) (ys:List Value),iv=Vi i/\i<=l.length/\wr.ownsRow H.heap.size 58 6 ov M.length ys/\aO wr (λg=>(A g\/H.heap.size<=g)/\ov.ownBlock≠some g) M ys/\cL (l.take i) M/\Bw H wr) (λ_ iv _=>l.length-(intOf iv).toNat)
 case atStart=>exact⟨0,[],[],rfl,zW _,zZ _ _ _ _,rfl,trivial,zE _ _⟩
 case round=>
  obtain⟨i,M,ys,rfl,n2,b0,g7,c8,a9⟩:=hrel;obtain⟨d5,a6,rfl⟩:=cd b0;have HO:=aa b0;have HU:=aa g7;have m4:=aa c8;have f:=aa a9;have l2:H.heap.size<=wr.heap.size:=a9.size;have i1:(0:Int)<=(i:Int):=zK _;have a2:wr.cell? (aD S 2)=some (.slice lo l.length lc):=(b3.out.below a9).cell 2;have p0:S<wr.heap.size:=(b3.out.below a9).lt;clear b0 g7 c8 a9;by_cases u9:i<l.length
  ·have i2:(i:Int)<(l.length:Int):=by omega
   obtain⟨p',m0⟩:∃p',l[i]?=some p':=⟨_,zB u9⟩;have t7:Hid (l.take (i+1)=l.take i++[p']):=by show _=_;rw[zi,m0];rfl
   obtain⟨k9,d1,d0,c7,d2,d4,b7,m9,n9,r9,b,rfl,v3,y0,y1,y2,y3,y4,y5,HC⟩:=q8.out i p' wr m0 f.out;clear m0;go_wp2_with fail;refine HC.out.mono ?_;rintro e w5 ⟨t5,g5,e0,e5,d6,g6,f6,m5,n5,s5,rfl,n8,o5,b1⟩;obtain⟨U3,q4,o,j2,-⟩:=dS (rfl:w5.heap.size=_) (TC t5.kind g5 e0 e5 d6 g6 f6 m5 n5 s5) 58;replace o:Below _ _ U3:=o;replace j2:=aa j2;have t6:=aa q4;have n0:=aa (bg (bg HO.out b1) o);have i7:Hid (Bw wr U3):=b1.trans (o.mono b1.size);have l4:Hid (Bw H U3):=f.out.trans (i7.out.mono l2);have i9:=aa (aj.below o _ _ n8);have l3:=aa o5;have p1:M.length<=1000000:=by have:=m4.out.len;rw[yn]at this;omega
   clear q4 o n8 o5 b1 HC;go_wp2_with (at_builtin;rw[t6.out];refine jg rfl (.tmp 14) (.tmp 21) 56 58 i0 _ 6 88 rfl underlying56 hi o2 m8 n7 rfl (by decide) H.heap.size M.length _ _ rfl n0.out _ 1 _ (TC t5.kind g5 e0 e5 d6 g6 f6 m5 n5 s5) rfl rfl (by decide) (λj u hj=>by rw[zl,zf,j2.out.cell];exact hj) (sD _ _ _ _ _ _ _ _ _ _) (by unfold maxLen;omega) (by omega) l4.out.size ?_;intro v4 w4 e4 i5 i6;have HF:=aa (And.intro e4 (And.intro i5 i6));clear e4 i5 i6)
   go_roundw
   case rel=>
    refine⟨i+1,M++[t5],ys++TC t5.kind g5 e0 e5 d6 g6 f6 m5 n5 s5,by go_num,by omega,by simpa using HF.out.1,?_,by rw[t7.out];exact m4.out.snoc l3.out,cD l4.out l4.out.size n0.out HF.out.2.1⟩;exact CK HF.out.2.1 HF.out.2.2 i7.out HU.out i9.out (λg e=>HO.out.lt g e) (λg h=>by have:=HA.out g h;have:=G.out;omega) l2
   case measure=>simp[intOf];omega
  ·have i2:decide ((i:Int)<(l.length:Int))=false:=zI (by omega);obtain rfl:i=l.length:=by omega
   have F:Hid (cL l M):=by have:=m4.out;rwa [zQ]at this
   have p1:M.length<=1000000:=by have:=F.out.len;omega
   have a0:wr.cell? (aD S 0)=some (Vi K):=(b3.out.below f.out).cell 0;rcases o9.out with⟨K',p2,h0,m7⟩|⟨rfl,p,rfl,J⟩|⟨rfl,p,rfl,J⟩|⟨rfl,p,rfl,J,hm⟩|⟨rfl,bs,os,q,rfl,rfl,rfl,hq,q3,i3,h6,g8⟩|⟨rfl,rfl,rfl⟩|⟨rfl,rfl⟩
   ·have O:=aa (uZ.out K' wr d5 a6 M ys p2 h0 f.out HO.out (aO.mono (λg _ h=>h.1) _ _ HU.out) F.out);have u5:=aa (m7 M);clear m7 h0;rcases p2 with⟨rfl,rfl⟩|⟨rfl,rfl⟩
    all_goals
     go_wp2_with fail;refine O.out.mono ?_;rintro e w3 ⟨t3,Q,T,X,V,R,Y,m3,n3,s3,rfl,a7,f9,o⟩;have c:=(b2.out.below f.out).below o;obtain⟨r0,r1,r2,r3,r4,r5⟩:=c.six;obtain⟨f0,f1,f2,f3,f4,f5,b5⟩:=c.ice;have b6:Hid (Below S w w3):=(b4.out.trans (f.out.mono (by have:=G.out;omega))).trans (o.mono (by have:=G.out;omega));clear o c;go_wp2_with fail;refine zN (v:=.agg #[Vi (Tm.kind t3),.slice Q T X,.slice V R Y,Vi m3,Vi n3,.string s3]) (by simp[results,results17,go_sem,r0,r1,r2,r3,r4,r5]) rfl ⟨t3,Q,T,X,V,R,Y,m3,n3,s3,rfl,?_,u5.out t3 F.out f9.out,?_⟩
     ·rw[hS];exact aj.mono (λg _ a=>by rcases a with a|a;exact .inl a;exact .inr (by omega)) _ _ (dP a7.out (λg h=>by have:=HA.out g h;omega) _ _ _ _ _ _)
     ·rw[hS];exact bC b6.out _ _ _ _ _ _
   ·have a8:M.length=1:=by have:=F.out.len;rw[J]at this;simpa using this
    obtain⟨t,ht⟩:=zy.1 a8;subst ht;have e7:Hid (fA p t):=by have:=F.out;rw[J]at this;exact this.1
    obtain⟨b9,W,d,rfl,d3,I,L⟩:=(fN HO.out).get HU.out (i:=0) (t:=t) rfl;obtain⟨B,C,z,E,y,D,Z,nx,sx,rfl,_⟩:=I.form;simp only[Nat.zero_mul,xF]at L;obtain⟨y0,y1,y2,y3,y4,y5⟩:=JJ L;have e8:=aa I;replace J:=aa J;clear L I a8;simp only[zo];have j3:t.tl<=80000000:=by have h1:=F.out.tl;have h2:=o6.out;have h3:=p7.out;simp only[bw]at h1;omega
    have O:=aa (s4.out p wr t _ _ _ _ _ _ _ _ _ f.out (aj.mono (λg _ h=>h.1) _ _ e8.out) e7.out j3);go_wp2_with fail;refine O.out.mono ?_;rintro e w3 ⟨t3,Q,T,X,V,R,Y,m3,n3,s3,rfl,a7,f9,o⟩;have c:=(b2.out.below f.out).below o;obtain⟨r0,r1,r2,r3,r4,r5⟩:=c.six;obtain⟨f0,f1,f2,f3,f4,f5,b5⟩:=c.ice;have b6:Hid (Below S w w3):=(b4.out.trans (f.out.mono (by have:=G.out;omega))).trans (o.mono (by have:=G.out;omega));clear o c;go_wp2_with fail;refine zN (v:=.agg #[Vi (Tm.kind t3),.slice Q T X,.slice V R Y,Vi m3,Vi n3,.string s3]) (by simp[results,results17,go_sem,r0,r1,r2,r3,r4,r5]) rfl ⟨t3,Q,T,X,V,R,Y,m3,n3,s3,rfl,?_,f9.out,?_⟩
    ·rw[hS];exact aj.mono (λg _ a=>by rcases a with a|a;exact .inl a;exact .inr (by omega)) _ _ (dP a7.out (λg h=>by have:=HA.out g h;omega) _ _ _ _ _ _)
    ·rw[hS];exact bC b6.out _ _ _ _ _ _
   ·have a8:M.length=1:=by have:=F.out.len;rw[J]at this;simpa using this
    obtain⟨t,ht⟩:=zy.1 a8;subst ht;have e7:Hid (fA p t):=by have:=F.out;rw[J]at this;exact this.1
    obtain⟨b9,W,d,rfl,d3,I,L⟩:=(fN HO.out).get HU.out (i:=0) (t:=t) rfl;obtain⟨B,C,z,E,y,D,Z,nx,sx,rfl,_⟩:=I.form;simp only[Nat.zero_mul,xF]at L;obtain⟨y0,y1,y2,y3,y4,y5⟩:=JJ L;have e8:=aa I;replace J:=aa J;clear L I a8;simp only[zo];have c:=b2.out.below f.out;obtain⟨r0,r1,r2,r3,r4,r5⟩:=c.six;obtain⟨f0,f1,f2,f3,f4,f5,b5⟩:=c.ice;clear c;go_wp2_with fail;refine zN (v:=.agg #[Vi (Tm.kind t),.slice B C z,.slice E y D,Vi Z,Vi nx,.string sx]) (by simp[results,results17,go_sem,r0,r1,r2,r3,r4,r5]) rfl ⟨t,B,C,z,E,y,D,Z,nx,sx,rfl,?_,e7.out,?_⟩
    ·rw[hS];exact aj.mono (λg _ a=>by rcases a with⟨a|a,_⟩;exact .inl a;exact .inr (by have:=G.out;omega)) _ _ (gR e8.out (λh=>by rcases h with⟨h|h,_⟩;have:=HA.out _ h;omega;have:=G.out;omega) _ _ _ _ _ _)
    ·rw[hS];exact bC (b4.out.trans (f.out.mono (by have:=G.out;omega))) _ _ _ _ _ _
   ·have a8:M.length=1:=by have:=F.out.len;rw[J]at this;simpa using this
    obtain⟨t,ht⟩:=zy.1 a8;subst ht;have e7:Hid (fA p t):=by have:=F.out;rw[J]at this;exact this.1
    obtain⟨b9,W,d,rfl,d3,I,L⟩:=(fN HO.out).get HU.out (i:=0) (t:=t) rfl;obtain⟨B,C,z,E,y,D,Z,nx,sx,rfl,_⟩:=I.form;simp only[Nat.zero_mul,xF]at L;obtain⟨y0,y1,y2,y3,y4,y5⟩:=JJ L;have e8:=aa I;replace J:=aa J;clear L I a8;simp only[zo];have j3:t.tl<=80000000:=by have h1:=F.out.tl;have h2:=o6.out;have h3:=p7.out;simp only[bw]at h1;omega
    have a3:wr.cell? (aD S 3)=some (Vi m):=(b3.out.below f.out).cell 3;have a4:wr.cell? (aD S 4)=some (Vi n):=(b3.out.below f.out).cell 4;have v1:S+1<b9:=by have:=(HO.out.lt b9 rfl).1;have:=G.out;omega
    have O:=aa (u2.out p wr.drew t _ _ _ _ _ _ _ _ _ hm (bL f.out (jw wr)) (aj.below (jw wr) _ _ (aj.mono (λg _ h=>h.1) _ _ e8.out)) e7.out j3);have g0:Hid (∀N,Bw wr N->(N.cell? (aD S 3)=some (Vi m)/\N.cell? (aD S 4)=some (Vi n)/\CT N b9 W t.kind B C z E y D Z nx sx)):=λN h=>⟨(h.cell (p:=(aD S 3)) p0).trans a3,(h.cell (p:=(aD S 4)) p0).trans a4,CT.below h d3 ⟨y0,y1,y2,y3,y4,y5⟩⟩;clear hm;have o3:S+1≠S:=by omega
    have q7:S+1≠b9:=by omega
    have q9:=aa (g0.out wr.drew (jw wr));have s0:Hid (∀N,Bw wr N->ag N (S+1) TZ 58):=λN h=>b2.out.below (bL f.out h);go_wp2_with fail
    go_region_held3 (λN=>N.cell? (aD S 3)=some (Vi m)/\N.cell? (aD S 4)=some (Vi n)/\CT N b9 W t.kind B C z E y D Z nx sx)
     (first|with_reducible exact q9.out|with_reducible exact g0.out _ c6.out|with_reducible exact⟨JK o3 (g0.out _ c6.out).1,JK o3 (g0.out _ c6.out).2.1,CT.far q7 (g0.out _ c6.out).2.2⟩|fail)
     (first
      |(go_at_call 36;with_reducible refine O.out.mono ?_;rintro e w3 ⟨t3,Q,T,X,V,R,Y,m3,n3,s3,rfl,a7,f9,o⟩;have c6:=aa (ku o);have c:=s0.out _ c6.out;obtain⟨r0,r1,r2,r3,r4,r5⟩:=c.six;obtain⟨f0,f1,f2,f3,f4,f5,b5⟩:=c.ice;clear c o)
      |fail)
    go_wp2_with fail;refine zN (v:=.agg #[Vi (Tm.kind t3),.slice Q T X,.slice V R Y,Vi m3,Vi n3,.string s3]) (by simp[results,results17,go_sem,r0,r1,r2,r3,r4,r5]) rfl ⟨t3,Q,T,X,V,R,Y,m3,n3,s3,rfl,?_,f9.out,?_⟩
    ·rw[hS];exact aj.mono (λg _ a=>by rcases a with a|a;exact .inl a;exact .inr (by omega)) _ _ (dP a7.out (λg h=>by have:=HA.out g h;omega) _ _ _ _ _ _)
    ·rw[hS];exact bC (b4.out.trans ((bL f.out c6.out).mono (by have:=G.out;omega))) _ _ _ _ _ _
   ·have j4:Hid (fA (.set (told q)) (.set q)):=⟨hq,by funext u;rfl,zA _,by have e:=nu q;simp only[Tm.tl,Pat.nd,Pat.rg];omega⟩;have v5:0<q.length:=List.length_pos_iff.2 q3;have a1:wr.cell? (aD S 1)=some (.slice (some ⟨bs,os,none⟩) q.length sc):=(b3.out.below f.out).cell 1;have q0:((q.length:Int)==0)=false:=zD.2 (by omega);have O:=aa (s2.out bs os q sc wr hq i3 h6 g8 f.out);clear hq q3 i3 h6 g8;go_wp2_with fail;refine O.out.mono ?_;rintro e w3 ⟨s3,rfl,b8,o⟩;have a7:=aa b8;clear b8;have c:=(b2.out.below f.out).below o;obtain⟨r0,r1,r2,r3,r4,r5⟩:=c.six;obtain⟨f0,f1,f2,f3,f4,f5,b5⟩:=c.ice;have b6:Hid (Below S w w3):=(b4.out.trans (f.out.mono (by have:=G.out;omega))).trans (o.mono (by have:=G.out;omega));clear o c;go_wp2_with fail;refine zN (v:=.agg #[Vi 3,.slice (some ⟨bs,os,none⟩) q.length sc,Vz,Vi 0,Vi 0,.string s3]) (by simp[results,results17,go_sem,r0,r1,r2,r3,r4,r5]) rfl ⟨.set q,_,_,_,_,_,_,_,_,s3,rfl,?_,j4.out,?_⟩
    ·rw[hS];exact aj.mono (λg _ a=>.inl a) _ _ (gR a7.out (λh=>by have:=HA.out _ h;omega) _ _ _ _ _ _)
    ·rw[hS];exact bC b6.out _ _ _ _ _ _
   ·have j4:Hid (fA (.set []) .none):=⟨trivial,by rw[Tm.L_none];funext u;simp[eA,Pat.Mt,memB],zA _,by simp[Tm.tl,Pat.nd,Pat.rg]⟩;have a1:wr.cell? (aD S 1)=some (.slice so 0 sc):=(b3.out.below f.out).cell 1;have O:=aa (fG wr);go_wp2_with fail;refine O.out.mono ?_;rintro e w3 ⟨t3,Q,T,X,V,R,Y,m3,n3,s3,rfl,b8,rfl,o⟩;simp only[Tm.kind]at b8 ⊢;have a7:=aa b8;clear b8;have c:=(b2.out.below f.out).below o;obtain⟨r0,r1,r2,r3,r4,r5⟩:=c.six;obtain⟨f0,f1,f2,f3,f4,f5,b5⟩:=c.ice;have b6:Hid (Below S w w3):=(b4.out.trans (f.out.mono (by have:=G.out;omega))).trans (o.mono (by have:=G.out;omega));clear o c;go_wp2_with fail;refine zN (v:=.agg #[Vi 1,.slice Q T X,.slice V R Y,Vi m3,Vi n3,.string s3]) (by simp[results,results17,go_sem,r0,r1,r2,r3,r4,r5]) rfl ⟨.none,Q,T,X,V,R,Y,m3,n3,s3,rfl,?_,j4.out,?_⟩
    ·rw[hS];exact kc a7.out
    ·rw[hS];exact bC b6.out _ _ _ _ _ _
   ·have O:=aa (rh wr);have t2:=aa (fN HO.out);go_wp2_with fail;refine O.out.mono ?_;rintro e w1 ⟨t1,l6,k8,l1,j6,j7,l0,m1,n1,s1,rfl,l5,rfl,l9⟩;simp only[Tm.kind]at l5 ⊢;obtain⟨V0,k6,q5,o7,-⟩:=dS (rfl:w1.heap.size=_) (TC 2 l6 k8 l1 j6 j7 l0 m1 n1 s1) 58;replace q5:Below _ _ V0:=q5;have h7:wr.heap.size<=w1.heap.size:=l9.size;generalize hU:w1.heap.size=U at *;have v0:=aa k6;have u1:=aa o7;have u4:Hid (aj V0 (λg=>(A g\/H.heap.size<=g)/\g≠U) .empty (TC 2 l6 k8 l1 j6 j7 l0 m1 n1 s1)):=sZ l5;have g9:Hid (Bw wr V0):=l9.trans (q5.mono h7);have t4:Hid (RowG (l.drop M.length) .empty):=by
     show RowG _ _
     rw[F.out.len,List.drop_length];exact RS
    have u7:Hid (∀N,Below U V0 N->ag N (S+1) TZ 58):=λN h=>by
     have h1:=b2.out.below (bL f.out g9.out);have h2:S+1<U:=by have:=G.out;omega
     exact h1.belowU h h2
    have r6:Hid (Below S w V0):=(b4.out.trans (f.out.mono (by have:=G.out;omega))).trans (g9.out.mono (by have:=G.out;omega));have s8:Hid (V0.heap.size=U+1):=by show _=_;rw[<-k6,<-hU];simp
    have t0:Hid (H.heap.size<=U):=zJ l2 h7;clear k6 o7 l5 l9 q5 O a0 a2 i2;go_wp2_with fail;rw[v0.out]
    go_loopw [6] (λiv wx=>∃(k:Nat) (u:Tm) (e6:Option Addr) (f7 d8:Nat) (g4:Option Addr) (d7 d9:Nat) (m6 n6:Int) (s6:ByteArray),iv=Vi ((k:Int)-1)/\k<=M.length/\ag wx U (TC u.kind e6 f7 d8 g4 d7 d9 m6 n6 s6) 58/\aj wx (λg=>(A g\/H.heap.size<=g)/\g≠U) u (TC u.kind e6 f7 d8 g4 d7 d9 m6 n6 s6)/\RowG (l.drop k) u/\Below U V0 wx) (λiv _=>(intOf iv+1).toNat)
    case atStart=>exact⟨M.length,.empty,l6,k8,l1,j6,j7,l0,m1,n1,s1,by first|rfl|go_num,zA _,u1.out,u4.out,t4.out,zE _ _⟩
    case round=>
     obtain⟨k,u,e6,f7,d8,g4,d7,d9,m6,n6,s6,rfl,j8,j1,q1,hrg,p8⟩:=hrel;have j5:=aa j1;have o0:=aa q1;have i4:=aa hrg;have c9:=aa p8;have p9:U<wr.heap.size:=j1.lt;clear j1 q1 hrg p8;cases k with
     |zero=>
      have e9:(((0:Nat):Int)-1)=-1:=by decide
      rw[e9];obtain⟨k0,k1,k2,k3,k4,k5⟩:=j5.out.six;have c:=u7.out wr c9.out;obtain⟨r0,r1,r2,r3,r4,r5⟩:=c.six;obtain⟨f0,f1,f2,f3,f4,f5,b5⟩:=c.ice;clear c;go_wp2_with fail;refine zN (v:=.agg #[Vi (Tm.kind u),.slice e6 f7 d8,.slice g4 d7 d9,Vi m6,Vi n6,.string s6]) (by simp[results,results17,go_sem,r0,r1,r2,r3,r4,r5]) rfl ⟨u,e6,f7,d8,g4,d7,d9,m6,n6,s6,rfl,?_,VA (by have:=i4.out;rwa [List.drop_zero]at this),?_⟩
      ·rw[hS];exact aj.mono (λg _ a=>by rcases a with⟨a|a,_⟩;exact .inl a;exact .inr (by have:=G.out;omega)) _ _ (gR o0.out (λh=>by rcases h with⟨h|h,_⟩;have:=HA.out _ h;omega;have:=G.out;omega) _ _ _ _ _ _)
      ·rw[hS];exact bC (r6.out.trans (c9.out.mono (by have:=G.out;omega))) _ _ _ _ _ _
     |succ i=>
      have e9:(((i+1:Nat):Int)-1)=(i:Int):=by omega
      rw[e9];have i2:(i:Int)<(M.length:Int):=by omega
      have i1:(0:Int)<=(i:Int):=zK _;obtain⟨t,ht⟩:∃t,M[i]?=some t:=⟨_,zB (by omega)⟩;obtain⟨p,hp⟩:∃p,l[i]?=some p:=⟨_,zB (by have:=F.out.len;omega)⟩;obtain⟨b9,W,d,rfl,d3,I,L⟩:=t2.out.get HU.out ht;obtain⟨B,C,z,E,y,D,Z,nx,sx,rfl,_⟩:=I.form;have o4:b9<U:=zF d3 h7;have q6:Hid (∀N,Below U V0 N->(CT N b9 (W+i*6) t.kind B C z E y D Z nx sx)):=λN h=>CT.below h o4 (oT g9.out d3 L);have u6:Hid (aj wr (λg=>(A g\/H.heap.size<=g)/\g≠U) t (TC t.kind B C z E y D Z nx sx)):=aj.keep (w:=V0) ⟨c9.out.size,λg a ha=>c9.out.block g (by have:=s8.out;have h9:=ha.2;omega)⟩ _ _ (aj.mono (λg a h=>⟨h.1.1,by omega⟩) _ _ (aj.mono (A':=λg=>((A g\/H.heap.size<=g)/\True)/\g<U) (λg a h=>⟨⟨h.1.1,trivial⟩,h.2⟩) _ _ (aj.below g9.out _ _ (aj.mono (A':=λg=>((A g\/H.heap.size<=g)/\True)/\g<U) (λg a h=>⟨⟨h.1,trivial⟩,zF a h7⟩) _ _ I))));have u3:=aa (t9.out i U p t u wr.drew _ _ _ _ _ _ _ _ _ _ _ _ _ _ _ _ _ _ hp (F.out.at hp ht) i4.out (aj.below (jw wr) _ _ u6.out) (aj.below (jw wr) _ _ o0.out) p9);obtain⟨k0,k1,k2,k3,k4,k5⟩:=j5.out.six;obtain⟨c0,c1,c2,c3,c4,c5⟩:=q6.out wr c9.out;clear ht hp I L;go_upto_region 25 with fail;refine yW (S:=λN:World=>CT N b9 (W+i*6) t.kind B C z E y D Z nx sx) (by kernel_rfl) ⟨c0,c1,c2,c3,c4,c5⟩ (λhHeld=>?_);refine tk 0 ?_;simp only[tS];refine tk 1 ?_;simp only[tS];refine tk 2 ?_;simp only[tS];refine tk 3 ?_;simp only[tS];refine di 4 (λKc hK=>?_);go_simp;refine hK.out _ _ ⟨c0,c1,c2,c3,c4,c5⟩ (λhHeld=>?_);clear hK Kc
      try simp only[tS]
      refine di 5 (λKc hK=>?_);go_simp;go_at_call 38;with_reducible refine u3.out.mono ?_
      rintro e w5 ⟨t5,g5,e0,e5,d6,g6,f6,m5,n5,s5,rfl,i9,l3,b1⟩;have o8:Hid (Bw wr w5):=ku b1;have l7:Below U V0 w5:=c9.out.trans (o8.out.mono (yJ p9));have p4:=aa (q6.out w5 l7);have r8:=aa l7;have c:=j5.out.below o8.out;have r7:=aa c;obtain⟨r0,r1,r2,r3,r4,r5⟩:=c.six;obtain⟨f0,f1,f2,f3,f4,f5,b5⟩:=c.ice;clear c b1 l7;refine hK.out _ _ p4.out (λhHeld=>?_);clear hK Kc
      try simp only[tS]
      refine di 6 (λKc hK=>?_);go_simp;refine hK.out _ _ (CT.far (show U≠b9 by omega) p4.out) (λhHeld=>?_);clear hK Kc
      try simp only[tS]
      refine yV (by kernel_rfl) ?_ _;go_wp2_with fail
      go_roundw
      case rel=>exact⟨i,t5,g5,e0,e5,d6,g6,f6,m5,n5,s5,by go_num,by omega,r7.out.sixS _ _ _ _ _ _,gR (aj.mono (λg a h=>by rcases h with h|h;exact h;exact⟨.inr (by have:=t0.out;have h8:wr.heap.size<g:=h;omega),by have h8:wr.heap.size<g:=h;omega⟩) _ _ i9.out) (λh=>h.2 rfl) _ _ _ _ _ _,l3.out,fV r8.out (zA _) _ _ _ _ _ _⟩
      case measure=>simp[intOf]
theorem pR {g:Nat}(h:NV w A p xs g):NL w A [p] xs g:=⟨xs,[],by simp,h,rfl⟩
theorem ed {v:Value}(h:cB w A 27 6 v n xs):∃lo lc,v=.slice lo n lc:=by
 rcases h.1.2 with⟨rfl,a⟩|⟨g,c,b,rfl,_⟩
 ·exact⟨none,0,by rw[a]⟩
 ·exact⟨_,_,rfl⟩
mutual
theorem nr:∀p:Pat,Lt p
 |.set st=>by
  intro w A g k C D y B z E m n r j i c d a;obtain⟨R,e,q,L,H,I⟩:=j;simp only[bT,zT,zu,yB,yK]at e;obtain⟨rfl,rfl,G,rfl,rfl,rfl⟩:=e;injection G with e1 e2 e3;subst e1 e2 e3;subst H;have o:q.length<=100000:=by have e:=nu q;simp only[Pat.rg]at a;omega
  have x:cB w A 27 6 (Vz) ([]:List Pat).length []:=⟨zZ _ _ _ _,λg h=>by cases h⟩;rcases I with⟨J,v⟩|⟨b,K,O,J,Q,M,P,N⟩
  ·injection J with e1 e2 e3;subst e1 e2 e3 v;exact gO (l:=[]) (xs:=[]) (g:=0) (.inr (.inr (.inr (.inr (.inr (.inl ⟨rfl,rfl,rfl⟩)))))) i x rfl (λp h=>by simp at h) (λp h=>by simp at h) (by simp[bH]) (by simp[cr])
  ·injection J with e1 e2 e3;subst e1 e2 e3;by_cases v:q=[]
   ·subst v;exact gO (l:=[]) (xs:=[]) (g:=0) (.inr (.inr (.inr (.inr (.inr (.inl ⟨rfl,rfl,rfl⟩)))))) i x rfl (λp h=>by simp at h) (λp h=>by simp at h) (by simp[bH]) (by simp[cr])
   ·exact gO (l:=[]) (xs:=[]) (g:=0) (.inr (.inr (.inr (.inr (.inl ⟨rfl,b,K,q,rfl,rfl,rfl,L,v,o,M,N⟩))))) i x rfl (λp h=>by simp at h) (λp h=>by simp at h) (by simp[bH]) (by simp[cr])
 |.row l=>by
  have t:=oC l;intro w A g k C D y B z E m n r j i c d a;obtain⟨F,xs,e,f,o⟩:=j;obtain⟨s,u,rfl⟩:=ed f;simp only[bT,zT,zu,zm,yB,yK]at e;obtain⟨rfl,⟨rfl,rfl,rfl⟩,⟨rfl,rfl,rfl⟩,rfl,rfl,rfl⟩:=e;simp only[Pat.nd,Pat.rg]at d a;exact gO (.inr (.inr (.inr (.inr (.inr (.inr ⟨rfl,rfl⟩)))))) i f o t ((lF l).1 c) (by omega) a
 |.or l=>by
  have t:=oC l;intro w A g k C D y B z E m n r j i c d a;obtain⟨F,xs,e,f,o⟩:=j;obtain⟨s,u,rfl⟩:=ed f;simp only[bT,zT,zu,zm,yB,yK]at e;obtain⟨rfl,⟨rfl,rfl,rfl⟩,⟨rfl,rfl,rfl⟩,rfl,rfl,rfl⟩:=e;simp only[Pat.nd,Pat.rg]at d a;exact gO (.inl ⟨5,.inl ⟨rfl,rfl⟩,c.2,λ_ _=>Xr⟩) i f o t ((lF l).1 c.1) (by omega) a
 |.and l=>by
  have t:=oC l;intro w A g k C D y B z E m n r j i c d a;obtain⟨F,xs,e,f,o⟩:=j;obtain⟨s,u,rfl⟩:=ed f;simp only[bT,zT,zu,zm,yB,yK]at e;obtain⟨rfl,⟨rfl,rfl,rfl⟩,⟨rfl,rfl,rfl⟩,rfl,rfl,rfl⟩:=e;simp only[Pat.nd,Pat.rg]at d a;exact gO (.inl ⟨6,.inr ⟨rfl,rfl⟩,c.2,λ_ _=>Vy⟩) i f o t ((lF l).1 c.1) (by omega) a
 |.not p=>by
  have t:=nr p;intro w A g k C D y B z E m n r j i c d a;obtain⟨F,xs,e,f,o⟩:=j;obtain⟨s,u,rfl⟩:=ed f;simp only[bT,zT,zu,zm,yB,yK]at e;obtain⟨rfl,⟨rfl,rfl,rfl⟩,⟨rfl,rfl,rfl⟩,rfl,rfl,rfl⟩:=e;simp only[Pat.nd,Pat.rg]at d a;exact gO (l:=[p]) (.inr (.inl ⟨rfl,p,rfl,rfl⟩)) i f (pR o) (λq h=>by simp at h;subst h;exact t) (λq h=>by simp at h;subst h;exact c) (by simp only[bH];omega) (by simp only[cr];omega)
 |.many p m' n'=>by
  have t:=nr p;intro w A g k C D y B z E m n r j i c d a;obtain⟨F,xs,e,f,o⟩:=j;obtain⟨s,u,rfl⟩:=ed f;simp only[bT,zT,zu,zm,yB,yK]at e;obtain⟨rfl,⟨rfl,rfl,rfl⟩,⟨rfl,rfl,rfl⟩,rfl,rfl,rfl⟩:=e;simp only[Pat.nd,Pat.rg]at d a;exact gO (l:=[p]) (.inr (.inr (.inr (.inl ⟨rfl,p,rfl,rfl,c.2⟩)))) i f (pR o) (λq h=>by simp at h;subst h;exact t) (λq h=>by simp at h;subst h;exact c.1) (by simp only[bH];omega) (by simp only[cr];omega)
 |.group p=>by
  have t:=nr p;intro w A g k C D y B z E m n r j i c d a;obtain⟨F,xs,e,f,o⟩:=j;obtain⟨s,u,rfl⟩:=ed f;simp only[bT,zT,zu,zm,yB,yK]at e;obtain⟨rfl,⟨rfl,rfl,rfl⟩,⟨rfl,rfl,rfl⟩,rfl,rfl,rfl⟩:=e;simp only[Pat.nd,Pat.rg]at d a;exact gO (l:=[p]) (.inr (.inr (.inl ⟨rfl,p,rfl,rfl⟩))) i f (pR o) (λq h=>by simp at h;subst h;exact t) (λq h=>by simp at h;subst h;exact c) (by simp only[bH];omega) (by simp only[cr];omega)
theorem oC:∀l:List Pat,∀p∈l,Lt p
 | [],p,h=>by simp at h
 |q::l,p,h=>by
  have b:=nr q;have a:=oC l;rcases zO.1 h with rfl|h
  ·exact b
  ·exact a p h
end
theorem iQ {e size:Nat}(h:w.ownsRow B e size (.slice lo n cap) n xs):cg w (λg=>B<=g) lo xs:=λj u a=>by
 rcases h.2 with⟨l,f⟩|⟨g,c,i,e,d,k,r⟩
 ·have:=h.1;rw[f,Nat.zero_mul]at this;rw[yf this]at a;simp at a
 ·injection e with e1 e2 e3;subst e1 e3;have b:=h.cells (g:=g) rfl j u a;rw[zl]at b;exact⟨g,0,rfl,d,(h.lt g rfl).2,b⟩
theorem kf {e size:Nat}(h:w.ownsRow B e size (.slice lo n cap) n xs):n<=cap/\(lo=none->n=0/\cap=0)/\∀ad,lo=some ad->∃g,ad=(aD g 0):=by
 rcases h.2 with⟨b,c⟩|⟨g,a,d,e,i,f,r,_⟩
 ·injection b with e1 e2 e3;subst e1 e3;exact⟨by omega,λ_=>⟨c,rfl⟩,λ_ e=>by cases e⟩
 ·injection e with e1 e2 e3;subst e1 e3;exact⟨r,λe=>(by cases e),λad e=>by injection e with e;exact⟨g,e.symm⟩⟩
theorem EZ {l:LZ}:∀u∈bj l,u.oneCell'=true:=by
 intro u a;obtain⟨c,_,rfl⟩:=yH.1 a;rfl
theorem qJ {l:LZ}{i:Nat}{c:Int}(h:l[i]?=some c):(bj l)[i]?=some (Vi c):=by
 unfold bj;rw[zg,h];rfl
theorem OE (hr:cg w A lo xs){k:Nat}(hn:xs.length=n)(hc:n<=cap){ao:OA}(hao:¬cap=k->∀b off,lo=some (aD b off)->ao=some ⟨b,off+k,none⟩):∀ad,ao=some ad->∀j u,(xs.drop k)[j]?=some u->w.cell? (ad.add j)=some u:=λad e j u a=>by
 rw[List.getElem?_drop]at a;have d:=(zC.1 a).1;obtain⟨b,off,c,_,_,hc⟩:=hr _ u a;rw[hao (by omega) b off c]at e;injection e with e;subst e;rw[zl,show off+k+j=off+(k+j) by omega];exact hc
theorem Lw {l:LZ}{k:Nat}(hs:l.Pairwise (·<·))(h1:∀y∈l.take k,y<x)(h2:∀y,l[k]?=some y->x<y):(l.take k++x::l.drop k).Pairwise (·<·):=by
 rw[yA];have e:∀y∈l.drop k,x<y:=by
  intro y c;cases hdk:l.drop k with
  |nil=>rw[hdk]at c;simp at c
  |cons z t=>
   have j:l[k]?=some z:=by
    have:(l.drop k)[0]?=some z:=by rw[hdk];rfl
    rw[List.getElem?_drop]at this;simpa using this
   have h:=h2 z j;rw[hdk]at c;have f:=hs.sublist (List.drop_sublist k l);rw[hdk,yg]at f;rcases zO.1 c with rfl|c
   ·exact h
   ·have:=f.1 y c;omega
 refine⟨hs.sublist (List.take_sublist k l),?_,?_⟩
 ·rw[yg];exact⟨e,hs.sublist (List.drop_sublist k l)⟩
 ·intro a g b d;have i:=h1 a g;rcases zO.1 d with rfl|d
  ·exact i
  ·have:=e b d;omega
theorem RY {l:LZ}(k:Nat)(y:Int):y∈l.take k++x::l.drop k↔y∈l\/y=x:=by
 have h:y∈l↔y∈l.take k\/y∈l.drop k:=by
  rw[<-zM,zj]
 rw[zM,zO,h];constructor
 ·rintro (h|h|h)
  ·exact .inl (.inl h)
  ·exact .inr h
  ·exact .inl (.inr h)
 ·rintro ((h|h)|h)
  ·exact .inl h
  ·exact .inr (.inr h)
  ·exact .inr (.inl h)
def YZ (w:World)(B:Nat)(l:List Int)(x:Int)(e:Ending)(w':World):Prop:=∃v' l',e=.returned v'/\w'.ownsRow B 3 1 v' l'.length (bj l')/\l'.Pairwise (·<·)/\(∀y,y∈l'↔y∈l\/y=x)/\l'.length<=l.length+1/\Below w.heap.size w w'
theorem xT {lo0:OA}{cap0:Nat}{l:LZ}(hB:B<=w.heap.size)(hown:w.ownsRow B 3 1 (.slice lo0 l.length cap0) l.length (bj l))(hlen:l.length<=1000000)(hs:l.Pairwise (·<·)):Calls prog 39 #[.slice lo0 l.length cap0,Vi x] w (YZ w B l x):=by
 obtain⟨a4,p,G⟩:=kf hown;have HR:=aa ((iQ hown).mono (A':=λg=>B<=g/\g<w.heap.size) (λg a s=>⟨s,a⟩));have HO:=aa hown;have HS:=aa hs;have a6:=aa p;have a2:=aa G;have HB:=aa hB;have W:=aa a4;clear hown hs p G hB;obtain⟨i0,hi,N,H,I⟩:=zz jo;go_enter func39,ntmps39;go_upto_region 1 with fail;generalize hS:w.heap.size=S at *;go_wp2_with fail
 go_loopw [5] (λi wr=>∃k:Nat,k<=l.length/\i=Vi k/\(∀y∈l.take k,y<x)/\Bw w wr) (λi _=>l.length-(intOf i).toNat)
 case atStart=>exact⟨0,zW _,rfl,λy h=>by simp at h,zE _ _⟩
 case round=>
  obtain⟨k,hk,rfl,Z,f⟩:=hrel;go_upto_region 2 with fail;have q:=aa f;have b3:=aa Z;clear Z
  go_cut [18] (λv wx=>∃b:Bool,v=.bool b/\(b=true↔∃y,l[k]?=some y/\y<x)/\wx=wr)
  case first=>
   have i1:(0:Int)<=(k:Int):=zK _;by_cases C:k<l.length
   ·obtain⟨y,r⟩:∃y,l[k]?=some y:=⟨_,zB C⟩;obtain⟨b,b1,rfl,_,hb,hc⟩:=(HR.out.below f) k _ (qJ r);obtain⟨g,hg⟩:=a2.out _ rfl;injection hg with e1 e2 e3;subst e1 e2;have y5:wr.cell? (aD b k)=some (Vi y):=by simpa using hc
    have i2:(k:Int)<(l.length:Int):=by omega
    have HY:=aa r;clear hc f r;go_wp2_with fail
    go_meet
    case rel=>exact⟨_,rfl,⟨λh=>⟨y,HY,by simpa using h⟩,λ⟨z,a,s⟩=>by rw[HY.out]at a;injection a with a;subst a;simpa using s⟩,rfl⟩
   ·have hd:decide ((k:Int)<(l.length:Int))=false:=by simp;omega
    clear f;go_wp2_with fail
    go_meet
    case rel=>exact⟨false,rfl,⟨λh=>(by cases h),λ⟨z,a,_⟩=>by have:=(zC.1 a).1;omega⟩,rfl⟩
  case rest=>
   obtain⟨b,rfl,d,o⟩:=hcut;replace o:=o.symm;subst o;clear f;cases b with
   |true=>
    obtain⟨y,r,a9⟩:=d.1 rfl;have C:=(zC.1 r).1;have a1:Hid (∀z∈l.take (k+1),z<x):=λz hz=>by
     rw[zi,r]at hz;rcases zM.1 hz with h|h
     ·exact b3 z h
     ·simp at h;subst h;exact a9
    have i1:(0:Int)<=(k:Int):=zK _;clear d r a9;go_wp2_with fail
    go_roundw
    case rel=>exact⟨k+1,by omega,by go_num,a1,q⟩
    case measure=>simp[intOf];omega
   |false=>
    have b6:Hid (∀y,l[k]?=some y->¬y<x):=λy a s=>by have:=d.2 ⟨y,a,s⟩;cases this
    clear d;have A:=q.out;go_upto_region 4 with fail
    go_cut [32] (λv wx=>∃b:Bool,v=.bool b/\(b=true↔l[k]?=some x)/\wx=wr)
    case first=>
     have i1:(0:Int)<=(k:Int):=zK _;by_cases C:k<l.length
     ·obtain⟨y,r⟩:∃y,l[k]?=some y:=⟨_,zB C⟩;obtain⟨b,b1,rfl,_,hb,hc⟩:=(HR.out.below A) k _ (qJ r);obtain⟨g,hg⟩:=a2.out _ rfl;injection hg with e1 e2 e3;subst e1 e2;have y5:wr.cell? (aD b k)=some (Vi y):=by simpa using hc
      have i2:(k:Int)<(l.length:Int):=by omega
      have HY:=aa r;clear hc A r;go_wp2_with fail
      go_meet
      case rel=>exact⟨_,rfl,⟨λh=>by rw[HY.out];simpa using h,λa=>by rw[HY.out]at a;injection a with a;subst a;simp⟩,rfl⟩
     ·have hd:decide ((k:Int)<(l.length:Int))=false:=by simp;omega
      clear A;go_wp2_with fail
      go_meet
      case rel=>exact⟨false,rfl,⟨λh=>(by cases h),λa=>by have:=(zC.1 a).1;omega⟩,rfl⟩
    case rest=>
     obtain⟨b,rfl,d,o⟩:=hcut;replace o:=o.symm;subst o;clear A;cases b with
     |true=>
      have a7:=aa (zU (d.1 rfl));clear d;go_wp2_with fail;go_ret;have b2:=q.out;exact⟨_,l,rfl,bg HO b2,HS,λy=>⟨.inl,λh=>h.elim id (λe=>e▸a7.out)⟩,yN _,b2⟩
     |false=>
      have b4:Hid (∀y,l[k]?=some y->x<y):=λy h=>by
       have a:=b6.out y h;have s:y≠x:=λe=>by have:=d.2 (e▸h);cases this
       omega
      clear d;obtain⟨J,O⟩:∃J,wr=J:=⟨_,rfl⟩;have D:Bw w J:=by rw[<-O];exact q
      have b9:=aa D;have a0:=aa (HR.below D);have M:Hid ((bj l).length=l.length):=by show _=_;simp[bj]
      have K:S<=J.heap.size:=by rw[<-hS];exact D.size
      rw[O];clear O q D;have i1:(0:Int)<=(k:Int):=zK _;have i2:(k:Int)<=(l.length:Int):=by omega
      have i3:(l.length:Int)<=(cap0:Int):=by omega
      go_upto_region 7 with fail;go_upto_region 8 with (at_builtin;refine eO rfl (.tmp 34) (.tmp 37) 61 3 i0 _ 1 8 rfl underlying61 hi N H I rfl (by decide) S 0 _ [] rfl (zZ _ _ _ _) _ k _ ((bj l).take k) rfl (λe=>by obtain⟨a,s⟩:=a6.out e;exact⟨by omega,by omega⟩) (by rw[yn,M.out];omega) (El a0 _) (λu R=>EZ u (yi R)) (by unfold maxLen;omega) (by omega) K ?_;intro v2 w2 c E);have a5:Below S J w2:=cD (v:=Vz) (n:=0) (xs:=[]) (zE _ _) K (zZ _ _ 3 1) E;rw[zd,zf]at c;obtain⟨c9,c7,rfl⟩:=cd c;have b5:=aa c;have V:=aa a5;clear c a5 E;obtain⟨W3,U,t,a3,-⟩:=dS (rfl:w2.heap.size=_) [Vi x] 3;replace t:Below _ _ W3:=t;have a8:=aa (bg b5 t);have b8:=aa a3;have c4:=aa U;have c3:=aa t;have d0:S<=w2.heap.size:=zJ K V.size;have d1:w2.heap.size<=W3.heap.size:=t.size;clear U t a3;go_upto_region 9 with (at_builtin;rw[c4.out];refine eO rfl (.tmp 39) (.tmp 41) 61 3 i0 _ 1 8 rfl underlying61 hi N H I rfl (by decide) S k _ _ rfl a8 _ 1 _ [Vi x] rfl (λe=>by cases e) rfl (λad e j u hj=>by injection e with e;subst e;rw[zl,zf,b8.out.cell];exact hj) (λu R=>by simp at R;subst R;rfl) (by unfold maxLen;omega) (by omega) (by omega) ?_;intro v4 X m F);have T:S<=W3.heap.size:=by omega
      have L:Below S W3 X:=cD (zE _ _) T a8 F;obtain⟨d2,c8,rfl⟩:=cd m;have P:Hid (Below S J X):=(V.trans (c3.mono (by omega))).trans L;have Y:=aa m;have c2:S<=X.heap.size:=zJ T L.size;have c5:Hid (cg X (λg=>B<=g/\g<S) lo0 (bj l)):=by
       exact a0.keep ⟨P.size,λg a s=>P.block g s.2⟩
      clear m F L;go_wp2_with (at_builtin;refine eO rfl (.tmp 43) (.tmp 46) 61 3 i0 _ 1 8 rfl underlying61 hi N H I rfl (by decide) S (k+1) _ _ rfl Y _ (l.length-k) _ ((bj l).drop k) rfl (λe=>by have a:=a6.out (by first|exact e|(split at e;exact e;simpa using e)|simpa using e);obtain⟨s,h3⟩:=a;exact⟨by omega,by omega⟩) (by rw[yO,M.out];omega) (OE c5 (n:=l.length) (cap:=cap0) M W (by intro c0 b b1 e;simp[c0,e,Addr.add])) (λu R=>EZ u (List.mem_of_mem_drop R)) (by unfold maxLen;omega) (by omega) (by omega) ?_;intro v5 w5 Q b0)
      all_goals
       go_ret;have b7:Below S X w5:=cD (zE _ _) c2 Y b0;have c1:Below S J w5:=P.trans b7;have c6:Bw w w5:=b9.trans (by rw[hS];exact c1);refine⟨v5,l.take k++x::l.drop k,rfl,?_,Lw HS b3 b4,RY k,by simp;omega,c6⟩;have e:(l.take k++x::l.drop k).length=k+1+(l.length-k):=by simp;omega
       rw[e];exact ij (by simpa [zc,bj]using Q) (by have:=HB.out;omega)
