import Derived.Test.YtebnghmioamheaaGreatDoorM47
set_option linter.all false
namespace Go.Proofs.YtebnghmioamheaaGreatDoor
open Go.RowKit Brm Tryz
variable {l:List Pat}{t v u:Tm}{p:Pat}{w:World}{A:NP}{lo:OA}{xs:LV}{n B cap:Nat}{x:Int}
theorem pW:∀p:Pat,1<=p.nd
 |.set _=>by simp[Pat.nd]
 |.row l=>by simp[Pat.nd]
 |.or l=>by simp[Pat.nd]
 |.and l=>by simp[Pat.nd]
 |.not p=>by simp[Pat.nd]
 |.many p _ _=>by simp[Pat.nd]
 |.group p=>by simp only[Pat.nd];exact pW p
abbrev fA (p:Pat):Tm->Prop:=Gd p.Mt p.me.z (36*p.nd+20*p.rg-12)
def cL:List Pat->List Tm->Prop
 | [],[]=>True
 |p::l,t::m=>fA p t/\cL l m
 |_,_=>False
theorem cL.snoc {p:Pat}{u:Tm}:∀{l:List Pat} {m:List Tm},cL l m->fA p u->cL (l++[p]) (m++[u])
 | [],[],_,k=>⟨k,trivial⟩
 |_::_,_::_,h,k=>⟨h.1,cL.snoc h.2 k⟩
theorem cL.len:∀{l:List Pat} {m:List Tm},cL l m->m.length=l.length
 | [],[],_=>rfl
 |_::_,_::_,h=>by rw[zG,zG,cL.len h.2]
theorem cL.ok:∀{l:List Pat} {m:List Tm},cL l m->dW m
 | [],[],_=>trivial
 |_::_,_::_,h=>⟨h.1.ok,cL.ok h.2⟩
theorem cL.tl:∀{l:List Pat} {m:List Tm},cL l m->bw m+12*m.length<=36*bH l+20*cr l
 | [],[],_=>zA _
 |p::l,t::m,h=>by
  have c:=h.1.tl;have b:=cL.tl h.2;have a:=pW p;simp only[bw,bH,cr,zG];omega
theorem cL.z:∀{l:List Pat} {m:List Tm},cL l m->bd m<=zL l
 | [],[],_=>zA _
 |p::l,t::m,h=>by
  have b:=h.1.z;have a:=cL.z h.2;have e:zL (p::l)=p.me.z+zL l:=rfl;rw[e];simp only[bd];omega
theorem cL.or {v:LZ}:∀{l:List Pat} {m:List Tm},cL l m->(kI m v↔gy l v)
 | [],[],_=>Iff.rfl
 |p::l,t::m,h=>by
  have a:=h.1.lg;simp only[kI,gy,cL.or h.2];rw[a]
theorem cL.and {v:LZ}:∀{l:List Pat} {m:List Tm},cL l m->(iz m v↔eG l v)
 | [],[],_=>Iff.rfl
 |p::l,t::m,h=>by
  have a:=h.1.lg;simp only[iz,eG,cL.and h.2];rw[a]
theorem cL.at:∀{l:List Pat} {m:List Tm},cL l m->∀{i:Nat} {p:Pat} {t:Tm},l[i]?=some p->m[i]?=some t->fA p t
 | [],[],_,i,p,t,h,_=>by simp at h
 |q::l,u::m,h,0,p,t,h1,h2=>by
  simp at h1 h2;subst h1 h2;exact h.1
 |q::l,u::m,h,i+1,p,t,h1,h2=>cL.at h.2 (i:=i) (by simpa using h1) (by simpa using h2)
mutual
theorem pX:∀t:Tm,t.z<=t.tl
 |.none=>by show 1<=12;omega
 |.empty=>by show 1<=12;omega
 |.set _=>by show 1<=12+_;omega
 |.row a b=>by have c:=pX a;have d:=pX b;show a.z+b.z<=a.tl+b.tl+12;omega
 |.or l=>by have c:=mJ l;show max 1 (bd l)<=bw l+12;omega
 |.and l=>by have c:=mJ l;show max 1 (bd l)<=bw l+12;omega
 |.not t=>by have c:=pX t;show t.z<=t.tl+12;omega
 |.many t _ _=>by have c:=pX t;show t.z+1<=t.tl+12;omega
theorem mJ:∀l:List Tm,bd l<=bw l
 | []=>zA _
 |t::l=>by have b:=pX t;have a:=mJ l;simp only[bd,bw];omega
end
theorem YE (l:List Pat):(Pat.and l).me.z=max 1 (zL l):=by
 have e:sumA (λa:Me=>(bB a).z) (bX l)=zL l:=rfl;simp only[Pat.me,bB,orA,nJ];rw[<-e];rfl
theorem Xr {m:List Tm}(h:cL l m)(hg:SomeG 5 m t):fA (.or l) t:=by
 have a:=hg.z;have b:=h.z;have d:=hg.tl;have c:=h.tl;refine⟨hg.ok,?_,?_,?_⟩
 ·funext u;exact propext ((hg.or rfl u).trans h.or)
 ·have e:(Pat.or l).me.z=max 1 (zL l):=rfl;rw[e];omega
 ·simp only[Pat.nd,Pat.rg];omega
theorem Vy {m:List Tm}(h:cL l m)(hg:SomeG 6 m t):fA (.and l) t:=by
 have d:=hg.z;have b:=h.z;have a:=hg.tl;have c:=h.tl;refine⟨hg.ok,?_,?_,?_⟩
 ·funext u;exact propext ((hg.and rfl u).trans h.and)
 ·rw[YE];omega
 ·simp only[Pat.nd,Pat.rg];omega
structure RowG (l:List Pat)(t:Tm):Prop where
 ok:t.Ok
 lg:t.L=λu=>jl l u
 z:t.z<=(Pat.row l).me.z
 tl:t.tl<=36*bH l+20*cr l+12
 e:l=[]->t=.empty
theorem RS:RowG [] .empty:=⟨trivial,by rw[Tm.L_empty];rfl,by simp[Tm.z,Pat.me,bX,rwsM,aV],by simp[Tm.tl,bH,cr],λ_=>rfl⟩
theorem ww (h:fA p t)(hok:v.Ok)(hl:v.L=t.L)(hz:v.z<=t.z)(ht:v.tl<=t.tl):RowG [p] v:=by
 have d:=h.z;have f:=h.tl;refine⟨hok,?_,?_,?_,λe=>by cases e⟩
 ·rw[hl,h.lg];funext u;refine propext ⟨λk=>⟨u,[],by simp,k,rfl⟩,?_⟩;rintro⟨a,b,rfl,k,e⟩;have c:b=[]:=e;subst c;simpa using k
 ·have e:(Pat.row [p]).me.z=p.me.z:=rfl;rw[e];omega
 ·simp only[bH,cr];omega
theorem Oz (hne:l≠[])(h:fA p t)(k:RowG l u)(hg:Gd (aJ t.L u.L) (t.z+u.z) (t.tl+u.tl+12) v):RowG (p::l) v:=by
 have a:=h.z;have b:=h.tl;have f:=k.z;have c:=k.tl;have d:=hg.z;have g:=hg.tl;have i:=pW p;refine⟨hg.ok,?_,?_,?_,λe=>by cases e⟩
 ·rw[hg.lg,h.lg,k.lg];rfl
 ·have e:(Pat.row (p::l)).me.z=p.me.z+(Pat.row l).me.z:=by
   show (rwsM (p.me::bX l)).z=_
   rw[Dd (by rw[im];simpa using hne)];rfl
  rw[e];omega
 ·simp only[bH,cr];omega
theorem VA (h:RowG l t):fA (.row l) t:=by
 refine⟨h.ok,h.lg,h.z,?_⟩;have:=h.tl;simp only[Pat.nd,Pat.rg];omega
theorem Xv (h:fA p t)(k:RowG l u){soa:OA}{sna sca:Nat}{loa:OA}{lna lca:Nat}{ma na:Int}{sa:ByteArray}{sob:OA}{snb scb:Nat}{lob:OA}{lnb lcb:Nat}{mb nb:Int}{sb:ByteArray}(hA:∀g,A g->g<w.heap.size)(hv:aj w A t (TC t.kind soa sna sca loa lna lca ma na sa))(hu:aj w A u (TC u.kind sob snb scb lob lnb lcb mb nb sb))(hb:t.tl+u.tl<=6900000000000000000):Calls prog 38 #[.agg #[Vi t.kind,.slice soa sna sca,.slice loa lna lca,Vi ma,Vi na,.string sa],.agg #[Vi u.kind,.slice sob snb scb,.slice lob lnb lcb,Vi mb,Vi nb,.string sb]] w (eH w A (RowG (p::l))):=by
 cases l with
 |nil=>
  obtain rfl:=k.e rfl;have f:=fE t;have d:=mh t;by_cases a:t.kind=1
  ·refine (qA (A:=A) (.inl a)).mono λe c g=>g.weak λv hv=>?_;subst hv;exact ww h trivial (by rw[rp a]) f d
  ·by_cases b:t.kind=2
   ·refine (Ob (t:=.empty) hA (by simp[Tm.kind]) b rfl hu).mono λe c g=>g.weak λv hv=>?_;subst hv;exact ww h trivial (by rw[rq b]) f d
   ·refine (Et (t:=t) hA a b rfl rfl hv).mono λe c g=>g.weak λv hv=>?_;subst hv;exact ww h h.ok rfl (zA _) (zA _)
 |cons q l=>exact (nY t w A u _ _ _ _ _ _ _ _ _ _ _ _ _ _ _ _ _ _ hA hv hu h.ok k.ok hb).mono λe c g=>g.weak λv hv=>Oz (by simp) h k hv
theorem VB (h:fA p t)(hg:Gd (fZ t.L) t.z (t.tl+12) v):fA (.not p) v:=by
 have a:=h.z;have b:=h.tl;have f:=hg.z;have c:=hg.tl;have d:=pW p;refine⟨hg.ok,by rw[hg.lg,h.lg];rfl,?_,?_⟩
 ·have e:(Pat.not p).me.z=p.me.z:=rfl;omega
 ·simp only[Pat.nd,Pat.rg];omega
theorem RT {m n:Int}(h:fA p t)(hg:Gd (dB t.L m n) (t.z+1) (t.tl+12) v):fA (.many p m n) v:=by
 have a:=h.z;have b:=h.tl;have f:=hg.z;have c:=hg.tl;have d:=pW p;refine⟨hg.ok,by rw[hg.lg,h.lg];rfl,?_,?_⟩
 ·have e:(Pat.many p m n).me.z=p.me.z+1:=rfl;omega
 ·simp only[Pat.nd,Pat.rg];omega
def Lt (p:Pat):Prop:=∀(w:World) (A:Nat->Prop) (g:Nat) (k:Int) (so:Option Addr) (sn sc:Nat) (lo:Option Addr) (ln lc:Nat) (m n r:Int),NV w A p (bT k so sn sc lo ln lc m n r) g->(∀g,A g->g<w.heap.size)->p.Ok->p.nd<=1000000->p.rg<=100000 ->
 Calls prog 17 #[.agg #[Vi k,.slice so sn sc,.slice lo ln lc,Vi m,Vi n,Vi r]] w (eH w A (fA p))
theorem ur:∀{l:List Pat} {p:Pat},p∈l->p.nd<=bH l
 |q::l,p,h=>by
  simp only[bH];rcases zO.1 h with rfl|h
  ·omega
  ·have:=ur h;omega
theorem Bp:∀{l:List Pat} {p:Pat},p∈l->p.rg<=cr l
 |q::l,p,h=>by
  simp only[cr];rcases zO.1 h with rfl|h
  ·omega
  ·have:=Bp h;omega
theorem Bq:∀l:List Pat,l.length<=bH l
 | []=>zA _
 |p::l=>by have b:=pW p;have a:=Bq l;simp only[bH,zG];omega
set_option maxHeartbeats 8000000
set_option maxRecDepth 100000
theorem ag.belowU {w':World}{U b:Nat}{cs:LV}{T:TypeId}(h:ag w b cs T)(k:Below U w w')(hb:b<U):ag w' b cs T:=(k.block b hb).trans h
theorem JD:∀(l:List Pat) (k:Nat),bH (l.drop k)<=bH l/\cr (l.drop k)<=cr l
 |l,0=>by simp
 | [],k+1=>by simp
 |p::l,k+1=>by
  have:=JD l k;simp only[List.drop_succ_cons,bH,cr];omega
def Zb (w:World)(A:Nat->Prop)(l:List Pat)(K:Int)(so:Option Addr)(sn:Nat)(m n:Int)(P:Pat):Prop :=
 (∃K',(K'=5/\K=3\/K'=6/\K=4)/\l≠[]/\∀us t,cL l us->SomeG K' us t->fA P t)\/(K=5/\∃p,P=.not p/\l=[p])\/(K=7/\∃p,P=.group p/\l=[p]) \/
 (K=6/\∃p,P=.many p m n/\l=[p]/\0<=m/\m<=5/\(n=-1\/(m<=n/\n<=5))) \/
 (K=1/\∃bs os q,so=some ⟨bs,os,none⟩/\sn=q.length/\P=.set (told q)/\PCanon q/\q≠[]/\q.length<=100000/\A bs/\Rd w (some ⟨bs,os,none⟩) q)\/(K=1/\sn=0/\P=.set [])\/(K=2/\P=.row l)
abbrev XG (A:Nat->Prop)(N:Nat)(G:Tm->Prop)(wr:World)(e:Ending)(w6:World):Prop :=
 ∃t so sn sc lo ln lc m n s,e=.returned (.agg #[Vi (Tm.kind t),.slice so sn sc,.slice lo ln lc,Vi m,Vi n,.string s])/\Hid (aj w6 (λg=>A g\/N<g) t (TC t.kind so sn sc lo ln lc m n s))/\Hid (G t)/\Below wr.heap.size wr w6
theorem gO {lc g:Nat}{K m n r:Int}{so:OA}{sn sc:Nat}{P:Pat}(hpat:Zb w A l K so sn m n P)(hA:∀g,A g->g<w.heap.size)(ho:cB w A 27 6 (.slice lo l.length lc) l.length xs)(hnl:NL w A l xs g)(ih:∀p∈l,Lt p)(hok:∀p∈l,p.Ok)(hnd:bH l<=1000000)(hrg:cr l<=100000):Calls prog 17 #[.agg #[Vi K,.slice so sn sc,.slice lo l.length lc,Vi m,Vi n,Vi r]] w (eH w A (fA P)):=by
 obtain⟨H,o9,a5,o7,n8,o8⟩:=jK (rfl:w.heap.size=_) [Vi K,.slice so sn sc,.slice lo l.length lc,Vi m,Vi n,Vi r] 27 TZ 58;have q9:Hid (∀(i:Nat) (p:Pat) (wr:World),l[i]?=some p->Bw H wr->∃k9 d4 d3 d1 c6 d2 b7 m9 n9 r9 b,lo=some (aD b 0)/\b<wr.heap.size/\wr.cell? ⟨b,i*6,none⟩=some (Vi k9)/\wr.cell? ⟨b,i*6+1,none⟩=some (.slice d4 d3 d1)/\wr.cell? ⟨b,i*6+2,none⟩=some (.slice c6 d2 b7)/\wr.cell? ⟨b,i*6+3,none⟩=some (Vi m9)/\wr.cell? ⟨b,i*6+4,none⟩=some (Vi n9)/\wr.cell? ⟨b,i*6+5,none⟩=some (Vi r9)/\Hid (Calls prog 17 #[.agg #[Vi k9,.slice d4 d3 d1,.slice c6 d2 b7,Vi m9,Vi n9,Vi r9]] wr (eH wr A (fA p)))):=λi p wr hi hb=>by
  have hm:=zU hi;have p9:=(zC.1 hi).1;have h1:=ur hm;have h2:=Bp hm;obtain⟨cc,gg,o3,u4⟩:=NL.at l xs g hnl i p hi;obtain⟨k9,d4,d3,d1,c6,d2,b7,m9,n9,r9,rfl⟩:=o3.len;obtain⟨b,a6,s8,s0,c0,c1,c2,c3,c4,c5⟩:=IX ((ho.below a5).below hb) p9 u4;injection s8 with e1 e2 e3;exact⟨k9,d4,d3,d1,c6,d2,b7,m9,n9,r9,b,e1,s0,c0,c1,c2,c3,c4,c5,ih p hm wr A gg k9 d4 d3 d1 c6 d2 b7 m9 n9 r9 ((o3.below a5).below hb) (λg a=>zF (hA g a) (zJ a5.size hb.size)) (hok p hm) (by omega) (by omega)⟩
 have v6:l.length<=1000000:=zJ (Bq l) hnd;have p1:=aa hnd;have p7:=aa hrg;have b5:=aa o7;have b3:=aa n8;have b2:=aa a5;have q7:=aa o9;have HA:=aa hA;have G:=aa o8;have o1:=aa hpat;have u2:Hid (∀K' wr g6 a6 L ys,(K'=5/\K=3\/K'=6/\K=4)->l≠[]->Bw H wr->wr.ownsRow H.heap.size 58 6 (.slice g6 L.length a6) L.length ys->aO wr (λg=>A g\/H.heap.size<=g) L ys->cL l L->Calls prog 34 #[.slice g6 L.length a6,Vi K'] wr (XG A (w.heap.size+1) (SomeG K' L) wr)):=λK' wr g6 a6 L ys hK g9 hb a8 g7 c7=>by
  have h1:=c7.tl;have h2:=mJ L;have h3:=hb.size;have p2:L≠[]:=λe=>g9 (by have:=c7.len;rw[e]at this;exact yf this.symm);refine (sT (hK.imp And.left And.left) (A:=λg=>(A g\/H.heap.size<=g)/\g<wr.heap.size) (λg a=>a.2) ((fN a8).mono (λg a h=>⟨.inr h,a⟩)) (aO.mono (λg a h=>⟨h,a⟩) _ _ g7) c7.ok p2 (by omega) (by omega)).mono ?_;rintro e w6 ⟨t,so,sn,sc,lo,ln,lc,m,n,s,rfl,g1,g2,g3⟩;exact⟨t,so,sn,sc,lo,ln,lc,m,n,s,rfl,aj.mono (λg _ a=>by rcases a with⟨a|a,_⟩|a;exact .inl a;exact .inr (by omega);exact .inr (by omega)) _ _ g1,g2,g3⟩
 have u1:Hid (∀p wr t C z D B y E Z nx sx,Bw H wr->aj wr (λg=>A g\/H.heap.size<=g) t (TC t.kind C z D B y E Z nx sx)->fA p t->t.tl<=80000000->Calls prog 35 #[.agg #[Vi t.kind,.slice C z D,.slice B y E,Vi Z,Vi nx,.string sx]] wr (XG A (w.heap.size+1) (fA (.not p)) wr)):=λp wr t C z D B y E Z nx sx hb hv a ht=>by
  have h3:=hb.size;refine (Ki (A:=λg=>(A g\/H.heap.size<=g)/\g<wr.heap.size) (λg a=>a.2) (aj.mono (λg a h=>⟨h,a⟩) _ _ hv) a.ok (by omega)).mono ?_;rintro e w6 ⟨t',so,sn,sc,lo,ln,lc,m,n,s,rfl,g1,g2,g3⟩;exact⟨t',so,sn,sc,lo,ln,lc,m,n,s,rfl,aj.mono (λg _ a=>by rcases a with⟨a|a,_⟩|a;exact .inl a;exact .inr (by omega);exact .inr (by omega)) _ _ g1,VB a g2,g3⟩
 have r8:Hid (∀p wr t C z D B y E Z nx sx,(0<=m/\m<=5/\(n=-1\/(m<=n/\n<=5)))->Bw H wr->aj wr (λg=>A g\/H.heap.size<=g) t (TC t.kind C z D B y E Z nx sx)->fA p t->t.tl<=80000000->Calls prog 36 #[.agg #[Vi t.kind,.slice C z D,.slice B y E,Vi Z,Vi nx,.string sx],Vi m,Vi n] wr (XG A (w.heap.size+1) (fA (.many p m n)) wr)):=λp wr t C z D B y E Z nx sx hm hb hv a ht=>by
  have h3:=hb.size;refine (Cy (A:=λg=>(A g\/H.heap.size<=g)/\g<wr.heap.size) m n (λg a=>a.2) hm.1 hm.2.1 hm.2.2 (aj.mono (λg a h=>⟨h,a⟩) _ _ hv) a.ok (by omega)).mono ?_;rintro e w6 ⟨t',so,sn,sc,lo,ln,lc,m',n',s,rfl,g1,g2,g3⟩;exact⟨t',so,sn,sc,lo,ln,lc,m',n',s,rfl,aj.mono (λg _ a=>by rcases a with⟨a|a,_⟩|a;exact .inl a;exact .inr (by omega);exact .inr (by omega)) _ _ g1,RT a g2,g3⟩
 have u9:Hid (∀bs os q cs wr,PCanon q->q.length<=100000->A bs->Rd w (some ⟨bs,os,none⟩) q->Bw H wr->Calls prog 33 #[.agg #[Vi 3,.slice (some ⟨bs,os,none⟩) q.length cs,Vz,Vi 0,Vi 0,.string ⟨#[]⟩]] wr λe N=>∃s,e=.returned (.agg #[Vi 3,.slice (some ⟨bs,os,none⟩) q.length cs,Vz,Vi 0,Vi 0,.string s])/\aj N A (.set q) (TC 3 (some ⟨bs,os,none⟩) q.length cs none 0 0 0 0 s)/\Bw wr N):=λbs os q cs wr hq h6 h7 h0 hb=>Pt _ (λi x hx=>by
   obtain⟨b',v2,e,d9,c1,c2⟩:=h0 i x hx;injection e with e;injection e with e1 e2;subst e1 e2;exact⟨bs,os,rfl,h7,zF d9 (zJ a5.size hb.size),(hb.cell (p:=⟨bs,_,none⟩) (zF d9 a5.size)).trans ((a5.cell (p:=⟨bs,_,none⟩) d9).trans c1),(hb.cell (p:=⟨bs,_,none⟩) (zF d9 a5.size)).trans ((a5.cell (p:=⟨bs,_,none⟩) d9).trans c2)⟩) hq h6
 have u7:Hid (∀(k U:Nat) (p:Pat) (t u:Tm) (wr:World) (C:Option Addr) (z D:Nat) (B:Option Addr) (y E:Nat) (Z nx:Int) (sx:ByteArray) (m4:Option Addr) (i9 m2:Nat) (l8:Option Addr) (l7 j8:Nat) (my ny:Int) (sy:ByteArray),l[k]?=some p->fA p t->RowG (l.drop (k+1)) u->aj wr (λg=>(A g\/H.heap.size<=g)/\g≠U) t (TC t.kind C z D B y E Z nx sx)->aj wr (λg=>(A g\/H.heap.size<=g)/\g≠U) u (TC u.kind m4 i9 m2 l8 l7 j8 my ny sy)->U<wr.heap.size->Calls prog 38 #[.agg #[Vi t.kind,.slice C z D,.slice B y E,Vi Z,Vi nx,.string sx],.agg #[Vi u.kind,.slice m4 i9 m2,.slice l8 l7 j8,Vi my,Vi ny,.string sy]] wr λe w6=>∃v so sn sc lo ln lc mm nn s,e=.returned (.agg #[Vi (Tm.kind v),.slice so sn sc,.slice lo ln lc,Vi mm,Vi nn,.string s])/\Hid (aj w6 (λg=>((A g\/H.heap.size<=g)/\g≠U)\/wr.heap.size<g) v (TC v.kind so sn sc lo ln lc mm nn s))/\Hid (RowG (l.drop k) v)/\Bw wr w6):=λk U p t u wr C z D B y E Z nx sx m4 i9 m2 l8 l7 j8 my ny sy hk a hr hv hu hU=>by
  have hd:l.drop k=p::l.drop (k+1):=by
   have m0:=(zC.1 hk).1;rw[yC m0];congr 1;exact yT ((zB m0).symm.trans hk)
  have h1:=a.tl;have h2:=hr.tl;have h3:=ur (zU hk);have h4:=Bp (zU hk);have h5:bH (l.drop (k+1))<=bH l/\cr (l.drop (k+1))<=cr l:=JD l (k+1);rw[hd];refine (Xv (A:=λg=>((A g\/H.heap.size<=g)/\g≠U)/\g<wr.heap.size) a hr (λg a=>a.2) (aj.mono (λg a h=>⟨h,a⟩) _ _ hv) (aj.mono (λg a h=>⟨h,a⟩) _ _ hu) (by omega)).mono ?_;rintro e w6 ⟨v,so,sn,sc,lo,ln,lc,m,n,s,rfl,g1,g2,g3⟩;exact⟨v,so,sn,sc,lo,ln,lc,m,n,s,rfl,aj.mono (λg _ a=>by rcases a with a|a;exact .inl a.1;exact .inr a) _ _ g1,g2,g3⟩
 clear hpat o9 a5 o7 n8 o8 ih hok ho hnl hA hnd hrg;obtain⟨i0,hi,q2,p6,n0⟩:=zz lM;go_enter func17,ntmps17;go_upto_region 1 with fail;rw[q7.out];generalize hS:w.heap.size=S at *;go_wp2_with fail
 go_loopw [3,4] (λov iv wr=>∃(i:Nat) (L:List Tm) (ys:List Value),iv=Vi i/\i<=l.length/\wr.ownsRow H.heap.size 58 6 ov L.length ys/\aO wr (λg=>(A g\/H.heap.size<=g)/\ov.ownBlock≠some g) L ys/\cL (l.take i) L/\Bw H wr) (λ_ iv _=>l.length-(intOf iv).toNat)
 case atStart=>exact⟨0,[],[],rfl,zW _,zZ _ _ _ _,rfl,trivial,zE _ _⟩
 case round=>
  obtain⟨i,L,ys,rfl,p9,a8,g7,c7,a9⟩:=hrel;obtain⟨g6,a6,rfl⟩:=cd a8;have HO:=aa a8;have HU:=aa g7;have j7:=aa c7;have f:=aa a9;have j6:H.heap.size<=wr.heap.size:=a9.size;have i1:(0:Int)<=(i:Int):=zK _;have a2:wr.cell? (aD S 2)=some (.slice lo l.length lc):=(b5.out.below a9).cell 2;have p8:S<wr.heap.size:=(b5.out.below a9).lt;clear a8 g7 c7 a9;by_cases t0:i<l.length
  ·have i2:(i:Int)<(l.length:Int):=by omega
   obtain⟨p',l3⟩:∃p',l[i]?=some p':=⟨_,zB t0⟩;have t8:Hid (l.take (i+1)=l.take i++[p']):=by show _=_;rw[zi,l3];rfl
   obtain⟨k9,d4,d3,d1,c6,d2,b7,m9,n9,r9,b,rfl,v3,y0,y1,y2,y3,y4,y5,HC⟩:=q9.out i p' wr l3 f.out;clear l3;go_wp2_with fail;refine HC.out.mono ?_;rintro e w5 ⟨t5,d8,e6,f7,g5,f6,e4,m5,n5,s5,rfl,o0,m8,b4⟩;obtain⟨U3,q3,o,j5,-⟩:=dS (rfl:w5.heap.size=_) (TC t5.kind d8 e6 f7 g5 f6 e4 m5 n5 s5) 58;replace j5:=aa j5;have s2:=aa q3;have p5:=aa (bg (bg HO.out b4) o);have i4:Hid (Bw wr U3):=b4.trans (o.mono b4.size);have l5:Hid (Bw H U3):=f.out.trans (i4.out.mono j6);have l2:=aa (aj.below o _ _ o0);have j0:=aa m8;have p4:L.length<=1000000:=by have:=j7.out.len;rw[yn]at this;omega
   clear q3 o o0 m8 b4 HC;go_wp2_with (at_builtin;rw[s2.out];refine jg rfl (.tmp 14) (.tmp 21) 56 58 i0 _ 6 88 rfl underlying56 hi q2 p6 n0 rfl (by decide) H.heap.size L.length _ _ rfl p5.out _ 1 _ (TC t5.kind d8 e6 f7 g5 f6 e4 m5 n5 s5) rfl rfl (by decide) (λj u hj=>by rw[zl,zf,j5.out.cell];exact hj) (sD _ _ _ _ _ _ _ _ _ _) (by unfold maxLen;omega) (by omega) l5.out.size ?_;intro v4 w4 g0 i6 i7;have HF:=aa (And.intro g0 (And.intro i6 i7));clear g0 i6 i7)
   go_roundw
   case rel=>
    refine⟨i+1,L++[t5],ys++TC t5.kind d8 e6 f7 g5 f6 e4 m5 n5 s5,by go_num,by omega,by simpa using HF.out.1,?_,by rw[t8.out];exact j7.out.snoc j0.out,cD l5.out l5.out.size p5.out HF.out.2.1⟩;exact CK HF.out.2.1 HF.out.2.2 i4.out HU.out l2.out (λg e=>HO.out.lt g e) (λg h=>by have:=HA.out g h;have:=G.out;omega) j6
   case measure=>simp[intOf];omega
  ·have i2:decide ((i:Int)<(l.length:Int))=false:=zI (by omega);obtain rfl:i=l.length:=by omega
   have F:Hid (cL l L):=by have:=j7.out;rwa [zQ]at this
   have p4:L.length<=1000000:=by have:=F.out.len;omega
   have a0:wr.cell? (aD S 0)=some (Vi K):=(b5.out.below f.out).cell 0;rcases o1.out with⟨K',n7,g9,o6⟩|⟨rfl,p,rfl,M⟩|⟨rfl,p,rfl,M⟩|⟨rfl,p,rfl,M,hm⟩|⟨rfl,bs,os,q,rfl,rfl,rfl,hq,m7,h6,h7,h0⟩|⟨rfl,rfl,rfl⟩|⟨rfl,rfl⟩
   ·have O:=aa (u2.out K' wr g6 a6 L ys n7 g9 f.out HO.out (aO.mono (λg _ h=>h.1) _ _ HU.out) F.out);have t9:=aa (o6 L);clear o6 g9;rcases n7 with⟨rfl,rfl⟩|⟨rfl,rfl⟩
    all_goals
     go_wp2_with fail;refine O.out.mono ?_;rintro e w3 ⟨t3,W,R,T,Y,V,X,m3,n3,s3,rfl,a7,d5,o⟩;have c:=(b3.out.below f.out).below o;obtain⟨r0,r1,r2,r3,r4,r5⟩:=c.six;obtain⟨f0,f1,f2,f3,f4,f5,b6⟩:=c.ice;have b1:Hid (Below S w w3):=(b2.out.trans (f.out.mono (by have:=G.out;omega))).trans (o.mono (by have:=G.out;omega));clear o c;go_wp2_with fail;refine zN (v:=.agg #[Vi (Tm.kind t3),.slice W R T,.slice Y V X,Vi m3,Vi n3,.string s3]) (by simp[results,results17,go_sem,r0,r1,r2,r3,r4,r5]) rfl ⟨t3,W,R,T,Y,V,X,m3,n3,s3,rfl,?_,t9.out t3 F.out d5.out,?_⟩
     ·rw[hS];exact aj.mono (λg _ a=>by rcases a with a|a;exact .inl a;exact .inr (by omega)) _ _ (dP a7.out (λg h=>by have:=HA.out g h;omega) _ _ _ _ _ _)
     ·rw[hS];exact bC b1.out _ _ _ _ _ _
   ·have b0:L.length=1:=by have:=F.out.len;rw[M]at this;simpa using this
    obtain⟨t,ht⟩:=zy.1 b0;subst ht;have e7:Hid (fA p t):=by have:=F.out;rw[M]at this;exact this.1
    obtain⟨b9,Q,d,rfl,c9,I,J⟩:=(fN HO.out).get HU.out (i:=0) (t:=t) rfl;obtain⟨C,z,D,B,y,E,Z,nx,sx,rfl,_⟩:=I.form;simp only[Nat.zero_mul,xF]at J;obtain⟨y0,y1,y2,y3,y4,y5⟩:=JJ J;have e8:=aa I;replace M:=aa M;clear J I b0;simp only[zo];have k6:t.tl<=80000000:=by have h1:=F.out.tl;have h2:=p1.out;have h3:=p7.out;simp only[bw]at h1;omega
    have O:=aa (u1.out p wr t _ _ _ _ _ _ _ _ _ f.out (aj.mono (λg _ h=>h.1) _ _ e8.out) e7.out k6);go_wp2_with fail;refine O.out.mono ?_;rintro e w3 ⟨t3,W,R,T,Y,V,X,m3,n3,s3,rfl,a7,d5,o⟩;have c:=(b3.out.below f.out).below o;obtain⟨r0,r1,r2,r3,r4,r5⟩:=c.six;obtain⟨f0,f1,f2,f3,f4,f5,b6⟩:=c.ice;have b1:Hid (Below S w w3):=(b2.out.trans (f.out.mono (by have:=G.out;omega))).trans (o.mono (by have:=G.out;omega));clear o c;go_wp2_with fail;refine zN (v:=.agg #[Vi (Tm.kind t3),.slice W R T,.slice Y V X,Vi m3,Vi n3,.string s3]) (by simp[results,results17,go_sem,r0,r1,r2,r3,r4,r5]) rfl ⟨t3,W,R,T,Y,V,X,m3,n3,s3,rfl,?_,d5.out,?_⟩
    ·rw[hS];exact aj.mono (λg _ a=>by rcases a with a|a;exact .inl a;exact .inr (by omega)) _ _ (dP a7.out (λg h=>by have:=HA.out g h;omega) _ _ _ _ _ _)
    ·rw[hS];exact bC b1.out _ _ _ _ _ _
   ·have b0:L.length=1:=by have:=F.out.len;rw[M]at this;simpa using this
    obtain⟨t,ht⟩:=zy.1 b0;subst ht;have e7:Hid (fA p t):=by have:=F.out;rw[M]at this;exact this.1
    obtain⟨b9,Q,d,rfl,c9,I,J⟩:=(fN HO.out).get HU.out (i:=0) (t:=t) rfl;obtain⟨C,z,D,B,y,E,Z,nx,sx,rfl,_⟩:=I.form;simp only[Nat.zero_mul,xF]at J;obtain⟨y0,y1,y2,y3,y4,y5⟩:=JJ J;have e8:=aa I;replace M:=aa M;clear J I b0;simp only[zo];have c:=b3.out.below f.out;obtain⟨r0,r1,r2,r3,r4,r5⟩:=c.six;obtain⟨f0,f1,f2,f3,f4,f5,b6⟩:=c.ice;clear c;go_wp2_with fail;refine zN (v:=.agg #[Vi (Tm.kind t),.slice C z D,.slice B y E,Vi Z,Vi nx,.string sx]) (by simp[results,results17,go_sem,r0,r1,r2,r3,r4,r5]) rfl ⟨t,C,z,D,B,y,E,Z,nx,sx,rfl,?_,e7.out,?_⟩
    ·rw[hS];exact aj.mono (λg _ a=>by rcases a with⟨a|a,_⟩;exact .inl a;exact .inr (by have:=G.out;omega)) _ _ (gR e8.out (λh=>by rcases h with⟨h|h,_⟩;have:=HA.out _ h;omega;have:=G.out;omega) _ _ _ _ _ _)
    ·rw[hS];exact bC (b2.out.trans (f.out.mono (by have:=G.out;omega))) _ _ _ _ _ _
   ·have b0:L.length=1:=by have:=F.out.len;rw[M]at this;simpa using this
    obtain⟨t,ht⟩:=zy.1 b0;subst ht;have e7:Hid (fA p t):=by have:=F.out;rw[M]at this;exact this.1
    obtain⟨b9,Q,d,rfl,c9,I,J⟩:=(fN HO.out).get HU.out (i:=0) (t:=t) rfl;obtain⟨C,z,D,B,y,E,Z,nx,sx,rfl,_⟩:=I.form;simp only[Nat.zero_mul,xF]at J;obtain⟨y0,y1,y2,y3,y4,y5⟩:=JJ J;have e8:=aa I;replace M:=aa M;clear J I b0;simp only[zo];have k6:t.tl<=80000000:=by have h1:=F.out.tl;have h2:=p1.out;have h3:=p7.out;simp only[bw]at h1;omega
    have a3:wr.cell? (aD S 3)=some (Vi m):=(b5.out.below f.out).cell 3;have a4:wr.cell? (aD S 4)=some (Vi n):=(b5.out.below f.out).cell 4;have v1:S+1<b9:=by have:=(HO.out.lt b9 rfl).1;have:=G.out;omega
    have O:=aa (r8.out p wr.drew t _ _ _ _ _ _ _ _ _ hm (bL f.out (jw wr)) (aj.below (jw wr) _ _ (aj.mono (λg _ h=>h.1) _ _ e8.out)) e7.out k6);have d7:Hid (∀N,Bw wr N->(N.cell? (aD S 3)=some (Vi m)/\N.cell? (aD S 4)=some (Vi n)/\CT N b9 Q t.kind C z D B y E Z nx sx)):=λN h=>⟨(h.cell (p:=(aD S 3)) p8).trans a3,(h.cell (p:=(aD S 4)) p8).trans a4,CT.below h c9 ⟨y0,y1,y2,y3,y4,y5⟩⟩;clear hm;have n4:S+1≠S:=by omega
    have u0:S+1≠b9:=by omega
    have u3:=aa (d7.out wr.drew (jw wr));have s4:Hid (∀N,Bw wr N->ag N (S+1) TZ 58):=λN h=>b3.out.below (bL f.out h);go_wp2_with fail
    go_region_held3 (λN=>N.cell? (aD S 3)=some (Vi m)/\N.cell? (aD S 4)=some (Vi n)/\CT N b9 Q t.kind C z D B y E Z nx sx)
     (first|with_reducible exact u3.out|with_reducible exact d7.out _ b8.out|with_reducible exact⟨JK n4 (d7.out _ b8.out).1,JK n4 (d7.out _ b8.out).2.1,CT.far u0 (d7.out _ b8.out).2.2⟩|fail)
     (first
      |(go_at_call 36;with_reducible refine O.out.mono ?_;rintro e w3 ⟨t3,W,R,T,Y,V,X,m3,n3,s3,rfl,a7,d5,o⟩;have b8:=aa (ku o);have c:=s4.out _ b8.out;obtain⟨r0,r1,r2,r3,r4,r5⟩:=c.six;obtain⟨f0,f1,f2,f3,f4,f5,b6⟩:=c.ice;clear c o)
      |fail)
    go_wp2_with fail;refine zN (v:=.agg #[Vi (Tm.kind t3),.slice W R T,.slice Y V X,Vi m3,Vi n3,.string s3]) (by simp[results,results17,go_sem,r0,r1,r2,r3,r4,r5]) rfl ⟨t3,W,R,T,Y,V,X,m3,n3,s3,rfl,?_,d5.out,?_⟩
    ·rw[hS];exact aj.mono (λg _ a=>by rcases a with a|a;exact .inl a;exact .inr (by omega)) _ _ (dP a7.out (λg h=>by have:=HA.out g h;omega) _ _ _ _ _ _)
    ·rw[hS];exact bC (b2.out.trans ((bL f.out b8.out).mono (by have:=G.out;omega))) _ _ _ _ _ _
   ·have l1:Hid (fA (.set (told q)) (.set q)):=⟨hq,by funext u;rfl,zA _,by have e:=nu q;simp only[Tm.tl,Pat.nd,Pat.rg];omega⟩;have v5:0<q.length:=List.length_pos_iff.2 m7;have a1:wr.cell? (aD S 1)=some (.slice (some ⟨bs,os,none⟩) q.length sc):=(b5.out.below f.out).cell 1;have q0:((q.length:Int)==0)=false:=zD.2 (by omega);have O:=aa (u9.out bs os q sc wr hq h6 h7 h0 f.out);clear hq m7 h6 h7 h0;go_wp2_with fail;refine O.out.mono ?_;rintro e w3 ⟨s3,rfl,d0,o⟩;have a7:=aa d0;clear d0;have c:=(b3.out.below f.out).below o;obtain⟨r0,r1,r2,r3,r4,r5⟩:=c.six;obtain⟨f0,f1,f2,f3,f4,f5,b6⟩:=c.ice;have b1:Hid (Below S w w3):=(b2.out.trans (f.out.mono (by have:=G.out;omega))).trans (o.mono (by have:=G.out;omega));clear o c;go_wp2_with fail;refine zN (v:=.agg #[Vi 3,.slice (some ⟨bs,os,none⟩) q.length sc,Vz,Vi 0,Vi 0,.string s3]) (by simp[results,results17,go_sem,r0,r1,r2,r3,r4,r5]) rfl ⟨.set q,_,_,_,_,_,_,_,_,s3,rfl,?_,l1.out,?_⟩
    ·rw[hS];exact aj.mono (λg _ a=>.inl a) _ _ (gR a7.out (λh=>by have:=HA.out _ h;omega) _ _ _ _ _ _)
    ·rw[hS];exact bC b1.out _ _ _ _ _ _
   ·have l1:Hid (fA (.set []) .none):=⟨trivial,by rw[Tm.L_none];funext u;simp[eA,Pat.Mt,memB],zA _,by simp[Tm.tl,Pat.nd,Pat.rg]⟩;have a1:wr.cell? (aD S 1)=some (.slice so 0 sc):=(b5.out.below f.out).cell 1;have O:=aa (fG wr);go_wp2_with fail;refine O.out.mono ?_;rintro e w3 ⟨t3,W,R,T,Y,V,X,m3,n3,s3,rfl,d0,rfl,o⟩;simp only[Tm.kind]at d0 ⊢;have a7:=aa d0;clear d0;have c:=(b3.out.below f.out).below o;obtain⟨r0,r1,r2,r3,r4,r5⟩:=c.six;obtain⟨f0,f1,f2,f3,f4,f5,b6⟩:=c.ice;have b1:Hid (Below S w w3):=(b2.out.trans (f.out.mono (by have:=G.out;omega))).trans (o.mono (by have:=G.out;omega));clear o c;go_wp2_with fail;refine zN (v:=.agg #[Vi 1,.slice W R T,.slice Y V X,Vi m3,Vi n3,.string s3]) (by simp[results,results17,go_sem,r0,r1,r2,r3,r4,r5]) rfl ⟨.none,W,R,T,Y,V,X,m3,n3,s3,rfl,?_,l1.out,?_⟩
    ·rw[hS];exact kc a7.out
    ·rw[hS];exact bC b1.out _ _ _ _ _ _
   ·have O:=aa (rh wr);have r6:=aa (fN HO.out);go_wp2_with fail;refine O.out.mono ?_;rintro e w1 ⟨t1,l6,j4,l9,k7,j1,j9,m1,n1,s1,rfl,j3,rfl,i8⟩;simp only[Tm.kind]at j3 ⊢;obtain⟨V0,k8,q4,q5,-⟩:=dS (rfl:w1.heap.size=_) (TC 2 l6 j4 l9 k7 j1 j9 m1 n1 s1) 58;have i3:wr.heap.size<=w1.heap.size:=i8.size;generalize hU:w1.heap.size=U at *;have s7:=aa k8;have s9:=aa q5;have v0:Hid (aj V0 (λg=>(A g\/H.heap.size<=g)/\g≠U) .empty (TC 2 l6 j4 l9 k7 j1 j9 m1 n1 s1)):=sZ j3;have g8:Hid (Bw wr V0):=i8.trans (q4.mono i3);have t4:Hid (RowG (l.drop L.length) .empty):=by
     show RowG _ _
     rw[F.out.len,List.drop_length];exact RS
    have r7:Hid (∀N,Below U V0 N->ag N (S+1) TZ 58):=λN h=>by
     have h1:=b3.out.below (bL f.out g8.out);have h2:S+1<U:=by have:=G.out;omega
     exact h1.belowU h h2
    have u6:Hid (Below S w V0):=(b2.out.trans (f.out.mono (by have:=G.out;omega))).trans (g8.out.mono (by have:=G.out;omega));have u8:Hid (V0.heap.size=U+1):=by show _=_;rw[<-k8,<-hU];simp
    have t7:Hid (H.heap.size<=U):=zJ j6 i3;clear k8 q5 j3 i8 q4 O a0 a2 i2;go_wp2_with fail;rw[s7.out]
    go_loopw [6] (λiv wx=>∃(k:Nat) (u:Tm) (e0:Option Addr) (d6 g4:Nat) (e5:Option Addr) (f8 f9:Nat) (m6 n6:Int) (s6:ByteArray),iv=Vi ((k:Int)-1)/\k<=L.length/\ag wx U (TC u.kind e0 d6 g4 e5 f8 f9 m6 n6 s6) 58/\aj wx (λg=>(A g\/H.heap.size<=g)/\g≠U) u (TC u.kind e0 d6 g4 e5 f8 f9 m6 n6 s6)/\RowG (l.drop k) u/\Below U V0 wx) (λiv _=>(intOf iv+1).toNat)
    case atStart=>exact⟨L.length,.empty,l6,j4,l9,k7,j1,j9,m1,n1,s1,by first|rfl|go_num,zA _,s9.out,v0.out,t4.out,zE _ _⟩
    case round=>
     obtain⟨k,u,e0,d6,g4,e5,f8,f9,m6,n6,s6,rfl,m0,l4,o2,hrg,q1⟩:=hrel;have j2:=aa l4;have q6:=aa o2;have i5:=aa hrg;have c8:=aa q1;have p0:U<wr.heap.size:=l4.lt;clear l4 o2 hrg q1;cases k with
     |zero=>
      have e9:(((0:Nat):Int)-1)=-1:=by decide
      rw[e9];obtain⟨k0,k1,k2,k3,k4,k5⟩:=j2.out.six;have c:=r7.out wr c8.out;obtain⟨r0,r1,r2,r3,r4,r5⟩:=c.six;obtain⟨f0,f1,f2,f3,f4,f5,b6⟩:=c.ice;clear c;go_wp2_with fail;refine zN (v:=.agg #[Vi (Tm.kind u),.slice e0 d6 g4,.slice e5 f8 f9,Vi m6,Vi n6,.string s6]) (by simp[results,results17,go_sem,r0,r1,r2,r3,r4,r5]) rfl ⟨u,e0,d6,g4,e5,f8,f9,m6,n6,s6,rfl,?_,VA (by have:=i5.out;rwa [List.drop_zero]at this),?_⟩
      ·rw[hS];exact aj.mono (λg _ a=>by rcases a with⟨a|a,_⟩;exact .inl a;exact .inr (by have:=G.out;omega)) _ _ (gR q6.out (λh=>by rcases h with⟨h|h,_⟩;have:=HA.out _ h;omega;have:=G.out;omega) _ _ _ _ _ _)
      ·rw[hS];exact bC (u6.out.trans (c8.out.mono (by have:=G.out;omega))) _ _ _ _ _ _
     |succ i=>
      have e9:(((i+1:Nat):Int)-1)=(i:Int):=by omega
      rw[e9];have i2:(i:Int)<(L.length:Int):=by omega
      have i1:(0:Int)<=(i:Int):=zK _;obtain⟨t,ht⟩:∃t,L[i]?=some t:=⟨_,zB (by omega)⟩;obtain⟨p,hp⟩:∃p,l[i]?=some p:=⟨_,zB (by have:=F.out.len;omega)⟩;obtain⟨b9,Q,d,rfl,c9,I,J⟩:=r6.out.get HU.out ht;obtain⟨C,z,D,B,y,E,Z,nx,sx,rfl,_⟩:=I.form;have p3:b9<U:=zF c9 i3;have o5:Hid (∀N,Below U V0 N->(CT N b9 (Q+i*6) t.kind C z D B y E Z nx sx)):=λN h=>CT.below h p3 (oT g8.out c9 J);have u5:Hid (aj wr (λg=>(A g\/H.heap.size<=g)/\g≠U) t (TC t.kind C z D B y E Z nx sx)):=aj.keep (w:=V0) ⟨c8.out.size,λg a ha=>c8.out.block g (by have:=u8.out;have h9:=ha.2;omega)⟩ _ _ (aj.mono (λg a h=>⟨h.1.1,by omega⟩) _ _ (aj.mono (A':=λg=>((A g\/H.heap.size<=g)/\True)/\g<U) (λg a h=>⟨⟨h.1.1,trivial⟩,h.2⟩) _ _ (aj.below g8.out _ _ (aj.mono (A':=λg=>((A g\/H.heap.size<=g)/\True)/\g<U) (λg a h=>⟨⟨h.1,trivial⟩,zF a i3⟩) _ _ I))));have t2:=aa (u7.out i U p t u wr.drew _ _ _ _ _ _ _ _ _ _ _ _ _ _ _ _ _ _ hp (F.out.at hp ht) i5.out (aj.below (jw wr) _ _ u5.out) (aj.below (jw wr) _ _ q6.out) p0);obtain⟨k0,k1,k2,k3,k4,k5⟩:=j2.out.six;obtain⟨c0,c1,c2,c3,c4,c5⟩:=o5.out wr c8.out;clear ht hp I J;go_upto_region 25 with fail;refine yW (S:=λN:World=>CT N b9 (Q+i*6) t.kind C z D B y E Z nx sx) (by kernel_rfl) ⟨c0,c1,c2,c3,c4,c5⟩ (λhHeld=>?_);refine tk 0 ?_;simp only[tS];refine tk 1 ?_;simp only[tS];refine tk 2 ?_;simp only[tS];refine tk 3 ?_;simp only[tS];refine di 4 (λKc hK=>?_);go_simp;refine hK.out _ _ ⟨c0,c1,c2,c3,c4,c5⟩ (λhHeld=>?_);clear hK Kc
      try simp only[tS]
      refine di 5 (λKc hK=>?_);go_simp;go_at_call 38;with_reducible refine t2.out.mono ?_
      rintro e w5 ⟨t5,d8,e6,f7,g5,f6,e4,m5,n5,s5,rfl,l2,j0,b4⟩;have n2:Hid (Bw wr w5):=ku b4;have l0:Below U V0 w5:=c8.out.trans (n2.out.mono (yJ p0));have o4:=aa (o5.out w5 l0);have t6:=aa l0;have c:=j2.out.below n2.out;have q8:=aa c;obtain⟨r0,r1,r2,r3,r4,r5⟩:=c.six;obtain⟨f0,f1,f2,f3,f4,f5,b6⟩:=c.ice;clear c b4 l0;refine hK.out _ _ o4.out (λhHeld=>?_);clear hK Kc
      try simp only[tS]
      refine di 6 (λKc hK=>?_);go_simp;refine hK.out _ _ (CT.far (show U≠b9 by omega) o4.out) (λhHeld=>?_);clear hK Kc
      try simp only[tS]
      refine yV (by kernel_rfl) ?_ _;go_wp2_with fail
      go_roundw
      case rel=>exact⟨i,t5,d8,e6,f7,g5,f6,e4,m5,n5,s5,by go_num,by omega,q8.out.sixS _ _ _ _ _ _,gR (aj.mono (λg a h=>by rcases h with h|h;exact h;exact⟨.inr (by have:=t7.out;have h8:wr.heap.size<g:=h;omega),by have h8:wr.heap.size<g:=h;omega⟩) _ _ l2.out) (λh=>h.2 rfl) _ _ _ _ _ _,j0.out,fV t6.out (zA _) _ _ _ _ _ _⟩
      case measure=>simp[intOf]
theorem pR {g:Nat}(h:NV w A p xs g):NL w A [p] xs g:=⟨xs,[],by simp,h,rfl⟩
theorem ed {v:Value}(h:cB w A 27 6 v n xs):∃lo lc,v=.slice lo n lc:=by
 rcases h.1.2 with⟨rfl,a⟩|⟨g,b,c,rfl,_⟩
 ·exact⟨none,0,by rw[a]⟩
 ·exact⟨_,_,rfl⟩
mutual
theorem nr:∀p:Pat,Lt p
 |.set st=>by
  intro w A g k B D C E y z m n r o i c d a;obtain⟨R,e,q,O,J,I⟩:=o;simp only[bT,zT,zu,yB,yK]at e;obtain⟨rfl,rfl,K,rfl,rfl,rfl⟩:=e;injection K with e1 e2 e3;subst e1 e2 e3;subst J;have j:q.length<=100000:=by have e:=nu q;simp only[Pat.rg]at a;omega
  have x:cB w A 27 6 (Vz) ([]:List Pat).length []:=⟨zZ _ _ _ _,λg h=>by cases h⟩;rcases I with⟨H,v⟩|⟨b,G,L,H,P,M,Q,N⟩
  ·injection H with e1 e2 e3;subst e1 e2 e3 v;exact gO (l:=[]) (xs:=[]) (g:=0) (.inr (.inr (.inr (.inr (.inr (.inl ⟨rfl,rfl,rfl⟩)))))) i x rfl (λp h=>by simp at h) (λp h=>by simp at h) (by simp[bH]) (by simp[cr])
  ·injection H with e1 e2 e3;subst e1 e2 e3;by_cases v:q=[]
   ·subst v;exact gO (l:=[]) (xs:=[]) (g:=0) (.inr (.inr (.inr (.inr (.inr (.inl ⟨rfl,rfl,rfl⟩)))))) i x rfl (λp h=>by simp at h) (λp h=>by simp at h) (by simp[bH]) (by simp[cr])
   ·exact gO (l:=[]) (xs:=[]) (g:=0) (.inr (.inr (.inr (.inr (.inl ⟨rfl,b,G,q,rfl,rfl,rfl,O,v,j,M,N⟩))))) i x rfl (λp h=>by simp at h) (λp h=>by simp at h) (by simp[bH]) (by simp[cr])
 |.row l=>by
  have u:=oC l;intro w A g k B D C E y z m n r o i c d a;obtain⟨F,xs,e,f,j⟩:=o;obtain⟨t,s,rfl⟩:=ed f;simp only[bT,zT,zu,zm,yB,yK]at e;obtain⟨rfl,⟨rfl,rfl,rfl⟩,⟨rfl,rfl,rfl⟩,rfl,rfl,rfl⟩:=e;simp only[Pat.nd,Pat.rg]at d a;exact gO (.inr (.inr (.inr (.inr (.inr (.inr ⟨rfl,rfl⟩)))))) i f j u ((lF l).1 c) (by omega) a
 |.or l=>by
  have u:=oC l;intro w A g k B D C E y z m n r o i c d a;obtain⟨F,xs,e,f,j⟩:=o;obtain⟨t,s,rfl⟩:=ed f;simp only[bT,zT,zu,zm,yB,yK]at e;obtain⟨rfl,⟨rfl,rfl,rfl⟩,⟨rfl,rfl,rfl⟩,rfl,rfl,rfl⟩:=e;simp only[Pat.nd,Pat.rg]at d a;exact gO (.inl ⟨5,.inl ⟨rfl,rfl⟩,c.2,λ_ _=>Xr⟩) i f j u ((lF l).1 c.1) (by omega) a
 |.and l=>by
  have u:=oC l;intro w A g k B D C E y z m n r o i c d a;obtain⟨F,xs,e,f,j⟩:=o;obtain⟨t,s,rfl⟩:=ed f;simp only[bT,zT,zu,zm,yB,yK]at e;obtain⟨rfl,⟨rfl,rfl,rfl⟩,⟨rfl,rfl,rfl⟩,rfl,rfl,rfl⟩:=e;simp only[Pat.nd,Pat.rg]at d a;exact gO (.inl ⟨6,.inr ⟨rfl,rfl⟩,c.2,λ_ _=>Vy⟩) i f j u ((lF l).1 c.1) (by omega) a
 |.not p=>by
  have u:=nr p;intro w A g k B D C E y z m n r o i c d a;obtain⟨F,xs,e,f,j⟩:=o;obtain⟨t,s,rfl⟩:=ed f;simp only[bT,zT,zu,zm,yB,yK]at e;obtain⟨rfl,⟨rfl,rfl,rfl⟩,⟨rfl,rfl,rfl⟩,rfl,rfl,rfl⟩:=e;simp only[Pat.nd,Pat.rg]at d a;exact gO (l:=[p]) (.inr (.inl ⟨rfl,p,rfl,rfl⟩)) i f (pR j) (λq h=>by simp at h;subst h;exact u) (λq h=>by simp at h;subst h;exact c) (by simp only[bH];omega) (by simp only[cr];omega)
 |.many p m' n'=>by
  have u:=nr p;intro w A g k B D C E y z m n r o i c d a;obtain⟨F,xs,e,f,j⟩:=o;obtain⟨t,s,rfl⟩:=ed f;simp only[bT,zT,zu,zm,yB,yK]at e;obtain⟨rfl,⟨rfl,rfl,rfl⟩,⟨rfl,rfl,rfl⟩,rfl,rfl,rfl⟩:=e;simp only[Pat.nd,Pat.rg]at d a;exact gO (l:=[p]) (.inr (.inr (.inr (.inl ⟨rfl,p,rfl,rfl,c.2⟩)))) i f (pR j) (λq h=>by simp at h;subst h;exact u) (λq h=>by simp at h;subst h;exact c.1) (by simp only[bH];omega) (by simp only[cr];omega)
 |.group p=>by
  have u:=nr p;intro w A g k B D C E y z m n r o i c d a;obtain⟨F,xs,e,f,j⟩:=o;obtain⟨t,s,rfl⟩:=ed f;simp only[bT,zT,zu,zm,yB,yK]at e;obtain⟨rfl,⟨rfl,rfl,rfl⟩,⟨rfl,rfl,rfl⟩,rfl,rfl,rfl⟩:=e;simp only[Pat.nd,Pat.rg]at d a;exact gO (l:=[p]) (.inr (.inr (.inl ⟨rfl,p,rfl,rfl⟩))) i f (pR j) (λq h=>by simp at h;subst h;exact u) (λq h=>by simp at h;subst h;exact c) (by simp only[bH];omega) (by simp only[cr];omega)
theorem oC:∀l:List Pat,∀p∈l,Lt p
 | [],p,h=>by simp at h
 |q::l,p,h=>by
  have b:=nr q;have a:=oC l;rcases zO.1 h with rfl|h
  ·exact b
  ·exact a p h
end
theorem iQ {e size:Nat}(h:w.ownsRow B e size (.slice lo n cap) n xs):cg w (λg=>B<=g) lo xs:=λj u a=>by
 rcases h.2 with⟨l,i⟩|⟨g,c,f,e,d,k,r⟩
 ·have:=h.1;rw[i,Nat.zero_mul]at this;rw[yf this]at a;simp at a
 ·injection e with e1 e2 e3;subst e1 e3;have b:=h.cells (g:=g) rfl j u a;rw[zl]at b;exact⟨g,0,rfl,d,(h.lt g rfl).2,b⟩
theorem kf {e size:Nat}(h:w.ownsRow B e size (.slice lo n cap) n xs):n<=cap/\(lo=none->n=0/\cap=0)/\∀ad,lo=some ad->∃g,ad=(aD g 0):=by
 rcases h.2 with⟨b,d⟩|⟨g,a,c,e,f,i,r,_⟩
 ·injection b with e1 e2 e3;subst e1 e3;exact⟨by omega,λ_=>⟨d,rfl⟩,λ_ e=>by cases e⟩
 ·injection e with e1 e2 e3;subst e1 e3;exact⟨r,λe=>(by cases e),λad e=>by injection e with e;exact⟨g,e.symm⟩⟩
theorem EZ {l:LZ}:∀u∈bj l,u.oneCell'=true:=by
 intro u a;obtain⟨c,_,rfl⟩:=yH.1 a;rfl
theorem qJ {l:LZ}{i:Nat}{c:Int}(h:l[i]?=some c):(bj l)[i]?=some (Vi c):=by
 unfold bj;rw[zg,h];rfl
theorem OE (hr:cg w A lo xs){k:Nat}(hn:xs.length=n)(hc:n<=cap){ao:OA}(hao:¬cap=k->∀b off,lo=some (aD b off)->ao=some ⟨b,off+k,none⟩):∀ad,ao=some ad->∀j u,(xs.drop k)[j]?=some u->w.cell? (ad.add j)=some u:=λad e j u a=>by
 rw[List.getElem?_drop]at a;have d:=(zC.1 a).1;obtain⟨b,off,c,_,_,hc⟩:=hr _ u a;rw[hao (by omega) b off c]at e;injection e with e;subst e;rw[zl,show off+k+j=off+(k+j) by omega];exact hc
theorem Lw {l:LZ}{k:Nat}(hs:l.Pairwise (·<·))(h1:∀y∈l.take k,y<x)(h2:∀y,l[k]?=some y->x<y):(l.take k++x::l.drop k).Pairwise (·<·):=by
 rw[yA];have e:∀y∈l.drop k,x<y:=by
  intro y c;cases hdk:l.drop k with
  |nil=>rw[hdk]at c;simp at c
  |cons z t=>
   have i:l[k]?=some z:=by
    have:(l.drop k)[0]?=some z:=by rw[hdk];rfl
    rw[List.getElem?_drop]at this;simpa using this
   have j:=h2 z i;rw[hdk]at c;have f:=hs.sublist (List.drop_sublist k l);rw[hdk,yg]at f;rcases zO.1 c with rfl|c
   ·exact j
   ·have:=f.1 y c;omega
 refine⟨hs.sublist (List.take_sublist k l),?_,?_⟩
 ·rw[yg];exact⟨e,hs.sublist (List.drop_sublist k l)⟩
 ·intro a g b d;have h:=h1 a g;rcases zO.1 d with rfl|d
  ·exact h
  ·have:=e b d;omega
theorem RY {l:LZ}(k:Nat)(y:Int):y∈l.take k++x::l.drop k↔y∈l\/y=x:=by
 have h:y∈l↔y∈l.take k\/y∈l.drop k:=by
  rw[<-zM,zj]
 rw[zM,zO,h];constructor
 ·rintro (h|h|h)
  ·exact .inl (.inl h)
  ·exact .inr h
  ·exact .inl (.inr h)
 ·rintro ((h|h)|h)
  ·exact .inl h
  ·exact .inr (.inr h)
  ·exact .inr (.inl h)
def YZ (w:World)(B:Nat)(l:List Int)(x:Int)(e:Ending)(w':World):Prop:=∃v' l',e=.returned v'/\w'.ownsRow B 3 1 v' l'.length (bj l')/\l'.Pairwise (·<·)/\(∀y,y∈l'↔y∈l\/y=x)/\l'.length<=l.length+1/\Below w.heap.size w w'
theorem xT {lo0:OA}{cap0:Nat}{l:LZ}(hB:B<=w.heap.size)(hown:w.ownsRow B 3 1 (.slice lo0 l.length cap0) l.length (bj l))(hlen:l.length<=1000000)(hs:l.Pairwise (·<·)):Calls prog 39 #[.slice lo0 l.length cap0,Vi x] w (YZ w B l x):=by
 obtain⟨Z,q,F⟩:=kf hown;have HR:=aa ((iQ hown).mono (A':=λg=>B<=g/\g<w.heap.size) (λg a s=>⟨s,a⟩));have HO:=aa hown;have HS:=aa hs;have V:=aa q;have a0:=aa F;have HB:=aa hB;have a6:=aa Z;clear hown hs q F hB;obtain⟨i0,hi,O,H,N⟩:=zz jo;go_enter func39,ntmps39;go_upto_region 1 with fail;generalize hS:w.heap.size=S at *;go_wp2_with fail
 go_loopw [5] (λi wr=>∃k:Nat,k<=l.length/\i=Vi k/\(∀y∈l.take k,y<x)/\Bw w wr) (λi _=>l.length-(intOf i).toNat)
 case atStart=>exact⟨0,zW _,rfl,λy h=>by simp at h,zE _ _⟩
 case round=>
  obtain⟨k,hk,rfl,a8,f⟩:=hrel;go_upto_region 2 with fail;have p:=aa f;have T:=aa a8;clear a8
  go_cut [18] (λv wx=>∃b:Bool,v=.bool b/\(b=true↔∃y,l[k]?=some y/\y<x)/\wx=wr)
  case first=>
   have i1:(0:Int)<=(k:Int):=zK _;by_cases C:k<l.length
   ·obtain⟨y,r⟩:∃y,l[k]?=some y:=⟨_,zB C⟩;obtain⟨b,a5,rfl,_,hb,hc⟩:=(HR.out.below f) k _ (qJ r);obtain⟨g,hg⟩:=a0.out _ rfl;injection hg with e1 e2 e3;subst e1 e2;have y5:wr.cell? (aD b k)=some (Vi y):=by simpa using hc
    have i2:(k:Int)<(l.length:Int):=by omega
    have HY:=aa r;clear hc f r;go_wp2_with fail
    go_meet
    case rel=>exact⟨_,rfl,⟨λh=>⟨y,HY,by simpa using h⟩,λ⟨z,a,s⟩=>by rw[HY.out]at a;injection a with a;subst a;simpa using s⟩,rfl⟩
   ·have hd:decide ((k:Int)<(l.length:Int))=false:=by simp;omega
    clear f;go_wp2_with fail
    go_meet
    case rel=>exact⟨false,rfl,⟨λh=>(by cases h),λ⟨z,a,_⟩=>by have:=(zC.1 a).1;omega⟩,rfl⟩
  case rest=>
   obtain⟨b,rfl,d,o⟩:=hcut;replace o:=o.symm;subst o;clear f;cases b with
   |true=>
    obtain⟨y,r,b1⟩:=d.1 rfl;have C:=(zC.1 r).1;have X:Hid (∀z∈l.take (k+1),z<x):=λz hz=>by
     rw[zi,r]at hz;rcases zM.1 hz with h|h
     ·exact T z h
     ·simp at h;subst h;exact b1
    have i1:(0:Int)<=(k:Int):=zK _;clear d r b1;go_wp2_with fail
    go_roundw
    case rel=>exact⟨k+1,by omega,by go_num,X,p⟩
    case measure=>simp[intOf];omega
   |false=>
    have b7:Hid (∀y,l[k]?=some y->¬y<x):=λy a s=>by have:=d.2 ⟨y,a,s⟩;cases this
    clear d;have D:=p.out;go_upto_region 4 with fail
    go_cut [32] (λv wx=>∃b:Bool,v=.bool b/\(b=true↔l[k]?=some x)/\wx=wr)
    case first=>
     have i1:(0:Int)<=(k:Int):=zK _;by_cases C:k<l.length
     ·obtain⟨y,r⟩:∃y,l[k]?=some y:=⟨_,zB C⟩;obtain⟨b,a5,rfl,_,hb,hc⟩:=(HR.out.below D) k _ (qJ r);obtain⟨g,hg⟩:=a0.out _ rfl;injection hg with e1 e2 e3;subst e1 e2;have y5:wr.cell? (aD b k)=some (Vi y):=by simpa using hc
      have i2:(k:Int)<(l.length:Int):=by omega
      have HY:=aa r;clear hc D r;go_wp2_with fail
      go_meet
      case rel=>exact⟨_,rfl,⟨λh=>by rw[HY.out];simpa using h,λa=>by rw[HY.out]at a;injection a with a;subst a;simp⟩,rfl⟩
     ·have hd:decide ((k:Int)<(l.length:Int))=false:=by simp;omega
      clear D;go_wp2_with fail
      go_meet
      case rel=>exact⟨false,rfl,⟨λh=>(by cases h),λa=>by have:=(zC.1 a).1;omega⟩,rfl⟩
    case rest=>
     obtain⟨b,rfl,d,o⟩:=hcut;replace o:=o.symm;subst o;clear D;cases b with
     |true=>
      have a4:=aa (zU (d.1 rfl));clear d;go_wp2_with fail;go_ret;have b2:=p.out;exact⟨_,l,rfl,bg HO b2,HS,λy=>⟨.inl,λh=>h.elim id (λe=>e▸a4.out)⟩,yN _,b2⟩
     |false=>
      have c2:Hid (∀y,l[k]?=some y->x<y):=λy h=>by
       have a:=b7.out y h;have s:y≠x:=λe=>by have:=d.2 (e▸h);cases this
       omega
      clear d;obtain⟨J,L⟩:∃J,wr=J:=⟨_,rfl⟩;have A:Bw w J:=by rw[<-L];exact p
      have b9:=aa A;have a2:=aa (HR.below A);have P:Hid ((bj l).length=l.length):=by show _=_;simp[bj]
      have Q:S<=J.heap.size:=by rw[<-hS];exact A.size
      rw[L];clear L p A;have i1:(0:Int)<=(k:Int):=zK _;have i2:(k:Int)<=(l.length:Int):=by omega
      have i3:(l.length:Int)<=(cap0:Int):=by omega
      go_upto_region 7 with fail;go_upto_region 8 with (at_builtin;refine eO rfl (.tmp 34) (.tmp 37) 61 3 i0 _ 1 8 rfl underlying61 hi O H N rfl (by decide) S 0 _ [] rfl (zZ _ _ _ _) _ k _ ((bj l).take k) rfl (λe=>by obtain⟨a,s⟩:=V.out e;exact⟨by omega,by omega⟩) (by rw[yn,P.out];omega) (El a2 _) (λu R=>EZ u (yi R)) (by unfold maxLen;omega) (by omega) Q ?_;intro v2 w2 c E);have W:Below S J w2:=cD (v:=Vz) (n:=0) (xs:=[]) (zE _ _) Q (zZ _ _ 3 1) E;rw[zd,zf]at c;obtain⟨d1,c7,rfl⟩:=cd c;have b3:=aa c;have Y:=aa W;clear c W E;obtain⟨W3,a3,t,U,-⟩:=dS (rfl:w2.heap.size=_) [Vi x] 3;have a9:=aa (bg b3 t);have c0:=aa U;have c4:=aa a3;have c3:=aa t;have d0:S<=w2.heap.size:=zJ Q Y.size;have c8:w2.heap.size<=W3.heap.size:=t.size;clear a3 t U;go_upto_region 9 with (at_builtin;rw[c4.out];refine eO rfl (.tmp 39) (.tmp 41) 61 3 i0 _ 1 8 rfl underlying61 hi O H N rfl (by decide) S k _ _ rfl a9 _ 1 _ [Vi x] rfl (λe=>by cases e) rfl (λad e j u hj=>by injection e with e;subst e;rw[zl,zf,c0.out.cell];exact hj) (λu R=>by simp at R;subst R;rfl) (by unfold maxLen;omega) (by omega) (by omega) ?_;intro v4 w4 m G);have a1:S<=W3.heap.size:=by omega
      have K:Below S W3 w4:=cD (zE _ _) a1 a9 G;obtain⟨c9,c6,rfl⟩:=cd m;have M:Hid (Below S J w4):=(Y.trans (c3.mono (by omega))).trans K;have a7:=aa m;have c5:S<=w4.heap.size:=zJ a1 K.size;have b6:Hid (cg w4 (λg=>B<=g/\g<S) lo0 (bj l)):=by
       exact a2.keep ⟨M.size,λg a s=>M.block g s.2⟩
      clear m G K;go_wp2_with (at_builtin;refine eO rfl (.tmp 43) (.tmp 46) 61 3 i0 _ 1 8 rfl underlying61 hi O H N rfl (by decide) S (k+1) _ _ rfl a7 _ (l.length-k) _ ((bj l).drop k) rfl (λe=>by have a:=V.out (by first|exact e|(split at e;exact e;simpa using e)|simpa using e);obtain⟨s,h3⟩:=a;exact⟨by omega,by omega⟩) (by rw[yO,P.out];omega) (OE b6 (n:=l.length) (cap:=cap0) P a6 (by intro b8 b a5 e;simp[b8,e,Addr.add])) (λu R=>EZ u (List.mem_of_mem_drop R)) (by unfold maxLen;omega) (by omega) (by omega) ?_;intro v5 w5 I b0)
      all_goals
       go_ret;have c1:Below S w4 w5:=cD (zE _ _) c5 a7 b0;have b4:Below S J w5:=M.trans c1;have b5:Bw w w5:=b9.trans (by rw[hS];exact b4);refine⟨v5,l.take k++x::l.drop k,rfl,?_,Lw HS T c2,RY k,by simp;omega,b5⟩;have e:(l.take k++x::l.drop k).length=k+1+(l.length-k):=by simp;omega
       rw[e];exact ij (by simpa [zc,bj]using I) (by have:=HB.out;omega)
