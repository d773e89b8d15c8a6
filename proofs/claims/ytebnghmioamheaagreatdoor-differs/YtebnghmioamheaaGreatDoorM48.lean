import Derived.Test.YtebnghmioamheaaGreatDoorM47
set_option linter.all false
namespace Go.Proofs.YtebnghmioamheaaGreatDoor
open Go.RowKit Brm Tryz
variable {l:List Pat}{t v u:Tm}{p:Pat}{w:World}{A:NP}{lo:OA}{xs:LV}{n B cap:Nat}{x:Int}
theorem pW:∀p:Pat,1<=p.nd
 |.set _=>by simp[Pat.nd]
 |.row l=>by simp[Pat.nd]
 |.or l=>by simp[Pat.nd]
 |.and l=>by simp[Pat.nd]
 |.not p=>by simp[Pat.nd]
 |.many p _ _=>by simp[Pat.nd]
 |.group p=>by simp only[Pat.nd];exact pW p
abbrev fA (p:Pat):Tm->Prop:=Gd p.Mt p.me.z (36*p.nd+20*p.rg-12)
def cL:List Pat->List Tm->Prop
 | [],[]=>True
 |p::l,t::m=>fA p t/\cL l m
 |_,_=>False
theorem cL.snoc {p:Pat}{u:Tm}:∀{l:List Pat} {m:List Tm},cL l m->fA p u->cL (l++[p]) (m++[u])
 | [],[],_,k=>⟨k,trivial⟩
 |_::_,_::_,h,k=>⟨h.1,cL.snoc h.2 k⟩
theorem cL.len:∀{l:List Pat} {m:List Tm},cL l m->m.length=l.length
 | [],[],_=>rfl
 |_::_,_::_,h=>by rw[zG,zG,cL.len h.2]
theorem cL.ok:∀{l:List Pat} {m:List Tm},cL l m->dW m
 | [],[],_=>trivial
 |_::_,_::_,h=>⟨h.1.ok,cL.ok h.2⟩
theorem cL.tl:∀{l:List Pat} {m:List Tm},cL l m->bw m+12*m.length<=36*bH l+20*cr l
 | [],[],_=>zA _
 |p::l,t::m,h=>by
  have c:=h.1.tl;have a:=cL.tl h.2;have b:=pW p;simp only[bw,bH,cr,zG];omega
theorem cL.z:∀{l:List Pat} {m:List Tm},cL l m->bd m<=zL l
 | [],[],_=>zA _
 |p::l,t::m,h=>by
  have b:=h.1.z;have a:=cL.z h.2;have e:zL (p::l)=p.me.z+zL l:=rfl;rw[e];simp only[bd];omega
theorem cL.or {v:LZ}:∀{l:List Pat} {m:List Tm},cL l m->(kI m v↔gy l v)
 | [],[],_=>Iff.rfl
 |p::l,t::m,h=>by
  have a:=h.1.lg;simp only[kI,gy,cL.or h.2];rw[a]
theorem cL.and {v:LZ}:∀{l:List Pat} {m:List Tm},cL l m->(iz m v↔eG l v)
 | [],[],_=>Iff.rfl
 |p::l,t::m,h=>by
  have a:=h.1.lg;simp only[iz,eG,cL.and h.2];rw[a]
theorem cL.at:∀{l:List Pat} {m:List Tm},cL l m->∀{i:Nat} {p:Pat} {t:Tm},l[i]?=some p->m[i]?=some t->fA p t
 | [],[],_,i,p,t,h,_=>by simp at h
 |q::l,u::m,h,0,p,t,h1,h2=>by
  simp at h1 h2;subst h1 h2;exact h.1
 |q::l,u::m,h,i+1,p,t,h1,h2=>cL.at h.2 (i:=i) (by simpa using h1) (by simpa using h2)
mutual
theorem pX:∀t:Tm,t.z<=t.tl
 |.none=>by show 1<=12;omega
 |.empty=>by show 1<=12;omega
 |.set _=>by show 1<=12+_;omega
 |.row a b=>by have c:=pX a;have d:=pX b;show a.z+b.z<=a.tl+b.tl+12;omega
 |.or l=>by have c:=mJ l;show max 1 (bd l)<=bw l+12;omega
 |.and l=>by have c:=mJ l;show max 1 (bd l)<=bw l+12;omega
 |.not t=>by have c:=pX t;show t.z<=t.tl+12;omega
 |.many t _ _=>by have c:=pX t;show t.z+1<=t.tl+12;omega
theorem mJ:∀l:List Tm,bd l<=bw l
 | []=>zA _
 |t::l=>by have b:=pX t;have a:=mJ l;simp only[bd,bw];omega
end
theorem YE (l:List Pat):(Pat.and l).me.z=max 1 (zL l):=by
 have e:sumA (λa:Me=>(bB a).z) (bX l)=zL l:=rfl;simp only[Pat.me,bB,orA,nJ];rw[<-e];rfl
theorem Xr {m:List Tm}(h:cL l m)(hg:SomeG 5 m t):fA (.or l) t:=by
 have a:=hg.z;have b:=h.z;have c:=hg.tl;have d:=h.tl;refine⟨hg.ok,?_,?_,?_⟩
 ·funext u;exact propext ((hg.or rfl u).trans h.or)
 ·have e:(Pat.or l).me.z=max 1 (zL l):=rfl;rw[e];omega
 ·simp only[Pat.nd,Pat.rg];omega
theorem Vy {m:List Tm}(h:cL l m)(hg:SomeG 6 m t):fA (.and l) t:=by
 have c:=hg.z;have a:=h.z;have b:=hg.tl;have d:=h.tl;refine⟨hg.ok,?_,?_,?_⟩
 ·funext u;exact propext ((hg.and rfl u).trans h.and)
 ·rw[YE];omega
 ·simp only[Pat.nd,Pat.rg];omega
structure RowG (l:List Pat)(t:Tm):Prop where
 ok:t.Ok
 lg:t.L=λu=>jl l u
 z:t.z<=(Pat.row l).me.z
 tl:t.tl<=36*bH l+20*cr l+12
 e:l=[]->t=.empty
theorem RS:RowG [] .empty:=⟨trivial,by rw[Tm.L_empty];rfl,by simp[Tm.z,Pat.me,bX,rwsM,aV],by simp[Tm.tl,bH,cr],λ_=>rfl⟩
theorem ww (h:fA p t)(hok:v.Ok)(hl:v.L=t.L)(hz:v.z<=t.z)(ht:v.tl<=t.tl):RowG [p] v:=by
 have d:=h.z;have f:=h.tl;refine⟨hok,?_,?_,?_,λe=>by cases e⟩
 ·rw[hl,h.lg];funext u;refine propext ⟨λk=>⟨u,[],by simp,k,rfl⟩,?_⟩;rintro⟨a,b,rfl,k,e⟩;have c:b=[]:=e;subst c;simpa using k
 ·have e:(Pat.row [p]).me.z=p.me.z:=rfl;rw[e];omega
 ·simp only[bH,cr];omega
theorem Oz (hne:l≠[])(h:fA p t)(k:RowG l u)(hg:Gd (aJ t.L u.L) (t.z+u.z) (t.tl+u.tl+12) v):RowG (p::l) v:=by
 have b:=h.z;have c:=h.tl;have g:=k.z;have i:=k.tl;have f:=hg.z;have d:=hg.tl;have a:=pW p;refine⟨hg.ok,?_,?_,?_,λe=>by cases e⟩
 ·rw[hg.lg,h.lg,k.lg];rfl
 ·have e:(Pat.row (p::l)).me.z=p.me.z+(Pat.row l).me.z:=by
   show (rwsM (p.me::bX l)).z=_
   rw[Dd (by rw[im];simpa using hne)];rfl
  rw[e];omega
 ·simp only[bH,cr];omega
theorem VA (h:RowG l t):fA (.row l) t:=by
 refine⟨h.ok,h.lg,h.z,?_⟩;have:=h.tl;simp only[Pat.nd,Pat.rg];omega
theorem Xv (h:fA p t)(k:RowG l u){soa:OA}{sna sca:Nat}{loa:OA}{lna lca:Nat}{ma na:Int}{sa:ByteArray}{sob:OA}{snb scb:Nat}{lob:OA}{lnb lcb:Nat}{mb nb:Int}{sb:ByteArray}(hA:∀g,A g->g<w.heap.size)(hv:aj w A t (TC t.kind soa sna sca loa lna lca ma na sa))(hu:aj w A u (TC u.kind sob snb scb lob lnb lcb mb nb sb))(hb:t.tl+u.tl<=6900000000000000000):Calls prog 38 #[.agg #[Vi t.kind,.slice soa sna sca,.slice loa lna lca,Vi ma,Vi na,.string sa],.agg #[Vi u.kind,.slice sob snb scb,.slice lob lnb lcb,Vi mb,Vi nb,.string sb]] w (eH w A (RowG (p::l))):=by
 cases l with
 |nil=>
  obtain rfl:=k.e rfl;have d:=fE t;have f:=mh t;by_cases a:t.kind=1
  ·refine (qA (A:=A) (.inl a)).mono λe c g=>g.weak λv hv=>?_;subst hv;exact ww h trivial (by rw[rp a]) d f
  ·by_cases b:t.kind=2
   ·refine (Ob (t:=.empty) hA (by simp[Tm.kind]) b rfl hu).mono λe c g=>g.weak λv hv=>?_;subst hv;exact ww h trivial (by rw[rq b]) d f
   ·refine (Et (t:=t) hA a b rfl rfl hv).mono λe c g=>g.weak λv hv=>?_;subst hv;exact ww h h.ok rfl (zA _) (zA _)
 |cons q l=>exact (nY t w A u _ _ _ _ _ _ _ _ _ _ _ _ _ _ _ _ _ _ hA hv hu h.ok k.ok hb).mono λe c g=>g.weak λv hv=>Oz (by simp) h k hv
theorem VB (h:fA p t)(hg:Gd (fZ t.L) t.z (t.tl+12) v):fA (.not p) v:=by
 have a:=h.z;have b:=h.tl;have d:=hg.z;have f:=hg.tl;have c:=pW p;refine⟨hg.ok,by rw[hg.lg,h.lg];rfl,?_,?_⟩
 ·have e:(Pat.not p).me.z=p.me.z:=rfl;omega
 ·simp only[Pat.nd,Pat.rg];omega
theorem RT {m n:Int}(h:fA p t)(hg:Gd (dB t.L m n) (t.z+1) (t.tl+12) v):fA (.many p m n) v:=by
 have a:=h.z;have b:=h.tl;have d:=hg.z;have f:=hg.tl;have c:=pW p;refine⟨hg.ok,by rw[hg.lg,h.lg];rfl,?_,?_⟩
 ·have e:(Pat.many p m n).me.z=p.me.z+1:=rfl;omega
 ·simp only[Pat.nd,Pat.rg];omega
def Lt (p:Pat):Prop:=∀(w:World) (A:Nat->Prop) (g:Nat) (k:Int) (so:Option Addr) (sn sc:Nat) (lo:Option Addr) (ln lc:Nat) (m n r:Int),NV w A p (bT k so sn sc lo ln lc m n r) g->(∀g,A g->g<w.heap.size)->p.Ok->p.nd<=1000000->p.rg<=100000 ->
 Calls prog 17 #[.agg #[Vi k,.slice so sn sc,.slice lo ln lc,Vi m,Vi n,Vi r]] w (eH w A (fA p))
theorem ur:∀{l:List Pat} {p:Pat},p∈l->p.nd<=bH l
 |q::l,p,h=>by
  simp only[bH];rcases zO.1 h with rfl|h
  ·omega
  ·have:=ur h;omega
theorem Bp:∀{l:List Pat} {p:Pat},p∈l->p.rg<=cr l
 |q::l,p,h=>by
  simp only[cr];rcases zO.1 h with rfl|h
  ·omega
  ·have:=Bp h;omega
theorem Bq:∀l:List Pat,l.length<=bH l
 | []=>zA _
 |p::l=>by have b:=pW p;have a:=Bq l;simp only[bH,zG];omega
set_option maxHeartbeats 8000000
set_option maxRecDepth 100000
theorem ag.belowU {w':World}{U b:Nat}{cs:LV}{T:TypeId}(h:ag w b cs T)(k:Below U w w')(hb:b<U):ag w' b cs T:=(k.block b hb).trans h
theorem JD:∀(l:List Pat) (k:Nat),bH (l.drop k)<=bH l/\cr (l.drop k)<=cr l
 |l,0=>by simp
 | [],k+1=>by simp
 |p::l,k+1=>by
  have:=JD l k;simp only[List.drop_succ_cons,bH,cr];omega
def Zb (w:World)(A:Nat->Prop)(l:List Pat)(K:Int)(so:Option Addr)(sn:Nat)(m n:Int)(P:Pat):Prop :=
 (∃K',(K'=5/\K=3\/K'=6/\K=4)/\l≠[]/\∀us t,cL l us->SomeG K' us t->fA P t)\/(K=5/\∃p,P=.not p/\l=[p])\/(K=7/\∃p,P=.group p/\l=[p]) \/
 (K=6/\∃p,P=.many p m n/\l=[p]/\0<=m/\m<=5/\(n=-1\/(m<=n/\n<=5))) \/
 (K=1/\∃bs os q,so=some ⟨bs,os,none⟩/\sn=q.length/\P=.set (told q)/\PCanon q/\q≠[]/\q.length<=100000/\A bs/\Rd w (some ⟨bs,os,none⟩) q)\/(K=1/\sn=0/\P=.set [])\/(K=2/\P=.row l)
abbrev XG (A:Nat->Prop)(N:Nat)(G:Tm->Prop)(wr:World)(e:Ending)(w6:World):Prop :=
 ∃t so sn sc lo ln lc m n s,e=.returned (.agg #[Vi (Tm.kind t),.slice so sn sc,.slice lo ln lc,Vi m,Vi n,.string s])/\Hid (aj w6 (λg=>A g\/N<g) t (TC t.kind so sn sc lo ln lc m n s))/\Hid (G t)/\Bw wr w6
theorem gO {lc g:Nat}{K m n r:Int}{so:OA}{sn sc:Nat}{P:Pat}(hpat:Zb w A l K so sn m n P)(hA:∀g,A g->g<w.heap.size)(ho:cB w A 27 6 (.slice lo l.length lc) l.length xs)(hnl:NL w A l xs g)(ih:∀p∈l,Lt p)(hok:∀p∈l,p.Ok)(hnd:bH l<=1000000)(hrg:cr l<=100000):Calls prog 17 #[.agg #[Vi K,.slice so sn sc,.slice lo l.length lc,Vi m,Vi n,Vi r]] w (eH w A (fA P)):=by
 obtain⟨H,o3,a5,n2,o1,o7⟩:=jK (rfl:w.heap.size=_) [Vi K,.slice so sn sc,.slice lo l.length lc,Vi m,Vi n,Vi r] 27 TZ 58;have s8:Hid (∀(i:Nat) (p:Pat) (wr:World),l[i]?=some p->Bw H wr->∃k9 d0 c9 c7 b7 d2 b8 m9 n9 r9 b,lo=some (aD b 0)/\b<wr.heap.size/\wr.cell? ⟨b,i*6,none⟩=some (Vi k9)/\wr.cell? ⟨b,i*6+1,none⟩=some (.slice d0 c9 c7)/\wr.cell? ⟨b,i*6+2,none⟩=some (.slice b7 d2 b8)/\wr.cell? ⟨b,i*6+3,none⟩=some (Vi m9)/\wr.cell? ⟨b,i*6+4,none⟩=some (Vi n9)/\wr.cell? ⟨b,i*6+5,none⟩=some (Vi r9)/\Hid (Calls prog 17 #[.agg #[Vi k9,.slice d0 c9 c7,.slice b7 d2 b8,Vi m9,Vi n9,Vi r9]] wr (eH wr A (fA p)))):=λi p wr hi hb=>by
  have hm:=zU hi;have p1:=(zC.1 hi).1;have h1:=ur hm;have h2:=Bp hm;obtain⟨cc,gg,o2,u3⟩:=NL.at l xs g hnl i p hi;obtain⟨k9,d0,c9,c7,b7,d2,b8,m9,n9,r9,rfl⟩:=o2.len;obtain⟨b,a6,s4,u7,c0,c1,c2,c3,c4,c5⟩:=IX ((ho.below a5).below hb) p1 u3;injection s4 with e1 e2 e3;exact⟨k9,d0,c9,c7,b7,d2,b8,m9,n9,r9,b,e1,u7,c0,c1,c2,c3,c4,c5,ih p hm wr A gg k9 d0 c9 c7 b7 d2 b8 m9 n9 r9 ((o2.below a5).below hb) (λg a=>zF (hA g a) (zJ a5.size hb.size)) (hok p hm) (by omega) (by omega)⟩
 have v7:l.length<=1000000:=zJ (Bq l) hnd;have m8:=aa hnd;have o5:=aa hrg;have b1:=aa n2;have b3:=aa o1;have b5:=aa a5;have s9:=aa o3;have HA:=aa hA;have G:=aa o7;have p6:=aa hpat;have t4:Hid (∀K' wr e4 a6 L ys,(K'=5/\K=3\/K'=6/\K=4)->l≠[]->Bw H wr->wr.ownsRow H.heap.size 58 6 (.slice e4 L.length a6) L.length ys->aO wr (λg=>A g\/H.heap.size<=g) L ys->cL l L->Calls prog 34 #[.slice e4 L.length a6,Vi K'] wr (XG A (w.heap.size+1) (SomeG K' L) wr)):=λK' wr e4 a6 L ys hK g9 hb a9 g7 d3=>by
  have h1:=d3.tl;have h2:=mJ L;have h3:=hb.size;have p2:L≠[]:=λe=>g9 (by have:=d3.len;rw[e]at this;exact yf this.symm);refine (sT (hK.imp j7.left j7.left) (A:=λg=>(A g\/H.heap.size<=g)/\g<wr.heap.size) (λg a=>a.2) ((fN a9).mono (λg a h=>⟨.inr h,a⟩)) (aO.mono (λg a h=>⟨h,a⟩) _ _ g7) d3.ok p2 (by omega) (by omega)).mono ?_;rintro e w6 ⟨t,so,sn,sc,lo,ln,lc,m,n,s,rfl,g1,g2,g3⟩;exact⟨t,so,sn,sc,lo,ln,lc,m,n,s,rfl,aj.mono (λg _ a=>by rcases a with⟨a|a,_⟩|a;exact .inl a;exact .inr (by omega);exact .inr (by omega)) _ _ g1,g2,g3⟩
 have s0:Hid (∀p wr t B z y C E D mx Z sx,Bw H wr->aj wr (λg=>A g\/H.heap.size<=g) t (TC t.kind B z y C E D mx Z sx)->fA p t->t.tl<=80000000->Calls prog 35 #[.agg #[Vi t.kind,.slice B z y,.slice C E D,Vi mx,Vi Z,.string sx]] wr (XG A (w.heap.size+1) (fA (.not p)) wr)):=λp wr t B z y C E D mx Z sx hb hv a ht=>by
  have h3:=hb.size;refine (Ki (A:=λg=>(A g\/H.heap.size<=g)/\g<wr.heap.size) (λg a=>a.2) (aj.mono (λg a h=>⟨h,a⟩) _ _ hv) a.ok (by omega)).mono ?_;rintro e w6 ⟨t',so,sn,sc,lo,ln,lc,m,n,s,rfl,g1,g2,g3⟩;exact⟨t',so,sn,sc,lo,ln,lc,m,n,s,rfl,aj.mono (λg _ a=>by rcases a with⟨a|a,_⟩|a;exact .inl a;exact .inr (by omega);exact .inr (by omega)) _ _ g1,VB a g2,g3⟩
 have t7:Hid (∀p wr t B z y C E D mx Z sx,(0<=m/\m<=5/\(n=-1\/(m<=n/\n<=5)))->Bw H wr->aj wr (λg=>A g\/H.heap.size<=g) t (TC t.kind B z y C E D mx Z sx)->fA p t->t.tl<=80000000->Calls prog 36 #[.agg #[Vi t.kind,.slice B z y,.slice C E D,Vi mx,Vi Z,.string sx],Vi m,Vi n] wr (XG A (w.heap.size+1) (fA (.many p m n)) wr)):=λp wr t B z y C E D mx Z sx hm hb hv a ht=>by
  have h3:=hb.size;refine (Cy (A:=λg=>(A g\/H.heap.size<=g)/\g<wr.heap.size) m n (λg a=>a.2) hm.1 hm.2.1 hm.2.2 (aj.mono (λg a h=>⟨h,a⟩) _ _ hv) a.ok (by omega)).mono ?_;rintro e w6 ⟨t',so,sn,sc,lo,ln,lc,m',n',s,rfl,g1,g2,g3⟩;exact⟨t',so,sn,sc,lo,ln,lc,m',n',s,rfl,aj.mono (λg _ a=>by rcases a with⟨a|a,_⟩|a;exact .inl a;exact .inr (by omega);exact .inr (by omega)) _ _ g1,RT a g2,g3⟩
 have u1:Hid (∀bs os q cs wr,PCanon q->q.length<=100000->A bs->Rd w (some ⟨bs,os,none⟩) q->Bw H wr->Calls prog 33 #[.agg #[Vi 3,.slice (some ⟨bs,os,none⟩) q.length cs,Vz,Vi 0,Vi 0,.string ⟨#[]⟩]] wr λe N=>∃s,e=.returned (.agg #[Vi 3,.slice (some ⟨bs,os,none⟩) q.length cs,Vz,Vi 0,Vi 0,.string s])/\aj N A (.set q) (TC 3 (some ⟨bs,os,none⟩) q.length cs none 0 0 0 0 s)/\Bw wr N):=λbs os q cs wr hq i3 h0 g8 hb=>Pt _ (λi x hx=>by
   obtain⟨b',v3,e,e7,c1,c2⟩:=g8 i x hx;injection e with e;injection e with e1 e2;subst e1 e2;exact⟨bs,os,rfl,h0,zF e7 (zJ a5.size hb.size),(hb.cell (p:=⟨bs,_,none⟩) (zF e7 a5.size)).trans ((a5.cell (p:=⟨bs,_,none⟩) e7).trans c1),(hb.cell (p:=⟨bs,_,none⟩) (zF e7 a5.size)).trans ((a5.cell (p:=⟨bs,_,none⟩) e7).trans c2)⟩) hq i3
 have t2:Hid (∀(k U:Nat) (p:Pat) (t u:Tm) (wr:World) (B:Option Addr) (z y:Nat) (C:Option Addr) (E D:Nat) (mx Z:Int) (sx:ByteArray) (m7:Option Addr) (i9 l7:Nat) (j1:Option Addr) (m2 l2:Nat) (my ny:Int) (sy:ByteArray),l[k]?=some p->fA p t->RowG (l.drop (k+1)) u->aj wr (λg=>(A g\/H.heap.size<=g)/\g≠U) t (TC t.kind B z y C E D mx Z sx)->aj wr (λg=>(A g\/H.heap.size<=g)/\g≠U) u (TC u.kind m7 i9 l7 j1 m2 l2 my ny sy)->U<wr.heap.size->Calls prog 38 #[.agg #[Vi t.kind,.slice B z y,.slice C E D,Vi mx,Vi Z,.string sx],.agg #[Vi u.kind,.slice m7 i9 l7,.slice j1 m2 l2,Vi my,Vi ny,.string sy]] wr λe w6=>∃v so sn sc lo ln lc mm nn s,e=.returned (.agg #[Vi (Tm.kind v),.slice so sn sc,.slice lo ln lc,Vi mm,Vi nn,.string s])/\Hid (aj w6 (λg=>((A g\/H.heap.size<=g)/\g≠U)\/wr.heap.size<g) v (TC v.kind so sn sc lo ln lc mm nn s))/\Hid (RowG (l.drop k) v)/\Bw wr w6):=λk U p t u wr B z y C E D mx Z sx m7 i9 l7 j1 m2 l2 my ny sy hk a hr hv hu hU=>by
  have hd:l.drop k=p::l.drop (k+1):=by
   have m4:=(zC.1 hk).1;rw[yC m4];congr 1;exact yT ((zB m4).symm.trans hk)
  have h1:=a.tl;have h2:=hr.tl;have h3:=ur (zU hk);have h4:=Bp (zU hk);have h5:bH (l.drop (k+1))<=bH l/\cr (l.drop (k+1))<=cr l:=JD l (k+1);rw[hd];refine (Xv (A:=λg=>((A g\/H.heap.size<=g)/\g≠U)/\g<wr.heap.size) a hr (λg a=>a.2) (aj.mono (λg a h=>⟨h,a⟩) _ _ hv) (aj.mono (λg a h=>⟨h,a⟩) _ _ hu) (by omega)).mono ?_;rintro e w6 ⟨v,so,sn,sc,lo,ln,lc,m,n,s,rfl,g1,g2,g3⟩;exact⟨v,so,sn,sc,lo,ln,lc,m,n,s,rfl,aj.mono (λg _ a=>by rcases a with a|a;exact .inl a.1;exact .inr a) _ _ g1,g2,g3⟩
 clear hpat o3 a5 n2 o1 o7 ih hok ho hnl hA hnd hrg;obtain⟨i0,hi,n7,p0,p9⟩:=zz lM;go_enter func17,ntmps17;go_upto_region 1 with fail;rw[s9.out];generalize hS:w.heap.size=S at *;go_wp2_with fail
 go_loopw [3,4] (λov iv wr=>∃(i:Nat) (L:List Tm) (ys:List Value),iv=Vi i/\i<=l.length/\wr.ownsRow H.heap.size 58 6 ov L.length ys/\aO wr (λg=>(A g\/H.heap.size<=g)/\ov.ownBlock≠some g) L ys/\cL (l.take i) L/\Bw H wr) (λ_ iv _=>l.length-(intOf iv).toNat)
 case atStart=>exact⟨0,[],[],rfl,zW _,zZ _ _ _ _,rfl,trivial,zE _ _⟩
 case round=>
  obtain⟨i,L,ys,rfl,p1,a9,g7,d3,a8⟩:=hrel;obtain⟨e4,a6,rfl⟩:=cd a9;have HO:=aa a9;have HU:=aa g7;have j0:=aa d3;have f:=aa a8;have l4:H.heap.size<=wr.heap.size:=a8.size;have i1:(0:Int)<=(i:Int):=zK _;have a2:wr.cell? (aD S 2)=some (.slice lo l.length lc):=(b1.below a8).cell 2;have q6:S<wr.heap.size:=(b1.below a8).lt;clear a9 g7 d3 a8;by_cases s7:i<l.length
  ·have i2:(i:Int)<(l.length:Int):=by omega
   obtain⟨p',l5⟩:∃p',l[i]?=some p':=⟨_,zB s7⟩;have u8:Hid (l.take (i+1)=l.take i++[p']):=by show _=_;rw[zi,l5];rfl
   obtain⟨k9,d0,c9,c7,b7,d2,b8,m9,n9,r9,b,rfl,v6,y0,y1,y2,y3,y4,y5,HC⟩:=s8.out i p' wr l5 f.out;clear l5;go_wp2_with fail;refine HC.mono ?_;rintro e w5 ⟨t5,d8,f9,e5,d9,f6,f8,m5,n5,s5,rfl,p3,n8,b6⟩;obtain⟨U3,p7,o,i8,-⟩:=dS (rfl:w5.heap.size=_) (TC t5.kind d8 f9 e5 d9 f6 f8 m5 n5 s5) 58;replace i8:=aa i8;have u5:=aa p7;have p4:=aa (bg (bg HO b6) o);have i5:Hid (Bw wr U3):=b6.trans (o.mono b6.size);have j2:Hid (Bw H U3):=f.trans (i5.mono l4);have l9:=aa (aj.below o _ _ p3);have j3:=aa n8;have o4:L.length<=1000000:=by have:=j0.len;rw[yn]at this;omega
   clear p7 o p3 n8 b6 HC;go_wp2_with (at_builtin;rw[u5.out];refine jg rfl (.tmp 14) (.tmp 21) 56 58 i0 _ 6 88 rfl underlying56 hi n7 p0 p9 rfl (by decide) H.heap.size L.length _ _ rfl p4 _ 1 _ (TC t5.kind d8 f9 e5 d9 f6 f8 m5 n5 s5) rfl rfl (by decide) (λj u hj=>by rw[zl,zf,i8.out.cell];exact hj) (sD _ _ _ _ _ _ _ _ _ _) (by unfold maxLen;omega) (by omega) j2.size ?_;intro v4 w4 g6 i6 i7;have HF:=aa (j7.intro g6 (j7.intro i6 i7));clear g6 i6 i7)
   go_roundw
   case rel=>
    refine⟨i+1,L++[t5],ys++TC t5.kind d8 f9 e5 d9 f6 f8 m5 n5 s5,by go_num,by omega,by simpa using HF.1,?_,by rw[u8.out];exact j0.snoc j3,cD j2 j2.size p4 HF.2.1⟩;exact CK HF.2.1 HF.2.2 i5 HU l9 (λg e=>HO.lt g e) (λg h=>by have:=HA.out g h;have:=G.out;omega) l4
   case measure=>simp[intOf];omega
  ·have i2:decide ((i:Int)<(l.length:Int))=false:=zI (by omega);obtain rfl:i=l.length:=by omega
   have F:Hid (cL l L):=by have:=j0.out;rwa [zQ]at this
   have o4:L.length<=1000000:=by have:=F.len;omega
   have a0:wr.cell? (aD S 0)=some (Vi K):=(b1.below f).cell 0;rcases p6.out with⟨K',q2,g9,o9⟩|⟨rfl,p,rfl,M⟩|⟨rfl,p,rfl,M⟩|⟨rfl,p,rfl,M,hm⟩|⟨rfl,bs,os,q,rfl,rfl,rfl,hq,q3,i3,h0,g8⟩|⟨rfl,rfl,rfl⟩|⟨rfl,rfl⟩
   ·have O:=aa (t4 K' wr e4 a6 L ys q2 g9 f HO (aO.mono (λg _ h=>h.1) _ _ HU) F);have r7:=aa (o9 L);clear o9 g9;rcases q2 with⟨rfl,rfl⟩|⟨rfl,rfl⟩
    all_goals
     go_wp2_with fail;refine O.mono ?_;rintro e w3 ⟨t3,V,Y,T,X,W,Q,m3,n3,s3,rfl,a7,d5,o⟩;have c:=(b3.below f).below o;obtain⟨r0,r1,r2,r3,r4,r5⟩:=c.six;obtain⟨f0,f1,f2,f3,f4,f5,b4⟩:=c.ice;have b2:Hid (Below S w w3):=(b5.trans (f.mono (by have:=G.out;omega))).trans (o.mono (by have:=G.out;omega));clear o c;go_wp2_with fail;refine zN (v:=.agg #[Vi (Tm.kind t3),.slice V Y T,.slice X W Q,Vi m3,Vi n3,.string s3]) (by simp[results,results17,go_sem,r0,r1,r2,r3,r4,r5]) rfl ⟨t3,V,Y,T,X,W,Q,m3,n3,s3,rfl,?_,r7 t3 F d5,?_⟩
     ·rw[hS];exact aj.mono (λg _ a=>by rcases a with a|a;exact .inl a;exact .inr (by omega)) _ _ (dP a7 (λg h=>by have:=HA.out g h;omega) _ _ _ _ _ _)
     ·rw[hS];exact bC b2 _ _ _ _ _ _
   ·have b0:L.length=1:=by have:=F.len;rw[M]at this;simpa using this
    obtain⟨t,ht⟩:=zy.1 b0;subst ht;have g5:Hid (fA p t):=by have:=F.out;rw[M]at this;exact this.1
    obtain⟨b9,R,d,rfl,c6,I,J⟩:=(fN HO.out).get HU.out (i:=0) (t:=t) rfl;obtain⟨B,z,y,C,E,D,mx,Z,sx,rfl,_⟩:=I.form;simp only[Nat.zero_mul,xF]at J;obtain⟨y0,y1,y2,y3,y4,y5⟩:=JJ J;have e0:=aa I;replace M:=aa M;clear J I b0;simp only[zo];have m0:t.tl<=80000000:=by have h1:=F.tl;have h2:=m8.out;have h3:=o5.out;simp only[bw]at h1;omega
    have O:=aa (s0 p wr t _ _ _ _ _ _ _ _ _ f (aj.mono (λg _ h=>h.1) _ _ e0) g5 m0);go_wp2_with fail;refine O.mono ?_;rintro e w3 ⟨t3,V,Y,T,X,W,Q,m3,n3,s3,rfl,a7,d5,o⟩;have c:=(b3.below f).below o;obtain⟨r0,r1,r2,r3,r4,r5⟩:=c.six;obtain⟨f0,f1,f2,f3,f4,f5,b4⟩:=c.ice;have b2:Hid (Below S w w3):=(b5.trans (f.mono (by have:=G.out;omega))).trans (o.mono (by have:=G.out;omega));clear o c;go_wp2_with fail;refine zN (v:=.agg #[Vi (Tm.kind t3),.slice V Y T,.slice X W Q,Vi m3,Vi n3,.string s3]) (by simp[results,results17,go_sem,r0,r1,r2,r3,r4,r5]) rfl ⟨t3,V,Y,T,X,W,Q,m3,n3,s3,rfl,?_,d5,?_⟩
    ·rw[hS];exact aj.mono (λg _ a=>by rcases a with a|a;exact .inl a;exact .inr (by omega)) _ _ (dP a7 (λg h=>by have:=HA.out g h;omega) _ _ _ _ _ _)
    ·rw[hS];exact bC b2 _ _ _ _ _ _
   ·have b0:L.length=1:=by have:=F.len;rw[M]at this;simpa using this
    obtain⟨t,ht⟩:=zy.1 b0;subst ht;have g5:Hid (fA p t):=by have:=F.out;rw[M]at this;exact this.1
    obtain⟨b9,R,d,rfl,c6,I,J⟩:=(fN HO.out).get HU.out (i:=0) (t:=t) rfl;obtain⟨B,z,y,C,E,D,mx,Z,sx,rfl,_⟩:=I.form;simp only[Nat.zero_mul,xF]at J;obtain⟨y0,y1,y2,y3,y4,y5⟩:=JJ J;have e0:=aa I;replace M:=aa M;clear J I b0;simp only[zo];have c:=b3.below f;obtain⟨r0,r1,r2,r3,r4,r5⟩:=c.six;obtain⟨f0,f1,f2,f3,f4,f5,b4⟩:=c.ice;clear c;go_wp2_with fail;refine zN (v:=.agg #[Vi (Tm.kind t),.slice B z y,.slice C E D,Vi mx,Vi Z,.string sx]) (by simp[results,results17,go_sem,r0,r1,r2,r3,r4,r5]) rfl ⟨t,B,z,y,C,E,D,mx,Z,sx,rfl,?_,g5,?_⟩
    ·rw[hS];exact aj.mono (λg _ a=>by rcases a with⟨a|a,_⟩;exact .inl a;exact .inr (by have:=G.out;omega)) _ _ (gR e0 (λh=>by rcases h with⟨h|h,_⟩;have:=HA.out _ h;omega;have:=G.out;omega) _ _ _ _ _ _)
    ·rw[hS];exact bC (b5.trans (f.mono (by have:=G.out;omega))) _ _ _ _ _ _
   ·have b0:L.length=1:=by have:=F.len;rw[M]at this;simpa using this
    obtain⟨t,ht⟩:=zy.1 b0;subst ht;have g5:Hid (fA p t):=by have:=F.out;rw[M]at this;exact this.1
    obtain⟨b9,R,d,rfl,c6,I,J⟩:=(fN HO.out).get HU.out (i:=0) (t:=t) rfl;obtain⟨B,z,y,C,E,D,mx,Z,sx,rfl,_⟩:=I.form;simp only[Nat.zero_mul,xF]at J;obtain⟨y0,y1,y2,y3,y4,y5⟩:=JJ J;have e0:=aa I;replace M:=aa M;clear J I b0;simp only[zo];have m0:t.tl<=80000000:=by have h1:=F.tl;have h2:=m8.out;have h3:=o5.out;simp only[bw]at h1;omega
    have a3:wr.cell? (aD S 3)=some (Vi m):=(b1.below f).cell 3;have a4:wr.cell? (aD S 4)=some (Vi n):=(b1.below f).cell 4;have v2:S+1<b9:=by have:=(HO.lt b9 rfl).1;have:=G.out;omega
    have O:=aa (t7 p wr.drew t _ _ _ _ _ _ _ _ _ hm (bL f (jw wr)) (aj.below (jw wr) _ _ (aj.mono (λg _ h=>h.1) _ _ e0)) g5 m0);have g4:Hid (∀N,Bw wr N->(N.cell? (aD S 3)=some (Vi m)/\N.cell? (aD S 4)=some (Vi n)/\CT N b9 R t.kind B z y C E D mx Z sx)):=λN h=>⟨(h.cell (p:=(aD S 3)) q6).trans a3,(h.cell (p:=(aD S 4)) q6).trans a4,CT.below h c6 ⟨y0,y1,y2,y3,y4,y5⟩⟩;clear hm;have o6:S+1≠S:=by omega
    have t0:S+1≠b9:=by omega
    have t6:=aa (g4 wr.drew (jw wr));have v1:Hid (∀N,Bw wr N->ag N (S+1) TZ 58):=λN h=>b3.below (bL f h);go_wp2_with fail
    go_region_held3 (λN=>N.cell? (aD S 3)=some (Vi m)/\N.cell? (aD S 4)=some (Vi n)/\CT N b9 R t.kind B z y C E D mx Z sx)
     (first|with_reducible exact t6.out|with_reducible exact g4.out _ c8.out|with_reducible exact⟨JK o6 (g4.out _ c8.out).1,JK o6 (g4.out _ c8.out).2.1,CT.far t0 (g4.out _ c8.out).2.2⟩|fail)
     (first
      |(go_at_call 36;with_reducible refine O.out.mono ?_;rintro e w3 ⟨t3,V,Y,T,X,W,Q,m3,n3,s3,rfl,a7,d5,o⟩;have c8:=aa (ku o);have c:=v1.out _ c8;obtain⟨r0,r1,r2,r3,r4,r5⟩:=c.six;obtain⟨f0,f1,f2,f3,f4,f5,b4⟩:=c.ice;clear c o)
      |fail)
    go_wp2_with fail;refine zN (v:=.agg #[Vi (Tm.kind t3),.slice V Y T,.slice X W Q,Vi m3,Vi n3,.string s3]) (by simp[results,results17,go_sem,r0,r1,r2,r3,r4,r5]) rfl ⟨t3,V,Y,T,X,W,Q,m3,n3,s3,rfl,?_,d5,?_⟩
    ·rw[hS];exact aj.mono (λg _ a=>by rcases a with a|a;exact .inl a;exact .inr (by omega)) _ _ (dP a7 (λg h=>by have:=HA.out g h;omega) _ _ _ _ _ _)
    ·rw[hS];exact bC (b5.trans ((bL f c8).mono (by have:=G.out;omega))) _ _ _ _ _ _
   ·have j5:Hid (fA (.set (told q)) (.set q)):=⟨hq,by funext u;rfl,zA _,by have e:=nu q;simp only[Tm.tl,Pat.nd,Pat.rg];omega⟩;have v5:0<q.length:=List.length_pos_iff.2 q3;have a1:wr.cell? (aD S 1)=some (.slice (some ⟨bs,os,none⟩) q.length sc):=(b1.below f).cell 1;have q0:((q.length:Int)==0)=false:=zD.2 (by omega);have O:=aa (u1 bs os q sc wr hq i3 h0 g8 f);clear hq q3 i3 h0 g8;go_wp2_with fail;refine O.mono ?_;rintro e w3 ⟨s3,rfl,d4,o⟩;have a7:=aa d4;clear d4;have c:=(b3.below f).below o;obtain⟨r0,r1,r2,r3,r4,r5⟩:=c.six;obtain⟨f0,f1,f2,f3,f4,f5,b4⟩:=c.ice;have b2:Hid (Below S w w3):=(b5.trans (f.mono (by have:=G.out;omega))).trans (o.mono (by have:=G.out;omega));clear o c;go_wp2_with fail;refine zN (v:=.agg #[Vi 3,.slice (some ⟨bs,os,none⟩) q.length sc,Vz,Vi 0,Vi 0,.string s3]) (by simp[results,results17,go_sem,r0,r1,r2,r3,r4,r5]) rfl ⟨.set q,_,_,_,_,_,_,_,_,s3,rfl,?_,j5,?_⟩
    ·rw[hS];exact aj.mono (λg _ a=>.inl a) _ _ (gR a7 (λh=>by have:=HA.out _ h;omega) _ _ _ _ _ _)
    ·rw[hS];exact bC b2 _ _ _ _ _ _
   ·have j5:Hid (fA (.set []) .none):=⟨trivial,by rw[Tm.L_none];funext u;simp[eA,Pat.Mt,memB],zA _,by simp[Tm.tl,Pat.nd,Pat.rg]⟩;have a1:wr.cell? (aD S 1)=some (.slice so 0 sc):=(b1.below f).cell 1;have O:=aa (fG wr);go_wp2_with fail;refine O.mono ?_;rintro e w3 ⟨t3,V,Y,T,X,W,Q,m3,n3,s3,rfl,d4,rfl,o⟩;simp only[Tm.kind]at d4 ⊢;have a7:=aa d4;clear d4;have c:=(b3.below f).below o;obtain⟨r0,r1,r2,r3,r4,r5⟩:=c.six;obtain⟨f0,f1,f2,f3,f4,f5,b4⟩:=c.ice;have b2:Hid (Below S w w3):=(b5.trans (f.mono (by have:=G.out;omega))).trans (o.mono (by have:=G.out;omega));clear o c;go_wp2_with fail;refine zN (v:=.agg #[Vi 1,.slice V Y T,.slice X W Q,Vi m3,Vi n3,.string s3]) (by simp[results,results17,go_sem,r0,r1,r2,r3,r4,r5]) rfl ⟨.none,V,Y,T,X,W,Q,m3,n3,s3,rfl,?_,j5,?_⟩
    ·rw[hS];exact kc a7
    ·rw[hS];exact bC b2 _ _ _ _ _ _
   ·have O:=aa (rh wr);have q9:=aa (fN HO);go_wp2_with fail;refine O.mono ?_;rintro e w1 ⟨t1,l6,l8,j9,l1,l0,l3,m1,n1,s1,rfl,k6,rfl,k8⟩;simp only[Tm.kind]at k6 ⊢;obtain⟨V0,j6,q5,q7,-⟩:=dS (rfl:w1.heap.size=_) (TC 2 l6 l8 j9 l1 l0 l3 m1 n1 s1) 58;have h6:wr.heap.size<=w1.heap.size:=k8.size;generalize hU:w1.heap.size=U at *;have r8:=aa j6;have t8:=aa q7;have u2:Hid (aj V0 (λg=>(A g\/H.heap.size<=g)/\g≠U) .empty (TC 2 l6 l8 j9 l1 l0 l3 m1 n1 s1)):=sZ k6;have h7:Hid (Bw wr V0):=k8.trans (q5.mono h6);have r6:Hid (RowG (l.drop L.length) .empty):=by
     show RowG _ _
     rw[F.out.len,List.drop_length];exact RS
    have v0:Hid (∀N,Below U V0 N->ag N (S+1) TZ 58):=λN h=>by
     have h1:=b3.below (bL f h7);have h2:S+1<U:=by have:=G.out;omega
     exact h1.belowU h h2
    have u9:Hid (Below S w V0):=(b5.trans (f.mono (by have:=G.out;omega))).trans (h7.mono (by have:=G.out;omega));have u6:Hid (V0.heap.size=U+1):=by show _=_;rw[<-j6,<-hU];simp
    have t9:Hid (H.heap.size<=U):=zJ l4 h6;clear j6 q7 k6 k8 q5 O a0 a2 i2;go_wp2_with fail;rw[r8.out]
    go_loopw [6] (λiv wx=>∃(k:Nat) (u:Tm) (d6:Option Addr) (g0 e8:Nat) (e6:Option Addr) (f7 d7:Nat) (m6 n6:Int) (s6:ByteArray),iv=Vi ((k:Int)-1)/\k<=L.length/\ag wx U (TC u.kind d6 g0 e8 e6 f7 d7 m6 n6 s6) 58/\aj wx (λg=>(A g\/H.heap.size<=g)/\g≠U) u (TC u.kind d6 g0 e8 e6 f7 d7 m6 n6 s6)/\RowG (l.drop k) u/\Below U V0 wx) (λiv _=>(intOf iv+1).toNat)
    case atStart=>exact⟨L.length,.empty,l6,l8,j9,l1,l0,l3,m1,n1,s1,by first|rfl|go_num,zA _,t8,u2,r6,zE _ _⟩
    case round=>
     obtain⟨k,u,d6,g0,e8,e6,f7,d7,m6,n6,s6,rfl,m4,j8,p8,hrg,p5⟩:=hrel;have j4:=aa j8;have o0:=aa p8;have i4:=aa hrg;have d1:=aa p5;have n4:U<wr.heap.size:=j8.lt;clear j8 p8 hrg p5;cases k with
     |zero=>
      have e9:(((0:Nat):Int)-1)=-1:=by decide
      rw[e9];obtain⟨k0,k1,k2,k3,k4,k5⟩:=j4.out.six;have c:=v0.out wr d1;obtain⟨r0,r1,r2,r3,r4,r5⟩:=c.six;obtain⟨f0,f1,f2,f3,f4,f5,b4⟩:=c.ice;clear c;go_wp2_with fail;refine zN (v:=.agg #[Vi (Tm.kind u),.slice d6 g0 e8,.slice e6 f7 d7,Vi m6,Vi n6,.string s6]) (by simp[results,results17,go_sem,r0,r1,r2,r3,r4,r5]) rfl ⟨u,d6,g0,e8,e6,f7,d7,m6,n6,s6,rfl,?_,VA (by have:=i4.out;rwa [List.drop_zero]at this),?_⟩
      ·rw[hS];exact aj.mono (λg _ a=>by rcases a with⟨a|a,_⟩;exact .inl a;exact .inr (by have:=G.out;omega)) _ _ (gR o0 (λh=>by rcases h with⟨h|h,_⟩;have:=HA.out _ h;omega;have:=G.out;omega) _ _ _ _ _ _)
      ·rw[hS];exact bC (u9.trans (d1.mono (by have:=G.out;omega))) _ _ _ _ _ _
     |succ i=>
      have e9:(((i+1:Nat):Int)-1)=(i:Int):=by omega
      rw[e9];have i2:(i:Int)<(L.length:Int):=by omega
      have i1:(0:Int)<=(i:Int):=zK _;obtain⟨t,ht⟩:∃t,L[i]?=some t:=⟨_,zB (by omega)⟩;obtain⟨p,hp⟩:∃p,l[i]?=some p:=⟨_,zB (by have:=F.out.len;omega)⟩;obtain⟨b9,R,d,rfl,c6,I,J⟩:=q9.out.get HU.out ht;obtain⟨B,z,y,C,E,D,mx,Z,sx,rfl,_⟩:=I.form;have q4:b9<U:=zF c6 h6;have n0:Hid (∀N,Below U V0 N->(CT N b9 (R+i*6) t.kind B z y C E D mx Z sx)):=λN h=>CT.below h q4 (oT h7 c6 J);have q8:Hid (aj wr (λg=>(A g\/H.heap.size<=g)/\g≠U) t (TC t.kind B z y C E D mx Z sx)):=aj.keep (w:=V0) ⟨d1.size,λg a ha=>d1.block g (by have:=u6.out;have h9:=ha.2;omega)⟩ _ _ (aj.mono (λg a h=>⟨h.1.1,by omega⟩) _ _ (aj.mono (A':=λg=>((A g\/H.heap.size<=g)/\True)/\g<U) (λg a h=>⟨⟨h.1.1,trivial⟩,h.2⟩) _ _ (aj.below h7 _ _ (aj.mono (A':=λg=>((A g\/H.heap.size<=g)/\True)/\g<U) (λg a h=>⟨⟨h.1,trivial⟩,zF a h6⟩) _ _ I))));have u4:=aa (t2 i U p t u wr.drew _ _ _ _ _ _ _ _ _ _ _ _ _ _ _ _ _ _ hp (F.at hp ht) i4 (aj.below (jw wr) _ _ q8) (aj.below (jw wr) _ _ o0) n4);obtain⟨k0,k1,k2,k3,k4,k5⟩:=j4.out.six;obtain⟨c0,c1,c2,c3,c4,c5⟩:=n0.out wr d1.out;clear ht hp I J;go_upto_region 25 with fail;refine yW (S:=λN:World=>CT N b9 (R+i*6) t.kind B z y C E D mx Z sx) (by kernel_rfl) ⟨c0,c1,c2,c3,c4,c5⟩ (λhHeld=>?_);refine tk 0 ?_;simp only[tS];refine tk 1 ?_;simp only[tS];refine tk 2 ?_;simp only[tS];refine tk 3 ?_;simp only[tS];refine di 4 (λKc hK=>?_);go_simp;refine hK _ _ ⟨c0,c1,c2,c3,c4,c5⟩ (λhHeld=>?_);clear hK Kc
      try simp only[tS]
      refine di 5 (λKc hK=>?_);go_simp;go_at_call 38;with_reducible refine u4.out.mono ?_
      rintro e w5 ⟨t5,d8,f9,e5,d9,f6,f8,m5,n5,s5,rfl,l9,j3,b6⟩;have q1:Hid (Bw wr w5):=ku b6;have k7:Below U V0 w5:=d1.trans (q1.mono (yJ n4));have o8:=aa (n0 w5 k7);have s2:=aa k7;have c:=j4.below q1;have u0:=aa c;obtain⟨r0,r1,r2,r3,r4,r5⟩:=c.six;obtain⟨f0,f1,f2,f3,f4,f5,b4⟩:=c.ice;clear c b6 k7;refine hK _ _ o8 (λhHeld=>?_);clear hK Kc
      try simp only[tS]
      refine di 6 (λKc hK=>?_);go_simp;refine hK _ _ (CT.far (show U≠b9 by omega) o8) (λhHeld=>?_);clear hK Kc
      try simp only[tS]
      refine yV (by kernel_rfl) ?_ _;go_wp2_with fail
      go_roundw
      case rel=>exact⟨i,t5,d8,f9,e5,d9,f6,f8,m5,n5,s5,by go_num,by omega,u0.sixS _ _ _ _ _ _,gR (aj.mono (λg a h=>by rcases h with h|h;exact h;exact⟨.inr (by have:=t9.out;have h8:wr.heap.size<g:=h;omega),by have h8:wr.heap.size<g:=h;omega⟩) _ _ l9) (λh=>h.2 rfl) _ _ _ _ _ _,j3,fV s2 (zA _) _ _ _ _ _ _⟩
      case measure=>simp[intOf]
theorem pR {g:Nat}(h:NV w A p xs g):NL w A [p] xs g:=⟨xs,[],by simp,h,rfl⟩
theorem ed {v:Value}(h:cB w A 27 6 v n xs):∃lo lc,v=.slice lo n lc:=by
 rcases h.1.2 with⟨rfl,b⟩|⟨g,a,c,rfl,_⟩
 ·exact⟨none,0,by rw[b]⟩
 ·exact⟨_,_,rfl⟩
mutual
theorem nr:∀p:Pat,Lt p
 |.set st=>by
  intro w A g k E y B D C z m n r o i c d a;obtain⟨Q,e,q,M,K,G⟩:=o;simp only[bT,zT,zu,yB,yK]at e;obtain⟨rfl,rfl,H,rfl,rfl,rfl⟩:=e;injection H with e1 e2 e3;subst e1 e2 e3;subst K;have j:q.length<=100000:=by have e:=nu q;simp only[Pat.rg]at a;omega
  have x:cB w A 27 6 (Vz) ([]:List Pat).length []:=⟨zZ _ _ _ _,λg h=>by cases h⟩;rcases G with⟨I,v⟩|⟨b,J,L,I,P,N,R,O⟩
  ·injection I with e1 e2 e3;subst e1 e2 e3 v;exact gO (l:=[]) (xs:=[]) (g:=0) (.inr (.inr (.inr (.inr (.inr (.inl ⟨rfl,rfl,rfl⟩)))))) i x rfl (λp h=>by simp at h) (λp h=>by simp at h) (by simp[bH]) (by simp[cr])
  ·injection I with e1 e2 e3;subst e1 e2 e3;by_cases v:q=[]
   ·subst v;exact gO (l:=[]) (xs:=[]) (g:=0) (.inr (.inr (.inr (.inr (.inr (.inl ⟨rfl,rfl,rfl⟩)))))) i x rfl (λp h=>by simp at h) (λp h=>by simp at h) (by simp[bH]) (by simp[cr])
   ·exact gO (l:=[]) (xs:=[]) (g:=0) (.inr (.inr (.inr (.inr (.inl ⟨rfl,b,J,q,rfl,rfl,rfl,M,v,j,N,O⟩))))) i x rfl (λp h=>by simp at h) (λp h=>by simp at h) (by simp[bH]) (by simp[cr])
 |.row l=>by
  have s:=oC l;intro w A g k E y B D C z m n r o i c d a;obtain⟨F,xs,e,f,j⟩:=o;obtain⟨u,t,rfl⟩:=ed f;simp only[bT,zT,zu,zm,yB,yK]at e;obtain⟨rfl,⟨rfl,rfl,rfl⟩,⟨rfl,rfl,rfl⟩,rfl,rfl,rfl⟩:=e;simp only[Pat.nd,Pat.rg]at d a;exact gO (.inr (.inr (.inr (.inr (.inr (.inr ⟨rfl,rfl⟩)))))) i f j s ((lF l).1 c) (by omega) a
 |.or l=>by
  have s:=oC l;intro w A g k E y B D C z m n r o i c d a;obtain⟨F,xs,e,f,j⟩:=o;obtain⟨u,t,rfl⟩:=ed f;simp only[bT,zT,zu,zm,yB,yK]at e;obtain⟨rfl,⟨rfl,rfl,rfl⟩,⟨rfl,rfl,rfl⟩,rfl,rfl,rfl⟩:=e;simp only[Pat.nd,Pat.rg]at d a;exact gO (.inl ⟨5,.inl ⟨rfl,rfl⟩,c.2,λ_ _=>Xr⟩) i f j s ((lF l).1 c.1) (by omega) a
 |.and l=>by
  have s:=oC l;intro w A g k E y B D C z m n r o i c d a;obtain⟨F,xs,e,f,j⟩:=o;obtain⟨u,t,rfl⟩:=ed f;simp only[bT,zT,zu,zm,yB,yK]at e;obtain⟨rfl,⟨rfl,rfl,rfl⟩,⟨rfl,rfl,rfl⟩,rfl,rfl,rfl⟩:=e;simp only[Pat.nd,Pat.rg]at d a;exact gO (.inl ⟨6,.inr ⟨rfl,rfl⟩,c.2,λ_ _=>Vy⟩) i f j s ((lF l).1 c.1) (by omega) a
 |.not p=>by
  have s:=nr p;intro w A g k E y B D C z m n r o i c d a;obtain⟨F,xs,e,f,j⟩:=o;obtain⟨u,t,rfl⟩:=ed f;simp only[bT,zT,zu,zm,yB,yK]at e;obtain⟨rfl,⟨rfl,rfl,rfl⟩,⟨rfl,rfl,rfl⟩,rfl,rfl,rfl⟩:=e;simp only[Pat.nd,Pat.rg]at d a;exact gO (l:=[p]) (.inr (.inl ⟨rfl,p,rfl,rfl⟩)) i f (pR j) (λq h=>by simp at h;subst h;exact s) (λq h=>by simp at h;subst h;exact c) (by simp only[bH];omega) (by simp only[cr];omega)
 |.many p m' n'=>by
  have s:=nr p;intro w A g k E y B D C z m n r o i c d a;obtain⟨F,xs,e,f,j⟩:=o;obtain⟨u,t,rfl⟩:=ed f;simp only[bT,zT,zu,zm,yB,yK]at e;obtain⟨rfl,⟨rfl,rfl,rfl⟩,⟨rfl,rfl,rfl⟩,rfl,rfl,rfl⟩:=e;simp only[Pat.nd,Pat.rg]at d a;exact gO (l:=[p]) (.inr (.inr (.inr (.inl ⟨rfl,p,rfl,rfl,c.2⟩)))) i f (pR j) (λq h=>by simp at h;subst h;exact s) (λq h=>by simp at h;subst h;exact c.1) (by simp only[bH];omega) (by simp only[cr];omega)
 |.group p=>by
  have s:=nr p;intro w A g k E y B D C z m n r o i c d a;obtain⟨F,xs,e,f,j⟩:=o;obtain⟨u,t,rfl⟩:=ed f;simp only[bT,zT,zu,zm,yB,yK]at e;obtain⟨rfl,⟨rfl,rfl,rfl⟩,⟨rfl,rfl,rfl⟩,rfl,rfl,rfl⟩:=e;simp only[Pat.nd,Pat.rg]at d a;exact gO (l:=[p]) (.inr (.inr (.inl ⟨rfl,p,rfl,rfl⟩))) i f (pR j) (λq h=>by simp at h;subst h;exact s) (λq h=>by simp at h;subst h;exact c) (by simp only[bH];omega) (by simp only[cr];omega)
theorem oC:∀l:List Pat,∀p∈l,Lt p
 | [],p,h=>by simp at h
 |q::l,p,h=>by
  have b:=nr q;have a:=oC l;rcases zO.1 h with rfl|h
  ·exact b
  ·exact a p h
end
theorem iQ {e size:Nat}(h:w.ownsRow B e size (.slice lo n cap) n xs):cg w (λg=>B<=g) lo xs:=λj u a=>by
 rcases h.2 with⟨l,d⟩|⟨g,b,f,e,i,k,r⟩
 ·have:=h.1;rw[d,Nat.zero_mul]at this;rw[yf this]at a;simp at a
 ·injection e with e1 e2 e3;subst e1 e3;have c:=h.cells (g:=g) rfl j u a;rw[zl]at c;exact⟨g,0,rfl,i,(h.lt g rfl).2,c⟩
theorem kf {e size:Nat}(h:w.ownsRow B e size (.slice lo n cap) n xs):n<=cap/\(lo=none->n=0/\cap=0)/\∀ad,lo=some ad->∃g,ad=(aD g 0):=by
 rcases h.2 with⟨d,b⟩|⟨g,a,c,e,i,f,r,_⟩
 ·injection d with e1 e2 e3;subst e1 e3;exact⟨by omega,λ_=>⟨b,rfl⟩,λ_ e=>by cases e⟩
 ·injection e with e1 e2 e3;subst e1 e3;exact⟨r,λe=>(by cases e),λad e=>by injection e with e;exact⟨g,e.symm⟩⟩
theorem EZ {l:LZ}:∀u∈bj l,u.oneCell'=true:=by
 intro u a;obtain⟨c,_,rfl⟩:=yH.1 a;rfl
theorem qJ {l:LZ}{i:Nat}{c:Int}(h:l[i]?=some c):(bj l)[i]?=some (Vi c):=by
 unfold bj;rw[zg,h];rfl
theorem OE (hr:cg w A lo xs){k:Nat}(hn:xs.length=n)(hc:n<=cap){ao:OA}(hao:¬cap=k->∀b off,lo=some (aD b off)->ao=some ⟨b,off+k,none⟩):∀ad,ao=some ad->∀j u,(xs.drop k)[j]?=some u->w.cell? (ad.add j)=some u:=λad e j u a=>by
 rw[List.getElem?_drop]at a;have d:=(zC.1 a).1;obtain⟨b,off,c,_,_,hc⟩:=hr _ u a;rw[hao (by omega) b off c]at e;injection e with e;subst e;rw[zl,show off+k+j=off+(k+j) by omega];exact hc
theorem Lw {l:LZ}{k:Nat}(hs:l.Pairwise (·<·))(h1:∀y∈l.take k,y<x)(h2:∀y,l[k]?=some y->x<y):(l.take k++x::l.drop k).Pairwise (·<·):=by
 rw[yA];have e:∀y∈l.drop k,x<y:=by
  intro y c;cases hdk:l.drop k with
  |nil=>rw[hdk]at c;simp at c
  |cons z t=>
   have j:l[k]?=some z:=by
    have:(l.drop k)[0]?=some z:=by rw[hdk];rfl
    rw[List.getElem?_drop]at this;simpa using this
   have i:=h2 z j;rw[hdk]at c;have f:=hs.sublist (List.drop_sublist k l);rw[hdk,yg]at f;rcases zO.1 c with rfl|c
   ·exact i
   ·have:=f.1 y c;omega
 refine⟨hs.sublist (List.take_sublist k l),?_,?_⟩
 ·rw[yg];exact⟨e,hs.sublist (List.drop_sublist k l)⟩
 ·intro a g b d;have h:=h1 a g;rcases zO.1 d with rfl|d
  ·exact h
  ·have:=e b d;omega
theorem RY {l:LZ}(k:Nat)(y:Int):y∈l.take k++x::l.drop k↔y∈l\/y=x:=by
 have h:y∈l↔y∈l.take k\/y∈l.drop k:=by
  rw[<-zM,zj]
 rw[zM,zO,h];constructor
 ·rintro (h|h|h)
  ·exact .inl (.inl h)
  ·exact .inr h
  ·exact .inl (.inr h)
 ·rintro ((h|h)|h)
  ·exact .inl h
  ·exact .inr (.inr h)
  ·exact .inr (.inl h)
def YZ (w:World)(B:Nat)(l:List Int)(x:Int)(e:Ending)(w':World):Prop:=∃v' l',e=.returned v'/\w'.ownsRow B 3 1 v' l'.length (bj l')/\l'.Pairwise (·<·)/\(∀y,y∈l'↔y∈l\/y=x)/\l'.length<=l.length+1/\Bw w w'
theorem xT {lo0:OA}{cap0:Nat}{l:LZ}(hB:B<=w.heap.size)(hown:w.ownsRow B 3 1 (.slice lo0 l.length cap0) l.length (bj l))(hlen:l.length<=1000000)(hs:l.Pairwise (·<·)):Calls prog 39 #[.slice lo0 l.length cap0,Vi x] w (YZ w B l x):=by
 obtain⟨a7,p,F⟩:=kf hown;have HR:=aa ((iQ hown).mono (A':=λg=>B<=g/\g<w.heap.size) (λg a s=>⟨s,a⟩));have HO:=aa hown;have HS:=aa hs;have a9:=aa p;have V:=aa F;have HB:=aa hB;have b0:=aa a7;clear hown hs p F hB;obtain⟨i0,hi,I,N,M⟩:=zz jo;go_enter func39,ntmps39;go_upto_region 1 with fail;generalize hS:w.heap.size=S at *;go_wp2_with fail
 go_loopw [5] (λi wr=>∃k:Nat,k<=l.length/\i=Vi k/\(∀y∈l.take k,y<x)/\Bw w wr) (λi _=>l.length-(intOf i).toNat)
 case atStart=>exact⟨0,zW _,rfl,λy h=>by simp at h,zE _ _⟩
 case round=>
  obtain⟨k,hk,rfl,a1,f⟩:=hrel;go_upto_region 2 with fail;have r:=aa f;have a8:=aa a1;clear a1
  go_cut [18] (λv wx=>∃b:Bool,v=.bool b/\(b=true↔∃y,l[k]?=some y/\y<x)/\wx=wr)
  case first=>
   have i1:(0:Int)<=(k:Int):=zK _;by_cases t:k<l.length
   ·obtain⟨y,q⟩:∃y,l[k]?=some y:=⟨_,zB t⟩;obtain⟨b,b2,rfl,_,hb,hc⟩:=(HR.out.below f) k _ (qJ q);obtain⟨g,hg⟩:=V.out _ rfl;injection hg with e1 e2 e3;subst e1 e2;have y5:wr.cell? (aD b k)=some (Vi y):=by simpa using hc
    have i2:(k:Int)<(l.length:Int):=by omega
    have HY:=aa q;clear hc f q;go_wp2_with fail
    go_meet
    case rel=>exact⟨_,rfl,⟨λh=>⟨y,HY,by simpa using h⟩,λ⟨z,a,s⟩=>by rw[HY.out]at a;injection a with a;subst a;simpa using s⟩,rfl⟩
   ·have hd:decide ((k:Int)<(l.length:Int))=false:=by simp;omega
    clear f;go_wp2_with fail
    go_meet
    case rel=>exact⟨false,rfl,⟨λh=>(by cases h),λ⟨z,a,_⟩=>by have:=(zC.1 a).1;omega⟩,rfl⟩
  case rest=>
   obtain⟨b,rfl,d,m⟩:=hcut;replace m:=m.symm;subst m;clear f;cases b with
   |true=>
    obtain⟨y,q,a0⟩:=d.1 rfl;have t:=(zC.1 q).1;have a2:Hid (∀z∈l.take (k+1),z<x):=λz hz=>by
     rw[zi,q]at hz;rcases zM.1 hz with h|h
     ·exact a8 z h
     ·simp at h;subst h;exact a0
    have i1:(0:Int)<=(k:Int):=zK _;clear d q a0;go_wp2_with fail
    go_roundw
    case rel=>exact⟨k+1,by omega,by go_num,a2,r⟩
    case measure=>simp[intOf];omega
   |false=>
    have b4:Hid (∀y,l[k]?=some y->¬y<x):=λy a s=>by have:=d.2 ⟨y,a,s⟩;cases this
    clear d;have D:=r.out;go_upto_region 4 with fail
    go_cut [32] (λv wx=>∃b:Bool,v=.bool b/\(b=true↔l[k]?=some x)/\wx=wr)
    case first=>
     have i1:(0:Int)<=(k:Int):=zK _;by_cases t:k<l.length
     ·obtain⟨y,q⟩:∃y,l[k]?=some y:=⟨_,zB t⟩;obtain⟨b,b2,rfl,_,hb,hc⟩:=(HR.out.below D) k _ (qJ q);obtain⟨g,hg⟩:=V.out _ rfl;injection hg with e1 e2 e3;subst e1 e2;have y5:wr.cell? (aD b k)=some (Vi y):=by simpa using hc
      have i2:(k:Int)<(l.length:Int):=by omega
      have HY:=aa q;clear hc D q;go_wp2_with fail
      go_meet
      case rel=>exact⟨_,rfl,⟨λh=>by rw[HY.out];simpa using h,λa=>by rw[HY.out]at a;injection a with a;subst a;simp⟩,rfl⟩
     ·have hd:decide ((k:Int)<(l.length:Int))=false:=by simp;omega
      clear D;go_wp2_with fail
      go_meet
      case rel=>exact⟨false,rfl,⟨λh=>(by cases h),λa=>by have:=(zC.1 a).1;omega⟩,rfl⟩
    case rest=>
     obtain⟨b,rfl,d,m⟩:=hcut;replace m:=m.symm;subst m;clear D;cases b with
     |true=>
      have Y:=aa (zU (d.1 rfl));clear d;go_wp2_with fail;go_ret;have X:=r.out;exact⟨_,l,rfl,bg HO X,HS,λy=>⟨.inl,λh=>h.elim id (λe=>e▸Y.out)⟩,yN _,X⟩
     |false=>
      have b3:Hid (∀y,l[k]?=some y->x<y):=λy h=>by
       have a:=b4.out y h;have s:y≠x:=λe=>by have:=d.2 (e▸h);cases this
       omega
      clear d;obtain⟨H,P⟩:∃H,wr=H:=⟨_,rfl⟩;have A:Bw w H:=by rw[<-P];exact r
      have c2:=aa A;have U:=aa (HR.below A);have J:Hid ((bj l).length=l.length):=by show _=_;simp[bj]
      have L:S<=H.heap.size:=by rw[<-hS];exact A.size
      rw[P];clear P r A;have i1:(0:Int)<=(k:Int):=zK _;have i2:(k:Int)<=(l.length:Int):=by omega
      have i3:(l.length:Int)<=(cap0:Int):=by omega
      go_upto_region 7 with fail;go_upto_region 8 with (at_builtin;refine eO rfl (.tmp 34) (.tmp 37) 61 3 i0 _ 1 8 rfl underlying61 hi I N M rfl (by decide) S 0 _ [] rfl (zZ _ _ _ _) _ k _ ((bj l).take k) rfl (λe=>by obtain⟨a,s⟩:=a9.out e;exact⟨by omega,by omega⟩) (by rw[yn,J.out];omega) (El U _) (λu R=>EZ u (yi R)) (by unfold maxLen;omega) (by omega) L ?_;intro v2 w2 c G);have a3:Below S H w2:=cD (v:=Vz) (n:=0) (xs:=[]) (zE _ _) L (zZ _ _ 3 1) G;rw[zd,zf]at c;obtain⟨c8,c7,rfl⟩:=cd c;have b9:=aa c;have T:=aa a3;clear c a3 G;obtain⟨W3,a5,C,b1,-⟩:=dS (rfl:w2.heap.size=_) [Vi x] 3;have a6:=aa (bg b9 C);have b6:=aa b1;have b8:=aa a5;have c3:=aa C;have c9:S<=w2.heap.size:=zJ L T.size;have d0:w2.heap.size<=W3.heap.size:=C.size;clear a5 C b1;go_upto_region 9 with (at_builtin;rw[b8.out];refine eO rfl (.tmp 39) (.tmp 41) 61 3 i0 _ 1 8 rfl underlying61 hi I N M rfl (by decide) S k _ _ rfl a6 _ 1 _ [Vi x] rfl (λe=>by cases e) rfl (λad e j u hj=>by injection e with e;subst e;rw[zl,zf,b6.out.cell];exact hj) (λu R=>by simp at R;subst R;rfl) (by unfold maxLen;omega) (by omega) (by omega) ?_;intro v4 w4 o E);have W:S<=W3.heap.size:=by omega
      have Q:Below S W3 w4:=cD (zE _ _) W a6 E;obtain⟨d1,c6,rfl⟩:=cd o;have O:Hid (Below S H w4):=(T.trans (c3.mono (by omega))).trans Q;have Z:=aa o;have c1:S<=w4.heap.size:=zJ W Q.size;have b5:Hid (cg w4 (λg=>B<=g/\g<S) lo0 (bj l)):=by
       exact U.keep ⟨O.size,λg a s=>O.block g s.2⟩
      clear o E Q;go_wp2_with (at_builtin;refine eO rfl (.tmp 43) (.tmp 46) 61 3 i0 _ 1 8 rfl underlying61 hi I N M rfl (by decide) S (k+1) _ _ rfl Z _ (l.length-k) _ ((bj l).drop k) rfl (λe=>by have a:=a9.out (by first|exact e|(split at e;exact e;simpa using e)|simpa using e);obtain⟨s,h3⟩:=a;exact⟨by omega,by omega⟩) (by rw[yO,J.out];omega) (OE b5 (n:=l.length) (cap:=cap0) J b0 (by intro b7 b b2 e;simp[b7,e,Addr.add])) (λu R=>EZ u (List.mem_of_mem_drop R)) (by unfold maxLen;omega) (by omega) (by omega) ?_;intro v5 w5 K a4)
      all_goals
       go_ret;have c4:Below S w4 w5:=cD (zE _ _) c1 Z a4;have c0:Below S H w5:=O.trans c4;have c5:Bw w w5:=c2.trans (by rw[hS];exact c0);refine⟨v5,l.take k++x::l.drop k,rfl,?_,Lw HS a8 b3,RY k,by simp;omega,c5⟩;have e:(l.take k++x::l.drop k).length=k+1+(l.length-k):=by simp;omega
       rw[e];exact ij (by simpa [zc,bj]using K) (by have:=HB.out;omega)
