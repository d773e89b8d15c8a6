import Derived.Test.YtebnghmioamheaaGreatDoorM43
set_option maxHeartbeats 4000000
set_option maxRecDepth 100000
set_option linter.all false
namespace Go.Proofs.YtebnghmioamheaaGreatDoor
open Go.RowKit Brm Tryz
variable {w W w' a:World}{A:NP}{Ka ma na Kb mb nb mx nx K m n m' n' c:Int}{soa loa sob lob sox lox so lo so' lo':OA}{sna sca lna lca snb scb lnb lcb b off lc snx scx lnx lcx sn sc sn' sc' ln' lc' ln B e size cap i j:Nat}{sa sb s sx s':ByteArray}{t u zt ot y:Tm}{l ts ex ks:List Tm}{xs cs:LV}{v:Value}{q:LQ}{p:Pat}
theorem jB {S:Nat}(h:Below S w W)(a b c d e f:Value):Below S w ((((((W.setCell (aD (S+1+1) 0) a).setCell (aD (S+1+1) 1) b).setCell (aD (S+1+1) 2) c).setCell (aD (S+1+1) 3) d).setCell (aD (S+1+1) 4) e).setCell (aD (S+1+1) 5) f):=by
 have k:S<=S+1+1:=by omega
 exact (((((h.setCell (p:=(aD (S+1+1) 0)) k _).setCell (p:=(aD (S+1+1) 1)) k _).setCell (p:=(aD (S+1+1) 2)) k _).setCell (p:=(aD (S+1+1) 3)) k _).setCell (p:=(aD (S+1+1) 4)) k _).setCell (p:=(aD (S+1+1) 5)) k _
theorem kc {A':NP}{c:LV}(h:aj w A .none c):aj w' A' .none c:=by
 obtain⟨s,e,a⟩:=h;exact⟨s,e,a⟩
theorem qA (h:Ka=1\/(Ka≠1/\Kb=1)):Calls prog 38 #[.agg #[Vi Ka,.slice soa sna sca,.slice loa lna lca,Vi ma,Vi na,.string sa],.agg #[Vi Kb,.slice sob snb scb,.slice lob lnb lcb,Vi mb,Vi nb,.string sb]] w (eH w A (λu=>u=.none)):=by
 obtain⟨I,i,l,d,c,k,-⟩:=rY (rfl:w.heap.size=_) (TC Ka soa sna sca loa lna lca ma na sa) 58 (TC Kb sob snb scb lob lnb lcb mb nb sb) 58 TZ 58;obtain⟨R,J,X,U,O,Z⟩:=d.six;obtain⟨Y,a1,a0,P,K,a3⟩:=c.six;have T:=d.lt;have a2:=c.lt;have L:=aa (fG I);have j:=aa k;have s:=aa l;have r:=aa i;have N:Hid ((Ka==1)=true\/((Ka==1)=false/\(Kb==1)=true)):=by
  rcases h with h|⟨h,V⟩
  ·exact .inl (beq_iff_eq.2 h)
  ·exact .inr ⟨zD.2 h,beq_iff_eq.2 V⟩
 go_enter func38,ntmps38;go_upto_region 1 with fail;rw[r.out];generalize hS:w.heap.size=S at *;rcases N.out with M|⟨M,q2⟩
 all_goals go_wp2_with fail
 all_goals refine L.mono ?_
 all_goals rintro e W ⟨t3,g,n,p,m,q,o,C,D,B,rfl,b,rfl,f⟩
 all_goals simp only[Tm.kind]at b ⊢
 all_goals have a:=j.below f
 all_goals have F:=a.cell 0
 all_goals have G:=a.cell 1
 all_goals have H:=a.cell 2
 all_goals have y:=a.cell 3
 all_goals have z:=a.cell 4
 all_goals have E:=a.cell 5
 all_goals have f0:=a.frozen 0
 all_goals have f1:=a.frozen 1
 all_goals have f2:=a.frozen 2
 all_goals have f3:=a.frozen 3
 all_goals have f4:=a.frozen 4
 all_goals have f5:=a.frozen 5
 all_goals have Q:=a.lt
 all_goals simp only[TZ,List.getElem?_cons_zero,List.getElem?_cons_succ]at F G H y z E
 all_goals have x:Hid (Below S w W):=s.trans (f.mono (by have:=j.lt;omega))
 all_goals have t:=aa b
 all_goals clear b f a
 all_goals go_wp2_with fail
 all_goals refine zN (v:=.agg #[Vi 1,.slice g n p,.slice m q o,Vi C,Vi D,.string B]) (by simp[results,results38,go_sem,F,G,H,y,z,E]) rfl ⟨.none,g,n,p,m,q,o,C,D,B,rfl,?_,rfl,?_⟩
 all_goals rw[hS]
 all_goals first
  |exact jB x _ _ _ _ _ _
  |exact kc t
theorem Ob (hA:∀g,A g->g<w.heap.size)(hb1:Kb≠1)(ha2:Ka=2)(hK:Kb=t.kind)(hv:aj w A t (TC Kb sob snb scb lob lnb lcb mb nb sb)):Calls prog 38 #[.agg #[Vi Ka,.slice soa sna sca,.slice loa lna lca,Vi ma,Vi na,.string sa],.agg #[Vi Kb,.slice sob snb scb,.slice lob lnb lcb,Vi mb,Vi nb,.string sb]] w (eH w A (λu=>u=t)):=by
 subst ha2;obtain⟨O,f,b,d,c,a,-⟩:=rY (rfl:w.heap.size=_) (TC 2 soa sna sca loa lna lca ma na sa) 58 (TC Kb sob snb scb lob lnb lcb mb nb sb) 58 TZ 58;obtain⟨C,l,E,z,r,I⟩:=d.six;obtain⟨G,K,H,q,m,o⟩:=c.six;have D:=d.lt;have M:=c.lt;have x:(Kb==1)=false:=zD.2 hb1;have y:=aa (aj.below b _ _ hv);have j:=aa b;obtain⟨F,L,N,n,p,B⟩:=a.six;obtain⟨P,V,Q,T,U,R,s⟩:=a.ice;have i:=aa f;have J:=aa hA;have k:=aa hK;go_enter func38,ntmps38;go_upto_region 1 with fail;rw[i.out];generalize hS:w.heap.size=S at *;go_wp2_with fail;refine zN (v:=.agg #[Vi Kb,.slice sob snb scb,.slice lob lnb lcb,Vi mb,Vi nb,.string sb]) (by simp[results,results38,go_sem,F,L,N,n,p,B]) rfl ⟨t,sob,snb,scb,lob,lnb,lcb,mb,nb,sb,by rw[k.out],?_,rfl,?_⟩
 ·rw[hS,<-k.out];exact aj.mono (λg _ e=>by rcases e with e|e;exact .inl e;exact .inr (by omega)) _ _ (dP (S:=S+1+1) (aj.mono (λg _ e=>.inl e) _ _ y) (λg h=>by have:=J.out g h;omega) _ _ _ _ _ _)
 ·rw[hS];exact jB j _ _ _ _ _ _
theorem Et (hA:∀g,A g->g<w.heap.size)(ha1:Ka≠1)(ha2:Ka≠2)(hb2:Kb=2)(hK:Ka=t.kind)(hv:aj w A t (TC Ka soa sna sca loa lna lca ma na sa)):Calls prog 38 #[.agg #[Vi Ka,.slice soa sna sca,.slice loa lna lca,Vi ma,Vi na,.string sa],.agg #[Vi Kb,.slice sob snb scb,.slice lob lnb lcb,Vi mb,Vi nb,.string sb]] w (eH w A (λu=>u=t)):=by
 subst hb2;obtain⟨P,f,b,d,c,a,-⟩:=rY (rfl:w.heap.size=_) (TC Ka soa sna sca loa lna lca ma na sa) 58 (TC 2 sob snb scb lob lnb lcb mb nb sb) 58 TZ 58;obtain⟨C,l,E,z,s,I⟩:=d.six;obtain⟨G,K,H,r,m,o⟩:=c.six;have D:=d.lt;have N:=c.lt;have M:(Ka==1)=false:=zD.2 ha1;have q:(Ka==2)=false:=zD.2 ha2;have y:=aa (aj.below b _ _ hv);have j:=aa b;obtain⟨F,L,O,n,p,B⟩:=a.six;obtain⟨Q,W,R,U,V,T,x⟩:=a.ice;have i:=aa f;have J:=aa hA;have k:=aa hK;go_enter func38,ntmps38;go_upto_region 1 with fail;rw[i.out];generalize hS:w.heap.size=S at *;go_wp2_with fail;refine zN (v:=.agg #[Vi Ka,.slice soa sna sca,.slice loa lna lca,Vi ma,Vi na,.string sa]) (by simp[results,results38,go_sem,F,L,O,n,p,B]) rfl ⟨t,soa,sna,sca,loa,lna,lca,ma,na,sa,by rw[k.out],?_,rfl,?_⟩
 ·rw[hS,<-k.out];exact aj.mono (λg _ e=>by rcases e with e|e;exact .inl e;exact .inr (by omega)) _ _ (dP (S:=S+1+1) (aj.mono (λg _ e=>.inl e) _ _ y) (λg h=>by have:=J.out g h;omega) _ _ _ _ _ _)
 ·rw[hS];exact jB j _ _ _ _ _ _
theorem Rr (hA:∀g,A g->g<w.heap.size)(ha1:Ka≠1)(hb1:Kb≠1)(ha2:Ka≠2)(hb2:Kb≠2)(ha4:Ka≠4)(hv:aj w A t (TC Ka soa sna sca loa lna lca ma na sa))(hu:aj w A u (TC Kb sob snb scb lob lnb lcb mb nb sb))(ht:t.Ok)(huk:u.Ok)(htl:t.tl+u.tl<=8000000000000000000):Calls prog 38 #[.agg #[Vi Ka,.slice soa sna sca,.slice loa lna lca,Vi ma,Vi na,.string sa],.agg #[Vi Kb,.slice sob snb scb,.slice lob lnb lcb,Vi mb,Vi nb,.string sb]] w (eH w A (λv=>v=.row t u)):=by
 obtain⟨f,j,b,n,m,p,-⟩:=rY (rfl:w.heap.size=_) (TC Ka soa sna sca loa lna lca ma na sa) 58 (TC Kb sob snb scb lob lnb lcb mb nb sb) 58 TZ 58;obtain⟨T,H,X,R,N,a1⟩:=n.six;obtain⟨Y,a2,a0,M,I,a6⟩:=m.six;have U:=n.lt;have a5:=m.lt;have a4:(Ka==1)=false:=zD.2 ha1;have Q:(Kb==1)=false:=zD.2 hb1;have L:(Ka==2)=false:=zD.2 ha2;have a3:(Kb==2)=false:=zD.2 hb2;have O:(Ka==4)=false:=zD.2 ha4;obtain⟨l,d⟩:∃l,f.alloc (.cells #[Vi Ka,.slice soa sna sca,.slice loa lna lca,Vi ma,Vi na,.string sa,Vi Kb,.slice sob snb scb,.slice lob lnb lcb,Vi mb,Vi nb,.string sb] 58)=l:=⟨_,rfl⟩;have a:Bw f l:=by rw[<-d];exact (zE _ _).alloc (zA _) _
 have z:f.heap.size=w.heap.size+3:=by rw[<-j];simp
 have i:cg l (λg=>A g\/w.heap.size+1+1<g) (some (aD f.heap.size 0)) (TC Ka soa sna sca loa lna lca ma na sa++TC Kb sob snb scb lob lnb lcb mb nb sb):=by rw[<-d];exact (nP f (TC Ka soa sna sca loa lna lca ma na sa++TC Kb sob snb scb lob lnb lcb mb nb sb) 58).mono λg _ c=>.inr (by omega)
 have y:aj l (λg=>A g\/w.heap.size+1+1<g) t (TC Ka soa sna sca loa lna lca ma na sa):=aj.mono (λg _ c=>.inl c) _ _ (aj.below a _ _ (aj.below b _ _ hv));have s:aj l (λg=>A g\/w.heap.size+1+1<g) u (TC Kb sob snb scb lob lnb lcb mb nb sb):=aj.mono (λg _ c=>.inl c) _ _ (aj.below a _ _ (aj.below b _ _ hu));have x:=aa (Ps (lc:=2) ⟨#[]⟩ i y s ht huk htl);have D:Hid (Bw w l):=b.trans (a.mono b.size);have r:=aa (p.below a);have F:=aa d;have B:=aa j;have HA:=aa hA;go_enter func38,ntmps38;go_upto_region 1 with fail;rw[B.out];generalize hS:w.heap.size=S at *;go_wp2_with fail;rw[F.out];refine x.mono ?_;rintro e W ⟨G,rfl,q,o⟩;have k:=r.below o;obtain⟨Z,r1,r2,J,K,V⟩:=k.six;obtain⟨f0,f1,f2,f3,f4,f5,P⟩:=k.ice;have E:Hid (Below S w W):=D.trans (o.mono (by have:=r.lt;omega));have C:=aa q;go_wp2_with fail;refine zN (v:=.agg #[Vi 4,Vz,Vs f.heap.size 2 2,Vi 0,Vi 0,.string G]) (by simp[results,results38,go_sem,Z,r1,r2,J,K,V]) rfl ⟨.row t u,none,0,0,some (aD f.heap.size 0),2,2,0,0,G,rfl,?_,rfl,?_⟩
 ·rw[hS];exact aj.mono (λg _ c=>by rcases c with c|c;exact .inl c;exact .inr (by omega)) _ _ (dP C (λg h=>by have:=HA.out g h;omega) _ _ _ _ _ _)
 ·rw[hS];exact jB E _ _ _ _ _ _
def wT (t:Tm):Prop:=∀(w:World) (A:Nat->Prop) (u:Tm) (soa:Option Addr) (sna sca:Nat) (loa:Option Addr) (lna lca:Nat) (ma na:Int) (sa:ByteArray) (sob:Option Addr) (snb scb:Nat) (lob:Option Addr) (lnb lcb:Nat) (mb nb:Int) (sb:ByteArray),
 (∀g,A g->g<w.heap.size)->aj w A t (TC t.kind soa sna sca loa lna lca ma na sa)->aj w A u (TC u.kind sob snb scb lob lnb lcb mb nb sb)->t.Ok->u.Ok->t.tl+u.tl<=6900000000000000000 ->
 Calls prog 38 #[.agg #[Vi t.kind,.slice soa sna sca,.slice loa lna lca,Vi ma,Vi na,.string sa],.agg #[Vi u.kind,.slice sob snb scb,.slice lob lnb lcb,Vi mb,Vi nb,.string sb]] w (eH w A (Gd (aJ t.L u.L) (t.z+u.z) (t.tl+u.tl+12)))
theorem jw (w:World):Bw w w.drew:=(zE _ _).drew
theorem ku {b:World}(h:Bw a.drew b):Bw a b:=⟨h.os,h.tape,h.output,h.size,h.block⟩
theorem PV {p q:Tm}{soy:OA}{sny scy:Nat}{loy:OA}{lny lcy:Nat}{my ny:Int}{sy:ByteArray}(hA:∀g,A g->g<w.heap.size)(ip:wT p)(iq:wT q)(hb1:u.kind≠1)(hb2:u.kind≠2)(hbl:b<w.heap.size)
  (hrow:∀j v,(TC p.kind sox snx scx lox lnx lcx mx nx sx++TC q.kind soy sny scy loy lny lcy my ny sy)[j]?=some v->w.cell? ⟨b,off+j,none⟩=some v) (hp:aj w A p (TC p.kind sox snx scx lox lnx lcx mx nx sx)) (hq:aj w A q (TC q.kind soy sny scy loy lny lcy my ny sy)) (hu:aj w A u (TC u.kind sob snb scb lob lnb lcb mb nb sb)) (pk:p.Ok) (qk:q.Ok) (uk:u.Ok) (htl:p.tl+q.tl+12+u.tl<=6900000000000000000):Calls prog 38 #[.agg #[Vi 4,Vz,.slice (some (aD b off)) 2 lc,Vi 0,Vi 0,.string s],.agg #[Vi u.kind,.slice sob snb scb,.slice lob lnb lcb,Vi mb,Vi nb,.string sb]] w (eH w A (Gd (aJ (aJ p.L q.L) u.L) (p.z+q.z+u.z) (p.tl+q.tl+12+u.tl+12))):=by
 obtain⟨f,N,a,r,J,X,-⟩:=rY (rfl:w.heap.size=_) (TC 4 none 0 0 (some (aD b off)) 2 lc 0 0 s) 58 (TC u.kind sob snb scb lob lnb lcb mb nb sb) 58 TZ 58;have e0:f.cell? (aD w.heap.size 0)=some (Vi 4):=r.cell 0;have c4:f.cell? (aD w.heap.size 2)=some (.slice (some (aD b off)) 2 lc):=r.cell 2;obtain⟨b3,b2,b1,a9,c3,d6⟩:=J.six;obtain⟨a4,c2,a5,b5,b9,d1⟩:=oT a hbl (CT.fst hrow);obtain⟨c0,c9,c8,a8,a7,b8⟩:=oT a hbl (CT.snd hrow);have b0:=r.lt;have c5:=J.lt;have a1:b<f.heap.size:=zF hbl a.size;have d9:(u.kind==1)=false:=zD.2 hb1;have e1:(u.kind==2)=false:=zD.2 hb2;have d8:f.heap.size=w.heap.size+3:=by rw[<-N];simp
 have d5:Hid (∀c,Bw f c->Calls prog 38 #[.agg #[Vi q.kind,.slice soy sny scy,.slice loy lny lcy,Vi my,Vi ny,.string sy],.agg #[Vi u.kind,.slice sob snb scb,.slice lob lnb lcb,Vi mb,Vi nb,.string sb]] c λe k=>∃t H M K O G lc m n s,e=.returned (.agg #[Vi (Tm.kind t),.slice H M K,.slice O G lc,Vi m,Vi n,.string s])/\aj k (λg=>A g\/c.heap.size<g) t (TC t.kind H M K O G lc m n s)/\Gd (aJ q.L u.L) (q.z+u.z) (q.tl+u.tl+12) t/\Bw c k):=λc h=>iq c A u _ _ _ _ _ _ _ _ _ _ _ _ _ _ _ _ _ _ (λg d=>by have h1:=hA g d;have h2:=a.size;have h3:=h.size;omega) (aj.below h _ _ (aj.below a _ _ hq)) (aj.below h _ _ (aj.below a _ _ hu)) qk uk (by omega);have a6:Hid (∀(k:World) (F:Tm) (C:Option Addr) (x B:Nat) (E:Option Addr) (D y:Nat) (m5 n5:Int) (s5:ByteArray),Bw f k->aj k (λg=>A g\/f.drew.heap.size<g) F (TC F.kind C x B E D y m5 n5 s5)->Gd (aJ q.L u.L) (q.z+u.z) (q.tl+u.tl+12) F ->
   Calls prog 38 #[.agg #[Vi p.kind,.slice sox snx scx,.slice lox lnx lcx,Vi mx,Vi nx,.string sx],.agg #[Vi F.kind,.slice C x B,.slice E D y,Vi m5,Vi n5,.string s5]] k λe Q=>∃t H M K O G lc m n s,e=.returned (.agg #[Vi (Tm.kind t),.slice H M K,.slice O G lc,Vi m,Vi n,.string s])/\Hid (aj Q (λg=>A g\/w.heap.size+1+1<g) t (TC t.kind H M K O G lc m n s))/\Hid (Gd (aJ (aJ p.L q.L) u.L) (p.z+q.z+u.z) (p.tl+q.tl+12+u.tl+12) t)/\Bw k Q):=λk F C x B E D y m5 n5 s5 h5 o i=>by
  have c1:f.drew.heap.size=f.heap.size:=rfl;rw[c1]at o;have h1:=i.z;have h2:=i.tl;have h3:=h5.size;refine (ip k (λg=>(A g\/f.heap.size<g)/\g<k.heap.size) F _ _ _ _ _ _ _ _ _ _ _ _ _ _ _ _ _ _ (λg d=>d.2) (aj.mono (λg d ha=>⟨.inl ha,d⟩) _ _ (aj.below h5 _ _ (aj.below a _ _ hp))) (aj.mono (λg d ha=>⟨ha,d⟩) _ _ o) pk i.ok (by omega)).mono ?_;rintro e Q ⟨t,H,M,K,O,G,lc,m,n,s,rfl,g1,g2,g3⟩;refine⟨t,H,M,K,O,G,lc,m,n,s,rfl,?_,⟨g2.ok,?_,?_,?_⟩,g3⟩
  ·exact aj.mono (λg _ d=>by rcases d with⟨d|d,_⟩|d;exact .inl d;exact .inr (by omega);exact .inr (by omega)) _ _ g1
  ·rw[g2.lg,i.lg,AV]
  ·have:=g2.z;omega
  ·have:=g2.tl;omega
 have P:Hid (∀c,Bw f c->(c.cell? (aD w.heap.size 2)=some (.slice (some (aD b off)) 2 lc)/\CB c (w.heap.size+1) u.kind sob snb scb lob lnb lcb mb nb sb/\CT c b off p.kind sox snx scx lox lnx lcx mx nx sx/\CT c b (off+6) q.kind soy sny scy loy lny lcy my ny sy)):=λc h=>⟨(h.cell (p:=(aD w.heap.size 2)) b0).trans c4,CB.below h c5 ⟨b3,b2,b1,a9,c3,d6⟩,CT.below h a1 ⟨a4,c2,a5,b5,b9,d1⟩,CT.below h a1 ⟨c0,c9,c8,a8,a7,b8⟩⟩;have d4:=aa X;have b4:=aa a;have d3:=aa N;have HA:=aa hA;go_enter func38,ntmps38;go_upto_region 1 with fail;rw[d3.out];generalize hS:w.heap.size=S at *;have c6:S+1+1≠S:=by omega
 have c7:S+1+1≠S+1:=by omega
 have U:S+1+1≠b:=by omega
 have a0:=aa (d5 f.drew (jw f));have b7:=aa (P f.drew (jw f));go_wp2_with fail
 go_region_held3 (λc=>c.cell? (aD S 2)=some (.slice (some (aD b off)) 2 lc)/\CB c (S+1) u.kind sob snb scb lob lnb lcb mb nb sb/\CT c b off p.kind sox snx scx lox lnx lcx mx nx sx/\CT c b (off+6) q.kind soy sny scy loy lny lcy my ny sy)
  (first|with_reducible exact b7.out|with_reducible exact l.out|with_reducible exact⟨JK c6 l.out.1,CB.far c7 l.out.2.1,CT.far U l.out.2.2.1,CT.far U l.out.2.2.2⟩|fail)
  (first
   |(go_at_call 38;with_reducible refine a0.out.mono ?_;rintro e k ⟨F,C,x,B,E,D,y,m5,n5,s5,rfl,o,i,Z⟩;have z:=aa (ku Z);have l:=aa (P k z);have d2:=aa o;have d0:=aa i)
   |(go_at_call 38;with_reducible refine (a6.out _ F _ _ _ _ _ _ _ _ _ z.out d2.out d0.out).mono ?_;rintro e Q ⟨t6,R,a2,V,Y,a3,T,m6,n6,s6,rfl,b6,d7,W⟩;have L:=aa (z.trans (W.mono z.size));have l:=aa (P Q L);have I:=d4.below L;obtain⟨r0,r1,r2,r3,r4,r5⟩:=I.six;obtain⟨f0,f1,f2,f3,f4,f5,e2⟩:=I.ice)
   |fail)
 all_goals go_wp2_with fail
 refine zN (v:=.agg #[Vi (Tm.kind t6),.slice R a2 V,.slice Y a3 T,Vi m6,Vi n6,.string s6]) (by simp[results,results38,go_sem,r0,r1,r2,r3,r4,r5]) rfl ⟨t6,R,a2,V,Y,a3,T,m6,n6,s6,rfl,?_,d7,?_⟩
 ·rw[hS];exact aj.mono (λg _ d=>by rcases d with d|d;exact .inl d;exact .inr (by omega)) _ _ (dP b6 (λg h=>by have:=HA.out g h;omega) _ _ _ _ _ _)
 ·rw[hS];exact jB (b4.trans (L.mono (by omega))) _ _ _ _ _ _
theorem rp (h:t.kind=1):t=.none:=by cases t<;>first|rfl|(simp[Tm.kind]at h)
theorem rq (h:t.kind=2):t=.empty:=by cases t<;>first|rfl|(simp[Tm.kind]at h)
theorem iW (h4:t.kind≠4):wT t:=by
 intro w A u L I D G J K S R X N F O C H M Q W V x B z s p E;have P:=mh t;have Y:=mh u;have T:=fE t;have U:=fE u;by_cases h:t.kind=1\/(t.kind≠1/\u.kind=1)
 ·refine (qA (A:=A) h).mono ?_;rintro e o ⟨v,d,f,b,g,a,c,m,k,i,rfl,j,rfl,l⟩;refine⟨.none,d,f,b,g,a,c,m,k,i,rfl,j,⟨trivial,?_,by show 1<=_;omega,by show 12<=_;omega⟩,l⟩;rw[Tm.L_none];rcases h with h|⟨_,h⟩
  ·rw[rp h,Tm.L_none,CZ]
  ·rw[rp h,Tm.L_none,uc]
 ·have q:t.kind≠1:=λe=>h (.inl e);have y:u.kind≠1:=λe=>h (.inr ⟨q,e⟩);by_cases n:t.kind=2
  ·refine (Ob x y n rfl z).mono ?_;rintro e o ⟨v,d,f,b,g,a,c,m,k,i,rfl,j,rfl,l⟩;exact⟨v,d,f,b,g,a,c,m,k,i,rfl,j,⟨p,by rw[rq n,Tm.L_empty,AU],by omega,by omega⟩,l⟩
  ·by_cases r:u.kind=2
   ·refine (Et x q n r rfl B).mono ?_;rintro e o ⟨v,d,f,b,g,a,c,m,k,i,rfl,j,rfl,l⟩;exact⟨v,d,f,b,g,a,c,m,k,i,rfl,j,⟨s,by rw[rq r,Tm.L_empty,kQ],by omega,by omega⟩,l⟩
   ·refine (Rr x q y n r h4 B z s p (by omega)).mono ?_;rintro e o ⟨v,d,f,b,g,a,c,m,k,i,rfl,j,rfl,l⟩;exact⟨.row t u,d,f,b,g,a,c,m,k,i,rfl,j,⟨⟨s,p⟩,Tm.L_row t u,zA _,zA _⟩,l⟩
theorem PW {p q:Tm}(ip:wT p)(iq:wT q):wT (.row p q):=by
 intro w A u a2 a0 R Y a5 a1 ma na sa a6 a7 W X a4 a8 mb nb sb O N hu G Z S;have p1:=mh p;have p2:=mh q;have p5:=mh u;have p3:=fE p;have p4:=fE q;have p6:=fE u;have T:(Tm.row p q).tl=p.tl+q.tl+12:=rfl;have a3:(Tm.row p q).z=p.z+q.z:=rfl;by_cases y:u.kind=1
 ·refine (qA (A:=A) (.inr ⟨by simp[Tm.kind],y⟩)).mono ?_;rintro e w' ⟨v,h,f,g,c,i,a,o,t,k,rfl,B,rfl,F⟩;exact⟨.none,h,f,g,c,i,a,o,t,k,rfl,B,⟨trivial,by rw[Tm.L_none,rp y,Tm.L_none,uc],by show 1<=_;omega,by show 12<=_;omega⟩,F⟩
 ·by_cases l:u.kind=2
  ·refine (Et O (by simp[Tm.kind]) (by simp[Tm.kind]) l rfl N).mono ?_;rintro e w' ⟨v,h,f,g,c,i,a,o,t,k,rfl,B,rfl,F⟩;exact⟨.row p q,h,f,g,c,i,a,o,t,k,rfl,B,⟨G,by rw[rq l,Tm.L_empty,kQ],by omega,by omega⟩,F⟩
  ·obtain⟨c,a,xs,ys,k,e,d,P,Q,_⟩:=N;simp only[Tm.kind,TC,zT,zm,zu,yc,yB,yK]at e;obtain⟨⟨rfl,rfl,rfl⟩,⟨rfl,rfl,rfl⟩,rfl,rfl,rfl⟩:=e;obtain⟨H,r,s,x,D,K,mx,nx,sx,rfl,_⟩:=P.form;obtain⟨n,I,L,E,J,C,my,ny,sy,rfl,_⟩:=Q.form;obtain⟨b,z,rfl,U,hb,c0⟩:=d 0 _ rfl;have cc:∀j v,(TC p.kind H r s x D K mx nx sx++TC q.kind n I L E J C my ny sy)[j]?=some v->w.cell? ⟨b,z+j,none⟩=some v:=λj v hj=>by
    obtain⟨b',M,m,_,_,V⟩:=d j v hj;injection m with m;injection m with e1 e2;subst e1 e2;exact V
   rw[Tm.L_row];exact PV O ip iq y l hb cc P Q hu G.1 G.2 Z (by omega)
theorem nY:∀t:Tm,wT t
 |.none=>iW (by simp[Tm.kind])
 |.empty=>iW (by simp[Tm.kind])
 |.set _=>iW (by simp[Tm.kind])
 |.row p q=>PW (nY p) (nY q)
 |.or _=>iW (by simp[Tm.kind])
 |.and _=>iW (by simp[Tm.kind])
 |.not _=>iW (by simp[Tm.kind])
 |.many _ _ _=>iW (by simp[Tm.kind])
def xZ (t:Tm):Prop:=∀(w:World) (A:Nat->Prop) (so:Option Addr) (sn sc:Nat) (lo:Option Addr) (ln lc:Nat) (m n:Int) (s:ByteArray),aj w A t (TC t.kind so sn sc lo ln lc m n s)->t.Ok->t.tl<=8000000000000000000 ->
 Calls prog 29 #[.agg #[Vi t.kind,.slice so sn sc,.slice lo ln lc,Vi m,Vi n,.string s]] w λe w'=>∃v:Bool,e=.returned (.bool v)/\(v=true↔t.L [])/\Bw w w'
noncomputable def dl:List Tm->Nat
 | []=>0
 |t::l=>(open Classical in if t.L []then 1 else 0)+dl l
theorem vj:∀l m:List Tm,dl (l++m)=dl l+dl m
 | [],m=>by simp[dl]
 |t::l,m=>by simp only[zV,dl,vj l m];omega
theorem uu:∀l:List Tm,dl l<=l.length
 | []=>zA _
 |t::l=>by
  have:=uu l;simp only[dl,zG]
  split<;>omega
theorem qN:∀l:List Tm,dl l=l.length↔∀t∈l,t.L []
 | []=>by simp[dl]
 |t::l=>by
  have b:=uu l;have a:=qN l;simp only[dl,zG,zO,forall_eq_or_imp]
  split
  ·rename_i h
   rw[<-a];exact⟨λe=>⟨h,by omega⟩,λe=>by omega⟩
  ·rename_i h
   exact⟨λe=>by omega,λe=>absurd e.1 h⟩
theorem Fg:∀l:List Tm,0<dl l↔∃t∈l,t.L []
 | []=>by simp[dl]
 |t::l=>by
  have a:=Fg l;simp only[dl,zO,exists_eq_or_imp]
  split
  ·rename_i h
   exact⟨λ_=>.inl h,λ_=>by omega⟩
  ·rename_i h
   rw[zf,a];exact⟨λe=>.inr e,λe=>e.elim (λe=>absurd e h) id⟩
theorem OR (w:World)(so:OA)(sn sc:Nat)(lo:OA)(ln lc:Nat)(m n:Int)(s:ByteArray):Calls prog 29 #[.agg #[Vi 1,.slice so sn sc,.slice lo ln lc,Vi m,Vi n,.string s]] w λe w'=>e=.returned (.bool false)/\Bw w w':=by
 have a:=(zE w.heap.size w).alloc (zA _) (.cells #[Vi 1,.slice so sn sc,.slice lo ln lc,Vi m,Vi n,.string s] 58);have b:=aa a;go_enter func29,ntmps29;go_wp2_with fail;go_ret;exact⟨rfl,b⟩
theorem LD (w:World)(so:OA)(sn sc:Nat)(lo:OA)(ln lc:Nat)(m n:Int)(s:ByteArray):Calls prog 29 #[.agg #[Vi 2,.slice so sn sc,.slice lo ln lc,Vi m,Vi n,.string s]] w λe w'=>e=.returned (.bool true)/\Bw w w':=by
 have a:=(zE w.heap.size w).alloc (zA _) (.cells #[Vi 2,.slice so sn sc,.slice lo ln lc,Vi m,Vi n,.string s] 58);have b:=aa a;go_enter func29,ntmps29;go_wp2_with fail;go_ret;exact⟨rfl,b⟩
theorem Sm (w:World)(so:OA)(sn sc:Nat)(lo:OA)(ln lc:Nat)(m n:Int)(s:ByteArray):Calls prog 29 #[.agg #[Vi 3,.slice so sn sc,.slice lo ln lc,Vi m,Vi n,.string s]] w λe w'=>e=.returned (.bool false)/\Bw w w':=by
 have a:=(zE w.heap.size w).alloc (zA _) (.cells #[Vi 3,.slice so sn sc,.slice lo ln lc,Vi m,Vi n,.string s] 58);have b:=aa a;go_enter func29,ntmps29;go_wp2_with fail;go_ret;exact⟨rfl,b⟩
theorem sV (hK:K=4\/K=5\/K=6)(hr:cg w A lo xs)(hl:aO w A l xs)(ih:∀t∈l,xZ t)(hok:∀t∈l,t.Ok)(htl:∀t∈l,t.tl<=8000000000000000000)(hlen:l.length<=9000000000000000000):Calls prog 29 #[.agg #[Vi K,.slice so sn sc,.slice lo l.length lc,Vi m,Vi n,.string s]] w λe w'=>e=.returned (.bool (decide (dl l=l.length)||(decide (K=5)&&decide (0<dl l))))/\Bw w w':=by
 obtain⟨P,F,g,p,-⟩:=dS (rfl:w.heap.size=_) (TC K so sn sc lo l.length lc m n s) 58;have a0:P.cell? (aD w.heap.size 0)=some (Vi K):=p.cell 0;have a5:=p.lt;have k1:(K==1)=false:=zD.2 (by omega);have k2:(K==2)=false:=zD.2 (by omega);have k3:(K==3)=false:=zD.2 (by omega);have k7:(K==7)=false:=zD.2 (by omega);have k8:(K==8)=false:=zD.2 (by omega);have Y:=aa p;have L:=aa g;have O:=aa F;have HR:=aa (hr.below g);have HL:=aa (aO.below g _ _ hl);have R:=aa ih;have Q:=aa hok;have U:=aa htl;go_enter func29,ntmps29;go_upto_region 1 with fail;rw[O.out];generalize hS:w.heap.size=S at *;go_wp2_with fail
 go_loopg [4,5] l.length (λj cv iv wr=>∃i:Nat,iv=Vi i/\cv=Vi (dl (l.take i):Nat)/\i<=l.length/\l.length-i<=j/\Bw P wr)
 case atStart=>exact⟨0,rfl,rfl,zW _,zA _,zE _ _⟩
 case round=>
  obtain⟨i,rfl,rfl,a1,b1,a⟩:=hrel;have f:=Y.below a;have a2:wr.cell? (aD S 2)=some (.slice lo l.length lc):=f.cell 2;have a3:wr.cell? (aD S 0)=some (Vi K):=f.cell 0;have a9:=f.lt;have i0:(0:Int)<=(i:Int):=zK _;have u:=aa a;by_cases T:i<l.length
  ·have i1:(i:Int)<(l.length:Int):=by omega
   obtain⟨t,G⟩:∃t,l[i]?=some t:=⟨_,zB T⟩;have k:=zU G;obtain⟨b,b2,c,rfl,_,hb,d,X⟩:=(HR.out.below a).at (aO.below a _ _ HL.out) G;obtain⟨a6,b3,a4,a7,a8,b0,m',n',s',rfl,_⟩:=d.form;obtain⟨y0,y1,y2,y3,y4,y5⟩:=JJ X;have W:=aa (R t k wr A _ _ _ _ _ _ _ _ _ d (Q t k) (U t k));have J:Hid (dl (l.take (i+1))=dl (l.take i)+dl [t]):=by
    show _=_
    rw[show l.take (i+1)=l.take i++[t] by rw[zi,G];rfl,vj]
   have E:Hid (dl (l.take i)<=i):=by
    have h9:=uu (l.take i);rw[yn]at h9;show _<=_
    omega
   obtain⟨C,r⟩:∃C,dl (l.take i)=C:=⟨_,rfl⟩;rw[r]at J E ⊢;have c9:(C:Int)+1<=9000000000000000001:=by have:=E.out;omega
   go_wp2_with fail;refine W.mono ?_;rintro e w5 ⟨v,rfl,B,D⟩;have y:=aa (u.trans (D.mono u.size));have z:=aa B;cases v with
   |true=>
    have V:Hid (dl (l.take (i+1))=C+1):=by show _=_;rw[J.out];simp[dl,z.out.1 rfl]
    go_wp2_with fail
    go_roundg (l.length-(i+1))
    case measure=>omega
    exact⟨i+1,by first|rfl|go_num,by rw[V.out];first|rfl|go_num,by omega,by omega,y⟩
   |false=>
    have V:Hid (dl (l.take (i+1))=C):=by
     have M:¬t.L []:=λh=>by have:=z.2 h;cases this
     show _=_
     rw[J.out];simp[dl,M]
    go_wp2_with fail
    go_roundg (l.length-(i+1))
    case measure=>omega
    exact⟨i+1,by first|rfl|go_num,by rw[V.out],by omega,by omega,y⟩
  ·have i1:decide ((i:Int)<(l.length:Int))=false:=zI (by omega);obtain rfl:i=l.length:=by omega
   rw[zQ];have o:Hid (Below S w wr):=L.trans (u.mono (yJ Y.lt));have N:=uu l;obtain⟨C,r⟩:∃C,dl l=C:=⟨_,rfl⟩;rw[r]at N;rw[r];have q:=aa r;by_cases I:C=l.length
   ·have q1:((C:Int)==(l.length:Int))=true:=beq_iff_eq.2 (by omega);have d:(decide (dl l=l.length)||(decide (K=5)&&decide (0<dl l)))=true:=by rw[q.out];simp[I]
    have x:=aa d;go_wp2_with fail;go_ret;exact⟨by rw[x.out];rfl,by rw[hS];exact o⟩
   ·have q1:((C:Int)==(l.length:Int))=false:=zD.2 (by omega);by_cases H:K=5
    ·have q2:(K==5)=true:=beq_iff_eq.2 H;by_cases Z:0<C
     ·have q3:decide ((0:Int)<(C:Int))=true:=zv (by omega);have d:(decide (dl l=l.length)||(decide (K=5)&&decide (0<dl l)))=true:=by rw[q.out];simp[H,Z]
      have x:=aa d;go_wp2_with fail;go_ret;exact⟨by rw[x.out];rfl,by rw[hS];exact o⟩
     ·have q3:decide ((0:Int)<(C:Int))=false:=zI (by omega);have d:(decide (dl l=l.length)||(decide (K=5)&&decide (0<dl l)))=false:=by rw[q.out];simp[I,Z]
      have x:=aa d;go_wp2_with fail;go_ret;exact⟨by rw[x.out];rfl,by rw[hS];exact o⟩
    ·have q2:(K==5)=false:=zD.2 H;have d:(decide (dl l=l.length)||(decide (K=5)&&decide (0<dl l)))=false:=by rw[q.out];simp[I,H]
     have x:=aa d;go_wp2_with fail;go_ret;exact⟨by rw[x.out];rfl,by rw[hS];exact o⟩
theorem Sn (ih:xZ u)(hok:u.Ok)(htl:u.tl<=8000000000000000000)(hbl:b<w.heap.size)(hv:aj w A u (TC u.kind so' sn' sc' lo' ln' lc' m' n' s'))(hc:∀j v,(TC u.kind so' sn' sc' lo' ln' lc' m' n' s')[j]?=some v->w.cell? ⟨b,off+j,none⟩=some v):Calls prog 29 #[.agg #[Vi 7,Vz,.slice (some (aD b off)) 1 lc,Vi 0,Vi 0,.string s]] w λe w'=>∃v:Bool,e=.returned (.bool v)/\(v=true↔¬u.L [])/\Bw w w':=by
 obtain⟨g,d,c,a,-⟩:=dS (rfl:w.heap.size=_) (TC 7 none 0 0 (some (aD b off)) 1 lc 0 0 s) 58;have y:g.cell? (aD w.heap.size 0)=some (Vi 7):=a.cell 0;have x:g.cell? (aD w.heap.size 2)=some (.slice (some (aD b off)) 1 lc):=a.cell 2;have z:g.cell? (aD w.heap.size 3)=some (Vi 0):=a.cell 3;have n:=a.lt;have p:b<g.heap.size:=zF hbl c.size;obtain⟨D,t,C,E,r,B⟩:=oT c hbl hc;have o:=aa (ih g A _ _ _ _ _ _ _ _ _ (aj.below c _ _ hv) hok htl);have m:=aa c;have k:=aa d;go_enter func29,ntmps29;go_upto_region 1 with fail;rw[k.out];generalize hS:w.heap.size=S at *;go_wp2_with fail;refine o.mono ?_;rintro e q ⟨v,rfl,h,f⟩;have i:=aa (m.trans (f.mono (yJ n)));have l:=aa h;go_wp2_with fail;go_ret;refine⟨!v,rfl,?_,by rw[hS];exact i⟩;rw[<-l.out];cases v<;>simp
theorem OS (ih:xZ u)(hok:u.Ok)(htl:u.tl<=8000000000000000000)(hbl:b<w.heap.size)(hv:aj w A u (TC u.kind so' sn' sc' lo' ln' lc' m' n' s'))(hc:∀j v,(TC u.kind so' sn' sc' lo' ln' lc' m' n' s')[j]?=some v->w.cell? ⟨b,off+j,none⟩=some v):Calls prog 29 #[.agg #[Vi 8,Vz,.slice (some (aD b off)) 1 lc,Vi m,Vi n,.string s]] w λe w'=>∃v:Bool,e=.returned (.bool v)/\(v=true↔m=0\/u.L [])/\Bw w w':=by
 obtain⟨h,d,c,a,-⟩:=dS (rfl:w.heap.size=_) (TC 8 none 0 0 (some (aD b off)) 1 lc m n s) 58;have E:h.cell? (aD w.heap.size 0)=some (Vi 8):=a.cell 0;have D:h.cell? (aD w.heap.size 2)=some (.slice (some (aD b off)) 1 lc):=a.cell 2;have F:h.cell? (aD w.heap.size 3)=some (Vi m):=a.cell 3;have q:=a.lt;have x:b<h.heap.size:=zF hbl c.size;obtain⟨I,C,H,J,B,G⟩:=oT c hbl hc;have r:=aa (ih h A _ _ _ _ _ _ _ _ _ (aj.below c _ _ hv) hok htl);have i:=aa c;have g:=aa d;by_cases l:m=0
 ·have t:=aa l;go_enter func29,ntmps29;go_upto_region 1 with fail;rw[g.out];generalize hS:w.heap.size=S at *;have y:(m==0)=true:=beq_iff_eq.2 t;go_wp2_with fail;go_ret;exact⟨true,rfl,by simp[t.out],by rw[hS];exact i⟩
 ·have y:(m==0)=false:=zD.2 l;go_enter func29,ntmps29;go_upto_region 1 with fail;rw[g.out];generalize hS:w.heap.size=S at *;go_wp2_with fail;refine r.mono ?_;rintro e z ⟨v,rfl,k,f⟩;have o:=aa (i.trans (f.mono (yJ q)));have p:=aa k;go_wp2_with fail;go_ret;exact⟨v,rfl,by rw[<-p.out];simp[l],by rw[hS];exact o⟩
theorem uv:∀{l:List Tm} {t:Tm},t∈l->t.tl<=bw l
 |u::l,t,h=>by
  simp only[bw];rcases zO.1 h with rfl|h
  ·omega
  ·have:=uv h;omega
theorem pZ:∀l:List Tm,12*l.length<=bw l
 | []=>zA _
 |t::l=>by
  have b:=mh t;have a:=pZ l;simp only[bw,zG];omega
theorem cg.one {k:Int}(h:cg w A lo (TC k so sn sc lo' ln lc m n s)):∃b off,lo=some (aD b off)/\A b/\b<w.heap.size/\∀j v,(TC k so sn sc lo' ln lc m n s)[j]?=some v->w.cell? ⟨b,off+j,none⟩=some v:=by
 obtain⟨b,off,e,d,g,_⟩:=h 0 _ rfl;refine⟨b,off,e,d,g,λj v f=>?_⟩;obtain⟨l,c,a,_,_,i⟩:=h j v f;rw[e]at a;injection a with a;injection a with e1 e2;subst e1 e2;exact i
mutual
theorem iR:∀t:Tm,xZ t
 |.none=>λw A r k y x j o m n s _ _ _=>(OR w r k y x j o m n s).mono λe F ⟨z,g⟩=>⟨false,z,by simp[Tm.L],g⟩
 |.empty=>λw A r k y x j o m n s _ _ _=>(LD w r k y x j o m n s).mono λe F ⟨z,g⟩=>⟨true,z,by simp[Tm.L],g⟩
 |.set _=>λw A r k y x j o m n s _ _ _=>(Sm w r k y x j o m n s).mono λe F ⟨z,g⟩=>⟨false,z,by simp[Tm.L],g⟩
 |.row a b=>by
  have ha:=iR a;have I:=iR b;intro w A r k y x j o m n s C d f;obtain⟨D,B,M,ys,L,e,c,X,W,_⟩:=C;simp only[Tm.kind,TC,zT,zm,zu,yc,yB,yK]at e;obtain⟨⟨rfl,rfl,rfl⟩,⟨rfl,rfl,rfl⟩,rfl,rfl,rfl⟩:=e;refine (sV (l:=[a,b]) (K:=4) (.inl rfl) c ((aO.one X).append (aO.one W)) (λt i=>by simp at i;rcases i with rfl|rfl;exact ha;exact I) (λt i=>by simp at i;rcases i with rfl|rfl;exact d.1;exact d.2) (λt i=>by have J:a.tl+b.tl+12<=8000000000000000000:=f;simp at i;rcases i with rfl|rfl<;>omega) (by simp)).mono ?_;rintro e F ⟨rfl,g⟩;refine⟨_,rfl,?_,g⟩;have H:=qN [a,b];simp only[yZ,zY,yP,H,Tm.L_row,Dc];simp
 |.or l=>by
  have E:=sW l;intro w A r k y x j o m n s C d f;obtain⟨D,B,M,L,e,c,T,_⟩:=C;simp only[Tm.kind,TC,zT,zm,zu,yc,yB,yK]at e;obtain⟨⟨rfl,rfl,rfl⟩,⟨rfl,rfl,rfl⟩,rfl,rfl,rfl⟩:=e;have J:bw l+12<=8000000000000000000:=f;have h8:=pZ l;refine (sV (l:=l) (K:=5) (.inr (.inl rfl)) c T E (dO.1 d.1) (λt i=>by have:=uv i;omega) (by omega)).mono ?_;rintro e F ⟨rfl,g⟩;refine⟨_,rfl,?_,g⟩;have H:=qN l;have Z:=Fg l;simp only[yZ,zY,yP,H,Z,Tm.L,qc,yB];refine⟨λh=>h.elim (λh=>?_) id,.inr⟩;cases l with
  |nil=>exact absurd rfl d.2
  |cons t l=>exact⟨t,by simp,h t (by simp)⟩
 |.and l=>by
  have E:=sW l;intro w A r k y x j o m n s C d f;obtain⟨D,B,M,L,e,c,T,_⟩:=C;simp only[Tm.kind,TC,zT,zm,zu,yc,yB,yK]at e;obtain⟨⟨rfl,rfl,rfl⟩,⟨rfl,rfl,rfl⟩,rfl,rfl,rfl⟩:=e;have J:bw l+12<=8000000000000000000:=f;have h8:=pZ l;refine (sV (l:=l) (K:=6) (.inr (.inr rfl)) c T E (dO.1 d.1) (λt i=>by have:=uv i;omega) (by omega)).mono ?_;rintro e F ⟨rfl,g⟩;refine⟨_,rfl,?_,g⟩;have H:=qN l;simp only[yZ,zY,yP,H,Tm.L,nK];simp
 |.not u=>by
  have E:=iR u;intro w A r k y x j o m n s C d f;obtain⟨D,B,M,L,e,c,G,_⟩:=C;simp only[Tm.kind,TC,zT,zm,zu,yc,yB,yK]at e;obtain⟨⟨rfl,rfl,rfl⟩,⟨rfl,rfl,rfl⟩,rfl,rfl,rfl⟩:=e;obtain⟨N,S,U,O,Q,R,m2,Y,s2,rfl,_⟩:=G.form;obtain⟨b,V,rfl,_,I,P⟩:=c.one;refine (Sn E d (by have J:u.tl+12<=8000000000000000000:=f;omega) I G P).mono ?_;rintro e F ⟨v,rfl,z,g⟩;exact⟨v,rfl,z,g⟩
 |.many u p q=>by
  have E:=iR u;intro w A r k y x j o m n s C d f;obtain⟨D,B,M,L,e,c,G,_⟩:=C;simp only[Tm.kind,TC,zT,zm,zu,yc,yB,yK]at e;obtain⟨⟨rfl,rfl,rfl⟩,⟨rfl,rfl,rfl⟩,rfl,rfl,rfl⟩:=e;obtain⟨N,S,U,O,Q,R,m2,Y,s2,rfl,_⟩:=G.form;obtain⟨b,V,rfl,_,I,P⟩:=c.one;refine (OS E d.1 (by have J:u.tl+12<=8000000000000000000:=f;omega) I G P).mono ?_;rintro e F ⟨v,rfl,z,g⟩;refine⟨v,rfl,?_,g⟩;rw[z,Tm.L_many,Db d.2.1 (by have:=d.2.2.2;omega)]
theorem sW:∀l:List Tm,∀t∈l,xZ t
 | [],t,h=>by simp at h
 |u::l,t,h=>by
  have a:=iR u;have b:=sW l;rcases zO.1 h with rfl|h
  ·exact a
  ·exact b t h
end
theorem eO {w:World}{ops:Array Oper}{rest:List Oper}{o:Oper}{a:Act}{Q:Exit->Act->World->Prop}(hgd:o.guard=none)(s x:Operand)(t e:TypeId)(i0:TypeInfo)(z:Value)(size bytes:Nat)
  (ho:o.op=.call { callee:=.builtin .append,args:=#[s,x],argTypes:=#[t,t] }) (hu:prog.underlying t=some (.slice e)) (hi:prog.info? e=some i0) (hz:i0.zero=some z) (hsz:i0.size=size) (hby:i0.bytes=bytes) (hzs:z.cells.size=size) (hpos:0<size)
  (B n:Nat) (v:Value) (xs:LV) (hs:a.eval s=v) (hown:w.ownsRow B e size v n xs)
  (ao:OA) (m c:Nat) (news:LV) (hx:a.eval x=.slice ao m c) (hnone:ao=none->m=0/\c=0) (hl:news.length=m*size) (hnews:∀ad,ao=some ad->∀j u,news[j]?=some u->w.cell? (ad.add j)=some u) (h1:∀u∈news,u.oneCell'=true)
  (h63:n+m<=maxLen) (hn:((n+m)+(n+m) / 4+192)*bytes<=281474976710656) (hB:B<=w.heap.size)
  (h:∀v' w',w'.ownsRow B e size v' (n+m) (xs++news)->w.grownBy w' v.ownBlock->wpList prog ops Q rest (a.put o.dst v') w'):wpList prog ops Q (o::rest) a w:=by
 cases ao with
 |some ad=>exact wpList_append_own_wide w hgd s x t ho B e i0 z size bytes hu hi hz hsz hby hzs hpos v n xs hs hown ad m c news hx hl (hnews ad rfl) h1 h63 hn hB λv' w' b d _=>h v' w' b d
 |none=>
  obtain⟨rfl,rfl⟩:=hnone rfl;have hnews:news=[]:=yf (by simpa using hl);subst hnews;exact wpList_append_own_none hgd s x t ho B e i0 size hu hi v n xs hs hown hx (h v w (by simpa using hown) (World.grownBy.refl _ _))
theorem lM:(prog.info? 58).map (λi=>(i.zero,i.size,i.bytes))=some (some (.agg #[Vi 0,Vz,Vz,Vi 0,Vi 0,.string ⟨#[]⟩]),6,88):=by kernel_rfl
theorem bg {n:Nat}(h:w.ownsRow B e size v n xs)(k:Bw w w'):w'.ownsRow B e size v n xs:=by
 have b:=h.lt;obtain⟨j,c⟩:=h;refine⟨j,?_⟩;rcases c with c|⟨g,d,a,rfl,f,i,r⟩
 ·exact .inl c
 ·exact .inr ⟨g,d,a,rfl,f,(k.block g (b g rfl).2).trans i,r⟩
theorem ij {B' n:Nat}(h:w.ownsRow B e size v n xs)(hb:B'<=B):w.ownsRow B' e size v n xs:=by
 refine⟨h.1,?_⟩;rcases h.2 with d|⟨g,b,a,e,c,r⟩
 ·exact .inl d
 ·exact .inr ⟨g,b,a,e,zJ hb c,r⟩
theorem cd {n:Nat}(h:w.ownsRow B e size v n xs):∃ao cap,v=.slice ao n cap:=by
 rcases h.2 with⟨rfl,rfl⟩|⟨g,cap,a,rfl,_⟩<;>exact⟨_,_,rfl⟩
theorem cD {w1:World}{n:Nat}(hb:Below B w W)(hB:B<=W.heap.size)(ho:W.ownsRow B e size v n xs)(hg:W.grownBy w1 v.ownBlock):Below B w w1:=hb.grown hg hB λk e=>(ho.lt k e).1
theorem fN {n:Nat}(h:w.ownsRow B 58 6 (.slice lo n cap) n xs):cg w (λg=>B<=g) lo xs:=λj u a=>by
 rcases h.2 with⟨l,i⟩|⟨g,c,f,e,d,k,r⟩
 ·have:=h.1;rw[i,Nat.zero_mul]at this;rw[yf this]at a;simp at a
 ·injection e with e1 e2 e3;subst e1 e3;have b:=h.cells (g:=g) rfl j u a;rw[zl]at b;exact⟨g,0,rfl,d,(h.lt g rfl).2,b⟩
theorem Rb {n:Nat}(h:w.ownsRow B 58 6 (.slice lo n cap) n xs):n<=cap/\(lo=none->n=0/\cap=0):=by
 rcases h.2 with⟨d,c⟩|⟨g,a,b,e,f,i,r,_⟩
 ·injection d with e1 e2 e3;subst e1 e3;exact⟨by omega,λ_=>⟨c,rfl⟩⟩
 ·injection e with e1 e2 e3;subst e1 e3;exact⟨r,λe=>by cases e⟩
theorem sD (k:Int)(so:OA)(sn sc:Nat)(lo:OA)(ln lc:Nat)(m n:Int)(s:ByteArray):∀u∈TC k so sn sc lo ln lc m n s,u.oneCell'=true:=by
 intro u a;simp[TC]at a;rcases a with rfl|rfl|rfl|rfl|rfl|rfl<;>rfl
theorem aO.ones {A:NP}{w:World}:∀{l:List Tm} {xs:LV},aO w A l xs->∀u∈xs,u.oneCell'=true
 | [],_,h=>by rw[show _=[]from h];simp
 |t::l,_,h=>by
  obtain⟨c,r,rfl,d,b⟩:=h;obtain⟨i,f,j,g,k,e,m,n,s,rfl,_⟩:=d.form;intro u a;rcases zM.1 a with a|a
  ·exact sD _ _ _ _ _ _ _ _ _ _ u a
  ·exact aO.ones b u a
theorem cg.get {A':NP}(hr:cg w A lo xs)(hl:aO w A' l xs)(hi:l[i]?=some t):∃b off c,lo=some (aD b off)/\b<w.heap.size/\aj w A' t c/\∀j v,c[j]?=some v->w.cell? ⟨b,off+i*6+j,none⟩=some v:=by
 obtain⟨c,g,m⟩:=hl.at hi;have o:∃v,c[0]?=some v:=⟨_,zB (by rw[g.len];decide)⟩;obtain⟨n,f⟩:=o;obtain⟨b,off,e,r,q,_⟩:=hr (6*i+0) n (by rw[m 0 (by decide)];exact f);refine⟨b,off,c,e,q,g,λj v k=>?_⟩;have d:j<6:=by have:=(zC.1 k).1;rw[g.len]at this;exact this
 obtain⟨s,h,a,_,_,p⟩:=hr (6*i+j) v (by rw[m j d];exact k);rw[e]at a;injection a with a;injection a with e1 e2;subst e1 e2;rw[show off+i*6+j=off+(6*i+j) by omega];exact p
theorem kE {a b:ByteArray}(h:a.toList=b.toList):af a=af b:=by
 unfold af;rw[<-Lib.toList_data,<-Lib.toList_data,h]
theorem El (hr:cg w A lo xs)(k:Nat):∀ad,lo=some ad->∀j u,(xs.take k)[j]?=some u->w.cell? (ad.add j)=some u:=λad e j u c=>by
 have h:xs[j]?=some u:=by
  have f:=(zC.1 c).1;rw[yn]at f;rw[List.getElem?_take_of_lt (by omega)]at c;exact c
 obtain⟨b,d,a,_,_,g⟩:=hr j u h;rw[e]at a;injection a with a;subst a;rw[zl];exact g
theorem Rc (hr:cg w A lo xs){k n:Nat}(hn:xs.length=6*n)(hc:n<=cap){ao:OA}(hao:¬cap=k->∀b off,lo=some (aD b off)->ao=some ⟨b,off+k*6,none⟩):∀ad,ao=some ad->∀j u,(xs.drop (6*k))[j]?=some u->w.cell? (ad.add j)=some u:=λad e j u a=>by
 rw[List.getElem?_drop]at a;have d:=(zC.1 a).1;obtain⟨b,off,c,_,_,hc⟩:=hr _ u a;rw[hao (by omega) b off c]at e;injection e with e;subst e;rw[zl,show off+k*6+j=off+(6*k+j) by omega];exact hc
def Ym (w:World)(B:Nat)(A:Nat->Prop)(ts:List Tm)(t:Tm)(e:Ending)(w':World):Prop:=∃v' ts' xs',e=.returned v'/\w'.ownsRow B 58 6 v' ts'.length xs'/\aO w' A ts' xs'/\(∀y,y∈ts'↔y∈ts\/y=t)/\bw ts'<=bw ts+t.tl/\bd ts'<=bd ts+t.z/\Bw w w'
theorem UZ (k:Nat)(y:Tm):y∈ts.take k++t::ts.drop k↔y∈ts\/y=t:=by
 have h:y∈ts↔y∈ts.take k\/y∈ts.drop k:=by rw[<-zM,zj]
 simp only[zM,zO,h];constructor
 ·rintro (h|h|h)
  ·exact .inl (.inl h)
  ·exact .inr h
  ·exact .inl (.inr h)
 ·rintro ((h|h)|h)
  ·exact .inl h
  ·exact .inr (.inr h)
  ·exact .inr (.inl h)
theorem Va (k:Nat):bw (ts.take k++t::ts.drop k)=bw ts+t.tl:=by
 have h:bw ts=bw (ts.take k)+bw (ts.drop k):=by rw[<-ez,zj]
 rw[ez,h];simp only[bw];omega
theorem Vb (k:Nat):bd (ts.take k++t::ts.drop k)=bd ts+t.z:=by
 have h:bd ts=bd (ts.take k)+bd (ts.drop k):=by rw[<-dV,zj]
 rw[dV,h];simp only[bd];omega
theorem Ek {lo0:OA}{cap0:Nat}(hB:B<=w.heap.size)
  (hown:w.ownsRow B 58 6 (.slice lo0 ts.length cap0) ts.length xs) (hl:aO w A ts xs) (hokl:dW ts) (hv:aj w A t (TC K so sn sc lo ln lc m n s)) (hok:t.Ok) (hlen:ts.length<=2000000000000):Calls prog 60 #[.slice lo0 ts.length cap0,.agg #[Vi K,.slice so sn sc,.slice lo ln lc,Vi m,Vi n,.string s]] w (Ym w B A ts t):=by
 obtain⟨J,b9,q,b4,-⟩:=dS (rfl:w.heap.size=_) (TC K so sn sc lo ln lc m n s) 58;have c7:=aa (show af s=t.key from by obtain⟨c1,b7,c2,a8,c5,b1,m',n',s',e,h⟩:=hv.form;injection e with _ e;injection e with _ e;injection e with _ e;injection e with _ e;injection e with _ e;injection e with e _;injection e with e;rw[e];exact h);obtain⟨b0,z⟩:=Rb hown;have HR:=aa (((fN hown).mono (A':=λg=>B<=g/\g<w.heap.size) (λg H h2=>⟨h2,H⟩)).below q);have HO:=aa (bg hown q);have f2:=aa hown;have HL:=aa (aO.below q _ _ hl);have HV:=aa (aj.below q _ _ hv);have HX:=aa b4;have e8:=aa hl;have d3:=aa hv;have c0:=aa q;have e7:=aa b9;have e0:=aa hok;have d0:=aa hokl;have c9:=aa z;have HB:=aa hB;have b3:=aa b0;obtain⟨i0,hi,Z,U,L⟩:=zz lM;go_enter func60,ntmps60;go_upto_region 1 with fail;rw[e7.out];generalize hS:w.heap.size=S at *;go_wp2_with fail
 go_loopw [5] (λi wr=>∃k:Nat,k<=ts.length/\i=Vi k/\Bw J wr) (λi _=>ts.length-(intOf i).toNat)
 case atStart=>exact⟨0,zW _,rfl,zE _ _⟩
 case round=>
  obtain⟨k,hk,rfl,d⟩:=hrel;go_upto_region 2 with fail;have a:=HX.below d;have b5:wr.cell? (aD S 5)=some (.string s):=a.cell 5;have D:=a.lt;have p:=aa d;have W:=aa a
  go_cut [20] (λv wx=>∃b:Bool,v=.bool b/\(b=true->k<ts.length)/\∃n,wx=wr.drewN n)
  case first=>
   have i1:(0:Int)<=(k:Int):=zK _;by_cases r:k<ts.length
   ·obtain⟨b,G,c,rfl,hb,hv,hc⟩:=(HR.out.below d).get (aO.below d _ _ HL.out) (zB r);obtain⟨c1,b7,c2,a8,c5,b1,m',n',s',rfl,_⟩:=hv.form;have y5:wr.cell? ⟨b,G+k*6+5,none⟩=some (.string s'):=hc 5 _ rfl;have i2:(k:Int)<(ts.length:Int):=by omega
    go_quiet (fail)
    go_wp2_with fail
    go_meet
    case rel=>exact⟨_,rfl,λ_=>r,_,rfl⟩
   ·have hd:decide ((k:Int)<(ts.length:Int))=false:=by simp;omega
    go_quiet (fail)
    go_wp2_with fail
    go_meet
    case rel=>exact⟨false,rfl,(λh=>by cases h),_,rfl⟩
  case rest=>
   obtain⟨b,rfl,x,nq,rfl⟩:=hcut;cases b with
   |true=>
    have r:=x rfl;have i1:(0:Int)<=(k:Int):=zK _;go_wp2_with fail
    go_roundw
    case rel=>exact⟨k+1,by omega,by go_num,aR p⟩
    case measure=>simp[intOf];omega
   |false=>
    obtain⟨V,hV⟩:∃V,wr.drewN nq=V:=⟨_,rfl⟩;have o:Bw J V:=by rw[<-hV];exact aR p
    rw[hV];go_wp2_with fail;have a:=HX.below o;have b5:V.cell? (aD S 5)=some (.string s):=a.cell 5;have D:=a.lt;have p:=aa o;have W:=aa a
    go_cut [36] (λv wx=>∃b:Bool,v=.bool b/\(b=true->t∈ts)/\∃n,wx=V.drewN n)
    case first=>
     have i1:(0:Int)<=(k:Int):=zK _;by_cases r:k<ts.length
     ·obtain⟨b,G,c,rfl,hb,hv,hc⟩:=(HR.out.below o).get (aO.below o _ _ HL.out) (zB r);obtain⟨c1,b7,c2,a8,c5,b1,m',n',s',rfl,c4⟩:=hv.form;have y5:V.cell? ⟨b,G+k*6+5,none⟩=some (.string s'):=hc 5 _ rfl;have i2:(k:Int)<(ts.length:Int):=by omega
      have d2:=aa c4
      go_quiet (fail)
      go_wp2_with fail
      go_meet
      case rel=>exact⟨_,rfl,(λh=>by
       have e:af s'=af s:=kE (by simpa using h);have H:=xE r;have h2:=nL (dO.1 d0 _ H) e0 (by rw[<-d2.out,<-c7.out,e]);rw[<-h2];exact H),_,rfl⟩
     ·have hd:decide ((k:Int)<(ts.length:Int))=false:=by simp;omega
      go_quiet (fail)
      go_wp2_with fail
      go_meet
      case rel=>exact⟨false,rfl,(λh=>by cases h),_,rfl⟩
    case rest=>
     obtain⟨b,rfl,x,nq,rfl⟩:=hcut;cases b with
     |true=>
      have b2:=aa (x rfl);go_wp2_with fail;go_ret;have O:Bw J (V.drewN nq):=aR p;exact⟨_,ts,xs,rfl,bg HO O,aO.below O _ _ HL,λy=>⟨.inl,λh=>h.elim id (λe=>e▸b2.out)⟩,Nat.le_add_right _ _,Nat.le_add_right _ _,by rw[hS];exact c0.trans (O.mono (by have:=HX.lt;omega))⟩
     |false=>
      obtain⟨W1,Q⟩:∃W1,V.drewN nq=W1:=⟨_,rfl⟩;have F:Bw J W1:=by rw[<-Q];exact aR p
      have e2:=aa F;have b6:=aa (HX.below F);have a7:=aa (HR.below F);have R:=aa HL.len;rw[Q];have D:=b6.lt;have i1:(0:Int)<=(k:Int):=zK _;have i2:(k:Int)<=(ts.length:Int):=by omega
      have i3:(ts.length:Int)<=(cap0:Int):=by omega
      go_upto_region 7 with fail;go_upto_region 8 with (at_builtin;refine eO rfl (.tmp 38) (.tmp 41) 56 58 i0 _ 6 88 rfl underlying56 hi Z U L rfl (by decide) (S+1) 0 _ [] rfl (zZ _ _ _ _) _ k _ (xs.take (6*k)) rfl (λe=>by obtain⟨H,h2⟩:=c9.out e;exact⟨by omega,by omega⟩) (by rw[yn,R.out];omega) (El a7 _) (λu hu=>HL.ones u (yi hu)) (by unfold maxLen;omega) (by omega) (by omega) ?_;intro v2 w2 f C);have T:Below (S+1) W1 w2:=cD (v:=Vz) (n:=0) (xs:=[]) (zE _ _) (by omega) (zZ _ _ 58 6) C;rw[zd,zf]at f;have E:ag w2 S (TC K so sn sc lo ln lc m n s) 58:=(T.block S (xC _)).trans b6;obtain⟨f3,f0,rfl⟩:=cd f;have f8:=aa E;have d7:=aa f;have e6:=aa T;have f5:=aa C;obtain⟨a0,a1,a2,a3,a4,a5⟩:=E.six;have f6:=E.lt;obtain⟨W3,d1,Y,a6,-⟩:=dS (rfl:w2.heap.size=_) (TC K so sn sc lo ln lc m n s) 58;have c3:=aa (bg d7 Y);have e3:=aa a6;have e1:=aa d1;have d5:=aa Y;have f7:w2.heap.size<W3.heap.size:=a6.lt;go_upto_region 9 with (at_builtin;rw[e1.out];refine eO rfl (.tmp 43) (.tmp 45) 56 58 i0 _ 6 88 rfl underlying56 hi Z U L rfl (by decide) (S+1) k _ _ rfl c3 _ 1 _ (TC K so sn sc lo ln lc m n s) rfl (λe=>by cases e) rfl (λad e j u hj=>by injection e with e;subst e;rw[zl,zf,e3.out.cell];exact hj) (sD _ _ _ _ _ _ _ _ _ _) (by unfold maxLen;omega) (by omega) (by omega) ?_;intro v4 w4 l I);have c6:S+1<=W3.heap.size:=by omega
      have X:Below (S+1) W3 w4:=cD (zE _ _) c6 c3 I;obtain⟨f4,f1,rfl⟩:=cd l;have M:Hid (Below (S+1) W1 w4):=(e6.trans (d5.mono (by omega))).trans X;have a9:=aa l;have d8:S+1<=w4.heap.size:=zJ c6 X.size;have d6:Hid (cg w4 (λg=>B<=g/\g<S) lo0 xs):=a7.keep ⟨M.size,λg H h2=>M.block g (Nat.lt_succ_of_lt h2.2)⟩;go_wp2_with (at_builtin;refine eO rfl (.tmp 47) (.tmp 50) 56 58 i0 _ 6 88 rfl underlying56 hi Z U L rfl (by decide) (S+1) (k+1) _ _ rfl a9 _ (ts.length-k) _ (xs.drop (6*k)) rfl (λe=>by have H:=c9.out (by first|exact e|(split at e;exact e;simpa using e)|simpa using e);obtain⟨h2,h3⟩:=H;exact⟨by omega,by omega⟩) (by rw[yO,R.out];omega) (Rc d6 (n:=ts.length) (cap:=cap0) R b3 (by intro d4 b G e;simp[d4,e,Addr.add])) (λu hu=>HL.ones u (List.mem_of_mem_drop hu)) (by unfold maxLen;omega) (by omega) (by omega) ?_;intro v5 w5 P b8)
      all_goals
       go_ret;have e5:Below (S+1) w4 w5:=cD (zE _ _) d8 a9 b8;have d9:Below (S+1) W1 w5:=M.trans e5;have e9:Below S w w5:=(c0.trans (e2.mono (by have:=HX.lt;omega))).trans (d9.mono (yN _));have N:Bw w w5:=by rw[hS];exact e9
       have c8:aO w5 A ts xs:=aO.below N _ _ e8;have e4:aj w5 A t (TC K so sn sc lo ln lc m n s):=aj.below N _ _ d3;refine⟨v5,ts.take k++t::ts.drop k,(xs.take (6*k)++TC K so sn sc lo ln lc m n s)++xs.drop (6*k),rfl,?_,?_,UZ k,Nat.le_of_eq (Va k),Nat.le_of_eq (Vb k),N⟩
       ·have e:(ts.take k++t::ts.drop k).length=k+1+(ts.length-k):=by simp;omega
        rw[e];exact ij (by simpa [zc]using P) (by have:=HB.out;omega)
       ·have h:=(c8.take k).append ((aO.one e4).append (c8.drop k));simpa [zc]using h
theorem vh (hok:dW l)(h:bw l<=4000000000000000000):40+20*([]:LQ).length+10*(l.map Tm.key).length+((l.map Tm.key).flatMap cU).length<=9000000000000000000:=by
 have a:=qU hok;have b:=pZ l;rw[rf,ym];simp;omega
theorem Sf (s0:ByteArray)(hr:cg w A lo xs)(hl:aO w A l xs)(hok:dW l)(htl:bw l<=4000000000000000000):Calls prog 33 #[.agg #[Vi 5,Vz,.slice lo l.length lc,Vi 0,Vi 0,.string s0]] w λe w'=>∃s,e=.returned (.agg #[Vi 5,Vz,.slice lo l.length lc,Vi 0,Vi 0,.string s])/\aj w' A (.or l) (TC 5 none 0 0 lo l.length lc 0 0 s)/\Bw w w':=by
 have c:=gF 5 none 0 [] lo lc (l.map Tm.key) 0 0 s0 w (by decide) (λi x b=>by simp at b) (λx b=>by simp at b) (by decide) (by decide) (nQ hr hl) (vh hok htl);rw[ym]at c;refine c.mono ?_;rintro e w' ⟨s,rfl,d,a⟩;refine⟨s,rfl,⟨lo,lc,xs,s,rfl,hr.below a,aO.below a _ _ hl,?_⟩,a⟩;rw[d,kt (by decide) (by decide),rf];simp[fM,Tm.key]
theorem ON (s0:ByteArray)(hr:cg w A lo xs)(hl:aO w A l xs)(hok:dW l)(htl:bw l<=4000000000000000000):Calls prog 33 #[.agg #[Vi 6,Vz,.slice lo l.length lc,Vi 0,Vi 0,.string s0]] w λe w'=>∃s,e=.returned (.agg #[Vi 6,Vz,.slice lo l.length lc,Vi 0,Vi 0,.string s])/\aj w' A (.and l) (TC 6 none 0 0 lo l.length lc 0 0 s)/\Bw w w':=by
 have c:=gF 6 none 0 [] lo lc (l.map Tm.key) 0 0 s0 w (by decide) (λi x b=>by simp at b) (λx b=>by simp at b) (by decide) (by decide) (nQ hr hl) (vh hok htl);rw[ym]at c;refine c.mono ?_;rintro e w' ⟨s,rfl,d,a⟩;refine⟨s,rfl,⟨lo,lc,xs,s,rfl,hr.below a,aO.below a _ _ hl,?_⟩,a⟩;rw[d,kt (by decide) (by decide),rf];simp[fM,Tm.key]
def Tm.parts (K:Int):Tm->List Tm
 |.or l=>if K=5 then l else[.or l]
 |.and l=>if K=6 then l else[.and l]
 |t=>[t]
def ei (K:Int):List Tm->List Tm
 | []=>[]
 |t::l=>t.parts K++ei K l
theorem sU (K:Int):∀l m:List Tm,ei K (l++m)=ei K l++ei K m
 | [],m=>rfl
 |t::l,m=>by simp only[zV,ei,sU K l m,zc]
theorem LC (h:t.kind≠K):t.parts K=[t]:=by
 cases t<;>simp only[Tm.parts]<;>first|rfl|(simp only[Tm.kind]at h;rw[zR (λe=>h e.symm)])
theorem Fb (h:t.Ok):dW (t.parts K):=by
 cases t<;>simp only[Tm.parts]<;>first|exact⟨h,trivial⟩|(split;exact h.1;exact⟨h,trivial⟩)
theorem Sg :bw (t.parts K)<=t.tl:=by
 cases t<;>simp only[Tm.parts]<;>first|(simp[bw];done)|(split<;>simp[bw,Tm.tl])
theorem Jm :bd (t.parts K)<=t.z:=by
 cases t<;>simp only[Tm.parts]<;>first|(simp[bd];done)|(split<;>simp[bd,Tm.z];omega)
theorem Fc {K:Int}:∀{l:List Tm},dW l->dW (ei K l)
 | [],_=>trivial
 |t::l,h=>by rw[ei,LX];exact⟨Fb h.1,Fc h.2⟩
theorem Fd {K:Int}:∀l:List Tm,bw (ei K l)<=bw l
 | []=>zA _
 |t::l=>by
  have a:=Fd (K:=K) l;have b:=Sg (K:=K) (t:=t);rw[ei,ez];simp only[bw];omega
theorem Jn {K:Int}:∀l:List Tm,bd (ei K l)<=bd l
 | []=>zA _
 |t::l=>by
  have a:=Jn (K:=K) l;have b:=Jm (K:=K) (t:=t);rw[ei,dV];simp only[bd];omega
theorem ko:∀l:List Tm,l.length<=bd l
 | []=>zA _
 |t::l=>by
  have a:=ko l;have b:=fE t;simp only[bd,zG];omega
theorem Sh {u:LZ}:kI (t.parts 5) u↔t.L u:=by
 cases t<;>simp only[Tm.parts]<;>simp[kI,Tm.L]
theorem OO {u:LZ}:iz (t.parts 6) u↔t.L u:=by
 cases t<;>simp only[Tm.parts]<;>simp[iz,Tm.L]
theorem Fe:∀{l:List Tm} {u:LZ},kI (ei 5 l) u↔kI l u
 | [],u=>Iff.rfl
 |t::l,u=>by
  have b:=Fe (l:=l) (u:=u);have c:=Sh (t:=t) (u:=u);rw[qc]at b c ⊢;simp only[ei,zM,kI];rw[<-b,<-c];constructor
  ·rintro⟨y,h|h,a⟩
   ·exact .inl ⟨y,h,a⟩
   ·exact .inr ⟨y,h,a⟩
  ·rintro (⟨y,h,a⟩|⟨y,h,a⟩)
   ·exact⟨y,.inl h,a⟩
   ·exact⟨y,.inr h,a⟩
theorem Cu:∀{l:List Tm} {u:LZ},iz (ei 6 l) u↔iz l u
 | [],u=>Iff.rfl
 |t::l,u=>by
  have b:=Cu (l:=l) (u:=u);have c:=OO (t:=t) (u:=u);rw[nK]at b c ⊢;simp only[ei,zM,iz];rw[<-b,<-c];exact⟨λh=>⟨λy a=>h y (.inl a),λy a=>h y (.inr a)⟩,λh y a=>a.elim (h.1 y) (h.2 y)⟩
structure SomeG (K:Int)(l:List Tm)(t:Tm):Prop where
 ok:t.Ok
 or:K=5->∀u,t.L u↔kI l u
 and:K=6->∀u,t.L u↔iz l u
 z:t.z<=max 1 (bd l)
 tl:t.tl<=bw l+12
structure OutT (K:Int)(l:List Tm)(i:Nat)(ex ts:List Tm):Prop where
 mem:∀y,y∈ts↔y∈ei K (l.take i)\/y∈ex
 tl:bw ts<=bw (ei K (l.take i))+bw ex
 z:bd ts<=bd (ei K (l.take i))+bd ex
theorem OutT.start (K:Int)(l:List Tm):OutT K l 0 [] []:=⟨λy=>by simp[ei],by simp[bw],by simp[bd]⟩
theorem OutT.step {ts':List Tm}(h:OutT K l i ex ts)(hm:∀y,y∈ts'↔y∈ts\/y=t)(ht:bw ts'<=bw ts+t.tl)(hz:bd ts'<=bd ts+t.z):OutT K l i (ex++[t]) ts':=by
 refine⟨λy=>?_,?_,?_⟩
 ·rw[hm,h.mem,zM,yQ,or_assoc]
 ·have:=h.tl;rw[ez];simp only[bw];omega
 ·have:=h.z;rw[dV];simp only[bd];omega
theorem OutT.next (hi:l[i]?=some t)(h:OutT K l i (t.parts K) ts):OutT K l (i+1) [] ts:=by
 have e:ei K (l.take (i+1))=ei K (l.take i)++t.parts K:=by
  rw[zi,hi,sU];simp[ei]
 refine⟨λy=>?_,?_,?_⟩
 ·rw[h.mem,e];simp
 ·have:=h.tl;rw[e,ez];simp only[bw];omega
 ·have:=h.z;rw[e,dV];simp only[bd];omega
theorem Si (i:Nat):bw (l.take i)<=bw l:=by
 have h:bw l=bw (l.take i)+bw (l.drop i):=by rw[<-ez,zj]
 omega
theorem wD (i:Nat):bd (l.take i)<=bd l:=by
 have h:bd l=bd (l.take i)+bd (l.drop i):=by rw[<-dV,zj]
 omega
theorem OutT.ok (h:OutT K l i ex ts)(hl:dW l)(he:dW ex):dW ts:=by
 rw[dO];intro y c;rcases (h.mem y).1 c with a|a
 ·exact dO.1 (Fc (K:=K) (dO.2 λt b=>dO.1 hl t (yi b))) y a
 ·exact dO.1 he y a
theorem OutT.zle (h:OutT K l i ex ts):bd ts<=bd (l.take i)+bd ex:=by
 have a:=h.z;have b:=Jn (K:=K) (l.take i);omega
theorem OutT.tle (h:OutT K l i ex ts):bw ts<=bw (l.take i)+bw ex:=by
 have a:=h.tl;have b:=Fd (K:=K) (l.take i);omega
structure KeepT (ts:List Tm)(zt ot:Tm)(j:Nat)(ks:List Tm):Prop where
 mem:∀y,y∈ks↔y∈ts.take j/\y≠zt
 no:∀y∈ts.take j,y≠ot
 tl:bw ks<=bw (ts.take j)
 z:bd ks<=bd (ts.take j)
theorem KeepT.start (ts:List Tm)(zt ot:Tm):KeepT ts zt ot 0 []:=⟨λy=>by simp,λy a=>by simp at a,zA _,zA _⟩
theorem KeepT.skip (h:KeepT ts zt ot j ks)(hj:ts[j]?=some y)(h1:y=zt)(h2:y≠ot):KeepT ts zt ot (j+1) ks:=by
 have e:ts.take (j+1)=ts.take j++[y]:=by rw[zi,hj];rfl
 refine⟨λx=>?_,λx c=>?_,?_,?_⟩
 ·rw[h.mem,e,zM,yQ];constructor
  ·rintro⟨a,b⟩;exact⟨.inl a,b⟩
  ·rintro⟨a|a,b⟩
   ·exact⟨a,b⟩
   ·exact absurd (a.trans h1) b
 ·rw[e,zM,yQ]at c;rcases c with c|rfl
  ·exact h.no x c
  ·exact h2
 ·have:=h.tl;rw[e,ez];omega
 ·have:=h.z;rw[e,dV];omega
theorem KeepT.put (h:KeepT ts zt ot j ks)(hj:ts[j]?=some y)(h1:y≠zt)(h2:y≠ot):KeepT ts zt ot (j+1) (ks++[y]):=by
 have e:ts.take (j+1)=ts.take j++[y]:=by rw[zi,hj];rfl
 refine⟨λx=>?_,λx c=>?_,?_,?_⟩
 ·rw[zM,h.mem,e,zM,yQ];constructor
  ·rintro (⟨a,b⟩|rfl)
   ·exact⟨.inl a,b⟩
   ·exact⟨.inr rfl,h1⟩
  ·rintro⟨a|a,b⟩
   ·exact .inl ⟨a,b⟩
   ·exact .inr a
 ·rw[e,zM,yQ]at c;rcases c with c|rfl
  ·exact h.no x c
  ·exact h2
 ·have:=h.tl;rw[e,ez,ez];omega
 ·have:=h.z;rw[e,dV,dV];omega
theorem KeepT.ok (h:KeepT ts zt ot j ks)(hts:dW ts):dW ks:=by
 rw[dO];intro y a;exact dO.1 hts y (yi ((h.mem y).1 a).1)
def dw (K:Int):Tm:=if K=6 then .not .none else .none
def eK (K:Int):Tm:=if K=6 then .none else .not .none
theorem pz (hl:l≠[])(h:OutT K l l.length [] ts):bd ts<=bd l/\bw ts<=bw l/\12<=bw l:=by
 have a:=h.zle;have b:=h.tle;rw[zQ]at a b;simp only[bw,bd]at a b;refine⟨by omega,by omega,?_⟩;have:=pZ l;have:=List.length_pos_iff.2 hl;omega
theorem Ff :(dw K).Ok/\(dw K).z=1/\(dw K).tl<=24:=by
 unfold dw;split<;>exact⟨trivial,rfl,by decide⟩
theorem Jo :(eK K).Ok/\(eK K).z=1/\(eK K).tl<=24:=by
 unfold eK;split<;>exact⟨trivial,rfl,by decide⟩
theorem OP (h:OutT 5 l l.length [] ts)(u:LZ):kI l u↔∃t∈ts,t.L u:=by
 rw[<-Fe,qc];constructor
 ·rintro⟨t,c,b⟩;exact⟨t,(h.mem t).2 (.inl (by rw[zQ];exact c)),b⟩
 ·rintro⟨t,c,b⟩;rcases (h.mem t).1 c with a|a
  ·rw[zQ]at a;exact⟨t,a,b⟩
  ·simp at a
theorem Jp (h:OutT 6 l l.length [] ts)(u:LZ):iz l u↔∀t∈ts,t.L u:=by
 rw[<-Cu,nK];constructor
 ·intro b t c;rcases (h.mem t).1 c with a|a
  ·rw[zQ]at a;exact b t a
  ·simp at a
 ·intro b t c;exact b t ((h.mem t).2 (.inl (by rw[zQ];exact c)))
theorem Sj (hK:K=5\/K=6)(hl:l≠[])(h:OutT K l l.length [] ts)(hm:eK K∈ts):SomeG K l (eK K):=by
 obtain⟨d,e,c⟩:=pz hl h;obtain⟨b,g,f⟩:=Jo (K:=K);refine⟨b,?_,?_,by omega,by omega⟩
 ·rintro rfl u;rw[OP h];exact⟨λa=>⟨_,hm,a⟩,λ_=>by simp[eK,Tm.L]⟩
 ·rintro rfl u;rw[Jp h];constructor
  ·intro a;simp[eK,Tm.L]at a
  ·intro a;exact a _ hm
theorem Bu (h:OutT 5 l l.length [] ts)(hk:KeepT ts (dw 5) (eK 5) ts.length ks)(u:LZ):kI l u↔∃t∈ks,t.L u:=by
 rw[OP h];constructor
 ·rintro⟨t,b,a⟩;exact⟨t,(hk.mem t).2 ⟨by rw[zQ];exact b,λe=>by rw[e]at a;simp[dw,Tm.L]at a⟩,a⟩
 ·rintro⟨t,b,a⟩;have:=((hk.mem t).1 b).1;rw[zQ]at this;exact⟨t,this,a⟩
theorem wE (h:OutT 6 l l.length [] ts)(hk:KeepT ts (dw 6) (eK 6) ts.length ks)(u:LZ):iz l u↔∀t∈ks,t.L u:=by
 rw[Jp h];constructor
 ·intro a t b;have:=((hk.mem t).1 b).1;rw[zQ]at this;exact a t this
 ·intro a t b;by_cases e:t=dw 6
  ·rw[e];simp[dw,Tm.L]
  ·exact a t ((hk.mem t).2 ⟨by rw[zQ];exact b,e⟩)
theorem OQ (hK:K=5\/K=6)(hl:l≠[])(h:OutT K l l.length [] ts)(hk:KeepT ts (dw K) (eK K) ts.length []):SomeG K l (dw K):=by
 obtain⟨c,d,b⟩:=pz hl h;obtain⟨a,f,e⟩:=Ff (K:=K);refine⟨a,?_,?_,by omega,by omega⟩
 ·rintro rfl u;rw[Bu h hk];simp[dw,Tm.L]
 ·rintro rfl u;rw[wE h hk];simp[dw,Tm.L]
theorem pA (hl:l≠[])(h:OutT K l l.length [] ts)(hk:KeepT ts (dw K) (eK K) ts.length ks):bd ks<=bd l/\bw ks<=bw l:=by
 obtain⟨d,e,c⟩:=pz hl h;have a:=hk.z;have b:=hk.tl;rw[zQ]at a b;exact⟨by omega,by omega⟩
theorem Hr (hK:K=5\/K=6)(hl:l≠[])(hok:dW l)(h:OutT K l l.length [] ts)(hk:KeepT ts (dw K) (eK K) ts.length [y]):SomeG K l y:=by
 obtain⟨a,b⟩:=pA hl h hk;simp only[bd,bw]at a b;refine⟨(hk.ok (h.ok hok trivial)).1,?_,?_,by omega,by omega⟩
 ·rintro rfl u;rw[Bu h hk];simp
 ·rintro rfl u;rw[wE h hk];simp
theorem VF (hl:l≠[])(hok:dW l)(h:OutT 5 l l.length [] ts)(hk:KeepT ts (dw 5) (eK 5) ts.length ks)(hne:ks≠[]):SomeG 5 l (.or ks):=by
 obtain⟨a,b⟩:=pA hl h hk;refine⟨⟨hk.ok (h.ok hok trivial),hne⟩,?_,(λe=>by cases e),?_,?_⟩
 ·rintro-u;rw[Bu h hk,<-qc];simp[Tm.L]
 ·simp only[Tm.z];omega
 ·simp only[Tm.tl];omega
theorem Sk (hl:l≠[])(hok:dW l)(h:OutT 6 l l.length [] ts)(hk:KeepT ts (dw 6) (eK 6) ts.length ks)(hne:ks≠[]):SomeG 6 l (.and ks):=by
 obtain⟨a,b⟩:=pA hl h hk;refine⟨⟨hk.ok (h.ok hok trivial),hne⟩,(λe=>by cases e),?_,?_,?_⟩
 ·rintro-u;rw[wE h hk,<-nK];simp[Tm.L]
 ·simp only[Tm.z];omega
 ·simp only[Tm.tl];omega
theorem ag.sixS {c0 c1 c2 c3 c4 c5:Value}{T:TypeId}(h:ag w b [c0,c1,c2,c3,c4,c5] T)(a0 a1 a2 a3 a4 a5:Value):ag ((((((w.setCell (aD b 0) a0).setCell (aD b 1) a1).setCell (aD b 2) a2).setCell (aD b 3) a3).setCell (aD b 4) a4).setCell (aD b 5) a5) b [a0,a1,a2,a3,a4,a5] T :=
 (((((h.set 0 a0).set 1 a1).set 2 a2).set 3 a3).set 4 a4).set 5 a5
theorem ag.sixOther {c:Nat}{T:TypeId}(h:ag w c cs T)(hne:c≠b)(a0 a1 a2 a3 a4 a5:Value):ag ((((((w.setCell (aD b 0) a0).setCell (aD b 1) a1).setCell (aD b 2) a2).setCell (aD b 3) a3).setCell (aD b 4) a4).setCell (aD b 5) a5) c cs T :=
 (((((h.setOther (p:=(aD b 0)) hne a0).setOther (p:=(aD b 1)) hne a1).setOther (p:=(aD b 2)) hne a2).setOther (p:=(aD b 3)) hne a3).setOther (p:=(aD b 4)) hne a4).setOther (p:=(aD b 5)) hne a5
theorem fV {S:Nat}(h:Below S w W)(hb:S<=b)(a0 a1 a2 a3 a4 a5:Value):Below S w ((((((W.setCell (aD b 0) a0).setCell (aD b 1) a1).setCell (aD b 2) a2).setCell (aD b 3) a3).setCell (aD b 4) a4).setCell (aD b 5) a5) :=
 (((((h.setCell (p:=(aD b 0)) hb _).setCell (p:=(aD b 1)) hb _).setCell (p:=(aD b 2)) hb _).setCell (p:=(aD b 3)) hb _).setCell (p:=(aD b 4)) hb _).setCell (p:=(aD b 5)) hb _
theorem gR (h:aj W A t cs)(hn:¬A b)(a0 a1 a2 a3 a4 a5:Value):aj ((((((W.setCell (aD b 0) a0).setCell (aD b 1) a1).setCell (aD b 2) a2).setCell (aD b 3) a3).setCell (aD b 4) a4).setCell (aD b 5) a5) A t cs:=by
 have k:∀(V:World) (o:Nat) (v:Value),ah A V (V.setCell (aD b o) v):=λV o v=>ah.set v hn;exact aj.keep ((((((k _ _ _).trans (k _ _ _)).trans (k _ _ _)).trans (k _ _ _)).trans (k _ _ _)).trans (k _ _ _)) t cs h
theorem OutT.next2 (h:OutT K l i ex ts)(hi:l[i]?=some t)(he:ex=t.parts K):OutT K l (i+1) [] ts:=by
 subst he;exact OutT.next hi h
theorem tJ {a b:ByteArray}(h:af a=af b):a.toList=b.toList:=by
 unfold af at h;rw[Lib.toList_data,Lib.toList_data,h]
theorem qj (hv:aj w A t (TC K so sn sc lo ln lc m n s)):af s=t.key:=by
 obtain⟨g,b,d,f,c,a,k,j,i,e,h⟩:=hv.form;injection e with _ e;injection e with _ e;injection e with _ e;injection e with _ e;injection e with _ e;injection e with e _;injection e with e;rw[e];exact h
theorem Tv (hK:K=5\/K=6)(hk:t.kind=K)(hv:aj w A t cs):∃l lo lc xs s,cs=TC K none 0 0 lo l.length lc 0 0 s/\cg w A lo xs/\aO w A l xs/\l=t.parts K/\bd l<=t.z/\(t.Ok->dW l):=by
 have a:=λl (e:l=t.parts K)=>(show bd l<=t.z/\(t.Ok->dW l)from e▸⟨Jm,Fb⟩);rcases hK with rfl|rfl<;>cases t<;>simp only[Tm.kind]at hk<;>first|(exact absurd hk (by decide))|skip
 all_goals
  obtain⟨lo,lc,xs,s,e,b,c,_⟩:=hv;exact⟨_,lo,lc,xs,s,e,b,c,by simp[Tm.parts],a _ (by simp[Tm.parts])⟩
def SK (K:Int)(l:List Tm):Tm:=if K=6 then .and l else .or l
theorem Ke (hK:K=5\/K=6)(l:List Tm):(SK K l).kind=K:=by rcases hK with rfl|rfl<;>rfl
theorem Wy (hK:K=5\/K=6)(s0:ByteArray)(hr:cg w A lo xs)(hl:aO w A l xs)(hok:dW l)(htl:bw l<=4000000000000000000):Calls prog 33 #[.agg #[Vi K,Vz,.slice lo l.length lc,Vi 0,Vi 0,.string s0]] w λe w'=>∃s,e=.returned (.agg #[Vi K,Vz,.slice lo l.length lc,Vi 0,Vi 0,.string s])/\aj w' A (SK K l) (TC K none 0 0 lo l.length lc 0 0 s)/\Bw w w':=by
 rcases hK with rfl|rfl
 ·exact Sf s0 hr hl hok htl
 ·exact ON s0 hr hl hok htl
theorem XT (hK:K=5\/K=6)(hl:l≠[])(hok:dW l)(h:OutT K l l.length [] ts)(hk:KeepT ts (dw K) (eK K) ts.length ks)(hne:ks≠[]):SomeG K l (SK K ks):=by
 rcases hK with rfl|rfl
 ·exact VF hl hok h hk hne
 ·exact Sk hl hok h hk hne
theorem sT (hK:K=5\/K=6)(hA:∀g,A g->g<w.heap.size)(hr:cg w A lo xs)(hl:aO w A l xs)(hok:dW l)(hne:l≠[])(htl:bw l<=4000000000000000000)(hz:bd l<=2000000000000):Calls prog 34 #[.slice lo l.length lc,Vi K] w (eH w A (SomeG K l)):=by
 obtain⟨W0,o4,s6,r9,-⟩:=dS (rfl:w.heap.size=_) TZ 58;have HN:=aa (fG W0);have u4:=aa o4;have p8:=aa s6;have i4:=aa r9;have HK:=aa hK;have HA:=aa hA;have n9:=aa hr;have r7:=aa hl;have b9:=aa hok;have j0:=aa hne;have v1:=aa htl;have HZ:=aa hz;have z6:l.length<=2000000000000:=zJ (ko l) hz;obtain⟨i0,hi,w0,u3,v5⟩:=zz lM;go_enter func34,ntmps34;go_wp2_with fail;rw[u4.out];generalize hS:w.heap.size=S at *;refine HN.mono ?_;rintro e w1 ⟨t,J,I,O,L,H,G,mp,np,sp,rfl,m4,rfl,e9⟩;simp only[Tm.kind]at m4 ⊢;obtain⟨W2,l9,d2,-,-⟩:=dS (rfl:w1.heap.size=_) [Vi 1,.slice J I O,.slice L H G,Vi mp,Vi np,.string sp] 58;have c7:Bw W0 W2:=e9.trans (d2.mono e9.size);have t1:ag W2 w1.heap.size (TC 1 J I O L H G mp np sp) 58:=by rw[<-l9];exact ag.new w1 (TC 1 J I O L H G mp np sp) 58
 have t5:S<w1.heap.size:=(i4.below e9).lt;generalize hP:w1.heap.size=P at *;have u1:=aa l9;have s1:Hid (Below S w W2):=p8.trans (c7.mono (yJ i4.lt));have l7:=aa (i4.below c7);have f9:=aa t1;have p9:=aa m4;have m8:=aa (Gg W2);go_wp2_with fail;rw[u1.out];refine m8.mono ?_;rintro e w3 ⟨t,E,s,D,z,C,B,mq,nq,sq,rfl,m3,rfl,a7⟩;simp only[Tm.kind]at m3 ⊢;obtain⟨W4,l5,l4,-,-⟩:=dS (rfl:w3.heap.size=_) [Vi 7,.slice E s D,.slice z C B,Vi mq,Vi nq,.string sq] 58;have b5:Bw W2 W4:=a7.trans (l4.mono a7.size);have q7:ag W4 w3.heap.size (TC 7 E s D z C B mq nq sq) 58:=by rw[<-l5];exact ag.new w3 (TC 7 E s D z C B mq nq sq) 58
 have A3:P<w3.heap.size:=(f9.below a7).lt;have o1:Hid (aj W4 (λg=>False\/W2.heap.size<g) (.not .none) (TC 7 E s D z C B mq nq sq)):=aj.below l4 _ _ m3;have x1:P<W2.heap.size:=f9.lt;generalize hQ:w3.heap.size=Q at *;have o2:=aa l5;have b0:Hid (Below S w W4):=s1.trans (b5.mono (yJ l7.lt));have e7:=aa (l7.below b5);have i9:=aa (f9.below b5);have f8:=aa q7
 go_upto_if 15 with fail
 rw[o2.out]
 go_cut []from 14 to 17 (λwx=>∃J I O L H G mp np sp E s D z C B mq nq sq,Hid (aj wx (λg=>A g\/S<g) (dw K) (TC (dw K).kind J I O L H G mp np sp)/\aj wx (λg=>A g\/S<g) (eK K) (TC (eK K).kind E s D z C B mq nq sq)/\Below S w wx/\ag wx S TZ 58/\ag wx P (TC (dw K).kind J I O L H G mp np sp) 58/\ag wx Q (TC (eK K).kind E s D z C B mq nq sq) 58))
 case first=>
  rcases HK.out with rfl|rfl
  ·go_wp2_with fail
   go_meet
   exact⟨J,I,O,L,H,G,mp,np,sp,E,s,D,z,C,B,mq,nq,sq,kc p9,aj.mono (λg _ h=>by rcases h with h|h;exact h.elim;exact .inr (by omega)) _ _ o1,b0,e7,i9,f8⟩
  ·have t8:=aa (Gg W4);have A0:S<W4.heap.size:=e7.lt;have w2:Q<W4.heap.size:=f8.lt;have x0:P<W4.heap.size:=i9.lt;go_wp2_with fail;refine t8.mono ?_;rintro e w5 ⟨t,c5,b8,c0,b6,c3,c4,ma,na,sa,rfl,l8,rfl,f⟩;simp only[Tm.kind]at l8 ⊢;have h8:=i9.below f;obtain⟨p0,p1,p2,p3,p4,p5⟩:=h8.six;obtain⟨g0,g1,g2,g3,g4,g5,l1⟩:=h8.ice;obtain⟨W6,b3⟩:∃W6,(((((w5.setCell (aD P 0) (Vi 7)).setCell (aD P 1) (.slice c5 b8 c0)).setCell (aD P 2) (.slice b6 c3 c4)).setCell (aD P 3) (Vi ma)).setCell (aD P 4) (Vi na)).setCell (aD P 5) (.string sa)=W6:=⟨_,rfl⟩;have k0:Below S W4 w5:=f.mono (yJ e7.lt);have v9:Hid (Below S w W6):=by show Below _ _ _;rw[<-b3];exact fV (b0.trans k0) (yJ t5) _ _ _ _ _ _
   have m7:Hid (ag W6 S TZ 58):=by show ag _ _ _ _;rw[<-b3];exact (e7.below f).sixOther (by omega) _ _ _ _ _ _
   have u9:Hid (ag W6 Q (TC 7 E s D z C B mq nq sq) 58):=by show ag _ _ _ _;rw[<-b3];exact (f8.below f).sixOther (by omega) _ _ _ _ _ _
   have v6:Hid (ag W6 P (TC 7 c5 b8 c0 b6 c3 c4 ma na sa) 58):=by show ag _ _ _ _;rw[<-b3];exact h8.sixS _ _ _ _ _ _
   have t6:Hid (aj W6 (λg=>False\/W4.heap.size<g) (.not .none) (TC 7 c5 b8 c0 b6 c3 c4 ma na sa)):=by show aj _ _ _ _;rw[<-b3];exact gR l8 (by rintro (h|h);exact h;omega) _ _ _ _ _ _
   have t3:=aa b3;have v3:=aa (fG W6);go_wp2_with fail;rw[t3.out];refine v3.mono ?_;rintro e w7 ⟨t,f6,g9,g8,i3,h7,j6,mb,nb,sb,rfl,m2,rfl,b7⟩;simp only[Tm.kind]at m2 ⊢;have i7:=u9.below b7;obtain⟨p0,p1,p2,p3,p4,p5⟩:=i7.six;obtain⟨g0,g1,g2,g3,g4,g5,s2⟩:=i7.ice;obtain⟨W,b4⟩:∃W,(((((w7.setCell (aD Q 0) (Vi 1)).setCell (aD Q 1) (.slice f6 g9 g8)).setCell (aD Q 2) (.slice i3 h7 j6)).setCell (aD Q 3) (Vi mb)).setCell (aD Q 4) (Vi nb)).setCell (aD Q 5) (.string sb)=W:=⟨_,rfl⟩;have j8:Below S W6 w7:=b7.mono (yJ m7.lt);have c1:Hid (Below S w W):=by show Below _ _ _;rw[<-b4];exact fV (v9.trans j8) (by omega) _ _ _ _ _ _
   have Y:Hid (ag W S TZ 58):=by show ag _ _ _ _;rw[<-b4];exact (m7.below b7).sixOther (by omega) _ _ _ _ _ _
   have d0:Hid (ag W Q (TC 1 f6 g9 g8 i3 h7 j6 mb nb sb) 58):=by show ag _ _ _ _;rw[<-b4];exact i7.sixS _ _ _ _ _ _
   have d6:Hid (ag W P (TC 7 c5 b8 c0 b6 c3 c4 ma na sa) 58):=by show ag _ _ _ _;rw[<-b4];exact (v6.below b7).sixOther (by omega) _ _ _ _ _ _
   have g7:Hid (aj W (λg=>A g\/S<g) (dw 6) (TC 7 c5 b8 c0 b6 c3 c4 ma na sa)):=by show aj _ _ _ _;rw[<-b4];exact aj.mono (λg _ h=>by rcases h with h|h;exact h.elim;exact .inr (by omega)) _ _ (gR (aj.below b7 _ _ t6) (by rintro (h|h);exact h;omega) _ _ _ _ _ _)
   have g6:Hid (aj W (λg=>A g\/S<g) (eK 6) (TC 1 f6 g9 g8 i3 h7 j6 mb nb sb)):=kc m2;have t7:=aa b4;go_wp2_with fail;rw[t7.out]
   go_meet
   exact⟨c5,b8,c0,b6,c3,c4,ma,na,sa,f6,g9,g8,i3,h7,j6,mb,nb,sb,g7,g6,c1,Y,d6,d0⟩
 case rest=>
  obtain⟨J,I,O,L,H,G,mp,np,sp,E,s,D,z,C,B,mq,nq,sq,n3⟩:=hcut;obtain⟨W,rfl⟩:∃W,W=wc:=⟨_,rfl⟩;obtain⟨o7,q8,q9,o0,m5,q6⟩:=n3.out;have g7:=aa o7;have g6:=aa q8;have c1:=aa q9;have Y:=aa o0;have d6:=aa m5;have d0:=aa q6;go_wp2_with fail;have HR:=aa (n9.below (by rw[hS];exact c1));have HL:=aa (aO.below (A:=A) (by rw[hS];exact c1) _ _ r7);have n5:=aa (qj g7);have o3:=aa (qj g6)
  go_loopw [7,8] (λov iv wr=>∃(i:Nat) (N:List Tm) (ys:List Value),iv=Vi i/\i<=l.length/\wr.ownsRow W.heap.size 58 6 ov N.length ys/\aO wr A N ys/\OutT K l i [] N/\Bw W wr) (λ_ iv _=>l.length-(intOf iv).toNat)
  case atStart=>exact⟨0,[],[],rfl,zW _,zZ _ _ _ _,rfl,OutT.start _ _,zE _ _⟩
  case round=>
   obtain⟨i,N,ys,rfl,x7,d,r8,r,a⟩:=hrel;obtain⟨y9,w8,rfl⟩:=cd d;have HO:=aa d;have HT:=aa r8;have HU:=aa r;have a3:=aa a;have F:W.heap.size<=wr.heap.size:=a.size;have i1:(0:Int)<=(i:Int):=zK _;by_cases m0:i<l.length
   ·have i2:(i:Int)<(l.length:Int):=by omega
    obtain⟨t,ht⟩:∃t,l[i]?=some t:=⟨_,zB m0⟩;have o5:=aa ht;have t0:Hid t.Ok:=dO.1 b9 t (zU ht);have p6:Hid (bd (l.take i)+t.z<=bd l):=by
     show _<=_
     have e:l.take (i+1)=l.take i++[t]:=by rw[zi,ht];rfl
     have h1:=wD (l:=l) (i+1);rw[e,dV]at h1;simp only[bd]at h1;omega
    obtain⟨b,d7,c,rfl,hb,hv,hc⟩:=HR.out.get HL.out ht;obtain⟨a2,a0,a1,T,a4,X,mx,nx,sx,rfl,_⟩:=hv.form;obtain⟨y0,y1,y2,y3,y4,y5⟩:=oT a3.out hb hc;have v8:=aa (hc 2 _ rfl);have HV:=aa hv;have m9:b<wr.heap.size:=zF hb F;by_cases hk:t.kind=K
    ·obtain⟨l',y8,x9,i8,s',e,n1,s4,n4,o8,s3⟩:=Tv HK.out hk HV.out;injection e with e0 e;injection e with e1 e;injection e with e2 e;injection e with e3 e;injection e with e4 e;injection e with e5 e;injection e1 with e11 e12 e13;injection e2 with e21 e22 e23;subst e11 e12 e13 e21 e22 e23;have v7:=aa n1;have v0:=aa s4;have m6:=aa (s3 t0);have u2:=aa n4;have v2:=aa o8;have kq:(t.kind==K)=true:=by rw[hk];exact beq_self_eq_true K
     go_wp2_with fail
     go_loopw [7,9] (λov kv wr2=>∃(k:Nat) (us:List Tm) (zs:List Value),kv=Vi k/\k<=l'.length/\wr2.ownsRow W.heap.size 58 6 ov us.length zs/\aO wr2 A us zs/\OutT K l i (l'.take k) us/\Bw W wr2) (λ_ kv _=>l'.length-(intOf kv).toNat)
     case atStart=>exact⟨0,N,ys,rfl,zW _,HO,HT,HU,a3⟩
     case round=>
      obtain⟨k,us,zs,rfl,A1,d,j4,r,a⟩:=hrel;obtain⟨z9,w6,rfl⟩:=cd d;have y2:wr.cell? ⟨b,d7+i*6+2,none⟩=some (.slice T l'.length X):=(a.cell (p:=⟨b,_,none⟩) hb).trans v8;have F:W.heap.size<=wr.heap.size:=a.size;have m9:b<wr.heap.size:=zF hb F;have k1:(0:Int)<=(k:Int):=zK _;have p7:=aa r;have j7:=aa a;by_cases n7:k<l'.length
      ·have k2:(k:Int)<(l'.length:Int):=by omega
       obtain⟨t',h0⟩:∃t',l'[k]?=some t':=⟨_,zB n7⟩;have u6:bd (l'.take k)<=bd l':=wD k;have q:us.length<=2000000000000/\k<=2000000000000:=by
        have h1:=ko us;have h2:=r.zle;have h3:=p6.out;have h4:=HZ.out;have h5:=v2.out;have h6:=ko l';omega
       obtain⟨q,z7⟩:=q;obtain⟨b2,x2,c2,rfl,d2,l0,n0⟩:=v7.out.get v0.out h0;obtain⟨x5,A5,y7,z8,x6,x8,my,ny,sy,rfl,_⟩:=l0.form;obtain⟨z0,z1,z2,z3,z4,z5⟩:=oT a d2 n0;have x3:b2<wr.heap.size:=zF d2 F;have d3:=dO.1 m6;have HI:=aa (Ek F d j4 (r.ok b9 (dO.2 λx hx=>d3 x (yi hx))) (aj.below a _ _ l0) (d3 t' (zU h0)) q);have t2:Hid (l'.take (k+1)=l'.take k++[t']):=by show _=_;rw[zi,h0];rfl
       go_wp2_with fail;refine HI.mono ?_;rintro e w5 ⟨v',k5,i8,rfl,d9,c8,c6,c9,e6,f⟩;have HF:=aa (d1.intro d9 (d1.intro c8 (p7.step c6 c9 e6)));have d5:=aa (j7.trans (f.mono F));go_wp2_with fail
       go_roundw
       case rel=>exact⟨k+1,k5,i8,by go_num,by omega,HF.1,HF.2.1,by rw[t2.out];exact HF.2.2,d5⟩
       case measure=>simp[intOf];omega
      ·have k2:decide ((k:Int)<(l'.length:Int))=false:=zI (by omega);obtain rfl:k=l'.length:=by omega
       have HF:=aa (d1.intro d j4);go_wp2_with fail
       go_roundw
       case rel=>exact⟨i+1,us,zs,by go_num,by omega,HF.1,HF.2,p7.next2 o5 (by rw[zQ];exact u2),j7⟩
       case measure=>simp[intOf];omega
    ·have kq:(t.kind==K)=false:=zD.2 hk;have q:N.length<=2000000000000:=by
      have h1:=ko N;have h2:=HU.zle;have h3:=p6.out;have h4:=HZ.out;simp only[bd]at h2;omega
     have HI:=aa (Ek F HO HT (HU.ok b9 trivial) (aj.below a3 _ _ HV) t0 q);have u0:=aa (LC hk);go_wp2_with fail;refine HI.mono ?_;rintro e w5 ⟨v',k5,i8,rfl,d9,c8,c6,c9,e6,f⟩;have HF:=aa (d1.intro d9 (d1.intro c8 (HU.step c6 c9 e6)));have d5:=aa (a3.trans (f.mono F));go_wp2_with fail
     go_roundw
     case rel=>exact⟨i+1,k5,i8,by go_num,by omega,HF.1,HF.2.1,HF.2.2.next2 o5 u0.symm,d5⟩
     case measure=>simp[intOf];omega
   ·have i2:decide ((i:Int)<(l.length:Int))=false:=zI (by omega);obtain rfl:i=l.length:=by omega
    have s7:Hid (dW N):=HU.ok b9 trivial;have x4:N.length<=2000000000000:=by
     have h1:=ko N;have h2:=HU.zle;have h3:=HZ.out;rw[zQ]at h2;simp only[bd]at h2;omega
    obtain⟨V,hV⟩:∃V,V=wr:=⟨_,rfl⟩;rw[<-hV]at HO HT a3 F ⊢;have u5:=aa (fN HO);have t9:=aa a3;have A2:S<V.heap.size:=(Y.below a3).lt;have i2:decide ((l.length:Int)<(l.length:Int))=false:=zI (by omega);go_wp2_with fail
    go_loopw [10,11] (λkv jv wr2=>∃(j:Nat) (M:List Tm) (zs:List Value),jv=Vi j/\j<=N.length/\wr2.ownsRow V.heap.size 58 6 kv M.length zs/\aO wr2 A M zs/\KeepT N (dw K) (eK K) j M/\Bw V wr2) (λ_ jv _=>N.length-(intOf jv).toNat)
    case atStart=>exact⟨0,[],[],rfl,zW _,zZ _ _ _ _,rfl,KeepT.start _ _ _,zE _ _⟩
    case round=>
     obtain⟨j,M,zs,rfl,A4,d,r6,d4,a⟩:=hrel;obtain⟨k3,a8,rfl⟩:=cd d;have e8:=aa d;have i6:=aa r6;have a6:=aa d4;have a9:=aa a;have o:Hid (Bw W wr):=t9.trans (a.mono F);have j1:(0:Int)<=(j:Int):=zK _;by_cases m0:j<N.length
     ·have j2:(j:Int)<(N.length:Int):=by omega
      obtain⟨y,hy⟩:∃y,N[j]?=some y:=⟨_,zB m0⟩;have HY:=aa hy;have n2:Hid y.Ok:=dO.1 s7 y (zU hy);obtain⟨b,d7,c,rfl,hb,hv,hc⟩:=u5.out.get HT.out hy;obtain⟨a2,a0,a1,T,a4,X,mx,nx,sx,rfl,s8⟩:=hv.form;have j5:=aa s8;have HV:=aa hv;have HC:=aa hc;go_upto_region 20 with fail
      go_cut [70] (λv wx=>∃b':Bool,v=.bool b'/\(b'=true↔y=eK K)/\∃n,wx=wr.drewN n)
      case first=>
       have y5:wr.cell? ⟨b,d7+j*6+5,none⟩=some (.string sx):=(a9.cell (p:=⟨b,_,none⟩) hb).trans (HC 5 _ rfl);have q5:wr.cell? (aD Q 5)=some (.string sq):=(d0.below o).cell 5;have s2:Q<wr.heap.size:=(d0.below o).lt;have s0:b<wr.heap.size:=zF hb a9.size
       go_quiet (fail)
       go_wp2_with fail
       go_meet
       case rel=>exact⟨_,rfl,⟨λh=>nL n2 Jo.1 (by rw[<-j5.out,<-o3.out];exact kE (by simpa using h)),λe=>by have h9:=tJ (show af sx=af sq by rw[j5.out,o3.out,e]);simp[h9]⟩,_,rfl⟩
      case rest=>
       obtain⟨b',rfl,R,dq,rfl⟩:=hcut;obtain⟨U,hU⟩:∃U,wr.drewN dq=U:=⟨_,rfl⟩;have f7:Hid (Bw wr U):=by show Below _ _ _;rw[<-hU];exact aR (zE _ _)
       have b1:Hid (Bw W U):=o.trans (f7.mono o.size);have k7:Hid (Bw V U):=a9.trans (f7.mono a9.size);rw[hU];cases b' with
       |true=>
        have j3:=aa (R.1 rfl);have m1:=d0.below b1;obtain⟨q0,q1,q2,q3,q4,q5⟩:=m1.six;have s2:=m1.lt;have m:=Y.below b1;obtain⟨r0,r1,r2,r3,r4,r5⟩:=m.six;obtain⟨f0,f1,f2,f3,f4,f5,k8⟩:=m.ice;go_wp2_with fail;refine zN (v:=.agg #[Vi (eK K).kind,.slice E s D,.slice z C B,Vi mq,Vi nq,.string sq]) (by simp[results,results34,go_sem,r0,r1,r2,r3,r4,r5]) rfl ⟨eK K,E,s,D,z,C,B,mq,nq,sq,rfl,?_,Sj HK j0 HU (by rw[<-j3.out];exact zU HY),?_⟩
        ·rw[hS];exact dP (aj.below b1 _ _ g6) (λg h=>by have:=HA.out g h;omega) _ _ _ _ _ _
        ·rw[hS];exact iV (c1.trans (b1.mono (yJ Y.lt))) _ _ _ _ _ _
       |false=>
        have j3:Hid (y≠eK K):=λe=>by have:=R.2 e;cases this
        go_wp2_with fail
        go_cut [79] (λv wx=>∃b':Bool,v=.bool b'/\(b'=true↔y≠dw K)/\∃n,wx=U.drewN n)
        case first=>
         have y5:U.cell? ⟨b,d7+j*6+5,none⟩=some (.string sx):=(k7.cell (p:=⟨b,_,none⟩) hb).trans (HC 5 _ rfl);have p5:U.cell? (aD P 5)=some (.string sp):=(d6.below b1).cell 5;have l1:P<U.heap.size:=(d6.below b1).lt;have s0:b<U.heap.size:=zF hb k7.size
         go_quiet (fail)
         go_wp2_with fail
         go_meet
         case rel=>exact⟨_,rfl,⟨λh e=>by have h9:=tJ (show af sx=af sp by rw[j5.out,n5.out,e]);simp[h9]at h,λhne=>by have h9:¬sx.toList=sp.toList:=λe=>hne (nL n2 Ff.1 (by rw[<-j5.out,<-n5.out];exact kE e));simp[h9]⟩,_,rfl⟩
        case rest=>
         obtain⟨b',rfl,R,u7,rfl⟩:=hcut;obtain⟨U2,k4⟩:∃U2,U.drewN u7=U2:=⟨_,rfl⟩;have a5:Hid (Bw wr U2):=by show Below _ _ _;rw[<-k4];exact aR f7
         have Z:Hid (Bw V U2):=a9.trans (a5.mono a9.size);rw[k4];cases b' with
         |true=>
          have l2:=aa (R.1 rfl);have s0:b<U2.heap.size:=zF hb Z.size;obtain⟨y0,y1,y2,y3,y4,y5⟩:=oT Z.out hb HC.out;obtain⟨U3,o9,a7,l6,-⟩:=dS (rfl:U2.heap.size=_) (TC y.kind a2 a0 a1 T a4 X mx nx sx) 58;replace l6:=aa l6;have n6:=aa o9;have l3:=aa (bg (bg e8 a5) a7);have b0:Hid (Bw V U3):=Z.trans (a7.mono Z.size);have w9:M.length<=2000000000000:=by
           have h1:=ko M;have h2:=a6.z;have h3:=wD (l:=N) j;have h4:=HU.zle;have h5:=HZ.out;rw[zQ]at h4;simp only[bd]at h4;omega
          go_wp2_with (at_builtin;rw[n6.out];refine eO rfl (.tmp 80) (.tmp 85) 56 58 i0 _ 6 88 rfl underlying56 hi w0 u3 v5 rfl (by decide) V.heap.size M.length _ _ rfl l3 _ 1 _ (TC y.kind a2 a0 a1 T a4 X mx nx sx) rfl (λe=>by cases e) rfl (λad e j u hj=>by injection e with e;subst e;rw[zl,zf,l6.out.cell];exact hj) (sD _ _ _ _ _ _ _ _ _ _) (by unfold maxLen;omega) (by omega) b0.size ?_;intro v4 w4 d8 j9;have HF:=aa (d1.intro d8 j9));have f:Bw V w4:=cD b0 b0.size l3 HF.2;have o6:aO w4 A M zs:=by
           have h1:aO U3 A M zs:=aO.below (w:=U2) (by rw[<-n6.out];exact (zE _ _).alloc (zA _) _) _ _ (aO.below a5 _ _ i6);exact aO.keep ⟨HF.2.size,λg hg ha=>HF.2.block g hg (λe=>by
            have h2:=(l3.lt g e.symm).1;have h3:=HA.out g ha;omega)⟩ _ _ h1
          have i5:aj w4 A y (TC y.kind a2 a0 a1 T a4 X mx nx sx):=aj.below f _ _ HV
          go_roundw
          case rel=>exact⟨j+1,M++[y],zs++TC y.kind a2 a0 a1 T a4 X mx nx sx,by go_num,by omega,by rw[zH];exact HF.1,o6.append (aO.one i5),a6.put HY l2 j3,f⟩
          case measure=>simp[intOf];omega
         |false=>
          have l2:Hid (y=dw K):=Classical.byContradiction λh=>by have:=R.2 h;cases this
          go_wp2_with fail
          go_roundw
          case rel=>exact⟨j+1,M,zs,by go_num,by omega,bg e8 a5,aO.below a5 _ _ i6,a6.skip HY l2 j3,Z⟩
          case measure=>simp[intOf];omega
     ·have j2:decide ((j:Int)<(N.length:Int))=false:=zI (by omega);obtain rfl:j=N.length:=by omega
      have k6:Hid (Below S w wr):=c1.trans (o.mono (yJ Y.lt));have m:=Y.below o;obtain⟨r0,r1,r2,r3,r4,r5⟩:=m.six;obtain⟨f0,f1,f2,f3,f4,f5,k8⟩:=m.ice;by_cases e0:M=[]
      ·subst e0;have k9:=d6.below o;obtain⟨p0,p1,p2,p3,p4,p5⟩:=k9.six;have l1:=k9.lt;simp only[zh];go_wp2_with fail;refine zN (v:=.agg #[Vi (dw K).kind,.slice J I O,.slice L H G,Vi mp,Vi np,.string sp]) (by simp[results,results34,go_sem,r0,r1,r2,r3,r4,r5]) rfl ⟨dw K,J,I,O,L,H,G,mp,np,sp,rfl,?_,OQ HK j0 HU a6,?_⟩
       ·rw[hS];exact dP (aj.below o _ _ g7) (λg h=>by have:=HA.out g h;omega) _ _ _ _ _ _
       ·rw[hS];exact iV k6 _ _ _ _ _ _
      ·have t4:=aa e0;by_cases e1:∃y,M=[y]
       ·obtain⟨y,rfl⟩:=e1;obtain⟨b,d7,c,rfl,hb,hv,hc⟩:=(fN e8.out).get i6.out (i:=0) (t:=y) rfl;obtain⟨a2,a0,a1,T,a4,X,mx,nx,sx,rfl,_⟩:=hv.form;simp only[Nat.zero_mul,xF]at hc;obtain⟨y0,y1,y2,y3,y4,y5⟩:=JJ hc;have HV:=aa hv;simp only[zo];go_wp2_with fail;refine zN (v:=.agg #[Vi y.kind,.slice a2 a0 a1,.slice T a4 X,Vi mx,Vi nx,.string sx]) (by simp[results,results34,go_sem,r0,r1,r2,r3,r4,r5]) rfl ⟨y,a2,a0,a1,T,a4,X,mx,nx,sx,rfl,?_,Hr HK j0 b9 HU a6,?_⟩
        ·rw[hS];exact dP (aj.mono (λg _ h=>.inl h) _ _ HV) (λg h=>by have:=HA.out g h;omega) _ _ _ _ _ _
        ·rw[hS];exact iV k6 _ _ _ _ _ _
       ·have y6:2<=M.length:=by
         match M,e0,e1 with
         | [],e0,_=>exact absurd rfl e0
         | [y],_,e1=>exact absurd ⟨y,rfl⟩ e1
         |_::_::_,_,_=>simp
        have q0:((M.length:Int)==0)=false:=zD.2 (by omega);have q1:((M.length:Int)==1)=false:=zD.2 (by omega);have n8:bw M<=4000000000000000000:=by
         have h1:=a6.tl;have h2:=Si (l:=N) N.length;have h3:=HU.tle;have h4:=v1.out;rw[zQ]at h3;simp only[bw]at h3;omega
        have s9:=aa (Wy HK (A:=λg=>A g\/S<g) (lc:=a8) ⟨#[]⟩ ((fN e8).mono λg _ h=>.inr (by omega)) (aO.mono (λg _ h=>.inl h) _ _ i6) (a6.ok s7) n8);go_wp2_with fail;refine s9.mono ?_;rintro e w5 ⟨s5,rfl,i5,f⟩;have u8:=aa i5;have d5:Hid (Below S w w5):=k6.trans (f.mono (by have:=a9.size;omega));have m:=(Y.below o).below f;obtain⟨r0,r1,r2,r3,r4,r5⟩:=m.six;obtain⟨f0,f1,f2,f3,f4,f5,k8⟩:=m.ice;go_wp2_with fail;refine zN (v:=.agg #[Vi K,Vz,.slice k3 M.length a8,Vi 0,Vi 0,.string s5]) (by simp[results,results34,go_sem,r0,r1,r2,r3,r4,r5]) rfl ⟨SK K M,none,0,0,k3,M.length,a8,0,0,s5,by rw[Ke HK.out],?_,XT HK j0 b9 HU a6 t4,?_⟩
        ·rw[hS,Ke HK.out];exact dP u8 (λg h=>by have:=HA.out g h;omega) _ _ _ _ _ _
        ·rw[hS];exact iV d5 _ _ _ _ _ _
def qF (t:Tm):Prop:=∀(w:World) (A:Nat->Prop) (so:Option Addr) (sn sc:Nat) (lo:Option Addr) (ln lc:Nat) (m n:Int) (s:ByteArray) (c:Int),(∀g,A g->g<w.heap.size)->aj w A t (TC t.kind so sn sc lo ln lc m n s)->t.Ok->place c->t.z*t.tl<=3000000000000000000->bz t.z<=2000000000000 ->
 Calls prog 30 #[.agg #[Vi t.kind,.slice so sn sc,.slice lo ln lc,Vi m,Vi n,.string s],Vi c] w (eH w A (Gd (aX t.L (back c)) (bz t.z) (t.z*t.tl)))
theorem gL (h:place c):runeB (back c)=true/\up (back c)=c:=by
 unfold place at h;rw[rune_iff];unfold back up;refine⟨?_,?_⟩<;>(repeat' split)<;>omega
theorem Lj {r:Int}:aX dZ r=eA:=by
 funext u;simp[aX,dZ,eA]
theorem EP (h:PCanon q)(hc:place c):aX (Tm.set q).L (back c)=if memB q c then dZ else eA:=by
 have e:memB (told q) (back c)=memB q c:=by rw[gb h _ (gL hc).1,(gL hc).2]
 funext u;refine propext ⟨λ⟨d,b,f⟩=>?_,λh=>?_⟩
 ·injection b with h3 h4;subst h3 h4;rw[<-e,f];rfl
 ·by_cases a:memB q c=true
  ·rw[zX a]at h;exact⟨back c,by rw[show u=[]from h],by rw[e];exact a⟩
  ·rw[zR a]at h;exact h.elim
theorem jg {w:World}{ops:Array Oper}{rest:List Oper}{o:Oper}{a:Act}{Q:Exit->Act->World->Prop}(hgd:o.guard=none)(s x:Operand)(t e:TypeId)(i0:TypeInfo)(z:Value)(size bytes:Nat)
  (ho:o.op=.call { callee:=.builtin .append,args:=#[s,x],argTypes:=#[t,t] }) (hu:prog.underlying t=some (.slice e)) (hi:prog.info? e=some i0) (hz:i0.zero=some z) (hsz:i0.size=size) (hby:i0.bytes=bytes) (hzs:z.cells.size=size) (hpos:0<size)
  (B n:Nat) (v:Value) (xs:LV) (hs:a.eval s=v) (hown:w.ownsRow B e size v n xs)
  (ad:Addr) (m c:Nat) (news:LV) (hx:a.eval x=.slice (some ad) m c) (hl:news.length=m*size) (hm:0<m) (hnews:∀j u,news[j]?=some u->w.cell? (ad.add j)=some u) (h1:∀u∈news,u.oneCell'=true)
  (h63:n+m<=maxLen) (hn:(n+m)*bytes<=140737488355328) (hB:B<=w.heap.size)
  (h:∀v' w',w'.ownsRow B e size v' (n+m) (xs++news)->w.grownBy w' v.ownBlock->(v'.ownBlock=v.ownBlock\/∀g,v'.ownBlock=some g->w.heap.size<=g)->wpList prog ops Q rest (a.put o.dst v') w'):wpList prog ops Q (o::rest) a w:=by
 have i:=hown;rcases hown.2 with⟨rfl,rfl⟩|⟨g,p,r,rfl,A,G,C,E,D,F⟩
 ·refine yo w hgd s x t ho e i0 z size bytes hu hi hz hsz hby hzs hpos none 0 0 xs hs (λ_=>⟨rfl,rfl⟩) i.1 (λb e=>by cases e) ad m c news hx hl hnews h1 (by omega) h63 hn ?_;intro v' w' f d;exact h v' w' (ij f hB) ⟨d.os,d.tape,d.output,d.size,λk q _=>d.block k q (by simp)⟩ (.inr λg e=>(f.lt g e).1)
 ·by_cases l:n+m<=p
  ·refine wpList_append_fits w hgd s x t ho B e i0 size hu hi hsz g n p xs hs i ad m c news hx hl hnews h1 l ?_;intro w' f d;exact h _ w' f d (.inl rfl)
  ·refine yo w hgd s x t ho e i0 z size bytes hu hi hz hsz hby hzs hpos (some (aD g 0)) n p xs hs (λe=>by cases e) i.1 (λb e j u y=>by cases e;exact i.cells rfl j u y) ad m c news hx hl hnews h1 (by omega) h63 hn ?_;intro v' w' f d;exact h v' w' (ij f hB) ⟨d.os,d.tape,d.output,d.size,λk q _=>d.block k q (by simp)⟩ (.inr λg e=>(f.lt g e).1)
theorem Vt:bz 1=1:=rfl
theorem YC {z t:Nat}(h:1<=z):z*t+12<=z*(t+12):=by
 rw[ye];omega
theorem Xp {z t:Nat}(h:1<=z):z*t+(t+12)+12<=(z+1)*(t+12):=by
 rw[ye,Nat.add_mul];omega
theorem Vu (z:Nat):bz z+(z+1)<=bz (z+1):=by rw[kj];omega
theorem YD {za zb ta tb:Nat}(ha:1<=za)(hb:1<=zb):za*ta+tb+12+zb*tb+12<=(za+zb)*(ta+tb+12):=by
 have b:1*tb<=za*tb:=zn _ ha;have a:1*ta<=zb*ta:=zn _ hb;simp only[ye,Nat.add_mul];omega
theorem Xq {za zb:Nat}(ha:1<=za):bz za+zb+bz zb<=bz (za+zb):=by
 have a:1*zb<=za*zb:=zn _ ha;rw[lJ];omega
theorem Bk {z:Nat}(h:1<=z):1<=bz z:=zJ h (qr z)
def dj (c:Int):List Tm->List Tm->Prop
 | [],[]=>True
 |t::l,u::m=>Gd (aX t.L (back c)) (bz t.z) (t.z*t.tl) u/\dj c l m
 |_,_=>False
theorem dj.snoc {c:Int}{t u:Tm}:∀{l m:List Tm},dj c l m->Gd (aX t.L (back c)) (bz t.z) (t.z*t.tl) u->dj c (l++[t]) (m++[u])
 | [],[],_,k=>⟨k,trivial⟩
 |_::_,_::_,h,k=>⟨h.1,dj.snoc h.2 k⟩
theorem dj.len {c:Int}:∀{l m:List Tm},dj c l m->m.length=l.length
 | [],[],_=>rfl
 |_::_,_::_,h=>by rw[zG,zG,dj.len h.2]
theorem dj.ok {c:Int}:∀{l m:List Tm},dj c l m->dW m
 | [],[],_=>trivial
 |_::_,_::_,h=>⟨h.1.ok,dj.ok h.2⟩
theorem dj.tl {c:Int}:∀{l m:List Tm},dj c l m->bw m<=bd l*bw l
 | [],[],_=>zA _
 |t::l,u::m,h=>by
  have b:=h.1.tl;have a:=dj.tl h.2;simp only[bw,bd];rw[ye,Nat.add_mul,Nat.add_mul];omega
theorem dj.z {c:Int}:∀{l m:List Tm},dj c l m->bd m<=bz (bd l)
 | [],[],_=>zA _
 |t::l,u::m,h=>by
  have b:=h.1.z;have a:=dj.z h.2;simp only[bd];rw[lJ];omega
theorem dj.or {c:Int}{v:LZ}:∀{l m:List Tm},dj c l m->(kI m v↔kI l (back c::v))
 | [],[],_=>Iff.rfl
 |t::l,u::m,h=>by
  have a:=h.1.lg;simp only[kI,dj.or h.2];rw[a];rfl
theorem dj.and {c:Int}{v:LZ}:∀{l m:List Tm},dj c l m->(iz m v↔iz l (back c::v))
 | [],[],_=>Iff.rfl
 |t::l,u::m,h=>by
  have a:=h.1.lg;simp only[iz,dj.and h.2];rw[a];rfl
theorem Jk:∀{l:List Tm} {t:Tm},t∈l->t.z<=bd l
 |u::l,t,h=>by
  simp only[bd];rcases zO.1 h with rfl|h
  ·omega
  ·have:=Jk h;omega
theorem Lk {m:List Tm}(h:dj c l m)(hg:SomeG 5 m t):Gd (aX (Tm.or l).L (back c)) (bz (Tm.or l).z) ((Tm.or l).z*(Tm.or l).tl) t:=by
 refine⟨hg.ok,?_,?_,?_⟩
 ·funext u;exact propext ((hg.or rfl u).trans h.or)
 ·have d:=hg.z;have a:=h.z;have b:bz (bd l)<=bz (max 1 (bd l)):=dY (Nat.le_max_right _ _);have e:1<=bz (max 1 (bd l)):=Bk (Nat.le_max_left _ _);simp only[Tm.z];omega
 ·have d:=hg.tl;have a:=h.tl;have b:bd l*bw l<=max 1 (bd l)*bw l:=zn _ (Nat.le_max_right _ _);have e:1<=max 1 (bd l):=Nat.le_max_left _ _;simp only[Tm.z,Tm.tl];rw[ye];omega
theorem Hk {m:List Tm}(h:dj c l m)(hg:SomeG 6 m t):Gd (aX (Tm.and l).L (back c)) (bz (Tm.and l).z) ((Tm.and l).z*(Tm.and l).tl) t:=by
 refine⟨hg.ok,?_,?_,?_⟩
 ·funext u;exact propext ((hg.and rfl u).trans h.and)
 ·have d:=hg.z;have a:=h.z;have b:bz (bd l)<=bz (max 1 (bd l)):=dY (Nat.le_max_right _ _);have e:1<=bz (max 1 (bd l)):=Bk (Nat.le_max_left _ _);simp only[Tm.z];omega
 ·have d:=hg.tl;have a:=h.tl;have b:bd l*bw l<=max 1 (bd l)*bw l:=zn _ (Nat.le_max_right _ _);have e:1<=max 1 (bd l):=Nat.le_max_left _ _;simp only[Tm.z,Tm.tl];rw[ye];omega
theorem RJ {z:Nat}(h:bz z<=2000000000000):z<=2000000:=by
 rcases Nat.lt_or_ge z 2000001 with a|a
 ·omega
 ·have b:=dY a;have c:bz 2000001=2000003000001:=by decide
  omega
theorem Cr {z T l t:Nat}(hz:z<=max 1 T)(h:max 1 T*(l+12)<=3000000000000000000)(ht:t<=l):z*t<=3000000000000000000:=by
 have a:z*t<=max 1 T*(l+12):=Nat.mul_le_mul hz (by omega);omega
theorem vr:∀(q:LQ) (lo:Int),lo<=1112065->(∀x∈q,PGood x/\lo<=x.1)->(q.Pairwise λx y=>x.2+1<y.1)->2*(q.length:Int)+lo<=1112065
 | [],lo,h,_,_=>by simp;omega
 |x::q,lo,h,hx,hp=>by
  obtain⟨g,c⟩:=hx x (by simp);unfold PGood at g;rw[yg]at hp;have b:=vr q (x.2+2) (by omega) (λy a=>⟨(hx y (by simp[a])).1,by have:=hp.1 y a;omega⟩) hp.2;rw[zG];omega
theorem ri (h:PCanon q):q.length<=600000:=by
 have:=vr q 0 (by decide) (λx a=>⟨h.1 x a,(h.1 x a).1⟩) h.2;omega
theorem CK {wr U3 w4:World}{v4:Value}{us:List Tm}{ys:LV}{t5:Tm}(hgr:U3.grownBy w4 v.ownBlock)(hmv:v4.ownBlock=v.ownBlock\/∀g,v4.ownBlock=some g->U3.heap.size<=g)(hbr:Bw wr U3)(hus:aO wr (λg=>(A g\/B<=g)/\v.ownBlock≠some g) us ys)(hv:aj U3 (λg=>A g\/wr.heap.size<g) t5 cs)(hO:∀g,v.ownBlock=some g->B<=g/\g<wr.heap.size)(hA:∀g,A g->g<B)(hB:B<=wr.heap.size) :
  aO w4 (λg=>(A g\/B<=g)/\v4.ownBlock≠some g) (us++[t5]) (ys++cs):=by
 have c:∀g,g<U3.heap.size->((A g\/B<=g)/\v.ownBlock≠some g)->v4.ownBlock≠some g:=λg b h e=>by
  rcases hmv with a|a
  ·rw[a]at e;exact h.2 e
  ·have:=a g e;omega
 have d:ah (λg=>((A g\/B<=g)/\v.ownBlock≠some g)/\v4.ownBlock≠some g) U3 w4:=⟨hgr.size,λg b f=>hgr.block g b (λe=>f.1.2 e.symm)⟩;refine aO.mono (A:=λg=>((A g\/B<=g)/\v.ownBlock≠some g)/\v4.ownBlock≠some g) (λg _ h=>⟨h.1.1,h.2⟩) _ _ (aO.keep d _ _ (aO.append ?_ (aO.one ?_)))
 ·exact aO.mono (λg b h=>⟨h,c g b h⟩) _ _ (aO.below hbr _ _ hus)
 ·refine aj.mono (λg b h=>?_) _ _ hv;have a:(A g\/B<=g)/\v.ownBlock≠some g:=by
   rcases h with h|h
   ·exact⟨.inl h,λe=>by have:=hO g e;have:=hA g h;omega⟩
   ·exact⟨.inr (by omega),λe=>by have:=hO g e;omega⟩
  exact⟨a,c g b a⟩
theorem Mh (c:Int):Calls prog 30 #[.agg #[Vi 1,.slice so sn sc,.slice lo ln lc,Vi m,Vi n,.string s],Vi c] w (eH w A (λu=>u=.none)):=by
 obtain⟨E,g,r,b,p,x⟩:=jK (rfl:w.heap.size=_) (TC 1 so sn sc lo ln lc m n s) 58 TZ 58;have T:E.cell? (aD w.heap.size 0)=some (Vi 1):=b.cell 0;have G:=b.lt;have M:=aa (fG E);have h:=aa p;have y:=aa r;have t:=aa g;go_enter func30,ntmps30;go_upto_region 1 with fail;rw[t.out];generalize hS:w.heap.size=S at *;go_wp2_with fail;refine M.mono ?_;rintro e O ⟨R,j,q,i,k,o,l,C,F,D,rfl,f,rfl,a⟩;simp only[Tm.kind]at f ⊢;have d:=h.below a;obtain⟨K,N,L,I,P,H⟩:=d.six;obtain⟨V,W,X,U,Y,Q,J⟩:=d.ice;have z:Hid (Below S w O):=y.trans (a.mono (by have:=h.lt;omega));have B:=aa f;go_wp2_with fail;refine zN (v:=.agg #[Vi 1,.slice j q i,.slice k o l,Vi C,Vi F,.string D]) (by simp[results,results30,go_sem,K,N,L,I,P,H]) rfl ⟨.none,j,q,i,k,o,l,C,F,D,rfl,?_,rfl,?_⟩
 ·rw[hS];exact kc B
 ·rw[hS];exact bC z _ _ _ _ _ _
theorem If (c:Int):Calls prog 30 #[.agg #[Vi 2,.slice so sn sc,.slice lo ln lc,Vi m,Vi n,.string s],Vi c] w (eH w A (λu=>u=.none)):=by
 obtain⟨E,g,r,b,p,x⟩:=jK (rfl:w.heap.size=_) (TC 2 so sn sc lo ln lc m n s) 58 TZ 58;have T:E.cell? (aD w.heap.size 0)=some (Vi 2):=b.cell 0;have G:=b.lt;have M:=aa (fG E);have h:=aa p;have y:=aa r;have t:=aa g;go_enter func30,ntmps30;go_upto_region 1 with fail;rw[t.out];generalize hS:w.heap.size=S at *;go_wp2_with fail;refine M.mono ?_;rintro e O ⟨R,j,q,i,k,o,l,C,F,D,rfl,f,rfl,a⟩;simp only[Tm.kind]at f ⊢;have d:=h.below a;obtain⟨K,N,L,I,P,H⟩:=d.six;obtain⟨V,W,X,U,Y,Q,J⟩:=d.ice;have z:Hid (Below S w O):=y.trans (a.mono (by have:=h.lt;omega));have B:=aa f;go_wp2_with fail;refine zN (v:=.agg #[Vi 1,.slice j q i,.slice k o l,Vi C,Vi F,.string D]) (by simp[results,results30,go_sem,K,N,L,I,P,H]) rfl ⟨.none,j,q,i,k,o,l,C,F,D,rfl,?_,rfl,?_⟩
 ·rw[hS];exact kc B
 ·rw[hS];exact bC z _ _ _ _ _ _
theorem Dv (c:Int)(hq:Rd w so q)(hl:q.length<=1000000)(hm:memB q c=true):Calls prog 30 #[.agg #[Vi 3,.slice so q.length sc,Vz,Vi 0,Vi 0,.string s],Vi c] w (eH w A (λu=>u=.empty)):=by
 obtain⟨r,h,g,a,o,x⟩:=jK (rfl:w.heap.size=_) (TC 3 so q.length sc none 0 0 0 0 s) 58 TZ 58;have U:r.cell? (aD w.heap.size 0)=some (Vi 3):=a.cell 0;have a1:r.cell? (aD w.heap.size 1)=some (.slice so q.length sc):=a.cell 1;have G:=a.lt;have I:=aa (wS sc c (Rd.below hq g) hl);have O:=aa (rh r);have i:=aa o;have y:=aa g;have t:=aa h;have M:=aa hm;go_enter func30,ntmps30;go_upto_region 1 with fail;rw[t.out];generalize hS:w.heap.size=S at *;go_wp2_with fail;refine I.mono ?_;rintro e F ⟨rfl,rfl⟩;rw[M.out];go_wp2_with fail;refine O.mono ?_;rintro e F ⟨T,k,p,j,l,n,m,C,E,D,rfl,f,rfl,b⟩;simp only[Tm.kind]at f ⊢;have d:=i.below b;obtain⟨L,P,N,J,Q,H⟩:=d.six;obtain⟨W,X,Y,V,Z,R,K⟩:=d.ice;have z:Hid (Below S w F):=y.trans (b.mono (by have:=i.lt;omega));have B:=aa f;go_wp2_with fail;refine zN (v:=.agg #[Vi 2,.slice k p j,.slice l n m,Vi C,Vi E,.string D]) (by simp[results,results30,go_sem,L,P,N,J,Q,H]) rfl ⟨.empty,k,p,j,l,n,m,C,E,D,rfl,?_,rfl,?_⟩
 ·rw[hS];exact sZ B
 ·rw[hS];exact bC z _ _ _ _ _ _
theorem Bz (c:Int)(hq:Rd w so q)(hl:q.length<=1000000)(hm:memB q c=false):Calls prog 30 #[.agg #[Vi 3,.slice so q.length sc,Vz,Vi 0,Vi 0,.string s],Vi c] w (eH w A (λu=>u=.none)):=by
 obtain⟨r,h,g,a,o,x⟩:=jK (rfl:w.heap.size=_) (TC 3 so q.length sc none 0 0 0 0 s) 58 TZ 58;have U:r.cell? (aD w.heap.size 0)=some (Vi 3):=a.cell 0;have a1:r.cell? (aD w.heap.size 1)=some (.slice so q.length sc):=a.cell 1;have G:=a.lt;have I:=aa (wS sc c (Rd.below hq g) hl);have O:=aa (fG r);have i:=aa o;have y:=aa g;have t:=aa h;have M:=aa hm;go_enter func30,ntmps30;go_upto_region 1 with fail;rw[t.out];generalize hS:w.heap.size=S at *;go_wp2_with fail;refine I.mono ?_;rintro e F ⟨rfl,rfl⟩;rw[M.out];go_wp2_with fail;refine O.mono ?_;rintro e F ⟨T,k,p,j,l,n,m,C,E,D,rfl,f,rfl,b⟩;simp only[Tm.kind]at f ⊢;have d:=i.below b;obtain⟨L,P,N,J,Q,H⟩:=d.six;obtain⟨W,X,Y,V,Z,R,K⟩:=d.ice;have z:Hid (Below S w F):=y.trans (b.mono (by have:=i.lt;omega));have B:=aa f;go_wp2_with fail;refine zN (v:=.agg #[Vi 1,.slice k p j,.slice l n m,Vi C,Vi E,.string D]) (by simp[results,results30,go_sem,L,P,N,J,Q,H]) rfl ⟨.none,k,p,j,l,n,m,C,E,D,rfl,?_,rfl,?_⟩
 ·rw[hS];exact kc B
 ·rw[hS];exact bC z _ _ _ _ _ _
theorem Pu (c:Int)(hA:∀g,A g->g<w.heap.size)(ih:qF u)(hok:u.Ok)(hp:place c)(hz:u.z*(u.tl+12)<=3000000000000000000)(hz2:bz u.z<=2000000000000)(hbl:b<w.heap.size)(hv:aj w A u (TC u.kind so' sn' sc' lo' ln' lc' m' n' s'))(hc:∀j v,(TC u.kind so' sn' sc' lo' ln' lc' m' n' s')[j]?=some v->w.cell? ⟨b,off+j,none⟩=some v):Calls prog 30 #[.agg #[Vi 7,Vz,.slice (some (aD b off)) 1 lc,Vi 0,Vi 0,.string s],Vi c] w (eH w A (Gd (fZ (aX u.L (back c))) (bz u.z) (u.z*(u.tl+12)))):=by
 obtain⟨z,M,f,r,R,a7⟩:=jK (rfl:w.heap.size=_) (TC 7 none 0 0 (some (aD b off)) 1 lc 0 0 s) 58 TZ 58;have a0:z.cell? (aD w.heap.size 0)=some (Vi 7):=r.cell 0;have a2:z.cell? (aD w.heap.size 2)=some (.slice (some (aD b off)) 1 lc):=r.cell 2;have b1:=r.lt;have b0:b<z.heap.size:=zF hbl f.size;obtain⟨y0,y1,y2,y3,y4,y5⟩:=oT f hbl hc;have a4:=YC (t:=u.tl) (fE u);have HC:=aa (ih z A _ _ _ _ _ _ _ _ _ c (λg a=>zF (hA g a) f.size) (aj.below f _ _ hv) hok hp (by omega) hz2);have HO:Hid (∀(x:World) (F:Tm) (p:Option Addr) (i o:Nat) (q:Option Addr) (k l:Nat) (J O:Int) (K:ByteArray),Bw z x->aj x (λg=>A g\/z.heap.size<g) F (TC F.kind p i o q k l J O K)->Gd (aX u.L (back c)) (bz u.z) (u.z*u.tl) F ->
   Calls prog 35 #[.agg #[Vi F.kind,.slice p i o,.slice q k l,Vi J,Vi O,.string K]] x λe w6=>∃t V Y U T W lc m n s,e=.returned (.agg #[Vi (Tm.kind t),.slice V Y U,.slice T W lc,Vi m,Vi n,.string s])/\Hid (aj w6 (λg=>A g\/w.heap.size+1<g) t (TC t.kind V Y U T W lc m n s))/\Hid (Gd (fZ (aX u.L (back c))) (bz u.z) (u.z*(u.tl+12)) t)/\Bw x w6):=λx F p i o q k l J O K h5 y d=>by
  have h1:=d.z;have h2:=d.tl;have h3:=h5.size;refine (Ki (A:=λg=>(A g\/z.heap.size<g)/\g<x.heap.size) (λg a=>a.2) (aj.mono (λg a ha=>⟨ha,a⟩) _ _ y) d.ok (by omega)).mono ?_;rintro e w6 ⟨t,V,Y,U,T,W,lc,m,n,s,rfl,g1,X,g3⟩;refine⟨t,V,Y,U,T,W,lc,m,n,s,rfl,?_,⟨X.ok,?_,?_,?_⟩,g3⟩
  ·exact aj.mono (λg _ a=>by rcases a with⟨a|a,_⟩|a;exact .inl a;exact .inr (by omega);exact .inr (by omega)) _ _ g1
  ·rw[X.lg,d.lg]
  ·have:=X.z;omega
  ·have:=X.tl;omega
 have B:=aa R;have a8:=aa f;have a6:=aa M;have HA:=aa hA;go_enter func30,ntmps30;go_upto_region 1 with fail;rw[a6.out];generalize hS:w.heap.size=S at *;go_wp2_with fail;refine HC.mono ?_;rintro e x ⟨F,p,i,o,q,k,l,J,O,K,rfl,y,d,E⟩;have a1:=aa (HO x F p i o q k l J O K E y d);have G:=aa E;go_wp2_with fail;refine a1.mono ?_;rintro e w3 ⟨t3,L,N,P,H,I,Q,m3,n3,s3,rfl,a3,a5,D⟩;have C:=(B.below G).below D;obtain⟨r0,r1,r2,r3,r4,r5⟩:=C.six;obtain⟨f0,f1,f2,f3,f4,f5,a9⟩:=C.ice;have Z:Hid (Below S w w3):=(a8.trans (G.mono (by have:=B.lt;omega))).trans (D.mono (by have:=B.lt;have:=G.size;omega));go_wp2_with fail;refine zN (v:=.agg #[Vi (Tm.kind t3),.slice L N P,.slice H I Q,Vi m3,Vi n3,.string s3]) (by simp[results,results30,go_sem,r0,r1,r2,r3,r4,r5]) rfl ⟨t3,L,N,P,H,I,Q,m3,n3,s3,rfl,?_,a5,?_⟩
 ·rw[hS];exact aj.mono (λg _ a=>by rcases a with a|a;exact .inl a;exact .inr (by omega)) _ _ (dP a3 (λg h=>by have:=HA.out g h;omega) _ _ _ _ _ _)
 ·rw[hS];exact bC Z _ _ _ _ _ _
theorem Pd (hK:K=5\/K=6){m:List Tm}(h:dj c l m)(hg:SomeG K m t):Gd (aX (SK K l).L (back c)) (bz (Tm.or l).z) ((Tm.or l).z*(Tm.or l).tl) t:=by
 rcases hK with rfl|rfl
 ·exact Lk h hg
 ·exact Hk h hg
theorem Pe (hK:K=5\/K=6)(c:Int)(hA:∀g,A g->g<w.heap.size)(hr:cg w A lo xs)(hl:aO w A l xs)(ih:∀t∈l,qF t)(hok:dW l)(hne:l≠[])(hp:place c)(hz:(Tm.or l).z*(Tm.or l).tl<=3000000000000000000)(hz2:bz (Tm.or l).z<=2000000000000):Calls prog 30 #[.agg #[Vi K,Vz,.slice lo l.length lc,Vi 0,Vi 0,.string s],Vi c] w (eH w A (Gd (aX (SK K l).L (back c)) (bz (Tm.or l).z) ((Tm.or l).z*(Tm.or l).tl))):=by
 obtain⟨p,b7,B,E,c1,c6⟩:=jK (rfl:w.heap.size=_) (TC K none 0 0 lo l.length lc 0 0 s) 58 TZ 58;have a0:p.cell? (aD w.heap.size 0)=some (Vi K):=E.cell 0;have e6:=E.lt;have d4:Hid (∀(i:Nat) (t:Tm) (wr:World) (a4:Option Addr) (O Q:Nat) (a5:Option Addr) (V Y:Nat) (m' n':Int) (s':ByteArray),l[i]?=some t->Bw p wr->aj p A t (TC t.kind a4 O Q a5 V Y m' n' s')->Calls prog 30 #[.agg #[Vi t.kind,.slice a4 O Q,.slice a5 V Y,Vi m',Vi n',.string s'],Vi c] wr (eH wr A (Gd (aX t.L (back c)) (bz t.z) (t.z*t.tl)))):=λi t wr a4 O Q a5 V Y m' n' s' hi N hv=>by
  have hm:=zU hi;have h1:=Jk hm;have h2:=uv hm;refine ih t hm wr A _ _ _ _ _ _ _ _ _ c (λg f=>zF (hA g f) (zJ B.size N.size)) (aj.below N _ _ hv) (dO.1 hok t hm) hp ?_ ?_
  ·exact Cr (T:=bd l) (l:=bw l) (by omega) hz h2
  ·exact zJ (dY (zJ h1 (Nat.le_max_right 1 _))) hz2
 have b0:Hid (∀(wr:World) (z:Option Addr) (o:Nat) (x:List Tm) (G:List Value),Bw p wr->wr.ownsRow p.heap.size 58 6 (.slice z x.length o) x.length G->aO wr (λg=>A g\/p.heap.size<=g) x G->dj c l x->Calls prog 34 #[.slice z x.length o,Vi K] wr λe w6=>∃t so sn sc lo ln lc m n s,e=.returned (.agg #[Vi (Tm.kind t),.slice so sn sc,.slice lo ln lc,Vi m,Vi n,.string s])/\Hid (aj w6 (λg=>A g\/w.heap.size+1<g) t (TC t.kind so sn sc lo ln lc m n s))/\Hid (Gd (aX (SK K l).L (back c)) (bz (Tm.or l).z) ((Tm.or l).z*(Tm.or l).tl) t)/\Bw wr w6):=λwr z o x G N k D r=>by
  have h1:=r.tl;have h2:=r.z;have h3:=N.size;have h4:bd l*bw l<=3000000000000000000:=Cr (T:=bd l) (l:=bw l) (Nat.le_max_right _ _) hz (zA _);have h5:bz (bd l)<=2000000000000:=zJ (dY (Nat.le_max_right 1 _)) hz2;have b4:x≠[]:=λe=>hne (by have:=r.len;rw[e]at this;exact yf this.symm);refine (sT hK (A:=λg=>(A g\/p.heap.size<=g)/\g<wr.heap.size) (λg f=>f.2) ((fN k).mono (λg f h=>⟨.inr h,f⟩)) (aO.mono (λg f h=>⟨h,f⟩) _ _ D) r.ok b4 (by omega) (by omega)).mono ?_;rintro e w6 ⟨t,so,sn,sc,lo,ln,lc,m,n,s,rfl,g1,g2,g3⟩;refine⟨t,so,sn,sc,lo,ln,lc,m,n,s,rfl,?_,Pd hK r g2,g3⟩;exact aj.mono (λg _ f=>by rcases f with⟨f|f,_⟩|f;exact .inl f;exact .inr (by omega);exact .inr (by omega)) _ _ g1
 have e4:l.length<=2000000:=by
  have h1:=ko l;have h2:bd l<=max 1 (bd l):=Nat.le_max_right _ _;have h3:max 1 (bd l)<=2000000:=RJ hz2;omega
 have HR:=aa (hr.below B);have HL:=aa (aO.below B _ _ hl);have q1:(K==1)=false:=by rcases hK with rfl|rfl<;>rfl
 have q2:(K==2)=false:=by rcases hK with rfl|rfl<;>rfl
 have q3:(K==3)=false:=by rcases hK with rfl|rfl<;>rfl
 have q4:(K==4)=false:=by rcases hK with rfl|rfl<;>rfl
 have q7:(K==7)=false:=by rcases hK with rfl|rfl<;>rfl
 have q8:(K==8)=false:=by rcases hK with rfl|rfl<;>rfl
 have Z:=aa E;have c8:=aa c1;have d5:=aa B;have d8:=aa b7;have HA:=aa hA;have U:=aa c6;obtain⟨i0,hi,b8,c2,b3⟩:=zz lM;go_enter func30,ntmps30;go_upto_region 1 with fail;rw[d8.out];generalize hS:w.heap.size=S at *;go_wp2_with fail
 go_loopw [9,10] (λov iv wr=>∃(i:Nat) (x:List Tm) (G:List Value),iv=Vi i/\i<=l.length/\wr.ownsRow p.heap.size 58 6 ov x.length G/\aO wr (λg=>(A g\/p.heap.size<=g)/\ov.ownBlock≠some g) x G/\dj c (l.take i) x/\Bw p wr) (λ_ iv _=>l.length-(intOf iv).toNat)
 case atStart=>exact⟨0,[],[],rfl,zW _,zZ _ _ _ _,rfl,trivial,zE _ _⟩
 case round=>
  obtain⟨i,x,G,rfl,e7,k,D,r,a⟩:=hrel;obtain⟨z,o,rfl⟩:=cd k;have HO:=aa k;have HU:=aa D;have X:=aa r;have y:=aa a;have a8:p.heap.size<=wr.heap.size:=a.size;have i1:(0:Int)<=(i:Int):=zK _;have a2:wr.cell? (aD S 2)=some (.slice lo l.length lc):=(Z.below a).cell 2;have f7:wr.cell? (aD S 0)=some (Vi K):=(Z.below a).cell 0;have f6:S<wr.heap.size:=(Z.below a).lt;by_cases d7:i<l.length
  ·have i2:(i:Int)<(l.length:Int):=by omega
   obtain⟨t,ht⟩:∃t,l[i]?=some t:=⟨_,zB d7⟩;have e0:Hid (l.take (i+1)=l.take i++[t]):=by show _=_;rw[zi,ht];rfl
   obtain⟨b,e8,d,rfl,N,hv,hc⟩:=HR.out.get HL.out ht;obtain⟨g4,e5,g0,e9,e2,f9,mx,nx,sx,rfl,_⟩:=hv.form;obtain⟨y0,y1,y2,y3,y4,y5⟩:=oT y.out N hc;have f8:b<wr.heap.size:=zF N a8;have HC:=aa (d4 i t wr _ _ _ _ _ _ _ _ _ ht y hv);go_wp2_with fail;refine HC.mono ?_;rintro e w5 ⟨t5,W,P,R,a6,a7,M,m5,n5,s5,rfl,c3,c5,F⟩;obtain⟨U3,c4,q,a3,-⟩:=dS (rfl:w5.heap.size=_) (TC t5.kind W P R a6 a7 M m5 n5 s5) 58;replace a3:=aa a3;have d6:=aa c4;have b2:=aa (bg (bg HO F) q);have J:Hid (Bw wr U3):=F.trans (q.mono F.size);have a1:Hid (Bw p U3):=y.trans (J.mono a8);have d0:=aa (aj.below q _ _ c3);have c7:=aa c5;have e1:x.length<=2000000:=by have:=X.len;rw[yn]at this;omega
   go_wp2_with (at_builtin;rw[d6.out];refine jg rfl (.tmp 96) (.tmp 104) 56 58 i0 _ 6 88 rfl underlying56 hi b8 c2 b3 rfl (by decide) p.heap.size x.length _ _ rfl b2 _ 1 _ (TC t5.kind W P R a6 a7 M m5 n5 s5) rfl rfl (by decide) (λj u hj=>by rw[zl,zf,a3.out.cell];exact hj) (sD _ _ _ _ _ _ _ _ _ _) (by unfold maxLen;omega) (by omega) a1.size ?_;intro v4 w4 C H I;have HF:=aa (c9.intro C (c9.intro H I)))
   go_roundw
   case rel=>
    refine⟨i+1,x++[t5],G++TC t5.kind W P R a6 a7 M m5 n5 s5,by go_num,by omega,by simpa using HF.1,?_,by rw[e0.out];exact X.snoc c7,cD a1 a1.size b2 HF.2.1⟩;exact CK HF.2.1 HF.2.2 J HU d0 (λg e=>HO.lt g e) (λg h=>by have:=HA.out g h;have:=U.out;omega) a8
   case measure=>simp[intOf];omega
  ·have i2:decide ((i:Int)<(l.length:Int))=false:=zI (by omega);obtain rfl:i=l.length:=by omega
   have d2:=aa (b0 wr z o x G y HO (aO.mono (λg _ h=>h.1) _ _ HU) (by have:=X.out;rwa [zQ]at this));go_wp2_with fail;refine d2.mono ?_;rintro e w3 ⟨t3,b6,b1,b9,a9,b5,c0,m3,n3,s3,rfl,d1,d9,q⟩;have L:=(c8.below y).below q;obtain⟨r0,r1,r2,r3,r4,r5⟩:=L.six;obtain⟨f0,f1,f2,f3,f4,f5,e3⟩:=L.ice;have d3:Hid (Below S w w3):=(d5.trans (y.mono (by have:=U.out;omega))).trans (q.mono (by have:=U.out;omega));go_wp2_with fail;refine zN (v:=.agg #[Vi (Tm.kind t3),.slice b6 b1 b9,.slice a9 b5 c0,Vi m3,Vi n3,.string s3]) (by simp[results,results30,go_sem,r0,r1,r2,r3,r4,r5]) rfl ⟨t3,b6,b1,b9,a9,b5,c0,m3,n3,s3,rfl,?_,d9,?_⟩
   ·rw[hS];exact aj.mono (λg _ f=>by rcases f with f|f;exact .inl f;exact .inr (by omega)) _ _ (dP d1 (λg h=>by have:=HA.out g h;omega) _ _ _ _ _ _)
   ·rw[hS];exact bC d3 _ _ _ _ _ _
theorem fB (h:Bw a w')(o:Obj):Bw a (w'.alloc o):=h.alloc h.size o
theorem OB (h:Bw a w')(o:Obj):Bw a (w'.alloc o).drew:=(h.alloc h.size o).drew
theorem wy {w6:World}{Z X s5 Y ka:Nat}{t6:Tm}(h:aj w6 (λg=>(A g\/(X<g/\g<s5))\/(Y<g/\g<w6.heap.size)) t6 cs)(hX:Z<=X)(hY:Z<=Y)(hA:∀g,A g->g<Z)(hk:Z<=ka)(h1:ka<=X\/s5<=ka)(h2:ka<=Y\/w6.heap.size<=ka):aj w6 (λg=>(A g\/Z<=g)/\g≠ka) t6 cs:=by
 refine aj.mono (λg a h=>?_) _ _ h;rcases h with (h|h)|h
 ·have:=hA g h;exact⟨.inl h,by omega⟩
 ·exact⟨.inr (by omega),by omega⟩
 ·exact⟨.inr (by omega),by omega⟩
theorem bL {b c:World}(h:Bw a b)(k:Bw b c):Bw a c:=h.trans (k.mono h.size)
theorem OC {p q:Tm}{soy:OA}{sny scy:Nat}{loy:OA}{lny lcy:Nat}{my ny:Int}{sy:ByteArray}(c:Int)(hA:∀g,A g->g<w.heap.size)(ip:qF p)(iq:qF q)(pk:p.Ok)(qk:q.Ok)(hpl:place c)(hz:(p.z+q.z)*(p.tl+q.tl+12)<=3000000000000000000)(hz2:bz (p.z+q.z)<=2000000000000)(hbl:b<w.heap.size)(hrow:∀j v,(TC p.kind sox snx scx lox lnx lcx mx nx sx++TC q.kind soy sny scy loy lny lcy my ny sy)[j]?=some v->w.cell? ⟨b,off+j,none⟩=some v)(hp:aj w A p (TC p.kind sox snx scx lox lnx lcx mx nx sx))(hq:aj w A q (TC q.kind soy sny scy loy lny lcy my ny sy)):Calls prog 30 #[.agg #[Vi 4,Vz,.slice (some (aD b off)) 2 lc,Vi 0,Vi 0,.string s],Vi c] w (eH w A (Gd (aX (aJ p.L q.L) (back c)) (bz (p.z+q.z)) ((p.z+q.z)*(p.tl+q.tl+12)))):=by
 obtain⟨d,g8,G,c4,f9,e1⟩:=jK (rfl:w.heap.size=_) (TC 4 none 0 0 (some (aD b off)) 2 lc 0 0 s) 58 TZ 58;have a0:d.cell? (aD w.heap.size 0)=some (Vi 4):=c4.cell 0;have i0:d.cell? (aD w.heap.size 2)=some (.slice (some (aD b off)) 2 lc):=c4.cell 2;have d2:=c4.lt;have b7:b<d.heap.size:=zF hbl G.size;obtain⟨m0,i3,i1,n1,n3,j0⟩:=oT G hbl (CT.fst hrow);obtain⟨j1,j5,k7,i7,l9,i5⟩:=oT G hbl (CT.snd hrow);have l4:=YD (ta:=p.tl) (tb:=q.tl) (fE p) (fE q);have m4:=Xq (zb:=q.z) (fE p);have F:Hid (∀a,Bw d a->(Bw d a/\a.cell? (aD w.heap.size 2)=some (.slice (some (aD b off)) 2 lc)/\CT a b off p.kind sox snx scx lox lnx lcx mx nx sx/\CT a b (off+6) q.kind soy sny scy loy lny lcy my ny sy)):=λa h=>⟨h,(h.cell (p:=(aD w.heap.size 2)) d2).trans i0,CT.below h b7 ⟨m0,i3,i1,n1,n3,j0⟩,CT.below h b7 ⟨j1,j5,k7,i7,l9,i5⟩⟩;have HL:Hid (∀a,Bw d a->Calls prog 30 #[.agg #[Vi p.kind,.slice sox snx scx,.slice lox lnx lcx,Vi mx,Vi nx,.string sx],Vi c] a λe i=>∃t R K N lo P lc m n s,e=.returned (.agg #[Vi (Tm.kind t),.slice R K N,.slice lo P lc,Vi m,Vi n,.string s])/\aj i (λg=>A g\/(a.heap.size<g/\g<i.heap.size)) t (TC t.kind R K N lo P lc m n s)/\Gd (aX p.L (back c)) (bz p.z) (p.z*p.tl) t/\Bw a i/\Bw d i):=λa h=>by
  refine (ip a A _ _ _ _ _ _ _ _ _ c (λg f=>by have h1:=hA g f;have h2:=G.size;have h3:=h.size;omega) (aj.below h _ _ (aj.below G _ _ hp)) pk hpl (by omega) (by omega)).mono ?_;rintro e i ⟨t,R,K,N,lo,P,lc,m,n,s,rfl,g1,g2,g3⟩;exact⟨t,R,K,N,lo,P,lc,m,n,s,rfl,aj.mono (λg f h=>by rcases h with h|h;exact .inl h;exact .inr ⟨h,f⟩) _ _ g1,g2,g3,bL h g3⟩
 have HP:Hid (∀(i a:World) (X:Nat) (t5:Tm) (c3:Option Addr) (b6 b8:Nat) (b5:Option Addr) (c1 c0:Nat) (m5 n5:Int) (s5:ByteArray),Bw d a->Bw i a->aj i (λg=>A g\/(X<g/\g<i.heap.size)) t5 (TC t5.kind c3 b6 b8 b5 c1 c0 m5 n5 s5)->Gd (aX p.L (back c)) (bz p.z) (p.z*p.tl) t5 ->
   Calls prog 38 #[.agg #[Vi t5.kind,.slice c3 b6 b8,.slice b5 c1 c0,Vi m5,Vi n5,.string s5],.agg #[Vi q.kind,.slice soy sny scy,.slice loy lny lcy,Vi my,Vi ny,.string sy]] a λe T=>∃t R K N lo P lc m n s,e=.returned (.agg #[Vi (Tm.kind t),.slice R K N,.slice lo P lc,Vi m,Vi n,.string s])/\aj T (λg=>(A g\/(X<g/\g<i.heap.size))\/(a.heap.size<g/\g<T.heap.size)) t (TC t.kind R K N lo P lc m n s)/\Gd (aJ (aX p.L (back c)) q.L) (bz p.z+q.z) (p.z*p.tl+q.tl+12) t/\Bw a T/\Bw d T):=λi a X t5 c3 b6 b8 b5 c1 c0 m5 n5 s5 h h5 c2 a6=>by
  have h1:=a6.z;have h2:=a6.tl;have h3:=h5.size;have h4:=h.size;have h6:=G.size;refine (nY t5 a (λg=>A g\/(X<g/\g<i.heap.size)) q _ _ _ _ _ _ _ _ _ _ _ _ _ _ _ _ _ _ (λg f=>by rcases f with f|f;have:=hA g f;omega;omega) (aj.below h5 _ _ c2) (aj.mono (λg _ f=>.inl f) _ _ (aj.below h _ _ (aj.below G _ _ hq))) a6.ok qk (by omega)).mono ?_;rintro e T ⟨t,R,K,N,lo,P,lc,m,n,s,rfl,g1,g2,g3⟩;exact⟨t,R,K,N,lo,P,lc,m,n,s,rfl,aj.mono (λg f h=>by rcases h with h|h;exact .inl h;exact .inr ⟨h,f⟩) _ _ g1,⟨g2.ok,by rw[g2.lg,a6.lg],by have:=g2.z;omega,by have:=g2.tl;omega⟩,g3,bL h g3⟩
 have m7:Hid (∀a,Bw d a->Calls prog 29 #[.agg #[Vi p.kind,.slice sox snx scx,.slice lox lnx lcx,Vi mx,Vi nx,.string sx]] a λe C=>∃v:Bool,e=.returned (.bool v)/\(v=true↔p.L [])/\Bw a C):=λa h=>iR p a A _ _ _ _ _ _ _ _ _ (aj.below h _ _ (aj.below G _ _ hp)) pk (by have h1:=fE p;have h2:1*p.tl<=p.z*p.tl:=zn _ h1;omega);have j6:Hid (∀D,¬p.L []->Gd (aJ (aX p.L (back c)) q.L) (bz p.z+q.z) (p.z*p.tl+q.tl+12) D->Gd (aX (aJ p.L q.L) (back c)) (bz (p.z+q.z)) ((p.z+q.z)*(p.tl+q.tl+12)) D):=λD hn h=>⟨h.ok,by rw[h.lg,rK,zR hn],by have:=h.z;omega,by have:=h.tl;omega⟩;have j4:Hid (∀a,Bw d a->Calls prog 30 #[.agg #[Vi q.kind,.slice soy sny scy,.slice loy lny lcy,Vi my,Vi ny,.string sy],Vi c] a λe i=>∃t R K N lo P lc m n s,e=.returned (.agg #[Vi (Tm.kind t),.slice R K N,.slice lo P lc,Vi m,Vi n,.string s])/\aj i (λg=>A g\/(a.heap.size<g/\g<i.heap.size)) t (TC t.kind R K N lo P lc m n s)/\Gd (aX q.L (back c)) (bz q.z) (q.z*q.tl) t/\Bw a i/\Bw d i):=λa h=>by
  refine (iq a A _ _ _ _ _ _ _ _ _ c (λg f=>by have h1:=hA g f;have h2:=G.size;have h3:=h.size;omega) (aj.below h _ _ (aj.below G _ _ hq)) qk hpl (by omega) (by omega)).mono ?_;rintro e i ⟨t,R,K,N,lo,P,lc,m,n,s,rfl,g1,g2,g3⟩;exact⟨t,R,K,N,lo,P,lc,m,n,s,rfl,aj.mono (λg f h=>by rcases h with h|h;exact .inl h;exact .inr ⟨h,f⟩) _ _ g1,g2,g3,bL h g3⟩
 have k6:Hid (∀(C:World) (D:Tm) (B:Option Addr) (y o:Nat) (x:Option Addr) (r z:Nat) (M Q:Int) (L:ByteArray) (E:Nat),p.L []->aj C (λg=>(A g\/d.heap.size<=g)/\g≠E) D (TC D.kind B y o x r z M Q L)->Gd (aJ (aX p.L (back c)) q.L) (bz p.z+q.z) (p.z*p.tl+q.tl+12) D->Bw d C ->
   ∀(w8:World) (t8:Tm) (U:Option Addr) (Z Y:Nat) (a5:Option Addr) (a3 a8:Nat) (m8 n8:Int) (s8:ByteArray),Bw C w8->aj w8 (λg=>A g\/(C.drew.heap.size<g/\g<w8.heap.size)) t8 (TC t8.kind U Z Y a5 a3 a8 m8 n8 s8)->Gd (aX q.L (back c)) (bz q.z) (q.z*q.tl) t8 ->
   Calls prog 34 #[Vs w8.heap.size 2 2,Vi 5] (w8.alloc (.cells #[Vi D.kind,.slice B y o,.slice x r z,Vi M,Vi Q,.string L,Vi t8.kind,.slice U Z Y,.slice a5 a3 a8,Vi m8,Vi n8,.string s8] 58)) λe w9=>∃t R K N lo P lc m n s,e=.returned (.agg #[Vi (Tm.kind t),.slice R K N,.slice lo P lc,Vi m,Vi n,.string s])/\Hid (aj w9 (λg=>A g\/w.heap.size+1<g) t (TC t.kind R K N lo P lc m n s))/\Hid (Gd (aX (aJ p.L q.L) (back c)) (bz (p.z+q.z)) ((p.z+q.z)*(p.tl+q.tl+12)) t)/\Bw C w9):=λC D B y o x r z M Q L E hy c5 W b1 w8 t8 U Z Y a5 a3 a8 m8 n8 s8 b0 c6 a7=>by
  obtain⟨W9,d6,a9,-,-⟩:=dS (rfl:w8.heap.size=_) (TC D.kind B y o x r z M Q L++TC t8.kind U Z Y a5 a3 a8 m8 n8 s8) 58;have g5:=nP w8 (TC D.kind B y o x r z M Q L++TC t8.kind U Z Y a5 a3 a8 m8 n8 s8) 58;rw[d6]at g5;have s1:=b1.size;have s2:=b0.size;have s3:=a9.size;have z6:=W.z;have l6:=W.tl;have z8:=a7.z;have l8:=a7.tl;have o2:C.drew.heap.size=C.heap.size:=rfl;have j2:aO W9 (λg=>(A g\/d.heap.size<=g)/\g<W9.heap.size) [D,t8] (TC D.kind B y o x r z M Q L++TC t8.kind U Z Y a5 a3 a8 m8 n8 s8):=aO.append (l:=[D]) (aO.one (aj.mono (λg f h=>⟨h.1,f⟩) _ _ (aj.below a9 _ _ (aj.below b0 _ _ c5)))) (aO.one (aj.mono (λg f h=>⟨by rcases h with h|h;exact .inl h;exact .inr (by omega),f⟩) _ _ (aj.below a9 _ _ c6)));have hc:=sT (.inl rfl) (lo:=some (aD w8.heap.size 0)) (lc:=2) (λg f=>f.2) (g5.mono (λg f h=>⟨.inr (by omega),f⟩)) j2 ⟨W.ok,a7.ok,trivial⟩ (by simp) (by simp only[bw];omega) (by simp only[bd];omega);rw[<-d6]at hc;refine Calls.mono hc ?_;rintro e w9 ⟨t,R,K,N,lo,P,lc,m,n,s,rfl,g1,g2,g3⟩;rw[d6]at g1 g3;refine⟨t,R,K,N,lo,P,lc,m,n,s,rfl,?_,⟨g2.ok,?_,?_,?_⟩,(b0.trans (a9.mono s2)).trans (g3.mono (by omega))⟩
  ·exact aj.mono (λg _ f=>by rcases f with⟨f|f,_⟩|f;exact .inl f;exact .inr (by omega);exact .inr (by omega)) _ _ g1
  ·funext u;rw[rK,zX hy];refine propext ((g2.or rfl u).trans ?_);simp only[kI,or_false];rw[W.lg,a7.lg];rfl
  ·have:=g2.z;simp only[bd]at this;have:=Bk (fE p);omega
  ·have:=g2.tl;simp only[bw]at this;omega
 have i4:Hid (∀i T:World,Below (d.alloc (.cells #[Vi 0,Vz,Vz,Vi 0,Vi 0,.string ⟨#[]⟩] 58)).drew.heap.size (d.alloc (.cells #[Vi 0,Vz,Vz,Vi 0,Vi 0,.string ⟨#[]⟩] 58)).drew i->Bw i T->ag T d.heap.size TZ 58):=λi T h1 h2=>by
  have h3:=ag.new d TZ 58;exact (h3.below (ku h1)).below h2
 have l1:Hid (∀(i:World) (E:Nat),i.heap.size=E->Bw d i->d.heap.size<=E):=λi E e h=>by rw[<-e];exact h.size
 have i8:Hid (∀i:World,∃E:Nat,i.heap.size=E):=λi=>⟨_,rfl⟩;have i9:Hid (∀(i T:World) (E:Nat),i.heap.size=E->Below (i.alloc (.cells #[Vi 0,Vz,Vz,Vi 0,Vi 0,.string ⟨#[]⟩] 58)).heap.size (i.alloc (.cells #[Vi 0,Vz,Vz,Vi 0,Vi 0,.string ⟨#[]⟩] 58)) T->ag T E TZ 58):=λi T E e h1=>by
  subst e;have h3:=ag.new i TZ 58;exact h3.below h1
 have g0:=aa f9;have e4:=aa G;have l2:=aa g8;have HA:=aa hA;have b4:=aa e1;have j3:Hid (∀(C a:World),Bw d C->Bw C a->ag a (w.heap.size+1) TZ 58):=λC a h k=>g0.below (bL h k);have c7:Hid (∀g,A g->g<d.heap.size):=λg h=>by have:=hA g h;omega
 go_enter func30,ntmps30;go_upto_region 1 with fail;rw[l2.out];generalize hS:w.heap.size=S at *;go_upto_region 18 with fail
 go_cut [7] (λv wx=>∃(E:Nat) (D:Tm) (B:Option Addr) (y o:Nat) (x:Option Addr) (r z:Nat) (M Q:Int) (L:ByteArray),v=Vp E/\Hid (ag wx E (TC D.kind B y o x r z M Q L) 58/\d.heap.size<=E/\aj wx (λg=>(A g\/d.heap.size<=g)/\g≠E) D (TC D.kind B y o x r z M Q L)/\Gd (aJ (aX p.L (back c)) q.L) (bz p.z+q.z) (p.z*p.tl+q.tl+12) D/\Bw d wx))
 case first=>
  have d0:=aa (F d.drew (jw d))
  go_region_held3 (λa=>Bw d a/\a.cell? (aD S 2)=some (.slice (some (aD b off)) 2 lc)/\CT a b off p.kind sox snx scx lox lnx lcx mx nx sx/\CT a b (off+6) q.kind soy sny scy loy lny lcy my ny sy)
   (first|with_reducible exact d0.out|with_reducible exact F.out _ a1.out|with_reducible exact F.out _ I.out|with_reducible exact F.out _ (fB I.out _)|with_reducible exact F.out _ (fB a1.out _)|with_reducible exact F.out _ (fB I.out _)|with_reducible exact F.out _ (fV I.out (zA _) _ _ _ _ _ _)|with_reducible exact F.out _ (fV I.out b9.out _ _ _ _ _ _)|with_reducible exact F.out _ (OB (zE _ _) _)|fail)
   (first
    |(go_at_call 30;with_reducible refine (HL.out _ (‹Bw d _/\_›.1)).mono ?_;rintro e i ⟨t5,c3,b6,b8,b5,c1,c0,m5,n5,s5,rfl,c2,a6,f6,h7⟩;have a1:=aa h7;have l3:=aa c2;have n2:=aa a6;have l5:=aa f6)
    |(go_at_call 38;with_reducible refine (HP.out i _ _ t5 _ _ _ _ _ _ _ _ _ (‹Bw d _/\_›.1) (by first|with_reducible exact zE _ _|with_reducible exact fB (zE _ _) _) l3.out n2.out).mono ?_;rintro e T ⟨D,B,y,o,x,r,z,M,Q,L,rfl,c5,W,e3,g4⟩;have I:=aa g4;have d1:=aa c5;have d7:=aa W;have d9:=aa e3;(first|(with_reducible have O:=i4.out _ _ l5.out d9.out;obtain⟨r0,r1,r2,r3,r4,r5⟩:=O.six;obtain⟨f0,f1,f2,f3,f4,f5,c9⟩:=O.ice;have d3:=aa O)|(obtain⟨E,b3⟩:=i8.out i;with_reducible have O:=i9.out _ _ E b3 d9.out;obtain⟨r0,r1,r2,r3,r4,r5⟩:=O.six;obtain⟨f0,f1,f2,f3,f4,f5,c9⟩:=O.ice;have d3:=aa O;rw[b3];have b9:=aa (l1 _ _ b3 a1);have g9:=aa b3;skip)|skip))
    |fail)
  ·go_wp2_with fail
   go_meet
   case rel=>exact⟨T.heap.size,D,B,y,o,x,r,z,M,Q,L,rfl,ag.new T (TC D.kind B y o x r z M Q L) 58,I.size,aj.below (fB (zE _ _) _) _ _ (wy d1 (zA d.heap.size) a1.size c7 I.size (.inr d9.size) (.inr (zA _))),d7,fB I _⟩
  ·go_wp2_with fail
   go_meet
   case rel=>exact⟨E,D,B,y,o,x,r,z,M,Q,L,rfl,d3.sixS _ _ _ _ _ _,b9,gR (wy d1 (zA d.heap.size) (by have:=a1.size;simp;omega) c7 b9 (.inr (by rw[g9.out];exact zA _)) (.inl (by have:=g9.out;simp;omega))) (λh=>h.2 rfl) _ _ _ _ _ _,d7,fV I b9 _ _ _ _ _ _⟩
  ·go_wp2_with fail
   go_meet
   case rel=>exact⟨d.heap.size,D,B,y,o,x,r,z,M,Q,L,rfl,d3.sixS _ _ _ _ _ _,zA _,gR (wy d1 (by show d.heap.size<=(d.alloc _).heap.size;simp) a1.size c7 (zA _) (.inl (by show d.heap.size<=(d.alloc _).heap.size;simp)) (.inl a1.size)) (λh=>h.2 rfl) _ _ _ _ _ _,d7,fV I (zA _) _ _ _ _ _ _⟩
 case rest=>
  obtain⟨E,D,B,y,o,x,r,z,M,Q,L,rfl,J⟩:=hcut;have a4:Bw d wc:=J.2.2.2.2;have a2:wc.cell? (aD S 2)=some (.slice (some (aD b off)) 2 lc):=(F wc a4).2.1;obtain⟨x0,x1,x2,x3,x4,x5⟩:=(F.out wc a4).2.2.1;have j7:b<wc.heap.size:=zF b7 a4.size;have k9:S<wc.heap.size:=zF d2 a4.size;have e9:=aa (m7 wc a4);have n0:=aa a4;go_wp2_with fail;refine e9.mono ?_;rintro e C ⟨v,rfl,g6,b1⟩;have e8:=aa g6;have H:Hid (Bw d C):=bL n0 b1;have d4:=aa (J.1.below b1);have f7:=aa (aj.below b1 _ _ J.2.2.1);have n7:b<C.heap.size:=zF b7 H.size;have o1:S<C.heap.size:=zF d2 H.size;have f8:E<C.heap.size:=d4.lt;have o0:S+1<E:=by have:=J.2.1;have:=b4.out;omega
  have n4:b<S:=hbl;cases v with
  |false=>
   have k8:Hid (¬p.L []):=λh=>by have:=e8.2 h;cases this
   obtain⟨k0,k1,k2,k3,k4,k5⟩:=d4.out.six;have d8:=g0.below H;obtain⟨r0,r1,r2,r3,r4,r5⟩:=d8.six;obtain⟨f0,f1,f2,f3,f4,f5,c9⟩:=d8.ice;go_wp2_with fail;refine zN (v:=.agg #[Vi (Tm.kind D),.slice B y o,.slice x r z,Vi M,Vi Q,.string L]) (by simp[results,results30,go_sem,r0,r1,r2,r3,r4,r5]) rfl ⟨D,B,y,o,x,r,z,M,Q,L,rfl,?_,j6 D k8 J.2.2.2.1,?_⟩
   ·rw[hS];exact aj.mono (λg _ f=>by rcases f with⟨f|f,_⟩;exact .inl f;exact .inr (by have:=b4.out;omega)) _ _ (gR f7 (λh=>by rcases h with⟨h|h,_⟩;have:=HA.out _ h;omega;have:=b4.out;omega) _ _ _ _ _ _)
   ·rw[hS];exact bC (e4.trans (H.mono (by have:=b4.out;omega))) _ _ _ _ _ _
  |true=>
   have e5:Hid (p.L []):=e8.1 rfl;obtain⟨k0,k1,k2,k3,k4,k5⟩:=d4.out.six;have V:Hid (∀a,Bw C a->(Bw C a/\a.cell? (aD S 2)=some (.slice (some (aD b off)) 2 lc)/\CB a E D.kind B y o x r z M Q L/\CT a b (off+6) q.kind soy sny scy loy lny lcy my ny sy)):=λa h=>⟨h,(F a (bL H h)).2.1,CB.below h f8 ⟨k0,k1,k2,k3,k4,k5⟩,(F a (bL H h)).2.2.2⟩;have h0:=aa (k6 C D _ _ _ _ _ _ _ _ _ E e5 f7 J.2.2.2.1 H);have m3:S+1≠S:=by omega
   have i6:S+1≠b:=by omega
   have i2:S+1≠E:=by omega
   have d0:=aa (V C.drew (jw C));have l0:=aa (j4 C.drew (bL H (jw C)));go_wp2_with fail
   go_region_held3 (λa=>a.cell? (aD S 2)=some (.slice (some (aD b off)) 2 lc)/\CB a E D.kind B y o x r z M Q L/\CT a b (off+6) q.kind soy sny scy loy lny lcy my ny sy)
    (first|with_reducible exact d0.out.2|with_reducible exact (V.out _ c8.out).2|with_reducible exact (V.out _ (fB c8.out _)).2|with_reducible exact (V.out _ b2.out).2|with_reducible exact⟨JK m3 (V.out _ b2.out).2.1,CB.far i2 (V.out _ b2.out).2.2.1,CT.far i6 (V.out _ b2.out).2.2.2⟩|fail)
    (first
     |(go_at_call 30;with_reducible refine l0.out.mono ?_;rintro e w8 ⟨t8,U,Z,Y,a5,a3,a8,m8,n8,s8,rfl,c6,a7,b0,j9⟩;have c8:=aa (ku b0);have l7:=aa c6;have m1:=aa a7)
     |(go_at_call 34;with_reducible refine (h0.out w8 t8 _ _ _ _ _ _ _ _ _ c8.out l7.out m1.out).mono ?_;rintro e w9 ⟨t9,h8,e2,e7,e0,e6,g7,m9,n9,s9,rfl,m2,j8,h9⟩;have b2:=aa h9;have d5:=j3.out _ _ H b2;obtain⟨r0,r1,r2,r3,r4,r5⟩:=d5.six;obtain⟨f0,f1,f2,f3,f4,f5,c9⟩:=d5.ice)
     |fail)
   go_wp2_with fail;refine zN (v:=.agg #[Vi (Tm.kind t9),.slice h8 e2 e7,.slice e0 e6 g7,Vi m9,Vi n9,.string s9]) (by simp[results,results30,go_sem,r0,r1,r2,r3,r4,r5]) rfl ⟨t9,h8,e2,e7,e0,e6,g7,m9,n9,s9,rfl,?_,j8,?_⟩
   ·rw[hS];exact aj.mono (λg _ f=>by rcases f with f|f;exact .inl f;exact .inr (by omega)) _ _ (dP m2 (λg h=>by have:=HA.out g h;omega) _ _ _ _ _ _)
   ·rw[hS];exact bC (e4.trans ((bL H b2).mono (by have:=b4.out;omega))) _ _ _ _ _ _
theorem Ac {p:Tm}(c:Int)(hA:∀g,A g->g<w.heap.size)(ip:qF p)(pk:p.Ok)(hpl:place c)(hm0:0<=m)(hm5:m<=5)(hn:n=-1\/(0<n/\m<=n/\n<=5))(hz:(p.z+1)*(p.tl+12)<=3000000000000000000)(hz2:bz (p.z+1)<=2000000000000)(hbl:b<w.heap.size)(hrow:∀j v,(TC p.kind sox snx scx lox lnx lcx mx nx sx)[j]?=some v->w.cell? ⟨b,off+j,none⟩=some v)(hp:aj w A p (TC p.kind sox snx scx lox lnx lcx mx nx sx)):Calls prog 30 #[.agg #[Vi 8,Vz,.slice (some (aD b off)) 1 lc,Vi m,Vi n,.string s],Vi c] w (eH w A (Gd (aX (dB p.L m n) (back c)) (bz (p.z+1)) ((p.z+1)*(p.tl+12)))):=by
 obtain⟨a,b0,l,E,b5,c0⟩:=jK (rfl:w.heap.size=_) (TC 8 none 0 0 (some (aD b off)) 1 lc m n s) 58 TZ 58;have a0:a.cell? (aD w.heap.size 0)=some (Vi 8):=E.cell 0;have b6:a.cell? (aD w.heap.size 2)=some (.slice (some (aD b off)) 1 lc):=E.cell 2;have a6:a.cell? (aD w.heap.size 3)=some (Vi m):=E.cell 3;have d3:a.cell? (aD w.heap.size 4)=some (Vi n):=E.cell 4;have a2:=E.lt;have D:b<a.heap.size:=zF hbl l.size;obtain⟨d8,d9,e3,d4,e6,e5⟩:=oT l hbl hrow;have d5:=Xp (t:=p.tl) (fE p);have e4:=Vu p.z;have d6:1*p.tl<=p.z*p.tl:=zn _ (fE p);have c3:bA m=max (m-1) 0:=by unfold bA;split<;>omega
 have b2:IntKind.i64.wrap (m-1)=m-1:=by rw[IntKind.wrap_i64]<;>omega
 obtain⟨F,hF⟩:∃F,bA n=F:=⟨_,rfl⟩;have b7:(n=-1/\F=-1)\/(0<n/\F=n-1):=by
  rw[<-hF];unfold bA;rcases hn with rfl|h
  ·exact .inl ⟨rfl,rfl⟩
  ·exact .inr ⟨h.1,zX h.1⟩
 have e0:=aa b7;obtain⟨S,q⟩:∃S,w.heap.size=S:=⟨_,rfl⟩;have o:Hid (∀d,Bw a d->(d.cell? (aD S 2)=some (.slice (some (aD b off)) 1 lc)/\d.cell? (aD S 3)=some (Vi m)/\CT d b off p.kind sox snx scx lox lnx lcx mx nx sx)):=λd h=>by
  rw[<-q];exact⟨(h.cell (p:=(aD w.heap.size 2)) a2).trans b6,(h.cell (p:=(aD w.heap.size 3)) a2).trans a6,(h.cell (p:=(aD b off)) D).trans d8,(h.cell (p:=⟨b,off+1,none⟩) D).trans d9,(h.cell (p:=⟨b,off+2,none⟩) D).trans e3,(h.cell (p:=⟨b,off+3,none⟩) D).trans d4,(h.cell (p:=⟨b,off+4,none⟩) D).trans e6,(h.cell (p:=⟨b,off+5,none⟩) D).trans e5⟩
 have HL:Hid (∀d,Bw a d->Calls prog 30 #[.agg #[Vi p.kind,.slice sox snx scx,.slice lox lnx lcx,Vi mx,Vi nx,.string sx],Vi c] d λe X=>∃t x C y z B lc mm nn s,e=.returned (.agg #[Vi (Tm.kind t),.slice x C y,.slice z B lc,Vi mm,Vi nn,.string s])/\aj X (λg=>A g\/a.heap.size<g) t (TC t.kind x C y z B lc mm nn s)/\Gd (aX p.L (back c)) (bz p.z) (p.z*p.tl) t/\Bw d X/\Bw a X):=λd h=>by
  have h9:=h.size;refine (ip d A _ _ _ _ _ _ _ _ _ c (λg f=>by have h1:=hA g f;have h2:=l.size;omega) (aj.below h _ _ (aj.below l _ _ hp)) pk hpl (by omega) (by omega)).mono ?_;rintro e X ⟨t,x,C,y,z,B,lc,m,n,s,rfl,g1,g2,g3⟩;exact⟨t,x,C,y,z,B,lc,m,n,s,rfl,aj.mono (λg f h=>by rcases h with h|h;exact .inl h;exact .inr (by omega)) _ _ g1,g2,g3,bL h g3⟩
 have HT:Hid (∀d,Bw a d->Calls prog 36 #[.agg #[Vi p.kind,.slice sox snx scx,.slice lox lnx lcx,Vi mx,Vi nx,.string sx],Vi (max (IntKind.i64.wrap (m-1)) 0),Vi F] d λe X=>∃t x C y z B lc mm nn s,e=.returned (.agg #[Vi (Tm.kind t),.slice x C y,.slice z B lc,Vi mm,Vi nn,.string s])/\aj X (λg=>A g\/a.heap.size<g) t (TC t.kind x C y z B lc mm nn s)/\Gd (dB p.L (max (m-1) 0) F) (p.z+1) (p.tl+12) t/\Bw d X/\Bw a X):=λd h=>by
  have h9:=h.size;rw[b2];refine (Cy (A:=A) (max (m-1) 0) F (λg f=>by have h1:=hA g f;have h2:=l.size;omega) (by omega) (by omega) (by omega) (aj.below h _ _ (aj.below l _ _ hp)) pk (by omega)).mono ?_;rintro e X ⟨t,x,C,y,z,B,lc,m',n',s,rfl,g1,g2,g3⟩;exact⟨t,x,C,y,z,B,lc,m',n',s,rfl,aj.mono (λg f h=>by rcases h with h|h;exact .inl h;exact .inr (by omega)) _ _ g1,g2,g3,bL h g3⟩
 have HP:Hid (∀(d:World) (Y:Tm) (H:Option Addr) (U I:Nat) (Q:Option Addr) (P V:Nat) (ma na:Int) (sa:ByteArray) (Z:Tm) (L:Option Addr) (T J:Nat) (N:Option Addr) (K R:Nat) (mb nb:Int) (sb:ByteArray),Bw a d->aj d (λg=>A g\/a.heap.size<g) Y (TC Y.kind H U I Q P V ma na sa)->aj d (λg=>A g\/a.heap.size<g) Z (TC Z.kind L T J N K R mb nb sb)->Gd (aX p.L (back c)) (bz p.z) (p.z*p.tl) Y->Gd (dB p.L (max (m-1) 0) F) (p.z+1) (p.tl+12) Z ->
   Calls prog 38 #[.agg #[Vi Y.kind,.slice H U I,.slice Q P V,Vi ma,Vi na,.string sa],.agg #[Vi Z.kind,.slice L T J,.slice N K R,Vi mb,Vi nb,.string sb]] d λe w6=>∃t x C y z B lc mm nn s,e=.returned (.agg #[Vi (Tm.kind t),.slice x C y,.slice z B lc,Vi mm,Vi nn,.string s])/\Hid (aj w6 (λg=>A g\/S+1<g) t (TC t.kind x C y z B lc mm nn s))/\Hid (Gd (aX (dB p.L m n) (back c)) (bz (p.z+1)) ((p.z+1)*(p.tl+12)) t)/\Bw a w6):=λd Y H U I Q P V ma na sa Z L T J N K R mb nb sb h u r i k=>by
  have z1:=i.z;have z2:=i.tl;have z3:=k.z;have z4:=k.tl;refine (nY Y d (λg=>(λg=>A g\/a.heap.size<g) g/\g<d.heap.size) Z _ _ _ _ _ _ _ _ _ _ _ _ _ _ _ _ _ _ (λg f=>f.2) (aj.mono (λg f h=>⟨h,f⟩) _ _ u) (aj.mono (λg f h=>⟨h,f⟩) _ _ r) i.ok k.ok (by omega)).mono ?_;rintro e w6 ⟨t,x,C,y,z,B,lc,m',n',s,rfl,g1,g2,g3⟩;have h9:=h.size;refine⟨t,x,C,y,z,B,lc,m',n',s,rfl,?_,⟨g2.ok,?_,?_,?_⟩,bL h g3⟩
  ·exact aj.mono (λg _ f=>by rcases f with⟨f|f,_⟩|f;exact .inl f;exact .inr (by omega);exact .inr (by omega)) _ _ g1
  ·rw[g2.lg,i.lg,k.lg,GJ hm0 (by omega),c3,hF]
  ·have:=g2.z;omega
  ·have:=g2.tl;omega
 have e9:Hid (ag a (S+1) TZ 58):=by rw[<-q];exact b5
 have d1:Hid (Below S w a):=by rw[<-q];exact l
 have e1:=aa b0;have HA:Hid (∀g,A g->g<S):=by rw[<-q];exact hA
 have e7:Hid (a.heap.size=S+2):=by rw[<-q];exact c0
 have HN:=aa hn;have f6:(0:Int)<=m:=hm0;rw[q]at a0 b6 a6 d3 a2 hbl;go_enter func30,ntmps30;go_upto_region 1 with fail;rw[e1.out]
 try simp only[q]
 go_upto_if 40 with fail
 go_cut [6]from 39 to 42 (λv wx=>v=Vi F/\a=wx)
 case first=>
  rcases e0.out with⟨rfl,rfl⟩|⟨n1,hF⟩
  ·go_wp2_with fail
   go_meet
   exact⟨rfl,rfl⟩
  ·have n5:n<=5:=by have:=HN.out;omega
   go_wp2_with fail
   go_meet
   exact⟨by rw[hF],rfl⟩
 case rest=>
 obtain⟨rfl,rfl⟩:=hcut;have c4:S+1≠S:=by omega
 have c9:S+1≠b:=by omega
 have c8:=aa (o a.drew (jw a));have e2:=aa (HL a.drew (jw a));have c7:=aa (HT a.drew (jw a));go_wp2_with fail
 go_region_held3 (λd=>d.cell? (aD S 2)=some (.slice (some (aD b off)) 1 lc)/\d.cell? (aD S 3)=some (Vi m)/\CT d b off p.kind sox snx scx lox lnx lcx mx nx sx)
  (first|with_reducible exact c8.out|with_reducible exact o.out _ c2.out|with_reducible exact o.out _ c5.out|with_reducible exact o.out _ a4.out|with_reducible exact o.out _ G.out|with_reducible exact⟨JK c4 (o.out _ G.out).1,JK c4 (o.out _ G.out).2.1,CT.far c9 (o.out _ G.out).2.2⟩|fail)
  (first
   |(go_at_call 30;with_reducible refine (HL.out _ c5.out).mono ?_;rintro e wz ⟨Y,H,U,I,Q,P,V,ma,na,sa,rfl,u,i,a1,M⟩;have a5:=aa u;have b9:=aa (aj.below a1 _ _ d7);have b4:=aa i;have a4:=aa M)
   |(go_at_call 36;with_reducible refine (HT.out _ c2.out).mono ?_;rintro e wz ⟨Z,L,T,J,N,K,R,mb,nb,sb,rfl,r,k,W,O⟩;have b9:=aa r;have d2:=aa (aj.below W _ _ a5);have a8:=aa k;have a4:=aa O)
   |(go_at_call 30;with_reducible refine e2.out.mono ?_;rintro e wa ⟨Y,H,U,I,Q,P,V,ma,na,sa,rfl,u,i,a1,M⟩;have a5:=aa u;have b4:=aa i;have c2:=aa M)
   |(go_at_call 36;with_reducible refine c7.out.mono ?_;rintro e wb ⟨Z,L,T,J,N,K,R,mb,nb,sb,rfl,r,k,W,O⟩;have d7:=aa r;have a8:=aa k;have c5:=aa O)
   |(go_at_call 38;with_reducible refine (HP.out _ Y _ _ _ _ _ _ _ _ _ Z _ _ _ _ _ _ _ _ _ a4.out (by first|with_reducible exact d2.out|with_reducible exact a5.out) b9.out b4.out a8.out).mono ?_;rintro e w6 ⟨t6,b3,b1,c1,c6,a9,a7,m6,n6,s6,rfl,e8,d0,b8⟩;have G:=aa b8;have a3:=e9.below G;obtain⟨r0,r1,r2,r3,r4,r5⟩:=a3.six;obtain⟨f0,f1,f2,f3,f4,f5,f7⟩:=a3.ice)
   |fail)
 all_goals go_wp2_with fail
 all_goals refine zN (v:=.agg #[Vi (Tm.kind t6),.slice b3 b1 c1,.slice c6 a9 a7,Vi m6,Vi n6,.string s6]) (by simp[results,results30,go_sem,r0,r1,r2,r3,r4,r5]) rfl ⟨t6,b3,b1,c1,c6,a9,a7,m6,n6,s6,rfl,?_,d0,?_⟩
 all_goals rw[q]
 all_goals first
  |exact bC (d1.trans (G.mono (by have:=e7.out;omega))) _ _ _ _ _ _
  |exact aj.mono (λg _ f=>by rcases f with f|f;exact .inl f;exact .inr (by omega)) _ _ (dP e8 (λg h=>by have:=HA.out g h;omega) _ _ _ _ _ _)
theorem eH.weak {P Q:Tm->Prop}(h:∀t,P t->Q t){e:Ending}(k:eH w A P e w'):eH w A Q e w':=by
 obtain⟨t,f,j,l,g,a,b,m,n,s,e,i,d,c⟩:=k;exact⟨t,f,j,l,g,a,b,m,n,s,e,i,h t d,c⟩
mutual
theorem lH:∀t:Tm,qF t
 |.none=>λw A E G H D F C m n s c _ _ _ _ _ _=>(Mh c).mono λe V h=>h.weak λt B=>by subst B;exact⟨trivial,by rw[Tm.L_none];rfl,zA _,zA _⟩
 |.empty=>λw A E G H D F C m n s c _ _ _ _ _ _=>(If c).mono λe V h=>h.weak λt B=>by subst B;exact⟨trivial,by rw[Tm.L_none,Tm.L_empty,Lj],zA _,zA _⟩
 |.set q=>by
  intro w A E G H D F C m n s c k r d i o g;obtain⟨b4,b6,M,e,N,_⟩:=r;simp only[Tm.kind,TC,zT,zm,zu,yc,yB,yK]at e;obtain⟨⟨rfl,rfl,rfl⟩,⟨rfl,rfl,rfl⟩,rfl,rfl,rfl⟩:=e;have O:=ri d;have e1:bz (Tm.set q).z=1:=(congrArg bz (show (Tm.set q).z=1 by simp[Tm.z])).trans Vt;have Z:(Tm.set q).z*(Tm.set q).tl=12+20*q.length:=by simp[Tm.z,Tm.tl]
  rw[e1,Z];cases hm:memB q c with
  |true=>
   refine (Dv c N.rd (by omega) hm).mono λe V h=>h.weak λt B=>?_;subst B;exact⟨trivial,by rw[EP d i,hm,Tm.L_empty];rfl,zA _,by show 12<=_;omega⟩
  |false=>
   refine (Bz c N.rd (by omega) hm).mono λe V h=>h.weak λt B=>?_;subst B;exact⟨trivial,by rw[EP d i,hm,Tm.L_none];rfl,zA _,by show 12<=_;omega⟩
 |.row a b=>by
  have ha:=lH a;have J:=lH b;intro w A E G H D F C m n s c k r d i o g;obtain⟨x,y,P,ys,M,e,f,hp,N,_⟩:=r;simp only[Tm.kind,TC,zT,zm,zu,yc,yB,yK]at e;obtain⟨⟨rfl,rfl,rfl⟩,⟨rfl,rfl,rfl⟩,rfl,rfl,rfl⟩:=e;obtain⟨U,a8,T,a7,a3,Y,mx,nx,sx,rfl,_⟩:=hp.form;obtain⟨a4,b1,a6,W,b0,S,my,ny,sy,rfl,_⟩:=N.form;obtain⟨b',I,rfl,b5,R,c0⟩:=f 0 _ rfl;have L:∀j v,(TC a.kind U a8 T a7 a3 Y mx nx sx++TC b.kind a4 b1 a6 W b0 S my ny sy)[j]?=some v->w.cell? ⟨b',I+j,none⟩=some v:=λj v hj=>by
   obtain⟨b2,b3,e',_,_,a0⟩:=f j v hj;injection e' with e';injection e' with e1 Z;subst e1 Z;exact a0
  rw[Tm.L_row];exact OC c k ha J d.1 d.2 i o g R L hp N
 |.or l=>by
  have z:=tW l;intro w A E G H D F C m n s c k r d i o g;obtain⟨x,y,P,M,e,f,O,_⟩:=r;simp only[Tm.kind,TC,zT,zm,zu,yc,yB,yK]at e;obtain⟨⟨rfl,rfl,rfl⟩,⟨rfl,rfl,rfl⟩,rfl,rfl,rfl⟩:=e;exact Pe (.inl rfl) c k f O z d.1 d.2 i o g
 |.and l=>by
  have z:=tW l;intro w A E G H D F C m n s c k r d i o g;obtain⟨x,y,P,M,e,f,O,_⟩:=r;simp only[Tm.kind,TC,zT,zm,zu,yc,yB,yK]at e;obtain⟨⟨rfl,rfl,rfl⟩,⟨rfl,rfl,rfl⟩,rfl,rfl,rfl⟩:=e;exact Pe (.inr rfl) c k f O z d.1 d.2 i o g
 |.not u=>by
  have z:=lH u;intro w A E G H D F C m n s c k r d i o g;obtain⟨x,y,P,M,e,f,K,_⟩:=r;simp only[Tm.kind,TC,zT,zm,zu,yc,yB,yK]at e;obtain⟨⟨rfl,rfl,rfl⟩,⟨rfl,rfl,rfl⟩,rfl,rfl,rfl⟩:=e;obtain⟨Q,a5,a2,a9,a1,X,m2,n2,s2,rfl,_⟩:=K.form;obtain⟨b,I,rfl,_,J,L⟩:=f.one;rw[Tm.L_not];exact Pu c k z d i o g J K L
 |.many u p q=>by
  have z:=lH u;intro w A E G H D F C m n s c k r d i o g;obtain⟨x,y,P,M,e,f,K,_⟩:=r;simp only[Tm.kind,TC,zT,zm,zu,yc,yB,yK]at e;obtain⟨⟨rfl,rfl,rfl⟩,⟨rfl,rfl,rfl⟩,rfl,rfl,rfl⟩:=e;obtain⟨Q,a5,a2,a9,a1,X,m2,n2,s2,rfl,_⟩:=K.form;obtain⟨b,I,rfl,_,J,L⟩:=f.one;rw[Tm.L_many];obtain⟨o1,o2,o3,o4⟩:=d;rcases o4 with rfl|o4
  ·exact Ac c k z o1 i o2 o3 (.inl rfl) o g J L K
  ·exact Ac c k z o1 i o2 o3 (.inr o4) o g J L K
theorem tW:∀l:List Tm,∀t∈l,qF t
 | [],t,h=>by simp at h
 |u::l,t,h=>by
  have a:=lH u;have b:=tW l;rcases zO.1 h with rfl|h
  ·exact a
  ·exact b t h
end
theorem pW:∀p:Pat,1<=p.nd
 |.set _=>by simp[Pat.nd]
 |.row l=>by simp[Pat.nd]
 |.or l=>by simp[Pat.nd]
 |.and l=>by simp[Pat.nd]
 |.not p=>by simp[Pat.nd]
 |.many p _ _=>by simp[Pat.nd]
 |.group p=>by simp only[Pat.nd];exact pW p
abbrev fA (p:Pat):Tm->Prop:=Gd p.Mt p.me.z (36*p.nd+20*p.rg-12)
def cL:List Pat->List Tm->Prop
 | [],[]=>True
 |p::l,t::m=>fA p t/\cL l m
 |_,_=>False
theorem cL.snoc {p:Pat}{u:Tm}:∀{l:List Pat} {m:List Tm},cL l m->fA p u->cL (l++[p]) (m++[u])
 | [],[],_,k=>⟨k,trivial⟩
 |_::_,_::_,h,k=>⟨h.1,cL.snoc h.2 k⟩
theorem cL.len:∀{l:List Pat} {m:List Tm},cL l m->m.length=l.length
 | [],[],_=>rfl
 |_::_,_::_,h=>by rw[zG,zG,cL.len h.2]
theorem cL.ok:∀{l:List Pat} {m:List Tm},cL l m->dW m
 | [],[],_=>trivial
 |_::_,_::_,h=>⟨h.1.ok,cL.ok h.2⟩
theorem cL.tl:∀{l:List Pat} {m:List Tm},cL l m->bw m+12*m.length<=36*bH l+20*cr l
 | [],[],_=>zA _
 |p::l,t::m,h=>by
  have a:=h.1.tl;have c:=cL.tl h.2;have b:=pW p;simp only[bw,bH,cr,zG];omega
theorem cL.z:∀{l:List Pat} {m:List Tm},cL l m->bd m<=zL l
 | [],[],_=>zA _
 |p::l,t::m,h=>by
  have a:=h.1.z;have b:=cL.z h.2;have e:zL (p::l)=p.me.z+zL l:=rfl;rw[e];simp only[bd];omega
theorem cL.or {v:LZ}:∀{l:List Pat} {m:List Tm},cL l m->(kI m v↔gy l v)
 | [],[],_=>Iff.rfl
 |p::l,t::m,h=>by
  have a:=h.1.lg;simp only[kI,gy,cL.or h.2];rw[a]
theorem cL.and {v:LZ}:∀{l:List Pat} {m:List Tm},cL l m->(iz m v↔eG l v)
 | [],[],_=>Iff.rfl
 |p::l,t::m,h=>by
  have a:=h.1.lg;simp only[iz,eG,cL.and h.2];rw[a]
theorem cL.at:∀{l:List Pat} {m:List Tm},cL l m->∀{i:Nat} {p:Pat} {t:Tm},l[i]?=some p->m[i]?=some t->fA p t
 | [],[],_,i,p,t,h,_=>by simp at h
 |q::l,u::m,h,0,p,t,h1,h2=>by
  simp at h1 h2;subst h1 h2;exact h.1
 |q::l,u::m,h,i+1,p,t,h1,h2=>cL.at h.2 (i:=i) (by simpa using h1) (by simpa using h2)
mutual
theorem pX:∀t:Tm,t.z<=t.tl
 |.none=>by show 1<=12;omega
 |.empty=>by show 1<=12;omega
 |.set _=>by show 1<=12+_;omega
 |.row a b=>by have c:=pX a;have d:=pX b;show a.z+b.z<=a.tl+b.tl+12;omega
 |.or l=>by have c:=mJ l;show max 1 (bd l)<=bw l+12;omega
 |.and l=>by have c:=mJ l;show max 1 (bd l)<=bw l+12;omega
 |.not t=>by have c:=pX t;show t.z<=t.tl+12;omega
 |.many t _ _=>by have c:=pX t;show t.z+1<=t.tl+12;omega
theorem mJ:∀l:List Tm,bd l<=bw l
 | []=>zA _
 |t::l=>by have a:=pX t;have b:=mJ l;simp only[bd,bw];omega
end
theorem YE (l:List Pat):(Pat.and l).me.z=max 1 (zL l):=by
 have e:sumA (λa:Me=>(bB a).z) (bX l)=zL l:=rfl;simp only[Pat.me,bB,orA,nJ];rw[<-e];rfl
theorem Xr {l:List Pat}{m:List Tm}(h:cL l m)(hg:SomeG 5 m t):fA (.or l) t:=by
 have d:=hg.z;have b:=h.z;have a:=hg.tl;have c:=h.tl;refine⟨hg.ok,?_,?_,?_⟩
 ·funext u;exact propext ((hg.or rfl u).trans h.or)
 ·have e:(Pat.or l).me.z=max 1 (zL l):=rfl;rw[e];omega
 ·simp only[Pat.nd,Pat.rg];omega
theorem Vy {l:List Pat}{m:List Tm}(h:cL l m)(hg:SomeG 6 m t):fA (.and l) t:=by
 have b:=hg.z;have d:=h.z;have c:=hg.tl;have a:=h.tl;refine⟨hg.ok,?_,?_,?_⟩
 ·funext u;exact propext ((hg.and rfl u).trans h.and)
 ·rw[YE];omega
 ·simp only[Pat.nd,Pat.rg];omega
structure RowG (l:List Pat)(t:Tm):Prop where
 ok:t.Ok
 lg:t.L=λu=>jl l u
 z:t.z<=(Pat.row l).me.z
 tl:t.tl<=36*bH l+20*cr l+12
 e:l=[]->t=.empty
theorem RS:RowG [] .empty:=⟨trivial,by rw[Tm.L_empty];rfl,by simp[Tm.z,Pat.me,bX,rwsM,aV],by simp[Tm.tl,bH,cr],λ_=>rfl⟩
theorem ww {v:Tm}(h:fA p t)(hok:v.Ok)(hl:v.L=t.L)(hz:v.z<=t.z)(ht:v.tl<=t.tl):RowG [p] v:=by
 have f:=h.z;have d:=h.tl;refine⟨hok,?_,?_,?_,λe=>by cases e⟩
 ·rw[hl,h.lg];funext u;refine propext ⟨λk=>⟨u,[],by simp,k,rfl⟩,?_⟩;rintro⟨a,b,rfl,k,e⟩;have c:b=[]:=e;subst c;simpa using k
 ·have e:(Pat.row [p]).me.z=p.me.z:=rfl;rw[e];omega
 ·simp only[bH,cr];omega
theorem Oz {l:List Pat}{v:Tm}(hne:l≠[])(h:fA p t)(k:RowG l u)(hg:Gd (aJ t.L u.L) (t.z+u.z) (t.tl+u.tl+12) v):RowG (p::l) v:=by
 have i:=h.z;have c:=h.tl;have a:=k.z;have g:=k.tl;have b:=hg.z;have d:=hg.tl;have f:=pW p;refine⟨hg.ok,?_,?_,?_,λe=>by cases e⟩
 ·rw[hg.lg,h.lg,k.lg];rfl
 ·have e:(Pat.row (p::l)).me.z=p.me.z+(Pat.row l).me.z:=by
   show (rwsM (p.me::bX l)).z=_
   rw[Dd (by rw[im];simpa using hne)];rfl
  rw[e];omega
 ·simp only[bH,cr];omega
theorem VA {l:List Pat}(h:RowG l t):fA (.row l) t:=by
 refine⟨h.ok,h.lg,h.z,?_⟩;have:=h.tl;simp only[Pat.nd,Pat.rg];omega
theorem Xv {l:List Pat}(h:fA p t)(k:RowG l u)(hA:∀g,A g->g<w.heap.size)(hv:aj w A t (TC t.kind soa sna sca loa lna lca ma na sa))(hu:aj w A u (TC u.kind sob snb scb lob lnb lcb mb nb sb))(hb:t.tl+u.tl<=6900000000000000000):Calls prog 38 #[.agg #[Vi t.kind,.slice soa sna sca,.slice loa lna lca,Vi ma,Vi na,.string sa],.agg #[Vi u.kind,.slice sob snb scb,.slice lob lnb lcb,Vi mb,Vi nb,.string sb]] w (eH w A (RowG (p::l))):=by
 cases l with
 |nil=>
  obtain rfl:=k.e rfl;have d:=fE t;have f:=mh t;by_cases c:t.kind=1
  ·refine (qA (A:=A) (.inl c)).mono λe a g=>g.weak λv hv=>?_;subst hv;exact ww h trivial (by rw[rp c]) d f
  ·by_cases b:t.kind=2
   ·refine (Ob (t:=.empty) hA (by simp[Tm.kind]) b rfl hu).mono λe a g=>g.weak λv hv=>?_;subst hv;exact ww h trivial (by rw[rq b]) d f
   ·refine (Et (t:=t) hA c b rfl rfl hv).mono λe a g=>g.weak λv hv=>?_;subst hv;exact ww h h.ok rfl (zA _) (zA _)
 |cons q l=>exact (nY t w A u _ _ _ _ _ _ _ _ _ _ _ _ _ _ _ _ _ _ hA hv hu h.ok k.ok hb).mono λe a g=>g.weak λv hv=>Oz (by simp) h k hv
theorem VB {v:Tm}(h:fA p t)(hg:Gd (fZ t.L) t.z (t.tl+12) v):fA (.not p) v:=by
 have f:=h.z;have c:=h.tl;have a:=hg.z;have d:=hg.tl;have b:=pW p;refine⟨hg.ok,by rw[hg.lg,h.lg];rfl,?_,?_⟩
 ·have e:(Pat.not p).me.z=p.me.z:=rfl;omega
 ·simp only[Pat.nd,Pat.rg];omega
theorem RT {v:Tm}(h:fA p t)(hg:Gd (dB t.L m n) (t.z+1) (t.tl+12) v):fA (.many p m n) v:=by
 have f:=h.z;have c:=h.tl;have a:=hg.z;have d:=hg.tl;have b:=pW p;refine⟨hg.ok,by rw[hg.lg,h.lg];rfl,?_,?_⟩
 ·have e:(Pat.many p m n).me.z=p.me.z+1:=rfl;omega
 ·simp only[Pat.nd,Pat.rg];omega
def Lt (p:Pat):Prop:=∀(w:World) (A:Nat->Prop) (g:Nat) (k:Int) (so:Option Addr) (sn sc:Nat) (lo:Option Addr) (ln lc:Nat) (m n r:Int),NV w A p (bT k so sn sc lo ln lc m n r) g->(∀g,A g->g<w.heap.size)->p.Ok->p.nd<=1000000->p.rg<=100000 ->
 Calls prog 17 #[.agg #[Vi k,.slice so sn sc,.slice lo ln lc,Vi m,Vi n,Vi r]] w (eH w A (fA p))
theorem ur:∀{l:List Pat} {p:Pat},p∈l->p.nd<=bH l
 |q::l,p,h=>by
  simp only[bH];rcases zO.1 h with rfl|h
  ·omega
  ·have:=ur h;omega
theorem Bp:∀{l:List Pat} {p:Pat},p∈l->p.rg<=cr l
 |q::l,p,h=>by
  simp only[cr];rcases zO.1 h with rfl|h
  ·omega
  ·have:=Bp h;omega
theorem Bq:∀l:List Pat,l.length<=bH l
 | []=>zA _
 |p::l=>by have a:=pW p;have b:=Bq l;simp only[bH,zG];omega
