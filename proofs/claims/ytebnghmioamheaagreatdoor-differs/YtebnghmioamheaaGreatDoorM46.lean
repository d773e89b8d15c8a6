import Derived.Test.YtebnghmioamheaaGreatDoorM42
set_option maxHeartbeats 4000000
set_option maxRecDepth 100000
set_option linter.all false
namespace Go.Proofs.YtebnghmioamheaaGreatDoor
open Go.RowKit Brm Tryz
variable {w w' W a:World}{A A':NP}{m n K Ka ma na Kb mb nb mx nx m' n' c:Int}{so lo soa loa sob lob sox lox so' lo':OA}{sn sc ln lc sna sca lna lca snb scb lnb lcb b off snx scx lnx lcx sn' sc' ln' lc' B e size cap i j:Nat}{s sa sb sx s':ByteArray}{t u p zt ot y:Tm}{l ts ex ks:List Tm}{xs cs:LV}{v:Value}{q:LQ}
theorem sZ {c:LV}(h:aj w A .empty c):aj w' A' .empty c:=by
 obtain⟨s,e,a⟩:=h;exact⟨s,e,a⟩
theorem Ad {r:Nat}{u:LZ}:jL dZ r u↔u=[]:=by
 induction r generalizing u with
 |zero=>exact Iff.rfl
 |succ r ih=>
  constructor
  ·rintro⟨a,b,rfl,d,c⟩;rw[show a=[]from d,ih.1 c];rfl
  ·rintro rfl;exact⟨[],[],rfl,rfl,ih.2 rfl⟩
theorem LN (h0:0<=m)(hn:n=-1\/m<=n):dB dZ m n=dZ:=by
 funext u;refine propext ⟨λ⟨r,_,_,h⟩=>Ad.1 h,λh=>⟨m.toNat,by omega,by omega,Ad.2 h⟩⟩
theorem Pf {L:Lg}:dB L 1 1=L:=by
 funext u;refine propext ⟨λ⟨r,e,f,h⟩=>?_,λh=>⟨1,by omega,by omega,u,[],by simp,h,rfl⟩⟩;obtain rfl:r=1:=by omega
 obtain⟨a,b,rfl,d,c⟩:=h;rw[show b=[]from c,zx];exact d
theorem Hw (p r:Int)(h:r=0\/(r≠0/\K=2)):Calls prog 36 #[.agg #[Vi K,.slice so sn sc,.slice lo ln lc,Vi m,Vi n,.string s],Vi p,Vi r] w (eH w A (λu=>u=.empty)):=by
 obtain⟨N,i,l,b,o,-⟩:=jK (rfl:w.heap.size=_) (TC K so sn sc lo ln lc m n s) 58 TZ 58;replace l:Below _ _ N:=l;obtain⟨Y,a1,a2,a3,a4,a5⟩:=b.six;have O:=b.lt;have U:=aa (rh N);have j:=aa o;have C:=aa l;have B:=aa i;have Q:Hid ((r==0)=true\/((r==0)=false/\(K==2)=true)):=by
  rcases h with h|⟨h,T⟩
  ·exact .inl (beq_iff_eq.2 h)
  ·exact .inr ⟨zD.2 h,beq_iff_eq.2 T⟩
 clear i l b o h;go_enter func36,ntmps36;go_upto_region 1 with fail;rw[B.out];generalize hS:w.heap.size=S at *;rcases Q.out with P|⟨P,X⟩
 all_goals go_wp2_with fail
 all_goals refine U.mono ?_
 all_goals rintro e R ⟨t3,f,t,g,k,q,x,F,D,E,rfl,d,rfl,c⟩
 all_goals simp only[Tm.kind]at d ⊢
 all_goals have a:=j.below c
 all_goals have G:=a.cell 0
 all_goals have M:=a.cell 1
 all_goals have H:=a.cell 2
 all_goals have I:=a.cell 3
 all_goals have J:=a.cell 4
 all_goals have L:=a.cell 5
 all_goals have W:=a.frozen 0
 all_goals have f1:=a.frozen 1
 all_goals have f2:=a.frozen 2
 all_goals have f3:=a.frozen 3
 all_goals have f4:=a.frozen 4
 all_goals have Z:=a.frozen 5
 all_goals have V:=a.lt
 all_goals simp only[TZ,List.getElem?_cons_zero,List.getElem?_cons_succ]at G M H I J L
 all_goals have z:Hid (Below S w R):=C.trans (c.mono (by have:=j.lt;omega))
 all_goals have y:=aa d
 all_goals clear d c a
 all_goals go_wp2_with fail
 all_goals refine zN (v:=.agg #[Vi 2,.slice f t g,.slice k q x,Vi F,Vi D,.string E]) (by simp[results,results36,go_sem,G,M,H,I,J,L]) rfl ⟨.empty,f,t,g,k,q,x,F,D,E,rfl,?_,rfl,?_⟩
 all_goals rw[hS]
 all_goals first
  |exact bC z _ _ _ _ _ _
  |exact sZ y
theorem LO (hA:∀g,A g->g<w.heap.size)(h2:K≠2)(hK:K=t.kind)(hv:aj w A t (TC K so sn sc lo ln lc m n s)):Calls prog 36 #[.agg #[Vi K,.slice so sn sc,.slice lo ln lc,Vi m,Vi n,.string s],Vi 1,Vi 1] w (eH w A (λu=>u=t)):=by
 obtain⟨D,e,b,a,c,-⟩:=jK (rfl:w.heap.size=_) (TC K so sn sc lo ln lc m n s) 58 TZ 58;replace b:Below _ _ D:=b;obtain⟨E,H,O,G,J,Q⟩:=a.six;have k:=a.lt;have M:(K==2)=false:=zD.2 h2;have o:=aa (aj.below b _ _ hv);have i:=aa b;obtain⟨l,B,p,q,r,y⟩:=c.six;obtain⟨C,P,I,L,N,F,x⟩:=c.ice;have f:=aa e;have z:=aa hA;have j:=aa hK;clear e b a c hA hv hK;go_enter func36,ntmps36;go_upto_region 1 with fail;rw[f.out];generalize hS:w.heap.size=S at *;go_wp2_with fail;refine zN (v:=.agg #[Vi K,.slice so sn sc,.slice lo ln lc,Vi m,Vi n,.string s]) (by simp[results,results36,go_sem,l,B,p,q,r,y]) rfl ⟨t,so,sn,sc,lo,ln,lc,m,n,s,by rw[j.out],?_,rfl,?_⟩
 ·rw[hS,<-j.out];exact aj.mono (λg _ d=>by rcases d with d|d;exact .inl d;exact .inr (by omega)) _ _ (dP (S:=S+1) (aj.mono (λg _ d=>.inl d) _ _ o) (λg h=>by have:=z.out g h;omega) _ _ _ _ _ _)
 ·rw[hS];exact bC i _ _ _ _ _ _
theorem Tw (p r:Int)(hA:∀g,A g->g<w.heap.size)(h2:K≠2)(hr:r≠0)(h1:¬(p=1/\r=1))(hp5:p<=5)(hr5:r<=5)(hv:aj w A t (TC K so sn sc lo ln lc m n s))(hok:t.Ok)(htl:t.tl<=8000000000000000000):Calls prog 36 #[.agg #[.int .i64 K,.slice so sn sc,.slice lo ln lc,.int .i64 m,.int .i64 n,.string s],.int .i64 p,.int .i64 r] w (eH w A (λu=>u=.many t p r)):=by
 obtain⟨o,f,c,i,y,-⟩:=jK (rfl:w.heap.size=_) (TC K so sn sc lo ln lc m n s) 58 TZ 58;replace c:Below _ _ o:=c;obtain⟨a0,a1,a2,a3,a4,a5⟩:=i.six;have R:=i.lt;have k2:(K==2)=false:=zD.2 h2;have k0:(r==0)=false:=zD.2 hr;have V:Hid ((p==1)=false\/((p==1)=true/\(r==1)=false)):=by
  by_cases e:p=1
  ·exact .inr ⟨beq_iff_eq.2 e,zD.2 λT=>h1 ⟨e,T⟩⟩
  ·exact .inl (zD.2 e)
 obtain⟨D,j,b,-,-⟩:=dS (rfl:o.heap.size=_) [.int .i64 K,.slice so sn sc,.slice lo ln lc,.int .i64 m,.int .i64 n,.string s] 58;replace b:Below _ _ D:=b;have G:o.heap.size=w.heap.size+2:=by rw[<-f];simp
 have d:cg D (λg=>A g\/w.heap.size+1<g) (some ⟨o.heap.size,0,none⟩) (TC K so sn sc lo ln lc m n s):=by rw[<-j];exact (nP o (TC K so sn sc lo ln lc m n s) 58).mono λg _ k=>.inr (by omega)
 have x:aj D (λg=>A g\/w.heap.size+1<g) t (TC K so sn sc lo ln lc m n s):=aj.mono (λg _ k=>.inl k) _ _ (aj.below b _ _ (aj.below c _ _ hv));have I:=aa (Mg (lc:=1) p r ⟨#[]⟩ d x hok hp5 hr5 htl);have H:Hid (Below w.heap.size w D):=c.trans (b.mono c.size);have q:=aa (y.below b);have E:=aa j;have F:=aa f;have Y:=aa hA;clear hv j b d x f c i y hA G h1;go_enter func36,ntmps36;go_upto_region 1 with fail;rw[F.out];generalize hS:w.heap.size=S at *;rcases V.out with U|⟨U,q2⟩
 all_goals go_wp2_with fail
 all_goals rw[E.out]
 all_goals refine I.mono ?_
 all_goals rintro e W ⟨J,rfl,z,l⟩
 all_goals have a:=q.below l
 all_goals have L:=a.cell 0
 all_goals have Q:=a.cell 1
 all_goals have M:=a.cell 2
 all_goals have N:=a.cell 3
 all_goals have O:=a.cell 4
 all_goals have P:=a.cell 5
 all_goals have Z:=a.frozen 0
 all_goals have f1:=a.frozen 1
 all_goals have f2:=a.frozen 2
 all_goals have f3:=a.frozen 3
 all_goals have f4:=a.frozen 4
 all_goals have f5:=a.frozen 5
 all_goals have X:=a.lt
 all_goals simp only[TZ,List.getElem?_cons_zero,List.getElem?_cons_succ]at L Q M N O P
 all_goals have C:Hid (Below S w W):=H.trans (l.mono (by have:=q.lt;omega))
 all_goals have B:=aa z
 all_goals clear z l a
 all_goals go_wp2_with fail
 all_goals refine zN (v:=.agg #[.int .i64 8,.slice none 0 0,.slice (some ⟨o.heap.size,0,none⟩) 1 1,.int .i64 p,.int .i64 r,.string J]) (by simp[results,results36,go_sem,L,Q,M,N,O,P]) rfl ⟨.many t p r,none,0,0,some ⟨o.heap.size,0,none⟩,1,1,p,r,J,rfl,?_,rfl,?_⟩
 all_goals rw[hS]
 all_goals first
  |exact bC C _ _ _ _ _ _
  |exact aj.mono (λg _ k=>by rcases k with k|k;exact .inl k;exact .inr (by omega)) _ _ (dP B (λg h=>by have:=Y.out g h;omega) _ _ _ _ _ _)
theorem Cy (p r:Int)(hA:∀g,A g->g<w.heap.size)(h0:0<=p)(h5:p<=5)(hr:r=-1\/(p<=r/\r<=5))(hv:aj w A t (TC t.kind so sn sc lo ln lc m n s))(hok:t.Ok)(htl:t.tl<=8000000000000000000):Calls prog 36 #[.agg #[Vi t.kind,.slice so sn sc,.slice lo ln lc,Vi m,Vi n,.string s],Vi p,Vi r] w (eH w A (Gd (dB t.L p r) (t.z+1) (t.tl+12))):=by
 have C:=mh t;by_cases i:r=0\/(r≠0/\t.kind=2)
 ·refine (Hw (A:=A) p r i).mono ?_;rintro e z ⟨v,b,d,f,c,a,h,j,k,l,rfl,o,rfl,q⟩;refine⟨.empty,b,d,f,c,a,h,j,k,l,rfl,o,⟨trivial,?_,by show 1<=_;omega,by show 12<=_;omega⟩,q⟩;rw[Tm.L_empty];rcases i with rfl|⟨_,i⟩
  ·obtain rfl:p=0:=by omega
   exact (Da rfl).symm
  ·have D:t=.empty:=by cases t<;>first|rfl|(simp[Tm.kind]at i)
   rw[D,Tm.L_empty,LN h0 (by omega)]
 ·have q:t.kind≠2:=λe=>i (by by_cases B:r=0;exact .inl B;exact .inr ⟨B,e⟩);have x:r≠0:=λe=>i (.inl e);by_cases o:p=1/\r=1
  ·obtain⟨rfl,rfl⟩:=o;refine (LO hA q rfl hv).mono ?_;rintro e z ⟨v,b,d,f,c,a,h,j,k,l,rfl,y,rfl,u⟩;exact⟨v,b,d,f,c,a,h,j,k,l,rfl,y,⟨hok,Pf.symm,by omega,by omega⟩,u⟩
  ·refine (Tw p r hA q x o h5 (by omega) hv hok htl).mono ?_;rintro e z ⟨v,b,d,f,c,a,h,j,k,l,rfl,y,rfl,u⟩;exact⟨.many t p r,b,d,f,c,a,h,j,k,l,rfl,y,⟨⟨hok,h0,h5,by omega⟩,Tm.L_many t p r,zA _,zA _⟩,u⟩
theorem jB {S:Nat}(h:Below S w W)(a b c d e f:Value):Below S w ((((((W.setCell (aD (S+1+1) 0) a).setCell (aD (S+1+1) 1) b).setCell (aD (S+1+1) 2) c).setCell (aD (S+1+1) 3) d).setCell (aD (S+1+1) 4) e).setCell (aD (S+1+1) 5) f):=by
 have k:S<=S+1+1:=by omega
 exact (((((h.setCell (p:=(aD (S+1+1) 0)) k _).setCell (p:=(aD (S+1+1) 1)) k _).setCell (p:=(aD (S+1+1) 2)) k _).setCell (p:=(aD (S+1+1) 3)) k _).setCell (p:=(aD (S+1+1) 4)) k _).setCell (p:=(aD (S+1+1) 5)) k _
theorem kc {c:LV}(h:aj w A .none c):aj w' A' .none c:=by
 obtain⟨s,e,a⟩:=h;exact⟨s,e,a⟩
theorem qA (h:Ka=1\/(Ka≠1/\Kb=1)):Calls prog 38 #[.agg #[Vi Ka,.slice soa sna sca,.slice loa lna lca,Vi ma,Vi na,.string sa],.agg #[Vi Kb,.slice sob snb scb,.slice lob lnb lcb,Vi mb,Vi nb,.string sb]] w (eH w A (λu=>u=.none)):=by
 obtain⟨P,g,p,f,d,m,-⟩:=rY (rfl:w.heap.size=_) (TC Ka soa sna sca loa lna lca ma na sa) 58 (TC Kb sob snb scb lob lnb lcb mb nb sb) 58 TZ 58;replace p:Below _ _ P:=p;obtain⟨T,Q,U,N,a0,L⟩:=f.six;obtain⟨M,W,Z,O,I,V⟩:=d.six;have J:=f.lt;have a1:=d.lt;have K:=aa (fG P);have q:=aa m;have x:=aa p;have s:=aa g;have Y:Hid ((Ka==1)=true\/((Ka==1)=false/\(Kb==1)=true)):=by
  rcases h with h|⟨h,R⟩
  ·exact .inl (beq_iff_eq.2 h)
  ·exact .inr ⟨zD.2 h,beq_iff_eq.2 R⟩
 clear g p f d m h;go_enter func38,ntmps38;go_upto_region 1 with fail;rw[s.out];generalize hS:w.heap.size=S at *;rcases Y.out with q1|⟨q1,q2⟩
 all_goals go_wp2_with fail
 all_goals refine K.mono ?_
 all_goals rintro e X ⟨t3,j,k,n,l,i,o,H,B,E,rfl,c,rfl,b⟩
 all_goals simp only[Tm.kind]at c ⊢
 all_goals have a:=q.below b
 all_goals have D:=a.cell 0
 all_goals have y:=a.cell 1
 all_goals have F:=a.cell 2
 all_goals have G:=a.cell 3
 all_goals have C:=a.cell 4
 all_goals have z:=a.cell 5
 all_goals have f0:=a.frozen 0
 all_goals have f1:=a.frozen 1
 all_goals have f2:=a.frozen 2
 all_goals have f3:=a.frozen 3
 all_goals have f4:=a.frozen 4
 all_goals have f5:=a.frozen 5
 all_goals have a2:=a.lt
 all_goals simp only[TZ,List.getElem?_cons_zero,List.getElem?_cons_succ]at D y F G C z
 all_goals have t:Hid (Below S w X):=x.trans (b.mono (by have:=q.lt;omega))
 all_goals have r:=aa c
 all_goals clear c b a
 all_goals go_wp2_with fail
 all_goals refine zN (v:=.agg #[Vi 1,.slice j k n,.slice l i o,Vi H,Vi B,.string E]) (by simp[results,results38,go_sem,D,y,F,G,C,z]) rfl ⟨.none,j,k,n,l,i,o,H,B,E,rfl,?_,rfl,?_⟩
 all_goals rw[hS]
 all_goals first
  |exact jB t _ _ _ _ _ _
  |exact kc r
theorem Ob (hA:∀g,A g->g<w.heap.size)(hb1:Kb≠1)(ha2:Ka=2)(hK:Kb=t.kind)(hv:aj w A t (TC Kb sob snb scb lob lnb lcb mb nb sb)):Calls prog 38 #[.agg #[Vi Ka,.slice soa sna sca,.slice loa lna lca,Vi ma,Vi na,.string sa],.agg #[Vi Kb,.slice sob snb scb,.slice lob lnb lcb,Vi mb,Vi nb,.string sb]] w (eH w A (λu=>u=t)):=by
 subst ha2;obtain⟨U,f,d,c,a,b,-⟩:=rY (rfl:w.heap.size=_) (TC 2 soa sna sca loa lna lca ma na sa) 58 (TC Kb sob snb scb lob lnb lcb mb nb sb) 58 TZ 58;replace d:Below _ _ U:=d;obtain⟨B,z,C,x,J,r⟩:=c.six;obtain⟨s,E,H,y,n,D⟩:=a.six;have o:=c.lt;have K:=a.lt;have p:(Kb==1)=false:=zD.2 hb1;have q:=aa (aj.below d _ _ hv);have j:=aa d;obtain⟨I,m,L,M,F,l⟩:=b.six;obtain⟨O,V,Q,T,R,P,N⟩:=b.ice;have i:=aa f;have G:=aa hA;have k:=aa hK;clear f d c a b hA hv hK;go_enter func38,ntmps38;go_upto_region 1 with fail;rw[i.out];generalize hS:w.heap.size=S at *;go_wp2_with fail;refine zN (v:=.agg #[Vi Kb,.slice sob snb scb,.slice lob lnb lcb,Vi mb,Vi nb,.string sb]) (by simp[results,results38,go_sem,I,m,L,M,F,l]) rfl ⟨t,sob,snb,scb,lob,lnb,lcb,mb,nb,sb,by rw[k.out],?_,rfl,?_⟩
 ·rw[hS,<-k.out];exact aj.mono (λg _ e=>by rcases e with e|e;exact .inl e;exact .inr (by omega)) _ _ (dP (S:=S+1+1) (aj.mono (λg _ e=>.inl e) _ _ q) (λg h=>by have:=G.out g h;omega) _ _ _ _ _ _)
 ·rw[hS];exact jB j _ _ _ _ _ _
theorem Et (hA:∀g,A g->g<w.heap.size)(ha1:Ka≠1)(ha2:Ka≠2)(hb2:Kb=2)(hK:Ka=t.kind)(hv:aj w A t (TC Ka soa sna sca loa lna lca ma na sa)):Calls prog 38 #[.agg #[Vi Ka,.slice soa sna sca,.slice loa lna lca,Vi ma,Vi na,.string sa],.agg #[Vi Kb,.slice sob snb scb,.slice lob lnb lcb,Vi mb,Vi nb,.string sb]] w (eH w A (λu=>u=t)):=by
 subst hb2;obtain⟨V,f,d,c,a,b,-⟩:=rY (rfl:w.heap.size=_) (TC Ka soa sna sca loa lna lca ma na sa) 58 (TC 2 sob snb scb lob lnb lcb mb nb sb) 58 TZ 58;replace d:Below _ _ V:=d;obtain⟨C,B,D,x,K,q⟩:=c.six;obtain⟨s,F,I,z,n,E⟩:=a.six;have o:=c.lt;have L:=a.lt;have r:(Ka==1)=false:=zD.2 ha1;have y:(Ka==2)=false:=zD.2 ha2;have p:=aa (aj.below d _ _ hv);have j:=aa d;obtain⟨J,m,M,N,G,l⟩:=b.six;obtain⟨P,W,R,U,T,Q,O⟩:=b.ice;have i:=aa f;have H:=aa hA;have k:=aa hK;clear f d c a b hA hv hK;go_enter func38,ntmps38;go_upto_region 1 with fail;rw[i.out];generalize hS:w.heap.size=S at *;go_wp2_with fail;refine zN (v:=.agg #[Vi Ka,.slice soa sna sca,.slice loa lna lca,Vi ma,Vi na,.string sa]) (by simp[results,results38,go_sem,J,m,M,N,G,l]) rfl ⟨t,soa,sna,sca,loa,lna,lca,ma,na,sa,by rw[k.out],?_,rfl,?_⟩
 ·rw[hS,<-k.out];exact aj.mono (λg _ e=>by rcases e with e|e;exact .inl e;exact .inr (by omega)) _ _ (dP (S:=S+1+1) (aj.mono (λg _ e=>.inl e) _ _ p) (λg h=>by have:=H.out g h;omega) _ _ _ _ _ _)
 ·rw[hS];exact jB j _ _ _ _ _ _
theorem Rr (hA:∀g,A g->g<w.heap.size)(ha1:Ka≠1)(hb1:Kb≠1)(ha2:Ka≠2)(hb2:Kb≠2)(ha4:Ka≠4)(hv:aj w A t (TC Ka soa sna sca loa lna lca ma na sa))(hu:aj w A u (TC Kb sob snb scb lob lnb lcb mb nb sb))(ht:t.Ok)(huk:u.Ok)(htl:t.tl+u.tl<=8000000000000000000):Calls prog 38 #[.agg #[.int .i64 Ka,.slice soa sna sca,.slice loa lna lca,.int .i64 ma,.int .i64 na,.string sa],.agg #[.int .i64 Kb,.slice sob snb scb,.slice lob lnb lcb,.int .i64 mb,.int .i64 nb,.string sb]] w (eH w A (λv=>v=.row t u)):=by
 obtain⟨f,j,b,o,n,s,-⟩:=rY (rfl:w.heap.size=_) (TC Ka soa sna sca loa lna lca ma na sa) 58 (TC Kb sob snb scb lob lnb lcb mb nb sb) 58 TZ 58;replace b:Below _ _ f:=b;obtain⟨W,V,X,Q,a1,N⟩:=o.six;obtain⟨P,Z,a0,T,J,Y⟩:=n.six;have K:=o.lt;have a2:=n.lt;have O:(Ka==1)=false:=zD.2 ha1;have M:(Kb==1)=false:=zD.2 hb1;have R:(Ka==2)=false:=zD.2 ha2;have U:(Kb==2)=false:=zD.2 hb2;have L:(Ka==4)=false:=zD.2 ha4;obtain⟨l,c⟩:∃l,f.alloc (.cells #[.int .i64 Ka,.slice soa sna sca,.slice loa lna lca,.int .i64 ma,.int .i64 na,.string sa,.int .i64 Kb,.slice sob snb scb,.slice lob lnb lcb,.int .i64 mb,.int .i64 nb,.string sb] 58)=l:=⟨_,rfl⟩;have a:Below f.heap.size f l:=by rw[<-c];exact (zE _ _).alloc (zA _) _
 have F:f.heap.size=w.heap.size+3:=by rw[<-j];simp
 have i:cg l (λg=>A g\/w.heap.size+1+1<g) (some ⟨f.heap.size,0,none⟩) (TC Ka soa sna sca loa lna lca ma na sa++TC Kb sob snb scb lob lnb lcb mb nb sb):=by rw[<-c];exact (nP f (TC Ka soa sna sca loa lna lca ma na sa++TC Kb sob snb scb lob lnb lcb mb nb sb) 58).mono λg _ d=>.inr (by omega)
 have x:aj l (λg=>A g\/w.heap.size+1+1<g) t (TC Ka soa sna sca loa lna lca ma na sa):=aj.mono (λg _ d=>.inl d) _ _ (aj.below a _ _ (aj.below b _ _ hv));have q:aj l (λg=>A g\/w.heap.size+1+1<g) u (TC Kb sob snb scb lob lnb lcb mb nb sb):=aj.mono (λg _ d=>.inl d) _ _ (aj.below a _ _ (aj.below b _ _ hu));have r:=aa (Ps (lc:=2) ⟨#[]⟩ i x q ht huk htl);have C:Hid (Below w.heap.size w l):=b.trans (a.mono b.size);have y:=aa (s.below a);have D:=aa c;have B:=aa j;have HA:=aa hA;clear hv hu c a i x q j b o n s hA F;go_enter func38,ntmps38;go_upto_region 1 with fail;rw[B.out];generalize hS:w.heap.size=S at *;go_wp2_with fail;rw[D.out];refine r.mono ?_;rintro e w3 ⟨G,rfl,p,k⟩;have m:=y.below k;obtain⟨r0,I,r2,r3,r4,H⟩:=m.six;obtain⟨f0,f1,f2,f3,f4,f5,a3⟩:=m.ice;have E:Hid (Below S w w3):=C.trans (k.mono (by have:=y.lt;omega));have z:=aa p;clear p k m r;go_wp2_with fail;refine zN (v:=.agg #[.int .i64 4,.slice none 0 0,.slice (some ⟨f.heap.size,0,none⟩) 2 2,.int .i64 0,.int .i64 0,.string G]) (by simp[results,results38,go_sem,r0,I,r2,r3,r4,H]) rfl ⟨.row t u,none,0,0,some ⟨f.heap.size,0,none⟩,2,2,0,0,G,rfl,?_,rfl,?_⟩
 ·rw[hS];exact aj.mono (λg _ d=>by rcases d with d|d;exact .inl d;exact .inr (by omega)) _ _ (dP z (λg h=>by have:=HA.out g h;omega) _ _ _ _ _ _)
 ·rw[hS];exact jB E _ _ _ _ _ _
def wT (t:Tm):Prop:=∀(w:World) (A:Nat->Prop) (u:Tm) (soa:Option Addr) (sna sca:Nat) (loa:Option Addr) (lna lca:Nat) (ma na:Int) (sa:ByteArray) (sob:Option Addr) (snb scb:Nat) (lob:Option Addr) (lnb lcb:Nat) (mb nb:Int) (sb:ByteArray),
 (∀g,A g->g<w.heap.size)->aj w A t (TC t.kind soa sna sca loa lna lca ma na sa)->aj w A u (TC u.kind sob snb scb lob lnb lcb mb nb sb)->t.Ok->u.Ok->t.tl+u.tl<=6900000000000000000 ->
 Calls prog 38 #[.agg #[Vi t.kind,.slice soa sna sca,.slice loa lna lca,Vi ma,Vi na,.string sa],.agg #[Vi u.kind,.slice sob snb scb,.slice lob lnb lcb,Vi mb,Vi nb,.string sb]] w (eH w A (Gd (aJ t.L u.L) (t.z+u.z) (t.tl+u.tl+12)))
theorem jw (w:World):Bw w w.drew:=(zE _ _).drew
theorem ku {b:World}(h:Bw a.drew b):Bw a b:=⟨h.os,h.tape,h.output,h.size,h.block⟩
theorem PV {q:Tm}{soy:OA}{sny scy:Nat}{loy:OA}{lny lcy:Nat}{my ny:Int}{sy:ByteArray}(hA:∀g,A g->g<w.heap.size)(ip:wT p)(iq:wT q)(hb1:u.kind≠1)(hb2:u.kind≠2)(hbl:b<w.heap.size)
  (hrow:∀j v,(TC p.kind sox snx scx lox lnx lcx mx nx sx++TC q.kind soy sny scy loy lny lcy my ny sy)[j]?=some v->w.cell? ⟨b,off+j,none⟩=some v) (hp:aj w A p (TC p.kind sox snx scx lox lnx lcx mx nx sx)) (hq:aj w A q (TC q.kind soy sny scy loy lny lcy my ny sy)) (hu:aj w A u (TC u.kind sob snb scb lob lnb lcb mb nb sb)) (pk:p.Ok) (qk:q.Ok) (uk:u.Ok) (htl:p.tl+q.tl+12+u.tl<=6900000000000000000):Calls prog 38 #[.agg #[Vi 4,Vz,.slice (some (aD b off)) 2 lc,Vi 0,Vi 0,.string s],.agg #[Vi u.kind,.slice sob snb scb,.slice lob lnb lcb,Vi mb,Vi nb,.string sb]] w (eH w A (Gd (aJ (aJ p.L q.L) u.L) (p.z+q.z+u.z) (p.tl+q.tl+12+u.tl+12))):=by
 obtain⟨d,O,c,C,I,Z,-⟩:=rY (rfl:w.heap.size=_) (TC 4 none 0 0 (some (aD b off)) 2 lc 0 0 s) 58 (TC u.kind sob snb scb lob lnb lcb mb nb sb) 58 TZ 58;replace c:Below _ _ d:=c;have e0:d.cell? (aD w.heap.size 0)=some (Vi 4):=C.cell 0;have b8:d.cell? (aD w.heap.size 2)=some (.slice (some (aD b off)) 2 lc):=C.cell 2;obtain⟨a8,a6,c4,b6,d1,d7⟩:=I.six;obtain⟨a4,c0,c2,d2,d4,b0⟩:=oT c hbl (CT.fst hrow);obtain⟨d0,b3,a9,b5,d6,d3⟩:=oT c hbl (CT.snd hrow);have c8:=C.lt;have c6:=I.lt;have X:b<d.heap.size:=zF hbl c.size;have d9:(u.kind==1)=false:=zD.2 hb1;have e1:(u.kind==2)=false:=zD.2 hb2;have b2:d.heap.size=w.heap.size+3:=by rw[<-O];simp
 have a7:Hid (∀a,Bw d a->Calls prog 38 #[.agg #[Vi q.kind,.slice soy sny scy,.slice loy lny lcy,Vi my,Vi ny,.string sy],.agg #[Vi u.kind,.slice sob snb scb,.slice lob lnb lcb,Vi mb,Vi nb,.string sb]] a λe k=>∃t J P L M N lc m n s,e=.returned (.agg #[Vi (Tm.kind t),.slice J P L,.slice M N lc,Vi m,Vi n,.string s])/\aj k (λg=>A g\/a.heap.size<g) t (TC t.kind J P L M N lc m n s)/\Gd (aJ q.L u.L) (q.z+u.z) (q.tl+u.tl+12) t/\Bw a k):=λa h=>iq a A u _ _ _ _ _ _ _ _ _ _ _ _ _ _ _ _ _ _ (λg f=>by have h1:=hA g f;have h2:=c.size;have h3:=h.size;omega) (aj.below h _ _ (aj.below c _ _ hq)) (aj.below h _ _ (aj.below c _ _ hu)) qk uk (by omega);have b7:Hid (∀(k:World) (F:Tm) (x:Option Addr) (D r:Nat) (B:Option Addr) (z y:Nat) (m5 n5:Int) (s5:ByteArray),Bw d k->aj k (λg=>A g\/d.drew.heap.size<g) F (TC F.kind x D r B z y m5 n5 s5)->Gd (aJ q.L u.L) (q.z+u.z) (q.tl+u.tl+12) F ->
   Calls prog 38 #[.agg #[Vi p.kind,.slice sox snx scx,.slice lox lnx lcx,Vi mx,Vi nx,.string sx],.agg #[Vi F.kind,.slice x D r,.slice B z y,Vi m5,Vi n5,.string s5]] k λe w6=>∃t J P L M N lc m n s,e=.returned (.agg #[Vi (Tm.kind t),.slice J P L,.slice M N lc,Vi m,Vi n,.string s])/\Hid (aj w6 (λg=>A g\/w.heap.size+1+1<g) t (TC t.kind J P L M N lc m n s))/\Hid (Gd (aJ (aJ p.L q.L) u.L) (p.z+q.z+u.z) (p.tl+q.tl+12+u.tl+12) t)/\Bw k w6):=λk F x D r B z y m5 n5 s5 h5 o i=>by
  have b1:d.drew.heap.size=d.heap.size:=rfl;rw[b1]at o;have h1:=i.z;have h2:=i.tl;have h3:=h5.size;refine (ip k (λg=>(A g\/d.heap.size<g)/\g<k.heap.size) F _ _ _ _ _ _ _ _ _ _ _ _ _ _ _ _ _ _ (λg f=>f.2) (aj.mono (λg f ha=>⟨.inl ha,f⟩) _ _ (aj.below h5 _ _ (aj.below c _ _ hp))) (aj.mono (λg f ha=>⟨ha,f⟩) _ _ o) pk i.ok (by omega)).mono ?_;rintro e w6 ⟨t,J,P,L,M,N,lc,m,n,s,rfl,g1,g2,g3⟩;refine⟨t,J,P,L,M,N,lc,m,n,s,rfl,?_,⟨g2.ok,?_,?_,?_⟩,g3⟩
  ·exact aj.mono (λg _ f=>by rcases f with⟨f|f,_⟩|f;exact .inl f;exact .inr (by omega);exact .inr (by omega)) _ _ g1
  ·rw[g2.lg,i.lg,AV]
  ·have:=g2.z;omega
  ·have:=g2.tl;omega
 have H:Hid (∀a,Bw d a->(a.cell? (aD w.heap.size 2)=some (.slice (some (aD b off)) 2 lc)/\CB a (w.heap.size+1) u.kind sob snb scb lob lnb lcb mb nb sb/\CT a b off p.kind sox snx scx lox lnx lcx mx nx sx/\CT a b (off+6) q.kind soy sny scy loy lny lcy my ny sy)):=λa h=>⟨(h.cell (p:=(aD w.heap.size 2)) c8).trans b8,CB.below h c6 ⟨a8,a6,c4,b6,d1,d7⟩,CT.below h X ⟨a4,c0,c2,d2,d4,b0⟩,CT.below h X ⟨d0,b3,a9,b5,d6,d3⟩⟩;have a3:=aa Z;have b9:=aa c;have b4:=aa O;have HA:=aa hA;clear hrow hp hq hu pk qk uk O c C I Z hA ip iq htl hb1 hb2 b2;go_enter func38,ntmps38;go_upto_region 1 with fail;rw[b4.out];generalize hS:w.heap.size=S at *;have c3:S+1+1≠S:=by omega
 have d5:S+1+1≠S+1:=by omega
 have R:S+1+1≠b:=by omega
 have a0:=aa (a7.out d.drew (jw d));have c7:=aa (H.out d.drew (jw d));go_wp2_with fail
 go_region_held3 (λa=>a.cell? (aD S 2)=some (.slice (some (aD b off)) 2 lc)/\CB a (S+1) u.kind sob snb scb lob lnb lcb mb nb sb/\CT a b off p.kind sox snx scx lox lnx lcx mx nx sx/\CT a b (off+6) q.kind soy sny scy loy lny lcy my ny sy)
  (first|with_reducible exact c7.out|with_reducible exact l.out|with_reducible exact⟨JK c3 l.out.1,CB.far d5 l.out.2.1,CT.far R l.out.2.2.1,CT.far R l.out.2.2.2⟩|fail)
  (first
   |(go_at_call 38;with_reducible refine a0.out.mono ?_;rintro e k ⟨F,x,D,r,B,z,y,m5,n5,s5,rfl,o,i,Q⟩;have E:=aa (ku Q);have l:=aa (H.out k E.out);have a5:=aa o;have c1:=aa i;clear o i Q)
   |(go_at_call 38;with_reducible refine (b7.out _ F _ _ _ _ _ _ _ _ _ E.out a5.out c1.out).mono ?_;rintro e w6 ⟨t6,T,Y,a2,W,U,V,m6,n6,s6,rfl,c5,c9,a1⟩;have G:=aa (E.out.trans (a1.mono E.out.size));have l:=aa (H.out w6 G.out);have K:=a3.out.below G.out;obtain⟨r0,r1,r2,r3,r4,r5⟩:=K.six;obtain⟨f0,f1,f2,f3,f4,f5,d8⟩:=K.ice;clear a1 K)
   |fail)
 all_goals go_wp2_with fail
 refine zN (v:=.agg #[Vi (Tm.kind t6),.slice T Y a2,.slice W U V,Vi m6,Vi n6,.string s6]) (by simp[results,results38,go_sem,r0,r1,r2,r3,r4,r5]) rfl ⟨t6,T,Y,a2,W,U,V,m6,n6,s6,rfl,?_,c9.out,?_⟩
 ·rw[hS];exact aj.mono (λg _ f=>by rcases f with f|f;exact .inl f;exact .inr (by omega)) _ _ (dP c5.out (λg h=>by have:=HA.out g h;omega) _ _ _ _ _ _)
 ·rw[hS];exact jB (b9.out.trans (G.out.mono (by omega))) _ _ _ _ _ _
theorem rp (h:t.kind=1):t=.none:=by cases t<;>first|rfl|(simp[Tm.kind]at h)
theorem rq (h:t.kind=2):t=.empty:=by cases t<;>first|rfl|(simp[Tm.kind]at h)
theorem iW (h4:t.kind≠4):wT t:=by
 intro w A u H O C G N K W P S F I J M D E U X T s y z p o L;have Q:=mh t;have V:=mh u;have R:=fE t;have Y:=fE u;by_cases h:t.kind=1\/(t.kind≠1/\u.kind=1)
 ·refine (qA (A:=A) h).mono ?_;rintro e q ⟨v,f,c,a,b,d,g,l,m,j,rfl,k,rfl,i⟩;refine⟨.none,f,c,a,b,d,g,l,m,j,rfl,k,⟨trivial,?_,by show 1<=_;omega,by show 12<=_;omega⟩,i⟩;rw[Tm.L_none];rcases h with h|⟨_,h⟩
  ·rw[rp h,Tm.L_none,CZ]
  ·rw[rp h,Tm.L_none,uc]
 ·have x:t.kind≠1:=λe=>h (.inl e);have B:u.kind≠1:=λe=>h (.inr ⟨x,e⟩);by_cases n:t.kind=2
  ·refine (Ob s B n rfl z).mono ?_;rintro e q ⟨v,f,c,a,b,d,g,l,m,j,rfl,k,rfl,i⟩;exact⟨v,f,c,a,b,d,g,l,m,j,rfl,k,⟨o,by rw[rq n,Tm.L_empty,AU],by omega,by omega⟩,i⟩
  ·by_cases r:u.kind=2
   ·refine (Et s x n r rfl y).mono ?_;rintro e q ⟨v,f,c,a,b,d,g,l,m,j,rfl,k,rfl,i⟩;exact⟨v,f,c,a,b,d,g,l,m,j,rfl,k,⟨p,by rw[rq r,Tm.L_empty,kQ],by omega,by omega⟩,i⟩
   ·refine (Rr s x B n r h4 y z p o (by omega)).mono ?_;rintro e q ⟨v,f,c,a,b,d,g,l,m,j,rfl,k,rfl,i⟩;exact⟨.row t u,f,c,a,b,d,g,l,m,j,rfl,k,⟨⟨p,o⟩,Tm.L_row t u,zA _,zA _⟩,i⟩
theorem PW {q:Tm}(ip:wT p)(iq:wT q):wT (.row p q):=by
 intro w A u a1 a8 a6 U a5 a7 ma na sa T a2 a4 X a9 R mb nb sb O M hu o hk b0;have p1:=mh p;have p2:=mh q;have p5:=mh u;have p3:=fE p;have p4:=fE q;have p6:=fE u;have b3:(Tm.row p q).tl=p.tl+q.tl+12:=rfl;have a3:(Tm.row p q).z=p.z+q.z:=rfl;by_cases E:u.kind=1
 ·refine (qA (A:=A) (.inr ⟨by simp[Tm.kind],E⟩)).mono ?_;rintro e W ⟨v,h,f,i,c,g,a,B,H,k,rfl,l,rfl,F⟩;exact⟨.none,h,f,i,c,g,a,B,H,k,rfl,l,⟨trivial,by rw[Tm.L_none,rp E,Tm.L_none,uc],by show 1<=_;omega,by show 12<=_;omega⟩,F⟩
 ·by_cases s:u.kind=2
  ·refine (Et O (by simp[Tm.kind]) (by simp[Tm.kind]) s rfl M).mono ?_;rintro e W ⟨v,h,f,i,c,g,a,B,H,k,rfl,l,rfl,F⟩;exact⟨.row p q,h,f,i,c,g,a,B,H,k,rfl,l,⟨o,by rw[rq s,Tm.L_empty,kQ],by omega,by omega⟩,F⟩
  ·obtain⟨c,a,xs,ys,k,e,d,N,Q,_⟩:=M;simp only[Tm.kind,TC,zT,zm,zu,yc,yB,yK]at e;obtain⟨⟨rfl,rfl,rfl⟩,⟨rfl,rfl,rfl⟩,rfl,rfl,rfl⟩:=e;obtain⟨n,K,L,r,t,m,Y,nx,Z,rfl,_⟩:=N.form;obtain⟨z,y,x,D,J,G,my,V,S,rfl,_⟩:=Q.form;obtain⟨b,I,rfl,a0,hb,c0⟩:=d 0 _ rfl;have cc:∀j v,(TC p.kind n K L r t m Y nx Z++TC q.kind z y x D J G my V S)[j]?=some v->w.cell? ⟨b,I+j,none⟩=some v:=λj v hj=>by
    obtain⟨b',P,C,_,_,hc⟩:=d j v hj;injection C with C;injection C with e1 e2;subst e1 e2;exact hc
   rw[Tm.L_row];exact PV O ip iq E s hb cc N Q hu o.1 o.2 hk (by omega)
theorem nY:∀t:Tm,wT t
 |.none=>iW (by simp[Tm.kind])
 |.empty=>iW (by simp[Tm.kind])
 |.set _=>iW (by simp[Tm.kind])
 |.row p q=>PW (nY p) (nY q)
 |.or _=>iW (by simp[Tm.kind])
 |.and _=>iW (by simp[Tm.kind])
 |.not _=>iW (by simp[Tm.kind])
 |.many _ _ _=>iW (by simp[Tm.kind])
def xZ (t:Tm):Prop:=∀(w:World) (A:Nat->Prop) (so:Option Addr) (sn sc:Nat) (lo:Option Addr) (ln lc:Nat) (m n:Int) (s:ByteArray),aj w A t (TC t.kind so sn sc lo ln lc m n s)->t.Ok->t.tl<=8000000000000000000 ->
 Calls prog 29 #[.agg #[Vi t.kind,.slice so sn sc,.slice lo ln lc,Vi m,Vi n,.string s]] w λe w'=>∃v:Bool,e=.returned (.bool v)/\(v=true↔t.L [])/\Below w.heap.size w w'
noncomputable def dl:List Tm->Nat
 | []=>0
 |t::l=>(open Classical in if t.L []then 1 else 0)+dl l
theorem vj:∀l m:List Tm,dl (l++m)=dl l+dl m
 | [],m=>by simp[dl]
 |t::l,m=>by simp only[zV,dl,vj l m];omega
theorem uu:∀l:List Tm,dl l<=l.length
 | []=>zA _
 |t::l=>by
  have:=uu l;simp only[dl,zG]
  split<;>omega
theorem qN:∀l:List Tm,dl l=l.length↔∀t∈l,t.L []
 | []=>by simp[dl]
 |t::l=>by
  have b:=uu l;have a:=qN l;simp only[dl,zG,zO,forall_eq_or_imp]
  split
  ·rename_i h
   rw[<-a];exact⟨λe=>⟨h,by omega⟩,λe=>by omega⟩
  ·rename_i h
   exact⟨λe=>by omega,λe=>absurd e.1 h⟩
theorem Fg:∀l:List Tm,0<dl l↔∃t∈l,t.L []
 | []=>by simp[dl]
 |t::l=>by
  have a:=Fg l;simp only[dl,zO,exists_eq_or_imp]
  split
  ·rename_i h
   exact⟨λ_=>.inl h,λ_=>by omega⟩
  ·rename_i h
   rw[zf,a];exact⟨λe=>.inr e,λe=>e.elim (λe=>absurd e h) id⟩
theorem OR (w:World)(so:OA)(sn sc:Nat)(lo:OA)(ln lc:Nat)(m n:Int)(s:ByteArray):Calls prog 29 #[.agg #[Vi 1,.slice so sn sc,.slice lo ln lc,Vi m,Vi n,.string s]] w λe w'=>e=.returned (.bool false)/\Bw w w':=by
 have a:=(zE w.heap.size w).alloc (zA _) (.cells #[Vi 1,.slice so sn sc,.slice lo ln lc,Vi m,Vi n,.string s] 58);have b:=aa a;go_enter func29,ntmps29;go_wp2_with fail;go_ret;exact⟨rfl,b⟩
theorem LD (w:World)(so:OA)(sn sc:Nat)(lo:OA)(ln lc:Nat)(m n:Int)(s:ByteArray):Calls prog 29 #[.agg #[Vi 2,.slice so sn sc,.slice lo ln lc,Vi m,Vi n,.string s]] w λe w'=>e=.returned (.bool true)/\Bw w w':=by
 have a:=(zE w.heap.size w).alloc (zA _) (.cells #[Vi 2,.slice so sn sc,.slice lo ln lc,Vi m,Vi n,.string s] 58);have b:=aa a;go_enter func29,ntmps29;go_wp2_with fail;go_ret;exact⟨rfl,b⟩
theorem Sm (w:World)(so:OA)(sn sc:Nat)(lo:OA)(ln lc:Nat)(m n:Int)(s:ByteArray):Calls prog 29 #[.agg #[Vi 3,.slice so sn sc,.slice lo ln lc,Vi m,Vi n,.string s]] w λe w'=>e=.returned (.bool false)/\Bw w w':=by
 have a:=(zE w.heap.size w).alloc (zA _) (.cells #[Vi 3,.slice so sn sc,.slice lo ln lc,Vi m,Vi n,.string s] 58);have b:=aa a;go_enter func29,ntmps29;go_wp2_with fail;go_ret;exact⟨rfl,b⟩
theorem sV (hK:K=4\/K=5\/K=6)(hr:cg w A lo xs)(hl:aO w A l xs)(ih:∀t∈l,xZ t)(hok:∀t∈l,t.Ok)(htl:∀t∈l,t.tl<=8000000000000000000)(hlen:l.length<=9000000000000000000):Calls prog 29 #[.agg #[.int .i64 K,.slice so sn sc,.slice lo l.length lc,.int .i64 m,.int .i64 n,.string s]] w λe w'=>e=.returned (.bool (decide (dl l=l.length)||(decide (K=5)&&decide (0<dl l))))/\Below w.heap.size w w':=by
 obtain⟨Q,D,p,o,-⟩:=dS (rfl:w.heap.size=_) (TC K so sn sc lo l.length lc m n s) 58;replace p:Below _ _ Q:=p;have a0:Q.cell? ⟨w.heap.size,0,none⟩=some (.int .i64 K):=o.cell 0;have a3:=o.lt;have k1:(K==1)=false:=zD.2 (by omega);have k2:(K==2)=false:=zD.2 (by omega);have k3:(K==3)=false:=zD.2 (by omega);have k7:(K==7)=false:=zD.2 (by omega);have k8:(K==8)=false:=zD.2 (by omega);have W:=aa o;have M:=aa p;have U:=aa D;have HR:=aa (hr.below p);have HL:=aa (aO.below p _ _ hl);have T:=aa ih;have L:=aa hok;have P:=aa htl;clear D p o hr hl ih hok hK htl;go_enter func29,ntmps29;go_upto_region 1 with fail;rw[U.out];generalize hS:w.heap.size=S at *;go_wp2_with fail
 go_loopg [4,5] l.length (λj cv iv wr=>∃i:Nat,iv=.int .i64 i/\cv=.int .i64 (dl (l.take i):Nat)/\i<=l.length/\l.length-i<=j/\Below Q.heap.size Q wr)
 case atStart=>exact⟨0,rfl,rfl,zW _,zA _,zE _ _⟩
 case round=>
  obtain⟨i,rfl,rfl,a8,a7,a⟩:=hrel;have f:=W.below a;have a2:wr.cell? ⟨S,2,none⟩=some (.slice lo l.length lc):=f.cell 2;have a4:wr.cell? ⟨S,0,none⟩=some (.int .i64 K):=f.cell 0;have b1:=f.lt;have i0:(0:Int)<=(i:Int):=zK _;have u:=aa a;by_cases O:i<l.length
  ·have i1:(i:Int)<(l.length:Int):=by omega
   obtain⟨t,H⟩:∃t,l[i]?=some t:=⟨_,zB O⟩;have k:=zU H;obtain⟨b,a9,c,rfl,_,hb,d,Z⟩:=(HR.out.below a).at (aO.below a _ _ HL.out) H;obtain⟨b2,a6,a5,b3,b0,a1,m',n',s',rfl,_⟩:=d.form;obtain⟨y0,y1,y2,y3,y4,y5⟩:=JJ Z;have Y:=aa (T t k wr A _ _ _ _ _ _ _ _ _ d (L t k) (P t k));have V:Hid (dl (l.take (i+1))=dl (l.take i)+dl [t]):=by
    show _=_
    rw[show l.take (i+1)=l.take i++[t] by rw[zi,H];rfl,vj]
   have B:Hid (dl (l.take i)<=i):=by
    have h9:=uu (l.take i);rw[yn]at h9;show _<=_
    omega
   obtain⟨C,x⟩:∃C,dl (l.take i)=C:=⟨_,rfl⟩;rw[x]at V B ⊢;have c9:(C:Int)+1<=9000000000000000001:=by have:=B.out;omega
   clear d Z H k f a x;go_wp2_with fail;refine Y.mono ?_;rintro e w5 ⟨v,rfl,F,E⟩;have y:=aa (u.trans (E.mono u.size));have z:=aa F;clear E F Y;cases v with
   |true=>
    have I:Hid (dl (l.take (i+1))=C+1):=by show _=_;rw[V.out];simp[dl,z.out.1 rfl]
    go_wp2_with fail
    go_roundg (l.length-(i+1))
    case measure=>omega
    exact⟨i+1,by first|rfl|go_num,by rw[I.out];first|rfl|go_num,by omega,by omega,y⟩
   |false=>
    have I:Hid (dl (l.take (i+1))=C):=by
     have N:¬t.L []:=λh=>by have:=z.2 h;cases this
     show _=_
     rw[V.out];simp[dl,N]
    go_wp2_with fail
    go_roundg (l.length-(i+1))
    case measure=>omega
    exact⟨i+1,by first|rfl|go_num,by rw[I.out],by omega,by omega,y⟩
  ·have i1:decide ((i:Int)<(l.length:Int))=false:=zI (by omega);obtain rfl:i=l.length:=by omega
   rw[zQ];have q:Hid (Below S w wr):=M.trans (u.mono (yJ W.lt));have R:=uu l;obtain⟨C,x⟩:∃C,dl l=C:=⟨_,rfl⟩;rw[x]at R;rw[x];have g:=aa x;clear a f x;by_cases J:C=l.length
   ·have q1:((C:Int)==(l.length:Int))=true:=beq_iff_eq.2 (by omega);have d:(decide (dl l=l.length)||(decide (K=5)&&decide (0<dl l)))=true:=by rw[g.out];simp[J]
    have r:=aa d;clear d;go_wp2_with fail;go_ret;exact⟨by rw[r.out];rfl,by rw[hS];exact q⟩
   ·have q1:((C:Int)==(l.length:Int))=false:=zD.2 (by omega);by_cases G:K=5
    ·have q2:(K==5)=true:=beq_iff_eq.2 G;by_cases X:0<C
     ·have q3:decide ((0:Int)<(C:Int))=true:=zv (by omega);have d:(decide (dl l=l.length)||(decide (K=5)&&decide (0<dl l)))=true:=by rw[g.out];simp[G,X]
      have r:=aa d;clear d;go_wp2_with fail;go_ret;exact⟨by rw[r.out];rfl,by rw[hS];exact q⟩
     ·have q3:decide ((0:Int)<(C:Int))=false:=zI (by omega);have d:(decide (dl l=l.length)||(decide (K=5)&&decide (0<dl l)))=false:=by rw[g.out];simp[J,X]
      have r:=aa d;clear d;go_wp2_with fail;go_ret;exact⟨by rw[r.out];rfl,by rw[hS];exact q⟩
    ·have q2:(K==5)=false:=zD.2 G;have d:(decide (dl l=l.length)||(decide (K=5)&&decide (0<dl l)))=false:=by rw[g.out];simp[J,G]
     have r:=aa d;clear d;go_wp2_with fail;go_ret;exact⟨by rw[r.out];rfl,by rw[hS];exact q⟩
theorem Sn (ih:xZ u)(hok:u.Ok)(htl:u.tl<=8000000000000000000)(hbl:b<w.heap.size)(hv:aj w A u (TC u.kind so' sn' sc' lo' ln' lc' m' n' s'))(hc:∀j v,(TC u.kind so' sn' sc' lo' ln' lc' m' n' s')[j]?=some v->w.cell? ⟨b,off+j,none⟩=some v):Calls prog 29 #[.agg #[.int .i64 7,.slice none 0 0,.slice (some ⟨b,off,none⟩) 1 lc,.int .i64 0,.int .i64 0,.string s]] w λe w'=>∃v:Bool,e=.returned (.bool v)/\(v=true↔¬u.L [])/\Below w.heap.size w w':=by
 obtain⟨g,d,a,c,-⟩:=dS (rfl:w.heap.size=_) (TC 7 none 0 0 (some ⟨b,off,none⟩) 1 lc 0 0 s) 58;replace a:Below _ _ g:=a;have r:g.cell? ⟨w.heap.size,0,none⟩=some (.int .i64 7):=c.cell 0;have x:g.cell? ⟨w.heap.size,2,none⟩=some (.slice (some ⟨b,off,none⟩) 1 lc):=c.cell 2;have C:g.cell? ⟨w.heap.size,3,none⟩=some (.int .i64 0):=c.cell 3;have m:=c.lt;have p:b<g.heap.size:=zF hbl a.size;obtain⟨E,z,q,y,D,t⟩:=oT a hbl hc;have o:=aa (ih g A _ _ _ _ _ _ _ _ _ (aj.below a _ _ hv) hok htl);have i:=aa a;have l:=aa d;clear d a c ih hok hv hc htl;go_enter func29,ntmps29;go_upto_region 1 with fail;rw[l.out];generalize hS:w.heap.size=S at *;go_wp2_with fail;refine o.mono ?_;rintro e B ⟨v,rfl,h,f⟩;have k:=aa (i.trans (f.mono (yJ m)));have n:=aa h;clear f h o;go_wp2_with fail;go_ret;refine⟨!v,rfl,?_,by rw[hS];exact k⟩;rw[<-n.out];cases v<;>simp
theorem OS (ih:xZ u)(hok:u.Ok)(htl:u.tl<=8000000000000000000)(hbl:b<w.heap.size)(hv:aj w A u (TC u.kind so' sn' sc' lo' ln' lc' m' n' s'))(hc:∀j v,(TC u.kind so' sn' sc' lo' ln' lc' m' n' s')[j]?=some v->w.cell? ⟨b,off+j,none⟩=some v):Calls prog 29 #[.agg #[.int .i64 8,.slice none 0 0,.slice (some ⟨b,off,none⟩) 1 lc,.int .i64 m,.int .i64 n,.string s]] w λe w'=>∃v:Bool,e=.returned (.bool v)/\(v=true↔m=0\/u.L [])/\Below w.heap.size w w':=by
 obtain⟨i,d,a,c,-⟩:=dS (rfl:w.heap.size=_) (TC 8 none 0 0 (some ⟨b,off,none⟩) 1 lc m n s) 58;replace a:Below _ _ i:=a;have B:i.cell? ⟨w.heap.size,0,none⟩=some (.int .i64 8):=c.cell 0;have D:i.cell? ⟨w.heap.size,2,none⟩=some (.slice (some ⟨b,off,none⟩) 1 lc):=c.cell 2;have H:i.cell? ⟨w.heap.size,3,none⟩=some (.int .i64 m):=c.cell 3;have p:=c.lt;have y:b<i.heap.size:=zF hbl a.size;obtain⟨J,F,z,E,I,C⟩:=oT a hbl hc;have t:=aa (ih i A _ _ _ _ _ _ _ _ _ (aj.below a _ _ hv) hok htl);have f:=aa a;have h:=aa d;clear d a c ih hok hv hc htl;by_cases l:m=0
 ·have r:=aa l;clear l;go_enter func29,ntmps29;go_upto_region 1 with fail;rw[h.out];generalize hS:w.heap.size=S at *;have x:(m==0)=true:=beq_iff_eq.2 r;go_wp2_with fail;go_ret;exact⟨true,rfl,by simp[r.out],by rw[hS];exact f⟩
 ·have x:(m==0)=false:=zD.2 l;go_enter func29,ntmps29;go_upto_region 1 with fail;rw[h.out];generalize hS:w.heap.size=S at *;go_wp2_with fail;refine t.mono ?_;rintro e G ⟨v,rfl,k,g⟩;have o:=aa (f.trans (g.mono (yJ p)));have q:=aa k;clear g k t;go_wp2_with fail;go_ret;exact⟨v,rfl,by rw[<-q.out];simp[l],by rw[hS];exact o⟩
theorem uv:∀{l:List Tm} {t:Tm},t∈l->t.tl<=bw l
 |u::l,t,h=>by
  simp only[bw];rcases zO.1 h with rfl|h
  ·omega
  ·have:=uv h;omega
theorem pZ:∀l:List Tm,12*l.length<=bw l
 | []=>zA _
 |t::l=>by
  have a:=mh t;have b:=pZ l;simp only[bw,zG];omega
theorem cg.one {k:Int}(h:cg w A lo (TC k so sn sc lo' ln lc m n s)):∃b off,lo=some (aD b off)/\A b/\b<w.heap.size/\∀j v,(TC k so sn sc lo' ln lc m n s)[j]?=some v->w.cell? ⟨b,off+j,none⟩=some v:=by
 obtain⟨b,off,e,i,f,_⟩:=h 0 _ rfl;refine⟨b,off,e,i,f,λj v g=>?_⟩;obtain⟨l,c,a,_,_,d⟩:=h j v g;rw[e]at a;injection a with a;injection a with e1 e2;subst e1 e2;exact d
mutual
theorem iR:∀t:Tm,xZ t
 |.none=>λw A y x k r j o m n s _ _ _=>(OR w y x k r j o m n s).mono λe F ⟨C,g⟩=>⟨false,C,by simp[Tm.L],g⟩
 |.empty=>λw A y x k r j o m n s _ _ _=>(LD w y x k r j o m n s).mono λe F ⟨C,g⟩=>⟨true,C,by simp[Tm.L],g⟩
 |.set _=>λw A y x k r j o m n s _ _ _=>(Sm w y x k r j o m n s).mono λe F ⟨C,g⟩=>⟨false,C,by simp[Tm.L],g⟩
 |.row a b=>by
  have Z:=iR a;have G:=iR b;intro w A y x k r j o m n s z d f;obtain⟨D,B,J,ys,L,e,c,hp,Y,_⟩:=z;simp only[Tm.kind,TC,zT,zm,zu,yc,yB,yK]at e;obtain⟨⟨rfl,rfl,rfl⟩,⟨rfl,rfl,rfl⟩,rfl,rfl,rfl⟩:=e;refine (sV (l:=[a,b]) (K:=4) (.inl rfl) c ((aO.one hp).append (aO.one Y)) (λt i=>by simp at i;rcases i with rfl|rfl;exact Z;exact G) (λt i=>by simp at i;rcases i with rfl|rfl;exact d.1;exact d.2) (λt i=>by have M:a.tl+b.tl+12<=8000000000000000000:=f;simp at i;rcases i with rfl|rfl<;>omega) (by simp)).mono ?_;rintro e F ⟨rfl,g⟩;refine⟨_,rfl,?_,g⟩;have H:=qN [a,b];simp only[yZ,zY,yP,H,Tm.L_row,Dc];simp
 |.or l=>by
  have E:=sW l;intro w A y x k r j o m n s z d f;obtain⟨D,B,J,L,e,c,N,_⟩:=z;simp only[Tm.kind,TC,zT,zm,zu,yc,yB,yK]at e;obtain⟨⟨rfl,rfl,rfl⟩,⟨rfl,rfl,rfl⟩,rfl,rfl,rfl⟩:=e;have M:bw l+12<=8000000000000000000:=f;have X:=pZ l;refine (sV (l:=l) (K:=5) (.inr (.inl rfl)) c N E (dO.1 d.1) (λt i=>by have:=uv i;omega) (by omega)).mono ?_;rintro e F ⟨rfl,g⟩;refine⟨_,rfl,?_,g⟩;have H:=qN l;have h4:=Fg l;simp only[yZ,zY,yP,H,h4,Tm.L,qc,yB];refine⟨λh=>h.elim (λh=>?_) id,.inr⟩;cases l with
  |nil=>exact absurd rfl d.2
  |cons t l=>exact⟨t,by simp,h t (by simp)⟩
 |.and l=>by
  have E:=sW l;intro w A y x k r j o m n s z d f;obtain⟨D,B,J,L,e,c,N,_⟩:=z;simp only[Tm.kind,TC,zT,zm,zu,yc,yB,yK]at e;obtain⟨⟨rfl,rfl,rfl⟩,⟨rfl,rfl,rfl⟩,rfl,rfl,rfl⟩:=e;have M:bw l+12<=8000000000000000000:=f;have X:=pZ l;refine (sV (l:=l) (K:=6) (.inr (.inr rfl)) c N E (dO.1 d.1) (λt i=>by have:=uv i;omega) (by omega)).mono ?_;rintro e F ⟨rfl,g⟩;refine⟨_,rfl,?_,g⟩;have H:=qN l;simp only[yZ,zY,yP,H,Tm.L,nK];simp
 |.not u=>by
  have E:=iR u;intro w A y x k r j o m n s z d f;obtain⟨D,B,J,L,e,c,I,_⟩:=z;simp only[Tm.kind,TC,zT,zm,zu,yc,yB,yK]at e;obtain⟨⟨rfl,rfl,rfl⟩,⟨rfl,rfl,rfl⟩,rfl,rfl,rfl⟩:=e;obtain⟨P,Q,S,R,T,V,W,n2,s2,rfl,_⟩:=I.form;obtain⟨b,O,rfl,_,G,U⟩:=c.one;refine (Sn E d (by have M:u.tl+12<=8000000000000000000:=f;omega) G I U).mono ?_;rintro e F ⟨v,rfl,C,g⟩;exact⟨v,rfl,C,g⟩
 |.many u p q=>by
  have E:=iR u;intro w A y x k r j o m n s z d f;obtain⟨D,B,J,L,e,c,I,_⟩:=z;simp only[Tm.kind,TC,zT,zm,zu,yc,yB,yK]at e;obtain⟨⟨rfl,rfl,rfl⟩,⟨rfl,rfl,rfl⟩,rfl,rfl,rfl⟩:=e;obtain⟨P,Q,S,R,T,V,W,n2,s2,rfl,_⟩:=I.form;obtain⟨b,O,rfl,_,G,U⟩:=c.one;refine (OS E d.1 (by have M:u.tl+12<=8000000000000000000:=f;omega) G I U).mono ?_;rintro e F ⟨v,rfl,C,g⟩;refine⟨v,rfl,?_,g⟩;rw[C,Tm.L_many,Db d.2.1 (by have:=d.2.2.2;omega)]
theorem sW:∀l:List Tm,∀t∈l,xZ t
 | [],t,h=>by simp at h
 |u::l,t,h=>by
  have b:=iR u;have a:=sW l;rcases zO.1 h with rfl|h
  ·exact b
  ·exact a t h
end
theorem eO {w:World}{ops:Array Oper}{rest:List Oper}{o:Oper}{a:Act}{Q:Exit->Act->World->Prop}(hgd:o.guard=none)(s x:Operand)(t e:TypeId)(i0:TypeInfo)(z:Value)(size bytes:Nat)
  (ho:o.op=.call { callee:=.builtin .append,args:=#[s,x],argTypes:=#[t,t] }) (hu:prog.underlying t=some (.slice e)) (hi:prog.info? e=some i0) (hz:i0.zero=some z) (hsz:i0.size=size) (hby:i0.bytes=bytes) (hzs:z.cells.size=size) (hpos:0<size)
  (B n:Nat) (v:Value) (xs:LV) (hs:a.eval s=v) (hown:w.ownsRow B e size v n xs)
  (ao:OA) (m c:Nat) (news:LV) (hx:a.eval x=.slice ao m c) (hnone:ao=none->m=0/\c=0) (hl:news.length=m*size) (hnews:∀ad,ao=some ad->∀j u,news[j]?=some u->w.cell? (ad.add j)=some u) (h1:∀u∈news,u.oneCell'=true)
  (h63:n+m<=maxLen) (hn:((n+m)+(n+m) / 4+192)*bytes<=281474976710656) (hB:B<=w.heap.size)
  (h:∀v' w',w'.ownsRow B e size v' (n+m) (xs++news)->w.grownBy w' v.ownBlock->wpList prog ops Q rest (a.put o.dst v') w'):wpList prog ops Q (o::rest) a w:=by
 cases ao with
 |some ad=>exact wpList_append_own_wide w hgd s x t ho B e i0 z size bytes hu hi hz hsz hby hzs hpos v n xs hs hown ad m c news hx hl (hnews ad rfl) h1 h63 hn hB λv' w' d b _=>h v' w' d b
 |none=>
  obtain⟨rfl,rfl⟩:=hnone rfl;have hnews:news=[]:=yf (by simpa using hl);subst hnews;exact wpList_append_own_none hgd s x t ho B e i0 size hu hi v n xs hs hown hx (h v w (by simpa using hown) (World.grownBy.refl _ _))
theorem lM:(prog.info? 58).map (λi=>(i.zero,i.size,i.bytes))=some (some (.agg #[Vi 0,Vz,Vz,Vi 0,Vi 0,.string ⟨#[]⟩]),6,88):=by kernel_rfl
theorem bg {n:Nat}(h:w.ownsRow B e size v n xs)(k:Bw w w'):w'.ownsRow B e size v n xs:=by
 have d:=h.lt;obtain⟨f,c⟩:=h;refine⟨f,?_⟩;rcases c with c|⟨g,a,b,rfl,i,j,r⟩
 ·exact .inl c
 ·exact .inr ⟨g,a,b,rfl,i,(k.block g (d g rfl).2).trans j,r⟩
theorem ij {B' n:Nat}(h:w.ownsRow B e size v n xs)(hb:B'<=B):w.ownsRow B' e size v n xs:=by
 refine⟨h.1,?_⟩;rcases h.2 with d|⟨g,a,b,e,c,r⟩
 ·exact .inl d
 ·exact .inr ⟨g,a,b,e,zJ hb c,r⟩
theorem cd {n:Nat}(h:w.ownsRow B e size v n xs):∃ao cap,v=.slice ao n cap:=by
 rcases h.2 with⟨rfl,rfl⟩|⟨g,cap,a,rfl,_⟩<;>exact⟨_,_,rfl⟩
theorem cD {w1:World}{n:Nat}(hb:Below B w W)(hB:B<=W.heap.size)(ho:W.ownsRow B e size v n xs)(hg:W.grownBy w1 v.ownBlock):Below B w w1:=hb.grown hg hB λk e=>(ho.lt k e).1
theorem fN {n:Nat}(h:w.ownsRow B 58 6 (.slice lo n cap) n xs):cg w (λg=>B<=g) lo xs:=λj u a=>by
 rcases h.2 with⟨k,i⟩|⟨g,b,f,e,d,l,r⟩
 ·have:=h.1;rw[i,Nat.zero_mul]at this;rw[yf this]at a;simp at a
 ·injection e with e1 e2 e3;subst e1 e3;have c:=h.cells (g:=g) rfl j u a;rw[zl]at c;exact⟨g,0,rfl,d,(h.lt g rfl).2,c⟩
theorem Rb {n:Nat}(h:w.ownsRow B 58 6 (.slice lo n cap) n xs):n<=cap/\(lo=none->n=0/\cap=0):=by
 rcases h.2 with⟨b,d⟩|⟨g,a,c,e,f,i,r,_⟩
 ·injection b with e1 e2 e3;subst e1 e3;exact⟨by omega,λ_=>⟨d,rfl⟩⟩
 ·injection e with e1 e2 e3;subst e1 e3;exact⟨r,λe=>by cases e⟩
theorem sD (k:Int)(so:OA)(sn sc:Nat)(lo:OA)(ln lc:Nat)(m n:Int)(s:ByteArray):∀u∈TC k so sn sc lo ln lc m n s,u.oneCell'=true:=by
 intro u a;simp[TC]at a;rcases a with rfl|rfl|rfl|rfl|rfl|rfl<;>rfl
theorem aO.ones {A:NP}{w:World}:∀{l:List Tm} {xs:LV},aO w A l xs->∀u∈xs,u.oneCell'=true
 | [],_,h=>by rw[show _=[]from h];simp
 |t::l,_,h=>by
  obtain⟨c,r,rfl,b,d⟩:=h;obtain⟨k,e,i,f,j,g,m,n,s,rfl,_⟩:=b.form;intro u a;rcases zM.1 a with a|a
  ·exact sD _ _ _ _ _ _ _ _ _ _ u a
  ·exact aO.ones d u a
theorem cg.get (hr:cg w A lo xs)(hl:aO w A' l xs)(hi:l[i]?=some t):∃b off c,lo=some (aD b off)/\b<w.heap.size/\aj w A' t c/\∀j v,c[j]?=some v->w.cell? ⟨b,off+i*6+j,none⟩=some v:=by
 obtain⟨c,d,k⟩:=hl.at hi;have p:∃v,c[0]?=some v:=⟨_,zB (by rw[d.len];decide)⟩;obtain⟨q,f⟩:=p;obtain⟨b,off,e,s,n,_⟩:=hr (6*i+0) q (by rw[k 0 (by decide)];exact f);refine⟨b,off,c,e,n,d,λj v h=>?_⟩;have g:j<6:=by have:=(zC.1 h).1;rw[d.len]at this;exact this
 obtain⟨r,m,a,_,_,o⟩:=hr (6*i+j) v (by rw[k j g];exact h);rw[e]at a;injection a with a;injection a with e1 e2;subst e1 e2;rw[show off+i*6+j=off+(6*i+j) by omega];exact o
theorem kE {a b:ByteArray}(h:a.toList=b.toList):af a=af b:=by
 unfold af;rw[<-Lib.toList_data,<-Lib.toList_data,h]
theorem El (hr:cg w A lo xs)(k:Nat):∀ad,lo=some ad->∀j u,(xs.take k)[j]?=some u->w.cell? (ad.add j)=some u:=λad e j u c=>by
 have h:xs[j]?=some u:=by
  have d:=(zC.1 c).1;rw[yn]at d;rw[List.getElem?_take_of_lt (by omega)]at c;exact c
 obtain⟨b,f,a,_,_,g⟩:=hr j u h;rw[e]at a;injection a with a;subst a;rw[zl];exact g
theorem Rc (hr:cg w A lo xs){k n:Nat}(hn:xs.length=6*n)(hc:n<=cap){ao:OA}(hao:¬cap=k->∀b off,lo=some (aD b off)->ao=some ⟨b,off+k*6,none⟩):∀ad,ao=some ad->∀j u,(xs.drop (6*k))[j]?=some u->w.cell? (ad.add j)=some u:=λad e j u a=>by
 rw[List.getElem?_drop]at a;have d:=(zC.1 a).1;obtain⟨b,off,c,_,_,hc⟩:=hr _ u a;rw[hao (by omega) b off c]at e;injection e with e;subst e;rw[zl,show off+k*6+j=off+(6*k+j) by omega];exact hc
def Ym (w:World)(B:Nat)(A:Nat->Prop)(ts:List Tm)(t:Tm)(e:Ending)(w':World):Prop:=∃v' ts' xs',e=.returned v'/\w'.ownsRow B 58 6 v' ts'.length xs'/\aO w' A ts' xs'/\(∀y,y∈ts'↔y∈ts\/y=t)/\bw ts'<=bw ts+t.tl/\bd ts'<=bd ts+t.z/\Below w.heap.size w w'
theorem UZ (k:Nat)(y:Tm):y∈ts.take k++t::ts.drop k↔y∈ts\/y=t:=by
 have h:y∈ts↔y∈ts.take k\/y∈ts.drop k:=by rw[<-zM,zj]
 simp only[zM,zO,h];constructor
 ·rintro (h|h|h)
  ·exact .inl (.inl h)
  ·exact .inr h
  ·exact .inl (.inr h)
 ·rintro ((h|h)|h)
  ·exact .inl h
  ·exact .inr (.inr h)
  ·exact .inr (.inl h)
theorem Va (k:Nat):bw (ts.take k++t::ts.drop k)=bw ts+t.tl:=by
 have h:bw ts=bw (ts.take k)+bw (ts.drop k):=by rw[<-ez,zj]
 rw[ez,h];simp only[bw];omega
theorem Vb (k:Nat):bd (ts.take k++t::ts.drop k)=bd ts+t.z:=by
 have h:bd ts=bd (ts.take k)+bd (ts.drop k):=by rw[<-dV,zj]
 rw[dV,h];simp only[bd];omega
theorem Ek {lo0:OA}{cap0:Nat}(hB:B<=w.heap.size)
  (hown:w.ownsRow B 58 6 (.slice lo0 ts.length cap0) ts.length xs) (hl:aO w A ts xs) (hokl:dW ts) (hv:aj w A t (TC K so sn sc lo ln lc m n s)) (hok:t.Ok) (hlen:ts.length<=2000000000000):Calls prog 60 #[.slice lo0 ts.length cap0,.agg #[.int .i64 K,.slice so sn sc,.slice lo ln lc,.int .i64 m,.int .i64 n,.string s]] w (Ym w B A ts t):=by
 obtain⟨H,c0,q,c5,-⟩:=dS (rfl:w.heap.size=_) (TC K so sn sc lo ln lc m n s) 58;replace q:Below _ _ H:=q;have a8:=aa (show af s=t.key from by obtain⟨c8,b9,b7,a9,c1,c7,m',n',s',e,h⟩:=hv.form;injection e with _ e;injection e with _ e;injection e with _ e;injection e with _ e;injection e with _ e;injection e with e _;injection e with e;rw[e];exact h);obtain⟨b0,z⟩:=Rb hown;have HR:=aa (((fN hown).mono (A':=λg=>B<=g/\g<w.heap.size) (λg I h2=>⟨h2,I⟩)).below q);have HO:=aa (bg hown q);have f8:=aa hown;have HL:=aa (aO.below q _ _ hl);have HV:=aa (aj.below q _ _ hv);have HX:=aa c5;have d8:=aa hl;have e3:=aa hv;have d0:=aa q;have d7:=aa c0;have d6:=aa hok;have b8:=aa hokl;have b1:=aa z;have HB:=aa hB;have b4:=aa b0;clear c0 q c5 hown hl hv hok hokl z hB;obtain⟨i0,hi,Q,Y,M⟩:=zz lM;go_enter func60,ntmps60;go_upto_region 1 with fail;rw[d7.out];generalize hS:w.heap.size=S at *;go_wp2_with fail
 go_loopw [5] (λi wr=>∃k:Nat,k<=ts.length/\i=.int .i64 k/\Below H.heap.size H wr) (λi _=>ts.length-(intOf i).toNat)
 case atStart=>exact⟨0,zW _,rfl,zE _ _⟩
 case round=>
  obtain⟨k,hk,rfl,d⟩:=hrel;go_upto_region 2 with fail;have a:=HX.out.below d;have b5:wr.cell? ⟨S,5,none⟩=some (.string s):=a.cell 5;have G:=a.lt;have l:=aa d;have O:=aa a
  go_cut [20] (λv wx=>∃b:Bool,v=.bool b/\(b=true->k<ts.length)/\∃n,wx=wr.drewN n)
  case first=>
   have i1:(0:Int)<=(k:Int):=zK _;by_cases x:k<ts.length
   ·obtain⟨b,D,c,rfl,hb,hv,hc⟩:=(HR.out.below d).get (aO.below d _ _ HL.out) (zB x);obtain⟨c8,b9,b7,a9,c1,c7,m',n',s',rfl,_⟩:=hv.form;have y5:wr.cell? ⟨b,D+k*6+5,none⟩=some (.string s'):=hc 5 _ rfl;have i2:(k:Int)<(ts.length:Int):=by omega
    clear hv hc d a
    go_quiet (fail)
    go_wp2_with fail
    go_meet
    case rel=>exact⟨_,rfl,λ_=>x,_,rfl⟩
   ·have hd:decide ((k:Int)<(ts.length:Int))=false:=by simp;omega
    clear d a
    go_quiet (fail)
    go_wp2_with fail
    go_meet
    case rel=>exact⟨false,rfl,(λh=>by cases h),_,rfl⟩
  case rest=>
   obtain⟨b,rfl,r,nq,rfl⟩:=hcut;clear d a b5 G;cases b with
   |true=>
    have x:=r rfl;have i1:(0:Int)<=(k:Int):=zK _;go_wp2_with fail
    go_roundw
    case rel=>exact⟨k+1,by omega,by go_num,aR l.out⟩
    case measure=>simp[intOf];omega
   |false=>
    clear r;obtain⟨V,hV⟩:∃V,wr.drewN nq=V:=⟨_,rfl⟩;have p:Below H.heap.size H V:=by rw[<-hV];exact aR l.out
    rw[hV];clear hV l O;go_wp2_with fail;have a:=HX.out.below p;have b5:V.cell? ⟨S,5,none⟩=some (.string s):=a.cell 5;have G:=a.lt;have l:=aa p;have O:=aa a
    go_cut [36] (λv wx=>∃b:Bool,v=.bool b/\(b=true->t∈ts)/\∃n,wx=V.drewN n)
    case first=>
     have i1:(0:Int)<=(k:Int):=zK _;by_cases x:k<ts.length
     ·obtain⟨b,D,c,rfl,hb,hv,hc⟩:=(HR.out.below p).get (aO.below p _ _ HL.out) (zB x);obtain⟨c8,b9,b7,a9,c1,c7,m',n',s',rfl,a7⟩:=hv.form;have y5:V.cell? ⟨b,D+k*6+5,none⟩=some (.string s'):=hc 5 _ rfl;have i2:(k:Int)<(ts.length:Int):=by omega
      have e9:=aa a7;clear hv hc p a a7
      go_quiet (fail)
      go_wp2_with fail
      go_meet
      case rel=>exact⟨_,rfl,(λh=>by
       have e:af s'=af s:=kE (by simpa using h);have I:=xE x;have h2:=nL (dO.1 b8.out _ I) d6.out (by rw[<-e9.out,<-a8.out,e]);rw[<-h2];exact I),_,rfl⟩
     ·have hd:decide ((k:Int)<(ts.length:Int))=false:=by simp;omega
      clear p a
      go_quiet (fail)
      go_wp2_with fail
      go_meet
      case rel=>exact⟨false,rfl,(λh=>by cases h),_,rfl⟩
    case rest=>
     obtain⟨b,rfl,r,nq,rfl⟩:=hcut;clear p a b5 G;cases b with
     |true=>
      have c9:=aa (r rfl);clear r;go_wp2_with fail;go_ret;have T:Below H.heap.size H (V.drewN nq):=aR l.out;exact⟨_,ts,xs,rfl,bg HO.out T,aO.below T _ _ HL.out,λy=>⟨.inl,λh=>h.elim id (λe=>e▸c9.out)⟩,Nat.le_add_right _ _,Nat.le_add_right _ _,by rw[hS];exact d0.out.trans (T.mono (by have:=HX.out.lt;omega))⟩
     |false=>
      clear r;obtain⟨W1,Z⟩:∃W1,V.drewN nq=W1:=⟨_,rfl⟩;have E:Below H.heap.size H W1:=by rw[<-Z];exact aR l.out
      have e8:=aa E;have b3:=aa (HX.out.below E);have c2:=aa (HR.out.below E);have R:=aa HL.out.len;rw[Z];clear Z l O E;have G:=b3.out.lt;have i1:(0:Int)<=(k:Int):=zK _;have i2:(k:Int)<=(ts.length:Int):=by omega
      have i3:(ts.length:Int)<=(cap0:Int):=by omega
      go_upto_region 7 with fail;go_upto_region 8 with (at_builtin;refine eO rfl (.tmp 38) (.tmp 41) 56 58 i0 _ 6 88 rfl underlying56 hi Q Y M rfl (by decide) (S+1) 0 _ [] rfl (zZ _ _ _ _) _ k _ (xs.take (6*k)) rfl (λe=>by obtain⟨I,h2⟩:=b1.out e;exact⟨by omega,by omega⟩) (by rw[yn,R.out];omega) (El c2.out _) (λu hu=>HL.out.ones u (yi hu)) (by unfold maxLen;omega) (by omega) (by omega) ?_;intro v2 w2 f C);have L:Below (S+1) W1 w2:=cD (v:=.slice none 0 0) (n:=0) (xs:=[]) (zE _ _) (by omega) (zZ _ _ 58 6) C;rw[zd,zf]at f;have F:ag w2 S (TC K so sn sc lo ln lc m n s) 58:=(L.block S (xC _)).trans b3.out;obtain⟨f4,f1,rfl⟩:=cd f;have f5:=aa F;have e7:=aa f;have d4:=aa L;have f3:=aa C;obtain⟨a0,a1,a2,a3,a4,a5⟩:=F.six;have f2:=F.lt;clear F f L C;obtain⟨W3,b2,U,a6,-⟩:=dS (rfl:w2.heap.size=_) (TC K so sn sc lo ln lc m n s) 58;replace U:Below _ _ W3:=U;have c4:=aa (bg e7.out U);have e0:=aa a6;have e4:=aa b2;have d9:=aa U;have f6:w2.heap.size<W3.heap.size:=a6.lt;clear b2 U a6;go_upto_region 9 with (at_builtin;rw[e4.out];refine eO rfl (.tmp 43) (.tmp 45) 56 58 i0 _ 6 88 rfl underlying56 hi Q Y M rfl (by decide) (S+1) k _ _ rfl c4.out _ 1 _ (TC K so sn sc lo ln lc m n s) rfl (λe=>by cases e) rfl (λad e j u hj=>by injection e with e;subst e;rw[zl,zf,e0.out.cell];exact hj) (sD _ _ _ _ _ _ _ _ _ _) (by unfold maxLen;omega) (by omega) (by omega) ?_;intro v4 w4 o J);have c3:S+1<=W3.heap.size:=by omega
      have W:Below (S+1) W3 w4:=cD (zE _ _) c3 c4.out J;obtain⟨f7,f0,rfl⟩:=cd o;have X:Hid (Below (S+1) W1 w4):=(d4.out.trans (d9.out.mono (by omega))).trans W;have b6:=aa o;have d3:S+1<=w4.heap.size:=zJ c3 W.size;have e5:Hid (cg w4 (λg=>B<=g/\g<S) lo0 xs):=c2.out.keep ⟨X.out.size,λg I h2=>X.out.block g (Nat.lt_succ_of_lt h2.2)⟩;clear o J W a0 a1 a2 a3 a4 a5;go_wp2_with (at_builtin;refine eO rfl (.tmp 47) (.tmp 50) 56 58 i0 _ 6 88 rfl underlying56 hi Q Y M rfl (by decide) (S+1) (k+1) _ _ rfl b6.out _ (ts.length-k) _ (xs.drop (6*k)) rfl (λe=>by have I:=b1.out (by first|exact e|(split at e;exact e;simpa using e)|simpa using e);obtain⟨h2,h3⟩:=I;exact⟨by omega,by omega⟩) (by rw[yO,R.out];omega) (Rc e5.out (n:=ts.length) (cap:=cap0) R.out b4.out (by intro e6 b D e;simp[e6,e,Addr.add])) (λu hu=>HL.out.ones u (List.mem_of_mem_drop hu)) (by unfold maxLen;omega) (by omega) (by omega) ?_;intro v5 w5 N d1)
      all_goals
       go_ret;have e2:Below (S+1) w4 w5:=cD (zE _ _) d3 b6.out d1;have e1:Below (S+1) W1 w5:=X.out.trans e2;have d2:Below S w w5:=(d0.out.trans (e8.out.mono (by have:=HX.out.lt;omega))).trans (e1.mono (yN _));have P:Below w.heap.size w w5:=by rw[hS];exact d2
       have c6:aO w5 A ts xs:=aO.below P _ _ d8.out;have d5:aj w5 A t (TC K so sn sc lo ln lc m n s):=aj.below P _ _ e3.out;refine⟨v5,ts.take k++t::ts.drop k,(xs.take (6*k)++TC K so sn sc lo ln lc m n s)++xs.drop (6*k),rfl,?_,?_,UZ k,Nat.le_of_eq (Va k),Nat.le_of_eq (Vb k),P⟩
       ·have e:(ts.take k++t::ts.drop k).length=k+1+(ts.length-k):=by simp;omega
        rw[e];exact ij (by simpa [zc]using N) (by have:=HB.out;omega)
       ·have h:=(c6.take k).append ((aO.one d5).append (c6.drop k));simpa [zc]using h
theorem vh (hok:dW l)(h:bw l<=4000000000000000000):40+20*([]:LQ).length+10*(l.map Tm.key).length+((l.map Tm.key).flatMap cU).length<=9000000000000000000:=by
 have a:=qU hok;have b:=pZ l;rw[rf,ym];simp;omega
theorem Sf (s0:ByteArray)(hr:cg w A lo xs)(hl:aO w A l xs)(hok:dW l)(htl:bw l<=4000000000000000000):Calls prog 33 #[.agg #[Vi 5,Vz,.slice lo l.length lc,Vi 0,Vi 0,.string s0]] w λe w'=>∃s,e=.returned (.agg #[Vi 5,Vz,.slice lo l.length lc,Vi 0,Vi 0,.string s])/\aj w' A (.or l) (TC 5 none 0 0 lo l.length lc 0 0 s)/\Bw w w':=by
 have c:=gF 5 none 0 [] lo lc (l.map Tm.key) 0 0 s0 w (by decide) (λi x a=>by simp at a) (λx a=>by simp at a) (by decide) (by decide) (nQ hr hl) (vh hok htl);rw[ym]at c;refine c.mono ?_;rintro e w' ⟨s,rfl,d,b⟩;refine⟨s,rfl,⟨lo,lc,xs,s,rfl,hr.below b,aO.below b _ _ hl,?_⟩,b⟩;rw[d,kt (by decide) (by decide),rf];simp[fM,Tm.key]
theorem ON (s0:ByteArray)(hr:cg w A lo xs)(hl:aO w A l xs)(hok:dW l)(htl:bw l<=4000000000000000000):Calls prog 33 #[.agg #[Vi 6,Vz,.slice lo l.length lc,Vi 0,Vi 0,.string s0]] w λe w'=>∃s,e=.returned (.agg #[Vi 6,Vz,.slice lo l.length lc,Vi 0,Vi 0,.string s])/\aj w' A (.and l) (TC 6 none 0 0 lo l.length lc 0 0 s)/\Bw w w':=by
 have c:=gF 6 none 0 [] lo lc (l.map Tm.key) 0 0 s0 w (by decide) (λi x a=>by simp at a) (λx a=>by simp at a) (by decide) (by decide) (nQ hr hl) (vh hok htl);rw[ym]at c;refine c.mono ?_;rintro e w' ⟨s,rfl,d,b⟩;refine⟨s,rfl,⟨lo,lc,xs,s,rfl,hr.below b,aO.below b _ _ hl,?_⟩,b⟩;rw[d,kt (by decide) (by decide),rf];simp[fM,Tm.key]
def Tm.parts (K:Int):Tm->List Tm
 |.or l=>if K=5 then l else[.or l]
 |.and l=>if K=6 then l else[.and l]
 |t=>[t]
def ei (K:Int):List Tm->List Tm
 | []=>[]
 |t::l=>t.parts K++ei K l
theorem sU (K:Int):∀l m:List Tm,ei K (l++m)=ei K l++ei K m
 | [],m=>rfl
 |t::l,m=>by simp only[zV,ei,sU K l m,zc]
theorem LC (h:t.kind≠K):t.parts K=[t]:=by
 cases t<;>simp only[Tm.parts]<;>first|rfl|(simp only[Tm.kind]at h;rw[zR (λe=>h e.symm)])
theorem Fb (h:t.Ok):dW (t.parts K):=by
 cases t<;>simp only[Tm.parts]<;>first|exact⟨h,trivial⟩|(split;exact h.1;exact⟨h,trivial⟩)
theorem Sg :bw (t.parts K)<=t.tl:=by
 cases t<;>simp only[Tm.parts]<;>first|(simp[bw];done)|(split<;>simp[bw,Tm.tl])
theorem Jm :bd (t.parts K)<=t.z:=by
 cases t<;>simp only[Tm.parts]<;>first|(simp[bd];done)|(split<;>simp[bd,Tm.z];omega)
theorem Fc {K:Int}:∀{l:List Tm},dW l->dW (ei K l)
 | [],_=>trivial
 |t::l,h=>by rw[ei,LX];exact⟨Fb h.1,Fc h.2⟩
theorem Fd {K:Int}:∀l:List Tm,bw (ei K l)<=bw l
 | []=>zA _
 |t::l=>by
  have a:=Fd (K:=K) l;have b:=Sg (K:=K) (t:=t);rw[ei,ez];simp only[bw];omega
theorem Jn {K:Int}:∀l:List Tm,bd (ei K l)<=bd l
 | []=>zA _
 |t::l=>by
  have a:=Jn (K:=K) l;have b:=Jm (K:=K) (t:=t);rw[ei,dV];simp only[bd];omega
theorem ko:∀l:List Tm,l.length<=bd l
 | []=>zA _
 |t::l=>by
  have a:=ko l;have b:=fE t;simp only[bd,zG];omega
theorem Sh {u:LZ}:kI (t.parts 5) u↔t.L u:=by
 cases t<;>simp only[Tm.parts]<;>simp[kI,Tm.L]
theorem OO {u:LZ}:iz (t.parts 6) u↔t.L u:=by
 cases t<;>simp only[Tm.parts]<;>simp[iz,Tm.L]
theorem Fe:∀{l:List Tm} {u:LZ},kI (ei 5 l) u↔kI l u
 | [],u=>Iff.rfl
 |t::l,u=>by
  have c:=Fe (l:=l) (u:=u);have b:=Sh (t:=t) (u:=u);rw[qc]at c b ⊢;simp only[ei,zM,kI];rw[<-c,<-b];constructor
  ·rintro⟨y,h|h,a⟩
   ·exact .inl ⟨y,h,a⟩
   ·exact .inr ⟨y,h,a⟩
  ·rintro (⟨y,h,a⟩|⟨y,h,a⟩)
   ·exact⟨y,.inl h,a⟩
   ·exact⟨y,.inr h,a⟩
theorem Cu:∀{l:List Tm} {u:LZ},iz (ei 6 l) u↔iz l u
 | [],u=>Iff.rfl
 |t::l,u=>by
  have c:=Cu (l:=l) (u:=u);have b:=OO (t:=t) (u:=u);rw[nK]at c b ⊢;simp only[ei,zM,iz];rw[<-c,<-b];exact⟨λh=>⟨λy a=>h y (.inl a),λy a=>h y (.inr a)⟩,λh y a=>a.elim (h.1 y) (h.2 y)⟩
structure SomeG (K:Int)(l:List Tm)(t:Tm):Prop where
 ok:t.Ok
 or:K=5->∀u,t.L u↔kI l u
 and:K=6->∀u,t.L u↔iz l u
 z:t.z<=max 1 (bd l)
 tl:t.tl<=bw l+12
structure OutT (K:Int)(l:List Tm)(i:Nat)(ex ts:List Tm):Prop where
 mem:∀y,y∈ts↔y∈ei K (l.take i)\/y∈ex
 tl:bw ts<=bw (ei K (l.take i))+bw ex
 z:bd ts<=bd (ei K (l.take i))+bd ex
theorem OutT.start (K:Int)(l:List Tm):OutT K l 0 [] []:=⟨λy=>by simp[ei],by simp[bw],by simp[bd]⟩
theorem OutT.step {ts':List Tm}(h:OutT K l i ex ts)(hm:∀y,y∈ts'↔y∈ts\/y=t)(ht:bw ts'<=bw ts+t.tl)(hz:bd ts'<=bd ts+t.z):OutT K l i (ex++[t]) ts':=by
 refine⟨λy=>?_,?_,?_⟩
 ·rw[hm,h.mem,zM,yQ,or_assoc]
 ·have:=h.tl;rw[ez];simp only[bw];omega
 ·have:=h.z;rw[dV];simp only[bd];omega
theorem OutT.next (hi:l[i]?=some t)(h:OutT K l i (t.parts K) ts):OutT K l (i+1) [] ts:=by
 have e:ei K (l.take (i+1))=ei K (l.take i)++t.parts K:=by
  rw[zi,hi,sU];simp[ei]
 refine⟨λy=>?_,?_,?_⟩
 ·rw[h.mem,e];simp
 ·have:=h.tl;rw[e,ez];simp only[bw];omega
 ·have:=h.z;rw[e,dV];simp only[bd];omega
theorem Si (i:Nat):bw (l.take i)<=bw l:=by
 have h:bw l=bw (l.take i)+bw (l.drop i):=by rw[<-ez,zj]
 omega
theorem wD (i:Nat):bd (l.take i)<=bd l:=by
 have h:bd l=bd (l.take i)+bd (l.drop i):=by rw[<-dV,zj]
 omega
theorem OutT.ok (h:OutT K l i ex ts)(hl:dW l)(he:dW ex):dW ts:=by
 rw[dO];intro y b;rcases (h.mem y).1 b with a|a
 ·exact dO.1 (Fc (K:=K) (dO.2 λt c=>dO.1 hl t (yi c))) y a
 ·exact dO.1 he y a
theorem OutT.zle (h:OutT K l i ex ts):bd ts<=bd (l.take i)+bd ex:=by
 have a:=h.z;have b:=Jn (K:=K) (l.take i);omega
theorem OutT.tle (h:OutT K l i ex ts):bw ts<=bw (l.take i)+bw ex:=by
 have a:=h.tl;have b:=Fd (K:=K) (l.take i);omega
structure KeepT (ts:List Tm)(zt ot:Tm)(j:Nat)(ks:List Tm):Prop where
 mem:∀y,y∈ks↔y∈ts.take j/\y≠zt
 no:∀y∈ts.take j,y≠ot
 tl:bw ks<=bw (ts.take j)
 z:bd ks<=bd (ts.take j)
theorem KeepT.start (ts:List Tm)(zt ot:Tm):KeepT ts zt ot 0 []:=⟨λy=>by simp,λy a=>by simp at a,zA _,zA _⟩
theorem KeepT.skip (h:KeepT ts zt ot j ks)(hj:ts[j]?=some y)(h1:y=zt)(h2:y≠ot):KeepT ts zt ot (j+1) ks:=by
 have e:ts.take (j+1)=ts.take j++[y]:=by rw[zi,hj];rfl
 refine⟨λx=>?_,λx c=>?_,?_,?_⟩
 ·rw[h.mem,e,zM,yQ];constructor
  ·rintro⟨a,b⟩;exact⟨.inl a,b⟩
  ·rintro⟨a|a,b⟩
   ·exact⟨a,b⟩
   ·exact absurd (a.trans h1) b
 ·rw[e,zM,yQ]at c;rcases c with c|rfl
  ·exact h.no x c
  ·exact h2
 ·have:=h.tl;rw[e,ez];omega
 ·have:=h.z;rw[e,dV];omega
theorem KeepT.put (h:KeepT ts zt ot j ks)(hj:ts[j]?=some y)(h1:y≠zt)(h2:y≠ot):KeepT ts zt ot (j+1) (ks++[y]):=by
 have e:ts.take (j+1)=ts.take j++[y]:=by rw[zi,hj];rfl
 refine⟨λx=>?_,λx c=>?_,?_,?_⟩
 ·rw[zM,h.mem,e,zM,yQ];constructor
  ·rintro (⟨a,b⟩|rfl)
   ·exact⟨.inl a,b⟩
   ·exact⟨.inr rfl,h1⟩
  ·rintro⟨a|a,b⟩
   ·exact .inl ⟨a,b⟩
   ·exact .inr a
 ·rw[e,zM,yQ]at c;rcases c with c|rfl
  ·exact h.no x c
  ·exact h2
 ·have:=h.tl;rw[e,ez,ez];omega
 ·have:=h.z;rw[e,dV,dV];omega
theorem KeepT.ok (h:KeepT ts zt ot j ks)(hts:dW ts):dW ks:=by
 rw[dO];intro y a;exact dO.1 hts y (yi ((h.mem y).1 a).1)
def dw (K:Int):Tm:=if K=6 then .not .none else .none
def eK (K:Int):Tm:=if K=6 then .none else .not .none
theorem pz (hl:l≠[])(h:OutT K l l.length [] ts):bd ts<=bd l/\bw ts<=bw l/\12<=bw l:=by
 have a:=h.zle;have b:=h.tle;rw[zQ]at a b;simp only[bw,bd]at a b;refine⟨by omega,by omega,?_⟩;have:=pZ l;have:=List.length_pos_iff.2 hl;omega
theorem Ff :(dw K).Ok/\(dw K).z=1/\(dw K).tl<=24:=by
 unfold dw;split<;>exact⟨trivial,rfl,by decide⟩
theorem Jo :(eK K).Ok/\(eK K).z=1/\(eK K).tl<=24:=by
 unfold eK;split<;>exact⟨trivial,rfl,by decide⟩
theorem OP (h:OutT 5 l l.length [] ts)(u:LZ):kI l u↔∃t∈ts,t.L u:=by
 rw[<-Fe,qc];constructor
 ·rintro⟨t,b,c⟩;exact⟨t,(h.mem t).2 (.inl (by rw[zQ];exact b)),c⟩
 ·rintro⟨t,b,c⟩;rcases (h.mem t).1 b with a|a
  ·rw[zQ]at a;exact⟨t,a,c⟩
  ·simp at a
theorem Jp (h:OutT 6 l l.length [] ts)(u:LZ):iz l u↔∀t∈ts,t.L u:=by
 rw[<-Cu,nK];constructor
 ·intro c t b;rcases (h.mem t).1 b with a|a
  ·rw[zQ]at a;exact c t a
  ·simp at a
 ·intro c t b;exact c t ((h.mem t).2 (.inl (by rw[zQ];exact b)))
theorem Sj (hK:K=5\/K=6)(hl:l≠[])(h:OutT K l l.length [] ts)(hm:eK K∈ts):SomeG K l (eK K):=by
 obtain⟨f,d,e⟩:=pz hl h;obtain⟨b,g,c⟩:=Jo (K:=K);refine⟨b,?_,?_,by omega,by omega⟩
 ·rintro rfl u;rw[OP h];exact⟨λa=>⟨_,hm,a⟩,λ_=>by simp[eK,Tm.L]⟩
 ·rintro rfl u;rw[Jp h];constructor
  ·intro a;simp[eK,Tm.L]at a
  ·intro a;exact a _ hm
theorem Bu (h:OutT 5 l l.length [] ts)(hk:KeepT ts (dw 5) (eK 5) ts.length ks)(u:LZ):kI l u↔∃t∈ks,t.L u:=by
 rw[OP h];constructor
 ·rintro⟨t,b,a⟩;exact⟨t,(hk.mem t).2 ⟨by rw[zQ];exact b,λe=>by rw[e]at a;simp[dw,Tm.L]at a⟩,a⟩
 ·rintro⟨t,b,a⟩;have:=((hk.mem t).1 b).1;rw[zQ]at this;exact⟨t,this,a⟩
theorem wE (h:OutT 6 l l.length [] ts)(hk:KeepT ts (dw 6) (eK 6) ts.length ks)(u:LZ):iz l u↔∀t∈ks,t.L u:=by
 rw[Jp h];constructor
 ·intro b t a;have:=((hk.mem t).1 a).1;rw[zQ]at this;exact b t this
 ·intro b t a;by_cases e:t=dw 6
  ·rw[e];simp[dw,Tm.L]
  ·exact b t ((hk.mem t).2 ⟨by rw[zQ];exact a,e⟩)
theorem OQ (hK:K=5\/K=6)(hl:l≠[])(h:OutT K l l.length [] ts)(hk:KeepT ts (dw K) (eK K) ts.length []):SomeG K l (dw K):=by
 obtain⟨f,c,d⟩:=pz hl h;obtain⟨a,e,b⟩:=Ff (K:=K);refine⟨a,?_,?_,by omega,by omega⟩
 ·rintro rfl u;rw[Bu h hk];simp[dw,Tm.L]
 ·rintro rfl u;rw[wE h hk];simp[dw,Tm.L]
theorem pA (hl:l≠[])(h:OutT K l l.length [] ts)(hk:KeepT ts (dw K) (eK K) ts.length ks):bd ks<=bd l/\bw ks<=bw l:=by
 obtain⟨e,c,d⟩:=pz hl h;have b:=hk.z;have a:=hk.tl;rw[zQ]at b a;exact⟨by omega,by omega⟩
theorem Hr (hK:K=5\/K=6)(hl:l≠[])(hok:dW l)(h:OutT K l l.length [] ts)(hk:KeepT ts (dw K) (eK K) ts.length [y]):SomeG K l y:=by
 obtain⟨b,a⟩:=pA hl h hk;simp only[bd,bw]at b a;refine⟨(hk.ok (h.ok hok trivial)).1,?_,?_,by omega,by omega⟩
 ·rintro rfl u;rw[Bu h hk];simp
 ·rintro rfl u;rw[wE h hk];simp
theorem VF (hl:l≠[])(hok:dW l)(h:OutT 5 l l.length [] ts)(hk:KeepT ts (dw 5) (eK 5) ts.length ks)(hne:ks≠[]):SomeG 5 l (.or ks):=by
 obtain⟨b,a⟩:=pA hl h hk;refine⟨⟨hk.ok (h.ok hok trivial),hne⟩,?_,(λe=>by cases e),?_,?_⟩
 ·rintro-u;rw[Bu h hk,<-qc];simp[Tm.L]
 ·simp only[Tm.z];omega
 ·simp only[Tm.tl];omega
theorem Sk (hl:l≠[])(hok:dW l)(h:OutT 6 l l.length [] ts)(hk:KeepT ts (dw 6) (eK 6) ts.length ks)(hne:ks≠[]):SomeG 6 l (.and ks):=by
 obtain⟨b,a⟩:=pA hl h hk;refine⟨⟨hk.ok (h.ok hok trivial),hne⟩,(λe=>by cases e),?_,?_,?_⟩
 ·rintro-u;rw[wE h hk,<-nK];simp[Tm.L]
 ·simp only[Tm.z];omega
 ·simp only[Tm.tl];omega
theorem ag.sixS {c0 c1 c2 c3 c4 c5:Value}{T:TypeId}(h:ag w b [c0,c1,c2,c3,c4,c5] T)(a0 a1 a2 a3 a4 a5:Value):ag ((((((w.setCell (aD b 0) a0).setCell (aD b 1) a1).setCell (aD b 2) a2).setCell (aD b 3) a3).setCell (aD b 4) a4).setCell (aD b 5) a5) b [a0,a1,a2,a3,a4,a5] T :=
 (((((h.set 0 a0).set 1 a1).set 2 a2).set 3 a3).set 4 a4).set 5 a5
theorem ag.sixOther {c:Nat}{T:TypeId}(h:ag w c cs T)(hne:c≠b)(a0 a1 a2 a3 a4 a5:Value):ag ((((((w.setCell (aD b 0) a0).setCell (aD b 1) a1).setCell (aD b 2) a2).setCell (aD b 3) a3).setCell (aD b 4) a4).setCell (aD b 5) a5) c cs T :=
 (((((h.setOther (p:=(aD b 0)) hne a0).setOther (p:=(aD b 1)) hne a1).setOther (p:=(aD b 2)) hne a2).setOther (p:=(aD b 3)) hne a3).setOther (p:=(aD b 4)) hne a4).setOther (p:=(aD b 5)) hne a5
theorem fV {S:Nat}(h:Below S w W)(hb:S<=b)(a0 a1 a2 a3 a4 a5:Value):Below S w ((((((W.setCell (aD b 0) a0).setCell (aD b 1) a1).setCell (aD b 2) a2).setCell (aD b 3) a3).setCell (aD b 4) a4).setCell (aD b 5) a5) :=
 (((((h.setCell (p:=(aD b 0)) hb _).setCell (p:=(aD b 1)) hb _).setCell (p:=(aD b 2)) hb _).setCell (p:=(aD b 3)) hb _).setCell (p:=(aD b 4)) hb _).setCell (p:=(aD b 5)) hb _
theorem gR (h:aj W A t cs)(hn:¬A b)(a0 a1 a2 a3 a4 a5:Value):aj ((((((W.setCell (aD b 0) a0).setCell (aD b 1) a1).setCell (aD b 2) a2).setCell (aD b 3) a3).setCell (aD b 4) a4).setCell (aD b 5) a5) A t cs:=by
 have k:∀(V:World) (o:Nat) (v:Value),ah A V (V.setCell (aD b o) v):=λV o v=>ah.set v hn;exact aj.keep ((((((k _ _ _).trans (k _ _ _)).trans (k _ _ _)).trans (k _ _ _)).trans (k _ _ _)).trans (k _ _ _)) t cs h
theorem OutT.next2 (h:OutT K l i ex ts)(hi:l[i]?=some t)(he:ex=t.parts K):OutT K l (i+1) [] ts:=by
 subst he;exact OutT.next hi h
theorem tJ {a b:ByteArray}(h:af a=af b):a.toList=b.toList:=by
 unfold af at h;rw[Lib.toList_data,Lib.toList_data,h]
theorem qj (hv:aj w A t (TC K so sn sc lo ln lc m n s)):af s=t.key:=by
 obtain⟨f,c,d,a,b,g,i,k,j,e,h⟩:=hv.form;injection e with _ e;injection e with _ e;injection e with _ e;injection e with _ e;injection e with _ e;injection e with e _;injection e with e;rw[e];exact h
theorem Tv (hK:K=5\/K=6)(hk:t.kind=K)(hv:aj w A t cs):∃l lo lc xs s,cs=TC K none 0 0 lo l.length lc 0 0 s/\cg w A lo xs/\aO w A l xs/\l=t.parts K/\bd l<=t.z/\(t.Ok->dW l):=by
 have b:=λl (e:l=t.parts K)=>(show bd l<=t.z/\(t.Ok->dW l)from e▸⟨Jm,Fb⟩);rcases hK with rfl|rfl<;>cases t<;>simp only[Tm.kind]at hk<;>first|(exact absurd hk (by decide))|skip
 all_goals
  obtain⟨lo,lc,xs,s,e,c,a,_⟩:=hv;exact⟨_,lo,lc,xs,s,e,c,a,by simp[Tm.parts],b _ (by simp[Tm.parts])⟩
def SK (K:Int)(l:List Tm):Tm:=if K=6 then .and l else .or l
theorem Ke (hK:K=5\/K=6)(l:List Tm):(SK K l).kind=K:=by rcases hK with rfl|rfl<;>rfl
theorem Wy (hK:K=5\/K=6)(s0:ByteArray)(hr:cg w A lo xs)(hl:aO w A l xs)(hok:dW l)(htl:bw l<=4000000000000000000):Calls prog 33 #[.agg #[Vi K,Vz,.slice lo l.length lc,Vi 0,Vi 0,.string s0]] w λe w'=>∃s,e=.returned (.agg #[Vi K,Vz,.slice lo l.length lc,Vi 0,Vi 0,.string s])/\aj w' A (SK K l) (TC K none 0 0 lo l.length lc 0 0 s)/\Bw w w':=by
 rcases hK with rfl|rfl
 ·exact Sf s0 hr hl hok htl
 ·exact ON s0 hr hl hok htl
theorem XT (hK:K=5\/K=6)(hl:l≠[])(hok:dW l)(h:OutT K l l.length [] ts)(hk:KeepT ts (dw K) (eK K) ts.length ks)(hne:ks≠[]):SomeG K l (SK K ks):=by
 rcases hK with rfl|rfl
 ·exact VF hl hok h hk hne
 ·exact Sk hl hok h hk hne
theorem sT (hK:K=5\/K=6)(hA:∀g,A g->g<w.heap.size)(hr:cg w A lo xs)(hl:aO w A l xs)(hok:dW l)(hne:l≠[])(htl:bw l<=4000000000000000000)(hz:bd l<=2000000000000):Calls prog 34 #[.slice lo l.length lc,Vi K] w (eH w A (SomeG K l)):=by
 obtain⟨W0,s7,n3,s2,-⟩:=dS (rfl:w.heap.size=_) TZ 58;replace n3:Below _ _ W0:=n3;have HN:=aa (fG W0);have u5:=aa s7;have t1:=aa n3;have f7:=aa s2;have HK:=aa hK;have HA:=aa hA;have q9:=aa hr;have n2:=aa hl;have b7:=aa hok;have f6:=aa hne;have v6:=aa htl;have HZ:=aa hz;have y9:l.length<=2000000000000:=zJ (ko l) hz;clear s7 n3 s2 hK hA hr hl hok hne htl hz;obtain⟨i0,hi,u4,u6,t4⟩:=zz lM;go_enter func34,ntmps34;go_wp2_with fail;rw[u5.out];generalize hS:w.heap.size=S at *;refine HN.mono ?_;rintro e w1 ⟨t,L,N,M,I,G,H,mp,np,sp,rfl,m2,rfl,i5⟩;simp only[Tm.kind]at m2 ⊢;obtain⟨W2,k7,c8,-,-⟩:=dS (rfl:w1.heap.size=_) [Vi 1,.slice L N M,.slice I G H,Vi mp,Vi np,.string sp] 58;replace c8:Below _ _ W2:=c8;have e6:Bw W0 W2:=i5.trans (c8.mono i5.size);have n8:ag W2 w1.heap.size (TC 1 L N M I G H mp np sp) 58:=by rw[<-k7];exact ag.new w1 (TC 1 L N M I G H mp np sp) 58
 have t2:S<w1.heap.size:=(f7.below i5).lt;generalize hP:w1.heap.size=P at *;have v5:=aa k7;have r7:Hid (Below S w W2):=t1.trans (e6.mono (yJ f7.lt));have l8:=aa (f7.below e6);have j0:=aa n8;have n7:=aa m2;have o4:=aa (Gg W2);clear k7 i5 c8 e6 n8 m2 HN;go_wp2_with fail;rw[v5.out];refine o4.mono ?_;rintro e w3 ⟨t,C,z,s,D,B,E,mq,nq,sq,rfl,l7,rfl,a7⟩;simp only[Tm.kind]at l7 ⊢;obtain⟨W4,l3,k5,-,-⟩:=dS (rfl:w3.heap.size=_) [Vi 7,.slice C z s,.slice D B E,Vi mq,Vi nq,.string sq] 58;replace k5:Below _ _ W4:=k5;have b5:Bw W2 W4:=a7.trans (k5.mono a7.size);have o1:ag W4 w3.heap.size (TC 7 C z s D B E mq nq sq) 58:=by rw[<-l3];exact ag.new w3 (TC 7 C z s D B E mq nq sq) 58
 have A0:P<w3.heap.size:=(j0.below a7).lt;have t0:Hid (aj W4 (λg=>False\/W2.heap.size<g) (.not .none) (TC 7 C z s D B E mq nq sq)):=aj.below k5 _ _ l7;have x3:P<W2.heap.size:=j0.lt;generalize hQ:w3.heap.size=Q at *;have n6:=aa l3;have b0:Hid (Below S w W4):=r7.trans (b5.mono (yJ l8.lt));have c7:=aa (l8.below b5);have j5:=aa (j0.below b5);have f8:=aa o1;clear l3 a7 k5 b5 o1 l7 o4
 go_upto_if 15 with fail
 rw[n6.out]
 go_cut []from 14 to 17 (λwx=>∃L N M I G H mp np sp C z s D B E mq nq sq,Hid (aj wx (λg=>A g\/S<g) (dw K) (TC (dw K).kind L N M I G H mp np sp)/\aj wx (λg=>A g\/S<g) (eK K) (TC (eK K).kind C z s D B E mq nq sq)/\Below S w wx/\ag wx S TZ 58/\ag wx P (TC (dw K).kind L N M I G H mp np sp) 58/\ag wx Q (TC (eK K).kind C z s D B E mq nq sq) 58))
 case first=>
  rcases HK.out with rfl|rfl
  ·go_wp2_with fail
   go_meet
   exact⟨L,N,M,I,G,H,mp,np,sp,C,z,s,D,B,E,mq,nq,sq,kc n7,aj.mono (λg _ h=>by rcases h with h|h;exact h.elim;exact .inr (by omega)) _ _ t0,b0,c7,j5,f8⟩
  ·have v1:=aa (Gg W4);have A4:S<W4.heap.size:=c7.lt;have w2:Q<W4.heap.size:=f8.lt;have w8:P<W4.heap.size:=j5.lt;go_wp2_with fail;refine v1.mono ?_;rintro e w5 ⟨t,c3,c5,b8,b9,c4,c0,ma,na,sa,rfl,l5,rfl,f⟩;simp only[Tm.kind]at l5 ⊢;have g9:=j5.below f;obtain⟨p0,p1,p2,p3,p4,p5⟩:=g9.six;obtain⟨g0,g1,g2,g3,g4,g5,m0⟩:=g9.ice;obtain⟨W6,b4⟩:∃W6,(((((w5.setCell (aD P 0) (Vi 7)).setCell (aD P 1) (.slice c3 c5 b8)).setCell (aD P 2) (.slice b9 c4 c0)).setCell (aD P 3) (Vi ma)).setCell (aD P 4) (Vi na)).setCell (aD P 5) (.string sa)=W6:=⟨_,rfl⟩;have k0:Below S W4 w5:=f.mono (yJ c7.lt);have v8:Hid (Below S w W6):=by show Below _ _ _;rw[<-b4];exact fV (b0.trans k0) (yJ t2) _ _ _ _ _ _
   have o5:Hid (ag W6 S TZ 58):=by show ag _ _ _ _;rw[<-b4];exact (c7.below f).sixOther (by omega) _ _ _ _ _ _
   have u0:Hid (ag W6 Q (TC 7 C z s D B E mq nq sq) 58):=by show ag _ _ _ _;rw[<-b4];exact (f8.below f).sixOther (by omega) _ _ _ _ _ _
   have t6:Hid (ag W6 P (TC 7 c3 c5 b8 b9 c4 c0 ma na sa) 58):=by show ag _ _ _ _;rw[<-b4];exact g9.sixS _ _ _ _ _ _
   have v2:Hid (aj W6 (λg=>False\/W4.heap.size<g) (.not .none) (TC 7 c3 c5 b8 b9 c4 c0 ma na sa)):=by show aj _ _ _ _;rw[<-b4];exact gR l5 (by rintro (h|h);exact h;omega) _ _ _ _ _ _
   have t3:=aa b4;have t9:=aa (fG W6);clear b4 l5 f g9 k0;go_wp2_with fail;rw[t3.out];clear p0 p1 p2 p3 p4 p5 g0 g1 g2 g3 g4 g5 m0;refine t9.mono ?_;rintro e w7 ⟨t,i4,i9,i6,j3,g6,j4,mb,nb,sb,rfl,m1,rfl,b6⟩;simp only[Tm.kind]at m1 ⊢;have e7:=u0.below b6;obtain⟨p0,p1,p2,p3,p4,p5⟩:=e7.six;obtain⟨g0,g1,g2,g3,g4,g5,r9⟩:=e7.ice;obtain⟨W,a8⟩:∃W,(((((w7.setCell (aD Q 0) (Vi 1)).setCell (aD Q 1) (.slice i4 i9 i6)).setCell (aD Q 2) (.slice j3 g6 j4)).setCell (aD Q 3) (Vi mb)).setCell (aD Q 4) (Vi nb)).setCell (aD Q 5) (.string sb)=W:=⟨_,rfl⟩;have j9:Below S W6 w7:=b6.mono (yJ o5.lt);have c1:Hid (Below S w W):=by show Below _ _ _;rw[<-a8];exact fV (v8.trans j9) (by omega) _ _ _ _ _ _
   have a0:Hid (ag W S TZ 58):=by show ag _ _ _ _;rw[<-a8];exact (o5.below b6).sixOther (by omega) _ _ _ _ _ _
   have d6:Hid (ag W Q (TC 1 i4 i9 i6 j3 g6 j4 mb nb sb) 58):=by show ag _ _ _ _;rw[<-a8];exact e7.sixS _ _ _ _ _ _
   have d9:Hid (ag W P (TC 7 c3 c5 b8 b9 c4 c0 ma na sa) 58):=by show ag _ _ _ _;rw[<-a8];exact (t6.below b6).sixOther (by omega) _ _ _ _ _ _
   have i8:Hid (aj W (λg=>A g\/S<g) (dw 6) (TC 7 c3 c5 b8 b9 c4 c0 ma na sa)):=by show aj _ _ _ _;rw[<-a8];exact aj.mono (λg _ h=>by rcases h with h|h;exact h.elim;exact .inr (by omega)) _ _ (gR (aj.below b6 _ _ v2) (by rintro (h|h);exact h;omega) _ _ _ _ _ _)
   have f9:Hid (aj W (λg=>A g\/S<g) (eK 6) (TC 1 i4 i9 i6 j3 g6 j4 mb nb sb)):=kc m1;have v7:=aa a8;clear a8 m1 b6 e7 j9;go_wp2_with fail;rw[v7.out]
   go_meet
   exact⟨c3,c5,b8,b9,c4,c0,ma,na,sa,i4,i9,i6,j3,g6,j4,mb,nb,sb,i8,f9,c1,a0,d9,d6⟩
 case rest=>
  clear b0 c7 j5 f8 r7 l8 j0 n7 t0 t1 f7 n6;obtain⟨L,N,M,I,G,H,mp,np,sp,C,z,s,D,B,E,mq,nq,sq,p9⟩:=hcut;obtain⟨W,rfl⟩:∃W,W=wc:=⟨_,rfl⟩;obtain⟨s9,m6,n1,q8,n5,p6⟩:=p9.out;have i8:=aa s9;have f9:=aa m6;have c1:=aa n1;have a0:=aa q8;have d9:=aa n5;have d6:=aa p6;clear p9 s9 m6 n1 q8 n5 p6;go_wp2_with fail;have HR:=aa (q9.below (by show Below _ _ _;rw[hS];exact c1));have HL:=aa (aO.below (A:=A) (by show Below _ _ _;rw[hS];exact c1) _ _ n2);have r6:=aa (qj i8);have m7:=aa (qj f9);clear q9 n2
  go_loopw [7,8] (λov iv wr=>∃(i:Nat) (O:List Tm) (ys:List Value),iv=Vi i/\i<=l.length/\wr.ownsRow W.heap.size 58 6 ov O.length ys/\aO wr A O ys/\OutT K l i [] O/\Bw W wr) (λ_ iv _=>l.length-(intOf iv).toNat)
  case atStart=>exact⟨0,[],[],rfl,zW _,zZ _ _ _ _,rfl,OutT.start _ _,zE _ _⟩
  case round=>
   obtain⟨i,O,ys,rfl,A3,d,s1,r,a⟩:=hrel;obtain⟨x8,w6,rfl⟩:=cd d;have HO:=aa d;have HT:=aa s1;have HU:=aa r;have Z:=aa a;have F:W.heap.size<=wr.heap.size:=a.size;have i1:(0:Int)<=(i:Int):=zK _;clear d s1 r a;by_cases l0:i<l.length
   ·have i2:(i:Int)<(l.length:Int):=by omega
    obtain⟨t,ht⟩:∃t,l[i]?=some t:=⟨_,zB l0⟩;have s4:=aa ht;have s6:Hid t.Ok:=dO.1 b7 t (zU ht);have m4:Hid (bd (l.take i)+t.z<=bd l):=by
     show _<=_
     have e:l.take (i+1)=l.take i++[t]:=by rw[zi,ht];rfl
     have h1:=wD (l:=l) (i+1);rw[e,dV]at h1;simp only[bd]at h1;omega
    obtain⟨b,c6,c,rfl,hb,hv,hc⟩:=HR.out.get HL.out ht;obtain⟨a2,Y,a6,X,a3,R,mx,nx,sx,rfl,_⟩:=hv.form;obtain⟨y0,y1,y2,y3,y4,y5⟩:=oT Z.out hb hc;have t5:=aa (hc 2 _ rfl);have HV:=aa hv;have s3:b<wr.heap.size:=zF hb F;clear hc hv ht;by_cases hk:t.kind=K
    ·obtain⟨l',A2,z8,g7,s',e,o2,m8,o3,o8,n0⟩:=Tv HK.out hk HV.out;injection e with e0 e;injection e with e1 e;injection e with e2 e;injection e with e3 e;injection e with e4 e;injection e with e5 e;clear e0 e;injection e1 with e11 e12 e13;injection e2 with e21 e22 e23;subst e11 e12 e13 e21 e22 e23;have t7:=aa o2;have u8:=aa m8;have s0:=aa (n0 s6);have u3:=aa o3;have v3:=aa o8;have kq:(t.kind==K)=true:=by rw[hk];exact beq_self_eq_true K
     clear o3 o8 n0 o2 m8 e3 e4 e5 hk HV y1 y3 y4 y5;go_wp2_with fail;clear y0 y2
     go_loopw [7,9] (λov kv wr2=>∃(k:Nat) (us:List Tm) (zs:List Value),kv=Vi k/\k<=l'.length/\wr2.ownsRow W.heap.size 58 6 ov us.length zs/\aO wr2 A us zs/\OutT K l i (l'.take k) us/\Bw W wr2) (λ_ kv _=>l'.length-(intOf kv).toNat)
     case atStart=>exact⟨0,O,ys,rfl,zW _,HO,HT,HU,Z⟩
     case round=>
      clear F s3 HO HT HU Z;obtain⟨k,us,zs,rfl,y7,d,g8,r,a⟩:=hrel;obtain⟨x7,x2,rfl⟩:=cd d;have y2:wr.cell? ⟨b,c6+i*6+2,none⟩=some (.slice X l'.length R):=(a.cell (p:=⟨b,_,none⟩) hb).trans t5;have F:W.heap.size<=wr.heap.size:=a.size;have s3:b<wr.heap.size:=zF hb F;have k1:(0:Int)<=(k:Int):=zK _;have n4:=aa r;have j6:=aa a;by_cases n9:k<l'.length
      ·have k2:(k:Int)<(l'.length:Int):=by omega
       obtain⟨t',h7⟩:∃t',l'[k]?=some t':=⟨_,zB n9⟩;have u7:bd (l'.take k)<=bd l':=wD k;have q:us.length<=2000000000000/\k<=2000000000000:=by
        have h1:=ko us;have h2:=r.zle;have h3:=m4.out;have h4:=HZ.out;have h5:=v3.out;have h6:=ko l';omega
       obtain⟨q,x4⟩:=q;obtain⟨b2,x0,c2,rfl,c8,l1,r8⟩:=t7.out.get u8.out h7;obtain⟨A1,x5,x6,z9,y8,z7,my,ny,sy,rfl,_⟩:=l1.form;obtain⟨z0,z1,z2,z3,z4,z5⟩:=oT a c8 r8;have x1:b2<wr.heap.size:=zF c8 F;have d3:=dO.1 s0;have HI:=aa (Ek F d g8 (r.ok b7 (dO.2 λx hx=>d3 x (yi hx))) (aj.below a _ _ l1) (d3 t' (zU h7)) q);have s8:Hid (l'.take (k+1)=l'.take k++[t']):=by show _=_;rw[zi,h7];rfl
       clear d g8 r a l1 r8 h7 d3 u7 q;go_wp2_with fail;refine HI.mono ?_;rintro e w5 ⟨v',k4,g7,rfl,d7,d0,c9,d2,d5,f⟩;have HF:=aa (And.intro d7 (And.intro d0 (n4.step c9 d2 d5)));have d4:=aa (j6.trans (f.mono F));clear d7 d0 c9 d2 d5 f HI;go_wp2_with fail
       go_roundw
       case rel=>exact⟨k+1,k4,g7,by go_num,by omega,HF.1,HF.2.1,by rw[s8.out];exact HF.2.2,d4⟩
       case measure=>simp[intOf];omega
      ·have k2:decide ((k:Int)<(l'.length:Int))=false:=zI (by omega);obtain rfl:k=l'.length:=by omega
       have HF:=aa (And.intro d g8);clear d g8 r a;go_wp2_with fail
       go_roundw
       case rel=>exact⟨i+1,us,zs,by go_num,by omega,HF.1,HF.2,n4.next2 s4 (by rw[zQ];exact u3),j6⟩
       case measure=>simp[intOf];omega
    ·have kq:(t.kind==K)=false:=zD.2 hk;have q:O.length<=2000000000000:=by
      have h1:=ko O;have h2:=HU.zle;have h3:=m4.out;have h4:=HZ.out;simp only[bd]at h2;omega
     have HI:=aa (Ek F HO HT (HU.ok b7 trivial) (aj.below Z _ _ HV) s6 q);have v0:=aa (LC hk);clear hk;go_wp2_with fail;refine HI.mono ?_;rintro e w5 ⟨v',k4,g7,rfl,d7,d0,c9,d2,d5,f⟩;have HF:=aa (And.intro d7 (And.intro d0 (HU.step c9 d2 d5)));have d4:=aa (Z.trans (f.mono F));clear d7 d0 c9 d2 d5 f HI;go_wp2_with fail
     go_roundw
     case rel=>exact⟨i+1,k4,g7,by go_num,by omega,HF.1,HF.2.1,HF.2.2.next2 s4 v0.symm,d4⟩
     case measure=>simp[intOf];omega
   ·have i2:decide ((i:Int)<(l.length:Int))=false:=zI (by omega);obtain rfl:i=l.length:=by omega
    have p8:Hid (dW O):=HU.ok b7 trivial;have w0:O.length<=2000000000000:=by
     have h1:=ko O;have h2:=HU.zle;have h3:=HZ.out;rw[zQ]at h2;simp only[bd]at h2;omega
    obtain⟨V,hV⟩:∃V,V=wr:=⟨_,rfl⟩;rw[<-hV]at HO HT Z F ⊢;have u9:=aa (fN HO);have u2:=aa Z;have x9:S<V.heap.size:=(a0.below Z).lt;clear hV i2;have i2:decide ((l.length:Int)<(l.length:Int))=false:=zI (by omega);go_wp2_with fail;clear i2
    go_loopw [10,11] (λkv jv wr2=>∃(j:Nat) (J:List Tm) (zs:List Value),jv=Vi j/\j<=O.length/\wr2.ownsRow V.heap.size 58 6 kv J.length zs/\aO wr2 A J zs/\KeepT O (dw K) (eK K) j J/\Bw V wr2) (λ_ jv _=>O.length-(intOf jv).toNat)
    case atStart=>exact⟨0,[],[],rfl,zW _,zZ _ _ _ _,rfl,KeepT.start _ _ _,zE _ _⟩
    case round=>
     obtain⟨j,J,zs,rfl,z6,d,o0,d1,a⟩:=hrel;obtain⟨j8,b1,rfl⟩:=cd d;have h8:=aa d;have i7:=aa o0;have a5:=aa d1;have b3:=aa a;have o:Hid (Bw W wr):=u2.trans (a.mono F);have j1:(0:Int)<=(j:Int):=zK _;clear d o0 d1 a;by_cases l0:j<O.length
     ·have j2:(j:Int)<(O.length:Int):=by omega
      obtain⟨y,hy⟩:∃y,O[j]?=some y:=⟨_,zB l0⟩;have HY:=aa hy;have q6:Hid y.Ok:=dO.1 p8 y (zU hy);obtain⟨b,c6,c,rfl,hb,hv,hc⟩:=u9.out.get HT.out hy;obtain⟨a2,Y,a6,X,a3,R,mx,nx,sx,rfl,o9⟩:=hv.form;have e9:=aa o9;have HV:=aa hv;have HC:=aa hc;clear hc hv o9 hy;go_upto_region 20 with fail
      go_cut [70] (λv wx=>∃b':Bool,v=.bool b'/\(b'=true↔y=eK K)/\∃n,wx=wr.drewN n)
      case first=>
       have y5:wr.cell? ⟨b,c6+j*6+5,none⟩=some (.string sx):=(b3.cell (p:=⟨b,_,none⟩) hb).trans (HC 5 _ rfl);have q5:wr.cell? (aD Q 5)=some (.string sq):=(d6.below o).cell 5;have r9:Q<wr.heap.size:=(d6.below o).lt;have q7:b<wr.heap.size:=zF hb b3.size
       go_quiet (fail)
       go_wp2_with fail
       go_meet
       case rel=>exact⟨_,rfl,⟨λh=>nL q6 Jo.1 (by rw[<-e9.out,<-m7.out];exact kE (by simpa using h)),λe=>by have h9:=tJ (show af sx=af sq by rw[e9.out,m7.out,e]);simp[h9]⟩,_,rfl⟩
      case rest=>
       obtain⟨b',rfl,T,dq,rfl⟩:=hcut;obtain⟨U,hU⟩:∃U,wr.drewN dq=U:=⟨_,rfl⟩;have i3:Hid (Bw wr U):=by show Below _ _ _;rw[<-hU];exact aR (zE _ _)
       have a9:Hid (Bw W U):=o.trans (i3.mono o.size);have k8:Hid (Bw V U):=b3.trans (i3.mono b3.size);rw[hU];clear hU;cases b' with
       |true=>
        have h0:=aa (T.1 rfl);clear T;have k9:=d6.below a9;obtain⟨q0,q1,q2,q3,q4,q5⟩:=k9.six;have r9:=k9.lt;have m:=a0.below a9;obtain⟨r0,r1,r2,r3,r4,r5⟩:=m.six;obtain⟨f0,f1,f2,f3,f4,f5,l2⟩:=m.ice;clear m;clear k9;go_wp2_with fail;refine zN (v:=.agg #[Vi (eK K).kind,.slice C z s,.slice D B E,Vi mq,Vi nq,.string sq]) (by simp[results,results34,go_sem,r0,r1,r2,r3,r4,r5]) rfl ⟨eK K,C,z,s,D,B,E,mq,nq,sq,rfl,?_,Sj HK f6 HU (by rw[<-h0.out];exact zU HY),?_⟩
        ·rw[hS];exact dP (aj.below a9 _ _ f9) (λg h=>by have:=HA.out g h;omega) _ _ _ _ _ _
        ·rw[hS];exact iV (c1.trans (a9.mono (yJ a0.lt))) _ _ _ _ _ _
       |false=>
        have h0:Hid (y≠eK K):=λe=>by have:=T.2 e;cases this
        clear T;go_wp2_with fail
        go_cut [79] (λv wx=>∃b':Bool,v=.bool b'/\(b'=true↔y≠dw K)/\∃n,wx=U.drewN n)
        case first=>
         have y5:U.cell? ⟨b,c6+j*6+5,none⟩=some (.string sx):=(k8.cell (p:=⟨b,_,none⟩) hb).trans (HC 5 _ rfl);have p5:U.cell? (aD P 5)=some (.string sp):=(d9.below a9).cell 5;have m0:P<U.heap.size:=(d9.below a9).lt;have q7:b<U.heap.size:=zF hb k8.size
         go_quiet (fail)
         go_wp2_with fail
         go_meet
         case rel=>exact⟨_,rfl,⟨λh e=>by have h9:=tJ (show af sx=af sp by rw[e9.out,r6.out,e]);simp[h9]at h,λhne=>by have h9:¬sx.toList=sp.toList:=λe=>hne (nL q6 Ff.1 (by rw[<-e9.out,<-r6.out];exact kE e));simp[h9]⟩,_,rfl⟩
        case rest=>
         obtain⟨b',rfl,T,v9,rfl⟩:=hcut;obtain⟨U2,l6⟩:∃U2,U.drewN v9=U2:=⟨_,rfl⟩;have a1:Hid (Bw wr U2):=by show Below _ _ _;rw[<-l6];exact aR i3
         have a4:Hid (Bw V U2):=b3.trans (a1.mono b3.size);rw[l6];clear l6 a9 k8 i3;cases b' with
         |true=>
          have m3:=aa (T.1 rfl);clear T;have q7:b<U2.heap.size:=zF hb a4.size;obtain⟨y0,y1,y2,y3,y4,y5⟩:=oT a4.out hb HC.out;obtain⟨U3,o7,a7,l4,-⟩:=dS (rfl:U2.heap.size=_) (TC y.kind a2 Y a6 X a3 R mx nx sx) 58;replace a7:Below _ _ U3:=a7;replace l4:=aa l4;have m5:=aa o7;have l9:=aa (bg (bg h8 a1) a7);have b0:Hid (Bw V U3):=a4.trans (a7.mono a4.size);have w9:J.length<=2000000000000:=by
           have h1:=ko J;have h2:=a5.z;have h3:=wD (l:=O) j;have h4:=HU.zle;have h5:=HZ.out;rw[zQ]at h4;simp only[bd]at h4;omega
          clear o7 a7;go_wp2_with (at_builtin;rw[m5.out];refine eO rfl (.tmp 80) (.tmp 85) 56 58 i0 _ 6 88 rfl underlying56 hi u4 u6 t4 rfl (by decide) V.heap.size J.length _ _ rfl l9 _ 1 _ (TC y.kind a2 Y a6 X a3 R mx nx sx) rfl (λe=>by cases e) rfl (λad e j u hj=>by injection e with e;subst e;rw[zl,zf,l4.out.cell];exact hj) (sD _ _ _ _ _ _ _ _ _ _) (by unfold maxLen;omega) (by omega) b0.size ?_;intro v4 w4 d8 j7;have HF:=aa (And.intro d8 j7);clear d8 j7);have f:Bw V w4:=cD b0 b0.size l9 HF.2;have p7:aO w4 A J zs:=by
           have h1:aO U3 A J zs:=aO.below (w:=U2) (by rw[<-m5.out];exact (zE _ _).alloc (zA _) _) _ _ (aO.below a1 _ _ i7);exact aO.keep ⟨HF.2.size,λg hg ha=>HF.2.block g hg (λe=>by
            have h2:=(l9.lt g e.symm).1;have h3:=HA.out g ha;omega)⟩ _ _ h1
          have e8:aj w4 A y (TC y.kind a2 Y a6 X a3 R mx nx sx):=aj.below f _ _ HV
          go_roundw
          case rel=>exact⟨j+1,J++[y],zs++TC y.kind a2 Y a6 X a3 R mx nx sx,by go_num,by omega,by rw[zH];exact HF.1,p7.append (aO.one e8),a5.put HY m3 h0,f⟩
          case measure=>simp[intOf];omega
         |false=>
          have m3:Hid (y=dw K):=Classical.byContradiction λh=>by have:=T.2 h;cases this
          clear T;go_wp2_with fail
          go_roundw
          case rel=>exact⟨j+1,J,zs,by go_num,by omega,bg h8 a1,aO.below a1 _ _ i7,a5.skip HY m3 h0,a4⟩
          case measure=>simp[intOf];omega
     ·have j2:decide ((j:Int)<(O.length:Int))=false:=zI (by omega);obtain rfl:j=O.length:=by omega
      have k3:Hid (Below S w wr):=c1.trans (o.mono (yJ a0.lt));have m:=a0.below o;obtain⟨r0,r1,r2,r3,r4,r5⟩:=m.six;obtain⟨f0,f1,f2,f3,f4,f5,l2⟩:=m.ice;clear m;by_cases e0:J=[]
      ·subst e0;have k6:=d9.below o;obtain⟨p0,p1,p2,p3,p4,p5⟩:=k6.six;have m0:=k6.lt;clear k6;simp only[zh];go_wp2_with fail;refine zN (v:=.agg #[Vi (dw K).kind,.slice L N M,.slice I G H,Vi mp,Vi np,.string sp]) (by simp[results,results34,go_sem,r0,r1,r2,r3,r4,r5]) rfl ⟨dw K,L,N,M,I,G,H,mp,np,sp,rfl,?_,OQ HK f6 HU a5,?_⟩
       ·rw[hS];exact dP (aj.below o _ _ i8) (λg h=>by have:=HA.out g h;omega) _ _ _ _ _ _
       ·rw[hS];exact iV k3 _ _ _ _ _ _
      ·have t8:=aa e0;by_cases e1:∃y,J=[y]
       ·obtain⟨y,rfl⟩:=e1;obtain⟨b,c6,c,rfl,hb,hv,hc⟩:=(fN h8.out).get i7.out (i:=0) (t:=y) rfl;obtain⟨a2,Y,a6,X,a3,R,mx,nx,sx,rfl,_⟩:=hv.form;simp only[Nat.zero_mul,xF]at hc;obtain⟨y0,y1,y2,y3,y4,y5⟩:=JJ hc;have HV:=aa hv;clear hc hv e0;simp only[zo];go_wp2_with fail;refine zN (v:=.agg #[Vi y.kind,.slice a2 Y a6,.slice X a3 R,Vi mx,Vi nx,.string sx]) (by simp[results,results34,go_sem,r0,r1,r2,r3,r4,r5]) rfl ⟨y,a2,Y,a6,X,a3,R,mx,nx,sx,rfl,?_,Hr HK f6 b7 HU a5,?_⟩
        ·rw[hS];exact dP (aj.mono (λg _ h=>.inl h) _ _ HV) (λg h=>by have:=HA.out g h;omega) _ _ _ _ _ _
        ·rw[hS];exact iV k3 _ _ _ _ _ _
       ·have y6:2<=J.length:=by
         match J,e0,e1 with
         | [],e0,_=>exact absurd rfl e0
         | [y],_,e1=>exact absurd ⟨y,rfl⟩ e1
         |_::_::_,_,_=>simp
        have q0:((J.length:Int)==0)=false:=zD.2 (by omega);have q1:((J.length:Int)==1)=false:=zD.2 (by omega);have m9:bw J<=4000000000000000000:=by
         have h1:=a5.tl;have h2:=Si (l:=O) O.length;have h3:=HU.tle;have h4:=v6.out;rw[zQ]at h3;simp only[bw]at h3;omega
        have o6:=aa (Wy HK (A:=λg=>A g\/S<g) (lc:=b1) ⟨#[]⟩ ((fN h8).mono λg _ h=>.inr (by omega)) (aO.mono (λg _ h=>.inl h) _ _ i7) (a5.ok p8) m9);clear e0 e1 m9 r0 r1 r2 r3 r4 r5 f0 f1 f2 f3 f4 f5 l2;go_wp2_with fail;refine o6.mono ?_;rintro e w5 ⟨s5,rfl,e8,f⟩;have u1:=aa e8;have d4:Hid (Below S w w5):=k3.trans (f.mono (by have:=b3.size;omega));have m:=(a0.below o).below f;obtain⟨r0,r1,r2,r3,r4,r5⟩:=m.six;obtain⟨f0,f1,f2,f3,f4,f5,l2⟩:=m.ice;clear m;clear e8 f o6;go_wp2_with fail;refine zN (v:=.agg #[Vi K,Vz,.slice j8 J.length b1,Vi 0,Vi 0,.string s5]) (by simp[results,results34,go_sem,r0,r1,r2,r3,r4,r5]) rfl ⟨SK K J,none,0,0,j8,J.length,b1,0,0,s5,by rw[Ke HK.out],?_,XT HK f6 b7 HU a5 t8,?_⟩
        ·rw[hS,Ke HK.out];exact dP u1 (λg h=>by have:=HA.out g h;omega) _ _ _ _ _ _
        ·rw[hS];exact iV d4 _ _ _ _ _ _
def qF (t:Tm):Prop:=∀(w:World) (A:Nat->Prop) (so:Option Addr) (sn sc:Nat) (lo:Option Addr) (ln lc:Nat) (m n:Int) (s:ByteArray) (c:Int),(∀g,A g->g<w.heap.size)->aj w A t (TC t.kind so sn sc lo ln lc m n s)->t.Ok->place c->t.z*t.tl<=3000000000000000000->bZ t.z<=2000000000000 ->
 Calls prog 30 #[.agg #[Vi t.kind,.slice so sn sc,.slice lo ln lc,Vi m,Vi n,.string s],Vi c] w (eH w A (Gd (aX t.L (back c)) (bZ t.z) (t.z*t.tl)))
theorem gL (h:place c):runeB (back c)=true/\up (back c)=c:=by
 unfold place at h;rw[rune_iff];unfold back up;refine⟨?_,?_⟩<;>(repeat' split)<;>omega
theorem Lj {r:Int}:aX dZ r=eA:=by
 funext u;simp[aX,dZ,eA]
theorem EP (h:PCanon q)(hc:place c):aX (Tm.set q).L (back c)=if memB q c then dZ else eA:=by
 have e:memB (told q) (back c)=memB q c:=by rw[gb h _ (gL hc).1,(gL hc).2]
 funext u;refine propext ⟨λ⟨d,f,b⟩=>?_,λh=>?_⟩
 ·injection f with h3 h4;subst h3 h4;rw[<-e,b];rfl
 ·by_cases a:memB q c=true
  ·rw[zX a]at h;exact⟨back c,by rw[show u=[]from h],by rw[e];exact a⟩
  ·rw[zR a]at h;exact h.elim
theorem jg {w:World}{ops:Array Oper}{rest:List Oper}{o:Oper}{a:Act}{Q:Exit->Act->World->Prop}(hgd:o.guard=none)(s x:Operand)(t e:TypeId)(i0:TypeInfo)(z:Value)(size bytes:Nat)
  (ho:o.op=.call { callee:=.builtin .append,args:=#[s,x],argTypes:=#[t,t] }) (hu:prog.underlying t=some (.slice e)) (hi:prog.info? e=some i0) (hz:i0.zero=some z) (hsz:i0.size=size) (hby:i0.bytes=bytes) (hzs:z.cells.size=size) (hpos:0<size)
  (B n:Nat) (v:Value) (xs:LV) (hs:a.eval s=v) (hown:w.ownsRow B e size v n xs)
  (ad:Addr) (m c:Nat) (news:LV) (hx:a.eval x=.slice (some ad) m c) (hl:news.length=m*size) (hm:0<m) (hnews:∀j u,news[j]?=some u->w.cell? (ad.add j)=some u) (h1:∀u∈news,u.oneCell'=true)
  (h63:n+m<=maxLen) (hn:(n+m)*bytes<=140737488355328) (hB:B<=w.heap.size)
  (h:∀v' w',w'.ownsRow B e size v' (n+m) (xs++news)->w.grownBy w' v.ownBlock->(v'.ownBlock=v.ownBlock\/∀g,v'.ownBlock=some g->w.heap.size<=g)->wpList prog ops Q rest (a.put o.dst v') w'):wpList prog ops Q (o::rest) a w:=by
 have i:=hown;rcases hown.2 with⟨rfl,rfl⟩|⟨g,l,y,rfl,A,F,C,E,D,G⟩
 ·refine yo w hgd s x t ho e i0 z size bytes hu hi hz hsz hby hzs hpos none 0 0 xs hs (λ_=>⟨rfl,rfl⟩) i.1 (λb e=>by cases e) ad m c news hx hl hnews h1 (by omega) h63 hn ?_;intro v' w' f d;exact h v' w' (ij f hB) ⟨d.os,d.tape,d.output,d.size,λk q _=>d.block k q (by simp)⟩ (.inr λg e=>(f.lt g e).1)
 ·by_cases p:n+m<=l
  ·refine wpList_append_fits w hgd s x t ho B e i0 size hu hi hsz g n l xs hs i ad m c news hx hl hnews h1 p ?_;intro w' f d;exact h _ w' f d (.inl rfl)
  ·refine yo w hgd s x t ho e i0 z size bytes hu hi hz hsz hby hzs hpos (some (aD g 0)) n l xs hs (λe=>by cases e) i.1 (λb e j u r=>by cases e;exact i.cells rfl j u r) ad m c news hx hl hnews h1 (by omega) h63 hn ?_;intro v' w' f d;exact h v' w' (ij f hB) ⟨d.os,d.tape,d.output,d.size,λk q _=>d.block k q (by simp)⟩ (.inr λg e=>(f.lt g e).1)
theorem Vt:bZ 1=1:=rfl
theorem YC {z t:Nat}(h:1<=z):z*t+12<=z*(t+12):=by
 rw[ye];omega
theorem Xp {z t:Nat}(h:1<=z):z*t+(t+12)+12<=(z+1)*(t+12):=by
 rw[ye,Nat.add_mul];omega
theorem Vu (z:Nat):bZ z+(z+1)<=bZ (z+1):=by rw[kj];omega
theorem YD {za zb ta tb:Nat}(ha:1<=za)(hb:1<=zb):za*ta+tb+12+zb*tb+12<=(za+zb)*(ta+tb+12):=by
 have b:1*tb<=za*tb:=zn _ ha;have a:1*ta<=zb*ta:=zn _ hb;simp only[ye,Nat.add_mul];omega
theorem Xq {za zb:Nat}(ha:1<=za):bZ za+zb+bZ zb<=bZ (za+zb):=by
 have a:1*zb<=za*zb:=zn _ ha;rw[lJ];omega
theorem Bk {z:Nat}(h:1<=z):1<=bZ z:=zJ h (qr z)
def dj (c:Int):List Tm->List Tm->Prop
 | [],[]=>True
 |t::l,u::m=>Gd (aX t.L (back c)) (bZ t.z) (t.z*t.tl) u/\dj c l m
 |_,_=>False
theorem dj.snoc {c:Int}{t u:Tm}:∀{l m:List Tm},dj c l m->Gd (aX t.L (back c)) (bZ t.z) (t.z*t.tl) u->dj c (l++[t]) (m++[u])
 | [],[],_,k=>⟨k,trivial⟩
 |_::_,_::_,h,k=>⟨h.1,dj.snoc h.2 k⟩
theorem dj.len {c:Int}:∀{l m:List Tm},dj c l m->m.length=l.length
 | [],[],_=>rfl
 |_::_,_::_,h=>by rw[zG,zG,dj.len h.2]
theorem dj.ok {c:Int}:∀{l m:List Tm},dj c l m->dW m
 | [],[],_=>trivial
 |_::_,_::_,h=>⟨h.1.ok,dj.ok h.2⟩
theorem dj.tl {c:Int}:∀{l m:List Tm},dj c l m->bw m<=bd l*bw l
 | [],[],_=>zA _
 |t::l,u::m,h=>by
  have b:=h.1.tl;have a:=dj.tl h.2;simp only[bw,bd];rw[ye,Nat.add_mul,Nat.add_mul];omega
theorem dj.z {c:Int}:∀{l m:List Tm},dj c l m->bd m<=bZ (bd l)
 | [],[],_=>zA _
 |t::l,u::m,h=>by
  have b:=h.1.z;have a:=dj.z h.2;simp only[bd];rw[lJ];omega
theorem dj.or {c:Int}{v:LZ}:∀{l m:List Tm},dj c l m->(kI m v↔kI l (back c::v))
 | [],[],_=>Iff.rfl
 |t::l,u::m,h=>by
  have a:=h.1.lg;simp only[kI,dj.or h.2];rw[a];rfl
theorem dj.and {c:Int}{v:LZ}:∀{l m:List Tm},dj c l m->(iz m v↔iz l (back c::v))
 | [],[],_=>Iff.rfl
 |t::l,u::m,h=>by
  have a:=h.1.lg;simp only[iz,dj.and h.2];rw[a];rfl
theorem Jk:∀{l:List Tm} {t:Tm},t∈l->t.z<=bd l
 |u::l,t,h=>by
  simp only[bd];rcases zO.1 h with rfl|h
  ·omega
  ·have:=Jk h;omega
theorem Lk {m:List Tm}(h:dj c l m)(hg:SomeG 5 m t):Gd (aX (Tm.or l).L (back c)) (bZ (Tm.or l).z) ((Tm.or l).z*(Tm.or l).tl) t:=by
 refine⟨hg.ok,?_,?_,?_⟩
 ·funext u;exact propext ((hg.or rfl u).trans h.or)
 ·have b:=hg.z;have a:=h.z;have e:bZ (bd l)<=bZ (max 1 (bd l)):=dY (Nat.le_max_right _ _);have d:1<=bZ (max 1 (bd l)):=Bk (Nat.le_max_left _ _);simp only[Tm.z];omega
 ·have b:=hg.tl;have a:=h.tl;have e:bd l*bw l<=max 1 (bd l)*bw l:=zn _ (Nat.le_max_right _ _);have d:1<=max 1 (bd l):=Nat.le_max_left _ _;simp only[Tm.z,Tm.tl];rw[ye];omega
theorem Hk {m:List Tm}(h:dj c l m)(hg:SomeG 6 m t):Gd (aX (Tm.and l).L (back c)) (bZ (Tm.and l).z) ((Tm.and l).z*(Tm.and l).tl) t:=by
 refine⟨hg.ok,?_,?_,?_⟩
 ·funext u;exact propext ((hg.and rfl u).trans h.and)
 ·have b:=hg.z;have a:=h.z;have e:bZ (bd l)<=bZ (max 1 (bd l)):=dY (Nat.le_max_right _ _);have d:1<=bZ (max 1 (bd l)):=Bk (Nat.le_max_left _ _);simp only[Tm.z];omega
 ·have b:=hg.tl;have a:=h.tl;have e:bd l*bw l<=max 1 (bd l)*bw l:=zn _ (Nat.le_max_right _ _);have d:1<=max 1 (bd l):=Nat.le_max_left _ _;simp only[Tm.z,Tm.tl];rw[ye];omega
theorem RJ {z:Nat}(h:bZ z<=2000000000000):z<=2000000:=by
 rcases Nat.lt_or_ge z 2000001 with a|a
 ·omega
 ·have b:=dY a;have c:bZ 2000001=2000003000001:=by decide
  omega
theorem Cr {z T l t:Nat}(hz:z<=max 1 T)(h:max 1 T*(l+12)<=3000000000000000000)(ht:t<=l):z*t<=3000000000000000000:=by
 have a:z*t<=max 1 T*(l+12):=Nat.mul_le_mul hz (by omega);omega
theorem vr:∀(q:LQ) (lo:Int),lo<=1112065->(∀x∈q,PGood x/\lo<=x.1)->(q.Pairwise λx y=>x.2+1<y.1)->2*(q.length:Int)+lo<=1112065
 | [],lo,h,_,_=>by simp;omega
 |x::q,lo,h,hx,hp=>by
  obtain⟨g,b⟩:=hx x (by simp);unfold PGood at g;rw[yg]at hp;have c:=vr q (x.2+2) (by omega) (λy a=>⟨(hx y (by simp[a])).1,by have:=hp.1 y a;omega⟩) hp.2;rw[zG];omega
theorem ri (h:PCanon q):q.length<=600000:=by
 have:=vr q 0 (by decide) (λx a=>⟨h.1 x a,(h.1 x a).1⟩) h.2;omega
theorem CK {wr U3 w4:World}{v4:Value}{us:List Tm}{ys:LV}{t5:Tm}(hgr:U3.grownBy w4 v.ownBlock)(hmv:v4.ownBlock=v.ownBlock\/∀g,v4.ownBlock=some g->U3.heap.size<=g)(hbr:Bw wr U3)(hus:aO wr (λg=>(A g\/B<=g)/\v.ownBlock≠some g) us ys)(hv:aj U3 (λg=>A g\/wr.heap.size<g) t5 cs)(hO:∀g,v.ownBlock=some g->B<=g/\g<wr.heap.size)(hA:∀g,A g->g<B)(hB:B<=wr.heap.size) :
  aO w4 (λg=>(A g\/B<=g)/\v4.ownBlock≠some g) (us++[t5]) (ys++cs):=by
 have c:∀g,g<U3.heap.size->((A g\/B<=g)/\v.ownBlock≠some g)->v4.ownBlock≠some g:=λg a h e=>by
  rcases hmv with b|b
  ·rw[b]at e;exact h.2 e
  ·have:=b g e;omega
 have d:ah (λg=>((A g\/B<=g)/\v.ownBlock≠some g)/\v4.ownBlock≠some g) U3 w4:=⟨hgr.size,λg a f=>hgr.block g a (λe=>f.1.2 e.symm)⟩;refine aO.mono (A:=λg=>((A g\/B<=g)/\v.ownBlock≠some g)/\v4.ownBlock≠some g) (λg _ h=>⟨h.1.1,h.2⟩) _ _ (aO.keep d _ _ (aO.append ?_ (aO.one ?_)))
 ·exact aO.mono (λg a h=>⟨h,c g a h⟩) _ _ (aO.below hbr _ _ hus)
 ·refine aj.mono (λg a h=>?_) _ _ hv;have b:(A g\/B<=g)/\v.ownBlock≠some g:=by
   rcases h with h|h
   ·exact⟨.inl h,λe=>by have:=hO g e;have:=hA g h;omega⟩
   ·exact⟨.inr (by omega),λe=>by have:=hO g e;omega⟩
  exact⟨b,c g a b⟩
theorem Mh (c:Int):Calls prog 30 #[.agg #[Vi 1,.slice so sn sc,.slice lo ln lc,Vi m,Vi n,.string s],Vi c] w (eH w A (λu=>u=.none)):=by
 obtain⟨F,g,j,f,q,t⟩:=jK (rfl:w.heap.size=_) (TC 1 so sn sc lo ln lc m n s) 58 TZ 58;replace j:Below _ _ F:=j;have Y:F.cell? (aD w.heap.size 0)=some (Vi 1):=f.cell 0;have H:=f.lt;have J:=aa (fG F);have k:=aa q;have z:=aa j;have x:=aa g;clear g j f q t;go_enter func30,ntmps30;go_upto_region 1 with fail;rw[x.out];generalize hS:w.heap.size=S at *;go_wp2_with fail;refine J.mono ?_;rintro e L ⟨V,p,o,r,i,h,l,D,C,E,rfl,d,rfl,a⟩;simp only[Tm.kind]at d ⊢;have b:=k.below a;obtain⟨P,K,O,M,I,N⟩:=b.six;obtain⟨R,T,Q,X,U,W,G⟩:=b.ice;have B:Hid (Below S w L):=z.trans (a.mono (by have:=k.lt;omega));have y:=aa d;clear d a b;go_wp2_with fail;refine zN (v:=.agg #[Vi 1,.slice p o r,.slice i h l,Vi D,Vi C,.string E]) (by simp[results,results30,go_sem,P,K,O,M,I,N]) rfl ⟨.none,p,o,r,i,h,l,D,C,E,rfl,?_,rfl,?_⟩
 ·rw[hS];exact kc y
 ·rw[hS];exact bC B _ _ _ _ _ _
theorem If (c:Int):Calls prog 30 #[.agg #[Vi 2,.slice so sn sc,.slice lo ln lc,Vi m,Vi n,.string s],Vi c] w (eH w A (λu=>u=.none)):=by
 obtain⟨F,g,j,f,q,t⟩:=jK (rfl:w.heap.size=_) (TC 2 so sn sc lo ln lc m n s) 58 TZ 58;replace j:Below _ _ F:=j;have Y:F.cell? (aD w.heap.size 0)=some (Vi 2):=f.cell 0;have H:=f.lt;have J:=aa (fG F);have k:=aa q;have z:=aa j;have x:=aa g;clear g j f q t;go_enter func30,ntmps30;go_upto_region 1 with fail;rw[x.out];generalize hS:w.heap.size=S at *;go_wp2_with fail;refine J.mono ?_;rintro e L ⟨V,p,o,r,i,h,l,D,C,E,rfl,d,rfl,a⟩;simp only[Tm.kind]at d ⊢;have b:=k.below a;obtain⟨P,K,O,M,I,N⟩:=b.six;obtain⟨R,T,Q,X,U,W,G⟩:=b.ice;have B:Hid (Below S w L):=z.trans (a.mono (by have:=k.lt;omega));have y:=aa d;clear d a b;go_wp2_with fail;refine zN (v:=.agg #[Vi 1,.slice p o r,.slice i h l,Vi D,Vi C,.string E]) (by simp[results,results30,go_sem,P,K,O,M,I,N]) rfl ⟨.none,p,o,r,i,h,l,D,C,E,rfl,?_,rfl,?_⟩
 ·rw[hS];exact kc y
 ·rw[hS];exact bC B _ _ _ _ _ _
theorem Dv (c:Int)(hq:Rd w so q)(hl:q.length<=1000000)(hm:memB q c=true):Calls prog 30 #[.agg #[Vi 3,.slice so q.length sc,Vz,Vi 0,Vi 0,.string s],Vi c] w (eH w A (λu=>u=.empty)):=by
 obtain⟨r,h,d,a,o,t⟩:=jK (rfl:w.heap.size=_) (TC 3 so q.length sc none 0 0 0 0 s) 58 TZ 58;replace d:Below _ _ r:=d;have a0:r.cell? (aD w.heap.size 0)=some (Vi 3):=a.cell 0;have R:r.cell? (aD w.heap.size 1)=some (.slice so q.length sc):=a.cell 1;have H:=a.lt;have J:=aa (wS sc c (Rd.below hq d) hl);have L:=aa (rh r);have k:=aa o;have z:=aa d;have x:=aa h;have I:=aa hm;clear h d a o t hq hl hm;go_enter func30,ntmps30;go_upto_region 1 with fail;rw[x.out];generalize hS:w.heap.size=S at *;go_wp2_with fail;refine J.mono ?_;rintro e E ⟨rfl,rfl⟩;rw[I.out];go_wp2_with fail;refine L.mono ?_;rintro e E ⟨X,n,m,p,j,i,l,D,C,F,rfl,g,rfl,b⟩;simp only[Tm.kind]at g ⊢;have f:=k.below b;obtain⟨Q,M,P,N,K,O⟩:=f.six;obtain⟨U,V,T,Z,W,Y,G⟩:=f.ice;have B:Hid (Below S w E):=z.trans (b.mono (by have:=k.lt;omega));have y:=aa g;clear g b f;go_wp2_with fail;refine zN (v:=.agg #[Vi 2,.slice n m p,.slice j i l,Vi D,Vi C,.string F]) (by simp[results,results30,go_sem,Q,M,P,N,K,O]) rfl ⟨.empty,n,m,p,j,i,l,D,C,F,rfl,?_,rfl,?_⟩
 ·rw[hS];exact sZ y
 ·rw[hS];exact bC B _ _ _ _ _ _
theorem Bz (c:Int)(hq:Rd w so q)(hl:q.length<=1000000)(hm:memB q c=false):Calls prog 30 #[.agg #[Vi 3,.slice so q.length sc,Vz,Vi 0,Vi 0,.string s],Vi c] w (eH w A (λu=>u=.none)):=by
 obtain⟨r,h,d,a,o,t⟩:=jK (rfl:w.heap.size=_) (TC 3 so q.length sc none 0 0 0 0 s) 58 TZ 58;replace d:Below _ _ r:=d;have a0:r.cell? (aD w.heap.size 0)=some (Vi 3):=a.cell 0;have R:r.cell? (aD w.heap.size 1)=some (.slice so q.length sc):=a.cell 1;have H:=a.lt;have J:=aa (wS sc c (Rd.below hq d) hl);have L:=aa (fG r);have k:=aa o;have z:=aa d;have x:=aa h;have I:=aa hm;clear h d a o t hq hl hm;go_enter func30,ntmps30;go_upto_region 1 with fail;rw[x.out];generalize hS:w.heap.size=S at *;go_wp2_with fail;refine J.mono ?_;rintro e E ⟨rfl,rfl⟩;rw[I.out];go_wp2_with fail;refine L.mono ?_;rintro e E ⟨X,n,m,p,j,i,l,D,C,F,rfl,g,rfl,b⟩;simp only[Tm.kind]at g ⊢;have f:=k.below b;obtain⟨Q,M,P,N,K,O⟩:=f.six;obtain⟨U,V,T,Z,W,Y,G⟩:=f.ice;have B:Hid (Below S w E):=z.trans (b.mono (by have:=k.lt;omega));have y:=aa g;clear g b f;go_wp2_with fail;refine zN (v:=.agg #[Vi 1,.slice n m p,.slice j i l,Vi D,Vi C,.string F]) (by simp[results,results30,go_sem,Q,M,P,N,K,O]) rfl ⟨.none,n,m,p,j,i,l,D,C,F,rfl,?_,rfl,?_⟩
 ·rw[hS];exact kc y
 ·rw[hS];exact bC B _ _ _ _ _ _
theorem Pu (c:Int)(hA:∀g,A g->g<w.heap.size)(ih:qF u)(hok:u.Ok)(hp:place c)(hz:u.z*(u.tl+12)<=3000000000000000000)(hz2:bZ u.z<=2000000000000)(hbl:b<w.heap.size)(hv:aj w A u (TC u.kind so' sn' sc' lo' ln' lc' m' n' s'))(hc:∀j v,(TC u.kind so' sn' sc' lo' ln' lc' m' n' s')[j]?=some v->w.cell? ⟨b,off+j,none⟩=some v):Calls prog 30 #[.agg #[Vi 7,Vz,.slice (some (aD b off)) 1 lc,Vi 0,Vi 0,.string s],Vi c] w (eH w A (Gd (fZ (aX u.L (back c))) (bZ u.z) (u.z*(u.tl+12)))):=by
 obtain⟨z,M,f,y,J,Z⟩:=jK (rfl:w.heap.size=_) (TC 7 none 0 0 (some (aD b off)) 1 lc 0 0 s) 58 TZ 58;replace f:Below _ _ z:=f;have a0:z.cell? (aD w.heap.size 0)=some (Vi 7):=y.cell 0;have a2:z.cell? (aD w.heap.size 2)=some (.slice (some (aD b off)) 1 lc):=y.cell 2;have b0:=y.lt;have a9:b<z.heap.size:=zF hbl f.size;obtain⟨y0,y1,y2,y3,y4,y5⟩:=oT f hbl hc;have a5:=YC (t:=u.tl) (fE u);have HC:=aa (ih z A _ _ _ _ _ _ _ _ _ c (λg a=>zF (hA g a) f.size) (aj.below f _ _ hv) hok hp (by omega) hz2);have HO:Hid (∀(r:World) (C:Tm) (l:Option Addr) (k i:Nat) (o:Option Addr) (q p:Nat) (L R:Int) (H:ByteArray),Bw z r->aj r (λg=>A g\/z.heap.size<g) C (TC C.kind l k i o q p L R H)->Gd (aX u.L (back c)) (bZ u.z) (u.z*u.tl) C ->
   Calls prog 35 #[.agg #[Vi C.kind,.slice l k i,.slice o q p,Vi L,Vi R,.string H]] r λe w6=>∃t X U T Y W lc m n s,e=.returned (.agg #[Vi (Tm.kind t),.slice X U T,.slice Y W lc,Vi m,Vi n,.string s])/\Hid (aj w6 (λg=>A g\/w.heap.size+1<g) t (TC t.kind X U T Y W lc m n s))/\Hid (Gd (fZ (aX u.L (back c))) (bZ u.z) (u.z*(u.tl+12)) t)/\Bw r w6):=λr C l k i o q p L R H h5 x d=>by
  have h1:=d.z;have h2:=d.tl;have h3:=h5.size;refine (Ki (A:=λg=>(A g\/z.heap.size<g)/\g<r.heap.size) (λg a=>a.2) (aj.mono (λg a ha=>⟨ha,a⟩) _ _ x) d.ok (by omega)).mono ?_;rintro e w6 ⟨t,X,U,T,Y,W,lc,m,n,s,rfl,g1,V,g3⟩;refine⟨t,X,U,T,Y,W,lc,m,n,s,rfl,?_,⟨V.ok,?_,?_,?_⟩,g3⟩
  ·exact aj.mono (λg _ a=>by rcases a with⟨a|a,_⟩|a;exact .inl a;exact .inr (by omega);exact .inr (by omega)) _ _ g1
  ·rw[V.lg,d.lg]
  ·have:=V.z;omega
  ·have:=V.tl;omega
 have D:=aa J;have a3:=aa f;have a7:=aa M;have HA:=aa hA;clear M f y J Z ih hok hv hc hA hz hz2 hp a5;go_enter func30,ntmps30;go_upto_region 1 with fail;rw[a7.out];generalize hS:w.heap.size=S at *;go_wp2_with fail;refine HC.mono ?_;rintro e r ⟨C,l,k,i,o,q,p,L,R,H,rfl,x,d,E⟩;have a4:=aa (HO r C l k i o q p L R H E x d);have B:=aa E;clear x d E HC;go_wp2_with fail;refine a4.mono ?_;rintro e w3 ⟨t3,N,I,K,P,O,Q,m3,n3,s3,rfl,a1,a6,F⟩;have G:=(D.below B).below F;obtain⟨r0,r1,r2,r3,r4,r5⟩:=G.six;obtain⟨f0,f1,f2,f3,f4,f5,b1⟩:=G.ice;have a8:Hid (Below S w w3):=(a3.trans (B.mono (by have:=D.lt;omega))).trans (F.mono (by have:=D.lt;have:=B.size;omega));clear F G;go_wp2_with fail;refine zN (v:=.agg #[Vi (Tm.kind t3),.slice N I K,.slice P O Q,Vi m3,Vi n3,.string s3]) (by simp[results,results30,go_sem,r0,r1,r2,r3,r4,r5]) rfl ⟨t3,N,I,K,P,O,Q,m3,n3,s3,rfl,?_,a6,?_⟩
 ·rw[hS];exact aj.mono (λg _ a=>by rcases a with a|a;exact .inl a;exact .inr (by omega)) _ _ (dP a1 (λg h=>by have:=HA.out g h;omega) _ _ _ _ _ _)
 ·rw[hS];exact bC a8 _ _ _ _ _ _
theorem Pd (hK:K=5\/K=6){m:List Tm}(h:dj c l m)(hg:SomeG K m t):Gd (aX (SK K l).L (back c)) (bZ (Tm.or l).z) ((Tm.or l).z*(Tm.or l).tl) t:=by
 rcases hK with rfl|rfl
 ·exact Lk h hg
 ·exact Hk h hg
theorem Pe (hK:K=5\/K=6)(c:Int)(hA:∀g,A g->g<w.heap.size)(hr:cg w A lo xs)(hl:aO w A l xs)(ih:∀t∈l,qF t)(hok:dW l)(hne:l≠[])(hp:place c)(hz:(Tm.or l).z*(Tm.or l).tl<=3000000000000000000)(hz2:bZ (Tm.or l).z<=2000000000000):Calls prog 30 #[.agg #[Vi K,Vz,.slice lo l.length lc,Vi 0,Vi 0,.string s],Vi c] w (eH w A (Gd (aX (SK K l).L (back c)) (bZ (Tm.or l).z) ((Tm.or l).z*(Tm.or l).tl))):=by
 obtain⟨p,b7,z,D,b2,b0⟩:=jK (rfl:w.heap.size=_) (TC K none 0 0 lo l.length lc 0 0 s) 58 TZ 58;replace z:Below _ _ p:=z;have a0:p.cell? (aD w.heap.size 0)=some (Vi K):=D.cell 0;have e5:=D.lt;have d1:Hid (∀(i:Nat) (t:Tm) (wr:World) (W:Option Addr) (Q Z:Nat) (M:Option Addr) (a6 a7:Nat) (m' n':Int) (s':ByteArray),l[i]?=some t->Bw p wr->aj p A t (TC t.kind W Q Z M a6 a7 m' n' s')->Calls prog 30 #[.agg #[Vi t.kind,.slice W Q Z,.slice M a6 a7,Vi m',Vi n',.string s'],Vi c] wr (eH wr A (Gd (aX t.L (back c)) (bZ t.z) (t.z*t.tl)))):=λi t wr W Q Z M a6 a7 m' n' s' hi Y hv=>by
  have hm:=zU hi;have h1:=Jk hm;have h2:=uv hm;refine ih t hm wr A _ _ _ _ _ _ _ _ _ c (λg f=>zF (hA g f) (zJ z.size Y.size)) (aj.below Y _ _ hv) (dO.1 hok t hm) hp ?_ ?_
  ·exact Cr (T:=bd l) (l:=bw l) (by omega) hz h2
  ·exact zJ (dY (zJ h1 (Nat.le_max_right 1 _))) hz2
 have c2:Hid (∀(wr:World) (C:Option Addr) (o:Nat) (x:List Tm) (F:List Value),Bw p wr->wr.ownsRow p.heap.size 58 6 (.slice C x.length o) x.length F->aO wr (λg=>A g\/p.heap.size<=g) x F->dj c l x->Calls prog 34 #[.slice C x.length o,Vi K] wr λe w6=>∃t so sn sc lo ln lc m n s,e=.returned (.agg #[Vi (Tm.kind t),.slice so sn sc,.slice lo ln lc,Vi m,Vi n,.string s])/\Hid (aj w6 (λg=>A g\/w.heap.size+1<g) t (TC t.kind so sn sc lo ln lc m n s))/\Hid (Gd (aX (SK K l).L (back c)) (bZ (Tm.or l).z) ((Tm.or l).z*(Tm.or l).tl) t)/\Bw wr w6):=λwr C o x F Y r E q=>by
  have h1:=q.tl;have h2:=q.z;have h3:=Y.size;have h4:bd l*bw l<=3000000000000000000:=Cr (T:=bd l) (l:=bw l) (Nat.le_max_right _ _) hz (zA _);have h5:bZ (bd l)<=2000000000000:=zJ (dY (Nat.le_max_right 1 _)) hz2;have c6:x≠[]:=λe=>hne (by have:=q.len;rw[e]at this;exact yf this.symm);refine (sT hK (A:=λg=>(A g\/p.heap.size<=g)/\g<wr.heap.size) (λg f=>f.2) ((fN r).mono (λg f h=>⟨.inr h,f⟩)) (aO.mono (λg f h=>⟨h,f⟩) _ _ E) q.ok c6 (by omega) (by omega)).mono ?_;rintro e w6 ⟨t,so,sn,sc,lo,ln,lc,m,n,s,rfl,g1,g2,g3⟩;refine⟨t,so,sn,sc,lo,ln,lc,m,n,s,rfl,?_,Pd hK q g2,g3⟩;exact aj.mono (λg _ f=>by rcases f with⟨f|f,_⟩|f;exact .inl f;exact .inr (by omega);exact .inr (by omega)) _ _ g1
 have e7:l.length<=2000000:=by
  have h1:=ko l;have h2:bd l<=max 1 (bd l):=Nat.le_max_right _ _;have h3:max 1 (bd l)<=2000000:=RJ hz2;omega
 have HR:=aa (hr.below z);have HL:=aa (aO.below z _ _ hl);have q1:(K==1)=false:=by rcases hK with rfl|rfl<;>rfl
 have q2:(K==2)=false:=by rcases hK with rfl|rfl<;>rfl
 have q3:(K==3)=false:=by rcases hK with rfl|rfl<;>rfl
 have q4:(K==4)=false:=by rcases hK with rfl|rfl<;>rfl
 have q7:(K==7)=false:=by rcases hK with rfl|rfl<;>rfl
 have q8:(K==8)=false:=by rcases hK with rfl|rfl<;>rfl
 have a3:=aa D;have d5:=aa b2;have d8:=aa z;have d9:=aa b7;have HA:=aa hA;have U:=aa b0;clear hK b7 z D b2 b0 ih hok hr hl hA hz hz2 hp hne;obtain⟨i0,hi,b9,c3,c1⟩:=zz lM;go_enter func30,ntmps30;go_upto_region 1 with fail;rw[d9.out];generalize hS:w.heap.size=S at *;go_wp2_with fail
 go_loopw [9,10] (λov iv wr=>∃(i:Nat) (x:List Tm) (F:List Value),iv=Vi i/\i<=l.length/\wr.ownsRow p.heap.size 58 6 ov x.length F/\aO wr (λg=>(A g\/p.heap.size<=g)/\ov.ownBlock≠some g) x F/\dj c (l.take i) x/\Bw p wr) (λ_ iv _=>l.length-(intOf iv).toNat)
 case atStart=>exact⟨0,[],[],rfl,zW _,zZ _ _ _ _,rfl,trivial,zE _ _⟩
 case round=>
  obtain⟨i,x,F,rfl,e9,r,E,q,a⟩:=hrel;obtain⟨C,o,rfl⟩:=cd r;have HO:=aa r;have HU:=aa E;have a5:=aa q;have y:=aa a;have N:p.heap.size<=wr.heap.size:=a.size;have i1:(0:Int)<=(i:Int):=zK _;have a2:wr.cell? (aD S 2)=some (.slice lo l.length lc):=(a3.below a).cell 2;have f7:wr.cell? (aD S 0)=some (Vi K):=(a3.below a).cell 0;have g0:S<wr.heap.size:=(a3.below a).lt;clear r E q a;by_cases d6:i<l.length
  ·have i2:(i:Int)<(l.length:Int):=by omega
   obtain⟨t,ht⟩:∃t,l[i]?=some t:=⟨_,zB d6⟩;have d3:Hid (l.take (i+1)=l.take i++[t]):=by show _=_;rw[zi,ht];rfl
   obtain⟨b,f9,d,rfl,Y,hv,hc⟩:=HR.out.get HL.out ht;obtain⟨e2,f6,e4,e1,e6,e8,mx,nx,sx,rfl,_⟩:=hv.form;obtain⟨y0,y1,y2,y3,y4,y5⟩:=oT y.out Y hc;have e3:b<wr.heap.size:=zF Y N;have HC:=aa (d1 i t wr _ _ _ _ _ _ _ _ _ ht y hv);clear hc hv ht;go_wp2_with fail;refine HC.mono ?_;rintro e w5 ⟨t5,R,L,P,X,a4,a8,m5,n5,s5,rfl,b1,b8,G⟩;obtain⟨U3,c4,k,O,-⟩:=dS (rfl:w5.heap.size=_) (TC t5.kind R L P X a4 a8 m5 n5 s5) 58;replace k:Below _ _ U3:=k;replace O:=aa O;have d7:=aa c4;have b6:=aa (bg (bg HO G) k);have I:Hid (Bw wr U3):=G.trans (k.mono G.size);have V:Hid (Bw p U3):=y.trans (I.mono N);have c8:=aa (aj.below k _ _ b1);have d2:=aa b8;have e0:x.length<=2000000:=by have:=a5.len;rw[yn]at this;omega
   clear c4 k b1 b8 G HC;go_wp2_with (at_builtin;rw[d7.out];refine jg rfl (.tmp 96) (.tmp 104) 56 58 i0 _ 6 88 rfl underlying56 hi b9 c3 c1 rfl (by decide) p.heap.size x.length _ _ rfl b6 _ 1 _ (TC t5.kind R L P X a4 a8 m5 n5 s5) rfl rfl (by decide) (λj u hj=>by rw[zl,zf,O.out.cell];exact hj) (sD _ _ _ _ _ _ _ _ _ _) (by unfold maxLen;omega) (by omega) V.size ?_;intro v4 w4 B J H;have HF:=aa (And.intro B (And.intro J H));clear B J H)
   go_roundw
   case rel=>
    refine⟨i+1,x++[t5],F++TC t5.kind R L P X a4 a8 m5 n5 s5,by go_num,by omega,by simpa using HF.1,?_,by rw[d3.out];exact a5.snoc d2,cD V V.size b6 HF.2.1⟩;exact CK HF.2.1 HF.2.2 I HU c8 (λg e=>HO.lt g e) (λg h=>by have:=HA.out g h;have:=U.out;omega) N
   case measure=>simp[intOf];omega
  ·have i2:decide ((i:Int)<(l.length:Int))=false:=zI (by omega);obtain rfl:i=l.length:=by omega
   have d0:=aa (c2 wr C o x F y HO (aO.mono (λg _ h=>h.1) _ _ HU) (by have:=a5.out;rwa [zQ]at this));go_wp2_with fail;refine d0.mono ?_;rintro e w3 ⟨t3,c0,a9,b5,b3,b4,c5,m3,n3,s3,rfl,c7,d4,k⟩;have a1:=(d5.below y).below k;obtain⟨r0,r1,r2,r3,r4,r5⟩:=a1.six;obtain⟨f0,f1,f2,f3,f4,f5,f8⟩:=a1.ice;have c9:Hid (Below S w w3):=(d8.trans (y.mono (by have:=U.out;omega))).trans (k.mono (by have:=U.out;omega));clear k a1;go_wp2_with fail;refine zN (v:=.agg #[Vi (Tm.kind t3),.slice c0 a9 b5,.slice b3 b4 c5,Vi m3,Vi n3,.string s3]) (by simp[results,results30,go_sem,r0,r1,r2,r3,r4,r5]) rfl ⟨t3,c0,a9,b5,b3,b4,c5,m3,n3,s3,rfl,?_,d4,?_⟩
   ·rw[hS];exact aj.mono (λg _ f=>by rcases f with f|f;exact .inl f;exact .inr (by omega)) _ _ (dP c7 (λg h=>by have:=HA.out g h;omega) _ _ _ _ _ _)
   ·rw[hS];exact bC c9 _ _ _ _ _ _
theorem fB (h:Bw a w')(o:Obj):Bw a (w'.alloc o):=h.alloc h.size o
theorem OB (h:Bw a w')(o:Obj):Bw a (w'.alloc o).drew:=(h.alloc h.size o).drew
theorem wy {w6:World}{Z X s5 Y ka:Nat}{t6:Tm}(h:aj w6 (λg=>(A g\/(X<g/\g<s5))\/(Y<g/\g<w6.heap.size)) t6 cs)(hX:Z<=X)(hY:Z<=Y)(hA:∀g,A g->g<Z)(hk:Z<=ka)(h1:ka<=X\/s5<=ka)(h2:ka<=Y\/w6.heap.size<=ka):aj w6 (λg=>(A g\/Z<=g)/\g≠ka) t6 cs:=by
 refine aj.mono (λg a h=>?_) _ _ h;rcases h with (h|h)|h
 ·have:=hA g h;exact⟨.inl h,by omega⟩
 ·exact⟨.inr (by omega),by omega⟩
 ·exact⟨.inr (by omega),by omega⟩
theorem bL {b c:World}(h:Bw a b)(k:Bw b c):Bw a c:=h.trans (k.mono h.size)
theorem OC {q:Tm}{soy:OA}{sny scy:Nat}{loy:OA}{lny lcy:Nat}{my ny:Int}{sy:ByteArray}(c:Int)(hA:∀g,A g->g<w.heap.size)(ip:qF p)(iq:qF q)(pk:p.Ok)(qk:q.Ok)(hpl:place c)(hz:(p.z+q.z)*(p.tl+q.tl+12)<=3000000000000000000)(hz2:bZ (p.z+q.z)<=2000000000000)(hbl:b<w.heap.size)(hrow:∀j v,(TC p.kind sox snx scx lox lnx lcx mx nx sx++TC q.kind soy sny scy loy lny lcy my ny sy)[j]?=some v->w.cell? ⟨b,off+j,none⟩=some v)(hp:aj w A p (TC p.kind sox snx scx lox lnx lcx mx nx sx))(hq:aj w A q (TC q.kind soy sny scy loy lny lcy my ny sy)):Calls prog 30 #[.agg #[Vi 4,Vz,.slice (some (aD b off)) 2 lc,Vi 0,Vi 0,.string s],Vi c] w (eH w A (Gd (aX (aJ p.L q.L) (back c)) (bZ (p.z+q.z)) ((p.z+q.z)*(p.tl+q.tl+12)))):=by
 obtain⟨d,e6,G,b6,f9,e9⟩:=jK (rfl:w.heap.size=_) (TC 4 none 0 0 (some (aD b off)) 2 lc 0 0 s) 58 TZ 58;replace G:Below _ _ d:=G;have a0:d.cell? (aD w.heap.size 0)=some (Vi 4):=b6.cell 0;have l3:d.cell? (aD w.heap.size 2)=some (.slice (some (aD b off)) 2 lc):=b6.cell 2;have d0:=b6.lt;have b8:b<d.heap.size:=zF hbl G.size;obtain⟨i1,i5,j9,i3,i7,m7⟩:=oT G hbl (CT.fst hrow);obtain⟨k8,i4,i6,j5,j2,i2⟩:=oT G hbl (CT.snd hrow);have j3:=YD (ta:=p.tl) (tb:=q.tl) (fE p) (fE q);have m1:=Xq (zb:=q.z) (fE p);have E:Hid (∀a,Bw d a->(Bw d a/\a.cell? (aD w.heap.size 2)=some (.slice (some (aD b off)) 2 lc)/\CT a b off p.kind sox snx scx lox lnx lcx mx nx sx/\CT a b (off+6) q.kind soy sny scy loy lny lcy my ny sy)):=λa h=>⟨h,(h.cell (p:=(aD w.heap.size 2)) d0).trans l3,CT.below h b8 ⟨i1,i5,j9,i3,i7,m7⟩,CT.below h b8 ⟨k8,i4,i6,j5,j2,i2⟩⟩;have HL:Hid (∀a,Bw d a->Calls prog 30 #[.agg #[Vi p.kind,.slice sox snx scx,.slice lox lnx lcx,Vi mx,Vi nx,.string sx],Vi c] a λe i=>∃t L R O lo N lc m n s,e=.returned (.agg #[Vi (Tm.kind t),.slice L R O,.slice lo N lc,Vi m,Vi n,.string s])/\aj i (λg=>A g\/(a.heap.size<g/\g<i.heap.size)) t (TC t.kind L R O lo N lc m n s)/\Gd (aX p.L (back c)) (bZ p.z) (p.z*p.tl) t/\Bw a i/\Bw d i):=λa h=>by
  refine (ip a A _ _ _ _ _ _ _ _ _ c (λg f=>by have h1:=hA g f;have h2:=G.size;have h3:=h.size;omega) (aj.below h _ _ (aj.below G _ _ hp)) pk hpl (by omega) (by omega)).mono ?_;rintro e i ⟨t,L,R,O,lo,N,lc,m,n,s,rfl,g1,g2,g3⟩;exact⟨t,L,R,O,lo,N,lc,m,n,s,rfl,aj.mono (λg f h=>by rcases h with h|h;exact .inl h;exact .inr ⟨h,f⟩) _ _ g1,g2,g3,bL h g3⟩
 have HP:Hid (∀(i a:World) (X:Nat) (t5:Tm) (c0:Option Addr) (c1 b9:Nat) (c2:Option Addr) (c3 b5:Nat) (m5 n5:Int) (s5:ByteArray),Bw d a->Bw i a->aj i (λg=>A g\/(X<g/\g<i.heap.size)) t5 (TC t5.kind c0 c1 b9 c2 c3 b5 m5 n5 s5)->Gd (aX p.L (back c)) (bZ p.z) (p.z*p.tl) t5 ->
   Calls prog 38 #[.agg #[Vi t5.kind,.slice c0 c1 b9,.slice c2 c3 b5,Vi m5,Vi n5,.string s5],.agg #[Vi q.kind,.slice soy sny scy,.slice loy lny lcy,Vi my,Vi ny,.string sy]] a λe T=>∃t L R O lo N lc m n s,e=.returned (.agg #[Vi (Tm.kind t),.slice L R O,.slice lo N lc,Vi m,Vi n,.string s])/\aj T (λg=>(A g\/(X<g/\g<i.heap.size))\/(a.heap.size<g/\g<T.heap.size)) t (TC t.kind L R O lo N lc m n s)/\Gd (aJ (aX p.L (back c)) q.L) (bZ p.z+q.z) (p.z*p.tl+q.tl+12) t/\Bw a T/\Bw d T):=λi a X t5 c0 c1 b9 c2 c3 b5 m5 n5 s5 h h5 b7 Z=>by
  have h1:=Z.z;have h2:=Z.tl;have h3:=h5.size;have h4:=h.size;have h6:=G.size;refine (nY t5 a (λg=>A g\/(X<g/\g<i.heap.size)) q _ _ _ _ _ _ _ _ _ _ _ _ _ _ _ _ _ _ (λg f=>by rcases f with f|f;have:=hA g f;omega;omega) (aj.below h5 _ _ b7) (aj.mono (λg _ f=>.inl f) _ _ (aj.below h _ _ (aj.below G _ _ hq))) Z.ok qk (by omega)).mono ?_;rintro e T ⟨t,L,R,O,lo,N,lc,m,n,s,rfl,g1,g2,g3⟩;exact⟨t,L,R,O,lo,N,lc,m,n,s,rfl,aj.mono (λg f h=>by rcases h with h|h;exact .inl h;exact .inr ⟨h,f⟩) _ _ g1,⟨g2.ok,by rw[g2.lg,Z.lg],by have:=g2.z;omega,by have:=g2.tl;omega⟩,g3,bL h g3⟩
 have l1:Hid (∀a,Bw d a->Calls prog 29 #[.agg #[Vi p.kind,.slice sox snx scx,.slice lox lnx lcx,Vi mx,Vi nx,.string sx]] a λe D=>∃v:Bool,e=.returned (.bool v)/\(v=true↔p.L [])/\Bw a D):=λa h=>iR p a A _ _ _ _ _ _ _ _ _ (aj.below h _ _ (aj.below G _ _ hp)) pk (by have h1:=fE p;have h2:1*p.tl<=p.z*p.tl:=zn _ h1;omega);have l4:Hid (∀C,¬p.L []->Gd (aJ (aX p.L (back c)) q.L) (bZ p.z+q.z) (p.z*p.tl+q.tl+12) C->Gd (aX (aJ p.L q.L) (back c)) (bZ (p.z+q.z)) ((p.z+q.z)*(p.tl+q.tl+12)) C):=λC hn h=>⟨h.ok,by rw[h.lg,rK,zR hn],by have:=h.z;omega,by have:=h.tl;omega⟩;have m0:Hid (∀a,Bw d a->Calls prog 30 #[.agg #[Vi q.kind,.slice soy sny scy,.slice loy lny lcy,Vi my,Vi ny,.string sy],Vi c] a λe i=>∃t L R O lo N lc m n s,e=.returned (.agg #[Vi (Tm.kind t),.slice L R O,.slice lo N lc,Vi m,Vi n,.string s])/\aj i (λg=>A g\/(a.heap.size<g/\g<i.heap.size)) t (TC t.kind L R O lo N lc m n s)/\Gd (aX q.L (back c)) (bZ q.z) (q.z*q.tl) t/\Bw a i/\Bw d i):=λa h=>by
  refine (iq a A _ _ _ _ _ _ _ _ _ c (λg f=>by have h1:=hA g f;have h2:=G.size;have h3:=h.size;omega) (aj.below h _ _ (aj.below G _ _ hq)) qk hpl (by omega) (by omega)).mono ?_;rintro e i ⟨t,L,R,O,lo,N,lc,m,n,s,rfl,g1,g2,g3⟩;exact⟨t,L,R,O,lo,N,lc,m,n,s,rfl,aj.mono (λg f h=>by rcases h with h|h;exact .inl h;exact .inr ⟨h,f⟩) _ _ g1,g2,g3,bL h g3⟩
 have m3:Hid (∀(D:World) (C:Tm) (z:Option Addr) (o y:Nat) (x:Option Addr) (r B:Nat) (P K:Int) (M:ByteArray) (F:Nat),p.L []->aj D (λg=>(A g\/d.heap.size<=g)/\g≠F) C (TC C.kind z o y x r B P K M)->Gd (aJ (aX p.L (back c)) q.L) (bZ p.z+q.z) (p.z*p.tl+q.tl+12) C->Bw d D ->
   ∀(w8:World) (t8:Tm) (a5:Option Addr) (a4 U:Nat) (a6:Option Addr) (V a8:Nat) (m8 n8:Int) (s8:ByteArray),Bw D w8->aj w8 (λg=>A g\/(D.drew.heap.size<g/\g<w8.heap.size)) t8 (TC t8.kind a5 a4 U a6 V a8 m8 n8 s8)->Gd (aX q.L (back c)) (bZ q.z) (q.z*q.tl) t8 ->
   Calls prog 34 #[Vs w8.heap.size 2 2,Vi 5] (w8.alloc (.cells #[Vi C.kind,.slice z o y,.slice x r B,Vi P,Vi K,.string M,Vi t8.kind,.slice a5 a4 U,.slice a6 V a8,Vi m8,Vi n8,.string s8] 58)) λe w9=>∃t L R O lo N lc m n s,e=.returned (.agg #[Vi (Tm.kind t),.slice L R O,.slice lo N lc,Vi m,Vi n,.string s])/\Hid (aj w9 (λg=>A g\/w.heap.size+1<g) t (TC t.kind L R O lo N lc m n s))/\Hid (Gd (aX (aJ p.L q.L) (back c)) (bZ (p.z+q.z)) ((p.z+q.z)*(p.tl+q.tl+12)) t)/\Bw D w9):=λD C z o y x r B P K M F hy c4 W b1 w8 t8 a5 a4 U a6 V a8 m8 n8 s8 b0 c6 a7=>by
  obtain⟨W9,d5,a9,-,-⟩:=dS (rfl:w8.heap.size=_) (TC C.kind z o y x r B P K M++TC t8.kind a5 a4 U a6 V a8 m8 n8 s8) 58;replace a9:Below _ _ W9:=a9;have g9:=nP w8 (TC C.kind z o y x r B P K M++TC t8.kind a5 a4 U a6 V a8 m8 n8 s8) 58;rw[d5]at g9;have s1:=b1.size;have s2:=b0.size;have s3:=a9.size;have z6:=W.z;have l6:=W.tl;have z8:=a7.z;have l8:=a7.tl;have o2:D.drew.heap.size=D.heap.size:=rfl;have m2:aO W9 (λg=>(A g\/d.heap.size<=g)/\g<W9.heap.size) [C,t8] (TC C.kind z o y x r B P K M++TC t8.kind a5 a4 U a6 V a8 m8 n8 s8):=aO.append (l:=[C]) (aO.one (aj.mono (λg f h=>⟨h.1,f⟩) _ _ (aj.below a9 _ _ (aj.below b0 _ _ c4)))) (aO.one (aj.mono (λg f h=>⟨by rcases h with h|h;exact .inl h;exact .inr (by omega),f⟩) _ _ (aj.below a9 _ _ c6)));have hc:=sT (.inl rfl) (lo:=some (aD w8.heap.size 0)) (lc:=2) (λg f=>f.2) (g9.mono (λg f h=>⟨.inr (by omega),f⟩)) m2 ⟨W.ok,a7.ok,trivial⟩ (by simp) (by simp only[bw];omega) (by simp only[bd];omega);rw[<-d5]at hc;refine Calls.mono hc ?_;rintro e w9 ⟨t,L,R,O,lo,N,lc,m,n,s,rfl,g1,g2,g3⟩;rw[d5]at g1 g3;refine⟨t,L,R,O,lo,N,lc,m,n,s,rfl,?_,⟨g2.ok,?_,?_,?_⟩,(b0.trans (a9.mono s2)).trans (g3.mono (by omega))⟩
  ·exact aj.mono (λg _ f=>by rcases f with⟨f|f,_⟩|f;exact .inl f;exact .inr (by omega);exact .inr (by omega)) _ _ g1
  ·funext u;rw[rK,zX hy];refine propext ((g2.or rfl u).trans ?_);simp only[kI,or_false];rw[W.lg,a7.lg];rfl
  ·have:=g2.z;simp only[bd]at this;have:=Bk (fE p);omega
  ·have:=g2.tl;simp only[bw]at this;omega
 have j6:Hid (∀i T:World,Below (d.alloc (.cells #[Vi 0,Vz,Vz,Vi 0,Vi 0,.string ⟨#[]⟩] 58)).drew.heap.size (d.alloc (.cells #[Vi 0,Vz,Vz,Vi 0,Vi 0,.string ⟨#[]⟩] 58)).drew i->Bw i T->ag T d.heap.size TZ 58):=λi T h1 h2=>by
  have h3:=ag.new d TZ 58;exact (h3.below (ku h1)).below h2
 have j7:Hid (∀(i:World) (F:Nat),i.heap.size=F->Bw d i->d.heap.size<=F):=λi F e h=>by rw[<-e];exact h.size
 have j8:Hid (∀i:World,∃F:Nat,i.heap.size=F):=λi=>⟨_,rfl⟩;have i0:Hid (∀(i T:World) (F:Nat),i.heap.size=F->Below (i.alloc (.cells #[Vi 0,Vz,Vz,Vi 0,Vi 0,.string ⟨#[]⟩] 58)).heap.size (i.alloc (.cells #[Vi 0,Vz,Vz,Vi 0,Vi 0,.string ⟨#[]⟩] 58)) T->ag T F TZ 58):=λi T F e h1=>by
  subst e;have h3:=ag.new i TZ 58;exact h3.below h1
 have g6:=aa f9;have e4:=aa G;have k9:=aa e6;have HA:=aa hA;have b4:=aa e9;have k7:Hid (∀(D a:World),Bw d D->Bw D a->ag a (w.heap.size+1) TZ 58):=λD a h k=>g6.out.below (bL h k);have d6:Hid (∀g,A g->g<d.heap.size):=λg h=>by have:=hA g h;omega
 clear hrow hp hq pk qk e6 G b6 f9 hA ip iq hz hz2 j3 m1 hpl e9;go_enter func30,ntmps30;go_upto_region 1 with fail;rw[k9.out];generalize hS:w.heap.size=S at *;go_upto_region 18 with fail
 go_cut [7] (λv wx=>∃(F:Nat) (C:Tm) (z:Option Addr) (o y:Nat) (x:Option Addr) (r B:Nat) (P K:Int) (M:ByteArray),v=Vp F/\Hid (ag wx F (TC C.kind z o y x r B P K M) 58/\d.heap.size<=F/\aj wx (λg=>(A g\/d.heap.size<=g)/\g≠F) C (TC C.kind z o y x r B P K M)/\Gd (aJ (aX p.L (back c)) q.L) (bZ p.z+q.z) (p.z*p.tl+q.tl+12) C/\Bw d wx))
 case first=>
  have c7:=aa (E.out d.drew (jw d))
  go_region_held3 (λa=>Bw d a/\a.cell? (aD S 2)=some (.slice (some (aD b off)) 2 lc)/\CT a b off p.kind sox snx scx lox lnx lcx mx nx sx/\CT a b (off+6) q.kind soy sny scy loy lny lcy my ny sy)
   (first|with_reducible exact c7.out|with_reducible exact E.out _ Y.out|with_reducible exact E.out _ I.out|with_reducible exact E.out _ (fB I.out _)|with_reducible exact E.out _ (fB Y.out _)|with_reducible exact E.out _ (fB I.out _)|with_reducible exact E.out _ (fV I.out (zA _) _ _ _ _ _ _)|with_reducible exact E.out _ (fV I.out c5.out _ _ _ _ _ _)|with_reducible exact E.out _ (OB (zE _ _) _)|fail)
   (first
    |(go_at_call 30;with_reducible refine (HL.out _ (‹Bw d _/\_›.1)).mono ?_;rintro e i ⟨t5,c0,c1,b9,c2,c3,b5,m5,n5,s5,rfl,b7,Z,e3,e8⟩;have Y:=aa e8;have n1:=aa b7;have l0:=aa Z;have l7:=aa e3;clear b7 Z e3 e8)
    |(go_at_call 38;with_reducible refine (HP.out i _ _ t5 _ _ _ _ _ _ _ _ _ (‹Bw d _/\_›.1) (by first|with_reducible exact zE _ _|with_reducible exact fB (zE _ _) _) n1.out l0.out).mono ?_;rintro e T ⟨C,z,o,y,x,r,B,P,K,M,rfl,c4,W,h7,g0⟩;have I:=aa g0;have d7:=aa c4;have d4:=aa W;have d1:=aa h7;clear c4 W h7 g0;(first|(with_reducible have Q:=j6.out _ _ l7.out d1.out;obtain⟨r0,r1,r2,r3,r4,r5⟩:=Q.six;obtain⟨f0,f1,f2,f3,f4,f5,c8⟩:=Q.ice;have d2:=aa Q;clear Q)|(obtain⟨F,b3⟩:=j8.out i;with_reducible have Q:=i0.out _ _ F b3 d1.out;obtain⟨r0,r1,r2,r3,r4,r5⟩:=Q.six;obtain⟨f0,f1,f2,f3,f4,f5,c8⟩:=Q.ice;have d2:=aa Q;clear Q;rw[b3];have c5:=aa (j7.out _ _ b3 Y.out);have h0:=aa b3;clear b3;skip)|skip))
    |fail)
  ·go_wp2_with fail
   go_meet
   case rel=>exact⟨T.heap.size,C,z,o,y,x,r,B,P,K,M,rfl,ag.new T (TC C.kind z o y x r B P K M) 58,I.out.size,aj.below (fB (zE _ _) _) _ _ (wy d7.out (zA d.heap.size) Y.out.size d6.out I.out.size (.inr d1.out.size) (.inr (zA _))),d4.out,fB I.out _⟩
  ·go_wp2_with fail
   go_meet
   case rel=>exact⟨F,C,z,o,y,x,r,B,P,K,M,rfl,d2.out.sixS _ _ _ _ _ _,c5.out,gR (wy d7.out (zA d.heap.size) (by have:=Y.out.size;simp;omega) d6.out c5.out (.inr (by rw[h0.out];exact zA _)) (.inl (by have:=h0.out;simp;omega))) (λh=>h.2 rfl) _ _ _ _ _ _,d4.out,fV I.out c5.out _ _ _ _ _ _⟩
  ·go_wp2_with fail
   go_meet
   case rel=>exact⟨d.heap.size,C,z,o,y,x,r,B,P,K,M,rfl,d2.out.sixS _ _ _ _ _ _,zA _,gR (wy d7.out (by show d.heap.size<=(d.alloc _).heap.size;simp) Y.out.size d6.out (zA _) (.inl (by show d.heap.size<=(d.alloc _).heap.size;simp)) (.inl Y.out.size)) (λh=>h.2 rfl) _ _ _ _ _ _,d4.out,fV I.out (zA _) _ _ _ _ _ _⟩
 case rest=>
  obtain⟨F,C,z,o,y,x,r,B,P,K,M,rfl,J⟩:=hcut;have a1:Bw d wc:=J.out.2.2.2.2;have a2:wc.cell? (aD S 2)=some (.slice (some (aD b off)) 2 lc):=(E.out wc a1).2.1;obtain⟨x0,x1,x2,x3,x4,x5⟩:=(E.out wc a1).2.2.1;have j0:b<wc.heap.size:=zF b8 a1.size;have n0:S<wc.heap.size:=zF d0 a1.size;have e5:=aa (l1.out wc a1);have j4:=aa a1;clear a1;go_wp2_with fail;refine e5.out.mono ?_;rintro e D ⟨v,rfl,h9,b1⟩;have g4:=aa h9;have H:Hid (Bw d D):=bL j4.out b1;have d9:=aa (J.out.1.below b1);have g5:=aa (aj.below b1 _ _ J.out.2.2.1);have o0:b<D.heap.size:=zF b8 H.out.size;have n7:S<D.heap.size:=zF d0 H.out.size;have e1:F<D.heap.size:=d9.out.lt;have n4:S+1<F:=by have:=J.out.2.1;have:=b4.out;omega
  have o1:b<S:=hbl;clear h9 b1 a2 x0 x1 x2 x3 x4 x5 e5 j0 n0;cases v with
  |false=>
   have k6:Hid (¬p.L []):=λh=>by have:=g4.out.2 h;cases this
   obtain⟨k0,k1,k2,k3,k4,k5⟩:=d9.out.six;have c9:=g6.out.below H.out;obtain⟨r0,r1,r2,r3,r4,r5⟩:=c9.six;obtain⟨f0,f1,f2,f3,f4,f5,c8⟩:=c9.ice;clear c9;go_wp2_with fail;refine zN (v:=.agg #[Vi (Tm.kind C),.slice z o y,.slice x r B,Vi P,Vi K,.string M]) (by simp[results,results30,go_sem,r0,r1,r2,r3,r4,r5]) rfl ⟨C,z,o,y,x,r,B,P,K,M,rfl,?_,l4.out C k6.out J.out.2.2.2.1,?_⟩
   ·rw[hS];exact aj.mono (λg _ f=>by rcases f with⟨f|f,_⟩;exact .inl f;exact .inr (by have:=b4.out;omega)) _ _ (gR g5.out (λh=>by rcases h with⟨h|h,_⟩;have:=HA.out _ h;omega;have:=b4.out;omega) _ _ _ _ _ _)
   ·rw[hS];exact bC (e4.out.trans (H.out.mono (by have:=b4.out;omega))) _ _ _ _ _ _
  |true=>
   have e2:Hid (p.L []):=g4.out.1 rfl;obtain⟨k0,k1,k2,k3,k4,k5⟩:=d9.out.six;have a3:Hid (∀a,Bw D a->(Bw D a/\a.cell? (aD S 2)=some (.slice (some (aD b off)) 2 lc)/\CB a F C.kind z o y x r B P K M/\CT a b (off+6) q.kind soy sny scy loy lny lcy my ny sy)):=λa h=>⟨h,(E.out a (bL H.out h)).2.1,CB.below h e1 ⟨k0,k1,k2,k3,k4,k5⟩,(E.out a (bL H.out h)).2.2.2⟩;have f8:=aa (m3.out D C _ _ _ _ _ _ _ _ _ F e2.out g5.out J.out.2.2.2.1 H.out);have m4:S+1≠S:=by omega
   have i8:S+1≠b:=by omega
   have j1:S+1≠F:=by omega
   have c7:=aa (a3.out D.drew (jw D));have l2:=aa (m0.out D.drew (bL H.out (jw D)));clear k0 k1 k2 k3 k4 k5;go_wp2_with fail
   go_region_held3 (λa=>a.cell? (aD S 2)=some (.slice (some (aD b off)) 2 lc)/\CB a F C.kind z o y x r B P K M/\CT a b (off+6) q.kind soy sny scy loy lny lcy my ny sy)
    (first|with_reducible exact c7.out.2|with_reducible exact (a3.out _ d3.out).2|with_reducible exact (a3.out _ (fB d3.out _)).2|with_reducible exact (a3.out _ b2.out).2|with_reducible exact⟨JK m4 (a3.out _ b2.out).2.1,CB.far j1 (a3.out _ b2.out).2.2.1,CT.far i8 (a3.out _ b2.out).2.2.2⟩|fail)
    (first
     |(go_at_call 30;with_reducible refine l2.out.mono ?_;rintro e w8 ⟨t8,a5,a4,U,a6,V,a8,m8,n8,s8,rfl,c6,a7,b0,i9⟩;have d3:=aa (ku b0);have n3:=aa c6;have l9:=aa a7;clear c6 a7 b0 i9)
     |(go_at_call 34;with_reducible refine (f8.out w8 t8 _ _ _ _ _ _ _ _ _ d3.out n3.out l9.out).mono ?_;rintro e w9 ⟨t9,e0,e7,f7,h8,g7,g8,m9,n9,s9,rfl,n2,l5,f6⟩;have b2:=aa f6;have d8:=k7.out _ _ H.out b2.out;obtain⟨r0,r1,r2,r3,r4,r5⟩:=d8.six;obtain⟨f0,f1,f2,f3,f4,f5,c8⟩:=d8.ice;clear d8 f6)
     |fail)
   go_wp2_with fail;refine zN (v:=.agg #[Vi (Tm.kind t9),.slice e0 e7 f7,.slice h8 g7 g8,Vi m9,Vi n9,.string s9]) (by simp[results,results30,go_sem,r0,r1,r2,r3,r4,r5]) rfl ⟨t9,e0,e7,f7,h8,g7,g8,m9,n9,s9,rfl,?_,l5.out,?_⟩
   ·rw[hS];exact aj.mono (λg _ f=>by rcases f with f|f;exact .inl f;exact .inr (by omega)) _ _ (dP n2.out (λg h=>by have:=HA.out g h;omega) _ _ _ _ _ _)
   ·rw[hS];exact bC (e4.out.trans ((bL H.out b2.out).mono (by have:=b4.out;omega))) _ _ _ _ _ _
theorem Ac (c:Int)(hA:∀g,A g->g<w.heap.size)(ip:qF p)(pk:p.Ok)(hpl:place c)(hm0:0<=m)(hm5:m<=5)(hn:n=-1\/(0<n/\m<=n/\n<=5))(hz:(p.z+1)*(p.tl+12)<=3000000000000000000)(hz2:bZ (p.z+1)<=2000000000000)(hbl:b<w.heap.size)(hrow:∀j v,(TC p.kind sox snx scx lox lnx lcx mx nx sx)[j]?=some v->w.cell? ⟨b,off+j,none⟩=some v)(hp:aj w A p (TC p.kind sox snx scx lox lnx lcx mx nx sx)):Calls prog 30 #[.agg #[Vi 8,Vz,.slice (some (aD b off)) 1 lc,Vi m,Vi n,.string s],Vi c] w (eH w A (Gd (aX (dB p.L m n) (back c)) (bZ (p.z+1)) ((p.z+1)*(p.tl+12)))):=by
 obtain⟨a,c5,o,E,a5,a7⟩:=jK (rfl:w.heap.size=_) (TC 8 none 0 0 (some (aD b off)) 1 lc m n s) 58 TZ 58;replace o:Below _ _ a:=o;have a0:a.cell? (aD w.heap.size 0)=some (Vi 8):=E.cell 0;have b5:a.cell? (aD w.heap.size 2)=some (.slice (some (aD b off)) 1 lc):=E.cell 2;have b3:a.cell? (aD w.heap.size 3)=some (Vi m):=E.cell 3;have e6:a.cell? (aD w.heap.size 4)=some (Vi n):=E.cell 4;have a1:=E.lt;have G:b<a.heap.size:=zF hbl o.size;obtain⟨d2,e4,d6,e8,e5,d9⟩:=oT o hbl hrow;have e3:=Xp (t:=p.tl) (fE p);have d7:=Vu p.z;have d0:1*p.tl<=p.z*p.tl:=zn _ (fE p);have b4:bA m=max (m-1) 0:=by unfold bA;split<;>omega
 have c3:IntKind.i64.wrap (m-1)=m-1:=by rw[IntKind.wrap_i64]<;>omega
 obtain⟨F,hF⟩:∃F,bA n=F:=⟨_,rfl⟩;have a8:(n=-1/\F=-1)\/(0<n/\F=n-1):=by
  rw[<-hF];unfold bA;rcases hn with rfl|h
  ·exact .inl ⟨rfl,rfl⟩
  ·exact .inr ⟨h.1,zX h.1⟩
 have c6:=aa a8;obtain⟨S,l⟩:∃S,w.heap.size=S:=⟨_,rfl⟩;have q:Hid (∀d,Bw a d->(d.cell? (aD S 2)=some (.slice (some (aD b off)) 1 lc)/\d.cell? (aD S 3)=some (Vi m)/\CT d b off p.kind sox snx scx lox lnx lcx mx nx sx)):=λd h=>by
  rw[<-l];exact⟨(h.cell (p:=(aD w.heap.size 2)) a1).trans b5,(h.cell (p:=(aD w.heap.size 3)) a1).trans b3,(h.cell (p:=(aD b off)) G).trans d2,(h.cell (p:=⟨b,off+1,none⟩) G).trans e4,(h.cell (p:=⟨b,off+2,none⟩) G).trans d6,(h.cell (p:=⟨b,off+3,none⟩) G).trans e8,(h.cell (p:=⟨b,off+4,none⟩) G).trans e5,(h.cell (p:=⟨b,off+5,none⟩) G).trans d9⟩
 have HL:Hid (∀d,Bw a d->Calls prog 30 #[.agg #[Vi p.kind,.slice sox snx scx,.slice lox lnx lcx,Vi mx,Vi nx,.string sx],Vi c] d λe w5=>∃t y B x C z lc mm nn s,e=.returned (.agg #[Vi (Tm.kind t),.slice y B x,.slice C z lc,Vi mm,Vi nn,.string s])/\aj w5 (λg=>A g\/a.heap.size<g) t (TC t.kind y B x C z lc mm nn s)/\Gd (aX p.L (back c)) (bZ p.z) (p.z*p.tl) t/\Bw d w5/\Bw a w5):=λd h=>by
  have h9:=h.size;refine (ip d A _ _ _ _ _ _ _ _ _ c (λg f=>by have h1:=hA g f;have h2:=o.size;omega) (aj.below h _ _ (aj.below o _ _ hp)) pk hpl (by omega) (by omega)).mono ?_;rintro e w5 ⟨t,y,B,x,C,z,lc,m,n,s,rfl,g1,g2,g3⟩;exact⟨t,y,B,x,C,z,lc,m,n,s,rfl,aj.mono (λg f h=>by rcases h with h|h;exact .inl h;exact .inr (by omega)) _ _ g1,g2,g3,bL h g3⟩
 have HT:Hid (∀d,Bw a d->Calls prog 36 #[.agg #[Vi p.kind,.slice sox snx scx,.slice lox lnx lcx,Vi mx,Vi nx,.string sx],Vi (max (IntKind.i64.wrap (m-1)) 0),Vi F] d λe w5=>∃t y B x C z lc mm nn s,e=.returned (.agg #[Vi (Tm.kind t),.slice y B x,.slice C z lc,Vi mm,Vi nn,.string s])/\aj w5 (λg=>A g\/a.heap.size<g) t (TC t.kind y B x C z lc mm nn s)/\Gd (dB p.L (max (m-1) 0) F) (p.z+1) (p.tl+12) t/\Bw d w5/\Bw a w5):=λd h=>by
  have h9:=h.size;rw[c3];refine (Cy (A:=A) (max (m-1) 0) F (λg f=>by have h1:=hA g f;have h2:=o.size;omega) (by omega) (by omega) (by omega) (aj.below h _ _ (aj.below o _ _ hp)) pk (by omega)).mono ?_;rintro e w5 ⟨t,y,B,x,C,z,lc,m',n',s,rfl,g1,g2,g3⟩;exact⟨t,y,B,x,C,z,lc,m',n',s,rfl,aj.mono (λg f h=>by rcases h with h|h;exact .inl h;exact .inr (by omega)) _ _ g1,g2,g3,bL h g3⟩
 have HP:Hid (∀(d:World) (W:Tm) (L:Option Addr) (M T:Nat) (R:Option Addr) (H Q:Nat) (ma na:Int) (sa:ByteArray) (Z:Tm) (N:Option Addr) (I U:Nat) (V:Option Addr) (K J:Nat) (mb nb:Int) (sb:ByteArray),Bw a d->aj d (λg=>A g\/a.heap.size<g) W (TC W.kind L M T R H Q ma na sa)->aj d (λg=>A g\/a.heap.size<g) Z (TC Z.kind N I U V K J mb nb sb)->Gd (aX p.L (back c)) (bZ p.z) (p.z*p.tl) W->Gd (dB p.L (max (m-1) 0) F) (p.z+1) (p.tl+12) Z ->
   Calls prog 38 #[.agg #[Vi W.kind,.slice L M T,.slice R H Q,Vi ma,Vi na,.string sa],.agg #[Vi Z.kind,.slice N I U,.slice V K J,Vi mb,Vi nb,.string sb]] d λe w6=>∃t y B x C z lc mm nn s,e=.returned (.agg #[Vi (Tm.kind t),.slice y B x,.slice C z lc,Vi mm,Vi nn,.string s])/\Hid (aj w6 (λg=>A g\/S+1<g) t (TC t.kind y B x C z lc mm nn s))/\Hid (Gd (aX (dB p.L m n) (back c)) (bZ (p.z+1)) ((p.z+1)*(p.tl+12)) t)/\Bw a w6):=λd W L M T R H Q ma na sa Z N I U V K J mb nb sb h r u k i=>by
  have z1:=k.z;have z2:=k.tl;have z3:=i.z;have z4:=i.tl;refine (nY W d (λg=>(λg=>A g\/a.heap.size<g) g/\g<d.heap.size) Z _ _ _ _ _ _ _ _ _ _ _ _ _ _ _ _ _ _ (λg f=>f.2) (aj.mono (λg f h=>⟨h,f⟩) _ _ r) (aj.mono (λg f h=>⟨h,f⟩) _ _ u) k.ok i.ok (by omega)).mono ?_;rintro e w6 ⟨t,y,B,x,C,z,lc,m',n',s,rfl,g1,g2,g3⟩;have h9:=h.size;refine⟨t,y,B,x,C,z,lc,m',n',s,rfl,?_,⟨g2.ok,?_,?_,?_⟩,bL h g3⟩
  ·exact aj.mono (λg _ f=>by rcases f with⟨f|f,_⟩|f;exact .inl f;exact .inr (by omega);exact .inr (by omega)) _ _ g1
  ·rw[g2.lg,k.lg,i.lg,GJ hm0 (by omega),b4,hF]
  ·have:=g2.z;omega
  ·have:=g2.tl;omega
 have d5:Hid (ag a (S+1) TZ 58):=by rw[<-l];exact a5
 have d4:Hid (Below S w a):=by rw[<-l];exact o
 have d8:=aa c5;have HA:Hid (∀g,A g->g<S):=by rw[<-l];exact hA
 have e2:Hid (a.heap.size=S+2):=by rw[<-l];exact a7
 have HN:=aa hn;have f6:(0:Int)<=m:=hm0;clear hrow hp pk c5 o E a5 hA ip hz hz2 e3 d7 hpl a7 hn d0 b4 a8 hF c3;rw[l]at a0 b5 b3 e6 a1 hbl;go_enter func30,ntmps30;go_upto_region 1 with fail;rw[d8.out]
 try simp only[l]
 go_upto_if 40 with fail
 go_cut [6]from 39 to 42 (λv wx=>v=Vi F/\a=wx)
 case first=>
  rcases c6.out with⟨rfl,rfl⟩|⟨n1,hF⟩
  ·go_wp2_with fail
   go_meet
   exact⟨rfl,rfl⟩
  ·have n5:n<=5:=by have:=HN.out;omega
   go_wp2_with fail
   go_meet
   exact⟨by rw[hF],rfl⟩
 case rest=>
 obtain⟨rfl,rfl⟩:=hcut;have c1:S+1≠S:=by omega
 have e0:S+1≠b:=by omega
 have c9:=aa (q.out a.drew (jw a));have e7:=aa (HL.out a.drew (jw a));have c7:=aa (HT.out a.drew (jw a));go_wp2_with fail
 go_region_held3 (λd=>d.cell? (aD S 2)=some (.slice (some (aD b off)) 1 lc)/\d.cell? (aD S 3)=some (Vi m)/\CT d b off p.kind sox snx scx lox lnx lcx mx nx sx)
  (first|with_reducible exact c9.out|with_reducible exact q.out _ b8.out|with_reducible exact q.out _ c2.out|with_reducible exact q.out _ a2.out|with_reducible exact q.out _ D.out|with_reducible exact⟨JK c1 (q.out _ D.out).1,JK c1 (q.out _ D.out).2.1,CT.far e0 (q.out _ D.out).2.2⟩|fail)
  (first
   |(go_at_call 30;with_reducible refine (HL.out _ c2.out).mono ?_;rintro e wz ⟨W,L,M,T,R,H,Q,ma,na,sa,rfl,r,k,Y,O⟩;have a4:=aa r;have b7:=aa (aj.below Y _ _ c8.out);have a6:=aa k;have a2:=aa O;clear r k Y O)
   |(go_at_call 36;with_reducible refine (HT.out _ b8.out).mono ?_;rintro e wz ⟨Z,N,I,U,V,K,J,mb,nb,sb,rfl,u,i,X,P⟩;have b7:=aa u;have d1:=aa (aj.below X _ _ a4.out);have c0:=aa i;have a2:=aa P;clear u i X P)
   |(go_at_call 30;with_reducible refine e7.out.mono ?_;rintro e wa ⟨W,L,M,T,R,H,Q,ma,na,sa,rfl,r,k,Y,O⟩;have a4:=aa r;have a6:=aa k;have b8:=aa O;clear r k Y O)
   |(go_at_call 36;with_reducible refine c7.out.mono ?_;rintro e wb ⟨Z,N,I,U,V,K,J,mb,nb,sb,rfl,u,i,X,P⟩;have c8:=aa u;have c0:=aa i;have c2:=aa P;clear u i X P)
   |(go_at_call 38;with_reducible refine (HP.out _ W _ _ _ _ _ _ _ _ _ Z _ _ _ _ _ _ _ _ _ a2.out (by first|with_reducible exact d1.out|with_reducible exact a4.out) b7.out a6.out c0.out).mono ?_;rintro e w6 ⟨t6,b9,b0,b2,c4,a9,b6,m6,n6,s6,rfl,e1,d3,b1⟩;have D:=aa b1;have a3:=d5.out.below D.out;obtain⟨r0,r1,r2,r3,r4,r5⟩:=a3.six;obtain⟨f0,f1,f2,f3,f4,f5,e9⟩:=a3.ice;clear b1 a3)
   |fail)
 all_goals go_wp2_with fail
 all_goals refine zN (v:=.agg #[Vi (Tm.kind t6),.slice b9 b0 b2,.slice c4 a9 b6,Vi m6,Vi n6,.string s6]) (by simp[results,results30,go_sem,r0,r1,r2,r3,r4,r5]) rfl ⟨t6,b9,b0,b2,c4,a9,b6,m6,n6,s6,rfl,?_,d3.out,?_⟩
 all_goals rw[l]
 all_goals first
  |exact bC (d4.out.trans (D.out.mono (by have:=e2.out;omega))) _ _ _ _ _ _
  |exact aj.mono (λg _ f=>by rcases f with f|f;exact .inl f;exact .inr (by omega)) _ _ (dP e1.out (λg h=>by have:=HA.out g h;omega) _ _ _ _ _ _)
theorem eH.weak {P Q:Tm->Prop}(h:∀t,P t->Q t){e:Ending}(k:eH w A P e w'):eH w A Q e w':=by
 obtain⟨t,l,c,j,d,b,f,m,n,s,e,g,i,a⟩:=k;exact⟨t,l,c,j,d,b,f,m,n,s,e,g,h t i,a⟩
mutual
theorem lH:∀t:Tm,qF t
 |.none=>λw A E H F G I B m n s c _ _ _ _ _ _=>(Mh c).mono λe w' h=>h.weak λt D=>by subst D;exact⟨trivial,by rw[Tm.L_none];rfl,zA _,zA _⟩
 |.empty=>λw A E H F G I B m n s c _ _ _ _ _ _=>(If c).mono λe w' h=>h.weak λt D=>by subst D;exact⟨trivial,by rw[Tm.L_none,Tm.L_empty,Lj],zA _,zA _⟩
 |.set q=>by
  intro w A E H F G I B m n s c r o d i k g;obtain⟨b3,b5,M,e,N,_⟩:=o;simp only[Tm.kind,TC,zT,zm,zu,yc,yB,yK]at e;obtain⟨⟨rfl,rfl,rfl⟩,⟨rfl,rfl,rfl⟩,rfl,rfl,rfl⟩:=e;have P:=ri d;have Z:bZ (Tm.set q).z=1:=(congrArg bZ (show (Tm.set q).z=1 by simp[Tm.z])).trans Vt;have e2:(Tm.set q).z*(Tm.set q).tl=12+20*q.length:=by simp[Tm.z,Tm.tl]
  rw[Z,e2];cases hm:memB q c with
  |true=>
   refine (Dv c N.rd (by omega) hm).mono λe w' h=>h.weak λt D=>?_;subst D;exact⟨trivial,by rw[EP d i,hm,Tm.L_empty];rfl,zA _,by show 12<=_;omega⟩
  |false=>
   refine (Bz c N.rd (by omega) hm).mono λe w' h=>h.weak λt D=>?_;subst D;exact⟨trivial,by rw[EP d i,hm,Tm.L_none];rfl,zA _,by show 12<=_;omega⟩
 |.row a b=>by
  have ha:=lH a;have K:=lH b;intro w A E H F G I B m n s c r o d i k g;obtain⟨x,y,O,ys,M,e,f,hp,N,_⟩:=o;simp only[Tm.kind,TC,zT,zm,zu,yc,yB,yK]at e;obtain⟨⟨rfl,rfl,rfl⟩,⟨rfl,rfl,rfl⟩,rfl,rfl,rfl⟩:=e;obtain⟨U,R,S,a5,Y,W,mx,nx,sx,rfl,_⟩:=hp.form;obtain⟨a2,a9,a6,a4,a7,V,my,ny,sy,rfl,_⟩:=N.form;obtain⟨b',C,rfl,b4,Q,c0⟩:=f 0 _ rfl;have J:∀j v,(TC a.kind U R S a5 Y W mx nx sx++TC b.kind a2 a9 a6 a4 a7 V my ny sy)[j]?=some v->w.cell? ⟨b',C+j,none⟩=some v:=λj v hj=>by
   obtain⟨b2,b1,e',_,_,a3⟩:=f j v hj;injection e' with e';injection e' with Z e2;subst Z e2;exact a3
  rw[Tm.L_row];exact OC c r ha K d.1 d.2 i k g Q J hp N
 |.or l=>by
  have z:=tW l;intro w A E H F G I B m n s c r o d i k g;obtain⟨x,y,O,M,e,f,P,_⟩:=o;simp only[Tm.kind,TC,zT,zm,zu,yc,yB,yK]at e;obtain⟨⟨rfl,rfl,rfl⟩,⟨rfl,rfl,rfl⟩,rfl,rfl,rfl⟩:=e;exact Pe (.inl rfl) c r f P z d.1 d.2 i k g
 |.and l=>by
  have z:=tW l;intro w A E H F G I B m n s c r o d i k g;obtain⟨x,y,O,M,e,f,P,_⟩:=o;simp only[Tm.kind,TC,zT,zm,zu,yc,yB,yK]at e;obtain⟨⟨rfl,rfl,rfl⟩,⟨rfl,rfl,rfl⟩,rfl,rfl,rfl⟩:=e;exact Pe (.inr rfl) c r f P z d.1 d.2 i k g
 |.not u=>by
  have z:=lH u;intro w A E H F G I B m n s c r o d i k g;obtain⟨x,y,O,M,e,f,L,_⟩:=o;simp only[Tm.kind,TC,zT,zm,zu,yc,yB,yK]at e;obtain⟨⟨rfl,rfl,rfl⟩,⟨rfl,rfl,rfl⟩,rfl,rfl,rfl⟩:=e;obtain⟨a8,a0,X,T,b0,a1,m2,n2,s2,rfl,_⟩:=L.form;obtain⟨b,C,rfl,_,K,J⟩:=f.one;rw[Tm.L_not];exact Pu c r z d i k g K L J
 |.many u p q=>by
  have z:=lH u;intro w A E H F G I B m n s c r o d i k g;obtain⟨x,y,O,M,e,f,L,_⟩:=o;simp only[Tm.kind,TC,zT,zm,zu,yc,yB,yK]at e;obtain⟨⟨rfl,rfl,rfl⟩,⟨rfl,rfl,rfl⟩,rfl,rfl,rfl⟩:=e;obtain⟨a8,a0,X,T,b0,a1,m2,n2,s2,rfl,_⟩:=L.form;obtain⟨b,C,rfl,_,K,J⟩:=f.one;rw[Tm.L_many];obtain⟨o1,o2,o3,o4⟩:=d;rcases o4 with rfl|o4
  ·exact Ac c r z o1 i o2 o3 (.inl rfl) k g K J L
  ·exact Ac c r z o1 i o2 o3 (.inr o4) k g K J L
theorem tW:∀l:List Tm,∀t∈l,qF t
 | [],t,h=>by simp at h
 |u::l,t,h=>by
  have a:=lH u;have b:=tW l;rcases zO.1 h with rfl|h
  ·exact a
  ·exact b t h
end
