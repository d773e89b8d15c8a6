import Derived.Test.YtebnghmioamheaaGreatDoorM43
set_option maxHeartbeats 4000000
set_option maxRecDepth 100000
set_option linter.all false
namespace Go.Proofs.YtebnghmioamheaaGreatDoor
open Go.RowKit Brm Tryz
variable {w w' W a:World}{A A':NP}{m n K Ka ma na Kb mb nb mx nx m' n' c:Int}{so lo soa loa sob lob sox lox so' lo':OA}{sn sc ln lc sna sca lna lca snb scb lnb lcb b off snx scx lnx lcx sn' sc' ln' lc' B e size cap i j:Nat}{s sa sb sx s':ByteArray}{t u p zt ot y:Tm}{l ts ex ks:List Tm}{xs cs:LV}{v:Value}{q:LQ}
theorem sZ {c:LV}(h:aj w A .empty c):aj w' A' .empty c:=by
 obtain⟨s,e,a⟩:=h;exact⟨s,e,a⟩
theorem Ad {r:Nat}{u:LZ}:jL dZ r u↔u=[]:=by
 induction r generalizing u with
 |zero=>exact Iff.rfl
 |succ r ih=>
  constructor
  ·rintro⟨a,b,rfl,c,d⟩;rw[show a=[]from c,ih.1 d];rfl
  ·rintro rfl;exact⟨[],[],rfl,rfl,ih.2 rfl⟩
theorem LN (h0:0<=m)(hn:n=-1\/m<=n):dB dZ m n=dZ:=by
 funext u;refine propext ⟨λ⟨r,_,_,h⟩=>Ad.1 h,λh=>⟨m.toNat,by omega,by omega,Ad.2 h⟩⟩
theorem Pf {L:Lg}:dB L 1 1=L:=by
 funext u;refine propext ⟨λ⟨r,f,e,h⟩=>?_,λh=>⟨1,by omega,by omega,u,[],by simp,h,rfl⟩⟩;obtain rfl:r=1:=by omega
 obtain⟨a,b,rfl,d,c⟩:=h;rw[show b=[]from c,zx];exact d
theorem Hw (p r:Int)(h:r=0\/(r≠0/\K=2)):Calls prog 36 #[.agg #[Vi K,.slice so sn sc,.slice lo ln lc,Vi m,Vi n,.string s],Vi p,Vi r] w (eH w A (λu=>u=.empty)):=by
 obtain⟨P,o,l,d,x,-⟩:=jK (rfl:w.heap.size=_) (TC K so sn sc lo ln lc m n s) 58 TZ 58;obtain⟨a0,a1,a2,a3,a4,a5⟩:=d.six;have U:=d.lt;have T:=aa (rh P);have g:=aa x;have C:=aa l;have z:=aa o;have O:Hid ((r==0)=true\/((r==0)=false/\(K==2)=true)):=by
  rcases h with h|⟨h,V⟩
  ·exact .inl (beq_iff_eq.2 h)
  ·exact .inr ⟨zD.2 h,beq_iff_eq.2 V⟩
 clear o l d x h;go_enter func36,ntmps36;go_upto_region 1 with fail;rw[z.out];generalize hS:w.heap.size=S at *;rcases O.out with N|⟨N,q2⟩
 all_goals go_wp2_with fail
 all_goals refine T.mono ?_
 all_goals rintro e Q ⟨Z,t,i,f,q,j,k,F,E,J,rfl,b,rfl,c⟩
 all_goals simp only[Tm.kind]at b ⊢
 all_goals have a:=g.below c
 all_goals have L:=a.cell 0
 all_goals have H:=a.cell 1
 all_goals have D:=a.cell 2
 all_goals have I:=a.cell 3
 all_goals have M:=a.cell 4
 all_goals have G:=a.cell 5
 all_goals have f0:=a.frozen 0
 all_goals have Y:=a.frozen 1
 all_goals have X:=a.frozen 2
 all_goals have W:=a.frozen 3
 all_goals have f4:=a.frozen 4
 all_goals have f5:=a.frozen 5
 all_goals have R:=a.lt
 all_goals simp only[TZ,List.getElem?_cons_zero,List.getElem?_cons_succ]at L H D I M G
 all_goals have B:Hid (Below S w Q):=C.trans (c.mono (by have:=g.lt;omega))
 all_goals have y:=aa b
 all_goals clear b c a
 all_goals go_wp2_with fail
 all_goals refine zN (v:=.agg #[Vi 2,.slice t i f,.slice q j k,Vi F,Vi E,.string J]) (by simp[results,results36,go_sem,L,H,D,I,M,G]) rfl ⟨.empty,t,i,f,q,j,k,F,E,J,rfl,?_,rfl,?_⟩
 all_goals rw[hS]
 all_goals first
  |exact bC B _ _ _ _ _ _
  |exact sZ y
theorem LO (hA:∀g,A g->g<w.heap.size)(h2:K≠2)(hK:K=t.kind)(hv:aj w A t (TC K so sn sc lo ln lc m n s)):Calls prog 36 #[.agg #[Vi K,.slice so sn sc,.slice lo ln lc,Vi m,Vi n,.string s],Vi 1,Vi 1] w (eH w A (λu=>u=t)):=by
 obtain⟨F,e,a,b,c,-⟩:=jK (rfl:w.heap.size=_) (TC K so sn sc lo ln lc m n s) 58 TZ 58;obtain⟨M,H,O,I,P,Q⟩:=b.six;have B:=b.lt;have J:(K==2)=false:=zD.2 h2;have z:=aa (aj.below a _ _ hv);have i:=aa a;obtain⟨x,p,k,q,y,o⟩:=c.six;obtain⟨N,E,D,C,G,L,r⟩:=c.ice;have f:=aa e;have l:=aa hA;have j:=aa hK;clear e a b c hA hv hK;go_enter func36,ntmps36;go_upto_region 1 with fail;rw[f.out];generalize hS:w.heap.size=S at *;go_wp2_with fail;refine zN (v:=.agg #[Vi K,.slice so sn sc,.slice lo ln lc,Vi m,Vi n,.string s]) (by simp[results,results36,go_sem,x,p,k,q,y,o]) rfl ⟨t,so,sn,sc,lo,ln,lc,m,n,s,by rw[j.out],?_,rfl,?_⟩
 ·rw[hS,<-j.out];exact aj.mono (λg _ d=>by rcases d with d|d;exact .inl d;exact .inr (by omega)) _ _ (dP (S:=S+1) (aj.mono (λg _ d=>.inl d) _ _ z) (λg h=>by have:=l.out g h;omega) _ _ _ _ _ _)
 ·rw[hS];exact bC i _ _ _ _ _ _
theorem Tw (p r:Int)(hA:∀g,A g->g<w.heap.size)(h2:K≠2)(hr:r≠0)(h1:¬(p=1/\r=1))(hp5:p<=5)(hr5:r<=5)(hv:aj w A t (TC K so sn sc lo ln lc m n s))(hok:t.Ok)(htl:t.tl<=8000000000000000000):Calls prog 36 #[.agg #[.int .i64 K,.slice so sn sc,.slice lo ln lc,.int .i64 m,.int .i64 n,.string s],.int .i64 p,.int .i64 r] w (eH w A (λu=>u=.many t p r)):=by
 obtain⟨o,j,b,k,z,-⟩:=jK (rfl:w.heap.size=_) (TC K so sn sc lo ln lc m n s) 58 TZ 58;obtain⟨a0,a1,a2,a3,a4,a5⟩:=k.six;have Y:=k.lt;have k2:(K==2)=false:=zD.2 h2;have k0:(r==0)=false:=zD.2 hr;have U:Hid ((p==1)=false\/((p==1)=true/\(r==1)=false)):=by
  by_cases e:p=1
  ·exact .inr ⟨beq_iff_eq.2 e,zD.2 λX=>h1 ⟨e,X⟩⟩
  ·exact .inl (zD.2 e)
 obtain⟨I,l,c,-,-⟩:=dS (rfl:o.heap.size=_) [.int .i64 K,.slice so sn sc,.slice lo ln lc,.int .i64 m,.int .i64 n,.string s] 58;have C:o.heap.size=w.heap.size+2:=by rw[<-j];simp
 have d:cg I (λg=>A g\/w.heap.size+1<g) (some ⟨o.heap.size,0,none⟩) (TC K so sn sc lo ln lc m n s):=by rw[<-l];exact (nP o (TC K so sn sc lo ln lc m n s) 58).mono λg _ f=>.inr (by omega)
 have y:aj I (λg=>A g\/w.heap.size+1<g) t (TC K so sn sc lo ln lc m n s):=aj.mono (λg _ f=>.inl f) _ _ (aj.below c _ _ (aj.below b _ _ hv));have D:=aa (Mg (lc:=1) p r ⟨#[]⟩ d y hok hp5 hr5 htl);have F:Hid (Below w.heap.size w I):=b.trans (c.mono b.size);have q:=aa (z.below c);have B:=aa l;have G:=aa j;have R:=aa hA;clear hv l c d y j b k z hA C h1;go_enter func36,ntmps36;go_upto_region 1 with fail;rw[G.out];generalize hS:w.heap.size=S at *;rcases U.out with T|⟨T,q2⟩
 all_goals go_wp2_with fail
 all_goals rw[B.out]
 all_goals refine D.mono ?_
 all_goals rintro e V ⟨O,rfl,x,i⟩
 all_goals have a:=q.below i
 all_goals have P:=a.cell 0
 all_goals have M:=a.cell 1
 all_goals have J:=a.cell 2
 all_goals have N:=a.cell 3
 all_goals have Q:=a.cell 4
 all_goals have L:=a.cell 5
 all_goals have f0:=a.frozen 0
 all_goals have f1:=a.frozen 1
 all_goals have f2:=a.frozen 2
 all_goals have Z:=a.frozen 3
 all_goals have f4:=a.frozen 4
 all_goals have f5:=a.frozen 5
 all_goals have W:=a.lt
 all_goals simp only[TZ,List.getElem?_cons_zero,List.getElem?_cons_succ]at P M J N Q L
 all_goals have H:Hid (Below S w V):=F.trans (i.mono (by have:=q.lt;omega))
 all_goals have E:=aa x
 all_goals clear x i a
 all_goals go_wp2_with fail
 all_goals refine zN (v:=.agg #[.int .i64 8,.slice none 0 0,.slice (some ⟨o.heap.size,0,none⟩) 1 1,.int .i64 p,.int .i64 r,.string O]) (by simp[results,results36,go_sem,P,M,J,N,Q,L]) rfl ⟨.many t p r,none,0,0,some ⟨o.heap.size,0,none⟩,1,1,p,r,O,rfl,?_,rfl,?_⟩
 all_goals rw[hS]
 all_goals first
  |exact bC H _ _ _ _ _ _
  |exact aj.mono (λg _ f=>by rcases f with f|f;exact .inl f;exact .inr (by omega)) _ _ (dP E (λg h=>by have:=R.out g h;omega) _ _ _ _ _ _)
theorem Cy (p r:Int)(hA:∀g,A g->g<w.heap.size)(h0:0<=p)(h5:p<=5)(hr:r=-1\/(p<=r/\r<=5))(hv:aj w A t (TC t.kind so sn sc lo ln lc m n s))(hok:t.Ok)(htl:t.tl<=8000000000000000000):Calls prog 36 #[.agg #[Vi t.kind,.slice so sn sc,.slice lo ln lc,Vi m,Vi n,.string s],Vi p,Vi r] w (eH w A (Gd (dB t.L p r) (t.z+1) (t.tl+12))):=by
 have B:=mh t;by_cases i:r=0\/(r≠0/\t.kind=2)
 ·refine (Hw (A:=A) p r i).mono ?_;rintro e C ⟨v,c,d,h,a,b,f,k,j,l,rfl,o,rfl,q⟩;refine⟨.empty,c,d,h,a,b,f,k,j,l,rfl,o,⟨trivial,?_,by show 1<=_;omega,by show 12<=_;omega⟩,q⟩;rw[Tm.L_empty];rcases i with rfl|⟨_,i⟩
  ·obtain rfl:p=0:=by omega
   exact (Da rfl).symm
  ·have D:t=.empty:=by cases t<;>first|rfl|(simp[Tm.kind]at i)
   rw[D,Tm.L_empty,LN h0 (by omega)]
 ·have q:t.kind≠2:=λe=>i (by by_cases z:r=0;exact .inl z;exact .inr ⟨z,e⟩);have y:r≠0:=λe=>i (.inl e);by_cases o:p=1/\r=1
  ·obtain⟨rfl,rfl⟩:=o;refine (LO hA q rfl hv).mono ?_;rintro e C ⟨v,c,d,h,a,b,f,k,j,l,rfl,x,rfl,u⟩;exact⟨v,c,d,h,a,b,f,k,j,l,rfl,x,⟨hok,Pf.symm,by omega,by omega⟩,u⟩
  ·refine (Tw p r hA q y o h5 (by omega) hv hok htl).mono ?_;rintro e C ⟨v,c,d,h,a,b,f,k,j,l,rfl,x,rfl,u⟩;exact⟨.many t p r,c,d,h,a,b,f,k,j,l,rfl,x,⟨⟨hok,h0,h5,by omega⟩,Tm.L_many t p r,zA _,zA _⟩,u⟩
theorem jB {S:Nat}(h:Below S w W)(a b c d e f:Value):Below S w ((((((W.setCell (aD (S+1+1) 0) a).setCell (aD (S+1+1) 1) b).setCell (aD (S+1+1) 2) c).setCell (aD (S+1+1) 3) d).setCell (aD (S+1+1) 4) e).setCell (aD (S+1+1) 5) f):=by
 have k:S<=S+1+1:=by omega
 exact (((((h.setCell (p:=(aD (S+1+1) 0)) k _).setCell (p:=(aD (S+1+1) 1)) k _).setCell (p:=(aD (S+1+1) 2)) k _).setCell (p:=(aD (S+1+1) 3)) k _).setCell (p:=(aD (S+1+1) 4)) k _).setCell (p:=(aD (S+1+1) 5)) k _
theorem kc {c:LV}(h:aj w A .none c):aj w' A' .none c:=by
 obtain⟨s,e,a⟩:=h;exact⟨s,e,a⟩
theorem qA (h:Ka=1\/(Ka≠1/\Kb=1)):Calls prog 38 #[.agg #[Vi Ka,.slice soa sna sca,.slice loa lna lca,Vi ma,Vi na,.string sa],.agg #[Vi Kb,.slice sob snb scb,.slice lob lnb lcb,Vi mb,Vi nb,.string sb]] w (eH w A (λu=>u=.none)):=by
 obtain⟨N,q,p,f,d,i,-⟩:=rY (rfl:w.heap.size=_) (TC Ka soa sna sca loa lna lca ma na sa) 58 (TC Kb sob snb scb lob lnb lcb mb nb sb) 58 TZ 58;obtain⟨L,J,V,M,R,X⟩:=f.six;obtain⟨O,a1,Z,U,Y,a0⟩:=d.six;have P:=f.lt;have T:=d.lt;have K:=aa (fG N);have j:=aa i;have x:=aa p;have r:=aa q;have I:Hid ((Ka==1)=true\/((Ka==1)=false/\(Kb==1)=true)):=by
  rcases h with h|⟨h,Q⟩
  ·exact .inl (beq_iff_eq.2 h)
  ·exact .inr ⟨zD.2 h,beq_iff_eq.2 Q⟩
 clear q p f d i h;go_enter func38,ntmps38;go_upto_region 1 with fail;rw[r.out];generalize hS:w.heap.size=S at *;rcases I.out with q1|⟨q1,q2⟩
 all_goals go_wp2_with fail
 all_goals refine K.mono ?_
 all_goals rintro e w3 ⟨t3,n,l,g,k,o,m,C,H,E,rfl,b,rfl,c⟩
 all_goals simp only[Tm.kind]at b ⊢
 all_goals have a:=j.below c
 all_goals have z:=a.cell 0
 all_goals have F:=a.cell 1
 all_goals have B:=a.cell 2
 all_goals have G:=a.cell 3
 all_goals have D:=a.cell 4
 all_goals have y:=a.cell 5
 all_goals have f0:=a.frozen 0
 all_goals have f1:=a.frozen 1
 all_goals have f2:=a.frozen 2
 all_goals have f3:=a.frozen 3
 all_goals have f4:=a.frozen 4
 all_goals have f5:=a.frozen 5
 all_goals have W:=a.lt
 all_goals simp only[TZ,List.getElem?_cons_zero,List.getElem?_cons_succ]at z F B G D y
 all_goals have s:Hid (Below S w w3):=x.trans (c.mono (by have:=j.lt;omega))
 all_goals have t:=aa b
 all_goals clear b c a
 all_goals go_wp2_with fail
 all_goals refine zN (v:=.agg #[Vi 1,.slice n l g,.slice k o m,Vi C,Vi H,.string E]) (by simp[results,results38,go_sem,z,F,B,G,D,y]) rfl ⟨.none,n,l,g,k,o,m,C,H,E,rfl,?_,rfl,?_⟩
 all_goals rw[hS]
 all_goals first
  |exact jB s _ _ _ _ _ _
  |exact kc t
theorem Ob (hA:∀g,A g->g<w.heap.size)(hb1:Kb≠1)(ha2:Ka=2)(hK:Kb=t.kind)(hv:aj w A t (TC Kb sob snb scb lob lnb lcb mb nb sb)):Calls prog 38 #[.agg #[Vi Ka,.slice soa sna sca,.slice loa lna lca,Vi ma,Vi na,.string sa],.agg #[Vi Kb,.slice sob snb scb,.slice lob lnb lcb,Vi mb,Vi nb,.string sb]] w (eH w A (λu=>u=t)):=by
 subst ha2;obtain⟨P,f,c,d,a,b,-⟩:=rY (rfl:w.heap.size=_) (TC 2 soa sna sca loa lna lca ma na sa) 58 (TC Kb sob snb scb lob lnb lcb mb nb sb) 58 TZ 58;obtain⟨r,o,E,s,B,H⟩:=d.six;obtain⟨y,N,J,D,I,L⟩:=a.six;have z:=d.lt;have C:=a.lt;have n:(Kb==1)=false:=zD.2 hb1;have G:=aa (aj.below c _ _ hv);have j:=aa c;obtain⟨m,K,p,M,x,l⟩:=b.six;obtain⟨V,T,Q,R,U,O,F⟩:=b.ice;have i:=aa f;have q:=aa hA;have k:=aa hK;clear f c d a b hA hv hK;go_enter func38,ntmps38;go_upto_region 1 with fail;rw[i.out];generalize hS:w.heap.size=S at *;go_wp2_with fail;refine zN (v:=.agg #[Vi Kb,.slice sob snb scb,.slice lob lnb lcb,Vi mb,Vi nb,.string sb]) (by simp[results,results38,go_sem,m,K,p,M,x,l]) rfl ⟨t,sob,snb,scb,lob,lnb,lcb,mb,nb,sb,by rw[k.out],?_,rfl,?_⟩
 ·rw[hS,<-k.out];exact aj.mono (λg _ e=>by rcases e with e|e;exact .inl e;exact .inr (by omega)) _ _ (dP (S:=S+1+1) (aj.mono (λg _ e=>.inl e) _ _ G) (λg h=>by have:=q.out g h;omega) _ _ _ _ _ _)
 ·rw[hS];exact jB j _ _ _ _ _ _
theorem Et (hA:∀g,A g->g<w.heap.size)(ha1:Ka≠1)(ha2:Ka≠2)(hb2:Kb=2)(hK:Ka=t.kind)(hv:aj w A t (TC Ka soa sna sca loa lna lca ma na sa)):Calls prog 38 #[.agg #[Vi Ka,.slice soa sna sca,.slice loa lna lca,Vi ma,Vi na,.string sa],.agg #[Vi Kb,.slice sob snb scb,.slice lob lnb lcb,Vi mb,Vi nb,.string sb]] w (eH w A (λu=>u=t)):=by
 subst hb2;obtain⟨Q,f,c,d,a,b,-⟩:=rY (rfl:w.heap.size=_) (TC Ka soa sna sca loa lna lca ma na sa) 58 (TC 2 sob snb scb lob lnb lcb mb nb sb) 58 TZ 58;obtain⟨q,n,F,s,C,I⟩:=d.six;obtain⟨z,O,K,E,J,M⟩:=a.six;have B:=d.lt;have D:=a.lt;have r:(Ka==1)=false:=zD.2 ha1;have y:(Ka==2)=false:=zD.2 ha2;have H:=aa (aj.below c _ _ hv);have j:=aa c;obtain⟨m,L,o,N,x,l⟩:=b.six;obtain⟨W,U,R,T,V,P,G⟩:=b.ice;have i:=aa f;have p:=aa hA;have k:=aa hK;clear f c d a b hA hv hK;go_enter func38,ntmps38;go_upto_region 1 with fail;rw[i.out];generalize hS:w.heap.size=S at *;go_wp2_with fail;refine zN (v:=.agg #[Vi Ka,.slice soa sna sca,.slice loa lna lca,Vi ma,Vi na,.string sa]) (by simp[results,results38,go_sem,m,L,o,N,x,l]) rfl ⟨t,soa,sna,sca,loa,lna,lca,ma,na,sa,by rw[k.out],?_,rfl,?_⟩
 ·rw[hS,<-k.out];exact aj.mono (λg _ e=>by rcases e with e|e;exact .inl e;exact .inr (by omega)) _ _ (dP (S:=S+1+1) (aj.mono (λg _ e=>.inl e) _ _ H) (λg h=>by have:=p.out g h;omega) _ _ _ _ _ _)
 ·rw[hS];exact jB j _ _ _ _ _ _
theorem Rr (hA:∀g,A g->g<w.heap.size)(ha1:Ka≠1)(hb1:Kb≠1)(ha2:Ka≠2)(hb2:Kb≠2)(ha4:Ka≠4)(hv:aj w A t (TC Ka soa sna sca loa lna lca ma na sa))(hu:aj w A u (TC Kb sob snb scb lob lnb lcb mb nb sb))(ht:t.Ok)(huk:u.Ok)(htl:t.tl+u.tl<=8000000000000000000):Calls prog 38 #[.agg #[.int .i64 Ka,.slice soa sna sca,.slice loa lna lca,.int .i64 ma,.int .i64 na,.string sa],.agg #[.int .i64 Kb,.slice sob snb scb,.slice lob lnb lcb,.int .i64 mb,.int .i64 nb,.string sb]] w (eH w A (λv=>v=.row t u)):=by
 obtain⟨f,n,b,o,k,r,-⟩:=rY (rfl:w.heap.size=_) (TC Ka soa sna sca loa lna lca ma na sa) 58 (TC Kb sob snb scb lob lnb lcb mb nb sb) 58 TZ 58;obtain⟨P,L,a0,R,X,a2⟩:=o.six;obtain⟨V,a6,a4,Z,a3,a5⟩:=k.six;have W:=o.lt;have Y:=k.lt;have Q:(Ka==1)=false:=zD.2 ha1;have K:(Kb==1)=false:=zD.2 hb1;have U:(Ka==2)=false:=zD.2 ha2;have M:(Kb==2)=false:=zD.2 hb2;have I:(Ka==4)=false:=zD.2 ha4;obtain⟨m,d⟩:∃m,f.alloc (.cells #[.int .i64 Ka,.slice soa sna sca,.slice loa lna lca,.int .i64 ma,.int .i64 na,.string sa,.int .i64 Kb,.slice sob snb scb,.slice lob lnb lcb,.int .i64 mb,.int .i64 nb,.string sb] 58)=m:=⟨_,rfl⟩;have a:Below f.heap.size f m:=by rw[<-d];exact (zE _ _).alloc (zA _) _
 have B:f.heap.size=w.heap.size+3:=by rw[<-n];simp
 have i:cg m (λg=>A g\/w.heap.size+1+1<g) (some ⟨f.heap.size,0,none⟩) (TC Ka soa sna sca loa lna lca ma na sa++TC Kb sob snb scb lob lnb lcb mb nb sb):=by rw[<-d];exact (nP f (TC Ka soa sna sca loa lna lca ma na sa++TC Kb sob snb scb lob lnb lcb mb nb sb) 58).mono λg _ c=>.inr (by omega)
 have x:aj m (λg=>A g\/w.heap.size+1+1<g) t (TC Ka soa sna sca loa lna lca ma na sa):=aj.mono (λg _ c=>.inl c) _ _ (aj.below a _ _ (aj.below b _ _ hv));have s:aj m (λg=>A g\/w.heap.size+1+1<g) u (TC Kb sob snb scb lob lnb lcb mb nb sb):=aj.mono (λg _ c=>.inl c) _ _ (aj.below a _ _ (aj.below b _ _ hu));have y:=aa (Ps (lc:=2) ⟨#[]⟩ i x s ht huk htl);have z:Hid (Below w.heap.size w m):=b.trans (a.mono b.size);have q:=aa (r.below a);have F:=aa d;have C:=aa n;have O:=aa hA;clear hv hu d a i x s n b o k r hA B;go_enter func38,ntmps38;go_upto_region 1 with fail;rw[C.out];generalize hS:w.heap.size=S at *;go_wp2_with fail;rw[F.out];refine y.mono ?_;rintro e w3 ⟨G,rfl,p,j⟩;have l:=q.below j;obtain⟨J,r1,N,r3,T,H⟩:=l.six;obtain⟨f0,f1,f2,f3,f4,f5,a1⟩:=l.ice;have D:Hid (Below S w w3):=z.trans (j.mono (by have:=q.lt;omega));have E:=aa p;clear p j l y;go_wp2_with fail;refine zN (v:=.agg #[.int .i64 4,.slice none 0 0,.slice (some ⟨f.heap.size,0,none⟩) 2 2,.int .i64 0,.int .i64 0,.string G]) (by simp[results,results38,go_sem,J,r1,N,r3,T,H]) rfl ⟨.row t u,none,0,0,some ⟨f.heap.size,0,none⟩,2,2,0,0,G,rfl,?_,rfl,?_⟩
 ·rw[hS];exact aj.mono (λg _ c=>by rcases c with c|c;exact .inl c;exact .inr (by omega)) _ _ (dP E (λg h=>by have:=O.out g h;omega) _ _ _ _ _ _)
 ·rw[hS];exact jB D _ _ _ _ _ _
def wT (t:Tm):Prop:=∀(w:World) (A:Nat->Prop) (u:Tm) (soa:Option Addr) (sna sca:Nat) (loa:Option Addr) (lna lca:Nat) (ma na:Int) (sa:ByteArray) (sob:Option Addr) (snb scb:Nat) (lob:Option Addr) (lnb lcb:Nat) (mb nb:Int) (sb:ByteArray),
 (∀g,A g->g<w.heap.size)->aj w A t (TC t.kind soa sna sca loa lna lca ma na sa)->aj w A u (TC u.kind sob snb scb lob lnb lcb mb nb sb)->t.Ok->u.Ok->t.tl+u.tl<=6900000000000000000 ->
 Calls prog 38 #[.agg #[Vi t.kind,.slice soa sna sca,.slice loa lna lca,Vi ma,Vi na,.string sa],.agg #[Vi u.kind,.slice sob snb scb,.slice lob lnb lcb,Vi mb,Vi nb,.string sb]] w (eH w A (Gd (aJ t.L u.L) (t.z+u.z) (t.tl+u.tl+12)))
theorem jw (w:World):Bw w w.drew:=(zE _ _).drew
theorem ku {b:World}(h:Bw a.drew b):Bw a b:=⟨h.os,h.tape,h.output,h.size,h.block⟩
theorem PV {q:Tm}{soy:OA}{sny scy:Nat}{loy:OA}{lny lcy:Nat}{my ny:Int}{sy:ByteArray}(hA:∀g,A g->g<w.heap.size)(ip:wT p)(iq:wT q)(hb1:u.kind≠1)(hb2:u.kind≠2)(hbl:b<w.heap.size)
  (hrow:∀j v,(TC p.kind sox snx scx lox lnx lcx mx nx sx++TC q.kind soy sny scy loy lny lcy my ny sy)[j]?=some v->w.cell? ⟨b,off+j,none⟩=some v) (hp:aj w A p (TC p.kind sox snx scx lox lnx lcx mx nx sx)) (hq:aj w A q (TC q.kind soy sny scy loy lny lcy my ny sy)) (hu:aj w A u (TC u.kind sob snb scb lob lnb lcb mb nb sb)) (pk:p.Ok) (qk:q.Ok) (uk:u.Ok) (htl:p.tl+q.tl+12+u.tl<=6900000000000000000):Calls prog 38 #[.agg #[Vi 4,Vz,.slice (some (aD b off)) 2 lc,Vi 0,Vi 0,.string s],.agg #[Vi u.kind,.slice sob snb scb,.slice lob lnb lcb,Vi mb,Vi nb,.string sb]] w (eH w A (Gd (aJ (aJ p.L q.L) u.L) (p.z+q.z+u.z) (p.tl+q.tl+12+u.tl+12))):=by
 obtain⟨f,N,c,y,O,a1,-⟩:=rY (rfl:w.heap.size=_) (TC 4 none 0 0 (some (aD b off)) 2 lc 0 0 s) 58 (TC u.kind sob snb scb lob lnb lcb mb nb sb) 58 TZ 58;have d9:f.cell? (aD w.heap.size 0)=some (Vi 4):=y.cell 0;have c4:f.cell? (aD w.heap.size 2)=some (.slice (some (aD b off)) 2 lc):=y.cell 2;obtain⟨c1,b5,a5,c5,a8,d0⟩:=O.six;obtain⟨d7,c2,b0,d4,d5,b8⟩:=oT c hbl (CT.fst hrow);obtain⟨c7,a9,c0,d8,a7,b9⟩:=oT c hbl (CT.snd hrow);have b6:=y.lt;have b4:=O.lt;have W:b<f.heap.size:=zF hbl c.size;have e0:(u.kind==1)=false:=zD.2 hb1;have e1:(u.kind==2)=false:=zD.2 hb2;have a4:f.heap.size=w.heap.size+3:=by rw[<-N];simp
 have b1:Hid (∀a,Bw f a->Calls prog 38 #[.agg #[Vi q.kind,.slice soy sny scy,.slice loy lny lcy,Vi my,Vi ny,.string sy],.agg #[Vi u.kind,.slice sob snb scb,.slice lob lnb lcb,Vi mb,Vi nb,.string sb]] a λe k=>∃t L M P H I lc m n s,e=.returned (.agg #[Vi (Tm.kind t),.slice L M P,.slice H I lc,Vi m,Vi n,.string s])/\aj k (λg=>A g\/a.heap.size<g) t (TC t.kind L M P H I lc m n s)/\Gd (aJ q.L u.L) (q.z+u.z) (q.tl+u.tl+12) t/\Bw a k):=λa h=>iq a A u _ _ _ _ _ _ _ _ _ _ _ _ _ _ _ _ _ _ (λg d=>by have h1:=hA g d;have h2:=c.size;have h3:=h.size;omega) (aj.below h _ _ (aj.below c _ _ hq)) (aj.below h _ _ (aj.below c _ _ hu)) qk uk (by omega);have c3:Hid (∀(k:World) (F:Tm) (r:Option Addr) (C x:Nat) (B:Option Addr) (z E:Nat) (m5 n5:Int) (s5:ByteArray),Bw f k->aj k (λg=>A g\/f.drew.heap.size<g) F (TC F.kind r C x B z E m5 n5 s5)->Gd (aJ q.L u.L) (q.z+u.z) (q.tl+u.tl+12) F ->
   Calls prog 38 #[.agg #[Vi p.kind,.slice sox snx scx,.slice lox lnx lcx,Vi mx,Vi nx,.string sx],.agg #[Vi F.kind,.slice r C x,.slice B z E,Vi m5,Vi n5,.string s5]] k λe T=>∃t L M P H I lc m n s,e=.returned (.agg #[Vi (Tm.kind t),.slice L M P,.slice H I lc,Vi m,Vi n,.string s])/\Hid (aj T (λg=>A g\/w.heap.size+1+1<g) t (TC t.kind L M P H I lc m n s))/\Hid (Gd (aJ (aJ p.L q.L) u.L) (p.z+q.z+u.z) (p.tl+q.tl+12+u.tl+12) t)/\Bw k T):=λk F r C x B z E m5 n5 s5 h5 o i=>by
  have a6:f.drew.heap.size=f.heap.size:=rfl;rw[a6]at o;have h1:=i.z;have h2:=i.tl;have h3:=h5.size;refine (ip k (λg=>(A g\/f.heap.size<g)/\g<k.heap.size) F _ _ _ _ _ _ _ _ _ _ _ _ _ _ _ _ _ _ (λg d=>d.2) (aj.mono (λg d ha=>⟨.inl ha,d⟩) _ _ (aj.below h5 _ _ (aj.below c _ _ hp))) (aj.mono (λg d ha=>⟨ha,d⟩) _ _ o) pk i.ok (by omega)).mono ?_;rintro e T ⟨t,L,M,P,H,I,lc,m,n,s,rfl,g1,g2,g3⟩;refine⟨t,L,M,P,H,I,lc,m,n,s,rfl,?_,⟨g2.ok,?_,?_,?_⟩,g3⟩
  ·exact aj.mono (λg _ d=>by rcases d with⟨d|d,_⟩|d;exact .inl d;exact .inr (by omega);exact .inr (by omega)) _ _ g1
  ·rw[g2.lg,i.lg,AV]
  ·have:=g2.z;omega
  ·have:=g2.tl;omega
 have J:Hid (∀a,Bw f a->(a.cell? (aD w.heap.size 2)=some (.slice (some (aD b off)) 2 lc)/\CB a (w.heap.size+1) u.kind sob snb scb lob lnb lcb mb nb sb/\CT a b off p.kind sox snx scx lox lnx lcx mx nx sx/\CT a b (off+6) q.kind soy sny scy loy lny lcy my ny sy)):=λa h=>⟨(h.cell (p:=(aD w.heap.size 2)) b6).trans c4,CB.below h b4 ⟨c1,b5,a5,c5,a8,d0⟩,CT.below h W ⟨d7,c2,b0,d4,d5,b8⟩,CT.below h W ⟨c7,a9,c0,d8,a7,b9⟩⟩;have b7:=aa a1;have c9:=aa c;have d6:=aa N;have HA:=aa hA;clear hrow hp hq hu pk qk uk N c y O a1 hA ip iq htl hb1 hb2 a4;go_enter func38,ntmps38;go_upto_region 1 with fail;rw[d6.out];generalize hS:w.heap.size=S at *;have b2:S+1+1≠S:=by omega
 have b3:S+1+1≠S+1:=by omega
 have a0:S+1+1≠b:=by omega
 have V:=aa (b1.out f.drew (jw f));have d3:=aa (J.out f.drew (jw f));go_wp2_with fail
 go_region_held3 (λa=>a.cell? (aD S 2)=some (.slice (some (aD b off)) 2 lc)/\CB a (S+1) u.kind sob snb scb lob lnb lcb mb nb sb/\CT a b off p.kind sox snx scx lox lnx lcx mx nx sx/\CT a b (off+6) q.kind soy sny scy loy lny lcy my ny sy)
  (first|with_reducible exact d3.out|with_reducible exact l.out|with_reducible exact⟨JK b2 l.out.1,CB.far b3 l.out.2.1,CT.far a0 l.out.2.2.1,CT.far a0 l.out.2.2.2⟩|fail)
  (first
   |(go_at_call 38;with_reducible refine V.out.mono ?_;rintro e k ⟨F,r,C,x,B,z,E,m5,n5,s5,rfl,o,i,U⟩;have D:=aa (ku U);have l:=aa (J.out k D.out);have d1:=aa o;have c6:=aa i;clear o i U)
   |(go_at_call 38;with_reducible refine (c3.out _ F _ _ _ _ _ _ _ _ _ D.out d1.out c6.out).mono ?_;rintro e T ⟨t6,Z,a2,R,Y,X,a3,m6,n6,s6,rfl,d2,c8,Q⟩;have K:=aa (D.out.trans (Q.mono D.out.size));have l:=aa (J.out T K.out);have G:=b7.out.below K.out;obtain⟨r0,r1,r2,r3,r4,r5⟩:=G.six;obtain⟨f0,f1,f2,f3,f4,f5,e2⟩:=G.ice;clear Q G)
   |fail)
 all_goals go_wp2_with fail
 refine zN (v:=.agg #[Vi (Tm.kind t6),.slice Z a2 R,.slice Y X a3,Vi m6,Vi n6,.string s6]) (by simp[results,results38,go_sem,r0,r1,r2,r3,r4,r5]) rfl ⟨t6,Z,a2,R,Y,X,a3,m6,n6,s6,rfl,?_,c8.out,?_⟩
 ·rw[hS];exact aj.mono (λg _ d=>by rcases d with d|d;exact .inl d;exact .inr (by omega)) _ _ (dP d2.out (λg h=>by have:=HA.out g h;omega) _ _ _ _ _ _)
 ·rw[hS];exact jB (c9.out.trans (K.out.mono (by omega))) _ _ _ _ _ _
theorem rp (h:t.kind=1):t=.none:=by cases t<;>first|rfl|(simp[Tm.kind]at h)
theorem rq (h:t.kind=2):t=.empty:=by cases t<;>first|rfl|(simp[Tm.kind]at h)
theorem iW (h4:t.kind≠4):wT t:=by
 intro w A u O E I D H G Q R U N C K M L J S X T r y B p x F;have Y:=mh t;have P:=mh u;have W:=fE t;have V:=fE u;by_cases h:t.kind=1\/(t.kind≠1/\u.kind=1)
 ·refine (qA (A:=A) h).mono ?_;rintro e o ⟨v,c,d,f,g,b,a,l,m,j,rfl,i,rfl,k⟩;refine⟨.none,c,d,f,g,b,a,l,m,j,rfl,i,⟨trivial,?_,by show 1<=_;omega,by show 12<=_;omega⟩,k⟩;rw[Tm.L_none];rcases h with h|⟨_,h⟩
  ·rw[rp h,Tm.L_none,CZ]
  ·rw[rp h,Tm.L_none,uc]
 ·have s:t.kind≠1:=λe=>h (.inl e);have z:u.kind≠1:=λe=>h (.inr ⟨s,e⟩);by_cases n:t.kind=2
  ·refine (Ob r z n rfl B).mono ?_;rintro e o ⟨v,c,d,f,g,b,a,l,m,j,rfl,i,rfl,k⟩;exact⟨v,c,d,f,g,b,a,l,m,j,rfl,i,⟨x,by rw[rq n,Tm.L_empty,AU],by omega,by omega⟩,k⟩
  ·by_cases q:u.kind=2
   ·refine (Et r s n q rfl y).mono ?_;rintro e o ⟨v,c,d,f,g,b,a,l,m,j,rfl,i,rfl,k⟩;exact⟨v,c,d,f,g,b,a,l,m,j,rfl,i,⟨p,by rw[rq q,Tm.L_empty,kQ],by omega,by omega⟩,k⟩
   ·refine (Rr r s z n q h4 y B p x (by omega)).mono ?_;rintro e o ⟨v,c,d,f,g,b,a,l,m,j,rfl,i,rfl,k⟩;exact⟨.row t u,c,d,f,g,b,a,l,m,j,rfl,i,⟨⟨p,x⟩,Tm.L_row t u,zA _,zA _⟩,k⟩
theorem PW {q:Tm}(ip:wT p)(iq:wT q):wT (.row p q):=by
 intro w A u a8 Z a5 Y S a1 ma na sa W R a6 a3 a7 U mb nb sb O M hu F hk a4;have p1:=mh p;have p2:=mh q;have p5:=mh u;have p3:=fE p;have p4:=fE q;have p6:=fE u;have a2:(Tm.row p q).tl=p.tl+q.tl+12:=rfl;have a0:(Tm.row p q).z=p.z+q.z:=rfl;by_cases z:u.kind=1
 ·refine (qA (A:=A) (.inr ⟨by simp[Tm.kind],z⟩)).mono ?_;rintro e w' ⟨v,i,f,g,c,h,a,r,n,k,rfl,y,rfl,K⟩;exact⟨.none,i,f,g,c,h,a,r,n,k,rfl,y,⟨trivial,by rw[Tm.L_none,rp z,Tm.L_none,uc],by show 1<=_;omega,by show 12<=_;omega⟩,K⟩
 ·by_cases t:u.kind=2
  ·refine (Et O (by simp[Tm.kind]) (by simp[Tm.kind]) t rfl M).mono ?_;rintro e w' ⟨v,i,f,g,c,h,a,r,n,k,rfl,y,rfl,K⟩;exact⟨.row p q,i,f,g,c,h,a,r,n,k,rfl,y,⟨F,by rw[rq t,Tm.L_empty,kQ],by omega,by omega⟩,K⟩
  ·obtain⟨c,a,xs,ys,k,e,d,N,P,_⟩:=M;simp only[Tm.kind,TC,zT,zm,zu,yc,yB,yK]at e;obtain⟨⟨rfl,rfl,rfl⟩,⟨rfl,rfl,rfl⟩,rfl,rfl,rfl⟩:=e;obtain⟨l,I,H,m,J,s,X,nx,sx,rfl,_⟩:=N.form;obtain⟨C,E,L,B,o,x,my,V,sy,rfl,_⟩:=P.form;obtain⟨b,G,rfl,T,hb,c0⟩:=d 0 _ rfl;have cc:∀j v,(TC p.kind l I H m J s X nx sx++TC q.kind C E L B o x my V sy)[j]?=some v->w.cell? ⟨b,G+j,none⟩=some v:=λj v hj=>by
    obtain⟨b',Q,D,_,_,hc⟩:=d j v hj;injection D with D;injection D with e1 e2;subst e1 e2;exact hc
   rw[Tm.L_row];exact PV O ip iq z t hb cc N P hu F.1 F.2 hk (by omega)
theorem nY:∀t:Tm,wT t
 |.none=>iW (by simp[Tm.kind])
 |.empty=>iW (by simp[Tm.kind])
 |.set _=>iW (by simp[Tm.kind])
 |.row p q=>PW (nY p) (nY q)
 |.or _=>iW (by simp[Tm.kind])
 |.and _=>iW (by simp[Tm.kind])
 |.not _=>iW (by simp[Tm.kind])
 |.many _ _ _=>iW (by simp[Tm.kind])
def xZ (t:Tm):Prop:=∀(w:World) (A:Nat->Prop) (so:Option Addr) (sn sc:Nat) (lo:Option Addr) (ln lc:Nat) (m n:Int) (s:ByteArray),aj w A t (TC t.kind so sn sc lo ln lc m n s)->t.Ok->t.tl<=8000000000000000000 ->
 Calls prog 29 #[.agg #[Vi t.kind,.slice so sn sc,.slice lo ln lc,Vi m,Vi n,.string s]] w λe w'=>∃v:Bool,e=.returned (.bool v)/\(v=true↔t.L [])/\Below w.heap.size w w'
noncomputable def dl:List Tm->Nat
 | []=>0
 |t::l=>(open Classical in if t.L []then 1 else 0)+dl l
theorem vj:∀l m:List Tm,dl (l++m)=dl l+dl m
 | [],m=>by simp[dl]
 |t::l,m=>by simp only[zV,dl,vj l m];omega
theorem uu:∀l:List Tm,dl l<=l.length
 | []=>zA _
 |t::l=>by
  have:=uu l;simp only[dl,zG]
  split<;>omega
theorem qN:∀l:List Tm,dl l=l.length↔∀t∈l,t.L []
 | []=>by simp[dl]
 |t::l=>by
  have b:=uu l;have a:=qN l;simp only[dl,zG,zO,forall_eq_or_imp]
  split
  ·rename_i h
   rw[<-a];exact⟨λe=>⟨h,by omega⟩,λe=>by omega⟩
  ·rename_i h
   exact⟨λe=>by omega,λe=>absurd e.1 h⟩
theorem Fg:∀l:List Tm,0<dl l↔∃t∈l,t.L []
 | []=>by simp[dl]
 |t::l=>by
  have a:=Fg l;simp only[dl,zO,exists_eq_or_imp]
  split
  ·rename_i h
   exact⟨λ_=>.inl h,λ_=>by omega⟩
  ·rename_i h
   rw[zf,a];exact⟨λe=>.inr e,λe=>e.elim (λe=>absurd e h) id⟩
theorem OR (w:World)(so:OA)(sn sc:Nat)(lo:OA)(ln lc:Nat)(m n:Int)(s:ByteArray):Calls prog 29 #[.agg #[Vi 1,.slice so sn sc,.slice lo ln lc,Vi m,Vi n,.string s]] w λe w'=>e=.returned (.bool false)/\Bw w w':=by
 have a:=(zE w.heap.size w).alloc (zA _) (.cells #[Vi 1,.slice so sn sc,.slice lo ln lc,Vi m,Vi n,.string s] 58);have b:=aa a;go_enter func29,ntmps29;go_wp2_with fail;go_ret;exact⟨rfl,b⟩
theorem LD (w:World)(so:OA)(sn sc:Nat)(lo:OA)(ln lc:Nat)(m n:Int)(s:ByteArray):Calls prog 29 #[.agg #[Vi 2,.slice so sn sc,.slice lo ln lc,Vi m,Vi n,.string s]] w λe w'=>e=.returned (.bool true)/\Bw w w':=by
 have a:=(zE w.heap.size w).alloc (zA _) (.cells #[Vi 2,.slice so sn sc,.slice lo ln lc,Vi m,Vi n,.string s] 58);have b:=aa a;go_enter func29,ntmps29;go_wp2_with fail;go_ret;exact⟨rfl,b⟩
theorem Sm (w:World)(so:OA)(sn sc:Nat)(lo:OA)(ln lc:Nat)(m n:Int)(s:ByteArray):Calls prog 29 #[.agg #[Vi 3,.slice so sn sc,.slice lo ln lc,Vi m,Vi n,.string s]] w λe w'=>e=.returned (.bool false)/\Bw w w':=by
 have a:=(zE w.heap.size w).alloc (zA _) (.cells #[Vi 3,.slice so sn sc,.slice lo ln lc,Vi m,Vi n,.string s] 58);have b:=aa a;go_enter func29,ntmps29;go_wp2_with fail;go_ret;exact⟨rfl,b⟩
theorem sV (hK:K=4\/K=5\/K=6)(hr:cg w A lo xs)(hl:aO w A l xs)(ih:∀t∈l,xZ t)(hok:∀t∈l,t.Ok)(htl:∀t∈l,t.tl<=8000000000000000000)(hlen:l.length<=9000000000000000000):Calls prog 29 #[.agg #[.int .i64 K,.slice so sn sc,.slice lo l.length lc,.int .i64 m,.int .i64 n,.string s]] w λe w'=>e=.returned (.bool (decide (dl l=l.length)||(decide (K=5)&&decide (0<dl l))))/\Below w.heap.size w w':=by
 obtain⟨M,F,k,g,-⟩:=dS (rfl:w.heap.size=_) (TC K so sn sc lo l.length lc m n s) 58;have a0:M.cell? ⟨w.heap.size,0,none⟩=some (.int .i64 K):=g.cell 0;have b0:=g.lt;have k1:(K==1)=false:=zD.2 (by omega);have k2:(K==2)=false:=zD.2 (by omega);have k3:(K==3)=false:=zD.2 (by omega);have k7:(K==7)=false:=zD.2 (by omega);have k8:(K==8)=false:=zD.2 (by omega);have Z:=aa g;have P:=aa k;have T:=aa F;have HR:=aa (hr.below k);have HL:=aa (aO.below k _ _ hl);have O:=aa ih;have L:=aa hok;have J:=aa htl;clear F k g hr hl ih hok hK htl;go_enter func29,ntmps29;go_upto_region 1 with fail;rw[T.out];generalize hS:w.heap.size=S at *;go_wp2_with fail
 go_loopg [4,5] l.length (λj cv iv wr=>∃i:Nat,iv=.int .i64 i/\cv=.int .i64 (dl (l.take i):Nat)/\i<=l.length/\l.length-i<=j/\Below M.heap.size M wr)
 case atStart=>exact⟨0,rfl,rfl,zW _,zA _,zE _ _⟩
 case round=>
  obtain⟨i,rfl,rfl,a4,a1,a⟩:=hrel;have f:=Z.below a;have a2:wr.cell? ⟨S,2,none⟩=some (.slice lo l.length lc):=f.cell 2;have a6:wr.cell? ⟨S,0,none⟩=some (.int .i64 K):=f.cell 0;have a8:=f.lt;have i0:(0:Int)<=(i:Int):=zK _;have x:=aa a;by_cases I:i<l.length
  ·have i1:(i:Int)<(l.length:Int):=by omega
   obtain⟨t,G⟩:∃t,l[i]?=some t:=⟨_,zB I⟩;have o:=zU G;obtain⟨b,b2,c,rfl,_,hb,d,W⟩:=(HR.out.below a).at (aO.below a _ _ HL.out) G;obtain⟨a9,b3,a5,a3,a7,b1,m',n',s',rfl,_⟩:=d.form;obtain⟨y0,y1,y2,y3,y4,y5⟩:=JJ W;have Y:=aa (O t o wr A _ _ _ _ _ _ _ _ _ d (L t o) (J t o));have N:Hid (dl (l.take (i+1))=dl (l.take i)+dl [t]):=by
    show _=_
    rw[show l.take (i+1)=l.take i++[t] by rw[zi,G];rfl,vj]
   have z:Hid (dl (l.take i)<=i):=by
    have h9:=uu (l.take i);rw[yn]at h9;show _<=_
    omega
   obtain⟨C,r⟩:∃C,dl (l.take i)=C:=⟨_,rfl⟩;rw[r]at N z ⊢;have c9:(C:Int)+1<=9000000000000000001:=by have:=z.out;omega
   clear d W G o f a r;go_wp2_with fail;refine Y.mono ?_;rintro e w5 ⟨v,rfl,D,E⟩;have y:=aa (x.trans (E.mono x.size));have B:=aa D;clear E D Y;cases v with
   |true=>
    have U:Hid (dl (l.take (i+1))=C+1):=by show _=_;rw[N.out];simp[dl,B.out.1 rfl]
    go_wp2_with fail
    go_roundg (l.length-(i+1))
    case measure=>omega
    exact⟨i+1,by first|rfl|go_num,by rw[U.out];first|rfl|go_num,by omega,by omega,y⟩
   |false=>
    have U:Hid (dl (l.take (i+1))=C):=by
     have Q:¬t.L []:=λh=>by have:=B.2 h;cases this
     show _=_
     rw[N.out];simp[dl,Q]
    go_wp2_with fail
    go_roundg (l.length-(i+1))
    case measure=>omega
    exact⟨i+1,by first|rfl|go_num,by rw[U.out],by omega,by omega,y⟩
  ·have i1:decide ((i:Int)<(l.length:Int))=false:=zI (by omega);obtain rfl:i=l.length:=by omega
   rw[zQ];have q:Hid (Below S w wr):=P.trans (x.mono (yJ Z.lt));have R:=uu l;obtain⟨C,r⟩:∃C,dl l=C:=⟨_,rfl⟩;rw[r]at R;rw[r];have p:=aa r;clear a f r;by_cases V:C=l.length
   ·have q1:((C:Int)==(l.length:Int))=true:=beq_iff_eq.2 (by omega);have d:(decide (dl l=l.length)||(decide (K=5)&&decide (0<dl l)))=true:=by rw[p.out];simp[V]
    have u:=aa d;clear d;go_wp2_with fail;go_ret;exact⟨by rw[u.out];rfl,by rw[hS];exact q⟩
   ·have q1:((C:Int)==(l.length:Int))=false:=zD.2 (by omega);by_cases H:K=5
    ·have q2:(K==5)=true:=beq_iff_eq.2 H;by_cases X:0<C
     ·have q3:decide ((0:Int)<(C:Int))=true:=zv (by omega);have d:(decide (dl l=l.length)||(decide (K=5)&&decide (0<dl l)))=true:=by rw[p.out];simp[H,X]
      have u:=aa d;clear d;go_wp2_with fail;go_ret;exact⟨by rw[u.out];rfl,by rw[hS];exact q⟩
     ·have q3:decide ((0:Int)<(C:Int))=false:=zI (by omega);have d:(decide (dl l=l.length)||(decide (K=5)&&decide (0<dl l)))=false:=by rw[p.out];simp[V,X]
      have u:=aa d;clear d;go_wp2_with fail;go_ret;exact⟨by rw[u.out];rfl,by rw[hS];exact q⟩
    ·have q2:(K==5)=false:=zD.2 H;have d:(decide (dl l=l.length)||(decide (K=5)&&decide (0<dl l)))=false:=by rw[p.out];simp[V,H]
     have u:=aa d;clear d;go_wp2_with fail;go_ret;exact⟨by rw[u.out];rfl,by rw[hS];exact q⟩
theorem Sn (ih:xZ u)(hok:u.Ok)(htl:u.tl<=8000000000000000000)(hbl:b<w.heap.size)(hv:aj w A u (TC u.kind so' sn' sc' lo' ln' lc' m' n' s'))(hc:∀j v,(TC u.kind so' sn' sc' lo' ln' lc' m' n' s')[j]?=some v->w.cell? ⟨b,off+j,none⟩=some v):Calls prog 29 #[.agg #[.int .i64 7,.slice none 0 0,.slice (some ⟨b,off,none⟩) 1 lc,.int .i64 0,.int .i64 0,.string s]] w λe w'=>∃v:Bool,e=.returned (.bool v)/\(v=true↔¬u.L [])/\Below w.heap.size w w':=by
 obtain⟨f,d,c,a,-⟩:=dS (rfl:w.heap.size=_) (TC 7 none 0 0 (some ⟨b,off,none⟩) 1 lc 0 0 s) 58;have B:f.cell? ⟨w.heap.size,0,none⟩=some (.int .i64 7):=a.cell 0;have D:f.cell? ⟨w.heap.size,2,none⟩=some (.slice (some ⟨b,off,none⟩) 1 lc):=a.cell 2;have C:f.cell? ⟨w.heap.size,3,none⟩=some (.int .i64 0):=a.cell 3;have n:=a.lt;have p:b<f.heap.size:=zF hbl c.size;obtain⟨r,E,q,z,x,y⟩:=oT c hbl hc;have o:=aa (ih f A _ _ _ _ _ _ _ _ _ (aj.below c _ _ hv) hok htl);have l:=aa c;have m:=aa d;clear d c a ih hok hv hc htl;go_enter func29,ntmps29;go_upto_region 1 with fail;rw[m.out];generalize hS:w.heap.size=S at *;go_wp2_with fail;refine o.mono ?_;rintro e t ⟨v,rfl,h,g⟩;have i:=aa (l.trans (g.mono (yJ n)));have k:=aa h;clear g h o;go_wp2_with fail;go_ret;refine⟨!v,rfl,?_,by rw[hS];exact i⟩;rw[<-k.out];cases v<;>simp
theorem OS (ih:xZ u)(hok:u.Ok)(htl:u.tl<=8000000000000000000)(hbl:b<w.heap.size)(hv:aj w A u (TC u.kind so' sn' sc' lo' ln' lc' m' n' s'))(hc:∀j v,(TC u.kind so' sn' sc' lo' ln' lc' m' n' s')[j]?=some v->w.cell? ⟨b,off+j,none⟩=some v):Calls prog 29 #[.agg #[.int .i64 8,.slice none 0 0,.slice (some ⟨b,off,none⟩) 1 lc,.int .i64 m,.int .i64 n,.string s]] w λe w'=>∃v:Bool,e=.returned (.bool v)/\(v=true↔m=0\/u.L [])/\Below w.heap.size w w':=by
 obtain⟨f,d,c,a,-⟩:=dS (rfl:w.heap.size=_) (TC 8 none 0 0 (some ⟨b,off,none⟩) 1 lc m n s) 58;have G:f.cell? ⟨w.heap.size,0,none⟩=some (.int .i64 8):=a.cell 0;have I:f.cell? ⟨w.heap.size,2,none⟩=some (.slice (some ⟨b,off,none⟩) 1 lc):=a.cell 2;have H:f.cell? ⟨w.heap.size,3,none⟩=some (.int .i64 m):=a.cell 3;have q:=a.lt;have y:b<f.heap.size:=zF hbl c.size;obtain⟨B,J,z,F,D,E⟩:=oT c hbl hc;have t:=aa (ih f A _ _ _ _ _ _ _ _ _ (aj.below c _ _ hv) hok htl);have g:=aa c;have h:=aa d;clear d c a ih hok hv hc htl;by_cases l:m=0
 ·have r:=aa l;clear l;go_enter func29,ntmps29;go_upto_region 1 with fail;rw[h.out];generalize hS:w.heap.size=S at *;have x:(m==0)=true:=beq_iff_eq.2 r;go_wp2_with fail;go_ret;exact⟨true,rfl,by simp[r.out],by rw[hS];exact g⟩
 ·have x:(m==0)=false:=zD.2 l;go_enter func29,ntmps29;go_upto_region 1 with fail;rw[h.out];generalize hS:w.heap.size=S at *;go_wp2_with fail;refine t.mono ?_;rintro e C ⟨v,rfl,k,i⟩;have o:=aa (g.trans (i.mono (yJ q)));have p:=aa k;clear i k t;go_wp2_with fail;go_ret;exact⟨v,rfl,by rw[<-p.out];simp[l],by rw[hS];exact o⟩
theorem uv:∀{l:List Tm} {t:Tm},t∈l->t.tl<=bw l
 |u::l,t,h=>by
  simp only[bw];rcases zO.1 h with rfl|h
  ·omega
  ·have:=uv h;omega
theorem pZ:∀l:List Tm,12*l.length<=bw l
 | []=>zA _
 |t::l=>by
  have b:=mh t;have a:=pZ l;simp only[bw,zG];omega
theorem cg.one {k:Int}(h:cg w A lo (TC k so sn sc lo' ln lc m n s)):∃b off,lo=some (aD b off)/\A b/\b<w.heap.size/\∀j v,(TC k so sn sc lo' ln lc m n s)[j]?=some v->w.cell? ⟨b,off+j,none⟩=some v:=by
 obtain⟨b,off,e,g,d,_⟩:=h 0 _ rfl;refine⟨b,off,e,g,d,λj v i=>?_⟩;obtain⟨l,c,a,_,_,f⟩:=h j v i;rw[e]at a;injection a with a;injection a with e1 e2;subst e1 e2;exact f
mutual
theorem iR:∀t:Tm,xZ t
 |.none=>λw A o y x r j k m n s _ _ _=>(OR w o y x r j k m n s).mono λe E ⟨D,g⟩=>⟨false,D,by simp[Tm.L],g⟩
 |.empty=>λw A o y x r j k m n s _ _ _=>(LD w o y x r j k m n s).mono λe E ⟨D,g⟩=>⟨true,D,by simp[Tm.L],g⟩
 |.set _=>λw A o y x r j k m n s _ _ _=>(Sm w o y x r j k m n s).mono λe E ⟨D,g⟩=>⟨false,D,by simp[Tm.L],g⟩
 |.row a b=>by
  have Z:=iR a;have H:=iR b;intro w A o y x r j k m n s z d f;obtain⟨B,C,J,ys,M,e,c,X,hq,_⟩:=z;simp only[Tm.kind,TC,zT,zm,zu,yc,yB,yK]at e;obtain⟨⟨rfl,rfl,rfl⟩,⟨rfl,rfl,rfl⟩,rfl,rfl,rfl⟩:=e;refine (sV (l:=[a,b]) (K:=4) (.inl rfl) c ((aO.one X).append (aO.one hq)) (λt i=>by simp at i;rcases i with rfl|rfl;exact Z;exact H) (λt i=>by simp at i;rcases i with rfl|rfl;exact d.1;exact d.2) (λt i=>by have L:a.tl+b.tl+12<=8000000000000000000:=f;simp at i;rcases i with rfl|rfl<;>omega) (by simp)).mono ?_;rintro e E ⟨rfl,g⟩;refine⟨_,rfl,?_,g⟩;have I:=qN [a,b];simp only[yZ,zY,yP,I,Tm.L_row,Dc];simp
 |.or l=>by
  have F:=sW l;intro w A o y x r j k m n s z d f;obtain⟨B,C,J,M,e,c,U,_⟩:=z;simp only[Tm.kind,TC,zT,zm,zu,yc,yB,yK]at e;obtain⟨⟨rfl,rfl,rfl⟩,⟨rfl,rfl,rfl⟩,rfl,rfl,rfl⟩:=e;have L:bw l+12<=8000000000000000000:=f;have W:=pZ l;refine (sV (l:=l) (K:=5) (.inr (.inl rfl)) c U F (dO.1 d.1) (λt i=>by have:=uv i;omega) (by omega)).mono ?_;rintro e E ⟨rfl,g⟩;refine⟨_,rfl,?_,g⟩;have I:=qN l;have h4:=Fg l;simp only[yZ,zY,yP,I,h4,Tm.L,qc,yB];refine⟨λh=>h.elim (λh=>?_) id,.inr⟩;cases l with
  |nil=>exact absurd rfl d.2
  |cons t l=>exact⟨t,by simp,h t (by simp)⟩
 |.and l=>by
  have F:=sW l;intro w A o y x r j k m n s z d f;obtain⟨B,C,J,M,e,c,U,_⟩:=z;simp only[Tm.kind,TC,zT,zm,zu,yc,yB,yK]at e;obtain⟨⟨rfl,rfl,rfl⟩,⟨rfl,rfl,rfl⟩,rfl,rfl,rfl⟩:=e;have L:bw l+12<=8000000000000000000:=f;have W:=pZ l;refine (sV (l:=l) (K:=6) (.inr (.inr rfl)) c U F (dO.1 d.1) (λt i=>by have:=uv i;omega) (by omega)).mono ?_;rintro e E ⟨rfl,g⟩;refine⟨_,rfl,?_,g⟩;have I:=qN l;simp only[yZ,zY,yP,I,Tm.L,nK];simp
 |.not u=>by
  have F:=iR u;intro w A o y x r j k m n s z d f;obtain⟨B,C,J,M,e,c,G,_⟩:=z;simp only[Tm.kind,TC,zT,zm,zu,yc,yB,yK]at e;obtain⟨⟨rfl,rfl,rfl⟩,⟨rfl,rfl,rfl⟩,rfl,rfl,rfl⟩:=e;obtain⟨O,V,R,N,S,P,Y,n2,s2,rfl,_⟩:=G.form;obtain⟨b,Q,rfl,_,H,T⟩:=c.one;refine (Sn F d (by have L:u.tl+12<=8000000000000000000:=f;omega) H G T).mono ?_;rintro e E ⟨v,rfl,D,g⟩;exact⟨v,rfl,D,g⟩
 |.many u p q=>by
  have F:=iR u;intro w A o y x r j k m n s z d f;obtain⟨B,C,J,M,e,c,G,_⟩:=z;simp only[Tm.kind,TC,zT,zm,zu,yc,yB,yK]at e;obtain⟨⟨rfl,rfl,rfl⟩,⟨rfl,rfl,rfl⟩,rfl,rfl,rfl⟩:=e;obtain⟨O,V,R,N,S,P,Y,n2,s2,rfl,_⟩:=G.form;obtain⟨b,Q,rfl,_,H,T⟩:=c.one;refine (OS F d.1 (by have L:u.tl+12<=8000000000000000000:=f;omega) H G T).mono ?_;rintro e E ⟨v,rfl,D,g⟩;refine⟨v,rfl,?_,g⟩;rw[D,Tm.L_many,Db d.2.1 (by have:=d.2.2.2;omega)]
theorem sW:∀l:List Tm,∀t∈l,xZ t
 | [],t,h=>by simp at h
 |u::l,t,h=>by
  have a:=iR u;have b:=sW l;rcases zO.1 h with rfl|h
  ·exact a
  ·exact b t h
end
theorem eO {w:World}{ops:Array Oper}{rest:List Oper}{o:Oper}{a:Act}{Q:Exit->Act->World->Prop}(hgd:o.guard=none)(s x:Operand)(t e:TypeId)(i0:TypeInfo)(z:Value)(size bytes:Nat)
  (ho:o.op=.call { callee:=.builtin .append,args:=#[s,x],argTypes:=#[t,t] }) (hu:prog.underlying t=some (.slice e)) (hi:prog.info? e=some i0) (hz:i0.zero=some z) (hsz:i0.size=size) (hby:i0.bytes=bytes) (hzs:z.cells.size=size) (hpos:0<size)
  (B n:Nat) (v:Value) (xs:LV) (hs:a.eval s=v) (hown:w.ownsRow B e size v n xs)
  (ao:OA) (m c:Nat) (news:LV) (hx:a.eval x=.slice ao m c) (hnone:ao=none->m=0/\c=0) (hl:news.length=m*size) (hnews:∀ad,ao=some ad->∀j u,news[j]?=some u->w.cell? (ad.add j)=some u) (h1:∀u∈news,u.oneCell'=true)
  (h63:n+m<=maxLen) (hn:((n+m)+(n+m) / 4+192)*bytes<=281474976710656) (hB:B<=w.heap.size)
  (h:∀v' w',w'.ownsRow B e size v' (n+m) (xs++news)->w.grownBy w' v.ownBlock->wpList prog ops Q rest (a.put o.dst v') w'):wpList prog ops Q (o::rest) a w:=by
 cases ao with
 |some ad=>exact wpList_append_own_wide w hgd s x t ho B e i0 z size bytes hu hi hz hsz hby hzs hpos v n xs hs hown ad m c news hx hl (hnews ad rfl) h1 h63 hn hB λv' w' d b _=>h v' w' d b
 |none=>
  obtain⟨rfl,rfl⟩:=hnone rfl;have hnews:news=[]:=yf (by simpa using hl);subst hnews;exact wpList_append_own_none hgd s x t ho B e i0 size hu hi v n xs hs hown hx (h v w (by simpa using hown) (World.grownBy.refl _ _))
theorem lM:(prog.info? 58).map (λi=>(i.zero,i.size,i.bytes))=some (some (.agg #[Vi 0,Vz,Vz,Vi 0,Vi 0,.string ⟨#[]⟩]),6,88):=by kernel_rfl
theorem bg {n:Nat}(h:w.ownsRow B e size v n xs)(k:Bw w w'):w'.ownsRow B e size v n xs:=by
 have c:=h.lt;obtain⟨i,a⟩:=h;refine⟨i,?_⟩;rcases a with a|⟨g,d,b,rfl,f,j,r⟩
 ·exact .inl a
 ·exact .inr ⟨g,d,b,rfl,f,(k.block g (c g rfl).2).trans j,r⟩
theorem ij {B' n:Nat}(h:w.ownsRow B e size v n xs)(hb:B'<=B):w.ownsRow B' e size v n xs:=by
 refine⟨h.1,?_⟩;rcases h.2 with d|⟨g,b,a,e,c,r⟩
 ·exact .inl d
 ·exact .inr ⟨g,b,a,e,zJ hb c,r⟩
theorem cd {n:Nat}(h:w.ownsRow B e size v n xs):∃ao cap,v=.slice ao n cap:=by
 rcases h.2 with⟨rfl,rfl⟩|⟨g,cap,a,rfl,_⟩<;>exact⟨_,_,rfl⟩
theorem cD {w1:World}{n:Nat}(hb:Below B w W)(hB:B<=W.heap.size)(ho:W.ownsRow B e size v n xs)(hg:W.grownBy w1 v.ownBlock):Below B w w1:=hb.grown hg hB λk e=>(ho.lt k e).1
theorem fN {n:Nat}(h:w.ownsRow B 58 6 (.slice lo n cap) n xs):cg w (λg=>B<=g) lo xs:=λj u a=>by
 rcases h.2 with⟨k,f⟩|⟨g,c,i,e,d,l,r⟩
 ·have:=h.1;rw[f,Nat.zero_mul]at this;rw[yf this]at a;simp at a
 ·injection e with e1 e2 e3;subst e1 e3;have b:=h.cells (g:=g) rfl j u a;rw[zl]at b;exact⟨g,0,rfl,d,(h.lt g rfl).2,b⟩
theorem Rb {n:Nat}(h:w.ownsRow B 58 6 (.slice lo n cap) n xs):n<=cap/\(lo=none->n=0/\cap=0):=by
 rcases h.2 with⟨d,b⟩|⟨g,a,c,e,f,i,r,_⟩
 ·injection d with e1 e2 e3;subst e1 e3;exact⟨by omega,λ_=>⟨b,rfl⟩⟩
 ·injection e with e1 e2 e3;subst e1 e3;exact⟨r,λe=>by cases e⟩
theorem sD (k:Int)(so:OA)(sn sc:Nat)(lo:OA)(ln lc:Nat)(m n:Int)(s:ByteArray):∀u∈TC k so sn sc lo ln lc m n s,u.oneCell'=true:=by
 intro u a;simp[TC]at a;rcases a with rfl|rfl|rfl|rfl|rfl|rfl<;>rfl
theorem aO.ones {A:NP}{w:World}:∀{l:List Tm} {xs:LV},aO w A l xs->∀u∈xs,u.oneCell'=true
 | [],_,h=>by rw[show _=[]from h];simp
 |t::l,_,h=>by
  obtain⟨c,r,rfl,d,b⟩:=h;obtain⟨g,f,e,j,i,k,m,n,s,rfl,_⟩:=d.form;intro u a;rcases zM.1 a with a|a
  ·exact sD _ _ _ _ _ _ _ _ _ _ u a
  ·exact aO.ones b u a
theorem cg.get (hr:cg w A lo xs)(hl:aO w A' l xs)(hi:l[i]?=some t):∃b off c,lo=some (aD b off)/\b<w.heap.size/\aj w A' t c/\∀j v,c[j]?=some v->w.cell? ⟨b,off+i*6+j,none⟩=some v:=by
 obtain⟨c,g,k⟩:=hl.at hi;have p:∃v,c[0]?=some v:=⟨_,zB (by rw[g.len];decide)⟩;obtain⟨o,d⟩:=p;obtain⟨b,off,e,r,q,_⟩:=hr (6*i+0) o (by rw[k 0 (by decide)];exact d);refine⟨b,off,c,e,q,g,λj v m=>?_⟩;have f:j<6:=by have:=(zC.1 m).1;rw[g.len]at this;exact this
 obtain⟨s,h,a,_,_,n⟩:=hr (6*i+j) v (by rw[k j f];exact m);rw[e]at a;injection a with a;injection a with e1 e2;subst e1 e2;rw[show off+i*6+j=off+(6*i+j) by omega];exact n
theorem kE {a b:ByteArray}(h:a.toList=b.toList):af a=af b:=by
 unfold af;rw[<-Lib.toList_data,<-Lib.toList_data,h]
theorem El (hr:cg w A lo xs)(k:Nat):∀ad,lo=some ad->∀j u,(xs.take k)[j]?=some u->w.cell? (ad.add j)=some u:=λad e j u c=>by
 have h:xs[j]?=some u:=by
  have g:=(zC.1 c).1;rw[yn]at g;rw[List.getElem?_take_of_lt (by omega)]at c;exact c
 obtain⟨b,f,a,_,_,d⟩:=hr j u h;rw[e]at a;injection a with a;subst a;rw[zl];exact d
theorem Rc (hr:cg w A lo xs){k n:Nat}(hn:xs.length=6*n)(hc:n<=cap){ao:OA}(hao:¬cap=k->∀b off,lo=some (aD b off)->ao=some ⟨b,off+k*6,none⟩):∀ad,ao=some ad->∀j u,(xs.drop (6*k))[j]?=some u->w.cell? (ad.add j)=some u:=λad e j u a=>by
 rw[List.getElem?_drop]at a;have d:=(zC.1 a).1;obtain⟨b,off,c,_,_,hc⟩:=hr _ u a;rw[hao (by omega) b off c]at e;injection e with e;subst e;rw[zl,show off+k*6+j=off+(6*k+j) by omega];exact hc
def Ym (w:World)(B:Nat)(A:Nat->Prop)(ts:List Tm)(t:Tm)(e:Ending)(w':World):Prop:=∃v' ts' xs',e=.returned v'/\w'.ownsRow B 58 6 v' ts'.length xs'/\aO w' A ts' xs'/\(∀y,y∈ts'↔y∈ts\/y=t)/\bw ts'<=bw ts+t.tl/\bd ts'<=bd ts+t.z/\Below w.heap.size w w'
theorem UZ (k:Nat)(y:Tm):y∈ts.take k++t::ts.drop k↔y∈ts\/y=t:=by
 have h:y∈ts↔y∈ts.take k\/y∈ts.drop k:=by rw[<-zM,zj]
 simp only[zM,zO,h];constructor
 ·rintro (h|h|h)
  ·exact .inl (.inl h)
  ·exact .inr h
  ·exact .inl (.inr h)
 ·rintro ((h|h)|h)
  ·exact .inl h
  ·exact .inr (.inr h)
  ·exact .inr (.inl h)
theorem Va (k:Nat):bw (ts.take k++t::ts.drop k)=bw ts+t.tl:=by
 have h:bw ts=bw (ts.take k)+bw (ts.drop k):=by rw[<-ez,zj]
 rw[ez,h];simp only[bw];omega
theorem Vb (k:Nat):bd (ts.take k++t::ts.drop k)=bd ts+t.z:=by
 have h:bd ts=bd (ts.take k)+bd (ts.drop k):=by rw[<-dV,zj]
 rw[dV,h];simp only[bd];omega
theorem Ek {lo0:OA}{cap0:Nat}(hB:B<=w.heap.size)
  (hown:w.ownsRow B 58 6 (.slice lo0 ts.length cap0) ts.length xs) (hl:aO w A ts xs) (hokl:dW ts) (hv:aj w A t (TC K so sn sc lo ln lc m n s)) (hok:t.Ok) (hlen:ts.length<=2000000000000):Calls prog 60 #[.slice lo0 ts.length cap0,.agg #[.int .i64 K,.slice so sn sc,.slice lo ln lc,.int .i64 m,.int .i64 n,.string s]] w (Ym w B A ts t):=by
 obtain⟨H,d1,r,b3,-⟩:=dS (rfl:w.heap.size=_) (TC K so sn sc lo ln lc m n s) 58;have b7:=aa (show af s=t.key from by obtain⟨c0,b4,c4,c9,a9,c2,m',n',s',e,h⟩:=hv.form;injection e with _ e;injection e with _ e;injection e with _ e;injection e with _ e;injection e with _ e;injection e with e _;injection e with e;rw[e];exact h);obtain⟨b2,C⟩:=Rb hown;have HR:=aa (((fN hown).mono (A':=λg=>B<=g/\g<w.heap.size) (λg J P=>⟨P,J⟩)).below r);have HO:=aa (bg hown r);have f4:=aa hown;have HL:=aa (aO.below r _ _ hl);have HV:=aa (aj.below r _ _ hv);have HX:=aa b3;have e6:=aa hl;have d9:=aa hv;have b8:=aa r;have d8:=aa d1;have e5:=aa hok;have b9:=aa hokl;have b1:=aa C;have HB:=aa hB;have a8:=aa b2;clear d1 r b3 hown hl hv hok hokl C hB;obtain⟨i0,hi,a6,Y,U⟩:=zz lM;go_enter func60,ntmps60;go_upto_region 1 with fail;rw[d8.out];generalize hS:w.heap.size=S at *;go_wp2_with fail
 go_loopw [5] (λi wr=>∃k:Nat,k<=ts.length/\i=.int .i64 k/\Below H.heap.size H wr) (λi _=>ts.length-(intOf i).toNat)
 case atStart=>exact⟨0,zW _,rfl,zE _ _⟩
 case round=>
  obtain⟨k,hk,rfl,d⟩:=hrel;go_upto_region 2 with fail;have a:=HX.out.below d;have b5:wr.cell? ⟨S,5,none⟩=some (.string s):=a.cell 5;have D:=a.lt;have o:=aa d;have Z:=aa a
  go_cut [20] (λv wx=>∃b:Bool,v=.bool b/\(b=true->k<ts.length)/\∃n,wx=wr.drewN n)
  case first=>
   have i1:(0:Int)<=(k:Int):=zK _;by_cases x:k<ts.length
   ·obtain⟨b,E,c,rfl,hb,hv,hc⟩:=(HR.out.below d).get (aO.below d _ _ HL.out) (zB x);obtain⟨c0,b4,c4,c9,a9,c2,m',n',s',rfl,_⟩:=hv.form;have y5:wr.cell? ⟨b,E+k*6+5,none⟩=some (.string s'):=hc 5 _ rfl;have i2:(k:Int)<(ts.length:Int):=by omega
    clear hv hc d a
    go_quiet (fail)
    go_wp2_with fail
    go_meet
    case rel=>exact⟨_,rfl,λ_=>x,_,rfl⟩
   ·have hd:decide ((k:Int)<(ts.length:Int))=false:=by simp;omega
    clear d a
    go_quiet (fail)
    go_wp2_with fail
    go_meet
    case rel=>exact⟨false,rfl,(λh=>by cases h),_,rfl⟩
  case rest=>
   obtain⟨b,rfl,q,nq,rfl⟩:=hcut;clear d a b5 D;cases b with
   |true=>
    have x:=q rfl;have i1:(0:Int)<=(k:Int):=zK _;go_wp2_with fail
    go_roundw
    case rel=>exact⟨k+1,by omega,by go_num,aR o.out⟩
    case measure=>simp[intOf];omega
   |false=>
    clear q;obtain⟨V,hV⟩:∃V,wr.drewN nq=V:=⟨_,rfl⟩;have l:Below H.heap.size H V:=by rw[<-hV];exact aR o.out
    rw[hV];clear hV o Z;go_wp2_with fail;have a:=HX.out.below l;have b5:V.cell? ⟨S,5,none⟩=some (.string s):=a.cell 5;have D:=a.lt;have o:=aa l;have Z:=aa a
    go_cut [36] (λv wx=>∃b:Bool,v=.bool b/\(b=true->t∈ts)/\∃n,wx=V.drewN n)
    case first=>
     have i1:(0:Int)<=(k:Int):=zK _;by_cases x:k<ts.length
     ·obtain⟨b,E,c,rfl,hb,hv,hc⟩:=(HR.out.below l).get (aO.below l _ _ HL.out) (zB x);obtain⟨c0,b4,c4,c9,a9,c2,m',n',s',rfl,c3⟩:=hv.form;have y5:V.cell? ⟨b,E+k*6+5,none⟩=some (.string s'):=hc 5 _ rfl;have i2:(k:Int)<(ts.length:Int):=by omega
      have e0:=aa c3;clear hv hc l a c3
      go_quiet (fail)
      go_wp2_with fail
      go_meet
      case rel=>exact⟨_,rfl,(λh=>by
       have e:af s'=af s:=kE (by simpa using h);have J:=xE x;have P:=nL (dO.1 b9.out _ J) e5.out (by rw[<-e0.out,<-b7.out,e]);rw[<-P];exact J),_,rfl⟩
     ·have hd:decide ((k:Int)<(ts.length:Int))=false:=by simp;omega
      clear l a
      go_quiet (fail)
      go_wp2_with fail
      go_meet
      case rel=>exact⟨false,rfl,(λh=>by cases h),_,rfl⟩
    case rest=>
     obtain⟨b,rfl,q,nq,rfl⟩:=hcut;clear l a b5 D;cases b with
     |true=>
      have c5:=aa (q rfl);clear q;go_wp2_with fail;go_ret;have L:Below H.heap.size H (V.drewN nq):=aR o.out;exact⟨_,ts,xs,rfl,bg HO.out L,aO.below L _ _ HL.out,λy=>⟨.inl,λh=>h.elim id (λe=>e▸c5.out)⟩,Nat.le_add_right _ _,Nat.le_add_right _ _,by rw[hS];exact b8.out.trans (L.mono (by have:=HX.out.lt;omega))⟩
     |false=>
      clear q;obtain⟨W1,N⟩:∃W1,V.drewN nq=W1:=⟨_,rfl⟩;have G:Below H.heap.size H W1:=by rw[<-N];exact aR o.out
      have e1:=aa G;have c8:=aa (HX.out.below G);have c6:=aa (HR.out.below G);have W:=aa HL.out.len;rw[N];clear N o Z G;have D:=c8.out.lt;have i1:(0:Int)<=(k:Int):=zK _;have i2:(k:Int)<=(ts.length:Int):=by omega
      have i3:(ts.length:Int)<=(cap0:Int):=by omega
      go_upto_region 7 with fail;go_upto_region 8 with (at_builtin;refine eO rfl (.tmp 38) (.tmp 41) 56 58 i0 _ 6 88 rfl underlying56 hi a6 Y U rfl (by decide) (S+1) 0 _ [] rfl (zZ _ _ _ _) _ k _ (xs.take (6*k)) rfl (λe=>by obtain⟨J,P⟩:=b1.out e;exact⟨by omega,by omega⟩) (by rw[yn,W.out];omega) (El c6.out _) (λu hu=>HL.out.ones u (yi hu)) (by unfold maxLen;omega) (by omega) (by omega) ?_;intro v2 w2 f z);have X:Below (S+1) W1 w2:=cD (v:=.slice none 0 0) (n:=0) (xs:=[]) (zE _ _) (by omega) (zZ _ _ 58 6) z;rw[zd,zf]at f;have F:ag w2 S (TC K so sn sc lo ln lc m n s) 58:=(X.block S (xC _)).trans c8.out;obtain⟨f3,f1,rfl⟩:=cd f;have f5:=aa F;have d4:=aa f;have d3:=aa X;have f6:=aa z;obtain⟨a0,a1,a2,a3,a4,a5⟩:=F.six;have f8:=F.lt;clear F f X z;obtain⟨W3,c1,R,M,-⟩:=dS (rfl:w2.heap.size=_) (TC K so sn sc lo ln lc m n s) 58;have d0:=aa (bg d4.out R);have e7:=aa M;have e3:=aa c1;have f0:=aa R;have f7:w2.heap.size<W3.heap.size:=M.lt;clear c1 R M;go_upto_region 9 with (at_builtin;rw[e3.out];refine eO rfl (.tmp 43) (.tmp 45) 56 58 i0 _ 6 88 rfl underlying56 hi a6 Y U rfl (by decide) (S+1) k _ _ rfl d0.out _ 1 _ (TC K so sn sc lo ln lc m n s) rfl (λe=>by cases e) rfl (λad e j u hj=>by injection e with e;subst e;rw[zl,zf,e7.out.cell];exact hj) (sD _ _ _ _ _ _ _ _ _ _) (by unfold maxLen;omega) (by omega) (by omega) ?_;intro v4 w4 p I);have b6:S+1<=W3.heap.size:=by omega
      have O:Below (S+1) W3 w4:=cD (zE _ _) b6 d0.out I;obtain⟨f9,f2,rfl⟩:=cd p;have a7:Hid (Below (S+1) W1 w4):=(d3.out.trans (f0.out.mono (by omega))).trans O;have c7:=aa p;have e8:S+1<=w4.heap.size:=zJ b6 O.size;have d5:Hid (cg w4 (λg=>B<=g/\g<S) lo0 xs):=c6.out.keep ⟨a7.out.size,λg J P=>a7.out.block g (Nat.lt_succ_of_lt P.2)⟩;clear p I O a0 a1 a2 a3 a4 a5;go_wp2_with (at_builtin;refine eO rfl (.tmp 47) (.tmp 50) 56 58 i0 _ 6 88 rfl underlying56 hi a6 Y U rfl (by decide) (S+1) (k+1) _ _ rfl c7.out _ (ts.length-k) _ (xs.drop (6*k)) rfl (λe=>by have J:=b1.out (by first|exact e|(split at e;exact e;simpa using e)|simpa using e);obtain⟨P,h3⟩:=J;exact⟨by omega,by omega⟩) (by rw[yO,W.out];omega) (Rc d5.out (n:=ts.length) (cap:=cap0) W.out a8.out (by intro d6 b E e;simp[d6,e,Addr.add])) (λu hu=>HL.out.ones u (List.mem_of_mem_drop hu)) (by unfold maxLen;omega) (by omega) (by omega) ?_;intro v5 w5 T b0)
      all_goals
       go_ret;have d7:Below (S+1) w4 w5:=cD (zE _ _) e8 c7.out b0;have e9:Below (S+1) W1 w5:=a7.out.trans d7;have e4:Below S w w5:=(b8.out.trans (e1.out.mono (by have:=HX.out.lt;omega))).trans (e9.mono (yN _));have Q:Below w.heap.size w w5:=by rw[hS];exact e4
       have d2:aO w5 A ts xs:=aO.below Q _ _ e6.out;have e2:aj w5 A t (TC K so sn sc lo ln lc m n s):=aj.below Q _ _ d9.out;refine⟨v5,ts.take k++t::ts.drop k,(xs.take (6*k)++TC K so sn sc lo ln lc m n s)++xs.drop (6*k),rfl,?_,?_,UZ k,Nat.le_of_eq (Va k),Nat.le_of_eq (Vb k),Q⟩
       ·have e:(ts.take k++t::ts.drop k).length=k+1+(ts.length-k):=by simp;omega
        rw[e];exact ij (by simpa [zc]using T) (by have:=HB.out;omega)
       ·have h:=(d2.take k).append ((aO.one e2).append (d2.drop k));simpa [zc]using h
theorem vh (hok:dW l)(h:bw l<=4000000000000000000):40+20*([]:LQ).length+10*(l.map Tm.key).length+((l.map Tm.key).flatMap cU).length<=9000000000000000000:=by
 have b:=qU hok;have a:=pZ l;rw[rf,ym];simp;omega
theorem Sf (s0:ByteArray)(hr:cg w A lo xs)(hl:aO w A l xs)(hok:dW l)(htl:bw l<=4000000000000000000):Calls prog 33 #[.agg #[Vi 5,Vz,.slice lo l.length lc,Vi 0,Vi 0,.string s0]] w λe w'=>∃s,e=.returned (.agg #[Vi 5,Vz,.slice lo l.length lc,Vi 0,Vi 0,.string s])/\aj w' A (.or l) (TC 5 none 0 0 lo l.length lc 0 0 s)/\Bw w w':=by
 have c:=gF 5 none 0 [] lo lc (l.map Tm.key) 0 0 s0 w (by decide) (λi x a=>by simp at a) (λx a=>by simp at a) (by decide) (by decide) (nQ hr hl) (vh hok htl);rw[ym]at c;refine c.mono ?_;rintro e w' ⟨s,rfl,d,b⟩;refine⟨s,rfl,⟨lo,lc,xs,s,rfl,hr.below b,aO.below b _ _ hl,?_⟩,b⟩;rw[d,kt (by decide) (by decide),rf];simp[fM,Tm.key]
theorem ON (s0:ByteArray)(hr:cg w A lo xs)(hl:aO w A l xs)(hok:dW l)(htl:bw l<=4000000000000000000):Calls prog 33 #[.agg #[Vi 6,Vz,.slice lo l.length lc,Vi 0,Vi 0,.string s0]] w λe w'=>∃s,e=.returned (.agg #[Vi 6,Vz,.slice lo l.length lc,Vi 0,Vi 0,.string s])/\aj w' A (.and l) (TC 6 none 0 0 lo l.length lc 0 0 s)/\Bw w w':=by
 have c:=gF 6 none 0 [] lo lc (l.map Tm.key) 0 0 s0 w (by decide) (λi x a=>by simp at a) (λx a=>by simp at a) (by decide) (by decide) (nQ hr hl) (vh hok htl);rw[ym]at c;refine c.mono ?_;rintro e w' ⟨s,rfl,d,b⟩;refine⟨s,rfl,⟨lo,lc,xs,s,rfl,hr.below b,aO.below b _ _ hl,?_⟩,b⟩;rw[d,kt (by decide) (by decide),rf];simp[fM,Tm.key]
def Tm.parts (K:Int):Tm->List Tm
 |.or l=>if K=5 then l else[.or l]
 |.and l=>if K=6 then l else[.and l]
 |t=>[t]
def ei (K:Int):List Tm->List Tm
 | []=>[]
 |t::l=>t.parts K++ei K l
theorem sU (K:Int):∀l m:List Tm,ei K (l++m)=ei K l++ei K m
 | [],m=>rfl
 |t::l,m=>by simp only[zV,ei,sU K l m,zc]
theorem LC (h:t.kind≠K):t.parts K=[t]:=by
 cases t<;>simp only[Tm.parts]<;>first|rfl|(simp only[Tm.kind]at h;rw[zR (λe=>h e.symm)])
theorem Fb (h:t.Ok):dW (t.parts K):=by
 cases t<;>simp only[Tm.parts]<;>first|exact⟨h,trivial⟩|(split;exact h.1;exact⟨h,trivial⟩)
theorem Sg :bw (t.parts K)<=t.tl:=by
 cases t<;>simp only[Tm.parts]<;>first|(simp[bw];done)|(split<;>simp[bw,Tm.tl])
theorem Jm :bd (t.parts K)<=t.z:=by
 cases t<;>simp only[Tm.parts]<;>first|(simp[bd];done)|(split<;>simp[bd,Tm.z];omega)
theorem Fc {K:Int}:∀{l:List Tm},dW l->dW (ei K l)
 | [],_=>trivial
 |t::l,h=>by rw[ei,LX];exact⟨Fb h.1,Fc h.2⟩
theorem Fd {K:Int}:∀l:List Tm,bw (ei K l)<=bw l
 | []=>zA _
 |t::l=>by
  have b:=Fd (K:=K) l;have a:=Sg (K:=K) (t:=t);rw[ei,ez];simp only[bw];omega
theorem Jn {K:Int}:∀l:List Tm,bd (ei K l)<=bd l
 | []=>zA _
 |t::l=>by
  have b:=Jn (K:=K) l;have a:=Jm (K:=K) (t:=t);rw[ei,dV];simp only[bd];omega
theorem ko:∀l:List Tm,l.length<=bd l
 | []=>zA _
 |t::l=>by
  have b:=ko l;have a:=fE t;simp only[bd,zG];omega
theorem Sh {u:LZ}:kI (t.parts 5) u↔t.L u:=by
 cases t<;>simp only[Tm.parts]<;>simp[kI,Tm.L]
theorem OO {u:LZ}:iz (t.parts 6) u↔t.L u:=by
 cases t<;>simp only[Tm.parts]<;>simp[iz,Tm.L]
theorem Fe:∀{l:List Tm} {u:LZ},kI (ei 5 l) u↔kI l u
 | [],u=>Iff.rfl
 |t::l,u=>by
  have c:=Fe (l:=l) (u:=u);have b:=Sh (t:=t) (u:=u);rw[qc]at c b ⊢;simp only[ei,zM,kI];rw[<-c,<-b];constructor
  ·rintro⟨y,h|h,a⟩
   ·exact .inl ⟨y,h,a⟩
   ·exact .inr ⟨y,h,a⟩
  ·rintro (⟨y,h,a⟩|⟨y,h,a⟩)
   ·exact⟨y,.inl h,a⟩
   ·exact⟨y,.inr h,a⟩
theorem Cu:∀{l:List Tm} {u:LZ},iz (ei 6 l) u↔iz l u
 | [],u=>Iff.rfl
 |t::l,u=>by
  have c:=Cu (l:=l) (u:=u);have b:=OO (t:=t) (u:=u);rw[nK]at c b ⊢;simp only[ei,zM,iz];rw[<-c,<-b];exact⟨λh=>⟨λy a=>h y (.inl a),λy a=>h y (.inr a)⟩,λh y a=>a.elim (h.1 y) (h.2 y)⟩
structure SomeG (K:Int)(l:List Tm)(t:Tm):Prop where
 ok:t.Ok
 or:K=5->∀u,t.L u↔kI l u
 and:K=6->∀u,t.L u↔iz l u
 z:t.z<=max 1 (bd l)
 tl:t.tl<=bw l+12
structure OutT (K:Int)(l:List Tm)(i:Nat)(ex ts:List Tm):Prop where
 mem:∀y,y∈ts↔y∈ei K (l.take i)\/y∈ex
 tl:bw ts<=bw (ei K (l.take i))+bw ex
 z:bd ts<=bd (ei K (l.take i))+bd ex
theorem OutT.start (K:Int)(l:List Tm):OutT K l 0 [] []:=⟨λy=>by simp[ei],by simp[bw],by simp[bd]⟩
theorem OutT.step {ts':List Tm}(h:OutT K l i ex ts)(hm:∀y,y∈ts'↔y∈ts\/y=t)(ht:bw ts'<=bw ts+t.tl)(hz:bd ts'<=bd ts+t.z):OutT K l i (ex++[t]) ts':=by
 refine⟨λy=>?_,?_,?_⟩
 ·rw[hm,h.mem,zM,yQ,or_assoc]
 ·have:=h.tl;rw[ez];simp only[bw];omega
 ·have:=h.z;rw[dV];simp only[bd];omega
theorem OutT.next (hi:l[i]?=some t)(h:OutT K l i (t.parts K) ts):OutT K l (i+1) [] ts:=by
 have e:ei K (l.take (i+1))=ei K (l.take i)++t.parts K:=by
  rw[zi,hi,sU];simp[ei]
 refine⟨λy=>?_,?_,?_⟩
 ·rw[h.mem,e];simp
 ·have:=h.tl;rw[e,ez];simp only[bw];omega
 ·have:=h.z;rw[e,dV];simp only[bd];omega
theorem Si (i:Nat):bw (l.take i)<=bw l:=by
 have h:bw l=bw (l.take i)+bw (l.drop i):=by rw[<-ez,zj]
 omega
theorem wD (i:Nat):bd (l.take i)<=bd l:=by
 have h:bd l=bd (l.take i)+bd (l.drop i):=by rw[<-dV,zj]
 omega
theorem OutT.ok (h:OutT K l i ex ts)(hl:dW l)(he:dW ex):dW ts:=by
 rw[dO];intro y b;rcases (h.mem y).1 b with a|a
 ·exact dO.1 (Fc (K:=K) (dO.2 λt c=>dO.1 hl t (yi c))) y a
 ·exact dO.1 he y a
theorem OutT.zle (h:OutT K l i ex ts):bd ts<=bd (l.take i)+bd ex:=by
 have b:=h.z;have a:=Jn (K:=K) (l.take i);omega
theorem OutT.tle (h:OutT K l i ex ts):bw ts<=bw (l.take i)+bw ex:=by
 have b:=h.tl;have a:=Fd (K:=K) (l.take i);omega
structure KeepT (ts:List Tm)(zt ot:Tm)(j:Nat)(ks:List Tm):Prop where
 mem:∀y,y∈ks↔y∈ts.take j/\y≠zt
 no:∀y∈ts.take j,y≠ot
 tl:bw ks<=bw (ts.take j)
 z:bd ks<=bd (ts.take j)
theorem KeepT.start (ts:List Tm)(zt ot:Tm):KeepT ts zt ot 0 []:=⟨λy=>by simp,λy a=>by simp at a,zA _,zA _⟩
theorem KeepT.skip (h:KeepT ts zt ot j ks)(hj:ts[j]?=some y)(h1:y=zt)(h2:y≠ot):KeepT ts zt ot (j+1) ks:=by
 have e:ts.take (j+1)=ts.take j++[y]:=by rw[zi,hj];rfl
 refine⟨λx=>?_,λx c=>?_,?_,?_⟩
 ·rw[h.mem,e,zM,yQ];constructor
  ·rintro⟨a,b⟩;exact⟨.inl a,b⟩
  ·rintro⟨a|a,b⟩
   ·exact⟨a,b⟩
   ·exact absurd (a.trans h1) b
 ·rw[e,zM,yQ]at c;rcases c with c|rfl
  ·exact h.no x c
  ·exact h2
 ·have:=h.tl;rw[e,ez];omega
 ·have:=h.z;rw[e,dV];omega
theorem KeepT.put (h:KeepT ts zt ot j ks)(hj:ts[j]?=some y)(h1:y≠zt)(h2:y≠ot):KeepT ts zt ot (j+1) (ks++[y]):=by
 have e:ts.take (j+1)=ts.take j++[y]:=by rw[zi,hj];rfl
 refine⟨λx=>?_,λx c=>?_,?_,?_⟩
 ·rw[zM,h.mem,e,zM,yQ];constructor
  ·rintro (⟨a,b⟩|rfl)
   ·exact⟨.inl a,b⟩
   ·exact⟨.inr rfl,h1⟩
  ·rintro⟨a|a,b⟩
   ·exact .inl ⟨a,b⟩
   ·exact .inr a
 ·rw[e,zM,yQ]at c;rcases c with c|rfl
  ·exact h.no x c
  ·exact h2
 ·have:=h.tl;rw[e,ez,ez];omega
 ·have:=h.z;rw[e,dV,dV];omega
theorem KeepT.ok (h:KeepT ts zt ot j ks)(hts:dW ts):dW ks:=by
 rw[dO];intro y a;exact dO.1 hts y (yi ((h.mem y).1 a).1)
def dw (K:Int):Tm:=if K=6 then .not .none else .none
def eK (K:Int):Tm:=if K=6 then .none else .not .none
theorem pz (hl:l≠[])(h:OutT K l l.length [] ts):bd ts<=bd l/\bw ts<=bw l/\12<=bw l:=by
 have b:=h.zle;have a:=h.tle;rw[zQ]at b a;simp only[bw,bd]at b a;refine⟨by omega,by omega,?_⟩;have:=pZ l;have:=List.length_pos_iff.2 hl;omega
theorem Ff :(dw K).Ok/\(dw K).z=1/\(dw K).tl<=24:=by
 unfold dw;split<;>exact⟨trivial,rfl,by decide⟩
theorem Jo :(eK K).Ok/\(eK K).z=1/\(eK K).tl<=24:=by
 unfold eK;split<;>exact⟨trivial,rfl,by decide⟩
theorem OP (h:OutT 5 l l.length [] ts)(u:LZ):kI l u↔∃t∈ts,t.L u:=by
 rw[<-Fe,qc];constructor
 ·rintro⟨t,b,c⟩;exact⟨t,(h.mem t).2 (.inl (by rw[zQ];exact b)),c⟩
 ·rintro⟨t,b,c⟩;rcases (h.mem t).1 b with a|a
  ·rw[zQ]at a;exact⟨t,a,c⟩
  ·simp at a
theorem Jp (h:OutT 6 l l.length [] ts)(u:LZ):iz l u↔∀t∈ts,t.L u:=by
 rw[<-Cu,nK];constructor
 ·intro c t b;rcases (h.mem t).1 b with a|a
  ·rw[zQ]at a;exact c t a
  ·simp at a
 ·intro c t b;exact c t ((h.mem t).2 (.inl (by rw[zQ];exact b)))
theorem Sj (hK:K=5\/K=6)(hl:l≠[])(h:OutT K l l.length [] ts)(hm:eK K∈ts):SomeG K l (eK K):=by
 obtain⟨g,c,e⟩:=pz hl h;obtain⟨b,f,d⟩:=Jo (K:=K);refine⟨b,?_,?_,by omega,by omega⟩
 ·rintro rfl u;rw[OP h];exact⟨λa=>⟨_,hm,a⟩,λ_=>by simp[eK,Tm.L]⟩
 ·rintro rfl u;rw[Jp h];constructor
  ·intro a;simp[eK,Tm.L]at a
  ·intro a;exact a _ hm
theorem Bu (h:OutT 5 l l.length [] ts)(hk:KeepT ts (dw 5) (eK 5) ts.length ks)(u:LZ):kI l u↔∃t∈ks,t.L u:=by
 rw[OP h];constructor
 ·rintro⟨t,b,a⟩;exact⟨t,(hk.mem t).2 ⟨by rw[zQ];exact b,λe=>by rw[e]at a;simp[dw,Tm.L]at a⟩,a⟩
 ·rintro⟨t,b,a⟩;have:=((hk.mem t).1 b).1;rw[zQ]at this;exact⟨t,this,a⟩
theorem wE (h:OutT 6 l l.length [] ts)(hk:KeepT ts (dw 6) (eK 6) ts.length ks)(u:LZ):iz l u↔∀t∈ks,t.L u:=by
 rw[Jp h];constructor
 ·intro b t a;have:=((hk.mem t).1 a).1;rw[zQ]at this;exact b t this
 ·intro b t a;by_cases e:t=dw 6
  ·rw[e];simp[dw,Tm.L]
  ·exact b t ((hk.mem t).2 ⟨by rw[zQ];exact a,e⟩)
theorem OQ (hK:K=5\/K=6)(hl:l≠[])(h:OutT K l l.length [] ts)(hk:KeepT ts (dw K) (eK K) ts.length []):SomeG K l (dw K):=by
 obtain⟨f,b,d⟩:=pz hl h;obtain⟨a,e,c⟩:=Ff (K:=K);refine⟨a,?_,?_,by omega,by omega⟩
 ·rintro rfl u;rw[Bu h hk];simp[dw,Tm.L]
 ·rintro rfl u;rw[wE h hk];simp[dw,Tm.L]
theorem pA (hl:l≠[])(h:OutT K l l.length [] ts)(hk:KeepT ts (dw K) (eK K) ts.length ks):bd ks<=bd l/\bw ks<=bw l:=by
 obtain⟨e,c,d⟩:=pz hl h;have b:=hk.z;have a:=hk.tl;rw[zQ]at b a;exact⟨by omega,by omega⟩
theorem Hr (hK:K=5\/K=6)(hl:l≠[])(hok:dW l)(h:OutT K l l.length [] ts)(hk:KeepT ts (dw K) (eK K) ts.length [y]):SomeG K l y:=by
 obtain⟨b,a⟩:=pA hl h hk;simp only[bd,bw]at b a;refine⟨(hk.ok (h.ok hok trivial)).1,?_,?_,by omega,by omega⟩
 ·rintro rfl u;rw[Bu h hk];simp
 ·rintro rfl u;rw[wE h hk];simp
theorem VF (hl:l≠[])(hok:dW l)(h:OutT 5 l l.length [] ts)(hk:KeepT ts (dw 5) (eK 5) ts.length ks)(hne:ks≠[]):SomeG 5 l (.or ks):=by
 obtain⟨b,a⟩:=pA hl h hk;refine⟨⟨hk.ok (h.ok hok trivial),hne⟩,?_,(λe=>by cases e),?_,?_⟩
 ·rintro-u;rw[Bu h hk,<-qc];simp[Tm.L]
 ·simp only[Tm.z];omega
 ·simp only[Tm.tl];omega
theorem Sk (hl:l≠[])(hok:dW l)(h:OutT 6 l l.length [] ts)(hk:KeepT ts (dw 6) (eK 6) ts.length ks)(hne:ks≠[]):SomeG 6 l (.and ks):=by
 obtain⟨b,a⟩:=pA hl h hk;refine⟨⟨hk.ok (h.ok hok trivial),hne⟩,(λe=>by cases e),?_,?_,?_⟩
 ·rintro-u;rw[wE h hk,<-nK];simp[Tm.L]
 ·simp only[Tm.z];omega
 ·simp only[Tm.tl];omega
theorem ag.sixS {c0 c1 c2 c3 c4 c5:Value}{T:TypeId}(h:ag w b [c0,c1,c2,c3,c4,c5] T)(a0 a1 a2 a3 a4 a5:Value):ag ((((((w.setCell (aD b 0) a0).setCell (aD b 1) a1).setCell (aD b 2) a2).setCell (aD b 3) a3).setCell (aD b 4) a4).setCell (aD b 5) a5) b [a0,a1,a2,a3,a4,a5] T :=
 (((((h.set 0 a0).set 1 a1).set 2 a2).set 3 a3).set 4 a4).set 5 a5
theorem ag.sixOther {c:Nat}{T:TypeId}(h:ag w c cs T)(hne:c≠b)(a0 a1 a2 a3 a4 a5:Value):ag ((((((w.setCell (aD b 0) a0).setCell (aD b 1) a1).setCell (aD b 2) a2).setCell (aD b 3) a3).setCell (aD b 4) a4).setCell (aD b 5) a5) c cs T :=
 (((((h.setOther (p:=(aD b 0)) hne a0).setOther (p:=(aD b 1)) hne a1).setOther (p:=(aD b 2)) hne a2).setOther (p:=(aD b 3)) hne a3).setOther (p:=(aD b 4)) hne a4).setOther (p:=(aD b 5)) hne a5
theorem fV {S:Nat}(h:Below S w W)(hb:S<=b)(a0 a1 a2 a3 a4 a5:Value):Below S w ((((((W.setCell (aD b 0) a0).setCell (aD b 1) a1).setCell (aD b 2) a2).setCell (aD b 3) a3).setCell (aD b 4) a4).setCell (aD b 5) a5) :=
 (((((h.setCell (p:=(aD b 0)) hb _).setCell (p:=(aD b 1)) hb _).setCell (p:=(aD b 2)) hb _).setCell (p:=(aD b 3)) hb _).setCell (p:=(aD b 4)) hb _).setCell (p:=(aD b 5)) hb _
theorem gR (h:aj W A t cs)(hn:¬A b)(a0 a1 a2 a3 a4 a5:Value):aj ((((((W.setCell (aD b 0) a0).setCell (aD b 1) a1).setCell (aD b 2) a2).setCell (aD b 3) a3).setCell (aD b 4) a4).setCell (aD b 5) a5) A t cs:=by
 have k:∀(V:World) (o:Nat) (v:Value),ah A V (V.setCell (aD b o) v):=λV o v=>ah.set v hn;exact aj.keep ((((((k _ _ _).trans (k _ _ _)).trans (k _ _ _)).trans (k _ _ _)).trans (k _ _ _)).trans (k _ _ _)) t cs h
theorem OutT.next2 (h:OutT K l i ex ts)(hi:l[i]?=some t)(he:ex=t.parts K):OutT K l (i+1) [] ts:=by
 subst he;exact OutT.next hi h
theorem tJ {a b:ByteArray}(h:af a=af b):a.toList=b.toList:=by
 unfold af at h;rw[Lib.toList_data,Lib.toList_data,h]
theorem qj (hv:aj w A t (TC K so sn sc lo ln lc m n s)):af s=t.key:=by
 obtain⟨c,d,g,f,a,b,j,k,i,e,h⟩:=hv.form;injection e with _ e;injection e with _ e;injection e with _ e;injection e with _ e;injection e with _ e;injection e with e _;injection e with e;rw[e];exact h
theorem Tv (hK:K=5\/K=6)(hk:t.kind=K)(hv:aj w A t cs):∃l lo lc xs s,cs=TC K none 0 0 lo l.length lc 0 0 s/\cg w A lo xs/\aO w A l xs/\l=t.parts K/\bd l<=t.z/\(t.Ok->dW l):=by
 have a:=λl (e:l=t.parts K)=>(show bd l<=t.z/\(t.Ok->dW l)from e▸⟨Jm,Fb⟩);rcases hK with rfl|rfl<;>cases t<;>simp only[Tm.kind]at hk<;>first|(exact absurd hk (by decide))|skip
 all_goals
  obtain⟨lo,lc,xs,s,e,c,b,_⟩:=hv;exact⟨_,lo,lc,xs,s,e,c,b,by simp[Tm.parts],a _ (by simp[Tm.parts])⟩
def SK (K:Int)(l:List Tm):Tm:=if K=6 then .and l else .or l
theorem Ke (hK:K=5\/K=6)(l:List Tm):(SK K l).kind=K:=by rcases hK with rfl|rfl<;>rfl
theorem Wy (hK:K=5\/K=6)(s0:ByteArray)(hr:cg w A lo xs)(hl:aO w A l xs)(hok:dW l)(htl:bw l<=4000000000000000000):Calls prog 33 #[.agg #[Vi K,Vz,.slice lo l.length lc,Vi 0,Vi 0,.string s0]] w λe w'=>∃s,e=.returned (.agg #[Vi K,Vz,.slice lo l.length lc,Vi 0,Vi 0,.string s])/\aj w' A (SK K l) (TC K none 0 0 lo l.length lc 0 0 s)/\Bw w w':=by
 rcases hK with rfl|rfl
 ·exact Sf s0 hr hl hok htl
 ·exact ON s0 hr hl hok htl
theorem XT (hK:K=5\/K=6)(hl:l≠[])(hok:dW l)(h:OutT K l l.length [] ts)(hk:KeepT ts (dw K) (eK K) ts.length ks)(hne:ks≠[]):SomeG K l (SK K ks):=by
 rcases hK with rfl|rfl
 ·exact VF hl hok h hk hne
 ·exact Sk hl hok h hk hne
theorem sT (hK:K=5\/K=6)(hA:∀g,A g->g<w.heap.size)(hr:cg w A lo xs)(hl:aO w A l xs)(hok:dW l)(hne:l≠[])(htl:bw l<=4000000000000000000)(hz:bd l<=2000000000000):Calls prog 34 #[.slice lo l.length lc,Vi K] w (eH w A (SomeG K l)):=by
 obtain⟨W0,n8,s2,s0,-⟩:=dS (rfl:w.heap.size=_) TZ 58;have HN:=aa (fG W0);have v3:=aa n8;have o4:=aa s2;have h8:=aa s0;have HK:=aa hK;have HA:=aa hA;have o8:=aa hr;have m6:=aa hl;have c5:=aa hok;have i8:=aa hne;have t2:=aa htl;have HZ:=aa hz;have x7:l.length<=2000000000000:=zJ (ko l) hz;clear n8 s2 s0 hK hA hr hl hok hne htl hz;obtain⟨i0,hi,u1,t5,u5⟩:=zz lM;go_enter func34,ntmps34;go_wp2_with fail;rw[v3.out];generalize hS:w.heap.size=S at *;refine HN.mono ?_;rintro e w1 ⟨t,L,M,J,I,H,N,mp,np,sp,rfl,l1,rfl,e8⟩;simp only[Tm.kind]at l1 ⊢;obtain⟨W2,m2,d6,-,-⟩:=dS (rfl:w1.heap.size=_) [Vi 1,.slice L M J,.slice I H N,Vi mp,Vi np,.string sp] 58;have d9:Bw W0 W2:=e8.trans (d6.mono e8.size);have n6:ag W2 w1.heap.size (TC 1 L M J I H N mp np sp) 58:=by rw[<-m2];exact ag.new w1 (TC 1 L M J I H N mp np sp) 58
 have t8:S<w1.heap.size:=(h8.below e8).lt;generalize hP:w1.heap.size=P at *;have u4:=aa m2;have p8:Hid (Below S w W2):=o4.trans (d9.mono (yJ h8.lt));have l2:=aa (h8.below d9);have j0:=aa n6;have n5:=aa l1;have s1:=aa (Gg W2);clear m2 e8 d6 d9 n6 l1 HN;go_wp2_with fail;rw[u4.out];refine s1.mono ?_;rintro e w3 ⟨t,z,C,D,E,B,s,mq,nq,sq,rfl,k9,rfl,a4⟩;simp only[Tm.kind]at k9 ⊢;obtain⟨W4,k8,l4,-,-⟩:=dS (rfl:w3.heap.size=_) [Vi 7,.slice z C D,.slice E B s,Vi mq,Vi nq,.string sq] 58;have b5:Bw W2 W4:=a4.trans (l4.mono a4.size);have q8:ag W4 w3.heap.size (TC 7 z C D E B s mq nq sq) 58:=by rw[<-k8];exact ag.new w3 (TC 7 z C D E B s mq nq sq) 58
 have z7:P<w3.heap.size:=(j0.below a4).lt;have s3:Hid (aj W4 (λg=>False\/W2.heap.size<g) (.not .none) (TC 7 z C D E B s mq nq sq)):=aj.below l4 _ _ k9;have w9:P<W2.heap.size:=j0.lt;generalize hQ:w3.heap.size=Q at *;have p6:=aa k8;have b3:Hid (Below S w W4):=p8.trans (b5.mono (yJ l2.lt));have d1:=aa (l2.below b5);have h7:=aa (j0.below b5);have j3:=aa q8;clear k8 a4 l4 b5 q8 k9 s1
 go_upto_if 15 with fail
 rw[p6.out]
 go_cut []from 14 to 17 (λwx=>∃L M J I H N mp np sp z C D E B s mq nq sq,Hid (aj wx (λg=>A g\/S<g) (dw K) (TC (dw K).kind L M J I H N mp np sp)/\aj wx (λg=>A g\/S<g) (eK K) (TC (eK K).kind z C D E B s mq nq sq)/\Below S w wx/\ag wx S TZ 58/\ag wx P (TC (dw K).kind L M J I H N mp np sp) 58/\ag wx Q (TC (eK K).kind z C D E B s mq nq sq) 58))
 case first=>
  rcases HK.out with rfl|rfl
  ·go_wp2_with fail
   go_meet
   exact⟨L,M,J,I,H,N,mp,np,sp,z,C,D,E,B,s,mq,nq,sq,kc n5,aj.mono (λg _ h=>by rcases h with h|h;exact h.elim;exact .inr (by omega)) _ _ s3,b3,d1,h7,j3⟩
  ·have t4:=aa (Gg W4);have z6:S<W4.heap.size:=d1.lt;have w0:Q<W4.heap.size:=j3.lt;have w6:P<W4.heap.size:=h7.lt;go_wp2_with fail;refine t4.mono ?_;rintro e w5 ⟨t,b7,c0,b6,c4,c1,b9,ma,na,sa,rfl,k5,rfl,f⟩;simp only[Tm.kind]at k5 ⊢;have f7:=h7.below f;obtain⟨p0,p1,p2,p3,p4,p5⟩:=f7.six;obtain⟨g0,g1,g2,g3,g4,g5,l8⟩:=f7.ice;obtain⟨W6,b0⟩:∃W6,(((((w5.setCell (aD P 0) (Vi 7)).setCell (aD P 1) (.slice b7 c0 b6)).setCell (aD P 2) (.slice c4 c1 b9)).setCell (aD P 3) (Vi ma)).setCell (aD P 4) (Vi na)).setCell (aD P 5) (.string sa)=W6:=⟨_,rfl⟩;have j8:Below S W4 w5:=f.mono (yJ d1.lt);have u0:Hid (Below S w W6):=by show Below _ _ _;rw[<-b0];exact fV (b3.trans j8) (yJ t8) _ _ _ _ _ _
   have p7:Hid (ag W6 S TZ 58):=by show ag _ _ _ _;rw[<-b0];exact (d1.below f).sixOther (by omega) _ _ _ _ _ _
   have v0:Hid (ag W6 Q (TC 7 z C D E B s mq nq sq) 58):=by show ag _ _ _ _;rw[<-b0];exact (j3.below f).sixOther (by omega) _ _ _ _ _ _
   have v2:Hid (ag W6 P (TC 7 b7 c0 b6 c4 c1 b9 ma na sa) 58):=by show ag _ _ _ _;rw[<-b0];exact f7.sixS _ _ _ _ _ _
   have v5:Hid (aj W6 (λg=>False\/W4.heap.size<g) (.not .none) (TC 7 b7 c0 b6 c4 c1 b9 ma na sa)):=by show aj _ _ _ _;rw[<-b0];exact gR k5 (by rintro (h|h);exact h;omega) _ _ _ _ _ _
   have u8:=aa b0;have u6:=aa (fG W6);clear b0 k5 f f7 j8;go_wp2_with fail;rw[u8.out];clear p0 p1 p2 p3 p4 p5 g0 g1 g2 g3 g4 g5 l8;refine u6.mono ?_;rintro e w7 ⟨t,f9,h0,e7,j4,i6,i3,mb,nb,sb,rfl,l7,rfl,b8⟩;simp only[Tm.kind]at l7 ⊢;have g7:=v0.below b8;obtain⟨p0,p1,p2,p3,p4,p5⟩:=g7.six;obtain⟨g0,g1,g2,g3,g4,g5,q6⟩:=g7.ice;obtain⟨W,b4⟩:∃W,(((((w7.setCell (aD Q 0) (Vi 1)).setCell (aD Q 1) (.slice f9 h0 e7)).setCell (aD Q 2) (.slice j4 i6 i3)).setCell (aD Q 3) (Vi mb)).setCell (aD Q 4) (Vi nb)).setCell (aD Q 5) (.string sb)=W:=⟨_,rfl⟩;have j9:Below S W6 w7:=b8.mono (yJ p7.lt);have c3:Hid (Below S w W):=by show Below _ _ _;rw[<-b4];exact fV (u0.trans j9) (by omega) _ _ _ _ _ _
   have a6:Hid (ag W S TZ 58):=by show ag _ _ _ _;rw[<-b4];exact (p7.below b8).sixOther (by omega) _ _ _ _ _ _
   have d2:Hid (ag W Q (TC 1 f9 h0 e7 j4 i6 i3 mb nb sb) 58):=by show ag _ _ _ _;rw[<-b4];exact g7.sixS _ _ _ _ _ _
   have c8:Hid (ag W P (TC 7 b7 c0 b6 c4 c1 b9 ma na sa) 58):=by show ag _ _ _ _;rw[<-b4];exact (v2.below b8).sixOther (by omega) _ _ _ _ _ _
   have i5:Hid (aj W (λg=>A g\/S<g) (dw 6) (TC 7 b7 c0 b6 c4 c1 b9 ma na sa)):=by show aj _ _ _ _;rw[<-b4];exact aj.mono (λg _ h=>by rcases h with h|h;exact h.elim;exact .inr (by omega)) _ _ (gR (aj.below b8 _ _ v5) (by rintro (h|h);exact h;omega) _ _ _ _ _ _)
   have g9:Hid (aj W (λg=>A g\/S<g) (eK 6) (TC 1 f9 h0 e7 j4 i6 i3 mb nb sb)):=kc l7;have t3:=aa b4;clear b4 l7 b8 g7 j9;go_wp2_with fail;rw[t3.out]
   go_meet
   exact⟨b7,c0,b6,c4,c1,b9,ma,na,sa,f9,h0,e7,j4,i6,i3,mb,nb,sb,i5,g9,c3,a6,c8,d2⟩
 case rest=>
  clear b3 d1 h7 j3 p8 l2 j0 n5 s3 o4 h8 p6;obtain⟨L,M,J,I,H,N,mp,np,sp,z,C,D,E,B,s,mq,nq,sq,s9⟩:=hcut;obtain⟨W,rfl⟩:∃W,W=wc:=⟨_,rfl⟩;obtain⟨m9,s6,r8,n1,n9,m5⟩:=s9.out;have i5:=aa m9;have g9:=aa s6;have c3:=aa r8;have a6:=aa n1;have c8:=aa n9;have d2:=aa m5;clear s9 m9 s6 r8 n1 n9 m5;go_wp2_with fail;have HR:=aa (o8.below (by rw[hS];exact c3));have HL:=aa (aO.below (A:=A) (by rw[hS];exact c3) _ _ m6);have q7:=aa (qj i5);have o6:=aa (qj g9);clear o8 m6
  go_loopw [7,8] (λov iv wr=>∃(i:Nat) (O:List Tm) (ys:List Value),iv=Vi i/\i<=l.length/\wr.ownsRow W.heap.size 58 6 ov O.length ys/\aO wr A O ys/\OutT K l i [] O/\Bw W wr) (λ_ iv _=>l.length-(intOf iv).toNat)
  case atStart=>exact⟨0,[],[],rfl,zW _,zZ _ _ _ _,rfl,OutT.start _ _,zE _ _⟩
  case round=>
   obtain⟨i,O,ys,rfl,y7,d,o2,r,a⟩:=hrel;obtain⟨x5,x1,rfl⟩:=cd d;have HO:=aa d;have HT:=aa o2;have HU:=aa r;have a1:=aa a;have F:W.heap.size<=wr.heap.size:=a.size;have i1:(0:Int)<=(i:Int):=zK _;clear d o2 r a;by_cases l6:i<l.length
   ·have i2:(i:Int)<(l.length:Int):=by omega
    obtain⟨t,ht⟩:∃t,l[i]?=some t:=⟨_,zB l6⟩;have o1:=aa ht;have t1:Hid t.Ok:=dO.1 c5 t (zU ht);have n3:Hid (bd (l.take i)+t.z<=bd l):=by
     show _<=_
     have e:l.take (i+1)=l.take i++[t]:=by rw[zi,ht];rfl
     have h1:=wD (l:=l) (i+1);rw[e,dV]at h1;simp only[bd]at h1;omega
    obtain⟨b,d4,c,rfl,hb,hv,hc⟩:=HR.out.get HL.out ht;obtain⟨a0,Y,a7,T,Z,X,mx,nx,sx,rfl,_⟩:=hv.form;obtain⟨y0,y1,y2,y3,y4,y5⟩:=oT a1.out hb hc;have u7:=aa (hc 2 _ rfl);have HV:=aa hv;have o0:b<wr.heap.size:=zF hb F;clear hc hv ht;by_cases hk:t.kind=K
    ·obtain⟨l',x9,x6,e9,s',e,m7,r6,n2,m4,s8⟩:=Tv HK.out hk HV.out;injection e with e0 e;injection e with e1 e;injection e with e2 e;injection e with e3 e;injection e with e4 e;injection e with e5 e;clear e0 e;injection e1 with e11 e12 e13;injection e2 with e21 e22 e23;subst e11 e12 e13 e21 e22 e23;have u3:=aa m7;have v6:=aa r6;have q9:=aa (s8 t1);have u2:=aa n2;have v1:=aa m4;have kq:(t.kind==K)=true:=by rw[hk];exact beq_self_eq_true K
     clear n2 m4 s8 m7 r6 e3 e4 e5 hk HV y1 y3 y4 y5;go_wp2_with fail;clear y0 y2
     go_loopw [7,9] (λov kv wr2=>∃(k:Nat) (us:List Tm) (zs:List Value),kv=Vi k/\k<=l'.length/\wr2.ownsRow W.heap.size 58 6 ov us.length zs/\aO wr2 A us zs/\OutT K l i (l'.take k) us/\Bw W wr2) (λ_ kv _=>l'.length-(intOf kv).toNat)
     case atStart=>exact⟨0,O,ys,rfl,zW _,HO,HT,HU,a1⟩
     case round=>
      clear F o0 HO HT HU a1;obtain⟨k,us,zs,rfl,A0,d,i9,r,a⟩:=hrel;obtain⟨A4,w2,rfl⟩:=cd d;have y2:wr.cell? ⟨b,d4+i*6+2,none⟩=some (.slice T l'.length X):=(a.cell (p:=⟨b,_,none⟩) hb).trans u7;have F:W.heap.size<=wr.heap.size:=a.size;have o0:b<wr.heap.size:=zF hb F;have k1:(0:Int)<=(k:Int):=zK _;have o9:=aa r;have j6:=aa a;by_cases r9:k<l'.length
      ·have k2:(k:Int)<(l'.length:Int):=by omega
       obtain⟨t',j5⟩:∃t',l'[k]?=some t':=⟨_,zB r9⟩;have v8:bd (l'.take k)<=bd l':=wD k;have q:us.length<=2000000000000/\k<=2000000000000:=by
        have h1:=ko us;have h2:=r.zle;have h3:=n3.out;have h4:=HZ.out;have h5:=v1.out;have h6:=ko l';omega
       obtain⟨q,x4⟩:=q;obtain⟨b2,x2,c2,rfl,d6,l3,s4⟩:=u3.out.get v6.out j5;obtain⟨x8,A3,A2,y8,z8,y6,my,ny,sy,rfl,_⟩:=l3.form;obtain⟨z0,z1,z2,z3,z4,z5⟩:=oT a d6 s4;have x3:b2<wr.heap.size:=zF d6 F;have c7:=dO.1 q9;have HI:=aa (Ek F d i9 (r.ok c5 (dO.2 λx hx=>c7 x (yi hx))) (aj.below a _ _ l3) (c7 t' (zU j5)) q);have p9:Hid (l'.take (k+1)=l'.take k++[t']):=by show _=_;rw[zi,j5];rfl
       clear d i9 r a l3 s4 j5 c7 v8 q;go_wp2_with fail;refine HI.mono ?_;rintro e w5 ⟨v',m3,e9,rfl,d0,d5,c6,d8,c9,f⟩;have HF:=aa (And.intro d0 (And.intro d5 (o9.step c6 d8 c9)));have e6:=aa (j6.trans (f.mono F));clear d0 d5 c6 d8 c9 f HI;go_wp2_with fail
       go_roundw
       case rel=>exact⟨k+1,m3,e9,by go_num,by omega,HF.1,HF.2.1,by rw[p9.out];exact HF.2.2,e6⟩
       case measure=>simp[intOf];omega
      ·have k2:decide ((k:Int)<(l'.length:Int))=false:=zI (by omega);obtain rfl:k=l'.length:=by omega
       have HF:=aa (And.intro d i9);clear d i9 r a;go_wp2_with fail
       go_roundw
       case rel=>exact⟨i+1,us,zs,by go_num,by omega,HF.1,HF.2,o9.next2 o1 (by rw[zQ];exact u2),j6⟩
       case measure=>simp[intOf];omega
    ·have kq:(t.kind==K)=false:=zD.2 hk;have q:O.length<=2000000000000:=by
      have h1:=ko O;have h2:=HU.zle;have h3:=n3.out;have h4:=HZ.out;simp only[bd]at h2;omega
     have HI:=aa (Ek F HO HT (HU.ok c5 trivial) (aj.below a1 _ _ HV) t1 q);have v9:=aa (LC hk);clear hk;go_wp2_with fail;refine HI.mono ?_;rintro e w5 ⟨v',m3,e9,rfl,d0,d5,c6,d8,c9,f⟩;have HF:=aa (And.intro d0 (And.intro d5 (HU.step c6 d8 c9)));have e6:=aa (a1.trans (f.mono F));clear d0 d5 c6 d8 c9 f HI;go_wp2_with fail
     go_roundw
     case rel=>exact⟨i+1,m3,e9,by go_num,by omega,HF.1,HF.2.1,HF.2.2.next2 o1 v9.symm,e6⟩
     case measure=>simp[intOf];omega
   ·have i2:decide ((i:Int)<(l.length:Int))=false:=zI (by omega);obtain rfl:i=l.length:=by omega
    have s7:Hid (dW O):=HU.ok c5 trivial;have x0:O.length<=2000000000000:=by
     have h1:=ko O;have h2:=HU.zle;have h3:=HZ.out;rw[zQ]at h2;simp only[bd]at h2;omega
    obtain⟨V,hV⟩:∃V,V=wr:=⟨_,rfl⟩;rw[<-hV]at HO HT a1 F ⊢;have t9:=aa (fN HO);have u9:=aa a1;have A1:S<V.heap.size:=(a6.below a1).lt;clear hV i2;have i2:decide ((l.length:Int)<(l.length:Int))=false:=zI (by omega);go_wp2_with fail;clear i2
    go_loopw [10,11] (λkv jv wr2=>∃(j:Nat) (G:List Tm) (zs:List Value),jv=Vi j/\j<=O.length/\wr2.ownsRow V.heap.size 58 6 kv G.length zs/\aO wr2 A G zs/\KeepT O (dw K) (eK K) j G/\Bw V wr2) (λ_ jv _=>O.length-(intOf jv).toNat)
    case atStart=>exact⟨0,[],[],rfl,zW _,zZ _ _ _ _,rfl,KeepT.start _ _ _,zE _ _⟩
    case round=>
     obtain⟨j,G,zs,rfl,z9,d,n7,d3,a⟩:=hrel;obtain⟨k0,a8,rfl⟩:=cd d;have g8:=aa d;have i4:=aa n7;have a3:=aa d3;have a9:=aa a;have o:Hid (Bw W wr):=u9.trans (a.mono F);have j1:(0:Int)<=(j:Int):=zK _;clear d n7 d3 a;by_cases l6:j<O.length
     ·have j2:(j:Int)<(O.length:Int):=by omega
      obtain⟨y,hy⟩:∃y,O[j]?=some y:=⟨_,zB l6⟩;have HY:=aa hy;have n0:Hid y.Ok:=dO.1 s7 y (zU hy);obtain⟨b,d4,c,rfl,hb,hv,hc⟩:=t9.out.get HT.out hy;obtain⟨a0,Y,a7,T,Z,X,mx,nx,sx,rfl,o7⟩:=hv.form;have i7:=aa o7;have HV:=aa hv;have HC:=aa hc;clear hc hv o7 hy;go_upto_region 20 with fail
      go_cut [70] (λv wx=>∃b':Bool,v=.bool b'/\(b'=true↔y=eK K)/\∃n,wx=wr.drewN n)
      case first=>
       have y5:wr.cell? ⟨b,d4+j*6+5,none⟩=some (.string sx):=(a9.cell (p:=⟨b,_,none⟩) hb).trans (HC 5 _ rfl);have q5:wr.cell? (aD Q 5)=some (.string sq):=(d2.below o).cell 5;have q6:Q<wr.heap.size:=(d2.below o).lt;have n4:b<wr.heap.size:=zF hb a9.size
       go_quiet (fail)
       go_wp2_with fail
       go_meet
       case rel=>exact⟨_,rfl,⟨λh=>nL n0 Jo.1 (by rw[<-i7.out,<-o6.out];exact kE (by simpa using h)),λe=>by have h9:=tJ (show af sx=af sq by rw[i7.out,o6.out,e]);simp[h9]⟩,_,rfl⟩
      case rest=>
       obtain⟨b',rfl,R,dq,rfl⟩:=hcut;obtain⟨U,hU⟩:∃U,wr.drewN dq=U:=⟨_,rfl⟩;have g6:Hid (Bw wr U):=by show Below _ _ _;rw[<-hU];exact aR (zE _ _)
       have b1:Hid (Bw W U):=o.trans (g6.mono o.size);have l9:Hid (Bw V U):=a9.trans (g6.mono a9.size);rw[hU];clear hU;cases b' with
       |true=>
        have f8:=aa (R.1 rfl);clear R;have m1:=d2.below b1;obtain⟨q0,q1,q2,q3,q4,q5⟩:=m1.six;have q6:=m1.lt;have m:=a6.below b1;obtain⟨r0,r1,r2,r3,r4,r5⟩:=m.six;obtain⟨f0,f1,f2,f3,f4,f5,k4⟩:=m.ice;clear m;clear m1;go_wp2_with fail;refine zN (v:=.agg #[Vi (eK K).kind,.slice z C D,.slice E B s,Vi mq,Vi nq,.string sq]) (by simp[results,results34,go_sem,r0,r1,r2,r3,r4,r5]) rfl ⟨eK K,z,C,D,E,B,s,mq,nq,sq,rfl,?_,Sj HK i8 HU (by rw[<-f8.out];exact zU HY),?_⟩
        ·rw[hS];exact dP (aj.below b1 _ _ g9) (λg h=>by have:=HA.out g h;omega) _ _ _ _ _ _
        ·rw[hS];exact iV (c3.trans (b1.mono (yJ a6.lt))) _ _ _ _ _ _
       |false=>
        have f8:Hid (y≠eK K):=λe=>by have:=R.2 e;cases this
        clear R;go_wp2_with fail
        go_cut [79] (λv wx=>∃b':Bool,v=.bool b'/\(b'=true↔y≠dw K)/\∃n,wx=U.drewN n)
        case first=>
         have y5:U.cell? ⟨b,d4+j*6+5,none⟩=some (.string sx):=(l9.cell (p:=⟨b,_,none⟩) hb).trans (HC 5 _ rfl);have p5:U.cell? (aD P 5)=some (.string sp):=(c8.below b1).cell 5;have l8:P<U.heap.size:=(c8.below b1).lt;have n4:b<U.heap.size:=zF hb l9.size
         go_quiet (fail)
         go_wp2_with fail
         go_meet
         case rel=>exact⟨_,rfl,⟨λh e=>by have h9:=tJ (show af sx=af sp by rw[i7.out,q7.out,e]);simp[h9]at h,λhne=>by have h9:¬sx.toList=sp.toList:=λe=>hne (nL n0 Ff.1 (by rw[<-i7.out,<-q7.out];exact kE e));simp[h9]⟩,_,rfl⟩
        case rest=>
         obtain⟨b',rfl,R,t6,rfl⟩:=hcut;obtain⟨U2,k6⟩:∃U2,U.drewN t6=U2:=⟨_,rfl⟩;have a5:Hid (Bw wr U2):=by show Below _ _ _;rw[<-k6];exact aR g6
         have a2:Hid (Bw V U2):=a9.trans (a5.mono a9.size);rw[k6];clear k6 b1 l9 g6;cases b' with
         |true=>
          have k3:=aa (R.1 rfl);clear R;have n4:b<U2.heap.size:=zF hb a2.size;obtain⟨y0,y1,y2,y3,y4,y5⟩:=oT a2.out hb HC.out;obtain⟨U3,o3,a4,l0,-⟩:=dS (rfl:U2.heap.size=_) (TC y.kind a0 Y a7 T Z X mx nx sx) 58;replace l0:=aa l0;have o5:=aa o3;have l5:=aa (bg (bg g8 a5) a4);have b3:Hid (Bw V U3):=a2.trans (a4.mono a2.size);have w8:G.length<=2000000000000:=by
           have h1:=ko G;have h2:=a3.z;have h3:=wD (l:=O) j;have h4:=HU.zle;have h5:=HZ.out;rw[zQ]at h4;simp only[bd]at h4;omega
          clear o3 a4;go_wp2_with (at_builtin;rw[o5.out];refine eO rfl (.tmp 80) (.tmp 85) 56 58 i0 _ 6 88 rfl underlying56 hi u1 t5 u5 rfl (by decide) V.heap.size G.length _ _ rfl l5 _ 1 _ (TC y.kind a0 Y a7 T Z X mx nx sx) rfl (λe=>by cases e) rfl (λad e j u hj=>by injection e with e;subst e;rw[zl,zf,l0.out.cell];exact hj) (sD _ _ _ _ _ _ _ _ _ _) (by unfold maxLen;omega) (by omega) b3.size ?_;intro v4 w4 d7 j7;have HF:=aa (And.intro d7 j7);clear d7 j7);have f:Bw V w4:=cD b3 b3.size l5 HF.2;have m8:aO w4 A G zs:=by
           have h1:aO U3 A G zs:=aO.below (w:=U2) (by rw[<-o5.out];exact (zE _ _).alloc (zA _) _) _ _ (aO.below a5 _ _ i4);exact aO.keep ⟨HF.2.size,λg hg ha=>HF.2.block g hg (λe=>by
            have h2:=(l5.lt g e.symm).1;have h3:=HA.out g ha;omega)⟩ _ _ h1
          have f6:aj w4 A y (TC y.kind a0 Y a7 T Z X mx nx sx):=aj.below f _ _ HV
          go_roundw
          case rel=>exact⟨j+1,G++[y],zs++TC y.kind a0 Y a7 T Z X mx nx sx,by go_num,by omega,by rw[zH];exact HF.1,m8.append (aO.one f6),a3.put HY k3 f8,f⟩
          case measure=>simp[intOf];omega
         |false=>
          have k3:Hid (y=dw K):=Classical.byContradiction λh=>by have:=R.2 h;cases this
          clear R;go_wp2_with fail
          go_roundw
          case rel=>exact⟨j+1,G,zs,by go_num,by omega,bg g8 a5,aO.below a5 _ _ i4,a3.skip HY k3 f8,a2⟩
          case measure=>simp[intOf];omega
     ·have j2:decide ((j:Int)<(O.length:Int))=false:=zI (by omega);obtain rfl:j=O.length:=by omega
      have m0:Hid (Below S w wr):=c3.trans (o.mono (yJ a6.lt));have m:=a6.below o;obtain⟨r0,r1,r2,r3,r4,r5⟩:=m.six;obtain⟨f0,f1,f2,f3,f4,f5,k4⟩:=m.ice;clear m;by_cases e0:G=[]
      ·subst e0;have k7:=c8.below o;obtain⟨p0,p1,p2,p3,p4,p5⟩:=k7.six;have l8:=k7.lt;clear k7;simp only[zh];go_wp2_with fail;refine zN (v:=.agg #[Vi (dw K).kind,.slice L M J,.slice I H N,Vi mp,Vi np,.string sp]) (by simp[results,results34,go_sem,r0,r1,r2,r3,r4,r5]) rfl ⟨dw K,L,M,J,I,H,N,mp,np,sp,rfl,?_,OQ HK i8 HU a3,?_⟩
       ·rw[hS];exact dP (aj.below o _ _ i5) (λg h=>by have:=HA.out g h;omega) _ _ _ _ _ _
       ·rw[hS];exact iV m0 _ _ _ _ _ _
      ·have t7:=aa e0;by_cases e1:∃y,G=[y]
       ·obtain⟨y,rfl⟩:=e1;obtain⟨b,d4,c,rfl,hb,hv,hc⟩:=(fN g8.out).get i4.out (i:=0) (t:=y) rfl;obtain⟨a0,Y,a7,T,Z,X,mx,nx,sx,rfl,_⟩:=hv.form;simp only[Nat.zero_mul,xF]at hc;obtain⟨y0,y1,y2,y3,y4,y5⟩:=JJ hc;have HV:=aa hv;clear hc hv e0;simp only[zo];go_wp2_with fail;refine zN (v:=.agg #[Vi y.kind,.slice a0 Y a7,.slice T Z X,Vi mx,Vi nx,.string sx]) (by simp[results,results34,go_sem,r0,r1,r2,r3,r4,r5]) rfl ⟨y,a0,Y,a7,T,Z,X,mx,nx,sx,rfl,?_,Hr HK i8 c5 HU a3,?_⟩
        ·rw[hS];exact dP (aj.mono (λg _ h=>.inl h) _ _ HV) (λg h=>by have:=HA.out g h;omega) _ _ _ _ _ _
        ·rw[hS];exact iV m0 _ _ _ _ _ _
       ·have y9:2<=G.length:=by
         match G,e0,e1 with
         | [],e0,_=>exact absurd rfl e0
         | [y],_,e1=>exact absurd ⟨y,rfl⟩ e1
         |_::_::_,_,_=>simp
        have q0:((G.length:Int)==0)=false:=zD.2 (by omega);have q1:((G.length:Int)==1)=false:=zD.2 (by omega);have t0:bw G<=4000000000000000000:=by
         have h1:=a3.tl;have h2:=Si (l:=O) O.length;have h3:=HU.tle;have h4:=t2.out;rw[zQ]at h3;simp only[bw]at h3;omega
        have r7:=aa (Wy HK (A:=λg=>A g\/S<g) (lc:=a8) ⟨#[]⟩ ((fN g8).mono λg _ h=>.inr (by omega)) (aO.mono (λg _ h=>.inl h) _ _ i4) (a3.ok s7) t0);clear e0 e1 t0 r0 r1 r2 r3 r4 r5 f0 f1 f2 f3 f4 f5 k4;go_wp2_with fail;refine r7.mono ?_;rintro e w5 ⟨s5,rfl,f6,f⟩;have v7:=aa f6;have e6:Hid (Below S w w5):=m0.trans (f.mono (by have:=a9.size;omega));have m:=(a6.below o).below f;obtain⟨r0,r1,r2,r3,r4,r5⟩:=m.six;obtain⟨f0,f1,f2,f3,f4,f5,k4⟩:=m.ice;clear m;clear f6 f r7;go_wp2_with fail;refine zN (v:=.agg #[Vi K,Vz,.slice k0 G.length a8,Vi 0,Vi 0,.string s5]) (by simp[results,results34,go_sem,r0,r1,r2,r3,r4,r5]) rfl ⟨SK K G,none,0,0,k0,G.length,a8,0,0,s5,by rw[Ke HK.out],?_,XT HK i8 c5 HU a3 t7,?_⟩
        ·rw[hS,Ke HK.out];exact dP v7 (λg h=>by have:=HA.out g h;omega) _ _ _ _ _ _
        ·rw[hS];exact iV e6 _ _ _ _ _ _
def qF (t:Tm):Prop:=∀(w:World) (A:Nat->Prop) (so:Option Addr) (sn sc:Nat) (lo:Option Addr) (ln lc:Nat) (m n:Int) (s:ByteArray) (c:Int),(∀g,A g->g<w.heap.size)->aj w A t (TC t.kind so sn sc lo ln lc m n s)->t.Ok->place c->t.z*t.tl<=3000000000000000000->bZ t.z<=2000000000000 ->
 Calls prog 30 #[.agg #[Vi t.kind,.slice so sn sc,.slice lo ln lc,Vi m,Vi n,.string s],Vi c] w (eH w A (Gd (aX t.L (back c)) (bZ t.z) (t.z*t.tl)))
theorem gL (h:place c):runeB (back c)=true/\up (back c)=c:=by
 unfold place at h;rw[rune_iff];unfold back up;refine⟨?_,?_⟩<;>(repeat' split)<;>omega
theorem Lj {r:Int}:aX dZ r=eA:=by
 funext u;simp[aX,dZ,eA]
theorem EP (h:PCanon q)(hc:place c):aX (Tm.set q).L (back c)=if memB q c then dZ else eA:=by
 have e:memB (told q) (back c)=memB q c:=by rw[gb h _ (gL hc).1,(gL hc).2]
 funext u;refine propext ⟨λ⟨d,b,f⟩=>?_,λh=>?_⟩
 ·injection b with h3 h4;subst h3 h4;rw[<-e,f];rfl
 ·by_cases a:memB q c=true
  ·rw[zX a]at h;exact⟨back c,by rw[show u=[]from h],by rw[e];exact a⟩
  ·rw[zR a]at h;exact h.elim
theorem jg {w:World}{ops:Array Oper}{rest:List Oper}{o:Oper}{a:Act}{Q:Exit->Act->World->Prop}(hgd:o.guard=none)(s x:Operand)(t e:TypeId)(i0:TypeInfo)(z:Value)(size bytes:Nat)
  (ho:o.op=.call { callee:=.builtin .append,args:=#[s,x],argTypes:=#[t,t] }) (hu:prog.underlying t=some (.slice e)) (hi:prog.info? e=some i0) (hz:i0.zero=some z) (hsz:i0.size=size) (hby:i0.bytes=bytes) (hzs:z.cells.size=size) (hpos:0<size)
  (B n:Nat) (v:Value) (xs:LV) (hs:a.eval s=v) (hown:w.ownsRow B e size v n xs)
  (ad:Addr) (m c:Nat) (news:LV) (hx:a.eval x=.slice (some ad) m c) (hl:news.length=m*size) (hm:0<m) (hnews:∀j u,news[j]?=some u->w.cell? (ad.add j)=some u) (h1:∀u∈news,u.oneCell'=true)
  (h63:n+m<=maxLen) (hn:(n+m)*bytes<=140737488355328) (hB:B<=w.heap.size)
  (h:∀v' w',w'.ownsRow B e size v' (n+m) (xs++news)->w.grownBy w' v.ownBlock->(v'.ownBlock=v.ownBlock\/∀g,v'.ownBlock=some g->w.heap.size<=g)->wpList prog ops Q rest (a.put o.dst v') w'):wpList prog ops Q (o::rest) a w:=by
 have i:=hown;rcases hown.2 with⟨rfl,rfl⟩|⟨g,l,r,rfl,C,G,D,A,E,F⟩
 ·refine yo w hgd s x t ho e i0 z size bytes hu hi hz hsz hby hzs hpos none 0 0 xs hs (λ_=>⟨rfl,rfl⟩) i.1 (λb e=>by cases e) ad m c news hx hl hnews h1 (by omega) h63 hn ?_;intro v' w' f d;exact h v' w' (ij f hB) ⟨d.os,d.tape,d.output,d.size,λk q _=>d.block k q (by simp)⟩ (.inr λg e=>(f.lt g e).1)
 ·by_cases p:n+m<=l
  ·refine wpList_append_fits w hgd s x t ho B e i0 size hu hi hsz g n l xs hs i ad m c news hx hl hnews h1 p ?_;intro w' f d;exact h _ w' f d (.inl rfl)
  ·refine yo w hgd s x t ho e i0 z size bytes hu hi hz hsz hby hzs hpos (some (aD g 0)) n l xs hs (λe=>by cases e) i.1 (λb e j u y=>by cases e;exact i.cells rfl j u y) ad m c news hx hl hnews h1 (by omega) h63 hn ?_;intro v' w' f d;exact h v' w' (ij f hB) ⟨d.os,d.tape,d.output,d.size,λk q _=>d.block k q (by simp)⟩ (.inr λg e=>(f.lt g e).1)
theorem Vt:bZ 1=1:=rfl
theorem YC {z t:Nat}(h:1<=z):z*t+12<=z*(t+12):=by
 rw[ye];omega
theorem Xp {z t:Nat}(h:1<=z):z*t+(t+12)+12<=(z+1)*(t+12):=by
 rw[ye,Nat.add_mul];omega
theorem Vu (z:Nat):bZ z+(z+1)<=bZ (z+1):=by rw[kj];omega
theorem YD {za zb ta tb:Nat}(ha:1<=za)(hb:1<=zb):za*ta+tb+12+zb*tb+12<=(za+zb)*(ta+tb+12):=by
 have a:1*tb<=za*tb:=zn _ ha;have b:1*ta<=zb*ta:=zn _ hb;simp only[ye,Nat.add_mul];omega
theorem Xq {za zb:Nat}(ha:1<=za):bZ za+zb+bZ zb<=bZ (za+zb):=by
 have a:1*zb<=za*zb:=zn _ ha;rw[lJ];omega
theorem Bk {z:Nat}(h:1<=z):1<=bZ z:=zJ h (qr z)
def dj (c:Int):List Tm->List Tm->Prop
 | [],[]=>True
 |t::l,u::m=>Gd (aX t.L (back c)) (bZ t.z) (t.z*t.tl) u/\dj c l m
 |_,_=>False
theorem dj.snoc {c:Int}{t u:Tm}:∀{l m:List Tm},dj c l m->Gd (aX t.L (back c)) (bZ t.z) (t.z*t.tl) u->dj c (l++[t]) (m++[u])
 | [],[],_,k=>⟨k,trivial⟩
 |_::_,_::_,h,k=>⟨h.1,dj.snoc h.2 k⟩
theorem dj.len {c:Int}:∀{l m:List Tm},dj c l m->m.length=l.length
 | [],[],_=>rfl
 |_::_,_::_,h=>by rw[zG,zG,dj.len h.2]
theorem dj.ok {c:Int}:∀{l m:List Tm},dj c l m->dW m
 | [],[],_=>trivial
 |_::_,_::_,h=>⟨h.1.ok,dj.ok h.2⟩
theorem dj.tl {c:Int}:∀{l m:List Tm},dj c l m->bw m<=bd l*bw l
 | [],[],_=>zA _
 |t::l,u::m,h=>by
  have a:=h.1.tl;have b:=dj.tl h.2;simp only[bw,bd];rw[ye,Nat.add_mul,Nat.add_mul];omega
theorem dj.z {c:Int}:∀{l m:List Tm},dj c l m->bd m<=bZ (bd l)
 | [],[],_=>zA _
 |t::l,u::m,h=>by
  have a:=h.1.z;have b:=dj.z h.2;simp only[bd];rw[lJ];omega
theorem dj.or {c:Int}{v:LZ}:∀{l m:List Tm},dj c l m->(kI m v↔kI l (back c::v))
 | [],[],_=>Iff.rfl
 |t::l,u::m,h=>by
  have a:=h.1.lg;simp only[kI,dj.or h.2];rw[a];rfl
theorem dj.and {c:Int}{v:LZ}:∀{l m:List Tm},dj c l m->(iz m v↔iz l (back c::v))
 | [],[],_=>Iff.rfl
 |t::l,u::m,h=>by
  have a:=h.1.lg;simp only[iz,dj.and h.2];rw[a];rfl
theorem Jk:∀{l:List Tm} {t:Tm},t∈l->t.z<=bd l
 |u::l,t,h=>by
  simp only[bd];rcases zO.1 h with rfl|h
  ·omega
  ·have:=Jk h;omega
theorem Lk {m:List Tm}(h:dj c l m)(hg:SomeG 5 m t):Gd (aX (Tm.or l).L (back c)) (bZ (Tm.or l).z) ((Tm.or l).z*(Tm.or l).tl) t:=by
 refine⟨hg.ok,?_,?_,?_⟩
 ·funext u;exact propext ((hg.or rfl u).trans h.or)
 ·have b:=hg.z;have e:=h.z;have d:bZ (bd l)<=bZ (max 1 (bd l)):=dY (Nat.le_max_right _ _);have a:1<=bZ (max 1 (bd l)):=Bk (Nat.le_max_left _ _);simp only[Tm.z];omega
 ·have b:=hg.tl;have e:=h.tl;have d:bd l*bw l<=max 1 (bd l)*bw l:=zn _ (Nat.le_max_right _ _);have a:1<=max 1 (bd l):=Nat.le_max_left _ _;simp only[Tm.z,Tm.tl];rw[ye];omega
theorem Hk {m:List Tm}(h:dj c l m)(hg:SomeG 6 m t):Gd (aX (Tm.and l).L (back c)) (bZ (Tm.and l).z) ((Tm.and l).z*(Tm.and l).tl) t:=by
 refine⟨hg.ok,?_,?_,?_⟩
 ·funext u;exact propext ((hg.and rfl u).trans h.and)
 ·have b:=hg.z;have e:=h.z;have d:bZ (bd l)<=bZ (max 1 (bd l)):=dY (Nat.le_max_right _ _);have a:1<=bZ (max 1 (bd l)):=Bk (Nat.le_max_left _ _);simp only[Tm.z];omega
 ·have b:=hg.tl;have e:=h.tl;have d:bd l*bw l<=max 1 (bd l)*bw l:=zn _ (Nat.le_max_right _ _);have a:1<=max 1 (bd l):=Nat.le_max_left _ _;simp only[Tm.z,Tm.tl];rw[ye];omega
theorem RJ {z:Nat}(h:bZ z<=2000000000000):z<=2000000:=by
 rcases Nat.lt_or_ge z 2000001 with a|a
 ·omega
 ·have c:=dY a;have b:bZ 2000001=2000003000001:=by decide
  omega
theorem Cr {z T l t:Nat}(hz:z<=max 1 T)(h:max 1 T*(l+12)<=3000000000000000000)(ht:t<=l):z*t<=3000000000000000000:=by
 have a:z*t<=max 1 T*(l+12):=Nat.mul_le_mul hz (by omega);omega
theorem vr:∀(q:LQ) (lo:Int),lo<=1112065->(∀x∈q,PGood x/\lo<=x.1)->(q.Pairwise λx y=>x.2+1<y.1)->2*(q.length:Int)+lo<=1112065
 | [],lo,h,_,_=>by simp;omega
 |x::q,lo,h,hx,hp=>by
  obtain⟨g,b⟩:=hx x (by simp);unfold PGood at g;rw[yg]at hp;have c:=vr q (x.2+2) (by omega) (λy a=>⟨(hx y (by simp[a])).1,by have:=hp.1 y a;omega⟩) hp.2;rw[zG];omega
theorem ri (h:PCanon q):q.length<=600000:=by
 have:=vr q 0 (by decide) (λx a=>⟨h.1 x a,(h.1 x a).1⟩) h.2;omega
theorem CK {wr U3 w4:World}{v4:Value}{us:List Tm}{ys:LV}{t5:Tm}(hgr:U3.grownBy w4 v.ownBlock)(hmv:v4.ownBlock=v.ownBlock\/∀g,v4.ownBlock=some g->U3.heap.size<=g)(hbr:Bw wr U3)(hus:aO wr (λg=>(A g\/B<=g)/\v.ownBlock≠some g) us ys)(hv:aj U3 (λg=>A g\/wr.heap.size<g) t5 cs)(hO:∀g,v.ownBlock=some g->B<=g/\g<wr.heap.size)(hA:∀g,A g->g<B)(hB:B<=wr.heap.size) :
  aO w4 (λg=>(A g\/B<=g)/\v4.ownBlock≠some g) (us++[t5]) (ys++cs):=by
 have c:∀g,g<U3.heap.size->((A g\/B<=g)/\v.ownBlock≠some g)->v4.ownBlock≠some g:=λg b h e=>by
  rcases hmv with a|a
  ·rw[a]at e;exact h.2 e
  ·have:=a g e;omega
 have f:ah (λg=>((A g\/B<=g)/\v.ownBlock≠some g)/\v4.ownBlock≠some g) U3 w4:=⟨hgr.size,λg b d=>hgr.block g b (λe=>d.1.2 e.symm)⟩;refine aO.mono (A:=λg=>((A g\/B<=g)/\v.ownBlock≠some g)/\v4.ownBlock≠some g) (λg _ h=>⟨h.1.1,h.2⟩) _ _ (aO.keep f _ _ (aO.append ?_ (aO.one ?_)))
 ·exact aO.mono (λg b h=>⟨h,c g b h⟩) _ _ (aO.below hbr _ _ hus)
 ·refine aj.mono (λg b h=>?_) _ _ hv;have a:(A g\/B<=g)/\v.ownBlock≠some g:=by
   rcases h with h|h
   ·exact⟨.inl h,λe=>by have:=hO g e;have:=hA g h;omega⟩
   ·exact⟨.inr (by omega),λe=>by have:=hO g e;omega⟩
  exact⟨a,c g b a⟩
theorem Mh (c:Int):Calls prog 30 #[.agg #[Vi 1,.slice so sn sc,.slice lo ln lc,Vi m,Vi n,.string s],Vi c] w (eH w A (λu=>u=.none)):=by
 obtain⟨C,k,g,b,q,B⟩:=jK (rfl:w.heap.size=_) (TC 1 so sn sc lo ln lc m n s) 58 TZ 58;have V:C.cell? (aD w.heap.size 0)=some (Vi 1):=b.cell 0;have K:=b.lt;have P:=aa (fG C);have r:=aa q;have y:=aa g;have t:=aa k;clear k g b q B;go_enter func30,ntmps30;go_upto_region 1 with fail;rw[t.out];generalize hS:w.heap.size=S at *;go_wp2_with fail;refine P.mono ?_;rintro e I ⟨T,l,p,o,h,i,j,F,E,D,rfl,a,rfl,f⟩;simp only[Tm.kind]at a ⊢;have d:=r.below f;obtain⟨L,J,G,O,N,H⟩:=d.six;obtain⟨X,U,W,R,Q,Y,M⟩:=d.ice;have x:Hid (Below S w I):=y.trans (f.mono (by have:=r.lt;omega));have z:=aa a;clear a f d;go_wp2_with fail;refine zN (v:=.agg #[Vi 1,.slice l p o,.slice h i j,Vi F,Vi E,.string D]) (by simp[results,results30,go_sem,L,J,G,O,N,H]) rfl ⟨.none,l,p,o,h,i,j,F,E,D,rfl,?_,rfl,?_⟩
 ·rw[hS];exact kc z
 ·rw[hS];exact bC x _ _ _ _ _ _
theorem If (c:Int):Calls prog 30 #[.agg #[Vi 2,.slice so sn sc,.slice lo ln lc,Vi m,Vi n,.string s],Vi c] w (eH w A (λu=>u=.none)):=by
 obtain⟨C,k,g,b,q,B⟩:=jK (rfl:w.heap.size=_) (TC 2 so sn sc lo ln lc m n s) 58 TZ 58;have V:C.cell? (aD w.heap.size 0)=some (Vi 2):=b.cell 0;have K:=b.lt;have P:=aa (fG C);have r:=aa q;have y:=aa g;have t:=aa k;clear k g b q B;go_enter func30,ntmps30;go_upto_region 1 with fail;rw[t.out];generalize hS:w.heap.size=S at *;go_wp2_with fail;refine P.mono ?_;rintro e I ⟨T,l,p,o,h,i,j,F,E,D,rfl,a,rfl,f⟩;simp only[Tm.kind]at a ⊢;have d:=r.below f;obtain⟨L,J,G,O,N,H⟩:=d.six;obtain⟨X,U,W,R,Q,Y,M⟩:=d.ice;have x:Hid (Below S w I):=y.trans (f.mono (by have:=r.lt;omega));have z:=aa a;clear a f d;go_wp2_with fail;refine zN (v:=.agg #[Vi 1,.slice l p o,.slice h i j,Vi F,Vi E,.string D]) (by simp[results,results30,go_sem,L,J,G,O,N,H]) rfl ⟨.none,l,p,o,h,i,j,F,E,D,rfl,?_,rfl,?_⟩
 ·rw[hS];exact kc z
 ·rw[hS];exact bC x _ _ _ _ _ _
theorem Dv (c:Int)(hq:Rd w so q)(hl:q.length<=1000000)(hm:memB q c=true):Calls prog 30 #[.agg #[Vi 3,.slice so q.length sc,Vz,Vi 0,Vi 0,.string s],Vi c] w (eH w A (λu=>u=.empty)):=by
 obtain⟨r,k,b,a,o,B⟩:=jK (rfl:w.heap.size=_) (TC 3 so q.length sc none 0 0 0 0 s) 58 TZ 58;have X:r.cell? (aD w.heap.size 0)=some (Vi 3):=a.cell 0;have T:r.cell? (aD w.heap.size 1)=some (.slice so q.length sc):=a.cell 1;have K:=a.lt;have L:=aa (wS sc c (Rd.below hq b) hl);have Q:=aa (rh r);have p:=aa o;have y:=aa b;have t:=aa k;have J:=aa hm;clear k b a o B hq hl hm;go_enter func30,ntmps30;go_upto_region 1 with fail;rw[t.out];generalize hS:w.heap.size=S at *;go_wp2_with fail;refine L.mono ?_;rintro e C ⟨rfl,rfl⟩;rw[J.out];go_wp2_with fail;refine Q.mono ?_;rintro e C ⟨V,l,n,m,h,i,j,F,E,D,rfl,d,rfl,g⟩;simp only[Tm.kind]at d ⊢;have f:=p.below g;obtain⟨M,I,G,P,O,H⟩:=f.six;obtain⟨Z,W,Y,U,R,f5,N⟩:=f.ice;have x:Hid (Below S w C):=y.trans (g.mono (by have:=p.lt;omega));have z:=aa d;clear d g f;go_wp2_with fail;refine zN (v:=.agg #[Vi 2,.slice l n m,.slice h i j,Vi F,Vi E,.string D]) (by simp[results,results30,go_sem,M,I,G,P,O,H]) rfl ⟨.empty,l,n,m,h,i,j,F,E,D,rfl,?_,rfl,?_⟩
 ·rw[hS];exact sZ z
 ·rw[hS];exact bC x _ _ _ _ _ _
theorem Bz (c:Int)(hq:Rd w so q)(hl:q.length<=1000000)(hm:memB q c=false):Calls prog 30 #[.agg #[Vi 3,.slice so q.length sc,Vz,Vi 0,Vi 0,.string s],Vi c] w (eH w A (λu=>u=.none)):=by
 obtain⟨r,k,b,a,o,B⟩:=jK (rfl:w.heap.size=_) (TC 3 so q.length sc none 0 0 0 0 s) 58 TZ 58;have X:r.cell? (aD w.heap.size 0)=some (Vi 3):=a.cell 0;have T:r.cell? (aD w.heap.size 1)=some (.slice so q.length sc):=a.cell 1;have K:=a.lt;have L:=aa (wS sc c (Rd.below hq b) hl);have Q:=aa (fG r);have p:=aa o;have y:=aa b;have t:=aa k;have J:=aa hm;clear k b a o B hq hl hm;go_enter func30,ntmps30;go_upto_region 1 with fail;rw[t.out];generalize hS:w.heap.size=S at *;go_wp2_with fail;refine L.mono ?_;rintro e C ⟨rfl,rfl⟩;rw[J.out];go_wp2_with fail;refine Q.mono ?_;rintro e C ⟨V,l,n,m,h,i,j,F,E,D,rfl,d,rfl,g⟩;simp only[Tm.kind]at d ⊢;have f:=p.below g;obtain⟨M,I,G,P,O,H⟩:=f.six;obtain⟨Z,W,Y,U,R,f5,N⟩:=f.ice;have x:Hid (Below S w C):=y.trans (g.mono (by have:=p.lt;omega));have z:=aa d;clear d g f;go_wp2_with fail;refine zN (v:=.agg #[Vi 1,.slice l n m,.slice h i j,Vi F,Vi E,.string D]) (by simp[results,results30,go_sem,M,I,G,P,O,H]) rfl ⟨.none,l,n,m,h,i,j,F,E,D,rfl,?_,rfl,?_⟩
 ·rw[hS];exact kc z
 ·rw[hS];exact bC x _ _ _ _ _ _
theorem Pu (c:Int)(hA:∀g,A g->g<w.heap.size)(ih:qF u)(hok:u.Ok)(hp:place c)(hz:u.z*(u.tl+12)<=3000000000000000000)(hz2:bZ u.z<=2000000000000)(hbl:b<w.heap.size)(hv:aj w A u (TC u.kind so' sn' sc' lo' ln' lc' m' n' s'))(hc:∀j v,(TC u.kind so' sn' sc' lo' ln' lc' m' n' s')[j]?=some v->w.cell? ⟨b,off+j,none⟩=some v):Calls prog 30 #[.agg #[Vi 7,Vz,.slice (some (aD b off)) 1 lc,Vi 0,Vi 0,.string s],Vi c] w (eH w A (Gd (fZ (aX u.L (back c))) (bZ u.z) (u.z*(u.tl+12)))):=by
 obtain⟨z,P,f,x,K,a4⟩:=jK (rfl:w.heap.size=_) (TC 7 none 0 0 (some (aD b off)) 1 lc 0 0 s) 58 TZ 58;have a0:z.cell? (aD w.heap.size 0)=some (Vi 7):=x.cell 0;have a2:z.cell? (aD w.heap.size 2)=some (.slice (some (aD b off)) 1 lc):=x.cell 2;have a9:=x.lt;have b1:b<z.heap.size:=zF hbl f.size;obtain⟨y0,y1,y2,y3,y4,y5⟩:=oT f hbl hc;have a6:=YC (t:=u.tl) (fE u);have HC:=aa (ih z A _ _ _ _ _ _ _ _ _ c (λg a=>zF (hA g a) f.size) (aj.below f _ _ hv) hok hp (by omega) hz2);have HO:Hid (∀(r:World) (C:Tm) (i:Option Addr) (o l:Nat) (k:Option Addr) (q p:Nat) (I N:Int) (L:ByteArray),Bw z r->aj r (λg=>A g\/z.heap.size<g) C (TC C.kind i o l k q p I N L)->Gd (aX u.L (back c)) (bZ u.z) (u.z*u.tl) C ->
   Calls prog 35 #[.agg #[Vi C.kind,.slice i o l,.slice k q p,Vi I,Vi N,.string L]] r λe w6=>∃t V U X W T lc m n s,e=.returned (.agg #[Vi (Tm.kind t),.slice V U X,.slice W T lc,Vi m,Vi n,.string s])/\Hid (aj w6 (λg=>A g\/w.heap.size+1<g) t (TC t.kind V U X W T lc m n s))/\Hid (Gd (fZ (aX u.L (back c))) (bZ u.z) (u.z*(u.tl+12)) t)/\Bw r w6):=λr C i o l k q p I N L h5 y d=>by
  have h1:=d.z;have h2:=d.tl;have h3:=h5.size;refine (Ki (A:=λg=>(A g\/z.heap.size<g)/\g<r.heap.size) (λg a=>a.2) (aj.mono (λg a ha=>⟨ha,a⟩) _ _ y) d.ok (by omega)).mono ?_;rintro e w6 ⟨t,V,U,X,W,T,lc,m,n,s,rfl,g1,Y,g3⟩;refine⟨t,V,U,X,W,T,lc,m,n,s,rfl,?_,⟨Y.ok,?_,?_,?_⟩,g3⟩
  ·exact aj.mono (λg _ a=>by rcases a with⟨a|a,_⟩|a;exact .inl a;exact .inr (by omega);exact .inr (by omega)) _ _ g1
  ·rw[Y.lg,d.lg]
  ·have:=Y.z;omega
  ·have:=Y.tl;omega
 have B:=aa K;have a7:=aa f;have a5:=aa P;have HA:=aa hA;clear P f x K a4 ih hok hv hc hA hz hz2 hp a6;go_enter func30,ntmps30;go_upto_region 1 with fail;rw[a5.out];generalize hS:w.heap.size=S at *;go_wp2_with fail;refine HC.mono ?_;rintro e r ⟨C,i,o,l,k,q,p,I,N,L,rfl,y,d,E⟩;have a3:=aa (HO r C i o l k q p I N L E y d);have F:=aa E;clear y d E HC;go_wp2_with fail;refine a3.mono ?_;rintro e w3 ⟨t3,Q,R,J,H,M,O,m3,n3,s3,rfl,a8,Z,D⟩;have G:=(B.below F).below D;obtain⟨r0,r1,r2,r3,r4,r5⟩:=G.six;obtain⟨f0,f1,f2,f3,f4,f5,b0⟩:=G.ice;have a1:Hid (Below S w w3):=(a7.trans (F.mono (by have:=B.lt;omega))).trans (D.mono (by have:=B.lt;have:=F.size;omega));clear D G;go_wp2_with fail;refine zN (v:=.agg #[Vi (Tm.kind t3),.slice Q R J,.slice H M O,Vi m3,Vi n3,.string s3]) (by simp[results,results30,go_sem,r0,r1,r2,r3,r4,r5]) rfl ⟨t3,Q,R,J,H,M,O,m3,n3,s3,rfl,?_,Z,?_⟩
 ·rw[hS];exact aj.mono (λg _ a=>by rcases a with a|a;exact .inl a;exact .inr (by omega)) _ _ (dP a8 (λg h=>by have:=HA.out g h;omega) _ _ _ _ _ _)
 ·rw[hS];exact bC a1 _ _ _ _ _ _
theorem Pd (hK:K=5\/K=6){m:List Tm}(h:dj c l m)(hg:SomeG K m t):Gd (aX (SK K l).L (back c)) (bZ (Tm.or l).z) ((Tm.or l).z*(Tm.or l).tl) t:=by
 rcases hK with rfl|rfl
 ·exact Lk h hg
 ·exact Hk h hg
theorem Pe (hK:K=5\/K=6)(c:Int)(hA:∀g,A g->g<w.heap.size)(hr:cg w A lo xs)(hl:aO w A l xs)(ih:∀t∈l,qF t)(hok:dW l)(hne:l≠[])(hp:place c)(hz:(Tm.or l).z*(Tm.or l).tl<=3000000000000000000)(hz2:bZ (Tm.or l).z<=2000000000000):Calls prog 30 #[.agg #[Vi K,Vz,.slice lo l.length lc,Vi 0,Vi 0,.string s],Vi c] w (eH w A (Gd (aX (SK K l).L (back c)) (bZ (Tm.or l).z) ((Tm.or l).z*(Tm.or l).tl))):=by
 obtain⟨q,b6,z,E,c3,b8⟩:=jK (rfl:w.heap.size=_) (TC K none 0 0 lo l.length lc 0 0 s) 58 TZ 58;have a0:q.cell? (aD w.heap.size 0)=some (Vi K):=E.cell 0;have e9:=E.lt;have c6:Hid (∀(i:Nat) (t:Tm) (wr:World) (X:Option Addr) (a5 P:Nat) (Z:Option Addr) (a3 V:Nat) (m' n':Int) (s':ByteArray),l[i]?=some t->Bw q wr->aj q A t (TC t.kind X a5 P Z a3 V m' n' s')->Calls prog 30 #[.agg #[Vi t.kind,.slice X a5 P,.slice Z a3 V,Vi m',Vi n',.string s'],Vi c] wr (eH wr A (Gd (aX t.L (back c)) (bZ t.z) (t.z*t.tl)))):=λi t wr X a5 P Z a3 V m' n' s' hi hb hv=>by
  have hm:=zU hi;have h1:=Jk hm;have h2:=uv hm;refine ih t hm wr A _ _ _ _ _ _ _ _ _ c (λg f=>zF (hA g f) (zJ z.size hb.size)) (aj.below hb _ _ hv) (dO.1 hok t hm) hp ?_ ?_
  ·exact Cr (T:=bd l) (l:=bw l) (by omega) hz h2
  ·exact zJ (dY (zJ h1 (Nat.le_max_right 1 _))) hz2
 have c5:Hid (∀(wr:World) (B:Option Addr) (p:Nat) (x:List Tm) (F:List Value),Bw q wr->wr.ownsRow q.heap.size 58 6 (.slice B x.length p) x.length F->aO wr (λg=>A g\/q.heap.size<=g) x F->dj c l x->Calls prog 34 #[.slice B x.length p,Vi K] wr λe w6=>∃t so sn sc lo ln lc m n s,e=.returned (.agg #[Vi (Tm.kind t),.slice so sn sc,.slice lo ln lc,Vi m,Vi n,.string s])/\Hid (aj w6 (λg=>A g\/w.heap.size+1<g) t (TC t.kind so sn sc lo ln lc m n s))/\Hid (Gd (aX (SK K l).L (back c)) (bZ (Tm.or l).z) ((Tm.or l).z*(Tm.or l).tl) t)/\Bw wr w6):=λwr B p x F hb k G o=>by
  have h1:=o.tl;have h2:=o.z;have h3:=hb.size;have h4:bd l*bw l<=3000000000000000000:=Cr (T:=bd l) (l:=bw l) (Nat.le_max_right _ _) hz (zA _);have h5:bZ (bd l)<=2000000000000:=zJ (dY (Nat.le_max_right 1 _)) hz2;have b0:x≠[]:=λe=>hne (by have:=o.len;rw[e]at this;exact yf this.symm);refine (sT hK (A:=λg=>(A g\/q.heap.size<=g)/\g<wr.heap.size) (λg f=>f.2) ((fN k).mono (λg f h=>⟨.inr h,f⟩)) (aO.mono (λg f h=>⟨h,f⟩) _ _ G) o.ok b0 (by omega) (by omega)).mono ?_;rintro e w6 ⟨t,so,sn,sc,lo,ln,lc,m,n,s,rfl,g1,g2,g3⟩;refine⟨t,so,sn,sc,lo,ln,lc,m,n,s,rfl,?_,Pd hK o g2,g3⟩;exact aj.mono (λg _ f=>by rcases f with⟨f|f,_⟩|f;exact .inl f;exact .inr (by omega);exact .inr (by omega)) _ _ g1
 have e5:l.length<=2000000:=by
  have h1:=ko l;have h2:bd l<=max 1 (bd l):=Nat.le_max_right _ _;have h3:max 1 (bd l)<=2000000:=RJ hz2;omega
 have HR:=aa (hr.below z);have HL:=aa (aO.below z _ _ hl);have q1:(K==1)=false:=by rcases hK with rfl|rfl<;>rfl
 have q2:(K==2)=false:=by rcases hK with rfl|rfl<;>rfl
 have q3:(K==3)=false:=by rcases hK with rfl|rfl<;>rfl
 have q4:(K==4)=false:=by rcases hK with rfl|rfl<;>rfl
 have q7:(K==7)=false:=by rcases hK with rfl|rfl<;>rfl
 have q8:(K==8)=false:=by rcases hK with rfl|rfl<;>rfl
 have a7:=aa E;have d6:=aa c3;have c8:=aa z;have d1:=aa b6;have HA:=aa hA;have N:=aa b8;clear hK b6 z E c3 b8 ih hok hr hl hA hz hz2 hp hne;obtain⟨i0,hi,b7,b9,c0⟩:=zz lM;go_enter func30,ntmps30;go_upto_region 1 with fail;rw[d1.out];generalize hS:w.heap.size=S at *;go_wp2_with fail
 go_loopw [9,10] (λov iv wr=>∃(i:Nat) (x:List Tm) (F:List Value),iv=Vi i/\i<=l.length/\wr.ownsRow q.heap.size 58 6 ov x.length F/\aO wr (λg=>(A g\/q.heap.size<=g)/\ov.ownBlock≠some g) x F/\dj c (l.take i) x/\Bw q wr) (λ_ iv _=>l.length-(intOf iv).toNat)
 case atStart=>exact⟨0,[],[],rfl,zW _,zZ _ _ _ _,rfl,trivial,zE _ _⟩
 case round=>
  obtain⟨i,x,F,rfl,e0,k,G,o,a⟩:=hrel;obtain⟨B,p,rfl⟩:=cd k;have HO:=aa k;have HU:=aa G;have Y:=aa o;have y:=aa a;have a1:q.heap.size<=wr.heap.size:=a.size;have i1:(0:Int)<=(i:Int):=zK _;have a2:wr.cell? (aD S 2)=some (.slice lo l.length lc):=(a7.below a).cell 2;have e2:wr.cell? (aD S 0)=some (Vi K):=(a7.below a).cell 0;have f6:S<wr.heap.size:=(a7.below a).lt;clear k G o a;by_cases d7:i<l.length
  ·have i2:(i:Int)<(l.length:Int):=by omega
   obtain⟨t,ht⟩:∃t,l[i]?=some t:=⟨_,zB d7⟩;have c9:Hid (l.take (i+1)=l.take i++[t]):=by show _=_;rw[zi,ht];rfl
   obtain⟨b,f9,d,rfl,hb,hv,hc⟩:=HR.out.get HL.out ht;obtain⟨e1,e3,e4,e7,e6,e8,mx,nx,sx,rfl,_⟩:=hv.form;obtain⟨y0,y1,y2,y3,y4,y5⟩:=oT y.out hb hc;have f8:b<wr.heap.size:=zF hb a1;have HC:=aa (c6 i t wr _ _ _ _ _ _ _ _ _ ht y hv);clear hc hv ht;go_wp2_with fail;refine HC.mono ?_;rintro e w5 ⟨t5,L,M,Q,a4,W,a6,m5,n5,s5,rfl,c4,b5,D⟩;obtain⟨U3,b2,r,O,-⟩:=dS (rfl:w5.heap.size=_) (TC t5.kind L M Q a4 W a6 m5 n5 s5) 58;replace O:=aa O;have c7:=aa b2;have b1:=aa (bg (bg HO D) r);have I:Hid (Bw wr U3):=D.trans (r.mono D.size);have R:Hid (Bw q U3):=y.trans (I.mono a1);have d3:=aa (aj.below r _ _ c4);have d5:=aa b5;have d9:x.length<=2000000:=by have:=Y.len;rw[yn]at this;omega
   clear b2 r c4 b5 D HC;go_wp2_with (at_builtin;rw[c7.out];refine jg rfl (.tmp 96) (.tmp 104) 56 58 i0 _ 6 88 rfl underlying56 hi b7 b9 c0 rfl (by decide) q.heap.size x.length _ _ rfl b1 _ 1 _ (TC t5.kind L M Q a4 W a6 m5 n5 s5) rfl rfl (by decide) (λj u hj=>by rw[zl,zf,O.out.cell];exact hj) (sD _ _ _ _ _ _ _ _ _ _) (by unfold maxLen;omega) (by omega) R.size ?_;intro v4 w4 C J H;have HF:=aa (And.intro C (And.intro J H));clear C J H)
   go_roundw
   case rel=>
    refine⟨i+1,x++[t5],F++TC t5.kind L M Q a4 W a6 m5 n5 s5,by go_num,by omega,by simpa using HF.1,?_,by rw[c9.out];exact Y.snoc d5,cD R R.size b1 HF.2.1⟩;exact CK HF.2.1 HF.2.2 I HU d3 (λg e=>HO.lt g e) (λg h=>by have:=HA.out g h;have:=N.out;omega) a1
   case measure=>simp[intOf];omega
  ·have i2:decide ((i:Int)<(l.length:Int))=false:=zI (by omega);obtain rfl:i=l.length:=by omega
   have d8:=aa (c5 wr B p x F y HO (aO.mono (λg _ h=>h.1) _ _ HU) (by have:=Y.out;rwa [zQ]at this));go_wp2_with fail;refine d8.mono ?_;rintro e w3 ⟨t3,a8,b3,c1,c2,b4,a9,m3,n3,s3,rfl,d0,d4,r⟩;have U:=(d6.below y).below r;obtain⟨r0,r1,r2,r3,r4,r5⟩:=U.six;obtain⟨f0,f1,f2,f3,f4,f5,f7⟩:=U.ice;have d2:Hid (Below S w w3):=(c8.trans (y.mono (by have:=N.out;omega))).trans (r.mono (by have:=N.out;omega));clear r U;go_wp2_with fail;refine zN (v:=.agg #[Vi (Tm.kind t3),.slice a8 b3 c1,.slice c2 b4 a9,Vi m3,Vi n3,.string s3]) (by simp[results,results30,go_sem,r0,r1,r2,r3,r4,r5]) rfl ⟨t3,a8,b3,c1,c2,b4,a9,m3,n3,s3,rfl,?_,d4,?_⟩
   ·rw[hS];exact aj.mono (λg _ f=>by rcases f with f|f;exact .inl f;exact .inr (by omega)) _ _ (dP d0 (λg h=>by have:=HA.out g h;omega) _ _ _ _ _ _)
   ·rw[hS];exact bC d2 _ _ _ _ _ _
theorem fB (h:Bw a w')(o:Obj):Bw a (w'.alloc o):=h.alloc h.size o
theorem OB (h:Bw a w')(o:Obj):Bw a (w'.alloc o).drew:=(h.alloc h.size o).drew
theorem wy {w6:World}{Z X s5 Y ka:Nat}{t6:Tm}(h:aj w6 (λg=>(A g\/(X<g/\g<s5))\/(Y<g/\g<w6.heap.size)) t6 cs)(hX:Z<=X)(hY:Z<=Y)(hA:∀g,A g->g<Z)(hk:Z<=ka)(h1:ka<=X\/s5<=ka)(h2:ka<=Y\/w6.heap.size<=ka):aj w6 (λg=>(A g\/Z<=g)/\g≠ka) t6 cs:=by
 refine aj.mono (λg a h=>?_) _ _ h;rcases h with (h|h)|h
 ·have:=hA g h;exact⟨.inl h,by omega⟩
 ·exact⟨.inr (by omega),by omega⟩
 ·exact⟨.inr (by omega),by omega⟩
theorem bL {b c:World}(h:Bw a b)(k:Bw b c):Bw a c:=h.trans (k.mono h.size)
theorem OC {q:Tm}{soy:OA}{sny scy:Nat}{loy:OA}{lny lcy:Nat}{my ny:Int}{sy:ByteArray}(c:Int)(hA:∀g,A g->g<w.heap.size)(ip:qF p)(iq:qF q)(pk:p.Ok)(qk:q.Ok)(hpl:place c)(hz:(p.z+q.z)*(p.tl+q.tl+12)<=3000000000000000000)(hz2:bZ (p.z+q.z)<=2000000000000)(hbl:b<w.heap.size)(hrow:∀j v,(TC p.kind sox snx scx lox lnx lcx mx nx sx++TC q.kind soy sny scy loy lny lcy my ny sy)[j]?=some v->w.cell? ⟨b,off+j,none⟩=some v)(hp:aj w A p (TC p.kind sox snx scx lox lnx lcx mx nx sx))(hq:aj w A q (TC q.kind soy sny scy loy lny lcy my ny sy)):Calls prog 30 #[.agg #[Vi 4,Vz,.slice (some (aD b off)) 2 lc,Vi 0,Vi 0,.string s],Vi c] w (eH w A (Gd (aX (aJ p.L q.L) (back c)) (bZ (p.z+q.z)) ((p.z+q.z)*(p.tl+q.tl+12)))):=by
 obtain⟨d,f9,G,b5,g7,e0⟩:=jK (rfl:w.heap.size=_) (TC 4 none 0 0 (some (aD b off)) 2 lc 0 0 s) 58 TZ 58;have a0:d.cell? (aD w.heap.size 0)=some (Vi 4):=b5.cell 0;have l3:d.cell? (aD w.heap.size 2)=some (.slice (some (aD b off)) 2 lc):=b5.cell 2;have c8:=b5.lt;have b9:b<d.heap.size:=zF hbl G.size;obtain⟨l7,i5,m2,i4,j1,n3⟩:=oT G hbl (CT.fst hrow);obtain⟨i0,k7,l0,i1,i3,l1⟩:=oT G hbl (CT.snd hrow);have j4:=YD (ta:=p.tl) (tb:=q.tl) (fE p) (fE q);have n0:=Xq (zb:=q.z) (fE p);have E:Hid (∀a,Bw d a->(Bw d a/\a.cell? (aD w.heap.size 2)=some (.slice (some (aD b off)) 2 lc)/\CT a b off p.kind sox snx scx lox lnx lcx mx nx sx/\CT a b (off+6) q.kind soy sny scy loy lny lcy my ny sy)):=λa h=>⟨h,(h.cell (p:=(aD w.heap.size 2)) c8).trans l3,CT.below h b9 ⟨l7,i5,m2,i4,j1,n3⟩,CT.below h b9 ⟨i0,k7,l0,i1,i3,l1⟩⟩;have HL:Hid (∀a,Bw d a->Calls prog 30 #[.agg #[Vi p.kind,.slice sox snx scx,.slice lox lnx lcx,Vi mx,Vi nx,.string sx],Vi c] a λe i=>∃t R P Q lo K lc m n s,e=.returned (.agg #[Vi (Tm.kind t),.slice R P Q,.slice lo K lc,Vi m,Vi n,.string s])/\aj i (λg=>A g\/(a.heap.size<g/\g<i.heap.size)) t (TC t.kind R P Q lo K lc m n s)/\Gd (aX p.L (back c)) (bZ p.z) (p.z*p.tl) t/\Bw a i/\Bw d i):=λa h=>by
  refine (ip a A _ _ _ _ _ _ _ _ _ c (λg f=>by have h1:=hA g f;have h2:=G.size;have h3:=h.size;omega) (aj.below h _ _ (aj.below G _ _ hp)) pk hpl (by omega) (by omega)).mono ?_;rintro e i ⟨t,R,P,Q,lo,K,lc,m,n,s,rfl,g1,g2,g3⟩;exact⟨t,R,P,Q,lo,K,lc,m,n,s,rfl,aj.mono (λg f h=>by rcases h with h|h;exact .inl h;exact .inr ⟨h,f⟩) _ _ g1,g2,g3,bL h g3⟩
 have HP:Hid (∀(i a:World) (X:Nat) (t5:Tm) (b6:Option Addr) (c2 c4:Nat) (b7:Option Addr) (c0 b8:Nat) (m5 n5:Int) (s5:ByteArray),Bw d a->Bw i a->aj i (λg=>A g\/(X<g/\g<i.heap.size)) t5 (TC t5.kind b6 c2 c4 b7 c0 b8 m5 n5 s5)->Gd (aX p.L (back c)) (bZ p.z) (p.z*p.tl) t5 ->
   Calls prog 38 #[.agg #[Vi t5.kind,.slice b6 c2 c4,.slice b7 c0 b8,Vi m5,Vi n5,.string s5],.agg #[Vi q.kind,.slice soy sny scy,.slice loy lny lcy,Vi my,Vi ny,.string sy]] a λe T=>∃t R P Q lo K lc m n s,e=.returned (.agg #[Vi (Tm.kind t),.slice R P Q,.slice lo K lc,Vi m,Vi n,.string s])/\aj T (λg=>(A g\/(X<g/\g<i.heap.size))\/(a.heap.size<g/\g<T.heap.size)) t (TC t.kind R P Q lo K lc m n s)/\Gd (aJ (aX p.L (back c)) q.L) (bZ p.z+q.z) (p.z*p.tl+q.tl+12) t/\Bw a T/\Bw d T):=λi a X t5 b6 c2 c4 b7 c0 b8 m5 n5 s5 h h5 c3 a1=>by
  have h1:=a1.z;have h2:=a1.tl;have h3:=h5.size;have h4:=h.size;have h6:=G.size;refine (nY t5 a (λg=>A g\/(X<g/\g<i.heap.size)) q _ _ _ _ _ _ _ _ _ _ _ _ _ _ _ _ _ _ (λg f=>by rcases f with f|f;have:=hA g f;omega;omega) (aj.below h5 _ _ c3) (aj.mono (λg _ f=>.inl f) _ _ (aj.below h _ _ (aj.below G _ _ hq))) a1.ok qk (by omega)).mono ?_;rintro e T ⟨t,R,P,Q,lo,K,lc,m,n,s,rfl,g1,g2,g3⟩;exact⟨t,R,P,Q,lo,K,lc,m,n,s,rfl,aj.mono (λg f h=>by rcases h with h|h;exact .inl h;exact .inr ⟨h,f⟩) _ _ g1,⟨g2.ok,by rw[g2.lg,a1.lg],by have:=g2.z;omega,by have:=g2.tl;omega⟩,g3,bL h g3⟩
 have i2:Hid (∀a,Bw d a->Calls prog 29 #[.agg #[Vi p.kind,.slice sox snx scx,.slice lox lnx lcx,Vi mx,Vi nx,.string sx]] a λe D=>∃v:Bool,e=.returned (.bool v)/\(v=true↔p.L [])/\Bw a D):=λa h=>iR p a A _ _ _ _ _ _ _ _ _ (aj.below h _ _ (aj.below G _ _ hp)) pk (by have h1:=fE p;have h2:1*p.tl<=p.z*p.tl:=zn _ h1;omega);have j8:Hid (∀C,¬p.L []->Gd (aJ (aX p.L (back c)) q.L) (bZ p.z+q.z) (p.z*p.tl+q.tl+12) C->Gd (aX (aJ p.L q.L) (back c)) (bZ (p.z+q.z)) ((p.z+q.z)*(p.tl+q.tl+12)) C):=λC hn h=>⟨h.ok,by rw[h.lg,rK,zR hn],by have:=h.z;omega,by have:=h.tl;omega⟩;have n2:Hid (∀a,Bw d a->Calls prog 30 #[.agg #[Vi q.kind,.slice soy sny scy,.slice loy lny lcy,Vi my,Vi ny,.string sy],Vi c] a λe i=>∃t R P Q lo K lc m n s,e=.returned (.agg #[Vi (Tm.kind t),.slice R P Q,.slice lo K lc,Vi m,Vi n,.string s])/\aj i (λg=>A g\/(a.heap.size<g/\g<i.heap.size)) t (TC t.kind R P Q lo K lc m n s)/\Gd (aX q.L (back c)) (bZ q.z) (q.z*q.tl) t/\Bw a i/\Bw d i):=λa h=>by
  refine (iq a A _ _ _ _ _ _ _ _ _ c (λg f=>by have h1:=hA g f;have h2:=G.size;have h3:=h.size;omega) (aj.below h _ _ (aj.below G _ _ hq)) qk hpl (by omega) (by omega)).mono ?_;rintro e i ⟨t,R,P,Q,lo,K,lc,m,n,s,rfl,g1,g2,g3⟩;exact⟨t,R,P,Q,lo,K,lc,m,n,s,rfl,aj.mono (λg f h=>by rcases h with h|h;exact .inl h;exact .inr ⟨h,f⟩) _ _ g1,g2,g3,bL h g3⟩
 have l9:Hid (∀(D:World) (C:Tm) (o:Option Addr) (r B:Nat) (z:Option Addr) (y x:Nat) (O N:Int) (M:ByteArray) (F:Nat),p.L []->aj D (λg=>(A g\/d.heap.size<=g)/\g≠F) C (TC C.kind o r B z y x O N M)->Gd (aJ (aX p.L (back c)) q.L) (bZ p.z+q.z) (p.z*p.tl+q.tl+12) C->Bw d D ->
   ∀(w8:World) (t8:Tm) (V:Option Addr) (U a5:Nat) (a7:Option Addr) (Y Z:Nat) (m8 n8:Int) (s8:ByteArray),Bw D w8->aj w8 (λg=>A g\/(D.drew.heap.size<g/\g<w8.heap.size)) t8 (TC t8.kind V U a5 a7 Y Z m8 n8 s8)->Gd (aX q.L (back c)) (bZ q.z) (q.z*q.tl) t8 ->
   Calls prog 34 #[Vs w8.heap.size 2 2,Vi 5] (w8.alloc (.cells #[Vi C.kind,.slice o r B,.slice z y x,Vi O,Vi N,.string M,Vi t8.kind,.slice V U a5,.slice a7 Y Z,Vi m8,Vi n8,.string s8] 58)) λe w9=>∃t R P Q lo K lc m n s,e=.returned (.agg #[Vi (Tm.kind t),.slice R P Q,.slice lo K lc,Vi m,Vi n,.string s])/\Hid (aj w9 (λg=>A g\/w.heap.size+1<g) t (TC t.kind R P Q lo K lc m n s))/\Hid (Gd (aX (aJ p.L q.L) (back c)) (bZ (p.z+q.z)) ((p.z+q.z)*(p.tl+q.tl+12)) t)/\Bw D w9):=λD C o r B z y x O N M F hy c5 a3 b1 w8 t8 V U a5 a7 Y Z m8 n8 s8 b0 c6 W=>by
  obtain⟨W9,d9,a9,-,-⟩:=dS (rfl:w8.heap.size=_) (TC C.kind o r B z y x O N M++TC t8.kind V U a5 a7 Y Z m8 n8 s8) 58;have g6:=nP w8 (TC C.kind o r B z y x O N M++TC t8.kind V U a5 a7 Y Z m8 n8 s8) 58;rw[d9]at g6;have s1:=b1.size;have s2:=b0.size;have s3:=a9.size;have z6:=a3.z;have l6:=a3.tl;have z8:=W.z;have l8:=W.tl;have o2:D.drew.heap.size=D.heap.size:=rfl;have k6:aO W9 (λg=>(A g\/d.heap.size<=g)/\g<W9.heap.size) [C,t8] (TC C.kind o r B z y x O N M++TC t8.kind V U a5 a7 Y Z m8 n8 s8):=aO.append (l:=[C]) (aO.one (aj.mono (λg f h=>⟨h.1,f⟩) _ _ (aj.below a9 _ _ (aj.below b0 _ _ c5)))) (aO.one (aj.mono (λg f h=>⟨by rcases h with h|h;exact .inl h;exact .inr (by omega),f⟩) _ _ (aj.below a9 _ _ c6)));have hc:=sT (.inl rfl) (lo:=some (aD w8.heap.size 0)) (lc:=2) (λg f=>f.2) (g6.mono (λg f h=>⟨.inr (by omega),f⟩)) k6 ⟨a3.ok,W.ok,trivial⟩ (by simp) (by simp only[bw];omega) (by simp only[bd];omega);rw[<-d9]at hc;refine Calls.mono hc ?_;rintro e w9 ⟨t,R,P,Q,lo,K,lc,m,n,s,rfl,g1,g2,g3⟩;rw[d9]at g1 g3;refine⟨t,R,P,Q,lo,K,lc,m,n,s,rfl,?_,⟨g2.ok,?_,?_,?_⟩,(b0.trans (a9.mono s2)).trans (g3.mono (by omega))⟩
  ·exact aj.mono (λg _ f=>by rcases f with⟨f|f,_⟩|f;exact .inl f;exact .inr (by omega);exact .inr (by omega)) _ _ g1
  ·funext u;rw[rK,zX hy];refine propext ((g2.or rfl u).trans ?_);simp only[kI,or_false];rw[a3.lg,W.lg];rfl
  ·have:=g2.z;simp only[bd]at this;have:=Bk (fE p);omega
  ·have:=g2.tl;simp only[bw]at this;omega
 have m1:Hid (∀i T:World,Below (d.alloc (.cells #[Vi 0,Vz,Vz,Vi 0,Vi 0,.string ⟨#[]⟩] 58)).drew.heap.size (d.alloc (.cells #[Vi 0,Vz,Vz,Vi 0,Vi 0,.string ⟨#[]⟩] 58)).drew i->Bw i T->ag T d.heap.size TZ 58):=λi T h1 h2=>by
  have h3:=ag.new d TZ 58;exact (h3.below (ku h1)).below h2
 have j9:Hid (∀(i:World) (F:Nat),i.heap.size=F->Bw d i->d.heap.size<=F):=λi F e h=>by rw[<-e];exact h.size
 have i7:Hid (∀i:World,∃F:Nat,i.heap.size=F):=λi=>⟨_,rfl⟩;have j2:Hid (∀(i T:World) (F:Nat),i.heap.size=F->Below (i.alloc (.cells #[Vi 0,Vz,Vz,Vi 0,Vi 0,.string ⟨#[]⟩] 58)).heap.size (i.alloc (.cells #[Vi 0,Vz,Vz,Vi 0,Vi 0,.string ⟨#[]⟩] 58)) T->ag T F TZ 58):=λi T F e h1=>by
  subst e;have h3:=ag.new i TZ 58;exact h3.below h1
 have f6:=aa g7;have e6:=aa G;have j0:=aa f9;have HA:=aa hA;have b4:=aa e0;have j6:Hid (∀(D a:World),Bw d D->Bw D a->ag a (w.heap.size+1) TZ 58):=λD a h k=>f6.out.below (bL h k);have d7:Hid (∀g,A g->g<d.heap.size):=λg h=>by have:=hA g h;omega
 clear hrow hp hq pk qk f9 G b5 g7 hA ip iq hz hz2 j4 n0 hpl e0;go_enter func30,ntmps30;go_upto_region 1 with fail;rw[j0.out];generalize hS:w.heap.size=S at *;go_upto_region 18 with fail
 go_cut [7] (λv wx=>∃(F:Nat) (C:Tm) (o:Option Addr) (r B:Nat) (z:Option Addr) (y x:Nat) (O N:Int) (M:ByteArray),v=Vp F/\Hid (ag wx F (TC C.kind o r B z y x O N M) 58/\d.heap.size<=F/\aj wx (λg=>(A g\/d.heap.size<=g)/\g≠F) C (TC C.kind o r B z y x O N M)/\Gd (aJ (aX p.L (back c)) q.L) (bZ p.z+q.z) (p.z*p.tl+q.tl+12) C/\Bw d wx))
 case first=>
  have d1:=aa (E.out d.drew (jw d))
  go_region_held3 (λa=>Bw d a/\a.cell? (aD S 2)=some (.slice (some (aD b off)) 2 lc)/\CT a b off p.kind sox snx scx lox lnx lcx mx nx sx/\CT a b (off+6) q.kind soy sny scy loy lny lcy my ny sy)
   (first|with_reducible exact d1.out|with_reducible exact E.out _ a8.out|with_reducible exact E.out _ H.out|with_reducible exact E.out _ (fB H.out _)|with_reducible exact E.out _ (fB a8.out _)|with_reducible exact E.out _ (fB H.out _)|with_reducible exact E.out _ (fV H.out (zA _) _ _ _ _ _ _)|with_reducible exact E.out _ (fV H.out c1.out _ _ _ _ _ _)|with_reducible exact E.out _ (OB (zE _ _) _)|fail)
   (first
    |(go_at_call 30;with_reducible refine (HL.out _ (‹Bw d _/\_›.1)).mono ?_;rintro e i ⟨t5,b6,c2,c4,b7,c0,b8,m5,n5,s5,rfl,c3,a1,h7,g5⟩;have a8:=aa g5;have l4:=aa c3;have m3:=aa a1;have l2:=aa h7;clear c3 a1 h7 g5)
    |(go_at_call 38;with_reducible refine (HP.out i _ _ t5 _ _ _ _ _ _ _ _ _ (‹Bw d _/\_›.1) (by first|with_reducible exact zE _ _|with_reducible exact fB (zE _ _) _) l4.out m3.out).mono ?_;rintro e T ⟨C,o,r,B,z,y,x,O,N,M,rfl,c5,a3,g8,g4⟩;have H:=aa g4;have d4:=aa c5;have d6:=aa a3;have d0:=aa g8;clear c5 a3 g8 g4;(first|(with_reducible have L:=m1.out _ _ l2.out d0.out;obtain⟨r0,r1,r2,r3,r4,r5⟩:=L.six;obtain⟨f0,f1,f2,f3,f4,f5,d2⟩:=L.ice;have c7:=aa L;clear L)|(obtain⟨F,b3⟩:=i7.out i;with_reducible have L:=j2.out _ _ F b3 d0.out;obtain⟨r0,r1,r2,r3,r4,r5⟩:=L.six;obtain⟨f0,f1,f2,f3,f4,f5,d2⟩:=L.ice;have c7:=aa L;clear L;rw[b3];have c1:=aa (j9.out _ _ b3 a8.out);have f8:=aa b3;clear b3;skip)|skip))
    |fail)
  ·go_wp2_with fail
   go_meet
   case rel=>exact⟨T.heap.size,C,o,r,B,z,y,x,O,N,M,rfl,ag.new T (TC C.kind o r B z y x O N M) 58,H.out.size,aj.below (fB (zE _ _) _) _ _ (wy d4.out (zA d.heap.size) a8.out.size d7.out H.out.size (.inr d0.out.size) (.inr (zA _))),d6.out,fB H.out _⟩
  ·go_wp2_with fail
   go_meet
   case rel=>exact⟨F,C,o,r,B,z,y,x,O,N,M,rfl,c7.out.sixS _ _ _ _ _ _,c1.out,gR (wy d4.out (zA d.heap.size) (by have:=a8.out.size;simp;omega) d7.out c1.out (.inr (by rw[f8.out];exact zA _)) (.inl (by have:=f8.out;simp;omega))) (λh=>h.2 rfl) _ _ _ _ _ _,d6.out,fV H.out c1.out _ _ _ _ _ _⟩
  ·go_wp2_with fail
   go_meet
   case rel=>exact⟨d.heap.size,C,o,r,B,z,y,x,O,N,M,rfl,c7.out.sixS _ _ _ _ _ _,zA _,gR (wy d4.out (by show d.heap.size<=(d.alloc _).heap.size;simp) a8.out.size d7.out (zA _) (.inl (by show d.heap.size<=(d.alloc _).heap.size;simp)) (.inl a8.out.size)) (λh=>h.2 rfl) _ _ _ _ _ _,d6.out,fV H.out (zA _) _ _ _ _ _ _⟩
 case rest=>
  obtain⟨F,C,o,r,B,z,y,x,O,N,M,rfl,J⟩:=hcut;have a4:Bw d wc:=J.out.2.2.2.2;have a2:wc.cell? (aD S 2)=some (.slice (some (aD b off)) 2 lc):=(E.out wc a4).2.1;obtain⟨x0,x1,x2,x3,x4,x5⟩:=(E.out wc a4).2.2.1;have j7:b<wc.heap.size:=zF b9 a4.size;have m4:S<wc.heap.size:=zF c8 a4.size;have h0:=aa (i2.out wc a4);have j5:=aa a4;clear a4;go_wp2_with fail;refine h0.out.mono ?_;rintro e D ⟨v,rfl,e4,b1⟩;have e8:=aa e4;have I:Hid (Bw d D):=bL j5.out b1;have d5:=aa (J.out.1.below b1);have g9:=aa (aj.below b1 _ _ J.out.2.2.1);have o1:b<D.heap.size:=zF b9 I.out.size;have n7:S<D.heap.size:=zF c8 I.out.size;have h8:F<D.heap.size:=d5.out.lt;have n4:S+1<F:=by have:=J.out.2.1;have:=b4.out;omega
  have o0:b<S:=hbl;clear e4 b1 a2 x0 x1 x2 x3 x4 x5 h0 j7 m4;cases v with
  |false=>
   have n1:Hid (¬p.L []):=λh=>by have:=e8.out.2 h;cases this
   obtain⟨k0,k1,k2,k3,k4,k5⟩:=d5.out.six;have d8:=f6.out.below I.out;obtain⟨r0,r1,r2,r3,r4,r5⟩:=d8.six;obtain⟨f0,f1,f2,f3,f4,f5,d2⟩:=d8.ice;clear d8;go_wp2_with fail;refine zN (v:=.agg #[Vi (Tm.kind C),.slice o r B,.slice z y x,Vi O,Vi N,.string M]) (by simp[results,results30,go_sem,r0,r1,r2,r3,r4,r5]) rfl ⟨C,o,r,B,z,y,x,O,N,M,rfl,?_,j8.out C n1.out J.out.2.2.2.1,?_⟩
   ·rw[hS];exact aj.mono (λg _ f=>by rcases f with⟨f|f,_⟩;exact .inl f;exact .inr (by have:=b4.out;omega)) _ _ (gR g9.out (λh=>by rcases h with⟨h|h,_⟩;have:=HA.out _ h;omega;have:=b4.out;omega) _ _ _ _ _ _)
   ·rw[hS];exact bC (e6.out.trans (I.out.mono (by have:=b4.out;omega))) _ _ _ _ _ _
  |true=>
   have e1:Hid (p.L []):=e8.out.1 rfl;obtain⟨k0,k1,k2,k3,k4,k5⟩:=d5.out.six;have a6:Hid (∀a,Bw D a->(Bw D a/\a.cell? (aD S 2)=some (.slice (some (aD b off)) 2 lc)/\CB a F C.kind o r B z y x O N M/\CT a b (off+6) q.kind soy sny scy loy lny lcy my ny sy)):=λa h=>⟨h,(E.out a (bL I.out h)).2.1,CB.below h h8 ⟨k0,k1,k2,k3,k4,k5⟩,(E.out a (bL I.out h)).2.2.2⟩;have e7:=aa (l9.out D C _ _ _ _ _ _ _ _ _ F e1.out g9.out J.out.2.2.2.1 I.out);have i8:S+1≠S:=by omega
   have k8:S+1≠b:=by omega
   have j3:S+1≠F:=by omega
   have d1:=aa (a6.out D.drew (jw D));have l5:=aa (n2.out D.drew (bL I.out (jw D)));clear k0 k1 k2 k3 k4 k5;go_wp2_with fail
   go_region_held3 (λa=>a.cell? (aD S 2)=some (.slice (some (aD b off)) 2 lc)/\CB a F C.kind o r B z y x O N M/\CT a b (off+6) q.kind soy sny scy loy lny lcy my ny sy)
    (first|with_reducible exact d1.out.2|with_reducible exact (a6.out _ c9.out).2|with_reducible exact (a6.out _ (fB c9.out _)).2|with_reducible exact (a6.out _ b2.out).2|with_reducible exact⟨JK i8 (a6.out _ b2.out).2.1,CB.far j3 (a6.out _ b2.out).2.2.1,CT.far k8 (a6.out _ b2.out).2.2.2⟩|fail)
    (first
     |(go_at_call 30;with_reducible refine l5.out.mono ?_;rintro e w8 ⟨t8,V,U,a5,a7,Y,Z,m8,n8,s8,rfl,c6,W,b0,i6⟩;have c9:=aa (ku b0);have m7:=aa c6;have k9:=aa W;clear c6 W b0 i6)
     |(go_at_call 34;with_reducible refine (e7.out w8 t8 _ _ _ _ _ _ _ _ _ c9.out m7.out k9.out).mono ?_;rintro e w9 ⟨t9,g0,h9,e9,e3,e5,f7,m9,n9,s9,rfl,i9,m0,e2⟩;have b2:=aa e2;have d3:=j6.out _ _ I.out b2.out;obtain⟨r0,r1,r2,r3,r4,r5⟩:=d3.six;obtain⟨f0,f1,f2,f3,f4,f5,d2⟩:=d3.ice;clear d3 e2)
     |fail)
   go_wp2_with fail;refine zN (v:=.agg #[Vi (Tm.kind t9),.slice g0 h9 e9,.slice e3 e5 f7,Vi m9,Vi n9,.string s9]) (by simp[results,results30,go_sem,r0,r1,r2,r3,r4,r5]) rfl ⟨t9,g0,h9,e9,e3,e5,f7,m9,n9,s9,rfl,?_,m0.out,?_⟩
   ·rw[hS];exact aj.mono (λg _ f=>by rcases f with f|f;exact .inl f;exact .inr (by omega)) _ _ (dP i9.out (λg h=>by have:=HA.out g h;omega) _ _ _ _ _ _)
   ·rw[hS];exact bC (e6.out.trans ((bL I.out b2.out).mono (by have:=b4.out;omega))) _ _ _ _ _ _
theorem Ac (c:Int)(hA:∀g,A g->g<w.heap.size)(ip:qF p)(pk:p.Ok)(hpl:place c)(hm0:0<=m)(hm5:m<=5)(hn:n=-1\/(0<n/\m<=n/\n<=5))(hz:(p.z+1)*(p.tl+12)<=3000000000000000000)(hz2:bZ (p.z+1)<=2000000000000)(hbl:b<w.heap.size)(hrow:∀j v,(TC p.kind sox snx scx lox lnx lcx mx nx sx)[j]?=some v->w.cell? ⟨b,off+j,none⟩=some v)(hp:aj w A p (TC p.kind sox snx scx lox lnx lcx mx nx sx)):Calls prog 30 #[.agg #[Vi 8,Vz,.slice (some (aD b off)) 1 lc,Vi m,Vi n,.string s],Vi c] w (eH w A (Gd (aX (dB p.L m n) (back c)) (bZ (p.z+1)) ((p.z+1)*(p.tl+12)))):=by
 obtain⟨a,a6,o,D,b4,b6⟩:=jK (rfl:w.heap.size=_) (TC 8 none 0 0 (some (aD b off)) 1 lc m n s) 58 TZ 58;have a0:a.cell? (aD w.heap.size 0)=some (Vi 8):=D.cell 0;have c6:a.cell? (aD w.heap.size 2)=some (.slice (some (aD b off)) 1 lc):=D.cell 2;have b3:a.cell? (aD w.heap.size 3)=some (Vi m):=D.cell 3;have e8:a.cell? (aD w.heap.size 4)=some (Vi n):=D.cell 4;have a4:=D.lt;have G:b<a.heap.size:=zF hbl o.size;obtain⟨d4,d3,d2,e6,d9,d5⟩:=oT o hbl hrow;have c8:=Xp (t:=p.tl) (fE p);have e5:=Vu p.z;have d7:1*p.tl<=p.z*p.tl:=zn _ (fE p);have b7:bA m=max (m-1) 0:=by unfold bA;split<;>omega
 have c4:IntKind.i64.wrap (m-1)=m-1:=by rw[IntKind.wrap_i64]<;>omega
 obtain⟨F,hF⟩:∃F,bA n=F:=⟨_,rfl⟩;have b1:(n=-1/\F=-1)\/(0<n/\F=n-1):=by
  rw[<-hF];unfold bA;rcases hn with rfl|h
  ·exact .inl ⟨rfl,rfl⟩
  ·exact .inr ⟨h.1,zX h.1⟩
 have e1:=aa b1;obtain⟨S,q⟩:∃S,w.heap.size=S:=⟨_,rfl⟩;have l:Hid (∀d,Bw a d->(d.cell? (aD S 2)=some (.slice (some (aD b off)) 1 lc)/\d.cell? (aD S 3)=some (Vi m)/\CT d b off p.kind sox snx scx lox lnx lcx mx nx sx)):=λd h=>by
  rw[<-q];exact⟨(h.cell (p:=(aD w.heap.size 2)) a4).trans c6,(h.cell (p:=(aD w.heap.size 3)) a4).trans b3,(h.cell (p:=(aD b off)) G).trans d4,(h.cell (p:=⟨b,off+1,none⟩) G).trans d3,(h.cell (p:=⟨b,off+2,none⟩) G).trans d2,(h.cell (p:=⟨b,off+3,none⟩) G).trans e6,(h.cell (p:=⟨b,off+4,none⟩) G).trans d9,(h.cell (p:=⟨b,off+5,none⟩) G).trans d5⟩
 have HL:Hid (∀d,Bw a d->Calls prog 30 #[.agg #[Vi p.kind,.slice sox snx scx,.slice lox lnx lcx,Vi mx,Vi nx,.string sx],Vi c] d λe Y=>∃t B C z y x lc mm nn s,e=.returned (.agg #[Vi (Tm.kind t),.slice B C z,.slice y x lc,Vi mm,Vi nn,.string s])/\aj Y (λg=>A g\/a.heap.size<g) t (TC t.kind B C z y x lc mm nn s)/\Gd (aX p.L (back c)) (bZ p.z) (p.z*p.tl) t/\Bw d Y/\Bw a Y):=λd h=>by
  have h9:=h.size;refine (ip d A _ _ _ _ _ _ _ _ _ c (λg f=>by have h1:=hA g f;have h2:=o.size;omega) (aj.below h _ _ (aj.below o _ _ hp)) pk hpl (by omega) (by omega)).mono ?_;rintro e Y ⟨t,B,C,z,y,x,lc,m,n,s,rfl,g1,g2,g3⟩;exact⟨t,B,C,z,y,x,lc,m,n,s,rfl,aj.mono (λg f h=>by rcases h with h|h;exact .inl h;exact .inr (by omega)) _ _ g1,g2,g3,bL h g3⟩
 have HT:Hid (∀d,Bw a d->Calls prog 36 #[.agg #[Vi p.kind,.slice sox snx scx,.slice lox lnx lcx,Vi mx,Vi nx,.string sx],Vi (max (IntKind.i64.wrap (m-1)) 0),Vi F] d λe Y=>∃t B C z y x lc mm nn s,e=.returned (.agg #[Vi (Tm.kind t),.slice B C z,.slice y x lc,Vi mm,Vi nn,.string s])/\aj Y (λg=>A g\/a.heap.size<g) t (TC t.kind B C z y x lc mm nn s)/\Gd (dB p.L (max (m-1) 0) F) (p.z+1) (p.tl+12) t/\Bw d Y/\Bw a Y):=λd h=>by
  have h9:=h.size;rw[c4];refine (Cy (A:=A) (max (m-1) 0) F (λg f=>by have h1:=hA g f;have h2:=o.size;omega) (by omega) (by omega) (by omega) (aj.below h _ _ (aj.below o _ _ hp)) pk (by omega)).mono ?_;rintro e Y ⟨t,B,C,z,y,x,lc,m',n',s,rfl,g1,g2,g3⟩;exact⟨t,B,C,z,y,x,lc,m',n',s,rfl,aj.mono (λg f h=>by rcases h with h|h;exact .inl h;exact .inr (by omega)) _ _ g1,g2,g3,bL h g3⟩
 have HP:Hid (∀(d:World) (Z:Tm) (O:Option Addr) (I K:Nat) (V:Option Addr) (N R:Nat) (ma na:Int) (sa:ByteArray) (X:Tm) (T:Option Addr) (U Q:Nat) (L:Option Addr) (P J:Nat) (mb nb:Int) (sb:ByteArray),Bw a d->aj d (λg=>A g\/a.heap.size<g) Z (TC Z.kind O I K V N R ma na sa)->aj d (λg=>A g\/a.heap.size<g) X (TC X.kind T U Q L P J mb nb sb)->Gd (aX p.L (back c)) (bZ p.z) (p.z*p.tl) Z->Gd (dB p.L (max (m-1) 0) F) (p.z+1) (p.tl+12) X ->
   Calls prog 38 #[.agg #[Vi Z.kind,.slice O I K,.slice V N R,Vi ma,Vi na,.string sa],.agg #[Vi X.kind,.slice T U Q,.slice L P J,Vi mb,Vi nb,.string sb]] d λe w6=>∃t B C z y x lc mm nn s,e=.returned (.agg #[Vi (Tm.kind t),.slice B C z,.slice y x lc,Vi mm,Vi nn,.string s])/\Hid (aj w6 (λg=>A g\/S+1<g) t (TC t.kind B C z y x lc mm nn s))/\Hid (Gd (aX (dB p.L m n) (back c)) (bZ (p.z+1)) ((p.z+1)*(p.tl+12)) t)/\Bw a w6):=λd Z O I K V N R ma na sa X T U Q L P J mb nb sb h r u k i=>by
  have z1:=k.z;have z2:=k.tl;have z3:=i.z;have z4:=i.tl;refine (nY Z d (λg=>(λg=>A g\/a.heap.size<g) g/\g<d.heap.size) X _ _ _ _ _ _ _ _ _ _ _ _ _ _ _ _ _ _ (λg f=>f.2) (aj.mono (λg f h=>⟨h,f⟩) _ _ r) (aj.mono (λg f h=>⟨h,f⟩) _ _ u) k.ok i.ok (by omega)).mono ?_;rintro e w6 ⟨t,B,C,z,y,x,lc,m',n',s,rfl,g1,g2,g3⟩;have h9:=h.size;refine⟨t,B,C,z,y,x,lc,m',n',s,rfl,?_,⟨g2.ok,?_,?_,?_⟩,bL h g3⟩
  ·exact aj.mono (λg _ f=>by rcases f with⟨f|f,_⟩|f;exact .inl f;exact .inr (by omega);exact .inr (by omega)) _ _ g1
  ·rw[g2.lg,k.lg,i.lg,GJ hm0 (by omega),b7,hF]
  ·have:=g2.z;omega
  ·have:=g2.tl;omega
 have e3:Hid (ag a (S+1) TZ 58):=by rw[<-q];exact b4
 have e9:Hid (Below S w a):=by rw[<-q];exact o
 have e4:=aa a6;have HA:Hid (∀g,A g->g<S):=by rw[<-q];exact hA
 have e2:Hid (a.heap.size=S+2):=by rw[<-q];exact b6
 have HN:=aa hn;have f6:(0:Int)<=m:=hm0;clear hrow hp pk a6 o D b4 hA ip hz hz2 c8 e5 hpl b6 hn d7 b7 b1 hF c4;rw[q]at a0 c6 b3 e8 a4 hbl;go_enter func30,ntmps30;go_upto_region 1 with fail;rw[e4.out]
 try simp only[q]
 go_upto_if 40 with fail
 go_cut [6]from 39 to 42 (λv wx=>v=Vi F/\a=wx)
 case first=>
  rcases e1.out with⟨rfl,rfl⟩|⟨n1,hF⟩
  ·go_wp2_with fail
   go_meet
   exact⟨rfl,rfl⟩
  ·have n5:n<=5:=by have:=HN.out;omega
   go_wp2_with fail
   go_meet
   exact⟨by rw[hF],rfl⟩
 case rest=>
 obtain⟨rfl,rfl⟩:=hcut;have b5:S+1≠S:=by omega
 have d6:S+1≠b:=by omega
 have d1:=aa (l.out a.drew (jw a));have d8:=aa (HL.out a.drew (jw a));have e0:=aa (HT.out a.drew (jw a));go_wp2_with fail
 go_region_held3 (λd=>d.cell? (aD S 2)=some (.slice (some (aD b off)) 1 lc)/\d.cell? (aD S 3)=some (Vi m)/\CT d b off p.kind sox snx scx lox lnx lcx mx nx sx)
  (first|with_reducible exact d1.out|with_reducible exact l.out _ c1.out|with_reducible exact l.out _ a9.out|with_reducible exact l.out _ a5.out|with_reducible exact l.out _ E.out|with_reducible exact⟨JK b5 (l.out _ E.out).1,JK b5 (l.out _ E.out).2.1,CT.far d6 (l.out _ E.out).2.2⟩|fail)
  (first
   |(go_at_call 30;with_reducible refine (HL.out _ a9.out).mono ?_;rintro e wz ⟨Z,O,I,K,V,N,R,ma,na,sa,rfl,r,k,W,H⟩;have a3:=aa r;have b0:=aa (aj.below W _ _ d0.out);have c2:=aa k;have a5:=aa H;clear r k W H)
   |(go_at_call 36;with_reducible refine (HT.out _ c1.out).mono ?_;rintro e wz ⟨X,T,U,Q,L,P,J,mb,nb,sb,rfl,u,i,a1,M⟩;have b0:=aa u;have c9:=aa (aj.below a1 _ _ a3.out);have c3:=aa i;have a5:=aa M;clear u i a1 M)
   |(go_at_call 30;with_reducible refine d8.out.mono ?_;rintro e wa ⟨Z,O,I,K,V,N,R,ma,na,sa,rfl,r,k,W,H⟩;have a3:=aa r;have c2:=aa k;have c1:=aa H;clear r k W H)
   |(go_at_call 36;with_reducible refine e0.out.mono ?_;rintro e wb ⟨X,T,U,Q,L,P,J,mb,nb,sb,rfl,u,i,a1,M⟩;have d0:=aa u;have c3:=aa i;have a9:=aa M;clear u i a1 M)
   |(go_at_call 38;with_reducible refine (HP.out _ Z _ _ _ _ _ _ _ _ _ X _ _ _ _ _ _ _ _ _ a5.out (by first|with_reducible exact c9.out|with_reducible exact a3.out) b0.out c2.out c3.out).mono ?_;rintro e w6 ⟨t6,b8,b9,c0,a7,b2,c5,m6,n6,s6,rfl,e7,c7,a8⟩;have E:=aa a8;have a2:=e3.out.below E.out;obtain⟨r0,r1,r2,r3,r4,r5⟩:=a2.six;obtain⟨f0,f1,f2,f3,f4,f5,f7⟩:=a2.ice;clear a8 a2)
   |fail)
 all_goals go_wp2_with fail
 all_goals refine zN (v:=.agg #[Vi (Tm.kind t6),.slice b8 b9 c0,.slice a7 b2 c5,Vi m6,Vi n6,.string s6]) (by simp[results,results30,go_sem,r0,r1,r2,r3,r4,r5]) rfl ⟨t6,b8,b9,c0,a7,b2,c5,m6,n6,s6,rfl,?_,c7.out,?_⟩
 all_goals rw[q]
 all_goals first
  |exact bC (e9.out.trans (E.out.mono (by have:=e2.out;omega))) _ _ _ _ _ _
  |exact aj.mono (λg _ f=>by rcases f with f|f;exact .inl f;exact .inr (by omega)) _ _ (dP e7.out (λg h=>by have:=HA.out g h;omega) _ _ _ _ _ _)
theorem eH.weak {P Q:Tm->Prop}(h:∀t,P t->Q t){e:Ending}(k:eH w A P e w'):eH w A Q e w':=by
 obtain⟨t,g,i,l,a,c,d,m,n,s,e,j,b,f⟩:=k;exact⟨t,g,i,l,a,c,d,m,n,s,e,j,h t b,f⟩
mutual
theorem lH:∀t:Tm,qF t
 |.none=>λw A I C D B F G m n s c _ _ _ _ _ _=>(Mh c).mono λe w' h=>h.weak λt E=>by subst E;exact⟨trivial,by rw[Tm.L_none];rfl,zA _,zA _⟩
 |.empty=>λw A I C D B F G m n s c _ _ _ _ _ _=>(If c).mono λe w' h=>h.weak λt E=>by subst E;exact⟨trivial,by rw[Tm.L_none,Tm.L_empty,Lj],zA _,zA _⟩
 |.set q=>by
  intro w A I C D B F G m n s c o k d i r g;obtain⟨b4,b6,N,e,M,_⟩:=k;simp only[Tm.kind,TC,zT,zm,zu,yc,yB,yK]at e;obtain⟨⟨rfl,rfl,rfl⟩,⟨rfl,rfl,rfl⟩,rfl,rfl,rfl⟩:=e;have P:=ri d;have X:bZ (Tm.set q).z=1:=(congrArg bZ (show (Tm.set q).z=1 by simp[Tm.z])).trans Vt;have Y:(Tm.set q).z*(Tm.set q).tl=12+20*q.length:=by simp[Tm.z,Tm.tl]
  rw[X,Y];cases hm:memB q c with
  |true=>
   refine (Dv c M.rd (by omega) hm).mono λe w' h=>h.weak λt E=>?_;subst E;exact⟨trivial,by rw[EP d i,hm,Tm.L_empty];rfl,zA _,by show 12<=_;omega⟩
  |false=>
   refine (Bz c M.rd (by omega) hm).mono λe w' h=>h.weak λt E=>?_;subst E;exact⟨trivial,by rw[EP d i,hm,Tm.L_none];rfl,zA _,by show 12<=_;omega⟩
 |.row a b=>by
  have ha:=lH a;have L:=lH b;intro w A I C D B F G m n s c o k d i r g;obtain⟨x,y,O,ys,N,e,f,hp,M,_⟩:=k;simp only[Tm.kind,TC,zT,zm,zu,yc,yB,yK]at e;obtain⟨⟨rfl,rfl,rfl⟩,⟨rfl,rfl,rfl⟩,rfl,rfl,rfl⟩:=e;obtain⟨a7,a2,a3,a1,b1,U,mx,nx,sx,rfl,_⟩:=hp.form;obtain⟨V,Q,a0,T,W,b0,my,ny,sy,rfl,_⟩:=M.form;obtain⟨b',H,rfl,b5,Z,c0⟩:=f 0 _ rfl;have K:∀j v,(TC a.kind a7 a2 a3 a1 b1 U mx nx sx++TC b.kind V Q a0 T W b0 my ny sy)[j]?=some v->w.cell? ⟨b',H+j,none⟩=some v:=λj v hj=>by
   obtain⟨b2,b3,e',_,_,S⟩:=f j v hj;injection e' with e';injection e' with X Y;subst X Y;exact S
  rw[Tm.L_row];exact OC c o ha L d.1 d.2 i r g Z K hp M
 |.or l=>by
  have z:=tW l;intro w A I C D B F G m n s c o k d i r g;obtain⟨x,y,O,N,e,f,P,_⟩:=k;simp only[Tm.kind,TC,zT,zm,zu,yc,yB,yK]at e;obtain⟨⟨rfl,rfl,rfl⟩,⟨rfl,rfl,rfl⟩,rfl,rfl,rfl⟩:=e;exact Pe (.inl rfl) c o f P z d.1 d.2 i r g
 |.and l=>by
  have z:=tW l;intro w A I C D B F G m n s c o k d i r g;obtain⟨x,y,O,N,e,f,P,_⟩:=k;simp only[Tm.kind,TC,zT,zm,zu,yc,yB,yK]at e;obtain⟨⟨rfl,rfl,rfl⟩,⟨rfl,rfl,rfl⟩,rfl,rfl,rfl⟩:=e;exact Pe (.inr rfl) c o f P z d.1 d.2 i r g
 |.not u=>by
  have z:=lH u;intro w A I C D B F G m n s c o k d i r g;obtain⟨x,y,O,N,e,f,J,_⟩:=k;simp only[Tm.kind,TC,zT,zm,zu,yc,yB,yK]at e;obtain⟨⟨rfl,rfl,rfl⟩,⟨rfl,rfl,rfl⟩,rfl,rfl,rfl⟩:=e;obtain⟨a8,a5,a6,R,a9,a4,m2,n2,s2,rfl,_⟩:=J.form;obtain⟨b,H,rfl,_,L,K⟩:=f.one;rw[Tm.L_not];exact Pu c o z d i r g L J K
 |.many u p q=>by
  have z:=lH u;intro w A I C D B F G m n s c o k d i r g;obtain⟨x,y,O,N,e,f,J,_⟩:=k;simp only[Tm.kind,TC,zT,zm,zu,yc,yB,yK]at e;obtain⟨⟨rfl,rfl,rfl⟩,⟨rfl,rfl,rfl⟩,rfl,rfl,rfl⟩:=e;obtain⟨a8,a5,a6,R,a9,a4,m2,n2,s2,rfl,_⟩:=J.form;obtain⟨b,H,rfl,_,L,K⟩:=f.one;rw[Tm.L_many];obtain⟨o1,o2,o3,o4⟩:=d;rcases o4 with rfl|o4
  ·exact Ac c o z o1 i o2 o3 (.inl rfl) r g L K J
  ·exact Ac c o z o1 i o2 o3 (.inr o4) r g L K J
theorem tW:∀l:List Tm,∀t∈l,qF t
 | [],t,h=>by simp at h
 |u::l,t,h=>by
  have a:=lH u;have b:=tW l;rcases zO.1 h with rfl|h
  ·exact a
  ·exact b t h
end
