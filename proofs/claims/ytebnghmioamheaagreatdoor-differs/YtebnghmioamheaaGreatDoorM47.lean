import Derived.Test.YtebnghmioamheaaGreatDoorM43
set_option maxHeartbeats 4000000
set_option maxRecDepth 100000
set_option linter.all false
namespace Go.Proofs.YtebnghmioamheaaGreatDoor
open Go.RowKit Brm Tryz
variable {w w' W a:World}{A A':NP}{m n K Ka ma na Kb mb nb mx nx m' n' c:Int}{so lo soa loa sob lob sox lox so' lo':OA}{sn sc ln lc sna sca lna lca snb scb lnb lcb b off snx scx lnx lcx sn' sc' ln' lc' B e size cap i j:Nat}{s sa sb sx s':ByteArray}{t u p zt ot y:Tm}{l ts ex ks:List Tm}{xs cs:LV}{v:Value}{q:LQ}
theorem sZ {c:LV}(h:aj w A .empty c):aj w' A' .empty c:=by
 obtain⟨s,e,a⟩:=h;exact⟨s,e,a⟩
theorem Ad {r:Nat}{u:LZ}:jL dZ r u↔u=[]:=by
 induction r generalizing u with
 |zero=>exact Iff.rfl
 |succ r ih=>
  constructor
  ·rintro⟨a,b,rfl,d,c⟩;rw[show a=[]from d,ih.1 c];rfl
  ·rintro rfl;exact⟨[],[],rfl,rfl,ih.2 rfl⟩
theorem LN (h0:0<=m)(hn:n=-1\/m<=n):dB dZ m n=dZ:=by
 funext u;refine propext ⟨λ⟨r,_,_,h⟩=>Ad.1 h,λh=>⟨m.toNat,by omega,by omega,Ad.2 h⟩⟩
theorem Pf {L:Lg}:dB L 1 1=L:=by
 funext u;refine propext ⟨λ⟨r,e,f,h⟩=>?_,λh=>⟨1,by omega,by omega,u,[],by simp,h,rfl⟩⟩;obtain rfl:r=1:=by omega
 obtain⟨a,b,rfl,d,c⟩:=h;rw[show b=[]from c,zx];exact d
theorem Hw (p r:Int)(h:r=0\/(r≠0/\K=2)):Calls prog 36 #[.agg #[Vi K,.slice so sn sc,.slice lo ln lc,Vi m,Vi n,.string s],Vi p,Vi r] w (eH w A (λu=>u=.empty)):=by
 obtain⟨R,i,x,c,o,-⟩:=jK (rfl:w.heap.size=_) (TC K so sn sc lo ln lc m n s) 58 TZ 58;obtain⟨a0,X,a2,Y,a4,a5⟩:=c.six;have V:=c.lt;have O:=aa (rh R);have q:=aa o;have C:=aa x;have y:=aa i;have Q:Hid ((r==0)=true\/((r==0)=false/\(K==2)=true)):=by
  rcases h with h|⟨h,T⟩
  ·exact .inl (beq_iff_eq.2 h)
  ·exact .inr ⟨zD.2 h,beq_iff_eq.2 T⟩
 clear i x c o h;go_enter func36,ntmps36;go_upto_region 1 with fail;rw[y.out];generalize hS:w.heap.size=S at *;rcases Q.out with N|⟨N,q2⟩
 all_goals go_wp2_with fail
 all_goals refine O.mono ?_
 all_goals rintro e U ⟨t3,j,k,l,f,t,g,F,J,H,rfl,b,rfl,d⟩
 all_goals simp only[Tm.kind]at b ⊢
 all_goals have a:=q.below d
 all_goals have L:=a.cell 0
 all_goals have D:=a.cell 1
 all_goals have E:=a.cell 2
 all_goals have G:=a.cell 3
 all_goals have I:=a.cell 4
 all_goals have M:=a.cell 5
 all_goals have f0:=a.frozen 0
 all_goals have Z:=a.frozen 1
 all_goals have f2:=a.frozen 2
 all_goals have W:=a.frozen 3
 all_goals have f4:=a.frozen 4
 all_goals have f5:=a.frozen 5
 all_goals have P:=a.lt
 all_goals simp only[TZ,List.getElem?_cons_zero,List.getElem?_cons_succ]at L D E G I M
 all_goals have z:Hid (Below S w U):=C.trans (d.mono (by have:=q.lt;omega))
 all_goals have B:=aa b
 all_goals clear b d a
 all_goals go_wp2_with fail
 all_goals refine zN (v:=.agg #[Vi 2,.slice j k l,.slice f t g,Vi F,Vi J,.string H]) (by simp[results,results36,go_sem,L,D,E,G,I,M]) rfl ⟨.empty,j,k,l,f,t,g,F,J,H,rfl,?_,rfl,?_⟩
 all_goals rw[hS]
 all_goals first
  |exact bC z _ _ _ _ _ _
  |exact sZ B
theorem LO (hA:∀g,A g->g<w.heap.size)(h2:K≠2)(hK:K=t.kind)(hv:aj w A t (TC K so sn sc lo ln lc m n s)):Calls prog 36 #[.agg #[Vi K,.slice so sn sc,.slice lo ln lc,Vi m,Vi n,.string s],Vi 1,Vi 1] w (eH w A (λu=>u=t)):=by
 obtain⟨L,e,c,a,b,-⟩:=jK (rfl:w.heap.size=_) (TC K so sn sc lo ln lc m n s) 58 TZ 58;obtain⟨I,D,M,E,G,N⟩:=a.six;have k:=a.lt;have O:(K==2)=false:=zD.2 h2;have x:=aa (aj.below c _ _ hv);have i:=aa c;obtain⟨z,p,o,q,y,B⟩:=b.six;obtain⟨H,F,J,C,Q,P,l⟩:=b.ice;have f:=aa e;have r:=aa hA;have j:=aa hK;clear e c a b hA hv hK;go_enter func36,ntmps36;go_upto_region 1 with fail;rw[f.out];generalize hS:w.heap.size=S at *;go_wp2_with fail;refine zN (v:=.agg #[Vi K,.slice so sn sc,.slice lo ln lc,Vi m,Vi n,.string s]) (by simp[results,results36,go_sem,z,p,o,q,y,B]) rfl ⟨t,so,sn,sc,lo,ln,lc,m,n,s,by rw[j.out],?_,rfl,?_⟩
 ·rw[hS,<-j.out];exact aj.mono (λg _ d=>by rcases d with d|d;exact .inl d;exact .inr (by omega)) _ _ (dP (S:=S+1) (aj.mono (λg _ d=>.inl d) _ _ x) (λg h=>by have:=r.out g h;omega) _ _ _ _ _ _)
 ·rw[hS];exact bC i _ _ _ _ _ _
theorem Tw (p r:Int)(hA:∀g,A g->g<w.heap.size)(h2:K≠2)(hr:r≠0)(h1:¬(p=1/\r=1))(hp5:p<=5)(hr5:r<=5)(hv:aj w A t (TC K so sn sc lo ln lc m n s))(hok:t.Ok)(htl:t.tl<=8000000000000000000):Calls prog 36 #[.agg #[.int .i64 K,.slice so sn sc,.slice lo ln lc,.int .i64 m,.int .i64 n,.string s],.int .i64 p,.int .i64 r] w (eH w A (λu=>u=.many t p r)):=by
 obtain⟨o,f,c,j,y,-⟩:=jK (rfl:w.heap.size=_) (TC K so sn sc lo ln lc m n s) 58 TZ 58;obtain⟨a0,a1,a2,a3,a4,a5⟩:=j.six;have T:=j.lt;have k2:(K==2)=false:=zD.2 h2;have k0:(r==0)=false:=zD.2 hr;have V:Hid ((p==1)=false\/((p==1)=true/\(r==1)=false)):=by
  by_cases e:p=1
  ·exact .inr ⟨beq_iff_eq.2 e,zD.2 λX=>h1 ⟨e,X⟩⟩
  ·exact .inl (zD.2 e)
 obtain⟨H,i,b,-,-⟩:=dS (rfl:o.heap.size=_) [.int .i64 K,.slice so sn sc,.slice lo ln lc,.int .i64 m,.int .i64 n,.string s] 58;have G:o.heap.size=w.heap.size+2:=by rw[<-f];simp
 have d:cg H (λg=>A g\/w.heap.size+1<g) (some ⟨o.heap.size,0,none⟩) (TC K so sn sc lo ln lc m n s):=by rw[<-i];exact (nP o (TC K so sn sc lo ln lc m n s) 58).mono λg _ k=>.inr (by omega)
 have x:aj H (λg=>A g\/w.heap.size+1<g) t (TC K so sn sc lo ln lc m n s):=aj.mono (λg _ k=>.inl k) _ _ (aj.below b _ _ (aj.below c _ _ hv));have I:=aa (Mg (lc:=1) p r ⟨#[]⟩ d x hok hp5 hr5 htl);have F:Hid (Below w.heap.size w H):=c.trans (b.mono c.size);have z:=aa (y.below b);have E:=aa i;have B:=aa f;have W:=aa hA;clear hv i b d x f c j y hA G h1;go_enter func36,ntmps36;go_upto_region 1 with fail;rw[B.out];generalize hS:w.heap.size=S at *;rcases V.out with R|⟨R,q2⟩
 all_goals go_wp2_with fail
 all_goals rw[E.out]
 all_goals refine I.mono ?_
 all_goals rintro e Y ⟨O,rfl,q,l⟩
 all_goals have a:=z.below l
 all_goals have M:=a.cell 0
 all_goals have J:=a.cell 1
 all_goals have L:=a.cell 2
 all_goals have N:=a.cell 3
 all_goals have P:=a.cell 4
 all_goals have Q:=a.cell 5
 all_goals have f0:=a.frozen 0
 all_goals have f1:=a.frozen 1
 all_goals have f2:=a.frozen 2
 all_goals have Z:=a.frozen 3
 all_goals have f4:=a.frozen 4
 all_goals have f5:=a.frozen 5
 all_goals have U:=a.lt
 all_goals simp only[TZ,List.getElem?_cons_zero,List.getElem?_cons_succ]at M J L N P Q
 all_goals have C:Hid (Below S w Y):=F.trans (l.mono (by have:=z.lt;omega))
 all_goals have D:=aa q
 all_goals clear q l a
 all_goals go_wp2_with fail
 all_goals refine zN (v:=.agg #[.int .i64 8,.slice none 0 0,.slice (some ⟨o.heap.size,0,none⟩) 1 1,.int .i64 p,.int .i64 r,.string O]) (by simp[results,results36,go_sem,M,J,L,N,P,Q]) rfl ⟨.many t p r,none,0,0,some ⟨o.heap.size,0,none⟩,1,1,p,r,O,rfl,?_,rfl,?_⟩
 all_goals rw[hS]
 all_goals first
  |exact bC C _ _ _ _ _ _
  |exact aj.mono (λg _ k=>by rcases k with k|k;exact .inl k;exact .inr (by omega)) _ _ (dP D (λg h=>by have:=W.out g h;omega) _ _ _ _ _ _)
theorem Cy (p r:Int)(hA:∀g,A g->g<w.heap.size)(h0:0<=p)(h5:p<=5)(hr:r=-1\/(p<=r/\r<=5))(hv:aj w A t (TC t.kind so sn sc lo ln lc m n s))(hok:t.Ok)(htl:t.tl<=8000000000000000000):Calls prog 36 #[.agg #[Vi t.kind,.slice so sn sc,.slice lo ln lc,Vi m,Vi n,.string s],Vi p,Vi r] w (eH w A (Gd (dB t.L p r) (t.z+1) (t.tl+12))):=by
 have B:=mh t;by_cases i:r=0\/(r≠0/\t.kind=2)
 ·refine (Hw (A:=A) p r i).mono ?_;rintro e z ⟨v,d,h,c,f,b,a,k,l,j,rfl,q,rfl,o⟩;refine⟨.empty,d,h,c,f,b,a,k,l,j,rfl,q,⟨trivial,?_,by show 1<=_;omega,by show 12<=_;omega⟩,o⟩;rw[Tm.L_empty];rcases i with rfl|⟨_,i⟩
  ·obtain rfl:p=0:=by omega
   exact (Da rfl).symm
  ·have D:t=.empty:=by cases t<;>first|rfl|(simp[Tm.kind]at i)
   rw[D,Tm.L_empty,LN h0 (by omega)]
 ·have o:t.kind≠2:=λe=>i (by by_cases C:r=0;exact .inl C;exact .inr ⟨C,e⟩);have x:r≠0:=λe=>i (.inl e);by_cases q:p=1/\r=1
  ·obtain⟨rfl,rfl⟩:=q;refine (LO hA o rfl hv).mono ?_;rintro e z ⟨v,d,h,c,f,b,a,k,l,j,rfl,u,rfl,y⟩;exact⟨v,d,h,c,f,b,a,k,l,j,rfl,u,⟨hok,Pf.symm,by omega,by omega⟩,y⟩
  ·refine (Tw p r hA o x q h5 (by omega) hv hok htl).mono ?_;rintro e z ⟨v,d,h,c,f,b,a,k,l,j,rfl,u,rfl,y⟩;exact⟨.many t p r,d,h,c,f,b,a,k,l,j,rfl,u,⟨⟨hok,h0,h5,by omega⟩,Tm.L_many t p r,zA _,zA _⟩,y⟩
theorem jB {S:Nat}(h:Below S w W)(a b c d e f:Value):Below S w ((((((W.setCell (aD (S+1+1) 0) a).setCell (aD (S+1+1) 1) b).setCell (aD (S+1+1) 2) c).setCell (aD (S+1+1) 3) d).setCell (aD (S+1+1) 4) e).setCell (aD (S+1+1) 5) f):=by
 have k:S<=S+1+1:=by omega
 exact (((((h.setCell (p:=(aD (S+1+1) 0)) k _).setCell (p:=(aD (S+1+1) 1)) k _).setCell (p:=(aD (S+1+1) 2)) k _).setCell (p:=(aD (S+1+1) 3)) k _).setCell (p:=(aD (S+1+1) 4)) k _).setCell (p:=(aD (S+1+1) 5)) k _
theorem kc {c:LV}(h:aj w A .none c):aj w' A' .none c:=by
 obtain⟨s,e,a⟩:=h;exact⟨s,e,a⟩
theorem qA (h:Ka=1\/(Ka≠1/\Kb=1)):Calls prog 38 #[.agg #[Vi Ka,.slice soa sna sca,.slice loa lna lca,Vi ma,Vi na,.string sa],.agg #[Vi Kb,.slice sob snb scb,.slice lob lnb lcb,Vi mb,Vi nb,.string sb]] w (eH w A (λu=>u=.none)):=by
 obtain⟨L,o,k,b,c,q,-⟩:=rY (rfl:w.heap.size=_) (TC Ka soa sna sca loa lna lca ma na sa) 58 (TC Kb sob snb scb lob lnb lcb mb nb sb) 58 TZ 58;obtain⟨R,O,V,J,Y,K⟩:=b.six;obtain⟨M,W,T,N,U,I⟩:=c.six;have P:=b.lt;have a0:=c.lt;have HN:=aa (fG L);have i:=aa q;have r:=aa k;have t:=aa o;have HQ:Hid ((Ka==1)=true\/((Ka==1)=false/\(Kb==1)=true)):=by
  rcases h with h|⟨h,Z⟩
  ·exact .inl (beq_iff_eq.2 h)
  ·exact .inr ⟨zD.2 h,beq_iff_eq.2 Z⟩
 clear o k b c q h;go_enter func38,ntmps38;go_upto_region 1 with fail;rw[t.out];generalize hS:w.heap.size=S at *;rcases HQ.out with Q|⟨Q,q2⟩
 all_goals go_wp2_with fail
 all_goals refine HN.mono ?_
 all_goals rintro e w3 ⟨t3,m,n,g,l,p,j,z,B,C,rfl,f,rfl,d⟩
 all_goals simp only[Tm.kind]at f ⊢
 all_goals have a:=i.below d
 all_goals have F:=a.cell 0
 all_goals have D:=a.cell 1
 all_goals have E:=a.cell 2
 all_goals have y:=a.cell 3
 all_goals have H:=a.cell 4
 all_goals have G:=a.cell 5
 all_goals have f0:=a.frozen 0
 all_goals have f1:=a.frozen 1
 all_goals have f2:=a.frozen 2
 all_goals have f3:=a.frozen 3
 all_goals have f4:=a.frozen 4
 all_goals have f5:=a.frozen 5
 all_goals have X:=a.lt
 all_goals simp only[TZ,List.getElem?_cons_zero,List.getElem?_cons_succ]at F D E y H G
 all_goals have x:Hid (Below S w w3):=r.trans (d.mono (by have:=i.lt;omega))
 all_goals have s:=aa f
 all_goals clear f d a
 all_goals go_wp2_with fail
 all_goals refine zN (v:=.agg #[Vi 1,.slice m n g,.slice l p j,Vi z,Vi B,.string C]) (by simp[results,results38,go_sem,F,D,E,y,H,G]) rfl ⟨.none,m,n,g,l,p,j,z,B,C,rfl,?_,rfl,?_⟩
 all_goals rw[hS]
 all_goals first
  |exact jB x _ _ _ _ _ _
  |exact kc s
theorem Ob (hA:∀g,A g->g<w.heap.size)(hb1:Kb≠1)(ha2:Ka=2)(hK:Kb=t.kind)(hv:aj w A t (TC Kb sob snb scb lob lnb lcb mb nb sb)):Calls prog 38 #[.agg #[Vi Ka,.slice soa sna sca,.slice loa lna lca,Vi ma,Vi na,.string sa],.agg #[Vi Kb,.slice sob snb scb,.slice lob lnb lcb,Vi mb,Vi nb,.string sb]] w (eH w A (λu=>u=t)):=by
 subst ha2;obtain⟨O,f,c,a,b,d,-⟩:=rY (rfl:w.heap.size=_) (TC 2 soa sna sca loa lna lca ma na sa) 58 (TC Kb sob snb scb lob lnb lcb mb nb sb) 58 TZ 58;obtain⟨z,r,C,n,H,o⟩:=a.six;obtain⟨p,D,y,q,B,l⟩:=b.six;have x:=a.lt;have K:=b.lt;have M:(Kb==1)=false:=zD.2 hb1;have L:=aa (aj.below c _ _ hv);have i:=aa c;obtain⟨G,E,I,m,N,J⟩:=d.six;obtain⟨P,T,Q,U,V,R,F⟩:=d.ice;have j:=aa f;have s:=aa hA;have k:=aa hK;clear f c a b d hA hv hK;go_enter func38,ntmps38;go_upto_region 1 with fail;rw[j.out];generalize hS:w.heap.size=S at *;go_wp2_with fail;refine zN (v:=.agg #[Vi Kb,.slice sob snb scb,.slice lob lnb lcb,Vi mb,Vi nb,.string sb]) (by simp[results,results38,go_sem,G,E,I,m,N,J]) rfl ⟨t,sob,snb,scb,lob,lnb,lcb,mb,nb,sb,by rw[k.out],?_,rfl,?_⟩
 ·rw[hS,<-k.out];exact aj.mono (λg _ e=>by rcases e with e|e;exact .inl e;exact .inr (by omega)) _ _ (dP (S:=S+1+1) (aj.mono (λg _ e=>.inl e) _ _ L) (λg h=>by have:=s.out g h;omega) _ _ _ _ _ _)
 ·rw[hS];exact jB i _ _ _ _ _ _
theorem Et (hA:∀g,A g->g<w.heap.size)(ha1:Ka≠1)(ha2:Ka≠2)(hb2:Kb=2)(hK:Ka=t.kind)(hv:aj w A t (TC Ka soa sna sca loa lna lca ma na sa)):Calls prog 38 #[.agg #[Vi Ka,.slice soa sna sca,.slice loa lna lca,Vi ma,Vi na,.string sa],.agg #[Vi Kb,.slice sob snb scb,.slice lob lnb lcb,Vi mb,Vi nb,.string sb]] w (eH w A (λu=>u=t)):=by
 subst hb2;obtain⟨P,f,c,a,b,d,-⟩:=rY (rfl:w.heap.size=_) (TC Ka soa sna sca loa lna lca ma na sa) 58 (TC 2 sob snb scb lob lnb lcb mb nb sb) 58 TZ 58;obtain⟨C,x,E,n,J,o⟩:=a.six;obtain⟨q,F,B,r,D,l⟩:=b.six;have z:=a.lt;have M:=b.lt;have p:(Ka==1)=false:=zD.2 ha1;have s:(Ka==2)=false:=zD.2 ha2;have N:=aa (aj.below c _ _ hv);have i:=aa c;obtain⟨I,G,K,m,O,L⟩:=d.six;obtain⟨Q,U,R,V,W,T,H⟩:=d.ice;have j:=aa f;have y:=aa hA;have k:=aa hK;clear f c a b d hA hv hK;go_enter func38,ntmps38;go_upto_region 1 with fail;rw[j.out];generalize hS:w.heap.size=S at *;go_wp2_with fail;refine zN (v:=.agg #[Vi Ka,.slice soa sna sca,.slice loa lna lca,Vi ma,Vi na,.string sa]) (by simp[results,results38,go_sem,I,G,K,m,O,L]) rfl ⟨t,soa,sna,sca,loa,lna,lca,ma,na,sa,by rw[k.out],?_,rfl,?_⟩
 ·rw[hS,<-k.out];exact aj.mono (λg _ e=>by rcases e with e|e;exact .inl e;exact .inr (by omega)) _ _ (dP (S:=S+1+1) (aj.mono (λg _ e=>.inl e) _ _ N) (λg h=>by have:=y.out g h;omega) _ _ _ _ _ _)
 ·rw[hS];exact jB i _ _ _ _ _ _
theorem Rr (hA:∀g,A g->g<w.heap.size)(ha1:Ka≠1)(hb1:Kb≠1)(ha2:Ka≠2)(hb2:Kb≠2)(ha4:Ka≠4)(hv:aj w A t (TC Ka soa sna sca loa lna lca ma na sa))(hu:aj w A u (TC Kb sob snb scb lob lnb lcb mb nb sb))(ht:t.Ok)(huk:u.Ok)(htl:t.tl+u.tl<=8000000000000000000):Calls prog 38 #[.agg #[.int .i64 Ka,.slice soa sna sca,.slice loa lna lca,.int .i64 ma,.int .i64 na,.string sa],.agg #[.int .i64 Kb,.slice sob snb scb,.slice lob lnb lcb,.int .i64 mb,.int .i64 nb,.string sb]] w (eH w A (λv=>v=.row t u)):=by
 obtain⟨i,n,b,j,k,x,-⟩:=rY (rfl:w.heap.size=_) (TC Ka soa sna sca loa lna lca ma na sa) 58 (TC Kb sob snb scb lob lnb lcb mb nb sb) 58 TZ 58;obtain⟨U,P,W,J,a1,K⟩:=j.six;obtain⟨M,Y,T,N,V,H⟩:=k.six;have R:=j.lt;have a2:=k.lt;have L:(Ka==1)=false:=zD.2 ha1;have a4:(Kb==1)=false:=zD.2 hb1;have O:(Ka==2)=false:=zD.2 ha2;have X:(Kb==2)=false:=zD.2 hb2;have a3:(Ka==4)=false:=zD.2 ha4;obtain⟨o,c⟩:∃o,i.alloc (.cells #[.int .i64 Ka,.slice soa sna sca,.slice loa lna lca,.int .i64 ma,.int .i64 na,.string sa,.int .i64 Kb,.slice sob snb scb,.slice lob lnb lcb,.int .i64 mb,.int .i64 nb,.string sb] 58)=o:=⟨_,rfl⟩;have a:Below i.heap.size i o:=by rw[<-c];exact (zE _ _).alloc (zA _) _
 have E:i.heap.size=w.heap.size+3:=by rw[<-n];simp
 have f:cg o (λg=>A g\/w.heap.size+1+1<g) (some ⟨i.heap.size,0,none⟩) (TC Ka soa sna sca loa lna lca ma na sa++TC Kb sob snb scb lob lnb lcb mb nb sb):=by rw[<-c];exact (nP i (TC Ka soa sna sca loa lna lca ma na sa++TC Kb sob snb scb lob lnb lcb mb nb sb) 58).mono λg _ d=>.inr (by omega)
 have y:aj o (λg=>A g\/w.heap.size+1+1<g) t (TC Ka soa sna sca loa lna lca ma na sa):=aj.mono (λg _ d=>.inl d) _ _ (aj.below a _ _ (aj.below b _ _ hv));have p:aj o (λg=>A g\/w.heap.size+1+1<g) u (TC Kb sob snb scb lob lnb lcb mb nb sb):=aj.mono (λg _ d=>.inl d) _ _ (aj.below a _ _ (aj.below b _ _ hu));have s:=aa (Ps (lc:=2) ⟨#[]⟩ f y p ht huk htl);have C:Hid (Below w.heap.size w o):=b.trans (a.mono b.size);have q:=aa (x.below a);have D:=aa c;have B:=aa n;have Q:=aa hA;clear hv hu c a f y p n b j k x hA E;go_enter func38,ntmps38;go_upto_region 1 with fail;rw[B.out];generalize hS:w.heap.size=S at *;go_wp2_with fail;rw[D.out];refine s.mono ?_;rintro e w3 ⟨G,rfl,r,m⟩;have l:=q.below m;obtain⟨r0,Z,r2,I,r4,r5⟩:=l.six;obtain⟨f0,f1,f2,f3,f4,f5,a0⟩:=l.ice;have F:Hid (Below S w w3):=C.trans (m.mono (by have:=q.lt;omega));have z:=aa r;clear r m l s;go_wp2_with fail;refine zN (v:=.agg #[.int .i64 4,.slice none 0 0,.slice (some ⟨i.heap.size,0,none⟩) 2 2,.int .i64 0,.int .i64 0,.string G]) (by simp[results,results38,go_sem,r0,Z,r2,I,r4,r5]) rfl ⟨.row t u,none,0,0,some ⟨i.heap.size,0,none⟩,2,2,0,0,G,rfl,?_,rfl,?_⟩
 ·rw[hS];exact aj.mono (λg _ d=>by rcases d with d|d;exact .inl d;exact .inr (by omega)) _ _ (dP z (λg h=>by have:=Q.out g h;omega) _ _ _ _ _ _)
 ·rw[hS];exact jB F _ _ _ _ _ _
def wT (t:Tm):Prop:=∀(w:World) (A:Nat->Prop) (u:Tm) (soa:Option Addr) (sna sca:Nat) (loa:Option Addr) (lna lca:Nat) (ma na:Int) (sa:ByteArray) (sob:Option Addr) (snb scb:Nat) (lob:Option Addr) (lnb lcb:Nat) (mb nb:Int) (sb:ByteArray),
 (∀g,A g->g<w.heap.size)->aj w A t (TC t.kind soa sna sca loa lna lca ma na sa)->aj w A u (TC u.kind sob snb scb lob lnb lcb mb nb sb)->t.Ok->u.Ok->t.tl+u.tl<=6900000000000000000 ->
 Calls prog 38 #[.agg #[Vi t.kind,.slice soa sna sca,.slice loa lna lca,Vi ma,Vi na,.string sa],.agg #[Vi u.kind,.slice sob snb scb,.slice lob lnb lcb,Vi mb,Vi nb,.string sb]] w (eH w A (Gd (aJ t.L u.L) (t.z+u.z) (t.tl+u.tl+12)))
theorem jw (w:World):Bw w w.drew:=(zE _ _).drew
theorem ku {b:World}(h:Bw a.drew b):Bw a b:=⟨h.os,h.tape,h.output,h.size,h.block⟩
theorem PV {q:Tm}{soy:OA}{sny scy:Nat}{loy:OA}{lny lcy:Nat}{my ny:Int}{sy:ByteArray}(hA:∀g,A g->g<w.heap.size)(ip:wT p)(iq:wT q)(hb1:u.kind≠1)(hb2:u.kind≠2)(hbl:b<w.heap.size)
  (hrow:∀j v,(TC p.kind sox snx scx lox lnx lcx mx nx sx++TC q.kind soy sny scy loy lny lcy my ny sy)[j]?=some v->w.cell? ⟨b,off+j,none⟩=some v) (hp:aj w A p (TC p.kind sox snx scx lox lnx lcx mx nx sx)) (hq:aj w A q (TC q.kind soy sny scy loy lny lcy my ny sy)) (hu:aj w A u (TC u.kind sob snb scb lob lnb lcb mb nb sb)) (pk:p.Ok) (qk:q.Ok) (uk:u.Ok) (htl:p.tl+q.tl+12+u.tl<=6900000000000000000):Calls prog 38 #[.agg #[.int .i64 4,.slice none 0 0,.slice (some ⟨b,off,none⟩) 2 lc,.int .i64 0,.int .i64 0,.string s],.agg #[.int .i64 u.kind,.slice sob snb scb,.slice lob lnb lcb,.int .i64 mb,.int .i64 nb,.string sb]] w (eH w A (Gd (aJ (aJ p.L q.L) u.L) (p.z+q.z+u.z) (p.tl+q.tl+12+u.tl+12))):=by
 obtain⟨f,M,c,y,L,Z,-⟩:=rY (rfl:w.heap.size=_) (TC 4 none 0 0 (some ⟨b,off,none⟩) 2 lc 0 0 s) 58 (TC u.kind sob snb scb lob lnb lcb mb nb sb) 58 TZ 58;have d9:f.cell? ⟨w.heap.size,0,none⟩=some (.int .i64 4):=y.cell 0;have d7:f.cell? ⟨w.heap.size,2,none⟩=some (.slice (some ⟨b,off,none⟩) 2 lc):=y.cell 2;obtain⟨b3,c0,a8,d5,c3,c8⟩:=L.six;obtain⟨b5,a6,a9,c2,b9,c6⟩:=oT c hbl (CT.fst hrow);obtain⟨c9,a7,d2,b0,b4,c4⟩:=oT c hbl (CT.snd hrow);have a4:=y.lt;have c1:=L.lt;have Q:b<f.heap.size:=zF hbl c.size;have d8:(u.kind==1)=false:=zD.2 hb1;have e1:(u.kind==2)=false:=zD.2 hb2;have b6:f.heap.size=w.heap.size+3:=by rw[<-M];simp
 have d1:Hid (∀a,Below f.heap.size f a->Calls prog 38 #[.agg #[.int .i64 q.kind,.slice soy sny scy,.slice loy lny lcy,.int .i64 my,.int .i64 ny,.string sy],.agg #[.int .i64 u.kind,.slice sob snb scb,.slice lob lnb lcb,.int .i64 mb,.int .i64 nb,.string sb]] a λe l=>∃t O J H G I lc m n s,e=.returned (.agg #[.int .i64 (Tm.kind t),.slice O J H,.slice G I lc,.int .i64 m,.int .i64 n,.string s])/\aj l (λg=>A g\/a.heap.size<g) t (TC t.kind O J H G I lc m n s)/\Gd (aJ q.L u.L) (q.z+u.z) (q.tl+u.tl+12) t/\Below a.heap.size a l):=λa h=>iq a A u _ _ _ _ _ _ _ _ _ _ _ _ _ _ _ _ _ _ (λg d=>by have h1:=hA g d;have h2:=c.size;have h3:=h.size;omega) (aj.below h _ _ (aj.below c _ _ hq)) (aj.below h _ _ (aj.below c _ _ hu)) qk uk (by omega);have b1:Hid (∀(l:World) (F:Tm) (E:Option Addr) (r C:Nat) (D:Option Addr) (z B:Nat) (m5 n5:Int) (s5:ByteArray),Below f.heap.size f l->aj l (λg=>A g\/f.drew.heap.size<g) F (TC F.kind E r C D z B m5 n5 s5)->Gd (aJ q.L u.L) (q.z+u.z) (q.tl+u.tl+12) F ->
   Calls prog 38 #[.agg #[.int .i64 p.kind,.slice sox snx scx,.slice lox lnx lcx,.int .i64 mx,.int .i64 nx,.string sx],.agg #[.int .i64 F.kind,.slice E r C,.slice D z B,.int .i64 m5,.int .i64 n5,.string s5]] l λe w6=>∃t O J H G I lc m n s,e=.returned (.agg #[.int .i64 (Tm.kind t),.slice O J H,.slice G I lc,.int .i64 m,.int .i64 n,.string s])/\Hid (aj w6 (λg=>A g\/w.heap.size+1+1<g) t (TC t.kind O J H G I lc m n s))/\Hid (Gd (aJ (aJ p.L q.L) u.L) (p.z+q.z+u.z) (p.tl+q.tl+12+u.tl+12) t)/\Below l.heap.size l w6):=λl F E r C D z B m5 n5 s5 h5 o i=>by
  have c5:f.drew.heap.size=f.heap.size:=rfl;rw[c5]at o;have h1:=i.z;have h2:=i.tl;have h3:=h5.size;refine (ip l (λg=>(A g\/f.heap.size<g)/\g<l.heap.size) F _ _ _ _ _ _ _ _ _ _ _ _ _ _ _ _ _ _ (λg d=>d.2) (aj.mono (λg d ha=>⟨.inl ha,d⟩) _ _ (aj.below h5 _ _ (aj.below c _ _ hp))) (aj.mono (λg d ha=>⟨ha,d⟩) _ _ o) pk i.ok (by omega)).mono ?_;rintro e w6 ⟨t,O,J,H,G,I,lc,m,n,s,rfl,g1,g2,g3⟩;refine⟨t,O,J,H,G,I,lc,m,n,s,rfl,?_,⟨g2.ok,?_,?_,?_⟩,g3⟩
  ·exact aj.mono (λg _ d=>by rcases d with⟨d|d,_⟩|d;exact .inl d;exact .inr (by omega);exact .inr (by omega)) _ _ g1
  ·rw[g2.lg,i.lg,AV]
  ·have:=g2.z;omega
  ·have:=g2.tl;omega
 have P:Hid (∀a,Below f.heap.size f a->(a.cell? ⟨w.heap.size,2,none⟩=some (.slice (some ⟨b,off,none⟩) 2 lc)/\CB a (w.heap.size+1) u.kind sob snb scb lob lnb lcb mb nb sb/\CT a b off p.kind sox snx scx lox lnx lcx mx nx sx/\CT a b (off+6) q.kind soy sny scy loy lny lcy my ny sy)):=λa h=>⟨(h.cell (p:=⟨w.heap.size,2,none⟩) a4).trans d7,CB.below h c1 ⟨b3,c0,a8,d5,c3,c8⟩,CT.below h Q ⟨b5,a6,a9,c2,b9,c6⟩,CT.below h Q ⟨c9,a7,d2,b0,b4,c4⟩⟩;have a5:=aa Z;have a3:=aa c;have b7:=aa M;have HA:=aa hA;clear hrow hp hq hu pk qk uk M c y L Z hA ip iq htl hb1 hb2 b6;go_enter func38,ntmps38;go_upto_region 1 with fail;rw[b7.out];generalize hS:w.heap.size=S at *;have d3:S+1+1≠S:=by omega
 have b2:S+1+1≠S+1:=by omega
 have W:S+1+1≠b:=by omega
 have U:=aa (d1 f.drew (jw f));have d4:=aa (P f.drew (jw f));go_wp2_with fail
 go_region_held3 (λa=>a.cell? ⟨S,2,none⟩=some (.slice (some ⟨b,off,none⟩) 2 lc)/\CB a (S+1) u.kind sob snb scb lob lnb lcb mb nb sb/\CT a b off p.kind sox snx scx lox lnx lcx mx nx sx/\CT a b (off+6) q.kind soy sny scy loy lny lcy my ny sy)
  (first|with_reducible exact d4.out|with_reducible exact k.out|with_reducible exact⟨JK d3 k.out.1,CB.far b2 k.out.2.1,CT.far W k.out.2.2.1,CT.far W k.out.2.2.2⟩|fail)
  (first
   |(go_at_call 38;with_reducible refine U.out.mono ?_;rintro e l ⟨F,E,r,C,D,z,B,m5,n5,s5,rfl,o,i,Y⟩;have x:=aa (ku Y);have k:=aa (P l x);have d6:=aa o;have d0:=aa i;clear o i Y)
   |(go_at_call 38;with_reducible refine (b1.out _ F _ _ _ _ _ _ _ _ _ x.out d6.out d0.out).mono ?_;rintro e w6 ⟨t6,V,a0,T,X,R,a2,m6,n6,s6,rfl,b8,c7,a1⟩;have N:=aa (x.trans (a1.mono x.size));have k:=aa (P w6 N);have K:=a5.below N;obtain⟨r0,r1,r2,r3,r4,r5⟩:=K.six;obtain⟨f0,f1,f2,f3,f4,f5,e0⟩:=K.ice;clear a1 K)
   |fail)
 all_goals go_wp2_with fail
 refine zN (v:=.agg #[.int .i64 (Tm.kind t6),.slice V a0 T,.slice X R a2,.int .i64 m6,.int .i64 n6,.string s6]) (by simp[results,results38,go_sem,r0,r1,r2,r3,r4,r5]) rfl ⟨t6,V,a0,T,X,R,a2,m6,n6,s6,rfl,?_,c7,?_⟩
 ·rw[hS];exact aj.mono (λg _ d=>by rcases d with d|d;exact .inl d;exact .inr (by omega)) _ _ (dP b8 (λg h=>by have:=HA.out g h;omega) _ _ _ _ _ _)
 ·rw[hS];exact jB (a3.trans (N.mono (by omega))) _ _ _ _ _ _
theorem rp (h:t.kind=1):t=.none:=by cases t<;>first|rfl|(simp[Tm.kind]at h)
theorem rq (h:t.kind=2):t=.empty:=by cases t<;>first|rfl|(simp[Tm.kind]at h)
theorem iW (h4:t.kind≠4):wT t:=by
 intro w A u J C N H D M U Y S F L I E G O P Q X s z B x r K;have R:=mh t;have W:=mh u;have V:=fE t;have T:=fE u;by_cases h:t.kind=1\/(t.kind≠1/\u.kind=1)
 ·refine (qA (A:=A) h).mono ?_;rintro e q ⟨v,d,c,g,f,a,b,j,i,m,rfl,l,rfl,k⟩;refine⟨.none,d,c,g,f,a,b,j,i,m,rfl,l,⟨trivial,?_,by show 1<=_;omega,by show 12<=_;omega⟩,k⟩;rw[Tm.L_none];rcases h with h|⟨_,h⟩
  ·rw[rp h,Tm.L_none,CZ]
  ·rw[rp h,Tm.L_none,uc]
 ·have o:t.kind≠1:=λe=>h (.inl e);have y:u.kind≠1:=λe=>h (.inr ⟨o,e⟩);by_cases n:t.kind=2
  ·refine (Ob s y n rfl B).mono ?_;rintro e q ⟨v,d,c,g,f,a,b,j,i,m,rfl,l,rfl,k⟩;exact⟨v,d,c,g,f,a,b,j,i,m,rfl,l,⟨r,by rw[rq n,Tm.L_empty,AU],by omega,by omega⟩,k⟩
  ·by_cases p:u.kind=2
   ·refine (Et s o n p rfl z).mono ?_;rintro e q ⟨v,d,c,g,f,a,b,j,i,m,rfl,l,rfl,k⟩;exact⟨v,d,c,g,f,a,b,j,i,m,rfl,l,⟨x,by rw[rq p,Tm.L_empty,kQ],by omega,by omega⟩,k⟩
   ·refine (Rr s o y n p h4 z B x r (by omega)).mono ?_;rintro e q ⟨v,d,c,g,f,a,b,j,i,m,rfl,l,rfl,k⟩;exact⟨.row t u,d,c,g,f,a,b,j,i,m,rfl,l,⟨⟨x,r⟩,Tm.L_row t u,zA _,zA _⟩,k⟩
theorem PW {q:Tm}(ip:wT p)(iq:wT q):wT (.row p q):=by
 intro w A u a3 Z a1 a6 R a0 ma na sa U a7 V S a2 a5 mb nb sb M O hu L hk W;have p1:=mh p;have p2:=mh q;have p5:=mh u;have p3:=fE p;have p4:=fE q;have p6:=fE u;have Y:(Tm.row p q).tl=p.tl+q.tl+12:=rfl;have a4:(Tm.row p q).z=p.z+q.z:=rfl;by_cases I:u.kind=1
 ·refine (qA (A:=A) (.inr ⟨by simp[Tm.kind],I⟩)).mono ?_;rintro e T ⟨v,i,h,f,a,g,c,y,H,k,rfl,K,rfl,n⟩;exact⟨.none,i,h,f,a,g,c,y,H,k,rfl,K,⟨trivial,by rw[Tm.L_none,rp I,Tm.L_none,uc],by show 1<=_;omega,by show 12<=_;omega⟩,n⟩
 ·by_cases s:u.kind=2
  ·refine (Et M (by simp[Tm.kind]) (by simp[Tm.kind]) s rfl O).mono ?_;rintro e T ⟨v,i,h,f,a,g,c,y,H,k,rfl,K,rfl,n⟩;exact⟨.row p q,i,h,f,a,g,c,y,H,k,rfl,K,⟨L,by rw[rq s,Tm.L_empty,kQ],by omega,by omega⟩,n⟩
  ·obtain⟨a,c,xs,ys,k,e,d,Q,P,_⟩:=O;simp only[Tm.kind,TC,zT,zm,zu,yc,yB,yK]at e;obtain⟨⟨rfl,rfl,rfl⟩,⟨rfl,rfl,rfl⟩,rfl,rfl,rfl⟩:=e;obtain⟨x,o,J,t,z,m,mx,nx,sx,rfl,_⟩:=Q.form;obtain⟨r,D,C,F,G,l,my,ny,sy,rfl,_⟩:=P.form;obtain⟨b,B,rfl,a8,hb,c0⟩:=d 0 _ rfl;have cc:∀j v,(TC p.kind x o J t z m mx nx sx++TC q.kind r D C F G l my ny sy)[j]?=some v->w.cell? ⟨b,B+j,none⟩=some v:=λj v hj=>by
    obtain⟨b',N,E,_,_,X⟩:=d j v hj;injection E with E;injection E with e1 e2;subst e1 e2;exact X
   rw[Tm.L_row];exact PV M ip iq I s hb cc Q P hu L.1 L.2 hk (by omega)
theorem nY:∀t:Tm,wT t
 |.none=>iW (by simp[Tm.kind])
 |.empty=>iW (by simp[Tm.kind])
 |.set _=>iW (by simp[Tm.kind])
 |.row p q=>PW (nY p) (nY q)
 |.or _=>iW (by simp[Tm.kind])
 |.and _=>iW (by simp[Tm.kind])
 |.not _=>iW (by simp[Tm.kind])
 |.many _ _ _=>iW (by simp[Tm.kind])
def xZ (t:Tm):Prop:=∀(w:World) (A:Nat->Prop) (so:Option Addr) (sn sc:Nat) (lo:Option Addr) (ln lc:Nat) (m n:Int) (s:ByteArray),aj w A t (TC t.kind so sn sc lo ln lc m n s)->t.Ok->t.tl<=8000000000000000000 ->
 Calls prog 29 #[.agg #[Vi t.kind,.slice so sn sc,.slice lo ln lc,Vi m,Vi n,.string s]] w λe w'=>∃v:Bool,e=.returned (.bool v)/\(v=true↔t.L [])/\Bw w w'
noncomputable def dl:List Tm->Nat
 | []=>0
 |t::l=>(open Classical in if t.L []then 1 else 0)+dl l
theorem vj:∀l m:List Tm,dl (l++m)=dl l+dl m
 | [],m=>by simp[dl]
 |t::l,m=>by simp only[zV,dl,vj l m];omega
theorem uu:∀l:List Tm,dl l<=l.length
 | []=>zA _
 |t::l=>by
  have:=uu l;simp only[dl,zG]
  split<;>omega
theorem qN:∀l:List Tm,dl l=l.length↔∀t∈l,t.L []
 | []=>by simp[dl]
 |t::l=>by
  have b:=uu l;have a:=qN l;simp only[dl,zG,zO,forall_eq_or_imp]
  split
  ·rename_i h
   rw[<-a];exact⟨λe=>⟨h,by omega⟩,λe=>by omega⟩
  ·rename_i h
   exact⟨λe=>by omega,λe=>absurd e.1 h⟩
theorem Fg:∀l:List Tm,0<dl l↔∃t∈l,t.L []
 | []=>by simp[dl]
 |t::l=>by
  have a:=Fg l;simp only[dl,zO,exists_eq_or_imp]
  split
  ·rename_i h
   exact⟨λ_=>.inl h,λ_=>by omega⟩
  ·rename_i h
   rw[zf,a];exact⟨λe=>.inr e,λe=>e.elim (λe=>absurd e h) id⟩
theorem OR (w:World)(so:OA)(sn sc:Nat)(lo:OA)(ln lc:Nat)(m n:Int)(s:ByteArray):Calls prog 29 #[.agg #[Vi 1,.slice so sn sc,.slice lo ln lc,Vi m,Vi n,.string s]] w λe w'=>e=.returned (.bool false)/\Bw w w':=by
 have a:=(zE w.heap.size w).alloc (zA _) (.cells #[Vi 1,.slice so sn sc,.slice lo ln lc,Vi m,Vi n,.string s] 58);have b:=aa a;go_enter func29,ntmps29;go_wp2_with fail;go_ret;exact⟨rfl,b⟩
theorem LD (w:World)(so:OA)(sn sc:Nat)(lo:OA)(ln lc:Nat)(m n:Int)(s:ByteArray):Calls prog 29 #[.agg #[Vi 2,.slice so sn sc,.slice lo ln lc,Vi m,Vi n,.string s]] w λe w'=>e=.returned (.bool true)/\Bw w w':=by
 have a:=(zE w.heap.size w).alloc (zA _) (.cells #[Vi 2,.slice so sn sc,.slice lo ln lc,Vi m,Vi n,.string s] 58);have b:=aa a;go_enter func29,ntmps29;go_wp2_with fail;go_ret;exact⟨rfl,b⟩
theorem Sm (w:World)(so:OA)(sn sc:Nat)(lo:OA)(ln lc:Nat)(m n:Int)(s:ByteArray):Calls prog 29 #[.agg #[Vi 3,.slice so sn sc,.slice lo ln lc,Vi m,Vi n,.string s]] w λe w'=>e=.returned (.bool false)/\Bw w w':=by
 have a:=(zE w.heap.size w).alloc (zA _) (.cells #[Vi 3,.slice so sn sc,.slice lo ln lc,Vi m,Vi n,.string s] 58);have b:=aa a;go_enter func29,ntmps29;go_wp2_with fail;go_ret;exact⟨rfl,b⟩
theorem sV (hK:K=4\/K=5\/K=6)(hr:cg w A lo xs)(hl:aO w A l xs)(ih:∀t∈l,xZ t)(hok:∀t∈l,t.Ok)(htl:∀t∈l,t.tl<=8000000000000000000)(hlen:l.length<=9000000000000000000):Calls prog 29 #[.agg #[.int .i64 K,.slice so sn sc,.slice lo l.length lc,.int .i64 m,.int .i64 n,.string s]] w λe w'=>e=.returned (.bool (decide (dl l=l.length)||(decide (K=5)&&decide (0<dl l))))/\Below w.heap.size w w':=by
 obtain⟨T,F,o,k,-⟩:=dS (rfl:w.heap.size=_) (TC K so sn sc lo l.length lc m n s) 58;have a0:T.cell? ⟨w.heap.size,0,none⟩=some (.int .i64 K):=k.cell 0;have b3:=k.lt;have k1:(K==1)=false:=zD.2 (by omega);have k2:(K==2)=false:=zD.2 (by omega);have k3:(K==3)=false:=zD.2 (by omega);have k7:(K==7)=false:=zD.2 (by omega);have k8:(K==8)=false:=zD.2 (by omega);have Y:=aa k;have L:=aa o;have N:=aa F;have HR:=aa (hr.below o);have HL:=aa (aO.below o _ _ hl);have O:=aa ih;have J:=aa hok;have U:=aa htl;clear F o k hr hl ih hok hK htl;go_enter func29,ntmps29;go_upto_region 1 with fail;rw[N.out];generalize hS:w.heap.size=S at *;go_wp2_with fail
 go_loopg [4,5] l.length (λj cv iv wr=>∃i:Nat,iv=.int .i64 i/\cv=.int .i64 (dl (l.take i):Nat)/\i<=l.length/\l.length-i<=j/\Below T.heap.size T wr)
 case atStart=>exact⟨0,rfl,rfl,zW _,zA _,zE _ _⟩
 case round=>
  obtain⟨i,rfl,rfl,a3,a5,a⟩:=hrel;have f:=Y.below a;have a2:wr.cell? ⟨S,2,none⟩=some (.slice lo l.length lc):=f.cell 2;have a6:wr.cell? ⟨S,0,none⟩=some (.int .i64 K):=f.cell 0;have b2:=f.lt;have i0:(0:Int)<=(i:Int):=zK _;have r:=aa a;by_cases M:i<l.length
  ·have i1:(i:Int)<(l.length:Int):=by omega
   obtain⟨t,G⟩:∃t,l[i]?=some t:=⟨_,zB M⟩;have g:=zU G;obtain⟨b,b1,c,rfl,_,hb,d,W⟩:=(HR.out.below a).at (aO.below a _ _ HL.out) G;obtain⟨b0,a7,a4,a9,a1,a8,m',n',s',rfl,_⟩:=d.form;obtain⟨y0,y1,y2,y3,y4,y5⟩:=JJ W;have Z:=aa (O t g wr A _ _ _ _ _ _ _ _ _ d (J t g) (U t g));have P:Hid (dl (l.take (i+1))=dl (l.take i)+dl [t]):=by
    show _=_
    rw[show l.take (i+1)=l.take i++[t] by rw[zi,G];rfl,vj]
   have y:Hid (dl (l.take i)<=i):=by
    have h9:=uu (l.take i);rw[yn]at h9;show _<=_
    omega
   obtain⟨C,u⟩:∃C,dl (l.take i)=C:=⟨_,rfl⟩;rw[u]at P y ⊢;have c9:(C:Int)+1<=9000000000000000001:=by have:=y.out;omega
   clear d W G g f a u;go_wp2_with fail;refine Z.mono ?_;rintro e w5 ⟨v,rfl,D,B⟩;have z:=aa (r.trans (B.mono r.size));have E:=aa D;clear B D Z;cases v with
   |true=>
    have Q:Hid (dl (l.take (i+1))=C+1):=by show _=_;rw[P.out];simp[dl,E.out.1 rfl]
    go_wp2_with fail
    go_roundg (l.length-(i+1))
    case measure=>omega
    exact⟨i+1,by first|rfl|go_num,by rw[Q.out];first|rfl|go_num,by omega,by omega,z⟩
   |false=>
    have Q:Hid (dl (l.take (i+1))=C):=by
     have R:¬t.L []:=λh=>by have:=E.2 h;cases this
     show _=_
     rw[P.out];simp[dl,R]
    go_wp2_with fail
    go_roundg (l.length-(i+1))
    case measure=>omega
    exact⟨i+1,by first|rfl|go_num,by rw[Q.out],by omega,by omega,z⟩
  ·have i1:decide ((i:Int)<(l.length:Int))=false:=zI (by omega);obtain rfl:i=l.length:=by omega
   rw[zQ];have p:Hid (Below S w wr):=L.trans (r.mono (yJ Y.lt));have I:=uu l;obtain⟨C,u⟩:∃C,dl l=C:=⟨_,rfl⟩;rw[u]at I;rw[u];have q:=aa u;clear a f u;by_cases V:C=l.length
   ·have q1:((C:Int)==(l.length:Int))=true:=beq_iff_eq.2 (by omega);have d:(decide (dl l=l.length)||(decide (K=5)&&decide (0<dl l)))=true:=by rw[q.out];simp[V]
    have x:=aa d;clear d;go_wp2_with fail;go_ret;exact⟨by rw[x.out];rfl,by rw[hS];exact p⟩
   ·have q1:((C:Int)==(l.length:Int))=false:=zD.2 (by omega);by_cases H:K=5
    ·have q2:(K==5)=true:=beq_iff_eq.2 H;by_cases X:0<C
     ·have q3:decide ((0:Int)<(C:Int))=true:=zv (by omega);have d:(decide (dl l=l.length)||(decide (K=5)&&decide (0<dl l)))=true:=by rw[q.out];simp[H,X]
      have x:=aa d;clear d;go_wp2_with fail;go_ret;exact⟨by rw[x.out];rfl,by rw[hS];exact p⟩
     ·have q3:decide ((0:Int)<(C:Int))=false:=zI (by omega);have d:(decide (dl l=l.length)||(decide (K=5)&&decide (0<dl l)))=false:=by rw[q.out];simp[V,X]
      have x:=aa d;clear d;go_wp2_with fail;go_ret;exact⟨by rw[x.out];rfl,by rw[hS];exact p⟩
    ·have q2:(K==5)=false:=zD.2 H;have d:(decide (dl l=l.length)||(decide (K=5)&&decide (0<dl l)))=false:=by rw[q.out];simp[V,H]
     have x:=aa d;clear d;go_wp2_with fail;go_ret;exact⟨by rw[x.out];rfl,by rw[hS];exact p⟩
theorem Sn (ih:xZ u)(hok:u.Ok)(htl:u.tl<=8000000000000000000)(hbl:b<w.heap.size)(hv:aj w A u (TC u.kind so' sn' sc' lo' ln' lc' m' n' s'))(hc:∀j v,(TC u.kind so' sn' sc' lo' ln' lc' m' n' s')[j]?=some v->w.cell? ⟨b,off+j,none⟩=some v):Calls prog 29 #[.agg #[.int .i64 7,.slice none 0 0,.slice (some ⟨b,off,none⟩) 1 lc,.int .i64 0,.int .i64 0,.string s]] w λe w'=>∃v:Bool,e=.returned (.bool v)/\(v=true↔¬u.L [])/\Below w.heap.size w w':=by
 obtain⟨d,h,a,c,-⟩:=dS (rfl:w.heap.size=_) (TC 7 none 0 0 (some ⟨b,off,none⟩) 1 lc 0 0 s) 58;have t:d.cell? ⟨w.heap.size,0,none⟩=some (.int .i64 7):=c.cell 0;have B:d.cell? ⟨w.heap.size,2,none⟩=some (.slice (some ⟨b,off,none⟩) 1 lc):=c.cell 2;have y:d.cell? ⟨w.heap.size,3,none⟩=some (.int .i64 0):=c.cell 3;have m:=c.lt;have p:b<d.heap.size:=zF hbl a.size;obtain⟨z,r,C,D,E,x⟩:=oT a hbl hc;have o:=aa (ih d A _ _ _ _ _ _ _ _ _ (aj.below a _ _ hv) hok htl);have k:=aa a;have l:=aa h;clear h a c ih hok hv hc htl;go_enter func29,ntmps29;go_upto_region 1 with fail;rw[l.out];generalize hS:w.heap.size=S at *;go_wp2_with fail;refine o.mono ?_;rintro e q ⟨v,rfl,g,f⟩;have i:=aa (k.trans (f.mono (yJ m)));have n:=aa g;clear f g o;go_wp2_with fail;go_ret;refine⟨!v,rfl,?_,by rw[hS];exact i⟩;rw[<-n.out];cases v<;>simp
theorem OS (ih:xZ u)(hok:u.Ok)(htl:u.tl<=8000000000000000000)(hbl:b<w.heap.size)(hv:aj w A u (TC u.kind so' sn' sc' lo' ln' lc' m' n' s'))(hc:∀j v,(TC u.kind so' sn' sc' lo' ln' lc' m' n' s')[j]?=some v->w.cell? ⟨b,off+j,none⟩=some v):Calls prog 29 #[.agg #[.int .i64 8,.slice none 0 0,.slice (some ⟨b,off,none⟩) 1 lc,.int .i64 m,.int .i64 n,.string s]] w λe w'=>∃v:Bool,e=.returned (.bool v)/\(v=true↔m=0\/u.L [])/\Below w.heap.size w w':=by
 obtain⟨d,h,a,c,-⟩:=dS (rfl:w.heap.size=_) (TC 8 none 0 0 (some ⟨b,off,none⟩) 1 lc m n s) 58;have C:d.cell? ⟨w.heap.size,0,none⟩=some (.int .i64 8):=c.cell 0;have G:d.cell? ⟨w.heap.size,2,none⟩=some (.slice (some ⟨b,off,none⟩) 1 lc):=c.cell 2;have E:d.cell? ⟨w.heap.size,3,none⟩=some (.int .i64 m):=c.cell 3;have p:=c.lt;have x:b<d.heap.size:=zF hbl a.size;obtain⟨F,B,H,I,J,D⟩:=oT a hbl hc;have t:=aa (ih d A _ _ _ _ _ _ _ _ _ (aj.below a _ _ hv) hok htl);have i:=aa a;have k:=aa h;clear h a c ih hok hv hc htl;by_cases l:m=0
 ·have r:=aa l;clear l;go_enter func29,ntmps29;go_upto_region 1 with fail;rw[k.out];generalize hS:w.heap.size=S at *;have y:(m==0)=true:=beq_iff_eq.2 r;go_wp2_with fail;go_ret;exact⟨true,rfl,by simp[r.out],by rw[hS];exact i⟩
 ·have y:(m==0)=false:=zD.2 l;go_enter func29,ntmps29;go_upto_region 1 with fail;rw[k.out];generalize hS:w.heap.size=S at *;go_wp2_with fail;refine t.mono ?_;rintro e z ⟨v,rfl,g,f⟩;have o:=aa (i.trans (f.mono (yJ p)));have q:=aa g;clear f g t;go_wp2_with fail;go_ret;exact⟨v,rfl,by rw[<-q.out];simp[l],by rw[hS];exact o⟩
theorem uv:∀{l:List Tm} {t:Tm},t∈l->t.tl<=bw l
 |u::l,t,h=>by
  simp only[bw];rcases zO.1 h with rfl|h
  ·omega
  ·have:=uv h;omega
theorem pZ:∀l:List Tm,12*l.length<=bw l
 | []=>zA _
 |t::l=>by
  have a:=mh t;have b:=pZ l;simp only[bw,zG];omega
theorem cg.one {k:Int}(h:cg w A lo (TC k so sn sc lo' ln lc m n s)):∃b off,lo=some (aD b off)/\A b/\b<w.heap.size/\∀j v,(TC k so sn sc lo' ln lc m n s)[j]?=some v->w.cell? ⟨b,off+j,none⟩=some v:=by
 obtain⟨b,off,e,f,i,_⟩:=h 0 _ rfl;refine⟨b,off,e,f,i,λj v d=>?_⟩;obtain⟨l,c,a,_,_,g⟩:=h j v d;rw[e]at a;injection a with a;injection a with e1 e2;subst e1 e2;exact g
mutual
theorem iR:∀t:Tm,xZ t
 |.none=>λw A k x y o j r m n s _ _ _=>(OR w k x y o j r m n s).mono λe E ⟨z,g⟩=>⟨false,z,by simp[Tm.L],g⟩
 |.empty=>λw A k x y o j r m n s _ _ _=>(LD w k x y o j r m n s).mono λe E ⟨z,g⟩=>⟨true,z,by simp[Tm.L],g⟩
 |.set _=>λw A k x y o j r m n s _ _ _=>(Sm w k x y o j r m n s).mono λe E ⟨z,g⟩=>⟨false,z,by simp[Tm.L],g⟩
 |.row a b=>by
  have W:=iR a;have I:=iR b;intro w A k x y o j r m n s D d f;obtain⟨C,B,L,ys,J,e,c,X,hq,_⟩:=D;simp only[Tm.kind,TC,zT,zm,zu,yc,yB,yK]at e;obtain⟨⟨rfl,rfl,rfl⟩,⟨rfl,rfl,rfl⟩,rfl,rfl,rfl⟩:=e;refine (sV (l:=[a,b]) (K:=4) (.inl rfl) c ((aO.one X).append (aO.one hq)) (λt i=>by simp at i;rcases i with rfl|rfl;exact W;exact I) (λt i=>by simp at i;rcases i with rfl|rfl;exact d.1;exact d.2) (λt i=>by have M:a.tl+b.tl+12<=8000000000000000000:=f;simp at i;rcases i with rfl|rfl<;>omega) (by simp)).mono ?_;rintro e E ⟨rfl,g⟩;refine⟨_,rfl,?_,g⟩;have H:=qN [a,b];simp only[yZ,zY,yP,H,Tm.L_row,Dc];simp
 |.or l=>by
  have F:=sW l;intro w A k x y o j r m n s D d f;obtain⟨C,B,L,J,e,c,U,_⟩:=D;simp only[Tm.kind,TC,zT,zm,zu,yc,yB,yK]at e;obtain⟨⟨rfl,rfl,rfl⟩,⟨rfl,rfl,rfl⟩,rfl,rfl,rfl⟩:=e;have M:bw l+12<=8000000000000000000:=f;have h8:=pZ l;refine (sV (l:=l) (K:=5) (.inr (.inl rfl)) c U F (dO.1 d.1) (λt i=>by have:=uv i;omega) (by omega)).mono ?_;rintro e E ⟨rfl,g⟩;refine⟨_,rfl,?_,g⟩;have H:=qN l;have Y:=Fg l;simp only[yZ,zY,yP,H,Y,Tm.L,qc,yB];refine⟨λh=>h.elim (λh=>?_) id,.inr⟩;cases l with
  |nil=>exact absurd rfl d.2
  |cons t l=>exact⟨t,by simp,h t (by simp)⟩
 |.and l=>by
  have F:=sW l;intro w A k x y o j r m n s D d f;obtain⟨C,B,L,J,e,c,U,_⟩:=D;simp only[Tm.kind,TC,zT,zm,zu,yc,yB,yK]at e;obtain⟨⟨rfl,rfl,rfl⟩,⟨rfl,rfl,rfl⟩,rfl,rfl,rfl⟩:=e;have M:bw l+12<=8000000000000000000:=f;have h8:=pZ l;refine (sV (l:=l) (K:=6) (.inr (.inr rfl)) c U F (dO.1 d.1) (λt i=>by have:=uv i;omega) (by omega)).mono ?_;rintro e E ⟨rfl,g⟩;refine⟨_,rfl,?_,g⟩;have H:=qN l;simp only[yZ,zY,yP,H,Tm.L,nK];simp
 |.not u=>by
  have F:=iR u;intro w A k x y o j r m n s D d f;obtain⟨C,B,L,J,e,c,G,_⟩:=D;simp only[Tm.kind,TC,zT,zm,zu,yc,yB,yK]at e;obtain⟨⟨rfl,rfl,rfl⟩,⟨rfl,rfl,rfl⟩,rfl,rfl,rfl⟩:=e;obtain⟨V,N,O,Q,P,R,m2,n2,Z,rfl,_⟩:=G.form;obtain⟨b,S,rfl,_,I,T⟩:=c.one;refine (Sn F d (by have M:u.tl+12<=8000000000000000000:=f;omega) I G T).mono ?_;rintro e E ⟨v,rfl,z,g⟩;exact⟨v,rfl,z,g⟩
 |.many u p q=>by
  have F:=iR u;intro w A k x y o j r m n s D d f;obtain⟨C,B,L,J,e,c,G,_⟩:=D;simp only[Tm.kind,TC,zT,zm,zu,yc,yB,yK]at e;obtain⟨⟨rfl,rfl,rfl⟩,⟨rfl,rfl,rfl⟩,rfl,rfl,rfl⟩:=e;obtain⟨V,N,O,Q,P,R,m2,n2,Z,rfl,_⟩:=G.form;obtain⟨b,S,rfl,_,I,T⟩:=c.one;refine (OS F d.1 (by have M:u.tl+12<=8000000000000000000:=f;omega) I G T).mono ?_;rintro e E ⟨v,rfl,z,g⟩;refine⟨v,rfl,?_,g⟩;rw[z,Tm.L_many,Db d.2.1 (by have:=d.2.2.2;omega)]
theorem sW:∀l:List Tm,∀t∈l,xZ t
 | [],t,h=>by simp at h
 |u::l,t,h=>by
  have b:=iR u;have a:=sW l;rcases zO.1 h with rfl|h
  ·exact b
  ·exact a t h
end
theorem eO {w:World}{ops:Array Oper}{rest:List Oper}{o:Oper}{a:Act}{Q:Exit->Act->World->Prop}(hgd:o.guard=none)(s x:Operand)(t e:TypeId)(i0:TypeInfo)(z:Value)(size bytes:Nat)
  (ho:o.op=.call { callee:=.builtin .append,args:=#[s,x],argTypes:=#[t,t] }) (hu:prog.underlying t=some (.slice e)) (hi:prog.info? e=some i0) (hz:i0.zero=some z) (hsz:i0.size=size) (hby:i0.bytes=bytes) (hzs:z.cells.size=size) (hpos:0<size)
  (B n:Nat) (v:Value) (xs:LV) (hs:a.eval s=v) (hown:w.ownsRow B e size v n xs)
  (ao:OA) (m c:Nat) (news:LV) (hx:a.eval x=.slice ao m c) (hnone:ao=none->m=0/\c=0) (hl:news.length=m*size) (hnews:∀ad,ao=some ad->∀j u,news[j]?=some u->w.cell? (ad.add j)=some u) (h1:∀u∈news,u.oneCell'=true)
  (h63:n+m<=maxLen) (hn:((n+m)+(n+m) / 4+192)*bytes<=281474976710656) (hB:B<=w.heap.size)
  (h:∀v' w',w'.ownsRow B e size v' (n+m) (xs++news)->w.grownBy w' v.ownBlock->wpList prog ops Q rest (a.put o.dst v') w'):wpList prog ops Q (o::rest) a w:=by
 cases ao with
 |some ad=>exact wpList_append_own_wide w hgd s x t ho B e i0 z size bytes hu hi hz hsz hby hzs hpos v n xs hs hown ad m c news hx hl (hnews ad rfl) h1 h63 hn hB λv' w' d b _=>h v' w' d b
 |none=>
  obtain⟨rfl,rfl⟩:=hnone rfl;have hnews:news=[]:=yf (by simpa using hl);subst hnews;exact wpList_append_own_none hgd s x t ho B e i0 size hu hi v n xs hs hown hx (h v w (by simpa using hown) (World.grownBy.refl _ _))
theorem lM:(prog.info? 58).map (λi=>(i.zero,i.size,i.bytes))=some (some (.agg #[Vi 0,Vz,Vz,Vi 0,Vi 0,.string ⟨#[]⟩]),6,88):=by kernel_rfl
theorem bg {n:Nat}(h:w.ownsRow B e size v n xs)(k:Bw w w'):w'.ownsRow B e size v n xs:=by
 have c:=h.lt;obtain⟨j,b⟩:=h;refine⟨j,?_⟩;rcases b with b|⟨g,d,a,rfl,f,i,r⟩
 ·exact .inl b
 ·exact .inr ⟨g,d,a,rfl,f,(k.block g (c g rfl).2).trans i,r⟩
theorem ij {B' n:Nat}(h:w.ownsRow B e size v n xs)(hb:B'<=B):w.ownsRow B' e size v n xs:=by
 refine⟨h.1,?_⟩;rcases h.2 with c|⟨g,b,a,e,d,r⟩
 ·exact .inl c
 ·exact .inr ⟨g,b,a,e,zJ hb d,r⟩
theorem cd {n:Nat}(h:w.ownsRow B e size v n xs):∃ao cap,v=.slice ao n cap:=by
 rcases h.2 with⟨rfl,rfl⟩|⟨g,cap,a,rfl,_⟩<;>exact⟨_,_,rfl⟩
theorem cD {w1:World}{n:Nat}(hb:Below B w W)(hB:B<=W.heap.size)(ho:W.ownsRow B e size v n xs)(hg:W.grownBy w1 v.ownBlock):Below B w w1:=hb.grown hg hB λk e=>(ho.lt k e).1
theorem fN {n:Nat}(h:w.ownsRow B 58 6 (.slice lo n cap) n xs):cg w (λg=>B<=g) lo xs:=λj u a=>by
 rcases h.2 with⟨l,f⟩|⟨g,c,d,e,i,k,r⟩
 ·have:=h.1;rw[f,Nat.zero_mul]at this;rw[yf this]at a;simp at a
 ·injection e with e1 e2 e3;subst e1 e3;have b:=h.cells (g:=g) rfl j u a;rw[zl]at b;exact⟨g,0,rfl,i,(h.lt g rfl).2,b⟩
theorem Rb {n:Nat}(h:w.ownsRow B 58 6 (.slice lo n cap) n xs):n<=cap/\(lo=none->n=0/\cap=0):=by
 rcases h.2 with⟨d,c⟩|⟨g,a,b,e,f,i,r,_⟩
 ·injection d with e1 e2 e3;subst e1 e3;exact⟨by omega,λ_=>⟨c,rfl⟩⟩
 ·injection e with e1 e2 e3;subst e1 e3;exact⟨r,λe=>by cases e⟩
theorem sD (k:Int)(so:OA)(sn sc:Nat)(lo:OA)(ln lc:Nat)(m n:Int)(s:ByteArray):∀u∈TC k so sn sc lo ln lc m n s,u.oneCell'=true:=by
 intro u a;simp[TC]at a;rcases a with rfl|rfl|rfl|rfl|rfl|rfl<;>rfl
theorem aO.ones {A:NP}{w:World}:∀{l:List Tm} {xs:LV},aO w A l xs->∀u∈xs,u.oneCell'=true
 | [],_,h=>by rw[show _=[]from h];simp
 |t::l,_,h=>by
  obtain⟨c,r,rfl,d,b⟩:=h;obtain⟨g,k,f,i,e,j,m,n,s,rfl,_⟩:=d.form;intro u a;rcases zM.1 a with a|a
  ·exact sD _ _ _ _ _ _ _ _ _ _ u a
  ·exact aO.ones b u a
theorem cg.get (hr:cg w A lo xs)(hl:aO w A' l xs)(hi:l[i]?=some t):∃b off c,lo=some (aD b off)/\b<w.heap.size/\aj w A' t c/\∀j v,c[j]?=some v->w.cell? ⟨b,off+i*6+j,none⟩=some v:=by
 obtain⟨c,f,k⟩:=hl.at hi;have o:∃v,c[0]?=some v:=⟨_,zB (by rw[f.len];decide)⟩;obtain⟨q,d⟩:=o;obtain⟨b,off,e,r,n,_⟩:=hr (6*i+0) q (by rw[k 0 (by decide)];exact d);refine⟨b,off,c,e,n,f,λj v m=>?_⟩;have g:j<6:=by have:=(zC.1 m).1;rw[f.len]at this;exact this
 obtain⟨s,h,a,_,_,p⟩:=hr (6*i+j) v (by rw[k j g];exact m);rw[e]at a;injection a with a;injection a with e1 e2;subst e1 e2;rw[show off+i*6+j=off+(6*i+j) by omega];exact p
theorem kE {a b:ByteArray}(h:a.toList=b.toList):af a=af b:=by
 unfold af;rw[<-Lib.toList_data,<-Lib.toList_data,h]
theorem El (hr:cg w A lo xs)(k:Nat):∀ad,lo=some ad->∀j u,(xs.take k)[j]?=some u->w.cell? (ad.add j)=some u:=λad e j u c=>by
 have h:xs[j]?=some u:=by
  have f:=(zC.1 c).1;rw[yn]at f;rw[List.getElem?_take_of_lt (by omega)]at c;exact c
 obtain⟨b,g,a,_,_,d⟩:=hr j u h;rw[e]at a;injection a with a;subst a;rw[zl];exact d
theorem Rc (hr:cg w A lo xs){k n:Nat}(hn:xs.length=6*n)(hc:n<=cap){ao:OA}(hao:¬cap=k->∀b off,lo=some (aD b off)->ao=some ⟨b,off+k*6,none⟩):∀ad,ao=some ad->∀j u,(xs.drop (6*k))[j]?=some u->w.cell? (ad.add j)=some u:=λad e j u a=>by
 rw[List.getElem?_drop]at a;have d:=(zC.1 a).1;obtain⟨b,off,c,_,_,hc⟩:=hr _ u a;rw[hao (by omega) b off c]at e;injection e with e;subst e;rw[zl,show off+k*6+j=off+(6*k+j) by omega];exact hc
def Ym (w:World)(B:Nat)(A:Nat->Prop)(ts:List Tm)(t:Tm)(e:Ending)(w':World):Prop:=∃v' ts' xs',e=.returned v'/\w'.ownsRow B 58 6 v' ts'.length xs'/\aO w' A ts' xs'/\(∀y,y∈ts'↔y∈ts\/y=t)/\bw ts'<=bw ts+t.tl/\bd ts'<=bd ts+t.z/\Bw w w'
theorem UZ (k:Nat)(y:Tm):y∈ts.take k++t::ts.drop k↔y∈ts\/y=t:=by
 have h:y∈ts↔y∈ts.take k\/y∈ts.drop k:=by rw[<-zM,zj]
 simp only[zM,zO,h];constructor
 ·rintro (h|h|h)
  ·exact .inl (.inl h)
  ·exact .inr h
  ·exact .inl (.inr h)
 ·rintro ((h|h)|h)
  ·exact .inl h
  ·exact .inr (.inr h)
  ·exact .inr (.inl h)
theorem Va (k:Nat):bw (ts.take k++t::ts.drop k)=bw ts+t.tl:=by
 have h:bw ts=bw (ts.take k)+bw (ts.drop k):=by rw[<-ez,zj]
 rw[ez,h];simp only[bw];omega
theorem Vb (k:Nat):bd (ts.take k++t::ts.drop k)=bd ts+t.z:=by
 have h:bd ts=bd (ts.take k)+bd (ts.drop k):=by rw[<-dV,zj]
 rw[dV,h];simp only[bd];omega
theorem Ek {lo0:OA}{cap0:Nat}(hB:B<=w.heap.size)
  (hown:w.ownsRow B 58 6 (.slice lo0 ts.length cap0) ts.length xs) (hl:aO w A ts xs) (hokl:dW ts) (hv:aj w A t (TC K so sn sc lo ln lc m n s)) (hok:t.Ok) (hlen:ts.length<=2000000000000):Calls prog 60 #[.slice lo0 ts.length cap0,.agg #[.int .i64 K,.slice so sn sc,.slice lo ln lc,.int .i64 m,.int .i64 n,.string s]] w (Ym w B A ts t):=by
 obtain⟨I,c5,x,c3,-⟩:=dS (rfl:w.heap.size=_) (TC K so sn sc lo ln lc m n s) 58;have d2:=aa (show af s=t.key from by obtain⟨c9,c4,b2,b9,a8,b1,m',n',s',e,h⟩:=hv.form;injection e with _ e;injection e with _ e;injection e with _ e;injection e with _ e;injection e with _ e;injection e with e _;injection e with e;rw[e];exact h);obtain⟨b7,C⟩:=Rb hown;have HR:=aa (((fN hown).mono (A':=λg=>B<=g/\g<w.heap.size) (λg J R=>⟨R,J⟩)).below x);have HO:=aa (bg hown x);have f3:=aa hown;have HL:=aa (aO.below x _ _ hl);have HV:=aa (aj.below x _ _ hv);have HX:=aa c3;have d4:=aa hl;have d7:=aa hv;have c0:=aa x;have e0:=aa c5;have f0:=aa hok;have d0:=aa hokl;have b0:=aa C;have HB:=aa hB;have b4:=aa b7;clear c5 x c3 hown hl hv hok hokl C hB;obtain⟨i0,hi,X,Q,O⟩:=zz lM;go_enter func60,ntmps60;go_upto_region 1 with fail;rw[e0.out];generalize hS:w.heap.size=S at *;go_wp2_with fail
 go_loopw [5] (λi wr=>∃k:Nat,k<=ts.length/\i=.int .i64 k/\Below I.heap.size I wr) (λi _=>ts.length-(intOf i).toNat)
 case atStart=>exact⟨0,zW _,rfl,zE _ _⟩
 case round=>
  obtain⟨k,hk,rfl,d⟩:=hrel;go_upto_region 2 with fail;have a:=HX.below d;have b5:wr.cell? ⟨S,5,none⟩=some (.string s):=a.cell 5;have G:=a.lt;have l:=aa d;have T:=aa a
  go_cut [20] (λv wx=>∃b:Bool,v=.bool b/\(b=true->k<ts.length)/\∃n,wx=wr.drewN n)
  case first=>
   have i1:(0:Int)<=(k:Int):=zK _;by_cases r:k<ts.length
   ·obtain⟨b,F,c,rfl,hb,hv,hc⟩:=(HR.out.below d).get (aO.below d _ _ HL.out) (zB r);obtain⟨c9,c4,b2,b9,a8,b1,m',n',s',rfl,_⟩:=hv.form;have y5:wr.cell? ⟨b,F+k*6+5,none⟩=some (.string s'):=hc 5 _ rfl;have i2:(k:Int)<(ts.length:Int):=by omega
    clear hv hc d a
    go_quiet (fail)
    go_wp2_with fail
    go_meet
    case rel=>exact⟨_,rfl,λ_=>r,_,rfl⟩
   ·have hd:decide ((k:Int)<(ts.length:Int))=false:=by simp;omega
    clear d a
    go_quiet (fail)
    go_wp2_with fail
    go_meet
    case rel=>exact⟨false,rfl,(λh=>by cases h),_,rfl⟩
  case rest=>
   obtain⟨b,rfl,q,nq,rfl⟩:=hcut;clear d a b5 G;cases b with
   |true=>
    have r:=q rfl;have i1:(0:Int)<=(k:Int):=zK _;go_wp2_with fail
    go_roundw
    case rel=>exact⟨k+1,by omega,by go_num,aR l⟩
    case measure=>simp[intOf];omega
   |false=>
    clear q;obtain⟨V,hV⟩:∃V,wr.drewN nq=V:=⟨_,rfl⟩;have p:Below I.heap.size I V:=by rw[<-hV];exact aR l
    rw[hV];clear hV l T;go_wp2_with fail;have a:=HX.below p;have b5:V.cell? ⟨S,5,none⟩=some (.string s):=a.cell 5;have G:=a.lt;have l:=aa p;have T:=aa a
    go_cut [36] (λv wx=>∃b:Bool,v=.bool b/\(b=true->t∈ts)/\∃n,wx=V.drewN n)
    case first=>
     have i1:(0:Int)<=(k:Int):=zK _;by_cases r:k<ts.length
     ·obtain⟨b,F,c,rfl,hb,hv,hc⟩:=(HR.out.below p).get (aO.below p _ _ HL.out) (zB r);obtain⟨c9,c4,b2,b9,a8,b1,m',n',s',rfl,c6⟩:=hv.form;have y5:V.cell? ⟨b,F+k*6+5,none⟩=some (.string s'):=hc 5 _ rfl;have i2:(k:Int)<(ts.length:Int):=by omega
      have e9:=aa c6;clear hv hc p a c6
      go_quiet (fail)
      go_wp2_with fail
      go_meet
      case rel=>exact⟨_,rfl,(λh=>by
       have e:af s'=af s:=kE (by simpa using h);have J:=xE r;have R:=nL (dO.1 d0 _ J) f0 (by rw[<-e9.out,<-d2.out,e]);rw[<-R];exact J),_,rfl⟩
     ·have hd:decide ((k:Int)<(ts.length:Int))=false:=by simp;omega
      clear p a
      go_quiet (fail)
      go_wp2_with fail
      go_meet
      case rel=>exact⟨false,rfl,(λh=>by cases h),_,rfl⟩
    case rest=>
     obtain⟨b,rfl,q,nq,rfl⟩:=hcut;clear p a b5 G;cases b with
     |true=>
      have a9:=aa (q rfl);clear q;go_wp2_with fail;go_ret;have W:Below I.heap.size I (V.drewN nq):=aR l;exact⟨_,ts,xs,rfl,bg HO W,aO.below W _ _ HL,λy=>⟨.inl,λh=>h.elim id (λe=>e▸a9.out)⟩,Nat.le_add_right _ _,Nat.le_add_right _ _,by rw[hS];exact c0.trans (W.mono (by have:=HX.lt;omega))⟩
     |false=>
      clear q;obtain⟨W1,a7⟩:∃W1,V.drewN nq=W1:=⟨_,rfl⟩;have E:Below I.heap.size I W1:=by rw[<-a7];exact aR l
      have e7:=aa E;have c7:=aa (HX.below E);have c8:=aa (HR.below E);have U:=aa HL.len;rw[a7];clear a7 l T E;have G:=c7.lt;have i1:(0:Int)<=(k:Int):=zK _;have i2:(k:Int)<=(ts.length:Int):=by omega
      have i3:(ts.length:Int)<=(cap0:Int):=by omega
      go_upto_region 7 with fail;go_upto_region 8 with (at_builtin;refine eO rfl (.tmp 38) (.tmp 41) 56 58 i0 _ 6 88 rfl underlying56 hi X Q O rfl (by decide) (S+1) 0 _ [] rfl (zZ _ _ _ _) _ k _ (xs.take (6*k)) rfl (λe=>by obtain⟨J,R⟩:=b0.out e;exact⟨by omega,by omega⟩) (by rw[yn,U.out];omega) (El c8 _) (λu hu=>HL.ones u (yi hu)) (by unfold maxLen;omega) (by omega) (by omega) ?_;intro v2 w2 f z);have M:Below (S+1) W1 w2:=cD (v:=.slice none 0 0) (n:=0) (xs:=[]) (zE _ _) (by omega) (zZ _ _ 58 6) z;rw[zd,zf]at f;have D:ag w2 S (TC K so sn sc lo ln lc m n s) 58:=(M.block S (xC _)).trans c7;obtain⟨f9,f2,rfl⟩:=cd f;have f8:=aa D;have e6:=aa f;have d6:=aa M;have f6:=aa z;obtain⟨a0,a1,a2,a3,a4,a5⟩:=D.six;have f5:=D.lt;clear D f M z;obtain⟨W3,c2,L,P,-⟩:=dS (rfl:w2.heap.size=_) (TC K so sn sc lo ln lc m n s) 58;have b6:=aa (bg e6 L);have e8:=aa P;have e5:=aa c2;have d3:=aa L;have f7:w2.heap.size<W3.heap.size:=P.lt;clear c2 L P;go_upto_region 9 with (at_builtin;rw[e5.out];refine eO rfl (.tmp 43) (.tmp 45) 56 58 i0 _ 6 88 rfl underlying56 hi X Q O rfl (by decide) (S+1) k _ _ rfl b6 _ 1 _ (TC K so sn sc lo ln lc m n s) rfl (λe=>by cases e) rfl (λad e j u hj=>by injection e with e;subst e;rw[zl,zf,e8.out.cell];exact hj) (sD _ _ _ _ _ _ _ _ _ _) (by unfold maxLen;omega) (by omega) (by omega) ?_;intro v4 w4 o H);have d1:S+1<=W3.heap.size:=by omega
      have N:Below (S+1) W3 w4:=cD (zE _ _) d1 b6 H;obtain⟨f4,f1,rfl⟩:=cd o;have Y:Hid (Below (S+1) W1 w4):=(d6.trans (d3.mono (by omega))).trans N;have c1:=aa o;have e2:S+1<=w4.heap.size:=zJ d1 N.size;have e3:Hid (cg w4 (λg=>B<=g/\g<S) lo0 xs):=c8.keep ⟨Y.size,λg J R=>Y.block g (Nat.lt_succ_of_lt R.2)⟩;clear o H N a0 a1 a2 a3 a4 a5;go_wp2_with (at_builtin;refine eO rfl (.tmp 47) (.tmp 50) 56 58 i0 _ 6 88 rfl underlying56 hi X Q O rfl (by decide) (S+1) (k+1) _ _ rfl c1 _ (ts.length-k) _ (xs.drop (6*k)) rfl (λe=>by have J:=b0.out (by first|exact e|(split at e;exact e;simpa using e)|simpa using e);obtain⟨R,h3⟩:=J;exact⟨by omega,by omega⟩) (by rw[yO,U.out];omega) (Rc e3 (n:=ts.length) (cap:=cap0) U b4 (by intro e4 b F e;simp[e4,e,Addr.add])) (λu hu=>HL.ones u (List.mem_of_mem_drop hu)) (by unfold maxLen;omega) (by omega) (by omega) ?_;intro v5 w5 a6 b8)
      all_goals
       go_ret;have d5:Below (S+1) w4 w5:=cD (zE _ _) e2 c1 b8;have d9:Below (S+1) W1 w5:=Y.trans d5;have e1:Below S w w5:=(c0.trans (e7.mono (by have:=HX.lt;omega))).trans (d9.mono (yN _));have Z:Below w.heap.size w w5:=by rw[hS];exact e1
       have b3:aO w5 A ts xs:=aO.below Z _ _ d4;have d8:aj w5 A t (TC K so sn sc lo ln lc m n s):=aj.below Z _ _ d7;refine⟨v5,ts.take k++t::ts.drop k,(xs.take (6*k)++TC K so sn sc lo ln lc m n s)++xs.drop (6*k),rfl,?_,?_,UZ k,Nat.le_of_eq (Va k),Nat.le_of_eq (Vb k),Z⟩
       ·have e:(ts.take k++t::ts.drop k).length=k+1+(ts.length-k):=by simp;omega
        rw[e];exact ij (by simpa [zc]using a6) (by have:=HB.out;omega)
       ·have h:=(b3.take k).append ((aO.one d8).append (b3.drop k));simpa [zc]using h
theorem vh (hok:dW l)(h:bw l<=4000000000000000000):40+20*([]:LQ).length+10*(l.map Tm.key).length+((l.map Tm.key).flatMap cU).length<=9000000000000000000:=by
 have a:=qU hok;have b:=pZ l;rw[rf,ym];simp;omega
theorem Sf (s0:ByteArray)(hr:cg w A lo xs)(hl:aO w A l xs)(hok:dW l)(htl:bw l<=4000000000000000000):Calls prog 33 #[.agg #[Vi 5,Vz,.slice lo l.length lc,Vi 0,Vi 0,.string s0]] w λe w'=>∃s,e=.returned (.agg #[Vi 5,Vz,.slice lo l.length lc,Vi 0,Vi 0,.string s])/\aj w' A (.or l) (TC 5 none 0 0 lo l.length lc 0 0 s)/\Bw w w':=by
 have c:=gF 5 none 0 [] lo lc (l.map Tm.key) 0 0 s0 w (by decide) (λi x a=>by simp at a) (λx a=>by simp at a) (by decide) (by decide) (nQ hr hl) (vh hok htl);rw[ym]at c;refine c.mono ?_;rintro e w' ⟨s,rfl,d,b⟩;refine⟨s,rfl,⟨lo,lc,xs,s,rfl,hr.below b,aO.below b _ _ hl,?_⟩,b⟩;rw[d,kt (by decide) (by decide),rf];simp[fM,Tm.key]
theorem ON (s0:ByteArray)(hr:cg w A lo xs)(hl:aO w A l xs)(hok:dW l)(htl:bw l<=4000000000000000000):Calls prog 33 #[.agg #[Vi 6,Vz,.slice lo l.length lc,Vi 0,Vi 0,.string s0]] w λe w'=>∃s,e=.returned (.agg #[Vi 6,Vz,.slice lo l.length lc,Vi 0,Vi 0,.string s])/\aj w' A (.and l) (TC 6 none 0 0 lo l.length lc 0 0 s)/\Bw w w':=by
 have c:=gF 6 none 0 [] lo lc (l.map Tm.key) 0 0 s0 w (by decide) (λi x a=>by simp at a) (λx a=>by simp at a) (by decide) (by decide) (nQ hr hl) (vh hok htl);rw[ym]at c;refine c.mono ?_;rintro e w' ⟨s,rfl,d,b⟩;refine⟨s,rfl,⟨lo,lc,xs,s,rfl,hr.below b,aO.below b _ _ hl,?_⟩,b⟩;rw[d,kt (by decide) (by decide),rf];simp[fM,Tm.key]
def Tm.parts (K:Int):Tm->List Tm
 |.or l=>if K=5 then l else[.or l]
 |.and l=>if K=6 then l else[.and l]
 |t=>[t]
def ei (K:Int):List Tm->List Tm
 | []=>[]
 |t::l=>t.parts K++ei K l
theorem sU (K:Int):∀l m:List Tm,ei K (l++m)=ei K l++ei K m
 | [],m=>rfl
 |t::l,m=>by simp only[zV,ei,sU K l m,zc]
theorem LC (h:t.kind≠K):t.parts K=[t]:=by
 cases t<;>simp only[Tm.parts]<;>first|rfl|(simp only[Tm.kind]at h;rw[zR (λe=>h e.symm)])
theorem Fb (h:t.Ok):dW (t.parts K):=by
 cases t<;>simp only[Tm.parts]<;>first|exact⟨h,trivial⟩|(split;exact h.1;exact⟨h,trivial⟩)
theorem Sg :bw (t.parts K)<=t.tl:=by
 cases t<;>simp only[Tm.parts]<;>first|(simp[bw];done)|(split<;>simp[bw,Tm.tl])
theorem Jm :bd (t.parts K)<=t.z:=by
 cases t<;>simp only[Tm.parts]<;>first|(simp[bd];done)|(split<;>simp[bd,Tm.z];omega)
theorem Fc {K:Int}:∀{l:List Tm},dW l->dW (ei K l)
 | [],_=>trivial
 |t::l,h=>by rw[ei,LX];exact⟨Fb h.1,Fc h.2⟩
theorem Fd {K:Int}:∀l:List Tm,bw (ei K l)<=bw l
 | []=>zA _
 |t::l=>by
  have a:=Fd (K:=K) l;have b:=Sg (K:=K) (t:=t);rw[ei,ez];simp only[bw];omega
theorem Jn {K:Int}:∀l:List Tm,bd (ei K l)<=bd l
 | []=>zA _
 |t::l=>by
  have a:=Jn (K:=K) l;have b:=Jm (K:=K) (t:=t);rw[ei,dV];simp only[bd];omega
theorem ko:∀l:List Tm,l.length<=bd l
 | []=>zA _
 |t::l=>by
  have a:=ko l;have b:=fE t;simp only[bd,zG];omega
theorem Sh {u:LZ}:kI (t.parts 5) u↔t.L u:=by
 cases t<;>simp only[Tm.parts]<;>simp[kI,Tm.L]
theorem OO {u:LZ}:iz (t.parts 6) u↔t.L u:=by
 cases t<;>simp only[Tm.parts]<;>simp[iz,Tm.L]
theorem Fe:∀{l:List Tm} {u:LZ},kI (ei 5 l) u↔kI l u
 | [],u=>Iff.rfl
 |t::l,u=>by
  have b:=Fe (l:=l) (u:=u);have c:=Sh (t:=t) (u:=u);rw[qc]at b c ⊢;simp only[ei,zM,kI];rw[<-b,<-c];constructor
  ·rintro⟨y,h|h,a⟩
   ·exact .inl ⟨y,h,a⟩
   ·exact .inr ⟨y,h,a⟩
  ·rintro (⟨y,h,a⟩|⟨y,h,a⟩)
   ·exact⟨y,.inl h,a⟩
   ·exact⟨y,.inr h,a⟩
theorem Cu:∀{l:List Tm} {u:LZ},iz (ei 6 l) u↔iz l u
 | [],u=>Iff.rfl
 |t::l,u=>by
  have b:=Cu (l:=l) (u:=u);have c:=OO (t:=t) (u:=u);rw[nK]at b c ⊢;simp only[ei,zM,iz];rw[<-b,<-c];exact⟨λh=>⟨λy a=>h y (.inl a),λy a=>h y (.inr a)⟩,λh y a=>a.elim (h.1 y) (h.2 y)⟩
structure SomeG (K:Int)(l:List Tm)(t:Tm):Prop where
 ok:t.Ok
 or:K=5->∀u,t.L u↔kI l u
 and:K=6->∀u,t.L u↔iz l u
 z:t.z<=max 1 (bd l)
 tl:t.tl<=bw l+12
structure OutT (K:Int)(l:List Tm)(i:Nat)(ex ts:List Tm):Prop where
 mem:∀y,y∈ts↔y∈ei K (l.take i)\/y∈ex
 tl:bw ts<=bw (ei K (l.take i))+bw ex
 z:bd ts<=bd (ei K (l.take i))+bd ex
theorem OutT.start (K:Int)(l:List Tm):OutT K l 0 [] []:=⟨λy=>by simp[ei],by simp[bw],by simp[bd]⟩
theorem OutT.step {ts':List Tm}(h:OutT K l i ex ts)(hm:∀y,y∈ts'↔y∈ts\/y=t)(ht:bw ts'<=bw ts+t.tl)(hz:bd ts'<=bd ts+t.z):OutT K l i (ex++[t]) ts':=by
 refine⟨λy=>?_,?_,?_⟩
 ·rw[hm,h.mem,zM,yQ,or_assoc]
 ·have:=h.tl;rw[ez];simp only[bw];omega
 ·have:=h.z;rw[dV];simp only[bd];omega
theorem OutT.next (hi:l[i]?=some t)(h:OutT K l i (t.parts K) ts):OutT K l (i+1) [] ts:=by
 have e:ei K (l.take (i+1))=ei K (l.take i)++t.parts K:=by
  rw[zi,hi,sU];simp[ei]
 refine⟨λy=>?_,?_,?_⟩
 ·rw[h.mem,e];simp
 ·have:=h.tl;rw[e,ez];simp only[bw];omega
 ·have:=h.z;rw[e,dV];simp only[bd];omega
theorem Si (i:Nat):bw (l.take i)<=bw l:=by
 have h:bw l=bw (l.take i)+bw (l.drop i):=by rw[<-ez,zj]
 omega
theorem wD (i:Nat):bd (l.take i)<=bd l:=by
 have h:bd l=bd (l.take i)+bd (l.drop i):=by rw[<-dV,zj]
 omega
theorem OutT.ok (h:OutT K l i ex ts)(hl:dW l)(he:dW ex):dW ts:=by
 rw[dO];intro y b;rcases (h.mem y).1 b with a|a
 ·exact dO.1 (Fc (K:=K) (dO.2 λt c=>dO.1 hl t (yi c))) y a
 ·exact dO.1 he y a
theorem OutT.zle (h:OutT K l i ex ts):bd ts<=bd (l.take i)+bd ex:=by
 have a:=h.z;have b:=Jn (K:=K) (l.take i);omega
theorem OutT.tle (h:OutT K l i ex ts):bw ts<=bw (l.take i)+bw ex:=by
 have a:=h.tl;have b:=Fd (K:=K) (l.take i);omega
structure KeepT (ts:List Tm)(zt ot:Tm)(j:Nat)(ks:List Tm):Prop where
 mem:∀y,y∈ks↔y∈ts.take j/\y≠zt
 no:∀y∈ts.take j,y≠ot
 tl:bw ks<=bw (ts.take j)
 z:bd ks<=bd (ts.take j)
theorem KeepT.start (ts:List Tm)(zt ot:Tm):KeepT ts zt ot 0 []:=⟨λy=>by simp,λy a=>by simp at a,zA _,zA _⟩
theorem KeepT.skip (h:KeepT ts zt ot j ks)(hj:ts[j]?=some y)(h1:y=zt)(h2:y≠ot):KeepT ts zt ot (j+1) ks:=by
 have e:ts.take (j+1)=ts.take j++[y]:=by rw[zi,hj];rfl
 refine⟨λx=>?_,λx c=>?_,?_,?_⟩
 ·rw[h.mem,e,zM,yQ];constructor
  ·rintro⟨a,b⟩;exact⟨.inl a,b⟩
  ·rintro⟨a|a,b⟩
   ·exact⟨a,b⟩
   ·exact absurd (a.trans h1) b
 ·rw[e,zM,yQ]at c;rcases c with c|rfl
  ·exact h.no x c
  ·exact h2
 ·have:=h.tl;rw[e,ez];omega
 ·have:=h.z;rw[e,dV];omega
theorem KeepT.put (h:KeepT ts zt ot j ks)(hj:ts[j]?=some y)(h1:y≠zt)(h2:y≠ot):KeepT ts zt ot (j+1) (ks++[y]):=by
 have e:ts.take (j+1)=ts.take j++[y]:=by rw[zi,hj];rfl
 refine⟨λx=>?_,λx c=>?_,?_,?_⟩
 ·rw[zM,h.mem,e,zM,yQ];constructor
  ·rintro (⟨a,b⟩|rfl)
   ·exact⟨.inl a,b⟩
   ·exact⟨.inr rfl,h1⟩
  ·rintro⟨a|a,b⟩
   ·exact .inl ⟨a,b⟩
   ·exact .inr a
 ·rw[e,zM,yQ]at c;rcases c with c|rfl
  ·exact h.no x c
  ·exact h2
 ·have:=h.tl;rw[e,ez,ez];omega
 ·have:=h.z;rw[e,dV,dV];omega
theorem KeepT.ok (h:KeepT ts zt ot j ks)(hts:dW ts):dW ks:=by
 rw[dO];intro y a;exact dO.1 hts y (yi ((h.mem y).1 a).1)
def dw (K:Int):Tm:=if K=6 then .not .none else .none
def eK (K:Int):Tm:=if K=6 then .none else .not .none
theorem pz (hl:l≠[])(h:OutT K l l.length [] ts):bd ts<=bd l/\bw ts<=bw l/\12<=bw l:=by
 have a:=h.zle;have b:=h.tle;rw[zQ]at a b;simp only[bw,bd]at a b;refine⟨by omega,by omega,?_⟩;have:=pZ l;have:=List.length_pos_iff.2 hl;omega
theorem Ff :(dw K).Ok/\(dw K).z=1/\(dw K).tl<=24:=by
 unfold dw;split<;>exact⟨trivial,rfl,by decide⟩
theorem Jo :(eK K).Ok/\(eK K).z=1/\(eK K).tl<=24:=by
 unfold eK;split<;>exact⟨trivial,rfl,by decide⟩
theorem OP (h:OutT 5 l l.length [] ts)(u:LZ):kI l u↔∃t∈ts,t.L u:=by
 rw[<-Fe,qc];constructor
 ·rintro⟨t,c,b⟩;exact⟨t,(h.mem t).2 (.inl (by rw[zQ];exact c)),b⟩
 ·rintro⟨t,c,b⟩;rcases (h.mem t).1 c with a|a
  ·rw[zQ]at a;exact⟨t,a,b⟩
  ·simp at a
theorem Jp (h:OutT 6 l l.length [] ts)(u:LZ):iz l u↔∀t∈ts,t.L u:=by
 rw[<-Cu,nK];constructor
 ·intro b t c;rcases (h.mem t).1 c with a|a
  ·rw[zQ]at a;exact b t a
  ·simp at a
 ·intro b t c;exact b t ((h.mem t).2 (.inl (by rw[zQ];exact c)))
theorem Sj (hK:K=5\/K=6)(hl:l≠[])(h:OutT K l l.length [] ts)(hm:eK K∈ts):SomeG K l (eK K):=by
 obtain⟨c,e,g⟩:=pz hl h;obtain⟨b,f,d⟩:=Jo (K:=K);refine⟨b,?_,?_,by omega,by omega⟩
 ·rintro rfl u;rw[OP h];exact⟨λa=>⟨_,hm,a⟩,λ_=>by simp[eK,Tm.L]⟩
 ·rintro rfl u;rw[Jp h];constructor
  ·intro a;simp[eK,Tm.L]at a
  ·intro a;exact a _ hm
theorem Bu (h:OutT 5 l l.length [] ts)(hk:KeepT ts (dw 5) (eK 5) ts.length ks)(u:LZ):kI l u↔∃t∈ks,t.L u:=by
 rw[OP h];constructor
 ·rintro⟨t,b,a⟩;exact⟨t,(hk.mem t).2 ⟨by rw[zQ];exact b,λe=>by rw[e]at a;simp[dw,Tm.L]at a⟩,a⟩
 ·rintro⟨t,b,a⟩;have:=((hk.mem t).1 b).1;rw[zQ]at this;exact⟨t,this,a⟩
theorem wE (h:OutT 6 l l.length [] ts)(hk:KeepT ts (dw 6) (eK 6) ts.length ks)(u:LZ):iz l u↔∀t∈ks,t.L u:=by
 rw[Jp h];constructor
 ·intro a t b;have:=((hk.mem t).1 b).1;rw[zQ]at this;exact a t this
 ·intro a t b;by_cases e:t=dw 6
  ·rw[e];simp[dw,Tm.L]
  ·exact a t ((hk.mem t).2 ⟨by rw[zQ];exact b,e⟩)
theorem OQ (hK:K=5\/K=6)(hl:l≠[])(h:OutT K l l.length [] ts)(hk:KeepT ts (dw K) (eK K) ts.length []):SomeG K l (dw K):=by
 obtain⟨b,f,e⟩:=pz hl h;obtain⟨a,d,c⟩:=Ff (K:=K);refine⟨a,?_,?_,by omega,by omega⟩
 ·rintro rfl u;rw[Bu h hk];simp[dw,Tm.L]
 ·rintro rfl u;rw[wE h hk];simp[dw,Tm.L]
theorem pA (hl:l≠[])(h:OutT K l l.length [] ts)(hk:KeepT ts (dw K) (eK K) ts.length ks):bd ks<=bd l/\bw ks<=bw l:=by
 obtain⟨c,e,d⟩:=pz hl h;have a:=hk.z;have b:=hk.tl;rw[zQ]at a b;exact⟨by omega,by omega⟩
theorem Hr (hK:K=5\/K=6)(hl:l≠[])(hok:dW l)(h:OutT K l l.length [] ts)(hk:KeepT ts (dw K) (eK K) ts.length [y]):SomeG K l y:=by
 obtain⟨a,b⟩:=pA hl h hk;simp only[bd,bw]at a b;refine⟨(hk.ok (h.ok hok trivial)).1,?_,?_,by omega,by omega⟩
 ·rintro rfl u;rw[Bu h hk];simp
 ·rintro rfl u;rw[wE h hk];simp
theorem VF (hl:l≠[])(hok:dW l)(h:OutT 5 l l.length [] ts)(hk:KeepT ts (dw 5) (eK 5) ts.length ks)(hne:ks≠[]):SomeG 5 l (.or ks):=by
 obtain⟨a,b⟩:=pA hl h hk;refine⟨⟨hk.ok (h.ok hok trivial),hne⟩,?_,(λe=>by cases e),?_,?_⟩
 ·rintro-u;rw[Bu h hk,<-qc];simp[Tm.L]
 ·simp only[Tm.z];omega
 ·simp only[Tm.tl];omega
theorem Sk (hl:l≠[])(hok:dW l)(h:OutT 6 l l.length [] ts)(hk:KeepT ts (dw 6) (eK 6) ts.length ks)(hne:ks≠[]):SomeG 6 l (.and ks):=by
 obtain⟨a,b⟩:=pA hl h hk;refine⟨⟨hk.ok (h.ok hok trivial),hne⟩,(λe=>by cases e),?_,?_,?_⟩
 ·rintro-u;rw[wE h hk,<-nK];simp[Tm.L]
 ·simp only[Tm.z];omega
 ·simp only[Tm.tl];omega
theorem ag.sixS {c0 c1 c2 c3 c4 c5:Value}{T:TypeId}(h:ag w b [c0,c1,c2,c3,c4,c5] T)(a0 a1 a2 a3 a4 a5:Value):ag ((((((w.setCell (aD b 0) a0).setCell (aD b 1) a1).setCell (aD b 2) a2).setCell (aD b 3) a3).setCell (aD b 4) a4).setCell (aD b 5) a5) b [a0,a1,a2,a3,a4,a5] T :=
 (((((h.set 0 a0).set 1 a1).set 2 a2).set 3 a3).set 4 a4).set 5 a5
theorem ag.sixOther {c:Nat}{T:TypeId}(h:ag w c cs T)(hne:c≠b)(a0 a1 a2 a3 a4 a5:Value):ag ((((((w.setCell (aD b 0) a0).setCell (aD b 1) a1).setCell (aD b 2) a2).setCell (aD b 3) a3).setCell (aD b 4) a4).setCell (aD b 5) a5) c cs T :=
 (((((h.setOther (p:=(aD b 0)) hne a0).setOther (p:=(aD b 1)) hne a1).setOther (p:=(aD b 2)) hne a2).setOther (p:=(aD b 3)) hne a3).setOther (p:=(aD b 4)) hne a4).setOther (p:=(aD b 5)) hne a5
theorem fV {S:Nat}(h:Below S w W)(hb:S<=b)(a0 a1 a2 a3 a4 a5:Value):Below S w ((((((W.setCell (aD b 0) a0).setCell (aD b 1) a1).setCell (aD b 2) a2).setCell (aD b 3) a3).setCell (aD b 4) a4).setCell (aD b 5) a5) :=
 (((((h.setCell (p:=(aD b 0)) hb _).setCell (p:=(aD b 1)) hb _).setCell (p:=(aD b 2)) hb _).setCell (p:=(aD b 3)) hb _).setCell (p:=(aD b 4)) hb _).setCell (p:=(aD b 5)) hb _
theorem gR (h:aj W A t cs)(hn:¬A b)(a0 a1 a2 a3 a4 a5:Value):aj ((((((W.setCell (aD b 0) a0).setCell (aD b 1) a1).setCell (aD b 2) a2).setCell (aD b 3) a3).setCell (aD b 4) a4).setCell (aD b 5) a5) A t cs:=by
 have k:∀(V:World) (o:Nat) (v:Value),ah A V (V.setCell (aD b o) v):=λV o v=>ah.set v hn;exact aj.keep ((((((k _ _ _).trans (k _ _ _)).trans (k _ _ _)).trans (k _ _ _)).trans (k _ _ _)).trans (k _ _ _)) t cs h
theorem OutT.next2 (h:OutT K l i ex ts)(hi:l[i]?=some t)(he:ex=t.parts K):OutT K l (i+1) [] ts:=by
 subst he;exact OutT.next hi h
theorem tJ {a b:ByteArray}(h:af a=af b):a.toList=b.toList:=by
 unfold af at h;rw[Lib.toList_data,Lib.toList_data,h]
theorem qj (hv:aj w A t (TC K so sn sc lo ln lc m n s)):af s=t.key:=by
 obtain⟨b,a,c,d,f,g,j,k,i,e,h⟩:=hv.form;injection e with _ e;injection e with _ e;injection e with _ e;injection e with _ e;injection e with _ e;injection e with e _;injection e with e;rw[e];exact h
theorem Tv (hK:K=5\/K=6)(hk:t.kind=K)(hv:aj w A t cs):∃l lo lc xs s,cs=TC K none 0 0 lo l.length lc 0 0 s/\cg w A lo xs/\aO w A l xs/\l=t.parts K/\bd l<=t.z/\(t.Ok->dW l):=by
 have a:=λl (e:l=t.parts K)=>(show bd l<=t.z/\(t.Ok->dW l)from e▸⟨Jm,Fb⟩);rcases hK with rfl|rfl<;>cases t<;>simp only[Tm.kind]at hk<;>first|(exact absurd hk (by decide))|skip
 all_goals
  obtain⟨lo,lc,xs,s,e,c,b,_⟩:=hv;exact⟨_,lo,lc,xs,s,e,c,b,by simp[Tm.parts],a _ (by simp[Tm.parts])⟩
def SK (K:Int)(l:List Tm):Tm:=if K=6 then .and l else .or l
theorem Ke (hK:K=5\/K=6)(l:List Tm):(SK K l).kind=K:=by rcases hK with rfl|rfl<;>rfl
theorem Wy (hK:K=5\/K=6)(s0:ByteArray)(hr:cg w A lo xs)(hl:aO w A l xs)(hok:dW l)(htl:bw l<=4000000000000000000):Calls prog 33 #[.agg #[Vi K,Vz,.slice lo l.length lc,Vi 0,Vi 0,.string s0]] w λe w'=>∃s,e=.returned (.agg #[Vi K,Vz,.slice lo l.length lc,Vi 0,Vi 0,.string s])/\aj w' A (SK K l) (TC K none 0 0 lo l.length lc 0 0 s)/\Bw w w':=by
 rcases hK with rfl|rfl
 ·exact Sf s0 hr hl hok htl
 ·exact ON s0 hr hl hok htl
theorem XT (hK:K=5\/K=6)(hl:l≠[])(hok:dW l)(h:OutT K l l.length [] ts)(hk:KeepT ts (dw K) (eK K) ts.length ks)(hne:ks≠[]):SomeG K l (SK K ks):=by
 rcases hK with rfl|rfl
 ·exact VF hl hok h hk hne
 ·exact Sk hl hok h hk hne
theorem sT (hK:K=5\/K=6)(hA:∀g,A g->g<w.heap.size)(hr:cg w A lo xs)(hl:aO w A l xs)(hok:dW l)(hne:l≠[])(htl:bw l<=4000000000000000000)(hz:bd l<=2000000000000):Calls prog 34 #[.slice lo l.length lc,Vi K] w (eH w A (SomeG K l)):=by
 obtain⟨W0,p7,n8,q7,-⟩:=dS (rfl:w.heap.size=_) TZ 58;have HN:=aa (fG W0);have t7:=aa p7;have o2:=aa n8;have i9:=aa q7;have HK:=aa hK;have HA:=aa hA;have r8:=aa hr;have o6:=aa hl;have c1:=aa hok;have g7:=aa hne;have u4:=aa htl;have HZ:=aa hz;have A1:l.length<=2000000000000:=zJ (ko l) hz;clear p7 n8 q7 hK hA hr hl hok hne htl hz;obtain⟨i0,hi,t4,u0,v7⟩:=zz lM;go_enter func34,ntmps34;go_wp2_with fail;rw[t7.out];generalize hS:w.heap.size=S at *;refine HN.mono ?_;rintro e w1 ⟨t,N,J,L,H,M,I,mp,np,sp,rfl,k9,rfl,j4⟩;simp only[Tm.kind]at k9 ⊢;obtain⟨W2,l6,d5,-,-⟩:=dS (rfl:w1.heap.size=_) [Vi 1,.slice N J L,.slice H M I,Vi mp,Vi np,.string sp] 58;have d9:Bw W0 W2:=j4.trans (d5.mono j4.size);have o7:ag W2 w1.heap.size (TC 1 N J L H M I mp np sp) 58:=by rw[<-l6];exact ag.new w1 (TC 1 N J L H M I mp np sp) 58
 have v0:S<w1.heap.size:=(i9.below j4).lt;generalize hP:w1.heap.size=P at *;have u6:=aa l6;have n5:Hid (Below S w W2):=o2.trans (d9.mono (yJ i9.lt));have l2:=aa (i9.below d9);have h7:=aa o7;have t0:=aa k9;have n3:=aa (Gg W2);clear l6 j4 d5 d9 o7 k9 HN;go_wp2_with fail;rw[u6.out];refine n3.mono ?_;rintro e w3 ⟨t,z,C,D,s,E,B,mq,nq,sq,rfl,m0,rfl,a2⟩;simp only[Tm.kind]at m0 ⊢;obtain⟨W4,l4,l5,-,-⟩:=dS (rfl:w3.heap.size=_) [Vi 7,.slice z C D,.slice s E B,Vi mq,Vi nq,.string sq] 58;have b5:Bw W2 W4:=a2.trans (l5.mono a2.size);have m9:ag W4 w3.heap.size (TC 7 z C D s E B mq nq sq) 58:=by rw[<-l4];exact ag.new w3 (TC 7 z C D s E B mq nq sq) 58
 have z9:P<w3.heap.size:=(h7.below a2).lt;have o0:Hid (aj W4 (λg=>False\/W2.heap.size<g) (.not .none) (TC 7 z C D s E B mq nq sq)):=aj.below l5 _ _ m0;have w9:P<W2.heap.size:=h7.lt;generalize hQ:w3.heap.size=Q at *;have o1:=aa l4;have a9:Hid (Below S w W4):=n5.trans (b5.mono (yJ l2.lt));have e7:=aa (l2.below b5);have i6:=aa (h7.below b5);have f8:=aa m9;clear l4 a2 l5 b5 m9 m0 n3
 go_upto_if 15 with fail
 rw[o1.out]
 go_cut []from 14 to 17 (λwx=>∃N J L H M I mp np sp z C D s E B mq nq sq,Hid (aj wx (λg=>A g\/S<g) (dw K) (TC (dw K).kind N J L H M I mp np sp)/\aj wx (λg=>A g\/S<g) (eK K) (TC (eK K).kind z C D s E B mq nq sq)/\Below S w wx/\ag wx S TZ 58/\ag wx P (TC (dw K).kind N J L H M I mp np sp) 58/\ag wx Q (TC (eK K).kind z C D s E B mq nq sq) 58))
 case first=>
  rcases HK.out with rfl|rfl
  ·go_wp2_with fail
   go_meet
   exact⟨N,J,L,H,M,I,mp,np,sp,z,C,D,s,E,B,mq,nq,sq,kc t0,aj.mono (λg _ h=>by rcases h with h|h;exact h.elim;exact .inr (by omega)) _ _ o0,a9,e7,i6,f8⟩
  ·have u1:=aa (Gg W4);have x8:S<W4.heap.size:=e7.lt;have x1:Q<W4.heap.size:=f8.lt;have x2:P<W4.heap.size:=i6.lt;go_wp2_with fail;refine u1.mono ?_;rintro e w5 ⟨t,b9,b8,c5,c3,c0,b7,ma,na,sa,rfl,k6,rfl,f⟩;simp only[Tm.kind]at k6 ⊢;have i7:=i6.below f;obtain⟨p0,p1,p2,p3,p4,p5⟩:=i7.six;obtain⟨g0,g1,g2,g3,g4,g5,m2⟩:=i7.ice;obtain⟨W6,b1⟩:∃W6,(((((w5.setCell (aD P 0) (Vi 7)).setCell (aD P 1) (.slice b9 b8 c5)).setCell (aD P 2) (.slice c3 c0 b7)).setCell (aD P 3) (Vi ma)).setCell (aD P 4) (Vi na)).setCell (aD P 5) (.string sa)=W6:=⟨_,rfl⟩;have k0:Below S W4 w5:=f.mono (yJ e7.lt);have v9:Hid (Below S w W6):=by show Below _ _ _;rw[<-b1];exact fV (a9.trans k0) (yJ v0) _ _ _ _ _ _
   have m6:Hid (ag W6 S TZ 58):=by show ag _ _ _ _;rw[<-b1];exact (e7.below f).sixOther (by omega) _ _ _ _ _ _
   have u9:Hid (ag W6 Q (TC 7 z C D s E B mq nq sq) 58):=by show ag _ _ _ _;rw[<-b1];exact (f8.below f).sixOther (by omega) _ _ _ _ _ _
   have u5:Hid (ag W6 P (TC 7 b9 b8 c5 c3 c0 b7 ma na sa) 58):=by show ag _ _ _ _;rw[<-b1];exact i7.sixS _ _ _ _ _ _
   have t8:Hid (aj W6 (λg=>False\/W4.heap.size<g) (.not .none) (TC 7 b9 b8 c5 c3 c0 b7 ma na sa)):=by show aj _ _ _ _;rw[<-b1];exact gR k6 (by rintro (h|h);exact h;omega) _ _ _ _ _ _
   have t9:=aa b1;have v8:=aa (fG W6);clear b1 k6 f i7 k0;go_wp2_with fail;rw[t9.out];clear p0 p1 p2 p3 p4 p5 g0 g1 g2 g3 g4 g5 m2;refine v8.mono ?_;rintro e w7 ⟨t,f9,j5,h8,e9,f7,i5,mb,nb,sb,rfl,l3,rfl,c4⟩;simp only[Tm.kind]at l3 ⊢;have j6:=u9.below c4;obtain⟨p0,p1,p2,p3,p4,p5⟩:=j6.six;obtain⟨g0,g1,g2,g3,g4,g5,s6⟩:=j6.ice;obtain⟨W,b3⟩:∃W,(((((w7.setCell (aD Q 0) (Vi 1)).setCell (aD Q 1) (.slice f9 j5 h8)).setCell (aD Q 2) (.slice e9 f7 i5)).setCell (aD Q 3) (Vi mb)).setCell (aD Q 4) (Vi nb)).setCell (aD Q 5) (.string sb)=W:=⟨_,rfl⟩;have j9:Below S W6 w7:=c4.mono (yJ m6.lt);have b6:Hid (Below S w W):=by show Below _ _ _;rw[<-b3];exact fV (v9.trans j9) (by omega) _ _ _ _ _ _
   have a7:Hid (ag W S TZ 58):=by show ag _ _ _ _;rw[<-b3];exact (m6.below c4).sixOther (by omega) _ _ _ _ _ _
   have c7:Hid (ag W Q (TC 1 f9 j5 h8 e9 f7 i5 mb nb sb) 58):=by show ag _ _ _ _;rw[<-b3];exact j6.sixS _ _ _ _ _ _
   have d3:Hid (ag W P (TC 7 b9 b8 c5 c3 c0 b7 ma na sa) 58):=by show ag _ _ _ _;rw[<-b3];exact (u5.below c4).sixOther (by omega) _ _ _ _ _ _
   have i3:Hid (aj W (λg=>A g\/S<g) (dw 6) (TC 7 b9 b8 c5 c3 c0 b7 ma na sa)):=by show aj _ _ _ _;rw[<-b3];exact aj.mono (λg _ h=>by rcases h with h|h;exact h.elim;exact .inr (by omega)) _ _ (gR (aj.below c4 _ _ t8) (by rintro (h|h);exact h;omega) _ _ _ _ _ _)
   have i8:Hid (aj W (λg=>A g\/S<g) (eK 6) (TC 1 f9 j5 h8 e9 f7 i5 mb nb sb)):=kc l3;have u7:=aa b3;clear b3 l3 c4 j6 j9;go_wp2_with fail;rw[u7.out]
   go_meet
   exact⟨b9,b8,c5,c3,c0,b7,ma,na,sa,f9,j5,h8,e9,f7,i5,mb,nb,sb,i3,i8,b6,a7,d3,c7⟩
 case rest=>
  clear a9 e7 i6 f8 n5 l2 h7 t0 o0 o2 i9 o1;obtain⟨N,J,L,H,M,I,mp,np,sp,z,C,D,s,E,B,mq,nq,sq,q6⟩:=hcut;obtain⟨W,rfl⟩:∃W,W=wc:=⟨_,rfl⟩;obtain⟨p8,o5,s7,s0,n1,n6⟩:=q6.out;have i3:=aa p8;have i8:=aa o5;have b6:=aa s7;have a7:=aa s0;have d3:=aa n1;have c7:=aa n6;clear q6 p8 o5 s7 s0 n1 n6;go_wp2_with fail;have HR:=aa (r8.below (by rw[hS];exact b6));have HL:=aa (aO.below (A:=A) (by rw[hS];exact b6) _ _ o6);have s1:=aa (qj i3);have m8:=aa (qj i8);clear r8 o6
  go_loopw [7,8] (λov iv wr=>∃(i:Nat) (O:List Tm) (ys:List Value),iv=Vi i/\i<=l.length/\wr.ownsRow W.heap.size 58 6 ov O.length ys/\aO wr A O ys/\OutT K l i [] O/\Bw W wr) (λ_ iv _=>l.length-(intOf iv).toNat)
  case atStart=>exact⟨0,[],[],rfl,zW _,zZ _ _ _ _,rfl,OutT.start _ _,zE _ _⟩
  case round=>
   obtain⟨i,O,ys,rfl,A4,d,n9,r,a⟩:=hrel;obtain⟨A2,x4,rfl⟩:=cd d;have HO:=aa d;have HT:=aa n9;have HU:=aa r;have a1:=aa a;have F:W.heap.size<=wr.heap.size:=a.size;have i1:(0:Int)<=(i:Int):=zK _;clear d n9 r a;by_cases l9:i<l.length
   ·have i2:(i:Int)<(l.length:Int):=by omega
    obtain⟨t,ht⟩:∃t,l[i]?=some t:=⟨_,zB l9⟩;have o9:=aa ht;have s2:Hid t.Ok:=dO.1 c1 t (zU ht);have t2:Hid (bd (l.take i)+t.z<=bd l):=by
     show _<=_
     have e:l.take (i+1)=l.take i++[t]:=by rw[zi,ht];rfl
     have h1:=wD (l:=l) (i+1);rw[e,dV]at h1;simp only[bd]at h1;omega
    obtain⟨b,d6,c,rfl,hb,hv,hc⟩:=HR.out.get HL.out ht;obtain⟨a3,a5,Z,R,a0,X,mx,nx,sx,rfl,_⟩:=hv.form;obtain⟨y0,y1,y2,y3,y4,y5⟩:=oT a1.out hb hc;have t3:=aa (hc 2 _ rfl);have HV:=aa hv;have m5:b<wr.heap.size:=zF hb F;clear hc hv ht;by_cases hk:t.kind=K
    ·obtain⟨l',x5,y8,e8,s',e,s8,o4,s4,r6,s3⟩:=Tv HK.out hk HV.out;injection e with e0 e;injection e with e1 e;injection e with e2 e;injection e with e3 e;injection e with e4 e;injection e with e5 e;clear e0 e;injection e1 with e11 e12 e13;injection e2 with e21 e22 e23;subst e11 e12 e13 e21 e22 e23;have u3:=aa s8;have u2:=aa o4;have n7:=aa (s3 s2);have t6:=aa s4;have v2:=aa r6;have kq:(t.kind==K)=true:=by rw[hk];exact beq_self_eq_true K
     clear s4 r6 s3 s8 o4 e3 e4 e5 hk HV y1 y3 y4 y5;go_wp2_with fail;clear y0 y2
     go_loopw [7,9] (λov kv wr2=>∃(k:Nat) (us:List Tm) (zs:List Value),kv=Vi k/\k<=l'.length/\wr2.ownsRow W.heap.size 58 6 ov us.length zs/\aO wr2 A us zs/\OutT K l i (l'.take k) us/\Bw W wr2) (λ_ kv _=>l'.length-(intOf kv).toNat)
     case atStart=>exact⟨0,O,ys,rfl,zW _,HO,HT,HU,a1⟩
     case round=>
      clear F m5 HO HT HU a1;obtain⟨k,us,zs,rfl,y6,d,j0,r,a⟩:=hrel;obtain⟨z6,x0,rfl⟩:=cd d;have y2:wr.cell? ⟨b,d6+i*6+2,none⟩=some (.slice R l'.length X):=(a.cell (p:=⟨b,_,none⟩) hb).trans t3;have F:W.heap.size<=wr.heap.size:=a.size;have m5:b<wr.heap.size:=zF hb F;have k1:(0:Int)<=(k:Int):=zK _;have p9:=aa r;have k3:=aa a;by_cases q9:k<l'.length
      ·have k2:(k:Int)<(l'.length:Int):=by omega
       obtain⟨t',g8⟩:∃t',l'[k]?=some t':=⟨_,zB q9⟩;have u8:bd (l'.take k)<=bd l':=wD k;have q:us.length<=2000000000000/\k<=2000000000000:=by
        have h1:=ko us;have h2:=r.zle;have h3:=t2.out;have h4:=HZ.out;have h5:=v2.out;have h6:=ko l';omega
       obtain⟨q,A0⟩:=q;obtain⟨b2,w6,c2,rfl,d5,l0,m7⟩:=u3.out.get u2.out g8;obtain⟨A3,y7,A5,x7,z7,z8,my,ny,sy,rfl,_⟩:=l0.form;obtain⟨z0,z1,z2,z3,z4,z5⟩:=oT a d5 m7;have x3:b2<wr.heap.size:=zF d5 F;have d1:=dO.1 n7;have HI:=aa (Ek F d j0 (r.ok c1 (dO.2 λx hx=>d1 x (yi hx))) (aj.below a _ _ l0) (d1 t' (zU g8)) q);have r7:Hid (l'.take (k+1)=l'.take k++[t']):=by show _=_;rw[zi,g8];rfl
       clear d j0 r a l0 m7 g8 d1 u8 q;go_wp2_with fail;refine HI.mono ?_;rintro e w5 ⟨v',m3,e8,rfl,c9,d0,d7,d4,d8,f⟩;have HF:=aa (e6.intro c9 (e6.intro d0 (p9.step d7 d4 d8)));have c8:=aa (k3.trans (f.mono F));clear c9 d0 d7 d4 d8 f HI;go_wp2_with fail
       go_roundw
       case rel=>exact⟨k+1,m3,e8,by go_num,by omega,HF.1,HF.2.1,by rw[r7.out];exact HF.2.2,c8⟩
       case measure=>simp[intOf];omega
      ·have k2:decide ((k:Int)<(l'.length:Int))=false:=zI (by omega);obtain rfl:k=l'.length:=by omega
       have HF:=aa (e6.intro d j0);clear d j0 r a;go_wp2_with fail
       go_roundw
       case rel=>exact⟨i+1,us,zs,by go_num,by omega,HF.1,HF.2,p9.next2 o9 (by rw[zQ];exact t6),k3⟩
       case measure=>simp[intOf];omega
    ·have kq:(t.kind==K)=false:=zD.2 hk;have q:O.length<=2000000000000:=by
      have h1:=ko O;have h2:=HU.zle;have h3:=t2.out;have h4:=HZ.out;simp only[bd]at h2;omega
     have HI:=aa (Ek F HO HT (HU.ok c1 trivial) (aj.below a1 _ _ HV) s2 q);have v3:=aa (LC hk);clear hk;go_wp2_with fail;refine HI.mono ?_;rintro e w5 ⟨v',m3,e8,rfl,c9,d0,d7,d4,d8,f⟩;have HF:=aa (e6.intro c9 (e6.intro d0 (HU.step d7 d4 d8)));have c8:=aa (a1.trans (f.mono F));clear c9 d0 d7 d4 d8 f HI;go_wp2_with fail
     go_roundw
     case rel=>exact⟨i+1,m3,e8,by go_num,by omega,HF.1,HF.2.1,HF.2.2.next2 o9 v3.symm,c8⟩
     case measure=>simp[intOf];omega
   ·have i2:decide ((i:Int)<(l.length:Int))=false:=zI (by omega);obtain rfl:i=l.length:=by omega
    have q8:Hid (dW O):=HU.ok c1 trivial;have w8:O.length<=2000000000000:=by
     have h1:=ko O;have h2:=HU.zle;have h3:=HZ.out;rw[zQ]at h2;simp only[bd]at h2;omega
    obtain⟨V,hV⟩:∃V,V=wr:=⟨_,rfl⟩;rw[<-hV]at HO HT a1 F ⊢;have t5:=aa (fN HO);have v5:=aa a1;have y9:S<V.heap.size:=(a7.below a1).lt;clear hV i2;have i2:decide ((l.length:Int)<(l.length:Int))=false:=zI (by omega);go_wp2_with fail;clear i2
    go_loopw [10,11] (λkv jv wr2=>∃(j:Nat) (G:List Tm) (zs:List Value),jv=Vi j/\j<=O.length/\wr2.ownsRow V.heap.size 58 6 kv G.length zs/\aO wr2 A G zs/\KeepT O (dw K) (eK K) j G/\Bw V wr2) (λ_ jv _=>O.length-(intOf jv).toNat)
    case atStart=>exact⟨0,[],[],rfl,zW _,zZ _ _ _ _,rfl,KeepT.start _ _ _,zE _ _⟩
    case round=>
     obtain⟨j,G,zs,rfl,x6,d,n2,d2,a⟩:=hrel;obtain⟨j7,a8,rfl⟩:=cd d;have g9:=aa d;have i4:=aa n2;have a4:=aa d2;have b0:=aa a;have o:Hid (Bw W wr):=v5.trans (a.mono F);have j1:(0:Int)<=(j:Int):=zK _;clear d n2 d2 a;by_cases l9:j<O.length
     ·have j2:(j:Int)<(O.length:Int):=by omega
      obtain⟨y,hy⟩:∃y,O[j]?=some y:=⟨_,zB l9⟩;have HY:=aa hy;have p6:Hid y.Ok:=dO.1 q8 y (zU hy);obtain⟨b,d6,c,rfl,hb,hv,hc⟩:=t5.out.get HT.out hy;obtain⟨a3,a5,Z,R,a0,X,mx,nx,sx,rfl,o3⟩:=hv.form;have h0:=aa o3;have HV:=aa hv;have HC:=aa hc;clear hc hv o3 hy;go_upto_region 20 with fail
      go_cut [70] (λv wx=>∃b':Bool,v=.bool b'/\(b'=true↔y=eK K)/\∃n,wx=wr.drewN n)
      case first=>
       have y5:wr.cell? ⟨b,d6+j*6+5,none⟩=some (.string sx):=(b0.cell (p:=⟨b,_,none⟩) hb).trans (HC 5 _ rfl);have q5:wr.cell? (aD Q 5)=some (.string sq):=(c7.below o).cell 5;have s6:Q<wr.heap.size:=(c7.below o).lt;have r9:b<wr.heap.size:=zF hb b0.size
       go_quiet (fail)
       go_wp2_with fail
       go_meet
       case rel=>exact⟨_,rfl,⟨λh=>nL p6 Jo.1 (by rw[<-h0.out,<-m8.out];exact kE (by simpa using h)),λe=>by have h9:=tJ (show af sx=af sq by rw[h0.out,m8.out,e]);simp[h9]⟩,_,rfl⟩
      case rest=>
       obtain⟨b',rfl,T,dq,rfl⟩:=hcut;obtain⟨U,hU⟩:∃U,wr.drewN dq=U:=⟨_,rfl⟩;have f6:Hid (Bw wr U):=by show Below _ _ _;rw[<-hU];exact aR (zE _ _)
       have b4:Hid (Bw W U):=o.trans (f6.mono o.size);have l8:Hid (Bw V U):=b0.trans (f6.mono b0.size);rw[hU];clear hU;cases b' with
       |true=>
        have g6:=aa (T.1 rfl);clear T;have k8:=c7.below b4;obtain⟨q0,q1,q2,q3,q4,q5⟩:=k8.six;have s6:=k8.lt;have m:=a7.below b4;obtain⟨r0,r1,r2,r3,r4,r5⟩:=m.six;obtain⟨f0,f1,f2,f3,f4,f5,m1⟩:=m.ice;clear m;clear k8;go_wp2_with fail;refine zN (v:=.agg #[Vi (eK K).kind,.slice z C D,.slice s E B,Vi mq,Vi nq,.string sq]) (by simp[results,results34,go_sem,r0,r1,r2,r3,r4,r5]) rfl ⟨eK K,z,C,D,s,E,B,mq,nq,sq,rfl,?_,Sj HK g7 HU (by rw[<-g6.out];exact zU HY),?_⟩
        ·rw[hS];exact dP (aj.below b4 _ _ i8) (λg h=>by have:=HA.out g h;omega) _ _ _ _ _ _
        ·rw[hS];exact iV (b6.trans (b4.mono (yJ a7.lt))) _ _ _ _ _ _
       |false=>
        have g6:Hid (y≠eK K):=λe=>by have:=T.2 e;cases this
        clear T;go_wp2_with fail
        go_cut [79] (λv wx=>∃b':Bool,v=.bool b'/\(b'=true↔y≠dw K)/\∃n,wx=U.drewN n)
        case first=>
         have y5:U.cell? ⟨b,d6+j*6+5,none⟩=some (.string sx):=(l8.cell (p:=⟨b,_,none⟩) hb).trans (HC 5 _ rfl);have p5:U.cell? (aD P 5)=some (.string sp):=(d3.below b4).cell 5;have m2:P<U.heap.size:=(d3.below b4).lt;have r9:b<U.heap.size:=zF hb l8.size
         go_quiet (fail)
         go_wp2_with fail
         go_meet
         case rel=>exact⟨_,rfl,⟨λh e=>by have h9:=tJ (show af sx=af sp by rw[h0.out,s1.out,e]);simp[h9]at h,λhne=>by have h9:¬sx.toList=sp.toList:=λe=>hne (nL p6 Ff.1 (by rw[<-h0.out,<-s1.out];exact kE e));simp[h9]⟩,_,rfl⟩
        case rest=>
         obtain⟨b',rfl,T,v6,rfl⟩:=hcut;obtain⟨U2,k4⟩:∃U2,U.drewN v6=U2:=⟨_,rfl⟩;have a6:Hid (Bw wr U2):=by show Below _ _ _;rw[<-k4];exact aR f6
         have Y:Hid (Bw V U2):=b0.trans (a6.mono b0.size);rw[k4];clear k4 b4 l8 f6;cases b' with
         |true=>
          have l7:=aa (T.1 rfl);clear T;have r9:b<U2.heap.size:=zF hb Y.size;obtain⟨y0,y1,y2,y3,y4,y5⟩:=oT Y.out hb HC.out;obtain⟨U3,o8,a2,k5,-⟩:=dS (rfl:U2.heap.size=_) (TC y.kind a3 a5 Z R a0 X mx nx sx) 58;replace k5:=aa k5;have n0:=aa o8;have l1:=aa (bg (bg g9 a6) a2);have a9:Hid (Bw V U3):=Y.trans (a2.mono Y.size);have w2:G.length<=2000000000000:=by
           have h1:=ko G;have h2:=a4.z;have h3:=wD (l:=O) j;have h4:=HU.zle;have h5:=HZ.out;rw[zQ]at h4;simp only[bd]at h4;omega
          clear o8 a2;go_wp2_with (at_builtin;rw[n0.out];refine eO rfl (.tmp 80) (.tmp 85) 56 58 i0 _ 6 88 rfl underlying56 hi t4 u0 v7 rfl (by decide) V.heap.size G.length _ _ rfl l1 _ 1 _ (TC y.kind a3 a5 Z R a0 X mx nx sx) rfl (λe=>by cases e) rfl (λad e j u hj=>by injection e with e;subst e;rw[zl,zf,k5.out.cell];exact hj) (sD _ _ _ _ _ _ _ _ _ _) (by unfold maxLen;omega) (by omega) a9.size ?_;intro v4 w4 c6 j8;have HF:=aa (e6.intro c6 j8);clear c6 j8);have f:Bw V w4:=cD a9 a9.size l1 HF.2;have n4:aO w4 A G zs:=by
           have h1:aO U3 A G zs:=aO.below (w:=U2) (by rw[<-n0.out];exact (zE _ _).alloc (zA _) _) _ _ (aO.below a6 _ _ i4);exact aO.keep ⟨HF.2.size,λg hg ha=>HF.2.block g hg (λe=>by
            have h2:=(l1.lt g e.symm).1;have h3:=HA.out g ha;omega)⟩ _ _ h1
          have j3:aj w4 A y (TC y.kind a3 a5 Z R a0 X mx nx sx):=aj.below f _ _ HV
          go_roundw
          case rel=>exact⟨j+1,G++[y],zs++TC y.kind a3 a5 Z R a0 X mx nx sx,by go_num,by omega,by rw[zH];exact HF.1,n4.append (aO.one j3),a4.put HY l7 g6,f⟩
          case measure=>simp[intOf];omega
         |false=>
          have l7:Hid (y=dw K):=Classical.byContradiction λh=>by have:=T.2 h;cases this
          clear T;go_wp2_with fail
          go_roundw
          case rel=>exact⟨j+1,G,zs,by go_num,by omega,bg g9 a6,aO.below a6 _ _ i4,a4.skip HY l7 g6,Y⟩
          case measure=>simp[intOf];omega
     ·have j2:decide ((j:Int)<(O.length:Int))=false:=zI (by omega);obtain rfl:j=O.length:=by omega
      have m4:Hid (Below S w wr):=b6.trans (o.mono (yJ a7.lt));have m:=a7.below o;obtain⟨r0,r1,r2,r3,r4,r5⟩:=m.six;obtain⟨f0,f1,f2,f3,f4,f5,m1⟩:=m.ice;clear m;by_cases e0:G=[]
      ·subst e0;have k7:=d3.below o;obtain⟨p0,p1,p2,p3,p4,p5⟩:=k7.six;have m2:=k7.lt;clear k7;simp only[zh];go_wp2_with fail;refine zN (v:=.agg #[Vi (dw K).kind,.slice N J L,.slice H M I,Vi mp,Vi np,.string sp]) (by simp[results,results34,go_sem,r0,r1,r2,r3,r4,r5]) rfl ⟨dw K,N,J,L,H,M,I,mp,np,sp,rfl,?_,OQ HK g7 HU a4,?_⟩
       ·rw[hS];exact dP (aj.below o _ _ i3) (λg h=>by have:=HA.out g h;omega) _ _ _ _ _ _
       ·rw[hS];exact iV m4 _ _ _ _ _ _
      ·have w0:=aa e0;by_cases e1:∃y,G=[y]
       ·obtain⟨y,rfl⟩:=e1;obtain⟨b,d6,c,rfl,hb,hv,hc⟩:=(fN g9.out).get i4.out (i:=0) (t:=y) rfl;obtain⟨a3,a5,Z,R,a0,X,mx,nx,sx,rfl,_⟩:=hv.form;simp only[Nat.zero_mul,xF]at hc;obtain⟨y0,y1,y2,y3,y4,y5⟩:=JJ hc;have HV:=aa hv;clear hc hv e0;simp only[zo];go_wp2_with fail;refine zN (v:=.agg #[Vi y.kind,.slice a3 a5 Z,.slice R a0 X,Vi mx,Vi nx,.string sx]) (by simp[results,results34,go_sem,r0,r1,r2,r3,r4,r5]) rfl ⟨y,a3,a5,Z,R,a0,X,mx,nx,sx,rfl,?_,Hr HK g7 c1 HU a4,?_⟩
        ·rw[hS];exact dP (aj.mono (λg _ h=>.inl h) _ _ HV) (λg h=>by have:=HA.out g h;omega) _ _ _ _ _ _
        ·rw[hS];exact iV m4 _ _ _ _ _ _
       ·have x9:2<=G.length:=by
         match G,e0,e1 with
         | [],e0,_=>exact absurd rfl e0
         | [y],_,e1=>exact absurd ⟨y,rfl⟩ e1
         |_::_::_,_,_=>simp
        have q0:((G.length:Int)==0)=false:=zD.2 (by omega);have q1:((G.length:Int)==1)=false:=zD.2 (by omega);have s9:bw G<=4000000000000000000:=by
         have h1:=a4.tl;have h2:=Si (l:=O) O.length;have h3:=HU.tle;have h4:=u4.out;rw[zQ]at h3;simp only[bw]at h3;omega
        have t1:=aa (Wy HK (A:=λg=>A g\/S<g) (lc:=a8) ⟨#[]⟩ ((fN g9).mono λg _ h=>.inr (by omega)) (aO.mono (λg _ h=>.inl h) _ _ i4) (a4.ok q8) s9);clear e0 e1 s9 r0 r1 r2 r3 r4 r5 f0 f1 f2 f3 f4 f5 m1;go_wp2_with fail;refine t1.mono ?_;rintro e w5 ⟨s5,rfl,j3,f⟩;have v1:=aa j3;have c8:Hid (Below S w w5):=m4.trans (f.mono (by have:=b0.size;omega));have m:=(a7.below o).below f;obtain⟨r0,r1,r2,r3,r4,r5⟩:=m.six;obtain⟨f0,f1,f2,f3,f4,f5,m1⟩:=m.ice;clear m;clear j3 f t1;go_wp2_with fail;refine zN (v:=.agg #[Vi K,Vz,.slice j7 G.length a8,Vi 0,Vi 0,.string s5]) (by simp[results,results34,go_sem,r0,r1,r2,r3,r4,r5]) rfl ⟨SK K G,none,0,0,j7,G.length,a8,0,0,s5,by rw[Ke HK.out],?_,XT HK g7 c1 HU a4 w0,?_⟩
        ·rw[hS,Ke HK.out];exact dP v1 (λg h=>by have:=HA.out g h;omega) _ _ _ _ _ _
        ·rw[hS];exact iV c8 _ _ _ _ _ _
def qF (t:Tm):Prop:=∀(w:World) (A:Nat->Prop) (so:Option Addr) (sn sc:Nat) (lo:Option Addr) (ln lc:Nat) (m n:Int) (s:ByteArray) (c:Int),(∀g,A g->g<w.heap.size)->aj w A t (TC t.kind so sn sc lo ln lc m n s)->t.Ok->place c->t.z*t.tl<=3000000000000000000->bZ t.z<=2000000000000 ->
 Calls prog 30 #[.agg #[Vi t.kind,.slice so sn sc,.slice lo ln lc,Vi m,Vi n,.string s],Vi c] w (eH w A (Gd (aX t.L (back c)) (bZ t.z) (t.z*t.tl)))
theorem gL (h:place c):runeB (back c)=true/\up (back c)=c:=by
 unfold place at h;rw[rune_iff];unfold back up;refine⟨?_,?_⟩<;>(repeat' split)<;>omega
theorem Lj {r:Int}:aX dZ r=eA:=by
 funext u;simp[aX,dZ,eA]
theorem EP (h:PCanon q)(hc:place c):aX (Tm.set q).L (back c)=if memB q c then dZ else eA:=by
 have e:memB (told q) (back c)=memB q c:=by rw[gb h _ (gL hc).1,(gL hc).2]
 funext u;refine propext ⟨λ⟨d,b,f⟩=>?_,λh=>?_⟩
 ·injection b with h3 h4;subst h3 h4;rw[<-e,f];rfl
 ·by_cases a:memB q c=true
  ·rw[zX a]at h;exact⟨back c,by rw[show u=[]from h],by rw[e];exact a⟩
  ·rw[zR a]at h;exact h.elim
theorem jg {w:World}{ops:Array Oper}{rest:List Oper}{o:Oper}{a:Act}{Q:Exit->Act->World->Prop}(hgd:o.guard=none)(s x:Operand)(t e:TypeId)(i0:TypeInfo)(z:Value)(size bytes:Nat)
  (ho:o.op=.call { callee:=.builtin .append,args:=#[s,x],argTypes:=#[t,t] }) (hu:prog.underlying t=some (.slice e)) (hi:prog.info? e=some i0) (hz:i0.zero=some z) (hsz:i0.size=size) (hby:i0.bytes=bytes) (hzs:z.cells.size=size) (hpos:0<size)
  (B n:Nat) (v:Value) (xs:LV) (hs:a.eval s=v) (hown:w.ownsRow B e size v n xs)
  (ad:Addr) (m c:Nat) (news:LV) (hx:a.eval x=.slice (some ad) m c) (hl:news.length=m*size) (hm:0<m) (hnews:∀j u,news[j]?=some u->w.cell? (ad.add j)=some u) (h1:∀u∈news,u.oneCell'=true)
  (h63:n+m<=maxLen) (hn:(n+m)*bytes<=140737488355328) (hB:B<=w.heap.size)
  (h:∀v' w',w'.ownsRow B e size v' (n+m) (xs++news)->w.grownBy w' v.ownBlock->(v'.ownBlock=v.ownBlock\/∀g,v'.ownBlock=some g->w.heap.size<=g)->wpList prog ops Q rest (a.put o.dst v') w'):wpList prog ops Q (o::rest) a w:=by
 have i:=hown;rcases hown.2 with⟨rfl,rfl⟩|⟨g,p,D,rfl,y,F,r,C,A,G⟩
 ·refine yo w hgd s x t ho e i0 z size bytes hu hi hz hsz hby hzs hpos none 0 0 xs hs (λ_=>⟨rfl,rfl⟩) i.1 (λb e=>by cases e) ad m c news hx hl hnews h1 (by omega) h63 hn ?_;intro v' w' f d;exact h v' w' (ij f hB) ⟨d.os,d.tape,d.output,d.size,λk q _=>d.block k q (by simp)⟩ (.inr λg e=>(f.lt g e).1)
 ·by_cases l:n+m<=p
  ·refine wpList_append_fits w hgd s x t ho B e i0 size hu hi hsz g n p xs hs i ad m c news hx hl hnews h1 l ?_;intro w' f d;exact h _ w' f d (.inl rfl)
  ·refine yo w hgd s x t ho e i0 z size bytes hu hi hz hsz hby hzs hpos (some (aD g 0)) n p xs hs (λe=>by cases e) i.1 (λb e j u E=>by cases e;exact i.cells rfl j u E) ad m c news hx hl hnews h1 (by omega) h63 hn ?_;intro v' w' f d;exact h v' w' (ij f hB) ⟨d.os,d.tape,d.output,d.size,λk q _=>d.block k q (by simp)⟩ (.inr λg e=>(f.lt g e).1)
theorem Vt:bZ 1=1:=rfl
theorem YC {z t:Nat}(h:1<=z):z*t+12<=z*(t+12):=by
 rw[ye];omega
theorem Xp {z t:Nat}(h:1<=z):z*t+(t+12)+12<=(z+1)*(t+12):=by
 rw[ye,Nat.add_mul];omega
theorem Vu (z:Nat):bZ z+(z+1)<=bZ (z+1):=by rw[kj];omega
theorem YD {za zb ta tb:Nat}(ha:1<=za)(hb:1<=zb):za*ta+tb+12+zb*tb+12<=(za+zb)*(ta+tb+12):=by
 have a:1*tb<=za*tb:=zn _ ha;have b:1*ta<=zb*ta:=zn _ hb;simp only[ye,Nat.add_mul];omega
theorem Xq {za zb:Nat}(ha:1<=za):bZ za+zb+bZ zb<=bZ (za+zb):=by
 have a:1*zb<=za*zb:=zn _ ha;rw[lJ];omega
theorem Bk {z:Nat}(h:1<=z):1<=bZ z:=zJ h (qr z)
def dj (c:Int):List Tm->List Tm->Prop
 | [],[]=>True
 |t::l,u::m=>Gd (aX t.L (back c)) (bZ t.z) (t.z*t.tl) u/\dj c l m
 |_,_=>False
theorem dj.snoc {c:Int}{t u:Tm}:∀{l m:List Tm},dj c l m->Gd (aX t.L (back c)) (bZ t.z) (t.z*t.tl) u->dj c (l++[t]) (m++[u])
 | [],[],_,k=>⟨k,trivial⟩
 |_::_,_::_,h,k=>⟨h.1,dj.snoc h.2 k⟩
theorem dj.len {c:Int}:∀{l m:List Tm},dj c l m->m.length=l.length
 | [],[],_=>rfl
 |_::_,_::_,h=>by rw[zG,zG,dj.len h.2]
theorem dj.ok {c:Int}:∀{l m:List Tm},dj c l m->dW m
 | [],[],_=>trivial
 |_::_,_::_,h=>⟨h.1.ok,dj.ok h.2⟩
theorem dj.tl {c:Int}:∀{l m:List Tm},dj c l m->bw m<=bd l*bw l
 | [],[],_=>zA _
 |t::l,u::m,h=>by
  have a:=h.1.tl;have b:=dj.tl h.2;simp only[bw,bd];rw[ye,Nat.add_mul,Nat.add_mul];omega
theorem dj.z {c:Int}:∀{l m:List Tm},dj c l m->bd m<=bZ (bd l)
 | [],[],_=>zA _
 |t::l,u::m,h=>by
  have a:=h.1.z;have b:=dj.z h.2;simp only[bd];rw[lJ];omega
theorem dj.or {c:Int}{v:LZ}:∀{l m:List Tm},dj c l m->(kI m v↔kI l (back c::v))
 | [],[],_=>Iff.rfl
 |t::l,u::m,h=>by
  have a:=h.1.lg;simp only[kI,dj.or h.2];rw[a];rfl
theorem dj.and {c:Int}{v:LZ}:∀{l m:List Tm},dj c l m->(iz m v↔iz l (back c::v))
 | [],[],_=>Iff.rfl
 |t::l,u::m,h=>by
  have a:=h.1.lg;simp only[iz,dj.and h.2];rw[a];rfl
theorem Jk:∀{l:List Tm} {t:Tm},t∈l->t.z<=bd l
 |u::l,t,h=>by
  simp only[bd];rcases zO.1 h with rfl|h
  ·omega
  ·have:=Jk h;omega
theorem Lk {m:List Tm}(h:dj c l m)(hg:SomeG 5 m t):Gd (aX (Tm.or l).L (back c)) (bZ (Tm.or l).z) ((Tm.or l).z*(Tm.or l).tl) t:=by
 refine⟨hg.ok,?_,?_,?_⟩
 ·funext u;exact propext ((hg.or rfl u).trans h.or)
 ·have d:=hg.z;have b:=h.z;have a:bZ (bd l)<=bZ (max 1 (bd l)):=dY (Nat.le_max_right _ _);have e:1<=bZ (max 1 (bd l)):=Bk (Nat.le_max_left _ _);simp only[Tm.z];omega
 ·have d:=hg.tl;have b:=h.tl;have a:bd l*bw l<=max 1 (bd l)*bw l:=zn _ (Nat.le_max_right _ _);have e:1<=max 1 (bd l):=Nat.le_max_left _ _;simp only[Tm.z,Tm.tl];rw[ye];omega
theorem Hk {m:List Tm}(h:dj c l m)(hg:SomeG 6 m t):Gd (aX (Tm.and l).L (back c)) (bZ (Tm.and l).z) ((Tm.and l).z*(Tm.and l).tl) t:=by
 refine⟨hg.ok,?_,?_,?_⟩
 ·funext u;exact propext ((hg.and rfl u).trans h.and)
 ·have d:=hg.z;have b:=h.z;have a:bZ (bd l)<=bZ (max 1 (bd l)):=dY (Nat.le_max_right _ _);have e:1<=bZ (max 1 (bd l)):=Bk (Nat.le_max_left _ _);simp only[Tm.z];omega
 ·have d:=hg.tl;have b:=h.tl;have a:bd l*bw l<=max 1 (bd l)*bw l:=zn _ (Nat.le_max_right _ _);have e:1<=max 1 (bd l):=Nat.le_max_left _ _;simp only[Tm.z,Tm.tl];rw[ye];omega
theorem RJ {z:Nat}(h:bZ z<=2000000000000):z<=2000000:=by
 rcases Nat.lt_or_ge z 2000001 with a|a
 ·omega
 ·have c:=dY a;have b:bZ 2000001=2000003000001:=by decide
  omega
theorem Cr {z T l t:Nat}(hz:z<=max 1 T)(h:max 1 T*(l+12)<=3000000000000000000)(ht:t<=l):z*t<=3000000000000000000:=by
 have a:z*t<=max 1 T*(l+12):=Nat.mul_le_mul hz (by omega);omega
theorem vr:∀(q:LQ) (lo:Int),lo<=1112065->(∀x∈q,PGood x/\lo<=x.1)->(q.Pairwise λx y=>x.2+1<y.1)->2*(q.length:Int)+lo<=1112065
 | [],lo,h,_,_=>by simp;omega
 |x::q,lo,h,hx,hp=>by
  obtain⟨g,b⟩:=hx x (by simp);unfold PGood at g;rw[yg]at hp;have c:=vr q (x.2+2) (by omega) (λy a=>⟨(hx y (by simp[a])).1,by have:=hp.1 y a;omega⟩) hp.2;rw[zG];omega
theorem ri (h:PCanon q):q.length<=600000:=by
 have:=vr q 0 (by decide) (λx a=>⟨h.1 x a,(h.1 x a).1⟩) h.2;omega
theorem CK {wr U3 w4:World}{v4:Value}{us:List Tm}{ys:LV}{t5:Tm}(hgr:U3.grownBy w4 v.ownBlock)(hmv:v4.ownBlock=v.ownBlock\/∀g,v4.ownBlock=some g->U3.heap.size<=g)(hbr:Bw wr U3)(hus:aO wr (λg=>(A g\/B<=g)/\v.ownBlock≠some g) us ys)(hv:aj U3 (λg=>A g\/wr.heap.size<g) t5 cs)(hO:∀g,v.ownBlock=some g->B<=g/\g<wr.heap.size)(hA:∀g,A g->g<B)(hB:B<=wr.heap.size) :
  aO w4 (λg=>(A g\/B<=g)/\v4.ownBlock≠some g) (us++[t5]) (ys++cs):=by
 have c:∀g,g<U3.heap.size->((A g\/B<=g)/\v.ownBlock≠some g)->v4.ownBlock≠some g:=λg a h e=>by
  rcases hmv with b|b
  ·rw[b]at e;exact h.2 e
  ·have:=b g e;omega
 have d:ah (λg=>((A g\/B<=g)/\v.ownBlock≠some g)/\v4.ownBlock≠some g) U3 w4:=⟨hgr.size,λg a f=>hgr.block g a (λe=>f.1.2 e.symm)⟩;refine aO.mono (A:=λg=>((A g\/B<=g)/\v.ownBlock≠some g)/\v4.ownBlock≠some g) (λg _ h=>⟨h.1.1,h.2⟩) _ _ (aO.keep d _ _ (aO.append ?_ (aO.one ?_)))
 ·exact aO.mono (λg a h=>⟨h,c g a h⟩) _ _ (aO.below hbr _ _ hus)
 ·refine aj.mono (λg a h=>?_) _ _ hv;have b:(A g\/B<=g)/\v.ownBlock≠some g:=by
   rcases h with h|h
   ·exact⟨.inl h,λe=>by have:=hO g e;have:=hA g h;omega⟩
   ·exact⟨.inr (by omega),λe=>by have:=hO g e;omega⟩
  exact⟨b,c g a b⟩
theorem Mh (c:Int):Calls prog 30 #[.agg #[Vi 1,.slice so sn sc,.slice lo ln lc,Vi m,Vi n,.string s],Vi c] w (eH w A (λu=>u=.none)):=by
 obtain⟨E,l,q,b,o,y⟩:=jK (rfl:w.heap.size=_) (TC 1 so sn sc lo ln lc m n s) 58 TZ 58;have X:E.cell? (aD w.heap.size 0)=some (Vi 1):=b.cell 0;have G:=b.lt;have K:=aa (fG E);have p:=aa o;have t:=aa q;have z:=aa l;clear l q b o y;go_enter func30,ntmps30;go_upto_region 1 with fail;rw[z.out];generalize hS:w.heap.size=S at *;go_wp2_with fail;refine K.mono ?_;rintro e P ⟨V,k,i,g,r,h,j,D,C,F,rfl,d,rfl,a⟩;simp only[Tm.kind]at d ⊢;have f:=p.below a;obtain⟨J,N,L,H,O,I⟩:=f.six;obtain⟨Q,T,U,Y,W,R,M⟩:=f.ice;have x:Hid (Below S w P):=t.trans (a.mono (by have:=p.lt;omega));have B:=aa d;clear d a f;go_wp2_with fail;refine zN (v:=.agg #[Vi 1,.slice k i g,.slice r h j,Vi D,Vi C,.string F]) (by simp[results,results30,go_sem,J,N,L,H,O,I]) rfl ⟨.none,k,i,g,r,h,j,D,C,F,rfl,?_,rfl,?_⟩
 ·rw[hS];exact kc B
 ·rw[hS];exact bC x _ _ _ _ _ _
theorem If (c:Int):Calls prog 30 #[.agg #[Vi 2,.slice so sn sc,.slice lo ln lc,Vi m,Vi n,.string s],Vi c] w (eH w A (λu=>u=.none)):=by
 obtain⟨E,l,q,b,o,y⟩:=jK (rfl:w.heap.size=_) (TC 2 so sn sc lo ln lc m n s) 58 TZ 58;have X:E.cell? (aD w.heap.size 0)=some (Vi 2):=b.cell 0;have G:=b.lt;have K:=aa (fG E);have p:=aa o;have t:=aa q;have z:=aa l;clear l q b o y;go_enter func30,ntmps30;go_upto_region 1 with fail;rw[z.out];generalize hS:w.heap.size=S at *;go_wp2_with fail;refine K.mono ?_;rintro e P ⟨V,k,i,g,r,h,j,D,C,F,rfl,d,rfl,a⟩;simp only[Tm.kind]at d ⊢;have f:=p.below a;obtain⟨J,N,L,H,O,I⟩:=f.six;obtain⟨Q,T,U,Y,W,R,M⟩:=f.ice;have x:Hid (Below S w P):=t.trans (a.mono (by have:=p.lt;omega));have B:=aa d;clear d a f;go_wp2_with fail;refine zN (v:=.agg #[Vi 1,.slice k i g,.slice r h j,Vi D,Vi C,.string F]) (by simp[results,results30,go_sem,J,N,L,H,O,I]) rfl ⟨.none,k,i,g,r,h,j,D,C,F,rfl,?_,rfl,?_⟩
 ·rw[hS];exact kc B
 ·rw[hS];exact bC x _ _ _ _ _ _
theorem Dv (c:Int)(hq:Rd w so q)(hl:q.length<=1000000)(hm:memB q c=true):Calls prog 30 #[.agg #[Vi 3,.slice so q.length sc,Vz,Vi 0,Vi 0,.string s],Vi c] w (eH w A (λu=>u=.empty)):=by
 obtain⟨r,m,d,a,n,y⟩:=jK (rfl:w.heap.size=_) (TC 3 so q.length sc none 0 0 0 0 s) 58 TZ 58;have Z:r.cell? (aD w.heap.size 0)=some (Vi 3):=a.cell 0;have T:r.cell? (aD w.heap.size 1)=some (.slice so q.length sc):=a.cell 1;have G:=a.lt;have M:=aa (wS sc c (Rd.below hq d) hl);have K:=aa (rh r);have o:=aa n;have t:=aa d;have z:=aa m;have L:=aa hm;clear m d a n y hq hl hm;go_enter func30,ntmps30;go_upto_region 1 with fail;rw[z.out];generalize hS:w.heap.size=S at *;go_wp2_with fail;refine M.mono ?_;rintro e E ⟨rfl,rfl⟩;rw[L.out];go_wp2_with fail;refine K.mono ?_;rintro e E ⟨X,l,j,h,p,i,k,D,C,F,rfl,f,rfl,b⟩;simp only[Tm.kind]at f ⊢;have g:=o.below b;obtain⟨J,Q,N,H,P,I⟩:=g.six;obtain⟨R,V,W,f3,Y,U,O⟩:=g.ice;have x:Hid (Below S w E):=t.trans (b.mono (by have:=o.lt;omega));have B:=aa f;clear f b g;go_wp2_with fail;refine zN (v:=.agg #[Vi 2,.slice l j h,.slice p i k,Vi D,Vi C,.string F]) (by simp[results,results30,go_sem,J,Q,N,H,P,I]) rfl ⟨.empty,l,j,h,p,i,k,D,C,F,rfl,?_,rfl,?_⟩
 ·rw[hS];exact sZ B
 ·rw[hS];exact bC x _ _ _ _ _ _
theorem Bz (c:Int)(hq:Rd w so q)(hl:q.length<=1000000)(hm:memB q c=false):Calls prog 30 #[.agg #[Vi 3,.slice so q.length sc,Vz,Vi 0,Vi 0,.string s],Vi c] w (eH w A (λu=>u=.none)):=by
 obtain⟨r,m,d,a,n,y⟩:=jK (rfl:w.heap.size=_) (TC 3 so q.length sc none 0 0 0 0 s) 58 TZ 58;have Z:r.cell? (aD w.heap.size 0)=some (Vi 3):=a.cell 0;have T:r.cell? (aD w.heap.size 1)=some (.slice so q.length sc):=a.cell 1;have G:=a.lt;have M:=aa (wS sc c (Rd.below hq d) hl);have K:=aa (fG r);have o:=aa n;have t:=aa d;have z:=aa m;have L:=aa hm;clear m d a n y hq hl hm;go_enter func30,ntmps30;go_upto_region 1 with fail;rw[z.out];generalize hS:w.heap.size=S at *;go_wp2_with fail;refine M.mono ?_;rintro e E ⟨rfl,rfl⟩;rw[L.out];go_wp2_with fail;refine K.mono ?_;rintro e E ⟨X,l,j,h,p,i,k,D,C,F,rfl,f,rfl,b⟩;simp only[Tm.kind]at f ⊢;have g:=o.below b;obtain⟨J,Q,N,H,P,I⟩:=g.six;obtain⟨R,V,W,f3,Y,U,O⟩:=g.ice;have x:Hid (Below S w E):=t.trans (b.mono (by have:=o.lt;omega));have B:=aa f;clear f b g;go_wp2_with fail;refine zN (v:=.agg #[Vi 1,.slice l j h,.slice p i k,Vi D,Vi C,.string F]) (by simp[results,results30,go_sem,J,Q,N,H,P,I]) rfl ⟨.none,l,j,h,p,i,k,D,C,F,rfl,?_,rfl,?_⟩
 ·rw[hS];exact kc B
 ·rw[hS];exact bC x _ _ _ _ _ _
theorem Pu (c:Int)(hA:∀g,A g->g<w.heap.size)(ih:qF u)(hok:u.Ok)(hp:place c)(hz:u.z*(u.tl+12)<=3000000000000000000)(hz2:bZ u.z<=2000000000000)(hbl:b<w.heap.size)(hv:aj w A u (TC u.kind so' sn' sc' lo' ln' lc' m' n' s'))(hc:∀j v,(TC u.kind so' sn' sc' lo' ln' lc' m' n' s')[j]?=some v->w.cell? ⟨b,off+j,none⟩=some v):Calls prog 30 #[.agg #[Vi 7,Vz,.slice (some (aD b off)) 1 lc,Vi 0,Vi 0,.string s],Vi c] w (eH w A (Gd (fZ (aX u.L (back c))) (bZ u.z) (u.z*(u.tl+12)))):=by
 obtain⟨z,J,f,r,R,a3⟩:=jK (rfl:w.heap.size=_) (TC 7 none 0 0 (some (aD b off)) 1 lc 0 0 s) 58 TZ 58;have a0:z.cell? (aD w.heap.size 0)=some (Vi 7):=r.cell 0;have a2:z.cell? (aD w.heap.size 2)=some (.slice (some (aD b off)) 1 lc):=r.cell 2;have b0:=r.lt;have b1:b<z.heap.size:=zF hbl f.size;obtain⟨y0,y1,y2,y3,y4,y5⟩:=oT f hbl hc;have a5:=YC (t:=u.tl) (fE u);have HC:=aa (ih z A _ _ _ _ _ _ _ _ _ c (λg a=>zF (hA g a) f.size) (aj.below f _ _ hv) hok hp (by omega) hz2);have HO:Hid (∀(y:World) (C:Tm) (q:Option Addr) (p o:Nat) (k:Option Addr) (i l:Nat) (H N:Int) (P:ByteArray),Bw z y->aj y (λg=>A g\/z.heap.size<g) C (TC C.kind q p o k i l H N P)->Gd (aX u.L (back c)) (bZ u.z) (u.z*u.tl) C ->
   Calls prog 35 #[.agg #[Vi C.kind,.slice q p o,.slice k i l,Vi H,Vi N,.string P]] y λe w6=>∃t U T Y X W lc m n s,e=.returned (.agg #[Vi (Tm.kind t),.slice U T Y,.slice X W lc,Vi m,Vi n,.string s])/\Hid (aj w6 (λg=>A g\/w.heap.size+1<g) t (TC t.kind U T Y X W lc m n s))/\Hid (Gd (fZ (aX u.L (back c))) (bZ u.z) (u.z*(u.tl+12)) t)/\Bw y w6):=λy C q p o k i l H N P h5 x d=>by
  have h1:=d.z;have h2:=d.tl;have h3:=h5.size;refine (Ki (A:=λg=>(A g\/z.heap.size<g)/\g<y.heap.size) (λg a=>a.2) (aj.mono (λg a ha=>⟨ha,a⟩) _ _ x) d.ok (by omega)).mono ?_;rintro e w6 ⟨t,U,T,Y,X,W,lc,m,n,s,rfl,g1,V,g3⟩;refine⟨t,U,T,Y,X,W,lc,m,n,s,rfl,?_,⟨V.ok,?_,?_,?_⟩,g3⟩
  ·exact aj.mono (λg _ a=>by rcases a with⟨a|a,_⟩|a;exact .inl a;exact .inr (by omega);exact .inr (by omega)) _ _ g1
  ·rw[V.lg,d.lg]
  ·have:=V.z;omega
  ·have:=V.tl;omega
 have F:=aa R;have Z:=aa f;have a7:=aa J;have HA:=aa hA;clear J f r R a3 ih hok hv hc hA hz hz2 hp a5;go_enter func30,ntmps30;go_upto_region 1 with fail;rw[a7.out];generalize hS:w.heap.size=S at *;go_wp2_with fail;refine HC.mono ?_;rintro e y ⟨C,q,p,o,k,i,l,H,N,P,rfl,x,d,G⟩;have a6:=aa (HO y C q p o k i l H N P G x d);have D:=aa G;clear x d G HC;go_wp2_with fail;refine a6.mono ?_;rintro e w3 ⟨t3,Q,M,L,K,O,I,m3,n3,s3,rfl,a8,a4,B⟩;have E:=(F.below D).below B;obtain⟨r0,r1,r2,r3,r4,r5⟩:=E.six;obtain⟨f0,f1,f2,f3,f4,f5,a9⟩:=E.ice;have a1:Hid (Below S w w3):=(Z.trans (D.mono (by have:=F.lt;omega))).trans (B.mono (by have:=F.lt;have:=D.size;omega));clear B E;go_wp2_with fail;refine zN (v:=.agg #[Vi (Tm.kind t3),.slice Q M L,.slice K O I,Vi m3,Vi n3,.string s3]) (by simp[results,results30,go_sem,r0,r1,r2,r3,r4,r5]) rfl ⟨t3,Q,M,L,K,O,I,m3,n3,s3,rfl,?_,a4,?_⟩
 ·rw[hS];exact aj.mono (λg _ a=>by rcases a with a|a;exact .inl a;exact .inr (by omega)) _ _ (dP a8 (λg h=>by have:=HA.out g h;omega) _ _ _ _ _ _)
 ·rw[hS];exact bC a1 _ _ _ _ _ _
theorem Pd (hK:K=5\/K=6){m:List Tm}(h:dj c l m)(hg:SomeG K m t):Gd (aX (SK K l).L (back c)) (bZ (Tm.or l).z) ((Tm.or l).z*(Tm.or l).tl) t:=by
 rcases hK with rfl|rfl
 ·exact Lk h hg
 ·exact Hk h hg
theorem Pe (hK:K=5\/K=6)(c:Int)(hA:∀g,A g->g<w.heap.size)(hr:cg w A lo xs)(hl:aO w A l xs)(ih:∀t∈l,qF t)(hok:dW l)(hne:l≠[])(hp:place c)(hz:(Tm.or l).z*(Tm.or l).tl<=3000000000000000000)(hz2:bZ (Tm.or l).z<=2000000000000):Calls prog 30 #[.agg #[.int .i64 K,.slice none 0 0,.slice lo l.length lc,.int .i64 0,.int .i64 0,.string s],.int .i64 c] w (eH w A (Gd (aX (SK K l).L (back c)) (bZ (Tm.or l).z) ((Tm.or l).z*(Tm.or l).tl))):=by
 obtain⟨k,b0,C,F,b7,a8⟩:=jK (rfl:w.heap.size=_) (TC K none 0 0 lo l.length lc 0 0 s) 58 TZ 58;have a0:k.cell? ⟨w.heap.size,0,none⟩=some (.int .i64 K):=F.cell 0;have e4:=F.lt;have d8:Hid (∀(i:Nat) (t:Tm) (wr:World) (a6:Option Addr) (X M:Nat) (a5:Option Addr) (W V:Nat) (m' n':Int) (s':ByteArray),l[i]?=some t->Below k.heap.size k wr->aj k A t (TC t.kind a6 X M a5 W V m' n' s')->Calls prog 30 #[.agg #[.int .i64 t.kind,.slice a6 X M,.slice a5 W V,.int .i64 m',.int .i64 n',.string s'],.int .i64 c] wr (eH wr A (Gd (aX t.L (back c)) (bZ t.z) (t.z*t.tl)))):=λi t wr a6 X M a5 W V m' n' s' hi hb hv=>by
  have hm:=zU hi;have h1:=Jk hm;have h2:=uv hm;refine ih t hm wr A _ _ _ _ _ _ _ _ _ c (λg f=>zF (hA g f) (zJ C.size hb.size)) (aj.below hb _ _ hv) (dO.1 hok t hm) hp ?_ ?_
  ·exact Cr (T:=bd l) (l:=bw l) (by omega) hz h2
  ·exact zJ (dY (zJ h1 (Nat.le_max_right 1 _))) hz2
 have b9:Hid (∀(wr:World) (B:Option Addr) (p:Nat) (x:List Tm) (G:List Value),Below k.heap.size k wr->wr.ownsRow k.heap.size 58 6 (.slice B x.length p) x.length G->aO wr (λg=>A g\/k.heap.size<=g) x G->dj c l x->Calls prog 34 #[.slice B x.length p,.int .i64 K] wr λe w6=>∃t so sn sc lo ln lc m n s,e=.returned (.agg #[.int .i64 (Tm.kind t),.slice so sn sc,.slice lo ln lc,.int .i64 m,.int .i64 n,.string s])/\Hid (aj w6 (λg=>A g\/w.heap.size+1<g) t (TC t.kind so sn sc lo ln lc m n s))/\Hid (Gd (aX (SK K l).L (back c)) (bZ (Tm.or l).z) ((Tm.or l).z*(Tm.or l).tl) t)/\Below wr.heap.size wr w6):=λwr B p x G hb r E o=>by
  have h1:=o.tl;have h2:=o.z;have h3:=hb.size;have h4:bd l*bw l<=3000000000000000000:=Cr (T:=bd l) (l:=bw l) (Nat.le_max_right _ _) hz (zA _);have h5:bZ (bd l)<=2000000000000:=zJ (dY (Nat.le_max_right 1 _)) hz2;have b2:x≠[]:=λe=>hne (by have:=o.len;rw[e]at this;exact yf this.symm);refine (sT hK (A:=λg=>(A g\/k.heap.size<=g)/\g<wr.heap.size) (λg f=>f.2) ((fN r).mono (λg f h=>⟨.inr h,f⟩)) (aO.mono (λg f h=>⟨h,f⟩) _ _ E) o.ok b2 (by omega) (by omega)).mono ?_;rintro e w6 ⟨t,so,sn,sc,lo,ln,lc,m,n,s,rfl,g1,g2,g3⟩;refine⟨t,so,sn,sc,lo,ln,lc,m,n,s,rfl,?_,Pd hK o g2,g3⟩;exact aj.mono (λg _ f=>by rcases f with⟨f|f,_⟩|f;exact .inl f;exact .inr (by omega);exact .inr (by omega)) _ _ g1
 have f8:l.length<=2000000:=by
  have h1:=ko l;have h2:bd l<=max 1 (bd l):=Nat.le_max_right _ _;have h3:max 1 (bd l)<=2000000:=RJ hz2;omega
 have HR:=aa (hr.below C);have HL:=aa (aO.below C _ _ hl);have q1:(K==1)=false:=by rcases hK with rfl|rfl<;>rfl
 have q2:(K==2)=false:=by rcases hK with rfl|rfl<;>rfl
 have q3:(K==3)=false:=by rcases hK with rfl|rfl<;>rfl
 have q4:(K==4)=false:=by rcases hK with rfl|rfl<;>rfl
 have q7:(K==7)=false:=by rcases hK with rfl|rfl<;>rfl
 have q8:(K==8)=false:=by rcases hK with rfl|rfl<;>rfl
 have U:=aa F;have d5:=aa b7;have c7:=aa C;have d6:=aa b0;have HA:=aa hA;have a1:=aa a8;clear hK b0 C F b7 a8 ih hok hr hl hA hz hz2 hp hne;obtain⟨i0,hi,b6,c2,c4⟩:=zz lM;go_enter func30,ntmps30;go_upto_region 1 with fail;rw[d6.out];generalize hS:w.heap.size=S at *;go_wp2_with fail
 go_loopw [9,10] (λov iv wr=>∃(i:Nat) (x:List Tm) (G:List Value),iv=.int .i64 i/\i<=l.length/\wr.ownsRow k.heap.size 58 6 ov x.length G/\aO wr (λg=>(A g\/k.heap.size<=g)/\ov.ownBlock≠some g) x G/\dj c (l.take i) x/\Below k.heap.size k wr) (λ_ iv _=>l.length-(intOf iv).toNat)
 case atStart=>exact⟨0,[],[],rfl,zW _,zZ _ _ _ _,rfl,trivial,zE _ _⟩
 case round=>
  obtain⟨i,x,G,rfl,e8,r,E,o,a⟩:=hrel;obtain⟨B,p,rfl⟩:=cd r;have HO:=aa r;have HU:=aa E;have R:=aa o;have y:=aa a;have O:k.heap.size<=wr.heap.size:=a.size;have i1:(0:Int)<=(i:Int):=zK _;have a2:wr.cell? ⟨S,2,none⟩=some (.slice lo l.length lc):=(U.below a).cell 2;have e6:wr.cell? ⟨S,0,none⟩=some (.int .i64 K):=(U.below a).cell 0;have e5:S<wr.heap.size:=(U.below a).lt;clear r E o a;by_cases d7:i<l.length
  ·have i2:(i:Int)<(l.length:Int):=by omega
   obtain⟨t,ht⟩:∃t,l[i]?=some t:=⟨_,zB d7⟩;have d9:Hid (l.take (i+1)=l.take i++[t]):=by show _=_;rw[zi,ht];rfl
   obtain⟨b,e1,d,rfl,hb,hv,hc⟩:=HR.out.get HL.out ht;obtain⟨e7,e9,g0,f7,f9,e2,mx,nx,sx,rfl,_⟩:=hv.form;obtain⟨y0,y1,y2,y3,y4,y5⟩:=oT y.out hb hc;have f6:b<wr.heap.size:=zF hb O;have HC:=aa (d8 i t wr _ _ _ _ _ _ _ _ _ ht y hv);clear hc hv ht;go_wp2_with fail;refine HC.mono ?_;rintro e w5 ⟨t5,P,a7,N,a4,Y,L,m5,n5,s5,rfl,b8,b5,D⟩;obtain⟨U3,c0,q,Q,-⟩:=dS (rfl:w5.heap.size=_) (TC t5.kind P a7 N a4 Y L m5 n5 s5) 58;replace Q:=aa Q;have c6:=aa c0;have a9:=aa (bg (bg HO D) q);have J:Hid (Below wr.heap.size wr U3):=D.trans (q.mono D.size);have a3:Hid (Below k.heap.size k U3):=y.trans (J.mono O);have d3:=aa (aj.below q _ _ b8);have d1:=aa b5;have e0:x.length<=2000000:=by have:=R.len;rw[yn]at this;omega
   clear c0 q b8 b5 D HC;go_wp2_with (at_builtin;rw[c6.out];refine jg rfl (.tmp 96) (.tmp 104) 56 58 i0 _ 6 88 rfl underlying56 hi b6 c2 c4 rfl (by decide) k.heap.size x.length _ _ rfl a9 _ 1 _ (TC t5.kind P a7 N a4 Y L m5 n5 s5) rfl rfl (by decide) (λj u hj=>by rw[zl,zf,Q.out.cell];exact hj) (sD _ _ _ _ _ _ _ _ _ _) (by unfold maxLen;omega) (by omega) a3.size ?_;intro v4 w4 z H I;have HF:=aa (d0.intro z (d0.intro H I));clear z H I)
   go_roundw
   case rel=>
    refine⟨i+1,x++[t5],G++TC t5.kind P a7 N a4 Y L m5 n5 s5,by go_num,by omega,by simpa using HF.1,?_,by rw[d9.out];exact R.snoc d1,cD a3 a3.size a9 HF.2.1⟩;exact CK HF.2.1 HF.2.2 J HU d3 (λg e=>HO.lt g e) (λg h=>by have:=HA.out g h;have:=a1.out;omega) O
   case measure=>simp[intOf];omega
  ·have i2:decide ((i:Int)<(l.length:Int))=false:=zI (by omega);obtain rfl:i=l.length:=by omega
   have d2:=aa (b9 wr B p x G y HO (aO.mono (λg _ h=>h.1) _ _ HU) (by have:=R.out;rwa [zQ]at this));go_wp2_with fail;refine d2.mono ?_;rintro e w3 ⟨t3,b4,b3,b1,c3,c1,c5,m3,n3,s3,rfl,c8,c9,q⟩;have Z:=(d5.below y).below q;obtain⟨r0,r1,r2,r3,r4,r5⟩:=Z.six;obtain⟨f0,f1,f2,f3,f4,f5,e3⟩:=Z.ice;have d4:Hid (Below S w w3):=(c7.trans (y.mono (by have:=a1.out;omega))).trans (q.mono (by have:=a1.out;omega));clear q Z;go_wp2_with fail;refine zN (v:=.agg #[.int .i64 (Tm.kind t3),.slice b4 b3 b1,.slice c3 c1 c5,.int .i64 m3,.int .i64 n3,.string s3]) (by simp[results,results30,go_sem,r0,r1,r2,r3,r4,r5]) rfl ⟨t3,b4,b3,b1,c3,c1,c5,m3,n3,s3,rfl,?_,c9,?_⟩
   ·rw[hS];exact aj.mono (λg _ f=>by rcases f with f|f;exact .inl f;exact .inr (by omega)) _ _ (dP c8 (λg h=>by have:=HA.out g h;omega) _ _ _ _ _ _)
   ·rw[hS];exact bC d4 _ _ _ _ _ _
theorem fB (h:Bw a w')(o:Obj):Bw a (w'.alloc o):=h.alloc h.size o
theorem OB (h:Bw a w')(o:Obj):Bw a (w'.alloc o).drew:=(h.alloc h.size o).drew
theorem wy {w6:World}{Z X s5 Y ka:Nat}{t6:Tm}(h:aj w6 (λg=>(A g\/(X<g/\g<s5))\/(Y<g/\g<w6.heap.size)) t6 cs)(hX:Z<=X)(hY:Z<=Y)(hA:∀g,A g->g<Z)(hk:Z<=ka)(h1:ka<=X\/s5<=ka)(h2:ka<=Y\/w6.heap.size<=ka):aj w6 (λg=>(A g\/Z<=g)/\g≠ka) t6 cs:=by
 refine aj.mono (λg a h=>?_) _ _ h;rcases h with (h|h)|h
 ·have:=hA g h;exact⟨.inl h,by omega⟩
 ·exact⟨.inr (by omega),by omega⟩
 ·exact⟨.inr (by omega),by omega⟩
theorem bL {b c:World}(h:Bw a b)(k:Bw b c):Bw a c:=h.trans (k.mono h.size)
theorem OC {q:Tm}{soy:OA}{sny scy:Nat}{loy:OA}{lny lcy:Nat}{my ny:Int}{sy:ByteArray}(c:Int)(hA:∀g,A g->g<w.heap.size)(ip:qF p)(iq:qF q)(pk:p.Ok)(qk:q.Ok)(hpl:place c)(hz:(p.z+q.z)*(p.tl+q.tl+12)<=3000000000000000000)(hz2:bZ (p.z+q.z)<=2000000000000)(hbl:b<w.heap.size)(hrow:∀j v,(TC p.kind sox snx scx lox lnx lcx mx nx sx++TC q.kind soy sny scy loy lny lcy my ny sy)[j]?=some v->w.cell? ⟨b,off+j,none⟩=some v)(hp:aj w A p (TC p.kind sox snx scx lox lnx lcx mx nx sx))(hq:aj w A q (TC q.kind soy sny scy loy lny lcy my ny sy)):Calls prog 30 #[.agg #[.int .i64 4,.slice none 0 0,.slice (some ⟨b,off,none⟩) 2 lc,.int .i64 0,.int .i64 0,.string s],.int .i64 c] w (eH w A (Gd (aX (aJ p.L q.L) (back c)) (bZ (p.z+q.z)) ((p.z+q.z)*(p.tl+q.tl+12)))):=by
 obtain⟨d,g0,G,c2,e9,e7⟩:=jK (rfl:w.heap.size=_) (TC 4 none 0 0 (some ⟨b,off,none⟩) 2 lc 0 0 s) 58 TZ 58;have a0:d.cell? ⟨w.heap.size,0,none⟩=some (.int .i64 4):=c2.cell 0;have j4:d.cell? ⟨w.heap.size,2,none⟩=some (.slice (some ⟨b,off,none⟩) 2 lc):=c2.cell 2;have d1:=c2.lt;have c0:b<d.heap.size:=zF hbl G.size;obtain⟨i1,l2,k7,k6,j6,m0⟩:=oT G hbl (CT.fst hrow);obtain⟨j2,j3,l9,n1,m2,l0⟩:=oT G hbl (CT.snd hrow);have k8:=YD (ta:=p.tl) (tb:=q.tl) (fE p) (fE q);have l3:=Xq (zb:=q.z) (fE p);have E:Hid (∀a,Below d.heap.size d a->(Below d.heap.size d a/\a.cell? ⟨w.heap.size,2,none⟩=some (.slice (some ⟨b,off,none⟩) 2 lc)/\CT a b off p.kind sox snx scx lox lnx lcx mx nx sx/\CT a b (off+6) q.kind soy sny scy loy lny lcy my ny sy)):=λa h=>⟨h,(h.cell (p:=⟨w.heap.size,2,none⟩) d1).trans j4,CT.below h c0 ⟨i1,l2,k7,k6,j6,m0⟩,CT.below h c0 ⟨j2,j3,l9,n1,m2,l0⟩⟩;have HL:Hid (∀a,Below d.heap.size d a->Calls prog 30 #[.agg #[.int .i64 p.kind,.slice sox snx scx,.slice lox lnx lcx,.int .i64 mx,.int .i64 nx,.string sx],.int .i64 c] a λe f=>∃t K R L lo O lc m n s,e=.returned (.agg #[.int .i64 (Tm.kind t),.slice K R L,.slice lo O lc,.int .i64 m,.int .i64 n,.string s])/\aj f (λg=>A g\/(a.heap.size<g/\g<f.heap.size)) t (TC t.kind K R L lo O lc m n s)/\Gd (aX p.L (back c)) (bZ p.z) (p.z*p.tl) t/\Below a.heap.size a f/\Below d.heap.size d f):=λa h=>by
  refine (ip a A _ _ _ _ _ _ _ _ _ c (λg i=>by have h1:=hA g i;have h2:=G.size;have h3:=h.size;omega) (aj.below h _ _ (aj.below G _ _ hp)) pk hpl (by omega) (by omega)).mono ?_;rintro e f ⟨t,K,R,L,lo,O,lc,m,n,s,rfl,g1,g2,g3⟩;exact⟨t,K,R,L,lo,O,lc,m,n,s,rfl,aj.mono (λg i h=>by rcases h with h|h;exact .inl h;exact .inr ⟨h,i⟩) _ _ g1,g2,g3,bL h g3⟩
 have HP:Hid (∀(f a:World) (X:Nat) (t5:Tm) (b8:Option Addr) (b6 c4:Nat) (b5:Option Addr) (b7 c1:Nat) (m5 n5:Int) (s5:ByteArray),Below d.heap.size d a->Below f.heap.size f a->aj f (λg=>A g\/(X<g/\g<f.heap.size)) t5 (TC t5.kind b8 b6 c4 b5 b7 c1 m5 n5 s5)->Gd (aX p.L (back c)) (bZ p.z) (p.z*p.tl) t5 ->
   Calls prog 38 #[.agg #[.int .i64 t5.kind,.slice b8 b6 c4,.slice b5 b7 c1,.int .i64 m5,.int .i64 n5,.string s5],.agg #[.int .i64 q.kind,.slice soy sny scy,.slice loy lny lcy,.int .i64 my,.int .i64 ny,.string sy]] a λe T=>∃t K R L lo O lc m n s,e=.returned (.agg #[.int .i64 (Tm.kind t),.slice K R L,.slice lo O lc,.int .i64 m,.int .i64 n,.string s])/\aj T (λg=>(A g\/(X<g/\g<f.heap.size))\/(a.heap.size<g/\g<T.heap.size)) t (TC t.kind K R L lo O lc m n s)/\Gd (aJ (aX p.L (back c)) q.L) (bZ p.z+q.z) (p.z*p.tl+q.tl+12) t/\Below a.heap.size a T/\Below d.heap.size d T):=λf a X t5 b8 b6 c4 b5 b7 c1 m5 n5 s5 h h5 c3 Z=>by
  have h1:=Z.z;have h2:=Z.tl;have h3:=h5.size;have h4:=h.size;have h6:=G.size;refine (nY t5 a (λg=>A g\/(X<g/\g<f.heap.size)) q _ _ _ _ _ _ _ _ _ _ _ _ _ _ _ _ _ _ (λg i=>by rcases i with i|i;have:=hA g i;omega;omega) (aj.below h5 _ _ c3) (aj.mono (λg _ i=>.inl i) _ _ (aj.below h _ _ (aj.below G _ _ hq))) Z.ok qk (by omega)).mono ?_;rintro e T ⟨t,K,R,L,lo,O,lc,m,n,s,rfl,g1,g2,g3⟩;exact⟨t,K,R,L,lo,O,lc,m,n,s,rfl,aj.mono (λg i h=>by rcases h with h|h;exact .inl h;exact .inr ⟨h,i⟩) _ _ g1,⟨g2.ok,by rw[g2.lg,Z.lg],by have:=g2.z;omega,by have:=g2.tl;omega⟩,g3,bL h g3⟩
 have m3:Hid (∀a,Below d.heap.size d a->Calls prog 29 #[.agg #[.int .i64 p.kind,.slice sox snx scx,.slice lox lnx lcx,.int .i64 mx,.int .i64 nx,.string sx]] a λe C=>∃v:Bool,e=.returned (.bool v)/\(v=true↔p.L [])/\Below a.heap.size a C):=λa h=>iR p a A _ _ _ _ _ _ _ _ _ (aj.below h _ _ (aj.below G _ _ hp)) pk (by have h1:=fE p;have h2:1*p.tl<=p.z*p.tl:=zn _ h1;omega);have k9:Hid (∀D,¬p.L []->Gd (aJ (aX p.L (back c)) q.L) (bZ p.z+q.z) (p.z*p.tl+q.tl+12) D->Gd (aX (aJ p.L q.L) (back c)) (bZ (p.z+q.z)) ((p.z+q.z)*(p.tl+q.tl+12)) D):=λD hn h=>⟨h.ok,by rw[h.lg,rK,zR hn],by have:=h.z;omega,by have:=h.tl;omega⟩;have i6:Hid (∀a,Below d.heap.size d a->Calls prog 30 #[.agg #[.int .i64 q.kind,.slice soy sny scy,.slice loy lny lcy,.int .i64 my,.int .i64 ny,.string sy],.int .i64 c] a λe f=>∃t K R L lo O lc m n s,e=.returned (.agg #[.int .i64 (Tm.kind t),.slice K R L,.slice lo O lc,.int .i64 m,.int .i64 n,.string s])/\aj f (λg=>A g\/(a.heap.size<g/\g<f.heap.size)) t (TC t.kind K R L lo O lc m n s)/\Gd (aX q.L (back c)) (bZ q.z) (q.z*q.tl) t/\Below a.heap.size a f/\Below d.heap.size d f):=λa h=>by
  refine (iq a A _ _ _ _ _ _ _ _ _ c (λg i=>by have h1:=hA g i;have h2:=G.size;have h3:=h.size;omega) (aj.below h _ _ (aj.below G _ _ hq)) qk hpl (by omega) (by omega)).mono ?_;rintro e f ⟨t,K,R,L,lo,O,lc,m,n,s,rfl,g1,g2,g3⟩;exact⟨t,K,R,L,lo,O,lc,m,n,s,rfl,aj.mono (λg i h=>by rcases h with h|h;exact .inl h;exact .inr ⟨h,i⟩) _ _ g1,g2,g3,bL h g3⟩
 have j8:Hid (∀(C:World) (D:Tm) (r:Option Addr) (z B:Nat) (o:Option Addr) (x y:Nat) (N Q:Int) (P:ByteArray) (F:Nat),p.L []->aj C (λg=>(A g\/d.heap.size<=g)/\g≠F) D (TC D.kind r z B o x y N Q P)->Gd (aJ (aX p.L (back c)) q.L) (bZ p.z+q.z) (p.z*p.tl+q.tl+12) D->Below d.heap.size d C ->
   ∀(w8:World) (t8:Tm) (a8:Option Addr) (a3 U:Nat) (a7:Option Addr) (V a4:Nat) (m8 n8:Int) (s8:ByteArray),Below C.heap.size C w8->aj w8 (λg=>A g\/(C.drew.heap.size<g/\g<w8.heap.size)) t8 (TC t8.kind a8 a3 U a7 V a4 m8 n8 s8)->Gd (aX q.L (back c)) (bZ q.z) (q.z*q.tl) t8 ->
   Calls prog 34 #[.slice (some ⟨w8.heap.size,0,none⟩) 2 2,.int .i64 5] (w8.alloc (.cells #[.int .i64 D.kind,.slice r z B,.slice o x y,.int .i64 N,.int .i64 Q,.string P,.int .i64 t8.kind,.slice a8 a3 U,.slice a7 V a4,.int .i64 m8,.int .i64 n8,.string s8] 58)) λe w9=>∃t K R L lo O lc m n s,e=.returned (.agg #[.int .i64 (Tm.kind t),.slice K R L,.slice lo O lc,.int .i64 m,.int .i64 n,.string s])/\Hid (aj w9 (λg=>A g\/w.heap.size+1<g) t (TC t.kind K R L lo O lc m n s))/\Hid (Gd (aX (aJ p.L q.L) (back c)) (bZ (p.z+q.z)) ((p.z+q.z)*(p.tl+q.tl+12)) t)/\Below C.heap.size C w9):=λC D r z B o x y N Q P F hy c6 a5 b0 w8 t8 a8 a3 U a7 V a4 m8 n8 s8 b2 c5 a1=>by
  obtain⟨W9,d7,a9,-,-⟩:=dS (rfl:w8.heap.size=_) (TC D.kind r z B o x y N Q P++TC t8.kind a8 a3 U a7 V a4 m8 n8 s8) 58;have f9:=nP w8 (TC D.kind r z B o x y N Q P++TC t8.kind a8 a3 U a7 V a4 m8 n8 s8) 58;rw[d7]at f9;have s1:=b0.size;have s2:=b2.size;have s3:=a9.size;have z6:=a5.z;have l6:=a5.tl;have z8:=a1.z;have l8:=a1.tl;have o2:C.drew.heap.size=C.heap.size:=rfl;have n3:aO W9 (λg=>(A g\/d.heap.size<=g)/\g<W9.heap.size) [D,t8] (TC D.kind r z B o x y N Q P++TC t8.kind a8 a3 U a7 V a4 m8 n8 s8):=aO.append (l:=[D]) (aO.one (aj.mono (λg i h=>⟨h.1,i⟩) _ _ (aj.below a9 _ _ (aj.below b2 _ _ c6)))) (aO.one (aj.mono (λg i h=>⟨by rcases h with h|h;exact .inl h;exact .inr (by omega),i⟩) _ _ (aj.below a9 _ _ c5)));have hc:=sT (.inl rfl) (lo:=some ⟨w8.heap.size,0,none⟩) (lc:=2) (λg i=>i.2) (f9.mono (λg i h=>⟨.inr (by omega),i⟩)) n3 ⟨a5.ok,a1.ok,trivial⟩ (by simp) (by simp only[bw];omega) (by simp only[bd];omega);rw[<-d7]at hc;refine Calls.mono hc ?_;rintro e w9 ⟨t,K,R,L,lo,O,lc,m,n,s,rfl,g1,g2,g3⟩;rw[d7]at g1 g3;refine⟨t,K,R,L,lo,O,lc,m,n,s,rfl,?_,⟨g2.ok,?_,?_,?_⟩,(b2.trans (a9.mono s2)).trans (g3.mono (by omega))⟩
  ·exact aj.mono (λg _ i=>by rcases i with⟨i|i,_⟩|i;exact .inl i;exact .inr (by omega);exact .inr (by omega)) _ _ g1
  ·funext u;rw[rK,zX hy];refine propext ((g2.or rfl u).trans ?_);simp only[kI,or_false];rw[a5.lg,a1.lg];rfl
  ·have:=g2.z;simp only[bd]at this;have:=Bk (fE p);omega
  ·have:=g2.tl;simp only[bw]at this;omega
 have m1:Hid (∀f T:World,Below (d.alloc (.cells #[.int .i64 0,.slice none 0 0,.slice none 0 0,.int .i64 0,.int .i64 0,.string ⟨#[]⟩] 58)).drew.heap.size (d.alloc (.cells #[.int .i64 0,.slice none 0 0,.slice none 0 0,.int .i64 0,.int .i64 0,.string ⟨#[]⟩] 58)).drew f->Below f.heap.size f T->ag T d.heap.size TZ 58):=λf T h1 h2=>by
  have h3:=ag.new d TZ 58;exact (h3.below (ku h1)).below h2
 have n2:Hid (∀(f:World) (F:Nat),f.heap.size=F->Below d.heap.size d f->d.heap.size<=F):=λf F e h=>by rw[<-e];exact h.size
 have i8:Hid (∀f:World,∃F:Nat,f.heap.size=F):=λf=>⟨_,rfl⟩;have m7:Hid (∀(f T:World) (F:Nat),f.heap.size=F->Below (f.alloc (.cells #[.int .i64 0,.slice none 0 0,.slice none 0 0,.int .i64 0,.int .i64 0,.string ⟨#[]⟩] 58)).heap.size (f.alloc (.cells #[.int .i64 0,.slice none 0 0,.slice none 0 0,.int .i64 0,.int .i64 0,.string ⟨#[]⟩] 58)) T->ag T F TZ 58):=λf T F e h1=>by
  subst e;have h3:=ag.new f TZ 58;exact h3.below h1
 have f7:=aa e9;have g5:=aa G;have m4:=aa g0;have HA:=aa hA;have b4:=aa e7;have n0:Hid (∀(C a:World),Below d.heap.size d C->Below C.heap.size C a->ag a (w.heap.size+1) TZ 58):=λC a h k=>f7.below (bL h k);have c9:Hid (∀g,A g->g<d.heap.size):=λg h=>by have:=hA g h;omega
 clear hrow hp hq pk qk g0 G c2 e9 hA ip iq hz hz2 k8 l3 hpl e7;go_enter func30,ntmps30;go_upto_region 1 with fail;rw[m4.out];generalize hS:w.heap.size=S at *;go_upto_region 18 with fail
 go_cut [7] (λv wx=>∃(F:Nat) (D:Tm) (r:Option Addr) (z B:Nat) (o:Option Addr) (x y:Nat) (N Q:Int) (P:ByteArray),v=.pointer (some ⟨F,0,none⟩)/\Hid (ag wx F (TC D.kind r z B o x y N Q P) 58/\d.heap.size<=F/\aj wx (λg=>(A g\/d.heap.size<=g)/\g≠F) D (TC D.kind r z B o x y N Q P)/\Gd (aJ (aX p.L (back c)) q.L) (bZ p.z+q.z) (p.z*p.tl+q.tl+12) D/\Below d.heap.size d wx))
 case first=>
  have d9:=aa (E d.drew (jw d))
  go_region_held3 (λa=>Below d.heap.size d a/\a.cell? ⟨S,2,none⟩=some (.slice (some ⟨b,off,none⟩) 2 lc)/\CT a b off p.kind sox snx scx lox lnx lcx mx nx sx/\CT a b (off+6) q.kind soy sny scy loy lny lcy my ny sy)
   (first|with_reducible exact d9.out|with_reducible exact E.out _ W.out|with_reducible exact E.out _ I.out|with_reducible exact E.out _ (fB I.out _)|with_reducible exact E.out _ (fB W.out _)|with_reducible exact E.out _ (fB I.out _)|with_reducible exact E.out _ (fV I.out (zA _) _ _ _ _ _ _)|with_reducible exact E.out _ (fV I.out b9.out _ _ _ _ _ _)|with_reducible exact E.out _ (OB (zE _ _) _)|fail)
   (first
    |(go_at_call 30;with_reducible refine (HL.out _ (‹Below d.heap.size d _/\_›.1)).mono ?_;rintro e f ⟨t5,b8,b6,c4,b5,b7,c1,m5,n5,s5,rfl,c3,Z,g7,e8⟩;have W:=aa e8;have j9:=aa c3;have i9:=aa Z;have l7:=aa g7;clear c3 Z g7 e8)
    |(go_at_call 38;with_reducible refine (HP.out f _ _ t5 _ _ _ _ _ _ _ _ _ (‹Below d.heap.size d _/\_›.1) (by first|with_reducible exact zE _ _|with_reducible exact fB (zE _ _) _) j9.out i9.out).mono ?_;rintro e T ⟨D,r,z,B,o,x,y,N,Q,P,rfl,c6,a5,g6,e6⟩;have I:=aa e6;have d3:=aa c6;have d8:=aa a5;have d2:=aa g6;clear c6 a5 g6 e6;(first|(with_reducible have M:=m1.out _ _ l7.out d2.out;obtain⟨r0,r1,r2,r3,r4,r5⟩:=M.six;obtain⟨f0,f1,f2,f3,f4,f5,c8⟩:=M.ice;have d5:=aa M;clear M)|(obtain⟨F,b3⟩:=i8.out f;with_reducible have M:=m7.out _ _ F b3 d2.out;obtain⟨r0,r1,r2,r3,r4,r5⟩:=M.six;obtain⟨f0,f1,f2,f3,f4,f5,c8⟩:=M.ice;have d5:=aa M;clear M;rw[b3];have b9:=aa (n2 _ _ b3 W);have h8:=aa b3;clear b3;skip)|skip))
    |fail)
  ·go_wp2_with fail
   go_meet
   case rel=>exact⟨T.heap.size,D,r,z,B,o,x,y,N,Q,P,rfl,ag.new T (TC D.kind r z B o x y N Q P) 58,I.size,aj.below (fB (zE _ _) _) _ _ (wy d3 (zA d.heap.size) W.size c9 I.size (.inr d2.size) (.inr (zA _))),d8,fB I _⟩
  ·go_wp2_with fail
   go_meet
   case rel=>exact⟨F,D,r,z,B,o,x,y,N,Q,P,rfl,d5.sixS _ _ _ _ _ _,b9,gR (wy d3 (zA d.heap.size) (by have:=W.size;simp;omega) c9 b9 (.inr (by rw[h8.out];exact zA _)) (.inl (by have:=h8.out;simp;omega))) (λh=>h.2 rfl) _ _ _ _ _ _,d8,fV I b9 _ _ _ _ _ _⟩
  ·go_wp2_with fail
   go_meet
   case rel=>exact⟨d.heap.size,D,r,z,B,o,x,y,N,Q,P,rfl,d5.sixS _ _ _ _ _ _,zA _,gR (wy d3 (by show d.heap.size<=(d.alloc _).heap.size;simp) W.size c9 (zA _) (.inl (by show d.heap.size<=(d.alloc _).heap.size;simp)) (.inl W.size)) (λh=>h.2 rfl) _ _ _ _ _ _,d8,fV I (zA _) _ _ _ _ _ _⟩
 case rest=>
  obtain⟨F,D,r,z,B,o,x,y,N,Q,P,rfl,J⟩:=hcut;have Y:Below d.heap.size d wc:=J.2.2.2.2;have a2:wc.cell? ⟨S,2,none⟩=some (.slice (some ⟨b,off,none⟩) 2 lc):=(E wc Y).2.1;obtain⟨x0,x1,x2,x3,x4,x5⟩:=(E.out wc Y).2.2.1;have i0:b<wc.heap.size:=zF c0 Y.size;have j1:S<wc.heap.size:=zF d1 Y.size;have e2:=aa (m3 wc Y);have i2:=aa Y;clear Y;go_wp2_with fail;refine e2.mono ?_;rintro e C ⟨v,rfl,g8,b0⟩;have e3:=aa g8;have H:Hid (Below d.heap.size d C):=bL i2 b0;have c7:=aa (J.1.below b0);have h0:=aa (aj.below b0 _ _ J.2.2.1);have n7:b<C.heap.size:=zF c0 H.size;have o1:S<C.heap.size:=zF d1 H.size;have g9:F<C.heap.size:=c7.lt;have o0:S+1<F:=by have:=J.2.1;have:=b4.out;omega
  have n4:b<S:=hbl;clear g8 b0 a2 x0 x1 x2 x3 x4 x5 e2 i0 j1;cases v with
  |false=>
   have l4:Hid (¬p.L []):=λh=>by have:=e3.2 h;cases this
   obtain⟨k0,k1,k2,k3,k4,k5⟩:=c7.out.six;have d6:=f7.below H;obtain⟨r0,r1,r2,r3,r4,r5⟩:=d6.six;obtain⟨f0,f1,f2,f3,f4,f5,c8⟩:=d6.ice;clear d6;go_wp2_with fail;refine zN (v:=.agg #[.int .i64 (Tm.kind D),.slice r z B,.slice o x y,.int .i64 N,.int .i64 Q,.string P]) (by simp[results,results30,go_sem,r0,r1,r2,r3,r4,r5]) rfl ⟨D,r,z,B,o,x,y,N,Q,P,rfl,?_,k9 D l4 J.2.2.2.1,?_⟩
   ·rw[hS];exact aj.mono (λg _ i=>by rcases i with⟨i|i,_⟩;exact .inl i;exact .inr (by have:=b4.out;omega)) _ _ (gR h0 (λh=>by rcases h with⟨h|h,_⟩;have:=HA.out _ h;omega;have:=b4.out;omega) _ _ _ _ _ _)
   ·rw[hS];exact bC (g5.trans (H.mono (by have:=b4.out;omega))) _ _ _ _ _ _
  |true=>
   have h7:Hid (p.L []):=e3.1 rfl;obtain⟨k0,k1,k2,k3,k4,k5⟩:=c7.out.six;have a6:Hid (∀a,Below C.heap.size C a->(Below C.heap.size C a/\a.cell? ⟨S,2,none⟩=some (.slice (some ⟨b,off,none⟩) 2 lc)/\CB a F D.kind r z B o x y N Q P/\CT a b (off+6) q.kind soy sny scy loy lny lcy my ny sy)):=λa h=>⟨h,(E a (bL H h)).2.1,CB.below h g9 ⟨k0,k1,k2,k3,k4,k5⟩,(E a (bL H h)).2.2.2⟩;have e5:=aa (j8 C D _ _ _ _ _ _ _ _ _ F h7 h0 J.2.2.2.1 H);have i3:S+1≠S:=by omega
   have l1:S+1≠b:=by omega
   have j5:S+1≠F:=by omega
   have d9:=aa (a6 C.drew (jw C));have j0:=aa (i6 C.drew (bL H (jw C)));clear k0 k1 k2 k3 k4 k5;go_wp2_with fail
   go_region_held3 (λa=>a.cell? ⟨S,2,none⟩=some (.slice (some ⟨b,off,none⟩) 2 lc)/\CB a F D.kind r z B o x y N Q P/\CT a b (off+6) q.kind soy sny scy loy lny lcy my ny sy)
    (first|with_reducible exact d9.out.2|with_reducible exact (a6.out _ d0.out).2|with_reducible exact (a6.out _ (fB d0.out _)).2|with_reducible exact (a6.out _ b1.out).2|with_reducible exact⟨JK i3 (a6.out _ b1.out).2.1,CB.far j5 (a6.out _ b1.out).2.2.1,CT.far l1 (a6.out _ b1.out).2.2.2⟩|fail)
    (first
     |(go_at_call 30;with_reducible refine j0.out.mono ?_;rintro e w8 ⟨t8,a8,a3,U,a7,V,a4,m8,n8,s8,rfl,c5,a1,b2,l5⟩;have d0:=aa (ku b2);have i7:=aa c5;have i5:=aa a1;clear c5 a1 b2 l5)
     |(go_at_call 34;with_reducible refine (e5.out w8 t8 _ _ _ _ _ _ _ _ _ d0.out i7.out i5.out).mono ?_;rintro e w9 ⟨t9,h9,e0,f8,f6,g4,e4,m9,n9,s9,rfl,j7,i4,e1⟩;have b1:=aa e1;have d4:=n0.out _ _ H b1;obtain⟨r0,r1,r2,r3,r4,r5⟩:=d4.six;obtain⟨f0,f1,f2,f3,f4,f5,c8⟩:=d4.ice;clear d4 e1)
     |fail)
   go_wp2_with fail;refine zN (v:=.agg #[.int .i64 (Tm.kind t9),.slice h9 e0 f8,.slice f6 g4 e4,.int .i64 m9,.int .i64 n9,.string s9]) (by simp[results,results30,go_sem,r0,r1,r2,r3,r4,r5]) rfl ⟨t9,h9,e0,f8,f6,g4,e4,m9,n9,s9,rfl,?_,i4,?_⟩
   ·rw[hS];exact aj.mono (λg _ i=>by rcases i with i|i;exact .inl i;exact .inr (by omega)) _ _ (dP j7 (λg h=>by have:=HA.out g h;omega) _ _ _ _ _ _)
   ·rw[hS];exact bC (g5.trans ((bL H b1).mono (by have:=b4.out;omega))) _ _ _ _ _ _
theorem Ac (c:Int)(hA:∀g,A g->g<w.heap.size)(ip:qF p)(pk:p.Ok)(hpl:place c)(hm0:0<=m)(hm5:m<=5)(hn:n=-1\/(0<n/\m<=n/\n<=5))(hz:(p.z+1)*(p.tl+12)<=3000000000000000000)(hz2:bZ (p.z+1)<=2000000000000)(hbl:b<w.heap.size)(hrow:∀j v,(TC p.kind sox snx scx lox lnx lcx mx nx sx)[j]?=some v->w.cell? ⟨b,off+j,none⟩=some v)(hp:aj w A p (TC p.kind sox snx scx lox lnx lcx mx nx sx)):Calls prog 30 #[.agg #[.int .i64 8,.slice none 0 0,.slice (some ⟨b,off,none⟩) 1 lc,.int .i64 m,.int .i64 n,.string s],.int .i64 c] w (eH w A (Gd (aX (dB p.L m n) (back c)) (bZ (p.z+1)) ((p.z+1)*(p.tl+12)))):=by
 obtain⟨a,c2,q,D,c0,c6⟩:=jK (rfl:w.heap.size=_) (TC 8 none 0 0 (some ⟨b,off,none⟩) 1 lc m n s) 58 TZ 58;have a0:a.cell? ⟨w.heap.size,0,none⟩=some (.int .i64 8):=D.cell 0;have c1:a.cell? ⟨w.heap.size,2,none⟩=some (.slice (some ⟨b,off,none⟩) 1 lc):=D.cell 2;have b6:a.cell? ⟨w.heap.size,3,none⟩=some (.int .i64 m):=D.cell 3;have e8:a.cell? ⟨w.heap.size,4,none⟩=some (.int .i64 n):=D.cell 4;have a3:=D.lt;have G:b<a.heap.size:=zF hbl q.size;obtain⟨d6,e1,e0,e2,d0,e6⟩:=oT q hbl hrow;have d9:=Xp (t:=p.tl) (fE p);have d7:=Vu p.z;have e4:1*p.tl<=p.z*p.tl:=zn _ (fE p);have c4:bA m=max (m-1) 0:=by unfold bA;split<;>omega
 have a7:IntKind.i64.wrap (m-1)=m-1:=by rw[IntKind.wrap_i64]<;>omega
 obtain⟨F,hF⟩:∃F,bA n=F:=⟨_,rfl⟩;have c3:(n=-1/\F=-1)\/(0<n/\F=n-1):=by
  rw[<-hF];unfold bA;rcases hn with rfl|h
  ·exact .inl ⟨rfl,rfl⟩
  ·exact .inr ⟨h.1,zX h.1⟩
 have e7:=aa c3;obtain⟨S,l⟩:∃S,w.heap.size=S:=⟨_,rfl⟩;have o:Hid (∀d,Below a.heap.size a d->(d.cell? ⟨S,2,none⟩=some (.slice (some ⟨b,off,none⟩) 1 lc)/\d.cell? ⟨S,3,none⟩=some (.int .i64 m)/\CT d b off p.kind sox snx scx lox lnx lcx mx nx sx)):=λd h=>by
  rw[<-l];exact⟨(h.cell (p:=⟨w.heap.size,2,none⟩) a3).trans c1,(h.cell (p:=⟨w.heap.size,3,none⟩) a3).trans b6,(h.cell (p:=⟨b,off,none⟩) G).trans d6,(h.cell (p:=⟨b,off+1,none⟩) G).trans e1,(h.cell (p:=⟨b,off+2,none⟩) G).trans e0,(h.cell (p:=⟨b,off+3,none⟩) G).trans e2,(h.cell (p:=⟨b,off+4,none⟩) G).trans d0,(h.cell (p:=⟨b,off+5,none⟩) G).trans e6⟩
 have HL:Hid (∀d,Below a.heap.size a d->Calls prog 30 #[.agg #[.int .i64 p.kind,.slice sox snx scx,.slice lox lnx lcx,.int .i64 mx,.int .i64 nx,.string sx],.int .i64 c] d λe W=>∃t B C x z y lc mm nn s,e=.returned (.agg #[.int .i64 (Tm.kind t),.slice B C x,.slice z y lc,.int .i64 mm,.int .i64 nn,.string s])/\aj W (λg=>A g\/a.heap.size<g) t (TC t.kind B C x z y lc mm nn s)/\Gd (aX p.L (back c)) (bZ p.z) (p.z*p.tl) t/\Below d.heap.size d W/\Below a.heap.size a W):=λd h=>by
  have h9:=h.size;refine (ip d A _ _ _ _ _ _ _ _ _ c (λg f=>by have h1:=hA g f;have h2:=q.size;omega) (aj.below h _ _ (aj.below q _ _ hp)) pk hpl (by omega) (by omega)).mono ?_;rintro e W ⟨t,B,C,x,z,y,lc,m,n,s,rfl,g1,g2,g3⟩;exact⟨t,B,C,x,z,y,lc,m,n,s,rfl,aj.mono (λg f h=>by rcases h with h|h;exact .inl h;exact .inr (by omega)) _ _ g1,g2,g3,bL h g3⟩
 have HT:Hid (∀d,Below a.heap.size a d->Calls prog 36 #[.agg #[.int .i64 p.kind,.slice sox snx scx,.slice lox lnx lcx,.int .i64 mx,.int .i64 nx,.string sx],.int .i64 (max (IntKind.i64.wrap (m-1)) 0),.int .i64 F] d λe W=>∃t B C x z y lc mm nn s,e=.returned (.agg #[.int .i64 (Tm.kind t),.slice B C x,.slice z y lc,.int .i64 mm,.int .i64 nn,.string s])/\aj W (λg=>A g\/a.heap.size<g) t (TC t.kind B C x z y lc mm nn s)/\Gd (dB p.L (max (m-1) 0) F) (p.z+1) (p.tl+12) t/\Below d.heap.size d W/\Below a.heap.size a W):=λd h=>by
  have h9:=h.size;rw[a7];refine (Cy (A:=A) (max (m-1) 0) F (λg f=>by have h1:=hA g f;have h2:=q.size;omega) (by omega) (by omega) (by omega) (aj.below h _ _ (aj.below q _ _ hp)) pk (by omega)).mono ?_;rintro e W ⟨t,B,C,x,z,y,lc,m',n',s,rfl,g1,g2,g3⟩;exact⟨t,B,C,x,z,y,lc,m',n',s,rfl,aj.mono (λg f h=>by rcases h with h|h;exact .inl h;exact .inr (by omega)) _ _ g1,g2,g3,bL h g3⟩
 have HP:Hid (∀(d:World) (Y:Tm) (L:Option Addr) (H N:Nat) (M:Option Addr) (P R:Nat) (ma na:Int) (sa:ByteArray) (Z:Tm) (Q:Option Addr) (T V:Nat) (U:Option Addr) (K O:Nat) (mb nb:Int) (sb:ByteArray),Below a.heap.size a d->aj d (λg=>A g\/a.heap.size<g) Y (TC Y.kind L H N M P R ma na sa)->aj d (λg=>A g\/a.heap.size<g) Z (TC Z.kind Q T V U K O mb nb sb)->Gd (aX p.L (back c)) (bZ p.z) (p.z*p.tl) Y->Gd (dB p.L (max (m-1) 0) F) (p.z+1) (p.tl+12) Z ->
   Calls prog 38 #[.agg #[.int .i64 Y.kind,.slice L H N,.slice M P R,.int .i64 ma,.int .i64 na,.string sa],.agg #[.int .i64 Z.kind,.slice Q T V,.slice U K O,.int .i64 mb,.int .i64 nb,.string sb]] d λe w6=>∃t B C x z y lc mm nn s,e=.returned (.agg #[.int .i64 (Tm.kind t),.slice B C x,.slice z y lc,.int .i64 mm,.int .i64 nn,.string s])/\Hid (aj w6 (λg=>A g\/S+1<g) t (TC t.kind B C x z y lc mm nn s))/\Hid (Gd (aX (dB p.L m n) (back c)) (bZ (p.z+1)) ((p.z+1)*(p.tl+12)) t)/\Below a.heap.size a w6):=λd Y L H N M P R ma na sa Z Q T V U K O mb nb sb h u r k i=>by
  have z1:=k.z;have z2:=k.tl;have z3:=i.z;have z4:=i.tl;refine (nY Y d (λg=>(λg=>A g\/a.heap.size<g) g/\g<d.heap.size) Z _ _ _ _ _ _ _ _ _ _ _ _ _ _ _ _ _ _ (λg f=>f.2) (aj.mono (λg f h=>⟨h,f⟩) _ _ u) (aj.mono (λg f h=>⟨h,f⟩) _ _ r) k.ok i.ok (by omega)).mono ?_;rintro e w6 ⟨t,B,C,x,z,y,lc,m',n',s,rfl,g1,g2,g3⟩;have h9:=h.size;refine⟨t,B,C,x,z,y,lc,m',n',s,rfl,?_,⟨g2.ok,?_,?_,?_⟩,bL h g3⟩
  ·exact aj.mono (λg _ f=>by rcases f with⟨f|f,_⟩|f;exact .inl f;exact .inr (by omega);exact .inr (by omega)) _ _ g1
  ·rw[g2.lg,k.lg,i.lg,GJ hm0 (by omega),c4,hF]
  ·have:=g2.z;omega
  ·have:=g2.tl;omega
 have d3:Hid (ag a (S+1) TZ 58):=by rw[<-l];exact c0
 have c8:Hid (Below S w a):=by rw[<-l];exact q
 have d5:=aa c2;have HA:Hid (∀g,A g->g<S):=by rw[<-l];exact hA
 have d2:Hid (a.heap.size=S+2):=by rw[<-l];exact c6
 have HN:=aa hn;have f7:(0:Int)<=m:=hm0;clear hrow hp pk c2 q D c0 hA ip hz hz2 d9 d7 hpl c6 hn e4 c4 c3 hF a7;rw[l]at a0 c1 b6 e8 a3 hbl;go_enter func30,ntmps30;go_upto_region 1 with fail;rw[d5.out]
 try simp only[l]
 go_upto_if 40 with fail
 go_cut [6]from 39 to 42 (λv wx=>v=.int .i64 F/\a=wx)
 case first=>
  rcases e7.out with⟨rfl,rfl⟩|⟨n1,hF⟩
  ·go_wp2_with fail
   go_meet
   exact⟨rfl,rfl⟩
  ·have n5:n<=5:=by have:=HN.out;omega
   go_wp2_with fail
   go_meet
   exact⟨by rw[hF],rfl⟩
 case rest=>
 obtain⟨rfl,rfl⟩:=hcut;have c5:S+1≠S:=by omega
 have d4:S+1≠b:=by omega
 have e3:=aa (o a.drew (jw a));have e9:=aa (HL a.drew (jw a));have d8:=aa (HT a.drew (jw a));go_wp2_with fail
 go_region_held3 (λd=>d.cell? ⟨S,2,none⟩=some (.slice (some ⟨b,off,none⟩) 1 lc)/\d.cell? ⟨S,3,none⟩=some (.int .i64 m)/\CT d b off p.kind sox snx scx lox lnx lcx mx nx sx)
  (first|with_reducible exact e3.out|with_reducible exact o.out _ a9.out|with_reducible exact o.out _ b4.out|with_reducible exact o.out _ a5.out|with_reducible exact o.out _ E.out|with_reducible exact⟨JK c5 (o.out _ E.out).1,JK c5 (o.out _ E.out).2.1,CT.far d4 (o.out _ E.out).2.2⟩|fail)
  (first
   |(go_at_call 30;with_reducible refine (HL.out _ b4.out).mono ?_;rintro e wz ⟨Y,L,H,N,M,P,R,ma,na,sa,rfl,u,k,a1,I⟩;have a2:=aa u;have b1:=aa (aj.below a1 _ _ e5);have b5:=aa k;have a5:=aa I;clear u k a1 I)
   |(go_at_call 36;with_reducible refine (HT.out _ a9.out).mono ?_;rintro e wz ⟨Z,Q,T,V,U,K,O,mb,nb,sb,rfl,r,i,X,J⟩;have b1:=aa r;have c9:=aa (aj.below X _ _ a2);have b2:=aa i;have a5:=aa J;clear r i X J)
   |(go_at_call 30;with_reducible refine e9.out.mono ?_;rintro e wa ⟨Y,L,H,N,M,P,R,ma,na,sa,rfl,u,k,a1,I⟩;have a2:=aa u;have b5:=aa k;have a9:=aa I;clear u k a1 I)
   |(go_at_call 36;with_reducible refine d8.out.mono ?_;rintro e wb ⟨Z,Q,T,V,U,K,O,mb,nb,sb,rfl,r,i,X,J⟩;have e5:=aa r;have b2:=aa i;have b4:=aa J;clear r i X J)
   |(go_at_call 38;with_reducible refine (HP.out _ Y _ _ _ _ _ _ _ _ _ Z _ _ _ _ _ _ _ _ _ a5.out (by first|with_reducible exact c9.out|with_reducible exact a2.out) b1.out b5.out b2.out).mono ?_;rintro e w6 ⟨t6,a6,b9,a8,b3,b8,b7,m6,n6,s6,rfl,d1,c7,b0⟩;have E:=aa b0;have a4:=d3.below E;obtain⟨r0,r1,r2,r3,r4,r5⟩:=a4.six;obtain⟨f0,f1,f2,f3,f4,f5,f6⟩:=a4.ice;clear b0 a4)
   |fail)
 all_goals go_wp2_with fail
 all_goals refine zN (v:=.agg #[.int .i64 (Tm.kind t6),.slice a6 b9 a8,.slice b3 b8 b7,.int .i64 m6,.int .i64 n6,.string s6]) (by simp[results,results30,go_sem,r0,r1,r2,r3,r4,r5]) rfl ⟨t6,a6,b9,a8,b3,b8,b7,m6,n6,s6,rfl,?_,c7,?_⟩
 all_goals rw[l]
 all_goals first
  |exact bC (c8.trans (E.mono (by have:=d2.out;omega))) _ _ _ _ _ _
  |exact aj.mono (λg _ f=>by rcases f with f|f;exact .inl f;exact .inr (by omega)) _ _ (dP d1 (λg h=>by have:=HA.out g h;omega) _ _ _ _ _ _)
theorem eH.weak {P Q:Tm->Prop}(h:∀t,P t->Q t){e:Ending}(k:eH w A P e w'):eH w A Q e w':=by
 obtain⟨t,b,a,l,f,j,c,m,n,s,e,d,g,i⟩:=k;exact⟨t,b,a,l,f,j,c,m,n,s,e,d,h t g,i⟩
mutual
theorem lH:∀t:Tm,qF t
 |.none=>λw A C E B G I D m n s c _ _ _ _ _ _=>(Mh c).mono λe w' h=>h.weak λt H=>by subst H;exact⟨trivial,by rw[Tm.L_none];rfl,zA _,zA _⟩
 |.empty=>λw A C E B G I D m n s c _ _ _ _ _ _=>(If c).mono λe w' h=>h.weak λt H=>by subst H;exact⟨trivial,by rw[Tm.L_none,Tm.L_empty,Lj],zA _,zA _⟩
 |.set q=>by
  intro w A C E B G I D m n s c r k d i o g;obtain⟨b4,b3,M,e,N,_⟩:=k;simp only[Tm.kind,TC,zT,zm,zu,yc,yB,yK]at e;obtain⟨⟨rfl,rfl,rfl⟩,⟨rfl,rfl,rfl⟩,rfl,rfl,rfl⟩:=e;have O:=ri d;have e1:bZ (Tm.set q).z=1:=(congrArg bZ (show (Tm.set q).z=1 by simp[Tm.z])).trans Vt;have e2:(Tm.set q).z*(Tm.set q).tl=12+20*q.length:=by simp[Tm.z,Tm.tl]
  rw[e1,e2];cases hm:memB q c with
  |true=>
   refine (Dv c N.rd (by omega) hm).mono λe w' h=>h.weak λt H=>?_;subst H;exact⟨trivial,by rw[EP d i,hm,Tm.L_empty];rfl,zA _,by show 12<=_;omega⟩
  |false=>
   refine (Bz c N.rd (by omega) hm).mono λe w' h=>h.weak λt H=>?_;subst H;exact⟨trivial,by rw[EP d i,hm,Tm.L_none];rfl,zA _,by show 12<=_;omega⟩
 |.row a b=>by
  have ha:=lH a;have K:=lH b;intro w A C E B G I D m n s c r k d i o g;obtain⟨x,y,P,ys,M,e,f,hp,N,_⟩:=k;simp only[Tm.kind,TC,zT,zm,zu,yc,yB,yK]at e;obtain⟨⟨rfl,rfl,rfl⟩,⟨rfl,rfl,rfl⟩,rfl,rfl,rfl⟩:=e;obtain⟨a4,a3,Q,a7,a0,W,mx,nx,sx,rfl,_⟩:=hp.form;obtain⟨V,a6,Y,a1,R,U,my,ny,sy,rfl,_⟩:=N.form;obtain⟨b',F,rfl,b1,X,c0⟩:=f 0 _ rfl;have J:∀j v,(TC a.kind a4 a3 Q a7 a0 W mx nx sx++TC b.kind V a6 Y a1 R U my ny sy)[j]?=some v->w.cell? ⟨b',F+j,none⟩=some v:=λj v hj=>by
   obtain⟨b2,b0,e',_,_,a5⟩:=f j v hj;injection e' with e';injection e' with e1 e2;subst e1 e2;exact a5
  rw[Tm.L_row];exact OC c r ha K d.1 d.2 i o g X J hp N
 |.or l=>by
  have z:=tW l;intro w A C E B G I D m n s c r k d i o g;obtain⟨x,y,P,M,e,f,O,_⟩:=k;simp only[Tm.kind,TC,zT,zm,zu,yc,yB,yK]at e;obtain⟨⟨rfl,rfl,rfl⟩,⟨rfl,rfl,rfl⟩,rfl,rfl,rfl⟩:=e;exact Pe (.inl rfl) c r f O z d.1 d.2 i o g
 |.and l=>by
  have z:=tW l;intro w A C E B G I D m n s c r k d i o g;obtain⟨x,y,P,M,e,f,O,_⟩:=k;simp only[Tm.kind,TC,zT,zm,zu,yc,yB,yK]at e;obtain⟨⟨rfl,rfl,rfl⟩,⟨rfl,rfl,rfl⟩,rfl,rfl,rfl⟩:=e;exact Pe (.inr rfl) c r f O z d.1 d.2 i o g
 |.not u=>by
  have z:=lH u;intro w A C E B G I D m n s c r k d i o g;obtain⟨x,y,P,M,e,f,L,_⟩:=k;simp only[Tm.kind,TC,zT,zm,zu,yc,yB,yK]at e;obtain⟨⟨rfl,rfl,rfl⟩,⟨rfl,rfl,rfl⟩,rfl,rfl,rfl⟩:=e;obtain⟨Z,a2,a9,S,T,a8,m2,n2,s2,rfl,_⟩:=L.form;obtain⟨b,F,rfl,_,K,J⟩:=f.one;rw[Tm.L_not];exact Pu c r z d i o g K L J
 |.many u p q=>by
  have z:=lH u;intro w A C E B G I D m n s c r k d i o g;obtain⟨x,y,P,M,e,f,L,_⟩:=k;simp only[Tm.kind,TC,zT,zm,zu,yc,yB,yK]at e;obtain⟨⟨rfl,rfl,rfl⟩,⟨rfl,rfl,rfl⟩,rfl,rfl,rfl⟩:=e;obtain⟨Z,a2,a9,S,T,a8,m2,n2,s2,rfl,_⟩:=L.form;obtain⟨b,F,rfl,_,K,J⟩:=f.one;rw[Tm.L_many];obtain⟨o1,o2,o3,o4⟩:=d;rcases o4 with rfl|o4
  ·exact Ac c r z o1 i o2 o3 (.inl rfl) o g K J L
  ·exact Ac c r z o1 i o2 o3 (.inr o4) o g K J L
theorem tW:∀l:List Tm,∀t∈l,qF t
 | [],t,h=>by simp at h
 |u::l,t,h=>by
  have a:=lH u;have b:=tW l;rcases zO.1 h with rfl|h
  ·exact a
  ·exact b t h
end
