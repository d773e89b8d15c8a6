import Derived.Test.YtebnghmioamheaaGreatDoorM41
import Derived.Test.YtebnghmioamheaaGreatDoorM23
set_option maxHeartbeats 4000000
set_option maxRecDepth 100000
set_option linter.all false
namespace Go.Proofs.YtebnghmioamheaaGreatDoor
open Go.Shelf Go.RowKit Go.Lib Go.Sort Brm Tryz
variable {V w w' wr w5:World}{c ci:MC}{q b1 b2 lc a n:Nat}{r:Int}{s:LQ}{la:OA}{v:Value}{Y:NP}{l:List Nat}{α:Type}{A:Me}{f:Nat->Me}
def aq (A:Me):Nat:=(A.p+4)*(A.y-1)+2
def uI (i:Nat):Prop:=∀(w:World) (c:MC) (q:Nat) (r:Int) (k b:Nat),MkI w c q->i<c.T.length->aZ w->runeB r=true->w.cell? (aD (c.R i) 4)=some (Vf 143 #[ae k,ae b])->q+aq (sz c.T i)<=9000000000000000000->(aN (sz c.T i)).z<=3000000000000 ->
 Calls prog 143 #[Vi r,ae k,ae b] w (au w c (q+aq (sz c.T i)) (aX (lg c.T i) r) (aN (sz c.T i)))
abbrev cW (V w:World):Prop:=V.heap=w.heap/\V.os=w.os/\V.tape=w.tape/\V.output=w.output
theorem cW.below (h:cW V w):Bw w V:=⟨h.2.1,h.2.2.1,h.2.2.2,by rw[h.1];exact zA _,λk _=>by rw[h.1]⟩
theorem cW.cell {V w:World}(h:cW V w)(p:Addr):V.cell? p=w.cell? p:=zP (w:=w) (by rw[h.1])
theorem Gone.cellS {c':MC}(hV:cW V w)(hG:Gone V c w' c'){p:Addr}(hp:p.block<w.heap.size)(hn:¬c.S p.block):w'.cell? p=w.cell? p:=(hG.but.cell (p:=p) (by rw[hV.1];exact hp) hn).trans (hV.cell p)
theorem nR {i:Nat}(h:MkI w c q)(hi:i<c.T.length):∃k b,w.cell? (aD (c.R i) 4)=some (Vf 143 #[ae k,ae b])/\c.R i<w.heap.size/\¬c.S (c.R i):=by
 obtain⟨e,f⟩:∃e,c.T[i]?=some e:=⟨_,zB hi⟩;obtain⟨p,n,o,g,b,F,l,a,m,j,d,_⟩:=h.rest i e f;exact⟨g,b,ag.cell a 4,ag.lt a,d⟩
theorem Pz (hI:MkI w c q)(k1:ag w b1 [ae c.m] 95):Calls prog 63 #[Vi r,ae b1] w (au w c q eA aV):=by
 have e:w.cell? (aD b1 0)=some (ae c.m):=k1.cell 0;have d:=k1.lt;have f:w.cell? (aD c.m 1)=some (ae (c.R 0)):=hI.mb.cell 1;have a:=hI.mb.lt;have b:Hid (au w c q eA aV (.returned (ae (c.R 0))) w):=⟨c,0,rfl,hI,Gone.refl _ _,(zC.1 hI.t0).1,hI.none,by rw[hI.sz0];exact Me.refl _⟩;go_enter func63,ntmps63;go_wp2_with fail;go_ret;exact b
theorem Wg {L:Nat->Lg}:aX ((RE.set s).lang L) r=if memB s r=true then dZ else eA:=by
 funext u;show (∃c,r::u=[c]/\memB s c=true)=_
 by_cases h:memB s r=true
 ·rw[zX h];refine propext ⟨?_,?_⟩
  ·rintro⟨c,e,_⟩;injection e with e1 e2
  ·rintro rfl;exact⟨r,rfl,h⟩
 ·rw[zR h];refine propext ⟨?_,λh=>h.elim⟩;rintro⟨c,e,a⟩;injection e with e1 e2;subst e1;exact h a
theorem Wh (hI:MkI w c q)(hr:runeB r=true)(k1:ag w b1 [.slice la s.length lc] 24)(k2:ag w b2 [ae c.m] 95)(hs:Rd w la s)(hl:s.length<=1200000){L:Lg}(hL:L=if memB s r=true then dZ else eA):Calls prog 111 #[Vi r,ae b1,ae b2] w (au w c q L aV):=by
 have u:w.cell? (aD b1 0)=some (.slice la s.length lc):=k1.cell 0;have v:w.cell? (aD b2 0)=some (ae c.m):=k2.cell 0;have n:=k1.lt;have l:=k2.lt;have f:=aa (Kj lc r hs hl);rw[hr,Bool.true_and]at f;have o:Hid (∀a,Bw w a->a.cell? (aD b2 0)=some (ae c.m)/\a.cell? (aD c.m 1)=some (ae (c.R 0))/\a.cell? (aD c.m 2)=some (ae (c.R 1))/\b2<a.heap.size/\c.m<a.heap.size):=λa b=>⟨(k2.below b).cell 0,(hI.mb.below b).cell 1,(hI.mb.below b).cell 2,(k2.below b).lt,(hI.mb.below b).lt⟩;have h:Hid (memB s r=false->∀a,Bw w a->au w c q L aV (.returned (ae (c.R 0))) a):=λg a b=>⟨c,0,rfl,hI.below b,Gone.below b,(zC.1 hI.t0).1,by rw[hL,g];exact hI.none,by rw[hI.sz0];exact Me.refl _⟩;have j:Hid (memB s r=true->∀a,Bw w a->au w c q L aV (.returned (ae (c.R 1))) a):=λg a b=>⟨c,1,rfl,hI.below b,Gone.below b,(zC.1 hI.t1).1,by rw[hL,g];exact hI.emp,by rw[hI.sz1];exact Me.refl _⟩;generalize g:memB s r=m at *;go_enter func111,ntmps111;go_wp2_with fail;refine f.mono ?_;rintro e i ⟨rfl,d⟩;obtain⟨z,t,p,y,x⟩:=o.out i d;cases m with
 |true=>
  have k:=aa (j rfl i d);go_wp2_with fail;go_ret;exact k
 |false=>
  have k:=aa (h rfl i d);go_wp2_with fail;go_ret;exact k
theorem Wi (ih:uI a)(hI:MkI w c q)(ha:a<c.T.length)(hP:aZ w)(hr:runeB r=true)(n1:¬c.S b1)(n2:¬c.S b2)(k1:ag w b1 [ae c.m] 95)(k2:ag w b2 [ae (c.R a)] 103)(hq:q+aq (sz c.T a)+1<=9000000000000000000)(hz:(aN (sz c.T a)).z<=3000000000000):Calls prog 115 #[Vi r,ae b1,ae b2] w (au w c (q+aq (sz c.T a)+1) (fZ (aX (lg c.T a) r)) (bB (aN (sz c.T a)))):=by
 obtain⟨y,u,S,M,s⟩:=nR hI ha;have W:w.cell? (aD b1 0)=some (ae c.m):=k1.cell 0;have X:w.cell? (aD b2 0)=some (ae (c.R a)):=k2.cell 0;have x:=k1.lt;have t:=k2.lt;have B:Hid (∀V:World,cW V w->Calls prog 143 #[Vi r,ae y,ae u] V (au V c (q+aq (sz c.T a)) (aX (lg c.T a) r) (aN (sz c.T a)))):=λV d=>ih V c q r y u (hI.below d.below) ha (hP.below d.below) hr ((d.cell _).trans S) (by omega) hz;have C:Hid (∀(V k:World) (e:MC) (m:Nat),cW V w->MkI k e (q+aq (sz c.T a))->Gone V c k e->m<e.T.length->lg e.T m=aX (lg c.T a) r->sz e.T m<=aN (sz c.T a) ->
   Calls prog 73 #[ae c.m,ae (e.R m)] k (λA v=>au w c (q+aq (sz c.T a)+1) (fZ (aX (lg c.T a) r)) (bB (aN (sz c.T a))) A v/\∃z,Gone V c v z)):=λV k e m d h b j f g=>by
  have K:aZ k:=b.pow (hI.below d.below) (hP.below d.below);have Q:=oQ h (by omega) j K;rw[b.m]at Q;refine Q.mono ?_;rintro A v ⟨z,R,rfl,I,o,N,F,G⟩;exact⟨⟨z,R,rfl,I,(Gone.below d.below).trans (b.trans o),N,by rw[F,f],Me.trans G (mt g)⟩,z,b.trans o⟩
 have l:Hid (∀(V i:World) (P:MC),cW V w->Gone V c i P->i.cell? (aD b1 0)=some (ae c.m)/\i.cell? (aD b2 0)=some (ae (c.R a))/\i.cell? (aD (c.R a) 4)=some (Vf 143 #[ae y,ae u])):=λV i P d E=>
  ⟨(E.cellS d (p:=(aD b1 0)) x n1).trans W,(E.cellS d (p:=(aD b2 0)) t n2).trans X,(E.cellS d (p:=(aD (c.R a) 4)) M s).trans S⟩
 have H:Hid (∀V:World,cW V w->V.cell? (aD b1 0)=some (ae c.m)/\V.cell? (aD b2 0)=some (ae (c.R a))/\V.cell? (aD (c.R a) 4)=some (Vf 143 #[ae y,ae u])):=λV d=>l V V c d (Gone.refl _ _);go_enter func115,ntmps115;go_wp2_with fail
 go_region_held3 (λi=>i.cell? (aD b1 0)=some (ae c.m)/\i.cell? (aD b2 0)=some (ae (c.R a))/\i.cell? (aD (c.R a) 4)=some (Vf 143 #[ae y,ae u]))
  (first|exact H _ ⟨rfl,rfl,rfl,rfl⟩|exact D|exact J)
  (first
   |(go_at_call 73;refine L.mono ?_;rintro A v ⟨O,Y,n⟩;have U:=aa O;have J:=l.out (w.drewN _) v Y ⟨rfl,rfl,rfl,rfl⟩ n;obtain⟨z,R,rfl,T⟩:=O)
   |(go_at_call 143;refine (B (w.drewN _) ⟨rfl,rfl,rfl,rfl⟩).mono ?_;rintro A k ⟨e,m,rfl,h,b,j,f,g⟩;have D:=l.out (w.drewN _) k e ⟨rfl,rfl,rfl,rfl⟩ b;have L:=aa (C (w.drewN _) k e m ⟨rfl,rfl,rfl,rfl⟩ h b j f g)))
 all_goals (go_wp2_with fail;go_ret;exact U)
set_option maxHeartbeats 8000000
theorem lq {W:World}{p:Addr}(o:Obj)(h:W.cell? p=some v):(W.alloc o).cell? p=some v:=by
 have b:p.block<W.heap.size:=by
  rcases Nat.lt_or_ge p.block W.heap.size with a|a
  ·exact a
  ·simp[World.cell?,xI a]at h
 rw[<-h];exact zP (w:=W) (zS _ _ _ b)
theorem OD (W:World)(S:NP)(R:Nat->Nat)(x y:Nat)(hS:¬S W.heap.size):dQ (W.alloc (.cells #[ae (R x),ae (R y)] 103)) S R (some (aD W.heap.size 0)) [x,y]:=by
 have b:=ag.new W [ae (R x),ae (R y)] 103;intro j p a
 match j,a with
 |0,a=>simp at a;subst a;exact⟨_,0,rfl,b.lt,hS,b.cell 0⟩
 |1,a=>simp at a;subst a;exact⟨_,0,rfl,b.lt,hS,b.cell 1⟩
theorem VC (f:Nat->Me)(x y:Nat):orM f [x,y]=⟨max 1 (max (f x).n (f y).n),max 1 (max (f x).p (f y).p),max 1 ((f x).y+(f y).y),max 1 ((f x).z+(f y).z)⟩:=by
 simp only[orM,dA,aG,Me.mk.injEq];refine⟨?_,?_,?_,?_⟩<;>omega
theorem RU {b b3:Nat}(iha:uI a)(ihb:uI b)(hI:MkI w c q)(ha:a<c.T.length)(hb:b<c.T.length)(hP:aZ w)(hr:runeB r=true)(n1:¬c.S b1)(n2:¬c.S b2)(n3:¬c.S b3)(k1:ag w b1 [ae c.m] 95)(k2:ag w b2 [ae (c.R a)] 103)(k3:ag w b3 [ae (c.R b)] 103)(hq:q+aq (sz c.T a)+(sz c.T a).p+aq (sz c.T b)+1<=9000000000000000000)(hz:(aN (bf (sz c.T a) (sz c.T b))).z<=3000000000000):Calls prog 159 #[Vi r,ae b1,ae b2,ae b3] w (au w c (q+aq (sz c.T a)+(sz c.T a).p+aq (sz c.T b)+1) (aX (aJ (lg c.T a) (lg c.T b)) r) (aN (bf (sz c.T a) (sz c.T b)))):=by
 obtain⟨Q,R,y4,a2,a3⟩:=nR hI ha;obtain⟨L,U,y5,c0,c1⟩:=nR hI hb;obtain⟨ea,a8⟩:∃e,c.T[a]?=some e:=⟨_,zB ha⟩;obtain⟨f7,f3,m,f8,a5,B,_⟩:=hI.look a8;have y6:w.cell? (aD (c.R a) 3)=some (.bool m):=ag.cell a5 3;have y1:w.cell? (aD b1 0)=some (ae c.m):=k1.cell 0;have y2:w.cell? (aD b2 0)=some (ae (c.R a)):=k2.cell 0;have y3:w.cell? (aD b3 0)=some (ae (c.R b)):=k3.cell 0;have a4:=k1.lt;have b5:=k2.lt;have c3:=k3.lt;have oa:=hI.sz_one ha;have ob:=hI.sz_one hb;have d5:(aN (sz c.T a)).z+(sz c.T b).z+(aN (sz c.T b)).z<=3000000000000:=by
  have t2:=lJ (sz c.T a).z (sz c.T b).z;have m2:(sz c.T b).z<=(sz c.T a).z*(sz c.T b).z:=Nat.le_mul_of_pos_left _ oa.2.2.2;simp only[aN,bf]at hz ⊢;omega
 have d7:Hid (∀V:World,cW V w->Calls prog 143 #[Vi r,ae Q,ae R] V (au V c (q+aq (sz c.T a)) (aX (lg c.T a) r) (aN (sz c.T a)))):=λV i=>iha V c q r Q R (hI.below i.below) ha (hP.below i.below) hr ((i.cell _).trans y4) (by omega) (by omega);have e7:Hid (∀(V M:World) (F:MC) (O:Nat),cW V w->MkI M F (q+aq (sz c.T a))->Gone V c M F->O<F.T.length->lg F.T O=aX (lg c.T a) r->sz F.T O<=aN (sz c.T a) ->
   Calls prog 114 #[ae c.m,ae (F.R O),ae (c.R b)] M (λE l=>au w c (q+aq (sz c.T a)+(sz c.T a).p) (aJ (aX (lg c.T a) r) (lg c.T b)) (bf (aN (sz c.T a)) (sz c.T b)) E l/\∃k,Gone V c l k)):=λV M F O i N j T Z I=>by
  have e0:aZ M:=j.pow (hI.below i.below) (hP.below i.below);have f4:(sz F.T O).n<=(sz c.T a).p:=I.1;have f1:=j.len;have hc:=wU O M F (q+aq (sz c.T a)) b N T (by omega) e0 (by omega);rw[j.m,j.R b hb,j.sz hb,j.lang hb]at hc;refine hc.mono ?_;rintro E l ⟨k,z,rfl,v,g,o,C,y⟩;exact⟨⟨k,z,rfl,v.more (by omega),(Gone.below i.below).trans (j.trans g),o,by rw[C,Z],Me.trans y (kP I (Me.refl _))⟩,k,j.trans g⟩
 have W:Hid (∀(V d:World) (c':MC),cW V w->Gone V c d c'->d.cell? (aD b1 0)=some (ae c.m)/\d.cell? (aD b2 0)=some (ae (c.R a))/\d.cell? (aD b3 0)=some (ae (c.R b))/\d.cell? (aD (c.R a) 4)=some (Vf 143 #[ae Q,ae R])/\d.cell? (aD (c.R a) 3)=some (.bool m)/\d.cell? (aD (c.R b) 4)=some (Vf 143 #[ae L,ae U])):=λV d c' i hG=>
  ⟨(hG.cellS i (p:=(aD b1 0)) a4 n1).trans y1,(hG.cellS i (p:=(aD b2 0)) b5 n2).trans y2,(hG.cellS i (p:=(aD b3 0)) c3 n3).trans y3,(hG.cellS i (p:=(aD (c.R a) 4)) a2 a3).trans y4,(hG.cellS i (p:=(aD (c.R a) 3)) a2 a3).trans y6,(hG.cellS i (p:=(aD (c.R b) 4)) c0 c1).trans y5⟩
 have e5:Hid (∀V:World,cW V w->V.cell? (aD b1 0)=some (ae c.m)/\V.cell? (aD b2 0)=some (ae (c.R a))/\V.cell? (aD b3 0)=some (ae (c.R b))/\V.cell? (aD (c.R a) 4)=some (Vf 143 #[ae Q,ae R])/\V.cell? (aD (c.R a) 3)=some (.bool m)/\V.cell? (aD (c.R b) 4)=some (Vf 143 #[ae L,ae U])):=λV i=>W V V c i (Gone.refl _ _);have f0:=aa B;have b8:Hid (∀E w9,m=false->au w c (q+aq (sz c.T a)+(sz c.T a).p) (aJ (aX (lg c.T a) r) (lg c.T b)) (bf (aN (sz c.T a)) (sz c.T b)) E w9->au w c (q+aq (sz c.T a)+(sz c.T a).p+aq (sz c.T b)+1) (aX (aJ (lg c.T a) (lg c.T b)) r) (aN (bf (sz c.T a) (sz c.T b))) E w9):=λE w9 he h=>by
  obtain⟨c9,j9,h1,h2,h3,h4,h5,h6⟩:=h;refine⟨c9,j9,h1,h2.more (by omega),h3,h4,?_,?_⟩
  ·rw[h5,rK,zR (λh=>by have:=B.2 h;rw[he]at this;cases this)]
  ·refine Me.trans h6 ?_;have:=CY oa ob (X:=bf (aN (sz c.T a)) (sz c.T b)) (Y:=⟨0,0,0,0⟩) (Me.refl _) ⟨zW _,zW _,zW _,zW _⟩;refine Me.trans ⟨?_,?_,?_,?_⟩ this<;>simp only<;>omega
 have a6:Hid (∀(l:World) (k:MC) (z:Nat),m=true->MkI l k (q+aq (sz c.T a)+(sz c.T a).p)->Gone w c l k->z<k.T.length->lg k.T z=aJ (aX (lg c.T a) r) (lg c.T b)->sz k.T z<=bf (aN (sz c.T a)) (sz c.T b) ->
   (∀V:World,cW V l->Calls prog 143 #[Vi r,ae L,ae U] V (au V k (q+aq (sz c.T a)+(sz c.T a).p+aq (sz c.T b)) (aX (lg c.T b) r) (aN (sz c.T b)))) /\
   (∀(V D:World) (s:MC) (G:Nat),cW V l->MkI D s (q+aq (sz c.T a)+(sz c.T a).p+aq (sz c.T b))->Gone V k D s->G<s.T.length->lg s.T G=aX (lg c.T b) r->sz s.T G<=aN (sz c.T b) ->
    Calls prog 61 #[ae c.m,Vs D.heap.size 2 2] (D.alloc (.cells #[ae (k.R z),ae (s.R G)] 103)) (λE d=>au w c (q+aq (sz c.T a)+(sz c.T a).p+aq (sz c.T b)+1) (aX (aJ (lg c.T a) (lg c.T b)) r) (aN (bf (sz c.T a) (sz c.T b))) E d/\(d.cell? (aD b1 0)=some (ae c.m)/\d.cell? (aD b2 0)=some (ae (c.R a))/\d.cell? (aD b3 0)=some (ae (c.R b))/\d.cell? (aD (c.R a) 4)=some (Vf 143 #[ae Q,ae R])/\d.cell? (aD (c.R a) 3)=some (.bool m)/\d.cell? (aD (c.R b) 4)=some (Vf 143 #[ae L,ae U])))) /\
   (∀(V d:World) (c':MC),cW V l->Gone V k d c'->d.cell? (aD b1 0)=some (ae c.m)/\d.cell? (aD b2 0)=some (ae (c.R a))/\d.cell? (aD b3 0)=some (ae (c.R b))/\d.cell? (aD (c.R a) 4)=some (Vf 143 #[ae Q,ae R])/\d.cell? (aD (c.R a) 3)=some (.bool m)/\d.cell? (aD (c.R b) 4)=some (Vf 143 #[ae L,ae U]))):=λl k z he v g o C y=>by
  have b6:aZ l:=g.pow hI hP;have g0:=g.len;have t:∀(V d:World) (c':MC),cW V l->Gone V k d c'->d.cell? (aD b1 0)=some (ae c.m)/\d.cell? (aD b2 0)=some (ae (c.R a))/\d.cell? (aD b3 0)=some (ae (c.R b))/\d.cell? (aD (c.R a) 4)=some (Vf 143 #[ae Q,ae R])/\d.cell? (aD (c.R a) 3)=some (.bool m)/\d.cell? (aD (c.R b) 4)=some (Vf 143 #[ae L,ae U]):=λV d c' i hG=>W w d c' ⟨rfl,rfl,rfl,rfl⟩ (g.trans ((Gone.below i.below).trans hG));have d1:=(t l l k ⟨rfl,rfl,rfl,rfl⟩ (Gone.refl _ _)).2.2.2.2.2;refine⟨λV i=>?_,λV D s G i J f a0 P H=>?_,t⟩
  ·have:=ihb V k (q+aq (sz c.T a)+(sz c.T a).p) r L U (v.below i.below) (by omega) (b6.below i.below) hr (by rw[g.R b hb];exact (i.cell _).trans d1) (by rw[g.sz hb];omega) (by rw[g.sz hb];omega);rw[g.sz hb,g.lang hb]at this;exact this
  ·have d4:aZ D:=f.pow (v.below i.below) (b6.below i.below);have f5:=f.len;have K:Bw D (D.alloc (.cells #[ae (k.R z),ae (s.R G)] 103)):=(zE _ _).alloc (zA _) _;have f9:(sz s.T z).z<=(aN (sz c.T a)).z+(sz c.T b).z:=by rw[f.sz o];exact y.2.2.2
   have g1:(sz s.T G).z<=(aN (sz c.T b)).z:=H.2.2.2;have b0:=OD D s.S s.R z G (λh=>by have:=J.S_lt h;omega);rw[f.R z o]at b0;have hc:=AH (pc:=2) (J.below K) (d4.below K) (by omega) (ps:=[z,G]) (λx hx=>by simp at hx;rcases hx with rfl|rfl;omega;exact a0) b0 (by simp only[aG];omega);rw[f.m,g.m]at hc;refine hc.mono ?_;rintro E w8 ⟨c8,j8,rfl,d9,d2,d3,d0,e3⟩;have a9:Gone V k w8 c8:=f.trans ((Gone.below K).trans d2);refine⟨⟨c8,j8,rfl,d9,g.trans ((Gone.below i.below).trans a9),d3,?_,?_⟩,t V w8 c8 i a9⟩
   ·rw[d0,rK,zX (B.1 he)];funext u;simp only[zO,xD,or_false,exists_eq_or_imp,exists_eq_left,Yg];rw[f.lang o,C,P]
   ·refine Me.trans e3 ?_;rw[VC];exact CY oa ob (by rw[f.sz o];exact y) H
 go_enter func159,ntmps159;go_wp2_with fail
 go_region_held3 (λd=>d.cell? (aD b1 0)=some (ae c.m)/\d.cell? (aD b2 0)=some (ae (c.R a))/\d.cell? (aD b3 0)=some (ae (c.R b))/\d.cell? (aD (c.R a) 4)=some (Vf 143 #[ae Q,ae R])/\d.cell? (aD (c.R a) 3)=some (.bool m)/\d.cell? (aD (c.R b) 4)=some (Vf 143 #[ae L,ae U]))
  (first|exact e5 _ ⟨rfl,rfl,rfl,rfl⟩|exact e6|exact b7)
  (first
   |(go_at_call 114;refine e2.mono ?_;rintro E l ⟨h6,s,f⟩;have H6:=aa h6;have b7:=W.out (w.drewN _) l s ⟨rfl,rfl,rfl,rfl⟩ f;obtain⟨k,z,rfl,h7⟩:=h6;have H7:=aa h7)
   |(go_at_call 143;refine (d7 (w.drewN _) ⟨rfl,rfl,rfl,rfl⟩).mono ?_;rintro E M ⟨F,O,rfl,N,j,T,Z,I⟩;have e6:=W.out (w.drewN _) M F ⟨rfl,rfl,rfl,rfl⟩ j;have e2:=aa (e7 (w.drewN _) M F O ⟨rfl,rfl,rfl,rfl⟩ N j T Z I)))
 obtain⟨z1,z2,z3,z4,z5,z6⟩:=b7;have f6:=eU z2;have f2:=eU z5;cases m with
 |false=>
  have HE:=aa (b8 _ _ rfl H6);go_wp2_with fail;go_ret;exact HE
 |true=>
  obtain⟨v,g,o,C,y⟩:=H7.out;have e4:=aa o;obtain⟨b4,b9,c4⟩:=a6.out l k z rfl v g o C y;have d6:=aa b4;have e8:=aa b9;have c2:=aa c4;have a1:=λn=>c2 (l.drewN n) (l.drewN n) k ⟨rfl,rfl,rfl,rfl⟩ (Gone.refl _ _);have a7:=aa a1;go_wp2_with fail;refine yW (S:=λd:World=>d.cell? (aD b1 0)=some (ae c.m)/\d.cell? (aD b2 0)=some (ae (c.R a))/\d.cell? (aD b3 0)=some (ae (c.R b))/\d.cell? (aD (c.R a) 4)=some (Vf 143 #[ae Q,ae R])/\d.cell? (aD (c.R a) 3)=some (.bool true)/\d.cell? (aD (c.R b) 4)=some (Vf 143 #[ae L,ae U])) (by kernel_rfl) (a7 _) (λhHeld=>?_);refine tk 0 ?_;simp only[tS];refine tk 1 ?_;simp only[tS];refine tk 2 ?_;simp only[tS];refine tk 3 ?_;simp only[tS];refine tk 4 ?_;simp only[tS];refine tk 5 ?_;simp only[tS];refine tk 6 ?_;simp only[tS];refine di 7 (λKc hK=>?_);go_simp;refine (d6 (l.drewN _) ⟨rfl,rfl,rfl,rfl⟩).mono ?_;rintro E D ⟨s,G,rfl,J,f,a0,P,H⟩;have A:=c2.out (l.drewN _) D s ⟨rfl,rfl,rfl,rfl⟩ f;have d8:=aa (e8 (l.drewN _) D s G ⟨rfl,rfl,rfl,rfl⟩ J f a0 P H);have e9:=f.R z e4;go_wp2_with fail;refine hK _ _ A (λhHeld=>?_)
  try simp only[tS]
  refine di 8 (λKc hK=>?_);go_simp;refine hK _ _ ⟨(lq _ A.1),(lq _ A.2.1),(lq _ A.2.2.1),(lq _ A.2.2.2.1),(lq _ A.2.2.2.2.1),(lq _ A.2.2.2.2.2)⟩ (λhHeld=>?_)
  try simp only[tS]
  refine di 9 (λKc hK=>?_);go_simp;refine d8.mono ?_;rintro E w8 ⟨h8,e1⟩;have H8:=aa h8;obtain⟨c8,j8,rfl,h9⟩:=h8;go_wp2_with fail;refine hK _ _ e1 (λhHeld=>?_)
  try simp only[tS]
  refine tk 10 ?_;simp only[tS];refine yV (by kernel_rfl) ?_ _;go_wp2_with fail;go_ret;exact H8
theorem xt (t:Int)(W:World)(h0:-1<=t)(h9:t<=5):Calls prog 117 #[Vi t] W λe w'=>e=.returned (Vi (bA t))/\∃k,w'=W.drewN k:=by
 by_cases h:0<t
 ·have a:bA t=t-1:=zX h;rw[a];go_enter func117,ntmps117;go_wp2_with fail;go_ret;exact⟨rfl,0,rfl⟩
 ·have a:bA t=t:=zR h;rw[a];go_enter func117,ntmps117;go_wp2_with fail;go_ret;exact⟨rfl,0,rfl⟩
theorem QW {m n:Int}(hm0:0<=m)(hm5:m<=5)(hn:n=-1\/(0<n/\m<=n/\n<=5)):0<=bA m/\bA m<=5/\(bA n=-1\/(bA m<=bA n/\bA n<=5)):=by
 unfold bA
 split<;>split<;>omega
theorem QX {b3 b4:Nat}{m n:Int}(iha:uI a)(hI:MkI w c q)(ha:a<c.T.length)(hP:aZ w)(hr:runeB r=true)(hm0:0<=m)(hm5:m<=5)(hn:n=-1\/(0<n/\m<=n/\n<=5))(n1:¬c.S b1)(n2:¬c.S b2)(n3:¬c.S b3)(n4:¬c.S b4)(k1:ag w b1 [ae c.m] 95)(k2:ag w b2 [ae (c.R a)] 103)(k3:ag w b3 [Vi m] 3)(k4:ag w b4 [Vi n] 3)(hq:q+aq (sz c.T a)+1+(sz c.T a).p<=9000000000000000000)(hz:(aN (sz c.T a)).z<=3000000000000):Calls prog 116 #[Vi r,ae b1,ae b2,ae b3,ae b4] w (au w c (q+aq (sz c.T a)+1+(sz c.T a).p) (aJ (aX (lg c.T a) r) (dB (lg c.T a) (bA m) (bA n))) (bf (aN (sz c.T a)) (cZ (sz c.T a)))):=by
 obtain⟨E,F,X,U,S⟩:=nR hI ha;have y1:w.cell? (aD b1 0)=some (ae c.m):=k1.cell 0;have y2:w.cell? (aD b2 0)=some (ae (c.R a)):=k2.cell 0;have y3:w.cell? (aD b3 0)=some (Vi m):=k3.cell 0;have y4:w.cell? (aD b4 0)=some (Vi n):=k4.cell 0;have T:=k1.lt;have Q:=k2.lt;have W:=k3.lt;have R:=k4.lt;obtain⟨f0,f5,fn⟩:=QW hm0 hm5 hn;have N:∀(A:World) (c':MC),Gone w c A c'->A.cell? (aD b1 0)=some (ae c.m)/\A.cell? (aD b2 0)=some (ae (c.R a))/\A.cell? (aD b3 0)=some (Vi m)/\A.cell? (aD b4 0)=some (Vi n)/\A.cell? (aD (c.R a) 4)=some (Vf 143 #[ae E,ae F]):=λA c' t=>
  ⟨(t.cellS ⟨rfl,rfl,rfl,rfl⟩ (p:=(aD b1 0)) T n1).trans y1,(t.cellS ⟨rfl,rfl,rfl,rfl⟩ (p:=(aD b2 0)) Q n2).trans y2,(t.cellS ⟨rfl,rfl,rfl,rfl⟩ (p:=(aD b3 0)) W n3).trans y3,(t.cellS ⟨rfl,rfl,rfl,rfl⟩ (p:=(aD b4 0)) R n4).trans y4,(t.cellS ⟨rfl,rfl,rfl,rfl⟩ (p:=(aD (c.R a) 4)) U S).trans X⟩
 have a8:Hid (∀V:World,cW V w->V.cell? (aD b1 0)=some (ae c.m)/\V.cell? (aD b2 0)=some (ae (c.R a))/\V.cell? (aD b3 0)=some (Vi m)/\V.cell? (aD b4 0)=some (Vi n)/\V.cell? (aD (c.R a) 4)=some (Vf 143 #[ae E,ae F])):=λV l=>N V c (Gone.below l.below);have c1:Hid (∀V:World,Calls prog 117 #[Vi m] V λe A=>e=.returned (Vi (bA m))/\∃k,A=V.drewN k):=λV=>xt m V (by omega) (by omega);have a0:Hid (∀V:World,Calls prog 117 #[Vi n] V λe A=>e=.returned (Vi (bA n))/\∃k,A=V.drewN k):=λV=>xt n V (by omega) (by omega);have a3:Hid (∀V:World,cW V w->Calls prog 143 #[Vi r,ae E,ae F] V (λo g=>∃x,o=.returned (ae x)/\Hid (au w c (q+aq (sz c.T a)) (aX (lg c.T a) r) (aN (sz c.T a)) (.returned (ae x)) g)/\(g.cell? (aD b1 0)=some (ae c.m)/\g.cell? (aD b2 0)=some (ae (c.R a))/\g.cell? (aD b3 0)=some (Vi m)/\g.cell? (aD b4 0)=some (Vi n)/\g.cell? (aD (c.R a) 4)=some (Vf 143 #[ae E,ae F])))):=λV l=>by
  refine (iha V c q r E F (hI.below l.below) ha (hP.below l.below) hr ((l.cell _).trans X) (by omega) (by omega)).mono ?_;rintro o g ⟨B,i,rfl,C,d,j,v,s⟩;have t:Gone w c g B:=(Gone.below l.below).trans d;exact⟨_,rfl,⟨B,i,rfl,C,t,j,v,s⟩,N g B t⟩
 have a2:Hid (∀(V g:World) (x:Nat),au w c (q+aq (sz c.T a)) (aX (lg c.T a) r) (aN (sz c.T a)) (.returned (ae x)) g->cW V g->Calls prog 74 #[ae c.m,ae (c.R a),Vi (bA m),Vi (bA n)] V (λo h=>∃y,o=.returned (ae y)/\Hid (∃b i u,x=b.R i/\y=b.R u/\MkI h b (q+aq (sz c.T a)+1)/\Gone w c h b/\i<b.T.length/\u<b.T.length/\lg b.T i=(aX (lg c.T a) r)/\sz b.T i<=(aN (sz c.T a))/\lg b.T u=(dB (lg c.T a) (bA m) (bA n))/\sz b.T u<=(cZ (sz c.T a)))/\(h.cell? (aD b1 0)=some (ae c.m)/\h.cell? (aD b2 0)=some (ae (c.R a))/\h.cell? (aD b3 0)=some (Vi m)/\h.cell? (aD b4 0)=some (Vi n)/\h.cell? (aD (c.R a) 4)=some (Vf 143 #[ae E,ae F])))):=λV g x hS l=>by
  obtain⟨B,i,e5,C,d,j,v,s⟩:=hS;have e6:x=B.R i:=by injection e5 with e;injection e with e;injection e with e;injection e
  have b8:=d.len;have I:=C.below l.below;have G:aZ V:=(d.pow hI hP).below l.below;have O:=rt I (by omega) (show a<B.T.length by omega) G f0 f5 fn;rw[d.m,d.R a ha,d.sz ha,d.lang ha]at O;refine O.mono ?_;rintro o h ⟨b,u,rfl,J,D,L,H,K⟩;have f:Gone g B h b:=(Gone.below l.below).trans D;have t:Gone w c h b:=d.trans f;have a4:=f.len;exact⟨_,rfl,⟨b,i,u,by rw[f.R i j];exact e6,rfl,J,t,by omega,L,by rw[f.lang j];exact v,by rw[f.sz j];exact s,H,K⟩,N h b t⟩
 have b0:Hid (∀V:World,cW V w->Calls prog 74 #[ae c.m,ae (c.R a),Vi (bA m),Vi (bA n)] V (λo g=>∃y,o=.returned (ae y)/\Hid (au w c (q+1) (dB (lg c.T a) (bA m) (bA n)) (cZ (sz c.T a)) (.returned (ae y)) g)/\(g.cell? (aD b1 0)=some (ae c.m)/\g.cell? (aD b2 0)=some (ae (c.R a))/\g.cell? (aD b3 0)=some (Vi m)/\g.cell? (aD b4 0)=some (Vi n)/\g.cell? (aD (c.R a) 4)=some (Vf 143 #[ae E,ae F])))):=λV l=>by
  refine (rt (hI.below l.below) (by omega) ha (hP.below l.below) f0 f5 fn).mono ?_;rintro o g ⟨B,i,rfl,C,d,j,v,s⟩;have t:Gone w c g B:=(Gone.below l.below).trans d;exact⟨_,rfl,⟨B,i,rfl,C,t,j,v,s⟩,N g B t⟩
 have a7:Hid (∀(V g:World) (y:Nat),au w c (q+1) (dB (lg c.T a) (bA m) (bA n)) (cZ (sz c.T a)) (.returned (ae y)) g->cW V g->Calls prog 143 #[Vi r,ae E,ae F] V (λo h=>∃x,o=.returned (ae x)/\Hid (∃b i u,x=b.R i/\y=b.R u/\MkI h b (q+aq (sz c.T a)+1)/\Gone w c h b/\i<b.T.length/\u<b.T.length/\lg b.T i=(aX (lg c.T a) r)/\sz b.T i<=(aN (sz c.T a))/\lg b.T u=(dB (lg c.T a) (bA m) (bA n))/\sz b.T u<=(cZ (sz c.T a)))/\(h.cell? (aD b1 0)=some (ae c.m)/\h.cell? (aD b2 0)=some (ae (c.R a))/\h.cell? (aD b3 0)=some (Vi m)/\h.cell? (aD b4 0)=some (Vi n)/\h.cell? (aD (c.R a) 4)=some (Vf 143 #[ae E,ae F])))):=λV g y hS l=>by
  obtain⟨B,i,e5,C,d,j,v,s⟩:=hS;have e6:y=B.R i:=by injection e5 with e;injection e with e;injection e with e;injection e
  have b8:=d.len;have I:=C.below l.below;have G:aZ V:=(d.pow hI hP).below l.below;have a5:=(N g B d).2.2.2.2;have O:=iha V B (q+1) r E F I (by omega) G hr (by rw[d.R a ha];exact (l.cell _).trans a5) (by rw[d.sz ha];omega) (by rw[d.sz ha];omega);rw[d.sz ha,d.lang ha]at O;refine O.mono ?_;rintro o h ⟨b,u,rfl,J,D,L,H,K⟩;have f:Gone g B h b:=(Gone.below l.below).trans D;have t:Gone w c h b:=d.trans f;have a4:=f.len;exact⟨_,rfl,⟨b,u,i,rfl,by rw[f.R i j];exact e6,J.more (by omega),t,L,by omega,H,K,by rw[f.lang j];exact v,by rw[f.sz j];exact s⟩,N h b t⟩
 have a6:Hid (∀(V h:World) (x y:Nat),(∃b i u,x=b.R i/\y=b.R u/\MkI h b (q+aq (sz c.T a)+1)/\Gone w c h b/\i<b.T.length/\u<b.T.length/\lg b.T i=(aX (lg c.T a) r)/\sz b.T i<=(aN (sz c.T a))/\lg b.T u=(dB (lg c.T a) (bA m) (bA n))/\sz b.T u<=(cZ (sz c.T a)))->cW V h->Calls prog 114 #[ae c.m,ae x,ae y] V (λo M=>∃z,o=.returned (ae z)/\Hid (au w c (q+aq (sz c.T a)+1+(sz c.T a).p) (aJ (aX (lg c.T a) r) (dB (lg c.T a) (bA m) (bA n))) (bf (aN (sz c.T a)) (cZ (sz c.T a))) o M)/\(M.cell? (aD b1 0)=some (ae c.m)/\M.cell? (aD b2 0)=some (ae (c.R a))/\M.cell? (aD b3 0)=some (Vi m)/\M.cell? (aD b4 0)=some (Vi n)/\M.cell? (aD (c.R a) 4)=some (Vf 143 #[ae E,ae F])))):=λV h x y hS l=>by
  obtain⟨b,i,u,rfl,rfl,J,D,j,L,v,s,H,K⟩:=hS;have I:=J.below l.below;have G:aZ V:=(D.pow hI hP).below l.below;have c3:(sz b.T i).n<=(sz c.T a).p:=s.1;have O:=wU i V b (q+aq (sz c.T a)+1) u I j L G (by omega);rw[D.m]at O;refine O.mono ?_;rintro o M ⟨c7,j7,rfl,c0,b7,a1,a9,b9⟩;have t:Gone w c M c7:=D.trans ((Gone.below l.below).trans b7);exact⟨_,rfl,⟨c7,j7,rfl,c0.more (by omega),t,a1,by rw[a9,v,H],Me.trans b9 (kP s K)⟩,N M c7 t⟩
 go_enter func116,ntmps116;go_wp2_with fail
 go_region_held3 (λA=>A.cell? (aD b1 0)=some (ae c.m)/\A.cell? (aD b2 0)=some (ae (c.R a))/\A.cell? (aD b3 0)=some (Vi m)/\A.cell? (aD b4 0)=some (Vi n)/\A.cell? (aD (c.R a) 4)=some (Vf 143 #[ae E,ae F]))
  (first|exact a8 _ ⟨rfl,rfl,rfl,rfl⟩|exact b5|exact Y|exact Z)
  (first
   |(go_at_call 114;refine (a6 _ h _ _ P (by exact⟨rfl,rfl,rfl,rfl⟩)).mono ?_;rintro o M ⟨z7,rfl,H7,b5⟩)
   |(go_at_call 117;refine (c1 _).mono ?_;rintro o w4 ⟨rfl,k4,rfl⟩)
   |(go_at_call 117;refine (a0 _).mono ?_;rintro o w4 ⟨rfl,k4,rfl⟩)
   |(go_at_call 74;refine (a2 _ g _ c2 (by exact⟨rfl,rfl,rfl,rfl⟩)).mono ?_;rintro o h ⟨y6,rfl,P,Y⟩)
   |(go_at_call 74;refine (b0 _ (by exact⟨rfl,rfl,rfl,rfl⟩)).mono ?_;rintro o g ⟨X,rfl,b6,Z⟩)
   |(go_at_call 143;refine (a7 _ g _ b6 (by exact⟨rfl,rfl,rfl,rfl⟩)).mono ?_;rintro o h ⟨y6,rfl,P,Y⟩)
   |(go_at_call 143;refine (a3 _ (by exact⟨rfl,rfl,rfl,rfl⟩)).mono ?_;rintro o g ⟨X,rfl,c2,Z⟩))
 all_goals (go_wp2_with fail;go_ret;exact H7)
def MC.wY (c:MC)(Y:Nat->Prop):MC:={ c with X:=λg=>c.X g\/Y g }
abbrev MC.wX (c:MC)(o:Option Nat):MC:=c.wY (λg=>some g=o)
theorem VG (c:MC):c.wX none=c:=by
 unfold MC.wX MC.wY;have:(λg=>c.X g\/some g=none)=c.X:=by funext g;simp
 rw[this]
structure HoldY (w:World)(c:MC)(wr:World)(ci:MC)(q:Nat)(Y:Nat->Prop):Prop where
 intro ::
 mk:MkI wr (ci.wY Y) q
 gone:Gone w c wr ci
abbrev dk (w:World)(c:MC)(wr:World)(ci:MC)(q:Nat)(o:Option Nat):Prop:=HoldY w c wr ci q (λg=>some g=o)
theorem dk.start (h:MkI w c q):dk w c w c q none:=⟨by have:=VG c;unfold MC.wX at this;rw[this];exact h,Gone.refl _ _⟩
theorem Gone.unY {c':MC}(h:Gone w (c.wY Y) w' c'):Gone w c w' { c' with X:=c.X } where
 m:=h.m
 bm:=h.bm
 T:=h.T
 R:=h.R
 KM:=h.KM
 newK:=h.newK
 but:=⟨h.but.os,h.but.tape,h.but.output,h.but.size,λg b d=>by
  by_cases a:Y g
  ·exact h.keepX g b (.inr a)
  ·exact h.but.block g b (by
    rintro (e|e|e)
    ·exact d (.inl e)
    ·exact d (.inr e)
    ·exact a e)⟩
 X:=rfl
 keepX:=λg b a=>h.keepX g b (.inl a)
theorem HoldY.call {q':Nat}{L:Lg}{Z:Me}{r:Ending}(h:HoldY w c wr ci q Y)(hg:au wr (ci.wY Y) q' L Z r w5):∃c5 j5,r=.returned (ae (c5.R j5))/\HoldY w c w5 c5 q' Y/\Gone wr ci w5 c5/\j5<c5.T.length/\lg c5.T j5=L/\sz c5.T j5<=Z/\∀g,Y g->w5.heap[g]?=wr.heap[g]?:=by
 obtain⟨c5,j5,rfl,d,a,j,f,i⟩:=hg;have b:=a.unY;refine⟨{ c5 with X:=ci.X },j5,rfl,⟨?_,h.gone.trans b⟩,b,j,f,i,λg hg=>a.keepX g (h.mk.xs g (.inr hg)).1 (.inr hg)⟩;have e:({ c5 with X:=ci.X }:MC).wY Y=c5:=by
  have:=a.X;cases c5;simp only[MC.wY,MC.mk.injEq,yB]at this ⊢;exact this.symm
 rw[e];exact d
theorem HoldY.below {w wr w':World}{c ci:MC}{q:Nat}{Y:NP}(h:HoldY w c wr ci q Y)(k:Bw wr w'):HoldY w c w' ci q Y:=⟨h.mk.below k,h.gone.trans (Gone.below k)⟩
theorem MkI.seven (h:MkI w c q):7<=w.heap.size:=by
 have a:=h.low c.bm (.inl (.inl rfl));have b:=h.Mp_lt (.inl rfl);omega
theorem HoldY.turn {w w5 w6:World}{c c5:MC}{q:Nat}{Y Y':NP}(h:HoldY w c w5 c5 q Y)(ho:∀g,Y g->w.heap.size<=g)(h7:7<=w.heap.size)(hs:w5.heap.size<=w6.heap.size)(hb:∀k,k<w5.heap.size->¬Y k->w6.heap[k]?=w5.heap[k]?)(hos:w6.os=w5.os)(ht:w6.tape=w5.tape)(hou:w6.output=w5.output)
  (hm:∀g,Y' g->(Y g\/w5.heap.size<=g)/\g<w6.heap.size):HoldY w c w6 c5 q Y':=by
 have j:=h.gone.but.size;refine⟨?_,?_⟩
 ·have:=h.mk.turn (w':=w6) (X':=λg=>c5.X g\/Y' g) hs (λg a i=>hb g a (λe=>i (.inr e))) (by
   rintro g (d|d)
   ·have:=h.mk.xs g (.inl d);exact⟨.inl (.inl d),by omega,h.mk.low g (.inr (.inl d))⟩
   ·obtain⟨b,l⟩:=hm g d;refine⟨?_,l,?_⟩
    ·rcases b with b|b
     ·exact .inl (.inr b)
     ·exact .inr b
    ·rcases b with b|b
     ·have:=ho g b;omega
     ·omega)
  exact this
 ·have a:=h.gone;exact {
   m:=a.m
   bm:=a.bm
   T:=a.T
   R:=a.R
   KM:=a.KM
   newK:=a.newK
   but:=⟨hos.trans a.but.os,ht.trans a.but.tape,hou.trans a.but.output,by omega,λg f i=>(hb g (by omega) (λe=>by have:=ho g e;omega)).trans (a.but.block g f i)⟩
   X:=a.X
   keepX:=λg f d=>(hb g (by omega) (λe=>by have:=ho g e;omega)).trans (a.keepX g f d) }
theorem dk.append {w6:World}{c5:MC}{e s m:Nat}{v':Value}{xs ys:LV}(ob:Obj)(h:dk w c w5 c5 q v.ownBlock)(h7:7<=w.heap.size)(hown:w5.ownsRow w.heap.size e s v n xs)(hown':w6.ownsRow w.heap.size e s v' m ys)(hg:(w5.alloc ob).grownBy w6 v.ownBlock)(hm:∀g,v'.ownBlock=some g->v.ownBlock=some g\/(w5.alloc ob).heap.size<=g):dk w c w6 c5 q v'.ownBlock:=by
 have d:(w5.alloc ob).heap.size=w5.heap.size+1:=by simp
 have i:=hg.size;refine HoldY.turn h (λg e=>(hown.lt g e.symm).1) h7 (by omega) (λk f a=>(hg.block k (by omega) a).trans (zS _ _ _ f)) hg.os hg.tape hg.output (λg e=>⟨?_,(hown'.lt g e.symm).2⟩);rcases hm g e.symm with b|b
 ·exact .inl b.symm
 ·exact .inr (by omega)
theorem wF {B e s:Nat}{xs:LV}(h:w.ownsRow B e s v n xs)(k:∀g,some g=v.ownBlock->w'.heap[g]?=w.heap[g]?):w'.ownsRow B e s v n xs:=by
 refine⟨h.1,?_⟩;rcases h.2 with c|⟨g,b,a,rfl,f,d,r⟩
 ·exact .inl c
 ·exact .inr ⟨g,b,a,rfl,f,(k g rfl).trans d,r⟩
theorem dk.done (hI:MkI w c q){q':Nat}(h:dk w c wr ci q' v.ownBlock)(hown:wr.ownsRow w.heap.size 103 1 v n (l.map λp=>ae (ci.R p))) :
  MkI wr ci q'/\Gone w c wr ci/\∃pa pc,v=.slice pa l.length pc/\dQ wr ci.S ci.R pa l:=by
 have b:=h.gone;have d:MkI wr ci q':=by
  have:=h.mk.turn (w':=wr) (X':=ci.X) (zA _) (λ_ _ _=>rfl) (λg a=>⟨.inl (.inl a),(h.mk.xs g (.inl a)).1,h.mk.low g (.inr (.inl a))⟩);exact this
 refine⟨d,b,?_⟩;have k:l.length=n:=by have:=hown.1;simpa using this
 rcases hown.2 with⟨rfl,rfl⟩|⟨g,f,m,rfl,o,s,r⟩
 ·have:l=[]:=zq.1 k;subst this;exact⟨none,0,rfl,λj p i=>by simp at i⟩
 ·refine⟨some (aD g 0),f,by rw[k],λj p i=>?_⟩;have a:=h.mk.xs g (.inr rfl);refine⟨g,0,rfl,a.1,?_,?_⟩
  ·rintro (e|e)
   ·exact a.2 e
   ·rw[b.X]at e;have:=(hI.xs g e).1;omega
  ·have:=hown.cells (g:=g) rfl j (ae (ci.R p)) (by rw[zg,i];rfl);rw[zl]at this;exact this
def aT {α β:Type}(P:α->β->Prop):List α->List β->Prop
 | [],[]=>True
 |a::l,b::m=>P a b/\aT P l m
 |_,_=>False
theorem aT.len {α β:Type}{P:α->β->Prop}:∀{l:List α} {m:List β},aT P l m->l.length=m.length
 | [],[],_=>rfl
 |_::_,_::_,h=>by rw[zG,zG,aT.len h.2]
 | [],_::_,h=>h.elim
 |_::_,[],h=>h.elim
theorem aT.snoc {α β:Type}{P:α->β->Prop}{a:α}{b:β}:∀{l:List α} {m:List β},aT P l m->P a b->aT P (l++[a]) (m++[b])
 | [],[],_,h=>⟨h,trivial⟩
 |_::_,_::_,h,k=>⟨h.1,aT.snoc h.2 k⟩
 | [],_::_,h,_=>h.elim
 |_::_,[],h,_=>h.elim
theorem aT.imp {α β:Type}{P Q:α->β->Prop}:∀{l:List α} {m:List β},aT P l m->(∀a b,a∈l->P a b->Q a b)->aT Q l m
 | [],[],_,_=>trivial
 |a::_,_::_,h,k=>⟨k _ _ (by simp) h.1,aT.imp h.2 (λx y c=>k x y (by simp[c]))⟩
 | [],_::_,h,_=>h.elim
 |_::_,[],h,_=>h.elim
theorem aT.left {α β:Type}{P:α->β->Prop}:∀{l:List α} {m:List β},aT P l m->∀a∈l,∃b∈m,P a b
 | [],[],_,a,c=>by simp at c
 |x::l,y::m,h,a,c=>by
  rcases zO.1 c with rfl|c
  ·exact⟨y,by simp,h.1⟩
  ·obtain⟨b,e,d⟩:=aT.left h.2 a c;exact⟨b,by simp[e],d⟩
 | [],_::_,h,_,_=>h.elim
 |_::_,[],h,_,_=>h.elim
theorem aT.right {α β:Type}{P:α->β->Prop}:∀{l:List α} {m:List β},aT P l m->∀b∈m,∃a∈l,P a b
 | [],[],_,a,c=>by simp at c
 |x::l,y::m,h,a,c=>by
  rcases zO.1 c with rfl|c
  ·exact⟨x,by simp,h.1⟩
  ·obtain⟨b,e,d⟩:=aT.right h.2 a c;exact⟨b,by simp[e],d⟩
 | [],_::_,h,_,_=>h.elim
 |_::_,[],h,_,_=>h.elim
theorem aT.sum {f g:Nat->Nat}:∀{l m:List Nat},aT (λa b=>f a<=g b) l m->aG f l<=aG g m
 | [],[],_=>zA _
 |a::l,b::m,h=>by unfold aG;have:=h.1;have:=aT.sum h.2;omega
 | [],_::_,h=>h.elim
 |_::_,[],h=>h.elim
theorem aT.max {f g:Nat->Nat}:∀{l m:List Nat},aT (λa b=>f a<=g b) l m->dA f l<=dA g m
 | [],[],_=>zA _
 |a::l,b::m,h=>by unfold dA;have:=h.1;have:=aT.max h.2;omega
 | [],_::_,h=>h.elim
 |_::_,[],h=>h.elim
theorem aT.orM {f g:Nat->Me}{l m:List Nat}(h:aT (λa b=>f a<=g b) l m):orM f l<=orM g m:=by
 have c:=aT.max (f:=λa=>(f a).n) (g:=λa=>(g a).n) (h.imp λa b _ k=>k.1);have i:=aT.max (f:=λa=>(f a).p) (g:=λa=>(g a).p) (h.imp λa b _ k=>k.2.1);have e:=aT.sum (f:=λa=>(f a).y) (g:=λa=>(g a).y) (h.imp λa b _ k=>k.2.2.1);have d:=aT.sum (f:=λa=>(f a).z) (g:=λa=>(g a).z) (h.imp λa b _ k=>k.2.2.2);refine⟨?_,?_,?_,?_⟩<;>simp only[Go.Proofs.YtebnghmioamheaaGreatDoor.orM]<;>omega
def js (F:α->Lg)(G:α->Me)(Q:Nat->Nat)(w:World)(c:MC)(l:List α)(j:Nat)(lv iv:Value)(wr:World):Prop:=∃(i:Nat) (ci:MC) (ds:List Nat),iv=Vi (i:Int)/\i<=l.length/\l.length-i<=j/\dk w c wr ci (Q i) lv.ownBlock/\(∀d∈ds,d<ci.T.length)/\aT (λd a=>lg ci.T d=F a/\sz ci.T d<=G a) ds (l.take i)/\wr.ownsRow w.heap.size 103 1 lv i (ds.map λp=>ae (ci.R p))
theorem js.start {α:Type}{F:α->Lg}{G:α->Me}{Q:Nat->Nat}{w:World}{c:MC}{l:List α}(hI:MkI w c (Q 0)){W:World}(hb:Bw w W):js F G Q w c l l.length (Vz) (Vi 0) W :=
 ⟨0,c,[],rfl,zW _,by omega,HoldY.below (dk.start hI) hb,λd a=>by simp at a,trivial,zZ _ _ _ _⟩
theorem js.call {α:Type}{F:α->Lg}{G:α->Me}{Q:Nat->Nat}{w:World}{c:MC}{l:List α}{i:Nat}{ci:MC}{ds:List Nat}{lv:Value}{wr:World}{a:α}{r:Ending}{w5:World}(h7:7<=w.heap.size)(hh:dk w c wr ci (Q i) lv.ownBlock)(hd:∀d∈ds,d<ci.T.length)(h2:aT (λd a=>lg ci.T d=F a/\sz ci.T d<=G a) ds (l.take i))(hown:wr.ownsRow w.heap.size 103 1 lv i (ds.map λp=>ae (ci.R p)))
  (ha:l[i]?=some a) (hg:au wr (ci.wX lv.ownBlock) (Q (i+1)) (F a) (G a) r w5):∃x,r=.returned (ae x)/\w5.ownsRow w.heap.size 103 1 lv i (ds.map λp=>ae (ci.R p))/\w.heap.size<=w5.heap.size/\But c.S w w5/\∀v' w6,w6.ownsRow w.heap.size 103 1 v' (i+1) ((ds.map λp=>ae (ci.R p))++[ae x])->(w5.alloc (.cells #[ae x] 103)).grownBy w6 lv.ownBlock->(∀g,v'.ownBlock=some g->lv.ownBlock=some g\/(w5.alloc (.cells #[ae x] 103)).heap.size<=g)->js F G Q w c l (l.length-(i+1)) v' (Vi ((i+1:Nat):Int)) w6:=by
 obtain⟨v,A,rfl,j,f,B,s,q,o⟩:=HoldY.call hh hg;have e:=wF hown o;have D:=f.len;have C:i<l.length:=(zC.1 ha).1;have m:(ds.map λp=>ae (ci.R p))=ds.map λp=>ae (v.R p):=List.map_congr_left λp y=>by rw[f.R p (hd p y)]
 refine⟨_,rfl,e,j.gone.but.size,j.gone.but,λv' w6 u n z=>?_⟩;refine⟨i+1,v,ds++[A],rfl,by omega,zA _,dk.append _ j h7 e u n z,?_,?_,?_⟩
 ·intro d t;rcases zM.1 t with h|h
  ·have:=hd d h;omega
  ·simp at h;omega
 ·rw[dU ha];refine aT.snoc (h2.imp λd b k h=>?_) ⟨s,q⟩;rw[f.lang (hd d k),f.sz (hd d k)];exact h
 ·rw[xH,<-m];exact u
theorem ue (w:World)(x:Nat):∀j u,[ae x][j]?=some u->(w.alloc (.cells #[ae x] 103)).cell? (((aD w.heap.size 0):Addr).add j)=some u:=Gv w x
theorem Yi {pc:Nat}{pa:OA}(ih:∀a∈l,uI a)(hI:MkI w c q)(hl:∀a∈l,a<c.T.length)(hP:aZ w)(hr:runeB r=true)(n2:¬c.S b2)(k1:ag w b1 [.slice pa l.length pc] 110)(k2:ag w b2 [ae c.m] 95)(hpa:dQ w c.S c.R pa l)(hq:q+aG (λa=>aq (sz c.T a)) l+1<=9000000000000000000)(hz:aG (λa=>(aN (sz c.T a)).z) l<=3000000000000):Calls prog 103 #[Vi r,ae b1,ae b2] w (au w c (q+aG (λa=>aq (sz c.T a)) l+1) (λu=>∃a∈l,aX (lg c.T a) r u) (orM (λa=>aN (sz c.T a)) l)):=by
 obtain⟨i0,hi,c2,a5,b5⟩:=zz ia;have y1:w.cell? (aD b1 0)=some (.slice pa l.length pc):=k1.cell 0;have y2:w.cell? (aD b2 0)=some (ae c.m):=k2.cell 0;have c4:=k1.lt;have Z:=k2.lt;have c5:l.length<=3000000000000:=zJ (oh (f:=λa=>(aN (sz c.T a)).z) (λa v=>by
  have R:=(hI.sz_one (hl a v)).2.2.2;have A:=qr (sz c.T a).z;simp only[aV]at R;simp only[aN];omega)) hz
 have a0:∀i a,l[i]?=some a->q+aG (λa=>aq (sz c.T a)) (l.take (i+1))=q+aG (λa=>aq (sz c.T a)) (l.take i)+aq (sz c.T a)/\aG (λa=>aq (sz c.T a)) (l.take (i+1))<=aG (λa=>aq (sz c.T a)) l:=λi a v=>by
  have R:aG (λa=>aq (sz c.T a)) l=aG (λa=>aq (sz c.T a)) (l.take (i+1))+aG (λa=>aq (sz c.T a)) (l.drop (i+1)):=by rw[<-fY,zj]
  rw[dU v,fY]at R ⊢;simp only[aG]at R ⊢;omega
 have a3:∀a∈l,(aN (sz c.T a)).z<=3000000000000:=λa v=>zJ (uT (f:=λa=>(aN (sz c.T a)).z) v) hz;have K:Hid (∀(wr:World) (lv:Value) (i:Nat) (m:MC) (y:List Nat) (a:Nat),l[i]?=some a->dk w c wr m (q+aG (λa=>aq (sz c.T a)) (l.take i)) lv.ownBlock->(∀d∈y,d<m.T.length)->aT (λd a=>lg m.T d=aX (lg c.T a) r/\sz m.T d<=aN (sz c.T a)) y (l.take i)->wr.ownsRow w.heap.size 103 1 lv i (y.map λp=>ae (m.R p)) ->
   ∃k b,wr.cell? (aD (c.R a) 4)=some (Vf 143 #[ae k,ae b])/\c.R a<wr.heap.size/\Calls prog 143 #[Vi r,ae k,ae b] wr (λT L=>∃x,T=.returned (ae x)/\L.ownsRow w.heap.size 103 1 lv i (y.map λp=>ae (m.R p))/\w.heap.size<=L.heap.size/\Hid (∀W U,U.ownsRow w.heap.size 103 1 W (i+1) ((y.map λp=>ae (m.R p))++[ae x])->(L.alloc (.cells #[ae x] 103)).grownBy U lv.ownBlock->(∀g,W.ownBlock=some g->lv.ownBlock=some g\/(L.alloc (.cells #[ae x] 103)).heap.size<=g)->js (λa=>aX (lg c.T a) r) (λa=>aN (sz c.T a)) (λi=>q+aG (λa=>aq (sz c.T a)) (l.take i)) w c l (l.length-(i+1)) W (Vi ((i+1:Nat):Int)) U))):=λwr lv i m y a v s I A n=>by
  have N:=hl a (zU v);have b4:=s.gone.len;obtain⟨e1,e2⟩:=a0 i a v;have b9:aZ wr:=s.gone.pow hI hP;obtain⟨k,b,P,E,_⟩:=nR s.mk (i:=a) (show a<m.T.length by omega);have hR:(m.wX lv.ownBlock).R a=c.R a:=s.gone.R a N;have hS:sz (m.wX lv.ownBlock).T a=sz c.T a:=s.gone.sz N;have hL:lg (m.wX lv.ownBlock).T a=lg c.T a:=s.gone.lang N;have t:=ih a (zU v) wr (m.wX lv.ownBlock) _ r k b s.mk (show a<m.T.length by omega) b9 hr P (by rw[hS];omega) (by rw[hS];exact a3 a (zU v));rw[hR]at P E;rw[hS,hL,<-e1]at t;refine⟨k,b,P,E,t.mono λT L hg=>?_⟩;obtain⟨x,R,h3,h4,_,h5⟩:=js.call (F:=λa=>aX (lg c.T a) r) (G:=λa=>aN (sz c.T a)) (Q:=λi=>q+aG (λa=>aq (sz c.T a)) (l.take i)) hI.seven s I A n v hg;exact⟨x,R,h3,h4,h5⟩
 have a2:Hid (∀(wr:World) (m:MC) (q':Nat) (o:Option Nat) (i p:Nat),dk w c wr m q' o->l[i]?=some p->∃J z,pa=some (aD J z)/\J<wr.heap.size/\wr.cell? ⟨J,z+i,none⟩=some (ae (c.R p))):=λwr m q' o i p s S=>by
  obtain⟨J,z,e,a1,a8,Y⟩:=hpa i p S;have hs:=s.gone.but.size;exact⟨J,z,e,by omega,(s.gone.but.cell (p:=⟨J,z+i,none⟩) a1 a8).trans Y⟩
 have HM:Hid (∀(wr:World) (m:MC) (q':Nat) (o:Option Nat),dk w c wr m q' o->wr.cell? (aD b2 0)=some (ae c.m)/\b2<wr.heap.size/\w.heap.size<=wr.heap.size):=λwr m q' o s=>⟨(s.gone.but.cell (p:=(aD b2 0)) Z n2).trans y2,by have:=s.gone.but.size;omega,s.gone.but.size⟩;have V:Hid (∀(wr:World) (lv:Value) (m:MC) (y:List Nat),dk w c wr m (q+aG (λa=>aq (sz c.T a)) l) lv.ownBlock->(∀d∈y,d<m.T.length)->aT (λd a=>lg m.T d=aX (lg c.T a) r/\sz m.T d<=aN (sz c.T a)) y l->wr.ownsRow w.heap.size 103 1 lv l.length (y.map λp=>ae (m.R p)) ->
   Calls prog 61 #[ae c.m,lv] wr (au w c (q+aG (λa=>aq (sz c.T a)) l+1) (λu=>∃a∈l,aX (lg c.T a) r u) (orM (λa=>aN (sz c.T a)) l))):=λwr lv m y s I A n=>by
  obtain⟨b0,M,c6,b8,rfl,H⟩:=dk.done hI s n;have P:=AH (pc:=b8) b0 (M.pow hI hP) (by omega) I H (zJ (aT.sum (f:=λa=>(sz m.T a).z) (g:=λa=>(aN (sz c.T a)).z) (A.imp λa b _ h=>h.2.2.2.2)) hz);rw[M.m]at P;refine P.mono ?_;rintro T w9 ⟨c9,j9,rfl,b3,b7,c1,a9,a6⟩;refine⟨c9,j9,rfl,b3,M.trans b7,c1,?_,Me.trans a6 (aT.orM (A.imp λa b _ h=>h.2))⟩;rw[a9];funext u;refine propext ⟨?_,?_⟩
  ·rintro⟨d,O,hu⟩;obtain⟨a,v,h,_⟩:=A.left d O;exact⟨a,v,by rw[<-h];exact hu⟩
  ·rintro⟨a,v,hu⟩;obtain⟨d,O,h,_⟩:=A.right a v;exact⟨d,O,by rw[h];exact hu⟩
 have a4:Hid (js (λa=>aX (lg c.T a) r) (λa=>aN (sz c.T a)) (λi=>q+aG (λa=>aq (sz c.T a)) (l.take i)) w c l l.length (Vz) (Vi 0) w):=js.start (by simpa [aG]using hI) (zE _ _);go_enter func103,ntmps103;go_wp2_with fail
 go_loopg [5,10] l.length (λj lv iv wr=>js (λa=>aX (lg c.T a) r) (λa=>aN (sz c.T a)) (λi=>q+aG (λa=>aq (sz c.T a)) (l.take i)) w c l j lv iv wr)
 case atStart=>exact a4
 case round=>
  obtain⟨i,m,y,rfl,d2,hj,s,I,A,n⟩:=hrel;have k0:(0:Int)<=(i:Int):=zK _;by_cases E:i<l.length
  ·have k1:(i:Int)<(l.length:Int):=by omega
   obtain⟨p,S⟩:∃p,l[i]?=some p:=⟨_,zB E⟩;obtain⟨J,z,rfl,a1,Y⟩:=a2.out wr m _ _ i p s S;obtain⟨k,b,d0,c7,t⟩:=K.out wr _ i m y p S s I A n;have HC:=aa t;go_wp2_with fail;refine HC.mono ?_;rintro T L ⟨x,rfl,B,c8,HN⟩;have b6:=aa (B.alloc (.cells #[ae x] 103));go_wp2_with (at_builtin;refine ft rfl _ _ 110 rfl w.heap.size 103 i0 (.pointer none) 1 8 underlying110 hi c2 a5 b5 rfl (by decide) _ _ _ rfl b6 (aD L.heap.size 0) 1 1 [ae x] rfl rfl (ue _ _) (by simp[Value.oneCell']) (by unfold maxLen;omega) (by omega) (by simp;omega) ?_;intro W U D C X;have H6:=aa (HN W U D C X))
   go_roundg (l.length-(i+1))
   all_goals first|omega|exact H6
  ·have d1:decide ((i:Int)<(l.length:Int))=false:=zI (by omega);have c0:i=l.length:=by omega
   subst c0;rw[zQ]at A;simp only[zQ]at s;obtain⟨z1,z2,z3⟩:=HM.out wr m _ _ s;have HE:=aa (V wr _ m y s I A n);go_wp2_with fail;refine HE.mono ?_;intro T w9 h9;have c3:=aa h9;obtain⟨c9,j9,rfl,a7⟩:=h9;go_wp2_with fail;go_ret;exact c3
theorem Pl {B:Me}(hA:aV<=A)(hB:aV<=B):aq A+A.p+aq B+2<=aq (bf A B):=by
 obtain⟨i,e,g,h⟩:=hA;obtain⟨b,f,j,d⟩:=hB;simp only[aV]at i e g h b f j d;simp only[aq,bf];obtain⟨P,a⟩:∃P,max (A.p+B.n) B.p=P:=⟨_,rfl⟩;rw[a];have c:A.y+B.y-1=(A.y-1)+(B.y-1)+1:=by omega
 rw[c,ye,ye];have k:(A.p+4)*(A.y-1)<=(P+4)*(A.y-1):=zn _ (by omega);have l:(B.p+4)*(B.y-1)<=(P+4)*(B.y-1):=zn _ (by omega);omega
theorem SP (hA:aV<=A):aq A+2<=aq (bB A):=by
 obtain⟨e,b,c,d⟩:=hA;simp only[aV]at e b c d;simp only[aq,bB];have a:A.y+1-1=(A.y-1)+1:=by omega
 rw[a,ye];omega
theorem Pm (hA:aV<=A):aq A+1+A.p+1<=aq (cZ A):=by
 obtain⟨e,b,c,d⟩:=hA;simp only[aV]at e b c d;simp only[aq,cZ];have a:A.y+1-1=(A.y-1)+1:=by omega
 rw[a,ye];have f:(A.p+4)*(A.y-1)<=(A.p+1+4)*(A.y-1):=zn _ (by omega);omega
theorem Fx {f:Nat->Me}{P:Nat}:∀{l:List Nat},(∀a∈l,aV<=f a)->dA (λa=>(f a).p) l<=P->aG (λa=>aq (f a)) l+(P+4)*l.length<=(P+4)*aG (λa=>(f a).y) l+2*l.length
 | [],_,_=>by simp[aG]
 |a::l,h,hp=>by
  obtain⟨i,d,e,g⟩:=h a (by simp);simp only[aV]at i d e g;simp only[dA]at hp;have j:=Fx (f:=f) (P:=P) (l:=l) (λb k=>h b (by simp[k])) (by omega);simp only[aG,zG,aq]at j ⊢;have m:((f a).p+4)*((f a).y-1)<=(P+4)*((f a).y-1):=zn _ (by omega);have c:(P+4)*(f a).y=(P+4)*((f a).y-1)+(P+4):=by
   conv=>lhs;rw[show (f a).y=((f a).y-1)+1 by omega,ye]
   omega
  rw[ye,ye,c];omega
theorem VW (h:∀a∈l,aV<=f a)(h1:l.length≠1):aG (λa=>aq (f a)) l+2<=aq (orM f l):=by
 cases l with
 |nil=>simp[aG,aq]
 |cons a l=>
  cases l with
  |nil=>simp at h1
  |cons b l=>
   obtain⟨P,g⟩:∃P,max 1 (dA (λa=>(f a).p) (a::b::l))=P:=⟨_,rfl⟩;have d:=Fx (f:=f) (P:=P) h (by omega);have j:=(h a (by simp)).2.2.1;simp only[aV]at j;simp only[aq,orM];rw[g];obtain⟨Y,e⟩:∃Y,aG (λa=>(f a).y) (a::b::l)=Y:=⟨_,rfl⟩;have c:1<=Y:=by rw[<-e];simp only[aG];omega
   rw[e]at d ⊢;rw[Nat.max_eq_right c];have k:(P+4)*Y=(P+4)*(Y-1)+(P+4):=by
    conv=>lhs;rw[show Y=(Y-1)+1 by omega,ye]
    omega
   have i:(P+4)*(a::b::l).length=(P+4)*l.length+(P+4)*2:=by rw[zG,zG,<-ye]
   have m:4*l.length<=(P+4)*l.length:=zn _ (by omega);simp only[zG]at d i;simp only[aq]at d;omega
theorem SQ (h:runeB r=true):-9223372036854775808<=r/\r<=9223372036854775807:=by
 simp only[runeB,zY]at h;omega
theorem Am:∀i,uI i:=by
 intro i
 induction i using Nat.strongRecOn with
 |ind i ih=>
  intro w c q r k b t hi hP U S hq P;obtain⟨e,he⟩:∃e,c.T[i]?=some e:=⟨_,zB hi⟩;obtain⟨pa,pc,en,k0,b0,F,cp,h1,a8,a6,n0,nk,nb,hK,hB,A⟩:=t.rest i e he;have j:=t.wf i e he;have v:∀a∈e.parts,a<c.T.length:=λa C=>by have:=j.2 a C;omega
  have p:sz c.T i=e.size (sz c.T):=pg he j.2;have z:lg c.T i=e.lang (lg c.T):=t.lang he;obtain⟨a0,a1⟩:=SQ U;have X:w.cell? (aD (c.R i) 4)=some (Vf 143 #[ae k0,ae b0]):=ag.cell h1 4;rw[S]at X;have ek:k=k0/\b=b0:=by
   injection X with h;injection h with _ _ h;injection h with h;injection h with h h';injection h' with h' _;injection h with h;injection h with h;injection h with h;injection h' with h';injection h' with h';injection h' with h';exact⟨h,h'⟩
  obtain⟨rfl,rfl⟩:=ek;have o:∀Q,q<=Q->Q+1<=q+aq (sz c.T i)->(∀args w,(callFunc F args).run prog w=.ok (.enter F args) w)->Calls prog F (#[Vi r]++cp) w (au w c Q (aX (lg c.T i) r) (aN (sz c.T i)))->Calls prog 143 #[Vi r,ae k,ae b] w (au w c (q+aq (sz c.T i)) (aX (lg c.T i) r) (aN (sz c.T i))):=λQ h1 h2 eg a5=>
   (We t hi (by omega) h1 a0 a1 hK hB nk eg a5).mono λZ V B=>B.more h2
  cases e with
  |set s=>
   obtain⟨b1,b2,la,lc,rfl,rfl,T,R,D,I,a3,_⟩:=A;have d:aq (sz c.T i)=2:=by rw[p];rfl
   refine o q (zA _) (by omega) (enters_of func111 (by kernel_rfl) rfl) ?_;refine (Wh t U D I a3 (xU j.1.2) (L:=aX (lg c.T i) r) (by rw[z];exact Wg)).mono λZ V B=>?_;obtain⟨M,H,G,N,O,K,J,E⟩:=B;refine⟨M,H,G,N,O,K,J,Me.trans E ?_⟩;rw[p];show aV<=aN aV
   exact⟨by decide,by decide,by decide,by decide⟩
  |empty=>
   obtain⟨b1,rfl,rfl,T,D⟩:=A;have d:aq (sz c.T i)=2:=by rw[p];rfl
   refine o q (zA _) (by omega) (enters_of func63 (by kernel_rfl) rfl) ?_;refine (Pz t D).mono λZ V B=>?_;obtain⟨M,H,G,N,O,K,J,E⟩:=B;refine⟨M,H,G,N,O,K,?_,Me.trans E ?_⟩
   ·rw[J,z];funext u;refine propext ⟨λh=>h.elim,λh=>?_⟩;cases h
   ·rw[p];show aV<=aN aV
    exact⟨by decide,by decide,by decide,by decide⟩
  |pair x y=>
   obtain⟨b1,b2,b3,rfl,rfl,T,R,n3,D,I,k3⟩:=A;have hx:=v x (by simp[RE.parts]);have hy:=v y (by simp[RE.parts]);have d:=Pl (t.sz_one hx) (t.sz_one hy);have g:sz c.T i=bf (sz c.T x) (sz c.T y):=p;rw[g]at hq P o ⊢;refine o (q+aq (sz c.T x)+(sz c.T x).p+aq (sz c.T y)+1) (by omega) (by omega) (enters_of func159 (by kernel_rfl) rfl) ?_;have:=RU (ih x (j.2 x (by simp[RE.parts]))) (ih y (j.2 y (by simp[RE.parts]))) t hx hy hP U T R n3 D I k3 (by omega) P;rw[z];exact this
  |or l=>
   obtain⟨b1,b2,a7,a9,rfl,rfl,_,R,D,I,W⟩:=A;have Y:∀a∈l,aV<=sz c.T a:=λa C=>t.sz_one (v a C);have d:=VW (f:=sz c.T) Y j.1.1;have g:sz c.T i=orM (sz c.T) l:=p;rw[g]at hq P o ⊢;refine o (q+aG (λa=>aq (sz c.T a)) l+1) (by omega) (by omega) (enters_of func103 (by kernel_rfl) rfl) ?_;have a2:aG (λa=>(aN (sz c.T a)).z) l<=3000000000000:=by
    have t2:aG (λa=>bz (sz c.T a).z) l<=bz (aG (λa=>(sz c.T a).z) l):=uV l;have u2:=dY (show aG (λa=>(sz c.T a).z) l<=max 1 (aG (λa=>(sz c.T a).z) l) by omega);simp only[aN,orM]at P ⊢;omega
   have:=Yi (l:=l) (λa C=>ih a (j.2 a C)) t v hP U R D I W (by omega) a2;refine this.mono λZ V B=>?_;obtain⟨M,H,G,N,O,K,J,E⟩:=B;refine⟨M,H,G,N,O,K,?_,Me.trans E (WN _ _)⟩;rw[J,z];rfl
  |not a=>
   obtain⟨b1,b2,rfl,rfl,T,R,D,I⟩:=A;have C:=v a (by simp[RE.parts]);have d:=SP (t.sz_one C);have g:sz c.T i=bB (sz c.T a):=p;rw[g]at hq P o ⊢;refine o (q+aq (sz c.T a)+1) (by omega) (by omega) (enters_of func115 (by kernel_rfl) rfl) ?_;have:=Wi (ih a (j.2 a (by simp[RE.parts]))) t C hP U T R D I (by omega) P;refine this.mono λZ V B=>?_;obtain⟨M,H,G,N,O,K,J,E⟩:=B;refine⟨M,H,G,N,O,K,?_,Me.trans E (Uk _)⟩;rw[J,z];rfl
  |many a m n=>
   obtain⟨b1,b2,b3,b4,rfl,rfl,T,R,n3,n4,D,I,k3,k4⟩:=A;have C:=v a (by simp[RE.parts]);have d:=Pm (t.sz_one C);have g:sz c.T i=cZ (sz c.T a):=p;rw[g]at hq P o ⊢;obtain⟨w1,w2,w3⟩:=j.1;refine o (q+aq (sz c.T a)+1+(sz c.T a).p) (by omega) (by omega) (enters_of func116 (by kernel_rfl) rfl) ?_;have a4:(aN (sz c.T a)).z<=3000000000000:=by
    have:=dY (show (sz c.T a).z<=(sz c.T a).z+1 by omega);simp only[aN,cZ]at P ⊢;omega
   have:=QX (ih a (j.2 a (by simp[RE.parts]))) t C hP U w1 w2 w3 T R n3 n4 D I k3 k4 (by omega) a4;refine this.mono λZ V B=>?_;obtain⟨M,H,G,N,O,K,J,E⟩:=B;refine⟨M,H,G,N,O,K,?_,Me.trans E (Qs _)⟩;rw[J,z];exact (GJ w1 (by rcases w3 with h|h;exact .inl h;exact .inr h.1)).symm
def BV (s:List (Int×Int)):Lg:=λu=>∃x,u=[x]/\memB s x=true
theorem Uv:BV []=eA:=by
 funext u;refine propext ⟨?_,λh=>h.elim⟩;rintro⟨x,_,h⟩;simp[memB]at h
theorem Qy (h:Canon s):∀x∈gK s,-9223372036854775808<=x/\x<=9223372036854775807:=λx c=>by
 obtain⟨y,d,e⟩:=Rw c;obtain⟨a,b,_⟩:=h.1 y d;simp only[runeB,zY]at a b;rcases e with rfl|rfl<;>omega
theorem Qz (hI:MkI w c q):Calls prog 70 #[ae c.m,.slice la 0 lc] w (au w c q (BV []) aV):=by
 have d:Hid (∀a,Bw w a->au w c q (BV []) aV (.returned (ae (c.R 0))) a):=λa b=>⟨c,0,rfl,hI.below b,Gone.below b,(zC.1 hI.t0).1,by rw[Uv];exact hI.none,by rw[hI.sz0];exact Me.refl _⟩;have f:w.cell? (aD c.m 1)=some (ae (c.R 0)):=hI.mb.cell 1;have e:=hI.mb.lt;go_enter func70,ntmps70;go_wp2_with fail;go_ret;exact d _ (((zE _ _).alloc (zA _) _).alloc (by simp) _)
theorem Nf {l:LQ}(hI:MkI w c q)(hP:aZ w)(hq:q<=9000000000000000000)(hl:Rd w la l)(hla:∀b o,la=some (aD b o)->b<w.heap.size/\¬c.S b)(hcan:Canon l)(hl0:l.length≠0)(hl9:l.length<=400000):Calls prog 70 #[ae c.m,.slice la l.length lc] w (au w c (q+1) (BV l) aV):=by
 obtain⟨i0,hi,a6,a3,Z⟩:=zz jo;obtain⟨W0,K,J,H,A,b0⟩:=jK (rfl:w.heap.size=_) [ae c.m] 95 [.slice la l.length lc] 24;have b2:=hI.mb.lt;have HI:=aa hI;have HP:=aa hP;have HL:=aa hl;have Q:=aa hla;have HC:=aa hcan;have R:=aa K;have a4:=aa J;have W:=aa H;have a0:=aa A;have c2:W0.cell? (aD (w.heap.size+1) 0)=some (.slice la l.length lc):=A.cell 0;have hz:((l.length:Int)==0)=false:=zD.2 (by omega);have b4:(l.length==0)=false:=zD.2 hl0;go_enter func70,ntmps70;go_wp2_with fail;rw[R.out];generalize hS:w.heap.size=S at *;go_wp2_with fail
 go_loopg [5,18] l.length (λj ev iv wr=>YV w S la lc c.m l j ev iv wr)
 case atStart=>exact⟨0,rfl,zW _,by omega,zZ _ _ _ _,a4,W,a0⟩
 case round=>
  obtain⟨i,rfl,b1,hj,d,f,t,s⟩:=hrel;have k0:(0:Int)<=(i:Int):=zK _;have b5:S+2<=wr.heap.size:=by have:=s.lt;omega
  by_cases G:i<l.length
  ·have k1:(i:Int)<(l.length:Int):=by omega
   obtain⟨b,a9,rfl,hb,M,E⟩:=HL.out i l[i] (zB G);generalize hx:l[i]=x at M E;have HX:Hid (l.take (i+1)=l.take i++[x]):=dU (by rw[zB G,hx]);obtain⟨v,y⟩:=x;simp only at M E;rw[hS]at hb;rw[<-f.cell (p:=⟨b,_,none⟩) hb]at M E;have b3:b<wr.heap.size:=by omega
   have a7:=aa d;have V:=aa t;have a2:=aa s;have X:=aa f;have a8:=aa hx;go_wp2_with (at_builtin;refine yD _ rfl _ _ 61 rfl (S+2) 3 i0 (Vi 0) 1 8 underlying61 hi a6 a3 Z rfl (by decide) _ _ _ rfl ((d.alloc _).alloc _) (aD (wr.heap.size+1) 0) 2 2 [Vi v,Vi y] rfl rfl (Og _ _ _ _) (et _ _) (by unfold maxLen;omega) (by omega) (by simp;omega) ?_;intro v' w3 D m _);have R2:=((X.alloc (by omega) (.cells #[Vi v,Vi y] 92)).alloc (by simp;omega) (.cells #[Vi v,Vi y] 3)).grown m (by simp;omega) (λk e=>by have:=(d.lt k e).1;omega);have z:∀k,k<S+2->some k≠Value.ownBlock u5:=λk hk e=>by have:=(d.lt k e.symm).1;omega
   have a5:=aa (((V.alloc (.cells #[Vi v,Vi y] 92)).alloc (.cells #[Vi v,Vi y] 3)).grown m (z _ (by omega)));have Y:=aa (((a2.alloc (.cells #[Vi v,Vi y] 92)).alloc (.cells #[Vi v,Vi y] 3)).grown m (z _ (by omega)))
   go_roundg (gk-1)
   case measure=>omega
   case rel=>
    refine⟨i+1,by go_num,by omega,by omega,?_,R2,a5,Y⟩;have e2:bj (gK (l.take (i+1)))=bj (gK (l.take i))++[Vi v,Vi y]:=by rw[HX.out,Of];simp[bj]
    rw[e2,show 2*(i+1)=2*i+2 by omega];exact D
  ·have d1:decide ((i:Int)<(l.length:Int))=false:=zI (by omega);have d2:decide (i<l.length)=false:=zI G;have P:i=l.length:=by omega
   subst P;rw[zQ]at d;obtain⟨ea,ec,rfl,n,_⟩:=Rx d (Qy HC.out);have e1:wr.cell? (aD S 0)=some (ae c.m):=t.cell 0;have C:Hid (Bw w (wr.alloc (.cells #[Vi 0,Vi 0,Vz,.bool false,Vf 111 #[ae (S+1),ae S]] 113))):=by
    show Bw w _
    rw[hS];exact f.alloc (show S<=wr.heap.size by omega) _
   have L:Bw wr (wr.alloc (.cells #[Vi 0,Vi 0,Vz,.bool false,Vf 111 #[ae (S+1),ae S]] 113)):=(zE _ _).alloc (zA _) _;have hn:∀g,S<=g->g≠wr.heap.size->¬(c.S g\/g=wr.heap.size):=λg M E u=>by
    rcases u with u|u
    ·have:=HI.S_lt u;omega
    ·exact E u
   have I:Rd (wr.alloc (.cells #[Vi 0,Vi 0,Vz,.bool false,Vf 111 #[ae (S+1),ae S]] 113)) la l:=Rd.below HL C;have B:=aa (qa (e:=.set l) (n0:=0) (pa:=none) (pc:=0) (en:=false) (F:=111) (cp:=#[ae (S+1),ae S]) (x:=wr.heap.size) (mc:=ec) HI C (HP.below C) ⟨λh=>hl0 (by rw[h];rfl),HC⟩ (λa ha=>by simp[RE.parts]at ha) (by omega) (ag.new wr _ 113) (by
     refine⟨λh=>(by cases h),?_⟩;rintro⟨x,e,_⟩;cases e) (λj p hj=>by simp[RE.parts]at hj)
    ⟨S+1,S,la,lc,rfl,rfl,hn _ (by omega) (by omega),hn _ (by omega) (by omega),s.alloc _,t.alloc _,I,λb o e=>by
     obtain⟨M,E⟩:=Q.out b o e;refine⟨by simp;omega,?_⟩;rintro (u|u)
     ·exact E u
     ·omega⟩ (n.below L) (show (gK l).length<=1000000 by rw[Rv];omega) (by simp[RE.parts]) hq)
   have T:Hid (∀r N,jF w c (q+1) (.set l) r N->au w c (q+1) (BV l) aV r N):=λr N O=>O.at (zE _ _) (λa ha=>by simp[RE.parts]at ha) rfl (Me.refl _);go_wp2_with fail;refine B.mono ?_;intro r N O;have a1:=aa (T r N O);obtain⟨c9,j9,rfl,U⟩:=O;go_wp2_with fail;go_ret;exact a1
theorem Di {l:LQ}(hI:MkI w c q)(hP:aZ w)(hq:q<=9000000000000000000)(hl:Rd w la l)(hla:∀b o,la=some (aD b o)->b<w.heap.size/\¬c.S b)(hcan:Canon l)(hl9:l.length<=400000):Calls prog 70 #[ae c.m,.slice la l.length lc] w (au w c (q+1) (BV l) aV):=by
 by_cases a:l.length=0
 ·have:l=[]:=zq.1 a;subst this;exact (Qz hI).mono λr d h=>h.more (by omega)
 ·exact Nf hI hP hq hl hla hcan a hl9
theorem UR {pc:Nat}{pa:OA}(hI:MkI w c q)(hl:∀a∈l,a<c.T.length)(hP:aZ w)(hpa:dQ w c.S c.R pa l)(hq:q+l.length+2<=9000000000000000000)(hz:aG (λa=>(sz c.T a).z) l<=3000000000000):Calls prog 72 #[ae c.m,.slice pa l.length pc] w (au w c (q+l.length+2) (λu=>∀a∈l,lg c.T a u) (bB (orM (λa=>bB (sz c.T a)) l))):=by
 obtain⟨i0,hi,b6,a4,b2⟩:=zz ia;have c2:l.length<=3000000000000:=zJ (oh (f:=λa=>(sz c.T a).z) (λa t=>(hI.sz_one (hl a t)).2.2.2)) hz;have P:Hid (∀(wr:World) (lv:Value) (i:Nat) (k:MC) (r:List Nat) (a:Nat),l[i]?=some a->dk w c wr k (q+i) lv.ownBlock->(∀d∈r,d<k.T.length)->aT (λd a=>lg k.T d=fZ (lg c.T a)/\sz k.T d<=bB (sz c.T a)) r (l.take i)->wr.ownsRow w.heap.size 103 1 lv i (r.map λp=>ae (k.R p)) ->
   Calls prog 73 #[ae c.m,ae (c.R a)] wr (λE I=>∃x,E=.returned (ae x)/\I.ownsRow w.heap.size 103 1 lv i (r.map λp=>ae (k.R p))/\w.heap.size<=I.heap.size/\Hid (∀Y w6,w6.ownsRow w.heap.size 103 1 Y (i+1) ((r.map λp=>ae (k.R p))++[ae x])->(I.alloc (.cells #[ae x] 103)).grownBy w6 lv.ownBlock->(∀g,Y.ownBlock=some g->lv.ownBlock=some g\/(I.alloc (.cells #[ae x] 103)).heap.size<=g)->js (λa=>fZ (lg c.T a)) (λa=>bB (sz c.T a)) (λi=>q+i) w c l (l.length-(i+1)) Y (Vi ((i+1:Nat):Int)) w6))):=λwr lv i k r a t n J v m=>by
  have R:=hl a (zU t);have a3:i<l.length:=(zC.1 t).1;have b9:=n.gone.len;have b8:aZ wr:=n.gone.pow hI hP;have hR:(k.wX lv.ownBlock).R a=c.R a:=n.gone.R a R;have hM:(k.wX lv.ownBlock).m=c.m:=n.gone.m;have hS:sz (k.wX lv.ownBlock).T a=sz c.T a:=n.gone.sz R;have hL:lg (k.wX lv.ownBlock).T a=lg c.T a:=n.gone.lang R;have z:=oQ (a:=a) n.mk (by omega) (show a<k.T.length by omega) b8;rw[hR,hM,hS,hL]at z;refine z.mono λE I U=>?_;obtain⟨x,h1,h3,h4,_,h5⟩:=js.call (F:=λa=>fZ (lg c.T a)) (G:=λa=>bB (sz c.T a)) (Q:=λi=>q+i) hI.seven n J v m t U;exact⟨x,h1,h3,h4,h5⟩
 have V:Hid (∀(wr:World) (k:MC) (q':Nat) (o:Option Nat) (i p:Nat),dk w c wr k q' o->l[i]?=some p->∃O s,pa=some (aD O s)/\O<wr.heap.size/\wr.cell? ⟨O,s+i,none⟩=some (ae (c.R p))):=λwr k q' o i p n hp=>by
  obtain⟨O,s,e,a0,b5,a1⟩:=hpa i p hp;have hs:=n.gone.but.size;exact⟨O,s,e,by omega,(n.gone.but.cell (p:=⟨O,s+i,none⟩) a0 b5).trans a1⟩
 have W:Hid (∀(wr:World) (lv:Value) (k:MC) (r:List Nat),dk w c wr k (q+l.length) lv.ownBlock->(∀d∈r,d<k.T.length)->aT (λd a=>lg k.T d=fZ (lg c.T a)/\sz k.T d<=bB (sz c.T a)) r l->wr.ownsRow w.heap.size 103 1 lv l.length (r.map λp=>ae (k.R p)) ->
   Calls prog 61 #[ae c.m,lv] wr (λE D=>∃x,E=.returned (ae x)/\Hid (au w c (q+l.length+1) (λu=>∃a∈l,fZ (lg c.T a) u) (orM (λa=>bB (sz c.T a)) l) (.returned (ae x)) D))):=λwr lv k r n J v m=>by
  obtain⟨b3,M,c4,a6,rfl,H⟩:=dk.done hI n m;have hc:=AH (pc:=a6) b3 (M.pow hI hP) (by omega) J H (zJ (aT.sum (f:=λa=>(sz k.T a).z) (g:=λa=>(sz c.T a).z) (v.imp λa b _ h=>h.2.2.2.2)) hz);rw[M.m]at hc;refine hc.mono ?_;rintro E D ⟨c9,j9,rfl,T,A,K,L,N⟩;refine⟨_,rfl,c9,j9,rfl,T,M.trans A,K,?_,Me.trans N (aT.orM (v.imp λa b _ h=>h.2))⟩;rw[L];funext u;refine propext ⟨?_,?_⟩
  ·rintro⟨d,S,hu⟩;obtain⟨a,t,h,_⟩:=v.left d S;exact⟨a,t,by rw[<-h];exact hu⟩
  ·rintro⟨a,t,hu⟩;obtain⟨d,S,h,_⟩:=v.right a t;exact⟨d,S,by rw[h];exact hu⟩
 have X:Hid (∀(D:World) (x:Nat),au w c (q+l.length+1) (λu=>∃a∈l,fZ (lg c.T a) u) (orM (λa=>bB (sz c.T a)) l) (.returned (ae x)) D->Calls prog 73 #[ae c.m,ae x] D (au w c (q+l.length+2) (λu=>∀a∈l,lg c.T a u) (bB (orM (λa=>bB (sz c.T a)) l)))):=λD x U=>by
  obtain⟨c9,j9,e9,T,A,K,L,N⟩:=U;have e6:x=c9.R j9:=by injection e9 with e;injection e with e;injection e with e;injection e
  subst e6;have hc:=oQ T (by omega) K (A.pow hI hP);rw[A.m]at hc;refine hc.mono ?_;rintro E I ⟨c5,j5,rfl,b1,a2,c1,a7,c0⟩;refine⟨c5,j5,rfl,b1,A.trans a2,c1,?_,Me.trans c0 (mt N)⟩;rw[a7,L];funext u;refine propext ⟨λh a t=>Classical.byContradiction λhn=>h ⟨a,t,hn⟩,?_⟩;rintro h ⟨a,t,hn⟩;exact hn (h a t)
 have c3:Hid (∀(wr:World) (k:MC) (q':Nat) (o:Option Nat),dk w c wr k q' o->w.heap.size<=wr.heap.size):=λwr k q' o n=>n.gone.but.size;have b7:Hid (js (λa=>fZ (lg c.T a)) (λa=>bB (sz c.T a)) (λi=>q+i) w c l l.length (Vz) (Vi 0) w):=js.start (by simpa using hI) (zE _ _);go_enter func72,ntmps72;go_wp2_with fail
 go_loopg [5,10] l.length (λj lv iv wr=>js (λa=>fZ (lg c.T a)) (λa=>bB (sz c.T a)) (λi=>q+i) w c l j lv iv wr)
 case atStart=>exact b7
 case round=>
  obtain⟨i,k,r,rfl,a3,hj,n,J,v,m⟩:=hrel;have k0:(0:Int)<=(i:Int):=zK _;by_cases a5:i<l.length
  ·have k1:(i:Int)<(l.length:Int):=by omega
   obtain⟨p,hp⟩:∃p,l[i]?=some p:=⟨_,zB a5⟩;obtain⟨O,s,rfl,a0,a1⟩:=V.out wr k _ _ i p n hp;have HC:=aa (P wr _ i k r p hp n J v m);go_wp2_with fail;refine HC.mono ?_;rintro E I ⟨x,rfl,y,c6,HN⟩;have a9:=aa (y.alloc (.cells #[ae x] 103));go_wp2_with (at_builtin;refine ft rfl _ _ 110 rfl w.heap.size 103 i0 (.pointer none) 1 8 underlying110 hi b6 a4 b2 rfl (by decide) _ _ _ rfl a9 (aD I.heap.size 0) 1 1 [ae x] rfl rfl (ue _ _) (by simp[Value.oneCell']) (by unfold maxLen;omega) (by omega) (by simp;omega) ?_;intro Y w6 B C Z;have H6:=aa (HN Y w6 B C Z))
   go_roundg (l.length-(i+1))
   all_goals first|omega|exact H6
  ·have d1:decide ((i:Int)<(l.length:Int))=false:=zI (by omega);have b4:i=l.length:=by omega
   subst b4;rw[zQ]at v;have HE:=aa (W wr _ k r n J v m);go_wp2_with fail;refine HE.mono ?_;rintro E D ⟨x,rfl,U⟩;have HN:=aa (X D x U);go_wp2_with fail;refine HN.mono ?_;intro E D h9;have a8:=aa h9;obtain⟨c9,j9,rfl,b0⟩:=h9;go_wp2_with fail;go_ret;exact a8
