import Derived.Test.YtebnghmioamheaaGreatDoorM41
import Derived.Test.YtebnghmioamheaaGreatDoorM23
set_option maxHeartbeats 4000000
set_option maxRecDepth 100000
set_option linter.all false
namespace Go.Proofs.YtebnghmioamheaaGreatDoor
open Go.Shelf Go.RowKit Go.Lib Go.Sort Brm Tryz
variable {V w w' wr w5:World}{c ci:MC}{q b1 b2 lc a n:Nat}{r:Int}{s:LQ}{la:OA}{v:Value}{Y:NP}{l:List Nat}{α:Type}{A:Me}{f:Nat->Me}
def aq (A:Me):Nat:=(A.p+4)*(A.y-1)+2
def uI (i:Nat):Prop:=∀(w:World) (c:MC) (q:Nat) (r:Int) (k b:Nat),MkI w c q->i<c.T.length->aZ w->runeB r=true->w.cell? (aD (c.R i) 4)=some (Vf 143 #[ae k,ae b])->q+aq (sz c.T i)<=9000000000000000000->(aN (sz c.T i)).z<=3000000000000 ->
 Calls prog 143 #[Vi r,ae k,ae b] w (au w c (q+aq (sz c.T i)) (aX (lg c.T i) r) (aN (sz c.T i)))
abbrev cW (V w:World):Prop:=V.heap=w.heap/\V.os=w.os/\V.tape=w.tape/\V.output=w.output
theorem cW.below (h:cW V w):Bw w V:=⟨h.2.1,h.2.2.1,h.2.2.2,by rw[h.1];exact zA _,λk _=>by rw[h.1]⟩
theorem cW.cell {V w:World}(h:cW V w)(p:Addr):V.cell? p=w.cell? p:=zP (w:=w) (by rw[h.1])
theorem Gone.cellS {c':MC}(hV:cW V w)(hG:Gone V c w' c'){p:Addr}(hp:p.block<w.heap.size)(hn:¬c.S p.block):w'.cell? p=w.cell? p:=(hG.but.cell (p:=p) (by rw[hV.1];exact hp) hn).trans (hV.cell p)
theorem nR {i:Nat}(h:MkI w c q)(hi:i<c.T.length):∃k b,w.cell? (aD (c.R i) 4)=some (Vf 143 #[ae k,ae b])/\c.R i<w.heap.size/\¬c.S (c.R i):=by
 obtain⟨e,g⟩:∃e,c.T[i]?=some e:=⟨_,zB hi⟩;obtain⟨m,o,p,d,b,F,j,a,l,n,f,_⟩:=h.rest i e g;exact⟨d,b,ag.cell a 4,ag.lt a,f⟩
theorem Pz (hI:MkI w c q)(k1:ag w b1 [ae c.m] 95):Calls prog 63 #[Vi r,ae b1] w (au w c q eA aV):=by
 have f:w.cell? (aD b1 0)=some (ae c.m):=k1.cell 0;have a:=k1.lt;have e:w.cell? (aD c.m 1)=some (ae (c.R 0)):=hI.mb.cell 1;have b:=hI.mb.lt;have d:Hid (au w c q eA aV (.returned (ae (c.R 0))) w):=⟨c,0,rfl,hI,Gone.refl _ _,(zC.1 hI.t0).1,hI.none,by rw[hI.sz0];exact Me.refl _⟩;go_enter func63,ntmps63;go_wp2_with fail;go_ret;exact d
theorem Wg {L:Nat->Lg}:aX ((RE.set s).lang L) r=if memB s r=true then dZ else eA:=by
 funext u;show (∃c,r::u=[c]/\memB s c=true)=_
 by_cases h:memB s r=true
 ·rw[zX h];refine propext ⟨?_,?_⟩
  ·rintro⟨c,e,_⟩;injection e with e1 e2
  ·rintro rfl;exact⟨r,rfl,h⟩
 ·rw[zR h];refine propext ⟨?_,λh=>h.elim⟩;rintro⟨c,e,a⟩;injection e with e1 e2;subst e1;exact h a
theorem Wh (hI:MkI w c q)(hr:runeB r=true)(k1:ag w b1 [.slice la s.length lc] 24)(k2:ag w b2 [ae c.m] 95)(hs:Rd w la s)(hl:s.length<=1200000){L:Lg}(hL:L=if memB s r=true then dZ else eA):Calls prog 111 #[Vi r,ae b1,ae b2] w (au w c q L aV):=by
 have v:w.cell? (aD b1 0)=some (.slice la s.length lc):=k1.cell 0;have p:w.cell? (aD b2 0)=some (ae c.m):=k2.cell 0;have l:=k1.lt;have n:=k2.lt;have f:=aa (Kj lc r hs hl);rw[hr,Bool.true_and]at f;have o:Hid (∀a,Bw w a->a.cell? (aD b2 0)=some (ae c.m)/\a.cell? (aD c.m 1)=some (ae (c.R 0))/\a.cell? (aD c.m 2)=some (ae (c.R 1))/\b2<a.heap.size/\c.m<a.heap.size):=λa b=>⟨(k2.below b).cell 0,(hI.mb.below b).cell 1,(hI.mb.below b).cell 2,(k2.below b).lt,(hI.mb.below b).lt⟩;have h:Hid (memB s r=false->∀a,Bw w a->au w c q L aV (.returned (ae (c.R 0))) a):=λg a b=>⟨c,0,rfl,hI.below b,Gone.below b,(zC.1 hI.t0).1,by rw[hL,g];exact hI.none,by rw[hI.sz0];exact Me.refl _⟩;have k:Hid (memB s r=true->∀a,Bw w a->au w c q L aV (.returned (ae (c.R 1))) a):=λg a b=>⟨c,1,rfl,hI.below b,Gone.below b,(zC.1 hI.t1).1,by rw[hL,g];exact hI.emp,by rw[hI.sz1];exact Me.refl _⟩;generalize g:memB s r=m at *;clear hI k1 k2 hs hr g hL;go_enter func111,ntmps111;go_wp2_with fail;refine f.mono ?_;rintro e j ⟨rfl,d⟩;obtain⟨t,x,z,y,u⟩:=o.out j d;cases m with
 |true=>
  have i:=aa (k rfl j d);clear d;go_wp2_with fail;go_ret;exact i
 |false=>
  have i:=aa (h rfl j d);clear d;go_wp2_with fail;go_ret;exact i
theorem Wi (ih:uI a)(hI:MkI w c q)(ha:a<c.T.length)(hP:aZ w)(hr:runeB r=true)(n1:¬c.S b1)(n2:¬c.S b2)(k1:ag w b1 [ae c.m] 95)(k2:ag w b2 [ae (c.R a)] 103)(hq:q+aq (sz c.T a)+1<=9000000000000000000)(hz:(aN (sz c.T a)).z<=3000000000000):Calls prog 115 #[Vi r,ae b1,ae b2] w (au w c (q+aq (sz c.T a)+1) (fZ (aX (lg c.T a) r)) (bB (aN (sz c.T a)))):=by
 obtain⟨v,s,R,C,z⟩:=nR hI ha;have W:w.cell? (aD b1 0)=some (ae c.m):=k1.cell 0;have T:w.cell? (aD b2 0)=some (ae (c.R a)):=k2.cell 0;have n:=k1.lt;have o:=k2.lt;have N:Hid (∀V:World,cW V w->Calls prog 143 #[Vi r,ae v,ae s] V (au V c (q+aq (sz c.T a)) (aX (lg c.T a) r) (aN (sz c.T a)))):=λV d=>ih V c q r v s (hI.below d.below) ha (hP.below d.below) hr ((d.cell _).trans R) (by omega) hz;have K:Hid (∀(V k:World) (e:MC) (m:Nat),cW V w->MkI k e (q+aq (sz c.T a))->Gone V c k e->m<e.T.length->lg e.T m=aX (lg c.T a) r->sz e.T m<=aN (sz c.T a) ->
   Calls prog 73 #[ae c.m,ae (e.R m)] k (λA x=>au w c (q+aq (sz c.T a)+1) (fZ (aX (lg c.T a) r)) (bB (aN (sz c.T a))) A x/\∃u,Gone V c x u)):=λV k e m d f b h g i=>by
  have F:aZ k:=b.pow (hI.below d.below) (hP.below d.below);have P:=oQ f (by omega) h F;rw[b.m]at P;refine P.mono ?_;rintro A x ⟨u,Q,rfl,B,t,M,J,E⟩;exact⟨⟨u,Q,rfl,B,(Gone.below d.below).trans (b.trans t),M,by rw[J,g],Me.trans E (mt i)⟩,u,b.trans t⟩
 have l:Hid (∀(V j:World) (O:MC),cW V w->Gone V c j O->j.cell? (aD b1 0)=some (ae c.m)/\j.cell? (aD b2 0)=some (ae (c.R a))/\j.cell? (aD (c.R a) 4)=some (Vf 143 #[ae v,ae s])):=λV j O d G=>
  ⟨(G.cellS d (p:=(aD b1 0)) n n1).trans W,(G.cellS d (p:=(aD b2 0)) o n2).trans T,(G.cellS d (p:=(aD (c.R a) 4)) C z).trans R⟩
 have I:Hid (∀V:World,cW V w->V.cell? (aD b1 0)=some (ae c.m)/\V.cell? (aD b2 0)=some (ae (c.R a))/\V.cell? (aD (c.R a) 4)=some (Vf 143 #[ae v,ae s])):=λV d=>l V V c d (Gone.refl _ _);go_enter func115,ntmps115;go_wp2_with fail
 go_region_held3 (λj=>j.cell? (aD b1 0)=some (ae c.m)/\j.cell? (aD b2 0)=some (ae (c.R a))/\j.cell? (aD (c.R a) 4)=some (Vf 143 #[ae v,ae s]))
  (first|exact I _ ⟨rfl,rfl,rfl,rfl⟩|exact D|exact H)
  (first
   |(go_at_call 73;refine L.mono ?_;rintro A x ⟨S,X,y⟩;have U:=aa S;have H:=l.out (w.drewN _) x X ⟨rfl,rfl,rfl,rfl⟩ y;obtain⟨u,Q,rfl,Y⟩:=S)
   |(go_at_call 143;refine (N (w.drewN _) ⟨rfl,rfl,rfl,rfl⟩).mono ?_;rintro A k ⟨e,m,rfl,f,b,h,g,i⟩;have D:=l.out (w.drewN _) k e ⟨rfl,rfl,rfl,rfl⟩ b;have L:=aa (K (w.drewN _) k e m ⟨rfl,rfl,rfl,rfl⟩ f b h g i)))
 all_goals (go_wp2_with fail;go_ret;exact U)
set_option maxHeartbeats 8000000
theorem lq {W:World}{p:Addr}(o:Obj)(h:W.cell? p=some v):(W.alloc o).cell? p=some v:=by
 have b:p.block<W.heap.size:=by
  rcases Nat.lt_or_ge p.block W.heap.size with a|a
  ·exact a
  ·simp[World.cell?,xI a]at h
 rw[<-h];exact zP (w:=W) (zS _ _ _ b)
theorem OD (W:World)(S:NP)(R:Nat->Nat)(x y:Nat)(hS:¬S W.heap.size):dQ (W.alloc (.cells #[ae (R x),ae (R y)] 103)) S R (some (aD W.heap.size 0)) [x,y]:=by
 have b:=ag.new W [ae (R x),ae (R y)] 103;intro j p a
 match j,a with
 |0,a=>simp at a;subst a;exact⟨_,0,rfl,b.lt,hS,b.cell 0⟩
 |1,a=>simp at a;subst a;exact⟨_,0,rfl,b.lt,hS,b.cell 1⟩
theorem VC (f:Nat->Me)(x y:Nat):orM f [x,y]=⟨max 1 (max (f x).n (f y).n),max 1 (max (f x).p (f y).p),max 1 ((f x).y+(f y).y),max 1 ((f x).z+(f y).z)⟩:=by
 simp only[orM,dA,aG,Me.mk.injEq];refine⟨?_,?_,?_,?_⟩<;>omega
theorem RU {b b3:Nat}(iha:uI a)(ihb:uI b)(hI:MkI w c q)(ha:a<c.T.length)(hb:b<c.T.length)(hP:aZ w)(hr:runeB r=true)(n1:¬c.S b1)(n2:¬c.S b2)(n3:¬c.S b3)(k1:ag w b1 [ae c.m] 95)(k2:ag w b2 [ae (c.R a)] 103)(k3:ag w b3 [ae (c.R b)] 103)(hq:q+aq (sz c.T a)+(sz c.T a).p+aq (sz c.T b)+1<=9000000000000000000)(hz:(aN (bf (sz c.T a) (sz c.T b))).z<=3000000000000):Calls prog 159 #[Vi r,ae b1,ae b2,ae b3] w (au w c (q+aq (sz c.T a)+(sz c.T a).p+aq (sz c.T b)+1) (aX (aJ (lg c.T a) (lg c.T b)) r) (aN (bf (sz c.T a) (sz c.T b)))):=by
 obtain⟨L,R,y4,a2,a1⟩:=nR hI ha;obtain⟨N,Z,y5,a4,a3⟩:=nR hI hb;obtain⟨ea,b0⟩:∃e,c.T[a]?=some e:=⟨_,zB ha⟩;obtain⟨f7,f2,m,f8,b4,B,_⟩:=hI.look b0;have y6:w.cell? (aD (c.R a) 3)=some (.bool m):=ag.cell b4 3;have y1:w.cell? (aD b1 0)=some (ae c.m):=k1.cell 0;have y2:w.cell? (aD b2 0)=some (ae (c.R a)):=k2.cell 0;have y3:w.cell? (aD b3 0)=some (ae (c.R b)):=k3.cell 0;have a6:=k1.lt;have b5:=k2.lt;have c1:=k3.lt;have oa:=hI.sz_one ha;have ob:=hI.sz_one hb;have c4:(aN (sz c.T a)).z+(sz c.T b).z+(aN (sz c.T b)).z<=3000000000000:=by
  have t2:=lJ (sz c.T a).z (sz c.T b).z;have m2:(sz c.T b).z<=(sz c.T a).z*(sz c.T b).z:=Nat.le_mul_of_pos_left _ oa.2.2.2;simp only[aN,bf]at hz ⊢;omega
 have e3:Hid (∀V:World,cW V w->Calls prog 143 #[Vi r,ae L,ae R] V (au V c (q+aq (sz c.T a)) (aX (lg c.T a) r) (aN (sz c.T a)))):=λV i=>iha V c q r L R (hI.below i.below) ha (hP.below i.below) hr ((i.cell _).trans y4) (by omega) (by omega);have d9:Hid (∀(V W:World) (F:MC) (j5:Nat),cW V w->MkI W F (q+aq (sz c.T a))->Gone V c W F->j5<F.T.length->lg F.T j5=aX (lg c.T a) r->sz F.T j5<=aN (sz c.T a) ->
   Calls prog 114 #[ae c.m,ae (F.R j5),ae (c.R b)] W (λC l=>au w c (q+aq (sz c.T a)+(sz c.T a).p) (aJ (aX (lg c.T a) r) (lg c.T b)) (bf (aN (sz c.T a)) (sz c.T b)) C l/\∃k,Gone V c l k)):=λV W F j5 i Q j M O G=>by
  have d1:aZ W:=j.pow (hI.below i.below) (hP.below i.below);have f9:(sz F.T j5).n<=(sz c.T a).p:=G.1;have e9:=j.len;have hc:=wU j5 W F (q+aq (sz c.T a)) b Q M (by omega) d1 (by omega);rw[j.m,j.R b hb,j.sz hb,j.lang hb]at hc;refine hc.mono ?_;rintro C l ⟨k,A,rfl,v,f,o,E,y⟩;exact⟨⟨k,A,rfl,v.more (by omega),(Gone.below i.below).trans (j.trans f),o,by rw[E,O],Me.trans y (kP G (Me.refl _))⟩,k,j.trans f⟩
 have P:Hid (∀(V d:World) (c':MC),cW V w->Gone V c d c'->d.cell? (aD b1 0)=some (ae c.m)/\d.cell? (aD b2 0)=some (ae (c.R a))/\d.cell? (aD b3 0)=some (ae (c.R b))/\d.cell? (aD (c.R a) 4)=some (Vf 143 #[ae L,ae R])/\d.cell? (aD (c.R a) 3)=some (.bool m)/\d.cell? (aD (c.R b) 4)=some (Vf 143 #[ae N,ae Z])):=λV d c' i hG=>
  ⟨(hG.cellS i (p:=(aD b1 0)) a6 n1).trans y1,(hG.cellS i (p:=(aD b2 0)) b5 n2).trans y2,(hG.cellS i (p:=(aD b3 0)) c1 n3).trans y3,(hG.cellS i (p:=(aD (c.R a) 4)) a2 a1).trans y4,(hG.cellS i (p:=(aD (c.R a) 3)) a2 a1).trans y6,(hG.cellS i (p:=(aD (c.R b) 4)) a4 a3).trans y5⟩
 have e7:Hid (∀V:World,cW V w->V.cell? (aD b1 0)=some (ae c.m)/\V.cell? (aD b2 0)=some (ae (c.R a))/\V.cell? (aD b3 0)=some (ae (c.R b))/\V.cell? (aD (c.R a) 4)=some (Vf 143 #[ae L,ae R])/\V.cell? (aD (c.R a) 3)=some (.bool m)/\V.cell? (aD (c.R b) 4)=some (Vf 143 #[ae N,ae Z])):=λV i=>P V V c i (Gone.refl _ _);have f0:=aa B;have b9:Hid (∀C w9,m=false->au w c (q+aq (sz c.T a)+(sz c.T a).p) (aJ (aX (lg c.T a) r) (lg c.T b)) (bf (aN (sz c.T a)) (sz c.T b)) C w9->au w c (q+aq (sz c.T a)+(sz c.T a).p+aq (sz c.T b)+1) (aX (aJ (lg c.T a) (lg c.T b)) r) (aN (bf (sz c.T a) (sz c.T b))) C w9):=λC w9 he h=>by
  obtain⟨c9,j9,h1,h2,h3,h4,h5,h6⟩:=h;refine⟨c9,j9,h1,h2.more (by omega),h3,h4,?_,?_⟩
  ·rw[h5,rK,zR (λh=>by have:=B.2 h;rw[he]at this;cases this)]
  ·refine Me.trans h6 ?_;have:=CY oa ob (X:=bf (aN (sz c.T a)) (sz c.T b)) (Y:=⟨0,0,0,0⟩) (Me.refl _) ⟨zW _,zW _,zW _,zW _⟩;refine Me.trans ⟨?_,?_,?_,?_⟩ this<;>simp only<;>omega
 have b6:Hid (∀(l:World) (k:MC) (A:Nat),m=true->MkI l k (q+aq (sz c.T a)+(sz c.T a).p)->Gone w c l k->A<k.T.length->lg k.T A=aJ (aX (lg c.T a) r) (lg c.T b)->sz k.T A<=bf (aN (sz c.T a)) (sz c.T b) ->
   (∀V:World,cW V l->Calls prog 143 #[Vi r,ae N,ae Z] V (au V k (q+aq (sz c.T a)+(sz c.T a).p+aq (sz c.T b)) (aX (lg c.T b) r) (aN (sz c.T b)))) /\
   (∀(V D:World) (s:MC) (J:Nat),cW V l->MkI D s (q+aq (sz c.T a)+(sz c.T a).p+aq (sz c.T b))->Gone V k D s->J<s.T.length->lg s.T J=aX (lg c.T b) r->sz s.T J<=aN (sz c.T b) ->
    Calls prog 61 #[ae c.m,Vs D.heap.size 2 2] (D.alloc (.cells #[ae (k.R A),ae (s.R J)] 103)) (λC d=>au w c (q+aq (sz c.T a)+(sz c.T a).p+aq (sz c.T b)+1) (aX (aJ (lg c.T a) (lg c.T b)) r) (aN (bf (sz c.T a) (sz c.T b))) C d/\(d.cell? (aD b1 0)=some (ae c.m)/\d.cell? (aD b2 0)=some (ae (c.R a))/\d.cell? (aD b3 0)=some (ae (c.R b))/\d.cell? (aD (c.R a) 4)=some (Vf 143 #[ae L,ae R])/\d.cell? (aD (c.R a) 3)=some (.bool m)/\d.cell? (aD (c.R b) 4)=some (Vf 143 #[ae N,ae Z])))) /\
   (∀(V d:World) (c':MC),cW V l->Gone V k d c'->d.cell? (aD b1 0)=some (ae c.m)/\d.cell? (aD b2 0)=some (ae (c.R a))/\d.cell? (aD b3 0)=some (ae (c.R b))/\d.cell? (aD (c.R a) 4)=some (Vf 143 #[ae L,ae R])/\d.cell? (aD (c.R a) 3)=some (.bool m)/\d.cell? (aD (c.R b) 4)=some (Vf 143 #[ae N,ae Z]))):=λl k A he v f o E y=>by
  have a5:aZ l:=f.pow hI hP;have g0:=f.len;have z:∀(V d:World) (c':MC),cW V l->Gone V k d c'->d.cell? (aD b1 0)=some (ae c.m)/\d.cell? (aD b2 0)=some (ae (c.R a))/\d.cell? (aD b3 0)=some (ae (c.R b))/\d.cell? (aD (c.R a) 4)=some (Vf 143 #[ae L,ae R])/\d.cell? (aD (c.R a) 3)=some (.bool m)/\d.cell? (aD (c.R b) 4)=some (Vf 143 #[ae N,ae Z]):=λV d c' i hG=>P w d c' ⟨rfl,rfl,rfl,rfl⟩ (f.trans ((Gone.below i.below).trans hG));have e6:=(z l l k ⟨rfl,rfl,rfl,rfl⟩ (Gone.refl _ _)).2.2.2.2.2;refine⟨λV i=>?_,λV D s J i H g T U K=>?_,z⟩
  ·have:=ihb V k (q+aq (sz c.T a)+(sz c.T a).p) r N Z (v.below i.below) (by omega) (a5.below i.below) hr (by rw[f.R b hb];exact (i.cell _).trans e6) (by rw[f.sz hb];omega) (by rw[f.sz hb];omega);rw[f.sz hb,f.lang hb]at this;exact this
  ·have d3:aZ D:=g.pow (v.below i.below) (a5.below i.below);have f5:=g.len;have I:Bw D (D.alloc (.cells #[ae (k.R A),ae (s.R J)] 103)):=(zE _ _).alloc (zA _) _;have f3:(sz s.T A).z<=(aN (sz c.T a)).z+(sz c.T b).z:=by rw[g.sz o];exact y.2.2.2
   have f4:(sz s.T J).z<=(aN (sz c.T b)).z:=K.2.2.2;have a7:=OD D s.S s.R A J (λh=>by have:=H.S_lt h;omega);rw[g.R A o]at a7;have hc:=AH (pc:=2) (H.below I) (d3.below I) (by omega) (ps:=[A,J]) (λx hx=>by simp at hx;rcases hx with rfl|rfl;omega;exact T) a7 (by simp only[aG];omega);rw[g.m,f.m]at hc;refine hc.mono ?_;rintro C w8 ⟨c8,j8,rfl,d2,e4,d5,e1,d0⟩;have c2:Gone V k w8 c8:=g.trans ((Gone.below I).trans e4);refine⟨⟨c8,j8,rfl,d2,f.trans ((Gone.below i.below).trans c2),d5,?_,?_⟩,z V w8 c8 i c2⟩
   ·rw[e1,rK,zX (B.1 he)];funext u;simp only[zO,xD,or_false,exists_eq_or_imp,exists_eq_left,Yg];rw[g.lang o,E,U]
   ·refine Me.trans d0 ?_;rw[VC];exact CY oa ob (by rw[g.sz o];exact y) K
 clear hI k1 k2 k3 n1 n2 n3 hP iha ihb hq hz a1 a3 hr B b4 b0 oa ob c4 y4 y5 y6 a2 a4;go_enter func159,ntmps159;go_wp2_with fail
 go_region_held3 (λd=>d.cell? (aD b1 0)=some (ae c.m)/\d.cell? (aD b2 0)=some (ae (c.R a))/\d.cell? (aD b3 0)=some (ae (c.R b))/\d.cell? (aD (c.R a) 4)=some (Vf 143 #[ae L,ae R])/\d.cell? (aD (c.R a) 3)=some (.bool m)/\d.cell? (aD (c.R b) 4)=some (Vf 143 #[ae N,ae Z]))
  (first|exact e7 _ ⟨rfl,rfl,rfl,rfl⟩|exact e5|exact b7)
  (first
   |(go_at_call 114;refine e2.mono ?_;rintro C l ⟨h6,s,g⟩;have H6:=aa h6;have b7:=P.out (w.drewN _) l s ⟨rfl,rfl,rfl,rfl⟩ g;obtain⟨k,A,rfl,h7⟩:=h6;have H7:=aa h7;clear h7 g)
   |(go_at_call 143;refine (e3 (w.drewN _) ⟨rfl,rfl,rfl,rfl⟩).mono ?_;rintro C W ⟨F,j5,rfl,Q,j,M,O,G⟩;have e5:=P.out (w.drewN _) W F ⟨rfl,rfl,rfl,rfl⟩ j;have e2:=aa (d9 (w.drewN _) W F j5 ⟨rfl,rfl,rfl,rfl⟩ Q j M O G);clear Q j M O G))
 obtain⟨z1,z2,z3,z4,z5,z6⟩:=b7;have f6:=eU z2;have e8:=eU z5;cases m with
 |false=>
  have HE:=aa (b9 _ _ rfl H6);go_wp2_with fail;go_ret;exact HE
 |true=>
  obtain⟨v,f,o,E,y⟩:=H7.out;have d4:=aa o;obtain⟨c0,c3,b8⟩:=b6.out l k A rfl v f o E y;have d6:=aa c0;have e0:=aa c3;have a8:=aa b8;have a0:=λn=>a8 (l.drewN n) (l.drewN n) k ⟨rfl,rfl,rfl,rfl⟩ (Gone.refl _ _);have a9:=aa a0;clear v f o E y c0 c3 b8 a0;go_wp2_with fail;refine yW (S:=λd:World=>d.cell? (aD b1 0)=some (ae c.m)/\d.cell? (aD b2 0)=some (ae (c.R a))/\d.cell? (aD b3 0)=some (ae (c.R b))/\d.cell? (aD (c.R a) 4)=some (Vf 143 #[ae L,ae R])/\d.cell? (aD (c.R a) 3)=some (.bool true)/\d.cell? (aD (c.R b) 4)=some (Vf 143 #[ae N,ae Z])) (by kernel_rfl) (a9 _) (λhHeld=>?_);refine tk 0 ?_;simp only[tS];refine tk 1 ?_;simp only[tS];refine tk 2 ?_;simp only[tS];refine tk 3 ?_;simp only[tS];refine tk 4 ?_;simp only[tS];refine tk 5 ?_;simp only[tS];refine tk 6 ?_;simp only[tS];refine di 7 (λKc hK=>?_);go_simp;refine (d6 (l.drewN _) ⟨rfl,rfl,rfl,rfl⟩).mono ?_;rintro C D ⟨s,J,rfl,H,g,T,U,K⟩;have t:=a8.out (l.drewN _) D s ⟨rfl,rfl,rfl,rfl⟩ g;have d7:=aa (e0 (l.drewN _) D s J ⟨rfl,rfl,rfl,rfl⟩ H g T U K);have f1:=g.R A d4;clear H g T U K;go_wp2_with fail;refine hK _ _ t (λhHeld=>?_);clear hK Kc
  try simp only[tS]
  refine di 8 (λKc hK=>?_);go_simp;refine hK _ _ ⟨(lq _ t.1),(lq _ t.2.1),(lq _ t.2.2.1),(lq _ t.2.2.2.1),(lq _ t.2.2.2.2.1),(lq _ t.2.2.2.2.2)⟩ (λhHeld=>?_);clear hK Kc
  try simp only[tS]
  refine di 9 (λKc hK=>?_);go_simp;refine d7.mono ?_;rintro C w8 ⟨h8,d8⟩;have H8:=aa h8;obtain⟨c8,j8,rfl,h9⟩:=h8;clear h9;go_wp2_with fail;refine hK _ _ d8 (λhHeld=>?_);clear hK Kc
  try simp only[tS]
  refine tk 10 ?_;simp only[tS];refine yV (by kernel_rfl) ?_ _;go_wp2_with fail;go_ret;exact H8
theorem xt (t:Int)(W:World)(h0:-1<=t)(h9:t<=5):Calls prog 117 #[Vi t] W λe w'=>e=.returned (Vi (bA t))/\∃k,w'=W.drewN k:=by
 by_cases h:0<t
 ·have a:bA t=t-1:=zX h;rw[a];go_enter func117,ntmps117;go_wp2_with fail;go_ret;exact⟨rfl,0,rfl⟩
 ·have a:bA t=t:=zR h;rw[a];go_enter func117,ntmps117;go_wp2_with fail;go_ret;exact⟨rfl,0,rfl⟩
theorem QW {m n:Int}(hm0:0<=m)(hm5:m<=5)(hn:n=-1\/(0<n/\m<=n/\n<=5)):0<=bA m/\bA m<=5/\(bA n=-1\/(bA m<=bA n/\bA n<=5)):=by
 unfold bA
 split<;>split<;>omega
theorem QX {b3 b4:Nat}{m n:Int}(iha:uI a)(hI:MkI w c q)(ha:a<c.T.length)(hP:aZ w)(hr:runeB r=true)(hm0:0<=m)(hm5:m<=5)(hn:n=-1\/(0<n/\m<=n/\n<=5))(n1:¬c.S b1)(n2:¬c.S b2)(n3:¬c.S b3)(n4:¬c.S b4)(k1:ag w b1 [ae c.m] 95)(k2:ag w b2 [ae (c.R a)] 103)(k3:ag w b3 [Vi m] 3)(k4:ag w b4 [Vi n] 3)(hq:q+aq (sz c.T a)+1+(sz c.T a).p<=9000000000000000000)(hz:(aN (sz c.T a)).z<=3000000000000):Calls prog 116 #[Vi r,ae b1,ae b2,ae b3,ae b4] w (au w c (q+aq (sz c.T a)+1+(sz c.T a).p) (aJ (aX (lg c.T a) r) (dB (lg c.T a) (bA m) (bA n))) (bf (aN (sz c.T a)) (cZ (sz c.T a)))):=by
 obtain⟨E,F,U,X,S⟩:=nR hI ha;have y1:w.cell? (aD b1 0)=some (ae c.m):=k1.cell 0;have y2:w.cell? (aD b2 0)=some (ae (c.R a)):=k2.cell 0;have y3:w.cell? (aD b3 0)=some (Vi m):=k3.cell 0;have y4:w.cell? (aD b4 0)=some (Vi n):=k4.cell 0;have a0:=k1.lt;have R:=k2.lt;have T:=k3.lt;have W:=k4.lt;obtain⟨f0,f5,fn⟩:=QW hm0 hm5 hn;have N:∀(A:World) (c':MC),Gone w c A c'->A.cell? (aD b1 0)=some (ae c.m)/\A.cell? (aD b2 0)=some (ae (c.R a))/\A.cell? (aD b3 0)=some (Vi m)/\A.cell? (aD b4 0)=some (Vi n)/\A.cell? (aD (c.R a) 4)=some (Vf 143 #[ae E,ae F]):=λA c' u=>
  ⟨(u.cellS ⟨rfl,rfl,rfl,rfl⟩ (p:=(aD b1 0)) a0 n1).trans y1,(u.cellS ⟨rfl,rfl,rfl,rfl⟩ (p:=(aD b2 0)) R n2).trans y2,(u.cellS ⟨rfl,rfl,rfl,rfl⟩ (p:=(aD b3 0)) T n3).trans y3,(u.cellS ⟨rfl,rfl,rfl,rfl⟩ (p:=(aD b4 0)) W n4).trans y4,(u.cellS ⟨rfl,rfl,rfl,rfl⟩ (p:=(aD (c.R a) 4)) X S).trans U⟩
 have b0:Hid (∀V:World,cW V w->V.cell? (aD b1 0)=some (ae c.m)/\V.cell? (aD b2 0)=some (ae (c.R a))/\V.cell? (aD b3 0)=some (Vi m)/\V.cell? (aD b4 0)=some (Vi n)/\V.cell? (aD (c.R a) 4)=some (Vf 143 #[ae E,ae F])):=λV l=>N V c (Gone.below l.below);have a1:Hid (∀V:World,Calls prog 117 #[Vi m] V λe A=>e=.returned (Vi (bA m))/\∃k,A=V.drewN k):=λV=>xt m V (by omega) (by omega);have b7:Hid (∀V:World,Calls prog 117 #[Vi n] V λe A=>e=.returned (Vi (bA n))/\∃k,A=V.drewN k):=λV=>xt n V (by omega) (by omega);have a3:Hid (∀V:World,cW V w->Calls prog 143 #[Vi r,ae E,ae F] V (λo g=>∃x,o=.returned (ae x)/\Hid (au w c (q+aq (sz c.T a)) (aX (lg c.T a) r) (aN (sz c.T a)) (.returned (ae x)) g)/\(g.cell? (aD b1 0)=some (ae c.m)/\g.cell? (aD b2 0)=some (ae (c.R a))/\g.cell? (aD b3 0)=some (Vi m)/\g.cell? (aD b4 0)=some (Vi n)/\g.cell? (aD (c.R a) 4)=some (Vf 143 #[ae E,ae F])))):=λV l=>by
  refine (iha V c q r E F (hI.below l.below) ha (hP.below l.below) hr ((l.cell _).trans U) (by omega) (by omega)).mono ?_;rintro o g ⟨B,i,rfl,D,d,j,v,s⟩;have u:Gone w c g B:=(Gone.below l.below).trans d;exact⟨_,rfl,⟨B,i,rfl,D,u,j,v,s⟩,N g B u⟩
 have a9:Hid (∀(V g:World) (x:Nat),au w c (q+aq (sz c.T a)) (aX (lg c.T a) r) (aN (sz c.T a)) (.returned (ae x)) g->cW V g->Calls prog 74 #[ae c.m,ae (c.R a),Vi (bA m),Vi (bA n)] V (λo h=>∃y,o=.returned (ae y)/\Hid (∃b i t,x=b.R i/\y=b.R t/\MkI h b (q+aq (sz c.T a)+1)/\Gone w c h b/\i<b.T.length/\t<b.T.length/\lg b.T i=(aX (lg c.T a) r)/\sz b.T i<=(aN (sz c.T a))/\lg b.T t=(dB (lg c.T a) (bA m) (bA n))/\sz b.T t<=(cZ (sz c.T a)))/\(h.cell? (aD b1 0)=some (ae c.m)/\h.cell? (aD b2 0)=some (ae (c.R a))/\h.cell? (aD b3 0)=some (Vi m)/\h.cell? (aD b4 0)=some (Vi n)/\h.cell? (aD (c.R a) 4)=some (Vf 143 #[ae E,ae F])))):=λV g x Y l=>by
  obtain⟨B,i,e5,D,d,j,v,s⟩:=Y;have e6:x=B.R i:=by injection e5 with e;injection e with e;injection e with e;injection e
  have b6:=d.len;have J:=D.below l.below;have L:aZ V:=(d.pow hI hP).below l.below;have P:=rt J (by omega) (show a<B.T.length by omega) L f0 f5 fn;rw[d.m,d.R a ha,d.sz ha,d.lang ha]at P;refine P.mono ?_;rintro o h ⟨b,t,rfl,G,C,K,I,H⟩;have f:Gone g B h b:=(Gone.below l.below).trans C;have u:Gone w c h b:=d.trans f;have b8:=f.len;exact⟨_,rfl,⟨b,i,t,by rw[f.R i j];exact e6,rfl,G,u,by omega,K,by rw[f.lang j];exact v,by rw[f.sz j];exact s,I,H⟩,N h b u⟩
 have a6:Hid (∀V:World,cW V w->Calls prog 74 #[ae c.m,ae (c.R a),Vi (bA m),Vi (bA n)] V (λo g=>∃y,o=.returned (ae y)/\Hid (au w c (q+1) (dB (lg c.T a) (bA m) (bA n)) (cZ (sz c.T a)) (.returned (ae y)) g)/\(g.cell? (aD b1 0)=some (ae c.m)/\g.cell? (aD b2 0)=some (ae (c.R a))/\g.cell? (aD b3 0)=some (Vi m)/\g.cell? (aD b4 0)=some (Vi n)/\g.cell? (aD (c.R a) 4)=some (Vf 143 #[ae E,ae F])))):=λV l=>by
  refine (rt (hI.below l.below) (by omega) ha (hP.below l.below) f0 f5 fn).mono ?_;rintro o g ⟨B,i,rfl,D,d,j,v,s⟩;have u:Gone w c g B:=(Gone.below l.below).trans d;exact⟨_,rfl,⟨B,i,rfl,D,u,j,v,s⟩,N g B u⟩
 have c2:Hid (∀(V g:World) (y:Nat),au w c (q+1) (dB (lg c.T a) (bA m) (bA n)) (cZ (sz c.T a)) (.returned (ae y)) g->cW V g->Calls prog 143 #[Vi r,ae E,ae F] V (λo h=>∃x,o=.returned (ae x)/\Hid (∃b i t,x=b.R i/\y=b.R t/\MkI h b (q+aq (sz c.T a)+1)/\Gone w c h b/\i<b.T.length/\t<b.T.length/\lg b.T i=(aX (lg c.T a) r)/\sz b.T i<=(aN (sz c.T a))/\lg b.T t=(dB (lg c.T a) (bA m) (bA n))/\sz b.T t<=(cZ (sz c.T a)))/\(h.cell? (aD b1 0)=some (ae c.m)/\h.cell? (aD b2 0)=some (ae (c.R a))/\h.cell? (aD b3 0)=some (Vi m)/\h.cell? (aD b4 0)=some (Vi n)/\h.cell? (aD (c.R a) 4)=some (Vf 143 #[ae E,ae F])))):=λV g y Y l=>by
  obtain⟨B,i,e5,D,d,j,v,s⟩:=Y;have e6:y=B.R i:=by injection e5 with e;injection e with e;injection e with e;injection e
  have b6:=d.len;have J:=D.below l.below;have L:aZ V:=(d.pow hI hP).below l.below;have c1:=(N g B d).2.2.2.2;have P:=iha V B (q+1) r E F J (by omega) L hr (by rw[d.R a ha];exact (l.cell _).trans c1) (by rw[d.sz ha];omega) (by rw[d.sz ha];omega);rw[d.sz ha,d.lang ha]at P;refine P.mono ?_;rintro o h ⟨b,t,rfl,G,C,K,I,H⟩;have f:Gone g B h b:=(Gone.below l.below).trans C;have u:Gone w c h b:=d.trans f;have b8:=f.len;exact⟨_,rfl,⟨b,t,i,rfl,by rw[f.R i j];exact e6,G.more (by omega),u,K,by omega,I,H,by rw[f.lang j];exact v,by rw[f.sz j];exact s⟩,N h b u⟩
 have a4:Hid (∀(V h:World) (x y:Nat),(∃b i t,x=b.R i/\y=b.R t/\MkI h b (q+aq (sz c.T a)+1)/\Gone w c h b/\i<b.T.length/\t<b.T.length/\lg b.T i=(aX (lg c.T a) r)/\sz b.T i<=(aN (sz c.T a))/\lg b.T t=(dB (lg c.T a) (bA m) (bA n))/\sz b.T t<=(cZ (sz c.T a)))->cW V h->Calls prog 114 #[ae c.m,ae x,ae y] V (λo M=>∃z,o=.returned (ae z)/\Hid (au w c (q+aq (sz c.T a)+1+(sz c.T a).p) (aJ (aX (lg c.T a) r) (dB (lg c.T a) (bA m) (bA n))) (bf (aN (sz c.T a)) (cZ (sz c.T a))) o M)/\(M.cell? (aD b1 0)=some (ae c.m)/\M.cell? (aD b2 0)=some (ae (c.R a))/\M.cell? (aD b3 0)=some (Vi m)/\M.cell? (aD b4 0)=some (Vi n)/\M.cell? (aD (c.R a) 4)=some (Vf 143 #[ae E,ae F])))):=λV h x y Y l=>by
  obtain⟨b,i,t,rfl,rfl,G,C,j,K,v,s,I,H⟩:=Y;have J:=G.below l.below;have L:aZ V:=(C.pow hI hP).below l.below;have c4:(sz b.T i).n<=(sz c.T a).p:=s.1;have P:=wU i V b (q+aq (sz c.T a)+1) t J j K L (by omega);rw[C.m]at P;refine P.mono ?_;rintro o M ⟨c7,j7,rfl,c0,a2,b5,a5,a8⟩;have u:Gone w c M c7:=C.trans ((Gone.below l.below).trans a2);exact⟨_,rfl,⟨c7,j7,rfl,c0.more (by omega),u,b5,by rw[a5,v,I],Me.trans a8 (kP s H)⟩,N M c7 u⟩
 go_enter func116,ntmps116;go_wp2_with fail
 go_region_held3 (λA=>A.cell? (aD b1 0)=some (ae c.m)/\A.cell? (aD b2 0)=some (ae (c.R a))/\A.cell? (aD b3 0)=some (Vi m)/\A.cell? (aD b4 0)=some (Vi n)/\A.cell? (aD (c.R a) 4)=some (Vf 143 #[ae E,ae F]))
  (first|exact b0 _ ⟨rfl,rfl,rfl,rfl⟩|exact b9|exact Q|exact Z)
  (first
   |(go_at_call 114;refine (a4 _ h _ _ O (by exact⟨rfl,rfl,rfl,rfl⟩)).mono ?_;rintro o M ⟨z7,rfl,H7,b9⟩)
   |(go_at_call 117;refine (a1 _).mono ?_;rintro o w4 ⟨rfl,k4,rfl⟩)
   |(go_at_call 117;refine (b7 _).mono ?_;rintro o w4 ⟨rfl,k4,rfl⟩)
   |(go_at_call 74;refine (a9 _ g _ c3 (by exact⟨rfl,rfl,rfl,rfl⟩)).mono ?_;rintro o h ⟨y6,rfl,O,Q⟩)
   |(go_at_call 74;refine (a6 _ (by exact⟨rfl,rfl,rfl,rfl⟩)).mono ?_;rintro o g ⟨U,rfl,a7,Z⟩)
   |(go_at_call 143;refine (c2 _ g _ a7 (by exact⟨rfl,rfl,rfl,rfl⟩)).mono ?_;rintro o h ⟨y6,rfl,O,Q⟩)
   |(go_at_call 143;refine (a3 _ (by exact⟨rfl,rfl,rfl,rfl⟩)).mono ?_;rintro o g ⟨U,rfl,c3,Z⟩))
 all_goals (go_wp2_with fail;go_ret;exact H7)
def MC.wY (c:MC)(Y:Nat->Prop):MC:={ c with X:=λg=>c.X g\/Y g }
abbrev MC.wX (c:MC)(o:Option Nat):MC:=c.wY (λg=>some g=o)
theorem VG (c:MC):c.wX none=c:=by
 unfold MC.wX MC.wY;have:(λg=>c.X g\/some g=none)=c.X:=by funext g;simp
 rw[this]
structure HoldY (w:World)(c:MC)(wr:World)(ci:MC)(q:Nat)(Y:Nat->Prop):Prop where
 intro ::
 mk:MkI wr (ci.wY Y) q
 gone:Gone w c wr ci
abbrev dk (w:World)(c:MC)(wr:World)(ci:MC)(q:Nat)(o:Option Nat):Prop:=HoldY w c wr ci q (λg=>some g=o)
theorem dk.start (h:MkI w c q):dk w c w c q none:=⟨by have:=VG c;unfold MC.wX at this;rw[this];exact h,Gone.refl _ _⟩
theorem Gone.unY {c':MC}(h:Gone w (c.wY Y) w' c'):Gone w c w' { c' with X:=c.X } where
 m:=h.m
 bm:=h.bm
 T:=h.T
 R:=h.R
 KM:=h.KM
 newK:=h.newK
 but:=⟨h.but.os,h.but.tape,h.but.output,h.but.size,λg b d=>by
  by_cases a:Y g
  ·exact h.keepX g b (.inr a)
  ·exact h.but.block g b (by
    rintro (e|e|e)
    ·exact d (.inl e)
    ·exact d (.inr e)
    ·exact a e)⟩
 X:=rfl
 keepX:=λg b a=>h.keepX g b (.inl a)
theorem HoldY.call {q':Nat}{L:Lg}{Z:Me}{r:Ending}(h:HoldY w c wr ci q Y)(hg:au wr (ci.wY Y) q' L Z r w5):∃c5 j5,r=.returned (ae (c5.R j5))/\HoldY w c w5 c5 q' Y/\Gone wr ci w5 c5/\j5<c5.T.length/\lg c5.T j5=L/\sz c5.T j5<=Z/\∀g,Y g->w5.heap[g]?=wr.heap[g]?:=by
 obtain⟨c5,j5,rfl,i,a,d,j,f⟩:=hg;have b:=a.unY;refine⟨{ c5 with X:=ci.X },j5,rfl,⟨?_,h.gone.trans b⟩,b,d,j,f,λg hg=>a.keepX g (h.mk.xs g (.inr hg)).1 (.inr hg)⟩;have e:({ c5 with X:=ci.X }:MC).wY Y=c5:=by
  have:=a.X;cases c5;simp only[MC.wY,MC.mk.injEq,yB]at this ⊢;exact this.symm
 rw[e];exact i
theorem HoldY.below {w wr w':World}{c ci:MC}{q:Nat}{Y:NP}(h:HoldY w c wr ci q Y)(k:Bw wr w'):HoldY w c w' ci q Y:=⟨h.mk.below k,h.gone.trans (Gone.below k)⟩
theorem MkI.seven (h:MkI w c q):7<=w.heap.size:=by
 have b:=h.low c.bm (.inl (.inl rfl));have a:=h.Mp_lt (.inl rfl);omega
theorem HoldY.turn {w w5 w6:World}{c c5:MC}{q:Nat}{Y Y':NP}(h:HoldY w c w5 c5 q Y)(ho:∀g,Y g->w.heap.size<=g)(h7:7<=w.heap.size)(hs:w5.heap.size<=w6.heap.size)(hb:∀k,k<w5.heap.size->¬Y k->w6.heap[k]?=w5.heap[k]?)(hos:w6.os=w5.os)(ht:w6.tape=w5.tape)(hou:w6.output=w5.output)
  (hm:∀g,Y' g->(Y g\/w5.heap.size<=g)/\g<w6.heap.size):HoldY w c w6 c5 q Y':=by
 have j:=h.gone.but.size;refine⟨?_,?_⟩
 ·have:=h.mk.turn (w':=w6) (X':=λg=>c5.X g\/Y' g) hs (λg a i=>hb g a (λe=>i (.inr e))) (by
   rintro g (d|d)
   ·have:=h.mk.xs g (.inl d);exact⟨.inl (.inl d),by omega,h.mk.low g (.inr (.inl d))⟩
   ·obtain⟨b,l⟩:=hm g d;refine⟨?_,l,?_⟩
    ·rcases b with b|b
     ·exact .inl (.inr b)
     ·exact .inr b
    ·rcases b with b|b
     ·have:=ho g b;omega
     ·omega)
  exact this
 ·have a:=h.gone;exact {
   m:=a.m
   bm:=a.bm
   T:=a.T
   R:=a.R
   KM:=a.KM
   newK:=a.newK
   but:=⟨hos.trans a.but.os,ht.trans a.but.tape,hou.trans a.but.output,by omega,λg f i=>(hb g (by omega) (λe=>by have:=ho g e;omega)).trans (a.but.block g f i)⟩
   X:=a.X
   keepX:=λg f d=>(hb g (by omega) (λe=>by have:=ho g e;omega)).trans (a.keepX g f d) }
theorem dk.append {w6:World}{c5:MC}{e s m:Nat}{v':Value}{xs ys:LV}(ob:Obj)(h:dk w c w5 c5 q v.ownBlock)(h7:7<=w.heap.size)(hown:w5.ownsRow w.heap.size e s v n xs)(hown':w6.ownsRow w.heap.size e s v' m ys)(hg:(w5.alloc ob).grownBy w6 v.ownBlock)(hm:∀g,v'.ownBlock=some g->v.ownBlock=some g\/(w5.alloc ob).heap.size<=g):dk w c w6 c5 q v'.ownBlock:=by
 have d:(w5.alloc ob).heap.size=w5.heap.size+1:=by simp
 have i:=hg.size;refine HoldY.turn h (λg e=>(hown.lt g e.symm).1) h7 (by omega) (λk f a=>(hg.block k (by omega) a).trans (zS _ _ _ f)) hg.os hg.tape hg.output (λg e=>⟨?_,(hown'.lt g e.symm).2⟩);rcases hm g e.symm with b|b
 ·exact .inl b.symm
 ·exact .inr (by omega)
theorem wF {B e s:Nat}{xs:LV}(h:w.ownsRow B e s v n xs)(k:∀g,some g=v.ownBlock->w'.heap[g]?=w.heap[g]?):w'.ownsRow B e s v n xs:=by
 refine⟨h.1,?_⟩;rcases h.2 with f|⟨g,a,b,rfl,d,c,r⟩
 ·exact .inl f
 ·exact .inr ⟨g,a,b,rfl,d,(k g rfl).trans c,r⟩
theorem dk.done (hI:MkI w c q){q':Nat}(h:dk w c wr ci q' v.ownBlock)(hown:wr.ownsRow w.heap.size 103 1 v n (l.map λp=>ae (ci.R p))) :
  MkI wr ci q'/\Gone w c wr ci/\∃pa pc,v=.slice pa l.length pc/\dQ wr ci.S ci.R pa l:=by
 have b:=h.gone;have i:MkI wr ci q':=by
  have:=h.mk.turn (w':=wr) (X':=ci.X) (zA _) (λ_ _ _=>rfl) (λg a=>⟨.inl (.inl a),(h.mk.xs g (.inl a)).1,h.mk.low g (.inr (.inl a))⟩);exact this
 refine⟨i,b,?_⟩;have k:l.length=n:=by have:=hown.1;simpa using this
 rcases hown.2 with⟨rfl,rfl⟩|⟨g,d,m,rfl,o,s,r⟩
 ·have:l=[]:=zq.1 k;subst this;exact⟨none,0,rfl,λj p f=>by simp at f⟩
 ·refine⟨some (aD g 0),d,by rw[k],λj p f=>?_⟩;have a:=h.mk.xs g (.inr rfl);refine⟨g,0,rfl,a.1,?_,?_⟩
  ·rintro (e|e)
   ·exact a.2 e
   ·rw[b.X]at e;have:=(hI.xs g e).1;omega
  ·have:=hown.cells (g:=g) rfl j (ae (ci.R p)) (by rw[zg,f];rfl);rw[zl]at this;exact this
def aT {α β:Type}(P:α->β->Prop):List α->List β->Prop
 | [],[]=>True
 |a::l,b::m=>P a b/\aT P l m
 |_,_=>False
theorem aT.len {α β:Type}{P:α->β->Prop}:∀{l:List α} {m:List β},aT P l m->l.length=m.length
 | [],[],_=>rfl
 |_::_,_::_,h=>by rw[zG,zG,aT.len h.2]
 | [],_::_,h=>h.elim
 |_::_,[],h=>h.elim
theorem aT.snoc {α β:Type}{P:α->β->Prop}{a:α}{b:β}:∀{l:List α} {m:List β},aT P l m->P a b->aT P (l++[a]) (m++[b])
 | [],[],_,h=>⟨h,trivial⟩
 |_::_,_::_,h,k=>⟨h.1,aT.snoc h.2 k⟩
 | [],_::_,h,_=>h.elim
 |_::_,[],h,_=>h.elim
theorem aT.imp {α β:Type}{P Q:α->β->Prop}:∀{l:List α} {m:List β},aT P l m->(∀a b,a∈l->P a b->Q a b)->aT Q l m
 | [],[],_,_=>trivial
 |a::_,_::_,h,k=>⟨k _ _ (by simp) h.1,aT.imp h.2 (λx y c=>k x y (by simp[c]))⟩
 | [],_::_,h,_=>h.elim
 |_::_,[],h,_=>h.elim
theorem aT.left {α β:Type}{P:α->β->Prop}:∀{l:List α} {m:List β},aT P l m->∀a∈l,∃b∈m,P a b
 | [],[],_,a,c=>by simp at c
 |x::l,y::m,h,a,c=>by
  rcases zO.1 c with rfl|c
  ·exact⟨y,by simp,h.1⟩
  ·obtain⟨b,d,e⟩:=aT.left h.2 a c;exact⟨b,by simp[d],e⟩
 | [],_::_,h,_,_=>h.elim
 |_::_,[],h,_,_=>h.elim
theorem aT.right {α β:Type}{P:α->β->Prop}:∀{l:List α} {m:List β},aT P l m->∀b∈m,∃a∈l,P a b
 | [],[],_,a,c=>by simp at c
 |x::l,y::m,h,a,c=>by
  rcases zO.1 c with rfl|c
  ·exact⟨x,by simp,h.1⟩
  ·obtain⟨b,d,e⟩:=aT.right h.2 a c;exact⟨b,by simp[d],e⟩
 | [],_::_,h,_,_=>h.elim
 |_::_,[],h,_,_=>h.elim
theorem aT.sum {f g:Nat->Nat}:∀{l m:List Nat},aT (λa b=>f a<=g b) l m->aG f l<=aG g m
 | [],[],_=>zA _
 |a::l,b::m,h=>by unfold aG;have:=h.1;have:=aT.sum h.2;omega
 | [],_::_,h=>h.elim
 |_::_,[],h=>h.elim
theorem aT.max {f g:Nat->Nat}:∀{l m:List Nat},aT (λa b=>f a<=g b) l m->dA f l<=dA g m
 | [],[],_=>zA _
 |a::l,b::m,h=>by unfold dA;have:=h.1;have:=aT.max h.2;omega
 | [],_::_,h=>h.elim
 |_::_,[],h=>h.elim
theorem aT.orM {f g:Nat->Me}{l m:List Nat}(h:aT (λa b=>f a<=g b) l m):orM f l<=orM g m:=by
 have i:=aT.max (f:=λa=>(f a).n) (g:=λa=>(g a).n) (h.imp λa b _ k=>k.1);have e:=aT.max (f:=λa=>(f a).p) (g:=λa=>(g a).p) (h.imp λa b _ k=>k.2.1);have d:=aT.sum (f:=λa=>(f a).y) (g:=λa=>(g a).y) (h.imp λa b _ k=>k.2.2.1);have c:=aT.sum (f:=λa=>(f a).z) (g:=λa=>(g a).z) (h.imp λa b _ k=>k.2.2.2);refine⟨?_,?_,?_,?_⟩<;>simp only[Go.Proofs.YtebnghmioamheaaGreatDoor.orM]<;>omega
def js (F:α->Lg)(G:α->Me)(Q:Nat->Nat)(w:World)(c:MC)(l:List α)(j:Nat)(lv iv:Value)(wr:World):Prop:=∃(i:Nat) (ci:MC) (ds:List Nat),iv=Vi (i:Int)/\i<=l.length/\l.length-i<=j/\dk w c wr ci (Q i) lv.ownBlock/\(∀d∈ds,d<ci.T.length)/\aT (λd a=>lg ci.T d=F a/\sz ci.T d<=G a) ds (l.take i)/\wr.ownsRow w.heap.size 103 1 lv i (ds.map λp=>ae (ci.R p))
theorem js.start {α:Type}{F:α->Lg}{G:α->Me}{Q:Nat->Nat}{w:World}{c:MC}{l:List α}(hI:MkI w c (Q 0)){W:World}(hb:Bw w W):js F G Q w c l l.length (Vz) (Vi 0) W :=
 ⟨0,c,[],rfl,zW _,by omega,HoldY.below (dk.start hI) hb,λd a=>by simp at a,trivial,zZ _ _ _ _⟩
theorem js.call {α:Type}{F:α->Lg}{G:α->Me}{Q:Nat->Nat}{w:World}{c:MC}{l:List α}{i:Nat}{ci:MC}{ds:List Nat}{lv:Value}{wr:World}{a:α}{r:Ending}{w5:World}(h7:7<=w.heap.size)(hh:dk w c wr ci (Q i) lv.ownBlock)(hd:∀d∈ds,d<ci.T.length)(h2:aT (λd a=>lg ci.T d=F a/\sz ci.T d<=G a) ds (l.take i))(hown:wr.ownsRow w.heap.size 103 1 lv i (ds.map λp=>ae (ci.R p)))
  (ha:l[i]?=some a) (hg:au wr (ci.wX lv.ownBlock) (Q (i+1)) (F a) (G a) r w5):∃x,r=.returned (ae x)/\w5.ownsRow w.heap.size 103 1 lv i (ds.map λp=>ae (ci.R p))/\w.heap.size<=w5.heap.size/\But c.S w w5/\∀v' w6,w6.ownsRow w.heap.size 103 1 v' (i+1) ((ds.map λp=>ae (ci.R p))++[ae x])->(w5.alloc (.cells #[ae x] 103)).grownBy w6 lv.ownBlock->(∀g,v'.ownBlock=some g->lv.ownBlock=some g\/(w5.alloc (.cells #[ae x] 103)).heap.size<=g)->js F G Q w c l (l.length-(i+1)) v' (Vi ((i+1:Nat):Int)) w6:=by
 obtain⟨v,D,rfl,j,f,A,s,t,q⟩:=HoldY.call hh hg;have e:=wF hown q;have y:=f.len;have B:i<l.length:=(zC.1 ha).1;have m:(ds.map λp=>ae (ci.R p))=ds.map λp=>ae (v.R p):=List.map_congr_left λp z=>by rw[f.R p (hd p z)]
 refine⟨_,rfl,e,j.gone.but.size,j.gone.but,λv' w6 u n C=>?_⟩;refine⟨i+1,v,ds++[D],rfl,by omega,zA _,dk.append _ j h7 e u n C,?_,?_,?_⟩
 ·intro d o;rcases zM.1 o with h|h
  ·have:=hd d h;omega
  ·simp at h;omega
 ·rw[dU ha];refine aT.snoc (h2.imp λd b k h=>?_) ⟨s,t⟩;rw[f.lang (hd d k),f.sz (hd d k)];exact h
 ·rw[xH,<-m];exact u
theorem ue (w:World)(x:Nat):∀j u,[ae x][j]?=some u->(w.alloc (.cells #[ae x] 103)).cell? (((aD w.heap.size 0):Addr).add j)=some u:=Gv w x
theorem Yi {pc:Nat}{pa:OA}(ih:∀a∈l,uI a)(hI:MkI w c q)(hl:∀a∈l,a<c.T.length)(hP:aZ w)(hr:runeB r=true)(n2:¬c.S b2)(k1:ag w b1 [.slice pa l.length pc] 110)(k2:ag w b2 [ae c.m] 95)(hpa:dQ w c.S c.R pa l)(hq:q+aG (λa=>aq (sz c.T a)) l+1<=9000000000000000000)(hz:aG (λa=>(aN (sz c.T a)).z) l<=3000000000000):Calls prog 103 #[Vi r,ae b1,ae b2] w (au w c (q+aG (λa=>aq (sz c.T a)) l+1) (λu=>∃a∈l,aX (lg c.T a) r u) (orM (λa=>aN (sz c.T a)) l)):=by
 obtain⟨i0,hi,b6,a6,a5⟩:=zz ia;have y1:w.cell? (aD b1 0)=some (.slice pa l.length pc):=k1.cell 0;have y2:w.cell? (aD b2 0)=some (ae c.m):=k2.cell 0;have c4:=k1.lt;have S:=k2.lt;have c5:l.length<=3000000000000:=zJ (oh (f:=λa=>(aN (sz c.T a)).z) (λa v=>by
  have R:=(hI.sz_one (hl a v)).2.2.2;have z:=qr (sz c.T a).z;simp only[aV]at R;simp only[aN];omega)) hz
 have a1:∀i a,l[i]?=some a->q+aG (λa=>aq (sz c.T a)) (l.take (i+1))=q+aG (λa=>aq (sz c.T a)) (l.take i)+aq (sz c.T a)/\aG (λa=>aq (sz c.T a)) (l.take (i+1))<=aG (λa=>aq (sz c.T a)) l:=λi a v=>by
  have R:aG (λa=>aq (sz c.T a)) l=aG (λa=>aq (sz c.T a)) (l.take (i+1))+aG (λa=>aq (sz c.T a)) (l.drop (i+1)):=by rw[<-fY,zj]
  rw[dU v,fY]at R ⊢;simp only[aG]at R ⊢;omega
 have X:∀a∈l,(aN (sz c.T a)).z<=3000000000000:=λa v=>zJ (uT (f:=λa=>(aN (sz c.T a)).z) v) hz;have O:Hid (∀(wr:World) (lv:Value) (i:Nat) (m:MC) (y:List Nat) (a:Nat),l[i]?=some a->dk w c wr m (q+aG (λa=>aq (sz c.T a)) (l.take i)) lv.ownBlock->(∀d∈y,d<m.T.length)->aT (λd a=>lg m.T d=aX (lg c.T a) r/\sz m.T d<=aN (sz c.T a)) y (l.take i)->wr.ownsRow w.heap.size 103 1 lv i (y.map λp=>ae (m.R p)) ->
   ∃k b,wr.cell? (aD (c.R a) 4)=some (Vf 143 #[ae k,ae b])/\c.R a<wr.heap.size/\Calls prog 143 #[Vi r,ae k,ae b] wr (λT L=>∃x,T=.returned (ae x)/\L.ownsRow w.heap.size 103 1 lv i (y.map λp=>ae (m.R p))/\w.heap.size<=L.heap.size/\Hid (∀V w6,w6.ownsRow w.heap.size 103 1 V (i+1) ((y.map λp=>ae (m.R p))++[ae x])->(L.alloc (.cells #[ae x] 103)).grownBy w6 lv.ownBlock->(∀g,V.ownBlock=some g->lv.ownBlock=some g\/(L.alloc (.cells #[ae x] 103)).heap.size<=g)->js (λa=>aX (lg c.T a) r) (λa=>aN (sz c.T a)) (λi=>q+aG (λa=>aq (sz c.T a)) (l.take i)) w c l (l.length-(i+1)) V (Vi ((i+1:Nat):Int)) w6))):=λwr lv i m y a v s I z n=>by
  have N:=hl a (zU v);have a7:=s.gone.len;obtain⟨e1,e2⟩:=a1 i a v;have b9:aZ wr:=s.gone.pow hI hP;obtain⟨k,b,P,E,_⟩:=nR s.mk (i:=a) (show a<m.T.length by omega);have hR:(m.wX lv.ownBlock).R a=c.R a:=s.gone.R a N;have hS:sz (m.wX lv.ownBlock).T a=sz c.T a:=s.gone.sz N;have hL:lg (m.wX lv.ownBlock).T a=lg c.T a:=s.gone.lang N;have t:=ih a (zU v) wr (m.wX lv.ownBlock) _ r k b s.mk (show a<m.T.length by omega) b9 hr P (by rw[hS];omega) (by rw[hS];exact X a (zU v));rw[hR]at P E;rw[hS,hL,<-e1]at t;refine⟨k,b,P,E,t.mono λT L hg=>?_⟩;obtain⟨x,R,h3,h4,_,h5⟩:=js.call (F:=λa=>aX (lg c.T a) r) (G:=λa=>aN (sz c.T a)) (Q:=λi=>q+aG (λa=>aq (sz c.T a)) (l.take i)) hI.seven s I z n v hg;exact⟨x,R,h3,h4,h5⟩
 have a2:Hid (∀(wr:World) (m:MC) (Z:Nat) (o:Option Nat) (i p:Nat),dk w c wr m Z o->l[i]?=some p->∃M A,pa=some ⟨M,A,none⟩/\M<wr.heap.size/\wr.cell? ⟨M,A+i,none⟩=some (ae (c.R p))):=λwr m Z o i p s U=>by
  obtain⟨M,A,e,Y,c2,a3⟩:=hpa i p U;have hs:=s.gone.but.size;exact⟨M,A,e,by omega,(s.gone.but.cell (p:=⟨M,A+i,none⟩) Y c2).trans a3⟩
 have HM:Hid (∀(wr:World) (m:MC) (Z:Nat) (o:Option Nat),dk w c wr m Z o->wr.cell? (aD b2 0)=some (ae c.m)/\b2<wr.heap.size/\w.heap.size<=wr.heap.size):=λwr m Z o s=>⟨(s.gone.but.cell (p:=(aD b2 0)) S n2).trans y2,by have:=s.gone.but.size;omega,s.gone.but.size⟩;have W:Hid (∀(wr:World) (lv:Value) (m:MC) (y:List Nat),dk w c wr m (q+aG (λa=>aq (sz c.T a)) l) lv.ownBlock->(∀d∈y,d<m.T.length)->aT (λd a=>lg m.T d=aX (lg c.T a) r/\sz m.T d<=aN (sz c.T a)) y l->wr.ownsRow w.heap.size 103 1 lv l.length (y.map λp=>ae (m.R p)) ->
   Calls prog 61 #[ae c.m,lv] wr (au w c (q+aG (λa=>aq (sz c.T a)) l+1) (λu=>∃a∈l,aX (lg c.T a) r u) (orM (λa=>aN (sz c.T a)) l))):=λwr lv m y s I z n=>by
  obtain⟨b8,K,d2,a4,rfl,H⟩:=dk.done hI s n;have P:=AH (pc:=a4) b8 (K.pow hI hP) (by omega) I H (zJ (aT.sum (f:=λa=>(sz m.T a).z) (g:=λa=>(aN (sz c.T a)).z) (z.imp λa b _ h=>h.2.2.2.2)) hz);rw[K.m]at P;refine P.mono ?_;rintro T w9 ⟨c9,j9,rfl,c0,a9,b4,c3,b0⟩;refine⟨c9,j9,rfl,c0,K.trans a9,b4,?_,Me.trans b0 (aT.orM (z.imp λa b _ h=>h.2))⟩;rw[c3];funext u;refine propext ⟨?_,?_⟩
  ·rintro⟨d,J,hu⟩;obtain⟨a,v,h,_⟩:=z.left d J;exact⟨a,v,by rw[<-h];exact hu⟩
  ·rintro⟨a,v,hu⟩;obtain⟨d,J,h,_⟩:=z.right a v;exact⟨d,J,by rw[h];exact hu⟩
 have c1:Hid (js (λa=>aX (lg c.T a) r) (λa=>aN (sz c.T a)) (λi=>q+aG (λa=>aq (sz c.T a)) (l.take i)) w c l l.length (Vz) (Vi 0) w):=js.start (by simpa [aG]using hI) (zE _ _);go_enter func103,ntmps103;go_wp2_with fail
 go_loopg [5,10] l.length (λj lv iv wr=>js (λa=>aX (lg c.T a) r) (λa=>aN (sz c.T a)) (λi=>q+aG (λa=>aq (sz c.T a)) (l.take i)) w c l j lv iv wr)
 case atStart=>exact c1
 case round=>
  obtain⟨i,m,y,rfl,d0,hj,s,I,z,n⟩:=hrel;have k0:(0:Int)<=(i:Int):=zK _;by_cases E:i<l.length
  ·have k1:(i:Int)<(l.length:Int):=by omega
   obtain⟨p,U⟩:∃p,l[i]?=some p:=⟨_,zB E⟩;obtain⟨M,A,rfl,Y,a3⟩:=a2.out wr m _ _ i p s U;obtain⟨k,b,c6,c8,t⟩:=O.out wr _ i m y p U s I z n;have HC:=aa t;go_wp2_with fail;refine HC.mono ?_;rintro T L ⟨x,rfl,D,c7,HN⟩;have a8:=aa (D.alloc (.cells #[ae x] 103));go_wp2_with (at_builtin;refine ft rfl _ _ 110 rfl w.heap.size 103 i0 (.pointer none) 1 8 underlying110 hi b6 a6 a5 rfl (by decide) _ _ _ rfl a8 (aD L.heap.size 0) 1 1 [ae x] rfl rfl (ue _ _) (by simp[Value.oneCell']) (by unfold maxLen;omega) (by omega) (by simp;omega) ?_;intro V w6 C B a0;have H6:=aa (HN V w6 C B a0))
   go_roundg (l.length-(i+1))
   all_goals first|omega|exact H6
  ·have d1:decide ((i:Int)<(l.length:Int))=false:=zI (by omega);have b5:i=l.length:=by omega
   subst b5;rw[zQ]at z;simp only[zQ]at s;obtain⟨z1,z2,z3⟩:=HM.out wr m _ _ s;have HE:=aa (W wr _ m y s I z n);go_wp2_with fail;refine HE.mono ?_;intro T w9 h9;have b3:=aa h9;obtain⟨c9,j9,rfl,b7⟩:=h9;go_wp2_with fail;go_ret;exact b3
theorem Pl {B:Me}(hA:aV<=A)(hB:aV<=B):aq A+A.p+aq B+2<=aq (bf A B):=by
 obtain⟨i,d,h,c⟩:=hA;obtain⟨a,j,b,f⟩:=hB;simp only[aV]at i d h c a j b f;simp only[aq,bf];obtain⟨P,g⟩:∃P,max (A.p+B.n) B.p=P:=⟨_,rfl⟩;rw[g];have e:A.y+B.y-1=(A.y-1)+(B.y-1)+1:=by omega
 rw[e,ye,ye];have k:(A.p+4)*(A.y-1)<=(P+4)*(A.y-1):=zn _ (by omega);have l:(B.p+4)*(B.y-1)<=(P+4)*(B.y-1):=zn _ (by omega);omega
theorem SP (hA:aV<=A):aq A+2<=aq (bB A):=by
 obtain⟨e,b,d,a⟩:=hA;simp only[aV]at e b d a;simp only[aq,bB];have c:A.y+1-1=(A.y-1)+1:=by omega
 rw[c,ye];omega
theorem Pm (hA:aV<=A):aq A+1+A.p+1<=aq (cZ A):=by
 obtain⟨e,b,d,a⟩:=hA;simp only[aV]at e b d a;simp only[aq,cZ];have c:A.y+1-1=(A.y-1)+1:=by omega
 rw[c,ye];have f:(A.p+4)*(A.y-1)<=(A.p+1+4)*(A.y-1):=zn _ (by omega);omega
theorem Fx {f:Nat->Me}{P:Nat}:∀{l:List Nat},(∀a∈l,aV<=f a)->dA (λa=>(f a).p) l<=P->aG (λa=>aq (f a)) l+(P+4)*l.length<=(P+4)*aG (λa=>(f a).y) l+2*l.length
 | [],_,_=>by simp[aG]
 |a::l,h,hp=>by
  obtain⟨k,e,j,d⟩:=h a (by simp);simp only[aV]at k e j d;simp only[dA]at hp;have i:=Fx (f:=f) (P:=P) (l:=l) (λb c=>h b (by simp[c])) (by omega);simp only[aG,zG,aq]at i ⊢;have m:((f a).p+4)*((f a).y-1)<=(P+4)*((f a).y-1):=zn _ (by omega);have g:(P+4)*(f a).y=(P+4)*((f a).y-1)+(P+4):=by
   conv=>lhs;rw[show (f a).y=((f a).y-1)+1 by omega,ye]
   omega
  rw[ye,ye,g];omega
theorem VW (h:∀a∈l,aV<=f a)(h1:l.length≠1):aG (λa=>aq (f a)) l+2<=aq (orM f l):=by
 cases l with
 |nil=>simp[aG,aq]
 |cons a l=>
  cases l with
  |nil=>simp at h1
  |cons b l=>
   obtain⟨P,j⟩:∃P,max 1 (dA (λa=>(f a).p) (a::b::l))=P:=⟨_,rfl⟩;have c:=Fx (f:=f) (P:=P) h (by omega);have g:=(h a (by simp)).2.2.1;simp only[aV]at g;simp only[aq,orM];rw[j];obtain⟨Y,e⟩:∃Y,aG (λa=>(f a).y) (a::b::l)=Y:=⟨_,rfl⟩;have d:1<=Y:=by rw[<-e];simp only[aG];omega
   rw[e]at c ⊢;rw[Nat.max_eq_right d];have m:(P+4)*Y=(P+4)*(Y-1)+(P+4):=by
    conv=>lhs;rw[show Y=(Y-1)+1 by omega,ye]
    omega
   have i:(P+4)*(a::b::l).length=(P+4)*l.length+(P+4)*2:=by rw[zG,zG,<-ye]
   have k:4*l.length<=(P+4)*l.length:=zn _ (by omega);simp only[zG]at c i;simp only[aq]at c;omega
theorem SQ (h:runeB r=true):-9223372036854775808<=r/\r<=9223372036854775807:=by
 simp only[runeB,zY]at h;omega
theorem Am:∀i,uI i:=by
 intro i
 induction i using Nat.strongRecOn with
 |ind i ih=>
  intro w c q r k b t hi hP U T hq R;obtain⟨e,he⟩:∃e,c.T[i]?=some e:=⟨_,zB hi⟩;obtain⟨pa,pc,en,k0,b0,F,cp,h1,a8,a9,n0,nk,nb,hK,hB,A⟩:=t.rest i e he;have j:=t.wf i e he;have v:∀a∈e.parts,a<c.T.length:=λa D=>by have:=j.2 a D;omega
  have p:sz c.T i=e.size (sz c.T):=pg he j.2;have z:lg c.T i=e.lang (lg c.T):=t.lang he;obtain⟨a4,a0⟩:=SQ U;have Y:w.cell? (aD (c.R i) 4)=some (Vf 143 #[ae k0,ae b0]):=ag.cell h1 4;rw[T]at Y;have ek:k=k0/\b=b0:=by
   injection Y with h;injection h with _ _ h;injection h with h;injection h with h h';injection h' with h' _;injection h with h;injection h with h;injection h with h;injection h' with h';injection h' with h';injection h' with h';exact⟨h,h'⟩
  obtain⟨rfl,rfl⟩:=ek;have o:∀Q,q<=Q->Q+1<=q+aq (sz c.T i)->(∀args w,(callFunc F args).run prog w=.ok (.enter F args) w)->Calls prog F (#[Vi r]++cp) w (au w c Q (aX (lg c.T i) r) (aN (sz c.T i)))->Calls prog 143 #[Vi r,ae k,ae b] w (au w c (q+aq (sz c.T i)) (aX (lg c.T i) r) (aN (sz c.T i))):=λQ h1 h2 eg a2=>
   (We t hi (by omega) h1 a4 a0 hK hB nk eg a2).mono λr9 Z C=>C.more h2
  cases e with
  |set s=>
   obtain⟨X,b2,la,lc,rfl,rfl,S,P,B,I,a3,_⟩:=A;have g:aq (sz c.T i)=2:=by rw[p];rfl
   refine o q (zA _) (by omega) (enters_of func111 (by kernel_rfl) rfl) ?_;refine (Wh t U B I a3 (xU j.1.2) (L:=aX (lg c.T i) r) (by rw[z];exact Wg)).mono λr9 Z C=>?_;obtain⟨H,E,M,J,N,K,G,O⟩:=C;refine⟨H,E,M,J,N,K,G,Me.trans O ?_⟩;rw[p];show aV<=aN aV
   exact⟨by decide,by decide,by decide,by decide⟩
  |empty=>
   obtain⟨X,rfl,rfl,S,B⟩:=A;have g:aq (sz c.T i)=2:=by rw[p];rfl
   refine o q (zA _) (by omega) (enters_of func63 (by kernel_rfl) rfl) ?_;refine (Pz t B).mono λr9 Z C=>?_;obtain⟨H,E,M,J,N,K,G,O⟩:=C;refine⟨H,E,M,J,N,K,?_,Me.trans O ?_⟩
   ·rw[G,z];funext u;refine propext ⟨λh=>h.elim,λh=>?_⟩;cases h
   ·rw[p];show aV<=aN aV
    exact⟨by decide,by decide,by decide,by decide⟩
  |pair x y=>
   obtain⟨X,b2,b3,rfl,rfl,S,P,n3,B,I,k3⟩:=A;have hx:=v x (by simp[RE.parts]);have hy:=v y (by simp[RE.parts]);have g:=Pl (t.sz_one hx) (t.sz_one hy);have d:sz c.T i=bf (sz c.T x) (sz c.T y):=p;rw[d]at hq R o ⊢;refine o (q+aq (sz c.T x)+(sz c.T x).p+aq (sz c.T y)+1) (by omega) (by omega) (enters_of func159 (by kernel_rfl) rfl) ?_;have:=RU (ih x (j.2 x (by simp[RE.parts]))) (ih y (j.2 y (by simp[RE.parts]))) t hx hy hP U S P n3 B I k3 (by omega) R;rw[z];exact this
  |or l=>
   obtain⟨X,b2,a6,a7,rfl,rfl,_,P,B,I,W⟩:=A;have V:∀a∈l,aV<=sz c.T a:=λa D=>t.sz_one (v a D);have g:=VW (f:=sz c.T) V j.1.1;have d:sz c.T i=orM (sz c.T) l:=p;rw[d]at hq R o ⊢;refine o (q+aG (λa=>aq (sz c.T a)) l+1) (by omega) (by omega) (enters_of func103 (by kernel_rfl) rfl) ?_;have a5:aG (λa=>(aN (sz c.T a)).z) l<=3000000000000:=by
    have t2:aG (λa=>bZ (sz c.T a).z) l<=bZ (aG (λa=>(sz c.T a).z) l):=uV l;have u2:=dY (show aG (λa=>(sz c.T a).z) l<=max 1 (aG (λa=>(sz c.T a).z) l) by omega);simp only[aN,orM]at R ⊢;omega
   have:=Yi (l:=l) (λa D=>ih a (j.2 a D)) t v hP U P B I W (by omega) a5;refine this.mono λr9 Z C=>?_;obtain⟨H,E,M,J,N,K,G,O⟩:=C;refine⟨H,E,M,J,N,K,?_,Me.trans O (WN _ _)⟩;rw[G,z];rfl
  |not a=>
   obtain⟨X,b2,rfl,rfl,S,P,B,I⟩:=A;have D:=v a (by simp[RE.parts]);have g:=SP (t.sz_one D);have d:sz c.T i=bB (sz c.T a):=p;rw[d]at hq R o ⊢;refine o (q+aq (sz c.T a)+1) (by omega) (by omega) (enters_of func115 (by kernel_rfl) rfl) ?_;have:=Wi (ih a (j.2 a (by simp[RE.parts]))) t D hP U S P B I (by omega) R;refine this.mono λr9 Z C=>?_;obtain⟨H,E,M,J,N,K,G,O⟩:=C;refine⟨H,E,M,J,N,K,?_,Me.trans O (Uk _)⟩;rw[G,z];rfl
  |many a m n=>
   obtain⟨X,b2,b3,b4,rfl,rfl,S,P,n3,n4,B,I,k3,k4⟩:=A;have D:=v a (by simp[RE.parts]);have g:=Pm (t.sz_one D);have d:sz c.T i=cZ (sz c.T a):=p;rw[d]at hq R o ⊢;obtain⟨w1,w2,w3⟩:=j.1;refine o (q+aq (sz c.T a)+1+(sz c.T a).p) (by omega) (by omega) (enters_of func116 (by kernel_rfl) rfl) ?_;have a1:(aN (sz c.T a)).z<=3000000000000:=by
    have:=dY (show (sz c.T a).z<=(sz c.T a).z+1 by omega);simp only[aN,cZ]at R ⊢;omega
   have:=QX (ih a (j.2 a (by simp[RE.parts]))) t D hP U w1 w2 w3 S P n3 n4 B I k3 k4 (by omega) a1;refine this.mono λr9 Z C=>?_;obtain⟨H,E,M,J,N,K,G,O⟩:=C;refine⟨H,E,M,J,N,K,?_,Me.trans O (Qs _)⟩;rw[G,z];exact (GJ w1 (by rcases w3 with h|h;exact .inl h;exact .inr h.1)).symm
def BV (s:List (Int×Int)):Lg:=λu=>∃x,u=[x]/\memB s x=true
theorem Uv:BV []=eA:=by
 funext u;refine propext ⟨?_,λh=>h.elim⟩;rintro⟨x,_,h⟩;simp[memB]at h
theorem Qy (h:Canon s):∀x∈gK s,-9223372036854775808<=x/\x<=9223372036854775807:=λx b=>by
 obtain⟨y,a,e⟩:=Rw b;obtain⟨d,c,_⟩:=h.1 y a;simp only[runeB,zY]at d c;rcases e with rfl|rfl<;>omega
theorem Qz (hI:MkI w c q):Calls prog 70 #[ae c.m,.slice la 0 lc] w (au w c q (BV []) aV):=by
 have e:Hid (∀a,Bw w a->au w c q (BV []) aV (.returned (ae (c.R 0))) a):=λa b=>⟨c,0,rfl,hI.below b,Gone.below b,(zC.1 hI.t0).1,by rw[Uv];exact hI.none,by rw[hI.sz0];exact Me.refl _⟩;have f:w.cell? (aD c.m 1)=some (ae (c.R 0)):=hI.mb.cell 1;have d:=hI.mb.lt;go_enter func70,ntmps70;go_wp2_with fail;go_ret;exact e _ (((zE _ _).alloc (zA _) _).alloc (by simp) _)
theorem Nf {l:LQ}(hI:MkI w c q)(hP:aZ w)(hq:q<=9000000000000000000)(hl:Rd w la l)(hla:∀b o,la=some ⟨b,o,none⟩->b<w.heap.size/\¬c.S b)(hcan:Canon l)(hl0:l.length≠0)(hl9:l.length<=400000):Calls prog 70 #[ae c.m,.slice la l.length lc] w (au w c (q+1) (BV l) aV):=by
 obtain⟨i0,hi,a0,a6,a4⟩:=zz jo;obtain⟨W0,J,K,I,E,b6⟩:=jK (rfl:w.heap.size=_) [ae c.m] 95 [.slice la l.length lc] 24;have b4:=hI.mb.lt;have HI:=aa hI;have HP:=aa hP;have HL:=aa hl;have U:=aa hla;have HC:=aa hcan;have Z:=aa J;have V:=aa K;have a3:=aa I;have Q:=aa E;have c2:W0.cell? ⟨w.heap.size+1,0,none⟩=some (.slice la l.length lc):=E.cell 0;have hz:((l.length:Int)==0)=false:=zD.2 (by omega);have a9:(l.length==0)=false:=zD.2 hl0;clear hI hP hl hla hcan J K I E;go_enter func70,ntmps70;go_wp2_with fail;rw[Z.out];generalize hS:w.heap.size=S at *;go_wp2_with fail
 go_loopg [5,18] l.length (λj ev iv wr=>YV w S la lc c.m l j ev iv wr)
 case atStart=>exact⟨0,rfl,zW _,by omega,zZ _ _ _ _,V,a3,Q⟩
 case round=>
  obtain⟨i,rfl,b1,hj,d,f,s,n⟩:=hrel;have k0:(0:Int)<=(i:Int):=zK _;have b0:S+2<=wr.heap.size:=by have:=n.lt;omega
  by_cases B:i<l.length
  ·have k1:(i:Int)<(l.length:Int):=by omega
   obtain⟨b,b5,rfl,hb,H,A⟩:=HL.out i l[i] (zB B);generalize hx:l[i]=x at H A;have HX:Hid (l.take (i+1)=l.take i++[x]):=dU (by rw[zB B,hx]);obtain⟨z,u⟩:=x;simp only at H A;rw[hS]at hb;rw[<-f.cell (p:=⟨b,_,none⟩) hb]at H A;have b3:b<wr.heap.size:=by omega
   have a8:=aa d;have a2:=aa s;have a1:=aa n;have a7:=aa f;have b2:=aa hx;clear hx s n f;go_wp2_with (at_builtin;refine yD _ rfl _ _ 61 rfl (S+2) 3 i0 (.int .i64 0) 1 8 underlying61 hi a0 a6 a4 rfl (by decide) _ _ _ rfl ((d.alloc _).alloc _) ⟨wr.heap.size+1,0,none⟩ 2 2 [.int .i64 z,.int .i64 u] rfl rfl (Og _ _ _ _) (et _ _) (by unfold maxLen;omega) (by omega) (by simp;omega) ?_;intro v' w3 D m _);have R2:=((a7.alloc (by omega) (.cells #[.int .i64 z,.int .i64 u] 92)).alloc (by simp;omega) (.cells #[.int .i64 z,.int .i64 u] 3)).grown m (by simp;omega) (λk e=>by have:=(d.lt k e).1;omega);have v:∀k,k<S+2->some k≠Value.ownBlock u5:=λk hk e=>by have:=(d.lt k e.symm).1;omega
   have R:=aa (((a2.alloc (.cells #[.int .i64 z,.int .i64 u] 92)).alloc (.cells #[.int .i64 z,.int .i64 u] 3)).grown m (v _ (by omega)));have a5:=aa (((a1.alloc (.cells #[.int .i64 z,.int .i64 u] 92)).alloc (.cells #[.int .i64 z,.int .i64 u] 3)).grown m (v _ (by omega)))
   go_roundg (gk-1)
   case measure=>omega
   case rel=>
    refine⟨i+1,by go_num,by omega,by omega,?_,R2,R,a5⟩;have e2:bj (gK (l.take (i+1)))=bj (gK (l.take i))++[.int .i64 z,.int .i64 u]:=by rw[HX.out,Of];simp[bj]
    rw[e2,show 2*(i+1)=2*i+2 by omega];exact D
  ·have d1:decide ((i:Int)<(l.length:Int))=false:=zI (by omega);have d2:decide (i<l.length)=false:=zI B;have P:i=l.length:=by omega
   subst P;rw[zQ]at d;obtain⟨ea,ec,rfl,t,_⟩:=Rx d (Qy HC.out);have e1:wr.cell? ⟨S,0,none⟩=some (ae c.m):=s.cell 0;have C:Hid (Below w.heap.size w (wr.alloc (.cells #[.int .i64 0,.int .i64 0,.slice none 0 0,.bool false,.func (.func 111) #[] #[ae (S+1),ae S]] 113))):=by
    show Below w.heap.size w _
    rw[hS];exact f.alloc (show S<=wr.heap.size by omega) _
   have L:Below wr.heap.size wr (wr.alloc (.cells #[.int .i64 0,.int .i64 0,.slice none 0 0,.bool false,.func (.func 111) #[] #[ae (S+1),ae S]] 113)):=(zE _ _).alloc (zA _) _;have hn:∀g,S<=g->g≠wr.heap.size->¬(c.S g\/g=wr.heap.size):=λg H A y=>by
    rcases y with y|y
    ·have:=HI.S_lt y;omega
    ·exact A y
   have M:Rd (wr.alloc (.cells #[.int .i64 0,.int .i64 0,.slice none 0 0,.bool false,.func (.func 111) #[] #[ae (S+1),ae S]] 113)) la l:=Rd.below HL C;have G:=aa (sk (e:=.set l) (n0:=0) (pa:=none) (pc:=0) (en:=false) (F:=111) (cp:=#[ae (S+1),ae S]) (x:=wr.heap.size) (mc:=ec) HI C (HP.below C) ⟨λh=>hl0 (by rw[h];rfl),HC⟩ (λa W=>by simp[RE.parts]at W) (by omega) (ag.new wr _ 113) (by
     refine⟨λh=>(by cases h),?_⟩;rintro⟨x,e,_⟩;cases e) (λj p hj=>by simp[RE.parts]at hj)
    ⟨S+1,S,la,lc,rfl,rfl,hn _ (by omega) (by omega),hn _ (by omega) (by omega),n.alloc _,s.alloc _,M,λb o e=>by
     obtain⟨H,A⟩:=U.out b o e;refine⟨by simp;omega,?_⟩;rintro (y|y)
     ·exact A y
     ·omega⟩ (t.below L) (show (gK l).length<=1000000 by rw[Rv];omega) (by simp[RE.parts]) hq)
   have T:Hid (∀r N,jF w c (q+1) (.set l) r N->au w c (q+1) (BV l) aV r N):=λr N O=>O.at (zE _ _) (λa W=>by simp[RE.parts]at W) rfl (Me.refl _);clear d t s n f L hn M;go_wp2_with fail;refine G.mono ?_;intro r N O;have X:=aa (T r N O);obtain⟨c9,j9,rfl,Y⟩:=O;clear Y;go_wp2_with fail;go_ret;exact X
theorem Di {l:LQ}(hI:MkI w c q)(hP:aZ w)(hq:q<=9000000000000000000)(hl:Rd w la l)(hla:∀b o,la=some (aD b o)->b<w.heap.size/\¬c.S b)(hcan:Canon l)(hl9:l.length<=400000):Calls prog 70 #[ae c.m,.slice la l.length lc] w (au w c (q+1) (BV l) aV):=by
 by_cases a:l.length=0
 ·have:l=[]:=zq.1 a;subst this;exact (Qz hI).mono λr d h=>h.more (by omega)
 ·exact Nf hI hP hq hl hla hcan a hl9
theorem UR {pc:Nat}{pa:OA}(hI:MkI w c q)(hl:∀a∈l,a<c.T.length)(hP:aZ w)(hpa:dQ w c.S c.R pa l)(hq:q+l.length+2<=9000000000000000000)(hz:aG (λa=>(sz c.T a).z) l<=3000000000000):Calls prog 72 #[ae c.m,.slice pa l.length pc] w (au w c (q+l.length+2) (λu=>∀a∈l,lg c.T a u) (bB (orM (λa=>bB (sz c.T a)) l))):=by
 obtain⟨i0,hi,b3,b5,b9⟩:=zz ia;have c3:l.length<=3000000000000:=zJ (oh (f:=λa=>(sz c.T a).z) (λa s=>(hI.sz_one (hl a s)).2.2.2)) hz;have O:Hid (∀(wr:World) (lv:Value) (i:Nat) (k:MC) (r:List Nat) (a:Nat),l[i]?=some a->dk w c wr k (q+i) lv.ownBlock->(∀d∈r,d<k.T.length)->aT (λd a=>lg k.T d=fZ (lg c.T a)/\sz k.T d<=bB (sz c.T a)) r (l.take i)->wr.ownsRow w.heap.size 103 1 lv i (r.map λp=>ae (k.R p)) ->
   Calls prog 73 #[ae c.m,ae (c.R a)] wr (λH J=>∃x,H=.returned (ae x)/\J.ownsRow w.heap.size 103 1 lv i (r.map λp=>ae (k.R p))/\w.heap.size<=J.heap.size/\Hid (∀v' w6,w6.ownsRow w.heap.size 103 1 v' (i+1) ((r.map λp=>ae (k.R p))++[ae x])->(J.alloc (.cells #[ae x] 103)).grownBy w6 lv.ownBlock->(∀g,v'.ownBlock=some g->lv.ownBlock=some g\/(J.alloc (.cells #[ae x] 103)).heap.size<=g)->js (λa=>fZ (lg c.T a)) (λa=>bB (sz c.T a)) (λi=>q+i) w c l (l.length-(i+1)) v' (Vi ((i+1:Nat):Int)) w6))):=λwr lv i k r a s n I v m=>by
  have L:=hl a (zU s);have b2:i<l.length:=(zC.1 s).1;have b4:=n.gone.len;have c0:aZ wr:=n.gone.pow hI hP;have hR:(k.wX lv.ownBlock).R a=c.R a:=n.gone.R a L;have hM:(k.wX lv.ownBlock).m=c.m:=n.gone.m;have hS:sz (k.wX lv.ownBlock).T a=sz c.T a:=n.gone.sz L;have hL:lg (k.wX lv.ownBlock).T a=lg c.T a:=n.gone.lang L;have y:=oQ (a:=a) n.mk (by omega) (show a<k.T.length by omega) c0;rw[hR,hM,hS,hL]at y;refine y.mono λH J U=>?_;obtain⟨x,h1,h3,h4,_,h5⟩:=js.call (F:=λa=>fZ (lg c.T a)) (G:=λa=>bB (sz c.T a)) (Q:=λi=>q+i) hI.seven n I v m s U;exact⟨x,h1,h3,h4,h5⟩
 have V:Hid (∀(wr:World) (k:MC) (W:Nat) (o:Option Nat) (i p:Nat),dk w c wr k W o->l[i]?=some p->∃S t,pa=some (aD S t)/\S<wr.heap.size/\wr.cell? ⟨S,t+i,none⟩=some (ae (c.R p))):=λwr k W o i p n hp=>by
  obtain⟨S,t,e,Z,b6,a1⟩:=hpa i p hp;have hs:=n.gone.but.size;exact⟨S,t,e,by omega,(n.gone.but.cell (p:=⟨S,t+i,none⟩) Z b6).trans a1⟩
 have X:Hid (∀(wr:World) (lv:Value) (k:MC) (r:List Nat),dk w c wr k (q+l.length) lv.ownBlock->(∀d∈r,d<k.T.length)->aT (λd a=>lg k.T d=fZ (lg c.T a)/\sz k.T d<=bB (sz c.T a)) r l->wr.ownsRow w.heap.size 103 1 lv l.length (r.map λp=>ae (k.R p)) ->
   Calls prog 61 #[ae c.m,lv] wr (λH D=>∃x,H=.returned (ae x)/\Hid (au w c (q+l.length+1) (λu=>∃a∈l,fZ (lg c.T a) u) (orM (λa=>bB (sz c.T a)) l) (.returned (ae x)) D))):=λwr lv k r n I v m=>by
  obtain⟨a4,T,c6,b7,rfl,E⟩:=dk.done hI n m;have Y:=AH (pc:=b7) a4 (T.pow hI hP) (by omega) I E (zJ (aT.sum (f:=λa=>(sz k.T a).z) (g:=λa=>(sz c.T a).z) (v.imp λa b _ h=>h.2.2.2.2)) hz);rw[T.m]at Y;refine Y.mono ?_;rintro H D ⟨c9,j9,rfl,P,B,N,K,M⟩;refine⟨_,rfl,c9,j9,rfl,P,T.trans B,N,?_,Me.trans M (aT.orM (v.imp λa b _ h=>h.2))⟩;rw[K];funext u;refine propext ⟨?_,?_⟩
  ·rintro⟨d,R,hu⟩;obtain⟨a,s,h,_⟩:=v.left d R;exact⟨a,s,by rw[<-h];exact hu⟩
  ·rintro⟨a,s,hu⟩;obtain⟨d,R,h,_⟩:=v.right a s;exact⟨d,R,by rw[h];exact hu⟩
 have a0:Hid (∀(D:World) (x:Nat),au w c (q+l.length+1) (λu=>∃a∈l,fZ (lg c.T a) u) (orM (λa=>bB (sz c.T a)) l) (.returned (ae x)) D->Calls prog 73 #[ae c.m,ae x] D (au w c (q+l.length+2) (λu=>∀a∈l,lg c.T a u) (bB (orM (λa=>bB (sz c.T a)) l)))):=λD x U=>by
  obtain⟨c9,j9,e9,P,B,N,K,M⟩:=U;have e6:x=c9.R j9:=by injection e9 with e;injection e with e;injection e with e;injection e
  subst e6;have Y:=oQ P (by omega) N (B.pow hI hP);rw[B.m]at Y;refine Y.mono ?_;rintro H J ⟨c5,j5,rfl,b8,a8,c2,a5,a9⟩;refine⟨c5,j5,rfl,b8,B.trans a8,c2,?_,Me.trans a9 (mt M)⟩;rw[a5,K];funext u;refine propext ⟨λh a s=>Classical.byContradiction λhn=>h ⟨a,s,hn⟩,?_⟩;rintro h ⟨a,s,hn⟩;exact hn (h a s)
 have c7:Hid (∀(wr:World) (k:MC) (W:Nat) (o:Option Nat),dk w c wr k W o->w.heap.size<=wr.heap.size):=λwr k W o n=>n.gone.but.size;have a6:Hid (js (λa=>fZ (lg c.T a)) (λa=>bB (sz c.T a)) (λi=>q+i) w c l l.length (Vz) (Vi 0) w):=js.start (by simpa using hI) (zE _ _);go_enter func72,ntmps72;go_wp2_with fail
 go_loopg [5,10] l.length (λj lv iv wr=>js (λa=>fZ (lg c.T a)) (λa=>bB (sz c.T a)) (λi=>q+i) w c l j lv iv wr)
 case atStart=>exact a6
 case round=>
  obtain⟨i,k,r,rfl,b2,hj,n,I,v,m⟩:=hrel;have k0:(0:Int)<=(i:Int):=zK _;by_cases a3:i<l.length
  ·have k1:(i:Int)<(l.length:Int):=by omega
   obtain⟨p,hp⟩:∃p,l[i]?=some p:=⟨_,zB a3⟩;obtain⟨S,t,rfl,Z,a1⟩:=V.out wr k _ _ i p n hp;have HC:=aa (O wr _ i k r p hp n I v m);go_wp2_with fail;refine HC.mono ?_;rintro H J ⟨x,rfl,A,c4,HN⟩;have b0:=aa (A.alloc (.cells #[ae x] 103));go_wp2_with (at_builtin;refine ft rfl _ _ 110 rfl w.heap.size 103 i0 (.pointer none) 1 8 underlying110 hi b3 b5 b9 rfl (by decide) _ _ _ rfl b0 (aD J.heap.size 0) 1 1 [ae x] rfl rfl (ue _ _) (by simp[Value.oneCell']) (by unfold maxLen;omega) (by omega) (by simp;omega) ?_;intro v' w6 z C a2;have H6:=aa (HN v' w6 z C a2))
   go_roundg (l.length-(i+1))
   all_goals first|omega|exact H6
  ·have d1:decide ((i:Int)<(l.length:Int))=false:=zI (by omega);have a7:i=l.length:=by omega
   subst a7;rw[zQ]at v;have HE:=aa (X wr _ k r n I v m);go_wp2_with fail;refine HE.mono ?_;rintro H D ⟨x,rfl,U⟩;have HN:=aa (a0 D x U);go_wp2_with fail;refine HN.mono ?_;intro H D h9;have b1:=aa h9;obtain⟨c9,j9,rfl,c1⟩:=h9;go_wp2_with fail;go_ret;exact b1
