import Derived.Test.YtebnghmioamheaaGreatDoorM40
import Derived.Test.YtebnghmioamheaaGreatDoorM22
set_option maxHeartbeats 4000000
set_option maxRecDepth 100000
set_option linter.all false
namespace Go.Proofs.YtebnghmioamheaaGreatDoor
open Go.Shelf Go.RowKit Go.Lib Go.Sort Brm Tryz
variable {V w w' wr w5:World}{c ci:MC}{q b1 b2 lc a n:Nat}{r:Int}{s:LQ}{la:OA}{v:Value}{Y:NP}{l:List Nat}{α:Type}{A:Me}{f:Nat->Me}
def aq (A:Me):Nat:=(A.p+4)*(A.y-1)+2
def uI (i:Nat):Prop:=∀(w:World) (c:MC) (q:Nat) (r:Int) (k b:Nat),MkI w c q->i<c.T.length->aZ w->runeB r=true->w.cell? (aD (c.R i) 4)=some (Vf 143 #[ae k,ae b])->q+aq (sz c.T i)<=9000000000000000000->(aN (sz c.T i)).z<=3000000000000 ->
 Calls prog 143 #[Vi r,ae k,ae b] w (au w c (q+aq (sz c.T i)) (aX (lg c.T i) r) (aN (sz c.T i)))
abbrev cW (V w:World):Prop:=V.heap=w.heap/\V.os=w.os/\V.tape=w.tape/\V.output=w.output
theorem cW.below (h:cW V w):Bw w V:=⟨h.2.1,h.2.2.1,h.2.2.2,by rw[h.1];exact zA _,λk _=>by rw[h.1]⟩
theorem cW.cell {V w:World}(h:cW V w)(p:Addr):V.cell? p=w.cell? p:=zP (w:=w) (by rw[h.1])
theorem Gone.cellS {c':MC}(hV:cW V w)(hG:Gone V c w' c'){p:Addr}(hp:p.block<w.heap.size)(hn:¬c.S p.block):w'.cell? p=w.cell? p:=(hG.but.cell (p:=p) (by rw[hV.1];exact hp) hn).trans (hV.cell p)
theorem nR {i:Nat}(h:MkI w c q)(hi:i<c.T.length):∃k b,w.cell? (aD (c.R i) 4)=some (Vf 143 #[ae k,ae b])/\c.R i<w.heap.size/\¬c.S (c.R i):=by
 obtain⟨e,d⟩:∃e,c.T[i]?=some e:=⟨_,zB hi⟩;obtain⟨l,p,m,g,b,F,j,a,n,o,f,_⟩:=h.rest i e d;exact⟨g,b,ag.cell a 4,ag.lt a,f⟩
theorem Pz (hI:MkI w c q)(k1:ag w b1 [ae c.m] 95):Calls prog 63 #[Vi r,ae b1] w (au w c q eA aV):=by
 have f:w.cell? (aD b1 0)=some (ae c.m):=k1.cell 0;have a:=k1.lt;have e:w.cell? (aD c.m 1)=some (ae (c.R 0)):=hI.mb.cell 1;have b:=hI.mb.lt;have d:Hid (au w c q eA aV (.returned (ae (c.R 0))) w):=⟨c,0,rfl,hI,Gone.refl _ _,(zC.1 hI.t0).1,hI.none,by rw[hI.sz0];exact Me.refl _⟩;go_enter func63,ntmps63;go_wp2_with fail;go_ret;exact d
theorem Wg {L:Nat->Lg}:aX ((RE.set s).lang L) r=if memB s r=true then dZ else eA:=by
 funext u;show (∃c,r::u=[c]/\memB s c=true)=_
 by_cases h:memB s r=true
 ·rw[zX h];refine propext ⟨?_,?_⟩
  ·rintro⟨c,e,_⟩;injection e with e1 e2
  ·rintro rfl;exact⟨r,rfl,h⟩
 ·rw[zR h];refine propext ⟨?_,λh=>h.elim⟩;rintro⟨c,e,a⟩;injection e with e1 e2;subst e1;exact h a
theorem Wh (hI:MkI w c q)(hr:runeB r=true)(k1:ag w b1 [.slice la s.length lc] 24)(k2:ag w b2 [ae c.m] 95)(hs:Rd w la s)(hl:s.length<=1200000){L:Lg}(hL:L=if memB s r=true then dZ else eA):Calls prog 111 #[Vi r,ae b1,ae b2] w (au w c q L aV):=by
 have z:w.cell? (aD b1 0)=some (.slice la s.length lc):=k1.cell 0;have t:w.cell? (aD b2 0)=some (ae c.m):=k2.cell 0;have l:=k1.lt;have n:=k2.lt;have f:=aa (Kj lc r hs hl);rw[hr,Bool.true_and]at f;have o:Hid (∀a,Bw w a->a.cell? (aD b2 0)=some (ae c.m)/\a.cell? (aD c.m 1)=some (ae (c.R 0))/\a.cell? (aD c.m 2)=some (ae (c.R 1))/\b2<a.heap.size/\c.m<a.heap.size):=λa b=>⟨(k2.below b).cell 0,(hI.mb.below b).cell 1,(hI.mb.below b).cell 2,(k2.below b).lt,(hI.mb.below b).lt⟩;have k:Hid (memB s r=false->∀a,Bw w a->au w c q L aV (.returned (ae (c.R 0))) a):=λg a b=>⟨c,0,rfl,hI.below b,Gone.below b,(zC.1 hI.t0).1,by rw[hL,g];exact hI.none,by rw[hI.sz0];exact Me.refl _⟩;have j:Hid (memB s r=true->∀a,Bw w a->au w c q L aV (.returned (ae (c.R 1))) a):=λg a b=>⟨c,1,rfl,hI.below b,Gone.below b,(zC.1 hI.t1).1,by rw[hL,g];exact hI.emp,by rw[hI.sz1];exact Me.refl _⟩;generalize g:memB s r=m at *;clear hI k1 k2 hs hr g hL;go_enter func111,ntmps111;go_wp2_with fail;refine f.mono ?_;rintro e i ⟨rfl,d⟩;obtain⟨v,y,x,u,p⟩:=o.out i d;cases m with
 |true=>
  have h:=aa (j rfl i d);clear d;go_wp2_with fail;go_ret;exact h
 |false=>
  have h:=aa (k rfl i d);clear d;go_wp2_with fail;go_ret;exact h
theorem Wi (ih:uI a)(hI:MkI w c q)(ha:a<c.T.length)(hP:aZ w)(hr:runeB r=true)(n1:¬c.S b1)(n2:¬c.S b2)(k1:ag w b1 [ae c.m] 95)(k2:ag w b2 [ae (c.R a)] 103)(hq:q+aq (sz c.T a)+1<=9000000000000000000)(hz:(aN (sz c.T a)).z<=3000000000000):Calls prog 115 #[Vi r,ae b1,ae b2] w (au w c (q+aq (sz c.T a)+1) (fZ (aX (lg c.T a) r)) (bB (aN (sz c.T a)))):=by
 obtain⟨s,u,R,D,y⟩:=nR hI ha;have Y:w.cell? (aD b1 0)=some (ae c.m):=k1.cell 0;have U:w.cell? (aD b2 0)=some (ae (c.R a)):=k2.cell 0;have o:=k1.lt;have x:=k2.lt;have K:Hid (∀V:World,cW V w->Calls prog 143 #[Vi r,ae s,ae u] V (au V c (q+aq (sz c.T a)) (aX (lg c.T a) r) (aN (sz c.T a)))):=λV d=>ih V c q r s u (hI.below d.below) ha (hP.below d.below) hr ((d.cell _).trans R) (by omega) hz;have C:Hid (∀(V k:World) (e:MC) (m:Nat),cW V w->MkI k e (q+aq (sz c.T a))->Gone V c k e->m<e.T.length->lg e.T m=aX (lg c.T a) r->sz e.T m<=aN (sz c.T a) ->
   Calls prog 73 #[ae c.m,ae (e.R m)] k (λA z=>au w c (q+aq (sz c.T a)+1) (fZ (aX (lg c.T a) r)) (bB (aN (sz c.T a))) A z/\∃n,Gone V c z n)):=λV k e m d g b j f i=>by
  have N:aZ k:=b.pow (hI.below d.below) (hP.below d.below);have S:=oQ g (by omega) j N;rw[b.m]at S;refine S.mono ?_;rintro A z ⟨n,Q,rfl,E,v,L,G,B⟩;exact⟨⟨n,Q,rfl,E,(Gone.below d.below).trans (b.trans v),L,by rw[G,f],Me.trans B (mt i)⟩,n,b.trans v⟩
 have l:Hid (∀(V h:World) (O:MC),cW V w->Gone V c h O->h.cell? (aD b1 0)=some (ae c.m)/\h.cell? (aD b2 0)=some (ae (c.R a))/\h.cell? (aD (c.R a) 4)=some (Vf 143 #[ae s,ae u])):=λV h O d H=>
  ⟨(H.cellS d (p:=(aD b1 0)) o n1).trans Y,(H.cellS d (p:=(aD b2 0)) x n2).trans U,(H.cellS d (p:=(aD (c.R a) 4)) D y).trans R⟩
 have F:Hid (∀V:World,cW V w->V.cell? (aD b1 0)=some (ae c.m)/\V.cell? (aD b2 0)=some (ae (c.R a))/\V.cell? (aD (c.R a) 4)=some (Vf 143 #[ae s,ae u])):=λV d=>l V V c d (Gone.refl _ _);go_enter func115,ntmps115;go_wp2_with fail
 go_region_held3 (λh=>h.cell? (aD b1 0)=some (ae c.m)/\h.cell? (aD b2 0)=some (ae (c.R a))/\h.cell? (aD (c.R a) 4)=some (Vf 143 #[ae s,ae u]))
  (first|exact F _ ⟨rfl,rfl,rfl,rfl⟩|exact I|exact J)
  (first
   |(go_at_call 73;refine M.mono ?_;rintro A z ⟨P,W,t⟩;have T:=aa P;have J:=l.out (w.drewN _) z W ⟨rfl,rfl,rfl,rfl⟩ t;obtain⟨n,Q,rfl,X⟩:=P)
   |(go_at_call 143;refine (K (w.drewN _) ⟨rfl,rfl,rfl,rfl⟩).mono ?_;rintro A k ⟨e,m,rfl,g,b,j,f,i⟩;have I:=l.out (w.drewN _) k e ⟨rfl,rfl,rfl,rfl⟩ b;have M:=aa (C (w.drewN _) k e m ⟨rfl,rfl,rfl,rfl⟩ g b j f i)))
 all_goals (go_wp2_with fail;go_ret;exact T)
set_option maxHeartbeats 8000000
theorem lq {W:World}{p:Addr}(o:Obj)(h:W.cell? p=some v):(W.alloc o).cell? p=some v:=by
 have a:p.block<W.heap.size:=by
  rcases Nat.lt_or_ge p.block W.heap.size with b|b
  ·exact b
  ·simp[World.cell?,xI b]at h
 rw[<-h];exact zP (w:=W) (zS _ _ _ a)
theorem OD (W:World)(S:NP)(R:Nat->Nat)(x y:Nat)(hS:¬S W.heap.size):dQ (W.alloc (.cells #[ae (R x),ae (R y)] 103)) S R (some (aD W.heap.size 0)) [x,y]:=by
 have b:=ag.new W [ae (R x),ae (R y)] 103;intro j p a
 match j,a with
 |0,a=>simp at a;subst a;exact⟨_,0,rfl,b.lt,hS,b.cell 0⟩
 |1,a=>simp at a;subst a;exact⟨_,0,rfl,b.lt,hS,b.cell 1⟩
theorem VC (f:Nat->Me)(x y:Nat):orM f [x,y]=⟨max 1 (max (f x).n (f y).n),max 1 (max (f x).p (f y).p),max 1 ((f x).y+(f y).y),max 1 ((f x).z+(f y).z)⟩:=by
 simp only[orM,dA,aG,Me.mk.injEq];refine⟨?_,?_,?_,?_⟩<;>omega
theorem RU {b b3:Nat}(iha:uI a)(ihb:uI b)(hI:MkI w c q)(ha:a<c.T.length)(hb:b<c.T.length)(hP:aZ w)(hr:runeB r=true)(n1:¬c.S b1)(n2:¬c.S b2)(n3:¬c.S b3)(k1:ag w b1 [ae c.m] 95)(k2:ag w b2 [ae (c.R a)] 103)(k3:ag w b3 [ae (c.R b)] 103)(hq:q+aq (sz c.T a)+(sz c.T a).p+aq (sz c.T b)+1<=9000000000000000000)(hz:(aN (bf (sz c.T a) (sz c.T b))).z<=3000000000000):Calls prog 159 #[Vi r,ae b1,ae b2,ae b3] w (au w c (q+aq (sz c.T a)+(sz c.T a).p+aq (sz c.T b)+1) (aX (aJ (lg c.T a) (lg c.T b)) r) (aN (bf (sz c.T a) (sz c.T b)))):=by
 obtain⟨Q,N,y4,a2,a1⟩:=nR hI ha;obtain⟨Z,U,y5,a3,a5⟩:=nR hI hb;obtain⟨ea,a7⟩:∃e,c.T[a]?=some e:=⟨_,zB ha⟩;obtain⟨f8,g0,m,f6,a6,B,_⟩:=hI.look a7;have y6:w.cell? (aD (c.R a) 3)=some (.bool m):=ag.cell a6 3;have y1:w.cell? (aD b1 0)=some (ae c.m):=k1.cell 0;have y2:w.cell? (aD b2 0)=some (ae (c.R a)):=k2.cell 0;have y3:w.cell? (aD b3 0)=some (ae (c.R b)):=k3.cell 0;have a9:=k1.lt;have b5:=k2.lt;have a4:=k3.lt;have oa:=hI.sz_one ha;have ob:=hI.sz_one hb;have d3:(aN (sz c.T a)).z+(sz c.T b).z+(aN (sz c.T b)).z<=3000000000000:=by
  have t2:=lJ (sz c.T a).z (sz c.T b).z;have m2:(sz c.T b).z<=(sz c.T a).z*(sz c.T b).z:=Nat.le_mul_of_pos_left _ oa.2.2.2;simp only[aN,bf]at hz ⊢;omega
 have d4:Hid (∀V:World,cW V w->Calls prog 143 #[Vi r,ae Q,ae N] V (au V c (q+aq (sz c.T a)) (aX (lg c.T a) r) (aN (sz c.T a)))):=λV i=>iha V c q r Q N (hI.below i.below) ha (hP.below i.below) hr ((i.cell _).trans y4) (by omega) (by omega);have c4:Hid (∀(V w5:World) (F:MC) (R:Nat),cW V w->MkI w5 F (q+aq (sz c.T a))->Gone V c w5 F->R<F.T.length->lg F.T R=aX (lg c.T a) r->sz F.T R<=aN (sz c.T a) ->
   Calls prog 114 #[ae c.m,ae (F.R R),ae (c.R b)] w5 (λC l=>au w c (q+aq (sz c.T a)+(sz c.T a).p) (aJ (aX (lg c.T a) r) (lg c.T b)) (bf (aN (sz c.T a)) (sz c.T b)) C l/\∃k,Gone V c l k)):=λV w5 F R i T j O W H=>by
  have d2:aZ w5:=j.pow (hI.below i.below) (hP.below i.below);have f4:(sz F.T R).n<=(sz c.T a).p:=H.1;have e9:=j.len;have hc:=wU R w5 F (q+aq (sz c.T a)) b T O (by omega) d2 (by omega);rw[j.m,j.R b hb,j.sz hb,j.lang hb]at hc;refine hc.mono ?_;rintro C l ⟨k,A,rfl,t,f,o,E,v⟩;exact⟨⟨k,A,rfl,t.more (by omega),(Gone.below i.below).trans (j.trans f),o,by rw[E,W],Me.trans v (kP H (Me.refl _))⟩,k,j.trans f⟩
 have L:Hid (∀(V d:World) (c':MC),cW V w->Gone V c d c'->d.cell? (aD b1 0)=some (ae c.m)/\d.cell? (aD b2 0)=some (ae (c.R a))/\d.cell? (aD b3 0)=some (ae (c.R b))/\d.cell? (aD (c.R a) 4)=some (Vf 143 #[ae Q,ae N])/\d.cell? (aD (c.R a) 3)=some (.bool m)/\d.cell? (aD (c.R b) 4)=some (Vf 143 #[ae Z,ae U])):=λV d c' i hG=>
  ⟨(hG.cellS i (p:=(aD b1 0)) a9 n1).trans y1,(hG.cellS i (p:=(aD b2 0)) b5 n2).trans y2,(hG.cellS i (p:=(aD b3 0)) a4 n3).trans y3,(hG.cellS i (p:=(aD (c.R a) 4)) a2 a1).trans y4,(hG.cellS i (p:=(aD (c.R a) 3)) a2 a1).trans y6,(hG.cellS i (p:=(aD (c.R b) 4)) a3 a5).trans y5⟩
 have e3:Hid (∀V:World,cW V w->V.cell? (aD b1 0)=some (ae c.m)/\V.cell? (aD b2 0)=some (ae (c.R a))/\V.cell? (aD b3 0)=some (ae (c.R b))/\V.cell? (aD (c.R a) 4)=some (Vf 143 #[ae Q,ae N])/\V.cell? (aD (c.R a) 3)=some (.bool m)/\V.cell? (aD (c.R b) 4)=some (Vf 143 #[ae Z,ae U])):=λV i=>L V V c i (Gone.refl _ _);have f1:=aa B;have c3:Hid (∀C w9,m=false->au w c (q+aq (sz c.T a)+(sz c.T a).p) (aJ (aX (lg c.T a) r) (lg c.T b)) (bf (aN (sz c.T a)) (sz c.T b)) C w9->au w c (q+aq (sz c.T a)+(sz c.T a).p+aq (sz c.T b)+1) (aX (aJ (lg c.T a) (lg c.T b)) r) (aN (bf (sz c.T a) (sz c.T b))) C w9):=λC w9 he h=>by
  obtain⟨c9,j9,h1,h2,h3,h4,h5,h6⟩:=h;refine⟨c9,j9,h1,h2.more (by omega),h3,h4,?_,?_⟩
  ·rw[h5,rK,zR (λh=>by have:=B.2 h;rw[he]at this;cases this)]
  ·refine Me.trans h6 ?_;have:=CY oa ob (X:=bf (aN (sz c.T a)) (sz c.T b)) (Y:=⟨0,0,0,0⟩) (Me.refl _) ⟨zW _,zW _,zW _,zW _⟩;refine Me.trans ⟨?_,?_,?_,?_⟩ this<;>simp only<;>omega
 have b0:Hid (∀(l:World) (k:MC) (A:Nat),m=true->MkI l k (q+aq (sz c.T a)+(sz c.T a).p)->Gone w c l k->A<k.T.length->lg k.T A=aJ (aX (lg c.T a) r) (lg c.T b)->sz k.T A<=bf (aN (sz c.T a)) (sz c.T b) ->
   (∀V:World,cW V l->Calls prog 143 #[Vi r,ae Z,ae U] V (au V k (q+aq (sz c.T a)+(sz c.T a).p+aq (sz c.T b)) (aX (lg c.T b) r) (aN (sz c.T b)))) /\
   (∀(V D:World) (s:MC) (K:Nat),cW V l->MkI D s (q+aq (sz c.T a)+(sz c.T a).p+aq (sz c.T b))->Gone V k D s->K<s.T.length->lg s.T K=aX (lg c.T b) r->sz s.T K<=aN (sz c.T b) ->
    Calls prog 61 #[ae c.m,Vs D.heap.size 2 2] (D.alloc (.cells #[ae (k.R A),ae (s.R K)] 103)) (λC d=>au w c (q+aq (sz c.T a)+(sz c.T a).p+aq (sz c.T b)+1) (aX (aJ (lg c.T a) (lg c.T b)) r) (aN (bf (sz c.T a) (sz c.T b))) C d/\(d.cell? (aD b1 0)=some (ae c.m)/\d.cell? (aD b2 0)=some (ae (c.R a))/\d.cell? (aD b3 0)=some (ae (c.R b))/\d.cell? (aD (c.R a) 4)=some (Vf 143 #[ae Q,ae N])/\d.cell? (aD (c.R a) 3)=some (.bool m)/\d.cell? (aD (c.R b) 4)=some (Vf 143 #[ae Z,ae U])))) /\
   (∀(V d:World) (c':MC),cW V l->Gone V k d c'->d.cell? (aD b1 0)=some (ae c.m)/\d.cell? (aD b2 0)=some (ae (c.R a))/\d.cell? (aD b3 0)=some (ae (c.R b))/\d.cell? (aD (c.R a) 4)=some (Vf 143 #[ae Q,ae N])/\d.cell? (aD (c.R a) 3)=some (.bool m)/\d.cell? (aD (c.R b) 4)=some (Vf 143 #[ae Z,ae U]))):=λl k A he t f o E v=>by
  have c1:aZ l:=f.pow hI hP;have f7:=f.len;have y:∀(V d:World) (c':MC),cW V l->Gone V k d c'->d.cell? (aD b1 0)=some (ae c.m)/\d.cell? (aD b2 0)=some (ae (c.R a))/\d.cell? (aD b3 0)=some (ae (c.R b))/\d.cell? (aD (c.R a) 4)=some (Vf 143 #[ae Q,ae N])/\d.cell? (aD (c.R a) 3)=some (.bool m)/\d.cell? (aD (c.R b) 4)=some (Vf 143 #[ae Z,ae U]):=λV d c' i hG=>L w d c' ⟨rfl,rfl,rfl,rfl⟩ (f.trans ((Gone.below i.below).trans hG));have e4:=(y l l k ⟨rfl,rfl,rfl,rfl⟩ (Gone.refl _ _)).2.2.2.2.2;refine⟨λV i=>?_,λV D s K i I g M P G=>?_,y⟩
  ·have:=ihb V k (q+aq (sz c.T a)+(sz c.T a).p) r Z U (t.below i.below) (by omega) (c1.below i.below) hr (by rw[f.R b hb];exact (i.cell _).trans e4) (by rw[f.sz hb];omega) (by rw[f.sz hb];omega);rw[f.sz hb,f.lang hb]at this;exact this
  ·have e2:aZ D:=g.pow (t.below i.below) (c1.below i.below);have f2:=g.len;have J:Bw D (D.alloc (.cells #[ae (k.R A),ae (s.R K)] 103)):=(zE _ _).alloc (zA _) _;have f5:(sz s.T A).z<=(aN (sz c.T a)).z+(sz c.T b).z:=by rw[g.sz o];exact v.2.2.2
   have f3:(sz s.T K).z<=(aN (sz c.T b)).z:=G.2.2.2;have c0:=OD D s.S s.R A K (λh=>by have:=I.S_lt h;omega);rw[g.R A o]at c0;have hc:=AH (pc:=2) (I.below J) (e2.below J) (by omega) (ps:=[A,K]) (λx hx=>by simp at hx;rcases hx with rfl|rfl;omega;exact M) c0 (by simp only[aG];omega);rw[g.m,f.m]at hc;refine hc.mono ?_;rintro C w8 ⟨c8,j8,rfl,d5,e6,d8,d0,d9⟩;have a8:Gone V k w8 c8:=g.trans ((Gone.below J).trans e6);refine⟨⟨c8,j8,rfl,d5,f.trans ((Gone.below i.below).trans a8),d8,?_,?_⟩,y V w8 c8 i a8⟩
   ·rw[d0,rK,zX (B.1 he)];funext u;simp only[zO,xD,or_false,exists_eq_or_imp,exists_eq_left,Yg];rw[g.lang o,E,P]
   ·refine Me.trans d9 ?_;rw[VC];exact CY oa ob (by rw[g.sz o];exact v) G
 clear hI k1 k2 k3 n1 n2 n3 hP iha ihb hq hz a1 a5 hr B a6 a7 oa ob d3 y4 y5 y6 a2 a3;go_enter func159,ntmps159;go_wp2_with fail
 go_region_held3 (λd=>d.cell? (aD b1 0)=some (ae c.m)/\d.cell? (aD b2 0)=some (ae (c.R a))/\d.cell? (aD b3 0)=some (ae (c.R b))/\d.cell? (aD (c.R a) 4)=some (Vf 143 #[ae Q,ae N])/\d.cell? (aD (c.R a) 3)=some (.bool m)/\d.cell? (aD (c.R b) 4)=some (Vf 143 #[ae Z,ae U]))
  (first|exact e3 _ ⟨rfl,rfl,rfl,rfl⟩|exact d6|exact b9)
  (first
   |(go_at_call 114;refine d7.mono ?_;rintro C l ⟨h6,s,g⟩;have H6:=aa h6;have b9:=L.out (w.drewN _) l s ⟨rfl,rfl,rfl,rfl⟩ g;obtain⟨k,A,rfl,h7⟩:=h6;have H7:=aa h7;clear h7 g)
   |(go_at_call 143;refine (d4 (w.drewN _) ⟨rfl,rfl,rfl,rfl⟩).mono ?_;rintro C w5 ⟨F,R,rfl,T,j,O,W,H⟩;have d6:=L.out (w.drewN _) w5 F ⟨rfl,rfl,rfl,rfl⟩ j;have d7:=aa (c4 (w.drewN _) w5 F R ⟨rfl,rfl,rfl,rfl⟩ T j O W H);clear T j O W H))
 obtain⟨z1,z2,z3,z4,z5,z6⟩:=b9;have f9:=eU z2;have f0:=eU z5;cases m with
 |false=>
  have HE:=aa (c3 _ _ rfl H6);go_wp2_with fail;go_ret;exact HE
 |true=>
  obtain⟨t,f,o,E,v⟩:=H7.out;have d1:=aa o;obtain⟨b4,b6,b8⟩:=b0.out l k A rfl t f o E v;have e7:=aa b4;have e5:=aa b6;have c2:=aa b8;have a0:=λn=>c2 (l.drewN n) (l.drewN n) k ⟨rfl,rfl,rfl,rfl⟩ (Gone.refl _ _);have b7:=aa a0;clear t f o E v b4 b6 b8 a0;go_wp2_with fail;refine yW (S:=λd:World=>d.cell? (aD b1 0)=some (ae c.m)/\d.cell? (aD b2 0)=some (ae (c.R a))/\d.cell? (aD b3 0)=some (ae (c.R b))/\d.cell? (aD (c.R a) 4)=some (Vf 143 #[ae Q,ae N])/\d.cell? (aD (c.R a) 3)=some (.bool true)/\d.cell? (aD (c.R b) 4)=some (Vf 143 #[ae Z,ae U])) (by kernel_rfl) (b7 _) (λhHeld=>?_);refine tk 0 ?_;simp only[tS];refine tk 1 ?_;simp only[tS];refine tk 2 ?_;simp only[tS];refine tk 3 ?_;simp only[tS];refine tk 4 ?_;simp only[tS];refine tk 5 ?_;simp only[tS];refine tk 6 ?_;simp only[tS];refine di 7 (λKc hK=>?_);go_simp;refine (e7 (l.drewN _) ⟨rfl,rfl,rfl,rfl⟩).mono ?_;rintro C D ⟨s,K,rfl,I,g,M,P,G⟩;have z:=c2.out (l.drewN _) D s ⟨rfl,rfl,rfl,rfl⟩ g;have e0:=aa (e5 (l.drewN _) D s K ⟨rfl,rfl,rfl,rfl⟩ I g M P G);have e8:=g.R A d1;clear I g M P G;go_wp2_with fail;refine hK _ _ z (λhHeld=>?_);clear hK Kc
  try simp only[tS]
  refine di 8 (λKc hK=>?_);go_simp;refine hK _ _ ⟨(lq _ z.1),(lq _ z.2.1),(lq _ z.2.2.1),(lq _ z.2.2.2.1),(lq _ z.2.2.2.2.1),(lq _ z.2.2.2.2.2)⟩ (λhHeld=>?_);clear hK Kc
  try simp only[tS]
  refine di 9 (λKc hK=>?_);go_simp;refine e0.mono ?_;rintro C w8 ⟨h8,e1⟩;have H8:=aa h8;obtain⟨c8,j8,rfl,h9⟩:=h8;clear h9;go_wp2_with fail;refine hK _ _ e1 (λhHeld=>?_);clear hK Kc
  try simp only[tS]
  refine tk 10 ?_;simp only[tS];refine yV (by kernel_rfl) ?_ _;go_wp2_with fail;go_ret;exact H8
theorem xt (t:Int)(W:World)(h0:-1<=t)(h9:t<=5):Calls prog 117 #[Vi t] W λe w'=>e=.returned (Vi (bA t))/\∃k,w'=W.drewN k:=by
 by_cases h:0<t
 ·have a:bA t=t-1:=zX h;rw[a];go_enter func117,ntmps117;go_wp2_with fail;go_ret;exact⟨rfl,0,rfl⟩
 ·have a:bA t=t:=zR h;rw[a];go_enter func117,ntmps117;go_wp2_with fail;go_ret;exact⟨rfl,0,rfl⟩
theorem QW {m n:Int}(hm0:0<=m)(hm5:m<=5)(hn:n=-1\/(0<n/\m<=n/\n<=5)):0<=bA m/\bA m<=5/\(bA n=-1\/(bA m<=bA n/\bA n<=5)):=by
 unfold bA
 split<;>split<;>omega
theorem QX {b3 b4:Nat}{m n:Int}(iha:uI a)(hI:MkI w c q)(ha:a<c.T.length)(hP:aZ w)(hr:runeB r=true)(hm0:0<=m)(hm5:m<=5)(hn:n=-1\/(0<n/\m<=n/\n<=5))(n1:¬c.S b1)(n2:¬c.S b2)(n3:¬c.S b3)(n4:¬c.S b4)(k1:ag w b1 [ae c.m] 95)(k2:ag w b2 [ae (c.R a)] 103)(k3:ag w b3 [Vi m] 3)(k4:ag w b4 [Vi n] 3)(hq:q+aq (sz c.T a)+1+(sz c.T a).p<=9000000000000000000)(hz:(aN (sz c.T a)).z<=3000000000000):Calls prog 116 #[Vi r,ae b1,ae b2,ae b3,ae b4] w (au w c (q+aq (sz c.T a)+1+(sz c.T a).p) (aJ (aX (lg c.T a) r) (dB (lg c.T a) (bA m) (bA n))) (bf (aN (sz c.T a)) (cZ (sz c.T a)))):=by
 obtain⟨E,F,X,W,a0⟩:=nR hI ha;have y1:w.cell? (aD b1 0)=some (ae c.m):=k1.cell 0;have y2:w.cell? (aD b2 0)=some (ae (c.R a)):=k2.cell 0;have y3:w.cell? (aD b3 0)=some (Vi m):=k3.cell 0;have y4:w.cell? (aD b4 0)=some (Vi n):=k4.cell 0;have Y:=k1.lt;have T:=k2.lt;have R:=k3.lt;have Z:=k4.lt;obtain⟨f0,f5,fn⟩:=QW hm0 hm5 hn;have P:∀(A:World) (c':MC),Gone w c A c'->A.cell? (aD b1 0)=some (ae c.m)/\A.cell? (aD b2 0)=some (ae (c.R a))/\A.cell? (aD b3 0)=some (Vi m)/\A.cell? (aD b4 0)=some (Vi n)/\A.cell? (aD (c.R a) 4)=some (Vf 143 #[ae E,ae F]):=λA c' t=>
  ⟨(t.cellS ⟨rfl,rfl,rfl,rfl⟩ (p:=(aD b1 0)) Y n1).trans y1,(t.cellS ⟨rfl,rfl,rfl,rfl⟩ (p:=(aD b2 0)) T n2).trans y2,(t.cellS ⟨rfl,rfl,rfl,rfl⟩ (p:=(aD b3 0)) R n3).trans y3,(t.cellS ⟨rfl,rfl,rfl,rfl⟩ (p:=(aD b4 0)) Z n4).trans y4,(t.cellS ⟨rfl,rfl,rfl,rfl⟩ (p:=(aD (c.R a) 4)) W a0).trans X⟩
 have b7:Hid (∀V:World,cW V w->V.cell? (aD b1 0)=some (ae c.m)/\V.cell? (aD b2 0)=some (ae (c.R a))/\V.cell? (aD b3 0)=some (Vi m)/\V.cell? (aD b4 0)=some (Vi n)/\V.cell? (aD (c.R a) 4)=some (Vf 143 #[ae E,ae F])):=λV l=>P V c (Gone.below l.below);have a9:Hid (∀V:World,Calls prog 117 #[Vi m] V λe A=>e=.returned (Vi (bA m))/\∃k,A=V.drewN k):=λV=>xt m V (by omega) (by omega);have a5:Hid (∀V:World,Calls prog 117 #[Vi n] V λe A=>e=.returned (Vi (bA n))/\∃k,A=V.drewN k):=λV=>xt n V (by omega) (by omega);have a2:Hid (∀V:World,cW V w->Calls prog 143 #[Vi r,ae E,ae F] V (λo g=>∃x,o=.returned (ae x)/\Hid (au w c (q+aq (sz c.T a)) (aX (lg c.T a) r) (aN (sz c.T a)) (.returned (ae x)) g)/\(g.cell? (aD b1 0)=some (ae c.m)/\g.cell? (aD b2 0)=some (ae (c.R a))/\g.cell? (aD b3 0)=some (Vi m)/\g.cell? (aD b4 0)=some (Vi n)/\g.cell? (aD (c.R a) 4)=some (Vf 143 #[ae E,ae F])))):=λV l=>by
  refine (iha V c q r E F (hI.below l.below) ha (hP.below l.below) hr ((l.cell _).trans X) (by omega) (by omega)).mono ?_;rintro o g ⟨B,i,rfl,D,d,j,v,s⟩;have t:Gone w c g B:=(Gone.below l.below).trans d;exact⟨_,rfl,⟨B,i,rfl,D,t,j,v,s⟩,P g B t⟩
 have a7:Hid (∀(V g:World) (x:Nat),au w c (q+aq (sz c.T a)) (aX (lg c.T a) r) (aN (sz c.T a)) (.returned (ae x)) g->cW V g->Calls prog 74 #[ae c.m,ae (c.R a),Vi (bA m),Vi (bA n)] V (λo h=>∃y,o=.returned (ae y)/\Hid (∃b i u,x=b.R i/\y=b.R u/\MkI h b (q+aq (sz c.T a)+1)/\Gone w c h b/\i<b.T.length/\u<b.T.length/\lg b.T i=(aX (lg c.T a) r)/\sz b.T i<=(aN (sz c.T a))/\lg b.T u=(dB (lg c.T a) (bA m) (bA n))/\sz b.T u<=(cZ (sz c.T a)))/\(h.cell? (aD b1 0)=some (ae c.m)/\h.cell? (aD b2 0)=some (ae (c.R a))/\h.cell? (aD b3 0)=some (Vi m)/\h.cell? (aD b4 0)=some (Vi n)/\h.cell? (aD (c.R a) 4)=some (Vf 143 #[ae E,ae F])))):=λV g x Q l=>by
  obtain⟨B,i,e5,D,d,j,v,s⟩:=Q;have e6:x=B.R i:=by injection e5 with e;injection e with e;injection e with e;injection e
  have a6:=d.len;have J:=D.below l.below;have L:aZ V:=(d.pow hI hP).below l.below;have N:=rt J (by omega) (show a<B.T.length by omega) L f0 f5 fn;rw[d.m,d.R a ha,d.sz ha,d.lang ha]at N;refine N.mono ?_;rintro o h ⟨b,u,rfl,K,C,I,G,H⟩;have f:Gone g B h b:=(Gone.below l.below).trans C;have t:Gone w c h b:=d.trans f;have a8:=f.len;exact⟨_,rfl,⟨b,i,u,by rw[f.R i j];exact e6,rfl,K,t,by omega,I,by rw[f.lang j];exact v,by rw[f.sz j];exact s,G,H⟩,P h b t⟩
 have b9:Hid (∀V:World,cW V w->Calls prog 74 #[ae c.m,ae (c.R a),Vi (bA m),Vi (bA n)] V (λo g=>∃y,o=.returned (ae y)/\Hid (au w c (q+1) (dB (lg c.T a) (bA m) (bA n)) (cZ (sz c.T a)) (.returned (ae y)) g)/\(g.cell? (aD b1 0)=some (ae c.m)/\g.cell? (aD b2 0)=some (ae (c.R a))/\g.cell? (aD b3 0)=some (Vi m)/\g.cell? (aD b4 0)=some (Vi n)/\g.cell? (aD (c.R a) 4)=some (Vf 143 #[ae E,ae F])))):=λV l=>by
  refine (rt (hI.below l.below) (by omega) ha (hP.below l.below) f0 f5 fn).mono ?_;rintro o g ⟨B,i,rfl,D,d,j,v,s⟩;have t:Gone w c g B:=(Gone.below l.below).trans d;exact⟨_,rfl,⟨B,i,rfl,D,t,j,v,s⟩,P g B t⟩
 have c1:Hid (∀(V g:World) (y:Nat),au w c (q+1) (dB (lg c.T a) (bA m) (bA n)) (cZ (sz c.T a)) (.returned (ae y)) g->cW V g->Calls prog 143 #[Vi r,ae E,ae F] V (λo h=>∃x,o=.returned (ae x)/\Hid (∃b i u,x=b.R i/\y=b.R u/\MkI h b (q+aq (sz c.T a)+1)/\Gone w c h b/\i<b.T.length/\u<b.T.length/\lg b.T i=(aX (lg c.T a) r)/\sz b.T i<=(aN (sz c.T a))/\lg b.T u=(dB (lg c.T a) (bA m) (bA n))/\sz b.T u<=(cZ (sz c.T a)))/\(h.cell? (aD b1 0)=some (ae c.m)/\h.cell? (aD b2 0)=some (ae (c.R a))/\h.cell? (aD b3 0)=some (Vi m)/\h.cell? (aD b4 0)=some (Vi n)/\h.cell? (aD (c.R a) 4)=some (Vf 143 #[ae E,ae F])))):=λV g y Q l=>by
  obtain⟨B,i,e5,D,d,j,v,s⟩:=Q;have e6:y=B.R i:=by injection e5 with e;injection e with e;injection e with e;injection e
  have a6:=d.len;have J:=D.below l.below;have L:aZ V:=(d.pow hI hP).below l.below;have a1:=(P g B d).2.2.2.2;have N:=iha V B (q+1) r E F J (by omega) L hr (by rw[d.R a ha];exact (l.cell _).trans a1) (by rw[d.sz ha];omega) (by rw[d.sz ha];omega);rw[d.sz ha,d.lang ha]at N;refine N.mono ?_;rintro o h ⟨b,u,rfl,K,C,I,G,H⟩;have f:Gone g B h b:=(Gone.below l.below).trans C;have t:Gone w c h b:=d.trans f;have a8:=f.len;exact⟨_,rfl,⟨b,u,i,rfl,by rw[f.R i j];exact e6,K.more (by omega),t,I,by omega,G,H,by rw[f.lang j];exact v,by rw[f.sz j];exact s⟩,P h b t⟩
 have c0:Hid (∀(V h:World) (x y:Nat),(∃b i u,x=b.R i/\y=b.R u/\MkI h b (q+aq (sz c.T a)+1)/\Gone w c h b/\i<b.T.length/\u<b.T.length/\lg b.T i=(aX (lg c.T a) r)/\sz b.T i<=(aN (sz c.T a))/\lg b.T u=(dB (lg c.T a) (bA m) (bA n))/\sz b.T u<=(cZ (sz c.T a)))->cW V h->Calls prog 114 #[ae c.m,ae x,ae y] V (λo M=>∃z,o=.returned (ae z)/\Hid (au w c (q+aq (sz c.T a)+1+(sz c.T a).p) (aJ (aX (lg c.T a) r) (dB (lg c.T a) (bA m) (bA n))) (bf (aN (sz c.T a)) (cZ (sz c.T a))) o M)/\(M.cell? (aD b1 0)=some (ae c.m)/\M.cell? (aD b2 0)=some (ae (c.R a))/\M.cell? (aD b3 0)=some (Vi m)/\M.cell? (aD b4 0)=some (Vi n)/\M.cell? (aD (c.R a) 4)=some (Vf 143 #[ae E,ae F])))):=λV h x y Q l=>by
  obtain⟨b,i,u,rfl,rfl,K,C,j,I,v,s,G,H⟩:=Q;have J:=K.below l.below;have L:aZ V:=(C.pow hI hP).below l.below;have c4:(sz b.T i).n<=(sz c.T a).p:=s.1;have N:=wU i V b (q+aq (sz c.T a)+1) u J j I L (by omega);rw[C.m]at N;refine N.mono ?_;rintro o M ⟨c7,j7,rfl,a3,c2,a4,b6,b5⟩;have t:Gone w c M c7:=C.trans ((Gone.below l.below).trans c2);exact⟨_,rfl,⟨c7,j7,rfl,a3.more (by omega),t,a4,by rw[b6,v,G],Me.trans b5 (kP s H)⟩,P M c7 t⟩
 go_enter func116,ntmps116;go_wp2_with fail
 go_region_held3 (λA=>A.cell? (aD b1 0)=some (ae c.m)/\A.cell? (aD b2 0)=some (ae (c.R a))/\A.cell? (aD b3 0)=some (Vi m)/\A.cell? (aD b4 0)=some (Vi n)/\A.cell? (aD (c.R a) 4)=some (Vf 143 #[ae E,ae F]))
  (first|exact b7 _ ⟨rfl,rfl,rfl,rfl⟩|exact b0|exact S|exact U)
  (first
   |(go_at_call 114;refine (c0 _ h _ _ O (by exact⟨rfl,rfl,rfl,rfl⟩)).mono ?_;rintro o M ⟨z7,rfl,H7,b0⟩)
   |(go_at_call 117;refine (a9 _).mono ?_;rintro o w4 ⟨rfl,k4,rfl⟩)
   |(go_at_call 117;refine (a5 _).mono ?_;rintro o w4 ⟨rfl,k4,rfl⟩)
   |(go_at_call 74;refine (a7 _ g _ b8 (by exact⟨rfl,rfl,rfl,rfl⟩)).mono ?_;rintro o h ⟨y6,rfl,O,S⟩)
   |(go_at_call 74;refine (b9 _ (by exact⟨rfl,rfl,rfl,rfl⟩)).mono ?_;rintro o g ⟨X,rfl,c3,U⟩)
   |(go_at_call 143;refine (c1 _ g _ c3 (by exact⟨rfl,rfl,rfl,rfl⟩)).mono ?_;rintro o h ⟨y6,rfl,O,S⟩)
   |(go_at_call 143;refine (a2 _ (by exact⟨rfl,rfl,rfl,rfl⟩)).mono ?_;rintro o g ⟨X,rfl,b8,U⟩))
 all_goals (go_wp2_with fail;go_ret;exact H7)
def MC.wY (c:MC)(Y:Nat->Prop):MC:={ c with X:=λg=>c.X g\/Y g }
abbrev MC.wX (c:MC)(o:Option Nat):MC:=c.wY (λg=>some g=o)
theorem VG (c:MC):c.wX none=c:=by
 unfold MC.wX MC.wY;have:(λg=>c.X g\/some g=none)=c.X:=by funext g;simp
 rw[this]
structure HoldY (w:World)(c:MC)(wr:World)(ci:MC)(q:Nat)(Y:Nat->Prop):Prop where
 intro ::
 mk:MkI wr (ci.wY Y) q
 gone:Gone w c wr ci
abbrev dk (w:World)(c:MC)(wr:World)(ci:MC)(q:Nat)(o:Option Nat):Prop:=HoldY w c wr ci q (λg=>some g=o)
theorem dk.start (h:MkI w c q):dk w c w c q none:=⟨by have:=VG c;unfold MC.wX at this;rw[this];exact h,Gone.refl _ _⟩
theorem Gone.unY {c':MC}(h:Gone w (c.wY Y) w' c'):Gone w c w' { c' with X:=c.X } where
 m:=h.m
 bm:=h.bm
 T:=h.T
 R:=h.R
 KM:=h.KM
 newK:=h.newK
 but:=⟨h.but.os,h.but.tape,h.but.output,h.but.size,λg a d=>by
  by_cases b:Y g
  ·exact h.keepX g a (.inr b)
  ·exact h.but.block g a (by
    rintro (e|e|e)
    ·exact d (.inl e)
    ·exact d (.inr e)
    ·exact b e)⟩
 X:=rfl
 keepX:=λg a b=>h.keepX g a (.inl b)
theorem HoldY.call {q':Nat}{L:Lg}{Z:Me}{r:Ending}(h:HoldY w c wr ci q Y)(hg:au wr (ci.wY Y) q' L Z r w5):∃c5 j5,r=.returned (ae (c5.R j5))/\HoldY w c w5 c5 q' Y/\Gone wr ci w5 c5/\j5<c5.T.length/\lg c5.T j5=L/\sz c5.T j5<=Z/\∀g,Y g->w5.heap[g]?=wr.heap[g]?:=by
 obtain⟨c5,j5,rfl,i,a,j,f,d⟩:=hg;have b:=a.unY;refine⟨{ c5 with X:=ci.X },j5,rfl,⟨?_,h.gone.trans b⟩,b,j,f,d,λg hg=>a.keepX g (h.mk.xs g (.inr hg)).1 (.inr hg)⟩;have e:({ c5 with X:=ci.X }:MC).wY Y=c5:=by
  have:=a.X;cases c5;simp only[MC.wY,MC.mk.injEq,yB]at this ⊢;exact this.symm
 rw[e];exact i
theorem HoldY.below {w wr w':World}{c ci:MC}{q:Nat}{Y:NP}(h:HoldY w c wr ci q Y)(k:Bw wr w'):HoldY w c w' ci q Y:=⟨h.mk.below k,h.gone.trans (Gone.below k)⟩
theorem MkI.seven (h:MkI w c q):7<=w.heap.size:=by
 have a:=h.low c.bm (.inl (.inl rfl));have b:=h.Mp_lt (.inl rfl);omega
theorem HoldY.turn {w w5 w6:World}{c c5:MC}{q:Nat}{Y Y':NP}(h:HoldY w c w5 c5 q Y)(ho:∀g,Y g->w.heap.size<=g)(h7:7<=w.heap.size)(hs:w5.heap.size<=w6.heap.size)(hb:∀k,k<w5.heap.size->¬Y k->w6.heap[k]?=w5.heap[k]?)(hos:w6.os=w5.os)(ht:w6.tape=w5.tape)(hou:w6.output=w5.output)
  (hm:∀g,Y' g->(Y g\/w5.heap.size<=g)/\g<w6.heap.size):HoldY w c w6 c5 q Y':=by
 have l:=h.gone.but.size;refine⟨?_,?_⟩
 ·have:=h.mk.turn (w':=w6) (X':=λg=>c5.X g\/Y' g) hs (λg a f=>hb g a (λe=>f (.inr e))) (by
   rintro g (d|d)
   ·have:=h.mk.xs g (.inl d);exact⟨.inl (.inl d),by omega,h.mk.low g (.inr (.inl d))⟩
   ·obtain⟨b,j⟩:=hm g d;refine⟨?_,j,?_⟩
    ·rcases b with b|b
     ·exact .inl (.inr b)
     ·exact .inr b
    ·rcases b with b|b
     ·have:=ho g b;omega
     ·omega)
  exact this
 ·have a:=h.gone;exact {
   m:=a.m
   bm:=a.bm
   T:=a.T
   R:=a.R
   KM:=a.KM
   newK:=a.newK
   but:=⟨hos.trans a.but.os,ht.trans a.but.tape,hou.trans a.but.output,by omega,λg i f=>(hb g (by omega) (λe=>by have:=ho g e;omega)).trans (a.but.block g i f)⟩
   X:=a.X
   keepX:=λg i d=>(hb g (by omega) (λe=>by have:=ho g e;omega)).trans (a.keepX g i d) }
theorem dk.append {w6:World}{c5:MC}{e s m:Nat}{v':Value}{xs ys:LV}(ob:Obj)(h:dk w c w5 c5 q v.ownBlock)(h7:7<=w.heap.size)(hown:w5.ownsRow w.heap.size e s v n xs)(hown':w6.ownsRow w.heap.size e s v' m ys)(hg:(w5.alloc ob).grownBy w6 v.ownBlock)(hm:∀g,v'.ownBlock=some g->v.ownBlock=some g\/(w5.alloc ob).heap.size<=g):dk w c w6 c5 q v'.ownBlock:=by
 have d:(w5.alloc ob).heap.size=w5.heap.size+1:=by simp
 have i:=hg.size;refine HoldY.turn h (λg e=>(hown.lt g e.symm).1) h7 (by omega) (λk f a=>(hg.block k (by omega) a).trans (zS _ _ _ f)) hg.os hg.tape hg.output (λg e=>⟨?_,(hown'.lt g e.symm).2⟩);rcases hm g e.symm with b|b
 ·exact .inl b.symm
 ·exact .inr (by omega)
theorem wF {B e s:Nat}{xs:LV}(h:w.ownsRow B e s v n xs)(k:∀g,some g=v.ownBlock->w'.heap[g]?=w.heap[g]?):w'.ownsRow B e s v n xs:=by
 refine⟨h.1,?_⟩;rcases h.2 with f|⟨g,b,a,rfl,d,c,r⟩
 ·exact .inl f
 ·exact .inr ⟨g,b,a,rfl,d,(k g rfl).trans c,r⟩
theorem dk.done (hI:MkI w c q){q':Nat}(h:dk w c wr ci q' v.ownBlock)(hown:wr.ownsRow w.heap.size 103 1 v n (l.map λp=>ae (ci.R p))) :
  MkI wr ci q'/\Gone w c wr ci/\∃pa pc,v=.slice pa l.length pc/\dQ wr ci.S ci.R pa l:=by
 have b:=h.gone;have d:MkI wr ci q':=by
  have:=h.mk.turn (w':=wr) (X':=ci.X) (zA _) (λ_ _ _=>rfl) (λg a=>⟨.inl (.inl a),(h.mk.xs g (.inl a)).1,h.mk.low g (.inr (.inl a))⟩);exact this
 refine⟨d,b,?_⟩;have k:l.length=n:=by have:=hown.1;simpa using this
 rcases hown.2 with⟨rfl,rfl⟩|⟨g,f,m,rfl,s,o,r⟩
 ·have:l=[]:=zq.1 k;subst this;exact⟨none,0,rfl,λj p i=>by simp at i⟩
 ·refine⟨some (aD g 0),f,by rw[k],λj p i=>?_⟩;have a:=h.mk.xs g (.inr rfl);refine⟨g,0,rfl,a.1,?_,?_⟩
  ·rintro (e|e)
   ·exact a.2 e
   ·rw[b.X]at e;have:=(hI.xs g e).1;omega
  ·have:=hown.cells (g:=g) rfl j (ae (ci.R p)) (by rw[zg,i];rfl);rw[zl]at this;exact this
def aT {α β:Type}(P:α->β->Prop):List α->List β->Prop
 | [],[]=>True
 |a::l,b::m=>P a b/\aT P l m
 |_,_=>False
theorem aT.len {α β:Type}{P:α->β->Prop}:∀{l:List α} {m:List β},aT P l m->l.length=m.length
 | [],[],_=>rfl
 |_::_,_::_,h=>by rw[zG,zG,aT.len h.2]
 | [],_::_,h=>h.elim
 |_::_,[],h=>h.elim
theorem aT.snoc {α β:Type}{P:α->β->Prop}{a:α}{b:β}:∀{l:List α} {m:List β},aT P l m->P a b->aT P (l++[a]) (m++[b])
 | [],[],_,h=>⟨h,trivial⟩
 |_::_,_::_,h,k=>⟨h.1,aT.snoc h.2 k⟩
 | [],_::_,h,_=>h.elim
 |_::_,[],h,_=>h.elim
theorem aT.imp {α β:Type}{P Q:α->β->Prop}:∀{l:List α} {m:List β},aT P l m->(∀a b,a∈l->P a b->Q a b)->aT Q l m
 | [],[],_,_=>trivial
 |a::_,_::_,h,k=>⟨k _ _ (by simp) h.1,aT.imp h.2 (λx y c=>k x y (by simp[c]))⟩
 | [],_::_,h,_=>h.elim
 |_::_,[],h,_=>h.elim
theorem aT.left {α β:Type}{P:α->β->Prop}:∀{l:List α} {m:List β},aT P l m->∀a∈l,∃b∈m,P a b
 | [],[],_,a,c=>by simp at c
 |x::l,y::m,h,a,c=>by
  rcases zO.1 c with rfl|c
  ·exact⟨y,by simp,h.1⟩
  ·obtain⟨b,e,d⟩:=aT.left h.2 a c;exact⟨b,by simp[e],d⟩
 | [],_::_,h,_,_=>h.elim
 |_::_,[],h,_,_=>h.elim
theorem aT.right {α β:Type}{P:α->β->Prop}:∀{l:List α} {m:List β},aT P l m->∀b∈m,∃a∈l,P a b
 | [],[],_,a,c=>by simp at c
 |x::l,y::m,h,a,c=>by
  rcases zO.1 c with rfl|c
  ·exact⟨x,by simp,h.1⟩
  ·obtain⟨b,e,d⟩:=aT.right h.2 a c;exact⟨b,by simp[e],d⟩
 | [],_::_,h,_,_=>h.elim
 |_::_,[],h,_,_=>h.elim
theorem aT.sum {f g:Nat->Nat}:∀{l m:List Nat},aT (λa b=>f a<=g b) l m->aG f l<=aG g m
 | [],[],_=>zA _
 |a::l,b::m,h=>by unfold aG;have:=h.1;have:=aT.sum h.2;omega
 | [],_::_,h=>h.elim
 |_::_,[],h=>h.elim
theorem aT.max {f g:Nat->Nat}:∀{l m:List Nat},aT (λa b=>f a<=g b) l m->dA f l<=dA g m
 | [],[],_=>zA _
 |a::l,b::m,h=>by unfold dA;have:=h.1;have:=aT.max h.2;omega
 | [],_::_,h=>h.elim
 |_::_,[],h=>h.elim
theorem aT.orM {f g:Nat->Me}{l m:List Nat}(h:aT (λa b=>f a<=g b) l m):orM f l<=orM g m:=by
 have e:=aT.max (f:=λa=>(f a).n) (g:=λa=>(g a).n) (h.imp λa b _ k=>k.1);have c:=aT.max (f:=λa=>(f a).p) (g:=λa=>(g a).p) (h.imp λa b _ k=>k.2.1);have d:=aT.sum (f:=λa=>(f a).y) (g:=λa=>(g a).y) (h.imp λa b _ k=>k.2.2.1);have i:=aT.sum (f:=λa=>(f a).z) (g:=λa=>(g a).z) (h.imp λa b _ k=>k.2.2.2);refine⟨?_,?_,?_,?_⟩<;>simp only[Go.Proofs.YtebnghmioamheaaGreatDoor.orM]<;>omega
def js (F:α->Lg)(G:α->Me)(Q:Nat->Nat)(w:World)(c:MC)(l:List α)(j:Nat)(lv iv:Value)(wr:World):Prop:=∃(i:Nat) (ci:MC) (ds:List Nat),iv=Vi (i:Int)/\i<=l.length/\l.length-i<=j/\dk w c wr ci (Q i) lv.ownBlock/\(∀d∈ds,d<ci.T.length)/\aT (λd a=>lg ci.T d=F a/\sz ci.T d<=G a) ds (l.take i)/\wr.ownsRow w.heap.size 103 1 lv i (ds.map λp=>ae (ci.R p))
theorem js.start {α:Type}{F:α->Lg}{G:α->Me}{Q:Nat->Nat}{w:World}{c:MC}{l:List α}(hI:MkI w c (Q 0)){W:World}(hb:Bw w W):js F G Q w c l l.length (Vz) (Vi 0) W :=
 ⟨0,c,[],rfl,zW _,by omega,HoldY.below (dk.start hI) hb,λd a=>by simp at a,trivial,zZ _ _ _ _⟩
theorem js.call {α:Type}{F:α->Lg}{G:α->Me}{Q:Nat->Nat}{w:World}{c:MC}{l:List α}{i:Nat}{ci:MC}{ds:List Nat}{lv:Value}{wr:World}{a:α}{r:Ending}{w5:World}(h7:7<=w.heap.size)(hh:dk w c wr ci (Q i) lv.ownBlock)(hd:∀d∈ds,d<ci.T.length)(h2:aT (λd a=>lg ci.T d=F a/\sz ci.T d<=G a) ds (l.take i))(hown:wr.ownsRow w.heap.size 103 1 lv i (ds.map λp=>ae (ci.R p)))
  (ha:l[i]?=some a) (hg:au wr (ci.wX lv.ownBlock) (Q (i+1)) (F a) (G a) r w5):∃x,r=.returned (ae x)/\w5.ownsRow w.heap.size 103 1 lv i (ds.map λp=>ae (ci.R p))/\w.heap.size<=w5.heap.size/\But c.S w w5/\∀v' w6,w6.ownsRow w.heap.size 103 1 v' (i+1) ((ds.map λp=>ae (ci.R p))++[ae x])->(w5.alloc (.cells #[ae x] 103)).grownBy w6 lv.ownBlock->(∀g,v'.ownBlock=some g->lv.ownBlock=some g\/(w5.alloc (.cells #[ae x] 103)).heap.size<=g)->js F G Q w c l (l.length-(i+1)) v' (Vi ((i+1:Nat):Int)) w6:=by
 obtain⟨v,y,rfl,j,f,B,o,n,t⟩:=HoldY.call hh hg;have e:=wF hown t;have C:=f.len;have D:i<l.length:=(zC.1 ha).1;have k:(ds.map λp=>ae (ci.R p))=ds.map λp=>ae (v.R p):=List.map_congr_left λp z=>by rw[f.R p (hd p z)]
 refine⟨_,rfl,e,j.gone.but.size,j.gone.but,λv' w6 u s A=>?_⟩;refine⟨i+1,v,ds++[y],rfl,by omega,zA _,dk.append _ j h7 e u s A,?_,?_,?_⟩
 ·intro d q;rcases zM.1 q with h|h
  ·have:=hd d h;omega
  ·simp at h;omega
 ·rw[dU ha];refine aT.snoc (h2.imp λd b m h=>?_) ⟨o,n⟩;rw[f.lang (hd d m),f.sz (hd d m)];exact h
 ·rw[xH,<-k];exact u
theorem ue (w:World)(x:Nat):∀j u,[ae x][j]?=some u->(w.alloc (.cells #[ae x] 103)).cell? (((aD w.heap.size 0):Addr).add j)=some u:=Gv w x
theorem Yi {pc:Nat}{pa:OA}(ih:∀a∈l,uI a)(hI:MkI w c q)(hl:∀a∈l,a<c.T.length)(hP:aZ w)(hr:runeB r=true)(n2:¬c.S b2)(k1:ag w b1 [.slice pa l.length pc] 110)(k2:ag w b2 [ae c.m] 95)(hpa:dQ w c.S c.R pa l)(hq:q+aG (λa=>aq (sz c.T a)) l+1<=9000000000000000000)(hz:aG (λa=>(aN (sz c.T a)).z) l<=3000000000000):Calls prog 103 #[Vi r,ae b1,ae b2] w (au w c (q+aG (λa=>aq (sz c.T a)) l+1) (λu=>∃a∈l,aX (lg c.T a) r u) (orM (λa=>aN (sz c.T a)) l)):=by
 obtain⟨i0,hi,a8,b5,a9⟩:=zz jN;have y1:w.cell? (aD b1 0)=some (.slice pa l.length pc):=k1.cell 0;have y2:w.cell? (aD b2 0)=some (ae c.m):=k2.cell 0;have c3:=k1.lt;have a0:=k2.lt;have c2:l.length<=3000000000000:=zJ (oh (f:=λa=>(aN (sz c.T a)).z) (λa v=>by
  have P:=(hI.sz_one (hl a v)).2.2.2;have A:=qr (sz c.T a).z;simp only[aV]at P;simp only[aN];omega)) hz
 have Y:∀i a,l[i]?=some a->q+aG (λa=>aq (sz c.T a)) (l.take (i+1))=q+aG (λa=>aq (sz c.T a)) (l.take i)+aq (sz c.T a)/\aG (λa=>aq (sz c.T a)) (l.take (i+1))<=aG (λa=>aq (sz c.T a)) l:=λi a v=>by
  have P:aG (λa=>aq (sz c.T a)) l=aG (λa=>aq (sz c.T a)) (l.take (i+1))+aG (λa=>aq (sz c.T a)) (l.drop (i+1)):=by rw[<-fY,zj]
  rw[dU v,fY]at P ⊢;simp only[aG]at P ⊢;omega
 have T:∀a∈l,(aN (sz c.T a)).z<=3000000000000:=λa v=>zJ (uT (f:=λa=>(aN (sz c.T a)).z) v) hz;have L:Hid (∀(wr:World) (lv:Value) (i:Nat) (m:MC) (y:List Nat) (a:Nat),l[i]?=some a->dk w c wr m (q+aG (λa=>aq (sz c.T a)) (l.take i)) lv.ownBlock->(∀d∈y,d<m.T.length)->aT (λd a=>lg m.T d=aX (lg c.T a) r/\sz m.T d<=aN (sz c.T a)) y (l.take i)->wr.ownsRow w.heap.size 103 1 lv i (y.map λp=>ae (m.R p)) ->
   ∃k b,wr.cell? (aD (c.R a) 4)=some (Vf 143 #[ae k,ae b])/\c.R a<wr.heap.size/\Calls prog 143 #[Vi r,ae k,ae b] wr (λX J=>∃x,X=.returned (ae x)/\J.ownsRow w.heap.size 103 1 lv i (y.map λp=>ae (m.R p))/\w.heap.size<=J.heap.size/\Hid (∀v' w6,w6.ownsRow w.heap.size 103 1 v' (i+1) ((y.map λp=>ae (m.R p))++[ae x])->(J.alloc (.cells #[ae x] 103)).grownBy w6 lv.ownBlock->(∀g,v'.ownBlock=some g->lv.ownBlock=some g\/(J.alloc (.cells #[ae x] 103)).heap.size<=g)->js (λa=>aX (lg c.T a) r) (λa=>aN (sz c.T a)) (λi=>q+aG (λa=>aq (sz c.T a)) (l.take i)) w c l (l.length-(i+1)) v' (Vi ((i+1:Nat):Int)) w6))):=λwr lv i m y a v s I A n=>by
  have O:=hl a (zU v);have a3:=s.gone.len;obtain⟨e1,e2⟩:=Y i a v;have b0:aZ wr:=s.gone.pow hI hP;obtain⟨k,b,R,H,_⟩:=nR s.mk (i:=a) (show a<m.T.length by omega);have hR:(m.wX lv.ownBlock).R a=c.R a:=s.gone.R a O;have hS:sz (m.wX lv.ownBlock).T a=sz c.T a:=s.gone.sz O;have hL:lg (m.wX lv.ownBlock).T a=lg c.T a:=s.gone.lang O;have t:=ih a (zU v) wr (m.wX lv.ownBlock) _ r k b s.mk (show a<m.T.length by omega) b0 hr R (by rw[hS];omega) (by rw[hS];exact T a (zU v));rw[hR]at R H;rw[hS,hL,<-e1]at t;refine⟨k,b,R,H,t.mono λX J hg=>?_⟩;obtain⟨x,P,h3,h4,_,h5⟩:=js.call (F:=λa=>aX (lg c.T a) r) (G:=λa=>aN (sz c.T a)) (Q:=λi=>q+aG (λa=>aq (sz c.T a)) (l.take i)) hI.seven s I A n v hg;exact⟨x,P,h3,h4,h5⟩
 have a1:Hid (∀(wr:World) (m:MC) (q':Nat) (o:Option Nat) (i p:Nat),dk w c wr m q' o->l[i]?=some p->∃N z,pa=some (aD N z)/\N<wr.heap.size/\wr.cell? ⟨N,z+i,none⟩=some (ae (c.R p))):=λwr m q' o i p s Z=>by
  obtain⟨N,z,e,S,a2,V⟩:=hpa i p Z;have hs:=s.gone.but.size;exact⟨N,z,e,by omega,(s.gone.but.cell (p:=⟨N,z+i,none⟩) S a2).trans V⟩
 have HM:Hid (∀(wr:World) (m:MC) (q':Nat) (o:Option Nat),dk w c wr m q' o->wr.cell? (aD b2 0)=some (ae c.m)/\b2<wr.heap.size/\w.heap.size<=wr.heap.size):=λwr m q' o s=>⟨(s.gone.but.cell (p:=(aD b2 0)) a0 n2).trans y2,by have:=s.gone.but.size;omega,s.gone.but.size⟩;have U:Hid (∀(wr:World) (lv:Value) (m:MC) (y:List Nat),dk w c wr m (q+aG (λa=>aq (sz c.T a)) l) lv.ownBlock->(∀d∈y,d<m.T.length)->aT (λd a=>lg m.T d=aX (lg c.T a) r/\sz m.T d<=aN (sz c.T a)) y l->wr.ownsRow w.heap.size 103 1 lv l.length (y.map λp=>ae (m.R p)) ->
   Calls prog 61 #[ae c.m,lv] wr (au w c (q+aG (λa=>aq (sz c.T a)) l+1) (λu=>∃a∈l,aX (lg c.T a) r u) (orM (λa=>aN (sz c.T a)) l))):=λwr lv m y s I A n=>by
  obtain⟨c1,M,c5,b3,rfl,E⟩:=dk.done hI s n;have R:=AH (pc:=b3) c1 (M.pow hI hP) (by omega) I E (zJ (aT.sum (f:=λa=>(sz m.T a).z) (g:=λa=>(aN (sz c.T a)).z) (A.imp λa b _ h=>h.2.2.2.2)) hz);rw[M.m]at R;refine R.mono ?_;rintro X w9 ⟨c9,j9,rfl,a5,b4,b9,a7,c0⟩;refine⟨c9,j9,rfl,a5,M.trans b4,b9,?_,Me.trans c0 (aT.orM (A.imp λa b _ h=>h.2))⟩;rw[a7];funext u;refine propext ⟨?_,?_⟩
  ·rintro⟨d,K,hu⟩;obtain⟨a,v,h,_⟩:=A.left d K;exact⟨a,v,by rw[<-h];exact hu⟩
  ·rintro⟨a,v,hu⟩;obtain⟨d,K,h,_⟩:=A.right a v;exact⟨d,K,by rw[h];exact hu⟩
 have a6:Hid (js (λa=>aX (lg c.T a) r) (λa=>aN (sz c.T a)) (λi=>q+aG (λa=>aq (sz c.T a)) (l.take i)) w c l l.length (Vz) (Vi 0) w):=js.start (by simpa [aG]using hI) (zE _ _);go_enter func103,ntmps103;go_wp2_with fail
 go_loopg [5,10] l.length (λj lv iv wr=>js (λa=>aX (lg c.T a) r) (λa=>aN (sz c.T a)) (λi=>q+aG (λa=>aq (sz c.T a)) (l.take i)) w c l j lv iv wr)
 case atStart=>exact a6
 case round=>
  obtain⟨i,m,y,rfl,c6,hj,s,I,A,n⟩:=hrel;have k0:(0:Int)<=(i:Int):=zK _;by_cases H:i<l.length
  ·have k1:(i:Int)<(l.length:Int):=by omega
   obtain⟨p,Z⟩:∃p,l[i]?=some p:=⟨_,zB H⟩;obtain⟨N,z,rfl,S,V⟩:=a1.out wr m _ _ i p s Z;obtain⟨k,b,c7,c4,t⟩:=L.out wr _ i m y p Z s I A n;have HC:=aa t;go_wp2_with fail;refine HC.mono ?_;rintro X J ⟨x,rfl,B,c8,HN⟩;have b8:=aa (B.alloc (.cells #[ae x] 103));go_wp2_with (at_builtin;refine ft rfl _ _ 110 rfl w.heap.size 103 i0 (.pointer none) 1 8 underlying110 hi a8 b5 a9 rfl (by decide) _ _ _ rfl b8 (aD J.heap.size 0) 1 1 [ae x] rfl rfl (ue _ _) (by simp[Value.oneCell']) (by unfold maxLen;omega) (by omega) (by simp;omega) ?_;intro v' w6 C D W;have H6:=aa (HN v' w6 C D W))
   go_roundg (l.length-(i+1))
   all_goals first|omega|exact H6
  ·have d1:decide ((i:Int)<(l.length:Int))=false:=zI (by omega);have a4:i=l.length:=by omega
   subst a4;rw[zQ]at A;simp only[zQ]at s;obtain⟨z1,z2,z3⟩:=HM.out wr m _ _ s;have HE:=aa (U wr _ m y s I A n);go_wp2_with fail;refine HE.mono ?_;intro X w9 h9;have b7:=aa h9;obtain⟨c9,j9,rfl,b6⟩:=h9;go_wp2_with fail;go_ret;exact b7
theorem Pl {B:Me}(hA:aV<=A)(hB:aV<=B):aq A+A.p+aq B+2<=aq (bf A B):=by
 obtain⟨a,j,c,b⟩:=hA;obtain⟨d,f,h,e⟩:=hB;simp only[aV]at a j c b d f h e;simp only[aq,bf];obtain⟨P,i⟩:∃P,max (A.p+B.n) B.p=P:=⟨_,rfl⟩;rw[i];have g:A.y+B.y-1=(A.y-1)+(B.y-1)+1:=by omega
 rw[g,ye,ye];have k:(A.p+4)*(A.y-1)<=(P+4)*(A.y-1):=zn _ (by omega);have l:(B.p+4)*(B.y-1)<=(P+4)*(B.y-1):=zn _ (by omega);omega
theorem SP (hA:aV<=A):aq A+2<=aq (bB A):=by
 obtain⟨a,e,c,b⟩:=hA;simp only[aV]at a e c b;simp only[aq,bB];have d:A.y+1-1=(A.y-1)+1:=by omega
 rw[d,ye];omega
theorem Pm (hA:aV<=A):aq A+1+A.p+1<=aq (cZ A):=by
 obtain⟨a,e,c,b⟩:=hA;simp only[aV]at a e c b;simp only[aq,cZ];have d:A.y+1-1=(A.y-1)+1:=by omega
 rw[d,ye];have f:(A.p+4)*(A.y-1)<=(A.p+1+4)*(A.y-1):=zn _ (by omega);omega
theorem Fx {f:Nat->Me}{P:Nat}:∀{l:List Nat},(∀a∈l,aV<=f a)->dA (λa=>(f a).p) l<=P->aG (λa=>aq (f a)) l+(P+4)*l.length<=(P+4)*aG (λa=>(f a).y) l+2*l.length
 | [],_,_=>by simp[aG]
 |a::l,h,hp=>by
  obtain⟨d,k,i,g⟩:=h a (by simp);simp only[aV]at d k i g;simp only[dA]at hp;have e:=Fx (f:=f) (P:=P) (l:=l) (λb c=>h b (by simp[c])) (by omega);simp only[aG,zG,aq]at e ⊢;have m:((f a).p+4)*((f a).y-1)<=(P+4)*((f a).y-1):=zn _ (by omega);have j:(P+4)*(f a).y=(P+4)*((f a).y-1)+(P+4):=by
   conv=>lhs;rw[show (f a).y=((f a).y-1)+1 by omega,ye]
   omega
  rw[ye,ye,j];omega
theorem VW (h:∀a∈l,aV<=f a)(h1:l.length≠1):aG (λa=>aq (f a)) l+2<=aq (orM f l):=by
 cases l with
 |nil=>simp[aG,aq]
 |cons a l=>
  cases l with
  |nil=>simp at h1
  |cons b l=>
   obtain⟨P,j⟩:∃P,max 1 (dA (λa=>(f a).p) (a::b::l))=P:=⟨_,rfl⟩;have c:=Fx (f:=f) (P:=P) h (by omega);have i:=(h a (by simp)).2.2.1;simp only[aV]at i;simp only[aq,orM];rw[j];obtain⟨Y,e⟩:∃Y,aG (λa=>(f a).y) (a::b::l)=Y:=⟨_,rfl⟩;have d:1<=Y:=by rw[<-e];simp only[aG];omega
   rw[e]at c ⊢;rw[Nat.max_eq_right d];have m:(P+4)*Y=(P+4)*(Y-1)+(P+4):=by
    conv=>lhs;rw[show Y=(Y-1)+1 by omega,ye]
    omega
   have g:(P+4)*(a::b::l).length=(P+4)*l.length+(P+4)*2:=by rw[zG,zG,<-ye]
   have k:4*l.length<=(P+4)*l.length:=zn _ (by omega);simp only[zG]at c g;simp only[aq]at c;omega
theorem SQ (h:runeB r=true):-9223372036854775808<=r/\r<=9223372036854775807:=by
 simp only[runeB,zY]at h;omega
theorem Am:∀i,uI i:=by
 intro i
 induction i using Nat.strongRecOn with
 |ind i ih=>
  intro w c q r k b t hi hP U T hq R;obtain⟨e,he⟩:∃e,c.T[i]?=some e:=⟨_,zB hi⟩;obtain⟨pa,pc,en,k0,b0,F,cp,h1,a7,a6,n0,nk,nb,hK,hB,A⟩:=t.rest i e he;have o:=t.wf i e he;have v:∀a∈e.parts,a<c.T.length:=λa C=>by have:=o.2 a C;omega
  have p:sz c.T i=e.size (sz c.T):=pg he o.2;have z:lg c.T i=e.lang (lg c.T):=t.lang he;obtain⟨a3,a5⟩:=SQ U;have V:w.cell? (aD (c.R i) 4)=some (Vf 143 #[ae k0,ae b0]):=ag.cell h1 4;rw[T]at V;have ek:k=k0/\b=b0:=by
   injection V with h;injection h with _ _ h;injection h with h;injection h with h h';injection h' with h' _;injection h with h;injection h with h;injection h with h;injection h' with h';injection h' with h';injection h' with h';exact⟨h,h'⟩
  obtain⟨rfl,rfl⟩:=ek;have j:∀Q,q<=Q->Q+1<=q+aq (sz c.T i)->(∀args w,(callFunc F args).run prog w=.ok (.enter F args) w)->Calls prog F (#[Vi r]++cp) w (au w c Q (aX (lg c.T i) r) (aN (sz c.T i)))->Calls prog 143 #[Vi r,ae k,ae b] w (au w c (q+aq (sz c.T i)) (aX (lg c.T i) r) (aN (sz c.T i))):=λQ h1 h2 eg a0=>
   (We t hi (by omega) h1 a3 a5 hK hB nk eg a0).mono λr9 X D=>D.more h2
  cases e with
  |set s=>
   obtain⟨W,b2,la,lc,rfl,rfl,S,P,B,E,a4,_⟩:=A;have g:aq (sz c.T i)=2:=by rw[p];rfl
   refine j q (zA _) (by omega) (enters_of func111 (by kernel_rfl) rfl) ?_;refine (Wh t U B E a4 (xU o.1.2) (L:=aX (lg c.T i) r) (by rw[z];exact Wg)).mono λr9 X D=>?_;obtain⟨M,O,K,N,G,H,J,I⟩:=D;refine⟨M,O,K,N,G,H,J,Me.trans I ?_⟩;rw[p];show aV<=aN aV
   exact⟨by decide,by decide,by decide,by decide⟩
  |empty=>
   obtain⟨W,rfl,rfl,S,B⟩:=A;have g:aq (sz c.T i)=2:=by rw[p];rfl
   refine j q (zA _) (by omega) (enters_of func63 (by kernel_rfl) rfl) ?_;refine (Pz t B).mono λr9 X D=>?_;obtain⟨M,O,K,N,G,H,J,I⟩:=D;refine⟨M,O,K,N,G,H,?_,Me.trans I ?_⟩
   ·rw[J,z];funext u;refine propext ⟨λh=>h.elim,λh=>?_⟩;cases h
   ·rw[p];show aV<=aN aV
    exact⟨by decide,by decide,by decide,by decide⟩
  |pair x y=>
   obtain⟨W,b2,b3,rfl,rfl,S,P,n3,B,E,k3⟩:=A;have hx:=v x (by simp[RE.parts]);have hy:=v y (by simp[RE.parts]);have g:=Pl (t.sz_one hx) (t.sz_one hy);have d:sz c.T i=bf (sz c.T x) (sz c.T y):=p;rw[d]at hq R j ⊢;refine j (q+aq (sz c.T x)+(sz c.T x).p+aq (sz c.T y)+1) (by omega) (by omega) (enters_of func159 (by kernel_rfl) rfl) ?_;have:=RU (ih x (o.2 x (by simp[RE.parts]))) (ih y (o.2 y (by simp[RE.parts]))) t hx hy hP U S P n3 B E k3 (by omega) R;rw[z];exact this
  |or l=>
   obtain⟨W,b2,a9,a8,rfl,rfl,_,P,B,E,Y⟩:=A;have Z:∀a∈l,aV<=sz c.T a:=λa C=>t.sz_one (v a C);have g:=VW (f:=sz c.T) Z o.1.1;have d:sz c.T i=orM (sz c.T) l:=p;rw[d]at hq R j ⊢;refine j (q+aG (λa=>aq (sz c.T a)) l+1) (by omega) (by omega) (enters_of func103 (by kernel_rfl) rfl) ?_;have a2:aG (λa=>(aN (sz c.T a)).z) l<=3000000000000:=by
    have t2:aG (λa=>bZ (sz c.T a).z) l<=bZ (aG (λa=>(sz c.T a).z) l):=uV l;have u2:=dY (show aG (λa=>(sz c.T a).z) l<=max 1 (aG (λa=>(sz c.T a).z) l) by omega);simp only[aN,orM]at R ⊢;omega
   have:=Yi (l:=l) (λa C=>ih a (o.2 a C)) t v hP U P B E Y (by omega) a2;refine this.mono λr9 X D=>?_;obtain⟨M,O,K,N,G,H,J,I⟩:=D;refine⟨M,O,K,N,G,H,?_,Me.trans I (WN _ _)⟩;rw[J,z];rfl
  |not a=>
   obtain⟨W,b2,rfl,rfl,S,P,B,E⟩:=A;have C:=v a (by simp[RE.parts]);have g:=SP (t.sz_one C);have d:sz c.T i=bB (sz c.T a):=p;rw[d]at hq R j ⊢;refine j (q+aq (sz c.T a)+1) (by omega) (by omega) (enters_of func115 (by kernel_rfl) rfl) ?_;have:=Wi (ih a (o.2 a (by simp[RE.parts]))) t C hP U S P B E (by omega) R;refine this.mono λr9 X D=>?_;obtain⟨M,O,K,N,G,H,J,I⟩:=D;refine⟨M,O,K,N,G,H,?_,Me.trans I (Uk _)⟩;rw[J,z];rfl
  |many a m n=>
   obtain⟨W,b2,b3,b4,rfl,rfl,S,P,n3,n4,B,E,k3,k4⟩:=A;have C:=v a (by simp[RE.parts]);have g:=Pm (t.sz_one C);have d:sz c.T i=cZ (sz c.T a):=p;rw[d]at hq R j ⊢;obtain⟨w1,w2,w3⟩:=o.1;refine j (q+aq (sz c.T a)+1+(sz c.T a).p) (by omega) (by omega) (enters_of func116 (by kernel_rfl) rfl) ?_;have a1:(aN (sz c.T a)).z<=3000000000000:=by
    have:=dY (show (sz c.T a).z<=(sz c.T a).z+1 by omega);simp only[aN,cZ]at R ⊢;omega
   have:=QX (ih a (o.2 a (by simp[RE.parts]))) t C hP U w1 w2 w3 S P n3 n4 B E k3 k4 (by omega) a1;refine this.mono λr9 X D=>?_;obtain⟨M,O,K,N,G,H,J,I⟩:=D;refine⟨M,O,K,N,G,H,?_,Me.trans I (Qs _)⟩;rw[J,z];exact (GJ w1 (by rcases w3 with h|h;exact .inl h;exact .inr h.1)).symm
def BV (s:List (Int×Int)):Lg:=λu=>∃x,u=[x]/\memB s x=true
theorem Uv:BV []=eA:=by
 funext u;refine propext ⟨?_,λh=>h.elim⟩;rintro⟨x,_,h⟩;simp[memB]at h
theorem Qy (h:Canon s):∀x∈gK s,-9223372036854775808<=x/\x<=9223372036854775807:=λx d=>by
 obtain⟨y,c,e⟩:=Rw d;obtain⟨a,b,_⟩:=h.1 y c;simp only[runeB,zY]at a b;rcases e with rfl|rfl<;>omega
theorem Qz (hI:MkI w c q):Calls prog 70 #[ae c.m,.slice la 0 lc] w (au w c q (BV []) aV):=by
 have d:Hid (∀a,Bw w a->au w c q (BV []) aV (.returned (ae (c.R 0))) a):=λa b=>⟨c,0,rfl,hI.below b,Gone.below b,(zC.1 hI.t0).1,by rw[Uv];exact hI.none,by rw[hI.sz0];exact Me.refl _⟩;have f:w.cell? (aD c.m 1)=some (ae (c.R 0)):=hI.mb.cell 1;have e:=hI.mb.lt;go_enter func70,ntmps70;go_wp2_with fail;go_ret;exact d _ (((zE _ _).alloc (zA _) _).alloc (by simp) _)
theorem Nf {l:LQ}(hI:MkI w c q)(hP:aZ w)(hq:q<=9000000000000000000)(hl:Rd w la l)(hla:∀b o,la=some ⟨b,o,none⟩->b<w.heap.size/\¬c.S b)(hcan:Canon l)(hl0:l.length≠0)(hl9:l.length<=400000):Calls prog 70 #[ae c.m,.slice la l.length lc] w (au w c (q+1) (BV l) aV):=by
 obtain⟨i0,hi,W,a3,X⟩:=zz jo;obtain⟨W0,N,K,I,A,a8⟩:=jK (rfl:w.heap.size=_) [ae c.m] 95 [.slice la l.length lc] 24;replace K:Below _ _ W0:=K;have b1:=hI.mb.lt;have HI:=aa hI;have HP:=aa hP;have HL:=aa hl;have Y:=aa hla;have HC:=aa hcan;have a1:=aa N;have a4:=aa K;have P:=aa I;have a2:=aa A;have c2:W0.cell? ⟨w.heap.size+1,0,none⟩=some (.slice la l.length lc):=A.cell 0;have hz:((l.length:Int)==0)=false:=zD.2 (by omega);have b5:(l.length==0)=false:=zD.2 hl0;clear hI hP hl hla hcan N K I A;go_enter func70,ntmps70;go_wp2_with fail;rw[a1.out];generalize hS:w.heap.size=S at *;go_wp2_with fail
 go_loopg [5,18] l.length (λj ev iv wr=>YV w S la lc c.m l j ev iv wr)
 case atStart=>exact⟨0,rfl,zW _,by omega,zZ _ _ _ _,a4,P,a2⟩
 case round=>
  obtain⟨i,rfl,a9,hj,d,f,t,n⟩:=hrel;have k0:(0:Int)<=(i:Int):=zK _;have b2:S+2<=wr.heap.size:=by have:=n.lt;omega
  by_cases E:i<l.length
  ·have k1:(i:Int)<(l.length:Int):=by omega
   obtain⟨b,b4,rfl,hb,H,D⟩:=HL.out i l[i] (zB E);generalize hx:l[i]=x at H D;have HX:Hid (l.take (i+1)=l.take i++[x]):=dU (by rw[zB E,hx]);obtain⟨y,u⟩:=x;simp only at H D;rw[hS]at hb;rw[<-f.cell (p:=⟨b,_,none⟩) hb]at H D;have b0:b<wr.heap.size:=by omega
   have a7:=aa d;have a0:=aa t;have R:=aa n;have Q:=aa f;have b3:=aa hx;clear hx t n f;go_wp2_with (at_builtin;refine yD _ rfl _ _ 61 rfl (S+2) 3 i0 (.int .i64 0) 1 8 underlying61 hi W a3 X rfl (by decide) _ _ _ rfl ((d.alloc _).alloc _) ⟨wr.heap.size+1,0,none⟩ 2 2 [.int .i64 y,.int .i64 u] rfl rfl (Og _ _ _ _) (et _ _) (by unfold maxLen;omega) (by omega) (by simp;omega) ?_;intro v' w3 B m _);have R2:=((Q.alloc (by omega) (.cells #[.int .i64 y,.int .i64 u] 92)).alloc (by simp;omega) (.cells #[.int .i64 y,.int .i64 u] 3)).grown m (by simp;omega) (λk e=>by have:=(d.lt k e).1;omega);have v:∀k,k<S+2->some k≠Value.ownBlock u5:=λk hk e=>by have:=(d.lt k e.symm).1;omega
   have a6:=aa (((a0.alloc (.cells #[.int .i64 y,.int .i64 u] 92)).alloc (.cells #[.int .i64 y,.int .i64 u] 3)).grown m (v _ (by omega)));have V:=aa (((R.alloc (.cells #[.int .i64 y,.int .i64 u] 92)).alloc (.cells #[.int .i64 y,.int .i64 u] 3)).grown m (v _ (by omega)))
   go_roundg (gk-1)
   case measure=>omega
   case rel=>
    refine⟨i+1,by go_num,by omega,by omega,?_,R2,a6,V⟩;have e2:bj (gK (l.take (i+1)))=bj (gK (l.take i))++[.int .i64 y,.int .i64 u]:=by rw[HX.out,Of];simp[bj]
    rw[e2,show 2*(i+1)=2*i+2 by omega];exact B
  ·have d1:decide ((i:Int)<(l.length:Int))=false:=zI (by omega);have d2:decide (i<l.length)=false:=zI E;have U:i=l.length:=by omega
   subst U;rw[zQ]at d;obtain⟨ea,ec,rfl,s,_⟩:=Rx d (Qy HC.out);have e1:wr.cell? ⟨S,0,none⟩=some (ae c.m):=t.cell 0;have C:Hid (Below w.heap.size w (wr.alloc (.cells #[.int .i64 0,.int .i64 0,.slice none 0 0,.bool false,.func (.func 111) #[] #[ae (S+1),ae S]] 113))):=by
    show Below w.heap.size w _
    rw[hS];exact f.alloc (show S<=wr.heap.size by omega) _
   have J:Below wr.heap.size wr (wr.alloc (.cells #[.int .i64 0,.int .i64 0,.slice none 0 0,.bool false,.func (.func 111) #[] #[ae (S+1),ae S]] 113)):=(zE _ _).alloc (zA _) _;have hn:∀g,S<=g->g≠wr.heap.size->¬(c.S g\/g=wr.heap.size):=λg H D z=>by
    rcases z with z|z
    ·have:=HI.S_lt z;omega
    ·exact D z
   have M:Rd (wr.alloc (.cells #[.int .i64 0,.int .i64 0,.slice none 0 0,.bool false,.func (.func 111) #[] #[ae (S+1),ae S]] 113)) la l:=Rd.below HL C;have G:=aa (sk (e:=.set l) (n0:=0) (pa:=none) (pc:=0) (en:=false) (F:=111) (cp:=#[ae (S+1),ae S]) (x:=wr.heap.size) (mc:=ec) HI C (HP.below C) ⟨λh=>hl0 (by rw[h];rfl),HC⟩ (λa ha=>by simp[RE.parts]at ha) (by omega) (ag.new wr _ 113) (by
     refine⟨λh=>(by cases h),?_⟩;rintro⟨x,e,_⟩;cases e) (λj p hj=>by simp[RE.parts]at hj)
    ⟨S+1,S,la,lc,rfl,rfl,hn _ (by omega) (by omega),hn _ (by omega) (by omega),n.alloc _,t.alloc _,M,λb o e=>by
     obtain⟨H,D⟩:=Y.out b o e;refine⟨by simp;omega,?_⟩;rintro (z|z)
     ·exact D z
     ·omega⟩ (s.below J) (show (gK l).length<=1000000 by rw[Rv];omega) (by simp[RE.parts]) hq)
   have a5:Hid (∀r L,jF w c (q+1) (.set l) r L->au w c (q+1) (BV l) aV r L):=λr L O=>O.at (zE _ _) (λa ha=>by simp[RE.parts]at ha) rfl (Me.refl _);clear d s t n f J hn M;go_wp2_with fail;refine G.mono ?_;intro r L O;have T:=aa (a5 r L O);obtain⟨c9,j9,rfl,Z⟩:=O;clear Z;go_wp2_with fail;go_ret;exact T
theorem Di {l:LQ}(hI:MkI w c q)(hP:aZ w)(hq:q<=9000000000000000000)(hl:Rd w la l)(hla:∀b o,la=some (aD b o)->b<w.heap.size/\¬c.S b)(hcan:Canon l)(hl9:l.length<=400000):Calls prog 70 #[ae c.m,.slice la l.length lc] w (au w c (q+1) (BV l) aV):=by
 by_cases a:l.length=0
 ·have:l=[]:=zq.1 a;subst this;exact (Qz hI).mono λr d h=>h.more (by omega)
 ·exact Nf hI hP hq hl hla hcan a hl9
theorem UR {pc:Nat}{pa:OA}(hI:MkI w c q)(hl:∀a∈l,a<c.T.length)(hP:aZ w)(hpa:dQ w c.S c.R pa l)(hq:q+l.length+2<=9000000000000000000)(hz:aG (λa=>(sz c.T a).z) l<=3000000000000):Calls prog 72 #[ae c.m,.slice pa l.length pc] w (au w c (q+l.length+2) (λu=>∀a∈l,lg c.T a u) (bB (orM (λa=>bB (sz c.T a)) l))):=by
 obtain⟨i0,hi,b3,a7,a8⟩:=zz jN;have c6:l.length<=3000000000000:=zJ (oh (f:=λa=>(sz c.T a).z) (λa s=>(hI.sz_one (hl a s)).2.2.2)) hz;have P:Hid (∀(wr:World) (lv:Value) (i:Nat) (k:MC) (r:List Nat) (a:Nat),l[i]?=some a->dk w c wr k (q+i) lv.ownBlock->(∀d∈r,d<k.T.length)->aT (λd a=>lg k.T d=fZ (lg c.T a)/\sz k.T d<=bB (sz c.T a)) r (l.take i)->wr.ownsRow w.heap.size 103 1 lv i (r.map λp=>ae (k.R p)) ->
   Calls prog 73 #[ae c.m,ae (c.R a)] wr (λE J=>∃x,E=.returned (ae x)/\J.ownsRow w.heap.size 103 1 lv i (r.map λp=>ae (k.R p))/\w.heap.size<=J.heap.size/\Hid (∀Z w6,w6.ownsRow w.heap.size 103 1 Z (i+1) ((r.map λp=>ae (k.R p))++[ae x])->(J.alloc (.cells #[ae x] 103)).grownBy w6 lv.ownBlock->(∀g,Z.ownBlock=some g->lv.ownBlock=some g\/(J.alloc (.cells #[ae x] 103)).heap.size<=g)->js (λa=>fZ (lg c.T a)) (λa=>bB (sz c.T a)) (λi=>q+i) w c l (l.length-(i+1)) Z (Vi ((i+1:Nat):Int)) w6))):=λwr lv i k r a s n I v m=>by
  have O:=hl a (zU s);have c3:i<l.length:=(zC.1 s).1;have b4:=n.gone.len;have c1:aZ wr:=n.gone.pow hI hP;have hR:(k.wX lv.ownBlock).R a=c.R a:=n.gone.R a O;have hM:(k.wX lv.ownBlock).m=c.m:=n.gone.m;have hS:sz (k.wX lv.ownBlock).T a=sz c.T a:=n.gone.sz O;have hL:lg (k.wX lv.ownBlock).T a=lg c.T a:=n.gone.lang O;have y:=oQ (a:=a) n.mk (by omega) (show a<k.T.length by omega) c1;rw[hR,hM,hS,hL]at y;refine y.mono λE J U=>?_;obtain⟨x,h1,h3,h4,_,h5⟩:=js.call (F:=λa=>fZ (lg c.T a)) (G:=λa=>bB (sz c.T a)) (Q:=λi=>q+i) hI.seven n I v m s U;exact⟨x,h1,h3,h4,h5⟩
 have a1:Hid (∀(wr:World) (k:MC) (X:Nat) (o:Option Nat) (i p:Nat),dk w c wr k X o->l[i]?=some p->∃M t,pa=some (aD M t)/\M<wr.heap.size/\wr.cell? ⟨M,t+i,none⟩=some (ae (c.R p))):=λwr k X o i p n V=>by
  obtain⟨M,t,e,a3,b8,W⟩:=hpa i p V;have hs:=n.gone.but.size;exact⟨M,t,e,by omega,(n.gone.but.cell (p:=⟨M,t+i,none⟩) a3 b8).trans W⟩
 have a2:Hid (∀(wr:World) (lv:Value) (k:MC) (r:List Nat),dk w c wr k (q+l.length) lv.ownBlock->(∀d∈r,d<k.T.length)->aT (λd a=>lg k.T d=fZ (lg c.T a)/\sz k.T d<=bB (sz c.T a)) r l->wr.ownsRow w.heap.size 103 1 lv l.length (r.map λp=>ae (k.R p)) ->
   Calls prog 61 #[ae c.m,lv] wr (λE H=>∃x,E=.returned (ae x)/\Hid (au w c (q+l.length+1) (λu=>∃a∈l,fZ (lg c.T a) u) (orM (λa=>bB (sz c.T a)) l) (.returned (ae x)) H))):=λwr lv k r n I v m=>by
  obtain⟨b1,S,c7,c2,rfl,D⟩:=dk.done hI n m;have Y:=AH (pc:=c2) b1 (S.pow hI hP) (by omega) I D (zJ (aT.sum (f:=λa=>(sz k.T a).z) (g:=λa=>(sz c.T a).z) (v.imp λa b _ h=>h.2.2.2.2)) hz);rw[S.m]at Y;refine Y.mono ?_;rintro E H ⟨c9,j9,rfl,T,A,R,K,L⟩;refine⟨_,rfl,c9,j9,rfl,T,S.trans A,R,?_,Me.trans L (aT.orM (v.imp λa b _ h=>h.2))⟩;rw[K];funext u;refine propext ⟨?_,?_⟩
  ·rintro⟨d,N,hu⟩;obtain⟨a,s,h,_⟩:=v.left d N;exact⟨a,s,by rw[<-h];exact hu⟩
  ·rintro⟨a,s,hu⟩;obtain⟨d,N,h,_⟩:=v.right a s;exact⟨d,N,by rw[h];exact hu⟩
 have a0:Hid (∀(H:World) (x:Nat),au w c (q+l.length+1) (λu=>∃a∈l,fZ (lg c.T a) u) (orM (λa=>bB (sz c.T a)) l) (.returned (ae x)) H->Calls prog 73 #[ae c.m,ae x] H (au w c (q+l.length+2) (λu=>∀a∈l,lg c.T a u) (bB (orM (λa=>bB (sz c.T a)) l)))):=λH x U=>by
  obtain⟨c9,j9,e9,T,A,R,K,L⟩:=U;have e6:x=c9.R j9:=by injection e9 with e;injection e with e;injection e with e;injection e
  subst e6;have Y:=oQ T (by omega) R (A.pow hI hP);rw[A.m]at Y;refine Y.mono ?_;rintro E J ⟨c5,j5,rfl,b0,b2,b5,b9,b7⟩;refine⟨c5,j5,rfl,b0,A.trans b2,b5,?_,Me.trans b7 (mt L)⟩;rw[b9,K];funext u;refine propext ⟨λh a s=>Classical.byContradiction λhn=>h ⟨a,s,hn⟩,?_⟩;rintro h ⟨a,s,hn⟩;exact hn (h a s)
 have c8:Hid (∀(wr:World) (k:MC) (X:Nat) (o:Option Nat),dk w c wr k X o->w.heap.size<=wr.heap.size):=λwr k X o n=>n.gone.but.size;have a5:Hid (js (λa=>fZ (lg c.T a)) (λa=>bB (sz c.T a)) (λi=>q+i) w c l l.length (Vz) (Vi 0) w):=js.start (by simpa using hI) (zE _ _);go_enter func72,ntmps72;go_wp2_with fail
 go_loopg [5,10] l.length (λj lv iv wr=>js (λa=>fZ (lg c.T a)) (λa=>bB (sz c.T a)) (λi=>q+i) w c l j lv iv wr)
 case atStart=>exact a5
 case round=>
  obtain⟨i,k,r,rfl,c3,hj,n,I,v,m⟩:=hrel;have k0:(0:Int)<=(i:Int):=zK _;by_cases c4:i<l.length
  ·have k1:(i:Int)<(l.length:Int):=by omega
   obtain⟨p,V⟩:∃p,l[i]?=some p:=⟨_,zB c4⟩;obtain⟨M,t,rfl,a3,W⟩:=a1.out wr k _ _ i p n V;have HC:=aa (P wr _ i k r p V n I v m);go_wp2_with fail;refine HC.mono ?_;rintro E J ⟨x,rfl,B,d0,HN⟩;have b6:=aa (B.alloc (.cells #[ae x] 103));go_wp2_with (at_builtin;refine ft rfl _ _ 110 rfl w.heap.size 103 i0 (.pointer none) 1 8 underlying110 hi b3 a7 a8 rfl (by decide) _ _ _ rfl b6 (aD J.heap.size 0) 1 1 [ae x] rfl rfl (ue _ _) (by simp[Value.oneCell']) (by unfold maxLen;omega) (by omega) (by simp;omega) ?_;intro Z w6 C z a4;have H6:=aa (HN Z w6 C z a4))
   go_roundg (l.length-(i+1))
   all_goals first|omega|exact H6
  ·have d1:decide ((i:Int)<(l.length:Int))=false:=zI (by omega);have a6:i=l.length:=by omega
   subst a6;rw[zQ]at v;have HE:=aa (a2 wr _ k r n I v m);go_wp2_with fail;refine HE.mono ?_;rintro E H ⟨x,rfl,U⟩;have HN:=aa (a0 H x U);go_wp2_with fail;refine HN.mono ?_;intro E H h9;have c0:=aa h9;obtain⟨c9,j9,rfl,a9⟩:=h9;go_wp2_with fail;go_ret;exact c0
