import Derived.Test.YtebnghmioamheaaGreatDoorM48
import Derived.Test.YtebnghmioamheaaGreatDoorM44
set_option maxHeartbeats 4000000
set_option maxRecDepth 100000
set_option linter.all false
namespace Go.Proofs.YtebnghmioamheaaGreatDoor
open Go.RowKit Brm Tryz
variable {p:Pat}{qs:List (List (Int×Int))}{l:List Pat}{m n:Int}{A:NP}{w w':World}
def SV (w:World)(A:Nat->Prop)(q:List (Int×Int))(v:Value):Prop:=∃so sc,v=.slice so q.length sc/\lh w A so q
def gh (w:World)(A:Nat->Prop):List (List (Int×Int))->List Value->Prop
 | [],[]=>True
 |q::l,v::m=>SV w A q v/\gh w A l m
 |_,_=>False
theorem gh.len {w:World}{A:NP}:∀{l:List (List (Int×Int))} {m:LV},gh w A l m->m.length=l.length
 | [],[],_=>rfl
 |_::_,_::_,h=>by rw[zG,zG,gh.len h.2]
theorem gh.append {w:World}{A:NP}:∀{l l':List (List (Int×Int))} {m m':LV},gh w A l m->gh w A l' m'->gh w A (l++l') (m++m')
 | [],_,[],_,_,k=>k
 |_::_,_,_::_,_,h,k=>⟨h.1,gh.append h.2 k⟩
theorem gh.below {w w':World}{A:NP}(k:Bw w w'):∀{l:List (List (Int×Int))} {m:LV},gh w A l m->gh w' A l m
 | [],[],_=>trivial
 |_::_,_::_,h=>⟨by obtain⟨c,a,e,b⟩:=h.1;exact⟨c,a,e,b.keep (ah.below k)⟩,gh.below k h.2⟩
theorem gh.keep {w w':World}{A:NP}(k:ah A w w'):∀{l:List (List (Int×Int))} {m:LV},gh w A l m->gh w' A l m
 | [],[],_=>trivial
 |_::_,_::_,h=>⟨by obtain⟨c,a,e,b⟩:=h.1;exact⟨c,a,e,b.keep k⟩,gh.keep k h.2⟩
theorem gh.ones {w:World}{A:NP}:∀{l:List (List (Int×Int))} {m:LV},gh w A l m->∀u∈m,u.oneCell'=true
 | [],[],_,u,a=>by simp at a
 |_::_,v::_,h,u,a=>by
  rcases zO.1 a with rfl|a
  ·obtain⟨b,c,rfl,_⟩:=h.1;rfl
  ·exact gh.ones h.2 u a
theorem gh.at {w:World}{A:NP}:∀{l:List (List (Int×Int))} {m:LV},gh w A l m->∀{i:Nat} {q:LQ},l[i]?=some q->∃so sc,m[i]?=some (.slice so q.length sc)/\lh w A so q
 | [],[],_,i,q,hi=>by simp at hi
 |q'::l,v::m,h,0,q,hi=>by
  simp at hi;subst hi;obtain⟨so,sc,rfl,a⟩:=h.1;exact⟨so,sc,rfl,a⟩
 |q'::l,v::m,h,i+1,q,hi=>by
  obtain⟨so,sc,a,b⟩:=gh.at h.2 (i:=i) (q:=q) (by simpa using hi);exact⟨so,sc,by simpa using a,b⟩
def fw:List (List (Int×Int))->Nat
 | []=>0
 |q::l=>q.length+fw l
theorem lX:∀l m:List (List (Int×Int)),fw (l++m)=fw l+fw m
 | [],m=>by simp[fw]
 |q::l,m=>by simp only[zV,fw,lX l m];omega
def kR (p:Pat)(qs:List (List (Int×Int))):Prop:=∀f:Int->Int,(∀q∈qs,∀r,runeB r=true->memB (told q) r=memB (told q) (f r))->fo f p.Mt
theorem kR.more {qs':List (List (Int×Int))}(h:kR p qs)(k:∀q∈qs,q∈qs'):kR p qs':=λf b=>h f λq a=>b q (k q a)
theorem WQ {q:LQ}:kR (.set (told q)) [q]:=λf h t g=>by
 have b:=h q (by simp);show (∃c,t=[c]/\memB (told q) c=true)↔∃c,t.map f=[c]/\memB (told q) c=true
 constructor
 ·rintro⟨c,rfl,a⟩;exact⟨f c,rfl,by rw[<-b c (g c (by simp))];exact a⟩
 ·rintro⟨c,e,a⟩;obtain⟨d,rfl,rfl⟩:=List.map_eq_singleton_iff.1 e;exact⟨d,rfl,by rw[b d (g d (by simp))];exact a⟩
theorem GO {f:Int->Int}:∀l:List Pat,(∀p∈l,fo f p.Mt)->fo f (jl l)
 | [],_=>λt _=>by simp[jl]
 |p::l,h=>wk (h p (by simp)) (GO l (λq a=>h q (by simp[a])))
theorem WR (h:∀p∈l,kR p qs):kR (.row l) qs:=λf b=>GO l λp a=>h p a f b
theorem Yh (h:∀p∈l,kR p qs):kR (.or l) qs:=λf c t d=>by
 show gy l t↔gy l (t.map f)
 rw[nO,nO];exact⟨λ⟨p,a,b⟩=>⟨p,a,(h p a f c t d).1 b⟩,λ⟨p,a,b⟩=>⟨p,a,(h p a f c t d).2 b⟩⟩
theorem WS (h:∀p∈l,kR p qs):kR (.and l) qs:=λf b t c=>by
 show eG l t↔eG l (t.map f)
 rw[mj,mj];exact⟨λk p a=>(h p a f b t c).1 (k p a),λk p a=>(h p a f b t c).2 (k p a)⟩
theorem WT (h:kR p qs):kR (.not p) qs:=λf b t a=>by
 show ¬p.Mt t↔¬p.Mt (t.map f)
 rw[h f b t a]
theorem Uu (h:kR p qs):kR (.many p m n) qs:=λf d t e=>by
 show (∃r:Nat,m<=r/\(n<0\/(r:Int)<=n)/\jL p.Mt r t)↔∃r:Nat,m<=r/\(n<0\/(r:Int)<=n)/\jL p.Mt r (t.map f)
 constructor
 ·rintro⟨r,c,b,a⟩;exact⟨r,c,b,(pT (h f d) r t e).1 a⟩
 ·rintro⟨r,c,b,a⟩;exact⟨r,c,b,(pT (h f d) r t e).2 a⟩
structure SetsG (l:List Pat)(qs:List (List (Int×Int))):Prop where
 ok:∀q∈qs,PCanon q
 sum:fw qs<=cr l
 len:qs.length<=bH l
 cov:∀p∈l,kR p qs
theorem SetsG.start:SetsG [] []:=⟨λq h=>by simp at h,zA _,zA _,λp h=>by simp at h⟩
theorem AY:∀(l m:List Pat),cr (l++m)=cr l+cr m
 | [],m=>by simp[cr]
 |p::l,m=>by simp only[zV,cr,AY l m];omega
theorem AZ:∀(l m:List Pat),bH (l++m)=bH l+bH m
 | [],m=>by simp[bH]
 |p::l,m=>by simp only[zV,bH,AZ l m];omega
theorem SetsG.more {l m:List Pat}{qs rs:List (List (Int×Int))}(h:SetsG l qs)(k:SetsG m rs):SetsG (l++m) (qs++rs):=by
 refine⟨λq a=>?_,?_,?_,λp b=>?_⟩
 ·rcases zM.1 a with a|a
  ·exact h.ok q a
  ·exact k.ok q a
 ·have d:=h.sum;have c:=k.sum;rw[lX,AY];omega
 ·have d:=h.len;have c:=k.len;rw[zH,AZ];omega
 ·rcases zM.1 b with b|b
  ·exact (h.cov p b).more λq a=>by simp[a]
  ·exact (k.cov p b).more λq a=>by simp[a]
theorem SetsG.of (h:SetsG l qs)(h1:cr l<=p.rg)(h2:bH l<=p.nd)(h3:(∀q∈l,kR q qs)->kR p qs):SetsG [p] qs:=by
 refine⟨h.ok,?_,?_,λq a=>?_⟩
 ·have:=h.sum;simp only[cr];omega
 ·have:=h.len;simp only[bH];omega
 ·simp at a;subst a;exact h3 h.cov
def rP (w:World)(A:Nat->Prop)(l:List Pat)(e:Ending)(w':World):Prop:=∃v' qs vs,e=.returned v'/\w'.ownsRow w.heap.size 24 1 v' qs.length vs/\gh w' A qs vs/\SetsG l qs/\Below w.heap.size w w'
def Nd (p:Pat):Prop:=∀(w:World) (A:Nat->Prop) (g:Nat) (k:Int) (so:Option Addr) (sn sc:Nat) (lo:Option Addr) (ln lc:Nat) (m n r:Int),NV w A p (bT k so sn sc lo ln lc m n r) g->(∀g,A g->g<w.heap.size)->p.nd<=1000000 ->
 Calls prog 20 #[.agg #[Vi k,.slice so sn sc,.slice lo ln lc,Vi m,Vi n,Vi r]] w (rP w A [p])
theorem vM:(prog.info? 24).map (λi=>(i.zero,i.size,i.bytes))=some (some (Vz),1,24):=by kernel_rfl
theorem WU {lo:OA}{xs:LV}(hr:cg w A lo xs):∀ad,lo=some ad->∀j u,xs[j]?=some u->w.cell? (ad.add j)=some u:=λad e j u c=>by
 obtain⟨b,f,a,_,_,d⟩:=hr j u c;rw[e]at a;injection a with a;subst a;rw[zl];exact d
theorem Kv:∀(l:List Pat) (k:Nat),bH (l.take k)<=bH l
 |l,0=>by simp[bH]
 | [],k+1=>by simp
 |p::l,k+1=>by
  have:=Kv l k;simp only[List.take_succ_cons,bH];omega
theorem kx {K:Int}{so:OA}{sn sc:Nat}{lo:OA}{lc g:Nat}{r:Int}{xs:LV}(hK:K≠1)(hA:∀g,A g->g<w.heap.size)(ho:cB w A 27 6 (.slice lo l.length lc) l.length xs)(hnl:NL w A l xs g)(ih:∀p∈l,Nd p)(hnd:bH l<=1000000):Calls prog 20 #[.agg #[Vi K,.slice so sn sc,.slice lo l.length lc,Vi m,Vi n,Vi r]] w (rP w A l):=by
 obtain⟨x,U,s,y,a6⟩:=dS (rfl:w.heap.size=_) [Vi K,.slice so sn sc,.slice lo l.length lc,Vi m,Vi n,Vi r] 27;have b8:Hid (∀(i:Nat) (p:Pat) (wr:World),l[i]?=some p->Bw x wr->∃J o k h f d j L I M b,lo=some (aD b 0)/\b<wr.heap.size/\wr.cell? ⟨b,i*6,none⟩=some (Vi J)/\wr.cell? ⟨b,i*6+1,none⟩=some (.slice o k h)/\wr.cell? ⟨b,i*6+2,none⟩=some (.slice f d j)/\wr.cell? ⟨b,i*6+3,none⟩=some (Vi L)/\wr.cell? ⟨b,i*6+4,none⟩=some (Vi I)/\wr.cell? ⟨b,i*6+5,none⟩=some (Vi M)/\Hid (Calls prog 20 #[.agg #[Vi J,.slice o k h,.slice f d j,Vi L,Vi I,Vi M]] wr (rP wr A [p]))):=λi p wr hi hb=>by
  have hm:=zU hi;have T:=(zC.1 hi).1;have h1:=ur hm;obtain⟨cc,gg,Z,b2⟩:=NL.at l xs g hnl i p hi;obtain⟨J,o,k,h,f,d,j,L,I,M,rfl⟩:=Z.len;obtain⟨b,a5,b0,b7,c0,c1,c2,c3,c4,c5⟩:=IX ((ho.below s).below hb) T b2;injection b0 with e1 e2 e3;exact⟨J,o,k,h,f,d,j,L,I,M,b,e1,b7,c0,c1,c2,c3,c4,c5,ih p hm wr A gg J o k h f d j L I M ((Z.below s).below hb) (λg hg=>zF (hA g hg) (zJ s.size hb.size)) (by omega)⟩
 have a0:x.cell? (aD w.heap.size 0)=some (Vi K):=y.cell 0;have c6:=y.lt;have kq:(K==1)=false:=zD.2 hK;have d0:l.length<=1000000:=zJ (Bq l) hnd;have b1:=aa hnd;have Q:=aa y;have a9:=aa s;have b5:=aa U;have HA:=aa hA;have D:=aa a6;clear U s y a6 ih ho hnl hA hnd;obtain⟨i0,hi,O,P,Y⟩:=zz vM;go_enter func20,ntmps20;go_upto_region 1 with fail;rw[b5.out];generalize hS:w.heap.size=S at *;go_wp2_with fail
 go_loopw [3,4] (λov iv wr=>∃(i:Nat) (v:List (List (Int×Int))) (X:List Value),iv=Vi i/\i<=l.length/\wr.ownsRow x.heap.size 24 1 ov v.length X/\gh wr A v X/\SetsG (l.take i) v/\Bw x wr) (λ_ iv _=>l.length-(intOf iv).toNat)
 case atStart=>exact⟨0,[],[],rfl,zW _,zZ _ _ _ _,trivial,SetsG.start,zE _ _⟩
 case round=>
  clear a0 c6;obtain⟨i,v,X,rfl,T,u,V,hg,c⟩:=hrel;obtain⟨d2,a5,rfl⟩:=cd u;have HO:=aa u;have HV:=aa V;have HG:=aa hg;have E:=aa c;have a8:x.heap.size<=wr.heap.size:=c.size;have i1:(0:Int)<=(i:Int):=zK _;have a2:wr.cell? (aD S 2)=some (.slice lo l.length lc):=(Q.below c).cell 2;have d4:S<wr.heap.size:=(Q.below c).lt;clear u V hg c;by_cases b6:i<l.length
  ·have i2:(i:Int)<(l.length:Int):=by omega
   obtain⟨p',H⟩:∃p',l[i]?=some p':=⟨_,zB b6⟩;have b4:Hid (l.take (i+1)=l.take i++[p']):=by show _=_;rw[zi,H];rfl
   have a1:Hid (bH (l.take (i+1))<=bH l):=Kv l (i+1);obtain⟨J,o,k,h,f,d,j,L,I,M,b,rfl,c9,y0,y1,y2,y3,y4,y5,HC⟩:=b8.out i p' wr H E.out;clear H;go_wp2_with fail;refine HC.mono ?_;rintro e w5 ⟨v5,N,us,rfl,a,t,R,z⟩;obtain⟨d3,c8,rfl⟩:=cd a;obtain⟨_,B,_⟩:=kf a;have F:=aa (bg HO z);have c7:=aa (iQ a);have W:=aa t;have b9:=aa B;have a4:=aa z;have G:Hid (Bw x w5):=E.trans (z.mono a8);have a3:Hid (SetsG (l.take (i+1)) (v++N)):=by show SetsG _ _;rw[b4.out];exact HG.more R
   have d1:v.length+N.length<=1000000:=by have h1:=a3.len;have h2:=a1.out;have h3:=b1.out;rw[zH]at h1;omega
   have b3:Hid (us.length=N.length):=t.len;clear a t B R z HC y0 y1 y2 y3 y4 y5 a2;go_wp2_with (at_builtin;refine eO rfl (.tmp 27) (.tmp 28) 63 24 i0 _ 1 24 rfl underlying63 hi O P Y rfl (by decide) x.heap.size v.length _ _ rfl F _ N.length _ us rfl b9 (by rw[b3.out,Nat.mul_one]) (WU c7) W.ones (by unfold maxLen;omega) (by omega) G.size ?_;intro v4 w4 q C;have HF:=aa (And.intro q C);clear q C)
   go_roundw
   case rel=>
    refine⟨i+1,v++N,X++us,by go_num,by omega,by simpa using HF.1,?_,a3,cD G G.size F HF.2⟩;have kk:ah A w5 w4:=ah.grown HF.2 (λg e ha=>by have h1:=(F.lt g e).1;have h2:=HA.out g ha;have:=D.out;omega);exact (HV.below a4 |>.append W).keep kk
   case measure=>simp[intOf];omega
  ·have i2:decide ((i:Int)<(l.length:Int))=false:=zI (by omega);obtain rfl:i=l.length:=by omega
   have a7:Hid (SetsG l v):=by have:=HG.out;rwa [zQ]at this
   go_wp2_with fail;go_ret;exact⟨_,v,X,rfl,ij HO (by have:=D.out;omega),HV,a7,by rw[hS];exact a9.trans (E.mono (by have:=D.out;omega))⟩
theorem GP {so:OA}{sc:Nat}{r:Int}{q:LQ}(hA:∀g,A g->g<w.heap.size)(hq:PCanon q)(hr:lh w A so q):Calls prog 20 #[.agg #[.int .i64 1,.slice so q.length sc,.slice none 0 0,.int .i64 m,.int .i64 n,.int .i64 r]] w (rP w A [.set (told q)]):=by
 obtain⟨l,E,s,b,F⟩:=dS (rfl:w.heap.size=_) [.int .i64 1,.slice so q.length sc,.slice none 0 0,.int .i64 m,.int .i64 n,.int .i64 r] 27;have W:l.cell? ⟨w.heap.size,0,none⟩=some (.int .i64 1):=b.cell 0;have U:l.cell? ⟨w.heap.size,1,none⟩=some (.slice so q.length sc):=b.cell 1;have T:=b.lt;obtain⟨U3,B,k,f,-⟩:=dS (rfl:l.heap.size=_) [.slice so q.length sc] 24;replace f:=aa f;have J:=aa B;have i:=aa k;have K:=aa (b.below k);have M:=aa hr;have I:=aa s;have N:=aa E;have Z:=aa hA;have h:=aa F;have L:Hid (SetsG [.set (told q)] [q]):=⟨λp C=>by simp at C;subst C;exact hq,by simp[fw,cr,Pat.rg,nu],by simp[bH,Pat.nd],λp C=>by simp at C;subst C;exact WQ⟩;clear E s b F hA B k hr hq;obtain⟨R,V,t,D,G⟩:=zz vM;go_enter func20,ntmps20;go_upto_region 1 with fail;rw[N.out];generalize hS:w.heap.size=S at *;go_wp2_with (at_builtin;rw[J.out];refine eO rfl (.tmp 9) (.tmp 12) 63 24 R _ 1 24 rfl underlying63 V t D G rfl (by decide) l.heap.size 0 _ [] rfl (zZ _ _ _ _) _ 1 _ [.slice so q.length sc] rfl (λe=>by cases e) rfl (λad e j u Q=>by injection e with e;subst e;rw[zl,zf,f.out.cell];exact Q) (λu P=>by simp at P;subst P;rfl) (by unfold maxLen;omega) (by omega) i.out.size ?_;intro Y O a d;have H:=aa (And.intro a d);clear a d);have z:Below l.heap.size l O:=i.out.trans ((cD (v:=.slice none 0 0) (n:=0) (xs:=[]) (zE _ _) (zA _) (zZ _ _ 24 1) H.out.2).mono i.out.size);have o:=aa z;clear z W U
 go_loopw [3,4] (λov iv wr=>ov=Y/\iv=.int .i64 0/\wr=O) (λ_ _ _=>0)
 case atStart=>exact⟨rfl,rfl,rfl⟩
 case round=>
  obtain⟨rfl,rfl,c⟩:=hrel;have a2:wr.cell? ⟨S,2,none⟩=some (.slice none 0 0):=by rw[c];exact (K.out.grown (row:=none) H.out.2 (by simp)).cell 2
  have X:S<wr.heap.size:=by rw[c];have:=o.out.size;have:=h.out;omega
  have x:=aa c;clear c;go_wp2_with fail;go_ret;have y:Below w.heap.size w wr:=by rw[x.out,hS];exact I.out.trans (o.out.mono (by have:=h.out;omega))
  exact⟨_,[q],[.slice so q.length sc],rfl,ij (by rw[x.out];simpa using H.out.1) (by have:=h.out;omega),⟨⟨so,sc,rfl,M.out.keep (ah.below y)⟩,trivial⟩,L.out,y⟩
theorem rP.weak (h1:cr l<=p.rg)(h2:bH l<=p.nd)(h3:∀qs,(∀q∈l,kR q qs)->kR p qs){e:Ending}(h:rP w A l e w'):rP w A [p] e w':=by
 obtain⟨b,qs,f,e,a,d,c,g⟩:=h;exact⟨b,qs,f,e,a,d,c.of h1 h2 (h3 qs),g⟩
mutual
theorem nw:∀p:Pat,Nd p
 |.set st=>by
  intro w A g k B z y C v D m n r j d a;obtain⟨sv,e,q,Q,O,K⟩:=j;simp only[bT,zT,zu,yB,yK]at e;obtain⟨rfl,rfl,L,rfl,rfl,rfl⟩:=e;injection L with e1 e2 e3;subst e1 e2 e3;subst O;rcases K with⟨N,J⟩|⟨b,P,X,N,Y,S,Z,W⟩
  ·injection N with e1 e2 e3;subst e1 e2 e3 J;exact GP (q:=[]) d Q (λi x M=>by simp at M)
  ·injection N with e1 e2 e3;subst e1 e2 e3;exact GP d Q (λi x M=>by
    obtain⟨b',R,e,I,U,V⟩:=W i x M;injection e with e;injection e with e1 e2;subst e1 e2;exact⟨b,P,rfl,S,I,U,V⟩)
 |.row l=>by
  have o:=oE l;intro w A g k B z y C v D m n r j d a;obtain⟨G,H,e,c,u⟩:=j;obtain⟨t,s,rfl⟩:=ed c;simp only[bT,zT,zu,zm,yB,yK]at e;obtain⟨rfl,⟨rfl,rfl,rfl⟩,⟨rfl,rfl,rfl⟩,rfl,rfl,rfl⟩:=e;simp only[Pat.nd]at a;exact (kx (by decide) d c u o (by omega)).mono λe F h=>h.weak (by simp[Pat.rg]) (by simp[Pat.nd]) λE k=>WR k
 |.or l=>by
  have o:=oE l;intro w A g k B z y C v D m n r j d a;obtain⟨G,H,e,c,u⟩:=j;obtain⟨t,s,rfl⟩:=ed c;simp only[bT,zT,zu,zm,yB,yK]at e;obtain⟨rfl,⟨rfl,rfl,rfl⟩,⟨rfl,rfl,rfl⟩,rfl,rfl,rfl⟩:=e;simp only[Pat.nd]at a;exact (kx (by decide) d c u o (by omega)).mono λe F h=>h.weak (by simp[Pat.rg]) (by simp[Pat.nd]) λE k=>Yh k
 |.and l=>by
  have o:=oE l;intro w A g k B z y C v D m n r j d a;obtain⟨G,H,e,c,u⟩:=j;obtain⟨t,s,rfl⟩:=ed c;simp only[bT,zT,zu,zm,yB,yK]at e;obtain⟨rfl,⟨rfl,rfl,rfl⟩,⟨rfl,rfl,rfl⟩,rfl,rfl,rfl⟩:=e;simp only[Pat.nd]at a;exact (kx (by decide) d c u o (by omega)).mono λe F h=>h.weak (by simp[Pat.rg]) (by simp only[Pat.nd];omega) λE k=>WS k
 |.not p=>by
  have o:=nw p;intro w A g k B z y C v D m n r j d a;obtain⟨G,H,e,c,u⟩:=j;obtain⟨t,s,rfl⟩:=ed c;simp only[bT,zT,zu,zm,yB,yK]at e;obtain⟨rfl,⟨rfl,rfl,rfl⟩,⟨rfl,rfl,rfl⟩,rfl,rfl,rfl⟩:=e;simp only[Pat.nd]at a;exact (kx (l:=[p]) (by decide) d c (pR u) (λq h=>by simp at h;subst h;exact o) (by simp only[bH];omega)).mono λe F h=>h.weak (by simp[cr,Pat.rg]) (by simp[bH,Pat.nd]) λE k=>WT (k p (by simp))
 |.many p m' n'=>by
  have o:=nw p;intro w A g k B z y C v D m n r j d a;obtain⟨G,H,e,c,u⟩:=j;obtain⟨t,s,rfl⟩:=ed c;simp only[bT,zT,zu,zm,yB,yK]at e;obtain⟨rfl,⟨rfl,rfl,rfl⟩,⟨rfl,rfl,rfl⟩,rfl,rfl,rfl⟩:=e;simp only[Pat.nd]at a;exact (kx (l:=[p]) (by decide) d c (pR u) (λq h=>by simp at h;subst h;exact o) (by simp only[bH];omega)).mono λe F h=>h.weak (by simp[cr,Pat.rg]) (by simp[bH,Pat.nd]) λE k=>Uu (k p (by simp))
 |.group p=>by
  have o:=nw p;intro w A g k B z y C v D m n r j d a;obtain⟨G,H,e,c,u⟩:=j;obtain⟨t,s,rfl⟩:=ed c;simp only[bT,zT,zu,zm,yB,yK]at e;obtain⟨rfl,⟨rfl,rfl,rfl⟩,⟨rfl,rfl,rfl⟩,rfl,rfl,rfl⟩:=e;simp only[Pat.nd]at a;exact (kx (l:=[p]) (by decide) d c (pR u) (λq h=>by simp at h;subst h;exact o) (by simp only[bH];omega)).mono λe F h=>h.weak (p:=.group p) (by simp[cr,Pat.rg]) (by simp[bH,Pat.nd]) λE k f T=>k p (by simp) f T
theorem oE:∀l:List Pat,∀p∈l,Nd p
 | [],p,h=>by simp at h
 |q::l,p,h=>by
  have a:=nw q;have b:=oE l;rcases zO.1 h with rfl|h
  ·exact a
  ·exact b p h
end
