import Derived.Test.YtebnghmioamheaaGreatDoorM47
import Derived.Test.YtebnghmioamheaaGreatDoorM43
set_option maxHeartbeats 4000000
set_option maxRecDepth 100000
set_option linter.all false
namespace Go.Proofs.YtebnghmioamheaaGreatDoor
open Go.RowKit Brm Tryz
variable {p:Pat}{qs:List (List (Int×Int))}{l:List Pat}{m n:Int}{A:NP}{w w':World}
def SV (w:World)(A:Nat->Prop)(q:List (Int×Int))(v:Value):Prop:=∃so sc,v=.slice so q.length sc/\lh w A so q
def gh (w:World)(A:Nat->Prop):List (List (Int×Int))->List Value->Prop
 | [],[]=>True
 |q::l,v::m=>SV w A q v/\gh w A l m
 |_,_=>False
theorem gh.len {w:World}{A:NP}:∀{l:List (List (Int×Int))} {m:LV},gh w A l m->m.length=l.length
 | [],[],_=>rfl
 |_::_,_::_,h=>by rw[zG,zG,gh.len h.2]
theorem gh.append {w:World}{A:NP}:∀{l l':List (List (Int×Int))} {m m':LV},gh w A l m->gh w A l' m'->gh w A (l++l') (m++m')
 | [],_,[],_,_,k=>k
 |_::_,_,_::_,_,h,k=>⟨h.1,gh.append h.2 k⟩
theorem gh.below {w w':World}{A:NP}(k:Bw w w'):∀{l:List (List (Int×Int))} {m:LV},gh w A l m->gh w' A l m
 | [],[],_=>trivial
 |_::_,_::_,h=>⟨by obtain⟨c,a,e,b⟩:=h.1;exact⟨c,a,e,b.keep (ah.below k)⟩,gh.below k h.2⟩
theorem gh.keep {w w':World}{A:NP}(k:ah A w w'):∀{l:List (List (Int×Int))} {m:LV},gh w A l m->gh w' A l m
 | [],[],_=>trivial
 |_::_,_::_,h=>⟨by obtain⟨c,a,e,b⟩:=h.1;exact⟨c,a,e,b.keep k⟩,gh.keep k h.2⟩
theorem gh.ones {w:World}{A:NP}:∀{l:List (List (Int×Int))} {m:LV},gh w A l m->∀u∈m,u.oneCell'=true
 | [],[],_,u,a=>by simp at a
 |_::_,v::_,h,u,a=>by
  rcases zO.1 a with rfl|a
  ·obtain⟨c,b,rfl,_⟩:=h.1;rfl
  ·exact gh.ones h.2 u a
theorem gh.at {w:World}{A:NP}:∀{l:List (List (Int×Int))} {m:LV},gh w A l m->∀{i:Nat} {q:LQ},l[i]?=some q->∃so sc,m[i]?=some (.slice so q.length sc)/\lh w A so q
 | [],[],_,i,q,hi=>by simp at hi
 |q'::l,v::m,h,0,q,hi=>by
  simp at hi;subst hi;obtain⟨so,sc,rfl,a⟩:=h.1;exact⟨so,sc,rfl,a⟩
 |q'::l,v::m,h,i+1,q,hi=>by
  obtain⟨so,sc,a,b⟩:=gh.at h.2 (i:=i) (q:=q) (by simpa using hi);exact⟨so,sc,by simpa using a,b⟩
def fw:List (List (Int×Int))->Nat
 | []=>0
 |q::l=>q.length+fw l
theorem lX:∀l m:List (List (Int×Int)),fw (l++m)=fw l+fw m
 | [],m=>by simp[fw]
 |q::l,m=>by simp only[zV,fw,lX l m];omega
def kR (p:Pat)(qs:List (List (Int×Int))):Prop:=∀f:Int->Int,(∀q∈qs,∀r,runeB r=true->memB (told q) r=memB (told q) (f r))->fo f p.Mt
theorem kR.more {qs':List (List (Int×Int))}(h:kR p qs)(k:∀q∈qs,q∈qs'):kR p qs':=λf b=>h f λq a=>b q (k q a)
theorem WQ {q:LQ}:kR (.set (told q)) [q]:=λf h t g=>by
 have b:=h q (by simp);show (∃c,t=[c]/\memB (told q) c=true)↔∃c,t.map f=[c]/\memB (told q) c=true
 constructor
 ·rintro⟨c,rfl,a⟩;exact⟨f c,rfl,by rw[<-b c (g c (by simp))];exact a⟩
 ·rintro⟨c,e,a⟩;obtain⟨d,rfl,rfl⟩:=List.map_eq_singleton_iff.1 e;exact⟨d,rfl,by rw[b d (g d (by simp))];exact a⟩
theorem GO {f:Int->Int}:∀l:List Pat,(∀p∈l,fo f p.Mt)->fo f (jl l)
 | [],_=>λt _=>by simp[jl]
 |p::l,h=>wk (h p (by simp)) (GO l (λq a=>h q (by simp[a])))
theorem WR (h:∀p∈l,kR p qs):kR (.row l) qs:=λf b=>GO l λp a=>h p a f b
theorem Yh (h:∀p∈l,kR p qs):kR (.or l) qs:=λf c t d=>by
 show gy l t↔gy l (t.map f)
 rw[nO,nO];exact⟨λ⟨p,a,b⟩=>⟨p,a,(h p a f c t d).1 b⟩,λ⟨p,a,b⟩=>⟨p,a,(h p a f c t d).2 b⟩⟩
theorem WS (h:∀p∈l,kR p qs):kR (.and l) qs:=λf b t c=>by
 show eG l t↔eG l (t.map f)
 rw[mj,mj];exact⟨λk p a=>(h p a f b t c).1 (k p a),λk p a=>(h p a f b t c).2 (k p a)⟩
theorem WT (h:kR p qs):kR (.not p) qs:=λf a t b=>by
 show ¬p.Mt t↔¬p.Mt (t.map f)
 rw[h f a t b]
theorem Uu (h:kR p qs):kR (.many p m n) qs:=λf d t e=>by
 show (∃r:Nat,m<=r/\(n<0\/(r:Int)<=n)/\jL p.Mt r t)↔∃r:Nat,m<=r/\(n<0\/(r:Int)<=n)/\jL p.Mt r (t.map f)
 constructor
 ·rintro⟨r,a,b,c⟩;exact⟨r,a,b,(pT (h f d) r t e).1 c⟩
 ·rintro⟨r,a,b,c⟩;exact⟨r,a,b,(pT (h f d) r t e).2 c⟩
structure SetsG (l:List Pat)(qs:List (List (Int×Int))):Prop where
 ok:∀q∈qs,PCanon q
 sum:fw qs<=cr l
 len:qs.length<=bH l
 cov:∀p∈l,kR p qs
theorem SetsG.start:SetsG [] []:=⟨λq h=>by simp at h,zA _,zA _,λp h=>by simp at h⟩
theorem AY:∀(l m:List Pat),cr (l++m)=cr l+cr m
 | [],m=>by simp[cr]
 |p::l,m=>by simp only[zV,cr,AY l m];omega
theorem AZ:∀(l m:List Pat),bH (l++m)=bH l+bH m
 | [],m=>by simp[bH]
 |p::l,m=>by simp only[zV,bH,AZ l m];omega
theorem SetsG.more {l m:List Pat}{qs rs:List (List (Int×Int))}(h:SetsG l qs)(k:SetsG m rs):SetsG (l++m) (qs++rs):=by
 refine⟨λq a=>?_,?_,?_,λp b=>?_⟩
 ·rcases zM.1 a with a|a
  ·exact h.ok q a
  ·exact k.ok q a
 ·have c:=h.sum;have d:=k.sum;rw[lX,AY];omega
 ·have c:=h.len;have d:=k.len;rw[zH,AZ];omega
 ·rcases zM.1 b with b|b
  ·exact (h.cov p b).more λq a=>by simp[a]
  ·exact (k.cov p b).more λq a=>by simp[a]
theorem SetsG.of (h:SetsG l qs)(h1:cr l<=p.rg)(h2:bH l<=p.nd)(h3:(∀q∈l,kR q qs)->kR p qs):SetsG [p] qs:=by
 refine⟨h.ok,?_,?_,λq a=>?_⟩
 ·have:=h.sum;simp only[cr];omega
 ·have:=h.len;simp only[bH];omega
 ·simp at a;subst a;exact h3 h.cov
def rP (w:World)(A:Nat->Prop)(l:List Pat)(e:Ending)(w':World):Prop:=∃v' qs vs,e=.returned v'/\w'.ownsRow w.heap.size 24 1 v' qs.length vs/\gh w' A qs vs/\SetsG l qs/\Below w.heap.size w w'
def Nd (p:Pat):Prop:=∀(w:World) (A:Nat->Prop) (g:Nat) (k:Int) (so:Option Addr) (sn sc:Nat) (lo:Option Addr) (ln lc:Nat) (m n r:Int),NV w A p (bT k so sn sc lo ln lc m n r) g->(∀g,A g->g<w.heap.size)->p.nd<=1000000 ->
 Calls prog 20 #[.agg #[Vi k,.slice so sn sc,.slice lo ln lc,Vi m,Vi n,Vi r]] w (rP w A [p])
theorem vM:(prog.info? 24).map (λi=>(i.zero,i.size,i.bytes))=some (some (Vz),1,24):=by kernel_rfl
theorem WU {lo:OA}{xs:LV}(hr:cg w A lo xs):∀ad,lo=some ad->∀j u,xs[j]?=some u->w.cell? (ad.add j)=some u:=λad e j u d=>by
 obtain⟨b,c,a,_,_,f⟩:=hr j u d;rw[e]at a;injection a with a;subst a;rw[zl];exact f
theorem Kv:∀(l:List Pat) (k:Nat),bH (l.take k)<=bH l
 |l,0=>by simp[bH]
 | [],k+1=>by simp
 |p::l,k+1=>by
  have:=Kv l k;simp only[List.take_succ_cons,bH];omega
theorem kx {K:Int}{so:OA}{sn sc:Nat}{lo:OA}{lc g:Nat}{r:Int}{xs:LV}(hK:K≠1)(hA:∀g,A g->g<w.heap.size)(ho:cB w A 27 6 (.slice lo l.length lc) l.length xs)(hnl:NL w A l xs g)(ih:∀p∈l,Nd p)(hnd:bH l<=1000000):Calls prog 20 #[.agg #[Vi K,.slice so sn sc,.slice lo l.length lc,Vi m,Vi n,Vi r]] w (rP w A l):=by
 obtain⟨v,a5,q,y,V⟩:=dS (rfl:w.heap.size=_) [Vi K,.slice so sn sc,.slice lo l.length lc,Vi m,Vi n,Vi r] 27;replace q:Below _ _ v:=q;have b8:Hid (∀(i:Nat) (p:Pat) (wr:World),l[i]?=some p->Bw v wr->∃M h o k f d j L I J b,lo=some (aD b 0)/\b<wr.heap.size/\wr.cell? ⟨b,i*6,none⟩=some (Vi M)/\wr.cell? ⟨b,i*6+1,none⟩=some (.slice h o k)/\wr.cell? ⟨b,i*6+2,none⟩=some (.slice f d j)/\wr.cell? ⟨b,i*6+3,none⟩=some (Vi L)/\wr.cell? ⟨b,i*6+4,none⟩=some (Vi I)/\wr.cell? ⟨b,i*6+5,none⟩=some (Vi J)/\Hid (Calls prog 20 #[.agg #[Vi M,.slice h o k,.slice f d j,Vi L,Vi I,Vi J]] wr (rP wr A [p]))):=λi p wr hi hb=>by
  have hm:=zU hi;have R:=(zC.1 hi).1;have h1:=ur hm;obtain⟨cc,gg,N,b0⟩:=NL.at l xs g hnl i p hi;obtain⟨M,h,o,k,f,d,j,L,I,J,rfl⟩:=N.len;obtain⟨b,P,b4,b7,c0,c1,c2,c3,c4,c5⟩:=IX ((ho.below q).below hb) R b0;injection b4 with e1 e2 e3;exact⟨M,h,o,k,f,d,j,L,I,J,b,e1,b7,c0,c1,c2,c3,c4,c5,ih p hm wr A gg M h o k f d j L I J ((N.below q).below hb) (λg hg=>zF (hA g hg) (zJ q.size hb.size)) (by omega)⟩
 have a0:v.cell? (aD w.heap.size 0)=some (Vi K):=y.cell 0;have a9:=y.lt;have kq:(K==1)=false:=zD.2 hK;have c8:l.length<=1000000:=zJ (Bq l) hnd;have c6:=aa hnd;have U:=aa y;have a6:=aa q;have b6:=aa a5;have HA:=aa hA;have E:=aa V;clear a5 q y V ih ho hnl hA hnd;obtain⟨i0,hi,Q,a4,a3⟩:=zz vM;go_enter func20,ntmps20;go_upto_region 1 with fail;rw[b6.out];generalize hS:w.heap.size=S at *;go_wp2_with fail
 go_loopw [3,4] (λov iv wr=>∃(i:Nat) (x:List (List (Int×Int))) (Y:List Value),iv=Vi i/\i<=l.length/\wr.ownsRow v.heap.size 24 1 ov x.length Y/\gh wr A x Y/\SetsG (l.take i) x/\Bw v wr) (λ_ iv _=>l.length-(intOf iv).toNat)
 case atStart=>exact⟨0,[],[],rfl,zW _,zZ _ _ _ _,trivial,SetsG.start,zE _ _⟩
 case round=>
  clear a0 a9;obtain⟨i,x,Y,rfl,R,s,T,hg,c⟩:=hrel;obtain⟨d3,P,rfl⟩:=cd s;have HO:=aa s;have HV:=aa T;have HG:=aa hg;have D:=aa c;have b9:v.heap.size<=wr.heap.size:=c.size;have i1:(0:Int)<=(i:Int):=zK _;have a2:wr.cell? (aD S 2)=some (.slice lo l.length lc):=(U.below c).cell 2;have c9:S<wr.heap.size:=(U.below c).lt;clear s T hg c;by_cases a8:i<l.length
  ·have i2:(i:Int)<(l.length:Int):=by omega
   obtain⟨p',F⟩:∃p',l[i]?=some p':=⟨_,zB a8⟩;have b2:Hid (l.take (i+1)=l.take i++[p']):=by show _=_;rw[zi,F];rfl
   have a1:Hid (bH (l.take (i+1))<=bH l):=Kv l (i+1);obtain⟨M,h,o,k,f,d,j,L,I,J,b,rfl,d1,y0,y1,y2,y3,y4,y5,HC⟩:=b8.out i p' wr F D.out;clear F;go_wp2_with fail;refine HC.mono ?_;rintro e w5 ⟨v5,rs,us,rfl,a,t,Z,z⟩;obtain⟨d2,c7,rfl⟩:=cd a;obtain⟨_,C,_⟩:=kf a;have H:=aa (bg HO z);have a7:=aa (iQ a);have O:=aa t;have b3:=aa C;have W:=aa z;have G:Hid (Bw v w5):=D.trans (z.mono b9);have X:Hid (SetsG (l.take (i+1)) (x++rs)):=by show SetsG _ _;rw[b2.out];exact HG.more Z
   have d0:x.length+rs.length<=1000000:=by have h1:=X.len;have h2:=a1.out;have h3:=c6.out;rw[zH]at h1;omega
   have b5:Hid (us.length=rs.length):=t.len;clear a t C Z z HC y0 y1 y2 y3 y4 y5 a2;go_wp2_with (at_builtin;refine eO rfl (.tmp 27) (.tmp 28) 63 24 i0 _ 1 24 rfl underlying63 hi Q a4 a3 rfl (by decide) v.heap.size x.length _ _ rfl H _ rs.length _ us rfl b3 (by rw[b5.out,Nat.mul_one]) (WU a7) O.ones (by unfold maxLen;omega) (by omega) G.size ?_;intro v4 w4 u B;have HF:=aa (And.intro u B);clear u B)
   go_roundw
   case rel=>
    refine⟨i+1,x++rs,Y++us,by go_num,by omega,by simpa using HF.1,?_,X,cD G G.size H HF.2⟩;have kk:ah A w5 w4:=ah.grown HF.2 (λg e ha=>by have h1:=(H.lt g e).1;have h2:=HA.out g ha;have:=E.out;omega);exact (HV.below W |>.append O).keep kk
   case measure=>simp[intOf];omega
  ·have i2:decide ((i:Int)<(l.length:Int))=false:=zI (by omega);obtain rfl:i=l.length:=by omega
   have b1:Hid (SetsG l x):=by have:=HG.out;rwa [zQ]at this
   go_wp2_with fail;go_ret;exact⟨_,x,Y,rfl,ij HO (by have:=E.out;omega),HV,b1,by rw[hS];exact a6.trans (D.mono (by have:=E.out;omega))⟩
theorem GP {so:OA}{sc:Nat}{r:Int}{q:LQ}(hA:∀g,A g->g<w.heap.size)(hq:PCanon q)(hr:lh w A so q):Calls prog 20 #[.agg #[.int .i64 1,.slice so q.length sc,.slice none 0 0,.int .i64 m,.int .i64 n,.int .i64 r]] w (rP w A [.set (told q)]):=by
 obtain⟨l,G,z,a,s⟩:=dS (rfl:w.heap.size=_) [.int .i64 1,.slice so q.length sc,.slice none 0 0,.int .i64 m,.int .i64 n,.int .i64 r] 27;replace z:Below _ _ l:=z;have Y:l.cell? ⟨w.heap.size,0,none⟩=some (.int .i64 1):=a.cell 0;have W:l.cell? ⟨w.heap.size,1,none⟩=some (.slice so q.length sc):=a.cell 1;have U:=a.lt;obtain⟨U3,t,f,k,-⟩:=dS (rfl:l.heap.size=_) [.slice so q.length sc] 24;replace f:Below _ _ U3:=f;replace k:=aa k;have L:=aa t;have i:=aa f;have K:=aa (a.below f);have N:=aa hr;have H:=aa z;have I:=aa G;have HA:=aa hA;have h:=aa s;have M:Hid (SetsG [.set (told q)] [q]):=⟨λp C=>by simp at C;subst C;exact hq,by simp[fw,cr,Pat.rg,nu],by simp[bH,Pat.nd],λp C=>by simp at C;subst C;exact WQ⟩;clear G z a s hA t f hr hq;obtain⟨X,R,y,E,F⟩:=zz vM;go_enter func20,ntmps20;go_upto_region 1 with fail;rw[I.out];generalize hS:w.heap.size=S at *;go_wp2_with (at_builtin;rw[L.out];refine eO rfl (.tmp 9) (.tmp 12) 63 24 X _ 1 24 rfl underlying63 R y E F rfl (by decide) l.heap.size 0 _ [] rfl (zZ _ _ _ _) _ 1 _ [.slice so q.length sc] rfl (λe=>by cases e) rfl (λZ e j u V=>by injection e with e;subst e;rw[zl,zf,k.out.cell];exact V) (λu P=>by simp at P;subst P;rfl) (by unfold maxLen;omega) (by omega) i.out.size ?_;intro Q O b d;have J:=aa (And.intro b d);clear b d);have D:Below l.heap.size l O:=i.out.trans ((cD (v:=.slice none 0 0) (n:=0) (xs:=[]) (zE _ _) (zA _) (zZ _ _ 24 1) J.out.2).mono i.out.size);have x:=aa D;clear D Y W
 go_loopw [3,4] (λov iv wr=>ov=Q/\iv=.int .i64 0/\wr=O) (λ_ _ _=>0)
 case atStart=>exact⟨rfl,rfl,rfl⟩
 case round=>
  obtain⟨rfl,rfl,c⟩:=hrel;have a2:wr.cell? ⟨S,2,none⟩=some (.slice none 0 0):=by rw[c];exact (K.out.grown (row:=none) J.out.2 (by simp)).cell 2
  have T:S<wr.heap.size:=by rw[c];have:=x.out.size;have:=h.out;omega
  have o:=aa c;clear c;go_wp2_with fail;go_ret;have B:Below w.heap.size w wr:=by rw[o.out,hS];exact H.out.trans (x.out.mono (by have:=h.out;omega))
  exact⟨_,[q],[.slice so q.length sc],rfl,ij (by rw[o.out];simpa using J.out.1) (by have:=h.out;omega),⟨⟨so,sc,rfl,N.out.keep (ah.below B)⟩,trivial⟩,M.out,B⟩
theorem rP.weak (h1:cr l<=p.rg)(h2:bH l<=p.nd)(h3:∀qs,(∀q∈l,kR q qs)->kR p qs){e:Ending}(h:rP w A l e w'):rP w A [p] e w':=by
 obtain⟨a,qs,c,e,b,f,g,d⟩:=h;exact⟨a,qs,c,e,b,f,g.of h1 h2 (h3 qs),d⟩
mutual
theorem nw:∀p:Pat,Nd p
 |.set st=>by
  intro w A g k v z C B y D m n r j d a;obtain⟨Z,e,q,Q,J,O⟩:=j;simp only[bT,zT,zu,yB,yK]at e;obtain⟨rfl,rfl,I,rfl,rfl,rfl⟩:=e;injection I with e1 e2 e3;subst e1 e2 e3;subst J;rcases O with⟨M,L⟩|⟨b,K,V,M,hc,T,Y,X⟩
  ·injection M with e1 e2 e3;subst e1 e2 e3 L;exact GP (q:=[]) d Q (λi x N=>by simp at N)
  ·injection M with e1 e2 e3;subst e1 e2 e3;exact GP d Q (λi x N=>by
    obtain⟨b',R,e,P,U,S⟩:=X i x N;injection e with e;injection e with e1 e2;subst e1 e2;exact⟨b,K,rfl,T,P,U,S⟩)
 |.row l=>by
  have o:=oE l;intro w A g k v z C B y D m n r j d a;obtain⟨F,E,e,c,t⟩:=j;obtain⟨u,s,rfl⟩:=ed c;simp only[bT,zT,zu,zm,yB,yK]at e;obtain⟨rfl,⟨rfl,rfl,rfl⟩,⟨rfl,rfl,rfl⟩,rfl,rfl,rfl⟩:=e;simp only[Pat.nd]at a;exact (kx (by decide) d c t o (by omega)).mono λe G h=>h.weak (by simp[Pat.rg]) (by simp[Pat.nd]) λH k=>WR k
 |.or l=>by
  have o:=oE l;intro w A g k v z C B y D m n r j d a;obtain⟨F,E,e,c,t⟩:=j;obtain⟨u,s,rfl⟩:=ed c;simp only[bT,zT,zu,zm,yB,yK]at e;obtain⟨rfl,⟨rfl,rfl,rfl⟩,⟨rfl,rfl,rfl⟩,rfl,rfl,rfl⟩:=e;simp only[Pat.nd]at a;exact (kx (by decide) d c t o (by omega)).mono λe G h=>h.weak (by simp[Pat.rg]) (by simp[Pat.nd]) λH k=>Yh k
 |.and l=>by
  have o:=oE l;intro w A g k v z C B y D m n r j d a;obtain⟨F,E,e,c,t⟩:=j;obtain⟨u,s,rfl⟩:=ed c;simp only[bT,zT,zu,zm,yB,yK]at e;obtain⟨rfl,⟨rfl,rfl,rfl⟩,⟨rfl,rfl,rfl⟩,rfl,rfl,rfl⟩:=e;simp only[Pat.nd]at a;exact (kx (by decide) d c t o (by omega)).mono λe G h=>h.weak (by simp[Pat.rg]) (by simp only[Pat.nd];omega) λH k=>WS k
 |.not p=>by
  have o:=nw p;intro w A g k v z C B y D m n r j d a;obtain⟨F,E,e,c,t⟩:=j;obtain⟨u,s,rfl⟩:=ed c;simp only[bT,zT,zu,zm,yB,yK]at e;obtain⟨rfl,⟨rfl,rfl,rfl⟩,⟨rfl,rfl,rfl⟩,rfl,rfl,rfl⟩:=e;simp only[Pat.nd]at a;exact (kx (l:=[p]) (by decide) d c (pR t) (λq h=>by simp at h;subst h;exact o) (by simp only[bH];omega)).mono λe G h=>h.weak (by simp[cr,Pat.rg]) (by simp[bH,Pat.nd]) λH k=>WT (k p (by simp))
 |.many p m' n'=>by
  have o:=nw p;intro w A g k v z C B y D m n r j d a;obtain⟨F,E,e,c,t⟩:=j;obtain⟨u,s,rfl⟩:=ed c;simp only[bT,zT,zu,zm,yB,yK]at e;obtain⟨rfl,⟨rfl,rfl,rfl⟩,⟨rfl,rfl,rfl⟩,rfl,rfl,rfl⟩:=e;simp only[Pat.nd]at a;exact (kx (l:=[p]) (by decide) d c (pR t) (λq h=>by simp at h;subst h;exact o) (by simp only[bH];omega)).mono λe G h=>h.weak (by simp[cr,Pat.rg]) (by simp[bH,Pat.nd]) λH k=>Uu (k p (by simp))
 |.group p=>by
  have o:=nw p;intro w A g k v z C B y D m n r j d a;obtain⟨F,E,e,c,t⟩:=j;obtain⟨u,s,rfl⟩:=ed c;simp only[bT,zT,zu,zm,yB,yK]at e;obtain⟨rfl,⟨rfl,rfl,rfl⟩,⟨rfl,rfl,rfl⟩,rfl,rfl,rfl⟩:=e;simp only[Pat.nd]at a;exact (kx (l:=[p]) (by decide) d c (pR t) (λq h=>by simp at h;subst h;exact o) (by simp only[bH];omega)).mono λe G h=>h.weak (p:=.group p) (by simp[cr,Pat.rg]) (by simp[bH,Pat.nd]) λH k f W=>k p (by simp) f W
theorem oE:∀l:List Pat,∀p∈l,Nd p
 | [],p,h=>by simp at h
 |q::l,p,h=>by
  have b:=nw q;have a:=oE l;rcases zO.1 h with rfl|h
  ·exact b
  ·exact a p h
end
