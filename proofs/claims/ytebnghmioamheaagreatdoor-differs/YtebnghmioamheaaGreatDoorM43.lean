import Derived.Test.YtebnghmioamheaaGreatDoorM42
import Derived.Test.YtebnghmioamheaaGreatDoorM36
set_option linter.all false
namespace Go.Proofs.YtebnghmioamheaaGreatDoor
open Go.Shelf Go.RowKit Brm Tryz
variable {w W W' V W1:World}{n q c0q g' ks' ja jb k j U i b bn sb ks g cc:Nat}{f:Int->Int}{r:Int}{A:List Int->Prop}{α:Type}{old wait:List (List Int)}
namespace Brm
mutual
def Pat.cl:Pat->List Int
 |.set s=>dX s++[0]
 |.row l=>0::cP l
 |.or l=>0::cP l
 |.and l=>0::cP l
 |.not p=>0::p.cl
 |.many p _ _=>0::p.cl
 |.group p=>0::p.cl
def cP:List Pat->List Int
 | []=>[]
 |p::l=>p.cl++cP l
end
end Brm
mutual
theorem Ju:∀p:Pat,0∈p.cl
 |.set s=>by simp[Pat.cl]
 |.row l=>by simp[Pat.cl]
 |.or l=>by simp[Pat.cl]
 |.and l=>by simp[Pat.cl]
 |.not p=>by simp[Pat.cl]
 |.many p _ _=>by simp[Pat.cl]
 |.group p=>by simp[Pat.cl]
end
theorem Pc {s:LQ}(h:Canon s):∀y∈s,0<=y.1/\y.1<=1114111/\0<=y.2/\y.2<=1114111:=λy a=>by
 obtain⟨c,b,_⟩:=h.1 y a;simp only[runeB,zY]at c b;omega
theorem ir.same {C C':LZ}{e:Ending}{w':World}(h:ir C w e w')(hc:∀x,x∈C↔x∈C'):ir C' w e w':=by
 obtain⟨L,g,c,j,f,a,d,b,i⟩:=h;exact⟨L,g,c,j,f,a,d,λx=>by rw[b,hc],i⟩
def DK (p:Pat):Prop:=∀(w:World) (A:Nat->Prop) (b:Nat),PN w A p b->(∀g,A g->g<w.heap.size)->p.cl.length<=50000->∃l Cp,NodeG w b l Cp/\(dX l++Cp).length<=p.cl.length/\∀x,x∈dX l++Cp↔x∈p.cl
theorem gN {A:NP}{lv:Value}{xs:List Nat}(h:cB w A 47 1 lv n (xs.map ar)):∃a c,lv=.slice a n c/\sO w a xs:=by
 rcases h.1.2 with⟨k,e⟩|⟨g,f,i,d,m,l,r⟩
 ·refine⟨none,0,by rw[e];exact k,λj x b=>?_⟩;have:xs.length=0:=by have:=h.1.1;rw[e]at this;simpa using this
  rw[zq.1 this]at b;simp at b
 ·refine⟨_,_,d,λj x b=>⟨g,0,rfl,(h.1.lt g (by rw[d];rfl)).2,?_⟩⟩;have:=h.1.cells (g:=g) (by rw[d];rfl) j (ar x) (by rw[zg,b];rfl);rw[zl]at this;exact this
theorem jm {l:List Pat}(ih:∀p∈l,DK p){A:NP}{lv:Value}{xs:List Nat}(hA:∀g,A g->g<w.heap.size)(hO:cB w A 47 1 lv l.length (xs.map ar))(hL:PL w A l xs)(h100:l.length<=100)(hc:(0::cP l).length<=50000):∀W,Bw w W->Calls prog 42 #[lv] W (ir (0::cP l) W):=by
 intro W t;obtain⟨a,c,rfl,P⟩:=gN hO;have E:∀g,A g->g<W.heap.size:=λg o=>zF (hA g o) t.size;have j:PL W A l xs:=PL.keep (ah.below t) l xs hL;have n:∀p∈l,p.cl.length<=(cP l).length:=by
  intro p b;clear ih hO hL h100 hc j
  induction l with
  |nil=>simp at b
  |cons q l ih=>
   simp only[cP,zH];rcases zO.1 b with rfl|b
   ·omega
   ·have:=ih b;omega
 have u:∀(l:List Pat) (xs:List Nat),PL W A l xs->(∀p∈l,DK p)->(∀p∈l,p.cl.length<=50000)->∃D:List (List (Int×Int)×List Int),D.length=xs.length/\(∀(i x:Nat),xs[i]?=some x->∃d:List (Int×Int)×List Int,D[i]?=some d/\NodeG W x d.1 d.2)/\(D.flatMap fK).length<=(cP l).length/\∀x,x∈D.flatMap fK↔x∈cP l:=by
  intro l
  induction l with
  |nil=>
   intro xs h _ _;have:xs=[]:=h;subst this;exact⟨[],rfl,λi x K=>by simp at K,by simp,λx=>by simp[cP]⟩
  |cons p l ih2=>
   intro xs h G H;obtain⟨x,r,rfl,N,I⟩:=h;obtain⟨s,k,o,f,O⟩:=G p (by simp) W A x N E (H p (by simp));obtain⟨D,C,B,L,v⟩:=ih2 r I (λq z=>G q (by simp[z])) (λq z=>H q (by simp[z]));refine⟨(s,k)::D,by simp[C],λi y m=>?_,?_,λy=>?_⟩
   ·cases i with
    |zero=>simp at m;subst m;exact⟨(s,k),rfl,o⟩
    |succ i=>simp at m;obtain⟨d,M,J⟩:=B i y m;exact⟨d,by simpa using M,J⟩
   ·simp only[yE,zH,cP];have:(fK (s,k)).length<=p.cl.length:=f;omega
   ·rw[yE,zM,v];have:=O y;simp only[cP,zM];rw[show y∈fK (s,k)↔y∈p.cl from this]
 simp only[zG]at hc;obtain⟨D,C,B,L,v⟩:=u l xs j ih (λp b=>by have:=n p b;omega);have F:xs.length=l.length:=hL.leng;rw[<-F];refine (ro a c xs D W (P.below t) B C.symm (by omega) (by simp only[zG];omega)).mono λe Q h=>h.same λx=>?_;simp only[zO,v]
theorem Hv (w:World):Calls prog 42 #[Vz] w (ir [0] w):=by
 have:=ro none 0 [] [] w (λj x a=>by simp at a) (λi x a=>by simp at a) rfl (by simp) (by simp);simpa using this
mutual
theorem nH:∀(p:Pat),p.Ok->DK p
 |.set s,h=>by
  intro w A b v o g;obtain⟨H,S,d,O⟩:=v;refine⟨s,[0],⟨?_,Pc h,⟨_,d.cell 2,⟨_,_,_,rfl⟩,λW _=>Hv W⟩,d.lt⟩,zA _,λx=>Iff.rfl⟩;rcases O with⟨rfl,rfl⟩|⟨T,R,M,rfl,_,_,_,N⟩
  ·exact⟨none,0,d.cell 1,λi x t=>by simp at t⟩
  ·exact⟨_,_,d.cell 1,N⟩
 |.row l,h=>by
  have u:=oM l h;intro w A b v o g;obtain⟨H,j,z,xs,d,k,G⟩:=v;obtain⟨a,c,f,_⟩:=gN k;exact⟨[],0::cP l,⟨⟨none,0,d.cell 1,λi x t=>by simp at t⟩,λy D=>by simp at D,⟨z,d.cell 2,⟨_,_,_,f⟩,jm u o k G j g⟩,d.lt⟩,zA _,λx=>Iff.rfl⟩
 |.or l,h=>by
  have u:=oM l h.1;intro w A b v o g;obtain⟨j,xs,G,⟨K,rfl⟩|⟨P,H,z,d,k⟩⟩:=v
  ·obtain⟨p,rfl⟩:=zy.1 K;obtain⟨x,r,e,E,_⟩:=G;cases e;have B:(Pat.or [p]).cl=0::p.cl:=by simp[Pat.cl,cP]
   rw[B]at g ⊢;simp only[zG]at g;obtain⟨s,I,L,Q,J⟩:=u p (by simp) w A b E o (by omega);refine⟨s,I,L,by simp only[zG];omega,λx=>?_⟩;rw[J,zO];exact⟨.inr,λh=>h.elim (λe=>by rw[e];exact Ju p) id⟩
  ·obtain⟨a,c,f,_⟩:=gN k;exact⟨[],0::cP l,⟨⟨none,0,d.cell 1,λi x t=>by simp at t⟩,λy D=>by simp at D,⟨z,d.cell 2,⟨_,_,_,f⟩,jm u o k G j g⟩,d.lt⟩,zA _,λx=>Iff.rfl⟩
 |.and l,h=>by
  have u:=oM l h.1;intro w A b v o g;obtain⟨j,xs,G,⟨K,rfl⟩|⟨P,H,z,d,k⟩⟩:=v
  ·obtain⟨p,rfl⟩:=zy.1 K;obtain⟨x,r,e,E,_⟩:=G;cases e;have B:(Pat.and [p]).cl=0::p.cl:=by simp[Pat.cl,cP]
   rw[B]at g ⊢;simp only[zG]at g;obtain⟨s,I,L,Q,J⟩:=u p (by simp) w A b E o (by omega);refine⟨s,I,L,by simp only[zG];omega,λx=>?_⟩;rw[J,zO];exact⟨.inr,λh=>h.elim (λe=>by rw[e];exact Ju p) id⟩
  ·obtain⟨a,c,f,_⟩:=gN k;exact⟨[],0::cP l,⟨⟨none,0,d.cell 1,λi x t=>by simp at t⟩,λy D=>by simp at D,⟨z,d.cell 2,⟨_,_,_,f⟩,jm u o k G j g⟩,d.lt⟩,zA _,λx=>Iff.rfl⟩
 |.not p,h=>by
  have u:=nH p h;intro w A b v o g;obtain⟨H,z,x,d,k,E⟩:=v;obtain⟨a,c,f,_⟩:=gN (xs:=[x]) k;have C:(Pat.not p).cl=0::cP [p]:=by simp[Pat.cl,cP]
  rw[C]at g ⊢;exact⟨[],0::cP [p],⟨⟨none,0,d.cell 1,λi x t=>by simp at t⟩,λy D=>by simp at D,⟨z,d.cell 2,⟨_,_,_,f⟩,jm (l:=[p]) (xs:=[x]) (λq F=>by simp at F;subst F;exact u) o k ⟨x,[],rfl,E,rfl⟩ (by simp) g⟩,d.lt⟩,zA _,λx=>Iff.rfl⟩
 |.many p m n,h=>by
  have u:=nH p h.1;intro w A b v o g;obtain⟨H,z,x,d,k,E⟩:=v;obtain⟨a,c,f,_⟩:=gN (xs:=[x]) k;have C:(Pat.many p m n).cl=0::cP [p]:=by simp[Pat.cl,cP]
  rw[C]at g ⊢;exact⟨[],0::cP [p],⟨⟨none,0,d.cell 1,λi x t=>by simp at t⟩,λy D=>by simp at D,⟨z,d.cell 2,⟨_,_,_,f⟩,jm (l:=[p]) (xs:=[x]) (λq F=>by simp at F;subst F;exact u) o k ⟨x,[],rfl,E,rfl⟩ (by simp) g⟩,d.lt⟩,zA _,λx=>Iff.rfl⟩
 |.group p,h=>by
  have u:=nH p h;intro w A b v o g;obtain⟨H,z,x,d,k,E⟩:=v;obtain⟨a,c,f,_⟩:=gN (xs:=[x]) k;have C:(Pat.group p).cl=0::cP [p]:=by simp[Pat.cl,cP]
  rw[C]at g ⊢;exact⟨[],0::cP [p],⟨⟨none,0,d.cell 1,λi x t=>by simp at t⟩,λy D=>by simp at D,⟨z,d.cell 2,⟨_,_,_,f⟩,jm (l:=[p]) (xs:=[x]) (λq F=>by simp at F;subst F;exact u) o k ⟨x,[],rfl,E,rfl⟩ (by simp) g⟩,d.lt⟩,zA _,λx=>Iff.rfl⟩
theorem oM:∀(l:List Pat),jr l->∀p∈l,DK p
 | [],_=>λp h=>by cases h
 |q::l,hk=>by
  have a:=nH q hk.1;have b:=oM l hk.2;intro p h;rcases zO.1 h with rfl|h
  ·exact a
  ·exact b p h
end
def Li:List Int->Int->Int
 | [],_=>0
 |a::L,r=>if Li L r<=r/\a<=Li L r/\Li L r∈L then Li L r else a
structure RepOf (Al:List Int)(f:Int->Int):Prop where
 mem:∀r,0<=r->f r∈Al
 le:∀r,0<=r->f r<=r
 max:∀r,0<=r->∀a∈Al,a<=r->a<=f r
open Classical in
noncomputable def EL (Al:List Int)(r:Int):Int:=if h:∃a∈Al,a<=r/\∀b∈Al,b<=r->b<=a then Classical.choose h else 0
theorem EM:∀(Al:LZ) (r:Int),(∃a∈Al,a<=r)->∃a∈Al,a<=r/\∀b∈Al,b<=r->b<=a
 | [],r,h=>by obtain⟨a,e,_⟩:=h;simp at e
 |x::L,r,h=>by
  by_cases f:∃a∈L,a<=r
  ·obtain⟨a,k,l,i⟩:=EM L r f;by_cases j:x<=r/\a<=x
   ·exact⟨x,by simp,j.1,λb c d=>by
     rcases zO.1 c with rfl|c
     ·exact yv _
     ·have:=i b c d;omega⟩
   ·exact⟨a,by simp[k],l,λb c d=>by
     rcases zO.1 c with rfl|c
     ·omega
     ·exact i b c d⟩
  ·obtain⟨a,e,d⟩:=h;rcases zO.1 e with rfl|e
   ·exact⟨a,by simp,d,λb c g=>by
     rcases zO.1 c with rfl|c
     ·exact yv _
     ·exact absurd ⟨b,c,g⟩ f⟩
   ·exact absurd ⟨a,e,d⟩ f
theorem Bi {Al:LZ}(h0:(0:Int)∈Al):RepOf Al (EL Al):=by
 have a:∀r,0<=r->EL Al r∈Al/\EL Al r<=r/\∀b∈Al,b<=r->b<=EL Al r:=λr c=>by
  have d:=EM Al r ⟨0,h0,c⟩;unfold EL;rw[dif_pos d];exact Classical.choose_spec d
 exact⟨λr c=>(a r c).1,λr c=>(a r c).2.1,λr c=>(a r c).2.2⟩
def fo (f:Int->Int)(L:List Int->Prop):Prop:=∀t,ef t->(L t↔L (t.map f))
theorem Ji {Al:LZ}(hf:RepOf Al f){s:LQ}(hs:Canon s)(hc:∀x∈dX s,x<=1114111->x∈Al)(hr:runeB r=true):memB s r=true↔memB s (f r)=true:=by
 have d:=hr;simp only[runeB,zY]at d;have p:=hf.le r (by omega);have e:=hf.max r (by omega);simp only[memB,List.any_eq_true,inB,zY];have b:∀y∈s,(y.1<=r/\r<=y.2)↔(y.1<=f r/\f r<=y.2):=λy a=>by
  obtain⟨m,n,t⟩:=hs.1 y a;simp only[runeB,zY]at m n;have o:y.1∈dX s:=xL.2 ⟨y,a,by simp⟩;have i:after y.2∈dX s:=xL.2 ⟨y,a,by simp⟩;constructor
  ·rintro⟨g,j⟩;exact⟨e y.1 (hc _ o (by omega)) g,by omega⟩
  ·rintro⟨g,j⟩;refine⟨by omega,?_⟩;rcases Int.lt_or_le y.2 r with k|c
   ·have l:after y.2<=r:=by unfold after;split<;>omega
    have q:y.2<after y.2:=by unfold after;split<;>omega
    have:=e (after y.2) (hc _ i (by omega)) l;omega
   ·exact c
 constructor
 ·rintro⟨y,a,h⟩;exact⟨y,a,(b y a).1 h⟩
 ·rintro⟨y,a,h⟩;exact⟨y,a,(b y a).2 h⟩
theorem wk {B:List Int->Prop}(hA:fo f A)(hB:fo f B):fo f (λt=>∃x y,t=x++y/\A x/\B y):=λt b=>by
 constructor
 ·rintro⟨x,y,rfl,d,c⟩;exact⟨x.map f,y.map f,by simp,(hA x (λr a=>b r (by simp[a]))).1 d,(hB y (λr a=>b r (by simp[a]))).1 c⟩
 ·rintro⟨x,y,e,d,c⟩;obtain⟨u,v,rfl,rfl,rfl⟩:=List.map_eq_append_iff.1 e;exact⟨u,v,rfl,(hA u (λr a=>b r (by simp[a]))).2 d,(hB v (λr a=>b r (by simp[a]))).2 c⟩
theorem pT {f:Int->Int}{A:List Int->Prop}(hA:fo f A):∀k,fo f (jL A k)
 |0=>λt _=>by simp[jL]
 |k+1=>wk hA (pT hA k)
mutual
theorem lZ {Al:LZ}{f:Int->Int}(hf:RepOf Al f):∀(p:Pat),p.Ok->(∀x∈p.cl,x<=1114111->x∈Al)->fo f p.Mt
 |.set s,h,hc=>λt g=>by
  have i:∀x∈dX s,x<=1114111->x∈Al:=λx a=>hc x (by simp[Pat.cl,a]);show (∃c,t=[c]/\memB s c=true)↔∃c,t.map f=[c]/\memB s c=true
  constructor
  ·rintro⟨c,rfl,b⟩;exact⟨f c,rfl,(Ji hf h i (g c (by simp))).1 b⟩
  ·rintro⟨c,e,b⟩;obtain⟨d,rfl,rfl⟩:=List.map_eq_singleton_iff.1 e;exact⟨d,rfl,(Ji hf h i (g d (by simp))).2 b⟩
 |.row l,h,hc=>Co hf l h (λx a=>hc x (by simp[Pat.cl,a]))
 |.or l,h,hc=>EN hf l h.1 (λx a=>hc x (by simp[Pat.cl,a]))
 |.and l,h,hc=>Cq hf l h.1 (λx a=>hc x (by simp[Pat.cl,a]))
 |.not p,h,hc=>λt g=>by
  show ¬p.Mt t↔¬p.Mt (t.map f)
  rw[lZ hf p h (λx a=>hc x (by simp[Pat.cl,a])) t g]
 |.many p m n,h,hc=>λt g=>by
  have o:=lZ hf p h.1 (λx a=>hc x (by simp[Pat.cl,a]));show (∃r:Nat,m<=r/\(n<0\/(r:Int)<=n)/\jL p.Mt r t)↔∃r:Nat,m<=r/\(n<0\/(r:Int)<=n)/\jL p.Mt r (t.map f)
  constructor
  ·rintro⟨r,b,j,k⟩;exact⟨r,b,j,(pT o r t g).1 k⟩
  ·rintro⟨r,b,j,k⟩;exact⟨r,b,j,(pT o r t g).2 k⟩
 |.group p,h,hc=>lZ hf p h (λx a=>hc x (by simp[Pat.cl,a]))
theorem Co {Al:LZ}{f:Int->Int}(hf:RepOf Al f):∀(l:List Pat),jr l->(∀x∈cP l,x<=1114111->x∈Al)->fo f (jl l)
 | [],_,_=>λt _=>by simp[jl]
 |p::l,h,hc=>wk (lZ hf p h.1 (λx a=>hc x (by simp[cP,a]))) (Co hf l h.2 (λx a=>hc x (by simp[cP,a])))
theorem EN {Al:LZ}{f:Int->Int}(hf:RepOf Al f):∀(l:List Pat),jr l->(∀x∈cP l,x<=1114111->x∈Al)->fo f (gy l)
 | [],_,_=>λt _=>by simp[gy]
 |p::l,h,hc=>λt b=>by
  show p.Mt t\/gy l t↔p.Mt (t.map f)\/gy l (t.map f)
  rw[lZ hf p h.1 (λx a=>hc x (by simp[cP,a])) t b,EN hf l h.2 (λx a=>hc x (by simp[cP,a])) t b]
theorem Cq {Al:LZ}{f:Int->Int}(hf:RepOf Al f):∀(l:List Pat),jr l->(∀x∈cP l,x<=1114111->x∈Al)->fo f (eG l)
 | [],_,_=>λt _=>by simp[eG]
 |p::l,h,hc=>λt b=>by
  show p.Mt t/\eG l t↔p.Mt (t.map f)/\eG l (t.map f)
  rw[lZ hf p h.1 (λx a=>hc x (by simp[cP,a])) t b,Cq hf l h.2 (λx a=>hc x (by simp[cP,a])) t b]
end
theorem Bj {f:Int->Int}:∀(t:LZ),(∀r∈t,f r<=r)->cH t (t.map f)=false
 | [],_=>rfl
 |a::t,h=>by
  have d:=h a (by simp);have b:=Bj t (λr c=>h r (by simp[c]));simp only[zp,cH,Bool.or_eq_false_iff,Bool.and_eq_false_imp,yr,zY];exact⟨by omega,λ_=>b⟩
theorem RH {Al:LZ}(hf:RepOf Al f)(hA:∀a∈Al,runeB a=true){D:List Int->Prop}(hD:fo f D){m:LZ}(hm:cX D n m):∀r∈m,r∈Al:=by
 obtain⟨c,g,l,j⟩:=hm;have k:ef (m.map f):=λr b=>by
  obtain⟨q,d,rfl⟩:=yH.1 b;exact hA _ (hf.mem q (c.rng q d).1)
 have h:=j (m.map f) k ((hD m c).1 g) (by simpa using l);have i:bY m (m.map f)=false:=by
  rw[gE];exact⟨by simp,λ_=>Bj m (λr b=>hf.le r (c.rng r b).1)⟩
 have e:=oW i h;intro r b;rw[e]at b;obtain⟨q,d,rfl⟩:=yH.1 b;exact hf.mem q (c.rng q d).1
theorem RI {B:List Int->Prop}(hA:fo f A)(hB:fo f B):fo f (λt=>¬(A t↔B t)):=λt a=>by
 show ¬(A t↔B t)↔¬(A (t.map f)↔B (t.map f))
 rw[hA t a,hB t a]
open Go.Lib
def fP (L:Lg)(u:List Int):Lg:=λz=>L (u++z)
theorem Cv (L:Lg)(u:LZ)(r:Int):aX (fP L u) r=fP L (u++[r]):=by
 funext z;show L (u++(r::z))=L ((u++[r])++z)
 rw[zc];rfl
def iF (Z:Me):Nat->Me
 |0=>Z
 |k+1=>aN (iF Z k)
structure ItOk (LA LB:Lg)(ZA ZB:Me)(ci:MC)(a:HIt):Prop where
 none:a.u=[]->a.ta=none/\a.tc=0
 some_:a.u≠[]->a.ta≠Option.none
 left:∃j,j<ci.T.length/\a.x=ci.R j/\lg ci.T j=fP LA a.u/\sz ci.T j<=iF ZA a.u.length
 right:∃j,j<ci.T.length/\a.y=ci.R j/\lg ci.T j=fP LB a.u/\sz ci.T j<=iF ZB a.u.length
theorem ItOk.gone {LA LB:Lg}{ZA ZB:Me}{ci c':MC}{a:HIt}(h:ItOk LA LB ZA ZB ci a)(k:Gone W ci W' c'):ItOk LA LB ZA ZB c' a:=by
 obtain⟨j,c,l,d,m⟩:=h.left;obtain⟨i,b,e,f,g⟩:=h.right;have n:=k.len;exact⟨h.none,h.some_,⟨j,by omega,by rw[k.R j c];exact l,by rw[k.lang c];exact d,by rw[k.sz c];exact m⟩,⟨i,by omega,by rw[k.R i b];exact e,by rw[k.lang b];exact f,by rw[k.sz b];exact g⟩⟩
theorem MkI.notMp_cell {c:MC}(h:MkI w c q){p:Addr}{v:Value}(hp:w.cell? p=some v):¬c.Mp p.block:=by
 rintro (e|⟨i,j,e⟩)
 ·obtain⟨f,⟨D,⟨g,a,b,d⟩,k⟩,_⟩:=h.map;rw[<-e]at b;simp[World.cell?,b]at hp
 ·obtain⟨f,n,⟨D,⟨g,a,b,d⟩,k⟩,_⟩:=h.know i j;rw[<-e]at b;simp[World.cell?,b]at hp
def DY (bn g sb:Nat)(k:Nat):Prop:=k=bn\/k=g\/k=sb
structure DSt (LA LB:Lg)(ZA ZB:Me)(w:World)(c:MC)(bn sb:Nat)(W:World)(ci:MC)(q:Nat)(l:List HIt)(g cc:Nat)(Ls:List SE)(ks:Nat):Prop where
 hold:HoldY w c W ci q (DY bn g sb)
 wait:Wait W w.heap.size bn l g cc
 seen:SeenW W sb Ls ks
 its:∀a∈l,ItOk LA LB ZA ZB ci a
 low:w.heap.size<=bn/\w.heap.size<=sb
theorem iy.cellW {ta:OA}{tc:Nat}{u:LZ}(h:iy w (.slice ta u.length tc) u)(hu:u≠[]):∃b off v,ta=some (aD b off)/\w.cell? (aD b off)=some v:=by
 obtain⟨a,c,e,f⟩:=h;injection e with e1 e2 e3;subst e1;cases u with
 |nil=>exact absurd rfl hu
 |cons r u=>
  obtain⟨b,off,rfl,g,d⟩:=f 0 r rfl;exact⟨b,off,_,rfl,by rw[xF]at d;exact d⟩
section
variable {LA LB:Lg} {ZA ZB:Me} {w:World} {c:MC} {bn sb:Nat} {W:World} {ci:MC} {q:Nat} {l:List HIt} {g cc:Nat} {Ls:List SE} {ks:Nat}
theorem DSt.ne (h:DSt LA LB ZA ZB w c bn sb W ci q l g cc Ls ks):bn≠sb/\g≠sb/\sb<W.heap.size:=by
 have b:=h.seen.obj;refine⟨λe=>?_,λe=>?_,(yl.1 b).1⟩
 ·have:=h.wait.heap.var;rw[e]at this;have a:W.heap[sb]?=some (.cells _ _):=this;rw[b]at a;cases a
 ·obtain⟨_,_,_,f,d,_⟩:=h.wait.heap.row;rw[e]at d;have a:W.heap[sb]?=some (.cells _ _):=d;rw[b]at a;cases a
theorem DSt.txt (h:DSt LA LB ZA ZB w c bn sb W ci q l g cc Ls ks){a:HIt}(ht:eu W g bn a)(hi:ItOk LA LB ZA ZB ci a)(hX:∀k,¬c.X k):∀o,a.ta=some o->o.block<W.heap.size/\¬(ci.wY (DY bn g sb)).S o.block:=λo d=>by
 obtain⟨r,p,j⟩:=ht.2.2 o d;refine⟨r,?_⟩;have n:a.u≠[]:=λe=>by have:=(hi.none e).1;rw[d]at this;cases this
 obtain⟨b,m,v,e,i⟩:=ht.1.cellW n;rw[d]at e;injection e with e;subst e;rintro (e|e|e|e|e)
 ·exact h.hold.mk.notMp_cell i e
 ·rw[h.hold.gone.X]at e;exact hX _ e
 ·exact j e
 ·exact p e
 ·have f:=h.seen.obj;have s:b=sb:=e;rw[<-s]at f;simp[World.cell?,f]at i
theorem DSt.below {W':World}(h:DSt LA LB ZA ZB w c bn sb W ci q l g cc Ls ks)(k:Bw W W'):DSt LA LB ZA ZB w c bn sb W' ci q l g cc Ls ks where
 hold:=h.hold.below k
 wait:=⟨h.wait.heap.below k,λa b=>(h.wait.txt a b).but (But.below k),h.wait.ord⟩
 seen:=⟨(k.block sb h.ne.2.2).trans h.seen.obj,h.seen.born,h.seen.one,h.seen.keys⟩
 its:=h.its
 low:=h.low
theorem eu.turn {V':World}{gg bb:Nat}{a:HIt}(h:eu V gg bb a)(hs:V.heap.size<=V'.heap.size)(hb:∀o,a.ta=some o->V'.heap[o.block]?=V.heap[o.block]?):eu V' gg bb a:=by
 refine⟨h.1.keep hs (λo n c e=>?_),h.2.1,λo b=>⟨zF (h.2.2 o b).1 hs,(h.2.2 o b).2⟩⟩;injection e with e1 e2 e3;exact hb o e1
theorem DSt.longer (h:DSt LA LB ZA ZB w c bn sb W ci q l g cc Ls ks)(hI:MkI w c c0q)(hP:aZ w)(hX:∀k,¬c.X k){now:HIt}(hn:eu W g bn now)(hi:ItOk LA LB ZA ZB ci now)(hul:now.u.length<=500)(hr:runeB r=true)
  (hq:q+aq (iF ZA now.u.length)+aq (iF ZB now.u.length)<=9000000000000000000) (hza:(iF ZA (now.u.length+1)).z<=3000000000000) (hzb:(iF ZB (now.u.length+1)).z<=3000000000000):Calls prog 47 #[hV now,Vi r] W λe W'=>∃ci' a,e=.returned (hV a)/\a.u=now.u++[r]/\DSt LA LB ZA ZB w c bn sb W' ci' (q+aq (iF ZA now.u.length)+aq (iF ZB now.u.length)) l g cc Ls ks/\eu W' g bn a/\ItOk LA LB ZA ZB ci' a/\eu W' g bn now/\ItOk LA LB ZA ZB ci' now/\Gone W ci W' ci'/\∀k,k<W.heap.size->W.cell? (aD k 0)≠Option.none->W'.heap[k]?=W.heap[k]?:=by
 obtain⟨y,j1,j2,j3,T⟩:=hi.left;obtain⟨z,k1,k2,k3,N⟩:=hi.right;have K:∀{A B:Me},A<=B->aq A<=aq B:=fun {A B} hAB=>by
  unfold aq;have:=Nat.mul_le_mul (Nat.add_le_add_right hAB.2.1 4) (Nat.sub_le_sub_right hAB.2.2.1 1);omega
 have ca:=K T;have cb:=K N;have P:aZ W:=h.hold.gone.pow hI hP;have E:=KS (w:=W) (c:=ci.wY (DY bn g sb)) (q:=q) (a:=y) (b:=z) (r:=r) (u:=now.u) (ta:=now.ta) (tc:=now.tc) h.hold.mk P j1 k1 hr hn.1 (h.txt hn hi hX) (λe=>by
   by_cases O:now.u=[]
   ·exact⟨O,(hi.none O).2⟩
   ·exact absurd e (hi.some_ O)) (by have:=hn.2.1;omega) (by show q+aq (sz ci.T y)+aq (sz ci.T z)<=_;omega) (zJ (mr T).2.2.2 hza) (zJ (mr N).2.2.2 hzb)
 have e1:(hV now)=.agg #[.slice now.ta now.u.length now.tc,ae ((ci.wY (DY bn g sb)).R y),ae ((ci.wY (DY bn g sb)).R z)]:=by
  show Value.agg _=Value.agg _
  rw[show (ci.wY (DY bn g sb)).R y=ci.R y from rfl,show (ci.wY (DY bn g sb)).R z=ci.R z from rfl,<-j2,<-k2]
 rw[e1];refine E.mono ?_;rintro e W' ⟨H,ia,U,n,C,rfl,S,i,i1,i2,i3,i4,i5,i6,I,Q⟩;have j:=i.unY;obtain⟨m,p⟩:∃m:MC,m={ H with X:=ci.X }:=⟨_,rfl⟩;rw[<-p]at j;have e5:m.wY (DY bn g sb)=H:=by
  rw[p];have:=i.X;cases H;simp only[MC.wY,MC.mk.injEq,yB]at this ⊢;exact this.symm
 have G:m.T=H.T:=by rw[p]
 have hR:m.R=H.R:=by rw[p]
 have d:∀k,DY bn g sb k->W'.heap[k]?=W.heap[k]?:=λk F=>i.keepX k (h.hold.mk.xs k (.inr F)).1 (.inr F);have f:∀k,k<W.heap.size->¬(ci.wY (DY bn g sb)).S k->W'.heap[k]?=W.heap[k]?:=λk F hn=>i.but.block k F hn;have R:=i.but.size;have D:HoldY w c W' m (q+aq (iF ZA now.u.length)+aq (iF ZB now.u.length)) (DY bn g sb):=⟨by rw[e5];exact S.more (by show q+aq (sz ci.T y)+aq (sz ci.T z)<=_;omega),h.hold.gone.trans j⟩;have V:=h.wait.heap.row.lt;have a0:=h.wait.heap.var.lt;have t:∀x,eu W g bn x->ItOk LA LB ZA ZB ci x->eu W' g bn x:=λx s J=>s.turn R (λo L=>f _ (h.txt s J hX o L).1 (h.txt s J hX o L).2);refine⟨m,⟨n,C,now.u++[r],m.R ia,m.R U⟩,?_,rfl,⟨D,⟨⟨(d bn (.inl rfl)).trans h.wait.heap.var,h.wait.heap.row.block (d g (.inr (.inl rfl)))⟩,λx s=>t x (h.wait.txt x s) (h.its x s),h.wait.ord⟩,⟨(d sb (.inr (.inr rfl))).trans h.seen.obj,h.seen.born,h.seen.one,h.seen.keys⟩,λx s=>(h.its x s).gone j,h.low⟩,⟨?_,?_,λo L=>?_⟩,⟨λe=>?_,λ_ e=>?_,⟨ia,by rw[G];exact i1,rfl,?_,?_⟩,⟨U,by rw[G];exact i2,rfl,?_,?_⟩⟩,t now hn hi,hi.gone j,j,λk F hc=>?_⟩
 ·rw[hR];simp only[hV,zH,zG,zh]
 ·have:(now.u++[r]).length=now.u.length+1:=by simp
  show iy W' (.slice n (now.u++[r]).length C) (now.u++[r])
  rw[this];exact I
 ·show (now.u++[r]).length<=1000
  simp;omega
 ·obtain⟨b1,b2⟩:=Q o L;exact⟨b2,by omega,by omega⟩
 ·simp at e
 ·have M:iy W' (.slice n (now.u++[r]).length C) (now.u++[r]):=by
   have:(now.u++[r]).length=now.u.length+1:=by simp
   rw[this];exact I
  obtain⟨bq,a1,v,e2,_⟩:=M.cellW (by simp);have Z:n=Option.none:=e;rw[e2]at Z;cases Z
 ·rw[G,i3];show aX (lg ci.T y) r=_
  rw[j3,Cv]
 ·rw[G];refine Me.trans i4 ?_;show aN (sz ci.T y)<=iF ZA (now.u++[r]).length
  rw[zH];exact mr T
 ·rw[G,i5];show aX (lg ci.T z) r=_
  rw[k3,Cv]
 ·rw[G];refine Me.trans i6 ?_;show aN (sz ci.T z)<=iF ZB (now.u++[r]).length
  rw[zH];exact mr N
 ·by_cases Y:DY bn g sb k
  ·exact d k Y
  ·refine f k F ?_;obtain⟨v,hv⟩:=Option.ne_none_iff_exists'.1 hc;rintro (e|e|e)
   ·exact h.hold.mk.notMp_cell hv e
   ·rw[h.hold.gone.X]at e;exact hX _ e
   ·exact Y e
end
section
variable {LA LB:Lg} {ZA ZB:Me} {w:World} {c:MC} {bn sb:Nat} {W:World} {ci:MC} {q:Nat} {l:List HIt} {g cc:Nat} {Ls:List SE} {ks:Nat}
theorem DSt.turned {l':List HIt}{cc':Nat}(h:DSt LA LB ZA ZB w c bn sb W ci q l g cc Ls ks)(hI:MkI w c c0q)(hw:Wait W' w.heap.size bn l' g' cc')(hb:But (λk=>k=bn\/k=g) W W')(hg:g'=g\/W.heap.size<=g')(hi:∀a∈l',ItOk LA LB ZA ZB ci a):DSt LA LB ZA ZB w c bn sb W' ci q l' g' cc' Ls ks:=by
 obtain⟨j,m,i⟩:=h.ne;have d:=hw.heap.row.lt;have o:=h.wait.heap.var.lt;have f:=hb.size;refine⟨?_,hw,⟨(hb.block sb i (λe=>by rcases e with e|e;exact j e.symm;exact m e.symm)).trans h.seen.obj,h.seen.born,h.seen.one,h.seen.keys⟩,hi,h.low⟩;refine HoldY.turn h.hold (λk b=>?_) hI.seven f (λk b n=>hb.block k b (λe=>n (by rcases e with e|e;exact .inl e;exact .inr (.inl e)))) hb.os hb.tape hb.output (λk b=>?_)
 ·rcases b with rfl|rfl|rfl
  ·exact h.low.1
  ·exact h.wait.heap.row.1
  ·exact h.low.2
 ·rcases b with rfl|rfl|rfl
  ·exact⟨.inl (.inl rfl),by omega⟩
  ·rcases hg with rfl|e
   ·exact⟨.inl (.inr (.inl rfl)),d⟩
   ·exact⟨.inr e,d⟩
  ·exact⟨.inl (.inr (.inr rfl)),by omega⟩
theorem DSt.push (h:DSt LA LB ZA ZB w c bn sb W ci q l g cc Ls ks)(hI:MkI w c c0q){a:HIt}(ha:eu W g bn a)(hia:ItOk LA LB ZA ZB ci a)(hl:l.length<=100000000000):Calls prog 43 #[.iface 98 (Vp bn),.iface 107 (hV a)] W λe W'=>e=.returned (.tuple #[])/\∃l' g' cc',DSt LA LB ZA ZB w c bn sb W' ci q l' g' cc' Ls ks/\l'.Perm (a::l)/\But (λk=>k=bn\/k=g) W W'/\(g'=g\/W.heap.size<=g'):=by
 refine (NI h.wait h.low.1 ha hl).mono ?_;rintro e W' ⟨rfl,l',g',m,j,d,f,i⟩;refine⟨rfl,l',g',m,h.turned hI j f i (λx b=>?_),d,f,i⟩;rcases zO.1 (d.mem_iff.1 b)with rfl|b
 ·exact hia
 ·exact h.its x b
theorem DSt.pop (h:DSt LA LB ZA ZB w c bn sb W ci q l g cc Ls ks)(hI:MkI w c c0q)(h0:l≠[])(hl:l.length<=100000000000):Calls prog 46 #[.iface 98 (Vp bn)] W λe W'=>∃a l',e=.returned (.iface 107 (hV a))/\DSt LA LB ZA ZB w c bn sb W' ci q l' g cc Ls ks/\l.Perm (a::l')/\(∀x∈l,fi x a=false)/\eu W' g bn a/\ItOk LA LB ZA ZB ci a/\But (λk=>k=bn\/k=g) W W':=by
 refine (QY h.wait h0 hl).mono ?_;rintro e W' ⟨a,l',rfl,j,b,i,d⟩;have f:a∈l:=b.mem_iff.2 (by simp);exact⟨a,l',rfl,h.turned hI j d (.inl rfl) (λx m=>h.its x (b.mem_iff.2 (by simp[m]))),b,i,(h.wait.txt a f).but d,h.its a f,d⟩
theorem DSt.map {o:Obj}{Ls':List SE}(h:DSt LA LB ZA ZB w c bn sb W ci q l g cc Ls ks)(hI:MkI w c c0q)(hs:SeenW (putO W sb o) sb Ls' ks'):DSt LA LB ZA ZB w c bn sb (putO W sb o) ci q l g cc Ls' ks':=by
 obtain⟨C,z,E⟩:=h.ne;have d:Off sb W (putO W sb o):=(Off.refl sb W).putO o;have j:=d.size;have s:=h.wait.heap.row.lt;have x:=h.wait.heap.var.lt;have r:(putO W sb o).heap.size=W.heap.size:=by show (W.heap.setIfInBounds sb o).size=_;rw[Array.size_setIfInBounds]
 refine⟨?_,⟨⟨h.wait.heap.var.off d C,h.wait.heap.row.block (d.block g s z)⟩,λa n=>?_,h.wait.ord⟩,hs,h.its,h.low⟩
 ·refine HoldY.turn h.hold (λk f=>?_) hI.seven j (λk f A=>d.block k f (λe=>A (.inr (.inr e)))) d.os d.tape d.output (λk f=>⟨.inl f,?_⟩)
  ·rcases f with rfl|rfl|rfl
   ·exact h.low.1
   ·exact h.wait.heap.row.1
   ·exact h.low.2
  ·rcases f with rfl|rfl|rfl<;>omega
 ·refine (h.wait.txt a n).turn j (λp t=>d.block _ ((h.wait.txt a n).2.2 p t).1 (λe=>?_));have i:=h.seen.obj;have u:a.u≠[]:=λe=>by have:=((h.its a n).none e).1;rw[t]at this;cases this
  obtain⟨b,y,v,m,B⟩:=(h.wait.txt a n).1.cellW u;rw[t]at m;injection m with m;subst m;have D:b=sb:=e;rw[<-D]at i;simp[World.cell?,i]at B
theorem eu.map {W:World}{gg bb sb:Nat}{o:Obj}{a:HIt}(h:eu W gg bb a)(hne:a.u=[]->a.ta=none){k:Nat}{es:Array MapEntry}(hs:W.heap[sb]?=some (.map es k)):eu (putO W sb o) gg bb a:=by
 have c:Off sb W (putO W sb o):=(Off.refl sb W).putO o;refine h.turn c.size (λp f=>c.block _ (h.2.2 p f).1 (λe=>?_));have i:a.u≠[]:=λe=>by have:=hne e;rw[f]at this;cases this
 obtain⟨b,j,v,d,l⟩:=h.1.cellW i;rw[f]at d;injection d with d;subst d;have g:b=sb:=e;rw[<-g]at hs;simp[World.cell?,hs]at l
end
def Wt (A:Nat):Nat->Nat
 |0=>1
 |d+1=>1+A*Wt A d
def Wc (A:Nat)(cost:Nat->Nat)(n:Nat):Nat->Nat
 |0=>0
 |d+1=>A*(cost (n-(d+1))+Wc A cost n d)
theorem oD (f:α->Nat){l m:List α}(h:l.Perm m):sumA f l=sumA f m:=by
 induction h with
 |nil=>rfl
 |cons x _ ih=>simp only[sumA,ih]
 |swap x y l=>simp only[sumA];omega
 |trans _ _ ih1 ih2=>exact ih1.trans ih2
theorem Ey {α:Type}(f:α->Nat):∀(l:List α),(∀a∈l,1<=f a)->l.length<=sumA f l
 | [],_=>zW _
 |a::l,h=>by
  simp only[sumA,zG];have:=h a (by simp);have:=Ey f l (λb c=>h b (by simp[c]));omega
theorem xy (A d:Nat):1<=Wt A d:=by
 cases d with
 |zero=>exact zA _
 |succ d=>simp only[Wt];omega
def dG (LA LB:Lg):List Int->Prop:=λt=>¬(LA t↔LB t)
def gQ (ZA ZB:Me)(k:Nat):Nat:=aq (iF ZA k)+aq (iF ZB k)
def pB (Al:List Int)(ZA ZB:Me)(n:Nat)(l:List HIt):Nat:=sumA (λa:HIt=>Wc Al.length (gQ ZA ZB) n (n-a.u.length)) l
def qY (Al:List Int)(n:Nat)(l:List HIt):Nat:=sumA (λa:HIt=>Wt Al.length (n-a.u.length)) l
structure SeenOk (LA LB:Lg)(ci:MC)(old:List (List Int))(Ls:List SE):Prop where
 at_:∀p:Int×Int,0<du Ls p->∃t∈old,∃ja jb:Nat,p=((ja:Int),(jb:Int))/\ja<ci.T.length/\jb<ci.T.length/\lg ci.T ja=fP LA t/\lg ci.T jb=fP LB t
 num:∀p,0<=du Ls p/\du Ls p<=old.length
theorem SeenOk.gone {LA LB:Lg}{ci c':MC}{Ls:List SE}(h:SeenOk LA LB ci old Ls)(k:Gone W ci W' c'):SeenOk LA LB c' old Ls:=by
 refine⟨λp a=>?_,h.num⟩;obtain⟨t,f,j,c,i,e,b,d,g⟩:=h.at_ p a;have:=k.len;exact⟨t,f,j,c,i,by omega,by omega,by rw[k.lang e];exact d,by rw[k.lang b];exact g⟩
theorem SeenOk.add {LA LB:Lg}{ci:MC}{Ls Ls':List SE}(h:SeenOk LA LB ci old Ls){t:LZ}(ha:ja<ci.T.length)(hb:jb<ci.T.length)(la:lg ci.T ja=fP LA t)(lb:lg ci.T jb=fP LB t)(hc:∀q,du Ls' q=if q=((ja:Int),(jb:Int))then du Ls ((ja:Int),(jb:Int))+1 else du Ls q):SeenOk LA LB ci (t::old) Ls':=by
 refine⟨λp a=>?_,λp=>?_⟩
 ·rw[hc]at a;by_cases e:p=((ja:Int),(jb:Int))
  ·exact⟨t,by simp,ja,jb,e,ha,hb,la,lb⟩
  ·rw[zR e]at a;obtain⟨s,b,r⟩:=h.at_ p a;exact⟨s,by simp[b],r⟩
 ·rw[hc];have d:=h.num p;have c:=h.num ((ja:Int),(jb:Int));simp only[zG]
  split<;>omega
section
variable {LA LB:Lg} {ZA ZB:Me} {w:World} {c:MC} {bn sb:Nat} {Al:List Int} {n:Nat}
def wL (LA LB:Lg)(ZA ZB:Me)(w:World)(c:MC)(bn sb:Nat)(Al:List Int)(n k:Nat)(W:World):Prop:=∃ci q l g cc Ls ks old,DSt LA LB ZA ZB w c bn sb W ci q l g cc Ls ks/\SrI (dG LA LB) Al n old (l.map (·.u))/\SeenOk LA LB ci old Ls/\q+pB Al ZA ZB n l<=9000000000000000000/\qY Al n l<=k/\old.length+k<=100000000000
theorem Ft (l:List HIt):l.length<=qY Al n l:=Ey _ l (λ_ _=>xy _ _)
theorem VV {A:Nat}{cost:Nat->Nat}(h:k<n):Wc A cost n (n-k)=A*(cost k+Wc A cost n (n-(k+1))):=by
 obtain⟨d,a⟩:∃d,n-k=d+1:=⟨n-k-1,by omega⟩;rw[a];simp only[Wc];rw[show n-(d+1)=k by omega,show n-(k+1)=d by omega]
theorem JG {A:Nat}(h:k<n):Wt A (n-k)=1+A*Wt A (n-(k+1)):=by
 obtain⟨d,a⟩:∃d,n-k=d+1:=⟨n-k-1,by omega⟩;rw[a];simp only[Wt];rw[show n-(k+1)=d by omega]
theorem Fu {ci:MC}{L:Lg}{u:LZ}(h:lg ci.T j=fP L u):lg ci.T j []↔L u:=by
 rw[h];show L (u++[])↔L u
 rw[zx]
structure DNow (LA LB:Lg)(ZA ZB:Me)(w:World)(c:MC)(bn sb:Nat)(Al:List Int)(n k:Nat)(W:World)(ci:MC)(q:Nat)(l':List HIt)(g cc:Nat)(Ls:List SE)(ks:Nat)(old:List (List Int))(now:HIt)(wait:List (List Int)):Prop where
 st:DSt LA LB ZA ZB w c bn sb W ci q l' g cc Ls ks
 txt:eu W g bn now
 it:ItOk LA LB ZA ZB ci now
 sr:SrI (dG LA LB) Al n old wait
 pm:wait.Perm (now.u::l'.map (·.u))
 min:∀x∈wait,bY x now.u=false
 seen:SeenOk LA LB ci old Ls
 pc:q+Wc Al.length (gQ ZA ZB) n (n-now.u.length)+pB Al ZA ZB n l'<=9000000000000000000
 pw:Wt Al.length (n-now.u.length)+qY Al n l'<=k
 lo:old.length+k<=100000000000
variable {k:Nat} {W:World} {ci:MC} {q:Nat} {l l':List HIt} {g cc:Nat} {Ls:List SE} {ks:Nat} {old:List (List Int)} {now:HIt} {wait:List (List Int)}
theorem DNow.below {W':World}(h:DNow LA LB ZA ZB w c bn sb Al n k W ci q l' g cc Ls ks old now wait)(hb:Bw W W'):DNow LA LB ZA ZB w c bn sb Al n k W' ci q l' g cc Ls ks old now wait :=
 ⟨h.st.below hb,h.txt.but (But.below hb),h.it,h.sr,h.pm,h.min,h.seen,h.pc,h.pw,h.lo⟩
theorem wL.pop (h:DSt LA LB ZA ZB w c bn sb W ci q l g cc Ls ks){c0q:Nat}(hI:MkI w c c0q)(hs:SrI (dG LA LB) Al n old (l.map (·.u)))(hn:SeenOk LA LB ci old Ls)(hc:q+pB Al ZA ZB n l<=9000000000000000000)(hk:qY Al n l<=k)(ho:old.length+k<=100000000000)(h0:l≠[]):Calls prog 46 #[.iface 98 (Vp bn)] W λe W'=>∃a l',e=.returned (.iface 107 (hV a))/\DNow LA LB ZA ZB w c bn sb Al n k W' ci q l' g cc Ls ks old a (l.map (·.u)):=by
 have d:=Ft (Al:=Al) (n:=n) l;refine (h.pop hI h0 (by omega)).mono ?_;rintro e W' ⟨a,l',rfl,p,b,j,f,o,r⟩;refine⟨a,l',rfl,p,f,o,hs,b.map _,λx m=>?_,hn,?_,?_,ho⟩
 ·obtain⟨y,i,rfl⟩:=yH.1 m;exact j y i
 ·unfold pB at hc ⊢;rw[oD _ b]at hc;simp only[sumA]at hc;omega
 ·unfold qY at hk ⊢;rw[oD _ b]at hk;simp only[sumA]at hk;omega
theorem DNow.len (h:DNow LA LB ZA ZB w c bn sb Al n k W ci q l' g cc Ls ks old now wait):now.u.length<=n:=h.sr.len _ (h.pm.mem_iff.2 (by simp))
theorem DNow.found (h:DNow LA LB ZA ZB w c bn sb Al n k W ci q l' g cc Ls ks old now wait)(hd:dG LA LB now.u):cX (dG LA LB) n now.u:=Tr h.sr (h.pm.mem_iff.2 (by simp)) h.min hd
theorem DNow.skip {Ls':List SE}(h:DNow LA LB ZA ZB w c bn sb Al n k W ci q l' g cc Ls ks old now wait)(hst:DSt LA LB ZA ZB w c bn sb W' ci q l' g cc Ls' ks')(hs:SeenOk LA LB ci (now.u::old) Ls')(hno:now.u∉old->∀m z,cX (dG LA LB) n m->m≠now.u++z):0<k/\wL LA LB ZA ZB w c bn sb Al n (k-1) W':=by
 have e:=xy Al.length (n-now.u.length);have a:=h.pw;have b:=h.pc;have d:=h.lo;refine⟨by omega,ci,q,l',g,cc,Ls',ks',now.u::old,hst,Ws h.sr h.pm h.min hno,hs,by omega,by omega,by simp only[zG];omega⟩
theorem SN {now:HIt}{LA LB:Lg}(he:fP LA now.u=fP LB now.u):∀m z,cX (dG LA LB) n m->m≠now.u++z:=Wv (λz a=>a (by
 have:=congrFun he z;show LA (now.u++z)↔LB (now.u++z)
 exact Iff.of_eq this))
theorem DNow.again (h:DNow LA LB ZA ZB w c bn sb Al n k W ci q l' g cc Ls ks old now wait)(la:lg ci.T ja=fP LA now.u)(lb:lg ci.T jb=fP LB now.u)(hc:0<du Ls ((ja:Int),(jb:Int))):now.u∉old->∀m z,cX (dG LA LB) n m->m≠now.u++z:=λd=>by
 obtain⟨t,l,b,a,e,_,_,o,s⟩:=h.seen.at_ _ hc;injection e with e1 e2;have f:ja=b:=by omega
 have r:jb=a:=by omega
 subst f r;refine Ww h.sr (h.pm.mem_iff.2 (by simp)) l (λz _=>?_) d;have u:fP LA t z=fP LA now.u z:=by rw[<-o,la]
 have j:fP LB t z=fP LB now.u z:=by rw[<-s,lb]
 show ¬(LA (t++z)↔LB (t++z))↔¬(LA (now.u++z)↔LB (now.u++z))
 have i:LA (t++z)=LA (now.u++z):=u;have p:LB (t++z)=LB (now.u++z):=j;rw[i,p]
def vp (LA LB:Lg)(ZA ZB:Me)(w:World)(c:MC)(bn sb:Nat)(Al:List Int)(n:Nat)(Ls:List SE)(ks:Nat)(old:List (List Int))(now:HIt)(l':List HIt)(U:Nat)(i:Nat)(W:World):Prop:=∃ci q l g cc,U≠g/\DSt LA LB ZA ZB w c bn sb W ci q l g cc Ls ks/\eu W g bn now/\ItOk LA LB ZA ZB ci now/\SeenOk LA LB ci (now.u::old) Ls/\(∃ch:List HIt,l.Perm (ch++l')/\(ch.map (·.u)).Perm ((Al.take i).map (λr=>now.u++[r])))/\q+(Al.length-i)*(gQ ZA ZB now.u.length+Wc Al.length (gQ ZA ZB) n (n-(now.u.length+1)))+pB Al ZA ZB n l<=9000000000000000000
theorem vq {α:Type}(f:α->Nat):∀l m:List α,sumA f (l++m)=sumA f l+sumA f m
 | [],m=>by simp[sumA]
 |a::l,m=>by simp only[zV,sumA,vq f l m];omega
theorem Aj {α:Type}{f:α->Nat}{v:Nat}:∀{l:List α},(∀a∈l,f a=v)->sumA f l=l.length*v
 | [],_=>by simp[sumA]
 |a::l,h=>by
  simp only[sumA,zG,h a (by simp),Aj (l:=l) (λb c=>h b (by simp[c])),Nat.succ_mul];omega
theorem vp.start {Ls':List SE}(h:DNow LA LB ZA ZB w c bn sb Al n k W ci q l' g cc Ls ks old now wait)(hst:DSt LA LB ZA ZB w c bn sb W' ci q l' g cc Ls' ks')(ht:eu W' g bn now)(hs:SeenOk LA LB ci (now.u::old) Ls')(hl:now.u.length<n)(hU:U≠g):vp LA LB ZA ZB w c bn sb Al n Ls' ks' old now l' U 0 W':=by
 have a:=h.pc;rw[VV hl]at a;exact⟨ci,q,l',g,cc,hU,hst,ht,h.it,hs,⟨[],by simp,by simp⟩,by rw[Nat.sub_zero];exact a⟩
theorem vp.push {q1:Nat}{a:HIt}{cc':Nat}{l2:List HIt}(hi:Al[i]?=some r)(hst:DSt LA LB ZA ZB w c bn sb W1 ci q1 l2 g' cc' Ls ks)(ht:eu W1 g' bn now)(hit:ItOk LA LB ZA ZB ci now)(hs:SeenOk LA LB ci (now.u::old) Ls)(hch:∃ch:List HIt,l.Perm (ch++l')/\(ch.map (·.u)).Perm ((Al.take i).map (λr=>now.u++[r])))(hp:l2.Perm (a::l))(ha:a.u=now.u++[r])(hq:q1=q+gQ ZA ZB now.u.length)(hpc:q+(Al.length-i)*(gQ ZA ZB now.u.length+Wc Al.length (gQ ZA ZB) n (n-(now.u.length+1)))+pB Al ZA ZB n l<=9000000000000000000)(hU:U≠g'):vp LA LB ZA ZB w c bn sb Al n Ls ks old now l' U (i+1) W1:=by
 obtain⟨ch,b,f⟩:=hch;have e:i<Al.length:=(zC.1 hi).1;refine⟨ci,q1,l2,g',cc',hU,hst,ht,hit,hs,⟨a::ch,hp.trans (b.cons a),?_⟩,?_⟩
 ·rw[dU hi,xH,zp,ha];exact ((List.Perm.cons _ f).trans (List.perm_append_singleton _ _).symm)
 ·have g:pB Al ZA ZB n l2=Wc Al.length (gQ ZA ZB) n (n-(now.u.length+1))+pB Al ZA ZB n l:=by
   unfold pB;rw[oD _ hp];simp only[sumA,ha,zH,zG,zh]
  obtain⟨d,h⟩:∃d,Al.length-i=d+1:=⟨Al.length-i-1,by omega⟩;rw[g,hq,show Al.length-(i+1)=d by omega];rw[h,Nat.succ_mul]at hpc;omega
theorem vp.done {Ls0:List SE}{ks0:Nat}(h:DNow LA LB ZA ZB w c bn sb Al n k W ci q l' g cc Ls0 ks0 old now wait)(hd:¬dG LA LB now.u)(hl:now.u.length<n)(hA:∀r∈Al,runeB r=true)(hAl:∀m,cX (dG LA LB) n m->∀r∈m,r∈Al)(hin:vp LA LB ZA ZB w c bn sb Al n Ls ks old now l' U Al.length W1):0<k/\wL LA LB ZA ZB w c bn sb Al n (k-1) W1:=by
 obtain⟨o,B,u,A,j,_,p,D,C,y,⟨t,s,f⟩,x⟩:=hin;rw[zQ]at f;have i:=h.pw;have z:=h.lo;rw[JG hl]at i;have b:∀a∈t,a.u.length=now.u.length+1:=λa l=>by
  have:=f.mem_iff.1 (yH.2 ⟨a,l,rfl⟩);obtain⟨r,_,e⟩:=yH.1 this;rw[<-e];simp
 have d:t.length=Al.length:=by have:=f.length_eq;simpa using this
 have E:qY Al n u=Al.length*Wt Al.length (n-(now.u.length+1))+qY Al n l':=by
  unfold qY;rw[oD _ s,vq,Aj (v:=Wt Al.length (n-(now.u.length+1))) (λa l=>by rw[b a l]),d]
 refine⟨by omega,o,B,u,A,j,Ls,ks,now.u::old,p,?_,y,by omega,by omega,by simp only[zG];omega⟩;refine Wx h.sr h.pm h.min hd (by omega) hA hAl ?_;refine (s.map _).trans ?_;rw[xH];exact f.append_right _
end
open Go.Sort
def je (w:World)(A:Nat->Prop)(p:Pat)(b:Nat):Prop:=A b/\∃x v0 v1 v2 v3 v4 ex tt,ag w b ([v0,v1,v2,v3,v4]++ex) tt/\A x/\ag w x [v0,v1,v2,v3,v4] 51/\PN w A p x
theorem je.keep {A:NP}{w w':World}(k:ah A w w'){p:Pat}{b:Nat}(h:je w A p b):je w' A p b:=by
 obtain⟨c,x,i,m,l,g,n,o,d,e,a,f,j⟩:=h;exact⟨c,x,i,m,l,g,n,o,d,e.keep k c,a,f.keep k a,PN.keep k p x j⟩
theorem je.of {A:NP}{p:Pat}(h:PN w A p b)(hA:A b){v0 v1 v2 v3 v4:Value}(hB:ag w b [v0,v1,v2,v3,v4] 51):je w A p b:=⟨hA,b,v0,v1,v2,v3,v4,[],51,hB,hA,hB,h⟩
theorem je.mono {A A':NP}{w:World}{p:Pat}{b:Nat}(h:je w A p b)(k:∀g,g<w.heap.size->A g->A' g):je w A' p b:=by
 obtain⟨f,x,j,n,m,i,o,q,d,a,e,c,l⟩:=h;exact⟨k _ a.lt f,x,j,n,m,i,o,q,d,a,k _ c.lt e,c,PN.mono k p x l⟩
theorem lL {x:Nat}{v0 v1 v2 v3 v4 u0 u1 u2 u3 u4:Value}(h:ag w x [v0,v1,v2,v3,v4] 51)(k:ag w x [u0,u1,u2,u3,u4] 51):v0=u0/\v1=u1/\v2=u2/\v3=u3/\v4=u4:=by
 have e:some (Obj.cells #[v0,v1,v2,v3,v4] 51)=some (Obj.cells #[u0,u1,u2,u3,u4] 51):=Eq.trans (Eq.symm h) k;simpa using e
def UM (p:Pat):Prop:=∀(w:World) (c:MC) (q b:Nat) (A:Nat->Prop),MkI w c q->aZ w->je w A p b->(∀g,A g->g<w.heap.size/\¬c.S g)->q+p.co<=9000000000000000000->p.me.z<=3000000000000 ->
 Calls prog 44 #[ae c.m,ae b] w (au w c (q+p.co) p.Mt p.me)
mutual
theorem Ky:∀(p:Pat),p.Ok->p.rg<=400000->UM p
 |.set s,h,hr=>by
  intro w c q b A k o d v t C;obtain⟨y,x,H,J,I,K,L,ex,tt,z,_,B,d⟩:=d;obtain⟨_,sv,f,hs⟩:=d;obtain⟨rfl,rfl,rfl,rfl,rfl⟩:=lL B f;exact Kh (ex:=ex) (tt:=tt) (xs:=[]) (λp j=>by simp at j) k o v y z ⟨⟨rfl,.inl ⟨rfl,rfl⟩⟩,λg hg=>by simp[Value.ownBlock]at hg⟩ rfl (λp j=>by simp at j) hs h hr t
 |.row l,h,hr=>by
  have D:=lA l h hr;intro w c q b A k o d v t C;obtain⟨y,x,H,J,I,K,L,ex,tt,z,_,B,d⟩:=d;obtain⟨_,i,T,xs,f,F,O⟩:=d;obtain⟨rfl,rfl,rfl,rfl,rfl⟩:=lL B f;exact fx (ex:=ex) (tt:=tt) (.inl ⟨71,.inl ⟨rfl,rfl⟩,JQ k o i t⟩) D k o v y z F O i (λp j=>zJ ((DN (bX l) (uJ l)).1 p.me (nf j)) C) (by simp only[Pat.co];omega) t
 |.or l,h,hr=>by
  have D:=lA l h.1 hr;have S:=xn l h.1 hr;intro w c q b A k o d v t C;have E:∀p∈l,p.me.z<=3000000000000:=λp j=>zJ (Mx (nf j)) C;obtain⟨y,x,H,J,I,K,L,ex,tt,z,Y,B,d⟩:=d;obtain⟨i,xs,O,⟨W,rfl⟩|⟨hn,_,T,f,F⟩⟩:=d
  ·obtain⟨p,rfl⟩:=zy.1 W;obtain⟨G,r,e,j,_⟩:=O;cases e;have Z:(Pat.or [p]).co=p.co+1:=by simp[Pat.co,cK]
   refine (S p (by simp) w c q b A k o ⟨y,x,H,J,I,K,L,ex,tt,z,Y,B,j⟩ v (by omega) (E p (by simp))).mono ?_;rintro r9 w9 ⟨X,V,rfl,M,R,P,N,Q⟩;refine⟨X,V,rfl,M.more (by omega),R,P,?_,Me.trans Q ?_⟩
   ·rw[N];funext u;show _=gy [p] u
    simp[gy]
   ·refine⟨?_,?_,?_,?_⟩<;>simp only[Pat.me,bX,orA,maxA,sumA]<;>omega
  ·obtain⟨rfl,rfl,rfl,rfl,rfl⟩:=lL B f;exact fx (ex:=ex) (tt:=tt) (.inl ⟨61,.inr (.inl ⟨rfl,rfl⟩),PA k o i C t⟩) D k o v y z F O i E (by simp only[Pat.co];omega) t
 |.and l,h,hr=>by
  have D:=lA l h.1 hr;have S:=xn l h.1 hr;intro w c q b A k o d v t C;have E:∀p∈l,p.me.z<=3000000000000:=λp j=>zJ (show (bB p.me).z<=(orA ((bX l).map bB)).z from Mx (List.mem_map_of_mem (nf j))) C;obtain⟨y,x,H,J,I,K,L,ex,tt,z,Y,B,d⟩:=d;obtain⟨i,xs,O,⟨W,rfl⟩|⟨hn,_,T,f,F⟩⟩:=d
  ·obtain⟨p,rfl⟩:=zy.1 W;obtain⟨G,r,e,j,_⟩:=O;cases e;have Z:(Pat.and [p]).co=p.co+1+2:=by simp[Pat.co,cK]
   refine (S p (by simp) w c q b A k o ⟨y,x,H,J,I,K,L,ex,tt,z,Y,B,j⟩ v (by omega) (E p (by simp))).mono ?_;rintro r9 w9 ⟨X,V,rfl,M,R,P,N,Q⟩;refine⟨X,V,rfl,M.more (by omega),R,P,?_,Me.trans Q ?_⟩
   ·rw[N];funext u;show _=eG [p] u
    simp[eG]
   ·refine⟨?_,?_,?_,?_⟩<;>simp only[Pat.me,bX,orA,maxA,sumA,bB,zp,yU]<;>omega
  ·obtain⟨rfl,rfl,rfl,rfl,rfl⟩:=lL B f;exact fx (ex:=ex) (tt:=tt) (.inl ⟨72,.inr (.inr ⟨rfl,rfl⟩),JR k o i C t⟩) D k o v y z F O i E (by simp only[Pat.co];omega) t
 |.not p,h,hr=>by
  have D:=nX p h hr;intro w c q b A k o d v t C;obtain⟨y,x,H,J,I,K,L,ex,tt,z,_,B,d⟩:=d;obtain⟨_,T,G,f,F,j⟩:=d;obtain⟨rfl,rfl,rfl,rfl,rfl⟩:=lL B f;exact fx (ex:=ex) (tt:=tt) (l:=[p]) (xs:=[G]) (.inr ⟨p,rfl,.inl ⟨rfl,rfl⟩⟩) (λU a=>by simp at a;subst a;exact D) k o v y z (ly F) ⟨G,[],rfl,j,rfl⟩ (by simp) (λU a=>by simp at a;subst a;exact C) (by simp only[Pat.co,cK];omega) t
 |.many p m n,h,hr=>by
  have D:=nX p h.1 hr;intro w c q b A k o d v t C;obtain⟨y,x,H,J,I,K,L,ex,tt,z,_,B,d⟩:=d;obtain⟨_,T,G,f,F,j⟩:=d;obtain⟨rfl,rfl,rfl,rfl,rfl⟩:=lL B f;exact fx (ex:=ex) (tt:=tt) (l:=[p]) (xs:=[G]) (.inr ⟨p,rfl,.inr (.inr ⟨rfl,rfl,h.2⟩)⟩) (λU a=>by simp at a;subst a;exact D) k o v y z (ly F) ⟨G,[],rfl,j,rfl⟩ (by simp) (λU a=>by simp at a;subst a;exact zJ (yN _) C) (by simp only[Pat.co,cK];omega) t
 |.group p,h,hr=>by
  have D:=nX p h hr;intro w c q b A k o d v t C;obtain⟨y,x,H,J,I,K,L,ex,tt,z,_,B,d⟩:=d;obtain⟨_,T,G,f,F,j⟩:=d;obtain⟨rfl,rfl,rfl,rfl,rfl⟩:=lL B f;exact fx (ex:=ex) (tt:=tt) (l:=[p]) (xs:=[G]) (.inr ⟨p,rfl,.inr (.inl ⟨rfl,rfl⟩)⟩) (λU a=>by simp at a;subst a;exact D) k o v y z (ly F) ⟨G,[],rfl,j,rfl⟩ (by simp) (λU a=>by simp at a;subst a;exact C) (by simp only[Pat.co,cK];omega) t
theorem xn:∀(l:List Pat),jr l->cr l<=400000->∀p∈l,UM p
 | [],_,_=>λp h=>by cases h
 |q::l,hk,hr=>by
  simp only[cr]at hr;have a:=Ky q hk.1 (by omega);have b:=xn l hk.2 (by omega);intro p h;rcases zO.1 h with rfl|h
  ·exact a
  ·exact b p h
end
theorem QH {p:Pat}(hp:p.Ok){A:NP}(h:je w A p b)(hA:∀g,A g->g<w.heap.size)(hc:p.cl.length<=50000):∃l Cp,NodeG w b l Cp/\(dX l++Cp).length<=p.cl.length/\∀x,x∈dX l++Cp↔x∈p.cl:=by
 obtain⟨D,x,C,d,c,E,F,G,B,a,H,e,u⟩:=h;obtain⟨l,Cp,q,s⟩:=nH p hp w A x u hA hc;refine⟨l,Cp,?_,s⟩;have j:w.cell? (aD b 1)=some d:=a.cell 1;have v:w.cell? (aD b 2)=some c:=a.cell 2;have i:w.cell? (aD x 1)=some d:=e.cell 1;have k:w.cell? (aD x 2)=some c:=e.cell 2;obtain⟨⟨r,m,t,o⟩,y,⟨f,z,n⟩,I⟩:=q;exact⟨⟨r,m,j.trans (i.symm.trans t),o⟩,y,⟨f,v.trans (k.symm.trans z),n⟩,a.lt⟩
theorem IW {A:NP}{p q:Pat}{a:Nat}(hp:p.Ok)(hq:q.Ok)(hA:∀g,A g->g<w.heap.size)(hN:je w A p a)(hM:je w A q b)(hc:p.cl.length+q.cl.length<=40000)(g:Nat)(hg:w.cell? (aD g 0)=some (ar a))(hg1:w.cell? (aD g 1)=some (ar b))(hgl:g<w.heap.size):Calls prog 42 #[Vs g 2 2] w (ir (0::(p.cl++q.cl)) w):=by
 obtain⟨s,f,m,o,d⟩:=QH hp hN hA (by omega);obtain⟨t,k,r,n,l⟩:=QH hq hM hA (by omega);refine (ro (some (aD g 0)) 2 [a,b] [(s,f),(t,k)] w ?_ ?_ rfl (by simp) ?_).mono λe u h=>h.same λx=>?_
 ·intro j x c
  match j,c with
  |0,c=>simp at c;subst c;exact⟨g,0,rfl,hgl,hg⟩
  |1,c=>simp at c;subst c;exact⟨g,0,rfl,hgl,hg1⟩
 ·intro i x c
  match i,c with
  |0,c=>simp at c;subst c;exact⟨(s,f),rfl,m⟩
  |1,c=>simp at c;subst c;exact⟨(t,k),rfl,r⟩
 ·simp only[yE,List.flatMap_nil,zx,zG,zH,fK]at o n ⊢;omega
 ·simp only[yE,List.flatMap_nil,zx,zO,zM,fK]at d l ⊢;rw[d,l]
theorem JO {c ci:MC}{Y:NP}{p:Pat}{A:NP}(hp:p.Ok)(hr:p.rg<=400000)(h:HoldY w c W ci q Y)(hI:MkI w c c0q)(hP:aZ w)(hN:je w A p b)(hA:∀g,A g->g<w.heap.size/\¬c.S g)(hY:∀g,Y g->w.heap.size<=g)(hq:q+p.co<=9000000000000000000)(hz:p.me.z<=3000000000000):Calls prog 44 #[ae c.m,ae b] W λe W'=>∃ci' j,e=.returned (ae (ci'.R j))/\HoldY w c W' ci' (q+p.co) Y/\Gone W ci W' ci'/\j<ci'.T.length/\lg ci'.T j=p.Mt/\sz ci'.T j<=p.me/\∀g,Y g->W'.heap[g]?=W.heap[g]?:=by
 have m:=h.gone.but.size;have a:=Ky p hp hr W (ci.wY Y) q b A h.mk (h.gone.pow hI hP) (hN.keep (h.gone.keeps hA)) (λg d=>by
  obtain⟨l,i⟩:=hA g d;refine⟨by omega,?_⟩;have f:=h.gone.notS l i;rintro (e|e|e)
  ·exact f (.inl e)
  ·exact f (.inr e)
  ·have:=hY g e;omega) hq hz
 have k:(ci.wY Y).m=c.m:=h.gone.m;rw[k]at a;exact a.mono λe W' d=>HoldY.call h d
theorem ST {c ci:MC}{LA LB:Lg}{ZA ZB:Me}{b0:Nat}(h:HoldY w c W ci q (DY bn b0 sb))(h0:ag W b0 [] 107)(hn:ag W bn [Vs b0 0 0] 100)(hs:W.heap[sb]?=some (.map #[] 0))(l1:w.heap.size<=b0)(l2:w.heap.size<=bn)(l3:w.heap.size<=sb):DSt LA LB ZA ZB w c bn sb W ci q [] b0 0 [] 0 where
 hold:=h
 wait:=⟨⟨hn,l1,zA _,zW _,[],h0,rfl⟩,λa b=>by simp at b,λk f d=>by simp at d⟩
 seen:=⟨hs,λt e=>by simp at e,by simp,by simp⟩
 its:=λa b=>by simp at b
 low:=⟨l2,l3⟩
theorem Pv {c:MC}(hI:MkI w c q)(hb:Bw w W){b0:Nat}(l1:w.heap.size<=b0/\b0<W.heap.size)(l2:w.heap.size<=bn/\bn<W.heap.size)(l3:w.heap.size<=sb/\sb<W.heap.size):HoldY w c W c q (DY bn b0 sb):=by
 refine HoldY.turn (dk.start hI) (λg a=>by cases a) hI.seven hb.size (λg a _=>hb.block g a) hb.os hb.tape hb.output (λg a=>?_);rcases a with rfl|rfl|rfl
 ·exact⟨.inr l2.1,l2.2⟩
 ·exact⟨.inr l1.1,l1.2⟩
 ·exact⟨.inr l3.1,l3.2⟩
theorem SU {Ls:List SE}(h:SeenW V sb Ls ks)(p:Int×Int):∃(o1 o2:Obj) (st:Nat),
  (Instr.lookup 101 (.map (some sb)) (kV p) false).run prog V=.ok (Vi (du Ls p)) V /\
  (Instr.mapEntry 101 (.map (some sb)) (kV p)).run prog V=.ok (.tuple #[Vi (du Ls p),goInt (st:Int)]) (putO V sb o1) /\
  (Instr.lookup 101 (.map (some sb)) (kV p) false).run prog (putO V sb o1)=.ok (Vi (du Ls p)) (putO V sb o1) /\
  (Instr.entryStore 101 (.map (some sb)) (goInt (st:Int)) (Vi (du Ls p+1))).run prog (putO V sb o1)=.ok () (putO (putO V sb o1) sb o2) /\
  (∃Ls1 ks1,SeenW (putO V sb o1) sb Ls1 ks1)/\∃Ls' ks',SeenW (putO (putO V sb o1) sb o2) sb Ls' ks'/\∀q,du Ls' q=if q=p then du Ls p+1 else du Ls q:=by
 obtain⟨f,d,st,j,a,b⟩:=h.entry p;obtain⟨i,e,g,k⟩:=a.store (du Ls p+1);have c:=a.map.look p;rw[b p]at c;refine⟨_,_,st,h.look p,j,c,e,⟨f,d,a.map⟩,i,d,g,λq=>?_⟩;rw[k q,b q]
theorem Ig {LA LB:Lg}{ZA ZB:Me}{c:MC}{Al:LZ}{ci:MC}{l':List HIt}{Ls:List SE}{now:HIt}(h:DNow LA LB ZA ZB w c bn sb Al n k V ci q l' g cc Ls ks old now wait)(hI:MkI w c c0q){o1 o2:Obj}{Ls1 Ls':List SE}{ks1:Nat}(h1:SeenW (putO V sb o1) sb Ls1 ks1)(h2:SeenW (putO (putO V sb o1) sb o2) sb Ls' ks'):DSt LA LB ZA ZB w c bn sb (putO (putO V sb o1) sb o2) ci q l' g cc Ls' ks'/\eu (putO (putO V sb o1) sb o2) g bn now :=
 ⟨(h.st.map hI h1).map hI h2,(h.txt.map (λe=>(h.it.none e).1) h.st.seen.obj).map (λe=>(h.it.none e).1) h1.obj⟩
theorem mL {c ci:MC}{Y:NP}(h:HoldY w c W ci q Y)(hj:j<ci.T.length):W.cell? (aD (ci.R j) 0)=some (Vi (j:Int))/\(∃e:Bool,W.cell? (aD (ci.R j) 3)=some (.bool e)/\(e=true↔lg ci.T j []))/\ci.R j<W.heap.size/\∃cs t,ag W (ci.R j) cs t:=by
 obtain⟨e,d⟩:∃e,ci.T[j]?=some e:=⟨_,zB hj⟩;obtain⟨k,g,f,l,a,b,_⟩:=h.mk.look (i:=j) (e:=e) d;exact⟨ag.cell a 0,⟨f,ag.cell a 3,b⟩,ag.lt a,_,_,a⟩
theorem SW {c ci:MC}{Y:NP}(h:HoldY w c W ci q Y)(hi:i<ci.T.length)(hj:j<ci.T.length)(e:ci.R i=ci.R j):i=j:=h.mk.inj i j hi hj e
theorem Qi {s:LQ}(hs:Canon s):∀x∈dX s,x<=1114111->runeB x=true:=λx d b=>by
 obtain⟨y,e,a⟩:=xL.1 d;obtain⟨c,f,g⟩:=hs.1 y e;simp only[zO,xD,or_false]at a;rcases a with rfl|rfl
 ·exact c
 ·simp only[runeB,zY]at c f ⊢;unfold after at b ⊢
  split at b<;>rename_i h<;>simp only[h,yd,if_false]<;>omega
mutual
theorem ng:∀(p:Pat),p.Ok->∀x∈p.cl,x<=1114111->runeB x=true
 |.set s,h,x,hx,hl=>by
  rcases zM.1 (by simpa [Pat.cl]using hx:x∈dX s++[0])with hx|hx
  ·exact Qi h x hx hl
  ·simp at hx;subst hx;decide
 |.row l,h,x,hx,hl=>by
  rcases zO.1 (show x∈0::cP l from hx)with rfl|hx
  ·decide
  ·exact rG l h x hx hl
 |.or l,h,x,hx,hl=>by
  rcases zO.1 (show x∈0::cP l from hx)with rfl|hx
  ·decide
  ·exact rG l h.1 x hx hl
 |.and l,h,x,hx,hl=>by
  rcases zO.1 (show x∈0::cP l from hx)with rfl|hx
  ·decide
  ·exact rG l h.1 x hx hl
 |.not p,h,x,hx,hl=>by
  rcases zO.1 (show x∈0::p.cl from hx)with rfl|hx
  ·decide
  ·exact ng p h x hx hl
 |.many p m n,h,x,hx,hl=>by
  rcases zO.1 (show x∈0::p.cl from hx)with rfl|hx
  ·decide
  ·exact ng p h.1 x hx hl
 |.group p,h,x,hx,hl=>by
  rcases zO.1 (show x∈0::p.cl from hx)with rfl|hx
  ·decide
  ·exact ng p h x hx hl
theorem rG:∀(l:List Pat),jr l->∀x∈cP l,x<=1114111->runeB x=true
 | [],_,x,a,_=>by simp[cP]at a
 |p::l,h,x,a,hl=>by
  rcases zM.1 (show x∈p.cl++cP l from a)with a|a
  ·exact ng p h.1 x a hl
  ·exact rG l h.2 x a hl
end
theorem WL {A B:Lg}(hA:fo f A)(hB:fo f B):fo f (dG A B):=λt a=>by
 show ¬(A t↔B t)↔¬(A (t.map f)↔B (t.map f))
 rw[hA t a,hB t a]
theorem TQ {p q:Pat}(hp:p.Ok)(hq:q.Ok){L:LZ}(hm:∀x,x∈L↔x<=1114111/\x∈0::(p.cl++q.cl))(n:Nat):(∀r∈L,runeB r=true)/\(∀m,cX (dG p.Mt q.Mt) n m->∀r∈m,r∈L):=by
 have e:∀r∈L,runeB r=true:=λr h=>by
  obtain⟨f,a⟩:=(hm r).1 h;rcases zO.1 a with rfl|a
  ·decide
  ·rcases zM.1 a with a|a
   ·exact ng p hp r a f
   ·exact ng q hq r a f
 have d:(0:Int)∈L:=(hm 0).2 ⟨by decide,by simp⟩;exact⟨e,λm b=>RH (Bi d) e (WL (lZ (Bi d) p hp λx c b=>(hm x).2 ⟨b,by simp[c]⟩) (lZ (Bi d) q hq λx c b=>(hm x).2 ⟨b,by simp[c]⟩)) b⟩
section
variable {LA LB:Lg} {ZA ZB:Me} {w:World} {c:MC} {bn sb:Nat} {W:World} {ci:MC} {q:Nat} {l:List HIt} {g cc:Nat} {Ls:List SE} {ks:Nat}
theorem DSt.toBelow (h:DSt LA LB ZA ZB w c bn sb W ci q l g cc Ls ks){w0:World}(hb:Bw w0 w)(hS:∀k,c.S k->w0.heap.size<=k):Bw w0 W:=hb.trans (h.hold.gone.but.toBelow hS hb.size)
theorem DSt.row (h:DSt LA LB ZA ZB w c bn sb W ci q l g cc Ls ks){ga:Nat}{Al:LZ}(hr:eP w ga Al)(hS:¬c.S ga):eP W ga Al:=hr.block (h.hold.gone.but.block ga hr.2 hS) h.hold.gone.but.size
theorem TR {ga q0:Nat}{Al:LZ}(hI:MkI w c q0)(hX:∀k,¬c.X k)(hr:eP w ga Al){x:Int}(hx:Al[0]?=some x):¬c.S ga:=by
 rintro (e|e)
 ·exact hI.notMp_cell (hr.cell hx) e
 ·exact hX _ e
theorem TS {ta:OA}{tc:Nat}{u:LZ}(h:iy V (.slice ta u.length tc) u)(h0:u=[]->ta=none):(convert 71 9 (.slice ta u.length tc)).run prog V=.ok (.string (runesBytes u)) V:=by
 have d:∀j r,u[j]?=some r->∃b c,ta=some (aD b c)/\b<V.heap.size/\V.cell? ⟨b,c+j,none⟩=some (.int .i32 r):=by
  obtain⟨a,o,e,d⟩:=h;injection e with e1 e2 e3;subst e1;exact d
 cases u with
 |nil=>
  rw[h0 rfl];exact run_convert_runes_nil V 71 9 21 _ _ underlying71 underlying21 underlying9
 |cons r u=>
  obtain⟨b,c,rfl,n,l⟩:=d 0 r rfl;have i:=run_convert_runes (P:=prog) V 71 9 21 (aD b c) (r::u).length tc (r::u) (zA _) underlying71 underlying21 underlying9 (λj g=>by
   obtain⟨m,k,e,_,f⟩:=d j ((r::u)[j]) (zB g);injection e with e;injection e with e1 e2 e3;subst e1 e2;rw[xM,zB g,zl];exact f)
  rw[zQ]at i;exact i
end
def DQ (LA LB:Lg)(n:Nat)(e:Ending):Prop:=(∃t,cX (dG LA LB) n t/\e=.returned (.tuple #[.string (runesBytes t),.bool true]))\/((∀s,ef s->s.length<=n->¬dG LA LB s)/\e=.returned (.tuple #[.string ⟨#[]⟩,.bool false]))
structure DCt (LA LB:Lg)(ZA ZB:Me)(w:World)(c:MC)(bn sb:Nat)(ci:MC)(q:Nat)(l':List HIt)(g cc:Nat)(Ls:List SE)(old:List (List Int))(now:HIt)(ja jb U Y:Nat)(Ls':List SE)(ks':Nat)(W:World):Prop where
 st:DSt LA LB ZA ZB w c bn sb W ci q l' g cc Ls' ks'
 txt:eu W g bn now
 seen:SeenOk LA LB ci (now.u::old) Ls'
 num:du Ls' ((ja:Int),(jb:Int))=du Ls ((ja:Int),(jb:Int))+1
 box:ag W U [.slice now.ta now.u.length now.tc,Vp now.x,Vp now.y] 107
 key:ag W Y [Vi (ja:Int),Vi (jb:Int)] 114
theorem DCt.of {LA LB:Lg}{ZA ZB:Me}{c:MC}{Al:LZ}{ci:MC}{l':List HIt}{Ls:List SE}{now:HIt}(h:DNow LA LB ZA ZB w c bn sb Al n k V ci q l' g cc Ls ks old now wait)(hI:MkI w c c0q){Y:Nat}(ha:ja<ci.T.length)(hb:jb<ci.T.length)(la:lg ci.T ja=fP LA now.u)(lb:lg ci.T jb=fP LB now.u)(hbox:ag V U [.slice now.ta now.u.length now.tc,Vp now.x,Vp now.y] 107)(hkey:ag V Y [Vi (ja:Int),Vi (jb:Int)] 114){o1 o2:Obj}(h1:∃Ls1 ks1,SeenW (putO V sb o1) sb Ls1 ks1)(h2:∃Ls' ks',SeenW (putO (putO V sb o1) sb o2) sb Ls' ks'/\∀p,du Ls' p=if p=((ja:Int),(jb:Int))then du Ls ((ja:Int),(jb:Int))+1 else du Ls p):∃Ls' ks',DCt LA LB ZA ZB w c bn sb ci q l' g cc Ls old now ja jb U Y Ls' ks' (putO (putO V sb o1) sb o2):=by
 obtain⟨Ls1,ks1,h1⟩:=h1;obtain⟨Ls',ks',h2,f⟩:=h2;obtain⟨i,l⟩:=Ig h hI h1 h2;have a:Off sb V (putO (putO V sb o1) sb o2):=((Off.refl _ _).putO o1).putO o2;have d:∀{b:Nat} {cs:List Value} {t:TypeId},ag V b cs t->b≠sb:=fun {b cs t} hB e=>by
  have j:=h.st.seen.obj;rw[e]at hB;have h2:V.heap[sb]?=some (.cells _ _):=hB;rw[j]at h2;cases h2
 exact⟨Ls',ks',i,l,h.seen.add ha hb la lb f,by rw[f,zX rfl],hbox.off a (d hbox),hkey.off a (d hkey)⟩
set_option maxHeartbeats 8000000
set_option maxRecDepth 100000
namespace Brm
mutual
def Pat.cu:Pat->List Int
 |.set s=>dX s
 |.row l=>EW l
 |.or l=>EW l
 |.and l=>EW l
 |.not p=>p.cu
 |.many p _ _=>p.cu
 |.group p=>p.cu
def EW:List Pat->List Int
 | []=>[]
 |p::l=>p.cu++EW l
end
end Brm
theorem Lp {LA LB:Lg}{ZA ZB:Me}{c:MC}{Al:LZ}{ci:MC}{l:List HIt}{a0:HIt}(hst:DSt LA LB ZA ZB w c bn sb W ci q l g cc [] 0)(hp:l.Perm [a0])(hu:a0.u=[])(hc:q+Wc Al.length (gQ ZA ZB) n n<=9000000000000000000)(hw:Wt Al.length n<=100000000000):wL LA LB ZA ZB w c bn sb Al n (Wt Al.length n) W:=by
 have a:l=[a0]:=List.perm_singleton.1 hp;subst a;refine⟨ci,q,[a0],g,cc,[],0,[],hst,?_,⟨λp hp=>by simp[du]at hp,λp=>by simp[du]⟩,?_,?_,?_⟩
 ·rw[zp,yU,hu];exact Tq
 ·simp only[pB,sumA,hu,zh,Nat.sub_zero];omega
 ·simp only[qY,sumA,hu,zh,Nat.sub_zero];omega
 ·simpa using hw
theorem eu.pushed {a:HIt}(h:eu W g bn a)(hb:But (λk=>k=bn\/k=g) W W1)(hg:g'=g\/W.heap.size<=g'):eu W1 g' bn a:=by
 have b:eu W1 g bn a:=h.but hb;refine⟨b.1,b.2.1,λo c=>⟨(b.2.2 o c).1,?_,(b.2.2 o c).2.2⟩⟩;rcases hg with rfl|e
 ·exact (b.2.2 o c).2.1
 ·have:=(h.2.2 o c).1;omega
mutual
theorem pU:∀(p:Pat) (x:Int),x∈p.cl->x=0\/x∈p.cu
 |.set s,x,h=>by
  rcases zM.1 (show x∈dX s++[0]from h)with h|h
  ·exact .inr h
  ·exact .inl (by simpa using h)
 |.row l,x,h=>by
  rcases zO.1 (show x∈0::cP l from h)with h|h
  ·exact .inl h
  ·exact un l x h
 |.or l,x,h=>by
  rcases zO.1 (show x∈0::cP l from h)with h|h
  ·exact .inl h
  ·exact un l x h
 |.and l,x,h=>by
  rcases zO.1 (show x∈0::cP l from h)with h|h
  ·exact .inl h
  ·exact un l x h
 |.not p,x,h=>by
  rcases zO.1 (show x∈0::p.cl from h)with h|h
  ·exact .inl h
  ·exact pU p x h
 |.many p _ _,x,h=>by
  rcases zO.1 (show x∈0::p.cl from h)with h|h
  ·exact .inl h
  ·exact pU p x h
 |.group p,x,h=>by
  rcases zO.1 (show x∈0::p.cl from h)with h|h
  ·exact .inl h
  ·exact pU p x h
theorem un:∀(l:List Pat) (x:Int),x∈cP l->x=0\/x∈EW l
 | [],x,h=>by simp[cP]at h
 |p::l,x,h=>by
  rcases zM.1 (show x∈p.cl++cP l from h)with h|h
  ·exact (pU p x h).imp_right λh=>yq _ h
  ·exact (un l x h).imp_right λh=>List.mem_append_right _ h
end
mutual
theorem pV:∀p:Pat,p.cu.length=2*p.rg
 |.set s=>kw s
 |.row l=>uq l
 |.or l=>uq l
 |.and l=>uq l
 |.not p=>pV p
 |.many p _ _=>pV p
 |.group p=>pV p
theorem uq:∀l:List Pat,(EW l).length=2*cr l
 | []=>rfl
 |p::l=>by
  show (p.cu++EW l).length=2*(p.rg+cr l)
  rw[zH,pV p,uq l];omega
end
theorem xR {p q:Pat}{L:LZ}(h:L.Pairwise (λx y=>x<y))(hm:∀x,x∈L↔x<=1114111/\x∈0::(p.cl++q.cl)):L.length<=1+2*(p.rg+q.rg):=by
 have c:L.length<=(0::(p.cu++q.cu)).length:=ua h (λx b=>by
  have a:=((hm x).1 b).2;simp only[zO,zM]at a ⊢;rcases a with a|a|a
  ·exact .inl a
  ·exact (pU p x a).imp_right .inl
  ·exact (pU q x a).imp_right .inr)
 rw[zG,zH,pV,pV]at c;omega
theorem Ox {LA LB:Lg}{ZA ZB:Me}{c:MC}{Al:LZ}{ci:MC}{l':List HIt}{Ls:List SE}{now:HIt}(h:DNow LA LB ZA ZB w c bn sb Al n k W ci q l' g cc Ls ks old now wait):∃(ja jb:Nat) (ea eb:Bool),ja<ci.T.length/\jb<ci.T.length/\lg ci.T ja=fP LA now.u/\lg ci.T jb=fP LB now.u/\now.x=ci.R ja/\now.y=ci.R jb/\W.cell? (aD now.x 0)=some (Vi (ja:Int))/\W.cell? (aD now.y 0)=some (Vi (jb:Int))/\W.cell? (aD now.x 3)=some (.bool ea)/\W.cell? (aD now.y 3)=some (.bool eb)/\now.x<W.heap.size/\now.y<W.heap.size/\(ea≠eb↔dG LA LB now.u)/\(∃cs t,ag W now.x cs t)/\∃cs t,ag W now.y cs t:=by
 obtain⟨ja,o,i,a,A⟩:=h.it.left;obtain⟨jb,b,m,r,B⟩:=h.it.right;obtain⟨s,⟨ea,u,x⟩,e,d⟩:=mL h.st.hold o;obtain⟨f,⟨eb,j,v⟩,p,l⟩:=mL h.st.hold b;rw[<-i]at s u e d;rw[<-m]at f j p l;refine⟨ja,jb,ea,eb,o,b,a,r,i,m,s,f,u,j,e,p,?_,d,l⟩;have y:ea=true↔LA now.u:=x.trans (Fu a);have z:eb=true↔LB now.u:=v.trans (Fu r);show ea≠eb↔¬(LA now.u↔LB now.u)
 rw[<-y,<-z];cases ea<;>cases eb<;>simp
theorem DNow.room {LA LB:Lg}{ZA ZB:Me}{c:MC}{Al:LZ}{ci:MC}{l':List HIt}{Ls:List SE}{now:HIt}(h:DNow LA LB ZA ZB w c bn sb Al n k W ci q l' g cc Ls ks old now wait)(hl:now.u.length<n){l2:List HIt}(hch:∃ch:List HIt,l2.Perm (ch++l')/\(ch.map (·.u)).Perm ((Al.take i).map (λr=>now.u++[r]))):l2.length<=100000000000:=by
 obtain⟨ch,a,e⟩:=hch;have f:=a.length_eq;have d:=e.length_eq;have l:=Ft (Al:=Al) (n:=n) l';have b:=h.pw;have j:=h.lo;rw[JG hl]at b;have m:=Nat.mul_le_mul_left Al.length (xy Al.length (n-(now.u.length+1)));simp only[zH,ym,yn]at f d;omega
theorem RO {m X Y Z:Nat}(h:q+m*(X+Y)+Z<=9000000000000000000)(hm:0<m):q+X<=9000000000000000000:=by
 have:=Nat.le_mul_of_pos_left (X+Y) hm;omega
theorem Lq {p qq:Pat}(hp:p.Ok)(hqk:qq.Ok){w0:World}{A:NP}{a:Nat}(hA:∀g,A g->g<w0.heap.size)(hNa:je w0 A p a)(hNb:je w0 A qq b)(hP:aZ w0)(h7:7<=w0.heap.size)(hcl:p.cl.length+qq.cl.length<=40000)(hrp:p.rg<=400000)(hrq:qq.rg<=400000)(n:Nat)(hn:n<=500)(hb1:∀M,M<=1+2*(p.rg+qq.rg)->2+p.co+qq.co+Wc M (gQ p.me qq.me) n n<=9000000000000000000/\Wt M n<=100000000000)(hlev:∀k,k<=n->(iF p.me k).z<=3000000000000/\(iF qq.me k).z<=3000000000000):Calls prog 21 #[Vp a,Vp b,Vi n] w0 λe w'=>Bw w0 w'/\DQ p.Mt qq.Mt n e:=by
 have hmm:=@run_makeMap prog;have HNM:=aa (Hu hP h7);have HP:=aa hP;have HNA:=aa hNa;have HNB:=aa hNb;have HA:=aa hA;have HB1:=aa hb1;have HLEV:=aa hlev;have HCL:=aa hcl;clear hP hNa hNb hA hb1 hlev hcl;go_enter func21,ntmps21;go_wp2_with fail;refine HNM.out.mono ?_;rintro e w1 ⟨c,rfl,hI1,hSlo,hX,hml,hB1⟩;obtain⟨Wf,hWf,hBf,hbb,-⟩:=dS (rfl:w1.heap.size=_) [Vp a,Vp b] 47;replace hBf:Below _ _ Wf:=hBf;have hBwf:Bw w0 Wf:=hB1.trans (hBf.mono hB1.size);have HF:=aa (IW hp hqk (λg hg=>zF (HA.out g hg) hBwf.size) (HNA.out.keep (ah.below hBwf)) (HNB.out.keep (ah.below hBwf)) HCL.out w1.heap.size (hbb.cell 0) (hbb.cell 1) hbb.lt);have HWF:=aa hWf;have HI1:=aa (hI1.below hBf);have HBF:=aa hBwf;have HSLO:=aa hSlo;have HX:=aa hX;clear hWf hBf hbb hBwf hI1 hSlo hX hml HNM hB1;go_wp2_with fail;rw[HWF.out];refine HF.out.mono ?_;rintro e w2 ⟨Al,ga,gc,rfl,hgc,hrise,hrng,hmem,hgal,hrow,hb2⟩;have HI2:=aa (HI1.out.below hb2);have HB02:=aa (HBF.out.trans (hb2.mono HBF.out.size));have HP2:=aa (HP.out.below HB02.out);have HAL:=aa (TQ hp hqk hmem n);have HM:=aa (HB1.out Al.length (xR hrise hmem));have HAN:Hid (Al.length<=2000000):=by have:=xR hrise hmem;show _<=_;omega
 have HROW:=aa hrow;have HGS:Hid (∀x,Al[0]?=some x->¬c.S ga):=λx hx=>TR HI2.out HX.out hrow hx;have HA2:Hid (∀g,A g->g<w2.heap.size/\¬c.S g):=λg hg=>⟨zF (HA.out g hg) HB02.out.size,λh=>by have:=HSLO.out g h;have:=HA.out g hg;omega⟩;have HNA2:=aa (HNA.out.keep (ah.below HB02.out));have HNB2:=aa (HNB.out.keep (ah.below HB02.out));clear hgc hrise hrng hmem hgal hrow hb2 HF HWF HI1 HBF HP HNA HNB HB1 HA;obtain⟨W3,hW3⟩:∃W3,((w2.alloc (.cells #[] 107)).alloc (.cells #[Vs w2.heap.size 0 0] 100)).alloc (.map #[] 0)=W3:=⟨_,rfl⟩;have hB3:Bw w2 W3:=by rw[<-hW3];exact (((zE _ _).alloc (zA _) _).alloc (by simp) _).alloc (by simp;omega) _
 have hq0:ag W3 w2.heap.size [] 107:=by rw[<-hW3];exact ((ag.new w2 [] 107).alloc _).alloc _
 have hq1:ag W3 (w2.heap.size+1) [Vs w2.heap.size 0 0] 100:=by
  rw[<-hW3];have:=(ag.new (w2.alloc (.cells #[] 107)) [Vs w2.heap.size 0 0] 100).alloc (.map #[] 0);simpa using this
 have hq2:W3.heap[w2.heap.size+1+1]?=some (.map #[] 0):=by
  rw[<-hW3];have:=(MapKept.heap_alloc ((w2.alloc (.cells #[] 107)).alloc (.cells #[Vs w2.heap.size 0 0] 100)) (.map #[] 0)).1;simpa using this
 have hs3:W3.heap.size=w2.heap.size+3:=by rw[<-hW3];simp
 have hold3:HoldY w2 c W3 c 2 (DY (w2.heap.size+1) w2.heap.size (w2.heap.size+1+1)):=Pv HI2.out hB3 ⟨zA _,by omega⟩ ⟨by omega,by omega⟩ ⟨by omega,by omega⟩;have HDY:Hid (∀g,DY (w2.heap.size+1) w2.heap.size (w2.heap.size+1+1) g->w2.heap.size<=g):=λg hg=>by rcases hg with rfl|rfl|rfl<;>omega
 have hco:2+p.co+qq.co<=9000000000000000000:=by have:=HM.out.1;omega
 have HOF:=aa (JO hp hrp hold3 HI2.out HP2.out HNA2.out HA2.out HDY.out (by omega) (HLEV.out 0 (zW _)).1);have HW3:=aa hW3;have HQ0:=aa hq0;have HQ1:=aa hq1;have HQ2:=aa hq2;clear hW3 hB3 hq0 hq1 hq2 hold3;go_wp2_with fail;rw[HW3.out];refine HOF.out.mono ?_;rintro e w4 ⟨c4,ja,rfl,hold4,hg4,hja,hlja,hszja,hk4⟩;have HOF2:=aa (JO hqk hrq hold4 HI2.out HP2.out HNB2.out HA2.out HDY.out hco (HLEV.out 0 (zW _)).2);have HK4:=aa hk4;have HJA:=aa (And.intro hja (And.intro hlja hszja));clear hold4 hg4 hja hlja hszja hk4 HOF;go_wp2_with fail;refine HOF2.out.mono ?_;rintro e w5 ⟨c5,jb,rfl,hold5,hg5,hjb,hljb,hszjb,hk5⟩;have hst5:DSt p.Mt qq.Mt p.me qq.me w2 c (w2.heap.size+1) (w2.heap.size+1+1) w5 c5 (2+p.co+qq.co) [] w2.heap.size 0 [] 0:=ST hold5 (((hk5 _ (.inr (.inl rfl))).trans (HK4.out _ (.inr (.inl rfl)))).trans HQ0.out) (((hk5 _ (.inl rfl)).trans (HK4.out _ (.inl rfl))).trans HQ1.out) (((hk5 _ (.inr (.inr rfl))).trans (HK4.out _ (.inr (.inr rfl)))).trans HQ2.out) (zA _) (by omega) (by omega);have hia:ItOk p.Mt qq.Mt p.me qq.me c5 ⟨none,0,[],c4.R ja,c5.R jb⟩:=by
  obtain⟨j1,j2,j3⟩:=HJA.out;have hl5:=hg5.len;exact⟨λ_=>⟨rfl,rfl⟩,λh=>absurd rfl h,⟨ja,by omega,(hg5.R ja j1).symm,by rw[hg5.lang j1];exact j2,by rw[hg5.sz j1];exact j3⟩,⟨jb,hjb,rfl,hljb,hszjb⟩⟩
 have HPU:=aa (hst5.push HI2.out (a:=⟨none,0,[],c4.R ja,c5.R jb⟩) ⟨⟨none,0,rfl,λj r h=>by simp at h⟩,by simp,λo ho=>by cases ho⟩ hia (by simp));clear hold5 hg5 hjb hljb hszjb hk5 hst5 hia HOF2 HK4 HJA HQ0 HQ1 HQ2 HW3 HNA2 HNB2 HA2 HDY;go_wp2_with fail;refine HPU.out.mono ?_;rintro e w6 ⟨rfl,l6,g6,cc6,hst6,hperm6,hbut6,hg6⟩;have HST:Hid (wL p.Mt qq.Mt p.me qq.me w2 c (w2.heap.size+1) (w2.heap.size+1+1) Al n (Wt Al.length n) w6):=Lp hst6 hperm6 rfl HM.out.1 HM.out.2;clear hst6 hperm6 hbut6 hg6 HPU hs3 hco;generalize hT:w2.heap.size=T at *;go_wp2_with fail
 go_loopg [] (Wt Al.length n) (λk wr=>wL p.Mt qq.Mt p.me qq.me w2 c (T+1) (T+1+1) Al n k wr)
 case atStart=>exact HST.out
 case round=>
  obtain⟨ci,q,l,g,cc,Ls,ks,old,hst,hsr,hsn,hpc,hpw,hlo⟩:=hrel;have hbl:=hst.wait.heap.var.lt;have hB0:Bw w0 wr:=hst.toBelow HB02.out HSLO.out;by_cases hl0:l=[]
  ·subst hl0;have e0:wr.cell? (aD (T+1) 0)=some (Vs g 0 cc):=hst.wait.heap.var.cell 0;have HEND:Hid (DQ p.Mt qq.Mt n (.returned (.tuple #[.string ⟨#[]⟩,.bool false]))):=.inr ⟨Wr hsr,rfl⟩;have HB0:=aa hB0;clear hst hsr hsn hpc hpw hlo hB0;go_wp2_with (go_at_call 45;refine (uN _ _ _ _).mono ?_;rintro e w' ⟨rfl,hw⟩;have hw8:=hw.symm;subst hw8;clear hw)
   go_ret2
   exact⟨HB0.out,HEND.out⟩
  ·have e0:wr.cell? (aD (T+1) 0)=some (Vs g l.length cc):=hst.wait.heap.var.cell 0;have hlp:(0:Int)<(l.length:Int):=by have:l.length≠0:=λe=>hl0 (zq.1 e);omega
   have HPOP:=aa (wL.pop hst HI2.out hsr hsn hpc hpw hlo hl0);clear hst hsr hsn hpc hpw hlo hl0 hB0;go_wp2_with (go_at_call 45;refine (uN _ _ _ _).mono ?_;rintro e w' ⟨rfl,hw⟩;have hw8:=hw.symm;subst hw8;clear hw);refine HPOP.out.mono ?_;rintro e w7 ⟨now,l',rfl,hnow⟩;clear HPOP hlp e0 hbl;have hta:=Cs (hV now);obtain⟨W8,hW8,hb78,hnw,-⟩:=dS (rfl:w7.heap.size=_) [.slice now.ta now.u.length now.tc,Vp now.x,Vp now.y] 107;replace hb78:Below _ _ W8:=hb78;have HUB:Hid (w7.heap.size≠T+1/\w7.heap.size≠g):=⟨λe=>by have:=hnow.st.wait.heap.var.lt;omega,λe=>by have:=hnow.st.wait.heap.row.lt;omega⟩;have HN8:=aa (hnow.below hb78);have n0:W8.cell? (aD w7.heap.size 0)=some (.slice now.ta now.u.length now.tc):=hnw.cell 0;have n1:W8.cell? (aD w7.heap.size 1)=some (Vp now.x):=hnw.cell 1;have n2:W8.cell? (aD w7.heap.size 2)=some (Vp now.y):=hnw.cell 2;obtain⟨ja,jb,ea,eb,hja,hjb,hla,hlb,hxa,hyb,x0,y0,x3,y3,hxl,hyl,hdf,_,_⟩:=Ox HN8.out;have HJ:=aa (And.intro hja (And.intro hjb (And.intro hla (And.intro hlb (And.intro hxa hyb)))));have HDF:=aa hdf;have HW8:=aa hW8;have HNW:=aa hnw;have HB8:Hid (Bw w0 W8):=HN8.out.st.toBelow HB02.out HSLO.out;obtain⟨k1,hk1⟩:∃k1,k1+1=gk:=⟨gk-1,by have:=hnow.pw;have:=xy Al.length (n-now.u.length);omega⟩;have HK1:=aa hk1;clear hnow hb78 hnw hW8 hja hjb hla hlb hxa hyb hdf hk1;go_wp2_with fail;rw[HW8.out];generalize hU:w7.heap.size=U at *;by_cases hee:ea=eb
   ·have hne:(ea != eb)=false:=by rw[hee];simp
    have HND:Hid (¬dG p.Mt qq.Mt now.u):=λh=>(HDF.out.2 h) hee;subst hee
    go_quiet (fail)
    go_wp2_with fail;obtain⟨W9,hW9⟩:∃W9,W8.drewN nq=W9:=⟨_,rfl⟩;have hb89:Bw W8 W9:=by rw[<-hW9];exact aR (zE _ _)
    have HN9:=aa (HN8.out.below hb89);have hnw9:=HNW.out.below hb89;rw[hW9];have n19:W9.cell? (aD U 1)=some (Vp now.x):=hnw9.cell 1;have n29:W9.cell? (aD U 2)=some (Vp now.y):=hnw9.cell 2;have x09:W9.cell? (aD now.x 0)=some (Vi (ja:Int)):=(hb89.cell (p:=(aD now.x 0)) hxl).trans x0;have y09:W9.cell? (aD now.y 0)=some (Vi (jb:Int)):=(hb89.cell (p:=(aD now.y 0)) hyl).trans y0;have hU9:=hnw9.lt;have hxl9:now.x<W9.heap.size:=zF hxl hb89.size;have hyl9:now.y<W9.heap.size:=zF hyl hb89.size;have HNW9:=aa hnw9;clear hW9 hb89 hnw9 n0 n1 n2 x0 y0 x3 y3 hxl hyl hne HN8 HNW HW8 HB8 hta
    go_region_held3 (λw'=>w'.cell? (aD U 1)=some (Vp now.x)/\w'.cell? (aD U 2)=some (Vp now.y)/\w'.cell? (aD now.x 0)=some (Vi (ja:Int))/\w'.cell? (aD now.y 0)=some (Vi (jb:Int)))
     (first|exact⟨n19,n29,x09,y09⟩|go_keep)
     (fail)
    all_goals go_wp2_with fail
    obtain⟨X,hX⟩:∃X,(W9.alloc (.cells #[Vi (ja:Int),Vi (jb:Int)] 114)).drew=X:=⟨_,rfl⟩;obtain⟨V,hV⟩:∃V,X.drew=V:=⟨_,rfl⟩;have hbX:Bw W9 V:=by rw[<-hV,<-hX];exact (((zE _ _).alloc (zA _) _).drew).drew
    have hKV:ag V W9.heap.size [Vi (ja:Int),Vi (jb:Int)] 114:=by rw[<-hV,<-hX];exact ((ag.new W9 [Vi (ja:Int),Vi (jb:Int)] 114).drew).drew
    obtain⟨hja,hjb,hla,hlb,hxa,hyb⟩:=HJ.out;have HNV:=aa (HN9.out.below hbX);obtain⟨o1,o2,st,q1,q2,q3,q4,q5,q6⟩:=SU HNV.out.st.seen ((ja:Int),(jb:Int));have HCT:=aa (DCt.of HNV.out HI2.out hja hjb hla hlb (HNW9.out.below hbX) hKV q5 q6);have hKn:0<=du Ls ((ja:Int),(jb:Int))/\du Ls ((ja:Int),(jb:Int))<=100000000000:=by have h1:=HN9.out.seen.num ((ja:Int),(jb:Int));have h2:=HN9.out.lo;omega
    obtain⟨K,hK⟩:∃K,du Ls ((ja:Int),(jb:Int))=K:=⟨_,rfl⟩;rw[hK]at q1 q2 q3 q4 hKn;have HK:=aa hK;obtain⟨hK0,hK9⟩:=hKn;generalize hY:W9.heap.size=Y at *;have hMlV:T+1+1<V.heap.size:=HNV.out.st.ne.2.2;have hYne:Y≠T+1+1:=λe=>by
     have h8:=HNV.out.st.seen.obj;rw[<-e]at h8;have h9:V.heap[Y]?=some (.cells _ _):=hKV;rw[h9]at h8;cases h8
    have HKV:=aa hKV;have k0:∀w',Off (T+1+1) V w'->w'.cell? (aD Y 0)=some (Vi (ja:Int)):=λw' h=>(HKV.out.off h hYne).cell 0;have k9:∀w',Off (T+1+1) V w'->w'.cell? (aD Y 1)=some (Vi (jb:Int)):=λw' h=>(HKV.out.off h hYne).cell 1;have o1f:Off (T+1+1) V (putO V (T+1+1) o1):=(Off.refl _ _).putO _;have o2f:Off (T+1+1) V (putO (putO V (T+1+1) o1) (T+1+1) o2):=o1f.putO _;rw[hX];clear hbX hKV hja hjb hla hlb hxa hyb q5 q6 hK n19 n29 x09 y09 hX hU9 hxl9 hyl9 hY
    go_cut []from 36 to 113 (λwx=>∃Ls' ks',DCt p.Mt qq.Mt p.me qq.me w2 c (T+1) (T+1+1) ci q l' g cc Ls old now ja jb U Y Ls' ks' wx)
    case first=>
     refine yW (S:=λw':World=>w'.cell? (aD Y 0)=some (Vi (ja:Int))/\w'.cell? (aD Y 1)=some (Vi (jb:Int))) (by kernel_rfl) (by rw[hV];exact⟨HKV.out.cell 0,HKV.out.cell 1⟩) (λhHeld=>?_);rw[hV];rw[hV]at hHeld;refine tk 0 ?_;simp only[tS];refine tk 1 ?_;simp only[tS];refine wpAnyH_ready (rs:=[2,4]) (by kernel_rfl) (by simp) ?_;refine yM (o:=_) rfl (λKc hK=>?_) ?_
     ·have q9:=q1;go_simp;clear q9;refine hK.out _ _ ⟨HKV.out.cell 0,HKV.out.cell 1⟩ (λhHeld=>?_);clear hK Kc
      try simp only[tS]
      refine tk 3 (v:=Vi (K+1)) ?_ (hy:=by intro w hSw;go_simp;rw[IntKind.wrap_i64]<;>omega);simp only[tS];refine di 4 (λKc hK=>?_);have q9:=q2;go_simp;clear q9;refine hK.out _ _ ⟨k0 _ o1f,k9 _ o1f⟩ (λhHeld=>?_);clear hK Kc
      try simp only[tS]
      refine tk 5 (v:=goInt (st:Int)) ?_;simp only[tS];refine di 6 (λKc hK=>?_);have q9:(Instr.entryStore 101 (.map (some (T+1+1))) (Vi (st:Int)) (Vi (K+1))).run prog (putO V (T+1+1) o1)=_:=q4;go_simp;clear q9;refine hK.out _ _ ⟨k0 _ o2f,k9 _ o2f⟩ (λhHeld=>?_);clear hK Kc
      try simp only[tS]
      refine yV (by kernel_rfl) ?_ _;go_wp2_with fail
      go_meet
      exact HCT.out
     ·refine yM (o:=_) rfl (λKc hK=>?_) xJ;have q9:=q2;go_simp;clear q9;refine hK.out _ _ ⟨k0 _ o1f,k9 _ o1f⟩ (λhHeld=>?_);clear hK Kc
      try simp only[tS]
      refine tk 5 (v:=goInt (st:Int)) ?_;simp only[tS];refine di 2 (λKc hK=>?_);have q9:=q3;go_simp;clear q9;refine hK.out _ _ ⟨k0 _ o1f,k9 _ o1f⟩ (λhHeld=>?_);clear hK Kc
      try simp only[tS]
      refine tk 3 (v:=Vi (K+1)) ?_ (hy:=by intro w hSw;go_simp;rw[IntKind.wrap_i64]<;>omega);simp only[tS];refine di 6 (λKc hK=>?_);have q9:(Instr.entryStore 101 (.map (some (T+1+1))) (Vi (st:Int)) (Vi (K+1))).run prog (putO V (T+1+1) o1)=_:=q4;go_simp;clear q9;refine hK.out _ _ ⟨k0 _ o2f,k9 _ o2f⟩ (λhHeld=>?_);clear hK Kc
      try simp only[tS]
      refine yV (by kernel_rfl) ?_ _;go_wp2_with fail
      go_meet
      exact HCT.out
    case rest=>
     obtain⟨Ls',ks',hct⟩:=hcut;clear q1 q2 q3 q4 k0 k9 o1f o2f hMlV hYne HCT HKV HNV hV;have u0:wc.cell? (aD U 0)=some (.slice now.ta now.u.length now.tc):=hct.box.cell 0;have u1:wc.cell? (aD U 1)=some (Vp now.x):=hct.box.cell 1;have u2:wc.cell? (aD U 2)=some (Vp now.y):=hct.box.cell 2;have v0:wc.cell? (aD Y 0)=some (Vi (ja:Int)):=hct.key.cell 0;have v1:wc.cell? (aD Y 1)=some (Vi (jb:Int)):=hct.key.cell 1;have hUl:=hct.box.lt;have hYl:=hct.key.lt;have hlk:=hct.st.seen.look ((ja:Int),(jb:Int));rw[hct.num,HK.out]at hlk;have HCT:=aa hct;obtain⟨hja,hjb,hla,hlb,hxa,hyb⟩:=HJ.out;by_cases hrep:0<K
     ·have hr1:(1:Int)<K+1:=by omega
      have HSK:=aa (HN9.out.skip (W':=wc) HCT.out.st HCT.out.seen (HN9.out.again hla hlb (by rw[HK.out];exact hrep)));clear hct hja hjb hla hlb hxa hyb HN9;go_wp2_with fail
      go_roundg k1
      case measure=>have:=HK1.out;omega
      have h9:=HSK.out.2;have h8:gk-1=k1:=by have:=HK1.out;omega
      rw[h8]at h9;exact h9
     ·obtain rfl:K=0:=by omega
      by_cases hxy:now.x=now.y
      ·have hpe:(binOp .eql 103 (Vp now.x) (Vp now.y)).run prog wc=.ok (.bool true) wc:=by rw[hxy];exact lI _ _
       have hjj:ja=jb:=SW HN9.out.st.hold hja hjb (by rw[<-hxa,<-hyb];exact hxy);have HSK:=aa (HN9.out.skip (W':=wc) HCT.out.st HCT.out.seen (λ_=>SN (by rw[<-hla,<-hlb,hjj])));clear hjj hxy;clear hct hja hjb hla hlb hxa hyb HN9;go_wp2_with fail
       go_roundg k1
       case measure=>have:=HK1.out;omega
       have h9:=HSK.out.2;have h8:gk-1=k1:=by have:=HK1.out;omega
       rw[h8]at h9;exact h9
      ·obtain⟨hbx1,hbx2⟩:(∃cs t,ag wc now.x cs t)/\∃cs t,ag wc now.y cs t:=by
        obtain⟨_,_,_,h1⟩:=mL hct.st.hold hja;obtain⟨_,_,_,h2⟩:=mL hct.st.hold hjb;rw[<-hxa]at h1;rw[<-hyb]at h2;exact⟨h1,h2⟩
       obtain⟨cs1,t1,hbx1⟩:=hbx1;obtain⟨cs2,t2,hbx2⟩:=hbx2;have hpe:=aF hbx1 hbx2 hxy;clear hbx1 hbx2;by_cases hln:now.u.length=n
       ·have hl1:((now.u.length:Int)==(n:Int))=true:=by rw[hln];simp
        have HSK:=aa (HN9.out.skip (W':=wc) HCT.out.st HCT.out.seen (λ_=>Wu HND.out hln));clear hct hja hjb hla hlb hxa hyb HN9;go_wp2_with fail
        go_roundg k1
        case measure=>have:=HK1.out;omega
        have h9:=HSK.out.2;have h8:gk-1=k1:=by have:=HK1.out;omega
        rw[h8]at h9;exact h9
       ·have hl1:((now.u.length:Int)==(n:Int))=false:=zD.2 (by omega);have hun:now.u.length<n:=by have:=HN9.out.len;omega
        have HUN:=aa hun;have HG1:Hid (gk-1=k1):=by have:=HK1.out;show _=_;omega
        have HIN:=aa (vp.start HN9.out hct.st hct.txt hct.seen hun (U:=U) HUB.out.2);clear hct hja hjb hla hlb hxa hyb hun hln;go_wp2_with fail
        go_loopg [102] Al.length (λj iv wr=>∃i:Nat,iv=Vi i/\i<=Al.length/\Al.length-i<=j/\vp p.Mt qq.Mt p.me qq.me w2 c (T+1) (T+1+1) Al n Ls' ks' old now l' U i wr/\ag wr U [.slice now.ta now.u.length now.tc,Vp now.x,Vp now.y] 107)
        case atStart=>exact⟨0,rfl,zW _,zA _,HIN.out,HCT.out.box⟩
        case round=>
         obtain⟨i,rfl,hil,hij,hin,hbx⟩:=hrel;clear u0 u1 u2 v0 v1 hUl hYl hlk hpe HIN;have i0:(0:Int)<=(i:Int):=zK _;by_cases hlt:i<Al.length
         ·have i1:(i:Int)<(Al.length:Int):=by omega
          have i2:(i:Int)+1<=9223372036854775807:=by have:=HAN.out;omega
          obtain⟨r,hr⟩:∃r,Al[i]?=some r:=⟨_,zB hlt⟩;obtain⟨ci2,q2,l2,g2,cc2,hUg2,hst2,htx2,hit2,hsn2,hch2,hpc2⟩:=hin;have hrow:eP wr ga Al:=hst2.row HROW.out (HGS.out _ (zB (show 0<Al.length by omega)));have hcr:wr.cell? (aD ga i)=some (Vi r):=hrow.cell hr;have hgl:=hrow.2;have b0:wr.cell? (aD U 0)=some (.slice now.ta now.u.length now.tc):=hbx.cell 0;have b1:wr.cell? (aD U 1)=some (Vp now.x):=hbx.cell 1;have b2:wr.cell? (aD U 2)=some (Vp now.y):=hbx.cell 2;have hUw:=hbx.lt;have HLG:=aa (hst2.longer HI2.out HP2.out HX.out htx2 hit2 (by have:=HUN.out;omega) (HAL.out.1 r (zU hr)) (by have:=RO hpc2 (by omega);unfold gQ at this;omega) (HLEV.out _ HUN.out).1 (HLEV.out _ HUN.out).2);have HR:=aa hr;have HBX:=aa hbx;have HUG:=aa hUg2;have HCH:=aa hch2;have HPC:=aa hpc2;have HSN:=aa hsn2;clear hst2 htx2 hit2 hsn2 hch2 hpc2 hUg2 hr hrow hbx;go_wp2_with fail;refine HLG.out.mono ?_;rintro e w10 ⟨ci3,a3,rfl,hau,hst3,hat3,hia3,hnt3,hni3,hgo3,hkp3⟩;have HPU:=aa (hst3.push HI2.out hat3 hia3 (HN9.out.room HUN.out HCH.out));have HB3:Hid (ag w10 U [.slice now.ta now.u.length now.tc,Vp now.x,Vp now.y] 107):=(hkp3 U HBX.out.lt (by rw[b0];simp)).trans HBX.out;have HNT:=aa hnt3;have HNI:=aa hni3;have HSN3:=aa (HSN.out.gone hgo3);have HAU:=aa hau;clear hau hst3 hat3 hia3 hnt3 hni3 hgo3 hkp3 HLG b0 b1 b2 hcr hgl hUw;go_wp2_with fail;refine HPU.out.mono ?_;rintro e w11 ⟨rfl,l4,g4,cc4,hst4,hperm4,hbut4,hg4⟩;have HDI:=aa (vp.push HR.out hst4 (HNT.out.pushed hbut4 hg4) HNI.out HSN3.out HCH.out hperm4 HAU.out (by unfold gQ;omega) HPC.out (U:=U) (by
           rcases hg4 with e|e
           ·rw[e];exact HUG.out
           ·have:=HB3.out.lt;omega))
          have HB4:Hid (ag w11 U [.slice now.ta now.u.length now.tc,Vp now.x,Vp now.y] 107):=HB3.out.but hbut4 (λe=>by rcases e with e|e;exact HUB.out.1 e;exact HUG.out e);clear hst4 hperm4 hbut4 hg4 HPU;go_wp2_with fail
          go_roundg (Al.length-(i+1))
          case measure=>omega
          exact⟨i+1,by first|rfl|go_num,by omega,by omega,HDI.out,HB4.out⟩
         ·have i1:decide ((i:Int)<(Al.length:Int))=false:=zI (by omega);obtain rfl:i=Al.length:=by omega
          have HDN:=aa (vp.done HN9.out HND.out HUN.out HAL.out.1 HAL.out.2 hin);clear hin hbx;go_wp2_with fail
          go_roundg k1
          case measure=>have:=HK1.out;omega
          have h9:=HDN.out.2;rw[HG1.out]at h9;exact h9
   ·have hne:(ea==eb)=false:=zD.2 hee;have HFD:=aa (HN8.out.found (HDF.out.1 hee));have HCV:∀m,(convert 71 9 (.slice now.ta now.u.length now.tc)).run prog (W8.drewN m)=.ok (.string (runesBytes now.u)) (W8.drewN m):=λm=>TS (HN8.out.below (aR (zE _ _))).txt.1 (λe=>(HN8.out.it.none e).1);have hU8:=HNW.out.lt;clear hta
    go_quiet (fail)
    go_wp2_with fail
    go_ret2
    exact⟨aR HB8.out,.inl ⟨now.u,HFD.out,rfl⟩⟩
def Bv:Me:=⟨61,61,183,61⟩
theorem Small.le {p:Pat}(h:Small p):p.me<=Bv:=⟨h.n,h.pp,h.y,h.z⟩
theorem nI {A B:Me}(h:A<=B):∀k,iF A k<=iF B k
 |0=>h
 |k+1=>mr (nI h k)
theorem Ae {A B:Me}(h:A<=B):aq A<=aq B:=by
 unfold aq;have:=Nat.mul_le_mul (Nat.add_le_add_right h.2.1 4) (Nat.sub_le_sub_right h.2.2.1 1);omega
theorem LR {A B:Me}(hA:A<=Bv)(hB:B<=Bv)(k:Nat):gQ A B k<=2*aq (iF Bv k):=by
 have a:=Ae (nI hA k);have b:=Ae (nI hB k);unfold gQ;omega
theorem Jv {M M' n:Nat}{f g:Nat->Nat}(hM:M<=M')(h:∀k,f k<=g k):∀d,Wc M f n d<=Wc M' g n d
 |0=>zA _
 |d+1=>Nat.mul_le_mul hM (Nat.add_le_add (h _) (Jv hM h d))
theorem Jw {M M':Nat}(hM:M<=M'):∀d,Wt M d<=Wt M' d
 |0=>zA _
 |d+1=>Nat.add_le_add_left (Nat.mul_le_mul hM (Jw hM d)) 1
theorem Xx:∀n,n<=3->Wc 721 (λk=>2*aq (iF Bv k)) n n<=8000000000000000000/\Wt 721 n<=100000000000
 |0,_=>by decide
 |1,_=>by decide
 |2,_=>by decide
 |3,_=>by decide
 |n+4,h=>by omega
theorem VR:∀k,k<=3->(iF Bv k).z<=3000000000000
 |0,_=>by decide
 |1,_=>by decide
 |2,_=>by decide
 |3,_=>by decide
 |n+4,h=>by omega
theorem Hx {p q:Pat}(hp:Small p)(hq:Small q)(hn:n<=3):(∀M,M<=1+2*(p.rg+q.rg)->2+p.co+q.co+Wc M (gQ p.me q.me) n n<=9000000000000000000/\Wt M n<=100000000000)/\∀k,k<=n->(iF p.me k).z<=3000000000000/\(iF q.me k).z<=3000000000000:=by
 refine⟨λM l=>?_,λk m=>?_⟩
 ·have c:=hp.rg;have b:=hq.rg;have a:M<=721:=by omega
  obtain⟨e,h⟩:=Xx n hn;have g:=Jv (n:=n) a (LR hp.le hq.le) n;have f:=Jw a n;have j:=hp.co;have d:=hq.co;exact⟨by omega,by omega⟩
 ·have i:=VR k (by omega);have c:=(nI hp.le k).2.2.2;have b:=(nI hq.le k).2.2.2;exact⟨by omega,by omega⟩
theorem LT:Small (.set []):=⟨by decide,by decide,by decide,by decide,by decide,by decide,by decide⟩
