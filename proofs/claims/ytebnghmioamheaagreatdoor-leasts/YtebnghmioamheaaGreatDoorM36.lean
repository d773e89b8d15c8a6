import Derived.Test.YtebnghmioamheaaGreatDoorM35
import Derived.Test.YtebnghmioamheaaGreatDoorM32
set_option linter.all false
namespace Go.Proofs.YtebnghmioamheaaGreatDoor
open Go.Shelf Go.RowKit Tryz
variable {w w':World}{L C:LZ}{g:Nat}
def sO (w:World)(a:Option Addr)(xs:List Nat):Prop:=∀j x,xs[j]?=some x->∃b off,a=some (aD b off)/\b<w.heap.size/\w.cell? ⟨b,off+j,none⟩=some (Vp x)
theorem sO.below {a:OA}{xs:List Nat}(h:sO w a xs)(k:Bw w w'):sO w' a xs:=by
 intro j x e;obtain⟨b,c,rfl,d,f⟩:=h j x e;exact⟨b,c,rfl,zF d k.size,(k.cell (p:=⟨b,_,none⟩) d).trans f⟩
def Vr (K:Nat)(w:World)(e:Ending)(w':World):Prop:=∃(L:List Int) (g c:Nat),e=.returned (Vs g L.length c)/\L.length<=c/\L.length<=K/\(∀x∈L,0<=x/\x<=1114111)/\w.heap.size<=g/\eP w' g L/\Bw w w'
structure NodeF (w:World)(x:Nat)(K:Nat):Prop where
 set:∃la lc l,w.cell? (aD x 1)=some (.slice la l.length lc)/\Rd w la l/\l.length<=10/\∀y∈l,0<=y.1/\y.1<=1114111/\0<=y.2/\y.2<=1114111
 parts:∃pv,w.cell? (aD x 2)=some pv/\(∃a n c,pv=.slice a n c)/\∀W,Bw w W->Calls prog 42 #[pv] W (Vr K W)
 lt:x<w.heap.size
theorem Hj {r:Int}(h0:0<=r)(h1:r<=1114111):0<=Brm.after r/\Brm.after r<=1114112:=by unfold Brm.after;split<;>omega
theorem aah {B n:Nat}{v:Value}(h:w.ownsRow B 3 1 v n (bj L))(hn:0<n):∃g c,v=Vs g L.length c/\L.length<=c/\B<=g/\eP w g L:=by
 have d:=h.1;simp[bj]at d;have a:=h;rcases h.2 with⟨_,m⟩|⟨g,e,k,rfl,i,l,r⟩
 ·omega
 ·refine⟨g,e,by rw[d],by rw[d];exact r.1,i,⟨λj f=>?_,(a.lt g rfl).2⟩⟩;have b:j<L.length:=by simpa using f
  refine⟨?_,a.frozenAt _⟩;rw[zf,a.cellAt j (by omega)];simp[bj,zg,zB b,getElem!_pos L.toArray j (by simpa using b)]
theorem PC {B n:Nat}{v:Value}{xs:LV}(h:w.ownsRow B 3 1 v n xs)(k:Bw w w'):w'.ownsRow B 3 1 v n xs:=by
 have d:=h.lt;obtain⟨i,b⟩:=h;refine⟨i,?_⟩;rcases b with b|⟨g,c,a,rfl,e,f,r⟩
 ·exact .inl b
 ·exact .inr ⟨g,c,a,rfl,e,(k.block g (d g rfl).2).trans f,r⟩
theorem Mr (w:World)(y1 y2:Int):∀j u,[Vi y1,Vi y2][j]?=some u->(w.alloc (.cells #[Vi y1,Vi y2] 3)).drew.cell? (((aD w.heap.size 0):Addr).add j)=some u:=by
 intro j u a
 match j,a with
 |0,a=>simp at a;subst a;simp[Addr.add]
 |1,a=>simp at a;subst a;simp[Addr.add]
def aad (w:World)(S N:Nat)(ov:Value)(wr:World):Prop:=∃L:List Int,wr.ownsRow S 3 1 ov L.length (bj L)/\0<L.length/\L.length<=N/\(∀x∈L,0<=x/\x<=1114112)/\Below S w wr
open Go.Sort
theorem Qm (c:Nat)(h:eP w g L)(hl:L.length<=1000000):Calls prog 65 #[Vs g L.length c] w λe w'=>e=.returned (.tuple #[])/\∃L':List Int,L'.Perm L/\L'.Pairwise (λx y=>x<=y)/\eP w' g L'/\Below g w w':=by
 refine (qI g 0 c L w h.1 h.2 (by omega)).mono ?_;rintro e w' ⟨rfl,n,f,rfl⟩;have d:=List.mergeSort_perm L λx y=>decide (x<=y);have i:=List.pairwise_mergeSort (le:=λx y:Int=>decide (x<=y)) (λa b c j k=>by simp at *;omega) (λa b=>by simp;omega) L;exact⟨rfl,_,d,i.imp (λh=>by simpa using h),Be h d.length_eq f⟩
theorem AR {x:Int}:x∈Lib.compact L↔x∈L:=by
 refine⟨Hg,λh=>?_⟩;obtain⟨j,b,rfl⟩:=List.getElem_of_mem h;unfold Lib.compact Lib.compactUpTo
 induction j using Nat.strongRecOn with
 |ind j ih=>
  have a:L.toArray[j]! = L[j]:=by simp[getElem!_pos,b]
  by_cases c:Lib.keeps L.toArray j=true
  ·exact yH.2 ⟨j,List.mem_filter.2 ⟨List.mem_range.2 b,c⟩,a⟩
  ·have:¬(j=0\/L.toArray[j]!≠L.toArray[j-1]!):=by simpa [Lib.keeps]using c
   have f:j≠0:=λh=>this (.inl h);have e:L.toArray[j]! = L.toArray[j-1]!:=Classical.not_not.1 (λh=>this (.inr h));have d:L.toArray[j-1]! = L[j-1]:=by
    have:j-1<L.length:=by omega
    simp[getElem!_pos,this]
   rw[<-a,e,d];exact ih (j-1) (by omega) (by omega) (xE _)
theorem BS (h:L.Pairwise (λx y=>x<=y)):(Lib.compact L).Pairwise (λx y=>x<y):=by
 unfold Lib.compact Lib.compactUpTo;rw[List.pairwise_map];have q:(List.range L.length).Pairwise (λx y=>x<y):=List.pairwise_lt_range;rw[List.pairwise_filter];refine q.imp_of_mem ?_;intro i j w r s t d;have c:=List.mem_range.1 r;have m:∀k,k<L.length->∃h:k<L.length,L.toArray[k]! = L[k]:=λk o=>⟨o,by simp[getElem!_pos,o]⟩;obtain⟨f,p⟩:=m i (by omega);obtain⟨l,n⟩:=m j c;obtain⟨a,g⟩:=m (j-1) (by omega);have b:L.toArray[j]!≠L.toArray[j-1]!:=by
  have:j=0\/L.toArray[j]!≠L.toArray[j-1]!:=by simpa [Lib.keeps]using d
  rcases this with h|h
  ·omega
  ·exact h
 rw[n,g]at b;rw[p,n];have v:=yX.1 h (j-1) j a l (by omega);by_cases e:i=j-1
 ·subst e;omega
 ·have u:=yX.1 h i (j-1) f a (by omega);omega
theorem GG (c:Nat)(h:eP w g L)(hl:L.length<=1000000)(hc:L.length<=c):Calls prog 66 #[Vs g L.length c] w λe w'=>e=.returned (Vs g (Lib.compact L).length c)/\(Lib.compact L).length<=L.length/\eP w' g (Lib.compact L)/\Below g w w':=by
 refine (ou g 0 c L w h.1 (by omega) hc).mono ?_;rintro e w' ⟨rfl,q,rfl⟩;have a:=Lib.compact_length_le L;have b:=Be (q:=q) (L':=Lib.compact L++List.replicate (L.length-(Lib.compact L).length) 0) h (by simp;omega) #[];rw[Ci]at b;exact⟨rfl,a,b.1.pre,b.2⟩
theorem IN (c:Nat)(h:eP w g L)(hl:L.length<=1000000)(hc:L.length<=c):Calls prog 67 #[Vs g L.length c,Vf 68 #[]] w λe w'=>e=.returned (Vs g (L.filter λx=>!decide (1114111<x)).length c)/\(L.filter λx=>!decide (1114111<x)).length<=L.length/\eP w' g (L.filter λx=>!decide (1114111<x))/\Below g w w':=by
 refine (px (Value.int .i64) (λ_=>rfl) (λx=>decide (1114111<x)) 68 #[] (enters_of func68 (by kernel_rfl) rfl) 0 (zeroValue3) g 0 c L.toArray w (λW x _=>Cj x W) (λn d f x _=>Cj x _) h.1 (by simp;omega) (by simpa using hc)).mono ?_;rintro e w' ⟨rfl,q,rfl⟩;have a:=List.length_filter_le (λx=>!decide (1114111<x)) L;have b:=Be (q:=q) (L':=(L.filter λx=>!decide (1114111<x))++List.replicate (L.length-(L.filter λx=>!decide (1114111<x)).length) 0) h (by simp;omega) #[];rw[Ci]at b;exact⟨rfl,a,b.1.pre,b.2⟩
theorem ua:∀{L C:LZ},L.Pairwise (λx y=>x<y)->(∀x∈L,x∈C)->L.length<=C.length
 | [],_,_,_=>zW _
 |a::L,C,h,hm=>by
  obtain⟨g,j⟩:=yg.1 h;have i:=hm a (by simp);have f:=List.perm_cons_erase i;have b:=f.length_eq;have k:=ua (C:=C.erase a) j (λx d=>by
   have c:=f.mem_iff.1 (hm x (by simp[d]));rcases zO.1 c with e|e
   ·have:=g x d;omega
   ·exact e)
  simp only[zG]at b ⊢;omega
def dX (l:List (Int×Int)):List Int:=l.flatMap λy=>[y.1,Brm.after y.2]
theorem kw (l:LQ):(dX l).length=2*l.length:=by
 induction l with
 |nil=>rfl
 |cons x l ih=>simp only[dX,yE,zH,zG,zh]at *;omega
theorem AS (l:LQ)(y:Int×Int):dX (l++[y])=dX l++[y.1,Brm.after y.2]:=by simp[dX]
def ir (C:List Int)(w:World)(e:Ending)(w':World):Prop:=∃(L:List Int) (g c:Nat),e=.returned (Vs g L.length c)/\L.length<=c/\L.Pairwise (λx y=>x<y)/\(∀x∈L,0<=x/\x<=1114111)/\(∀x,x∈L↔x<=1114111/\x∈C)/\w.heap.size<=g/\eP w' g L/\Bw w w'
theorem ir.len (h:L.Pairwise (λx y=>x<y))(hm:∀x,x∈L↔x<=1114111/\x∈C):L.length<=C.length:=ua h (λx a=>((hm x).1 a).2)
structure NodeG (w:World)(x:Nat)(l:List (Int×Int))(Cp:List Int):Prop where
 set:∃la lc,w.cell? (aD x 1)=some (.slice la l.length lc)/\Rd w la l
 rng:∀y∈l,0<=y.1/\y.1<=1114111/\0<=y.2/\y.2<=1114111
 parts:∃pv,w.cell? (aD x 2)=some pv/\(∃a n c,pv=.slice a n c)/\∀W,Bw w W->Calls prog 42 #[pv] W (ir Cp W)
 lt:x<w.heap.size
def fK (d:List (Int×Int)×List Int):List Int:=dX d.1++d.2
def UJ (L C:List Int):Prop:=∀x,x<=1114111->(x∈L↔x∈C)
def xh (w:World)(S:Nat)(C:List Int)(ov:Value)(wr:World):Prop:=∃L:List Int,wr.ownsRow S 3 1 ov L.length (bj L)/\0<L.length/\L.length<=C.length/\(∀x∈L,0<=x/\x<=1114112)/\UJ L C/\Below S w wr
theorem xh.below {wr:World}{S:Nat}{ov:Value}(h:xh w S C ov wr)(k:Bw wr w')(hS:S<=wr.heap.size):xh w S C ov w':=by
 obtain⟨L,a,b,f,d,c,e⟩:=h;exact⟨L,PC a k,b,f,d,c,e.trans (k.mono hS)⟩
theorem MZ {L1:LZ}(hp:L1.Perm L)(hs:L1.Pairwise (λx y=>x<=y))(hr:∀x∈L,0<=x/\x<=1114112)(he:UJ L C):((Lib.compact L1).filter λx=>!decide (1114111<x)).Pairwise (λx y=>x<y)/\(∀x∈(Lib.compact L1).filter λx=>!decide (1114111<x),0<=x/\x<=1114111)/\∀x,x∈(Lib.compact L1).filter (λx=>!decide (1114111<x))↔x<=1114111/\x∈C:=by
 have c:∀x,x∈(Lib.compact L1).filter (λx=>!decide (1114111<x))↔x∈L/\x<=1114111:=λx=>by
  rw[List.mem_filter,AR,hp.mem_iff];simp
 refine⟨(BS hs).filter _,λx d=>?_,λx=>?_⟩
 ·obtain⟨a,b⟩:=(c x).1 d;exact⟨(hr x a).1,b⟩
 ·rw[c];constructor
  ·rintro⟨a,b⟩;exact⟨b,(he x b).1 a⟩
  ·rintro⟨a,b⟩;exact⟨(he x a).2 b,a⟩
set_option maxHeartbeats 4000000
set_option maxRecDepth 100000
theorem ro (a:OA)(c:Nat)(xs:List Nat)(D:List (List (Int×Int)×List Int))(w:World)(hA:sO w a xs)(hN:∀(i x:Nat),xs[i]?=some x->∃d:List (Int×Int)×List Int,D[i]?=some d/\NodeG w x d.1 d.2)(hl:xs.length=D.length)(hx9:xs.length<=100000)(hK:(0::D.flatMap fK).length<=100000):Calls prog 42 #[.slice a xs.length c] w (ir (0::D.flatMap fK) w):=by
 have f7:∀i,(0::(D.take i).flatMap fK).length<=100000:=λi=>by
  have e:D.flatMap fK=(D.take i).flatMap fK++(D.drop i).flatMap fK:=by rw[<-List.flatMap_append,zj]
  rw[e]at hK;simp only[zG,zH]at hK ⊢;omega
 have e2:=aa f7;have i6:=aa hl;obtain⟨i0,hi,d3,f5,f6⟩:=zz jo;obtain⟨W0,a5,d9,-,-⟩:=dS (rfl:w.heap.size=_) [Vi 0] 3;have g6:xh w w.heap.size [0] (Vs w.heap.size 1 1) W0:=by
  rw[<-a5];exact⟨[0],World.ownsRow_lit w #[Vi 0] 1 (zA _) (by unfold maxLen;omega) rfl,by simp,by simp,by simp,λx _=>Iff.rfl,(zE _ _).alloc (zA _) _⟩
 have j5:W0.heap.size=w.heap.size+1:=by rw[<-a5];simp
 have HA:=aa hA;have HN:=aa hN;have i7:=aa a5;have j8:=aa d9;have i1:=aa g6;go_enter func42,ntmps42;go_wp2_with fail;rw[i7.out];generalize hS:w.heap.size=S at *
 go_loopg [3,11] xs.length (λj ov iv wr=>∃i:Nat,iv=Vi (i:Int)/\i<=xs.length/\xs.length-i<=j/\xh w S (0::(D.take i).flatMap fK) ov wr/\S<wr.heap.size)
 case atStart=>exact⟨0,rfl,zW _,by omega,by simpa using i1.out,by omega⟩
 case round=>
  obtain⟨i,rfl,j6,hj,I,i4⟩:=hrel;have k0:(0:Int)<=(i:Int):=zK _;have Q:Below S w wr:=by obtain⟨L,_,_,_,_,_,h5⟩:=I;exact h5
  have a1:Bw w wr:=by rw[hS];exact Q
  by_cases e7:i<xs.length
  ·have k1:(i:Int)<(xs.length:Int):=by omega
   obtain⟨x,hx⟩:∃x,xs[i]?=some x:=⟨_,zB e7⟩;obtain⟨b,j9,rfl,hb,j7⟩:=(HA.out.below a1) i x hx;obtain⟨d,hd,f⟩:=HN.out i x hx;obtain⟨l,Cp⟩:=d;simp only at f;obtain⟨la,lc,e3,f1⟩:=f.set;have a8:=f.rng;have c9:Hid (D.take (i+1)=D.take i++[(l,Cp)]):=dU hd;have f8:=e2.out (i+1);have g3:=f8;rw[c9.out,List.flatMap_append]at g3;simp only[yE,List.flatMap_nil,zx,fK,zG,zH,kw]at g3;generalize hCI:(D.take i).flatMap fK=CI at *;have f0:=aa hCI;have k5:=(a1.cell (p:=(aD x 1)) f.lt).trans e3;have k7:x<wr.heap.size:=zF f.lt a1.size;have F:=aa f;have d6:=aa I;have h6:=aa f1;have g1:=aa a8;have k6:b<wr.heap.size:=hb;go_wp2_with fail
   go_loopg [3,20] l.length (λj ov qv wr=>∃q:Nat,qv=Vi (q:Int)/\q<=l.length/\l.length-q<=j/\xh w S ((0::CI)++dX (l.take q)) ov wr/\S<wr.heap.size)
   case atStart=>exact⟨0,rfl,zW _,by omega,by simpa [dX]using d6.out,i4⟩
   case round=>
    obtain⟨q,rfl,k2,l1,t,B⟩:=hrel;have q0:(0:Int)<=(q:Int):=zK _;have o:Below S w wr:=by obtain⟨L,_,_,_,_,_,h5⟩:=t;exact h5
    have s:Bw w wr:=by rw[hS];exact o
    by_cases G:q<l.length
    ·have q1:(q:Int)<(l.length:Int):=by omega
     obtain⟨b2,j2,rfl,b8,A,h2⟩:=(h6.out.below s) q l[q] (zB G);have c8:=g1.out l[q] (xE G);have c4:Hid (l.take (q+1)=l.take q++[l[q]]):=dU (zB G);generalize l[q]=y at A h2 c8 c4;obtain⟨O,J⟩:=y;simp only at A h2 c8;obtain⟨r1,r2,r3,r4⟩:=c8;have i2:=aa (Hj r3 r4);obtain⟨L,h,c2,n,C,r,_⟩:=t;have W:=aa r;have e5:L.length<=100000:=by
      have e8:(l.take q).length<=l.length:=by simp;omega
      simp only[zH,zG,kw]at n;omega
     have b5:=aa n;have Z:=aa C;have H:=aa h;have f4:=aa o;have hR:=ag.new wr [Vi O,Vi J] 92;have K:=aa hR;have P:=h.alloc (.cells #[Vi O,Vi J] 92);have d4:Hid (Below S w (wr.alloc (.cells #[Vi O,Vi J] 92))):=o.alloc (yJ B) _;have h0:Hid (S<=wr.heap.size):=yJ B;go_wp2_with fail;generalize hR:wr.heap.size=R at *;obtain⟨W1,b7⟩:∃W1,wr.alloc (.cells #[Vi O,Vi J] 92)=W1:=⟨_,rfl⟩;rw[b7]at K P d4;have e0:W1.cell? (aD R 0)=some (Vi O):=K.out.cell 0;have e1:W1.cell? (aD R 1)=some (Vi J):=K.out.cell 1;rw[b7];refine yW (S:=λw':World=>w'.cell? (aD R 0)=some (Vi O)/\w'.cell? (aD R 1)=some (Vi J)) (by kernel_rfl) ⟨e0,e1⟩ (λhHeld=>?_);refine tk 0 ?_;simp only[tS];refine tk 1 ?_;simp only[tS];refine tk 2 ?_;simp only[tS];refine tk 3 ?_;simp only[tS];refine tk 4 ?_;simp only[tS];refine di 5 (λKc hK=>?_);go_simp;refine (mi J _ r3 r4).mono ?_;rintro e w5 ⟨rfl,e6⟩;have i3:=e6.symm;subst i3;go_wp2_with fail;refine hK.out _ _ ⟨e0,e1⟩ (λhHeld=>?_)
     try simp only[tS]
     refine di 6 (λKc hK=>?_);go_simp;refine hK.out _ _ ⟨(K.out.alloc _).cell 0,(K.out.alloc _).cell 1⟩ (λhHeld=>?_)
     try simp only[tS]
     refine di 7 (λKc hK=>?_);rw[zX (by rfl)];have j1:W1.heap.size=R+1:=by rw[<-b7];simp[hR]
     have k9:=h0.out;refine wp_append_own _ _ _ 61 rfl S 3 i0 (Vi 0) 1 8 underlying61 hi d3 f5 f6 rfl (by decide) _ _ _ rfl (P.alloc _) (aD W1.heap.size 0) 2 2 [Vi O,Vi (Brm.after J)] rfl rfl (Mr W1 _ _) (et _ _) (by unfold maxLen;omega) (by omega) (by simp;omega) ?_;intro v' w3 v m _;have b0:∀k,R<=k->some k≠Value.ownBlock u3:=λk hk e=>by have:=(H.out.lt k e.symm).2;omega
     have a6:=((K.out.alloc (.cells #[Vi O,Vi (Brm.after J)] 3)).drew).grown m (b0 R (zA _));have M:Below S w w3:=((d4.out.alloc (by omega) (.cells #[Vi O,Vi (Brm.after J)] 3)).drew).grown m (by simp;omega) (λk e=>(H.out.lt k e).1);have f3:=aa M;have g0:S<w3.heap.size:=by have:=a6.lt;omega
     have d0:Hid (xh w S ((0::CI)++dX (l.take (q+1))) v' w3):=by
      refine⟨L++[O,Brm.after J],?_,by simp,?_,?_,?_,M⟩
      ·have e9:bj (L++[O,Brm.after J])=bj L++[Vi O,Vi (Brm.after J)]:=by simp[bj]
       rw[e9];simpa using v
      ·have e8:=b5.out;rw[c4.out,AS];simp only[zH,zG,zh]at e8 ⊢;omega
      ·intro y E;rcases zM.1 E with E|E
       ·exact Z.out y E
       ·simp only[zO,xD,or_false]at E;rcases E with rfl|rfl
        ·omega
        ·exact i2.out
      ·intro y E;rw[c4.out,AS,<-zc,zM,zM,W.out y E]
     refine hK.out _ _ ⟨a6.cell 0,a6.cell 1⟩ (λhHeld=>?_)
     try simp only[tS]
     refine tk 8 ?_;simp only[tS];refine yV (by kernel_rfl) ?_ _;go_wp2_with fail
     go_roundg (gk-1)
     case measure=>omega
     case rel=>exact⟨q+1,by go_num,by omega,by omega,d0.out,g0⟩
    ·have d1:decide ((q:Int)<(l.length:Int))=false:=zI (by omega);have d2:decide (q<l.length)=false:=zI G;obtain⟨pv,e4,⟨pa,pn,pc,rfl⟩,a2⟩:=F.out.parts;have a4:=(s.cell (p:=(aD x 2)) F.out.lt).trans e4;have j4:x<wr.heap.size:=zF F.out.lt s.size;have c0:=aa (a2 wr s);have T:=aa t;go_wp2_with fail;refine c0.out.mono ?_;rintro e w5 ⟨L5,g5,c5,rfl,l0,g4,f9,b1,k8,V,b3⟩;have g8:=ir.len g4 b1;obtain⟨L,h,c2,n,C,r,a3⟩:=T.out.below b3 (yJ B);have i8:q=l.length:=by omega
     rw[i8,zQ]at n r;simp only[zH,zG,kw]at n;have h7:=aa b1;have W:=aa r;have b5:=aa n;have e5:L.length<=100000:=by omega
     have j3:L5.length<=100000:=by omega
     have b9:S<w5.heap.size:=zF B b3.size;have Z:=aa C;have H:=aa h;have b6:=aa a3;have h4:=aa f9;have a7:∀j u,(bj L5)[j]?=some u->w5.cell? (((aD g5 0):Addr).add j)=some u:=by
      intro j u N;rw[Addr.add_mid,zf];unfold bj at N;rw[zg]at N;cases hv:L5[j]? with
      |none=>rw[hv]at N;cases N
      |some z=>rw[hv]at N;cases N;exact V.cell hv
     have d5:∀u∈bj L5,u.oneCell'=true:=by
      intro u hu;unfold bj at hu;obtain⟨z,_,rfl⟩:=yH.1 hu;rfl
     go_wp2_with (at_builtin;refine yD _ rfl _ _ 61 rfl S 3 i0 (Vi 0) 1 8 underlying61 hi d3 f5 f6 rfl (by decide) _ _ _ rfl h (aD g5 0) L5.length c5 (bj L5) rfl (by simp[bj]) a7 d5 (by unfold maxLen;omega) (by omega) (yJ b9) ?_;intro v' w6 v m _);have h9:Below S w w6:=b6.out.grown m (yJ b9) (λk e=>(H.out.lt k e).1);have g9:S<w6.heap.size:=zF b9 m.size
     go_roundg (xs.length-(i+1))
     case measure=>omega
     case rel=>
      refine⟨i+1,by go_num,by omega,zA _,⟨L++L5,?_,by simp;omega,?_,?_,?_,h9⟩,g9⟩
      ·have e9:bj (L++L5)=bj L++bj L5:=by simp[bj]
       rw[e9,zH];exact v
      ·have e8:=b5.out;rw[c9.out,List.flatMap_append,f0.out];simp only[yE,List.flatMap_nil,zx,fK,zG,zH,kw];omega
      ·intro y E;rcases zM.1 E with E|E
       ·exact Z.out y E
       ·have:=h4.out y E;omega
      ·intro y E;rw[c9.out,List.flatMap_append,f0.out,zM,W.out y E,h7.out y];simp only[yE,List.flatMap_nil,zx,fK,zO,zM];constructor
       ·rintro (((A|A)|A)|A)
        ·exact .inl A
        ·exact .inr (.inl A)
        ·exact .inr (.inr (.inl A))
        ·exact .inr (.inr (.inr A.2))
       ·rintro (A|A|A|A)
        ·exact .inl (.inl (.inl A))
        ·exact .inl (.inl (.inr A))
        ·exact .inl (.inr A)
        ·exact .inr ⟨E,A⟩
  ·have d1:decide ((i:Int)<(xs.length:Int))=false:=zI (by omega);have d2:decide (i<xs.length)=false:=zI e7;have i5:i=xs.length:=by omega
   subst i5;obtain⟨L,h,c2,n,C,r,a3⟩:=I;have b4:=e2.out xs.length;rw[yF (by have:=i6.out;omega)]at n r b4;have e5:L.length<=100000:=zJ n b4;have W:=aa r;obtain⟨g,cc,rfl,k3,c3,a9⟩:=aah h c2;have Z:=aa C;have g2:=aa a9;have b6:=aa a3;go_wp2_with fail;refine (Qm cc g2.out (by omega)).mono ?_;rintro e w1 ⟨rfl,L1,a4,d7,a0,f2⟩;have h8:=aa d7;have d8:=aa a4.length_eq;have h3:=aa a4;have c7:=aa a0;have i9:=aa f2;go_wp2_with fail;rw[<-d8.out];have k4:=d8.out;refine (GG cc c7.out (by omega) (by omega)).mono ?_;rintro e w2 ⟨rfl,g7,U,b8⟩;have c1:=aa U;have f4:=aa b8;go_wp2_with fail;have X:=aa (MZ h3.out h8.out Z.out W.out);have j0:=aa g7;generalize hL2:Lib.compact L1=L2 at *;refine (IN cc c1.out (by omega) (by omega)).mono ?_;rintro e w3 ⟨rfl,l2,Y,M⟩;have c6:=aa Y;have f3:=aa M;go_wp2_with fail;go_ret;refine⟨_,g,cc,rfl,by omega,X.out.1,X.out.2.1,X.out.2.2,by omega,c6.out,?_⟩;rw[hS];exact b6.out.trans ((i9.out.mono c3).trans ((f4.out.mono c3).trans (f3.out.mono c3)))
