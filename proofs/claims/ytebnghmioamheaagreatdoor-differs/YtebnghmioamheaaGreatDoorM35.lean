import Derived.Test.YtebnghmioamheaaGreatDoorM34
import Derived.Test.YtebnghmioamheaaGreatDoorM31
set_option linter.all false
namespace Go.Proofs.YtebnghmioamheaaGreatDoor
open Go.Shelf Go.RowKit Tryz
variable {w w':World}{L C:LZ}{g:Nat}
def sO (w:World)(a:Option Addr)(xs:List Nat):Prop:=∀j x,xs[j]?=some x->∃b off,a=some (aD b off)/\b<w.heap.size/\w.cell? ⟨b,off+j,none⟩=some (Vp x)
theorem sO.below {a:OA}{xs:List Nat}(h:sO w a xs)(k:Bw w w'):sO w' a xs:=by
 intro j x e;obtain⟨b,c,rfl,d,f⟩:=h j x e;exact⟨b,c,rfl,zF d k.size,(k.cell (p:=⟨b,_,none⟩) d).trans f⟩
def Vr (K:Nat)(w:World)(e:Ending)(w':World):Prop:=∃(L:List Int) (g c:Nat),e=.returned (Vs g L.length c)/\L.length<=c/\L.length<=K/\(∀x∈L,0<=x/\x<=1114111)/\w.heap.size<=g/\eP w' g L/\Below w.heap.size w w'
structure NodeF (w:World)(x:Nat)(K:Nat):Prop where
 set:∃la lc l,w.cell? (aD x 1)=some (.slice la l.length lc)/\Rd w la l/\l.length<=10/\∀y∈l,0<=y.1/\y.1<=1114111/\0<=y.2/\y.2<=1114111
 parts:∃pv,w.cell? (aD x 2)=some pv/\(∃a n c,pv=.slice a n c)/\∀W,Below w.heap.size w W->Calls prog 42 #[pv] W (Vr K W)
 lt:x<w.heap.size
theorem Hj {r:Int}(h0:0<=r)(h1:r<=1114111):0<=Brm.after r/\Brm.after r<=1114112:=by unfold Brm.after;split<;>omega
theorem aah {B n:Nat}{v:Value}(h:w.ownsRow B 3 1 v n (bj L))(hn:0<n):∃g c,v=Vs g L.length c/\L.length<=c/\B<=g/\eP w g L:=by
 have d:=h.1;simp[bj]at d;have a:=h;rcases h.2 with⟨_,l⟩|⟨g,e,k,rfl,f,m,r⟩
 ·omega
 ·refine⟨g,e,by rw[d],by rw[d];exact r.1,f,⟨λj i=>?_,(a.lt g rfl).2⟩⟩;have b:j<L.length:=by simpa using i
  refine⟨?_,a.frozenAt _⟩;rw[zf,a.cellAt j (by omega)];simp[bj,zg,zB b,getElem!_pos L.toArray j (by simpa using b)]
theorem PC {B n:Nat}{v:Value}{xs:LV}(h:w.ownsRow B 3 1 v n xs)(k:Bw w w'):w'.ownsRow B 3 1 v n xs:=by
 have a:=h.lt;obtain⟨i,b⟩:=h;refine⟨i,?_⟩;rcases b with b|⟨g,d,c,rfl,f,e,r⟩
 ·exact .inl b
 ·exact .inr ⟨g,d,c,rfl,f,(k.block g (a g rfl).2).trans e,r⟩
theorem Mr (w:World)(y1 y2:Int):∀j u,[Vi y1,Vi y2][j]?=some u->(w.alloc (.cells #[Vi y1,Vi y2] 3)).drew.cell? (((aD w.heap.size 0):Addr).add j)=some u:=by
 intro j u a
 match j,a with
 |0,a=>simp at a;subst a;simp[Addr.add]
 |1,a=>simp at a;subst a;simp[Addr.add]
def aad (w:World)(S N:Nat)(ov:Value)(wr:World):Prop:=∃L:List Int,wr.ownsRow S 3 1 ov L.length (bj L)/\0<L.length/\L.length<=N/\(∀x∈L,0<=x/\x<=1114112)/\Below S w wr
open Go.Sort
theorem Qm (c:Nat)(h:eP w g L)(hl:L.length<=1000000):Calls prog 65 #[Vs g L.length c] w λe w'=>e=.returned (.tuple #[])/\∃L':List Int,L'.Perm L/\L'.Pairwise (λx y=>x<=y)/\eP w' g L'/\Below g w w':=by
 refine (qI g 0 c L w h.1 h.2 (by omega)).mono ?_;rintro e w' ⟨rfl,n,i,rfl⟩;have d:=List.mergeSort_perm L λx y=>decide (x<=y);have f:=List.pairwise_mergeSort (le:=λx y:Int=>decide (x<=y)) (λa b c j k=>by simp at *;omega) (λa b=>by simp;omega) L;exact⟨rfl,_,d,f.imp (λh=>by simpa using h),Be h d.length_eq i⟩
theorem AR {x:Int}:x∈Lib.compact L↔x∈L:=by
 refine⟨Hg,λh=>?_⟩;obtain⟨j,c,rfl⟩:=List.getElem_of_mem h;unfold Lib.compact Lib.compactUpTo
 induction j using Nat.strongRecOn with
 |ind j ih=>
  have b:L.toArray[j]! = L[j]:=by simp[getElem!_pos,c]
  by_cases a:Lib.keeps L.toArray j=true
  ·exact yH.2 ⟨j,List.mem_filter.2 ⟨List.mem_range.2 c,a⟩,b⟩
  ·have:¬(j=0\/L.toArray[j]!≠L.toArray[j-1]!):=by simpa [Lib.keeps]using a
   have f:j≠0:=λh=>this (.inl h);have d:L.toArray[j]! = L.toArray[j-1]!:=Classical.not_not.1 (λh=>this (.inr h));have e:L.toArray[j-1]! = L[j-1]:=by
    have:j-1<L.length:=by omega
    simp[getElem!_pos,this]
   rw[<-b,d,e];exact ih (j-1) (by omega) (by omega) (xE _)
theorem BS (h:L.Pairwise (λx y=>x<=y)):(Lib.compact L).Pairwise (λx y=>x<y):=by
 unfold Lib.compact Lib.compactUpTo;rw[List.pairwise_map];have q:(List.range L.length).Pairwise (λx y=>x<y):=List.pairwise_lt_range;rw[List.pairwise_filter];refine q.imp_of_mem ?_;intro i j v p s r m;have g:=List.mem_range.1 p;have c:∀k,k<L.length->∃h:k<L.length,L.toArray[k]! = L[k]:=λk n=>⟨n,by simp[getElem!_pos,n]⟩;obtain⟨f,t⟩:=c i (by omega);obtain⟨d,o⟩:=c j g;obtain⟨a,l⟩:=c (j-1) (by omega);have b:L.toArray[j]!≠L.toArray[j-1]!:=by
  have:j=0\/L.toArray[j]!≠L.toArray[j-1]!:=by simpa [Lib.keeps]using m
  rcases this with h|h
  ·omega
  ·exact h
 rw[o,l]at b;rw[t,o];have w:=yX.1 h (j-1) j a d (by omega);by_cases e:i=j-1
 ·subst e;omega
 ·have u:=yX.1 h i (j-1) f a (by omega);omega
theorem GG (c:Nat)(h:eP w g L)(hl:L.length<=1000000)(hc:L.length<=c):Calls prog 66 #[Vs g L.length c] w λe w'=>e=.returned (Vs g (Lib.compact L).length c)/\(Lib.compact L).length<=L.length/\eP w' g (Lib.compact L)/\Below g w w':=by
 refine (ou g 0 c L w h.1 (by omega) hc).mono ?_;rintro e w' ⟨rfl,q,rfl⟩;have b:=Lib.compact_length_le L;have a:=Be (q:=q) (L':=Lib.compact L++List.replicate (L.length-(Lib.compact L).length) 0) h (by simp;omega) #[];rw[Ci]at a;exact⟨rfl,b,a.1.pre,a.2⟩
theorem IN (c:Nat)(h:eP w g L)(hl:L.length<=1000000)(hc:L.length<=c):Calls prog 67 #[Vs g L.length c,Vf 68 #[]] w λe w'=>e=.returned (Vs g (L.filter λx=>!decide (1114111<x)).length c)/\(L.filter λx=>!decide (1114111<x)).length<=L.length/\eP w' g (L.filter λx=>!decide (1114111<x))/\Below g w w':=by
 refine (px (Value.int .i64) (λ_=>rfl) (λx=>decide (1114111<x)) 68 #[] (enters_of func68 (by kernel_rfl) rfl) 0 (zeroValue3) g 0 c L.toArray w (λW x _=>Cj x W) (λn d f x _=>Cj x _) h.1 (by simp;omega) (by simpa using hc)).mono ?_;rintro e w' ⟨rfl,q,rfl⟩;have b:=List.length_filter_le (λx=>!decide (1114111<x)) L;have a:=Be (q:=q) (L':=(L.filter λx=>!decide (1114111<x))++List.replicate (L.length-(L.filter λx=>!decide (1114111<x)).length) 0) h (by simp;omega) #[];rw[Ci]at a;exact⟨rfl,b,a.1.pre,a.2⟩
theorem ua:∀{L C:LZ},L.Pairwise (λx y=>x<y)->(∀x∈L,x∈C)->L.length<=C.length
 | [],_,_,_=>zW _
 |a::L,C,h,hm=>by
  obtain⟨i,j⟩:=yg.1 h;have g:=hm a (by simp);have f:=List.perm_cons_erase g;have b:=f.length_eq;have k:=ua (C:=C.erase a) j (λx d=>by
   have c:=f.mem_iff.1 (hm x (by simp[d]));rcases zO.1 c with e|e
   ·have:=i x d;omega
   ·exact e)
  simp only[zG]at b ⊢;omega
def dX (l:List (Int×Int)):List Int:=l.flatMap λy=>[y.1,Brm.after y.2]
theorem kw (l:LQ):(dX l).length=2*l.length:=by
 induction l with
 |nil=>rfl
 |cons x l ih=>simp only[dX,yE,zH,zG,zh]at *;omega
theorem AS (l:LQ)(y:Int×Int):dX (l++[y])=dX l++[y.1,Brm.after y.2]:=by simp[dX]
def ir (C:List Int)(w:World)(e:Ending)(w':World):Prop:=∃(L:List Int) (g c:Nat),e=.returned (Vs g L.length c)/\L.length<=c/\L.Pairwise (λx y=>x<y)/\(∀x∈L,0<=x/\x<=1114111)/\(∀x,x∈L↔x<=1114111/\x∈C)/\w.heap.size<=g/\eP w' g L/\Below w.heap.size w w'
theorem ir.len (h:L.Pairwise (λx y=>x<y))(hm:∀x,x∈L↔x<=1114111/\x∈C):L.length<=C.length:=ua h (λx a=>((hm x).1 a).2)
structure NodeG (w:World)(x:Nat)(l:List (Int×Int))(Cp:List Int):Prop where
 set:∃la lc,w.cell? (aD x 1)=some (.slice la l.length lc)/\Rd w la l
 rng:∀y∈l,0<=y.1/\y.1<=1114111/\0<=y.2/\y.2<=1114111
 parts:∃pv,w.cell? (aD x 2)=some pv/\(∃a n c,pv=.slice a n c)/\∀W,Below w.heap.size w W->Calls prog 42 #[pv] W (ir Cp W)
 lt:x<w.heap.size
def fK (d:List (Int×Int)×List Int):List Int:=dX d.1++d.2
def UJ (L C:List Int):Prop:=∀x,x<=1114111->(x∈L↔x∈C)
def xh (w:World)(S:Nat)(C:List Int)(ov:Value)(wr:World):Prop:=∃L:List Int,wr.ownsRow S 3 1 ov L.length (bj L)/\0<L.length/\L.length<=C.length/\(∀x∈L,0<=x/\x<=1114112)/\UJ L C/\Below S w wr
theorem xh.below {wr:World}{S:Nat}{ov:Value}(h:xh w S C ov wr)(k:Bw wr w')(hS:S<=wr.heap.size):xh w S C ov w':=by
 obtain⟨L,a,d,e,b,f,c⟩:=h;exact⟨L,PC a k,d,e,b,f,c.trans (k.mono hS)⟩
theorem MZ {L1:LZ}(hp:L1.Perm L)(hs:L1.Pairwise (λx y=>x<=y))(hr:∀x∈L,0<=x/\x<=1114112)(he:UJ L C):((Lib.compact L1).filter λx=>!decide (1114111<x)).Pairwise (λx y=>x<y)/\(∀x∈(Lib.compact L1).filter λx=>!decide (1114111<x),0<=x/\x<=1114111)/\∀x,x∈(Lib.compact L1).filter (λx=>!decide (1114111<x))↔x<=1114111/\x∈C:=by
 have c:∀x,x∈(Lib.compact L1).filter (λx=>!decide (1114111<x))↔x∈L/\x<=1114111:=λx=>by
  rw[List.mem_filter,AR,hp.mem_iff];simp
 refine⟨(BS hs).filter _,λx d=>?_,λx=>?_⟩
 ·obtain⟨a,b⟩:=(c x).1 d;exact⟨(hr x a).1,b⟩
 ·rw[c];constructor
  ·rintro⟨a,b⟩;exact⟨b,(he x b).1 a⟩
  ·rintro⟨a,b⟩;exact⟨(he x a).2 b,a⟩
set_option maxHeartbeats 4000000
set_option maxRecDepth 100000
theorem ro (a:OA)(c:Nat)(xs:List Nat)(D:List (List (Int×Int)×List Int))(w:World)(hA:sO w a xs)(hN:∀(i x:Nat),xs[i]?=some x->∃d:List (Int×Int)×List Int,D[i]?=some d/\NodeG w x d.1 d.2)(hl:xs.length=D.length)(hx9:xs.length<=100000)(hK:(0::D.flatMap fK).length<=100000):Calls prog 42 #[.slice a xs.length c] w (ir (0::D.flatMap fK) w):=by
 have f3:∀i,(0::(D.take i).flatMap fK).length<=100000:=λi=>by
  have e:D.flatMap fK=(D.take i).flatMap fK++(D.drop i).flatMap fK:=by rw[<-List.flatMap_append,zj]
  rw[e]at hK;simp only[zG,zH]at hK ⊢;omega
 have f9:=aa f3;have i9:=aa hl;clear hl;obtain⟨i0,hi,g2,e4,f6⟩:=zz jo;obtain⟨W0,a6,d5,-,-⟩:=dS (rfl:w.heap.size=_) [.int .i64 0] 3;replace d5:Below _ _ W0:=d5;have g0:xh w w.heap.size [0] (.slice (some ⟨w.heap.size,0,none⟩) 1 1) W0:=by
  rw[<-a6];exact⟨[0],World.ownsRow_lit w #[.int .i64 0] 1 (zA _) (by unfold maxLen;omega) rfl,by simp,by simp,by simp,λx _=>Iff.rfl,(zE _ _).alloc (zA _) _⟩
 have l2:W0.heap.size=w.heap.size+1:=by rw[<-a6];simp
 have HA:=aa hA;have HN:=aa hN;have g7:=aa a6;have k8:=aa d5;have h7:=aa g0;clear hA hN a6 d5 g0 f3 hK;go_enter func42,ntmps42;go_wp2_with fail;rw[g7.out];generalize hS:w.heap.size=S at *
 go_loopg [3,11] xs.length (λj ov iv wr=>∃i:Nat,iv=.int .i64 (i:Int)/\i<=xs.length/\xs.length-i<=j/\xh w S (0::(D.take i).flatMap fK) ov wr/\S<wr.heap.size)
 case atStart=>exact⟨0,rfl,zW _,by omega,by simpa using h7.out,by omega⟩
 case round=>
  obtain⟨i,rfl,l1,hj,G,h3⟩:=hrel;have k0:(0:Int)<=(i:Int):=zK _;have Q:Below S w wr:=by obtain⟨L,_,_,_,_,_,h5⟩:=G;exact h5
  have a3:Below w.heap.size w wr:=by rw[hS];exact Q
  by_cases f8:i<xs.length
  ·have k1:(i:Int)<(xs.length:Int):=by omega
   obtain⟨x,hx⟩:∃x,xs[i]?=some x:=⟨_,zB f8⟩;obtain⟨b,k2,rfl,hb,k9⟩:=(HA.out.below a3) i x hx;obtain⟨d,hd,f⟩:=HN.out i x hx;obtain⟨l,Cp⟩:=d;simp only at f;obtain⟨la,lc,f2,e3⟩:=f.set;have a9:=f.rng;have c9:Hid (D.take (i+1)=D.take i++[(l,Cp)]):=dU hd;have d7:=f9.out (i+1);have d8:=d7;rw[c9.out,List.flatMap_append]at d8;simp only[yE,List.flatMap_nil,zx,fK,zG,zH,kw]at d8;generalize hCI:(D.take i).flatMap fK=CI at *;have e2:=aa hCI;have k7:=(a3.cell (p:=⟨x,1,none⟩) f.lt).trans f2;have k3:x<wr.heap.size:=zF f.lt a3.size;have F:=aa f;have d9:=aa G;have i1:=aa e3;have d6:=aa a9;have j7:b<wr.heap.size:=hb;clear hx f G e3 a9 Q a3 f2 hd d7 hCI;go_wp2_with fail
   go_loopg [3,20] l.length (λj ov qv wr=>∃q:Nat,qv=.int .i64 (q:Int)/\q<=l.length/\l.length-q<=j/\xh w S ((0::CI)++dX (l.take q)) ov wr/\S<wr.heap.size)
   case atStart=>exact⟨0,rfl,zW _,by omega,by simpa [dX]using d9.out,h3⟩
   case round=>
    obtain⟨q,rfl,l0,j5,t,B⟩:=hrel;have q0:(0:Int)<=(q:Int):=zK _;have o:Below S w wr:=by obtain⟨L,_,_,_,_,_,h5⟩:=t;exact h5
    have s:Below w.heap.size w wr:=by rw[hS];exact o
    by_cases H:q<l.length
    ·have q1:(q:Int)<(l.length:Int):=by omega
     obtain⟨b2,j2,rfl,c7,A,h2⟩:=(i1.out.below s) q l[q] (zB H);have d0:=d6.out l[q] (xE H);have b6:Hid (l.take (q+1)=l.take q++[l[q]]):=dU (zB H);generalize l[q]=y at A h2 d0 b6;obtain⟨O,K⟩:=y;simp only at A h2 d0;obtain⟨r1,r2,r3,r4⟩:=d0;have i2:=aa (Hj r3 r4);obtain⟨L,h,b5,n,E,r,_⟩:=t;have P:=aa r;have e5:L.length<=100000:=by
      have e8:(l.take q).length<=l.length:=by simp;omega
      simp only[zH,zG,kw]at n;omega
     have b4:=aa n;clear r n;have T:=aa E;have I:=aa h;have g6:=aa o;have hR:=ag.new wr [.int .i64 O,.int .i64 K] 92;have J:=aa hR;have U:=h.alloc (.cells #[.int .i64 O,.int .i64 K] 92);have f7:Hid (Below S w (wr.alloc (.cells #[.int .i64 O,.int .i64 K] 92))):=o.alloc (yJ B) _;have h9:Hid (S<=wr.heap.size):=yJ B;clear E h o s B hR;go_wp2_with fail;generalize hR:wr.heap.size=R at *;obtain⟨W1,c8⟩:∃W1,wr.alloc (.cells #[.int .i64 O,.int .i64 K] 92)=W1:=⟨_,rfl⟩;rw[c8]at J U f7;have e0:W1.cell? ⟨R,0,none⟩=some (.int .i64 O):=J.out.cell 0;have e1:W1.cell? ⟨R,1,none⟩=some (.int .i64 K):=J.out.cell 1;rw[c8];refine yW (S:=λw':World=>w'.cell? ⟨R,0,none⟩=some (.int .i64 O)/\w'.cell? ⟨R,1,none⟩=some (.int .i64 K)) (by kernel_rfl) ⟨e0,e1⟩ (λhHeld=>?_);refine tk 0 ?_;simp only[tS];refine tk 1 ?_;simp only[tS];refine tk 2 ?_;simp only[tS];refine tk 3 ?_;simp only[tS];refine tk 4 ?_;simp only[tS];refine di 5 (λKc hK=>?_);go_simp;refine (mi K _ r3 r4).mono ?_;rintro e w5 ⟨rfl,f4⟩;have g8:=f4.symm;subst g8;clear f4;go_wp2_with fail;refine hK.out _ _ ⟨e0,e1⟩ (λhHeld=>?_);clear hK Kc
     try simp only[tS]
     refine di 6 (λKc hK=>?_);go_simp;refine hK.out _ _ ⟨(J.out.alloc _).cell 0,(J.out.alloc _).cell 1⟩ (λhHeld=>?_);clear hK Kc
     try simp only[tS]
     refine di 7 (λKc hK=>?_);rw[zX (by rfl)];have j0:W1.heap.size=R+1:=by rw[<-c8];simp[hR]
     have j6:=h9.out;refine wp_append_own _ _ _ 61 rfl S 3 i0 (.int .i64 0) 1 8 underlying61 hi g2 e4 f6 rfl (by decide) _ _ _ rfl (U.alloc _) ⟨W1.heap.size,0,none⟩ 2 2 [.int .i64 O,.int .i64 (Brm.after K)] rfl rfl (Mr W1 _ _) (et _ _) (by unfold maxLen;omega) (by omega) (by simp;omega) ?_;intro v' w3 v m _;have a8:∀k,R<=k->some k≠Value.ownBlock u3:=λk hk e=>by have:=(I.out.lt k e.symm).2;omega
     have a7:=((J.out.alloc (.cells #[.int .i64 O,.int .i64 (Brm.after K)] 3)).drew).grown m (a8 R (zA _));have M:Below S w w3:=((f7.out.alloc (by omega) (.cells #[.int .i64 O,.int .i64 (Brm.after K)] 3)).drew).grown m (by simp;omega) (λk e=>(I.out.lt k e).1);have g4:=aa M;have f1:S<w3.heap.size:=by have:=a7.lt;omega
     have c3:Hid (xh w S ((0::CI)++dX (l.take (q+1))) v' w3):=by
      refine⟨L++[O,Brm.after K],?_,by simp,?_,?_,?_,M⟩
      ·have e9:bj (L++[O,Brm.after K])=bj L++[.int .i64 O,.int .i64 (Brm.after K)]:=by simp[bj]
       rw[e9];simpa using v
      ·have e8:=b4.out;rw[b6.out,AS];simp only[zH,zG,zh]at e8 ⊢;omega
      ·intro y C;rcases zM.1 C with C|C
       ·exact T.out y C
       ·simp only[zO,xD,or_false]at C;rcases C with rfl|rfl
        ·omega
        ·exact i2.out
      ·intro y C;rw[b6.out,AS,<-zc,zM,zM,P.out y C]
     refine hK.out _ _ ⟨a7.cell 0,a7.cell 1⟩ (λhHeld=>?_);clear hK Kc m v M a7 a8
     try simp only[tS]
     refine tk 8 ?_;simp only[tS];refine yV (by kernel_rfl) ?_ _;go_wp2_with fail
     go_roundg (gk-1)
     case measure=>omega
     case rel=>exact⟨q+1,by go_num,by omega,by omega,c3.out,f1⟩
    ·have d1:decide ((q:Int)<(l.length:Int))=false:=zI (by omega);have d2:decide (q<l.length)=false:=zI H;obtain⟨pv,f0,⟨pa,pn,pc,rfl⟩,a1⟩:=F.out.parts;have a5:=(s.cell (p:=⟨x,2,none⟩) F.out.lt).trans f0;have j3:x<wr.heap.size:=zF F.out.lt s.size;have b1:=aa (a1 wr s);have W:=aa t;clear f0 a1 t o s;go_wp2_with fail;refine b1.out.mono ?_;rintro e w5 ⟨L5,g5,c5,rfl,k5,g1,e6,b3,j8,Y,c6⟩;have i7:=ir.len g1 b3;obtain⟨L,h,b5,n,E,r,a0⟩:=W.out.below c6 (yJ B);have i4:q=l.length:=by omega
     rw[i4,zQ]at n r;simp only[zH,zG,kw]at n;have h4:=aa b3;have P:=aa r;have b4:=aa n;have e5:L.length<=100000:=by omega
     have j4:L5.length<=100000:=by omega
     clear b3 r n g1;have b8:S<w5.heap.size:=zF B c6.size;have T:=aa E;have I:=aa h;have c1:=aa a0;have i3:=aa e6;have a4:∀j u,(bj L5)[j]?=some u->w5.cell? ((⟨g5,0,none⟩:Addr).add j)=some u:=by
      intro j u N;rw[Addr.add_mid,zf];unfold bj at N;rw[zg]at N;cases hv:L5[j]? with
      |none=>rw[hv]at N;cases N
      |some z=>rw[hv]at N;cases N;exact Y.cell hv
     have g3:∀u∈bj L5,u.oneCell'=true:=by
      intro u hu;unfold bj at hu;obtain⟨z,_,rfl⟩:=yH.1 hu;rfl
     clear E a0 e6 Y c6 W;go_wp2_with (at_builtin;refine yD _ rfl _ _ 61 rfl S 3 i0 (.int .i64 0) 1 8 underlying61 hi g2 e4 f6 rfl (by decide) _ _ _ rfl h ⟨g5,0,none⟩ L5.length c5 (bj L5) rfl (by simp[bj]) a4 g3 (by unfold maxLen;omega) (by omega) (yJ b8) ?_;intro v' w6 v m _);have g9:Below S w w6:=c1.out.grown m (yJ b8) (λk e=>(I.out.lt k e).1);have h0:S<w6.heap.size:=zF b8 m.size
     go_roundg (xs.length-(i+1))
     case measure=>omega
     case rel=>
      refine⟨i+1,by go_num,by omega,zA _,⟨L++L5,?_,by simp;omega,?_,?_,?_,g9⟩,h0⟩
      ·have e9:bj (L++L5)=bj L++bj L5:=by simp[bj]
       rw[e9,zH];exact v
      ·have e8:=b4.out;rw[c9.out,List.flatMap_append,e2.out];simp only[yE,List.flatMap_nil,zx,fK,zG,zH,kw];omega
      ·intro y C;rcases zM.1 C with C|C
       ·exact T.out y C
       ·have:=i3.out y C;omega
      ·intro y C;rw[c9.out,List.flatMap_append,e2.out,zM,P.out y C,h4.out y];simp only[yE,List.flatMap_nil,zx,fK,zO,zM];constructor
       ·rintro (((A|A)|A)|A)
        ·exact .inl A
        ·exact .inr (.inl A)
        ·exact .inr (.inr (.inl A))
        ·exact .inr (.inr (.inr A.2))
       ·rintro (A|A|A|A)
        ·exact .inl (.inl (.inl A))
        ·exact .inl (.inl (.inr A))
        ·exact .inl (.inr A)
        ·exact .inr ⟨C,A⟩
  ·have d1:decide ((i:Int)<(xs.length:Int))=false:=zI (by omega);have d2:decide (i<xs.length)=false:=zI f8;have i5:i=xs.length:=by omega
   subst i5;obtain⟨L,h,b5,n,E,r,a0⟩:=G;have b9:=f9.out xs.length;rw[yF (by have:=i9.out;omega)]at n r b9;have e5:L.length<=100000:=zJ n b9;have P:=aa r;clear r n b9;obtain⟨g,cc,rfl,j9,c4,b0⟩:=aah h b5;have T:=aa E;have d3:=aa b0;have c1:=aa a0;clear h E b0 a0 Q a3;go_wp2_with fail;refine (Qm cc d3.out (by omega)).mono ?_;rintro e w1 ⟨rfl,L1,a5,d4,X,e7⟩;have i8:=aa d4;have f5:=aa a5.length_eq;have h6:=aa a5;have c0:=aa X;have i6:=aa e7;clear a5 X e7 d4;go_wp2_with fail;rw[<-f5.out];have k6:=f5.out;refine (GG cc c0.out (by omega) (by omega)).mono ?_;rintro e w2 ⟨rfl,h8,a2,c7⟩;have c2:=aa a2;have g6:=aa c7;clear a2 c7;go_wp2_with fail;have V:=aa (MZ h6.out i8.out T.out P.out);have j1:=aa h8;generalize hL2:Lib.compact L1=L2 at *;refine (IN cc c2.out (by omega) (by omega)).mono ?_;rintro e w3 ⟨rfl,k4,Z,M⟩;have b7:=aa Z;have g4:=aa M;clear Z M;go_wp2_with fail;go_ret;refine⟨_,g,cc,rfl,by omega,V.out.1,V.out.2.1,V.out.2.2,by omega,b7.out,?_⟩;rw[hS];exact c1.out.trans ((i6.out.mono c4).trans ((g6.out.mono c4).trans (g4.out.mono c4)))
