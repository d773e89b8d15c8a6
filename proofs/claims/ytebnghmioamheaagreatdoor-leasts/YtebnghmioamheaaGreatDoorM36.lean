import Derived.Test.YtebnghmioamheaaGreatDoorM35
import Derived.Test.YtebnghmioamheaaGreatDoorM32
set_option linter.all false
namespace Go.Proofs.YtebnghmioamheaaGreatDoor
open Go.Shelf Go.RowKit Tryz
variable {w w':World}{L C:LZ}{g:Nat}
def sO (w:World)(a:Option Addr)(xs:List Nat):Prop:=∀j x,xs[j]?=some x->∃b off,a=some (aD b off)/\b<w.heap.size/\w.cell? ⟨b,off+j,none⟩=some (Vp x)
theorem sO.below {a:OA}{xs:List Nat}(h:sO w a xs)(k:Bw w w'):sO w' a xs:=by
 intro j x e;obtain⟨b,c,rfl,d,f⟩:=h j x e;exact⟨b,c,rfl,zF d k.size,(k.cell (p:=⟨b,_,none⟩) d).trans f⟩
def Vr (K:Nat)(w:World)(e:Ending)(w':World):Prop:=∃(L:List Int) (g c:Nat),e=.returned (Vs g L.length c)/\L.length<=c/\L.length<=K/\(∀x∈L,0<=x/\x<=1114111)/\w.heap.size<=g/\eP w' g L/\Below w.heap.size w w'
structure NodeF (w:World)(x:Nat)(K:Nat):Prop where
 set:∃la lc l,w.cell? (aD x 1)=some (.slice la l.length lc)/\Rd w la l/\l.length<=10/\∀y∈l,0<=y.1/\y.1<=1114111/\0<=y.2/\y.2<=1114111
 parts:∃pv,w.cell? (aD x 2)=some pv/\(∃a n c,pv=.slice a n c)/\∀W,Below w.heap.size w W->Calls prog 42 #[pv] W (Vr K W)
 lt:x<w.heap.size
theorem Hj {r:Int}(h0:0<=r)(h1:r<=1114111):0<=Brm.after r/\Brm.after r<=1114112:=by unfold Brm.after;split<;>omega
theorem aah {B n:Nat}{v:Value}(h:w.ownsRow B 3 1 v n (bj L))(hn:0<n):∃g c,v=Vs g L.length c/\L.length<=c/\B<=g/\eP w g L:=by
 have e:=h.1;simp[bj]at e;have a:=h;rcases h.2 with⟨_,l⟩|⟨g,d,k,rfl,f,m,r⟩
 ·omega
 ·refine⟨g,d,by rw[e],by rw[e];exact r.1,f,⟨λj i=>?_,(a.lt g rfl).2⟩⟩;have b:j<L.length:=by simpa using i
  refine⟨?_,a.frozenAt _⟩;rw[zf,a.cellAt j (by omega)];simp[bj,zg,zB b,getElem!_pos L.toArray j (by simpa using b)]
theorem PC {B n:Nat}{v:Value}{xs:LV}(h:w.ownsRow B 3 1 v n xs)(k:Bw w w'):w'.ownsRow B 3 1 v n xs:=by
 have a:=h.lt;obtain⟨e,b⟩:=h;refine⟨e,?_⟩;rcases b with b|⟨g,c,d,rfl,i,f,r⟩
 ·exact .inl b
 ·exact .inr ⟨g,c,d,rfl,i,(k.block g (a g rfl).2).trans f,r⟩
theorem Mr (w:World)(y1 y2:Int):∀j u,[Vi y1,Vi y2][j]?=some u->(w.alloc (.cells #[Vi y1,Vi y2] 3)).drew.cell? (((aD w.heap.size 0):Addr).add j)=some u:=by
 intro j u a
 match j,a with
 |0,a=>simp at a;subst a;simp[Addr.add]
 |1,a=>simp at a;subst a;simp[Addr.add]
def aad (w:World)(S N:Nat)(ov:Value)(wr:World):Prop:=∃L:List Int,wr.ownsRow S 3 1 ov L.length (bj L)/\0<L.length/\L.length<=N/\(∀x∈L,0<=x/\x<=1114112)/\Below S w wr
open Go.Sort
theorem Qm (c:Nat)(h:eP w g L)(hl:L.length<=1000000):Calls prog 65 #[Vs g L.length c] w λe w'=>e=.returned (.tuple #[])/\∃L':List Int,L'.Perm L/\L'.Pairwise (λx y=>x<=y)/\eP w' g L'/\Below g w w':=by
 refine (qI g 0 c L w h.1 h.2 (by omega)).mono ?_;rintro e w' ⟨rfl,n,f,rfl⟩;have d:=List.mergeSort_perm L λx y=>decide (x<=y);have i:=List.pairwise_mergeSort (le:=λx y:Int=>decide (x<=y)) (λa b c j k=>by simp at *;omega) (λa b=>by simp;omega) L;exact⟨rfl,_,d,i.imp (λh=>by simpa using h),Be h d.length_eq f⟩
theorem AR {x:Int}:x∈Lib.compact L↔x∈L:=by
 refine⟨Hg,λh=>?_⟩;obtain⟨j,b,rfl⟩:=List.getElem_of_mem h;unfold Lib.compact Lib.compactUpTo
 induction j using Nat.strongRecOn with
 |ind j ih=>
  have a:L.toArray[j]! = L[j]:=by simp[getElem!_pos,b]
  by_cases c:Lib.keeps L.toArray j=true
  ·exact yH.2 ⟨j,List.mem_filter.2 ⟨List.mem_range.2 b,c⟩,a⟩
  ·have:¬(j=0\/L.toArray[j]!≠L.toArray[j-1]!):=by simpa [Lib.keeps]using c
   have f:j≠0:=λh=>this (.inl h);have d:L.toArray[j]! = L.toArray[j-1]!:=Classical.not_not.1 (λh=>this (.inr h));have e:L.toArray[j-1]! = L[j-1]:=by
    have:j-1<L.length:=by omega
    simp[getElem!_pos,this]
   rw[<-a,d,e];exact ih (j-1) (by omega) (by omega) (xE _)
theorem BS (h:L.Pairwise (λx y=>x<=y)):(Lib.compact L).Pairwise (λx y=>x<y):=by
 unfold Lib.compact Lib.compactUpTo;rw[List.pairwise_map];have p:(List.range L.length).Pairwise (λx y=>x<y):=List.pairwise_lt_range;rw[List.pairwise_filter];refine p.imp_of_mem ?_;intro i j u q r t d;have b:=List.mem_range.1 q;have g:∀k,k<L.length->∃h:k<L.length,L.toArray[k]! = L[k]:=λk n=>⟨n,by simp[getElem!_pos,n]⟩;obtain⟨f,s⟩:=g i (by omega);obtain⟨l,o⟩:=g j b;obtain⟨a,c⟩:=g (j-1) (by omega);have m:L.toArray[j]!≠L.toArray[j-1]!:=by
  have:j=0\/L.toArray[j]!≠L.toArray[j-1]!:=by simpa [Lib.keeps]using d
  rcases this with h|h
  ·omega
  ·exact h
 rw[o,c]at m;rw[s,o];have v:=yX.1 h (j-1) j a l (by omega);by_cases e:i=j-1
 ·subst e;omega
 ·have w:=yX.1 h i (j-1) f a (by omega);omega
theorem GG (c:Nat)(h:eP w g L)(hl:L.length<=1000000)(hc:L.length<=c):Calls prog 66 #[Vs g L.length c] w λe w'=>e=.returned (Vs g (Lib.compact L).length c)/\(Lib.compact L).length<=L.length/\eP w' g (Lib.compact L)/\Below g w w':=by
 refine (ou g 0 c L w h.1 (by omega) hc).mono ?_;rintro e w' ⟨rfl,q,rfl⟩;have a:=Lib.compact_length_le L;have b:=Be (q:=q) (L':=Lib.compact L++List.replicate (L.length-(Lib.compact L).length) 0) h (by simp;omega) #[];rw[Ci]at b;exact⟨rfl,a,b.1.pre,b.2⟩
theorem IN (c:Nat)(h:eP w g L)(hl:L.length<=1000000)(hc:L.length<=c):Calls prog 67 #[Vs g L.length c,Vf 68 #[]] w λe w'=>e=.returned (Vs g (L.filter λx=>!decide (1114111<x)).length c)/\(L.filter λx=>!decide (1114111<x)).length<=L.length/\eP w' g (L.filter λx=>!decide (1114111<x))/\Below g w w':=by
 refine (px (Value.int .i64) (λ_=>rfl) (λx=>decide (1114111<x)) 68 #[] (enters_of func68 (by kernel_rfl) rfl) 0 (zeroValue3) g 0 c L.toArray w (λW x _=>Cj x W) (λn f d x _=>Cj x _) h.1 (by simp;omega) (by simpa using hc)).mono ?_;rintro e w' ⟨rfl,q,rfl⟩;have b:=List.length_filter_le (λx=>!decide (1114111<x)) L;have a:=Be (q:=q) (L':=(L.filter λx=>!decide (1114111<x))++List.replicate (L.length-(L.filter λx=>!decide (1114111<x)).length) 0) h (by simp;omega) #[];rw[Ci]at a;exact⟨rfl,b,a.1.pre,a.2⟩
theorem ua:∀{L C:LZ},L.Pairwise (λx y=>x<y)->(∀x∈L,x∈C)->L.length<=C.length
 | [],_,_,_=>zW _
 |a::L,C,h,hm=>by
  obtain⟨g,i⟩:=yg.1 h;have j:=hm a (by simp);have d:=List.perm_cons_erase j;have b:=d.length_eq;have k:=ua (C:=C.erase a) i (λx f=>by
   have c:=d.mem_iff.1 (hm x (by simp[f]));rcases zO.1 c with e|e
   ·have:=g x f;omega
   ·exact e)
  simp only[zG]at b ⊢;omega
def dX (l:List (Int×Int)):List Int:=l.flatMap λy=>[y.1,Brm.after y.2]
theorem kw (l:LQ):(dX l).length=2*l.length:=by
 induction l with
 |nil=>rfl
 |cons x l ih=>simp only[dX,yE,zH,zG,zh]at *;omega
theorem AS (l:LQ)(y:Int×Int):dX (l++[y])=dX l++[y.1,Brm.after y.2]:=by simp[dX]
def ir (C:List Int)(w:World)(e:Ending)(w':World):Prop:=∃(L:List Int) (g c:Nat),e=.returned (Vs g L.length c)/\L.length<=c/\L.Pairwise (λx y=>x<y)/\(∀x∈L,0<=x/\x<=1114111)/\(∀x,x∈L↔x<=1114111/\x∈C)/\w.heap.size<=g/\eP w' g L/\Below w.heap.size w w'
theorem ir.len (h:L.Pairwise (λx y=>x<y))(hm:∀x,x∈L↔x<=1114111/\x∈C):L.length<=C.length:=ua h (λx a=>((hm x).1 a).2)
structure NodeG (w:World)(x:Nat)(l:List (Int×Int))(Cp:List Int):Prop where
 set:∃la lc,w.cell? (aD x 1)=some (.slice la l.length lc)/\Rd w la l
 rng:∀y∈l,0<=y.1/\y.1<=1114111/\0<=y.2/\y.2<=1114111
 parts:∃pv,w.cell? (aD x 2)=some pv/\(∃a n c,pv=.slice a n c)/\∀W,Below w.heap.size w W->Calls prog 42 #[pv] W (ir Cp W)
 lt:x<w.heap.size
def fK (d:List (Int×Int)×List Int):List Int:=dX d.1++d.2
def UJ (L C:List Int):Prop:=∀x,x<=1114111->(x∈L↔x∈C)
def xh (w:World)(S:Nat)(C:List Int)(ov:Value)(wr:World):Prop:=∃L:List Int,wr.ownsRow S 3 1 ov L.length (bj L)/\0<L.length/\L.length<=C.length/\(∀x∈L,0<=x/\x<=1114112)/\UJ L C/\Below S w wr
theorem xh.below {wr:World}{S:Nat}{ov:Value}(h:xh w S C ov wr)(k:Bw wr w')(hS:S<=wr.heap.size):xh w S C ov w':=by
 obtain⟨L,b,c,f,e,d,a⟩:=h;exact⟨L,PC b k,c,f,e,d,a.trans (k.mono hS)⟩
theorem MZ {L1:LZ}(hp:L1.Perm L)(hs:L1.Pairwise (λx y=>x<=y))(hr:∀x∈L,0<=x/\x<=1114112)(he:UJ L C):((Lib.compact L1).filter λx=>!decide (1114111<x)).Pairwise (λx y=>x<y)/\(∀x∈(Lib.compact L1).filter λx=>!decide (1114111<x),0<=x/\x<=1114111)/\∀x,x∈(Lib.compact L1).filter (λx=>!decide (1114111<x))↔x<=1114111/\x∈C:=by
 have c:∀x,x∈(Lib.compact L1).filter (λx=>!decide (1114111<x))↔x∈L/\x<=1114111:=λx=>by
  rw[List.mem_filter,AR,hp.mem_iff];simp
 refine⟨(BS hs).filter _,λx d=>?_,λx=>?_⟩
 ·obtain⟨a,b⟩:=(c x).1 d;exact⟨(hr x a).1,b⟩
 ·rw[c];constructor
  ·rintro⟨a,b⟩;exact⟨b,(he x b).1 a⟩
  ·rintro⟨a,b⟩;exact⟨(he x a).2 b,a⟩
set_option maxHeartbeats 4000000
set_option maxRecDepth 100000
theorem ro (a:OA)(c:Nat)(xs:List Nat)(D:List (List (Int×Int)×List Int))(w:World)(hA:sO w a xs)(hN:∀(i x:Nat),xs[i]?=some x->∃d:List (Int×Int)×List Int,D[i]?=some d/\NodeG w x d.1 d.2)(hl:xs.length=D.length)(hx9:xs.length<=100000)(hK:(0::D.flatMap fK).length<=100000):Calls prog 42 #[.slice a xs.length c] w (ir (0::D.flatMap fK) w):=by
 have f4:∀i,(0::(D.take i).flatMap fK).length<=100000:=λi=>by
  have e:D.flatMap fK=(D.take i).flatMap fK++(D.drop i).flatMap fK:=by rw[<-List.flatMap_append,zj]
  rw[e]at hK;simp only[zG,zH]at hK ⊢;omega
 have e2:=aa f4;have i1:=aa hl;clear hl;obtain⟨i0,hi,e4,g2,d5⟩:=zz jo;obtain⟨W0,a5,g4,-,-⟩:=dS (rfl:w.heap.size=_) [.int .i64 0] 3;have f1:xh w w.heap.size [0] (.slice (some ⟨w.heap.size,0,none⟩) 1 1) W0:=by
  rw[<-a5];exact⟨[0],World.ownsRow_lit w #[.int .i64 0] 1 (zA _) (by unfold maxLen;omega) rfl,by simp,by simp,by simp,λx _=>Iff.rfl,(zE _ _).alloc (zA _) _⟩
 have l2:W0.heap.size=w.heap.size+1:=by rw[<-a5];simp
 have HA:=aa hA;have HN:=aa hN;have i2:=aa a5;have j6:=aa g4;have i5:=aa f1;clear hA hN a5 g4 f1 f4 hK;go_enter func42,ntmps42;go_wp2_with fail;rw[i2.out];generalize hS:w.heap.size=S at *
 go_loopg [3,11] xs.length (λj ov iv wr=>∃i:Nat,iv=.int .i64 (i:Int)/\i<=xs.length/\xs.length-i<=j/\xh w S (0::(D.take i).flatMap fK) ov wr/\S<wr.heap.size)
 case atStart=>exact⟨0,rfl,zW _,by omega,by simpa using i5.out,by omega⟩
 case round=>
  obtain⟨i,rfl,k7,hj,H,h4⟩:=hrel;have k0:(0:Int)<=(i:Int):=zK _;have V:Below S w wr:=by obtain⟨L,_,_,_,_,_,h5⟩:=H;exact h5
  have U:Below w.heap.size w wr:=by rw[hS];exact V
  by_cases f9:i<xs.length
  ·have k1:(i:Int)<(xs.length:Int):=by omega
   obtain⟨x,hx⟩:∃x,xs[i]?=some x:=⟨_,zB f9⟩;obtain⟨b,l0,rfl,hb,k6⟩:=(HA.out.below U) i x hx;obtain⟨d,hd,f⟩:=HN.out i x hx;obtain⟨l,Cp⟩:=d;simp only at f;obtain⟨la,lc,d6,g6⟩:=f.set;have a9:=f.rng;have c0:Hid (D.take (i+1)=D.take i++[(l,Cp)]):=dU hd;have f7:=e2.out (i+1);have f0:=f7;rw[c0.out,List.flatMap_append]at f0;simp only[yE,List.flatMap_nil,zx,fK,zG,zH,kw]at f0;generalize hCI:(D.take i).flatMap fK=CI at *;have d4:=aa hCI;have k3:=(U.cell (p:=⟨x,1,none⟩) f.lt).trans d6;have j5:x<wr.heap.size:=zF f.lt U.size;have F:=aa f;have f2:=aa H;have h8:=aa g6;have f6:=aa a9;have k2:b<wr.heap.size:=hb;clear hx f H g6 a9 V U d6 hd f7 hCI;go_wp2_with fail
   go_loopg [3,20] l.length (λj ov qv wr=>∃q:Nat,qv=.int .i64 (q:Int)/\q<=l.length/\l.length-q<=j/\xh w S ((0::CI)++dX (l.take q)) ov wr/\S<wr.heap.size)
   case atStart=>exact⟨0,rfl,zW _,by omega,by simpa [dX]using f2.out,h4⟩
   case round=>
    obtain⟨q,rfl,k8,j9,t,E⟩:=hrel;have q0:(0:Int)<=(q:Int):=zK _;have o:Below S w wr:=by obtain⟨L,_,_,_,_,_,h5⟩:=t;exact h5
    have s:Below w.heap.size w wr:=by rw[hS];exact o
    by_cases G:q<l.length
    ·have q1:(q:Int)<(l.length:Int):=by omega
     obtain⟨b2,j0,rfl,b8,A,h2⟩:=(h8.out.below s) q l[q] (zB G);have b1:=f6.out l[q] (xE G);have c3:Hid (l.take (q+1)=l.take q++[l[q]]):=dU (zB G);generalize l[q]=y at A h2 b1 c3;obtain⟨O,J⟩:=y;simp only at A h2 b1;obtain⟨r1,r2,r3,r4⟩:=b1;have g8:=aa (Hj r3 r4);obtain⟨L,h,d0,n,B,r,_⟩:=t;have Q:=aa r;have g3:L.length<=100000:=by
      have e8:(l.take q).length<=l.length:=by simp;omega
      simp only[zH,zG,kw]at n;omega
     have c7:=aa n;clear r n;have a0:=aa B;have I:=aa h;have g0:=aa o;have hR:=ag.new wr [.int .i64 O,.int .i64 J] 92;have K:=aa hR;have a2:=h.alloc (.cells #[.int .i64 O,.int .i64 J] 92);have e6:Hid (Below S w (wr.alloc (.cells #[.int .i64 O,.int .i64 J] 92))):=o.alloc (yJ E) _;have i7:Hid (S<=wr.heap.size):=yJ E;clear B h o s E hR;go_wp2_with fail;generalize hR:wr.heap.size=R at *;obtain⟨W1,c1⟩:∃W1,wr.alloc (.cells #[.int .i64 O,.int .i64 J] 92)=W1:=⟨_,rfl⟩;rw[c1]at K a2 e6;have e0:W1.cell? ⟨R,0,none⟩=some (.int .i64 O):=K.out.cell 0;have e1:W1.cell? ⟨R,1,none⟩=some (.int .i64 J):=K.out.cell 1;rw[c1];refine yW (S:=λw':World=>w'.cell? ⟨R,0,none⟩=some (.int .i64 O)/\w'.cell? ⟨R,1,none⟩=some (.int .i64 J)) (by kernel_rfl) ⟨e0,e1⟩ (λhHeld=>?_);refine tk 0 ?_;simp only[tS];refine tk 1 ?_;simp only[tS];refine tk 2 ?_;simp only[tS];refine tk 3 ?_;simp only[tS];refine tk 4 ?_;simp only[tS];refine di 5 (λKc hK=>?_);go_simp;refine (mi J _ r3 r4).mono ?_;rintro e w5 ⟨rfl,f5⟩;have h3:=f5.symm;subst h3;clear f5;go_wp2_with fail;refine hK.out _ _ ⟨e0,e1⟩ (λhHeld=>?_);clear hK Kc
     try simp only[tS]
     refine di 6 (λKc hK=>?_);go_simp;refine hK.out _ _ ⟨(K.out.alloc _).cell 0,(K.out.alloc _).cell 1⟩ (λhHeld=>?_);clear hK Kc
     try simp only[tS]
     refine di 7 (λKc hK=>?_);rw[zX (by rfl)];have j4:W1.heap.size=R+1:=by rw[<-c1];simp[hR]
     have k4:=i7.out;refine wp_append_own _ _ _ 61 rfl S 3 i0 (.int .i64 0) 1 8 underlying61 hi e4 g2 d5 rfl (by decide) _ _ _ rfl (a2.alloc _) ⟨W1.heap.size,0,none⟩ 2 2 [.int .i64 O,.int .i64 (Brm.after J)] rfl rfl (Mr W1 _ _) (et _ _) (by unfold maxLen;omega) (by omega) (by simp;omega) ?_;intro v' w3 v m _;have b0:∀k,R<=k->some k≠Value.ownBlock u3:=λk hk e=>by have:=(I.out.lt k e.symm).2;omega
     have a6:=((K.out.alloc (.cells #[.int .i64 O,.int .i64 (Brm.after J)] 3)).drew).grown m (b0 R (zA _));have M:Below S w w3:=((e6.out.alloc (by omega) (.cells #[.int .i64 O,.int .i64 (Brm.after J)] 3)).drew).grown m (by simp;omega) (λk e=>(I.out.lt k e).1);have e5:=aa M;have d7:S<w3.heap.size:=by have:=a6.lt;omega
     have c9:Hid (xh w S ((0::CI)++dX (l.take (q+1))) v' w3):=by
      refine⟨L++[O,Brm.after J],?_,by simp,?_,?_,?_,M⟩
      ·have e9:bj (L++[O,Brm.after J])=bj L++[.int .i64 O,.int .i64 (Brm.after J)]:=by simp[bj]
       rw[e9];simpa using v
      ·have e8:=c7.out;rw[c3.out,AS];simp only[zH,zG,zh]at e8 ⊢;omega
      ·intro y C;rcases zM.1 C with C|C
       ·exact a0.out y C
       ·simp only[zO,xD,or_false]at C;rcases C with rfl|rfl
        ·omega
        ·exact g8.out
      ·intro y C;rw[c3.out,AS,<-zc,zM,zM,Q.out y C]
     refine hK.out _ _ ⟨a6.cell 0,a6.cell 1⟩ (λhHeld=>?_);clear hK Kc m v M a6 b0
     try simp only[tS]
     refine tk 8 ?_;simp only[tS];refine yV (by kernel_rfl) ?_ _;go_wp2_with fail
     go_roundg (gk-1)
     case measure=>omega
     case rel=>exact⟨q+1,by go_num,by omega,by omega,c9.out,d7⟩
    ·have d1:decide ((q:Int)<(l.length:Int))=false:=zI (by omega);have d2:decide (q<l.length)=false:=zI G;obtain⟨pv,g1,⟨pa,pn,pc,rfl⟩,a3⟩:=F.out.parts;have a7:=(s.cell (p:=⟨x,2,none⟩) F.out.lt).trans g1;have j1:x<wr.heap.size:=zF F.out.lt s.size;have b3:=aa (a3 wr s);have P:=aa t;clear g1 a3 t o s;go_wp2_with fail;refine b3.out.mono ?_;rintro e w5 ⟨L5,g5,c5,rfl,k5,f8,d9,b7,j8,T,b4⟩;have h0:=ir.len f8 b7;obtain⟨L,h,d0,n,B,r,a1⟩:=P.out.below b4 (yJ E);have g9:q=l.length:=by omega
     rw[g9,zQ]at n r;simp only[zH,zG,kw]at n;have h9:=aa b7;have Q:=aa r;have c7:=aa n;have g3:L.length<=100000:=by omega
     have j3:L5.length<=100000:=by omega
     clear b7 r n f8;have c8:S<w5.heap.size:=zF E b4.size;have a0:=aa B;have I:=aa h;have b6:=aa a1;have i8:=aa d9;have a4:∀j u,(bj L5)[j]?=some u->w5.cell? ((⟨g5,0,none⟩:Addr).add j)=some u:=by
      intro j u N;rw[Addr.add_mid,zf];unfold bj at N;rw[zg]at N;cases hv:L5[j]? with
      |none=>rw[hv]at N;cases N
      |some z=>rw[hv]at N;cases N;exact T.cell hv
     have e7:∀u∈bj L5,u.oneCell'=true:=by
      intro u hu;unfold bj at hu;obtain⟨z,_,rfl⟩:=yH.1 hu;rfl
     clear B a1 d9 T b4 P;go_wp2_with (at_builtin;refine yD _ rfl _ _ 61 rfl S 3 i0 (.int .i64 0) 1 8 underlying61 hi e4 g2 d5 rfl (by decide) _ _ _ rfl h ⟨g5,0,none⟩ L5.length c5 (bj L5) rfl (by simp[bj]) a4 e7 (by unfold maxLen;omega) (by omega) (yJ c8) ?_;intro v' w6 v m _);have i6:Below S w w6:=b6.out.grown m (yJ c8) (λk e=>(I.out.lt k e).1);have i4:S<w6.heap.size:=zF c8 m.size
     go_roundg (xs.length-(i+1))
     case measure=>omega
     case rel=>
      refine⟨i+1,by go_num,by omega,zA _,⟨L++L5,?_,by simp;omega,?_,?_,?_,i6⟩,i4⟩
      ·have e9:bj (L++L5)=bj L++bj L5:=by simp[bj]
       rw[e9,zH];exact v
      ·have e8:=c7.out;rw[c0.out,List.flatMap_append,d4.out];simp only[yE,List.flatMap_nil,zx,fK,zG,zH,kw];omega
      ·intro y C;rcases zM.1 C with C|C
       ·exact a0.out y C
       ·have:=i8.out y C;omega
      ·intro y C;rw[c0.out,List.flatMap_append,d4.out,zM,Q.out y C,h9.out y];simp only[yE,List.flatMap_nil,zx,fK,zO,zM];constructor
       ·rintro (((A|A)|A)|A)
        ·exact .inl A
        ·exact .inr (.inl A)
        ·exact .inr (.inr (.inl A))
        ·exact .inr (.inr (.inr A.2))
       ·rintro (A|A|A|A)
        ·exact .inl (.inl (.inl A))
        ·exact .inl (.inl (.inr A))
        ·exact .inl (.inr A)
        ·exact .inr ⟨C,A⟩
  ·have d1:decide ((i:Int)<(xs.length:Int))=false:=zI (by omega);have d2:decide (i<xs.length)=false:=zI f9;have i3:i=xs.length:=by omega
   subst i3;obtain⟨L,h,d0,n,B,r,a1⟩:=H;have c2:=e2.out xs.length;rw[yF (by have:=i1.out;omega)]at n r c2;have g3:L.length<=100000:=zJ n c2;have Q:=aa r;clear r n c2;obtain⟨g,cc,rfl,j7,b5,a8⟩:=aah h d0;have a0:=aa B;have d3:=aa a8;have b6:=aa a1;clear h B a8 a1 V U;go_wp2_with fail;refine (Qm cc d3.out (by omega)).mono ?_;rintro e w1 ⟨rfl,L1,a7,e3,Y,d8⟩;have i9:=aa e3;have f3:=aa a7.length_eq;have h6:=aa a7;have b9:=aa Y;have g7:=aa d8;clear a7 Y d8 e3;go_wp2_with fail;rw[<-f3.out];have l1:=f3.out;refine (GG cc b9.out (by omega) (by omega)).mono ?_;rintro e w2 ⟨rfl,h7,W,b8⟩;have c6:=aa W;have g0:=aa b8;clear W b8;go_wp2_with fail;have Z:=aa (MZ h6.out i9.out a0.out Q.out);have j2:=aa h7;generalize hL2:Lib.compact L1=L2 at *;refine (IN cc c6.out (by omega) (by omega)).mono ?_;rintro e w3 ⟨rfl,k9,X,M⟩;have c4:=aa X;have e5:=aa M;clear X M;go_wp2_with fail;go_ret;refine⟨_,g,cc,rfl,by omega,Z.out.1,Z.out.2.1,Z.out.2.2,by omega,c4.out,?_⟩;rw[hS];exact b6.out.trans ((g7.out.mono b5).trans ((g0.out.mono b5).trans (e5.out.mono b5)))
