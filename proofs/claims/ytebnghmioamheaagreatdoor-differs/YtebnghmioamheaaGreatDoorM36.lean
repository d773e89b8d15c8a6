import Derived.Test.YtebnghmioamheaaGreatDoorM35
import Derived.Test.YtebnghmioamheaaGreatDoorM32
set_option linter.all false
namespace Go.Proofs.YtebnghmioamheaaGreatDoor
open Go.Shelf Go.RowKit Tryz
variable {w w':World}{L C:LZ}{g:Nat}
def sO (w:World)(a:Option Addr)(xs:List Nat):Prop:=∀j x,xs[j]?=some x->∃b off,a=some (aD b off)/\b<w.heap.size/\w.cell? ⟨b,off+j,none⟩=some (Vp x)
theorem sO.below {a:OA}{xs:List Nat}(h:sO w a xs)(k:Bw w w'):sO w' a xs:=by
 intro j x f;obtain⟨b,c,rfl,d,e⟩:=h j x f;exact⟨b,c,rfl,zF d k.size,(k.cell (p:=⟨b,_,none⟩) d).trans e⟩
def Vr (K:Nat)(w:World)(e:Ending)(w':World):Prop:=∃(L:List Int) (g c:Nat),e=.returned (Vs g L.length c)/\L.length<=c/\L.length<=K/\(∀x∈L,0<=x/\x<=1114111)/\w.heap.size<=g/\eP w' g L/\Bw w w'
structure NodeF (w:World)(x:Nat)(K:Nat):Prop where
 set:∃la lc l,w.cell? (aD x 1)=some (.slice la l.length lc)/\Rd w la l/\l.length<=10/\∀y∈l,0<=y.1/\y.1<=1114111/\0<=y.2/\y.2<=1114111
 parts:∃pv,w.cell? (aD x 2)=some pv/\(∃a n c,pv=.slice a n c)/\∀W,Bw w W->Calls prog 42 #[pv] W (Vr K W)
 lt:x<w.heap.size
theorem Hj {r:Int}(h0:0<=r)(h1:r<=1114111):0<=Brm.after r/\Brm.after r<=1114112:=by unfold Brm.after;split<;>omega
theorem aah {B n:Nat}{v:Value}(h:w.ownsRow B 3 1 v n (bj L))(hn:0<n):∃g c,v=Vs g L.length c/\L.length<=c/\B<=g/\eP w g L:=by
 have e:=h.1;simp[bj]at e;have a:=h;rcases h.2 with⟨_,m⟩|⟨g,d,i,rfl,k,l,r⟩
 ·omega
 ·refine⟨g,d,by rw[e],by rw[e];exact r.1,k,⟨λj f=>?_,(a.lt g rfl).2⟩⟩;have b:j<L.length:=by simpa using f
  refine⟨?_,a.frozenAt _⟩;rw[zf,a.cellAt j (by omega)];simp[bj,zg,zB b,getElem!_pos L.toArray j (by simpa using b)]
theorem PC {B n:Nat}{v:Value}{xs:LV}(h:w.ownsRow B 3 1 v n xs)(k:Bw w w'):w'.ownsRow B 3 1 v n xs:=by
 have b:=h.lt;obtain⟨e,a⟩:=h;refine⟨e,?_⟩;rcases a with a|⟨g,c,d,rfl,f,i,r⟩
 ·exact .inl a
 ·exact .inr ⟨g,c,d,rfl,f,(k.block g (b g rfl).2).trans i,r⟩
theorem Mr (w:World)(y1 y2:Int):∀j u,[Vi y1,Vi y2][j]?=some u->(w.alloc (.cells #[Vi y1,Vi y2] 3)).drew.cell? (((aD w.heap.size 0):Addr).add j)=some u:=by
 intro j u a
 match j,a with
 |0,a=>simp at a;subst a;simp[Addr.add]
 |1,a=>simp at a;subst a;simp[Addr.add]
def aad (w:World)(S N:Nat)(ov:Value)(wr:World):Prop:=∃L:List Int,wr.ownsRow S 3 1 ov L.length (bj L)/\0<L.length/\L.length<=N/\(∀x∈L,0<=x/\x<=1114112)/\Below S w wr
open Go.Sort
theorem Qm (c:Nat)(h:eP w g L)(hl:L.length<=1000000):Calls prog 65 #[Vs g L.length c] w λe w'=>e=.returned (.tuple #[])/\∃L':List Int,L'.Perm L/\L'.Pairwise (λx y=>x<=y)/\eP w' g L'/\Below g w w':=by
 refine (qI g 0 c L w h.1 h.2 (by omega)).mono ?_;rintro e w' ⟨rfl,n,i,rfl⟩;have d:=List.mergeSort_perm L λx y=>decide (x<=y);have f:=List.pairwise_mergeSort (le:=λx y:Int=>decide (x<=y)) (λa b c k j=>by simp at *;omega) (λa b=>by simp;omega) L;exact⟨rfl,_,d,f.imp (λh=>by simpa using h),Be h d.length_eq i⟩
theorem AR {x:Int}:x∈Lib.compact L↔x∈L:=by
 refine⟨Hg,λh=>?_⟩;obtain⟨j,a,rfl⟩:=List.getElem_of_mem h;unfold Lib.compact Lib.compactUpTo
 induction j using Nat.strongRecOn with
 |ind j ih=>
  have b:L.toArray[j]! = L[j]:=by simp[getElem!_pos,a]
  by_cases c:Lib.keeps L.toArray j=true
  ·exact yH.2 ⟨j,List.mem_filter.2 ⟨List.mem_range.2 a,c⟩,b⟩
  ·have:¬(j=0\/L.toArray[j]!≠L.toArray[j-1]!):=by simpa [Lib.keeps]using c
   have f:j≠0:=λh=>this (.inl h);have d:L.toArray[j]! = L.toArray[j-1]!:=Classical.not_not.1 (λh=>this (.inr h));have e:L.toArray[j-1]! = L[j-1]:=by
    have:j-1<L.length:=by omega
    simp[getElem!_pos,this]
   rw[<-b,d,e];exact ih (j-1) (by omega) (by omega) (xE _)
theorem BS (h:L.Pairwise (λx y=>x<=y)):(Lib.compact L).Pairwise (λx y=>x<y):=by
 unfold Lib.compact Lib.compactUpTo;rw[List.pairwise_map];have t:(List.range L.length).Pairwise (λx y=>x<y):=List.pairwise_lt_range;rw[List.pairwise_filter];refine t.imp_of_mem ?_;intro i j w s r q l;have c:=List.mem_range.1 s;have g:∀k,k<L.length->∃h:k<L.length,L.toArray[k]! = L[k]:=λk n=>⟨n,by simp[getElem!_pos,n]⟩;obtain⟨m,p⟩:=g i (by omega);obtain⟨b,o⟩:=g j c;obtain⟨a,f⟩:=g (j-1) (by omega);have d:L.toArray[j]!≠L.toArray[j-1]!:=by
  have:j=0\/L.toArray[j]!≠L.toArray[j-1]!:=by simpa [Lib.keeps]using l
  rcases this with h|h
  ·omega
  ·exact h
 rw[o,f]at d;rw[p,o];have u:=yX.1 h (j-1) j a b (by omega);by_cases e:i=j-1
 ·subst e;omega
 ·have v:=yX.1 h i (j-1) m a (by omega);omega
theorem GG (c:Nat)(h:eP w g L)(hl:L.length<=1000000)(hc:L.length<=c):Calls prog 66 #[Vs g L.length c] w λe w'=>e=.returned (Vs g (Lib.compact L).length c)/\(Lib.compact L).length<=L.length/\eP w' g (Lib.compact L)/\Below g w w':=by
 refine (ou g 0 c L w h.1 (by omega) hc).mono ?_;rintro e w' ⟨rfl,q,rfl⟩;have b:=Lib.compact_length_le L;have a:=Be (q:=q) (L':=Lib.compact L++List.replicate (L.length-(Lib.compact L).length) 0) h (by simp;omega) #[];rw[Ci]at a;exact⟨rfl,b,a.1.pre,a.2⟩
theorem IN (c:Nat)(h:eP w g L)(hl:L.length<=1000000)(hc:L.length<=c):Calls prog 67 #[Vs g L.length c,Vf 68 #[]] w λe w'=>e=.returned (Vs g (L.filter λx=>!decide (1114111<x)).length c)/\(L.filter λx=>!decide (1114111<x)).length<=L.length/\eP w' g (L.filter λx=>!decide (1114111<x))/\Below g w w':=by
 refine (px (Value.int .i64) (λ_=>rfl) (λx=>decide (1114111<x)) 68 #[] (enters_of func68 (by kernel_rfl) rfl) 0 (zeroValue3) g 0 c L.toArray w (λW x _=>Cj x W) (λn d f x _=>Cj x _) h.1 (by simp;omega) (by simpa using hc)).mono ?_;rintro e w' ⟨rfl,q,rfl⟩;have b:=List.length_filter_le (λx=>!decide (1114111<x)) L;have a:=Be (q:=q) (L':=(L.filter λx=>!decide (1114111<x))++List.replicate (L.length-(L.filter λx=>!decide (1114111<x)).length) 0) h (by simp;omega) #[];rw[Ci]at a;exact⟨rfl,b,a.1.pre,a.2⟩
theorem ua:∀{L C:LZ},L.Pairwise (λx y=>x<y)->(∀x∈L,x∈C)->L.length<=C.length
 | [],_,_,_=>zW _
 |a::L,C,h,hm=>by
  obtain⟨j,i⟩:=yg.1 h;have g:=hm a (by simp);have d:=List.perm_cons_erase g;have b:=d.length_eq;have k:=ua (C:=C.erase a) i (λx f=>by
   have c:=d.mem_iff.1 (hm x (by simp[f]));rcases zO.1 c with e|e
   ·have:=j x f;omega
   ·exact e)
  simp only[zG]at b ⊢;omega
def dX (l:List (Int×Int)):List Int:=l.flatMap λy=>[y.1,Brm.after y.2]
theorem kw (l:LQ):(dX l).length=2*l.length:=by
 induction l with
 |nil=>rfl
 |cons x l ih=>simp only[dX,yE,zH,zG,zh]at *;omega
theorem AS (l:LQ)(y:Int×Int):dX (l++[y])=dX l++[y.1,Brm.after y.2]:=by simp[dX]
def ir (C:List Int)(w:World)(e:Ending)(w':World):Prop:=∃(L:List Int) (g c:Nat),e=.returned (Vs g L.length c)/\L.length<=c/\L.Pairwise (λx y=>x<y)/\(∀x∈L,0<=x/\x<=1114111)/\(∀x,x∈L↔x<=1114111/\x∈C)/\w.heap.size<=g/\eP w' g L/\Bw w w'
theorem ir.len (h:L.Pairwise (λx y=>x<y))(hm:∀x,x∈L↔x<=1114111/\x∈C):L.length<=C.length:=ua h (λx a=>((hm x).1 a).2)
structure NodeG (w:World)(x:Nat)(l:List (Int×Int))(Cp:List Int):Prop where
 set:∃la lc,w.cell? (aD x 1)=some (.slice la l.length lc)/\Rd w la l
 rng:∀y∈l,0<=y.1/\y.1<=1114111/\0<=y.2/\y.2<=1114111
 parts:∃pv,w.cell? (aD x 2)=some pv/\(∃a n c,pv=.slice a n c)/\∀W,Bw w W->Calls prog 42 #[pv] W (ir Cp W)
 lt:x<w.heap.size
def fK (d:List (Int×Int)×List Int):List Int:=dX d.1++d.2
def UJ (L C:List Int):Prop:=∀x,x<=1114111->(x∈L↔x∈C)
def xh (w:World)(S:Nat)(C:List Int)(ov:Value)(wr:World):Prop:=∃L:List Int,wr.ownsRow S 3 1 ov L.length (bj L)/\0<L.length/\L.length<=C.length/\(∀x∈L,0<=x/\x<=1114112)/\UJ L C/\Below S w wr
theorem xh.below {wr:World}{S:Nat}{ov:Value}(h:xh w S C ov wr)(k:Bw wr w')(hS:S<=wr.heap.size):xh w S C ov w':=by
 obtain⟨L,d,a,e,b,c,f⟩:=h;exact⟨L,PC d k,a,e,b,c,f.trans (k.mono hS)⟩
theorem MZ {L1:LZ}(hp:L1.Perm L)(hs:L1.Pairwise (λx y=>x<=y))(hr:∀x∈L,0<=x/\x<=1114112)(he:UJ L C):((Lib.compact L1).filter λx=>!decide (1114111<x)).Pairwise (λx y=>x<y)/\(∀x∈(Lib.compact L1).filter λx=>!decide (1114111<x),0<=x/\x<=1114111)/\∀x,x∈(Lib.compact L1).filter (λx=>!decide (1114111<x))↔x<=1114111/\x∈C:=by
 have c:∀x,x∈(Lib.compact L1).filter (λx=>!decide (1114111<x))↔x∈L/\x<=1114111:=λx=>by
  rw[List.mem_filter,AR,hp.mem_iff];simp
 refine⟨(BS hs).filter _,λx d=>?_,λx=>?_⟩
 ·obtain⟨a,b⟩:=(c x).1 d;exact⟨(hr x a).1,b⟩
 ·rw[c];constructor
  ·rintro⟨a,b⟩;exact⟨b,(he x b).1 a⟩
  ·rintro⟨a,b⟩;exact⟨(he x a).2 b,a⟩
set_option maxHeartbeats 4000000
set_option maxRecDepth 100000
theorem ro (a:OA)(c:Nat)(xs:List Nat)(D:List (List (Int×Int)×List Int))(w:World)(hA:sO w a xs)(hN:∀(i x:Nat),xs[i]?=some x->∃d:List (Int×Int)×List Int,D[i]?=some d/\NodeG w x d.1 d.2)(hl:xs.length=D.length)(hx9:xs.length<=100000)(hK:(0::D.flatMap fK).length<=100000):Calls prog 42 #[.slice a xs.length c] w (ir (0::D.flatMap fK) w):=by
 have f0:∀i,(0::(D.take i).flatMap fK).length<=100000:=λi=>by
  have e:D.flatMap fK=(D.take i).flatMap fK++(D.drop i).flatMap fK:=by rw[<-List.flatMap_append,zj]
  rw[e]at hK;simp only[zG,zH]at hK ⊢;omega
 have f1:=aa f0;have h9:=aa hl;clear hl;obtain⟨i0,hi,g1,f3,g2⟩:=zz jo;obtain⟨W0,a7,d8,-,-⟩:=dS (rfl:w.heap.size=_) [.int .i64 0] 3;have e4:xh w w.heap.size [0] (.slice (some ⟨w.heap.size,0,none⟩) 1 1) W0:=by
  rw[<-a7];exact⟨[0],World.ownsRow_lit w #[.int .i64 0] 1 (zA _) (by unfold maxLen;omega) rfl,by simp,by simp,by simp,λx _=>Iff.rfl,(zE _ _).alloc (zA _) _⟩
 have k2:W0.heap.size=w.heap.size+1:=by rw[<-a7];simp
 have HA:=aa hA;have HN:=aa hN;have i6:=aa a7;have k3:=aa d8;have i4:=aa e4;clear hA hN a7 d8 e4 f0 hK;go_enter func42,ntmps42;go_wp2_with fail;rw[i6.out];generalize hS:w.heap.size=S at *
 go_loopg [3,11] xs.length (λj ov iv wr=>∃i:Nat,iv=.int .i64 (i:Int)/\i<=xs.length/\xs.length-i<=j/\xh w S (0::(D.take i).flatMap fK) ov wr/\S<wr.heap.size)
 case atStart=>exact⟨0,rfl,zW _,by omega,by simpa using i4.out,by omega⟩
 case round=>
  obtain⟨i,rfl,j8,hj,G,h7⟩:=hrel;have k0:(0:Int)<=(i:Int):=zK _;have W:Below S w wr:=by obtain⟨L,_,_,_,_,_,h5⟩:=G;exact h5
  have Q:Below w.heap.size w wr:=by rw[hS];exact W
  by_cases g4:i<xs.length
  ·have k1:(i:Int)<(xs.length:Int):=by omega
   obtain⟨x,hx⟩:∃x,xs[i]?=some x:=⟨_,zB g4⟩;obtain⟨b,k6,rfl,hb,k8⟩:=(HA.out.below Q) i x hx;obtain⟨d,hd,f⟩:=HN.out i x hx;obtain⟨l,Cp⟩:=d;simp only at f;obtain⟨la,lc,e6,d3⟩:=f.set;have a9:=f.rng;have b8:Hid (D.take (i+1)=D.take i++[(l,Cp)]):=dU hd;have e3:=f1.out (i+1);have e2:=e3;rw[b8.out,List.flatMap_append]at e2;simp only[yE,List.flatMap_nil,zx,fK,zG,zH,kw]at e2;generalize hCI:(D.take i).flatMap fK=CI at *;have f5:=aa hCI;have l1:=(Q.cell (p:=⟨x,1,none⟩) f.lt).trans e6;have k4:x<wr.heap.size:=zF f.lt Q.size;have F:=aa f;have g6:=aa G;have i3:=aa d3;have g3:=aa a9;have j6:b<wr.heap.size:=hb;clear hx f G d3 a9 W Q e6 hd e3 hCI;go_wp2_with fail
   go_loopg [3,20] l.length (λj ov qv wr=>∃q:Nat,qv=.int .i64 (q:Int)/\q<=l.length/\l.length-q<=j/\xh w S ((0::CI)++dX (l.take q)) ov wr/\S<wr.heap.size)
   case atStart=>exact⟨0,rfl,zW _,by omega,by simpa [dX]using g6.out,h7⟩
   case round=>
    obtain⟨q,rfl,l2,k9,t,C⟩:=hrel;have q0:(0:Int)<=(q:Int):=zK _;have o:Below S w wr:=by obtain⟨L,_,_,_,_,_,h5⟩:=t;exact h5
    have s:Below w.heap.size w wr:=by rw[hS];exact o
    by_cases H:q<l.length
    ·have q1:(q:Int)<(l.length:Int):=by omega
     obtain⟨b2,j2,rfl,c3,A,h2⟩:=(i3.out.below s) q l[q] (zB H);have b1:=g3.out l[q] (xE H);have b3:Hid (l.take (q+1)=l.take q++[l[q]]):=dU (zB H);generalize l[q]=y at A h2 b1 b3;obtain⟨O,N⟩:=y;simp only at A h2 b1;obtain⟨r1,r2,r3,r4⟩:=b1;have i9:=aa (Hj r3 r4);obtain⟨L,h,c6,n,E,r,_⟩:=t;have a3:=aa r;have f6:L.length<=100000:=by
      have e8:(l.take q).length<=l.length:=by simp;omega
      simp only[zH,zG,kw]at n;omega
     have b6:=aa n;clear r n;have V:=aa E;have I:=aa h;have f8:=aa o;have hR:=ag.new wr [.int .i64 O,.int .i64 N] 92;have M:=aa hR;have X:=h.alloc (.cells #[.int .i64 O,.int .i64 N] 92);have e5:Hid (Below S w (wr.alloc (.cells #[.int .i64 O,.int .i64 N] 92))):=o.alloc (yJ C) _;have h3:Hid (S<=wr.heap.size):=yJ C;clear E h o s C hR;go_wp2_with fail;generalize hR:wr.heap.size=R at *;obtain⟨W1,c0⟩:∃W1,wr.alloc (.cells #[.int .i64 O,.int .i64 N] 92)=W1:=⟨_,rfl⟩;rw[c0]at M X e5;have e0:W1.cell? ⟨R,0,none⟩=some (.int .i64 O):=M.out.cell 0;have e1:W1.cell? ⟨R,1,none⟩=some (.int .i64 N):=M.out.cell 1;rw[c0];refine yW (S:=λw':World=>w'.cell? ⟨R,0,none⟩=some (.int .i64 O)/\w'.cell? ⟨R,1,none⟩=some (.int .i64 N)) (by kernel_rfl) ⟨e0,e1⟩ (λhHeld=>?_);refine tk 0 ?_;simp only[tS];refine tk 1 ?_;simp only[tS];refine tk 2 ?_;simp only[tS];refine tk 3 ?_;simp only[tS];refine tk 4 ?_;simp only[tS];refine di 5 (λKc hK=>?_);go_simp;refine (mi N _ r3 r4).mono ?_;rintro e w5 ⟨rfl,g0⟩;have i1:=g0.symm;subst i1;clear g0;go_wp2_with fail;refine hK.out _ _ ⟨e0,e1⟩ (λhHeld=>?_);clear hK Kc
     try simp only[tS]
     refine di 6 (λKc hK=>?_);go_simp;refine hK.out _ _ ⟨(M.out.alloc _).cell 0,(M.out.alloc _).cell 1⟩ (λhHeld=>?_);clear hK Kc
     try simp only[tS]
     refine di 7 (λKc hK=>?_);rw[zX (by rfl)];have j1:W1.heap.size=R+1:=by rw[<-c0];simp[hR]
     have j5:=h3.out;refine wp_append_own _ _ _ 61 rfl S 3 i0 (.int .i64 0) 1 8 underlying61 hi g1 f3 g2 rfl (by decide) _ _ _ rfl (X.alloc _) ⟨W1.heap.size,0,none⟩ 2 2 [.int .i64 O,.int .i64 (Brm.after N)] rfl rfl (Mr W1 _ _) (et _ _) (by unfold maxLen;omega) (by omega) (by simp;omega) ?_;intro v' w3 v m _;have b0:∀k,R<=k->some k≠Value.ownBlock u3:=λk hk e=>by have:=(I.out.lt k e.symm).2;omega
     have a6:=((M.out.alloc (.cells #[.int .i64 O,.int .i64 (Brm.after N)] 3)).drew).grown m (b0 R (zA _));have K:Below S w w3:=((e5.out.alloc (by omega) (.cells #[.int .i64 O,.int .i64 (Brm.after N)] 3)).drew).grown m (by simp;omega) (λk e=>(I.out.lt k e).1);have d6:=aa K;have d9:S<w3.heap.size:=by have:=a6.lt;omega
     have c7:Hid (xh w S ((0::CI)++dX (l.take (q+1))) v' w3):=by
      refine⟨L++[O,Brm.after N],?_,by simp,?_,?_,?_,K⟩
      ·have e9:bj (L++[O,Brm.after N])=bj L++[.int .i64 O,.int .i64 (Brm.after N)]:=by simp[bj]
       rw[e9];simpa using v
      ·have e8:=b6.out;rw[b3.out,AS];simp only[zH,zG,zh]at e8 ⊢;omega
      ·intro y B;rcases zM.1 B with B|B
       ·exact V.out y B
       ·simp only[zO,xD,or_false]at B;rcases B with rfl|rfl
        ·omega
        ·exact i9.out
      ·intro y B;rw[b3.out,AS,<-zc,zM,zM,a3.out y B]
     refine hK.out _ _ ⟨a6.cell 0,a6.cell 1⟩ (λhHeld=>?_);clear hK Kc m v K a6 b0
     try simp only[tS]
     refine tk 8 ?_;simp only[tS];refine yV (by kernel_rfl) ?_ _;go_wp2_with fail
     go_roundg (gk-1)
     case measure=>omega
     case rel=>exact⟨q+1,by go_num,by omega,by omega,c7.out,d9⟩
    ·have d1:decide ((q:Int)<(l.length:Int))=false:=zI (by omega);have d2:decide (q<l.length)=false:=zI H;obtain⟨pv,f9,⟨pa,pn,pc,rfl⟩,T⟩:=F.out.parts;have a5:=(s.cell (p:=⟨x,2,none⟩) F.out.lt).trans f9;have j4:x<wr.heap.size:=zF F.out.lt s.size;have c1:=aa (T wr s);have P:=aa t;clear f9 T t o s;go_wp2_with fail;refine c1.out.mono ?_;rintro e w5 ⟨L5,g5,c5,rfl,j9,f7,d4,c8,k5,a0,d0⟩;have h0:=ir.len f7 c8;obtain⟨L,h,c6,n,E,r,a2⟩:=P.out.below d0 (yJ C);have g8:q=l.length:=by omega
     rw[g8,zQ]at n r;simp only[zH,zG,kw]at n;have h4:=aa c8;have a3:=aa r;have b6:=aa n;have f6:L.length<=100000:=by omega
     have j3:L5.length<=100000:=by omega
     clear c8 r n f7;have c2:S<w5.heap.size:=zF C d0.size;have V:=aa E;have I:=aa h;have c9:=aa a2;have h8:=aa d4;have a4:∀j u,(bj L5)[j]?=some u->w5.cell? ((⟨g5,0,none⟩:Addr).add j)=some u:=by
      intro j u J;rw[Addr.add_mid,zf];unfold bj at J;rw[zg]at J;cases hv:L5[j]? with
      |none=>rw[hv]at J;cases J
      |some z=>rw[hv]at J;cases J;exact a0.cell hv
     have d5:∀u∈bj L5,u.oneCell'=true:=by
      intro u hu;unfold bj at hu;obtain⟨z,_,rfl⟩:=yH.1 hu;rfl
     clear E a2 d4 a0 d0 P;go_wp2_with (at_builtin;refine yD _ rfl _ _ 61 rfl S 3 i0 (.int .i64 0) 1 8 underlying61 hi g1 f3 g2 rfl (by decide) _ _ _ rfl h ⟨g5,0,none⟩ L5.length c5 (bj L5) rfl (by simp[bj]) a4 d5 (by unfold maxLen;omega) (by omega) (yJ c2) ?_;intro v' w6 v m _);have i5:Below S w w6:=c9.out.grown m (yJ c2) (λk e=>(I.out.lt k e).1);have g9:S<w6.heap.size:=zF c2 m.size
     go_roundg (xs.length-(i+1))
     case measure=>omega
     case rel=>
      refine⟨i+1,by go_num,by omega,zA _,⟨L++L5,?_,by simp;omega,?_,?_,?_,i5⟩,g9⟩
      ·have e9:bj (L++L5)=bj L++bj L5:=by simp[bj]
       rw[e9,zH];exact v
      ·have e8:=b6.out;rw[b8.out,List.flatMap_append,f5.out];simp only[yE,List.flatMap_nil,zx,fK,zG,zH,kw];omega
      ·intro y B;rcases zM.1 B with B|B
       ·exact V.out y B
       ·have:=h8.out y B;omega
      ·intro y B;rw[b8.out,List.flatMap_append,f5.out,zM,a3.out y B,h4.out y];simp only[yE,List.flatMap_nil,zx,fK,zO,zM];constructor
       ·rintro (((A|A)|A)|A)
        ·exact .inl A
        ·exact .inr (.inl A)
        ·exact .inr (.inr (.inl A))
        ·exact .inr (.inr (.inr A.2))
       ·rintro (A|A|A|A)
        ·exact .inl (.inl (.inl A))
        ·exact .inl (.inl (.inr A))
        ·exact .inl (.inr A)
        ·exact .inr ⟨B,A⟩
  ·have d1:decide ((i:Int)<(xs.length:Int))=false:=zI (by omega);have d2:decide (i<xs.length)=false:=zI g4;have g7:i=xs.length:=by omega
   subst g7;obtain⟨L,h,c6,n,E,r,a2⟩:=G;have b4:=f1.out xs.length;rw[yF (by have:=h9.out;omega)]at n r b4;have f6:L.length<=100000:=zJ n b4;have a3:=aa r;clear r n b4;obtain⟨g,cc,rfl,l0,b5,a8⟩:=aah h c6;have V:=aa E;have d7:=aa a8;have c9:=aa a2;clear h E a8 a2 W Q;go_wp2_with fail;refine (Qm cc d7.out (by omega)).mono ?_;rintro e w1 ⟨rfl,L1,a5,e7,U,f2⟩;have h6:=aa e7;have f4:=aa a5.length_eq;have i2:=aa a5;have b9:=aa U;have i8:=aa f2;clear a5 U f2 e7;go_wp2_with fail;rw[<-f4.out];have j7:=f4.out;refine (GG cc b9.out (by omega) (by omega)).mono ?_;rintro e w2 ⟨rfl,i7,Y,c3⟩;have c4:=aa Y;have f8:=aa c3;clear Y c3;go_wp2_with fail;have a1:=aa (MZ i2.out h6.out V.out a3.out);have j0:=aa i7;generalize hL2:Lib.compact L1=L2 at *;refine (IN cc c4.out (by omega) (by omega)).mono ?_;rintro e w3 ⟨rfl,k7,Z,K⟩;have b7:=aa Z;have d6:=aa K;clear Z K;go_wp2_with fail;go_ret;refine⟨_,g,cc,rfl,by omega,a1.out.1,a1.out.2.1,a1.out.2.2,by omega,b7.out,?_⟩;rw[hS];exact c9.out.trans ((i8.out.mono b5).trans ((f8.out.mono b5).trans (d6.out.mono b5)))
