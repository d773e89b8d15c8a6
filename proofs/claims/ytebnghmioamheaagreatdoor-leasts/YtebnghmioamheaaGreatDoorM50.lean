import Derived.Test.YtebnghmioamheaaGreatDoorM49
import Derived.Test.YtebnghmioamheaaGreatDoorM45
set_option linter.all false
namespace Go.Proofs.YtebnghmioamheaaGreatDoor
open Go.RowKit Brm Tryz
variable {x:Int×Int}{Q qs:List (List (Int×Int))}{R q:LQ}{at_ out u v hs:LZ}{i k n a b:Nat}{y r m:Int}{w w' U3 w4 W:World}{cs xs c:LV}{A A':NP}{lo:OA}{v4:Value}{LA LB L:Lg}{P:List Int->Prop}{t:Tm}
def Ak (at_:List Int)(x:Int×Int):Prop:=x.1∈at_/\(x.2<1112063->x.2+1∈at_)
structure AtG (Q:List (List (Int×Int)))(R:List (Int×Int))(at_:List Int):Prop where
 srt:at_.Pairwise (·<·)
 zero:(0:Int)∈at_
 pl:∀y∈at_,place y
 old:∀q∈Q,∀x∈q,Ak at_ x
 now:∀x∈R,Ak at_ x
theorem AtG.start:AtG [] [] [0]:=⟨by simp,by simp,λy h=>by simp at h;subst h;exact⟨by decide,by decide⟩,λq h=>by simp at h,λx h=>by simp at h⟩
theorem Ak.more {a b:LZ}(h:Ak a x)(k:∀y∈a,y∈b):Ak b x:=⟨k _ h.1,λc=>k _ (h.2 c)⟩
theorem AtG.step1 {at2:LZ}(h:AtG Q R at_)(hx:PGood x)(hs:at2.Pairwise (·<·))(hm:∀y,y∈at2↔y∈at_\/y=x.1):AtG Q R at2/\x.1∈at2:=by
 have a:∀y∈at_,y∈at2:=λy b=>(hm y).2 (.inl b);unfold PGood at hx;refine⟨⟨hs,a _ h.zero,λy b=>?_,λq d z c=>(h.old q d z c).more a,λz c=>(h.now z c).more a⟩,(hm _).2 (.inr rfl)⟩;rcases (hm y).1 b with b|rfl
 ·exact h.pl y b
 ·exact⟨hx.1,by omega⟩
theorem AtG.step2 {at2:LZ}(h:AtG Q R at_)(hx:PGood x)(h1:x.1∈at_)(hl:x.2<1112063)(hs:at2.Pairwise (·<·))(hm:∀y,y∈at2↔y∈at_\/y=x.2+1):AtG Q (R++[x]) at2:=by
 have a:∀y∈at_,y∈at2:=λy c=>(hm y).2 (.inl c);unfold PGood at hx;refine⟨hs,a _ h.zero,λy c=>?_,λq d z b=>(h.old q d z b).more a,λz b=>?_⟩
 ·rcases (hm y).1 c with c|rfl
  ·exact h.pl y c
  ·exact⟨by omega,by omega⟩
 ·rcases zM.1 b with b|b
  ·exact (h.now z b).more a
  ·simp at b;subst b;exact⟨a _ h1,λ_=>(hm _).2 (.inr rfl)⟩
theorem AtG.step3 (h:AtG Q R at_)(h1:x.1∈at_)(hl:¬x.2<1112063):AtG Q (R++[x]) at_:=by
 refine⟨h.srt,h.zero,h.pl,h.old,λz a=>?_⟩;rcases zM.1 a with a|a
 ·exact h.now z a
 ·simp at a;subst a;exact⟨h1,λk=>absurd k hl⟩
theorem AtG.next (h:AtG Q R at_):AtG (Q++[R]) [] at_:=by
 refine⟨h.srt,h.zero,h.pl,λq a x b=>?_,λx b=>by simp at b⟩;rcases zM.1 a with a|a
 ·exact h.old q a x b
 ·simp at a;subst a;exact h.now x b
theorem XI:∀(l:LZ) (x:Int),(∃a∈l,a<=x)->∃a∈l,a<=x/\∀b∈l,b<=x->b<=a:=EM
theorem AtG.rep (h:AtG Q [] at_){x:Int}(hx:place x):∃a∈at_,a<=x/\∀q∈Q,memB q a=memB q x:=by
 unfold place at hx;obtain⟨a,l,k,g⟩:=XI at_ x ⟨0,h.zero,hx.1⟩;refine⟨a,l,k,λq i=>?_⟩;rw[ze,mem_true,mem_true];constructor
 ·rintro⟨y,b,f,m⟩;obtain⟨d,e⟩:=h.old q i y b;refine⟨y,b,by omega,?_⟩;rcases Int.lt_or_le y.2 x with j|c
  ·have:=g _ (e (by omega)) (by omega);omega
  ·exact c
 ·rintro⟨y,b,f,m⟩;obtain⟨d,e⟩:=h.old q i y b;exact⟨y,b,g _ d f,by omega⟩
def eL (qs:List (List (Int×Int)))(a:Int):List UInt8:=qs.map λq=>if memB q a then 1 else 0
theorem SO {a b:Int}(h:eL qs a=eL qs b):∀q∈qs,memB q a=memB q b:=by
 unfold eL at h;intro q c;have:=List.map_inj_left.1 h q c;revert this;cases memB q a<;>cases memB q b<;>simp
theorem Fw (qs:List (List (Int×Int)))(a:Int):(eL qs a).length=qs.length:=by simp[eL]
structure HdI (qs:List (List (Int×Int)))(at_:List Int)(i:Nat)(out:List Int):Prop where
 sub:∀y∈out,y∈at_.take i
 srt:out.Pairwise (·<·)
 all:∀y∈at_.take i,∃h∈out,h<=y/\eL qs h=eL qs y
theorem HdI.start :HdI qs at_ 0 []:=⟨λy h=>by simp at h,by simp,λy h=>by simp at h⟩
theorem HdI.old (h:HdI qs at_ i out)(hs:at_.Pairwise (·<·))(hy:at_[i]?=some y){z:Int}(hz:z∈out)(hsg:eL qs z=eL qs y):HdI qs at_ (i+1) out:=by
 have e:at_.take (i+1)=at_.take i++[y]:=by rw[zi,hy];rfl
 refine⟨λx a=>by rw[e];exact yq _ (h.sub x a),h.srt,λx a=>?_⟩;rw[e]at a;rcases zM.1 a with a|a
 ·exact h.all x a
 ·simp at a;subst a;have b:=hs.sublist (List.take_sublist (i+1) at_);rw[e,yA]at b;have:=b.2.2 z (h.sub z hz) x (by simp);exact⟨z,hz,by omega,hsg⟩
theorem HdI.new (h:HdI qs at_ i out)(hs:at_.Pairwise (·<·))(hy:at_[i]?=some y):HdI qs at_ (i+1) (out++[y]):=by
 have e:at_.take (i+1)=at_.take i++[y]:=by rw[zi,hy];rfl
 have d:=hs.sublist (List.take_sublist (i+1) at_);rw[e,yA]at d;refine⟨λx c=>?_,?_,λx c=>?_⟩
 ·rw[e];rcases zM.1 c with c|c
  ·exact yq _ (h.sub x c)
  ·exact List.mem_append_right _ c
 ·rw[yA];exact⟨h.srt,by simp,λa k b f=>d.2.2 a (h.sub a k) b f⟩
 ·rw[e]at c;rcases zM.1 c with c|c
  ·obtain⟨z,l,g,j⟩:=h.all x c;exact⟨z,yq _ l,g,j⟩
  ·simp at c;subst c;exact⟨x,by simp,yv _,rfl⟩
structure HeadsG (qs:List (List (Int×Int)))(out:List Int):Prop where
 srt:out.Pairwise (·<·)
 pl:∀y∈out,place y
 rep:∀x,place x->∃h∈out,h<=x/\∀q∈qs,memB q h=memB q x
theorem HdI.done (h:HdI qs at_ at_.length out)(ha:AtG qs [] at_):HeadsG qs out:=by
 have c:=h.sub;have b:=h.all;rw[zQ]at c b;refine⟨h.srt,λy g=>ha.pl y (c y g),λx k=>?_⟩;obtain⟨a,i,l,f⟩:=ha.rep k;obtain⟨z,e,m,j⟩:=b a i;exact⟨z,e,by omega,λq d=>(SO j q d).trans (f q d)⟩
theorem JH {e:TypeId}{v:Value}:(w.alloc (.cells #[v] e)).ownsRow w.heap.size e 1 (Vs w.heap.size 1 1) 1 [v]:=by
 refine⟨rfl,.inr ⟨w.heap.size,1,#[v],rfl,zA _,?_,zA _,by unfold maxLen;decide,rfl,rfl⟩⟩;have h:=ag.new w [v] e;exact h
def qZ (l:List (List UInt8)):List Value:=l.map λs=>.string ⟨s.toArray⟩
theorem Mb:(prog.info? 5).map (λi=>(i.zero,i.size,i.bytes))=some (some (.int .u8 0),1,1):=by kernel_rfl
set_option maxHeartbeats 4000000
set_option maxRecDepth 100000
theorem Po {l:List (List (Int×Int))}(i:Nat):fw (l.take i)<=fw l:=by
 have h:fw l=fw (l.take i)+fw (l.drop i):=by rw[<-lX,zj]
 omega
theorem VX {l:List (List (Int×Int))}(h:l[i]?=some q):fw (l.take (i+1))=fw (l.take i)+q.length:=by
 rw[zi,h,lX];simp[fw]
def rX (qs:List (List (Int×Int)))(y:Int)(k:Nat)(cs:List Value):Prop:=cs.length=qs.length/\∀j q,qs[j]?=some q->cs[j]?=some (Value.int .u8 (if j<k/\memB q y=true then 1 else 0))
theorem rX.start :rX qs y 0 (List.replicate qs.length (.int .u8 0)):=⟨by simp,λj q h=>by
 have a:=(zC.1 h).1;simp[a]⟩
theorem rX.yes (h:rX qs y k cs)(hq:qs[k]?=some q)(hm:memB q y=true):rX qs y (k+1) (cs.set k (.int .u8 1)):=by
 refine⟨by simp[h.1],λj d a=>?_⟩;have b:=(zC.1 a).1;by_cases e:k=j
 ·subst e;rw[hq]at a;injection a with a;subst a;rw[List.getElem?_set_self (by rw[h.1];exact b),zX ⟨by omega,hm⟩]
 ·rw[List.getElem?_set_ne e,h.2 j d a];by_cases c:j<k
  ·simp[c,show j<k+1 by omega]
  ·simp[c,show ¬j<k+1 by omega]
theorem rX.no (h:rX qs y k cs)(hq:qs[k]?=some q)(hm:memB q y=false):rX qs y (k+1) cs:=by
 refine⟨h.1,λj c a=>?_⟩;rw[h.2 j c a];by_cases e:j=k
 ·subst e;rw[hq]at a;injection a with a;subst a;simp[hm]
 ·by_cases b:j<k
  ·simp[b,show j<k+1 by omega]
  ·simp[b,show ¬j<k+1 by omega]
theorem rX.conv {U cap:Nat}(h:rX qs y qs.length cs)(hb:ag w U cs 5):(convert 93 9 (Vs U qs.length cap)).run prog w=.ok (.string ⟨(eL qs y).toArray⟩) w:=by
 have d:=run_convert_bytes_back (P:=prog) w 93 9 5 (aD U 0) cap (eL qs y) underlying93 underlying5 underlying9 (λj a=>by
  rw[Fw]at a;obtain⟨q,c⟩:∃q,qs[j]?=some q:=⟨_,zB a⟩;have b:qs[j]=q:=yT ((zB a).symm.trans c);rw[zl,zf,hb.cell,h.2 j q c];simp only[eL,List.getElem_map,b,a,yB];cases memB q y<;>simp)
 rw[Fw]at d;exact d
theorem oR {B e size:Nat}{v u:Value}(h:w.ownsRow B e size v n xs)(hg:w.grownBy w' u.ownBlock)(hne:∀g,v.ownBlock=some g->u.ownBlock≠some g):w'.ownsRow B e size v n xs:=bP h λg k=>hg.block g (h.lt g k).2 λe=>hne g k e.symm
theorem JI {a b:List UInt8}(h:(⟨a.toArray⟩:ByteArray).toList=(⟨b.toArray⟩:ByteArray).toList):a=b:=by
 have:=kE h;simpa [af]using this
def XM (w:World)(qs:List (List (Int×Int)))(e:Ending)(w':World):Prop:=∃v' out,e=.returned v'/\w'.ownsRow w.heap.size 3 1 v' out.length (bj out)/\HeadsG qs out/\out.length<=1+2*fw qs/\Bw w w'
theorem Pp {B:Nat}{cap:Nat}{vs:LV}(hown:w.ownsRow B 24 1 (.slice lo qs.length cap) qs.length vs)(hvs:gh w A qs vs)(hok:∀q∈qs,PCanon q)(hlen:qs.length<=2000000)(hsum:fw qs<=200000):Calls prog 19 #[.slice lo qs.length cap] w (XM w qs):=by
 have g3:Hid (∀(i:Nat) (q:List (Int×Int)) (wr:World),qs[i]?=some q->Bw w wr->∃b so sc,lo=some (aD b 0)/\b<wr.heap.size/\wr.cell? (aD b i)=some (.slice so q.length sc)/\Rd wr so q/\PCanon q):=λi q wr hi hb=>by
  obtain⟨so,sc,m,o⟩:=(hvs.below hb).at hi;have hr:=iQ (bg hown hb);obtain⟨b,f4,e,_,d2,hc⟩:=hr i _ m;obtain⟨_,_,r⟩:=kf hown;obtain⟨g,hg⟩:=r _ e;injection hg with e1 e2;subst e1 e2;exact⟨b,so,sc,e,d2,by simpa using hc,o.rd,hok q (zU hi)⟩
 have i6:=aa hsum;obtain⟨W0,d3,d9,-,-⟩:=dS (rfl:w.heap.size=_) [Vi 0] 3;replace d9:=aa d9;have k9:Hid (W0.ownsRow w.heap.size 3 1 (Vs w.heap.size 1 1) 1 (bj [0])):=by show W0.ownsRow _ _ _ _ _ _;rw[<-d3];exact JH
 have m3:=aa d3;go_enter func19,ntmps19;go_wp2_with fail;rw[m3.out]
 go_loopw [3,4] (λov iv wr=>∃(i:Nat) (a:List Int),iv=Vi i/\i<=qs.length/\wr.ownsRow w.heap.size 3 1 ov a.length (bj a)/\AtG (qs.take i) [] a/\a.length<=1+2*fw (qs.take i)/\Bw w wr) (λ_ iv _=>qs.length-(intOf iv).toNat)
 case atStart=>exact⟨0,[0],rfl,zW _,k9,by simpa using AtG.start,by simp,d9⟩
 case round=>
  obtain⟨i,a,rfl,l8,hown,L,X,d⟩:=hrel;obtain⟨k8,m5,rfl⟩:=cd hown;have HO:=aa hown;have D:=aa L;have C:=aa X;have E:=aa d;have F:w.heap.size<=wr.heap.size:=d.size;have i1:(0:Int)<=(i:Int):=zK _;by_cases e0:i<qs.length
  ·have i2:(i:Int)<(qs.length:Int):=by omega
   obtain⟨q,hq⟩:∃q,qs[i]?=some q:=⟨_,zB e0⟩;have HQ:=aa hq;have i4:=aa (VX hq);have l5:Hid (fw (qs.take (i+1))<=fw qs):=Po _;have m0:Hid (qs.take (i+1)=qs.take i++[q]):=by show _=_;rw[zi,hq];rfl
   go_wp2_with fail
   go_loopw [3,5] (λov kv wr2=>∃(k:Nat) (a:List Int),kv=Vi k/\k<=q.length/\wr2.ownsRow w.heap.size 3 1 ov a.length (bj a)/\AtG (qs.take i) (q.take k) a/\a.length<=1+2*(fw (qs.take i)+k)/\Bw w wr2) (λ_ kv _=>q.length-(intOf kv).toNat)
   case atStart=>exact⟨0,a,rfl,zW _,HO,by simpa using D,by have:=C.out;omega,E⟩
   case round=>
    obtain⟨k,a2,rfl,e5,hown,L,X,d⟩:=hrel;obtain⟨n1,m9,rfl⟩:=cd hown;obtain⟨b,so,sc,rfl,b1,c0,T,I⟩:=g3.out i q wr HQ.out d;have l4:=ri I;have F:w.heap.size<=wr.heap.size:=d.size;have k1:(0:Int)<=(k:Int):=zK _;have HO:=aa hown;have D:=aa L;have C:=aa X;have E:=aa d;by_cases s:k<q.length
    ·have k2:(k:Int)<(q.length:Int):=by omega
     obtain⟨x,hx⟩:∃x,q[k]?=some x:=⟨_,zB s⟩;obtain⟨bs,os,rfl,Y,d0,d1⟩:=T k x hx;have HX:Hid (PGood x):=I.1 x (zU hx);have a9:Hid (q.take (k+1)=q.take k++[x]):=by show _=_;rw[zi,hx];rfl
     have k7:a2.length<=500000:=by have m:=i4.out;have o:=l5.out;have h3:=i6.out;omega
     have HR:=aa (xT (x:=x.1) F hown (by omega) L.srt);have g5:(0:Int)<=x.2/\x.2<=1112063:=by have:=HX.out;unfold PGood at this;omega
     obtain⟨g5,n0⟩:=g5;go_wp2_with fail;refine HR.mono ?_;rintro e w5 ⟨v5,a5,rfl,d8,j4,h7,j0,Q⟩;obtain⟨n3,m6,rfl⟩:=cd d8;have i5:=aa d8;have t:=aa (D.step1 HX j4 h7);have R:Hid (Bw w w5):=E.trans (Q.mono F);have k4:=aa j0;have k0:w.heap.size<=w5.heap.size:=R.size;have m4:b<w5.heap.size:=zF b1 Q.size;have m7:bs<w5.heap.size:=zF Y Q.size;have n6:w5.cell? (aD b i)=some (.slice (some ⟨bs,os,none⟩) q.length sc):=(Q.cell (p:=(aD b i)) b1).trans c0;have n5:w5.cell? ⟨bs,os+k*2+1,none⟩=some (Vi x.2):=(Q.cell (p:=⟨bs,_,none⟩) Y).trans d1;have n9:a5.length<=600000:=by omega
     by_cases a8:x.2<1112063
     ·have j8:=aa (xT (x:=x.2+1) k0 i5 (by omega) t.1.srt);go_wp2_with fail;refine j8.mono ?_;rintro e w6 ⟨v6,a6,rfl,g7,j7,f3,h0,J⟩;have Z:=aa (S.intro g7 (S.intro (t.1.step2 HX t.2 a8 j7 f3) (S.intro h0 (f R (J.mono (zA _))))));go_wp2_with fail
      go_roundw
      case rel=>exact⟨k+1,a6,by go_num,by omega,Z.1,by rw[a9.out];exact Z.2.1,by have m:=Z.2.2.1;have o:=k4.out;have h3:=C.out;omega,Z.2.2.2⟩
      case measure=>simp[intOf];omega
     ·have n7:decide (x.2<1112063)=false:=zI a8;go_wp2_with fail
      go_roundw
      case rel=>exact⟨k+1,a5,by go_num,by omega,i5,by rw[a9.out];exact t.1.step3 t.2 (by omega),by have o:=k4.out;have h3:=C.out;omega,R⟩
      case measure=>simp[intOf];omega
    ·have k2:decide ((k:Int)<(q.length:Int))=false:=zI (by omega);obtain rfl:k=q.length:=by omega
     go_wp2_with fail
     go_roundw
     case rel=>exact⟨i+1,a2,by go_num,by omega,HO,by rw[m0.out];have:=D.out;rw[zQ]at this;exact this.next,by have m:=C.out;have o:=i4.out;omega,E⟩
     case measure=>simp[intOf];omega
  ·have i2:decide ((i:Int)<(qs.length:Int))=false:=zI (by omega);obtain rfl:i=qs.length:=by omega
   rw[zQ]at D C;obtain⟨l,i0⟩:∃l,wr=l:=⟨_,rfl⟩;rw[i0]at HO E F ⊢;have g1:Hid (∀(j:Nat) (y:Int) (wr:World),a[j]?=some y->Bw l wr->∃b,k8=some (aD b 0)/\b<wr.heap.size/\wr.cell? (aD b j)=some (Vi y)):=λj y wr hj hb=>by
    obtain⟨b,f4,e,_,d2,hc⟩:=iQ (bg HO.out hb) j _ (qJ hj);obtain⟨_,_,r⟩:=kf HO.out;obtain⟨g,hg⟩:=r _ e;injection hg with e1 e2;subst e1 e2;exact⟨b,e,d2,by simpa using hc⟩
   have k7:a.length<=400001:=by have m:=C.out;have o:=i6.out;omega
   obtain⟨i3,l3,j1,f6,j3⟩:=zz jo;obtain⟨i9,l0,f9,f5,i7⟩:=zz AA;go_wp2_with fail
   go_loopw [6,7,8] (λov sv iv wr=>∃(i:Nat) (c:List Int),iv=Vi i/\i<=a.length/\wr.ownsRow l.heap.size 3 1 ov c.length (bj c)/\wr.ownsRow l.heap.size 9 1 sv c.length (qZ (c.map (eL qs)))/\(∀g,ov.ownBlock=some g->sv.ownBlock≠some g)/\HdI qs a i c/\c.length<=i/\Bw l wr) (λ_ _ iv _=>a.length-(intOf iv).toNat)
   case atStart=>exact⟨0,[],rfl,zW _,zZ _ _ _ _,zZ _ _ _ _,λg h=>(by cases h),HdI.start,zA _,zE _ _⟩
   case round=>
    obtain⟨i,c,rfl,l8,H,M,g0,f8,o0,d⟩:=hrel;obtain⟨h6,c4,rfl⟩:=cd H;obtain⟨l7,k3,rfl⟩:=cd M;have b4:=aa H;have e7:=aa M;have d6:=aa g0;have e4:=aa f8;have h8:=aa d;have b7:l.heap.size<=wr.heap.size:=d.size;have i1:(0:Int)<=(i:Int):=zK _;by_cases e0:i<a.length
    ·have i2:(i:Int)<(a.length:Int):=by omega
     obtain⟨y,hy⟩:∃y,a[i]?=some y:=⟨_,zB e0⟩;have HY:=aa hy;obtain⟨Wb,j6,a0,e8,g4⟩:=dS (rfl:wr.heap.size=_) (List.replicate qs.length (.int .u8 0)) 5;replace a0:=aa a0;replace e8:=aa e8;replace g4:=aa g4;have m1:=aa j6;generalize hU:wr.heap.size=U at *;go_wp2_with (at_make;refine vY rfl _ _ 93 rfl 5 (.int .u8 0) 1 underlying93 Mb rfl qs.length rfl rfl (by omega) (by omega) ?_;rw[m1.out])
     go_loopw [10] (λkv wx=>∃(k:Nat) (cs:List Value),kv=Vi k/\k<=qs.length/\ag wx U cs 5/\rX qs y k cs/\Below U Wb wx) (λkv _=>qs.length-(intOf kv).toNat)
     case atStart=>exact⟨0,_,rfl,zW _,e8,rX.start,zE _ _⟩
     case round=>
      obtain⟨k,cs,rfl,e5,e6,i8,e3⟩:=hrel;have W:=aa e6;have a4:=aa i8;have b0:=aa e3;have N:Hid (Bw l wr):=(h8.trans (a0.mono b7)).trans (e3.mono b7);have g2:Hid (Bw w wr):=E.trans (N.mono F);have k1:(0:Int)<=(k:Int):=zK _;have h5:U<wr.heap.size:=e6.lt;by_cases s:k<qs.length
      ·have k2:(k:Int)<(qs.length:Int):=by omega
       obtain⟨q,hq⟩:∃q,qs[k]?=some q:=⟨_,zB s⟩;obtain⟨b,so,sc,rfl,b1,c0,T,I⟩:=g3.out k q wr hq g2.out;obtain⟨b3,rfl,K,d0⟩:=g1.out i y wr HY.out N.out;have l4:=ri I;have HH:=aa (wS sc y T (by omega));have HQ:=aa hq;go_upto_region 20 with fail
       go_cut [11] (λv wx=>v=.bool (memB q y)/\∃n,wx=wr.drewN n)
       case first=>
        have l6:Hid (wr.drew.cell? (aD b k)=some (.slice so q.length sc)/\wr.drew.cell? (aD b3 i)=some (Vi y)):=⟨c0,d0⟩
        go_region_held3 (λw'=>w'.cell? (aD b k)=some (.slice so q.length sc)/\w'.cell? (aD b3 i)=some (Vi y))
         (first|with_reducible exact l6.out|fail)
         (first
          |(go_at_call 40;with_reducible refine HH.out.mono ?_;rintro e w5 ⟨rfl,rfl⟩)
          |fail)
        go_wp2_with fail
        go_meet
        case rel=>exact⟨rfl,1,rfl⟩
       case rest=>
        obtain⟨rfl,nq,rfl⟩:=hcut;cases hm:memB q y with
        |true=>
         have t:=aa (a4.yes HQ hm);have t0:(wr.drewN nq).cell? (aD U k)=some (.int .u8 (if k<k/\memB q y=true then 1 else 0)):=(W.drewN nq).cell k |>.trans (a4.2 k q HQ);have t1:=(W.drewN nq).frozen k;have l1:Hid (Below U Wb (wr.drewN nq)):=aR b0;have n4:U<(wr.drewN nq).heap.size:=h5;go_wp2_with fail
         go_roundw
         case rel=>exact⟨k+1,_,by go_num,by omega,(W.drewN nq).set k _,t,l1.setCell (p:=(aD U k)) (zA _) _⟩
         case measure=>simp[intOf];omega
        |false=>
         have t:=aa (a4.no HQ hm);go_wp2_with fail
         go_roundw
         case rel=>exact⟨k+1,cs,by go_num,by omega,W.drewN nq,t,aR b0⟩
         case measure=>simp[intOf];omega
      ·have k2:decide ((k:Int)<(qs.length:Int))=false:=zI (by omega);obtain rfl:k=qs.length:=by omega
       have f0:Hid (∀w',Bw wr w'->(convert 93 9 (Vs U qs.length qs.length)).run prog w'=.ok (.string ⟨(eL qs y).toArray⟩) w'):=λw' h=>a4.conv (W.below h);obtain⟨V,hV⟩:∃V,wr=V:=⟨_,rfl⟩;have O:Hid (V.ownsRow l.heap.size 9 1 (.slice l7 c.length k3) c.length (qZ (c.map (eL qs)))):=by
        show V.ownsRow _ _ _ _ _ _
        rw[<-hV];exact bP (bg e7 (by rw[hU];exact a0)) λg e=>b0.block g (by have:=(e7.lt g e).2;omega)
       have c6:Hid (V.ownsRow l.heap.size 3 1 (.slice h6 c.length c4) c.length (bj c)):=by
        show V.ownsRow _ _ _ _ _ _
        rw[<-hV];exact bP (bg b4 (by rw[hU];exact a0)) λg e=>b0.block g (by have:=(b4.lt g e).2;omega)
       rw[hV]at f0 N h5 ⊢;go_wp2_with fail
       go_loopw [12,13] (λbv kv wz=>∃(k:Nat) (bo:Bool),bv=.bool bo/\kv=Vi k/\k<=c.length/\(bo=true↔∃z∈c.take k,eL qs z=eL qs y)/\Bw V wz) (λ_ kv _=>c.length-(intOf kv).toNat)
       case atStart=>exact⟨0,false,rfl,rfl,zW _,⟨λh=>(by cases h),λ⟨z,h,_⟩=>by simp at h⟩,zE _ _⟩
       case round=>
        obtain⟨k,bo,rfl,rfl,e5,f7,j5⟩:=hrel;have b2:=aa f7;have G:=aa j5;have k1:(0:Int)<=(k:Int):=zK _;by_cases s:k<c.length
        ·have k2:(k:Int)<(c.length:Int):=by omega
         obtain⟨z,hz⟩:∃z,c[k]?=some z:=⟨_,zB s⟩;obtain⟨bs,f4,rfl,_,Y,hc⟩:=(iQ O.out) k (.string ⟨(eL qs z).toArray⟩) (by unfold qZ;rw[zg,zg,hz];rfl);obtain⟨_,_,r⟩:=kf O.out;obtain⟨g9,l9⟩:=r _ rfl;injection l9 with e1 e2;subst e1 e2;have c0:wr.cell? (aD bs k)=some (.string ⟨(eL qs z).toArray⟩):=(G.cell (p:=(aD bs k)) Y).trans (by simpa using hc);have m8:bs<wr.heap.size:=zF Y G.size;have a9:Hid (c.take (k+1)=c.take k++[z]):=by show _=_;rw[zi,hz];rfl
         have g6:∀n,(convert 93 9 (Vs U qs.length qs.length)).run prog (wr.drewN n)=.ok (.string ⟨(eL qs y).toArray⟩) (wr.drewN n):=λn=>f0 _ (aR G);go_upto_region 27 with fail;cases bo with
         |true=>
          go_quiet (fail)
          go_wp2_with fail
          go_roundw
          case rel=>exact⟨k+1,true,rfl,by go_num,by omega,⟨λ_=>by obtain⟨x,m,o⟩:=b2.out.1 rfl;exact⟨x,by rw[a9.out];exact yq _ m,o⟩,λ_=>rfl⟩,aR G⟩
          case measure=>simp[intOf];omega
         |false=>
          go_quiet (fail)
          go_wp2_with fail
          go_roundw
          case rel=>exact⟨k+1,_,rfl,by go_num,by omega,by
           rw[a9.out];constructor
           ·intro h;exact⟨z,by simp,JI (by simpa using h)⟩
           ·rintro⟨x,m,o⟩;rcases zM.1 m with m|m
            ·have:=b2.2 ⟨x,m,o⟩;cases this
            ·simp at m;subst m;simp[o],aR G⟩
          case measure=>simp[intOf];omega
        ·have k2:decide ((k:Int)<(c.length:Int))=false:=zI (by omega);obtain rfl:k=c.length:=by omega
         obtain⟨V2,a1⟩:∃V2,wr=V2:=⟨_,rfl⟩;have e9:Hid (Bw l V2):=by show Below _ _ _;rw[<-a1];exact f N G
         have P:Hid (Bw V V2):=by show Below _ _ _;rw[<-a1];exact G
         have g6:(convert 93 9 (Vs U qs.length qs.length)).run prog V2=.ok (.string ⟨(eL qs y).toArray⟩) V2:=by rw[<-a1];exact f0 _ G
         rw[a1];have j9:Hid (bo=true↔∃z∈c,eL qs z=eL qs y):=by have:=b2.out;rw[zQ]at this;exact this
         have n8:l.heap.size<=V2.heap.size:=e9.size;cases bo with
         |true=>
          obtain⟨z,k6,k5⟩:=j9.out.1 rfl;have HN:=aa (e4.old D.srt HY k6 k5);go_wp2_with fail
          go_roundw
          case rel=>exact⟨i+1,c,by go_num,by omega,bg c6 P,bg O P,d6,HN,by omega,e9⟩
          case measure=>simp[intOf];omega
         |false=>
          have HN:=aa (e4.new D.srt HY);obtain⟨U3,j2,K,c9,-⟩:=dS (rfl:V2.heap.size=_) [.string ⟨(eL qs y).toArray⟩] 9;replace c9:=aa c9;have m2:=aa j2;have c1:=aa (bg (bg O P) K);have c3:=aa (bg (bg c6 P) K);have d7:Hid (Bw l U3):=f e9 K;have n2:c.length<=400001:=by omega
          have k2:decide ((c.length:Int)<(c.length:Int))=false:=zI (by omega);go_upto_region 30 with (at_builtin;rw[m2.out];refine jg rfl (.tmp 106) (.tmp 109) 81 9 i9 _ 1 16 rfl underlying81 l0 f9 f5 i7 rfl (by decide) l.heap.size c.length _ _ rfl c1 _ 1 _ [.string ⟨(eL qs y).toArray⟩] rfl rfl (by decide) (λj u hj=>by rw[zl,zf,c9.out.cell];exact hj) (λu hu=>by simp at hu;subst hu;rfl) (by unfold maxLen;omega) (by omega) d7.size ?_;intro v4 w4 a7 b6 c5;have Z:=aa (S.intro a7 (S.intro b6 c5)));have R:Hid (Bw l w4):=cD d7 d7.size c1 Z.2.1;have f1:=aa (oR c3 Z.2.1 d6);have c8:Hid (∀g,Value.ownBlock (.slice h6 c.length c4)=some g->v4.ownBlock≠some g):=λg m o=>by
           rcases Z.out.2.2 with h|h
           ·rw[h]at o;exact d6 g m o
           ·have h3:=h g o;have h4:=(c3.lt g m).2;omega
          obtain⟨b3,rfl,K,d0⟩:=g1.out i y w4 HY.out R.out;obtain⟨U6,g8,J,d5,-⟩:=dS (rfl:w4.heap.size=_) [Vi y] 3;replace d5:=aa d5;have l2:=aa g8;have c2:=aa (bg f1 J);have b9:=aa (bg Z.1 J);have d4:Hid (Bw l U6):=f R J;go_wp2_with (at_builtin;rw[l2.out];refine jg rfl (.tmp 111) (.tmp 116) 61 3 i3 _ 1 8 rfl underlying61 l3 j1 f6 j3 rfl (by decide) l.heap.size c.length _ _ rfl c2 _ 1 _ [Vi y] rfl rfl (by decide) (λj u hj=>by rw[zl,zf,d5.out.cell];exact hj) (λu hu=>by simp at hu;subst hu;rfl) (by unfold maxLen;omega) (by omega) d4.size ?_;intro v7 w7 a3 b8 c7;have b5:=aa (S.intro a3 (S.intro b8 c7)));have f2:Hid (∀g,v7.ownBlock=some g->v4.ownBlock≠some g):=λg m o=>by
           rcases b5.out.2.2 with h|h
           ·rw[h]at m;exact c8 g m o
           ·have h3:=h g m;have h4:=(b9.lt g o).2;omega
          go_roundw
          case rel=>exact⟨i+1,c++[y],by go_num,by omega,by simpa [bj]using b5.1,by have h9:=oR b9 b5.2.1 (λg m o=>c8 g o m);simpa [qZ]using h9,f2,HN,by simp;omega,cD d4 d4.size c2 b5.2.1⟩
          case measure=>simp[intOf];omega
    ·have i2:decide ((i:Int)<(a.length:Int))=false:=zI (by omega);obtain rfl:i=a.length:=by omega
     have Z:=aa (e4.done D);go_wp2_with fail;go_ret;exact⟨_,c,rfl,ij b4 F,Z,by have:=C.out;omega,E.trans (h8.mono F)⟩
def rM (L:Lg)(u:List Int):Lg:=λz=>L (u++z)
theorem Df (L:Lg)(u:LZ)(r:Int):aX (rM L u) r=rM L (u++[r]):=by
 funext z;simp[aX,rM]
def DS (D:List Int->Prop)(v:List Int):Prop:=∃o,ef o/\bY o v=true/\∀z,D (o++z)↔D (v++z)
structure Lv (D:List Int->Prop)(N n:Nat)(ws:List (List Int)):Prop where
 len:∀x∈ws,x.length=n
 val:∀x∈ws,ef x
 srt:ws.Pairwise λx y=>bY x y=true
 path:∀m,cX D N m->∃x∈ws,∃z,m=x++z
variable {D:List Int->Prop} {N n:Nat} {ws:List (List Int)}
theorem Lv.start:Lv D N 0 [[]]:=⟨λx h=>by simp at h;subst h;rfl,λx h=>by simp at h;subst h;intro r a;simp at a,by simp,λm _=>⟨[],by simp,m,rfl⟩⟩
theorem Um (h:bY u v=true):u.length<=v.length:=by
 rw[fI]at h;omega
theorem Lv.found (h:Lv D N n ws)(hn:n<=N)(hi:ws[i]?=some u)(hd:D u)(hno:∀x∈ws.take i,¬D x):cX D N u:=by
 have b:=zU hi;refine⟨h.val u b,hd,by rw[h.len u b];exact hn,λs A B v=>?_⟩;obtain⟨m,c,y⟩:=rn A B v;obtain⟨x,q,z,rfl⟩:=h.path m c;have k:bY x u=false:=by
  by_cases p:z=[]
  ·subst p;rw[zx]at c;obtain⟨j,a⟩:=List.getElem?_of_mem q;have e:=(zC.1 a).1;have d:=(zC.1 hi).1;rcases Nat.lt_trichotomy j i with l|g|o
   ·have:x∈ws.take i:=zU (i:=j) (by rw[List.getElem?_take_of_lt l];exact a);exact absurd c.2.1 (hno x this)
   ·subst g;rw[hi]at a;injection a with a;subst a;exact eC.irr _
   ·have f:=yX.1 h.srt i j d e o;have w:ws[i]=u:=yT ((zB d).symm.trans hi);have C:ws[j]=x:=yT ((zB e).symm.trans a);rw[w,C]at f;exact eC.as _ _ f
  ·cases hc:bY x u with
   |false=>rfl
   |true=>
    have f:=c.2.2.2 u (h.val u b) hd (by rw[h.len u b];exact hn);rw[gE]at f;have E:=h.len x q;have F:=h.len u b;have G:0<z.length:=List.length_pos_iff.2 p;have t:bY u (x++z)=true:=by
     rw[fI]
     left
     rw[zH];omega
    have r:=c.2.2.2 u (h.val u b) hd (by rw[h.len u b];exact hn);rw[t]at r;cases r
 exact eC.tr _ _ _ k (eC.tr _ _ _ (pH (x:=x) (z:=z)) y)
theorem Lv.none (h:Lv D N N ws)(hno:∀x∈ws,¬D x):∀s,ef s->s.length<=N->¬D s:=λs f d g=>by
 obtain⟨m,a,_⟩:=rn f g d;obtain⟨x,b,z,rfl⟩:=h.path m a;have e:=a.2.2.1;have i:=h.len x b;rw[zH]at e;have c:z=[]:=yf (by omega);subst c;rw[zx]at a;exact hno x b a.2.1
def kW (ws:List (List Int))(Al:List Int)(i k:Nat)(v:List Int):Prop:=(∃x∈ws.take i,∃r∈Al,v=x++[r])\/∃x,ws[i]?=some x/\∃r∈Al.take k,v=x++[r]
structure Nx (D:List Int->Prop)(ws:List (List Int))(Al:List Int)(i k:Nat)(nx:List (List Int)):Prop where
 mem:∀v∈nx,kW ws Al i k v
 srt:nx.Pairwise λx y=>bY x y=true
 all:∀v,kW ws Al i k v->v∈nx\/DS D v
variable {Al:List Int} {i k:Nat} {nx:List (List Int)}
theorem Un :¬kW ws Al 0 0 v:=by
 rintro (⟨x,h,_⟩|⟨x,_,r,h,_⟩)
 ·simp at h
 ·simp at h
theorem Nx.start:Nx D ws Al 0 0 []:=⟨λv h=>by simp at h,by simp,λv h=>absurd h Un⟩
theorem lK {x:LZ}(hx:ws[i]?=some x)(hr:Al[k]?=some r):kW ws Al i (k+1) v↔kW ws Al i k v\/v=x++[r]:=by
 have e:Al.take (k+1)=Al.take k++[r]:=by rw[zi,hr];rfl
 unfold kW;rw[e];constructor
 ·rintro (h|⟨y,b,q,a,c⟩)
  ·exact .inl (.inl h)
  ·rcases zM.1 a with a|a
   ·exact .inl (.inr ⟨y,b,q,a,c⟩)
   ·simp at a;subst a;rw[hx]at b;injection b with b;subst b;exact .inr c
 ·rintro ((h|⟨y,b,q,a,c⟩)|h)
  ·exact .inl h
  ·exact .inr ⟨y,b,q,yq _ a,c⟩
  ·exact .inr ⟨x,hx,r,List.mem_append_right _ (by simp),h⟩
theorem xi {x:LZ}(hx:ws[i]?=some x):kW ws Al (i+1) 0 v↔kW ws Al i Al.length v:=by
 have e:ws.take (i+1)=ws.take i++[x]:=by rw[zi,hx];rfl
 unfold kW;rw[e,zQ];constructor
 ·rintro (⟨y,a,r,b,c⟩|⟨y,_,r,b,_⟩)
  ·rcases zM.1 a with a|a
   ·exact .inl ⟨y,a,r,b,c⟩
   ·simp at a;subst a;exact .inr ⟨y,hx,r,b,c⟩
  ·simp at b
 ·rintro (⟨y,a,r,b,c⟩|⟨y,a,r,b,c⟩)
  ·exact .inl ⟨y,yq _ a,r,b,c⟩
  ·rw[hx]at a;injection a with a;subst a;exact .inl ⟨x,List.mem_append_right _ (by simp),r,b,c⟩
theorem Dg:∀(s t a b:LZ),s.length=t.length->cH s t=true->cH (s++a) (t++b)=true
 | [],[],_,_,_,h=>by simp[cH]at h
 | [],_::_,_,_,h,_=>by simp at h
 |_::_,[],_,_,h,_=>by simp at h
 |c::s,d::t,a,b,hl,h=>by
  simp only[cH,zV,yZ,yP,zY]at h ⊢;rcases h with h|⟨e,h⟩
  ·exact .inl h
  ·exact .inr ⟨e,Dg s t a b (by simpa using hl) h⟩
theorem Dh:∀(s:LZ) (a b:Int),a<b->cH (s++[a]) (s++[b])=true
 | [],a,b,h=>by simp[cH,h]
 |c::s,a,b,h=>by
  have:=Dh s a b h;simp only[cH,zV,yZ,yP,zY];exact .inr ⟨trivial,this⟩
theorem GN {x:LZ}(h:Lv D N n ws)(hA:Al.Pairwise (·<·))(hx:ws[i]?=some x)(hr:Al[k]?=some r)(hv:kW ws Al i k v):bY v (x++[r])=true:=by
 have l:=zU hx;have g:=(zC.1 hx).1;have s:ws[i]=x:=yT ((zB g).symm.trans hx);rw[fI]
 right
 rcases hv with⟨y,e,q,o,rfl⟩|⟨y,e,q,o,rfl⟩
 ·obtain⟨j,b⟩:=List.getElem?_of_mem e;have d:=(zC.1 b).1;rw[yn]at d;rw[List.getElem?_take_of_lt (by omega)]at b;have a:=(zC.1 b).1;have t:ws[j]=y:=yT ((zB a).symm.trans b);have c:=yX.1 h.srt j i a g (by omega);rw[s,t]at c;have m:=h.len x l;have p:=h.len y (zU b);rw[fI]at c;refine⟨by simp;omega,Dg _ _ _ _ (by omega) ?_⟩;rcases c with c|c
  ·omega
  ·exact c.2
 ·rw[hx]at e;injection e with e;subst e;refine⟨by simp,Dh _ _ _ ?_⟩;obtain⟨j,b⟩:=List.getElem?_of_mem o;have d:=(zC.1 b).1;rw[yn]at d;rw[List.getElem?_take_of_lt (by omega)]at b;have a:=(zC.1 b).1;have f:=(zC.1 hr).1;have c:=yX.1 hA j k a f (by omega);have m:Al[j]=q:=yT ((zB a).symm.trans b);have p:Al[k]=r:=yT ((zB f).symm.trans hr);rw[m,p]at c;exact c
theorem Nx.keep {x:LZ}(h:Nx D ws Al i k nx)(hl:Lv D N n ws)(hA:Al.Pairwise (·<·))(hx:ws[i]?=some x)(hr:Al[k]?=some r):Nx D ws Al i (k+1) (nx++[x++[r]]):=by
 refine⟨λv c=>(lK hx hr).2 ?_,?_,λv c=>?_⟩
 ·rcases zM.1 c with c|c
  ·exact .inl (h.mem v c)
  ·exact .inr (by simpa using c)
 ·rw[yA];refine⟨h.srt,by simp,λa f b e=>?_⟩;simp at e;subst e;exact GN hl hA hx hr (h.mem a f)
 ·rcases (lK hx hr).1 c with c|rfl
  ·rcases h.all v c with d|d
   ·exact .inl (yq _ d)
   ·exact .inr d
  ·exact .inl (by simp)
theorem Nx.drop {x:LZ}(h:Nx D ws Al i k nx)(hx:ws[i]?=some x)(hr:Al[k]?=some r)(hd:DS D (x++[r])):Nx D ws Al i (k+1) nx:=by
 refine⟨λv a=>(lK hx hr).2 (.inl (h.mem v a)),h.srt,λv a=>?_⟩;rcases (lK hx hr).1 a with a|rfl
 ·exact h.all v a
 ·exact .inr hd
theorem Nx.next {x:LZ}(h:Nx D ws Al i Al.length nx)(hx:ws[i]?=some x):Nx D ws Al (i+1) 0 nx:=⟨λv a=>(xi hx).2 (h.mem v a),h.srt,λv a=>h.all v ((xi hx).1 a)⟩
theorem Nx.done (h:Nx D ws Al ws.length 0 nx)(hl:Lv D N n ws)(hno:∀x∈ws,¬D x)(hV:∀r∈Al,runeB r=true)(hAl:∀m,cX D N m->∀r∈m,r∈Al):Lv D N (n+1) nx:=by
 have f:∀v,kW ws Al ws.length 0 v->∃x∈ws,∃r∈Al,v=x++[r]:=by
  rintro v (⟨x,b,r,d,i⟩|⟨x,_,r,d,_⟩)
  ·rw[zQ]at b;exact⟨x,b,r,d,i⟩
  ·simp at d
 refine⟨λv g=>?_,λv g=>?_,h.srt,λm c=>?_⟩
 ·obtain⟨x,b,r,d,rfl⟩:=f v (h.mem v g);rw[zH,hl.len x b];rfl
 ·obtain⟨x,b,r,d,rfl⟩:=f v (h.mem v g);intro q a;rcases zM.1 a with a|a
  ·exact hl.val x b q a
  ·simp at a;subst a;exact hV q d
 ·obtain⟨x,j,z,rfl⟩:=hl.path m c;cases z with
  |nil=>rw[zx]at c;exact absurd c.2.1 (hno x j)
  |cons r z=>
   have s:=hAl _ c r (by simp);have g:kW ws Al ws.length 0 (x++[r]):=.inl ⟨x,by rw[zQ];exact j,r,s,rfl⟩;rcases h.all _ g with b|⟨o,b,d,i⟩
   ·exact⟨_,b,z,by simp⟩
   ·have e:x++r::z=(x++[r])++z:=by simp
    rw[e]at c;have k:=vv z d;have p:ef (o++z):=λq a=>by
     rcases zM.1 a with a|a
     ·exact b q a
     ·exact c.1 q (by simp[a])
    have t:=Um k;have l:=c.2.2.2 (o++z) p ((i z).2 c.2.1) (zJ t c.2.2.1);rw[k]at l;cases l
theorem rN (n:Int):∀b∈dN n,b≠47:=by
 intro b a;rcases wh b a with h|h
 ·intro e;subst e;unfold sL at h;exact absurd h.1 (by decide)
 ·subst h;decide
theorem Qx (x:Int×Int):∀b∈eJ x,b≠47:=by
 intro b a;simp only[eJ,zO,zM]at a;rcases a with rfl|a|rfl|a
 ·decide
 ·exact rN _ b a
 ·decide
 ·exact rN _ b a
mutual
theorem jd:∀t:Tm,∀b∈t.key,b≠47
 |.none=>by intro b e;simp[Tm.key]at e;subst e;decide
 |.empty=>by intro b e;simp[Tm.key]at e;subst e;decide
 |.set q=>by
  intro b e;simp only[Tm.key,zO,xL]at e;rcases e with rfl|⟨x,_,e⟩
  ·decide
  ·exact Qx x b e
 |.row a b=>by
  intro c d;have f:=jd a;have g:=jd b;simp only[Tm.key,cU,zO,zM,xD,or_false]at d;rcases d with rfl|(rfl|d|rfl)|rfl|d|rfl
  ·decide
  ·decide
  ·exact f c d
  ·decide
  ·decide
  ·exact g c d
  ·decide
 |.or l=>by
  intro c d;simp only[Tm.key,zO]at d;rcases d with rfl|d
  ·decide
  ·exact rO l c d
 |.and l=>by
  intro c d;simp only[Tm.key,zO]at d;rcases d with rfl|d
  ·decide
  ·exact rO l c d
 |.not t=>by
  intro c d;have f:=jd t;simp only[Tm.key,cU,zO,zM,xD,or_false]at d;rcases d with rfl|rfl|d|rfl
  ·decide
  ·decide
  ·exact f c d
  ·decide
 |.many t m n=>by
  intro c d;have f:=jd t;simp only[Tm.key,cU,zO,zM,xD,or_false]at d;rcases d with rfl|d|rfl|d|rfl|d|rfl
  ·decide
  ·exact rN m c d
  ·decide
  ·exact rN n c d
  ·decide
  ·exact f c d
  ·decide
theorem rO:∀l:List Tm,∀b∈ju l,b≠47
 | [],b,a=>by simp[ju]at a
 |t::l,b,a=>by
  have c:=jd t;have d:=rO l;simp only[ju,cU,zO,zM,xD,or_false]at a;rcases a with (rfl|a|rfl)|a
  ·decide
  ·exact c b a
  ·decide
  ·exact d b a
end
theorem Uo {a b c d:Tm}(ha:a.Ok)(hb:b.Ok)(hc:c.Ok)(hd:d.Ok)(h:a.key++47::b.key=c.key++47::d.key):a=c/\b=d:=by
 obtain⟨g,f⟩:=Jh (P:=λx=>x≠47) (jd a) (jd c) (λx t e k=>by injection e with e _;exact k e.symm) (λx t e k=>by injection e with e _;exact k e.symm) h;injection f with _ f;exact⟨nL ha hc g,nL hb hd f⟩
structure Stp where
 a:Tm
 b:Tm
 u:List Int
def lz:Nat->Nat
 |0=>61
 |n+1=>bz (lz n)
def Cw:Nat->Nat
 |0=>12420
 |n+1=>lz n*Cw n
theorem Js:∀n,n<=2->lz n*Cw n<=3000000000000000000/\bz (lz n)<=2000000000000
 |0,_=>by decide
 |1,_=>by decide
 |2,_=>by decide
 |_+3,h=>by omega
theorem Jt:∀n,n<=3->Cw n<=3000000000000000000
 |0,_=>by decide
 |1,_=>by decide
 |2,_=>by decide
 |3,_=>(Js 2 (by omega)).1
 |_+4,h=>by omega
def enc (u:List Int):List UInt8:=u.flatMap Lib.encodeRune
theorem SB (u:LZ)(r:Int):enc (u++[r])=enc u++Lib.encodeRune r:=by simp[enc]
structure StG (LA LB:Lg)(n:Nat)(s:Stp):Prop where
 oa:s.a.Ok
 ob:s.b.Ok
 la:s.a.L=rM LA s.u
 lb:s.b.L=rM LB s.u
 za:s.a.z<=lz n
 zb:s.b.z<=lz n
 ta:s.a.tl<=Cw n
 tb:s.b.tl<=Cw n
 vl:ef s.u
 ln:s.u.length=n
def oL (w:World)(A:Nat->Prop)(s:Stp)(c:List Value):Prop:=∃ca cb str,c=ca++cb++[.string str]/\aj w A s.a ca/\aj w A s.b cb/\af str=enc s.u
def eY (w:World)(A:Nat->Prop):List Stp->List Value->Prop
 | [],xs=>xs=[]
 |s::l,xs=>∃c r,xs=c++r/\oL w A s c/\eY w A l r
theorem oL.keep {A:NP}{w w':World}(k:ah A w w'){s:Stp}{c:LV}(h:oL w A s c):oL w' A s c:=by
 obtain⟨d,g,a,e,i,b,f⟩:=h;exact⟨d,g,a,e,aj.keep k _ _ i,aj.keep k _ _ b,f⟩
theorem eY.keep {A:NP}{w w':World}(k:ah A w w'):∀{l:List Stp} {xs:LV},eY w A l xs->eY w' A l xs
 | [],_,h=>h
 |_::_,_,h=>by obtain⟨c,r,e,b,a⟩:=h;exact⟨c,r,e,b.keep k,eY.keep k a⟩
theorem oL.mono {A A':NP}{w:World}(k:∀g,g<w.heap.size->A g->A' g){s:Stp}{c:LV}(h:oL w A s c):oL w A' s c:=by
 obtain⟨d,i,a,e,j,b,f⟩:=h;exact⟨d,i,a,e,aj.mono k _ _ j,aj.mono k _ _ b,f⟩
theorem eY.mono {A A':NP}{w:World}(k:∀g,g<w.heap.size->A g->A' g):∀{l:List Stp} {xs:LV},eY w A l xs->eY w A' l xs
 | [],_,h=>h
 |_::_,_,h=>by obtain⟨c,r,e,b,a⟩:=h;exact⟨c,r,e,b.mono k,eY.mono k a⟩
theorem eY.below {A:NP}{w w':World}(k:Bw w w'){l:List Stp}{xs:LV}(h:eY w A l xs):eY w' A l xs:=h.keep (ah.below k)
theorem oL.len {A:NP}{w:World}{s:Stp}{c:LV}(h:oL w A s c):c.length=13:=by
 obtain⟨e,f,b,rfl,d,a,_⟩:=h;simp[d.len,a.len]
theorem eY.append {A:NP}{w:World}:∀{l m:List Stp} {xs ys:LV},eY w A l xs->eY w A m ys->eY w A (l++m) (xs++ys)
 | [],_,_,_,h,k=>by rw[show _=[]from h];exact k
 |s::l,m,_,ys,h,k=>by
  obtain⟨c,r,rfl,b,a⟩:=h;exact⟨c,r++ys,by rw[zc],b,eY.append a k⟩
theorem eY.one {s:Stp}(h:oL w A s c):eY w A [s] c:=⟨c,[],by simp,h,rfl⟩
theorem eY.at {A:NP}{w:World}:∀{l:List Stp} {xs:LV},eY w A l xs->∀{i:Nat} {s:Stp},l[i]?=some s->∃c,oL w A s c/\∀j,j<13->xs[13*i+j]?=c[j]?
 | [],_,_,i,s,hi=>by simp at hi
 |_::l,_,h,0,s,hi=>by
  obtain⟨c,r,rfl,a,e⟩:=h;simp at hi;subst hi;refine⟨c,a,λj b=>?_⟩;rw[Nat.mul_zero,zf,yY (by rw[a.len];exact b)]
 |_::l,_,h,i+1,s,hi=>by
  obtain⟨c,r,rfl,a,e⟩:=h;obtain⟨d,f,g⟩:=eY.at e (i:=i) (s:=s) (by simpa using hi);refine⟨d,f,λj b=>?_⟩;rw[<-g j b,yk (by rw[a.len];omega),a.len];congr 1;omega
theorem cg.step {l:List Stp}(hr:cg w A lo xs)(hl:eY w A' l xs){s:Stp}(hi:l[i]?=some s):∃b off c,lo=some (aD b off)/\A b/\b<w.heap.size/\oL w A' s c/\∀j v,c[j]?=some v->w.cell? ⟨b,off+i*13+j,none⟩=some v:=by
 obtain⟨c,f,h⟩:=hl.at hi;have q:∃v,c[0]?=some v:=⟨_,zB (by rw[f.len];decide)⟩;obtain⟨p,d⟩:=q;obtain⟨b,off,e,r,o,_⟩:=hr (13*i+0) p (by rw[h 0 (by decide)];exact d);refine⟨b,off,c,e,r,o,f,λj v k=>?_⟩;have g:j<13:=by have:=(zC.1 k).1;rw[f.len]at this;exact this
 obtain⟨t,m,a,_,_,n⟩:=hr (13*i+j) v (by rw[h j g];exact k);rw[e]at a;injection a with a;injection a with e1 e2;subst e1 e2;rw[show off+i*13+j=off+(13*i+j) by omega];exact n
theorem eY.ones {A:NP}{w:World}:∀{l:List Stp} {xs:LV},eY w A l xs->∀u∈xs,u.oneCell'=true
 | [],_,h=>by rw[show _=[]from h];simp
 |s::l,_,h=>by
  obtain⟨c,r,rfl,⟨j,k,f,rfl,i,b,_⟩,e⟩:=h;have g:=aO.ones (aO.one i);have d:=aO.ones (aO.one b);intro u a;rcases zM.1 a with a|a
  ·rcases zM.1 a with a|a
   ·rcases zM.1 a with a|a
    ·exact g u a
    ·exact d u a
   ·simp at a;subst a;rfl
  ·exact eY.ones e u a
def KK (S:Nat)(A:Nat->Prop)(nv sv:Value)(g:Nat):Prop:=(A g\/S<=g)/\nv.ownBlock≠some g/\sv.ownBlock≠some g
structure Mem (S:Nat)(A:Nat->Prop)(w wr:World)(lon:Option Addr)(ss:List Stp)(xs:List Value)(nv:Value)(sx:List Stp)(ys:List Value)(sv:Value)(ks:List (List UInt8)):Prop where
 now:cg wr (KK S A nv sv) lon xs
 nowt:eY wr (KK S A nv sv) ss xs
 nx:wr.ownsRow S 79 13 nv sx.length ys
 nxt:eY wr (KK S A nv sv) sx ys
 seen:wr.ownsRow S 9 1 sv ks.length (qZ ks)
 ne:∀g,nv.ownBlock=some g->sv.ownBlock≠some g
 bel:Below S w wr
variable {S:Nat} {A:Nat->Prop} {w wr:World} {lon:Option Addr} {ss sx:List Stp} {xs ys:List Value} {nv sv:Value} {ks:List (List UInt8)}
theorem Mem.below {w':World}(h:Mem S A w wr lon ss xs nv sx ys sv ks)(k:Bw wr w')(hS:S<=wr.heap.size):Mem S A w w' lon ss xs nv sx ys sv ks :=
 ⟨h.now.below k,h.nowt.below k,bg h.nx k,h.nxt.below k,bg h.seen k,h.ne,h.bel.trans (k.mono hS)⟩
theorem Mem.size (h:Mem S A w wr lon ss xs nv sx ys sv ks)(hS:S<=w.heap.size):S<=wr.heap.size:=zJ hS h.bel.size
theorem Mem.turn {lo2:OA}{cap2:Nat}(h:Mem S A w wr lon ss xs (.slice lo2 sx.length cap2) sx ys sv ks):Mem S A w wr lo2 sx ys (Vz) [] [] sv ks:=by
 refine⟨?_,?_,zZ _ _ _ _,rfl,h.seen,λg e=>(by cases e),h.bel⟩
 ·intro j v d;obtain⟨b,a,e,k,i,f⟩:=iQ h.nx j v d;subst e;exact⟨b,a,rfl,⟨.inr k,by simp[Value.ownBlock],h.ne b rfl⟩,i,f⟩
 ·exact h.nxt.mono λg _ c=>⟨c.1,by simp[Value.ownBlock],c.2.2⟩
theorem Mem.name {key:List UInt8}(h:Mem S A w U3 lon ss xs nv sx ys sv ks)(ho:w4.ownsRow S 9 1 v4 (ks.length+1) (qZ ks++[.string ⟨key.toArray⟩]))(hg:U3.grownBy w4 sv.ownBlock)(hm:v4.ownBlock=sv.ownBlock\/∀g,v4.ownBlock=some g->U3.heap.size<=g)(hS:S<=U3.heap.size):Mem S A w w4 lon ss xs nv sx ys v4 (ks++[key]):=by
 have b:∀g,g<U3.heap.size->sv.ownBlock≠some g->v4.ownBlock≠some g:=λg a i e=>by
  rcases hm with j|j
  ·rw[j]at e;exact i e
  ·have:=j g e;omega
 have l:ah (KK S A nv sv) U3 w4:=⟨hg.size,λg a k=>hg.block g a (λe=>k.2.2 e.symm)⟩;have f:∀g,g<U3.heap.size->KK S A nv sv g->KK S A nv sv g/\KK S A nv v4 g:=λg a d=>⟨d,d.1,d.2.1,b g a d.2.2⟩;have c:ah (λg=>KK S A nv sv g/\KK S A nv v4 g) U3 w4:=⟨hg.size,λg a k=>l.2 g a k.1⟩;refine⟨((h.now.mono f).keep c).mono λg _ hg=>hg.2,((h.nowt.mono f).keep c).mono λg _ hg=>hg.2,oR h.nx hg h.ne,((h.nxt.mono f).keep c).mono λg _ hg=>hg.2,?_,λg e=>b g (h.nx.lt g e).2 (h.ne g e),cD h.bel hS h.seen hg⟩;simpa [qZ]using ho
theorem Mem.step {s:Stp}(h:Mem S A w U3 lon ss xs nv sx ys sv ks)(ho:w4.ownsRow S 79 13 v4 (sx.length+1) (ys++c))(hg:U3.grownBy w4 nv.ownBlock)(hm:v4.ownBlock=nv.ownBlock\/∀g,v4.ownBlock=some g->U3.heap.size<=g)(hS:S<=U3.heap.size)(hs:oL U3 (KK S A nv sv) s c):Mem S A w w4 lon ss xs v4 (sx++[s]) (ys++c) sv ks:=by
 have b:∀g,g<U3.heap.size->nv.ownBlock≠some g->v4.ownBlock≠some g:=λg a l e=>by
  rcases hm with f|f
  ·rw[f]at e;exact l e
  ·have:=f g e;omega
 have n:ah (KK S A nv sv) U3 w4:=⟨hg.size,λg a m=>hg.block g a (λe=>m.2.1 e.symm)⟩;have k:∀g,g<U3.heap.size->KK S A nv sv g->KK S A nv sv g/\KK S A v4 sv g:=λg a j=>⟨j,j.1,b g a j.2.1,j.2.2⟩;have d:ah (λg=>KK S A nv sv g/\KK S A v4 sv g) U3 w4:=⟨hg.size,λg a m=>n.2 g a m.1⟩;refine⟨((h.now.mono k).keep d).mono λg _ hg=>hg.2,((h.nowt.mono k).keep d).mono λg _ hg=>hg.2,by simpa using ho,(((h.nxt.append (eY.one hs)).mono k).keep d).mono λg _ hg=>hg.2,oR h.seen hg (λg f i=>h.ne g i f),λg f i=>?_,cD h.bel hS h.nx hg⟩;exact b g (h.seen.lt g i).2 (λe=>h.ne g e i) f
def eE (LA LB:Lg)(P:List Int->Prop)(ks:List (List UInt8)):Prop:=∀key∈ks,∃(a b:Tm) (o:List Int),a.Ok/\b.Ok/\key=a.key++47::b.key/\a.L=rM LA o/\b.L=rM LB o/\ef o/\P o
theorem eE.more {Q:List Int->Prop}(h:eE LA LB P ks)(k:∀o,P o->Q o):eE LA LB Q ks:=λc e=>by
 obtain⟨a,b,o,l,d,g,m,f,i,j⟩:=h c e;exact⟨a,b,o,l,d,g,m,f,i,k o j⟩
theorem eE.add {s:Stp}(h:eE LA LB P ks)(hs:StG LA LB n s)(hp:P s.u):eE LA LB P (ks++[s.a.key++47::s.b.key]):=λb a=>by
 rcases zM.1 a with a|a
 ·exact h b a
 ·simp at a;subst a;exact⟨s.a,s.b,s.u,hs.oa,hs.ob,rfl,hs.la,hs.lb,hs.vl,hp⟩
theorem eE.dead {s:Stp}(h:eE LA LB P ks)(hs:StG LA LB n s)(hk:s.a.key++47::s.b.key∈ks)(hl:∀o,P o->bY o s.u=true):DS (dG LA LB) s.u:=by
 obtain⟨a,b,o,m,c,e,p,d,j,k⟩:=h _ hk;obtain⟨i,g⟩:=Uo hs.oa hs.ob m c e;refine⟨o,j,hl o k,λz=>?_⟩;have f:LA (o++z)↔LA (s.u++z):=by
  have:=congrFun (p.symm.trans (i▸hs.la)) z;exact iff_of_eq this
 have l:LB (o++z)↔LB (s.u++z):=by
  have:=congrFun (d.symm.trans (g▸hs.lb)) z;exact iff_of_eq this
 unfold dG;rw[f,l]
theorem StG.step {s:Stp}{c:Int}{ta tb:Tm}(h:StG LA LB n s)(hc:place c)(ha:Gd (aX s.a.L (back c)) (bz s.a.z) (s.a.z*s.a.tl) ta)(hb:Gd (aX s.b.L (back c)) (bz s.b.z) (s.b.z*s.b.tl) tb):StG LA LB (n+1) ⟨ta,tb,s.u++[back c]⟩:=by
 refine⟨ha.ok,hb.ok,?_,?_,zJ ha.z (dY h.za),zJ hb.z (dY h.zb),zJ ha.tl (Nat.mul_le_mul h.za h.ta),zJ hb.tl (Nat.mul_le_mul h.zb h.tb),λr a=>?_,?_⟩
 ·rw[ha.lg,h.la,Df]
 ·rw[hb.lg,h.lb,Df]
 ·rcases zM.1 a with a|a
  ·exact h.vl r a
  ·simp at a;subst a;exact (gL hc).1
 ·simp[h.ln]
theorem Cn {x:Int}(hx:place x)(hy:place y)(h:x<y):back x<back y:=by
 unfold place at hx hy;unfold back
 split<;>split<;>omega
theorem Om (h:hs.Pairwise (·<·))(hp:∀y∈hs,place y):(hs.map back).Pairwise (·<·):=by
 rw[List.pairwise_map];exact h.imp_of_mem λb c a=>Cn (hp _ b) (hp _ c) a
theorem EE {a b:ByteArray}(h:af a=af b):a=b:=by
 have d:a.data.toList=b.data.toList:=h;have c:a.data=b.data:=Array.toList_inj.1 d;cases a;cases b;simp at c;rw[c]
theorem Yz (x:List UInt8):af (⟨x.toArray⟩:ByteArray)=x:=by simp[af]
theorem Jf {a b:Tm}{sa sb:ByteArray}(ha:af sa=a.key)(hb:af sb=b.key):sa++{ data:=#[47] }++sb=⟨(a.key++47::b.key).toArray⟩:=by
 refine EE ?_;rw[cy,cy,ha,hb,Yz];simp[af]
theorem qE {s:ByteArray}(h:af s=t.key)(hok:t.Ok):s.size+4<=t.tl:=by
 have a:=ik hok;rw[<-h,aL]at a;exact a
theorem EF {t:LZ}(h:ef t):af (runesBytes t)=enc t:=by
 have:=xS t ByteArray.empty h;unfold runesBytes;rw[this];simp[af,enc]
theorem On (h:a<=(n+1)*400000000+i*721)(hi:i<=519841):a<=(n+1+1)*400000000:=by
 have b:i*721<=519841*721:=zn _ hi;have c:(519841*721:Nat)<=400000000:=Nat.le_of_ble_eq_true rfl;rw[Nat.succ_mul (n+1)];exact zJ h (Nat.add_le_add_left (zJ b c) _)
theorem EG {l:Nat}(h:l<=721 ^ n)(hn:n<=2):l<=519841:=zJ h (zJ (Nat.pow_le_pow_right (by decide) hn) (by decide))
theorem Vl {l:Nat}(h:a<=i*721+l)(hl:l<=721):a<=(i+1)*721:=by omega
theorem Vm {l:Nat}(h:a<=b+i*721+l)(hl:l<=721):a<=b+(i+1)*721:=by omega
def YX (L:Lg)(N:Nat)(e:Ending):Prop:=∃s ok,e=.returned (.tuple #[.string s,.bool ok])/\gZ L N s ok
theorem Oo {S:Nat}{V3 wx:World}{nv sv:Value}{ka:Nat}(h:aj wx (λg=>(KK S A nv sv g\/V3.heap.size<=g)/\g≠ka) t cs)(hb:Bw wx U3)(hgr:U3.grownBy w4 sv.ownBlock)(hmv:v4.ownBlock=sv.ownBlock\/∀g,v4.ownBlock=some g->U3.heap.size<=g)(hnv:∀g,nv.ownBlock=some g->g<V3.heap.size)(hsv:∀g,sv.ownBlock=some g->g<V3.heap.size)(hSV:S<=V3.heap.size):aj w4 (KK S A nv v4) t cs:=by
 have i:∀g,g<U3.heap.size->((KK S A nv sv g\/V3.heap.size<=g)/\g≠ka)->KK S A nv sv g/\KK S A nv v4 g:=λg c h=>by
  have a:KK S A nv sv g:=by
   rcases h.1 with h|h
   ·exact h
   ·exact⟨.inr (by omega),λe=>by have:=hnv g e;omega,λe=>by have:=hsv g e;omega⟩
  refine⟨a,a.1,a.2.1,λe=>?_⟩;rcases hmv with b|b
  ·rw[b]at e;exact a.2.2 e
  ·have:=b g e;omega
 have f:ah (λg=>KK S A nv sv g/\KK S A nv v4 g) U3 w4:=⟨hgr.size,λg c d=>hgr.block g c (λe=>d.1.2.2 e.symm)⟩;exact aj.mono (λg _ h=>h.2) _ _ (aj.keep f _ _ (aj.mono i _ _ (aj.below hb _ _ h)))
theorem YA (h:a<=(n+1)*400000000+i*721+k)(hn:n<=2)(hi:i<=519841)(hk:k<=721):(a:Int)<=2000000000:=by
 have b:i*721<=519841*721:=zn _ hi;have c:(n+1)*400000000<=3*400000000:=zn _ (Nat.succ_le_succ hn);have d:a<=3*400000000+519841*721+721:=zJ h (Nat.add_le_add (Nat.add_le_add c b) hk);exact Int.ofNat_le.2 (zJ d (Nat.le_of_ble_eq_true rfl))
theorem YB (h:a<=i*721+k)(hi:i<=519841)(hk:k<=721):(a:Int)<=400000000:=by
 have b:i*721<=519841*721:=zn _ hi;exact Int.ofNat_le.2 (zJ h (zJ (Nat.add_le_add b hk) (Nat.le_of_ble_eq_true rfl)))
structure Stb (V cur:World)(F:World->Prop):Prop where
 bel:Bw V cur
 all:∀w',Bw cur w'->F w'
theorem Stb.start (V:World):Stb V V.drew (λ_=>True):=⟨jw V,λ_ _=>trivial⟩
theorem Stb.go {V p cur:World}{F:World->Prop}(h:Stb V p F)(k:Bw p cur):Stb V cur F:=⟨bL h.bel k,λa b=>h.all a (bL k b)⟩
theorem Stb.and {V cur:World}{F G:World->Prop}(h:Stb V cur F)(k:∀w',Bw cur w'->G w'):Stb V cur (λw'=>F w'/\G w'):=⟨h.bel,λw' a=>⟨h.all w' a,k w' a⟩⟩
theorem EH (w:World)(o:Obj):Bw w.drew (w.alloc o).drew:=have h:=((zE w.heap.size w).alloc (zA _) o).drew;⟨h.os,h.tape,h.output,h.size,h.block⟩
abbrev xN:List Value:=[Vi 0,Vz,Vz,Vi 0,Vi 0,.string ⟨#[]⟩,Vi 0,Vz,Vz,Vi 0,Vi 0,.string ⟨#[]⟩,.string ⟨#[]⟩]
abbrev UC (W:World)(b:Nat)(v0 v1 v2 v3 v4 v5 v6 v7 v8 v9 v10 v11 v12:Value):World:=((((((((((((W.setCell (aD b 0) v0).setCell (aD b 1) v1).setCell (aD b 2) v2).setCell (aD b 3) v3).setCell (aD b 4) v4).setCell (aD b 5) v5).setCell (aD b 6) v6).setCell (aD b 7) v7).setCell (aD b 8) v8).setCell (aD b 9) v9).setCell (aD b 10) v10).setCell (aD b 11) v11).setCell (aD b 12) v12
abbrev Lf (V:World)(Kp:Nat->Prop)(s:Stp)(c:Int)(wx:World)(ka:Nat)(t1:Tm)(so1:Option Addr)(sn1 sc1:Nat)(lo1:Option Addr)(ln1 lc1:Nat)(m1 n1:Int)(s1:ByteArray)(t2:Tm)(so2:Option Addr)(sn2 sc2:Nat)(lo2:Option Addr)(ln2 lc2:Nat)(m2 n2:Int)(s2:ByteArray)(st:ByteArray):Prop :=
 ag wx ka (TC t1.kind so1 sn1 sc1 lo1 ln1 lc1 m1 n1 s1++TC t2.kind so2 sn2 sc2 lo2 ln2 lc2 m2 n2 s2++[.string st]) 79/\V.heap.size<=ka/\aj wx (λg=>(Kp g\/V.heap.size<=g)/\g≠ka) t1 (TC t1.kind so1 sn1 sc1 lo1 ln1 lc1 m1 n1 s1)/\aj wx (λg=>(Kp g\/V.heap.size<=g)/\g≠ka) t2 (TC t2.kind so2 sn2 sc2 lo2 ln2 lc2 m2 n2 s2)/\Gd (aX s.a.L (back c)) (bz s.a.z) (s.a.z*s.a.tl) t1/\Gd (aX s.b.L (back c)) (bz s.b.z) (s.b.z*s.b.tl) t2/\af st=enc (s.u++[back c])/\Bw V wx
theorem xO {S:Nat}(h:Below S w W)(hb:S<=b)(v0 v1 v2 v3 v4 v5 v6 v7 v8 v9 v10 v11 v12:Value):Below S w (UC W b v0 v1 v2 v3 v4 v5 v6 v7 v8 v9 v10 v11 v12):=by
 exact (((((((((((((h.setCell (p:=(aD b 0)) hb _).setCell (p:=(aD b 1)) hb _).setCell (p:=(aD b 2)) hb _).setCell (p:=(aD b 3)) hb _).setCell (p:=(aD b 4)) hb _).setCell (p:=(aD b 5)) hb _).setCell (p:=(aD b 6)) hb _).setCell (p:=(aD b 7)) hb _).setCell (p:=(aD b 8)) hb _).setCell (p:=(aD b 9)) hb _).setCell (p:=(aD b 10)) hb _).setCell (p:=(aD b 11)) hb _).setCell (p:=(aD b 12)) hb _)
theorem ag.thirteen {c0 c1 c2 c3 c4 c5 c6 c7 c8 c9 c10 c11 c12:Value}{T:TypeId}(h:ag W b [c0,c1,c2,c3,c4,c5,c6,c7,c8,c9,c10,c11,c12] T)(v0 v1 v2 v3 v4 v5 v6 v7 v8 v9 v10 v11 v12:Value):ag (UC W b v0 v1 v2 v3 v4 v5 v6 v7 v8 v9 v10 v11 v12) b [v0,v1,v2,v3,v4,v5,v6,v7,v8,v9,v10,v11,v12] T:=by
 exact (((((((((((((h.set 0 v0).set 1 v1).set 2 v2).set 3 v3).set 4 v4).set 5 v5).set 6 v6).set 7 v7).set 8 v8).set 9 v9).set 10 v10).set 11 v11).set 12 v12)
theorem Jg (h:aj W A t cs)(hn:¬A b)(v0 v1 v2 v3 v4 v5 v6 v7 v8 v9 v10 v11 v12:Value):aj (UC W b v0 v1 v2 v3 v4 v5 v6 v7 v8 v9 v10 v11 v12) A t cs:=by
 have k:∀(V:World) (o:Nat) (v:Value),ah A V (V.setCell (aD b o) v):=λV o v=>ah.set v hn;exact aj.keep (((((((((((((k _ _ _).trans (k _ _ _)).trans (k _ _ _)).trans (k _ _ _)).trans (k _ _ _)).trans (k _ _ _)).trans (k _ _ _)).trans (k _ _ _)).trans (k _ _ _)).trans (k _ _ _)).trans (k _ _ _)).trans (k _ _ _)).trans (k _ _ _)) t cs h
theorem EI (h:ef u):(enc u).length<=4*u.length:=by
 rw[<-EF h,aL];exact runesBytes_size_le u
theorem RF {c:Int}(h:runeB c=true):(Lib.encodeRune c).length<=4:=by
 have b:=EI (u:=[c]) (λr a=>by simp at a;subst a;exact h);simpa [enc]using b
theorem Hi:(prog.info? 79).map (λi=>(i.zero,i.size,i.bytes))=some (some (.agg #[Vi 0,Vz,Vz,Vi 0,Vi 0,.string ⟨#[]⟩,Vi 0,Vz,Vz,Vi 0,Vi 0,.string ⟨#[]⟩,.string ⟨#[]⟩]),13,192):=by kernel_rfl
theorem Lh {ta tb:Tm}{soa:OA}{sna sca:Nat}{loa:OA}{lna lca:Nat}{ma na:Int}{sa:ByteArray}{sob:OA}{snb scb:Nat}{lob:OA}{lnb lcb:Nat}{mb nb:Int}{sb:ByteArray}{lol:OA}{capl Bl:Nat}(N:Nat)(hN:N<=3)(hA:∀g,A g->g<w.heap.size)(hva:aj w A ta (TC ta.kind soa sna sca loa lna lca ma na sa))(hvb:aj w A tb (TC tb.kind sob snb scb lob lnb lcb mb nb sb))(oa:ta.Ok)(ob:tb.Ok)(za:ta.z<=61)(zb:tb.z<=61)(tla:ta.tl<=12420)(tlb:tb.tl<=12420)(hl:w.ownsRow Bl 3 1 (.slice lol hs.length capl) hs.length (bj hs))(hsrt:hs.Pairwise (·<·))(hpl:∀y∈hs,place y)(hcov:∀m,cX (dG ta.L tb.L) N m->∀r∈m,r∈hs.map back)(hlen:hs.length<=721):Calls prog 16 #[.agg #[Vi ta.kind,.slice soa sna sca,.slice loa lna lca,Vi ma,Vi na,.string sa],.agg #[Vi tb.kind,.slice sob snb scb,.slice lob lnb lcb,Vi mb,Vi nb,.string sb],.slice lol hs.length capl,Vi N] w λe w'=>YX (dG ta.L tb.L) N e/\Bw w w':=by
 obtain⟨W0,E3,p2,l4,j4,t9⟩:=jK (rfl:w.heap.size=_) (TC ta.kind soa sna sca loa lna lca ma na sa) 58 (TC tb.kind sob snb scb lob lnb lcb mb nb sb) 58;obtain⟨W1,p9,h0,i7,-⟩:=dS (rfl:W0.heap.size=_) [Vi ta.kind,.slice soa sna sca,.slice loa lna lca,Vi ma,Vi na,.string sa,Vi tb.kind,.slice sob snb scb,.slice lob lnb lcb,Vi mb,Vi nb,.string sb,.string ⟨#[]⟩] 79;have p1:W1.heap.size=w.heap.size+3:=by rw[<-p9];simp[t9]
 obtain⟨W2,m6,s9,-,-⟩:=dS (rfl:W1.heap.size=_) [.string (sa++{ data:=#[47] }++sb)] 9;have E5:W2.heap.size=w.heap.size+4:=by rw[<-m6];simp[p1]
 have B:af sa=ta.key:=qj hva;have u0:af sb=tb.key:=qj hvb;have G1:=qE B oa;have K4:=qE u0 ob;have h5:Bw w W2:=p2.trans ((h0.trans (s9.mono h0.size)).mono p2.size);have G5:Hid (Mem w.heap.size A w W2 (some (aD W0.heap.size 0)) [⟨ta,tb,[]⟩] (TC ta.kind soa sna sca loa lna lca ma na sa++TC tb.kind sob snb scb lob lnb lcb mb nb sb++[.string ⟨#[]⟩]) (Vz) [] [] (Vs W1.heap.size 1 1) [ta.key++47::tb.key]):=by
  refine⟨λj v hj=>⟨W0.heap.size,0,rfl,⟨.inr (by omega),by simp[Value.ownBlock],by simp[Value.ownBlock];omega⟩,by omega,?_⟩,eY.one ⟨TC ta.kind soa sna sca loa lna lca ma na sa,TC tb.kind sob snb scb lob lnb lcb mb nb sb,⟨#[]⟩,rfl,?_,?_,rfl⟩,zZ _ _ _ _,rfl,?_,λg e=>(by cases e),h5⟩
  ·rw[zf,(i7.below s9).cell];exact hj
  ·exact aj.mono (λg _ h=>⟨.inl h,by simp[Value.ownBlock],by have:=hA g h;simp[Value.ownBlock];omega⟩) _ _ (aj.below h5 _ _ hva)
  ·exact aj.mono (λg _ h=>⟨.inl h,by simp[Value.ownBlock],by have:=hA g h;simp[Value.ownBlock];omega⟩) _ _ (aj.below h5 _ _ hvb)
  ·have h1:W2.ownsRow W1.heap.size 9 1 (Vs W1.heap.size 1 1) 1 [.string (sa++{ data:=#[47] }++sb)]:=by rw[<-m6];exact JH
   rw[Jf B u0]at h1;exact ij (by simpa [qZ]using h1) (by omega)
 have C4:Hid (StG ta.L tb.L 0 ⟨ta,tb,[]⟩):=⟨oa,ob,rfl,rfl,za,zb,tla,tlb,λr hr=>by simp at hr,rfl⟩;have A8:Hid (eE ta.L tb.L (λo=>o.length<=0) [ta.key++47::tb.key]):=eE.add (ks:=[]) (λN2 K=>by simp at K) C4 (zA _);have F7:Hid (∀(j:Nat) (y:Int) (wr:World),hs[j]?=some y->Bw w wr->∃b,lol=some (aD b 0)/\b<wr.heap.size/\wr.cell? (aD b j)=some (Vi y)):=λj y wr hj hb=>by
  obtain⟨b,b7,e,_,g7,hc⟩:=iQ (bg hl hb) j _ (qJ hj);obtain⟨_,_,h7⟩:=kf hl;obtain⟨g,hg⟩:=h7 _ e;injection hg with e1 e2;subst e1 e2;exact⟨b,e,g7,by simpa using hc⟩
 have D3:=aa (Om hsrt hpl);have J6:Hid (∀r∈hs.map back,runeB r=true):=λr hr=>by
  obtain⟨y,hy,rfl⟩:=yH.1 hr;exact (gL (hpl y hy)).1
 have J4:=aa hpl;have x3:=aa hcov;have HA:=aa hA;have N4:=aa t9;have M3:=aa p1;have M9:=aa E5;have F9:=aa E3;have G9:=aa p9;have J3:=aa m6;obtain⟨a0,a1,a2,a3,a4,a5⟩:=l4.six;obtain⟨b0,b1,b2,b3,b4,b5⟩:=j4.six;have I1:=l4.lt;have K9:=j4.lt;have G7:W1.cell? (aD w.heap.size 5)=some (.string sa):=(l4.below h0).cell 5;have I7:W1.cell? (aD (w.heap.size+1) 5)=some (.string sb):=(j4.below h0).cell 5;have B0:w.heap.size<W1.heap.size:=(l4.below h0).lt;have A0:w.heap.size+1<W1.heap.size:=(j4.below h0).lt;have t4:¬9223372036854775807<sa.size+1:=by omega
 have o7:¬9223372036854775807<sa.size+1+sb.size:=by omega
 obtain⟨i9,H7,D4,B8,B7⟩:=zz AA;obtain⟨i3,H1,B9,w2,x6⟩:=zz Hi;go_enter func16,ntmps16;go_upto_region 1 with fail;rw[F9.out];generalize hS:w.heap.size=S at *;go_upto_region 2 with fail;rw[G9.out];go_wp2_with fail;rw[J3.out]
 go_loopw [10,11,12] (λnv sv iv wr=>∃(n:Nat) (j8:Option Addr) (o2:Nat) (q:List Stp) (xs:List Value) (ks:List (List UInt8)),nv=.slice j8 q.length o2/\iv=Vi n/\n<=N+1/\Mem S A w wr j8 q xs (Vz) [] [] sv ks/\(n<=N->Lv (dG ta.L tb.L) N n (q.map (·.u))/\(∀s∈q,StG ta.L tb.L n s)/\eE ta.L tb.L (λo=>o.length<=n) ks/\q.length<=721 ^ n/\ks.length<=(n+1)*400000000)/\(n=N+1->∀s,ef s->s.length<=N->¬dG ta.L tb.L s)) (λ_ _ iv _=>N+1-(intOf iv).toNat)
 case atStart=>exact⟨0,some (aD W0.heap.size 0),1,[⟨ta,tb,[]⟩],_,[ta.key++47::tb.key],rfl,rfl,zW _,G5,λ_=>⟨Lv.start,λs h=>(by simp at h;subst h;exact C4),A8,by simp,by simp⟩,λh=>(by omega)⟩
 case round=>
  obtain⟨n,j8,o2,q,xs,ks,rfl,rfl,M7,hm,x7,o0⟩:=hrel;have J:=aa hm;have A6:=aa x7;have o5:=aa o0;have n1:(0:Int)<=(n:Int):=zK _;by_cases q0:n<=N
  ·have n2:(n:Int)<=(N:Int):=by omega
   obtain⟨v9,E0,E6,u3,A9⟩:=A6.out q0;have e4:=aa v9;have E8:=aa E0;have K7:=aa E6;have L9:(q.length:Int)<=374805361:=Int.ofNat_le.2 (zJ u3 (zJ (Nat.pow_le_pow_right (by decide) (show n<=3 by omega)) (Nat.le_of_ble_eq_true rfl)));have u5:=aa u3;have D1:=aa A9;obtain⟨V,hV⟩:∃V,wr=V:=⟨_,rfl⟩;rw[hV]at J ⊢;have s6:S<=V.heap.size:=J.size (by omega);go_wp2_with fail
   go_loopw [14] (λiv wr=>∃i:Nat,iv=Vi i/\i<=q.length/\(∀x∈(q.map (·.u)).take i,¬dG ta.L tb.L x)/\Bw V wr) (λiv _=>q.length-(intOf iv).toNat)
   case atStart=>exact⟨0,rfl,zW _,λx h=>(by simp at h),zE _ _⟩
   case round=>
    obtain⟨i,rfl,J0,A4,o6⟩:=hrel;have i4:=aa A4;have i8:=aa o6;have i1:(0:Int)<=(i:Int):=zK _;by_cases i5:i<q.length
    ·have i2:(i:Int)<(q.length:Int):=by omega
     obtain⟨s,hs⟩:∃s,q[i]?=some s:=⟨_,zB i5⟩;obtain⟨b,b7,cc,rfl,u1,g7,t6,hc⟩:=J.out.now.step J.out.nowt hs;obtain⟨ca,cb,D,rfl,hva,hvb,e3⟩:=t6;obtain⟨v1,p8,u6,p6,q8,v0,mx,nx,sx,rfl,_⟩:=hva.form;obtain⟨u2,p4,v3,s5,u4,o9,my,ny,sy,rfl,_⟩:=hvb.form;obtain⟨y0,y1,y2,y3,y4,y5,y6,y7,y8,y9,q4,p0,s4⟩:=SS i8.out g7 hc;have F6:=aa hc;have K6:b<wr.heap.size:=zF g7 i8.size;have HG:Hid (StG ta.L tb.L n s):=E8.out s (zU hs);have L6:=Jt n (by omega);have C2:=aa (iR s.a wr _ _ _ _ _ _ _ _ _ _ (aj.below i8 _ _ hva) HG.oa (by have:=HG.ta;omega));have D5:=aa (aj.below i8 _ _ hvb);have o1:=aa e3;have i0:=aa hs;go_wp2_with fail;refine C2.mono ?_;rintro e O ⟨v5,rfl,E4,e8⟩;have H4:=aa E4;have A7:Hid (Bw V O):=bL i8 e8;have x5:=aa (iR s.b O _ _ _ _ _ _ _ _ _ _ (aj.below e8 _ _ D5) HG.ob (by have:=HG.tb;omega));obtain⟨z0,z1,z2,z3,z4,z5,z6,z7,z8,z9,x0,D0,C1⟩:=SS A7.out g7 F6.out;have n5:b<O.heap.size:=zF K6 e8.size;go_wp2_with fail;refine x5.mono ?_;rintro e w6 ⟨v6,rfl,q9,c3⟩;have M0:=aa q9;have m4:Hid (Bw V w6):=bL A7 c3;have M6:w6.cell? ⟨b,b7+i*13+12,none⟩=some (.string D):=(c3.cell (p:=⟨b,_,none⟩) n5).trans C1;have L1:b<w6.heap.size:=zF n5 c3.size;have m9:Hid (dG ta.L tb.L s.u↔v5≠v6):=by
      show _↔_
      have e1:s.a.L []↔ta.L s.u:=by rw[HG.out.la];unfold rM;rw[zx]
      have e2:s.b.L []↔tb.L s.u:=by rw[HG.out.lb];unfold rM;rw[zx]
      unfold dG;rw[<-e1,<-e2,<-H4.out,<-q9];cases v5<;>cases v6<;>simp
     cases v5 with
     |true=>
      cases v6 with
      |true=>
       have l7:Hid (¬dG ta.L tb.L s.u):=λh=>m9.1 h rfl;have j0:Hid ((q.map (·.u)).take (i+1)=(q.map (·.u)).take i++[s.u]):=by show _=_;rw[zi,zg,i0.out];rfl
       go_wp2_with fail
       go_roundw
       case rel=>exact⟨i+1,by go_num,by omega,by rw[j0.out];intro x hx;rcases zM.1 hx with hx|hx;exact i4 x hx;simp at hx;subst hx;exact l7,m4⟩
       case measure=>simp[intOf];omega
      |false=>
       have HD:Hid (dG ta.L tb.L s.u):=m9.2 (by simp);have v8:Hid (gZ (dG ta.L tb.L) N D true):=.inl ⟨s.u,e4.found q0 (by rw[zg,i0.out];rfl) HD i4,EE (by rw[o1.out,EF HG.out.vl]),rfl⟩;go_wp2_with fail
       go_ret2
       exact⟨⟨D,true,rfl,v8⟩,by rw[hS];exact J.bel.trans (m4.mono s6)⟩
     |false=>
      cases v6 with
      |true=>
       have HD:Hid (dG ta.L tb.L s.u):=m9.2 (by simp);have v8:Hid (gZ (dG ta.L tb.L) N D true):=.inl ⟨s.u,e4.found q0 (by rw[zg,i0.out];rfl) HD i4,EE (by rw[o1.out,EF HG.out.vl]),rfl⟩;go_wp2_with fail
       go_ret2
       exact⟨⟨D,true,rfl,v8⟩,by rw[hS];exact J.bel.trans (m4.mono s6)⟩
      |false=>
       have l7:Hid (¬dG ta.L tb.L s.u):=λh=>m9.1 h rfl;have j0:Hid ((q.map (·.u)).take (i+1)=(q.map (·.u)).take i++[s.u]):=by show _=_;rw[zi,zg,i0.out];rfl
       go_wp2_with fail
       go_roundw
       case rel=>exact⟨i+1,by go_num,by omega,by rw[j0.out];intro x hx;rcases zM.1 hx with hx|hx;exact i4 x hx;simp at hx;subst hx;exact l7,m4⟩
       case measure=>simp[intOf];omega
    ·have i2:decide ((i:Int)<(q.length:Int))=false:=zI (by omega);obtain rfl:i=q.length:=by omega
     have l3:Hid (∀x∈q.map (·.u),¬dG ta.L tb.L x):=by have:=i4.out;rwa [yF (by simp)]at this
     have w9:=aa (J.below i8 s6);go_wp2_with fail
     go_loopw [11,13,17] (λsv nv iv wr=>∃(i:Nat) (H:Option Addr) (l:Nat) (d:List Stp) (ys:List Value) (ks:List (List UInt8)),nv=.slice H d.length l/\iv=Vi i/\i<=q.length/\(n=N->i=0)/\Mem S A w wr j8 q xs nv d ys sv ks/\Nx (dG ta.L tb.L) (q.map (·.u)) (hs.map back) i 0 (d.map (·.u))/\(∀s∈d,StG ta.L tb.L (n+1) s)/\eE ta.L tb.L (λo=>o.length<=n\/kW (q.map (·.u)) (hs.map back) i 0 o) ks/\d.length<=i*721/\ks.length<=(n+1)*400000000+i*721) (λ_ _ iv _=>q.length-(intOf iv).toNat)
     case atStart=>exact⟨0,none,0,[],[],ks,rfl,rfl,zW _,λ_=>rfl,w9,Nx.start,λs h=>(by simp at h),K7.more λo h=>.inl h,by simp,zJ D1 (Nat.le_add_right _ _)⟩
     case round=>
      obtain⟨i,H,l,d,ys,ks,rfl,rfl,J0,I6,hm,l2,g4,e6,l0,g0⟩:=hrel;have J:=aa hm;have g6:=aa l2;have T:=aa g4;have a8:=aa e6;have g5:=aa l0;have e5:=aa g0;have i1:(0:Int)<=(i:Int):=zK _;by_cases i5:i<q.length/\n<N
      ·obtain⟨i5,L2⟩:=i5;have i2:(i:Int)<(q.length:Int):=by omega
       have n3:(n:Int)<(N:Int):=by omega
       obtain⟨s,m3⟩:∃s,q[i]?=some s:=⟨_,zB i5⟩;have i0:=aa m3;have HG:Hid (StG ta.L tb.L n s):=E8.out s (zU m3);have h3:Hid ((q.map (·.u))[i]?=some s.u):=by show _=_;rw[zg,m3];rfl
       go_wp2_with fail
       go_loopw [11,13,18] (λsv nv kv wr=>∃(k:Nat) (H:Option Addr) (l:Nat) (d:List Stp) (ys:List Value) (ks:List (List UInt8)),nv=.slice H d.length l/\kv=Vi k/\k<=hs.length/\Mem S A w wr j8 q xs nv d ys sv ks/\Nx (dG ta.L tb.L) (q.map (·.u)) (hs.map back) i k (d.map (·.u))/\(∀s∈d,StG ta.L tb.L (n+1) s)/\eE ta.L tb.L (λo=>o.length<=n\/kW (q.map (·.u)) (hs.map back) i k o) ks/\d.length<=i*721+k/\ks.length<=(n+1)*400000000+i*721+k) (λ_ _ kv _=>hs.length-(intOf kv).toNat)
       case atStart=>exact⟨0,H,l,d,ys,ks,rfl,rfl,zW _,J,g6,T,a8,zJ g5 (Nat.le_add_right _ _),zJ e5 (Nat.le_add_right _ _)⟩
       case round=>
        obtain⟨k,H,l,d,ys,ks,rfl,rfl,L4,hm,l2,g4,e6,l0,g0⟩:=hrel;obtain⟨e7,L,rfl⟩:=cd hm.seen;have J:=aa hm;have g6:=aa l2;have T:=aa g4;have a8:=aa e6;have g5:=aa l0;have e5:=aa g0;have k1:(0:Int)<=(k:Int):=zK _;by_cases C0:k<hs.length
        ·have k2:(k:Int)<(hs.length:Int):=by omega
         obtain⟨c,n4⟩:∃c,hs[k]?=some c:=⟨_,zB C0⟩;have J5:=aa n4;have i6:Hid (place c):=J4.out c (zU n4);have k0:Hid ((hs.map back)[k]?=some (back c)):=by show _=_;rw[zg,n4];rfl
         obtain⟨C,B4⟩:∃C,wr=C:=⟨_,rfl⟩;rw[B4]at J ⊢;go_upto_region 20 with fail
         go_cut [19] (λv wx=>∃G t1 l5 k4 k6 j9 l8 k8 m1 n1 s1 t2 j3 k7 l9 j5 k5 l6 m2 n2 s2 st,v=Vp G/\Hid (Lf C (KK S A (.slice H d.length l) (.slice e7 ks.length L)) s c wx G t1 l5 k4 k6 j9 l8 k8 m1 n1 s1 t2 j3 k7 l9 j5 k5 l6 m2 n2 s2 st))
         case first=>
          obtain⟨b,b7,cc,rfl,u1,g7,t6,hc⟩:=J.out.now.step J.out.nowt i0.out;obtain⟨ca,cb,D,rfl,hva,hvb,e3⟩:=t6;obtain⟨v1,p8,u6,p6,q8,v0,mx,nx,sx,rfl,_⟩:=hva.form;obtain⟨u2,p4,v3,s5,u4,o9,my,ny,sy,rfl,_⟩:=hvb.form;obtain⟨bl,rfl,B1,D8⟩:=F7.out k c C J5.out J.out.bel;obtain⟨A2,h6⟩:∃A2:Nat->Prop,A2=λg=>KK S A (.slice H d.length l) (.slice e7 ks.length L) g/\g<C.heap.size:=⟨_,rfl⟩;have p7:Hid (∀g,A2 g->g<C.heap.size):=λg h=>by rw[h6]at h;exact h.2
          have K8:Hid (∀g,KK S A (.slice H d.length l) (.slice e7 ks.length L) g->g<C.heap.size->A2 g):=λg h k=>by rw[h6];exact⟨h,k⟩
          have x4:Hid (∀g,A2 g->KK S A (.slice H d.length l) (.slice e7 ks.length L) g):=λg h=>by rw[h6]at h;exact h.1
          have j7:Hid (∀w',Bw C w'->(CT w' b (b7+i*13) s.a.kind v1 p8 u6 p6 q8 v0 mx nx sx/\CT w' b (b7+i*13+6) s.b.kind u2 p4 v3 s5 u4 o9 my ny sy/\w'.cell? ⟨b,b7+i*13+12,none⟩=some (.string D)/\w'.cell? (aD bl k)=some (Vi c))):=λw' h=>by
           obtain⟨y0,y1,y2,y3,y4,y5,y6,y7,y8,y9,q4,p0,s4⟩:=SS h g7 hc;exact⟨⟨y0,y1,y2,y3,y4,y5⟩,⟨y6,y7,y8,y9,q4,p0⟩,s4,(h.cell (p:=(aD bl k)) B1).trans D8⟩
          have p3:∀(u:Tm) soz snz scz loz lnz lcz mz nz sz,u.z<=lz n->u.tl<=Cw n->u.Ok->aj C (KK S A (.slice H d.length l) (.slice e7 ks.length L)) u (TC u.kind soz snz scz loz lnz lcz mz nz sz)->Hid (∀p E F,Stb C p F->Bw p E->Calls prog 30 #[.agg #[Vi u.kind,.slice soz snz scz,.slice loz lnz lcz,Vi mz,Vi nz,.string sz],Vi c] E λe O=>∃t so sn sc lo ln lc mm nn st X Y,e=.returned (.agg #[Vi (Tm.kind t),.slice so sn sc,.slice lo ln lc,Vi mm,Vi nn,.string st])/\Hid (Stb C O (λw'=>F w'/\aj w' (λg=>A2 g\/(X<g/\g<Y)) t (TC t.kind so sn sc lo ln lc mm nn st)))/\Hid (Gd (aX u.L (back c)) (bz u.z) (u.z*u.tl) t)/\C.heap.size<=X/\p.heap.size<=X/\X<=Y/\Y<=O.heap.size/\C.heap.size<=O.heap.size/\Hid (Bw E O)):=λu _ _ _ _ _ _ _ _ _ uz ut uo H2 p E F h hb=>by
           have E7:=bL h.bel hb;have h8:=E7.size;have h9:=Js n (by omega);refine (lH u E A2 _ _ _ _ _ _ _ _ _ c (λg hg=>by have:=p7.out g hg;omega) (aj.below E7 _ _ (aj.mono (λg hg K=>K8 g K hg) _ _ H2)) uo i6 (zJ (Nat.mul_le_mul uz ut) h9.1) (zJ (dY uz) h9.2)).mono ?_;rintro e O ⟨t,so,sn,sc,lo,ln,lc,mm,nn,st,rfl,g1,g2,g3⟩;refine⟨t,so,sn,sc,lo,ln,lc,mm,nn,st,E.heap.size,O.heap.size,rfl,?_,g2,h8,hb.size,g3.size,zA _,zJ h8 g3.size,g3⟩;exact ((h.go hb).go g3).and λw' k9=>aj.below k9 _ _ (aj.mono (λg hg K=>by rcases K with K|K;exact .inl K;exact .inr ⟨K,hg⟩) _ _ g1)
          have I9:=p3 s.a _ _ _ _ _ _ _ _ _ HG.za HG.ta HG.oa hva;have J9:=p3 s.b _ _ _ _ _ _ _ _ _ HG.zb HG.tb HG.ob hvb;have H9:Hid (∀(p E:World) (F:World->Prop),Stb C p F->Bw p E->Calls prog 31 #[Vi (back c)] E λe O=>∃f,e=.returned (.string f)/\Hid (Stb C O F)/\Hid (af f=Lib.encodeRune (back c))/\f.size<=4/\p.heap.size<=O.heap.size/\C.heap.size<=O.heap.size/\Hid (Bw E O)):=λp E F h hb=>by
           refine (QS (back c) E (gL i6).1).mono ?_;rintro e O ⟨f,rfl,g1,g2⟩;exact⟨f,rfl,(h.go hb).go g2,g1,by rw[<-aL,g1];exact RF (gL i6).1,zJ hb.size g2.size,zJ h.bel.size (zJ hb.size g2.size),g2⟩
          have I5:Hid (∀E:World,Calls prog 32 #[Vi c] E λe w'=>e=.returned (Vi (back c))/\w'=E):=λE=>FY c E i6.1 (by have:=i6.2;omega);have q7:Hid (∀O:World,Below (C.alloc (.cells xN.toArray 79)).drew.heap.size (C.alloc (.cells xN.toArray 79)).drew O->∃G,C.heap.size=G/\Hid (ag O G xN 79)/\C.heap.size<=G/\C.drew.heap.size<=G/\G<=C.drew.heap.size):=λO h=>⟨_,rfl,(ag.new C xN 79).below (ku h),zA _,zA _,zA _⟩;have q6:Hid (∀p O:World,Below (p.alloc (.cells xN.toArray 79)).heap.size (p.alloc (.cells xN.toArray 79)) O->C.heap.size<=p.heap.size->∃G,p.heap.size=G/\Hid (ag O G xN 79)/\C.heap.size<=G/\p.heap.size<=G/\G<=p.heap.size):=λp O h k9=>⟨_,rfl,(ag.new p xN 79).below h,k9,zA _,zA _⟩;have N6:D.size<=12:=by rw[<-aL,e3];have h1:=EI HG.vl;have h2:=HG.ln;omega
          have C3:Hid (∀f,af f=Lib.encodeRune (back c)->af (D++f)=enc (s.u++[back c])):=λf h=>by rw[cy,e3,h,SB]
          have F5:Hid (∀X7 Y7 X8 Y8 {wl F t7 c4 c6 c8 M a9 b9 m7 n7 s7 t8 c7 e0 b8 c2 c9 b6 m8 n8 s8 f},Stb C wl F->(∀w',F w'->aj w' (λg=>A2 g\/(X7<g/\g<Y7)) t7 (TC t7.kind c4 c6 c8 M a9 b9 m7 n7 s7))->(∀w',F w'->aj w' (λg=>A2 g\/(X8<g/\g<Y8)) t8 (TC t8.kind c7 e0 b8 c2 c9 b6 m8 n8 s8))->Gd (aX s.a.L (back c)) (bz s.a.z) (s.a.z*s.a.tl) t7->Gd (aX s.b.L (back c)) (bz s.b.z) (s.b.z*s.b.tl) t8->af f=Lib.encodeRune (back c)->C.heap.size<=X7->C.heap.size<=X8->Y7<=wl.heap.size->Y8<=wl.heap.size->Lf C (KK S A (.slice H d.length l) (.slice e7 ks.length L)) s c (wl.alloc (.cells #[Vi t7.kind,.slice c4 c6 c8,.slice M a9 b9,Vi m7,Vi n7,.string s7,Vi t8.kind,.slice c7 e0 b8,.slice c2 c9 b6,Vi m8,Vi n8,.string s8,.string (D++f)] 79)) wl.heap.size t7 c4 c6 c8 M a9 b9 m7 n7 s7 t8 c7 e0 b8 c2 c9 b6 m8 n8 s8 (D++f)):=by
           intro X7 Y7 X8 Y8 wl F t7 _ _ _ _ _ _ _ _ _ t8 _ _ _ _ _ _ _ _ _ f h e1 e2 g1 g2 e8 x1 x2 y1 y2;have hw:=h.all wl (zE _ _);have h8:=h.bel.size;refine⟨ag.new wl _ 79,h8,aj.below (fB (zE _ _) _) _ _ (aj.mono (λg hg K=>?_) _ _ (e1 wl hw)),aj.below (fB (zE _ _) _) _ _ (aj.mono (λg hg K=>?_) _ _ (e2 wl hw)),g1,g2,C3 f e8,fB h.bel _⟩<;>rcases K with K|K
           all_goals first|exact⟨.inl (x4 g K),by have:=p7.out g K;omega⟩|exact⟨.inr (by omega),by omega⟩
          have H3:Hid (∀X7 Y7 X8 Y8 {G wl F t7 c4 c6 c8 M a9 b9 m7 n7 s7 t8 c7 e0 b8 c2 c9 b6 m8 n8 s8 f},Stb C wl F->(∀w',F w'->aj w' (λg=>A2 g\/(X7<g/\g<Y7)) t7 (TC t7.kind c4 c6 c8 M a9 b9 m7 n7 s7))->(∀w',F w'->aj w' (λg=>A2 g\/(X8<g/\g<Y8)) t8 (TC t8.kind c7 e0 b8 c2 c9 b6 m8 n8 s8))->Gd (aX s.a.L (back c)) (bz s.a.z) (s.a.z*s.a.tl) t7->Gd (aX s.b.L (back c)) (bz s.b.z) (s.b.z*s.b.tl) t8->af f=Lib.encodeRune (back c)->C.heap.size<=X7->C.heap.size<=X8->ag wl G xN 79->C.heap.size<=G->(G<=X7\/Y7<=G)->(G<=X8\/Y8<=G)->Lf C (KK S A (.slice H d.length l) (.slice e7 ks.length L)) s c (UC wl G (Vi t7.kind) (.slice c4 c6 c8) (.slice M a9 b9) (Vi m7) (Vi n7) (.string s7) (Vi t8.kind) (.slice c7 e0 b8) (.slice c2 c9 b6) (Vi m8) (Vi n8) (.string s8) (.string (D++f))) G t7 c4 c6 c8 M a9 b9 m7 n7 s7 t8 c7 e0 b8 c2 c9 b6 m8 n8 s8 (D++f)):=by
           intro X7 Y7 X8 Y8 G wl F t7 _ _ _ _ _ _ _ _ _ t8 _ _ _ _ _ _ _ _ _ f h e1 e2 g1 g2 e8 x1 x2 H8 c1 y1 y2;have hw:=h.all wl (zE _ _);refine⟨H8.thirteen _ _ _ _ _ _ _ _ _ _ _ _ _,c1,Jg (aj.mono (λg hg K=>?_) _ _ (e1 wl hw)) (λK=>K.2 rfl) _ _ _ _ _ _ _ _ _ _ _ _ _,Jg (aj.mono (λg hg K=>?_) _ _ (e2 wl hw)) (λK=>K.2 rfl) _ _ _ _ _ _ _ _ _ _ _ _ _,g1,g2,C3 f e8,xO h.bel c1 _ _ _ _ _ _ _ _ _ _ _ _ _⟩<;>rcases K with K|K
           all_goals first|exact⟨.inl (x4 g K),by have:=p7.out g K;omega⟩|exact⟨.inr (by omega),by omega⟩
          have HS:=aa (Stb.start C);have J7:=aa (j7 C.drew (jw C));have N9:C.heap.size<=C.drew.heap.size:=zA _
          go_region_held3 (λw'=>CT w' b (b7+i*13) s.a.kind v1 p8 u6 p6 q8 v0 mx nx sx/\CT w' b (b7+i*13+6) s.b.kind u2 p4 v3 s5 u4 o9 my ny sy/\w'.cell? ⟨b,b7+i*13+12,none⟩=some (.string D)/\w'.cell? (aD bl k)=some (Vi c))
           (first|with_reducible exact J7.out|with_reducible exact j7.out _ HS.out.bel|with_reducible exact j7.out _ (fB HS.out.bel _)|with_reducible exact j7.out _ (xO HS.out.bel c1 _ _ _ _ _ _ _ _ _ _ _ _ _)|with_reducible exact j7.out _ (OB (zE _ _) _)|fail)
           (first
            |(go_at_call 30;with_reducible refine (I9.out _ _ _ HS.out (by first|with_reducible exact zE _ _|with_reducible exact fB (zE _ _) _|with_reducible exact EH _ _)).mono ?_;rintro e wa ⟨t7,c4,c6,c8,M,a9,b9,m7,n7,s7,X7,Y7,rfl,HS,D9,B5,N5,M1,M8,q3,HD⟩;(first|(clear r0 r1 r2 r3 r4 r5 r6 r7 r8 r9 Z a7 a6 f0 f1 f2 f3 f4 f5 f6 f7 f8 f9 R W Q U;with_reducible have a:=aa (a.out.below HD.out);obtain⟨r0,r1,r2,r3,r4,r5,r6,r7,r8,r9,Z,a7,a6⟩:=a.out.c13;obtain⟨f0,f1,f2,f3,f4,f5,f6,f7,f8,f9,R,W,Q,U⟩:=a.out.f13)|(with_reducible obtain⟨G,B,a,c1,q1,q2⟩:=q7.out _ HD.out;rw[B];obtain⟨r0,r1,r2,r3,r4,r5,r6,r7,r8,r9,Z,a7,a6⟩:=a.out.c13;obtain⟨f0,f1,f2,f3,f4,f5,f6,f7,f8,f9,R,W,Q,U⟩:=a.out.f13)|(with_reducible obtain⟨G,B,a,c1,q1,q2⟩:=q6.out _ _ HD.out (by first|with_reducible exact q3|with_reducible exact t3|with_reducible exact s3);rw[B];obtain⟨r0,r1,r2,r3,r4,r5,r6,r7,r8,r9,Z,a7,a6⟩:=a.out.c13;obtain⟨f0,f1,f2,f3,f4,f5,f6,f7,f8,f9,R,W,Q,U⟩:=a.out.f13)|skip))
            |(go_at_call 30;with_reducible refine (J9.out _ _ _ HS.out (by first|with_reducible exact zE _ _|with_reducible exact fB (zE _ _) _|with_reducible exact EH _ _)).mono ?_;rintro e wb ⟨t8,c7,e0,b8,c2,c9,b6,m8,n8,s8,X8,Y8,rfl,HS,x9,A3,L7,L8,N1,t3,HD⟩;(first|(clear r0 r1 r2 r3 r4 r5 r6 r7 r8 r9 Z a7 a6 f0 f1 f2 f3 f4 f5 f6 f7 f8 f9 R W Q U;with_reducible have a:=aa (a.out.below HD.out);obtain⟨r0,r1,r2,r3,r4,r5,r6,r7,r8,r9,Z,a7,a6⟩:=a.out.c13;obtain⟨f0,f1,f2,f3,f4,f5,f6,f7,f8,f9,R,W,Q,U⟩:=a.out.f13)|(with_reducible obtain⟨G,B,a,c1,q1,q2⟩:=q7.out _ HD.out;rw[B];obtain⟨r0,r1,r2,r3,r4,r5,r6,r7,r8,r9,Z,a7,a6⟩:=a.out.c13;obtain⟨f0,f1,f2,f3,f4,f5,f6,f7,f8,f9,R,W,Q,U⟩:=a.out.f13)|(with_reducible obtain⟨G,B,a,c1,q1,q2⟩:=q6.out _ _ HD.out (by first|with_reducible exact q3|with_reducible exact t3|with_reducible exact s3);rw[B];obtain⟨r0,r1,r2,r3,r4,r5,r6,r7,r8,r9,Z,a7,a6⟩:=a.out.c13;obtain⟨f0,f1,f2,f3,f4,f5,f6,f7,f8,f9,R,W,Q,U⟩:=a.out.f13)|skip))
            |(go_at_call 32;with_reducible refine (I5.out _).mono ?_;rintro e w8 ⟨rfl,rfl⟩)
            |(go_at_call 31;with_reducible refine (H9.out _ _ _ HS.out (by first|with_reducible exact zE _ _|with_reducible exact fB (zE _ _) _|with_reducible exact EH _ _)).mono ?_;rintro e wt ⟨f,rfl,HS,w1,zt,pt,s3,HD⟩;have z8:D.size+f.size<=9223372036854775807:=(by omega);have z9:=λw=>run_string_add_sum (P:=prog) (w:=w) D f z8;have x0:decide (9223372036854775807<D.size+f.size)=false:=zI (by omega);have D0:(9223372036854775807<D.size+f.size)=False:=eq_false (by omega);(first|(clear r0 r1 r2 r3 r4 r5 r6 r7 r8 r9 Z a7 a6 f0 f1 f2 f3 f4 f5 f6 f7 f8 f9 R W Q U;with_reducible have a:=aa (a.out.below HD.out);obtain⟨r0,r1,r2,r3,r4,r5,r6,r7,r8,r9,Z,a7,a6⟩:=a.out.c13;obtain⟨f0,f1,f2,f3,f4,f5,f6,f7,f8,f9,R,W,Q,U⟩:=a.out.f13)|(with_reducible obtain⟨G,B,a,c1,q1,q2⟩:=q7.out _ HD.out;rw[B];obtain⟨r0,r1,r2,r3,r4,r5,r6,r7,r8,r9,Z,a7,a6⟩:=a.out.c13;obtain⟨f0,f1,f2,f3,f4,f5,f6,f7,f8,f9,R,W,Q,U⟩:=a.out.f13)|(with_reducible obtain⟨G,B,a,c1,q1,q2⟩:=q6.out _ _ HD.out (by first|with_reducible exact q3|with_reducible exact t3|with_reducible exact s3);rw[B];obtain⟨r0,r1,r2,r3,r4,r5,r6,r7,r8,r9,Z,a7,a6⟩:=a.out.c13;obtain⟨f0,f1,f2,f3,f4,f5,f6,f7,f8,f9,R,W,Q,U⟩:=a.out.f13)|skip))
            |fail)
          all_goals go_wp2_with fail
          all_goals go_meet
          all_goals first
           |exact⟨G,t7,c4,c6,c8,M,a9,b9,m7,n7,s7,t8,c7,e0,b8,c2,c9,b6,m8,n8,s8,D++f,rfl,H3 X7 Y7 X8 Y8 HS (λw' h=>by first|exact h.2|exact h.1.2) (λw' h=>by first|exact h.2|exact h.1.2) D9 x9 w1 B5 A3 a c1 (by omega) (by omega)⟩
           |exact⟨_,t7,c4,c6,c8,M,a9,b9,m7,n7,s7,t8,c7,e0,b8,c2,c9,b6,m8,n8,s8,D++f,rfl,F5 X7 Y7 X8 Y8 HS (λw' h=>by first|exact h.2|exact h.1.2) (λw' h=>by first|exact h.2|exact h.1.2) D9 x9 w1 B5 A3 (by omega) (by omega)⟩
         case rest=>
          obtain⟨G,t1,l5,k4,k6,j9,l8,k8,m1,s0,s1,t2,j3,k7,l9,j5,k5,l6,m2,v2,s2,st,rfl,I⟩:=hcut;have g8:Hid (StG ta.L tb.L (n+1) ⟨t1,t2,s.u++[back c]⟩):=HG.step i6 I.2.2.2.2.1 I.2.2.2.2.2.1;have a:=aa I.1;have E1:Hid (Bw C wc):=I.2.2.2.2.2.2.2;have h4:S<=C.heap.size:=J.size (by omega);have n0:=aa (J.below E1 h4);have i7:af s1=t1.key:=qj I.2.2.1;have t0:af s2=t2.key:=qj I.2.2.2.1;have t4:=qE i7 g8.oa;have o7:=qE t0 g8.ob;have G6:t1.tl<=Cw (n+1):=g8.ta;have F3:t2.tl<=Cw (n+1):=g8.tb;have G2:=Jt (n+1) (by omega);have H0:¬9223372036854775807<s1.size+1:=by omega
          have F8:¬9223372036854775807<s1.size+1+s2.size:=by omega
          have c5:wc.cell? (aD G 5)=some (.string s1):=a.cell 5;have G0:wc.cell? (aD G 11)=some (.string s2):=a.cell 11;have L3:G<wc.heap.size:=a.lt;have C5:=aa (Jf i7 t0);have u9:i<=519841:=zJ (yJ i5) (EG u5 (by omega));have M4:=YA e5 (by omega) u9 (by omega);have N0:=YB g5 u9 (by omega);go_wp2_with fail;rw[C5.out];obtain⟨KY,t5⟩:∃KY,t1.key++47::t2.key=KY:=⟨_,rfl⟩;rw[t5];have D2:=aa t5
          go_loopw [21,22] (λbv jv wz=>∃(j:Nat) (bo:Bool),bv=.bool bo/\jv=Vi j/\j<=ks.length/\(bo=true↔KY∈ks.take j)/\wz=wc) (λ_ jv _=>ks.length-(intOf jv).toNat)
          case atStart=>exact⟨0,false,rfl,rfl,zW _,⟨λh=>(by cases h),λh=>by simp at h⟩,rfl⟩
          case round=>
           obtain⟨j,bo,rfl,rfl,N3,w3,u7⟩:=hrel;have m0:=aa w3;have j1:(0:Int)<=(j:Int):=zK _;replace u7:=u7.symm;subst u7;by_cases E2:j<ks.length
           ·have j2:(j:Int)<(ks.length:Int):=by omega
            obtain⟨z,hz⟩:∃z,ks[j]?=some z:=⟨_,zB E2⟩;obtain⟨bs,b7,rfl,_,N8,hc⟩:=(iQ n0.out.seen) j (.string ⟨z.toArray⟩) (by unfold qZ;rw[zg,hz];rfl);obtain⟨_,_,h7⟩:=kf n0.out.seen;obtain⟨g9,I0⟩:=h7 _ rfl;injection I0 with e1 e2;subst e1 e2;have c0:wc.cell? (aD bs j)=some (.string ⟨z.toArray⟩):=by simpa using hc
            have j0:Hid (ks.take (j+1)=ks.take j++[z]):=by show _=_;rw[zi,hz];rfl
            cases bo with
            |true=>
             go_wp2_with fail
             go_roundw
             case rel=>exact⟨j+1,true,rfl,by go_num,by omega,⟨λ_=>by rw[j0.out];exact yq _ (m0.1 rfl),λ_=>rfl⟩,trivial⟩
             case measure=>simp[intOf];omega
            |false=>
             go_wp2_with fail
             go_roundw
             case rel=>exact⟨j+1,_,rfl,by go_num,by omega,by
              rw[j0.out];constructor
              ·intro h;have e9:z=KY:=JI (by simpa using h);rw[e9];simp
              ·intro h;rcases zM.1 h with h|h
               ·have:=m0.2 h;cases this
               ·simp at h;subst h;simp,trivial⟩
             case measure=>simp[intOf];omega
           ·have j2:decide ((j:Int)<(ks.length:Int))=false:=zI (by omega);obtain rfl:j=ks.length:=by omega
            have B3:Hid (bo=true↔KY∈ks):=by have:=m0.out;rw[zQ]at this;exact this
            have K0:Hid (∀o,(o.length<=n\/kW (q.map (·.u)) (hs.map back) i k o)->bY o (s.u++[back c])=true):=λo h=>by
             rcases h with h|h
             ·rw[fI];left;rw[zH,HG.out.ln];exact Nat.lt_succ_of_le h
             ·exact GN e4 D3 h3 k0 h
            have B6:Hid (eE ta.L tb.L (λo=>o.length<=n\/kW (q.map (·.u)) (hs.map back) i (k+1) o) ks):=a8.more λo h=>by
             rcases h with h|h
             ·exact .inl h
             ·exact .inr ((lK h3 k0).2 (.inl h))
            cases bo with
            |true=>
             have G3:Hid (DS (dG ta.L tb.L) (s.u++[back c])):=eE.dead (s:=⟨t1,t2,s.u++[back c]⟩) a8 g8 (by show t1.key++47::t2.key∈ks;rw[D2.out];exact B3.1 rfl) K0;have l7:=aa (g6.drop h3 k0 G3);go_wp2_with fail
             go_roundw
             case rel=>exact⟨k+1,H,l,d,ys,ks,rfl,by go_num,by omega,n0,l7,T,B6,zJ g5 (yN _),zJ e5 (yN _)⟩
             case measure=>simp[intOf];omega
            |false=>
             have J8:=aa (g6.keep e4 D3 h3 k0);have K5:Hid (eE ta.L tb.L (λo=>o.length<=n\/kW (q.map (·.u)) (hs.map back) i (k+1) o) (ks++[KY])):=by
              show eE _ _ _ _
              rw[<-D2.out];exact eE.add (s:=⟨t1,t2,s.u++[back c]⟩) B6 g8 (.inr ((lK h3 k0).2 (.inr rfl)))
             obtain⟨U3,A5,k3,q5,-⟩:=dS (rfl:wc.heap.size=_) [.string ⟨KY.toArray⟩] 9;replace q5:=aa q5;have J2:=aa A5;have A1:S<=wc.heap.size:=zJ h4 E1.size;have F0:=aa (n0.below k3 A1);have F1:S<=U3.heap.size:=zJ A1 k3.size;have C9:=aa k3;have K1:=aa (a.below k3);have G8:Hid (some G≠Value.ownBlock (.slice e7 ks.length L)):=λe=>by
              have h1:=(J.seen.lt G e.symm).2;have h2:=I.2.1;omega
             go_upto_region 29 with (at_builtin;rw[J2.out];refine jg rfl (.tmp 140) (.tmp 142) 81 9 i9 _ 1 16 rfl underlying81 H7 D4 B8 B7 rfl (by decide) S ks.length _ _ rfl F0.seen _ 1 _ [.string ⟨KY.toArray⟩] rfl rfl (by decide) (λj u hj=>by rw[zl,zf,q5.out.cell];exact hj) (λu hu=>by simp at hu;subst hu;rfl) (by unfold maxLen;omega) (by omega) F1 ?_;intro v4 w4 j6 n6 o4;have HF:=aa (p5.intro j6 (p5.intro n6 o4)));have D6:=aa (F0.name HF.1 HF.2.1 HF.2.2 F1);have x8:=aa (K1.grown HF.2.1 G8);have I2:=aa (Oo I.2.2.1 C9 HF.2.1 HF.2.2 (λg e=>(J.nx.lt g e).2) (λg e=>(J.seen.lt g e).2) h4);have I3:=aa (Oo I.2.2.2.1 C9 HF.2.1 HF.2.2 (λg e=>(J.nx.lt g e).2) (λg e=>(J.seen.lt g e).2) h4);obtain⟨H6,w0,rfl⟩:=cd HF.out.1;have L0:G<w4.heap.size:=x8.lt;obtain⟨d0,d1,d2,d3,d4,d5,d6,d7,d8,d9,L5,M2,N7⟩:=x8.out.c13;obtain⟨U6,C8,c3,u8,-⟩:=dS (rfl:w4.heap.size=_) [Vi t1.kind,.slice l5 k4 k6,.slice j9 l8 k8,Vi m1,Vi s0,.string s1,Vi t2.kind,.slice j3 k7 l9,.slice j5 k5 l6,Vi m2,Vi v2,.string s2,.string st] 79;replace u8:=aa u8;have J1:=aa C8;have C7:S<=w4.heap.size:=D6.size (by omega);have C6:=aa (D6.below c3 C7);have B2:S<=U6.heap.size:=zJ C7 c3.size;have E9:Hid (oL U6 (KK S A (.slice H d.length l) (.slice H6 (ks.length+1) w0)) ⟨t1,t2,s.u++[back c]⟩ (TC t1.kind l5 k4 k6 j9 l8 k8 m1 s0 s1++TC t2.kind j3 k7 l9 j5 k5 l6 m2 v2 s2++[.string st])):=⟨_,_,st,rfl,aj.below c3 _ _ I2,aj.below c3 _ _ I3,I.2.2.2.2.2.2.1⟩;go_wp2_with (at_builtin;rw[J1.out];refine jg rfl (.tmp 144) (.tmp 146) 80 79 i3 _ 13 192 rfl underlying80 H1 B9 w2 x6 rfl (by decide) S d.length _ _ rfl C6.nx _ 1 _ (TC t1.kind l5 k4 k6 j9 l8 k8 m1 s0 s1++TC t2.kind j3 k7 l9 j5 k5 l6 m2 v2 s2++[.string st]) rfl rfl (by decide) (λj u hj=>by rw[zl,zf,u8.out.cell];exact hj) (eY.ones (eY.one E9)) (by unfold maxLen;omega) (by omega) B2 ?_;intro v7 w7 l1 n9 o3;have m5:=aa (p5.intro l1 (p5.intro n9 o3)));have F4:=aa (C6.step m5.1 m5.2.1 m5.2.2 B2 E9);obtain⟨M,D7,rfl⟩:=cd m5.out.1
             go_roundw
             case rel=>exact⟨k+1,M,D7,d++[⟨t1,t2,s.u++[back c]⟩],_,ks++[KY],by simp,by go_num,by omega,F4,by simpa using J8,λs' F2=>(by rcases zM.1 F2 with h|h;exact T s' h;simp at h;subst h;exact g8),K5,by rw[zH];exact Nat.succ_le_succ g5,by rw[zH];exact Nat.succ_le_succ e5⟩
             case measure=>simp[intOf];omega
        ·have k2:decide ((k:Int)<(hs.length:Int))=false:=zI (by omega);obtain rfl:k=hs.length:=by omega
         have G4:Hid (Nx (dG ta.L tb.L) (q.map (·.u)) (hs.map back) (i+1) 0 (d.map (·.u))):=by
          have h1:=g6.out;have e:hs.length=(hs.map back).length:=by simp
          rw[e]at h1;exact h1.next h3
         have K2:Hid (eE ta.L tb.L (λo=>o.length<=n\/kW (q.map (·.u)) (hs.map back) (i+1) 0 o) ks):=a8.more λo h=>by
          rcases h with h|h
          ·exact .inl h
          ·exact .inr ((xi h3).2 (by rw[ym];exact h))
         go_wp2_with fail
         go_roundw
         case rel=>exact⟨i+1,H,l,d,ys,ks,rfl,by go_num,by omega,λh=>(by omega),J,G4,T,K2,Vl g5 hlen,Vm e5 hlen⟩
         case measure=>simp[intOf];omega
      ·by_cases M5:i<q.length
       ·have i2:(i:Int)<(q.length:Int):=by omega
        have n3:decide ((n:Int)<(N:Int))=false:=zI (by omega);obtain rfl:n=N:=by omega
        have o8:=aa (e4.none l3);obtain rfl:i=0:=I6 rfl;have HT:=aa J.turn;go_wp2_with fail
        go_roundw
        case rel=>exact⟨n+1,H,l,d,ys,ks,rfl,by go_num,by omega,HT,λh=>(by omega),λ_=>o8⟩
        case measure=>simp[intOf]
       ·have i2:decide ((i:Int)<(q.length:Int))=false:=zI (by omega);obtain rfl:i=q.length:=by omega
        have HT:=aa J.turn;have K3:Hid (n=N->∀s,ef s->s.length<=N->¬dG ta.L tb.L s):=λe=>by subst e;exact e4.none l3
        have I4:Hid (n<N->Lv (dG ta.L tb.L) N (n+1) (d.map (·.u))):=λh=>by
         have h1:=g6.out;have e:q.length=(q.map (·.u)).length:=by simp
         rw[e]at h1;exact h1.done e4 l3 J6 x3
        have I8:Hid (eE ta.L tb.L (λo=>o.length<=n+1) ks):=a8.more λo h=>by
         rcases h with h|h
         ·exact Nat.le_succ_of_le h
         ·rcases h with⟨x,h1,r,_,rfl⟩|⟨x,_,r,h2,_⟩
          ·rw[zH,e4.out.len x (yi h1)];exact zA _
          ·simp at h2
        go_wp2_with fail
        go_roundw
        case rel=>exact⟨n+1,H,l,d,ys,ks,rfl,by go_num,by omega,HT,λh=>⟨I4 (by omega),T,I8,by have h1:=g5.out;have h2:=u5.out;rw[Nat.pow_succ];exact zJ h1 (zn _ h2),On e5 (EG u5 (by omega))⟩,λh=>K3 (by omega)⟩
        case measure=>simp[intOf];omega
  ·have n2:decide ((n:Int)<=(N:Int))=false:=zI (by omega);obtain rfl:n=N+1:=by omega
   have HF:=aa (o5 rfl);have H5:Hid (Bw w wr):=by show Below _ _ _;rw[hS];exact J.bel
   go_wp2_with fail;refine zN (v:=.tuple #[.string ⟨#[]⟩,.bool false]) (by simp[results,results16,go_sem]) rfl ?_;exact⟨⟨⟨#[]⟩,false,rfl,.inr ⟨HF,rfl,rfl⟩⟩,by first|exact H5|exact J.bel⟩
theorem Ql (hh:HeadsG qs hs)(hok:∀q∈qs,PCanon q){D:List Int->Prop}(hD:∀f:Int->Int,(∀q∈qs,∀r,runeB r=true->memB (told q) r=memB (told q) (f r))->fo f D){N:Nat}{m:LZ}(hm:cX D N m):∀r∈m,r∈hs.map back:=by
 have g:∀r:Int,∃r',runeB r=true->r'∈hs.map back/\r'<=r/\runeB r'=true/\∀q∈qs,memB (told q) r=memB (told q) r':=λr=>by
  by_cases a:runeB r=true
  ·obtain⟨s,n,x⟩:=BW a;obtain⟨h,c,k,j⟩:=hh.rep (up r) n;have l:=hh.pl h c;obtain⟨o,p⟩:=gL l;refine⟨back h,λ_=>⟨List.mem_map_of_mem c,?_,o,λq b=>?_⟩⟩
   ·rw[<-s];rcases Int.lt_or_eq_of_le k with d|d
    ·exact Int.le_of_lt (Cn l n d)
    ·rw[d];exact yv _
   ·rw[gb (hok q b) _ a,gb (hok q b) _ o,p];exact (j q b).symm
  ·exact⟨r,λh=>absurd h a⟩
 obtain⟨f,i⟩:∃f:Int->Int,∀r,runeB r=true->f r∈hs.map back/\f r<=r/\runeB (f r)=true/\∀q∈qs,memB (told q) r=memB (told q) (f r):=⟨λr=>Classical.choose (g r),λr=>Classical.choose_spec (g r)⟩;have v:=hD f λq b r a=>(i r a).2.2.2 q b;obtain⟨c,k,j,d⟩:=hm;have w:ef (m.map f):=λr a=>by
  obtain⟨q,b,rfl⟩:=yH.1 a;exact (i q (c q b)).2.2.1
 have t:=d (m.map f) w ((v m c).1 k) (by simpa using j);have u:bY m (m.map f)=false:=by
  rw[gE];exact⟨by simp,λ_=>Bj m (λr a=>(i r (c r a)).2.1)⟩
 have e:=oW u t;intro r a;rw[e]at a;obtain⟨q,b,rfl⟩:=yH.1 a;exact (i q (c q b)).1
theorem Uc {f:Int->Int}:fo f eA:=λ_ _=>Iff.rfl
theorem Ud :dG L eA=L:=by
 funext t;refine propext ⟨λh=>Classical.byContradiction λa=>h ⟨λh=>absurd h a,λh=>h.elim⟩,λh a=>a.1 h⟩
theorem GE {p:Pat}(hp:p.Ok)(sp:Small p){g:Nat}{k:Int}{so:OA}{sn sc:Nat}{ln lc:Nat}{n:Int}(hv:NV w A p (bT k so sn sc lo ln lc m n r) g)(hA:∀g,A g->g<w.heap.size)(most:Int):Calls prog 8 #[.agg #[Vi k,.slice so sn sc,.slice lo ln lc,Vi m,Vi n,Vi r],Vi most] w λe w'=>qf p.Mt most e/\Bw w w':=by
 obtain⟨V,hV,u,a6,-⟩:=dS (rfl:w.heap.size=_) [Vi k,.slice so sn sc,.slice lo ln lc,Vi m,Vi n,Vi r] 27;have B:=aa u;have HV:=aa hV;by_cases hm:0<=most/\most<=3
 ·obtain⟨N,rfl⟩:∃N:Nat,most=N:=⟨most.toNat,by omega⟩;have hN:N<=3:=by omega
  have HT:Hid (∀(d a:World) (F:World->Prop),Stb V d F->Bw d a->Calls prog 17 #[.agg #[Vi k,.slice so sn sc,.slice lo ln lc,Vi m,Vi n,Vi r]] a λe z=>∃t so sn sc lo ln lc T nn W,e=.returned (.agg #[Vi (Tm.kind t),.slice so sn sc,.slice lo ln lc,Vi T,Vi nn,.string W])/\Hid (Stb V z (λw'=>F w'/\aj w' (λg=>A g\/V.heap.size<=g) t (TC t.kind so sn sc lo ln lc T nn W)))/\Hid (fA p t)):=λd a F h x=>by
   have i:=bL h.bel x;have h8:=i.size;have h7:=u.size;refine (nr p a A g k so sn sc lo ln lc m n r ((hv.below u).below i) (λg y=>by have:=hA g y;omega) hp (zJ sp.nd (by decide)) (zJ sp.rg (by decide))).mono ?_;rintro e z ⟨t,so,sn,sc,lo,ln,lc,T,nn,W,rfl,K,g2,g3⟩;exact⟨t,so,sn,sc,lo,ln,lc,T,nn,W,rfl,((h.go x).go g3).and λw' k9=>aj.below k9 _ _ (aj.mono (λg y D=>by rcases D with D|D;exact .inl D;exact .inr (by omega)) _ _ K),g2⟩
  have HZ:Hid (∀(d a:World) (F:World->Prop),Stb V d F->Bw d a->Calls prog 18 #[] a λe z=>∃t so sn sc lo ln lc T nn W,e=.returned (.agg #[Vi (Tm.kind t),.slice so sn sc,.slice lo ln lc,Vi T,Vi nn,.string W])/\Hid (Stb V z (λw'=>F w'/\aj w' (λg=>A g\/V.heap.size<=g) t (TC t.kind so sn sc lo ln lc T nn W)))/\Hid ((λt=>t=.none) t)):=λd a F h x=>by
   have i:=bL h.bel x;have h8:=i.size;refine (fG a).mono ?_;rintro e z ⟨t,so,sn,sc,lo,ln,lc,T,nn,W,rfl,K,g2,g3⟩;exact⟨t,so,sn,sc,lo,ln,lc,T,nn,W,rfl,((h.go x).go g3).and λw' k9=>aj.below k9 _ _ (aj.mono (λg y D=>by rcases D with D|D;exact D.elim;exact .inr (by omega)) _ _ K),g2⟩
  have b9:Hid (∀(d a:World) (F:World->Prop),Stb V d F->Bw d a->Calls prog 20 #[.agg #[Vi k,.slice so sn sc,.slice lo ln lc,Vi m,Vi n,Vi r]] a λe z=>∃l j c E,e=.returned (.slice l (List.length j) c)/\Hid (Stb V z (λw'=>F w'/\(w'.ownsRow V.heap.size 24 1 (.slice l j.length c) j.length E/\gh w' A j E)))/\Hid (SetsG [p] j)):=λd a F h x=>by
   have i:=bL h.bel x;have h8:=i.size;have h7:=u.size;refine (nw p a A g k so sn sc lo ln lc m n r ((hv.below u).below i) (λg y=>by have:=hA g y;omega) (zJ sp.nd (by decide))).mono ?_;rintro e z ⟨v',j,E,rfl,K,g2,g3,g4⟩;obtain⟨l,c,rfl⟩:=cd K;exact⟨l,j,c,E,rfl,((h.go x).go g4).and λw' k9=>⟨bg (ij K h8) k9,g2.below k9⟩,g3⟩
  have b3:Hid (∀(d a:World) (F:World->Prop) (l:Option Addr) (j:List (List (Int×Int))) (c:Nat) (E:List Value),Stb V d F->Bw d a->(∀w',F w'->(w'.ownsRow V.heap.size 24 1 (.slice l j.length c) j.length E/\gh w' A j E))->SetsG [p] j->Calls prog 19 #[.slice l j.length c] a λe z=>∃o q b,e=.returned (.slice o (List.length q) b)/\Hid (Stb V z (λw'=>F w'/\w'.ownsRow V.heap.size 3 1 (.slice o q.length b) q.length (bj q)))/\Hid (HeadsG j q/\q.length<=721)):=λd a F l j c E h x he y=>by
   have i:=bL h.bel x;have hF:=he a (h.all a x);have h1:=y.sum;have h2:=y.len;have h3:=sp.rg;have h4:=sp.nd;simp only[cr,bH]at h1 h2;refine (Pp hF.1 hF.2 y.ok (by omega) (by omega)).mono ?_;rintro e z ⟨v',q,rfl,K,g2,g3,g4⟩;obtain⟨o,b,rfl⟩:=cd K;exact⟨o,q,b,rfl,((h.go x).go g4).and λw' k9=>bg (ij K i.size) k9,g2,by omega⟩
  have c0:Hid (∀(d a:World) (F:World->Prop) (I:Tm) (O:Option Addr) (a7 U:Nat) (Y:Option Addr) (Z Q:Nat) (m1 n1:Int) (s1:ByteArray) (t2:Tm) (J:Option Addr) (R M:Nat) (P:Option Addr) (H X:Nat) (m2 n2:Int) (s2:ByteArray) (o:Option Addr) (q:List Int) (b:Nat) (j:List (List (Int×Int))),Stb V d F->Bw d a->(∀w',F w'->aj w' (λg=>A g\/V.heap.size<=g) I (TC I.kind O a7 U Y Z Q m1 n1 s1))->(∀w',F w'->aj w' (λg=>A g\/V.heap.size<=g) t2 (TC t2.kind J R M P H X m2 n2 s2))->(∀w',F w'->w'.ownsRow V.heap.size 3 1 (.slice o q.length b) q.length (bj q))->fA p I->t2=.none->(HeadsG j q/\q.length<=721)->SetsG [p] j->Calls prog 16 #[.agg #[Vi I.kind,.slice O a7 U,.slice Y Z Q,Vi m1,Vi n1,.string s1],.agg #[Vi t2.kind,.slice J R M,.slice P H X,Vi m2,Vi n2,.string s2],.slice o q.length b,Vi N] a λe z=>∃s ok,e=.returned (.tuple #[.string s,.bool ok])/\Hid (gZ p.Mt N s ok)/\Hid (Bw V z)):=λd a F I O a7 U Y Z Q m1 n1 s1 t2 J R M P H X m2 n2 s2 o q b j h x e1 e2 e3 L b4 hh hq=>by
   have i:=bL h.bel x;have hF:=h.all a x;have b0:=L.lg;have hz:=L.z;have ht:=L.tl;have c3:=sp.z;have c2:=sp.nd;have c1:=sp.rg;subst b4;have b1:∀m,cX (dG I.L Tm.none.L) N m->∀r∈m,r∈q.map back:=λm hm=>Ql hh.1 hq.ok (λf hf=>by
    have h1:fo f I.L:=by rw[b0];exact hq.cov p (by simp) f hf
    have h2:fo f Tm.none.L:=by rw[Tm.L_none];exact Uc
    exact RI h1 h2) hm
   refine (Lh (A:=λg=>(A g\/V.heap.size<=g)/\g<a.heap.size) N hN (λg y=>y.2) (aj.mono (λg y D=>⟨D,y⟩) _ _ (e1 a hF)) (aj.mono (λg y D=>⟨D,y⟩) _ _ (e2 a hF)) L.ok trivial (by omega) (by show 1<=61;decide) (by omega) (by show 12<=12420;decide) (e3 a hF) hh.1.srt hh.1.pl b1 hh.2).mono ?_;rintro e z ⟨⟨s,ok,rfl,hl⟩,g3⟩;refine⟨s,ok,rfl,?_,bL i g3⟩;rw[b0,Tm.L_none,Ud]at hl;exact hl
  have G:=aa (Stb.start V);obtain⟨a0,a1,a2,a3,a4,a5⟩:=a6.six;have C:=a6.lt;have n1:decide ((N:Int)<0)=false:=zI (by omega);have n2:decide (3<(N:Int))=false:=zI (by omega);have a8:Hid (∀w',Bw V w'->(w'.cell? (aD w.heap.size 0)=some (Vi k)/\w'.cell? (aD w.heap.size 1)=some (.slice so sn sc)/\w'.cell? (aD w.heap.size 2)=some (.slice lo ln lc)/\w'.cell? (aD w.heap.size 3)=some (Vi m)/\w'.cell? (aD w.heap.size 4)=some (Vi n)/\w'.cell? (aD w.heap.size 5)=some (Vi r))):=λw' h=>⟨(h.cell (p:=(aD w.heap.size 0)) C).trans a0,(h.cell (p:=(aD w.heap.size 1)) C).trans a1,(h.cell (p:=(aD w.heap.size 2)) C).trans a2,(h.cell (p:=(aD w.heap.size 3)) C).trans a3,(h.cell (p:=(aD w.heap.size 4)) C).trans a4,(h.cell (p:=(aD w.heap.size 5)) C).trans a5⟩;have b7:=aa (a8 V.drew (jw V));go_enter func8,ntmps8;go_upto_region 1 with fail;rw[HV.out];generalize hS:w.heap.size=S at *;go_wp2_with fail
  go_region_held3 (λw'=>w'.cell? (aD S 0)=some (Vi k)/\w'.cell? (aD S 1)=some (.slice so sn sc)/\w'.cell? (aD S 2)=some (.slice lo ln lc)/\w'.cell? (aD S 3)=some (Vi m)/\w'.cell? (aD S 4)=some (Vi n)/\w'.cell? (aD S 5)=some (Vi r))
   (first|with_reducible exact b7.out|with_reducible exact a8.out _ G.out.bel|with_reducible exact a8.out _ a9.out|fail)
   (first
    |(go_at_call 17;with_reducible refine (HT.out _ _ _ G.out (zE _ _)).mono ?_;rintro e wa ⟨I,O,a7,U,Y,Z,Q,m1,n1,s1,rfl,G,b8⟩)
    |(go_at_call 18;with_reducible refine (HZ.out _ _ _ G.out (zE _ _)).mono ?_;rintro e wb ⟨t2,J,R,M,P,H,X,m2,n2,s2,rfl,G,b6⟩)
    |(go_at_call 20;with_reducible refine (b9.out _ _ _ G.out (zE _ _)).mono ?_;rintro e wc ⟨l,j,c,E,rfl,G,HQ⟩)
    |(go_at_call 19;with_reducible refine (b3.out _ _ _ l j c E G.out (zE _ _) (λw' h=>by first|exact h.2|exact h.1.2|exact h.1.1.2|exact h.1.1.1.2) HQ.out).mono ?_;rintro e wd ⟨o,q,b,rfl,G,HH⟩)
    |(go_at_call 16;with_reducible refine (c0.out _ _ _ I _ _ _ _ _ _ _ _ _ t2 _ _ _ _ _ _ _ _ _ o q b j G.out (zE _ _) (λw' h=>by first|exact h.2|exact h.1.2|exact h.1.1.2|exact h.1.1.1.2) (λw' h=>by first|exact h.2|exact h.1.2|exact h.1.1.2|exact h.1.1.1.2) (λw' h=>by first|exact h.2|exact h.1.2|exact h.1.1.2|exact h.1.1.1.2) b8.out b6.out HH.out HQ.out).mono ?_;rintro e we ⟨s9,b2,rfl,b5,a9⟩)
    |fail)
  all_goals go_wp2_with fail
  all_goals refine zN (v:=.tuple #[.string s9,.bool b2,Vi 0]) (by simp[results,results8,go_sem]) rfl ⟨.inr ⟨N,s9,b2,rfl,hN,rfl,b5⟩,by first|exact B.trans (a9.mono B.size)|(rw[hS];exact B.trans (a9.mono (by have:=B.size;omega)))⟩
 ·have HM:Hid (¬(0<=most/\most<=3)):=hm;by_cases h0:most<0
  ·go_enter func8,ntmps8;go_upto_region 1 with fail;rw[HV.out];go_wp2_with fail;refine zN (v:=.tuple #[.string ⟨#[]⟩,.bool false,Vi 9]) (by simp[results,results8,go_sem]) rfl ⟨.inl ⟨HM,rfl⟩,B⟩
  ·have h1:decide (most<0)=false:=zI h0;have h3:3<most:=by omega
   go_enter func8,ntmps8;go_upto_region 1 with fail;rw[HV.out];go_wp2_with fail;refine zN (v:=.tuple #[.string ⟨#[]⟩,.bool false,Vi 9]) (by simp[results,results8,go_sem]) rfl ⟨.inl ⟨HM,rfl⟩,B⟩
set_option maxHeartbeats 8000000
open Go.Shelf Go.Lib
theorem Dk {D:List Int->Prop}{s t:LZ}(h:cX D n s)(k:cX D n t):s=t:=oW (k.2.2.2 s h.1 h.2.1 h.2.2.1) (h.2.2.2 t k.1 k.2.1 k.2.2.1)
theorem Dl {s t:ByteArray}{a b:Bool}(h:gZ L n s a)(k:gZ L n t b):s=t/\a=b:=by
 rcases h with⟨u,c,i,g⟩|⟨c,i,g⟩<;>rcases k with⟨v,d,j,f⟩|⟨d,j,f⟩
 ·have e:=Dk c d;subst e;exact⟨i.trans j.symm,g.trans f.symm⟩
 ·exact absurd c.2.1 (d u c.1 c.2.2.1)
 ·exact absurd d.2.1 (c v d.1 d.2.2.1)
 ·exact⟨i.trans j.symm,g.trans f.symm⟩
theorem Dm {e e':Ending}(h:qf L m e)(k:qf L m e'):∃(s:ByteArray) (a:Bool) (er:Int),e=.returned (.tuple #[.string s,.bool a,Vi er])/\e'=.returned (.tuple #[.string s,.bool a,Vi er]):=by
 rcases h with⟨c,d⟩|⟨n,s,a,c,d,l,o⟩<;>rcases k with⟨g,f⟩|⟨p,t,b,g,f,j,i⟩
 ·exact⟨_,_,_,d,f⟩
 ·exact absurd ⟨by omega,by omega⟩ c
 ·exact absurd ⟨by omega,by omega⟩ g
 ·obtain rfl:n=p:=by omega
  obtain⟨rfl,rfl⟩:=Dl o i;exact⟨_,_,_,l,j⟩
theorem GW {e:Ending}(h:qf L m e):∃(s:ByteArray) (a:Bool) (er:Int),e=.returned (.tuple #[.string s,.bool a,Vi er]):=by
 rcases h with⟨_,c⟩|⟨n,s,a,_,_,b,_⟩
 ·exact⟨_,_,_,c⟩
 ·exact⟨_,_,_,b⟩
theorem Xa {p:Pat}{g:Nat}(h:NV w (λ_=>True) p c g):NV w (λq=>q<w.heap.size) p c g:=NV.mono (λ_ a _=>a) p c g h
theorem GX (s:ByteArray)(most:Int)(hT:Bc w)(hm:s.size<=9223372036854775807):Calls prog 3 #[.string s,Vi most] w λe w'=>e=.returned (.bool true)/\Bw w w':=by
 have T:=aa hT;have Z:=aa hm;go_enter func3,ntmps3;go_wp2_with fail;refine (Mz T.1).mono ?_;rintro e w1 ⟨rfl,j⟩;have m:=aa j;have q:=aa (T.below j);go_wp2_with fail;refine (LY s q.1 Z).mono ?_;rintro e v ⟨b,Y,k,I,G,S,P,Q,K,L,R,M,gr,op,rfl,l⟩;have a:Bw v (v.alloc (.cells #[Vi k,.slice I G S,.slice P Q K,Vi L,Vi R,Vi M] 27)):=(zE _ _).alloc (zA _) _;have y:=aa (ag.new v [Vi k,.slice I G S,.slice P Q K,Vi L,Vi R,Vi M] 27);have c:=aa (m.trans ((b.mono m.size).trans (a.mono (zJ m.size b.size))));have i:=aa ((q.below b).below a);cases op with
 |none=>
  have B:Y=.pointer none:=l;subst B;go_wp2_with fail;go_ret;exact⟨rfl,c⟩
 |some p=>
  obtain⟨t,o,N,⟨bx,A,rfl,U⟩,u,X⟩:=l;have E:=aa (U.below a);have x:=aa (NV.keep (ah.below a) p _ 0 u);have r:=aa t;have z:=aa o;go_upto_region 5 with fail;generalize hW:v.alloc (.cells #[Vi k,.slice I G S,.slice P Q K,Vi L,Vi R,Vi M] 27)=W3 at y c i E x ⊢;have HC:=aa (Ii r z E i.2.1 i.2.2 most);go_wp2_with fail;refine HC.mono ?_;rintro e F ⟨d,f⟩;obtain⟨V,a4,e4,rfl⟩:=GW f;have H:=aa f;have n:=y.below d;obtain⟨x0,x1,x2,x3,x4,x5⟩:=n.six;have W:=n.lt;have D:=aa d;have HD:Hid (∀J w',(qf p.Mt most J/\Bw F w')->J=.returned (.tuple #[.string V,.bool a4,Vi e4])/\Bw F w'):=λJ w' h=>by
   obtain⟨s5,a5,e5,h1,h2⟩:=Dm H.out h.1;rw[h1];exact⟨h2,h.2⟩
  have HR:=aa (GE r z (Xa (NV.keep (ah.below d) p _ 0 x)) (λg h=>h) most);go_wp2_with fail;refine (HR.mono HD).mono ?_;rintro e w5 ⟨rfl,C⟩;have O:=aa C;go_wp2_with fail;go_ret;exact⟨by simp,c.trans ((D.trans (O.mono D.size)).mono c.size)⟩
