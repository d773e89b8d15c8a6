import Derived.Test.YtebnghmioamheaaGreatDoorM49
import Derived.Test.YtebnghmioamheaaGreatDoorM45
set_option linter.all false
namespace Go.Proofs.YtebnghmioamheaaGreatDoor
open Go.RowKit Brm Tryz
variable {x:Int×Int}{Q qs:List (List (Int×Int))}{R q:LQ}{at_ out u v hs:LZ}{i k n a b:Nat}{y r m:Int}{w w' U3 w4 W:World}{cs xs c:LV}{A A':NP}{lo:OA}{v4:Value}{LA LB L:Lg}{P:List Int->Prop}{t:Tm}
def Ak (at_:List Int)(x:Int×Int):Prop:=x.1∈at_/\(x.2<1112063->x.2+1∈at_)
structure AtG (Q:List (List (Int×Int)))(R:List (Int×Int))(at_:List Int):Prop where
 srt:at_.Pairwise (·<·)
 zero:(0:Int)∈at_
 pl:∀y∈at_,place y
 old:∀q∈Q,∀x∈q,Ak at_ x
 now:∀x∈R,Ak at_ x
theorem AtG.start:AtG [] [] [0]:=⟨by simp,by simp,λy h=>by simp at h;subst h;exact⟨by decide,by decide⟩,λq h=>by simp at h,λx h=>by simp at h⟩
theorem Ak.more {a b:LZ}(h:Ak a x)(k:∀y∈a,y∈b):Ak b x:=⟨k _ h.1,λc=>k _ (h.2 c)⟩
theorem AtG.step1 {at2:LZ}(h:AtG Q R at_)(hx:PGood x)(hs:at2.Pairwise (·<·))(hm:∀y,y∈at2↔y∈at_\/y=x.1):AtG Q R at2/\x.1∈at2:=by
 have a:∀y∈at_,y∈at2:=λy b=>(hm y).2 (.inl b);unfold PGood at hx;refine⟨⟨hs,a _ h.zero,λy b=>?_,λq d z c=>(h.old q d z c).more a,λz c=>(h.now z c).more a⟩,(hm _).2 (.inr rfl)⟩;rcases (hm y).1 b with b|rfl
 ·exact h.pl y b
 ·exact⟨hx.1,by omega⟩
theorem AtG.step2 {at2:LZ}(h:AtG Q R at_)(hx:PGood x)(h1:x.1∈at_)(hl:x.2<1112063)(hs:at2.Pairwise (·<·))(hm:∀y,y∈at2↔y∈at_\/y=x.2+1):AtG Q (R++[x]) at2:=by
 have a:∀y∈at_,y∈at2:=λy c=>(hm y).2 (.inl c);unfold PGood at hx;refine⟨hs,a _ h.zero,λy c=>?_,λq d z b=>(h.old q d z b).more a,λz b=>?_⟩
 ·rcases (hm y).1 c with c|rfl
  ·exact h.pl y c
  ·exact⟨by omega,by omega⟩
 ·rcases zM.1 b with b|b
  ·exact (h.now z b).more a
  ·simp at b;subst b;exact⟨a _ h1,λ_=>(hm _).2 (.inr rfl)⟩
theorem AtG.step3 (h:AtG Q R at_)(h1:x.1∈at_)(hl:¬x.2<1112063):AtG Q (R++[x]) at_:=by
 refine⟨h.srt,h.zero,h.pl,h.old,λz a=>?_⟩;rcases zM.1 a with a|a
 ·exact h.now z a
 ·simp at a;subst a;exact⟨h1,λk=>absurd k hl⟩
theorem AtG.next (h:AtG Q R at_):AtG (Q++[R]) [] at_:=by
 refine⟨h.srt,h.zero,h.pl,λq a x b=>?_,λx b=>by simp at b⟩;rcases zM.1 a with a|a
 ·exact h.old q a x b
 ·simp at a;subst a;exact h.now x b
theorem XI:∀(l:LZ) (x:Int),(∃a∈l,a<=x)->∃a∈l,a<=x/\∀b∈l,b<=x->b<=a:=EM
theorem AtG.rep (h:AtG Q [] at_){x:Int}(hx:place x):∃a∈at_,a<=x/\∀q∈Q,memB q a=memB q x:=by
 unfold place at hx;obtain⟨a,l,j,d⟩:=XI at_ x ⟨0,h.zero,hx.1⟩;refine⟨a,l,j,λq f=>?_⟩;rw[ze,mem_true,mem_true];constructor
 ·rintro⟨y,b,g,m⟩;obtain⟨i,e⟩:=h.old q f y b;refine⟨y,b,by omega,?_⟩;rcases Int.lt_or_le y.2 x with k|c
  ·have:=d _ (e (by omega)) (by omega);omega
  ·exact c
 ·rintro⟨y,b,g,m⟩;obtain⟨i,e⟩:=h.old q f y b;exact⟨y,b,d _ i g,by omega⟩
def eL (qs:List (List (Int×Int)))(a:Int):List UInt8:=qs.map λq=>if memB q a then 1 else 0
theorem SO {a b:Int}(h:eL qs a=eL qs b):∀q∈qs,memB q a=memB q b:=by
 unfold eL at h;intro q c;have:=List.map_inj_left.1 h q c;revert this;cases memB q a<;>cases memB q b<;>simp
theorem Fw (qs:List (List (Int×Int)))(a:Int):(eL qs a).length=qs.length:=by simp[eL]
structure HdI (qs:List (List (Int×Int)))(at_:List Int)(i:Nat)(out:List Int):Prop where
 sub:∀y∈out,y∈at_.take i
 srt:out.Pairwise (·<·)
 all:∀y∈at_.take i,∃h∈out,h<=y/\eL qs h=eL qs y
theorem HdI.start :HdI qs at_ 0 []:=⟨λy h=>by simp at h,by simp,λy h=>by simp at h⟩
theorem HdI.old (h:HdI qs at_ i out)(hs:at_.Pairwise (·<·))(hy:at_[i]?=some y){z:Int}(hz:z∈out)(hsg:eL qs z=eL qs y):HdI qs at_ (i+1) out:=by
 have e:at_.take (i+1)=at_.take i++[y]:=by rw[zi,hy];rfl
 refine⟨λx a=>by rw[e];exact yq _ (h.sub x a),h.srt,λx a=>?_⟩;rw[e]at a;rcases zM.1 a with a|a
 ·exact h.all x a
 ·simp at a;subst a;have b:=hs.sublist (List.take_sublist (i+1) at_);rw[e,yA]at b;have:=b.2.2 z (h.sub z hz) x (by simp);exact⟨z,hz,by omega,hsg⟩
theorem HdI.new (h:HdI qs at_ i out)(hs:at_.Pairwise (·<·))(hy:at_[i]?=some y):HdI qs at_ (i+1) (out++[y]):=by
 have e:at_.take (i+1)=at_.take i++[y]:=by rw[zi,hy];rfl
 have d:=hs.sublist (List.take_sublist (i+1) at_);rw[e,yA]at d;refine⟨λx c=>?_,?_,λx c=>?_⟩
 ·rw[e];rcases zM.1 c with c|c
  ·exact yq _ (h.sub x c)
  ·exact List.mem_append_right _ c
 ·rw[yA];exact⟨h.srt,by simp,λa f b l=>d.2.2 a (h.sub a f) b l⟩
 ·rw[e]at c;rcases zM.1 c with c|c
  ·obtain⟨z,j,g,k⟩:=h.all x c;exact⟨z,yq _ j,g,k⟩
  ·simp at c;subst c;exact⟨x,by simp,yv _,rfl⟩
structure HeadsG (qs:List (List (Int×Int)))(out:List Int):Prop where
 srt:out.Pairwise (·<·)
 pl:∀y∈out,place y
 rep:∀x,place x->∃h∈out,h<=x/\∀q∈qs,memB q h=memB q x
theorem HdI.done (h:HdI qs at_ at_.length out)(ha:AtG qs [] at_):HeadsG qs out:=by
 have d:=h.sub;have b:=h.all;rw[zQ]at d b;refine⟨h.srt,λy e=>ha.pl y (d y e),λx g=>?_⟩;obtain⟨a,i,l,j⟩:=ha.rep g;obtain⟨z,f,m,k⟩:=b a i;exact⟨z,f,by omega,λq c=>(SO k q c).trans (j q c)⟩
theorem JH {e:TypeId}{v:Value}:(w.alloc (.cells #[v] e)).ownsRow w.heap.size e 1 (Vs w.heap.size 1 1) 1 [v]:=by
 refine⟨rfl,.inr ⟨w.heap.size,1,#[v],rfl,zA _,?_,zA _,by unfold maxLen;decide,rfl,rfl⟩⟩;have h:=ag.new w [v] e;exact h
def qZ (l:List (List UInt8)):List Value:=l.map λs=>.string ⟨s.toArray⟩
theorem Mb:(prog.info? 5).map (λi=>(i.zero,i.size,i.bytes))=some (some (.int .u8 0),1,1):=by kernel_rfl
set_option maxHeartbeats 4000000
set_option maxRecDepth 100000
theorem Po {l:List (List (Int×Int))}(i:Nat):fw (l.take i)<=fw l:=by
 have h:fw l=fw (l.take i)+fw (l.drop i):=by rw[<-lX,zj]
 omega
theorem VX {l:List (List (Int×Int))}(h:l[i]?=some q):fw (l.take (i+1))=fw (l.take i)+q.length:=by
 rw[zi,h,lX];simp[fw]
def rX (qs:List (List (Int×Int)))(y:Int)(k:Nat)(cs:List Value):Prop:=cs.length=qs.length/\∀j q,qs[j]?=some q->cs[j]?=some (Value.int .u8 (if j<k/\memB q y=true then 1 else 0))
theorem rX.start :rX qs y 0 (List.replicate qs.length (.int .u8 0)):=⟨by simp,λj q h=>by
 have a:=(zC.1 h).1;simp[a]⟩
theorem rX.yes (h:rX qs y k cs)(hq:qs[k]?=some q)(hm:memB q y=true):rX qs y (k+1) (cs.set k (.int .u8 1)):=by
 refine⟨by simp[h.1],λj d a=>?_⟩;have b:=(zC.1 a).1;by_cases e:k=j
 ·subst e;rw[hq]at a;injection a with a;subst a;rw[List.getElem?_set_self (by rw[h.1];exact b),zX ⟨by omega,hm⟩]
 ·rw[List.getElem?_set_ne e,h.2 j d a];by_cases c:j<k
  ·simp[c,show j<k+1 by omega]
  ·simp[c,show ¬j<k+1 by omega]
theorem rX.no (h:rX qs y k cs)(hq:qs[k]?=some q)(hm:memB q y=false):rX qs y (k+1) cs:=by
 refine⟨h.1,λj c a=>?_⟩;rw[h.2 j c a];by_cases e:j=k
 ·subst e;rw[hq]at a;injection a with a;subst a;simp[hm]
 ·by_cases b:j<k
  ·simp[b,show j<k+1 by omega]
  ·simp[b,show ¬j<k+1 by omega]
theorem rX.conv {U cap:Nat}(h:rX qs y qs.length cs)(hb:ag w U cs 5):(convert 93 9 (Vs U qs.length cap)).run prog w=.ok (.string ⟨(eL qs y).toArray⟩) w:=by
 have d:=run_convert_bytes_back (P:=prog) w 93 9 5 (aD U 0) cap (eL qs y) underlying93 underlying5 underlying9 (λj a=>by
  rw[Fw]at a;obtain⟨q,c⟩:∃q,qs[j]?=some q:=⟨_,zB a⟩;have b:qs[j]=q:=yT ((zB a).symm.trans c);rw[zl,zf,hb.cell,h.2 j q c];simp only[eL,List.getElem_map,b,a,yB];cases memB q y<;>simp)
 rw[Fw]at d;exact d
theorem oR {B e size:Nat}{v u:Value}(h:w.ownsRow B e size v n xs)(hg:w.grownBy w' u.ownBlock)(hne:∀g,v.ownBlock=some g->u.ownBlock≠some g):w'.ownsRow B e size v n xs:=bP h λg k=>hg.block g (h.lt g k).2 λe=>hne g k e.symm
theorem JI {a b:List UInt8}(h:(⟨a.toArray⟩:ByteArray).toList=(⟨b.toArray⟩:ByteArray).toList):a=b:=by
 have:=kE h;simpa [af]using this
def XM (w:World)(qs:List (List (Int×Int)))(e:Ending)(w':World):Prop:=∃v' out,e=.returned v'/\w'.ownsRow w.heap.size 3 1 v' out.length (bj out)/\HeadsG qs out/\out.length<=1+2*fw qs/\Bw w w'
theorem Pp {B:Nat}{cap:Nat}{vs:LV}(hown:w.ownsRow B 24 1 (.slice lo qs.length cap) qs.length vs)(hvs:gh w A qs vs)(hok:∀q∈qs,PCanon q)(hlen:qs.length<=2000000)(hsum:fw qs<=200000):Calls prog 19 #[.slice lo qs.length cap] w (XM w qs):=by
 have h8:Hid (∀(i:Nat) (q:List (Int×Int)) (wr:World),qs[i]?=some q->Bw w wr->∃b so sc,lo=some (aD b 0)/\b<wr.heap.size/\wr.cell? (aD b i)=some (.slice so q.length sc)/\Rd wr so q/\PCanon q):=λi q wr hi hb=>by
  obtain⟨so,sc,m,o⟩:=(hvs.below hb).at hi;have hr:=iQ (bg hown hb);obtain⟨b,g1,e,_,d3,hc⟩:=hr i _ m;obtain⟨_,_,s⟩:=kf hown;obtain⟨g,hg⟩:=s _ e;injection hg with e1 e2;subst e1 e2;exact⟨b,so,sc,e,d3,by simpa using hc,o.rd,hok q (zU hi)⟩
 have f5:=aa hsum;obtain⟨W0,d8,e5,-,-⟩:=dS (rfl:w.heap.size=_) [Vi 0] 3;replace e5:=aa e5;have m0:Hid (W0.ownsRow w.heap.size 3 1 (Vs w.heap.size 1 1) 1 (bj [0])):=by show W0.ownsRow _ _ _ _ _ _;rw[<-d8];exact JH
 have l1:=aa d8;go_enter func19,ntmps19;go_wp2_with fail;rw[l1.out]
 go_loopw [3,4] (λov iv wr=>∃(i:Nat) (a:List Int),iv=Vi i/\i<=qs.length/\wr.ownsRow w.heap.size 3 1 ov a.length (bj a)/\AtG (qs.take i) [] a/\a.length<=1+2*fw (qs.take i)/\Bw w wr) (λ_ iv _=>qs.length-(intOf iv).toNat)
 case atStart=>exact⟨0,[0],rfl,zW _,m0,by simpa using AtG.start,by simp,e5⟩
 case round=>
  obtain⟨i,a,rfl,l3,hown,I,W,d⟩:=hrel;obtain⟨m2,m3,rfl⟩:=cd hown;have HO:=aa hown;have C:=aa I;have D:=aa W;have E:=aa d;have G:w.heap.size<=wr.heap.size:=d.size;have i1:(0:Int)<=(i:Int):=zK _;by_cases d4:i<qs.length
  ·have i2:(i:Int)<(qs.length:Int):=by omega
   obtain⟨q,hq⟩:∃q,qs[i]?=some q:=⟨_,zB d4⟩;have HQ:=aa hq;have i7:=aa (VX hq);have l5:Hid (fw (qs.take (i+1))<=fw qs):=Po _;have k5:Hid (qs.take (i+1)=qs.take i++[q]):=by show _=_;rw[zi,hq];rfl
   go_wp2_with fail
   go_loopw [3,5] (λov kv wr2=>∃(k:Nat) (a:List Int),kv=Vi k/\k<=q.length/\wr2.ownsRow w.heap.size 3 1 ov a.length (bj a)/\AtG (qs.take i) (q.take k) a/\a.length<=1+2*(fw (qs.take i)+k)/\Bw w wr2) (λ_ kv _=>q.length-(intOf kv).toNat)
   case atStart=>exact⟨0,a,rfl,zW _,HO,by simpa using C,by have:=D.out;omega,E⟩
   case round=>
    obtain⟨k,a2,rfl,e0,hown,I,W,d⟩:=hrel;obtain⟨n8,m4,rfl⟩:=cd hown;obtain⟨b,so,sc,rfl,b0,c0,Y,M⟩:=h8.out i q wr HQ.out d;have k9:=ri M;have G:w.heap.size<=wr.heap.size:=d.size;have k1:(0:Int)<=(k:Int):=zK _;have HO:=aa hown;have C:=aa I;have D:=aa W;have E:=aa d;by_cases r:k<q.length
    ·have k2:(k:Int)<(q.length:Int):=by omega
     obtain⟨x,hx⟩:∃x,q[k]?=some x:=⟨_,zB r⟩;obtain⟨bs,os,rfl,X,d0,d1⟩:=Y k x hx;have HX:Hid (PGood x):=M.1 x (zU hx);have a4:Hid (q.take (k+1)=q.take k++[x]):=by show _=_;rw[zi,hx];rfl
     have l8:a2.length<=500000:=by have m:=i7.out;have o:=l5.out;have h3:=f5.out;omega
     have HR:=aa (xT (x:=x.1) G hown (by omega) I.srt);have k0:(0:Int)<=x.2/\x.2<=1112063:=by have:=HX.out;unfold PGood at this;omega
     obtain⟨k0,n3⟩:=k0;go_wp2_with fail;refine HR.mono ?_;rintro e w5 ⟨v5,a5,rfl,d5,f7,j3,g4,R⟩;obtain⟨n0,m5,rfl⟩:=cd d5;have j8:=aa d5;have t:=aa (C.step1 HX f7 j3);have S:Hid (Bw w w5):=E.trans (R.mono G);have h7:=aa g4;have g3:w.heap.size<=w5.heap.size:=S.size;have m8:b<w5.heap.size:=zF b0 R.size;have m7:bs<w5.heap.size:=zF X R.size;have n7:w5.cell? (aD b i)=some (.slice (some ⟨bs,os,none⟩) q.length sc):=(R.cell (p:=(aD b i)) b0).trans c0;have n9:w5.cell? ⟨bs,os+k*2+1,none⟩=some (Vi x.2):=(R.cell (p:=⟨bs,_,none⟩) X).trans d1;have n1:a5.length<=600000:=by omega
     by_cases a1:x.2<1112063
     ·have f2:=aa (xT (x:=x.2+1) g3 j8 (by omega) t.1.srt);go_wp2_with fail;refine f2.mono ?_;rintro e w6 ⟨v6,a6,rfl,i8,i0,g0,f3,K⟩;have HF:=aa (T.intro i8 (T.intro (t.1.step2 HX t.2 a1 i0 g0) (T.intro f3 (f S (K.mono (zA _))))));go_wp2_with fail
      go_roundw
      case rel=>exact⟨k+1,a6,by go_num,by omega,HF.1,by rw[a4.out];exact HF.2.1,by have m:=HF.2.2.1;have o:=h7.out;have h3:=D.out;omega,HF.2.2.2⟩
      case measure=>simp[intOf];omega
     ·have n4:decide (x.2<1112063)=false:=zI a1;go_wp2_with fail
      go_roundw
      case rel=>exact⟨k+1,a5,by go_num,by omega,j8,by rw[a4.out];exact t.1.step3 t.2 (by omega),by have o:=h7.out;have h3:=D.out;omega,S⟩
      case measure=>simp[intOf];omega
    ·have k2:decide ((k:Int)<(q.length:Int))=false:=zI (by omega);obtain rfl:k=q.length:=by omega
     go_wp2_with fail
     go_roundw
     case rel=>exact⟨i+1,a2,by go_num,by omega,HO,by rw[k5.out];have:=C.out;rw[zQ]at this;exact this.next,by have m:=D.out;have o:=i7.out;omega,E⟩
     case measure=>simp[intOf];omega
  ·have i2:decide ((i:Int)<(qs.length:Int))=false:=zI (by omega);obtain rfl:i=qs.length:=by omega
   rw[zQ]at C D;obtain⟨l,k3⟩:∃l,wr=l:=⟨_,rfl⟩;rw[k3]at HO E G ⊢;have g7:Hid (∀(j:Nat) (y:Int) (wr:World),a[j]?=some y->Bw l wr->∃b,m2=some (aD b 0)/\b<wr.heap.size/\wr.cell? (aD b j)=some (Vi y)):=λj y wr hj hb=>by
    obtain⟨b,g1,e,_,d3,hc⟩:=iQ (bg HO.out hb) j _ (qJ hj);obtain⟨_,_,s⟩:=kf HO.out;obtain⟨g,hg⟩:=s _ e;injection hg with e1 e2;subst e1 e2;exact⟨b,e,d3,by simpa using hc⟩
   have l8:a.length<=400001:=by have m:=D.out;have o:=f5.out;omega
   obtain⟨i3,l9,f9,f1,j4⟩:=zz jo;obtain⟨i9,l2,j1,j5,f8⟩:=zz AA;go_wp2_with fail
   go_loopw [6,7,8] (λov sv iv wr=>∃(i:Nat) (c:List Int),iv=Vi i/\i<=a.length/\wr.ownsRow l.heap.size 3 1 ov c.length (bj c)/\wr.ownsRow l.heap.size 9 1 sv c.length (qZ (c.map (eL qs)))/\(∀g,ov.ownBlock=some g->sv.ownBlock≠some g)/\HdI qs a i c/\c.length<=i/\Bw l wr) (λ_ _ iv _=>a.length-(intOf iv).toNat)
   case atStart=>exact⟨0,[],rfl,zW _,zZ _ _ _ _,zZ _ _ _ _,λg h=>(by cases h),HdI.start,zA _,zE _ _⟩
   case round=>
    obtain⟨i,c,rfl,l3,H,J,g5,j2,n5,d⟩:=hrel;obtain⟨g2,b8,rfl⟩:=cd H;obtain⟨k8,j9,rfl⟩:=cd J;have b1:=aa H;have d7:=aa J;have c8:=aa g5;have e6:=aa j2;have i6:=aa d;have b5:l.heap.size<=wr.heap.size:=d.size;have i1:(0:Int)<=(i:Int):=zK _;by_cases d4:i<a.length
    ·have i2:(i:Int)<(a.length:Int):=by omega
     obtain⟨y,hy⟩:∃y,a[i]?=some y:=⟨_,zB d4⟩;have HY:=aa hy;obtain⟨Wb,i4,a0,d2,g8⟩:=dS (rfl:wr.heap.size=_) (List.replicate qs.length (.int .u8 0)) 5;replace a0:=aa a0;replace d2:=aa d2;replace g8:=aa g8;have m1:=aa i4;generalize hU:wr.heap.size=U at *;go_wp2_with (at_make;refine vY rfl _ _ 93 rfl 5 (.int .u8 0) 1 underlying93 Mb rfl qs.length rfl rfl (by omega) (by omega) ?_;rw[m1.out])
     go_loopw [10] (λkv wx=>∃(k:Nat) (cs:List Value),kv=Vi k/\k<=qs.length/\ag wx U cs 5/\rX qs y k cs/\Below U Wb wx) (λkv _=>qs.length-(intOf kv).toNat)
     case atStart=>exact⟨0,_,rfl,zW _,d2,rX.start,zE _ _⟩
     case round=>
      obtain⟨k,cs,rfl,e0,e9,j0,e7⟩:=hrel;have Q:=aa e9;have a7:=aa j0;have Z:=aa e7;have P:Hid (Bw l wr):=(i6.trans (a0.mono b5)).trans (e7.mono b5);have f4:Hid (Bw w wr):=E.trans (P.mono G);have k1:(0:Int)<=(k:Int):=zK _;have f6:U<wr.heap.size:=e9.lt;by_cases r:k<qs.length
      ·have k2:(k:Int)<(qs.length:Int):=by omega
       obtain⟨q,hq⟩:∃q,qs[k]?=some q:=⟨_,zB r⟩;obtain⟨b,so,sc,rfl,b0,c0,Y,M⟩:=h8.out k q wr hq f4.out;obtain⟨b3,rfl,L,d0⟩:=g7.out i y wr HY.out P.out;have k9:=ri M;have HH:=aa (wS sc y Y (by omega));have HQ:=aa hq;go_upto_region 20 with fail
       go_cut [11] (λv wx=>v=.bool (memB q y)/\∃n,wx=wr.drewN n)
       case first=>
        have l6:Hid (wr.drew.cell? (aD b k)=some (.slice so q.length sc)/\wr.drew.cell? (aD b3 i)=some (Vi y)):=⟨c0,d0⟩
        go_region_held3 (λw'=>w'.cell? (aD b k)=some (.slice so q.length sc)/\w'.cell? (aD b3 i)=some (Vi y))
         (first|with_reducible exact l6.out|fail)
         (first
          |(go_at_call 40;with_reducible refine HH.out.mono ?_;rintro e w5 ⟨rfl,rfl⟩)
          |fail)
        go_wp2_with fail
        go_meet
        case rel=>exact⟨rfl,1,rfl⟩
       case rest=>
        obtain⟨rfl,nq,rfl⟩:=hcut;cases hm:memB q y with
        |true=>
         have t:=aa (a7.yes HQ hm);have t0:(wr.drewN nq).cell? (aD U k)=some (.int .u8 (if k<k/\memB q y=true then 1 else 0)):=(Q.drewN nq).cell k |>.trans (a7.2 k q HQ);have t1:=(Q.drewN nq).frozen k;have k4:Hid (Below U Wb (wr.drewN nq)):=aR Z;have n2:U<(wr.drewN nq).heap.size:=f6;go_wp2_with fail
         go_roundw
         case rel=>exact⟨k+1,_,by go_num,by omega,(Q.drewN nq).set k _,t,k4.setCell (p:=(aD U k)) (zA _) _⟩
         case measure=>simp[intOf];omega
        |false=>
         have t:=aa (a7.no HQ hm);go_wp2_with fail
         go_roundw
         case rel=>exact⟨k+1,cs,by go_num,by omega,Q.drewN nq,t,aR Z⟩
         case measure=>simp[intOf];omega
      ·have k2:decide ((k:Int)<(qs.length:Int))=false:=zI (by omega);obtain rfl:k=qs.length:=by omega
       have d6:Hid (∀w',Bw wr w'->(convert 93 9 (Vs U qs.length qs.length)).run prog w'=.ok (.string ⟨(eL qs y).toArray⟩) w'):=λw' h=>a7.conv (Q.below h);obtain⟨V,hV⟩:∃V,wr=V:=⟨_,rfl⟩;have O:Hid (V.ownsRow l.heap.size 9 1 (.slice k8 c.length j9) c.length (qZ (c.map (eL qs)))):=by
        show V.ownsRow _ _ _ _ _ _
        rw[<-hV];exact bP (bg d7 (by rw[hU];exact a0)) λg e=>Z.block g (by have:=(d7.lt g e).2;omega)
       have c3:Hid (V.ownsRow l.heap.size 3 1 (.slice g2 c.length b8) c.length (bj c)):=by
        show V.ownsRow _ _ _ _ _ _
        rw[<-hV];exact bP (bg b1 (by rw[hU];exact a0)) λg e=>Z.block g (by have:=(b1.lt g e).2;omega)
       rw[hV]at d6 P f6 ⊢;go_wp2_with fail
       go_loopw [12,13] (λbv kv wz=>∃(k:Nat) (bo:Bool),bv=.bool bo/\kv=Vi k/\k<=c.length/\(bo=true↔∃z∈c.take k,eL qs z=eL qs y)/\Bw V wz) (λ_ kv _=>c.length-(intOf kv).toNat)
       case atStart=>exact⟨0,false,rfl,rfl,zW _,⟨λh=>(by cases h),λ⟨z,h,_⟩=>by simp at h⟩,zE _ _⟩
       case round=>
        obtain⟨k,bo,rfl,rfl,e0,i5,h5⟩:=hrel;have b4:=aa i5;have F:=aa h5;have k1:(0:Int)<=(k:Int):=zK _;by_cases r:k<c.length
        ·have k2:(k:Int)<(c.length:Int):=by omega
         obtain⟨z,hz⟩:∃z,c[k]?=some z:=⟨_,zB r⟩;obtain⟨bs,g1,rfl,_,X,hc⟩:=(iQ O.out) k (.string ⟨(eL qs z).toArray⟩) (by unfold qZ;rw[zg,zg,hz];rfl);obtain⟨_,_,s⟩:=kf O.out;obtain⟨g9,l7⟩:=s _ rfl;injection l7 with e1 e2;subst e1 e2;have c0:wr.cell? (aD bs k)=some (.string ⟨(eL qs z).toArray⟩):=(F.cell (p:=(aD bs k)) X).trans (by simpa using hc);have m6:bs<wr.heap.size:=zF X F.size;have a4:Hid (c.take (k+1)=c.take k++[z]):=by show _=_;rw[zi,hz];rfl
         have j6:∀n,(convert 93 9 (Vs U qs.length qs.length)).run prog (wr.drewN n)=.ok (.string ⟨(eL qs y).toArray⟩) (wr.drewN n):=λn=>d6 _ (aR F);go_upto_region 27 with fail;cases bo with
         |true=>
          go_quiet (fail)
          go_wp2_with fail
          go_roundw
          case rel=>exact⟨k+1,true,rfl,by go_num,by omega,⟨λ_=>by obtain⟨x,m,o⟩:=b4.out.1 rfl;exact⟨x,by rw[a4.out];exact yq _ m,o⟩,λ_=>rfl⟩,aR F⟩
          case measure=>simp[intOf];omega
         |false=>
          go_quiet (fail)
          go_wp2_with fail
          go_roundw
          case rel=>exact⟨k+1,_,rfl,by go_num,by omega,by
           rw[a4.out];constructor
           ·intro h;exact⟨z,by simp,JI (by simpa using h)⟩
           ·rintro⟨x,m,o⟩;rcases zM.1 m with m|m
            ·have:=b4.2 ⟨x,m,o⟩;cases this
            ·simp at m;subst m;simp[o],aR F⟩
          case measure=>simp[intOf];omega
        ·have k2:decide ((k:Int)<(c.length:Int))=false:=zI (by omega);obtain rfl:k=c.length:=by omega
         obtain⟨V2,a9⟩:∃V2,wr=V2:=⟨_,rfl⟩;have e4:Hid (Bw l V2):=by show Below _ _ _;rw[<-a9];exact f P F
         have N:Hid (Bw V V2):=by show Below _ _ _;rw[<-a9];exact F
         have j6:(convert 93 9 (Vs U qs.length qs.length)).run prog V2=.ok (.string ⟨(eL qs y).toArray⟩) V2:=by rw[<-a9];exact d6 _ F
         rw[a9];have j7:Hid (bo=true↔∃z∈c,eL qs z=eL qs y):=by have:=b4.out;rw[zQ]at this;exact this
         have n6:l.heap.size<=V2.heap.size:=e4.size;cases bo with
         |true=>
          obtain⟨z,k6,l4⟩:=j7.out.1 rfl;have HN:=aa (e6.old C.srt HY k6 l4);go_wp2_with fail
          go_roundw
          case rel=>exact⟨i+1,c,by go_num,by omega,bg c3 N,bg O N,c8,HN,by omega,e4⟩
          case measure=>simp[intOf];omega
         |false=>
          have HN:=aa (e6.new C.srt HY);obtain⟨U3,f0,L,e8,-⟩:=dS (rfl:V2.heap.size=_) [.string ⟨(eL qs y).toArray⟩] 9;replace e8:=aa e8;have k7:=aa f0;have c6:=aa (bg (bg O N) L);have c7:=aa (bg (bg c3 N) L);have c9:Hid (Bw l U3):=f e4 L;have m9:c.length<=400001:=by omega
          have k2:decide ((c.length:Int)<(c.length:Int))=false:=zI (by omega);go_upto_region 30 with (at_builtin;rw[k7.out];refine jg rfl (.tmp 106) (.tmp 109) 81 9 i9 _ 1 16 rfl underlying81 l2 j1 j5 f8 rfl (by decide) l.heap.size c.length _ _ rfl c6 _ 1 _ [.string ⟨(eL qs y).toArray⟩] rfl rfl (by decide) (λj u hj=>by rw[zl,zf,e8.out.cell];exact hj) (λu hu=>by simp at hu;subst hu;rfl) (by unfold maxLen;omega) (by omega) c9.size ?_;intro v4 w4 a8 b9 b6;have HF:=aa (T.intro a8 (T.intro b9 b6)));have S:Hid (Bw l w4):=cD c9 c9.size c6 HF.2.1;have g6:=aa (oR c7 HF.2.1 c8);have c2:Hid (∀g,Value.ownBlock (.slice g2 c.length b8)=some g->v4.ownBlock≠some g):=λg m o=>by
           rcases HF.out.2.2 with h|h
           ·rw[h]at o;exact c8 g m o
           ·have h3:=h g o;have h4:=(c7.lt g m).2;omega
          obtain⟨b3,rfl,L,d0⟩:=g7.out i y w4 HY.out S.out;obtain⟨U6,h6,K,d9,-⟩:=dS (rfl:w4.heap.size=_) [Vi y] 3;replace d9:=aa d9;have l0:=aa h6;have c5:=aa (bg g6 K);have b7:=aa (bg HF.1 K);have e3:Hid (Bw l U6):=f S K;go_wp2_with (at_builtin;rw[l0.out];refine jg rfl (.tmp 111) (.tmp 116) 61 3 i3 _ 1 8 rfl underlying61 l9 f9 f1 j4 rfl (by decide) l.heap.size c.length _ _ rfl c5 _ 1 _ [Vi y] rfl rfl (by decide) (λj u hj=>by rw[zl,zf,d9.out.cell];exact hj) (λu hu=>by simp at hu;subst hu;rfl) (by unfold maxLen;omega) (by omega) e3.size ?_;intro v7 w7 a3 c4 c1;have b2:=aa (T.intro a3 (T.intro c4 c1)));have h0:Hid (∀g,v7.ownBlock=some g->v4.ownBlock≠some g):=λg m o=>by
           rcases b2.out.2.2 with h|h
           ·rw[h]at m;exact c2 g m o
           ·have h3:=h g m;have h4:=(b7.lt g o).2;omega
          go_roundw
          case rel=>exact⟨i+1,c++[y],by go_num,by omega,by simpa [bj]using b2.1,by have h9:=oR b7 b2.2.1 (λg m o=>c2 g o m);simpa [qZ]using h9,h0,HN,by simp;omega,cD e3 e3.size c5 b2.2.1⟩
          case measure=>simp[intOf];omega
    ·have i2:decide ((i:Int)<(a.length:Int))=false:=zI (by omega);obtain rfl:i=a.length:=by omega
     have HF:=aa (e6.done C);go_wp2_with fail;go_ret;exact⟨_,c,rfl,ij b1 G,HF,by have:=D.out;omega,E.trans (i6.mono G)⟩
def rM (L:Lg)(u:List Int):Lg:=λz=>L (u++z)
theorem Df (L:Lg)(u:LZ)(r:Int):aX (rM L u) r=rM L (u++[r]):=by
 funext z;simp[aX,rM]
def DS (D:List Int->Prop)(v:List Int):Prop:=∃o,ef o/\bY o v=true/\∀z,D (o++z)↔D (v++z)
structure Lv (D:List Int->Prop)(N n:Nat)(ws:List (List Int)):Prop where
 len:∀x∈ws,x.length=n
 val:∀x∈ws,ef x
 srt:ws.Pairwise λx y=>bY x y=true
 path:∀m,cX D N m->∃x∈ws,∃z,m=x++z
variable {D:List Int->Prop} {N n:Nat} {ws:List (List Int)}
theorem Lv.start:Lv D N 0 [[]]:=⟨λx h=>by simp at h;subst h;rfl,λx h=>by simp at h;subst h;intro r a;simp at a,by simp,λm _=>⟨[],by simp,m,rfl⟩⟩
theorem Um (h:bY u v=true):u.length<=v.length:=by
 rw[fI]at h;omega
theorem Lv.found (h:Lv D N n ws)(hn:n<=N)(hi:ws[i]?=some u)(hd:D u)(hno:∀x∈ws.take i,¬D x):cX D N u:=by
 have b:=zU hi;refine⟨h.val u b,hd,by rw[h.len u b];exact hn,λs y v t=>?_⟩;obtain⟨m,c,w⟩:=rn y v t;obtain⟨x,p,z,rfl⟩:=h.path m c;have k:bY x u=false:=by
  by_cases q:z=[]
  ·subst q;rw[zx]at c;obtain⟨j,a⟩:=List.getElem?_of_mem p;have e:=(zC.1 a).1;have d:=(zC.1 hi).1;rcases Nat.lt_trichotomy j i with o|l|g
   ·have:x∈ws.take i:=zU (i:=j) (by rw[List.getElem?_take_of_lt o];exact a);exact absurd c.2.1 (hno x this)
   ·subst l;rw[hi]at a;injection a with a;subst a;exact eC.irr _
   ·have f:=yX.1 h.srt i j d e g;have A:ws[i]=u:=yT ((zB d).symm.trans hi);have B:ws[j]=x:=yT ((zB e).symm.trans a);rw[A,B]at f;exact eC.as _ _ f
  ·cases hc:bY x u with
   |false=>rfl
   |true=>
    have f:=c.2.2.2 u (h.val u b) hd (by rw[h.len u b];exact hn);rw[gE]at f;have E:=h.len x p;have F:=h.len u b;have G:0<z.length:=List.length_pos_iff.2 q;have C:bY u (x++z)=true:=by
     rw[fI]
     left
     rw[zH];omega
    have r:=c.2.2.2 u (h.val u b) hd (by rw[h.len u b];exact hn);rw[C]at r;cases r
 exact eC.tr _ _ _ k (eC.tr _ _ _ (pH (x:=x) (z:=z)) w)
theorem Lv.none (h:Lv D N N ws)(hno:∀x∈ws,¬D x):∀s,ef s->s.length<=N->¬D s:=λs e g f=>by
 obtain⟨m,a,_⟩:=rn e f g;obtain⟨x,b,z,rfl⟩:=h.path m a;have c:=a.2.2.1;have i:=h.len x b;rw[zH]at c;have d:z=[]:=yf (by omega);subst d;rw[zx]at a;exact hno x b a.2.1
def kW (ws:List (List Int))(Al:List Int)(i k:Nat)(v:List Int):Prop:=(∃x∈ws.take i,∃r∈Al,v=x++[r])\/∃x,ws[i]?=some x/\∃r∈Al.take k,v=x++[r]
structure Nx (D:List Int->Prop)(ws:List (List Int))(Al:List Int)(i k:Nat)(nx:List (List Int)):Prop where
 mem:∀v∈nx,kW ws Al i k v
 srt:nx.Pairwise λx y=>bY x y=true
 all:∀v,kW ws Al i k v->v∈nx\/DS D v
variable {Al:List Int} {i k:Nat} {nx:List (List Int)}
theorem Un :¬kW ws Al 0 0 v:=by
 rintro (⟨x,h,_⟩|⟨x,_,r,h,_⟩)
 ·simp at h
 ·simp at h
theorem Nx.start:Nx D ws Al 0 0 []:=⟨λv h=>by simp at h,by simp,λv h=>absurd h Un⟩
theorem lK {x:LZ}(hx:ws[i]?=some x)(hr:Al[k]?=some r):kW ws Al i (k+1) v↔kW ws Al i k v\/v=x++[r]:=by
 have e:Al.take (k+1)=Al.take k++[r]:=by rw[zi,hr];rfl
 unfold kW;rw[e];constructor
 ·rintro (h|⟨y,b,q,a,c⟩)
  ·exact .inl (.inl h)
  ·rcases zM.1 a with a|a
   ·exact .inl (.inr ⟨y,b,q,a,c⟩)
   ·simp at a;subst a;rw[hx]at b;injection b with b;subst b;exact .inr c
 ·rintro ((h|⟨y,b,q,a,c⟩)|h)
  ·exact .inl h
  ·exact .inr ⟨y,b,q,yq _ a,c⟩
  ·exact .inr ⟨x,hx,r,List.mem_append_right _ (by simp),h⟩
theorem xi {x:LZ}(hx:ws[i]?=some x):kW ws Al (i+1) 0 v↔kW ws Al i Al.length v:=by
 have e:ws.take (i+1)=ws.take i++[x]:=by rw[zi,hx];rfl
 unfold kW;rw[e,zQ];constructor
 ·rintro (⟨y,a,r,b,c⟩|⟨y,_,r,b,_⟩)
  ·rcases zM.1 a with a|a
   ·exact .inl ⟨y,a,r,b,c⟩
   ·simp at a;subst a;exact .inr ⟨y,hx,r,b,c⟩
  ·simp at b
 ·rintro (⟨y,a,r,b,c⟩|⟨y,a,r,b,c⟩)
  ·exact .inl ⟨y,yq _ a,r,b,c⟩
  ·rw[hx]at a;injection a with a;subst a;exact .inl ⟨x,List.mem_append_right _ (by simp),r,b,c⟩
theorem Dg:∀(s t a b:LZ),s.length=t.length->cH s t=true->cH (s++a) (t++b)=true
 | [],[],_,_,_,h=>by simp[cH]at h
 | [],_::_,_,_,h,_=>by simp at h
 |_::_,[],_,_,h,_=>by simp at h
 |c::s,d::t,a,b,hl,h=>by
  simp only[cH,zV,yZ,yP,zY]at h ⊢;rcases h with h|⟨e,h⟩
  ·exact .inl h
  ·exact .inr ⟨e,Dg s t a b (by simpa using hl) h⟩
theorem Dh:∀(s:LZ) (a b:Int),a<b->cH (s++[a]) (s++[b])=true
 | [],a,b,h=>by simp[cH,h]
 |c::s,a,b,h=>by
  have:=Dh s a b h;simp only[cH,zV,yZ,yP,zY];exact .inr ⟨trivial,this⟩
theorem GN {x:LZ}(h:Lv D N n ws)(hA:Al.Pairwise (·<·))(hx:ws[i]?=some x)(hr:Al[k]?=some r)(hv:kW ws Al i k v):bY v (x++[r])=true:=by
 have l:=zU hx;have g:=(zC.1 hx).1;have s:ws[i]=x:=yT ((zB g).symm.trans hx);rw[fI]
 right
 rcases hv with⟨y,e,q,m,rfl⟩|⟨y,e,q,m,rfl⟩
 ·obtain⟨j,b⟩:=List.getElem?_of_mem e;have d:=(zC.1 b).1;rw[yn]at d;rw[List.getElem?_take_of_lt (by omega)]at b;have a:=(zC.1 b).1;have t:ws[j]=y:=yT ((zB a).symm.trans b);have c:=yX.1 h.srt j i a g (by omega);rw[s,t]at c;have o:=h.len x l;have p:=h.len y (zU b);rw[fI]at c;refine⟨by simp;omega,Dg _ _ _ _ (by omega) ?_⟩;rcases c with c|c
  ·omega
  ·exact c.2
 ·rw[hx]at e;injection e with e;subst e;refine⟨by simp,Dh _ _ _ ?_⟩;obtain⟨j,b⟩:=List.getElem?_of_mem m;have d:=(zC.1 b).1;rw[yn]at d;rw[List.getElem?_take_of_lt (by omega)]at b;have a:=(zC.1 b).1;have f:=(zC.1 hr).1;have c:=yX.1 hA j k a f (by omega);have o:Al[j]=q:=yT ((zB a).symm.trans b);have p:Al[k]=r:=yT ((zB f).symm.trans hr);rw[o,p]at c;exact c
theorem Nx.keep {x:LZ}(h:Nx D ws Al i k nx)(hl:Lv D N n ws)(hA:Al.Pairwise (·<·))(hx:ws[i]?=some x)(hr:Al[k]?=some r):Nx D ws Al i (k+1) (nx++[x++[r]]):=by
 refine⟨λv c=>(lK hx hr).2 ?_,?_,λv c=>?_⟩
 ·rcases zM.1 c with c|c
  ·exact .inl (h.mem v c)
  ·exact .inr (by simpa using c)
 ·rw[yA];refine⟨h.srt,by simp,λa f b e=>?_⟩;simp at e;subst e;exact GN hl hA hx hr (h.mem a f)
 ·rcases (lK hx hr).1 c with c|rfl
  ·rcases h.all v c with d|d
   ·exact .inl (yq _ d)
   ·exact .inr d
  ·exact .inl (by simp)
theorem Nx.drop {x:LZ}(h:Nx D ws Al i k nx)(hx:ws[i]?=some x)(hr:Al[k]?=some r)(hd:DS D (x++[r])):Nx D ws Al i (k+1) nx:=by
 refine⟨λv a=>(lK hx hr).2 (.inl (h.mem v a)),h.srt,λv a=>?_⟩;rcases (lK hx hr).1 a with a|rfl
 ·exact h.all v a
 ·exact .inr hd
theorem Nx.next {x:LZ}(h:Nx D ws Al i Al.length nx)(hx:ws[i]?=some x):Nx D ws Al (i+1) 0 nx:=⟨λv a=>(xi hx).2 (h.mem v a),h.srt,λv a=>h.all v ((xi hx).1 a)⟩
theorem Nx.done (h:Nx D ws Al ws.length 0 nx)(hl:Lv D N n ws)(hno:∀x∈ws,¬D x)(hV:∀r∈Al,runeB r=true)(hAl:∀m,cX D N m->∀r∈m,r∈Al):Lv D N (n+1) nx:=by
 have f:∀v,kW ws Al ws.length 0 v->∃x∈ws,∃r∈Al,v=x++[r]:=by
  rintro v (⟨x,b,r,d,i⟩|⟨x,_,r,d,_⟩)
  ·rw[zQ]at b;exact⟨x,b,r,d,i⟩
  ·simp at d
 refine⟨λv g=>?_,λv g=>?_,h.srt,λm c=>?_⟩
 ·obtain⟨x,b,r,d,rfl⟩:=f v (h.mem v g);rw[zH,hl.len x b];rfl
 ·obtain⟨x,b,r,d,rfl⟩:=f v (h.mem v g);intro q a;rcases zM.1 a with a|a
  ·exact hl.val x b q a
  ·simp at a;subst a;exact hV q d
 ·obtain⟨x,j,z,rfl⟩:=hl.path m c;cases z with
  |nil=>rw[zx]at c;exact absurd c.2.1 (hno x j)
  |cons r z=>
   have p:=hAl _ c r (by simp);have g:kW ws Al ws.length 0 (x++[r]):=.inl ⟨x,by rw[zQ];exact j,r,p,rfl⟩;rcases h.all _ g with b|⟨o,b,d,i⟩
   ·exact⟨_,b,z,by simp⟩
   ·have e:x++r::z=(x++[r])++z:=by simp
    rw[e]at c;have k:=vv z d;have s:ef (o++z):=λq a=>by
     rcases zM.1 a with a|a
     ·exact b q a
     ·exact c.1 q (by simp[a])
    have t:=Um k;have l:=c.2.2.2 (o++z) s ((i z).2 c.2.1) (zJ t c.2.2.1);rw[k]at l;cases l
theorem rN (n:Int):∀b∈dN n,b≠47:=by
 intro b a;rcases wh b a with h|h
 ·intro e;subst e;unfold sL at h;exact absurd h.1 (by decide)
 ·subst h;decide
theorem Qx (x:Int×Int):∀b∈eJ x,b≠47:=by
 intro b a;simp only[eJ,zO,zM]at a;rcases a with rfl|a|rfl|a
 ·decide
 ·exact rN _ b a
 ·decide
 ·exact rN _ b a
mutual
theorem jd:∀t:Tm,∀b∈t.key,b≠47
 |.none=>by intro b e;simp[Tm.key]at e;subst e;decide
 |.empty=>by intro b e;simp[Tm.key]at e;subst e;decide
 |.set q=>by
  intro b e;simp only[Tm.key,zO,xL]at e;rcases e with rfl|⟨x,_,e⟩
  ·decide
  ·exact Qx x b e
 |.row a b=>by
  intro c d;have f:=jd a;have g:=jd b;simp only[Tm.key,cU,zO,zM,xD,or_false]at d;rcases d with rfl|(rfl|d|rfl)|rfl|d|rfl
  ·decide
  ·decide
  ·exact f c d
  ·decide
  ·decide
  ·exact g c d
  ·decide
 |.or l=>by
  intro c d;simp only[Tm.key,zO]at d;rcases d with rfl|d
  ·decide
  ·exact rO l c d
 |.and l=>by
  intro c d;simp only[Tm.key,zO]at d;rcases d with rfl|d
  ·decide
  ·exact rO l c d
 |.not t=>by
  intro c d;have f:=jd t;simp only[Tm.key,cU,zO,zM,xD,or_false]at d;rcases d with rfl|rfl|d|rfl
  ·decide
  ·decide
  ·exact f c d
  ·decide
 |.many t m n=>by
  intro c d;have f:=jd t;simp only[Tm.key,cU,zO,zM,xD,or_false]at d;rcases d with rfl|d|rfl|d|rfl|d|rfl
  ·decide
  ·exact rN m c d
  ·decide
  ·exact rN n c d
  ·decide
  ·exact f c d
  ·decide
theorem rO:∀l:List Tm,∀b∈ju l,b≠47
 | [],b,a=>by simp[ju]at a
 |t::l,b,a=>by
  have c:=jd t;have d:=rO l;simp only[ju,cU,zO,zM,xD,or_false]at a;rcases a with (rfl|a|rfl)|a
  ·decide
  ·exact c b a
  ·decide
  ·exact d b a
end
theorem Uo {a b c d:Tm}(ha:a.Ok)(hb:b.Ok)(hc:c.Ok)(hd:d.Ok)(h:a.key++47::b.key=c.key++47::d.key):a=c/\b=d:=by
 obtain⟨g,f⟩:=Jh (P:=λx=>x≠47) (jd a) (jd c) (λx t e k=>by injection e with e _;exact k e.symm) (λx t e k=>by injection e with e _;exact k e.symm) h;injection f with _ f;exact⟨nL ha hc g,nL hb hd f⟩
structure Stp where
 a:Tm
 b:Tm
 u:List Int
def lz:Nat->Nat
 |0=>61
 |n+1=>bZ (lz n)
def Cw:Nat->Nat
 |0=>12420
 |n+1=>lz n*Cw n
theorem Js:∀n,n<=2->lz n*Cw n<=3000000000000000000/\bZ (lz n)<=2000000000000
 |0,_=>by decide
 |1,_=>by decide
 |2,_=>by decide
 |_+3,h=>by omega
theorem Jt:∀n,n<=3->Cw n<=3000000000000000000
 |0,_=>by decide
 |1,_=>by decide
 |2,_=>by decide
 |3,_=>(Js 2 (by omega)).1
 |_+4,h=>by omega
def enc (u:List Int):List UInt8:=u.flatMap Lib.encodeRune
theorem SB (u:LZ)(r:Int):enc (u++[r])=enc u++Lib.encodeRune r:=by simp[enc]
structure StG (LA LB:Lg)(n:Nat)(s:Stp):Prop where
 oa:s.a.Ok
 ob:s.b.Ok
 la:s.a.L=rM LA s.u
 lb:s.b.L=rM LB s.u
 za:s.a.z<=lz n
 zb:s.b.z<=lz n
 ta:s.a.tl<=Cw n
 tb:s.b.tl<=Cw n
 vl:ef s.u
 ln:s.u.length=n
def oL (w:World)(A:Nat->Prop)(s:Stp)(c:List Value):Prop:=∃ca cb str,c=ca++cb++[.string str]/\aj w A s.a ca/\aj w A s.b cb/\af str=enc s.u
def eY (w:World)(A:Nat->Prop):List Stp->List Value->Prop
 | [],xs=>xs=[]
 |s::l,xs=>∃c r,xs=c++r/\oL w A s c/\eY w A l r
theorem oL.keep {A:NP}{w w':World}(k:ah A w w'){s:Stp}{c:LV}(h:oL w A s c):oL w' A s c:=by
 obtain⟨i,f,a,e,b,g,d⟩:=h;exact⟨i,f,a,e,aj.keep k _ _ b,aj.keep k _ _ g,d⟩
theorem eY.keep {A:NP}{w w':World}(k:ah A w w'):∀{l:List Stp} {xs:LV},eY w A l xs->eY w' A l xs
 | [],_,h=>h
 |_::_,_,h=>by obtain⟨c,r,e,a,b⟩:=h;exact⟨c,r,e,a.keep k,eY.keep k b⟩
theorem oL.mono {A A':NP}{w:World}(k:∀g,g<w.heap.size->A g->A' g){s:Stp}{c:LV}(h:oL w A s c):oL w A' s c:=by
 obtain⟨j,f,a,e,b,i,d⟩:=h;exact⟨j,f,a,e,aj.mono k _ _ b,aj.mono k _ _ i,d⟩
theorem eY.mono {A A':NP}{w:World}(k:∀g,g<w.heap.size->A g->A' g):∀{l:List Stp} {xs:LV},eY w A l xs->eY w A' l xs
 | [],_,h=>h
 |_::_,_,h=>by obtain⟨c,r,e,a,b⟩:=h;exact⟨c,r,e,a.mono k,eY.mono k b⟩
theorem eY.below {A:NP}{w w':World}(k:Bw w w'){l:List Stp}{xs:LV}(h:eY w A l xs):eY w' A l xs:=h.keep (ah.below k)
theorem oL.len {A:NP}{w:World}{s:Stp}{c:LV}(h:oL w A s c):c.length=13:=by
 obtain⟨f,e,b,rfl,a,d,_⟩:=h;simp[a.len,d.len]
theorem eY.append {A:NP}{w:World}:∀{l m:List Stp} {xs ys:LV},eY w A l xs->eY w A m ys->eY w A (l++m) (xs++ys)
 | [],_,_,_,h,k=>by rw[show _=[]from h];exact k
 |s::l,m,_,ys,h,k=>by
  obtain⟨c,r,rfl,b,a⟩:=h;exact⟨c,r++ys,by rw[zc],b,eY.append a k⟩
theorem eY.one {s:Stp}(h:oL w A s c):eY w A [s] c:=⟨c,[],by simp,h,rfl⟩
theorem eY.at {A:NP}{w:World}:∀{l:List Stp} {xs:LV},eY w A l xs->∀{i:Nat} {s:Stp},l[i]?=some s->∃c,oL w A s c/\∀j,j<13->xs[13*i+j]?=c[j]?
 | [],_,_,i,s,hi=>by simp at hi
 |_::l,_,h,0,s,hi=>by
  obtain⟨c,r,rfl,a,e⟩:=h;simp at hi;subst hi;refine⟨c,a,λj b=>?_⟩;rw[Nat.mul_zero,zf,yY (by rw[a.len];exact b)]
 |_::l,_,h,i+1,s,hi=>by
  obtain⟨c,r,rfl,a,e⟩:=h;obtain⟨d,g,f⟩:=eY.at e (i:=i) (s:=s) (by simpa using hi);refine⟨d,g,λj b=>?_⟩;rw[<-f j b,yk (by rw[a.len];omega),a.len];congr 1;omega
theorem cg.step {l:List Stp}(hr:cg w A lo xs)(hl:eY w A' l xs){s:Stp}(hi:l[i]?=some s):∃b off c,lo=some (aD b off)/\A b/\b<w.heap.size/\oL w A' s c/\∀j v,c[j]?=some v->w.cell? ⟨b,off+i*13+j,none⟩=some v:=by
 obtain⟨c,d,m⟩:=hl.at hi;have p:∃v,c[0]?=some v:=⟨_,zB (by rw[d.len];decide)⟩;obtain⟨r,g⟩:=p;obtain⟨b,off,e,o,n,_⟩:=hr (13*i+0) r (by rw[m 0 (by decide)];exact g);refine⟨b,off,c,e,o,n,d,λj v h=>?_⟩;have f:j<13:=by have:=(zC.1 h).1;rw[d.len]at this;exact this
 obtain⟨t,k,a,_,_,q⟩:=hr (13*i+j) v (by rw[m j f];exact h);rw[e]at a;injection a with a;injection a with e1 e2;subst e1 e2;rw[show off+i*13+j=off+(13*i+j) by omega];exact q
theorem eY.ones {A:NP}{w:World}:∀{l:List Stp} {xs:LV},eY w A l xs->∀u∈xs,u.oneCell'=true
 | [],_,h=>by rw[show _=[]from h];simp
 |s::l,_,h=>by
  obtain⟨c,r,rfl,⟨k,j,g,rfl,b,i,_⟩,f⟩:=h;have e:=aO.ones (aO.one b);have d:=aO.ones (aO.one i);intro u a;rcases zM.1 a with a|a
  ·rcases zM.1 a with a|a
   ·rcases zM.1 a with a|a
    ·exact e u a
    ·exact d u a
   ·simp at a;subst a;rfl
  ·exact eY.ones f u a
def KK (S:Nat)(A:Nat->Prop)(nv sv:Value)(g:Nat):Prop:=(A g\/S<=g)/\nv.ownBlock≠some g/\sv.ownBlock≠some g
structure Mem (S:Nat)(A:Nat->Prop)(w wr:World)(lon:Option Addr)(ss:List Stp)(xs:List Value)(nv:Value)(sx:List Stp)(ys:List Value)(sv:Value)(ks:List (List UInt8)):Prop where
 now:cg wr (KK S A nv sv) lon xs
 nowt:eY wr (KK S A nv sv) ss xs
 nx:wr.ownsRow S 79 13 nv sx.length ys
 nxt:eY wr (KK S A nv sv) sx ys
 seen:wr.ownsRow S 9 1 sv ks.length (qZ ks)
 ne:∀g,nv.ownBlock=some g->sv.ownBlock≠some g
 bel:Below S w wr
variable {S:Nat} {A:Nat->Prop} {w wr:World} {lon:Option Addr} {ss sx:List Stp} {xs ys:List Value} {nv sv:Value} {ks:List (List UInt8)}
theorem Mem.below {w':World}(h:Mem S A w wr lon ss xs nv sx ys sv ks)(k:Bw wr w')(hS:S<=wr.heap.size):Mem S A w w' lon ss xs nv sx ys sv ks :=
 ⟨h.now.below k,h.nowt.below k,bg h.nx k,h.nxt.below k,bg h.seen k,h.ne,h.bel.trans (k.mono hS)⟩
theorem Mem.size (h:Mem S A w wr lon ss xs nv sx ys sv ks)(hS:S<=w.heap.size):S<=wr.heap.size:=zJ hS h.bel.size
theorem Mem.turn {lo2:OA}{cap2:Nat}(h:Mem S A w wr lon ss xs (.slice lo2 sx.length cap2) sx ys sv ks):Mem S A w wr lo2 sx ys (Vz) [] [] sv ks:=by
 refine⟨?_,?_,zZ _ _ _ _,rfl,h.seen,λg e=>(by cases e),h.bel⟩
 ·intro j v f;obtain⟨b,a,e,k,i,d⟩:=iQ h.nx j v f;subst e;exact⟨b,a,rfl,⟨.inr k,by simp[Value.ownBlock],h.ne b rfl⟩,i,d⟩
 ·exact h.nxt.mono λg _ c=>⟨c.1,by simp[Value.ownBlock],c.2.2⟩
theorem Mem.name {key:List UInt8}(h:Mem S A w U3 lon ss xs nv sx ys sv ks)(ho:w4.ownsRow S 9 1 v4 (ks.length+1) (qZ ks++[.string ⟨key.toArray⟩]))(hg:U3.grownBy w4 sv.ownBlock)(hm:v4.ownBlock=sv.ownBlock\/∀g,v4.ownBlock=some g->U3.heap.size<=g)(hS:S<=U3.heap.size):Mem S A w w4 lon ss xs nv sx ys v4 (ks++[key]):=by
 have b:∀g,g<U3.heap.size->sv.ownBlock≠some g->v4.ownBlock≠some g:=λg a k e=>by
  rcases hm with f|f
  ·rw[f]at e;exact k e
  ·have:=f g e;omega
 have l:ah (KK S A nv sv) U3 w4:=⟨hg.size,λg a i=>hg.block g a (λe=>i.2.2 e.symm)⟩;have j:∀g,g<U3.heap.size->KK S A nv sv g->KK S A nv sv g/\KK S A nv v4 g:=λg a d=>⟨d,d.1,d.2.1,b g a d.2.2⟩;have c:ah (λg=>KK S A nv sv g/\KK S A nv v4 g) U3 w4:=⟨hg.size,λg a i=>l.2 g a i.1⟩;refine⟨((h.now.mono j).keep c).mono λg _ hg=>hg.2,((h.nowt.mono j).keep c).mono λg _ hg=>hg.2,oR h.nx hg h.ne,((h.nxt.mono j).keep c).mono λg _ hg=>hg.2,?_,λg e=>b g (h.nx.lt g e).2 (h.ne g e),cD h.bel hS h.seen hg⟩;simpa [qZ]using ho
theorem Mem.step {s:Stp}(h:Mem S A w U3 lon ss xs nv sx ys sv ks)(ho:w4.ownsRow S 79 13 v4 (sx.length+1) (ys++c))(hg:U3.grownBy w4 nv.ownBlock)(hm:v4.ownBlock=nv.ownBlock\/∀g,v4.ownBlock=some g->U3.heap.size<=g)(hS:S<=U3.heap.size)(hs:oL U3 (KK S A nv sv) s c):Mem S A w w4 lon ss xs v4 (sx++[s]) (ys++c) sv ks:=by
 have b:∀g,g<U3.heap.size->nv.ownBlock≠some g->v4.ownBlock≠some g:=λg a m e=>by
  rcases hm with d|d
  ·rw[d]at e;exact m e
  ·have:=d g e;omega
 have n:ah (KK S A nv sv) U3 w4:=⟨hg.size,λg a k=>hg.block g a (λe=>k.2.1 e.symm)⟩;have l:∀g,g<U3.heap.size->KK S A nv sv g->KK S A nv sv g/\KK S A v4 sv g:=λg a i=>⟨i,i.1,b g a i.2.1,i.2.2⟩;have f:ah (λg=>KK S A nv sv g/\KK S A v4 sv g) U3 w4:=⟨hg.size,λg a k=>n.2 g a k.1⟩;refine⟨((h.now.mono l).keep f).mono λg _ hg=>hg.2,((h.nowt.mono l).keep f).mono λg _ hg=>hg.2,by simpa using ho,(((h.nxt.append (eY.one hs)).mono l).keep f).mono λg _ hg=>hg.2,oR h.seen hg (λg d j=>h.ne g j d),λg d j=>?_,cD h.bel hS h.nx hg⟩;exact b g (h.seen.lt g j).2 (λe=>h.ne g e j) d
def eE (LA LB:Lg)(P:List Int->Prop)(ks:List (List UInt8)):Prop:=∀key∈ks,∃(a b:Tm) (o:List Int),a.Ok/\b.Ok/\key=a.key++47::b.key/\a.L=rM LA o/\b.L=rM LB o/\ef o/\P o
theorem eE.more {Q:List Int->Prop}(h:eE LA LB P ks)(k:∀o,P o->Q o):eE LA LB Q ks:=λc d=>by
 obtain⟨a,b,o,e,l,g,j,m,i,f⟩:=h c d;exact⟨a,b,o,e,l,g,j,m,i,k o f⟩
theorem eE.add {s:Stp}(h:eE LA LB P ks)(hs:StG LA LB n s)(hp:P s.u):eE LA LB P (ks++[s.a.key++47::s.b.key]):=λb a=>by
 rcases zM.1 a with a|a
 ·exact h b a
 ·simp at a;subst a;exact⟨s.a,s.b,s.u,hs.oa,hs.ob,rfl,hs.la,hs.lb,hs.vl,hp⟩
theorem eE.dead {s:Stp}(h:eE LA LB P ks)(hs:StG LA LB n s)(hk:s.a.key++47::s.b.key∈ks)(hl:∀o,P o->bY o s.u=true):DS (dG LA LB) s.u:=by
 obtain⟨a,b,o,d,m,j,l,p,k,e⟩:=h _ hk;obtain⟨c,f⟩:=Uo hs.oa hs.ob d m j;refine⟨o,k,hl o e,λz=>?_⟩;have g:LA (o++z)↔LA (s.u++z):=by
  have:=congrFun (l.symm.trans (c▸hs.la)) z;exact iff_of_eq this
 have i:LB (o++z)↔LB (s.u++z):=by
  have:=congrFun (p.symm.trans (f▸hs.lb)) z;exact iff_of_eq this
 unfold dG;rw[g,i]
theorem StG.step {s:Stp}{c:Int}{ta tb:Tm}(h:StG LA LB n s)(hc:place c)(ha:Gd (aX s.a.L (back c)) (bZ s.a.z) (s.a.z*s.a.tl) ta)(hb:Gd (aX s.b.L (back c)) (bZ s.b.z) (s.b.z*s.b.tl) tb):StG LA LB (n+1) ⟨ta,tb,s.u++[back c]⟩:=by
 refine⟨ha.ok,hb.ok,?_,?_,zJ ha.z (dY h.za),zJ hb.z (dY h.zb),zJ ha.tl (Nat.mul_le_mul h.za h.ta),zJ hb.tl (Nat.mul_le_mul h.zb h.tb),λr a=>?_,?_⟩
 ·rw[ha.lg,h.la,Df]
 ·rw[hb.lg,h.lb,Df]
 ·rcases zM.1 a with a|a
  ·exact h.vl r a
  ·simp at a;subst a;exact (gL hc).1
 ·simp[h.ln]
theorem Cn {x:Int}(hx:place x)(hy:place y)(h:x<y):back x<back y:=by
 unfold place at hx hy;unfold back
 split<;>split<;>omega
theorem Om (h:hs.Pairwise (·<·))(hp:∀y∈hs,place y):(hs.map back).Pairwise (·<·):=by
 rw[List.pairwise_map];exact h.imp_of_mem λb c a=>Cn (hp _ b) (hp _ c) a
theorem EE {a b:ByteArray}(h:af a=af b):a=b:=by
 have d:a.data.toList=b.data.toList:=h;have c:a.data=b.data:=Array.toList_inj.1 d;cases a;cases b;simp at c;rw[c]
theorem Yz (x:List UInt8):af (⟨x.toArray⟩:ByteArray)=x:=by simp[af]
theorem Jf {a b:Tm}{sa sb:ByteArray}(ha:af sa=a.key)(hb:af sb=b.key):sa++{ data:=#[47] }++sb=⟨(a.key++47::b.key).toArray⟩:=by
 refine EE ?_;rw[cy,cy,ha,hb,Yz];simp[af]
theorem qE {s:ByteArray}(h:af s=t.key)(hok:t.Ok):s.size+4<=t.tl:=by
 have a:=ik hok;rw[<-h,aL]at a;exact a
theorem EF {t:LZ}(h:ef t):af (runesBytes t)=enc t:=by
 have:=xS t ByteArray.empty h;unfold runesBytes;rw[this];simp[af,enc]
theorem On (h:a<=(n+1)*400000000+i*721)(hi:i<=519841):a<=(n+1+1)*400000000:=by
 have b:i*721<=519841*721:=zn _ hi;have c:(519841*721:Nat)<=400000000:=Nat.le_of_ble_eq_true rfl;rw[Nat.succ_mul (n+1)];exact zJ h (Nat.add_le_add_left (zJ b c) _)
theorem EG {l:Nat}(h:l<=721 ^ n)(hn:n<=2):l<=519841:=zJ h (zJ (Nat.pow_le_pow_right (by decide) hn) (by decide))
theorem Vl {l:Nat}(h:a<=i*721+l)(hl:l<=721):a<=(i+1)*721:=by omega
theorem Vm {l:Nat}(h:a<=b+i*721+l)(hl:l<=721):a<=b+(i+1)*721:=by omega
def YX (L:Lg)(N:Nat)(e:Ending):Prop:=∃s ok,e=.returned (.tuple #[.string s,.bool ok])/\gZ L N s ok
theorem Oo {S:Nat}{V3 wx:World}{nv sv:Value}{ka:Nat}(h:aj wx (λg=>(KK S A nv sv g\/V3.heap.size<=g)/\g≠ka) t cs)(hb:Bw wx U3)(hgr:U3.grownBy w4 sv.ownBlock)(hmv:v4.ownBlock=sv.ownBlock\/∀g,v4.ownBlock=some g->U3.heap.size<=g)(hnv:∀g,nv.ownBlock=some g->g<V3.heap.size)(hsv:∀g,sv.ownBlock=some g->g<V3.heap.size)(hSV:S<=V3.heap.size):aj w4 (KK S A nv v4) t cs:=by
 have f:∀g,g<U3.heap.size->((KK S A nv sv g\/V3.heap.size<=g)/\g≠ka)->KK S A nv sv g/\KK S A nv v4 g:=λg c h=>by
  have a:KK S A nv sv g:=by
   rcases h.1 with h|h
   ·exact h
   ·exact⟨.inr (by omega),λe=>by have:=hnv g e;omega,λe=>by have:=hsv g e;omega⟩
  refine⟨a,a.1,a.2.1,λe=>?_⟩;rcases hmv with b|b
  ·rw[b]at e;exact a.2.2 e
  ·have:=b g e;omega
 have d:ah (λg=>KK S A nv sv g/\KK S A nv v4 g) U3 w4:=⟨hgr.size,λg c i=>hgr.block g c (λe=>i.1.2.2 e.symm)⟩;exact aj.mono (λg _ h=>h.2) _ _ (aj.keep d _ _ (aj.mono f _ _ (aj.below hb _ _ h)))
theorem YA (h:a<=(n+1)*400000000+i*721+k)(hn:n<=2)(hi:i<=519841)(hk:k<=721):(a:Int)<=2000000000:=by
 have c:i*721<=519841*721:=zn _ hi;have d:(n+1)*400000000<=3*400000000:=zn _ (Nat.succ_le_succ hn);have b:a<=3*400000000+519841*721+721:=zJ h (Nat.add_le_add (Nat.add_le_add d c) hk);exact Int.ofNat_le.2 (zJ b (Nat.le_of_ble_eq_true rfl))
theorem YB (h:a<=i*721+k)(hi:i<=519841)(hk:k<=721):(a:Int)<=400000000:=by
 have b:i*721<=519841*721:=zn _ hi;exact Int.ofNat_le.2 (zJ h (zJ (Nat.add_le_add b hk) (Nat.le_of_ble_eq_true rfl)))
structure Stb (V cur:World)(F:World->Prop):Prop where
 bel:Bw V cur
 all:∀w',Bw cur w'->F w'
theorem Stb.start (V:World):Stb V V.drew (λ_=>True):=⟨jw V,λ_ _=>trivial⟩
theorem Stb.go {V p cur:World}{F:World->Prop}(h:Stb V p F)(k:Bw p cur):Stb V cur F:=⟨bL h.bel k,λa b=>h.all a (bL k b)⟩
theorem Stb.and {V cur:World}{F G:World->Prop}(h:Stb V cur F)(k:∀w',Bw cur w'->G w'):Stb V cur (λw'=>F w'/\G w'):=⟨h.bel,λw' a=>⟨h.all w' a,k w' a⟩⟩
theorem EH (w:World)(o:Obj):Bw w.drew (w.alloc o).drew:=have h:=((zE w.heap.size w).alloc (zA _) o).drew;⟨h.os,h.tape,h.output,h.size,h.block⟩
abbrev xN:List Value:=[Vi 0,Vz,Vz,Vi 0,Vi 0,.string ⟨#[]⟩,Vi 0,Vz,Vz,Vi 0,Vi 0,.string ⟨#[]⟩,.string ⟨#[]⟩]
abbrev UC (W:World)(b:Nat)(v0 v1 v2 v3 v4 v5 v6 v7 v8 v9 v10 v11 v12:Value):World:=((((((((((((W.setCell (aD b 0) v0).setCell (aD b 1) v1).setCell (aD b 2) v2).setCell (aD b 3) v3).setCell (aD b 4) v4).setCell (aD b 5) v5).setCell (aD b 6) v6).setCell (aD b 7) v7).setCell (aD b 8) v8).setCell (aD b 9) v9).setCell (aD b 10) v10).setCell (aD b 11) v11).setCell (aD b 12) v12
abbrev Lf (V:World)(Kp:Nat->Prop)(s:Stp)(c:Int)(wx:World)(ka:Nat)(t1:Tm)(so1:Option Addr)(sn1 sc1:Nat)(lo1:Option Addr)(ln1 lc1:Nat)(m1 n1:Int)(s1:ByteArray)(t2:Tm)(so2:Option Addr)(sn2 sc2:Nat)(lo2:Option Addr)(ln2 lc2:Nat)(m2 n2:Int)(s2:ByteArray)(st:ByteArray):Prop :=
 ag wx ka (TC t1.kind so1 sn1 sc1 lo1 ln1 lc1 m1 n1 s1++TC t2.kind so2 sn2 sc2 lo2 ln2 lc2 m2 n2 s2++[.string st]) 79/\V.heap.size<=ka/\aj wx (λg=>(Kp g\/V.heap.size<=g)/\g≠ka) t1 (TC t1.kind so1 sn1 sc1 lo1 ln1 lc1 m1 n1 s1)/\aj wx (λg=>(Kp g\/V.heap.size<=g)/\g≠ka) t2 (TC t2.kind so2 sn2 sc2 lo2 ln2 lc2 m2 n2 s2)/\Gd (aX s.a.L (back c)) (bZ s.a.z) (s.a.z*s.a.tl) t1/\Gd (aX s.b.L (back c)) (bZ s.b.z) (s.b.z*s.b.tl) t2/\af st=enc (s.u++[back c])/\Bw V wx
theorem xO {S:Nat}(h:Below S w W)(hb:S<=b)(v0 v1 v2 v3 v4 v5 v6 v7 v8 v9 v10 v11 v12:Value):Below S w (UC W b v0 v1 v2 v3 v4 v5 v6 v7 v8 v9 v10 v11 v12):=by
 exact (((((((((((((h.setCell (p:=(aD b 0)) hb _).setCell (p:=(aD b 1)) hb _).setCell (p:=(aD b 2)) hb _).setCell (p:=(aD b 3)) hb _).setCell (p:=(aD b 4)) hb _).setCell (p:=(aD b 5)) hb _).setCell (p:=(aD b 6)) hb _).setCell (p:=(aD b 7)) hb _).setCell (p:=(aD b 8)) hb _).setCell (p:=(aD b 9)) hb _).setCell (p:=(aD b 10)) hb _).setCell (p:=(aD b 11)) hb _).setCell (p:=(aD b 12)) hb _)
theorem ag.thirteen {c0 c1 c2 c3 c4 c5 c6 c7 c8 c9 c10 c11 c12:Value}{T:TypeId}(h:ag W b [c0,c1,c2,c3,c4,c5,c6,c7,c8,c9,c10,c11,c12] T)(v0 v1 v2 v3 v4 v5 v6 v7 v8 v9 v10 v11 v12:Value):ag (UC W b v0 v1 v2 v3 v4 v5 v6 v7 v8 v9 v10 v11 v12) b [v0,v1,v2,v3,v4,v5,v6,v7,v8,v9,v10,v11,v12] T:=by
 exact (((((((((((((h.set 0 v0).set 1 v1).set 2 v2).set 3 v3).set 4 v4).set 5 v5).set 6 v6).set 7 v7).set 8 v8).set 9 v9).set 10 v10).set 11 v11).set 12 v12)
theorem Jg (h:aj W A t cs)(hn:¬A b)(v0 v1 v2 v3 v4 v5 v6 v7 v8 v9 v10 v11 v12:Value):aj (UC W b v0 v1 v2 v3 v4 v5 v6 v7 v8 v9 v10 v11 v12) A t cs:=by
 have k:∀(V:World) (o:Nat) (v:Value),ah A V (V.setCell (aD b o) v):=λV o v=>ah.set v hn;exact aj.keep (((((((((((((k _ _ _).trans (k _ _ _)).trans (k _ _ _)).trans (k _ _ _)).trans (k _ _ _)).trans (k _ _ _)).trans (k _ _ _)).trans (k _ _ _)).trans (k _ _ _)).trans (k _ _ _)).trans (k _ _ _)).trans (k _ _ _)).trans (k _ _ _)) t cs h
theorem EI (h:ef u):(enc u).length<=4*u.length:=by
 rw[<-EF h,aL];exact runesBytes_size_le u
theorem RF {c:Int}(h:runeB c=true):(Lib.encodeRune c).length<=4:=by
 have b:=EI (u:=[c]) (λr a=>by simp at a;subst a;exact h);simpa [enc]using b
theorem Hi:(prog.info? 79).map (λi=>(i.zero,i.size,i.bytes))=some (some (.agg #[Vi 0,Vz,Vz,Vi 0,Vi 0,.string ⟨#[]⟩,Vi 0,Vz,Vz,Vi 0,Vi 0,.string ⟨#[]⟩,.string ⟨#[]⟩]),13,192):=by kernel_rfl
theorem Lh {ta tb:Tm}{soa:OA}{sna sca:Nat}{loa:OA}{lna lca:Nat}{ma na:Int}{sa:ByteArray}{sob:OA}{snb scb:Nat}{lob:OA}{lnb lcb:Nat}{mb nb:Int}{sb:ByteArray}{lol:OA}{capl Bl:Nat}(N:Nat)(hN:N<=3)(hA:∀g,A g->g<w.heap.size)(hva:aj w A ta (TC ta.kind soa sna sca loa lna lca ma na sa))(hvb:aj w A tb (TC tb.kind sob snb scb lob lnb lcb mb nb sb))(oa:ta.Ok)(ob:tb.Ok)(za:ta.z<=61)(zb:tb.z<=61)(tla:ta.tl<=12420)(tlb:tb.tl<=12420)(hl:w.ownsRow Bl 3 1 (.slice lol hs.length capl) hs.length (bj hs))(hsrt:hs.Pairwise (·<·))(hpl:∀y∈hs,place y)(hcov:∀m,cX (dG ta.L tb.L) N m->∀r∈m,r∈hs.map back)(hlen:hs.length<=721):Calls prog 16 #[.agg #[Vi ta.kind,.slice soa sna sca,.slice loa lna lca,Vi ma,Vi na,.string sa],.agg #[Vi tb.kind,.slice sob snb scb,.slice lob lnb lcb,Vi mb,Vi nb,.string sb],.slice lol hs.length capl,Vi N] w λe w'=>YX (dG ta.L tb.L) N e/\Bw w w':=by
 obtain⟨W0,C9,q3,k8,l7,v0⟩:=jK (rfl:w.heap.size=_) (TC ta.kind soa sna sca loa lna lca ma na sa) 58 (TC tb.kind sob snb scb lob lnb lcb mb nb sb) 58;obtain⟨W1,u5,h0,i6,-⟩:=dS (rfl:W0.heap.size=_) [Vi ta.kind,.slice soa sna sca,.slice loa lna lca,Vi ma,Vi na,.string sa,Vi tb.kind,.slice sob snb scb,.slice lob lnb lcb,Vi mb,Vi nb,.string sb,.string ⟨#[]⟩] 79;have s4:W1.heap.size=w.heap.size+3:=by rw[<-u5];simp[v0]
 obtain⟨W2,m3,v1,-,-⟩:=dS (rfl:W1.heap.size=_) [.string (sa++{ data:=#[47] }++sb)] 9;have E2:W2.heap.size=w.heap.size+4:=by rw[<-m3];simp[s4]
 have q:af sa=ta.key:=qj hva;have o7:af sb=tb.key:=qj hvb;have K4:=qE q oa;have J3:=qE o7 ob;have h4:Bw w W2:=q3.trans ((h0.trans (v1.mono h0.size)).mono q3.size);have F9:Hid (Mem w.heap.size A w W2 (some (aD W0.heap.size 0)) [⟨ta,tb,[]⟩] (TC ta.kind soa sna sca loa lna lca ma na sa++TC tb.kind sob snb scb lob lnb lcb mb nb sb++[.string ⟨#[]⟩]) (Vz) [] [] (Vs W1.heap.size 1 1) [ta.key++47::tb.key]):=by
  refine⟨λj v hj=>⟨W0.heap.size,0,rfl,⟨.inr (by omega),by simp[Value.ownBlock],by simp[Value.ownBlock];omega⟩,by omega,?_⟩,eY.one ⟨TC ta.kind soa sna sca loa lna lca ma na sa,TC tb.kind sob snb scb lob lnb lcb mb nb sb,⟨#[]⟩,rfl,?_,?_,rfl⟩,zZ _ _ _ _,rfl,?_,λg e=>(by cases e),h4⟩
  ·rw[zf,(i6.below v1).cell];exact hj
  ·exact aj.mono (λg _ h=>⟨.inl h,by simp[Value.ownBlock],by have:=hA g h;simp[Value.ownBlock];omega⟩) _ _ (aj.below h4 _ _ hva)
  ·exact aj.mono (λg _ h=>⟨.inl h,by simp[Value.ownBlock],by have:=hA g h;simp[Value.ownBlock];omega⟩) _ _ (aj.below h4 _ _ hvb)
  ·have h1:W2.ownsRow W1.heap.size 9 1 (Vs W1.heap.size 1 1) 1 [.string (sa++{ data:=#[47] }++sb)]:=by rw[<-m3];exact JH
   rw[Jf q o7]at h1;exact ij (by simpa [qZ]using h1) (by omega)
 have B5:Hid (StG ta.L tb.L 0 ⟨ta,tb,[]⟩):=⟨oa,ob,rfl,rfl,za,zb,tla,tlb,λr hr=>by simp at hr,rfl⟩;have E3:Hid (eE ta.L tb.L (λo=>o.length<=0) [ta.key++47::tb.key]):=eE.add (ks:=[]) (λN1 K=>by simp at K) B5 (zA _);have I3:Hid (∀(j:Nat) (y:Int) (wr:World),hs[j]?=some y->Bw w wr->∃b,lol=some (aD b 0)/\b<wr.heap.size/\wr.cell? (aD b j)=some (Vi y)):=λj y wr hj hb=>by
  obtain⟨b,c2,e,_,g7,hc⟩:=iQ (bg hl hb) j _ (qJ hj);obtain⟨_,_,h5⟩:=kf hl;obtain⟨g,hg⟩:=h5 _ e;injection hg with e1 e2;subst e1 e2;exact⟨b,e,g7,by simpa using hc⟩
 have x6:=aa (Om hsrt hpl);have H6:Hid (∀r∈hs.map back,runeB r=true):=λr hr=>by
  obtain⟨y,hy,rfl⟩:=yH.1 hr;exact (gL (hpl y hy)).1
 have J7:=aa hpl;have w2:=aa hcov;have HA:=aa hA;have M5:=aa v0;have M9:=aa s4;have N8:=aa E2;have I0:=aa C9;have K1:=aa u5;have I9:=aa m3;obtain⟨a0,a1,a2,a3,a4,a5⟩:=k8.six;obtain⟨b0,b1,b2,b3,b4,b5⟩:=l7.six;have K8:=k8.lt;have K9:=l7.lt;have G8:W1.cell? (aD w.heap.size 5)=some (.string sa):=(k8.below h0).cell 5;have I6:W1.cell? (aD (w.heap.size+1) 5)=some (.string sb):=(l7.below h0).cell 5;have w0:w.heap.size<W1.heap.size:=(k8.below h0).lt;have x4:w.heap.size+1<W1.heap.size:=(l7.below h0).lt;have o9:¬9223372036854775807<sa.size+1:=by omega
 have q8:¬9223372036854775807<sa.size+1+sb.size:=by omega
 obtain⟨i9,F8,B0,x8,D2⟩:=zz AA;obtain⟨i3,J0,B6,C4,B1⟩:=zz Hi;go_enter func16,ntmps16;go_upto_region 1 with fail;rw[I0.out];generalize hS:w.heap.size=S at *;go_upto_region 2 with fail;rw[K1.out];go_wp2_with fail;rw[I9.out]
 go_loopw [10,11,12] (λnv sv iv wr=>∃(n:Nat) (j9:Option Addr) (o4:Nat) (B:List Stp) (xs:List Value) (ks:List (List UInt8)),nv=.slice j9 B.length o4/\iv=Vi n/\n<=N+1/\Mem S A w wr j9 B xs (Vz) [] [] sv ks/\(n<=N->Lv (dG ta.L tb.L) N n (B.map (·.u))/\(∀s∈B,StG ta.L tb.L n s)/\eE ta.L tb.L (λo=>o.length<=n) ks/\B.length<=721 ^ n/\ks.length<=(n+1)*400000000)/\(n=N+1->∀s,ef s->s.length<=N->¬dG ta.L tb.L s)) (λ_ _ iv _=>N+1-(intOf iv).toNat)
 case atStart=>exact⟨0,some (aD W0.heap.size 0),1,[⟨ta,tb,[]⟩],_,[ta.key++47::tb.key],rfl,rfl,zW _,F9,λ_=>⟨Lv.start,λs h=>(by simp at h;subst h;exact B5),E3,by simp,by simp⟩,λh=>(by omega)⟩
 case round=>
  obtain⟨n,j9,o4,B,xs,ks,rfl,rfl,N0,hm,C6,o5⟩:=hrel;have J:=aa hm;have B8:=aa C6;have n6:=aa o5;have n1:(0:Int)<=(n:Int):=zK _;by_cases p3:n<=N
  ·have n2:(n:Int)<=(N:Int):=by omega
   obtain⟨D1,E9,A1,q0,A6⟩:=B8.out p3;have e7:=aa D1;have B9:=aa E9;have J2:=aa A1;have M2:(B.length:Int)<=374805361:=Int.ofNat_le.2 (zJ q0 (zJ (Nat.pow_le_pow_right (by decide) (show n<=3 by omega)) (Nat.le_of_ble_eq_true rfl)));have s9:=aa q0;have D7:=aa A6;obtain⟨V,hV⟩:∃V,wr=V:=⟨_,rfl⟩;rw[hV]at J ⊢;have q6:S<=V.heap.size:=J.size (by omega);go_wp2_with fail
   go_loopw [14] (λiv wr=>∃i:Nat,iv=Vi i/\i<=B.length/\(∀x∈(B.map (·.u)).take i,¬dG ta.L tb.L x)/\Bw V wr) (λiv _=>B.length-(intOf iv).toNat)
   case atStart=>exact⟨0,rfl,zW _,λx h=>(by simp at h),zE _ _⟩
   case round=>
    obtain⟨i,rfl,G6,D6,o1⟩:=hrel;have i5:=aa D6;have i0:=aa o1;have i1:(0:Int)<=(i:Int):=zK _;by_cases i4:i<B.length
    ·have i2:(i:Int)<(B.length:Int):=by omega
     obtain⟨s,hs⟩:∃s,B[i]?=some s:=⟨_,zB i4⟩;obtain⟨b,c2,cc,rfl,q9,g7,t6,hc⟩:=J.out.now.step J.out.nowt hs;obtain⟨ca,cb,D,rfl,hva,hvb,e3⟩:=t6;obtain⟨p2,t3,p8,u9,p7,u6,mx,nx,sx,rfl,_⟩:=hva.form;obtain⟨u1,u0,p1,s5,q4,q7,my,ny,sy,rfl,_⟩:=hvb.form;obtain⟨y0,y1,y2,y3,y4,y5,y6,y7,y8,y9,p9,v3,u7⟩:=SS i0.out g7 hc;have J9:=aa hc;have H2:b<wr.heap.size:=zF g7 i0.size;have HG:Hid (StG ta.L tb.L n s):=B9.out s (zU hs);have N4:=Jt n (by omega);have v9:=aa (iR s.a wr _ _ _ _ _ _ _ _ _ _ (aj.below i0 _ _ hva) HG.oa (by have:=HG.ta;omega));have A8:=aa (aj.below i0 _ _ hvb);have n5:=aa e3;have i8:=aa hs;go_wp2_with fail;refine v9.mono ?_;rintro e O ⟨v5,rfl,D8,e4⟩;have F6:=aa D8;have F0:Hid (Bw V O):=bL i0 e4;have A0:=aa (iR s.b O _ _ _ _ _ _ _ _ _ _ (aj.below e4 _ _ A8) HG.ob (by have:=HG.tb;omega));obtain⟨z0,z1,z2,z3,z4,z5,z6,z7,z8,z9,D5,E0,D3⟩:=SS F0.out g7 J9.out;have o3:b<O.heap.size:=zF H2 e4.size;go_wp2_with fail;refine A0.mono ?_;rintro e w6 ⟨v6,rfl,s0,c3⟩;have N3:=aa s0;have n0:Hid (Bw V w6):=bL F0 c3;have M0:w6.cell? ⟨b,c2+i*13+12,none⟩=some (.string D):=(c3.cell (p:=⟨b,_,none⟩) o3).trans D3;have L0:b<w6.heap.size:=zF o3 c3.size;have m9:Hid (dG ta.L tb.L s.u↔v5≠v6):=by
      show _↔_
      have e1:s.a.L []↔ta.L s.u:=by rw[HG.out.la];unfold rM;rw[zx]
      have e2:s.b.L []↔tb.L s.u:=by rw[HG.out.lb];unfold rM;rw[zx]
      unfold dG;rw[<-e1,<-e2,<-F6.out,<-s0];cases v5<;>cases v6<;>simp
     cases v5 with
     |true=>
      cases v6 with
      |true=>
       have l6:Hid (¬dG ta.L tb.L s.u):=λh=>m9.1 h rfl;have i7:Hid ((B.map (·.u)).take (i+1)=(B.map (·.u)).take i++[s.u]):=by show _=_;rw[zi,zg,i8.out];rfl
       go_wp2_with fail
       go_roundw
       case rel=>exact⟨i+1,by go_num,by omega,by rw[i7.out];intro x hx;rcases zM.1 hx with hx|hx;exact i5 x hx;simp at hx;subst hx;exact l6,n0⟩
       case measure=>simp[intOf];omega
      |false=>
       have HD:Hid (dG ta.L tb.L s.u):=m9.2 (by simp);have t0:Hid (gZ (dG ta.L tb.L) N D true):=.inl ⟨s.u,e7.found p3 (by rw[zg,i8.out];rfl) HD i5,EE (by rw[n5.out,EF HG.out.vl]),rfl⟩;go_wp2_with fail
       go_ret2
       exact⟨⟨D,true,rfl,t0⟩,by rw[hS];exact J.bel.trans (n0.mono q6)⟩
     |false=>
      cases v6 with
      |true=>
       have HD:Hid (dG ta.L tb.L s.u):=m9.2 (by simp);have t0:Hid (gZ (dG ta.L tb.L) N D true):=.inl ⟨s.u,e7.found p3 (by rw[zg,i8.out];rfl) HD i5,EE (by rw[n5.out,EF HG.out.vl]),rfl⟩;go_wp2_with fail
       go_ret2
       exact⟨⟨D,true,rfl,t0⟩,by rw[hS];exact J.bel.trans (n0.mono q6)⟩
      |false=>
       have l6:Hid (¬dG ta.L tb.L s.u):=λh=>m9.1 h rfl;have i7:Hid ((B.map (·.u)).take (i+1)=(B.map (·.u)).take i++[s.u]):=by show _=_;rw[zi,zg,i8.out];rfl
       go_wp2_with fail
       go_roundw
       case rel=>exact⟨i+1,by go_num,by omega,by rw[i7.out];intro x hx;rcases zM.1 hx with hx|hx;exact i5 x hx;simp at hx;subst hx;exact l6,n0⟩
       case measure=>simp[intOf];omega
    ·have i2:decide ((i:Int)<(B.length:Int))=false:=zI (by omega);obtain rfl:i=B.length:=by omega
     have k3:Hid (∀x∈B.map (·.u),¬dG ta.L tb.L x):=by have:=i5.out;rwa [yF (by simp)]at this
     have B7:=aa (J.below i0 q6);go_wp2_with fail
     go_loopw [11,13,17] (λsv nv iv wr=>∃(i:Nat) (H:Option Addr) (l:Nat) (d:List Stp) (ys:List Value) (ks:List (List UInt8)),nv=.slice H d.length l/\iv=Vi i/\i<=B.length/\(n=N->i=0)/\Mem S A w wr j9 B xs nv d ys sv ks/\Nx (dG ta.L tb.L) (B.map (·.u)) (hs.map back) i 0 (d.map (·.u))/\(∀s∈d,StG ta.L tb.L (n+1) s)/\eE ta.L tb.L (λo=>o.length<=n\/kW (B.map (·.u)) (hs.map back) i 0 o) ks/\d.length<=i*721/\ks.length<=(n+1)*400000000+i*721) (λ_ _ iv _=>B.length-(intOf iv).toNat)
     case atStart=>exact⟨0,none,0,[],[],ks,rfl,rfl,zW _,λ_=>rfl,B7,Nx.start,λs h=>(by simp at h),J2.more λo h=>.inl h,by simp,zJ D7 (Nat.le_add_right _ _)⟩
     case round=>
      obtain⟨i,H,l,d,ys,ks,rfl,rfl,G6,G2,hm,j8,g5,e5,k7,g0⟩:=hrel;have J:=aa hm;have h3:=aa j8;have T:=aa g5;have a6:=aa e5;have e6:=aa k7;have g4:=aa g0;have i1:(0:Int)<=(i:Int):=zK _;by_cases i4:i<B.length/\n<N
      ·obtain⟨i4,L2⟩:=i4;have i2:(i:Int)<(B.length:Int):=by omega
       have n3:(n:Int)<(N:Int):=by omega
       obtain⟨s,m6⟩:∃s,B[i]?=some s:=⟨_,zB i4⟩;have i8:=aa m6;have HG:Hid (StG ta.L tb.L n s):=B9.out s (zU m6);have g6:Hid ((B.map (·.u))[i]?=some s.u):=by show _=_;rw[zg,m6];rfl
       go_wp2_with fail
       go_loopw [11,13,18] (λsv nv kv wr=>∃(k:Nat) (H:Option Addr) (l:Nat) (d:List Stp) (ys:List Value) (ks:List (List UInt8)),nv=.slice H d.length l/\kv=Vi k/\k<=hs.length/\Mem S A w wr j9 B xs nv d ys sv ks/\Nx (dG ta.L tb.L) (B.map (·.u)) (hs.map back) i k (d.map (·.u))/\(∀s∈d,StG ta.L tb.L (n+1) s)/\eE ta.L tb.L (λo=>o.length<=n\/kW (B.map (·.u)) (hs.map back) i k o) ks/\d.length<=i*721+k/\ks.length<=(n+1)*400000000+i*721+k) (λ_ _ kv _=>hs.length-(intOf kv).toNat)
       case atStart=>exact⟨0,H,l,d,ys,ks,rfl,rfl,zW _,J,h3,T,a6,zJ e6 (Nat.le_add_right _ _),zJ g4 (Nat.le_add_right _ _)⟩
       case round=>
        obtain⟨k,H,l,d,ys,ks,rfl,rfl,L1,hm,j8,g5,e5,k7,g0⟩:=hrel;obtain⟨e8,L,rfl⟩:=cd hm.seen;have J:=aa hm;have h3:=aa j8;have T:=aa g5;have a6:=aa e5;have e6:=aa k7;have g4:=aa g0;have k1:(0:Int)<=(k:Int):=zK _;by_cases B4:k<hs.length
        ·have k2:(k:Int)<(hs.length:Int):=by omega
         obtain⟨c,m0⟩:∃c,hs[k]?=some c:=⟨_,zB B4⟩;have G7:=aa m0;have j0:Hid (place c):=J7.out c (zU m0);have j3:Hid ((hs.map back)[k]?=some (back c)):=by show _=_;rw[zg,m0];rfl
         obtain⟨C,B2⟩:∃C,wr=C:=⟨_,rfl⟩;rw[B2]at J ⊢;go_upto_region 20 with fail
         go_cut [19] (λv wx=>∃G t1 l2 k5 j6 l8 j4 k6 m1 n1 s1 t2 k0 l3 j7 l0 l4 k4 m2 n2 s2 st,v=Vp G/\Hid (Lf C (KK S A (.slice H d.length l) (.slice e8 ks.length L)) s c wx G t1 l2 k5 j6 l8 j4 k6 m1 n1 s1 t2 k0 l3 j7 l0 l4 k4 m2 n2 s2 st))
         case first=>
          obtain⟨b,c2,cc,rfl,q9,g7,t6,hc⟩:=J.out.now.step J.out.nowt i8.out;obtain⟨ca,cb,D,rfl,hva,hvb,e3⟩:=t6;obtain⟨p2,t3,p8,u9,p7,u6,mx,nx,sx,rfl,_⟩:=hva.form;obtain⟨u1,u0,p1,s5,q4,q7,my,ny,sy,rfl,_⟩:=hvb.form;obtain⟨bl,rfl,E7,w9⟩:=I3.out k c C G7.out J.out.bel;obtain⟨A2,h7⟩:∃A2:Nat->Prop,A2=λg=>KK S A (.slice H d.length l) (.slice e8 ks.length L) g/\g<C.heap.size:=⟨_,rfl⟩;have t9:Hid (∀g,A2 g->g<C.heap.size):=λg h=>by rw[h7]at h;exact h.2
          have K5:Hid (∀g,KK S A (.slice H d.length l) (.slice e8 ks.length L) g->g<C.heap.size->A2 g):=λg h k=>by rw[h7];exact⟨h,k⟩
          have D4:Hid (∀g,A2 g->KK S A (.slice H d.length l) (.slice e8 ks.length L) g):=λg h=>by rw[h7]at h;exact h.1
          have l5:Hid (∀w',Bw C w'->(CT w' b (c2+i*13) s.a.kind p2 t3 p8 u9 p7 u6 mx nx sx/\CT w' b (c2+i*13+6) s.b.kind u1 u0 p1 s5 q4 q7 my ny sy/\w'.cell? ⟨b,c2+i*13+12,none⟩=some (.string D)/\w'.cell? (aD bl k)=some (Vi c))):=λw' h=>by
           obtain⟨y0,y1,y2,y3,y4,y5,y6,y7,y8,y9,p9,v3,u7⟩:=SS h g7 hc;exact⟨⟨y0,y1,y2,y3,y4,y5⟩,⟨y6,y7,y8,y9,p9,v3⟩,u7,(h.cell (p:=(aD bl k)) E7).trans w9⟩
          have q5:∀(u:Tm) soz snz scz loz lnz lcz mz nz sz,u.z<=lz n->u.tl<=Cw n->u.Ok->aj C (KK S A (.slice H d.length l) (.slice e8 ks.length L)) u (TC u.kind soz snz scz loz lnz lcz mz nz sz)->Hid (∀p E F,Stb C p F->Bw p E->Calls prog 30 #[.agg #[Vi u.kind,.slice soz snz scz,.slice loz lnz lcz,Vi mz,Vi nz,.string sz],Vi c] E λe O=>∃t so sn sc lo ln lc mm nn st X Y,e=.returned (.agg #[Vi (Tm.kind t),.slice so sn sc,.slice lo ln lc,Vi mm,Vi nn,.string st])/\Hid (Stb C O (λw'=>F w'/\aj w' (λg=>A2 g\/(X<g/\g<Y)) t (TC t.kind so sn sc lo ln lc mm nn st)))/\Hid (Gd (aX u.L (back c)) (bZ u.z) (u.z*u.tl) t)/\C.heap.size<=X/\p.heap.size<=X/\X<=Y/\Y<=O.heap.size/\C.heap.size<=O.heap.size/\Hid (Bw E O)):=λu _ _ _ _ _ _ _ _ _ uz ut uo G5 p E F h hb=>by
           have A9:=bL h.bel hb;have h8:=A9.size;have h9:=Js n (by omega);refine (lH u E A2 _ _ _ _ _ _ _ _ _ c (λg hg=>by have:=t9.out g hg;omega) (aj.below A9 _ _ (aj.mono (λg hg K=>K5 g K hg) _ _ G5)) uo j0 (zJ (Nat.mul_le_mul uz ut) h9.1) (zJ (dY uz) h9.2)).mono ?_;rintro e O ⟨t,so,sn,sc,lo,ln,lc,mm,nn,st,rfl,g1,g2,g3⟩;refine⟨t,so,sn,sc,lo,ln,lc,mm,nn,st,E.heap.size,O.heap.size,rfl,?_,g2,h8,hb.size,g3.size,zA _,zJ h8 g3.size,g3⟩;exact ((h.go hb).go g3).and λw' k9=>aj.below k9 _ _ (aj.mono (λg hg K=>by rcases K with K|K;exact .inl K;exact .inr ⟨K,hg⟩) _ _ g1)
          have F4:=q5 s.a _ _ _ _ _ _ _ _ _ HG.za HG.ta HG.oa hva;have I2:=q5 s.b _ _ _ _ _ _ _ _ _ HG.zb HG.tb HG.ob hvb;have H0:Hid (∀(p E:World) (F:World->Prop),Stb C p F->Bw p E->Calls prog 31 #[Vi (back c)] E λe O=>∃f,e=.returned (.string f)/\Hid (Stb C O F)/\Hid (af f=Lib.encodeRune (back c))/\f.size<=4/\p.heap.size<=O.heap.size/\C.heap.size<=O.heap.size/\Hid (Bw E O)):=λp E F h hb=>by
           refine (QS (back c) E (gL j0).1).mono ?_;rintro e O ⟨f,rfl,g1,g2⟩;exact⟨f,rfl,(h.go hb).go g2,g1,by rw[<-aL,g1];exact RF (gL j0).1,zJ hb.size g2.size,zJ h.bel.size (zJ hb.size g2.size),g2⟩
          have F5:Hid (∀E:World,Calls prog 32 #[Vi c] E λe w'=>e=.returned (Vi (back c))/\w'=E):=λE=>FY c E j0.1 (by have:=j0.2;omega);have s3:Hid (∀O:World,Below (C.alloc (.cells xN.toArray 79)).drew.heap.size (C.alloc (.cells xN.toArray 79)).drew O->∃G,C.heap.size=G/\Hid (ag O G xN 79)/\C.heap.size<=G/\C.drew.heap.size<=G/\G<=C.drew.heap.size):=λO h=>⟨_,rfl,(ag.new C xN 79).below (ku h),zA _,zA _,zA _⟩;have o8:Hid (∀p O:World,Below (p.alloc (.cells xN.toArray 79)).heap.size (p.alloc (.cells xN.toArray 79)) O->C.heap.size<=p.heap.size->∃G,p.heap.size=G/\Hid (ag O G xN 79)/\C.heap.size<=G/\p.heap.size<=G/\G<=p.heap.size):=λp O h k9=>⟨_,rfl,(ag.new p xN 79).below h,k9,zA _,zA _⟩;have L7:D.size<=12:=by rw[<-aL,e3];have h1:=EI HG.vl;have h2:=HG.ln;omega
          have E5:Hid (∀f,af f=Lib.encodeRune (back c)->af (D++f)=enc (s.u++[back c])):=λf h=>by rw[cy,e3,h,SB]
          have K7:Hid (∀X7 Y7 X8 Y8 {wl F t7 c6 b7 c1 M a9 b8 m7 n7 s7 t8 c4 b6 b9 c7 c8 c9 m8 n8 s8 f},Stb C wl F->(∀w',F w'->aj w' (λg=>A2 g\/(X7<g/\g<Y7)) t7 (TC t7.kind c6 b7 c1 M a9 b8 m7 n7 s7))->(∀w',F w'->aj w' (λg=>A2 g\/(X8<g/\g<Y8)) t8 (TC t8.kind c4 b6 b9 c7 c8 c9 m8 n8 s8))->Gd (aX s.a.L (back c)) (bZ s.a.z) (s.a.z*s.a.tl) t7->Gd (aX s.b.L (back c)) (bZ s.b.z) (s.b.z*s.b.tl) t8->af f=Lib.encodeRune (back c)->C.heap.size<=X7->C.heap.size<=X8->Y7<=wl.heap.size->Y8<=wl.heap.size->Lf C (KK S A (.slice H d.length l) (.slice e8 ks.length L)) s c (wl.alloc (.cells #[Vi t7.kind,.slice c6 b7 c1,.slice M a9 b8,Vi m7,Vi n7,.string s7,Vi t8.kind,.slice c4 b6 b9,.slice c7 c8 c9,Vi m8,Vi n8,.string s8,.string (D++f)] 79)) wl.heap.size t7 c6 b7 c1 M a9 b8 m7 n7 s7 t8 c4 b6 b9 c7 c8 c9 m8 n8 s8 (D++f)):=by
           intro X7 Y7 X8 Y8 wl F t7 _ _ _ _ _ _ _ _ _ t8 _ _ _ _ _ _ _ _ _ f h e1 e2 g1 g2 e4 x1 x2 y1 y2;have hw:=h.all wl (zE _ _);have h8:=h.bel.size;refine⟨ag.new wl _ 79,h8,aj.below (fB (zE _ _) _) _ _ (aj.mono (λg hg K=>?_) _ _ (e1 wl hw)),aj.below (fB (zE _ _) _) _ _ (aj.mono (λg hg K=>?_) _ _ (e2 wl hw)),g1,g2,E5 f e4,fB h.bel _⟩<;>rcases K with K|K
           all_goals first|exact⟨.inl (D4 g K),by have:=t9.out g K;omega⟩|exact⟨.inr (by omega),by omega⟩
          have K6:Hid (∀X7 Y7 X8 Y8 {G wl F t7 c6 b7 c1 M a9 b8 m7 n7 s7 t8 c4 b6 b9 c7 c8 c9 m8 n8 s8 f},Stb C wl F->(∀w',F w'->aj w' (λg=>A2 g\/(X7<g/\g<Y7)) t7 (TC t7.kind c6 b7 c1 M a9 b8 m7 n7 s7))->(∀w',F w'->aj w' (λg=>A2 g\/(X8<g/\g<Y8)) t8 (TC t8.kind c4 b6 b9 c7 c8 c9 m8 n8 s8))->Gd (aX s.a.L (back c)) (bZ s.a.z) (s.a.z*s.a.tl) t7->Gd (aX s.b.L (back c)) (bZ s.b.z) (s.b.z*s.b.tl) t8->af f=Lib.encodeRune (back c)->C.heap.size<=X7->C.heap.size<=X8->ag wl G xN 79->C.heap.size<=G->(G<=X7\/Y7<=G)->(G<=X8\/Y8<=G)->Lf C (KK S A (.slice H d.length l) (.slice e8 ks.length L)) s c (UC wl G (Vi t7.kind) (.slice c6 b7 c1) (.slice M a9 b8) (Vi m7) (Vi n7) (.string s7) (Vi t8.kind) (.slice c4 b6 b9) (.slice c7 c8 c9) (Vi m8) (Vi n8) (.string s8) (.string (D++f))) G t7 c6 b7 c1 M a9 b8 m7 n7 s7 t8 c4 b6 b9 c7 c8 c9 m8 n8 s8 (D++f)):=by
           intro X7 Y7 X8 Y8 G wl F t7 _ _ _ _ _ _ _ _ _ t8 _ _ _ _ _ _ _ _ _ f h e1 e2 g1 g2 e4 x1 x2 G3 e0 y1 y2;have hw:=h.all wl (zE _ _);refine⟨G3.thirteen _ _ _ _ _ _ _ _ _ _ _ _ _,e0,Jg (aj.mono (λg hg K=>?_) _ _ (e1 wl hw)) (λK=>K.2 rfl) _ _ _ _ _ _ _ _ _ _ _ _ _,Jg (aj.mono (λg hg K=>?_) _ _ (e2 wl hw)) (λK=>K.2 rfl) _ _ _ _ _ _ _ _ _ _ _ _ _,g1,g2,E5 f e4,xO h.bel e0 _ _ _ _ _ _ _ _ _ _ _ _ _⟩<;>rcases K with K|K
           all_goals first|exact⟨.inl (D4 g K),by have:=t9.out g K;omega⟩|exact⟨.inr (by omega),by omega⟩
          have HS:=aa (Stb.start C);have G9:=aa (l5 C.drew (jw C));have L6:C.heap.size<=C.drew.heap.size:=zA _
          go_region_held3 (λw'=>CT w' b (c2+i*13) s.a.kind p2 t3 p8 u9 p7 u6 mx nx sx/\CT w' b (c2+i*13+6) s.b.kind u1 u0 p1 s5 q4 q7 my ny sy/\w'.cell? ⟨b,c2+i*13+12,none⟩=some (.string D)/\w'.cell? (aD bl k)=some (Vi c))
           (first|with_reducible exact G9.out|with_reducible exact l5.out _ HS.out.bel|with_reducible exact l5.out _ (fB HS.out.bel _)|with_reducible exact l5.out _ (xO HS.out.bel e0 _ _ _ _ _ _ _ _ _ _ _ _ _)|with_reducible exact l5.out _ (OB (zE _ _) _)|fail)
           (first
            |(go_at_call 30;with_reducible refine (F4.out _ _ _ HS.out (by first|with_reducible exact zE _ _|with_reducible exact fB (zE _ _) _|with_reducible exact EH _ _)).mono ?_;rintro e wa ⟨t7,c6,b7,c1,M,a9,b8,m7,n7,s7,X7,Y7,rfl,HS,C7,D9,M8,N7,L8,v8,HD⟩;(first|(clear r0 r1 r2 r3 r4 r5 r6 r7 r8 r9 U a7 W f0 f1 f2 f3 f4 f5 f6 f7 f8 f9 a8 Q Z R;with_reducible have a:=aa (a.out.below HD.out);obtain⟨r0,r1,r2,r3,r4,r5,r6,r7,r8,r9,U,a7,W⟩:=a.out.c13;obtain⟨f0,f1,f2,f3,f4,f5,f6,f7,f8,f9,a8,Q,Z,R⟩:=a.out.f13)|(with_reducible obtain⟨G,q,a,e0,q1,q2⟩:=s3.out _ HD.out;rw[q];obtain⟨r0,r1,r2,r3,r4,r5,r6,r7,r8,r9,U,a7,W⟩:=a.out.c13;obtain⟨f0,f1,f2,f3,f4,f5,f6,f7,f8,f9,a8,Q,Z,R⟩:=a.out.f13)|(with_reducible obtain⟨G,q,a,e0,q1,q2⟩:=o8.out _ _ HD.out (by first|with_reducible exact v8|with_reducible exact p4|with_reducible exact u4);rw[q];obtain⟨r0,r1,r2,r3,r4,r5,r6,r7,r8,r9,U,a7,W⟩:=a.out.c13;obtain⟨f0,f1,f2,f3,f4,f5,f6,f7,f8,f9,a8,Q,Z,R⟩:=a.out.f13)|skip))
            |(go_at_call 30;with_reducible refine (I2.out _ _ _ HS.out (by first|with_reducible exact zE _ _|with_reducible exact fB (zE _ _) _|with_reducible exact EH _ _)).mono ?_;rintro e wb ⟨t8,c4,b6,b9,c7,c8,c9,m8,n8,s8,X8,Y8,rfl,HS,A5,w1,N9,M7,N5,p4,HD⟩;(first|(clear r0 r1 r2 r3 r4 r5 r6 r7 r8 r9 U a7 W f0 f1 f2 f3 f4 f5 f6 f7 f8 f9 a8 Q Z R;with_reducible have a:=aa (a.out.below HD.out);obtain⟨r0,r1,r2,r3,r4,r5,r6,r7,r8,r9,U,a7,W⟩:=a.out.c13;obtain⟨f0,f1,f2,f3,f4,f5,f6,f7,f8,f9,a8,Q,Z,R⟩:=a.out.f13)|(with_reducible obtain⟨G,q,a,e0,q1,q2⟩:=s3.out _ HD.out;rw[q];obtain⟨r0,r1,r2,r3,r4,r5,r6,r7,r8,r9,U,a7,W⟩:=a.out.c13;obtain⟨f0,f1,f2,f3,f4,f5,f6,f7,f8,f9,a8,Q,Z,R⟩:=a.out.f13)|(with_reducible obtain⟨G,q,a,e0,q1,q2⟩:=o8.out _ _ HD.out (by first|with_reducible exact v8|with_reducible exact p4|with_reducible exact u4);rw[q];obtain⟨r0,r1,r2,r3,r4,r5,r6,r7,r8,r9,U,a7,W⟩:=a.out.c13;obtain⟨f0,f1,f2,f3,f4,f5,f6,f7,f8,f9,a8,Q,Z,R⟩:=a.out.f13)|skip))
            |(go_at_call 32;with_reducible refine (F5.out _).mono ?_;rintro e w8 ⟨rfl,rfl⟩)
            |(go_at_call 31;with_reducible refine (H0.out _ _ _ HS.out (by first|with_reducible exact zE _ _|with_reducible exact fB (zE _ _) _|with_reducible exact EH _ _)).mono ?_;rintro e wt ⟨f,rfl,HS,E6,zt,pt,u4,HD⟩;have z8:D.size+f.size<=9223372036854775807:=(by omega);have z9:=λw=>run_string_add_sum (P:=prog) (w:=w) D f z8;have D5:decide (9223372036854775807<D.size+f.size)=false:=zI (by omega);have E0:(9223372036854775807<D.size+f.size)=False:=eq_false (by omega);(first|(clear r0 r1 r2 r3 r4 r5 r6 r7 r8 r9 U a7 W f0 f1 f2 f3 f4 f5 f6 f7 f8 f9 a8 Q Z R;with_reducible have a:=aa (a.out.below HD.out);obtain⟨r0,r1,r2,r3,r4,r5,r6,r7,r8,r9,U,a7,W⟩:=a.out.c13;obtain⟨f0,f1,f2,f3,f4,f5,f6,f7,f8,f9,a8,Q,Z,R⟩:=a.out.f13)|(with_reducible obtain⟨G,q,a,e0,q1,q2⟩:=s3.out _ HD.out;rw[q];obtain⟨r0,r1,r2,r3,r4,r5,r6,r7,r8,r9,U,a7,W⟩:=a.out.c13;obtain⟨f0,f1,f2,f3,f4,f5,f6,f7,f8,f9,a8,Q,Z,R⟩:=a.out.f13)|(with_reducible obtain⟨G,q,a,e0,q1,q2⟩:=o8.out _ _ HD.out (by first|with_reducible exact v8|with_reducible exact p4|with_reducible exact u4);rw[q];obtain⟨r0,r1,r2,r3,r4,r5,r6,r7,r8,r9,U,a7,W⟩:=a.out.c13;obtain⟨f0,f1,f2,f3,f4,f5,f6,f7,f8,f9,a8,Q,Z,R⟩:=a.out.f13)|skip))
            |fail)
          all_goals go_wp2_with fail
          all_goals go_meet
          all_goals first
           |exact⟨G,t7,c6,b7,c1,M,a9,b8,m7,n7,s7,t8,c4,b6,b9,c7,c8,c9,m8,n8,s8,D++f,rfl,K6 X7 Y7 X8 Y8 HS (λw' h=>by first|exact h.2|exact h.1.2) (λw' h=>by first|exact h.2|exact h.1.2) C7 A5 E6 D9 w1 a e0 (by omega) (by omega)⟩
           |exact⟨_,t7,c6,b7,c1,M,a9,b8,m7,n7,s7,t8,c4,b6,b9,c7,c8,c9,m8,n8,s8,D++f,rfl,K7 X7 Y7 X8 Y8 HS (λw' h=>by first|exact h.2|exact h.1.2) (λw' h=>by first|exact h.2|exact h.1.2) C7 A5 E6 D9 w1 (by omega) (by omega)⟩
         case rest=>
          obtain⟨G,t1,l2,k5,j6,l8,j4,k6,m1,p6,s1,t2,k0,l3,j7,l0,l4,k4,m2,t5,s2,st,rfl,I⟩:=hcut;have g8:Hid (StG ta.L tb.L (n+1) ⟨t1,t2,s.u++[back c]⟩):=HG.step j0 I.2.2.2.2.1 I.2.2.2.2.2.1;have a:=aa I.1;have x5:Hid (Bw C wc):=I.2.2.2.2.2.2.2;have h6:S<=C.heap.size:=J.size (by omega);have m5:=aa (J.below x5 h6);have i6:af s1=t1.key:=qj I.2.2.1;have p5:af s2=t2.key:=qj I.2.2.2.1;have o9:=qE i6 g8.oa;have q8:=qE p5 g8.ob;have H1:t1.tl<=Cw (n+1):=g8.ta;have F3:t2.tl<=Cw (n+1):=g8.tb;have I4:=Jt (n+1) (by omega);have G0:¬9223372036854775807<s1.size+1:=by omega
          have K2:¬9223372036854775807<s1.size+1+s2.size:=by omega
          have c5:wc.cell? (aD G 5)=some (.string s1):=a.cell 5;have K3:wc.cell? (aD G 11)=some (.string s2):=a.cell 11;have L4:G<wc.heap.size:=a.lt;have A4:=aa (Jf i6 p5);have p0:i<=519841:=zJ (yJ i4) (EG s9 (by omega));have N2:=YA g4 (by omega) p0 (by omega);have M3:=YB e6 p0 (by omega);go_wp2_with fail;rw[A4.out];obtain⟨KY,s6⟩:∃KY,t1.key++47::t2.key=KY:=⟨_,rfl⟩;rw[s6];have E1:=aa s6
          go_loopw [21,22] (λbv jv wz=>∃(j:Nat) (bo:Bool),bv=.bool bo/\jv=Vi j/\j<=ks.length/\(bo=true↔KY∈ks.take j)/\wz=wc) (λ_ jv _=>ks.length-(intOf jv).toNat)
          case atStart=>exact⟨0,false,rfl,rfl,zW _,⟨λh=>(by cases h),λh=>by simp at h⟩,rfl⟩
          case round=>
           obtain⟨j,bo,rfl,rfl,L9,B3,v2⟩:=hrel;have n4:=aa B3;have j1:(0:Int)<=(j:Int):=zK _;replace v2:=v2.symm;subst v2;by_cases C5:j<ks.length
           ·have j2:(j:Int)<(ks.length:Int):=by omega
            obtain⟨z,hz⟩:∃z,ks[j]?=some z:=⟨_,zB C5⟩;obtain⟨bs,c2,rfl,_,M1,hc⟩:=(iQ m5.out.seen) j (.string ⟨z.toArray⟩) (by unfold qZ;rw[zg,hz];rfl);obtain⟨_,_,h5⟩:=kf m5.out.seen;obtain⟨g9,H5⟩:=h5 _ rfl;injection H5 with e1 e2;subst e1 e2;have c0:wc.cell? (aD bs j)=some (.string ⟨z.toArray⟩):=by simpa using hc
            have i7:Hid (ks.take (j+1)=ks.take j++[z]):=by show _=_;rw[zi,hz];rfl
            cases bo with
            |true=>
             go_wp2_with fail
             go_roundw
             case rel=>exact⟨j+1,true,rfl,by go_num,by omega,⟨λ_=>by rw[i7.out];exact yq _ (n4.1 rfl),λ_=>rfl⟩,trivial⟩
             case measure=>simp[intOf];omega
            |false=>
             go_wp2_with fail
             go_roundw
             case rel=>exact⟨j+1,_,rfl,by go_num,by omega,by
              rw[i7.out];constructor
              ·intro h;have e9:z=KY:=JI (by simpa using h);rw[e9];simp
              ·intro h;rcases zM.1 h with h|h
               ·have:=n4.2 h;cases this
               ·simp at h;subst h;simp,trivial⟩
             case measure=>simp[intOf];omega
           ·have j2:decide ((j:Int)<(ks.length:Int))=false:=zI (by omega);obtain rfl:j=ks.length:=by omega
            have E8:Hid (bo=true↔KY∈ks):=by have:=n4.out;rw[zQ]at this;exact this
            have I1:Hid (∀o,(o.length<=n\/kW (B.map (·.u)) (hs.map back) i k o)->bY o (s.u++[back c])=true):=λo h=>by
             rcases h with h|h
             ·rw[fI];left;rw[zH,HG.out.ln];exact Nat.lt_succ_of_le h
             ·exact GN e7 x6 g6 j3 h
            have F1:Hid (eE ta.L tb.L (λo=>o.length<=n\/kW (B.map (·.u)) (hs.map back) i (k+1) o) ks):=a6.more λo h=>by
             rcases h with h|h
             ·exact .inl h
             ·exact .inr ((lK g6 j3).2 (.inl h))
            cases bo with
            |true=>
             have I7:Hid (DS (dG ta.L tb.L) (s.u++[back c])):=eE.dead (s:=⟨t1,t2,s.u++[back c]⟩) a6 g8 (by show t1.key++47::t2.key∈ks;rw[E1.out];exact E8.1 rfl) I1;have l6:=aa (h3.drop g6 j3 I7);go_wp2_with fail
             go_roundw
             case rel=>exact⟨k+1,H,l,d,ys,ks,rfl,by go_num,by omega,m5,l6,T,F1,zJ e6 (yN _),zJ g4 (yN _)⟩
             case measure=>simp[intOf];omega
            |false=>
             have J1:=aa (h3.keep e7 x6 g6 j3);have J4:Hid (eE ta.L tb.L (λo=>o.length<=n\/kW (B.map (·.u)) (hs.map back) i (k+1) o) (ks++[KY])):=by
              show eE _ _ _ _
              rw[<-E1.out];exact eE.add (s:=⟨t1,t2,s.u++[back c]⟩) F1 g8 (.inr ((lK g6 j3).2 (.inr rfl)))
             obtain⟨U3,E4,l1,u8,-⟩:=dS (rfl:wc.heap.size=_) [.string ⟨KY.toArray⟩] 9;replace u8:=aa u8;have J8:=aa E4;have D0:S<=wc.heap.size:=zJ h6 x5.size;have w3:=aa (m5.below l1 D0);have A3:S<=U3.heap.size:=zJ D0 l1.size;have A7:=aa l1;have H4:=aa (a.below l1);have J6:Hid (some G≠Value.ownBlock (.slice e8 ks.length L)):=λe=>by
              have h1:=(J.seen.lt G e.symm).2;have h2:=I.2.1;omega
             go_upto_region 29 with (at_builtin;rw[J8.out];refine jg rfl (.tmp 140) (.tmp 142) 81 9 i9 _ 1 16 rfl underlying81 F8 B0 x8 D2 rfl (by decide) S ks.length _ _ rfl w3.seen _ 1 _ [.string ⟨KY.toArray⟩] rfl rfl (by decide) (λj u hj=>by rw[zl,zf,u8.out.cell];exact hj) (λu hu=>by simp at hu;subst hu;rfl) (by unfold maxLen;omega) (by omega) A3 ?_;intro v4 w4 l9 n9 o6;have HF:=aa (t4.intro l9 (t4.intro n9 o6)));have C8:=aa (w3.name HF.1 HF.2.1 HF.2.2 A3);have x3:=aa (H4.grown HF.2.1 J6);have K0:=aa (Oo I.2.2.1 A7 HF.2.1 HF.2.2 (λg e=>(J.nx.lt g e).2) (λg e=>(J.seen.lt g e).2) h6);have H3:=aa (Oo I.2.2.2.1 A7 HF.2.1 HF.2.2 (λg e=>(J.nx.lt g e).2) (λg e=>(J.seen.lt g e).2) h6);obtain⟨H8,x0,rfl⟩:=cd HF.out.1;have L3:G<w4.heap.size:=x3.lt;obtain⟨d0,d1,d2,d3,d4,d5,d6,d7,d8,d9,N6,L5,M6⟩:=x3.out.c13;obtain⟨U6,C3,c3,u2,-⟩:=dS (rfl:w4.heap.size=_) [Vi t1.kind,.slice l2 k5 j6,.slice l8 j4 k6,Vi m1,Vi p6,.string s1,Vi t2.kind,.slice k0 l3 j7,.slice l0 l4 k4,Vi m2,Vi t5,.string s2,.string st] 79;replace u2:=aa u2;have H9:=aa C3;have C0:S<=w4.heap.size:=C8.size (by omega);have x9:=aa (C8.below c3 C0);have C2:S<=U6.heap.size:=zJ C0 c3.size;have C1:Hid (oL U6 (KK S A (.slice H d.length l) (.slice H8 (ks.length+1) x0)) ⟨t1,t2,s.u++[back c]⟩ (TC t1.kind l2 k5 j6 l8 j4 k6 m1 p6 s1++TC t2.kind k0 l3 j7 l0 l4 k4 m2 t5 s2++[.string st])):=⟨_,_,st,rfl,aj.below c3 _ _ K0,aj.below c3 _ _ H3,I.2.2.2.2.2.2.1⟩;go_wp2_with (at_builtin;rw[H9.out];refine jg rfl (.tmp 144) (.tmp 146) 80 79 i3 _ 13 192 rfl underlying80 J0 B6 C4 B1 rfl (by decide) S d.length _ _ rfl x9.nx _ 1 _ (TC t1.kind l2 k5 j6 l8 j4 k6 m1 p6 s1++TC t2.kind k0 l3 j7 l0 l4 k4 m2 t5 s2++[.string st]) rfl rfl (by decide) (λj u hj=>by rw[zl,zf,u2.out.cell];exact hj) (eY.ones (eY.one C1)) (by unfold maxLen;omega) (by omega) C2 ?_;intro v7 w7 j5 o0 o2;have m4:=aa (t4.intro j5 (t4.intro o0 o2)));have I8:=aa (x9.step m4.1 m4.2.1 m4.2.2 C2 C1);obtain⟨M,x7,rfl⟩:=cd m4.out.1
             go_roundw
             case rel=>exact⟨k+1,M,x7,d++[⟨t1,t2,s.u++[back c]⟩],_,ks++[KY],by simp,by go_num,by omega,I8,by simpa using J1,λs' I5=>(by rcases zM.1 I5 with h|h;exact T s' h;simp at h;subst h;exact g8),J4,by rw[zH];exact Nat.succ_le_succ e6,by rw[zH];exact Nat.succ_le_succ g4⟩
             case measure=>simp[intOf];omega
        ·have k2:decide ((k:Int)<(hs.length:Int))=false:=zI (by omega);obtain rfl:k=hs.length:=by omega
         have G1:Hid (Nx (dG ta.L tb.L) (B.map (·.u)) (hs.map back) (i+1) 0 (d.map (·.u))):=by
          have h1:=h3.out;have e:hs.length=(hs.map back).length:=by simp
          rw[e]at h1;exact h1.next g6
         have H7:Hid (eE ta.L tb.L (λo=>o.length<=n\/kW (B.map (·.u)) (hs.map back) (i+1) 0 o) ks):=a6.more λo h=>by
          rcases h with h|h
          ·exact .inl h
          ·exact .inr ((xi g6).2 (by rw[ym];exact h))
         go_wp2_with fail
         go_roundw
         case rel=>exact⟨i+1,H,l,d,ys,ks,rfl,by go_num,by omega,λh=>(by omega),J,G1,T,H7,Vl e6 hlen,Vm g4 hlen⟩
         case measure=>simp[intOf];omega
      ·by_cases M4:i<B.length
       ·have i2:(i:Int)<(B.length:Int):=by omega
        have n3:decide ((n:Int)<(N:Int))=false:=zI (by omega);obtain rfl:n=N:=by omega
        have u3:=aa (e7.none k3);obtain rfl:i=0:=G2 rfl;have HT:=aa J.turn;go_wp2_with fail
        go_roundw
        case rel=>exact⟨n+1,H,l,d,ys,ks,rfl,by go_num,by omega,HT,λh=>(by omega),λ_=>u3⟩
        case measure=>simp[intOf]
       ·have i2:decide ((i:Int)<(B.length:Int))=false:=zI (by omega);obtain rfl:i=B.length:=by omega
        have HT:=aa J.turn;have J5:Hid (n=N->∀s,ef s->s.length<=N->¬dG ta.L tb.L s):=λe=>by subst e;exact e7.none k3
        have F7:Hid (n<N->Lv (dG ta.L tb.L) N (n+1) (d.map (·.u))):=λh=>by
         have h1:=h3.out;have e:B.length=(B.map (·.u)).length:=by simp
         rw[e]at h1;exact h1.done e7 k3 H6 w2
        have G4:Hid (eE ta.L tb.L (λo=>o.length<=n+1) ks):=a6.more λo h=>by
         rcases h with h|h
         ·exact Nat.le_succ_of_le h
         ·rcases h with⟨x,h1,r,_,rfl⟩|⟨x,_,r,h2,_⟩
          ·rw[zH,e7.out.len x (yi h1)];exact zA _
          ·simp at h2
        go_wp2_with fail
        go_roundw
        case rel=>exact⟨n+1,H,l,d,ys,ks,rfl,by go_num,by omega,HT,λh=>⟨F7 (by omega),T,G4,by have h1:=e6.out;have h2:=s9.out;rw[Nat.pow_succ];exact zJ h1 (zn _ h2),On g4 (EG s9 (by omega))⟩,λh=>J5 (by omega)⟩
        case measure=>simp[intOf];omega
  ·have n2:decide ((n:Int)<=(N:Int))=false:=zI (by omega);obtain rfl:n=N+1:=by omega
   have HF:=aa (n6 rfl);have F2:Hid (Bw w wr):=by show Below _ _ _;rw[hS];exact J.bel
   go_wp2_with fail;refine zN (v:=.tuple #[.string ⟨#[]⟩,.bool false]) (by simp[results,results16,go_sem]) rfl ?_;exact⟨⟨⟨#[]⟩,false,rfl,.inr ⟨HF,rfl,rfl⟩⟩,by first|exact F2|exact J.bel⟩
theorem Ql (hh:HeadsG qs hs)(hok:∀q∈qs,PCanon q){D:List Int->Prop}(hD:∀f:Int->Int,(∀q∈qs,∀r,runeB r=true->memB (told q) r=memB (told q) (f r))->fo f D){N:Nat}{m:LZ}(hm:cX D N m):∀r∈m,r∈hs.map back:=by
 have d:∀r:Int,∃r',runeB r=true->r'∈hs.map back/\r'<=r/\runeB r'=true/\∀q∈qs,memB (told q) r=memB (told q) r':=λr=>by
  by_cases a:runeB r=true
  ·obtain⟨s,l,x⟩:=BW a;obtain⟨h,c,k,j⟩:=hh.rep (up r) l;have n:=hh.pl h c;obtain⟨o,w⟩:=gL n;refine⟨back h,λ_=>⟨List.mem_map_of_mem c,?_,o,λq b=>?_⟩⟩
   ·rw[<-s];rcases Int.lt_or_eq_of_le k with g|g
    ·exact Int.le_of_lt (Cn n l g)
    ·rw[g];exact yv _
   ·rw[gb (hok q b) _ a,gb (hok q b) _ o,w];exact (j q b).symm
  ·exact⟨r,λh=>absurd h a⟩
 obtain⟨f,i⟩:∃f:Int->Int,∀r,runeB r=true->f r∈hs.map back/\f r<=r/\runeB (f r)=true/\∀q∈qs,memB (told q) r=memB (told q) (f r):=⟨λr=>Classical.choose (d r),λr=>Classical.choose_spec (d r)⟩;have v:=hD f λq b r a=>(i r a).2.2.2 q b;obtain⟨c,k,j,g⟩:=hm;have t:ef (m.map f):=λr a=>by
  obtain⟨q,b,rfl⟩:=yH.1 a;exact (i q (c q b)).2.2.1
 have p:=g (m.map f) t ((v m c).1 k) (by simpa using j);have u:bY m (m.map f)=false:=by
  rw[gE];exact⟨by simp,λ_=>Bj m (λr a=>(i r (c r a)).2.1)⟩
 have e:=oW u p;intro r a;rw[e]at a;obtain⟨q,b,rfl⟩:=yH.1 a;exact (i q (c q b)).1
open Go.Shelf Go.Lib
theorem Dk {D:List Int->Prop}{s t:LZ}(h:cX D n s)(k:cX D n t):s=t:=oW (k.2.2.2 s h.1 h.2.1 h.2.2.1) (h.2.2.2 t k.1 k.2.1 k.2.2.1)
theorem Dl {s t:ByteArray}{a b:Bool}(h:gZ L n s a)(k:gZ L n t b):s=t/\a=b:=by
 rcases h with⟨u,d,j,g⟩|⟨d,j,g⟩<;>rcases k with⟨v,c,i,f⟩|⟨c,i,f⟩
 ·have e:=Dk d c;subst e;exact⟨j.trans i.symm,g.trans f.symm⟩
 ·exact absurd d.2.1 (c u d.1 d.2.2.1)
 ·exact absurd c.2.1 (d v c.1 c.2.2.1)
 ·exact⟨j.trans i.symm,g.trans f.symm⟩
theorem Dm {e e':Ending}(h:qf L m e)(k:qf L m e'):∃(s:ByteArray) (a:Bool) (er:Int),e=.returned (.tuple #[.string s,.bool a,Vi er])/\e'=.returned (.tuple #[.string s,.bool a,Vi er]):=by
 rcases h with⟨c,g⟩|⟨n,s,a,c,g,l,o⟩<;>rcases k with⟨d,f⟩|⟨j,t,b,d,f,i,p⟩
 ·exact⟨_,_,_,g,f⟩
 ·exact absurd ⟨by omega,by omega⟩ c
 ·exact absurd ⟨by omega,by omega⟩ d
 ·obtain rfl:n=j:=by omega
  obtain⟨rfl,rfl⟩:=Dl o p;exact⟨_,_,_,l,i⟩
theorem GW {e:Ending}(h:qf L m e):∃(s:ByteArray) (a:Bool) (er:Int),e=.returned (.tuple #[.string s,.bool a,Vi er]):=by
 rcases h with⟨_,b⟩|⟨n,s,a,_,_,c,_⟩
 ·exact⟨_,_,_,b⟩
 ·exact⟨_,_,_,c⟩
theorem Xa {p:Pat}{g:Nat}(h:NV w (λ_=>True) p c g):NV w (λq=>q<w.heap.size) p c g:=NV.mono (λ_ a _=>a) p c g h
theorem IE {p q:Pat}(hp:p.Ok)(hq:q.Ok)(sp:Small p)(sq:Small q){g g':Nat}{k:Int}{so:OA}{sn sc:Nat}{ln lc:Nat}{n:Int}{k':Int}{so':OA}{sn' sc':Nat}{lo':OA}{ln' lc':Nat}{m' n' r':Int}(hv:NV w A p (bT k so sn sc lo ln lc m n r) g)(hv2:NV w A q (bT k' so' sn' sc' lo' ln' lc' m' n' r') g')(hA:∀g,A g->g<w.heap.size)(most:Int):Calls prog 10 #[.agg #[Vi k,.slice so sn sc,.slice lo ln lc,Vi m,Vi n,Vi r],.agg #[Vi k',.slice so' sn' sc',.slice lo' ln' lc',Vi m',Vi n',Vi r'],Vi most] w λe w'=>qf (dG p.Mt q.Mt) most e/\Bw w w':=by
 obtain⟨u,hV⟩:∃u,(w.alloc (.cells #[Vi k,.slice so sn sc,.slice lo ln lc,Vi m,Vi n,Vi r] 27)).alloc (.cells #[Vi k',.slice so' sn' sc',.slice lo' ln' lc',Vi m',Vi n',Vi r'] 27)=u:=⟨_,rfl⟩;have I:Bw w u:=by rw[<-hV];exact ((zE _ _).alloc (zA _) _).alloc (by simp) _
 have o:ag u w.heap.size (bT k so sn sc lo ln lc m n r) 27:=by rw[<-hV];exact (ag.new w (bT k so sn sc lo ln lc m n r) 27).alloc _
 have d0:ag u (w.heap.size+1) (bT k' so' sn' sc' lo' ln' lc' m' n' r') 27:=by rw[<-hV];have:=ag.new (w.alloc (.cells #[Vi k,.slice so sn sc,.slice lo ln lc,Vi m,Vi n,Vi r] 27)) (bT k' so' sn' sc' lo' ln' lc' m' n' r') 27;simpa [bT]using this
 have B:=aa I;have HV:=aa hV;by_cases hm:0<=most/\most<=3
 ·obtain⟨N,rfl⟩:∃N:Nat,most=N:=⟨most.toNat,by omega⟩;have hN:N<=3:=by omega
  have HA:=aa hA;have HP:=aa hp;have HQ:=aa hq;have C:=aa sp;have D:=aa sq;have e7:=aa (hv.below I);have f1:=aa (hv2.below I);have g7:=aa o;have E:=aa d0;have f5:=aa (nw p u A _ _ _ _ _ _ _ _ _ _ _ e7 (λg J=>zF (hA g J) I.size) (zJ sp.nd (by decide)));have g6:Hid (∀a,Bw u a->Calls prog 20 #[.agg #[Vi k',.slice so' sn' sc',.slice lo' ln' lc',Vi m',Vi n',Vi r']] a (rP a A [q])):=λa h=>nw q a A _ _ _ _ _ _ _ _ _ _ _ (f1.below h) (λg J=>zF (hA g J) (zJ I.size h.size)) (zJ sq.nd (by decide));have n1:decide ((N:Int)<0)=false:=zI (by omega);have n2:decide (3<(N:Int))=false:=zI (by omega);have a0:u.cell? (aD w.heap.size 0)=some (Vi k):=o.cell 0;have a1:u.cell? (aD w.heap.size 1)=some (.slice so sn sc):=o.cell 1;have a2:u.cell? (aD w.heap.size 2)=some (.slice lo ln lc):=o.cell 2;have a3:u.cell? (aD w.heap.size 3)=some (Vi m):=o.cell 3;have a4:u.cell? (aD w.heap.size 4)=some (Vi n):=o.cell 4;have a5:u.cell? (aD w.heap.size 5)=some (Vi r):=o.cell 5;have i5:=o.lt;obtain⟨i0,hi,e8,f6,e0⟩:=zz vM;go_enter func10,ntmps10;go_upto_region 1 with fail;rw[HV.out];generalize hS:w.heap.size=S at *;go_wp2_with fail;refine f5.mono ?_;rintro e y ⟨v5,qa,va,rfl,c9,f4,e4,l⟩;obtain⟨j7,i7,rfl⟩:=cd c9;have d6:=aa c9;have e9:=aa f4;have f7:=aa e4;have g5:=aa l;have f3:=aa (g6 y l);have b0:y.cell? (aD (S+1) 0)=some (Vi k'):=(E.below l).cell 0;have b1:y.cell? (aD (S+1) 1)=some (.slice so' sn' sc'):=(E.below l).cell 1;have b2:y.cell? (aD (S+1) 2)=some (.slice lo' ln' lc'):=(E.below l).cell 2;have b3:y.cell? (aD (S+1) 3)=some (Vi m'):=(E.below l).cell 3;have b4:y.cell? (aD (S+1) 4)=some (Vi n'):=(E.below l).cell 4;have b5:y.cell? (aD (S+1) 5)=some (Vi r'):=(E.below l).cell 5;have g9:=(E.below l).lt;go_wp2_with fail;refine f3.mono ?_;rintro e w6 ⟨v6,qb,vb,rfl,T,d2,f0,a7⟩;obtain⟨j4,i8,rfl⟩:=cd T;obtain⟨_,c5,_⟩:=kf T;have f8:=aa c5;have e6:=aa (iQ T);have d1:=aa d2;have d4:Hid (SetsG [p,q] (qa++qb)):=f7.more f0;have b6:=aa (bg d6 a7);have c6:=aa (e9.below a7);have d5:Hid (Bw u w6):=bL g5 a7;have i6:Hid (vb.length=qb.length):=d2.len;have i9:qa.length+qb.length<=2000:=by
   have h1:=d4.len;have h2:=C.nd;have h3:=D.nd;simp only[bH,zH]at h1;omega
  go_upto_region 5 with (at_builtin;refine eO rfl (.tmp 20) (.tmp 22) 63 24 i0 _ 1 24 rfl underlying63 hi e8 f6 e0 rfl (by decide) u.heap.size qa.length _ _ rfl b6 _ qb.length _ vb rfl f8 (by rw[i6.out,Nat.mul_one]) (WU e6) d1.ones (by unfold maxLen;omega) (by omega) d5.size ?_;intro v7 V H M);obtain⟨d9,c4,rfl⟩:=cd H;obtain⟨P,W⟩:∃P,qa++qb=P:=⟨_,rfl⟩;have c7:qa.length+qb.length=P.length:=by rw[<-W];simp
  have e5:Hid (Bw u V):=cD d5 d5.size b6 M;have G:=e5;have K:Hid (SetsG [p,q] P):=by rw[<-W];exact d4
  have g0:Hid (gh V A P (va++vb)):=by
   show gh _ _ _ _
   rw[<-W];exact (c6.append d1).keep (ah.grown M (λg e ha=>by have h1:=(b6.lt g e).1;have h2:=HA.out g ha;have h3:=B.size;omega))
  have i3:Hid (V.ownsRow u.heap.size 24 1 (.slice d9 P.length c4) P.length (va++vb)):=by
   show V.ownsRow _ _ _ _ _ _
   rw[<-c7];exact H
  rw[c7];have HT:Hid (∀(z a:World) (F:World->Prop),Stb V z F->Bw z a->Calls prog 17 #[.agg #[Vi k,.slice so sn sc,.slice lo ln lc,Vi m,Vi n,Vi r]] a λe y=>∃t so sn sc lo ln lc R nn st,e=.returned (.agg #[Vi (Tm.kind t),.slice so sn sc,.slice lo ln lc,Vi R,Vi nn,.string st])/\Hid (Stb V y (λw'=>F w'/\aj w' (λg=>A g\/V.heap.size<=g) t (TC t.kind so sn sc lo ln lc R nn st)))/\Hid (fA p t)):=λz a F h O=>by
   have i:=bL h.bel O;have h8:=i.size;have h7:=G.size;have h6:=B.size;refine (nr p a A _ _ _ _ _ _ _ _ _ _ _ ((e7.below G).below i) (λg J=>by have:=HA.out g J;omega) HP (zJ C.nd (by decide)) (zJ C.rg (by decide))).mono ?_;rintro e y ⟨t,so,sn,sc,lo,ln,lc,R,nn,st,rfl,g1,g2,g3⟩;exact⟨t,so,sn,sc,lo,ln,lc,R,nn,st,rfl,((h.go O).go g3).and λw' k9=>aj.below k9 _ _ (aj.mono (λg J L=>by rcases L with L|L;exact .inl L;exact .inr (by omega)) _ _ g1),g2⟩
  have HU:Hid (∀(z a:World) (F:World->Prop),Stb V z F->Bw z a->Calls prog 17 #[.agg #[Vi k',.slice so' sn' sc',.slice lo' ln' lc',Vi m',Vi n',Vi r']] a λe y=>∃t so sn sc lo ln lc R nn st,e=.returned (.agg #[Vi (Tm.kind t),.slice so sn sc,.slice lo ln lc,Vi R,Vi nn,.string st])/\Hid (Stb V y (λw'=>F w'/\aj w' (λg=>A g\/V.heap.size<=g) t (TC t.kind so sn sc lo ln lc R nn st)))/\Hid (fA q t)):=λz a F h O=>by
   have i:=bL h.bel O;have h8:=i.size;have h7:=G.size;have h6:=B.size;refine (nr q a A _ _ _ _ _ _ _ _ _ _ _ ((f1.below G).below i) (λg J=>by have:=HA.out g J;omega) HQ (zJ D.nd (by decide)) (zJ D.rg (by decide))).mono ?_;rintro e y ⟨t,so,sn,sc,lo,ln,lc,R,nn,st,rfl,g1,g2,g3⟩;exact⟨t,so,sn,sc,lo,ln,lc,R,nn,st,rfl,((h.go O).go g3).and λw' k9=>aj.below k9 _ _ (aj.mono (λg J L=>by rcases L with L|L;exact .inl L;exact .inr (by omega)) _ _ g1),g2⟩
  have f9:Hid (∀(z a:World) (F:World->Prop),Stb V z F->Bw z a->Calls prog 19 #[.slice d9 P.length c4] a λe y=>∃j x b,e=.returned (.slice j (List.length x) b)/\Hid (Stb V y (λw'=>F w'/\w'.ownsRow V.heap.size 3 1 (.slice j x.length b) x.length (bj x)))/\Hid (HeadsG P x/\x.length<=721)):=λz a F h O=>by
   have i:=bL h.bel O;have h1:=K.sum;have h2:=K.len;have h3:=C.rg;have h4:=C.nd;have h5:=D.rg;have h6:=D.nd;simp only[cr,bH]at h1 h2;refine (Pp (bg i3 i) (g0.below i) K.ok (by omega) (by omega)).mono ?_;rintro e y ⟨v',x,rfl,g1,g2,g3,g4⟩;obtain⟨j,b,rfl⟩:=cd g1;exact⟨j,x,b,rfl,((h.go O).go g4).and λw' k9=>bg (ij g1 i.size) k9,g2,by omega⟩
  have i4:Hid (∀(z a:World) (F:World->Prop) (t1:Tm) (b9:Option Addr) (b7 a6:Nat) (a8:Option Addr) (a9 Z:Nat) (m1 n1:Int) (s1:ByteArray) (t2:Tm) (Q:Option Addr) (c1 c2:Nat) (Y:Option Addr) (c0 b8:Nat) (m2 n2:Int) (s2:ByteArray) (j:Option Addr) (x:List Int) (b:Nat),Stb V z F->Bw z a->(∀w',F w'->aj w' (λg=>A g\/V.heap.size<=g) t1 (TC t1.kind b9 b7 a6 a8 a9 Z m1 n1 s1))->(∀w',F w'->aj w' (λg=>A g\/V.heap.size<=g) t2 (TC t2.kind Q c1 c2 Y c0 b8 m2 n2 s2))->(∀w',F w'->w'.ownsRow V.heap.size 3 1 (.slice j x.length b) x.length (bj x))->fA p t1->fA q t2->(HeadsG P x/\x.length<=721)->Calls prog 16 #[.agg #[Vi t1.kind,.slice b9 b7 a6,.slice a8 a9 Z,Vi m1,Vi n1,.string s1],.agg #[Vi t2.kind,.slice Q c1 c2,.slice Y c0 b8,Vi m2,Vi n2,.string s2],.slice j x.length b,Vi N] a λe y=>∃s ok,e=.returned (.tuple #[.string s,.bool ok])/\Hid (gZ (dG p.Mt q.Mt) N s ok)/\Hid (Bw V y)):=λz a F t1 b9 b7 a6 a8 a9 Z m1 n1 s1 t2 Q c1 c2 Y c0 b8 m2 n2 s2 j x b h O e1 e2 e3 X U hh=>by
   have i:=bL h.bel O;have hF:=h.all a O;have f2:=X.lg;have c3:=U.lg;have hz:=X.z;have ht:=X.tl;have j9:=U.z;have j0:=U.tl;have j6:=C.z;have j8:=C.nd;have j5:=C.rg;have j3:=D.z;have j2:=D.nd;have j1:=D.rg;have d7:∀m,cX (dG t1.L t2.L) N m->∀r∈m,r∈x.map back:=λm hm=>Ql hh.1 K.ok (λf hf=>by
    have h1:fo f t1.L:=by rw[f2];exact K.cov p (by simp) f hf
    have h2:fo f t2.L:=by rw[c3];exact K.cov q (by simp) f hf
    exact RI h1 h2) hm
   refine (Lh (A:=λg=>(A g\/V.heap.size<=g)/\g<a.heap.size) N hN (λg J=>J.2) (aj.mono (λg J L=>⟨L,J⟩) _ _ (e1 a hF)) (aj.mono (λg J L=>⟨L,J⟩) _ _ (e2 a hF)) X.ok U.ok (by omega) (by omega) (by omega) (by omega) (e3 a hF) hh.1.srt hh.1.pl d7 hh.2).mono ?_;rintro e y ⟨⟨s,ok,rfl,hl⟩,g3⟩;refine⟨s,ok,rfl,?_,bL i g3⟩;rw[f2,c3]at hl;exact hl
  have HS:=aa (Stb.start V);have d:=aa (g7.below G);have c:=aa (E.below G);have c8:Hid (∀w',Bw V w'->(w'.cell? (aD S 0)=some (Vi k)/\w'.cell? (aD S 1)=some (.slice so sn sc)/\w'.cell? (aD S 2)=some (.slice lo ln lc)/\w'.cell? (aD S 3)=some (Vi m)/\w'.cell? (aD S 4)=some (Vi n)/\w'.cell? (aD S 5)=some (Vi r)/\w'.cell? (aD (S+1) 0)=some (Vi k')/\w'.cell? (aD (S+1) 1)=some (.slice so' sn' sc')/\w'.cell? (aD (S+1) 2)=some (.slice lo' ln' lc')/\w'.cell? (aD (S+1) 3)=some (Vi m')/\w'.cell? (aD (S+1) 4)=some (Vi n')/\w'.cell? (aD (S+1) 5)=some (Vi r'))):=λw' h=>⟨(h.cell (p:=(aD S 0)) d.lt).trans (d.cell 0),(h.cell (p:=(aD S 1)) d.lt).trans (d.cell 1),(h.cell (p:=(aD S 2)) d.lt).trans (d.cell 2),(h.cell (p:=(aD S 3)) d.lt).trans (d.cell 3),(h.cell (p:=(aD S 4)) d.lt).trans (d.cell 4),(h.cell (p:=(aD S 5)) d.lt).trans (d.cell 5),(h.cell (p:=(aD (S+1) 0)) c.lt).trans (c.cell 0),(h.cell (p:=(aD (S+1) 1)) c.lt).trans (c.cell 1),(h.cell (p:=(aD (S+1) 2)) c.lt).trans (c.cell 2),(h.cell (p:=(aD (S+1) 3)) c.lt).trans (c.cell 3),(h.cell (p:=(aD (S+1) 4)) c.lt).trans (c.cell 4),(h.cell (p:=(aD (S+1) 5)) c.lt).trans (c.cell 5)⟩;have i1:=aa (c8 V.drew (jw V))
  go_region_held3 (λw'=>w'.cell? (aD S 0)=some (Vi k)/\w'.cell? (aD S 1)=some (.slice so sn sc)/\w'.cell? (aD S 2)=some (.slice lo ln lc)/\w'.cell? (aD S 3)=some (Vi m)/\w'.cell? (aD S 4)=some (Vi n)/\w'.cell? (aD S 5)=some (Vi r)/\w'.cell? (aD (S+1) 0)=some (Vi k')/\w'.cell? (aD (S+1) 1)=some (.slice so' sn' sc')/\w'.cell? (aD (S+1) 2)=some (.slice lo' ln' lc')/\w'.cell? (aD (S+1) 3)=some (Vi m')/\w'.cell? (aD (S+1) 4)=some (Vi n')/\w'.cell? (aD (S+1) 5)=some (Vi r'))
   (first|with_reducible exact i1.out|with_reducible exact c8.out _ HS.out.bel|with_reducible exact c8.out _ d3.out|fail)
   (first
    |(go_at_call 17;with_reducible refine (HT.out _ _ _ HS.out (zE _ _)).mono ?_;rintro e wa ⟨t1,b9,b7,a6,a8,a9,Z,m1,n1,s1,rfl,HS,i2⟩)
    |(go_at_call 17;with_reducible refine (HU.out _ _ _ HS.out (zE _ _)).mono ?_;rintro e wb ⟨t2,Q,c1,c2,Y,c0,b8,m2,n2,s2,rfl,HS,h9⟩)
    |(go_at_call 19;with_reducible refine (f9.out _ _ _ HS.out (zE _ _)).mono ?_;rintro e wd ⟨j,x,b,rfl,HS,HH⟩)
    |(go_at_call 16;with_reducible refine (i4.out _ _ _ t1 _ _ _ _ _ _ _ _ _ t2 _ _ _ _ _ _ _ _ _ j x b HS.out (zE _ _) (λw' h=>by first|exact h.2|exact h.1.2|exact h.1.1.2|exact h.1.1.1.2) (λw' h=>by first|exact h.2|exact h.1.2|exact h.1.1.2|exact h.1.1.1.2) (λw' h=>by first|exact h.2|exact h.1.2|exact h.1.1.2|exact h.1.1.1.2) i2.out h9.out HH.out).mono ?_;rintro e we ⟨s9,d8,rfl,g8,d3⟩)
    |fail)
  all_goals go_wp2_with fail
  all_goals refine zN (v:=.tuple #[.string s9,.bool d8,Vi 0]) (by simp[results,results10,go_sem]) rfl ⟨.inr ⟨N,s9,d8,rfl,hN,rfl,g8⟩,by first|exact B.trans ((bL G d3).mono (by have:=B.size;omega))|(rw[hS];exact B.trans ((bL G d3).mono (by have:=B.size;omega)))⟩
 ·have HM:Hid (¬(0<=most/\most<=3)):=hm;by_cases h0:most<0
  ·go_enter func10,ntmps10;go_upto_region 1 with fail;rw[HV.out];go_wp2_with fail;refine zN (v:=.tuple #[.string ⟨#[]⟩,.bool false,Vi 9]) (by simp[results,results10,go_sem]) rfl ⟨.inl ⟨HM,rfl⟩,B⟩
  ·have h1:decide (most<0)=false:=zI h0;have h3:3<most:=by omega
   go_enter func10,ntmps10;go_upto_region 1 with fail;rw[HV.out];go_wp2_with fail;refine zN (v:=.tuple #[.string ⟨#[]⟩,.bool false,Vi 9]) (by simp[results,results10,go_sem]) rfl ⟨.inl ⟨HM,rfl⟩,B⟩
set_option maxHeartbeats 8000000
theorem hC (v:Value)(m:Int)(w:World):Calls prog 9 #[.pointer none,v,Vi m] w λe w'=>e=.returned (.tuple #[.string ⟨#[]⟩,.bool false,Vi 6])/\w=w':=by
 go_enter func9,ntmps9;go_wp2_with fail;refine zN (v:=.tuple #[.string ⟨#[]⟩,.bool false,Vi 6]) (by simp[results,results9,go_sem]) rfl ⟨rfl,rfl⟩
theorem wV (b:Nat)(m:Int)(w:World):Calls prog 9 #[ar b,.pointer none,Vi m] w λe w'=>e=.returned (.tuple #[.string ⟨#[]⟩,.bool false,Vi 6])/\w=w':=by
 go_enter func9,ntmps9;go_wp2_with fail;refine zN (v:=.tuple #[.string ⟨#[]⟩,.bool false,Vi 6]) (by simp[results,results9,go_sem]) rfl ⟨rfl,rfl⟩
theorem PY (s t:ByteArray)(most:Int)(hT:Bc w)(hm:s.size<=9223372036854775807)(hm2:t.size<=9223372036854775807):Calls prog 4 #[.string s,.string t,Vi most] w λe w'=>e=.returned (.bool true)/\Bw w w':=by
 have HT:=aa hT;have HM:=aa hm;have c4:=aa hm2;go_enter func4,ntmps4;go_wp2_with fail;refine (Mz HT.1).mono ?_;rintro e w1 ⟨rfl,Y⟩;have c8:=aa Y;have a7:=aa (HT.below Y);go_wp2_with fail;refine (LY s a7.1 HM).mono ?_;rintro e w2 ⟨a3,c9,k1,F,u,z,N,M,L,G,B,J,d3,d1,rfl,V⟩;obtain⟨P,K⟩:∃P,w2.alloc (.cells #[Vi k1,.slice F u z,.slice N M L,Vi G,Vi B,Vi J] 27)=P:=⟨_,rfl⟩;have v:Bw w2 P:=by rw[<-K];exact (zE _ _).alloc (zA _) _
 have b4:ag P w2.heap.size [Vi k1,.slice F u z,.slice N M L,Vi G,Vi B,Vi J] 27:=by rw[<-K];exact ag.new w2 [Vi k1,.slice F u z,.slice N M L,Vi G,Vi B,Vi J] 27
 have c3:Hid (Bw w P):=bL c8 (bL a3 v);have b7:=aa ((a7.below a3).below v);have b2:=aa v;have c1:=aa b4;have Q:=aa V;have c0:=aa K;go_wp2_with fail;rw[c0.out];refine (LY t b7.1 c4).mono ?_;rintro e w4 ⟨a6,a8,k2,D,r,E,A,o,y,O,C,x,d4,b1,rfl,S⟩;obtain⟨U,n⟩:∃U,w4.alloc (.cells #[Vi k2,.slice D r E,.slice A o y,Vi O,Vi C,Vi x] 27)=U:=⟨_,rfl⟩;have a1:Bw w4 U:=by rw[<-n];exact (zE _ _).alloc (zA _) _
 have b0:ag U w4.heap.size [Vi k2,.slice D r E,.slice A o y,Vi O,Vi C,Vi x] 27:=by rw[<-n];exact ag.new w4 [Vi k2,.slice D r E,.slice A o y,Vi O,Vi C,Vi x] 27
 have b:Hid (Bw P U):=bL a6 a1;have H:Hid (Bw w U):=bL c3 b;have a9:=aa (b7.below b);have b9:=aa b0;have b5:=aa (c1.below b);have b6:=aa a1;have c:=aa S;have I:=aa n;cases d1 with
 |none=>
  have b8:c9=.pointer none:=Q.out;subst b8;cases b1 with
  |none=>
   have W:a8=.pointer none:=c.out;subst W;go_wp2_with fail;rw[I.out];refine (hC _ most _).mono ?_;rintro e w9 ⟨rfl,a⟩;subst a;go_wp2_with fail;refine (hC _ most _).mono ?_;rintro e w9 ⟨rfl,a⟩;subst a;go_wp2_with fail;go_ret;exact⟨rfl,H⟩
  |some q=>
   obtain⟨_,_,_,⟨a0,A2,rfl,_⟩,_,_⟩:=c.out;go_wp2_with fail;rw[I.out];refine (hC _ most _).mono ?_;rintro e w9 ⟨rfl,a⟩;subst a;go_wp2_with fail;refine (wV a0 most _).mono ?_;rintro e w9 ⟨rfl,a⟩;subst a;go_wp2_with fail;go_ret;exact⟨rfl,H⟩
 |some p=>
  obtain⟨f,d,_,⟨bx,A1,rfl,k⟩,j,_⟩:=Q.out;cases b1 with
  |none=>
   have W:a8=.pointer none:=c.out;subst W;go_wp2_with fail;rw[I.out];refine (hC _ most _).mono ?_;rintro e w9 ⟨rfl,a⟩;subst a;go_wp2_with fail;refine (hC _ most _).mono ?_;rintro e w9 ⟨rfl,a⟩;subst a;go_wp2_with fail;go_ret;exact⟨rfl,H⟩
  |some q=>
   obtain⟨i,l,_,⟨a0,A2,rfl,R⟩,T,_⟩:=c.out;have HC:=aa (PZ f i d l ((k.below b2).below b) (R.below b6) a9.2.1 a9.2.2 most);have HR:Hid (∀w',Bw U w'->Calls prog 10 #[.agg #[Vi k1,.slice F u z,.slice N M L,Vi G,Vi B,Vi J],.agg #[Vi k2,.slice D r E,.slice A o y,Vi O,Vi C,Vi x],Vi most] w' λe c6=>qf (dG p.Mt q.Mt) most e/\Bw w' c6):=λw' h=>IE f i d l (Xa (NV.keep (ah.below h) p _ 0 (NV.keep (ah.below b) p _ 0 (NV.keep (ah.below b2) p _ 0 j)))) (Xa (NV.keep (ah.below h) q _ 0 (NV.keep (ah.below b6) q _ 0 T))) (λg h=>h) most;go_wp2_with fail;rw[I.out];refine (hC _ most _).mono ?_;rintro e w9 ⟨rfl,a⟩;subst a;go_wp2_with fail;refine (wV a0 most _).mono ?_;rintro e w9 ⟨rfl,a⟩;subst a;go_wp2_with fail;refine HC.mono ?_;rintro e w6 ⟨m,X⟩;obtain⟨s4,a4,e4,rfl⟩:=GW X;have c7:=aa X;have a2:=b5.below m;obtain⟨x0,x1,x2,x3,x4,x5⟩:=a2.six;have d5:=a2.lt;have Z:=b9.below m;obtain⟨y0,y1,y2,y3,y4,y5⟩:=Z.six;have d2:=Z.lt;have c2:=aa m;have HD:Hid (∀e' w',(qf (dG p.Mt q.Mt) most e'/\Bw w6 w')->e'=.returned (.tuple #[.string s4,.bool a4,Vi e4])/\Bw w6 w'):=λe' w' h=>by
    obtain⟨s5,a5,e5,h1,h2⟩:=Dm c7.out h.1;rw[h1];exact⟨h2,h.2⟩
   have d0:=aa (HR w6 m);go_wp2_with fail;refine (d0.mono HD).mono ?_;rintro e w7 ⟨rfl,b3⟩;have c5:=aa b3;go_wp2_with fail;go_ret;exact⟨by simp,bL H (bL c2 c5)⟩
