import Derived.Test.YtebnghmioamheaaGreatDoorM48
import Derived.Test.YtebnghmioamheaaGreatDoorM44
set_option linter.all false
namespace Go.Proofs.YtebnghmioamheaaGreatDoor
open Go.RowKit Brm Tryz
variable {x:Int×Int}{Q qs:List (List (Int×Int))}{R q:LQ}{at_ out u v hs:LZ}{i k n a b:Nat}{y r m:Int}{w w' U3 w4 W:World}{cs xs c:LV}{A A':NP}{lo:OA}{v4:Value}{LA LB L:Lg}{P:List Int->Prop}{t:Tm}
def Ak (at_:List Int)(x:Int×Int):Prop:=x.1∈at_/\(x.2<1112063->x.2+1∈at_)
structure AtG (Q:List (List (Int×Int)))(R:List (Int×Int))(at_:List Int):Prop where
 srt:at_.Pairwise (·<·)
 zero:(0:Int)∈at_
 pl:∀y∈at_,place y
 old:∀q∈Q,∀x∈q,Ak at_ x
 now:∀x∈R,Ak at_ x
theorem AtG.start:AtG [] [] [0]:=⟨by simp,by simp,λy h=>by simp at h;subst h;exact⟨by decide,by decide⟩,λq h=>by simp at h,λx h=>by simp at h⟩
theorem Ak.more {a b:LZ}(h:Ak a x)(k:∀y∈a,y∈b):Ak b x:=⟨k _ h.1,λc=>k _ (h.2 c)⟩
theorem AtG.step1 {at2:LZ}(h:AtG Q R at_)(hx:PGood x)(hs:at2.Pairwise (·<·))(hm:∀y,y∈at2↔y∈at_\/y=x.1):AtG Q R at2/\x.1∈at2:=by
 have a:∀y∈at_,y∈at2:=λy b=>(hm y).2 (.inl b);unfold PGood at hx;refine⟨⟨hs,a _ h.zero,λy b=>?_,λq d z c=>(h.old q d z c).more a,λz c=>(h.now z c).more a⟩,(hm _).2 (.inr rfl)⟩;rcases (hm y).1 b with b|rfl
 ·exact h.pl y b
 ·exact⟨hx.1,by omega⟩
theorem AtG.step2 {at2:LZ}(h:AtG Q R at_)(hx:PGood x)(h1:x.1∈at_)(hl:x.2<1112063)(hs:at2.Pairwise (·<·))(hm:∀y,y∈at2↔y∈at_\/y=x.2+1):AtG Q (R++[x]) at2:=by
 have a:∀y∈at_,y∈at2:=λy c=>(hm y).2 (.inl c);unfold PGood at hx;refine⟨hs,a _ h.zero,λy c=>?_,λq d z b=>(h.old q d z b).more a,λz b=>?_⟩
 ·rcases (hm y).1 c with c|rfl
  ·exact h.pl y c
  ·exact⟨by omega,by omega⟩
 ·rcases zM.1 b with b|b
  ·exact (h.now z b).more a
  ·simp at b;subst b;exact⟨a _ h1,λ_=>(hm _).2 (.inr rfl)⟩
theorem AtG.step3 (h:AtG Q R at_)(h1:x.1∈at_)(hl:¬x.2<1112063):AtG Q (R++[x]) at_:=by
 refine⟨h.srt,h.zero,h.pl,h.old,λz a=>?_⟩;rcases zM.1 a with a|a
 ·exact h.now z a
 ·simp at a;subst a;exact⟨h1,λk=>absurd k hl⟩
theorem AtG.next (h:AtG Q R at_):AtG (Q++[R]) [] at_:=by
 refine⟨h.srt,h.zero,h.pl,λq a x b=>?_,λx b=>by simp at b⟩;rcases zM.1 a with a|a
 ·exact h.old q a x b
 ·simp at a;subst a;exact h.now x b
theorem XI:∀(l:LZ) (x:Int),(∃a∈l,a<=x)->∃a∈l,a<=x/\∀b∈l,b<=x->b<=a:=EM
theorem AtG.rep (h:AtG Q [] at_){x:Int}(hx:place x):∃a∈at_,a<=x/\∀q∈Q,memB q a=memB q x:=by
 unfold place at hx;obtain⟨a,l,m,i⟩:=XI at_ x ⟨0,h.zero,hx.1⟩;refine⟨a,l,m,λq f=>?_⟩;rw[ze,mem_true,mem_true];constructor
 ·rintro⟨y,b,e,j⟩;obtain⟨d,g⟩:=h.old q f y b;refine⟨y,b,by omega,?_⟩;rcases Int.lt_or_le y.2 x with k|c
  ·have:=i _ (g (by omega)) (by omega);omega
  ·exact c
 ·rintro⟨y,b,e,j⟩;obtain⟨d,g⟩:=h.old q f y b;exact⟨y,b,i _ d e,by omega⟩
def eL (qs:List (List (Int×Int)))(a:Int):List UInt8:=qs.map λq=>if memB q a then 1 else 0
theorem SO {a b:Int}(h:eL qs a=eL qs b):∀q∈qs,memB q a=memB q b:=by
 unfold eL at h;intro q c;have:=List.map_inj_left.1 h q c;revert this;cases memB q a<;>cases memB q b<;>simp
theorem Fw (qs:List (List (Int×Int)))(a:Int):(eL qs a).length=qs.length:=by simp[eL]
structure HdI (qs:List (List (Int×Int)))(at_:List Int)(i:Nat)(out:List Int):Prop where
 sub:∀y∈out,y∈at_.take i
 srt:out.Pairwise (·<·)
 all:∀y∈at_.take i,∃h∈out,h<=y/\eL qs h=eL qs y
theorem HdI.start :HdI qs at_ 0 []:=⟨λy h=>by simp at h,by simp,λy h=>by simp at h⟩
theorem HdI.old (h:HdI qs at_ i out)(hs:at_.Pairwise (·<·))(hy:at_[i]?=some y){z:Int}(hz:z∈out)(hsg:eL qs z=eL qs y):HdI qs at_ (i+1) out:=by
 have e:at_.take (i+1)=at_.take i++[y]:=by rw[zi,hy];rfl
 refine⟨λx a=>by rw[e];exact yq _ (h.sub x a),h.srt,λx a=>?_⟩;rw[e]at a;rcases zM.1 a with a|a
 ·exact h.all x a
 ·simp at a;subst a;have b:=hs.sublist (List.take_sublist (i+1) at_);rw[e,yA]at b;have:=b.2.2 z (h.sub z hz) x (by simp);exact⟨z,hz,by omega,hsg⟩
theorem HdI.new (h:HdI qs at_ i out)(hs:at_.Pairwise (·<·))(hy:at_[i]?=some y):HdI qs at_ (i+1) (out++[y]):=by
 have e:at_.take (i+1)=at_.take i++[y]:=by rw[zi,hy];rfl
 have d:=hs.sublist (List.take_sublist (i+1) at_);rw[e,yA]at d;refine⟨λx c=>?_,?_,λx c=>?_⟩
 ·rw[e];rcases zM.1 c with c|c
  ·exact yq _ (h.sub x c)
  ·exact List.mem_append_right _ c
 ·rw[yA];exact⟨h.srt,by simp,λa l b g=>d.2.2 a (h.sub a l) b g⟩
 ·rw[e]at c;rcases zM.1 c with c|c
  ·obtain⟨z,k,f,j⟩:=h.all x c;exact⟨z,yq _ k,f,j⟩
  ·simp at c;subst c;exact⟨x,by simp,yv _,rfl⟩
structure HeadsG (qs:List (List (Int×Int)))(out:List Int):Prop where
 srt:out.Pairwise (·<·)
 pl:∀y∈out,place y
 rep:∀x,place x->∃h∈out,h<=x/\∀q∈qs,memB q h=memB q x
theorem HdI.done (h:HdI qs at_ at_.length out)(ha:AtG qs [] at_):HeadsG qs out:=by
 have c:=h.sub;have b:=h.all;rw[zQ]at c b;refine⟨h.srt,λy g=>ha.pl y (c y g),λx f=>?_⟩;obtain⟨a,j,m,k⟩:=ha.rep f;obtain⟨z,e,l,i⟩:=b a j;exact⟨z,e,by omega,λq d=>(SO i q d).trans (k q d)⟩
theorem JH {e:TypeId}{v:Value}:(w.alloc (.cells #[v] e)).ownsRow w.heap.size e 1 (Vs w.heap.size 1 1) 1 [v]:=by
 refine⟨rfl,.inr ⟨w.heap.size,1,#[v],rfl,zA _,?_,zA _,by unfold maxLen;decide,rfl,rfl⟩⟩;have h:=ag.new w [v] e;exact h
def qZ (l:List (List UInt8)):List Value:=l.map λs=>.string ⟨s.toArray⟩
theorem Mb:(prog.info? 5).map (λi=>(i.zero,i.size,i.bytes))=some (some (.int .u8 0),1,1):=by kernel_rfl
set_option maxHeartbeats 4000000
set_option maxRecDepth 100000
theorem Po {l:List (List (Int×Int))}(i:Nat):fw (l.take i)<=fw l:=by
 have h:fw l=fw (l.take i)+fw (l.drop i):=by rw[<-lX,zj]
 omega
theorem VX {l:List (List (Int×Int))}(h:l[i]?=some q):fw (l.take (i+1))=fw (l.take i)+q.length:=by
 rw[zi,h,lX];simp[fw]
def rX (qs:List (List (Int×Int)))(y:Int)(k:Nat)(cs:List Value):Prop:=cs.length=qs.length/\∀j q,qs[j]?=some q->cs[j]?=some (Value.int .u8 (if j<k/\memB q y=true then 1 else 0))
theorem rX.start :rX qs y 0 (List.replicate qs.length (.int .u8 0)):=⟨by simp,λj q h=>by
 have a:=(zC.1 h).1;simp[a]⟩
theorem rX.yes (h:rX qs y k cs)(hq:qs[k]?=some q)(hm:memB q y=true):rX qs y (k+1) (cs.set k (.int .u8 1)):=by
 refine⟨by simp[h.1],λj d a=>?_⟩;have b:=(zC.1 a).1;by_cases e:k=j
 ·subst e;rw[hq]at a;injection a with a;subst a;rw[List.getElem?_set_self (by rw[h.1];exact b),zX ⟨by omega,hm⟩]
 ·rw[List.getElem?_set_ne e,h.2 j d a];by_cases c:j<k
  ·simp[c,show j<k+1 by omega]
  ·simp[c,show ¬j<k+1 by omega]
theorem rX.no (h:rX qs y k cs)(hq:qs[k]?=some q)(hm:memB q y=false):rX qs y (k+1) cs:=by
 refine⟨h.1,λj c a=>?_⟩;rw[h.2 j c a];by_cases e:j=k
 ·subst e;rw[hq]at a;injection a with a;subst a;simp[hm]
 ·by_cases b:j<k
  ·simp[b,show j<k+1 by omega]
  ·simp[b,show ¬j<k+1 by omega]
theorem rX.conv {U cap:Nat}(h:rX qs y qs.length cs)(hb:ag w U cs 5):(convert 93 9 (Vs U qs.length cap)).run prog w=.ok (.string ⟨(eL qs y).toArray⟩) w:=by
 have d:=run_convert_bytes_back (P:=prog) w 93 9 5 (aD U 0) cap (eL qs y) underlying93 underlying5 underlying9 (λj a=>by
  rw[Fw]at a;obtain⟨q,c⟩:∃q,qs[j]?=some q:=⟨_,zB a⟩;have b:qs[j]=q:=yT ((zB a).symm.trans c);rw[zl,zf,hb.cell,h.2 j q c];simp only[eL,List.getElem_map,b,a,yB];cases memB q y<;>simp)
 rw[Fw]at d;exact d
theorem oR {B e size:Nat}{v u:Value}(h:w.ownsRow B e size v n xs)(hg:w.grownBy w' u.ownBlock)(hne:∀g,v.ownBlock=some g->u.ownBlock≠some g):w'.ownsRow B e size v n xs:=bP h λg k=>hg.block g (h.lt g k).2 λe=>hne g k e.symm
theorem JI {a b:List UInt8}(h:(⟨a.toArray⟩:ByteArray).toList=(⟨b.toArray⟩:ByteArray).toList):a=b:=by
 have:=kE h;simpa [af]using this
def XM (w:World)(qs:List (List (Int×Int)))(e:Ending)(w':World):Prop:=∃v' out,e=.returned v'/\w'.ownsRow w.heap.size 3 1 v' out.length (bj out)/\HeadsG qs out/\out.length<=1+2*fw qs/\Below w.heap.size w w'
theorem Pp {B:Nat}{cap:Nat}{vs:LV}(hown:w.ownsRow B 24 1 (.slice lo qs.length cap) qs.length vs)(hvs:gh w A qs vs)(hok:∀q∈qs,PCanon q)(hlen:qs.length<=2000000)(hsum:fw qs<=200000):Calls prog 19 #[.slice lo qs.length cap] w (XM w qs):=by
 have h8:Hid (∀(i:Nat) (q:List (Int×Int)) (wr:World),qs[i]?=some q->Bw w wr->∃b so sc,lo=some (aD b 0)/\b<wr.heap.size/\wr.cell? (aD b i)=some (.slice so q.length sc)/\Rd wr so q/\PCanon q):=λi q wr hi hb=>by
  obtain⟨so,sc,l,m⟩:=(hvs.below hb).at hi;have hr:=iQ (bg hown hb);obtain⟨b,j5,e,_,d9,hc⟩:=hr i _ l;obtain⟨_,_,r⟩:=kf hown;obtain⟨g,hg⟩:=r _ e;injection hg with e1 e2;subst e1 e2;exact⟨b,so,sc,e,d9,by simpa using hc,m.rd,hok q (zU hi)⟩
 have j4:=aa hsum;obtain⟨W0,d4,d8,-,-⟩:=dS (rfl:w.heap.size=_) [Vi 0] 3;replace d8:Below _ _ W0:=d8;replace d8:=aa d8;have k4:Hid (W0.ownsRow w.heap.size 3 1 (Vs w.heap.size 1 1) 1 (bj [0])):=by show W0.ownsRow _ _ _ _ _ _;rw[<-d4];exact JH
 have k8:=aa d4;clear hown hvs hok hsum d4;go_enter func19,ntmps19;go_wp2_with fail;rw[k8.out]
 go_loopw [3,4] (λov iv wr=>∃(i:Nat) (a:List Int),iv=Vi i/\i<=qs.length/\wr.ownsRow w.heap.size 3 1 ov a.length (bj a)/\AtG (qs.take i) [] a/\a.length<=1+2*fw (qs.take i)/\Bw w wr) (λ_ iv _=>qs.length-(intOf iv).toNat)
 case atStart=>exact⟨0,[0],rfl,zW _,k4.out,by simpa using AtG.start,by simp,d8.out⟩
 case round=>
  obtain⟨i,a,rfl,k0,hown,H,W,d⟩:=hrel;obtain⟨l6,m5,rfl⟩:=cd hown;have HO:=aa hown;have s:=aa H;have C:=aa W;have F:=aa d;have D:w.heap.size<=wr.heap.size:=d.size;have i1:(0:Int)<=(i:Int):=zK _;clear hown H W d;by_cases d5:i<qs.length
  ·have i2:(i:Int)<(qs.length:Int):=by omega
   obtain⟨q,hq⟩:∃q,qs[i]?=some q:=⟨_,zB d5⟩;have HQ:=aa hq;have f7:=aa (VX hq);have m0:Hid (fw (qs.take (i+1))<=fw qs):=Po _;have l4:Hid (qs.take (i+1)=qs.take i++[q]):=by show _=_;rw[zi,hq];rfl
   clear hq;go_wp2_with fail
   go_loopw [3,5] (λov kv wr2=>∃(k:Nat) (a:List Int),kv=Vi k/\k<=q.length/\wr2.ownsRow w.heap.size 3 1 ov a.length (bj a)/\AtG (qs.take i) (q.take k) a/\a.length<=1+2*(fw (qs.take i)+k)/\Bw w wr2) (λ_ kv _=>q.length-(intOf kv).toNat)
   case atStart=>exact⟨0,a,rfl,zW _,HO.out,by simpa using s.out,by have:=C.out;omega,F.out⟩
   case round=>
    clear HO s C F D;obtain⟨k,a2,rfl,e7,hown,H,W,d⟩:=hrel;obtain⟨n6,m6,rfl⟩:=cd hown;obtain⟨b,so,sc,rfl,a1,c0,T,K⟩:=h8.out i q wr HQ.out d;have l9:=ri K;have D:w.heap.size<=wr.heap.size:=d.size;have k1:(0:Int)<=(k:Int):=zK _;have HO:=aa hown;have s:=aa H;have C:=aa W;have F:=aa d;by_cases o:k<q.length
    ·have k2:(k:Int)<(q.length:Int):=by omega
     obtain⟨x,hx⟩:∃x,q[k]?=some x:=⟨_,zB o⟩;obtain⟨bs,os,rfl,Q,d0,d1⟩:=T k x hx;have HX:Hid (PGood x):=K.1 x (zU hx);have a0:Hid (q.take (k+1)=q.take k++[x]):=by show _=_;rw[zi,hx];rfl
     have l5:a2.length<=500000:=by have l:=f7.out;have m:=m0.out;have h3:=j4.out;omega
     have HR:=aa (xT (x:=x.1) D hown (by omega) H.srt);have i5:(0:Int)<=x.2/\x.2<=1112063:=by have:=HX.out;unfold PGood at this;omega
     obtain⟨i5,n4⟩:=i5;clear hown H W d T K hx;go_wp2_with fail;refine HR.out.mono ?_;rintro e w5 ⟨v5,a5,rfl,e3,g5,g8,j2,R⟩;obtain⟨n3,m1,rfl⟩:=cd e3;have j7:=aa e3;have t:=aa (s.out.step1 HX.out g5 g8);have S:Hid (Bw w w5):=F.out.trans (R.mono D);have i4:=aa j2;have g1:w.heap.size<=w5.heap.size:=S.out.size;have m3:b<w5.heap.size:=zF a1 R.size;have m4:bs<w5.heap.size:=zF Q R.size;have n5:w5.cell? (aD b i)=some (.slice (some ⟨bs,os,none⟩) q.length sc):=(R.cell (p:=(aD b i)) a1).trans c0;have n2:w5.cell? ⟨bs,os+k*2+1,none⟩=some (Vi x.2):=(R.cell (p:=⟨bs,_,none⟩) Q).trans d1;have m8:a5.length<=600000:=by omega
     clear e3 g5 g8 j2 R HR c0 d0 d1 a1 Q;by_cases a8:x.2<1112063
     ·have i0:=aa (xT (x:=x.2+1) g1 j7.out (by omega) t.out.1.srt);go_wp2_with fail;refine i0.out.mono ?_;rintro e w6 ⟨v6,a6,rfl,h0,j6,e8,h5,L⟩;have HF:=aa (And.intro h0 (And.intro (t.out.1.step2 HX.out t.out.2 a8 j6 e8) (And.intro h5 (bL S.out (L.mono (zA _))))));clear h0 j6 e8 h5 L i0;go_wp2_with fail
      go_roundw
      case rel=>exact⟨k+1,a6,by go_num,by omega,HF.out.1,by rw[a0.out];exact HF.out.2.1,by have l:=HF.out.2.2.1;have m:=i4.out;have h3:=C.out;omega,HF.out.2.2.2⟩
      case measure=>simp[intOf];omega
     ·have n0:decide (x.2<1112063)=false:=zI a8;go_wp2_with fail
      go_roundw
      case rel=>exact⟨k+1,a5,by go_num,by omega,j7.out,by rw[a0.out];exact t.out.1.step3 t.out.2 (by omega),by have m:=i4.out;have h3:=C.out;omega,S.out⟩
      case measure=>simp[intOf];omega
    ·have k2:decide ((k:Int)<(q.length:Int))=false:=zI (by omega);obtain rfl:k=q.length:=by omega
     clear hown H W d T K;go_wp2_with fail
     go_roundw
     case rel=>exact⟨i+1,a2,by go_num,by omega,HO.out,by rw[l4.out];have:=s.out;rw[zQ]at this;exact this.next,by have l:=C.out;have m:=f7.out;omega,F.out⟩
     case measure=>simp[intOf];omega
  ·have i2:decide ((i:Int)<(qs.length:Int))=false:=zI (by omega);obtain rfl:i=qs.length:=by omega
   rw[zQ]at s C;obtain⟨f,f3⟩:∃f,wr=f:=⟨_,rfl⟩;rw[f3]at HO F D ⊢;clear f3;have f0:Hid (∀(j:Nat) (y:Int) (wr:World),a[j]?=some y->Bw f wr->∃b,l6=some (aD b 0)/\b<wr.heap.size/\wr.cell? (aD b j)=some (Vi y)):=λj y wr hj hb=>by
    obtain⟨b,j5,e,_,d9,hc⟩:=iQ (bg HO.out hb) j _ (qJ hj);obtain⟨_,_,r⟩:=kf HO.out;obtain⟨g,hg⟩:=r _ e;injection hg with e1 e2;subst e1 e2;exact⟨b,e,d9,by simpa using hc⟩
   have l5:a.length<=400001:=by have l:=C.out;have m:=j4.out;omega
   obtain⟨i3,l3,f6,e9,f5⟩:=zz jo;obtain⟨i9,l8,h7,f9,j0⟩:=zz AA;go_wp2_with fail
   go_loopw [6,7,8] (λov sv iv wr=>∃(i:Nat) (c:List Int),iv=Vi i/\i<=a.length/\wr.ownsRow f.heap.size 3 1 ov c.length (bj c)/\wr.ownsRow f.heap.size 9 1 sv c.length (qZ (c.map (eL qs)))/\(∀g,ov.ownBlock=some g->sv.ownBlock≠some g)/\HdI qs a i c/\c.length<=i/\Bw f wr) (λ_ _ iv _=>a.length-(intOf iv).toNat)
   case atStart=>exact⟨0,[],rfl,zW _,zZ _ _ _ _,zZ _ _ _ _,λg h=>(by cases h),HdI.start,zA _,zE _ _⟩
   case round=>
    obtain⟨i,c,rfl,k0,G,I,f4,f1,m7,d⟩:=hrel;obtain⟨g7,c3,rfl⟩:=cd G;obtain⟨l0,g3,rfl⟩:=cd I;have b1:=aa G;have d3:=aa I;have e5:=aa f4;have e6:=aa f1;have g6:=aa d;have c5:f.heap.size<=wr.heap.size:=d.size;have i1:(0:Int)<=(i:Int):=zK _;clear G I f4 f1 d i2;by_cases d5:i<a.length
    ·have i2:(i:Int)<(a.length:Int):=by omega
     obtain⟨y,hy⟩:∃y,a[i]?=some y:=⟨_,zB d5⟩;have HY:=aa hy;obtain⟨Wb,f2,a4,c6,j3⟩:=dS (rfl:wr.heap.size=_) (List.replicate qs.length (.int .u8 0)) 5;replace a4:Below _ _ Wb:=a4;replace a4:=aa a4;replace c6:=aa c6;replace j3:=aa j3;have l1:=aa f2;clear hy f2;generalize hU:wr.heap.size=U at *;go_wp2_with (at_make;refine vY rfl _ _ 93 rfl 5 (.int .u8 0) 1 underlying93 Mb rfl qs.length rfl rfl (by omega) (by omega) ?_;rw[l1.out])
     go_loopw [10] (λkv wx=>∃(k:Nat) (cs:List Value),kv=Vi k/\k<=qs.length/\ag wx U cs 5/\rX qs y k cs/\Below U Wb wx) (λkv _=>qs.length-(intOf kv).toNat)
     case atStart=>exact⟨0,_,rfl,zW _,c6.out,rX.start,zE _ _⟩
     case round=>
      obtain⟨k,cs,rfl,e7,e0,i7,d2⟩:=hrel;have P:=aa e0;have Y:=aa i7;have a3:=aa d2;have M:Hid (Bw f wr):=(g6.out.trans (a4.out.mono c5)).trans (d2.mono c5);have j8:Hid (Bw w wr):=F.out.trans (M.out.mono D);have k1:(0:Int)<=(k:Int):=zK _;have g4:U<wr.heap.size:=e0.lt;clear e0 i7 d2;by_cases o:k<qs.length
      ·have k2:(k:Int)<(qs.length:Int):=by omega
       obtain⟨q,hq⟩:∃q,qs[k]?=some q:=⟨_,zB o⟩;obtain⟨b,so,sc,rfl,a1,c0,T,K⟩:=h8.out k q wr hq j8.out;obtain⟨b3,rfl,J,d0⟩:=f0.out i y wr HY.out M.out;have l9:=ri K;have HH:=aa (wS sc y T (by omega));have HQ:=aa hq;clear T K hq;go_upto_region 20 with fail
       go_cut [11] (λv wx=>v=.bool (memB q y)/\∃n,wx=wr.drewN n)
       case first=>
        have k5:Hid (wr.drew.cell? (aD b k)=some (.slice so q.length sc)/\wr.drew.cell? (aD b3 i)=some (Vi y)):=⟨c0,d0⟩
        go_region_held3 (λw'=>w'.cell? (aD b k)=some (.slice so q.length sc)/\w'.cell? (aD b3 i)=some (Vi y))
         (first|with_reducible exact k5.out|fail)
         (first
          |(go_at_call 40;with_reducible refine HH.out.mono ?_;rintro e w5 ⟨rfl,rfl⟩)
          |fail)
        go_wp2_with fail
        go_meet
        case rel=>exact⟨rfl,1,rfl⟩
       case rest=>
        obtain⟨rfl,nq,rfl⟩:=hcut;clear c0 d0 a1 J;cases hm:memB q y with
        |true=>
         have t:=aa (Y.out.yes HQ.out hm);have t0:(wr.drewN nq).cell? (aD U k)=some (.int .u8 (if k<k/\memB q y=true then 1 else 0)):=(P.out.drewN nq).cell k |>.trans (Y.out.2 k q HQ.out);have t1:=(P.out.drewN nq).frozen k;have l2:Hid (Below U Wb (wr.drewN nq)):=aR a3.out;have n7:U<(wr.drewN nq).heap.size:=g4;clear hm;go_wp2_with fail
         go_roundw
         case rel=>exact⟨k+1,_,by go_num,by omega,(P.out.drewN nq).set k _,t.out,l2.out.setCell (p:=(aD U k)) (zA _) _⟩
         case measure=>simp[intOf];omega
        |false=>
         have t:=aa (Y.out.no HQ.out hm);clear hm;go_wp2_with fail
         go_roundw
         case rel=>exact⟨k+1,cs,by go_num,by omega,P.out.drewN nq,t.out,aR a3.out⟩
         case measure=>simp[intOf];omega
      ·have k2:decide ((k:Int)<(qs.length:Int))=false:=zI (by omega);obtain rfl:k=qs.length:=by omega
       have c8:Hid (∀w',Bw wr w'->(convert 93 9 (Vs U qs.length qs.length)).run prog w'=.ok (.string ⟨(eL qs y).toArray⟩) w'):=λw' h=>Y.out.conv (P.out.below h);obtain⟨V,hV⟩:∃V,wr=V:=⟨_,rfl⟩;have O:Hid (V.ownsRow f.heap.size 9 1 (.slice l0 c.length g3) c.length (qZ (c.map (eL qs)))):=by
        show V.ownsRow _ _ _ _ _ _
        rw[<-hV];exact bP (bg d3.out (by rw[hU];exact a4.out)) λg e=>a3.out.block g (by have:=(d3.out.lt g e).2;omega)
       have b6:Hid (V.ownsRow f.heap.size 3 1 (.slice g7 c.length c3) c.length (bj c)):=by
        show V.ownsRow _ _ _ _ _ _
        rw[<-hV];exact bP (bg b1.out (by rw[hU];exact a4.out)) λg e=>a3.out.block g (by have:=(b1.out.lt g e).2;omega)
       rw[hV]at c8 M g4 ⊢;clear hV P Y a3 j8 d3 b1 k2 k1 e7 o;go_wp2_with fail
       go_loopw [12,13] (λbv kv wz=>∃(k:Nat) (bo:Bool),bv=.bool bo/\kv=Vi k/\k<=c.length/\(bo=true↔∃z∈c.take k,eL qs z=eL qs y)/\Bw V wz) (λ_ kv _=>c.length-(intOf kv).toNat)
       case atStart=>exact⟨0,false,rfl,rfl,zW _,⟨λh=>(by cases h),λ⟨z,h,_⟩=>by simp at h⟩,zE _ _⟩
       case round=>
        obtain⟨k,bo,rfl,rfl,e7,j1,g0⟩:=hrel;have b0:=aa j1;have E:=aa g0;have k1:(0:Int)<=(k:Int):=zK _;clear j1 g0;by_cases o:k<c.length
        ·have k2:(k:Int)<(c.length:Int):=by omega
         obtain⟨z,hz⟩:∃z,c[k]?=some z:=⟨_,zB o⟩;obtain⟨bs,j5,rfl,_,Q,hc⟩:=(iQ O.out) k (.string ⟨(eL qs z).toArray⟩) (by unfold qZ;rw[zg,zg,hz];rfl);obtain⟨_,_,r⟩:=kf O.out;obtain⟨g9,l7⟩:=r _ rfl;injection l7 with e1 e2;subst e1 e2;have c0:wr.cell? (aD bs k)=some (.string ⟨(eL qs z).toArray⟩):=(E.out.cell (p:=(aD bs k)) Q).trans (by simpa using hc);have m2:bs<wr.heap.size:=zF Q E.out.size;have a0:Hid (c.take (k+1)=c.take k++[z]):=by show _=_;rw[zi,hz];rfl
         clear hz hc r;have h6:∀n,(convert 93 9 (Vs U qs.length qs.length)).run prog (wr.drewN n)=.ok (.string ⟨(eL qs y).toArray⟩) (wr.drewN n):=λn=>c8.out _ (aR E.out);go_upto_region 27 with fail;cases bo with
         |true=>
          go_quiet (fail)
          go_wp2_with fail
          go_roundw
          case rel=>exact⟨k+1,true,rfl,by go_num,by omega,⟨λ_=>by obtain⟨x,l,m⟩:=b0.out.1 rfl;exact⟨x,by rw[a0.out];exact yq _ l,m⟩,λ_=>rfl⟩,aR E.out⟩
          case measure=>simp[intOf];omega
         |false=>
          go_quiet (fail)
          go_wp2_with fail
          go_roundw
          case rel=>exact⟨k+1,_,rfl,by go_num,by omega,by
           rw[a0.out];constructor
           ·intro h;exact⟨z,by simp,JI (by simpa using h)⟩
           ·rintro⟨x,l,m⟩;rcases zM.1 l with l|l
            ·have:=b0.out.2 ⟨x,l,m⟩;cases this
            ·simp at l;subst l;simp[m],aR E.out⟩
          case measure=>simp[intOf];omega
        ·have k2:decide ((k:Int)<(c.length:Int))=false:=zI (by omega);obtain rfl:k=c.length:=by omega
         obtain⟨V2,Z⟩:∃V2,wr=V2:=⟨_,rfl⟩;have c9:Hid (Bw f V2):=by show Below _ _ _;rw[<-Z];exact bL M.out E.out
         have N:Hid (Bw V V2):=by show Below _ _ _;rw[<-Z];exact E.out
         have h6:(convert 93 9 (Vs U qs.length qs.length)).run prog V2=.ok (.string ⟨(eL qs y).toArray⟩) V2:=by rw[<-Z];exact c8.out _ E.out
         rw[Z];have i6:Hid (bo=true↔∃z∈c,eL qs z=eL qs y):=by have:=b0.out;rw[zQ]at this;exact this
         have n1:f.heap.size<=V2.heap.size:=c9.out.size;clear Z b0;cases bo with
         |true=>
          obtain⟨z,k7,k6⟩:=i6.out.1 rfl;have HN:=aa (e6.out.old s.out.srt HY.out k7 k6);clear h6;go_wp2_with fail
          go_roundw
          case rel=>exact⟨i+1,c,by go_num,by omega,bg b6.out N.out,bg O.out N.out,e5.out,HN.out,by omega,c9.out⟩
          case measure=>simp[intOf];omega
         |false=>
          have HN:=aa (e6.out.new s.out.srt HY.out);obtain⟨U3,j9,J,e4,-⟩:=dS (rfl:V2.heap.size=_) [.string ⟨(eL qs y).toArray⟩] 9;replace J:Below _ _ U3:=J;replace e4:=aa e4;have k9:=aa j9;have b7:=aa (bg (bg O.out N.out) J);have c1:=aa (bg (bg b6.out N.out) J);have c7:Hid (Bw f U3):=bL c9.out J;have m9:c.length<=400001:=by omega
          clear j9 J k2;have k2:decide ((c.length:Int)<(c.length:Int))=false:=zI (by omega);go_upto_region 30 with (at_builtin;rw[k9.out];refine jg rfl (.tmp 106) (.tmp 109) 81 9 i9 _ 1 16 rfl underlying81 l8 h7 f9 j0 rfl (by decide) f.heap.size c.length _ _ rfl b7.out _ 1 _ [.string ⟨(eL qs y).toArray⟩] rfl rfl (by decide) (λj u hj=>by rw[zl,zf,e4.out.cell];exact hj) (λu hu=>by simp at hu;subst hu;rfl) (by unfold maxLen;omega) (by omega) c7.out.size ?_;intro v4 w4 a7 c4 b5;have HF:=aa (And.intro a7 (And.intro c4 b5));clear a7 c4 b5);have S:Hid (Bw f w4):=cD c7.out c7.out.size b7.out HF.out.2.1;have i8:=aa (oR c1.out HF.out.2.1 e5.out);have b9:Hid (∀g,Value.ownBlock (.slice g7 c.length c3)=some g->v4.ownBlock≠some g):=λg l m=>by
           rcases HF.out.2.2 with h|h
           ·rw[h]at m;exact e5.out g l m
           ·have h3:=h g m;have h4:=(c1.out.lt g l).2;omega
          obtain⟨b3,rfl,J,d0⟩:=f0.out i y w4 HY.out S.out;obtain⟨U6,g2,L,d6,-⟩:=dS (rfl:w4.heap.size=_) [Vi y] 3;replace L:Below _ _ U6:=L;replace d6:=aa d6;have k3:=aa g2;have b8:=aa (bg i8.out L);have c2:=aa (bg HF.out.1 L);have d7:Hid (Bw f U6):=bL S.out L;clear g2 L;go_wp2_with (at_builtin;rw[k3.out];refine jg rfl (.tmp 111) (.tmp 116) 61 3 i3 _ 1 8 rfl underlying61 l3 f6 e9 f5 rfl (by decide) f.heap.size c.length _ _ rfl b8.out _ 1 _ [Vi y] rfl rfl (by decide) (λj u hj=>by rw[zl,zf,d6.out.cell];exact hj) (λu hu=>by simp at hu;subst hu;rfl) (by unfold maxLen;omega) (by omega) d7.out.size ?_;intro v7 w7 X b4 b2;have a9:=aa (And.intro X (And.intro b4 b2));clear X b4 b2);have f8:Hid (∀g,v7.ownBlock=some g->v4.ownBlock≠some g):=λg l m=>by
           rcases a9.out.2.2 with h|h
           ·rw[h]at l;exact b9.out g l m
           ·have h3:=h g l;have h4:=(c2.out.lt g m).2;omega
          go_roundw
          case rel=>exact⟨i+1,c++[y],by go_num,by omega,by simpa [bj]using a9.out.1,by have h9:=oR c2.out a9.out.2.1 (λg l m=>b9.out g m l);simpa [qZ]using h9,f8.out,HN.out,by simp;omega,cD d7.out d7.out.size b8.out a9.out.2.1⟩
          case measure=>simp[intOf];omega
    ·have i2:decide ((i:Int)<(a.length:Int))=false:=zI (by omega);obtain rfl:i=a.length:=by omega
     have HF:=aa (e6.out.done s.out);go_wp2_with fail;go_ret;exact⟨_,c,rfl,ij b1.out D,HF.out,by have:=C.out;omega,F.out.trans (g6.out.mono D)⟩
def rM (L:Lg)(u:List Int):Lg:=λz=>L (u++z)
theorem Df (L:Lg)(u:LZ)(r:Int):aX (rM L u) r=rM L (u++[r]):=by
 funext z;simp[aX,rM]
def DS (D:List Int->Prop)(v:List Int):Prop:=∃o,ef o/\bY o v=true/\∀z,D (o++z)↔D (v++z)
structure Lv (D:List Int->Prop)(N n:Nat)(ws:List (List Int)):Prop where
 len:∀x∈ws,x.length=n
 val:∀x∈ws,ef x
 srt:ws.Pairwise λx y=>bY x y=true
 path:∀m,cX D N m->∃x∈ws,∃z,m=x++z
variable {D:List Int->Prop} {N n:Nat} {ws:List (List Int)}
theorem Lv.start:Lv D N 0 [[]]:=⟨λx h=>by simp at h;subst h;rfl,λx h=>by simp at h;subst h;intro r a;simp at a,by simp,λm _=>⟨[],by simp,m,rfl⟩⟩
theorem Um (h:bY u v=true):u.length<=v.length:=by
 rw[fI]at h;omega
theorem Lv.found (h:Lv D N n ws)(hn:n<=N)(hi:ws[i]?=some u)(hd:D u)(hno:∀x∈ws.take i,¬D x):cX D N u:=by
 have a:=zU hi;refine⟨h.val u a,hd,by rw[h.len u a];exact hn,λs y v C=>?_⟩;obtain⟨m,d,w⟩:=rn y v C;obtain⟨x,q,z,rfl⟩:=h.path m d;have o:bY x u=false:=by
  by_cases p:z=[]
  ·subst p;rw[zx]at d;obtain⟨j,b⟩:=List.getElem?_of_mem q;have c:=(zC.1 b).1;have e:=(zC.1 hi).1;rcases Nat.lt_trichotomy j i with k|l|g
   ·have:x∈ws.take i:=zU (i:=j) (by rw[List.getElem?_take_of_lt k];exact b);exact absurd d.2.1 (hno x this)
   ·subst l;rw[hi]at b;injection b with b;subst b;exact eC.irr _
   ·have f:=yX.1 h.srt i j e c g;have A:ws[i]=u:=yT ((zB e).symm.trans hi);have t:ws[j]=x:=yT ((zB c).symm.trans b);rw[A,t]at f;exact eC.as _ _ f
  ·cases hc:bY x u with
   |false=>rfl
   |true=>
    have f:=d.2.2.2 u (h.val u a) hd (by rw[h.len u a];exact hn);rw[gE]at f;have G:=h.len x q;have F:=h.len u a;have E:0<z.length:=List.length_pos_iff.2 p;have B:bY u (x++z)=true:=by
     rw[fI]
     left
     rw[zH];omega
    have r:=d.2.2.2 u (h.val u a) hd (by rw[h.len u a];exact hn);rw[B]at r;cases r
 exact eC.tr _ _ _ o (eC.tr _ _ _ (pH (x:=x) (z:=z)) w)
theorem Lv.none (h:Lv D N N ws)(hno:∀x∈ws,¬D x):∀s,ef s->s.length<=N->¬D s:=λs c e f=>by
 obtain⟨m,a,_⟩:=rn c f e;obtain⟨x,b,z,rfl⟩:=h.path m a;have d:=a.2.2.1;have i:=h.len x b;rw[zH]at d;have g:z=[]:=yf (by omega);subst g;rw[zx]at a;exact hno x b a.2.1
def kW (ws:List (List Int))(Al:List Int)(i k:Nat)(v:List Int):Prop:=(∃x∈ws.take i,∃r∈Al,v=x++[r])\/∃x,ws[i]?=some x/\∃r∈Al.take k,v=x++[r]
structure Nx (D:List Int->Prop)(ws:List (List Int))(Al:List Int)(i k:Nat)(nx:List (List Int)):Prop where
 mem:∀v∈nx,kW ws Al i k v
 srt:nx.Pairwise λx y=>bY x y=true
 all:∀v,kW ws Al i k v->v∈nx\/DS D v
variable {Al:List Int} {i k:Nat} {nx:List (List Int)}
theorem Un :¬kW ws Al 0 0 v:=by
 rintro (⟨x,h,_⟩|⟨x,_,r,h,_⟩)
 ·simp at h
 ·simp at h
theorem Nx.start:Nx D ws Al 0 0 []:=⟨λv h=>by simp at h,by simp,λv h=>absurd h Un⟩
theorem lK {x:LZ}(hx:ws[i]?=some x)(hr:Al[k]?=some r):kW ws Al i (k+1) v↔kW ws Al i k v\/v=x++[r]:=by
 have e:Al.take (k+1)=Al.take k++[r]:=by rw[zi,hr];rfl
 unfold kW;rw[e];constructor
 ·rintro (h|⟨y,b,q,a,c⟩)
  ·exact .inl (.inl h)
  ·rcases zM.1 a with a|a
   ·exact .inl (.inr ⟨y,b,q,a,c⟩)
   ·simp at a;subst a;rw[hx]at b;injection b with b;subst b;exact .inr c
 ·rintro ((h|⟨y,b,q,a,c⟩)|h)
  ·exact .inl h
  ·exact .inr ⟨y,b,q,yq _ a,c⟩
  ·exact .inr ⟨x,hx,r,List.mem_append_right _ (by simp),h⟩
theorem xi {x:LZ}(hx:ws[i]?=some x):kW ws Al (i+1) 0 v↔kW ws Al i Al.length v:=by
 have e:ws.take (i+1)=ws.take i++[x]:=by rw[zi,hx];rfl
 unfold kW;rw[e,zQ];constructor
 ·rintro (⟨y,a,r,b,c⟩|⟨y,_,r,b,_⟩)
  ·rcases zM.1 a with a|a
   ·exact .inl ⟨y,a,r,b,c⟩
   ·simp at a;subst a;exact .inr ⟨y,hx,r,b,c⟩
  ·simp at b
 ·rintro (⟨y,a,r,b,c⟩|⟨y,a,r,b,c⟩)
  ·exact .inl ⟨y,yq _ a,r,b,c⟩
  ·rw[hx]at a;injection a with a;subst a;exact .inl ⟨x,List.mem_append_right _ (by simp),r,b,c⟩
theorem Dg:∀(s t a b:LZ),s.length=t.length->cH s t=true->cH (s++a) (t++b)=true
 | [],[],_,_,_,h=>by simp[cH]at h
 | [],_::_,_,_,h,_=>by simp at h
 |_::_,[],_,_,h,_=>by simp at h
 |c::s,d::t,a,b,hl,h=>by
  simp only[cH,zV,yZ,yP,zY]at h ⊢;rcases h with h|⟨e,h⟩
  ·exact .inl h
  ·exact .inr ⟨e,Dg s t a b (by simpa using hl) h⟩
theorem Dh:∀(s:LZ) (a b:Int),a<b->cH (s++[a]) (s++[b])=true
 | [],a,b,h=>by simp[cH,h]
 |c::s,a,b,h=>by
  have:=Dh s a b h;simp only[cH,zV,yZ,yP,zY];exact .inr ⟨trivial,this⟩
theorem GN {x:LZ}(h:Lv D N n ws)(hA:Al.Pairwise (·<·))(hx:ws[i]?=some x)(hr:Al[k]?=some r)(hv:kW ws Al i k v):bY v (x++[r])=true:=by
 have l:=zU hx;have f:=(zC.1 hx).1;have t:ws[i]=x:=yT ((zB f).symm.trans hx);rw[fI]
 right
 rcases hv with⟨y,e,q,p,rfl⟩|⟨y,e,q,p,rfl⟩
 ·obtain⟨j,b⟩:=List.getElem?_of_mem e;have d:=(zC.1 b).1;rw[yn]at d;rw[List.getElem?_take_of_lt (by omega)]at b;have a:=(zC.1 b).1;have s:ws[j]=y:=yT ((zB a).symm.trans b);have c:=yX.1 h.srt j i a f (by omega);rw[t,s]at c;have o:=h.len x l;have m:=h.len y (zU b);rw[fI]at c;refine⟨by simp;omega,Dg _ _ _ _ (by omega) ?_⟩;rcases c with c|c
  ·omega
  ·exact c.2
 ·rw[hx]at e;injection e with e;subst e;refine⟨by simp,Dh _ _ _ ?_⟩;obtain⟨j,b⟩:=List.getElem?_of_mem p;have d:=(zC.1 b).1;rw[yn]at d;rw[List.getElem?_take_of_lt (by omega)]at b;have a:=(zC.1 b).1;have g:=(zC.1 hr).1;have c:=yX.1 hA j k a g (by omega);have o:Al[j]=q:=yT ((zB a).symm.trans b);have m:Al[k]=r:=yT ((zB g).symm.trans hr);rw[o,m]at c;exact c
theorem Nx.keep {x:LZ}(h:Nx D ws Al i k nx)(hl:Lv D N n ws)(hA:Al.Pairwise (·<·))(hx:ws[i]?=some x)(hr:Al[k]?=some r):Nx D ws Al i (k+1) (nx++[x++[r]]):=by
 refine⟨λv c=>(lK hx hr).2 ?_,?_,λv c=>?_⟩
 ·rcases zM.1 c with c|c
  ·exact .inl (h.mem v c)
  ·exact .inr (by simpa using c)
 ·rw[yA];refine⟨h.srt,by simp,λa f b e=>?_⟩;simp at e;subst e;exact GN hl hA hx hr (h.mem a f)
 ·rcases (lK hx hr).1 c with c|rfl
  ·rcases h.all v c with d|d
   ·exact .inl (yq _ d)
   ·exact .inr d
  ·exact .inl (by simp)
theorem Nx.drop {x:LZ}(h:Nx D ws Al i k nx)(hx:ws[i]?=some x)(hr:Al[k]?=some r)(hd:DS D (x++[r])):Nx D ws Al i (k+1) nx:=by
 refine⟨λv a=>(lK hx hr).2 (.inl (h.mem v a)),h.srt,λv a=>?_⟩;rcases (lK hx hr).1 a with a|rfl
 ·exact h.all v a
 ·exact .inr hd
theorem Nx.next {x:LZ}(h:Nx D ws Al i Al.length nx)(hx:ws[i]?=some x):Nx D ws Al (i+1) 0 nx:=⟨λv a=>(xi hx).2 (h.mem v a),h.srt,λv a=>h.all v ((xi hx).1 a)⟩
theorem Nx.done (h:Nx D ws Al ws.length 0 nx)(hl:Lv D N n ws)(hno:∀x∈ws,¬D x)(hV:∀r∈Al,runeB r=true)(hAl:∀m,cX D N m->∀r∈m,r∈Al):Lv D N (n+1) nx:=by
 have f:∀v,kW ws Al ws.length 0 v->∃x∈ws,∃r∈Al,v=x++[r]:=by
  rintro v (⟨x,b,r,d,i⟩|⟨x,_,r,d,_⟩)
  ·rw[zQ]at b;exact⟨x,b,r,d,i⟩
  ·simp at d
 refine⟨λv g=>?_,λv g=>?_,h.srt,λm c=>?_⟩
 ·obtain⟨x,b,r,d,rfl⟩:=f v (h.mem v g);rw[zH,hl.len x b];rfl
 ·obtain⟨x,b,r,d,rfl⟩:=f v (h.mem v g);intro q a;rcases zM.1 a with a|a
  ·exact hl.val x b q a
  ·simp at a;subst a;exact hV q d
 ·obtain⟨x,l,z,rfl⟩:=hl.path m c;cases z with
  |nil=>rw[zx]at c;exact absurd c.2.1 (hno x l)
  |cons r z=>
   have t:=hAl _ c r (by simp);have g:kW ws Al ws.length 0 (x++[r]):=.inl ⟨x,by rw[zQ];exact l,r,t,rfl⟩;rcases h.all _ g with b|⟨o,b,d,i⟩
   ·exact⟨_,b,z,by simp⟩
   ·have e:x++r::z=(x++[r])++z:=by simp
    rw[e]at c;have j:=vv z d;have p:ef (o++z):=λq a=>by
     rcases zM.1 a with a|a
     ·exact b q a
     ·exact c.1 q (by simp[a])
    have s:=Um j;have k:=c.2.2.2 (o++z) p ((i z).2 c.2.1) (zJ s c.2.2.1);rw[j]at k;cases k
theorem rN (n:Int):∀b∈dN n,b≠47:=by
 intro b a;rcases wh b a with h|h
 ·intro e;subst e;unfold sL at h;exact absurd h.1 (by decide)
 ·subst h;decide
theorem Qx (x:Int×Int):∀b∈eJ x,b≠47:=by
 intro b a;simp only[eJ,zO,zM]at a;rcases a with rfl|a|rfl|a
 ·decide
 ·exact rN _ b a
 ·decide
 ·exact rN _ b a
mutual
theorem jd:∀t:Tm,∀b∈t.key,b≠47
 |.none=>by intro b e;simp[Tm.key]at e;subst e;decide
 |.empty=>by intro b e;simp[Tm.key]at e;subst e;decide
 |.set q=>by
  intro b e;simp only[Tm.key,zO,xL]at e;rcases e with rfl|⟨x,_,e⟩
  ·decide
  ·exact Qx x b e
 |.row a b=>by
  intro c d;have f:=jd a;have g:=jd b;simp only[Tm.key,cU,zO,zM,xD,or_false]at d;rcases d with rfl|(rfl|d|rfl)|rfl|d|rfl
  ·decide
  ·decide
  ·exact f c d
  ·decide
  ·decide
  ·exact g c d
  ·decide
 |.or l=>by
  intro c d;simp only[Tm.key,zO]at d;rcases d with rfl|d
  ·decide
  ·exact rO l c d
 |.and l=>by
  intro c d;simp only[Tm.key,zO]at d;rcases d with rfl|d
  ·decide
  ·exact rO l c d
 |.not t=>by
  intro c d;have f:=jd t;simp only[Tm.key,cU,zO,zM,xD,or_false]at d;rcases d with rfl|rfl|d|rfl
  ·decide
  ·decide
  ·exact f c d
  ·decide
 |.many t m n=>by
  intro c d;have f:=jd t;simp only[Tm.key,cU,zO,zM,xD,or_false]at d;rcases d with rfl|d|rfl|d|rfl|d|rfl
  ·decide
  ·exact rN m c d
  ·decide
  ·exact rN n c d
  ·decide
  ·exact f c d
  ·decide
theorem rO:∀l:List Tm,∀b∈ju l,b≠47
 | [],b,a=>by simp[ju]at a
 |t::l,b,a=>by
  have d:=jd t;have c:=rO l;simp only[ju,cU,zO,zM,xD,or_false]at a;rcases a with (rfl|a|rfl)|a
  ·decide
  ·exact d b a
  ·decide
  ·exact c b a
end
theorem Uo {a b c d:Tm}(ha:a.Ok)(hb:b.Ok)(hc:c.Ok)(hd:d.Ok)(h:a.key++47::b.key=c.key++47::d.key):a=c/\b=d:=by
 obtain⟨g,f⟩:=Jh (P:=λx=>x≠47) (jd a) (jd c) (λx t e k=>by injection e with e _;exact k e.symm) (λx t e k=>by injection e with e _;exact k e.symm) h;injection f with _ f;exact⟨nL ha hc g,nL hb hd f⟩
structure Stp where
 a:Tm
 b:Tm
 u:List Int
def lz:Nat->Nat
 |0=>61
 |n+1=>bZ (lz n)
def Cw:Nat->Nat
 |0=>12420
 |n+1=>lz n*Cw n
theorem Js:∀n,n<=2->lz n*Cw n<=3000000000000000000/\bZ (lz n)<=2000000000000
 |0,_=>by decide
 |1,_=>by decide
 |2,_=>by decide
 |_+3,h=>by omega
theorem Jt:∀n,n<=3->Cw n<=3000000000000000000
 |0,_=>by decide
 |1,_=>by decide
 |2,_=>by decide
 |3,_=>(Js 2 (by omega)).1
 |_+4,h=>by omega
def enc (u:List Int):List UInt8:=u.flatMap Lib.encodeRune
theorem SB (u:LZ)(r:Int):enc (u++[r])=enc u++Lib.encodeRune r:=by simp[enc]
structure StG (LA LB:Lg)(n:Nat)(s:Stp):Prop where
 oa:s.a.Ok
 ob:s.b.Ok
 la:s.a.L=rM LA s.u
 lb:s.b.L=rM LB s.u
 za:s.a.z<=lz n
 zb:s.b.z<=lz n
 ta:s.a.tl<=Cw n
 tb:s.b.tl<=Cw n
 vl:ef s.u
 ln:s.u.length=n
def oL (w:World)(A:Nat->Prop)(s:Stp)(c:List Value):Prop:=∃ca cb str,c=ca++cb++[.string str]/\aj w A s.a ca/\aj w A s.b cb/\af str=enc s.u
def eY (w:World)(A:Nat->Prop):List Stp->List Value->Prop
 | [],xs=>xs=[]
 |s::l,xs=>∃c r,xs=c++r/\oL w A s c/\eY w A l r
theorem oL.keep {A:NP}{w w':World}(k:ah A w w'){s:Stp}{c:LV}(h:oL w A s c):oL w' A s c:=by
 obtain⟨f,b,a,e,d,g,i⟩:=h;exact⟨f,b,a,e,aj.keep k _ _ d,aj.keep k _ _ g,i⟩
theorem eY.keep {A:NP}{w w':World}(k:ah A w w'):∀{l:List Stp} {xs:LV},eY w A l xs->eY w' A l xs
 | [],_,h=>h
 |_::_,_,h=>by obtain⟨c,r,e,a,b⟩:=h;exact⟨c,r,e,a.keep k,eY.keep k b⟩
theorem oL.mono {A A':NP}{w:World}(k:∀g,g<w.heap.size->A g->A' g){s:Stp}{c:LV}(h:oL w A s c):oL w A' s c:=by
 obtain⟨f,b,a,e,d,i,j⟩:=h;exact⟨f,b,a,e,aj.mono k _ _ d,aj.mono k _ _ i,j⟩
theorem eY.mono {A A':NP}{w:World}(k:∀g,g<w.heap.size->A g->A' g):∀{l:List Stp} {xs:LV},eY w A l xs->eY w A' l xs
 | [],_,h=>h
 |_::_,_,h=>by obtain⟨c,r,e,a,b⟩:=h;exact⟨c,r,e,a.mono k,eY.mono k b⟩
theorem eY.below {A:NP}{w w':World}(k:Bw w w'){l:List Stp}{xs:LV}(h:eY w A l xs):eY w' A l xs:=h.keep (ah.below k)
theorem oL.len {A:NP}{w:World}{s:Stp}{c:LV}(h:oL w A s c):c.length=13:=by
 obtain⟨f,e,b,rfl,a,d,_⟩:=h;simp[a.len,d.len]
theorem eY.append {A:NP}{w:World}:∀{l m:List Stp} {xs ys:LV},eY w A l xs->eY w A m ys->eY w A (l++m) (xs++ys)
 | [],_,_,_,h,k=>by rw[show _=[]from h];exact k
 |s::l,m,_,ys,h,k=>by
  obtain⟨c,r,rfl,a,b⟩:=h;exact⟨c,r++ys,by rw[zc],a,eY.append b k⟩
theorem eY.one {s:Stp}(h:oL w A s c):eY w A [s] c:=⟨c,[],by simp,h,rfl⟩
theorem eY.at {A:NP}{w:World}:∀{l:List Stp} {xs:LV},eY w A l xs->∀{i:Nat} {s:Stp},l[i]?=some s->∃c,oL w A s c/\∀j,j<13->xs[13*i+j]?=c[j]?
 | [],_,_,i,s,hi=>by simp at hi
 |_::l,_,h,0,s,hi=>by
  obtain⟨c,r,rfl,a,e⟩:=h;simp at hi;subst hi;refine⟨c,a,λj b=>?_⟩;rw[Nat.mul_zero,zf,yY (by rw[a.len];exact b)]
 |_::l,_,h,i+1,s,hi=>by
  obtain⟨c,r,rfl,a,e⟩:=h;obtain⟨d,f,g⟩:=eY.at e (i:=i) (s:=s) (by simpa using hi);refine⟨d,f,λj b=>?_⟩;rw[<-g j b,yk (by rw[a.len];omega),a.len];congr 1;omega
theorem cg.step {l:List Stp}(hr:cg w A lo xs)(hl:eY w A' l xs){s:Stp}(hi:l[i]?=some s):∃b off c,lo=some (aD b off)/\A b/\b<w.heap.size/\oL w A' s c/\∀j v,c[j]?=some v->w.cell? ⟨b,off+i*13+j,none⟩=some v:=by
 obtain⟨c,g,k⟩:=hl.at hi;have n:∃v,c[0]?=some v:=⟨_,zB (by rw[g.len];decide)⟩;obtain⟨q,f⟩:=n;obtain⟨b,off,e,p,r,_⟩:=hr (13*i+0) q (by rw[k 0 (by decide)];exact f);refine⟨b,off,c,e,p,r,g,λj v h=>?_⟩;have d:j<13:=by have:=(zC.1 h).1;rw[g.len]at this;exact this
 obtain⟨t,m,a,_,_,o⟩:=hr (13*i+j) v (by rw[k j d];exact h);rw[e]at a;injection a with a;injection a with e1 e2;subst e1 e2;rw[show off+i*13+j=off+(13*i+j) by omega];exact o
theorem eY.ones {A:NP}{w:World}:∀{l:List Stp} {xs:LV},eY w A l xs->∀u∈xs,u.oneCell'=true
 | [],_,h=>by rw[show _=[]from h];simp
 |s::l,_,h=>by
  obtain⟨c,r,rfl,⟨k,j,e,rfl,d,f,_⟩,g⟩:=h;have i:=aO.ones (aO.one d);have b:=aO.ones (aO.one f);intro u a;rcases zM.1 a with a|a
  ·rcases zM.1 a with a|a
   ·rcases zM.1 a with a|a
    ·exact i u a
    ·exact b u a
   ·simp at a;subst a;rfl
  ·exact eY.ones g u a
def KK (S:Nat)(A:Nat->Prop)(nv sv:Value)(g:Nat):Prop:=(A g\/S<=g)/\nv.ownBlock≠some g/\sv.ownBlock≠some g
structure Mem (S:Nat)(A:Nat->Prop)(w wr:World)(lon:Option Addr)(ss:List Stp)(xs:List Value)(nv:Value)(sx:List Stp)(ys:List Value)(sv:Value)(ks:List (List UInt8)):Prop where
 now:cg wr (KK S A nv sv) lon xs
 nowt:eY wr (KK S A nv sv) ss xs
 nx:wr.ownsRow S 79 13 nv sx.length ys
 nxt:eY wr (KK S A nv sv) sx ys
 seen:wr.ownsRow S 9 1 sv ks.length (qZ ks)
 ne:∀g,nv.ownBlock=some g->sv.ownBlock≠some g
 bel:Below S w wr
variable {S:Nat} {A:Nat->Prop} {w wr:World} {lon:Option Addr} {ss sx:List Stp} {xs ys:List Value} {nv sv:Value} {ks:List (List UInt8)}
theorem Mem.below {w':World}(h:Mem S A w wr lon ss xs nv sx ys sv ks)(k:Bw wr w')(hS:S<=wr.heap.size):Mem S A w w' lon ss xs nv sx ys sv ks :=
 ⟨h.now.below k,h.nowt.below k,bg h.nx k,h.nxt.below k,bg h.seen k,h.ne,h.bel.trans (k.mono hS)⟩
theorem Mem.size (h:Mem S A w wr lon ss xs nv sx ys sv ks)(hS:S<=w.heap.size):S<=wr.heap.size:=zJ hS h.bel.size
theorem Mem.turn {lo2:OA}{cap2:Nat}(h:Mem S A w wr lon ss xs (.slice lo2 sx.length cap2) sx ys sv ks):Mem S A w wr lo2 sx ys (Vz) [] [] sv ks:=by
 refine⟨?_,?_,zZ _ _ _ _,rfl,h.seen,λg e=>(by cases e),h.bel⟩
 ·intro j v d;obtain⟨b,a,e,i,k,f⟩:=iQ h.nx j v d;subst e;exact⟨b,a,rfl,⟨.inr i,by simp[Value.ownBlock],h.ne b rfl⟩,k,f⟩
 ·exact h.nxt.mono λg _ c=>⟨c.1,by simp[Value.ownBlock],c.2.2⟩
theorem Mem.name {key:List UInt8}(h:Mem S A w U3 lon ss xs nv sx ys sv ks)(ho:w4.ownsRow S 9 1 v4 (ks.length+1) (qZ ks++[.string ⟨key.toArray⟩]))(hg:U3.grownBy w4 sv.ownBlock)(hm:v4.ownBlock=sv.ownBlock\/∀g,v4.ownBlock=some g->U3.heap.size<=g)(hS:S<=U3.heap.size):Mem S A w w4 lon ss xs nv sx ys v4 (ks++[key]):=by
 have b:∀g,g<U3.heap.size->sv.ownBlock≠some g->v4.ownBlock≠some g:=λg a f e=>by
  rcases hm with i|i
  ·rw[i]at e;exact f e
  ·have:=i g e;omega
 have l:ah (KK S A nv sv) U3 w4:=⟨hg.size,λg a j=>hg.block g a (λe=>j.2.2 e.symm)⟩;have k:∀g,g<U3.heap.size->KK S A nv sv g->KK S A nv sv g/\KK S A nv v4 g:=λg a d=>⟨d,d.1,d.2.1,b g a d.2.2⟩;have c:ah (λg=>KK S A nv sv g/\KK S A nv v4 g) U3 w4:=⟨hg.size,λg a j=>l.2 g a j.1⟩;refine⟨((h.now.mono k).keep c).mono λg _ hg=>hg.2,((h.nowt.mono k).keep c).mono λg _ hg=>hg.2,oR h.nx hg h.ne,((h.nxt.mono k).keep c).mono λg _ hg=>hg.2,?_,λg e=>b g (h.nx.lt g e).2 (h.ne g e),cD h.bel hS h.seen hg⟩;simpa [qZ]using ho
theorem Mem.step {s:Stp}(h:Mem S A w U3 lon ss xs nv sx ys sv ks)(ho:w4.ownsRow S 79 13 v4 (sx.length+1) (ys++c))(hg:U3.grownBy w4 nv.ownBlock)(hm:v4.ownBlock=nv.ownBlock\/∀g,v4.ownBlock=some g->U3.heap.size<=g)(hS:S<=U3.heap.size)(hs:oL U3 (KK S A nv sv) s c):Mem S A w w4 lon ss xs v4 (sx++[s]) (ys++c) sv ks:=by
 have b:∀g,g<U3.heap.size->nv.ownBlock≠some g->v4.ownBlock≠some g:=λg a k e=>by
  rcases hm with d|d
  ·rw[d]at e;exact k e
  ·have:=d g e;omega
 have n:ah (KK S A nv sv) U3 w4:=⟨hg.size,λg a l=>hg.block g a (λe=>l.2.1 e.symm)⟩;have m:∀g,g<U3.heap.size->KK S A nv sv g->KK S A nv sv g/\KK S A v4 sv g:=λg a j=>⟨j,j.1,b g a j.2.1,j.2.2⟩;have f:ah (λg=>KK S A nv sv g/\KK S A v4 sv g) U3 w4:=⟨hg.size,λg a l=>n.2 g a l.1⟩;refine⟨((h.now.mono m).keep f).mono λg _ hg=>hg.2,((h.nowt.mono m).keep f).mono λg _ hg=>hg.2,by simpa using ho,(((h.nxt.append (eY.one hs)).mono m).keep f).mono λg _ hg=>hg.2,oR h.seen hg (λg d i=>h.ne g i d),λg d i=>?_,cD h.bel hS h.nx hg⟩;exact b g (h.seen.lt g i).2 (λe=>h.ne g e i) d
def eE (LA LB:Lg)(P:List Int->Prop)(ks:List (List UInt8)):Prop:=∀key∈ks,∃(a b:Tm) (o:List Int),a.Ok/\b.Ok/\key=a.key++47::b.key/\a.L=rM LA o/\b.L=rM LB o/\ef o/\P o
theorem eE.more {Q:List Int->Prop}(h:eE LA LB P ks)(k:∀o,P o->Q o):eE LA LB Q ks:=λc l=>by
 obtain⟨a,b,o,f,i,m,g,j,d,e⟩:=h c l;exact⟨a,b,o,f,i,m,g,j,d,k o e⟩
theorem eE.add {s:Stp}(h:eE LA LB P ks)(hs:StG LA LB n s)(hp:P s.u):eE LA LB P (ks++[s.a.key++47::s.b.key]):=λb a=>by
 rcases zM.1 a with a|a
 ·exact h b a
 ·simp at a;subst a;exact⟨s.a,s.b,s.u,hs.oa,hs.ob,rfl,hs.la,hs.lb,hs.vl,hp⟩
theorem eE.dead {s:Stp}(h:eE LA LB P ks)(hs:StG LA LB n s)(hk:s.a.key++47::s.b.key∈ks)(hl:∀o,P o->bY o s.u=true):DS (dG LA LB) s.u:=by
 obtain⟨a,b,o,f,j,p,i,k,d,g⟩:=h _ hk;obtain⟨m,c⟩:=Uo hs.oa hs.ob f j p;refine⟨o,d,hl o g,λz=>?_⟩;have e:LA (o++z)↔LA (s.u++z):=by
  have:=congrFun (i.symm.trans (m▸hs.la)) z;exact iff_of_eq this
 have l:LB (o++z)↔LB (s.u++z):=by
  have:=congrFun (k.symm.trans (c▸hs.lb)) z;exact iff_of_eq this
 unfold dG;rw[e,l]
theorem StG.step {s:Stp}{c:Int}{ta tb:Tm}(h:StG LA LB n s)(hc:place c)(ha:Gd (aX s.a.L (back c)) (bZ s.a.z) (s.a.z*s.a.tl) ta)(hb:Gd (aX s.b.L (back c)) (bZ s.b.z) (s.b.z*s.b.tl) tb):StG LA LB (n+1) ⟨ta,tb,s.u++[back c]⟩:=by
 refine⟨ha.ok,hb.ok,?_,?_,zJ ha.z (dY h.za),zJ hb.z (dY h.zb),zJ ha.tl (Nat.mul_le_mul h.za h.ta),zJ hb.tl (Nat.mul_le_mul h.zb h.tb),λr a=>?_,?_⟩
 ·rw[ha.lg,h.la,Df]
 ·rw[hb.lg,h.lb,Df]
 ·rcases zM.1 a with a|a
  ·exact h.vl r a
  ·simp at a;subst a;exact (gL hc).1
 ·simp[h.ln]
theorem Cn {x:Int}(hx:place x)(hy:place y)(h:x<y):back x<back y:=by
 unfold place at hx hy;unfold back
 split<;>split<;>omega
theorem Om (h:hs.Pairwise (·<·))(hp:∀y∈hs,place y):(hs.map back).Pairwise (·<·):=by
 rw[List.pairwise_map];exact h.imp_of_mem λb c a=>Cn (hp _ b) (hp _ c) a
theorem EE {a b:ByteArray}(h:af a=af b):a=b:=by
 have d:a.data.toList=b.data.toList:=h;have c:a.data=b.data:=Array.toList_inj.1 d;cases a;cases b;simp at c;rw[c]
theorem Yz (x:List UInt8):af (⟨x.toArray⟩:ByteArray)=x:=by simp[af]
theorem Jf {a b:Tm}{sa sb:ByteArray}(ha:af sa=a.key)(hb:af sb=b.key):sa++{ data:=#[47] }++sb=⟨(a.key++47::b.key).toArray⟩:=by
 refine EE ?_;rw[cy,cy,ha,hb,Yz];simp[af]
theorem qE {s:ByteArray}(h:af s=t.key)(hok:t.Ok):s.size+4<=t.tl:=by
 have a:=ik hok;rw[<-h,aL]at a;exact a
theorem EF {t:LZ}(h:ef t):af (runesBytes t)=enc t:=by
 have:=xS t ByteArray.empty h;unfold runesBytes;rw[this];simp[af,enc]
theorem On (h:a<=(n+1)*400000000+i*721)(hi:i<=519841):a<=(n+1+1)*400000000:=by
 have b:i*721<=519841*721:=zn _ hi;have c:(519841*721:Nat)<=400000000:=Nat.le_of_ble_eq_true rfl;rw[Nat.succ_mul (n+1)];exact zJ h (Nat.add_le_add_left (zJ b c) _)
theorem EG {l:Nat}(h:l<=721 ^ n)(hn:n<=2):l<=519841:=zJ h (zJ (Nat.pow_le_pow_right (by decide) hn) (by decide))
theorem Vl {l:Nat}(h:a<=i*721+l)(hl:l<=721):a<=(i+1)*721:=by omega
theorem Vm {l:Nat}(h:a<=b+i*721+l)(hl:l<=721):a<=b+(i+1)*721:=by omega
def YX (L:Lg)(N:Nat)(e:Ending):Prop:=∃s ok,e=.returned (.tuple #[.string s,.bool ok])/\gZ L N s ok
theorem Oo {S:Nat}{V3 wx:World}{nv sv:Value}{ka:Nat}(h:aj wx (λg=>(KK S A nv sv g\/V3.heap.size<=g)/\g≠ka) t cs)(hb:Bw wx U3)(hgr:U3.grownBy w4 sv.ownBlock)(hmv:v4.ownBlock=sv.ownBlock\/∀g,v4.ownBlock=some g->U3.heap.size<=g)(hnv:∀g,nv.ownBlock=some g->g<V3.heap.size)(hsv:∀g,sv.ownBlock=some g->g<V3.heap.size)(hSV:S<=V3.heap.size):aj w4 (KK S A nv v4) t cs:=by
 have d:∀g,g<U3.heap.size->((KK S A nv sv g\/V3.heap.size<=g)/\g≠ka)->KK S A nv sv g/\KK S A nv v4 g:=λg c h=>by
  have a:KK S A nv sv g:=by
   rcases h.1 with h|h
   ·exact h
   ·exact⟨.inr (by omega),λe=>by have:=hnv g e;omega,λe=>by have:=hsv g e;omega⟩
  refine⟨a,a.1,a.2.1,λe=>?_⟩;rcases hmv with b|b
  ·rw[b]at e;exact a.2.2 e
  ·have:=b g e;omega
 have f:ah (λg=>KK S A nv sv g/\KK S A nv v4 g) U3 w4:=⟨hgr.size,λg c i=>hgr.block g c (λe=>i.1.2.2 e.symm)⟩;exact aj.mono (λg _ h=>h.2) _ _ (aj.keep f _ _ (aj.mono d _ _ (aj.below hb _ _ h)))
theorem YA (h:a<=(n+1)*400000000+i*721+k)(hn:n<=2)(hi:i<=519841)(hk:k<=721):(a:Int)<=2000000000:=by
 have c:i*721<=519841*721:=zn _ hi;have d:(n+1)*400000000<=3*400000000:=zn _ (Nat.succ_le_succ hn);have b:a<=3*400000000+519841*721+721:=zJ h (Nat.add_le_add (Nat.add_le_add d c) hk);exact Int.ofNat_le.2 (zJ b (Nat.le_of_ble_eq_true rfl))
theorem YB (h:a<=i*721+k)(hi:i<=519841)(hk:k<=721):(a:Int)<=400000000:=by
 have b:i*721<=519841*721:=zn _ hi;exact Int.ofNat_le.2 (zJ h (zJ (Nat.add_le_add b hk) (Nat.le_of_ble_eq_true rfl)))
structure Stb (V cur:World)(F:World->Prop):Prop where
 bel:Below V.heap.size V cur
 all:∀w',Below cur.heap.size cur w'->F w'
theorem Stb.start (V:World):Stb V V.drew (λ_=>True):=⟨jw V,λ_ _=>trivial⟩
theorem Stb.go {V p cur:World}{F:World->Prop}(h:Stb V p F)(k:Bw p cur):Stb V cur F:=⟨bL h.bel k,λa b=>h.all a (bL k b)⟩
theorem Stb.and {V cur:World}{F G:World->Prop}(h:Stb V cur F)(k:∀w',Bw cur w'->G w'):Stb V cur (λw'=>F w'/\G w'):=⟨h.bel,λw' a=>⟨h.all w' a,k w' a⟩⟩
theorem EH (w:World)(o:Obj):Bw w.drew (w.alloc o).drew:=have h:=((zE w.heap.size w).alloc (zA _) o).drew;⟨h.os,h.tape,h.output,h.size,h.block⟩
abbrev xN:List Value:=[Vi 0,Vz,Vz,Vi 0,Vi 0,.string ⟨#[]⟩,Vi 0,Vz,Vz,Vi 0,Vi 0,.string ⟨#[]⟩,.string ⟨#[]⟩]
abbrev UC (W:World)(b:Nat)(v0 v1 v2 v3 v4 v5 v6 v7 v8 v9 v10 v11 v12:Value):World:=((((((((((((W.setCell (aD b 0) v0).setCell (aD b 1) v1).setCell (aD b 2) v2).setCell (aD b 3) v3).setCell (aD b 4) v4).setCell (aD b 5) v5).setCell (aD b 6) v6).setCell (aD b 7) v7).setCell (aD b 8) v8).setCell (aD b 9) v9).setCell (aD b 10) v10).setCell (aD b 11) v11).setCell (aD b 12) v12
abbrev Lf (V:World)(Kp:Nat->Prop)(s:Stp)(c:Int)(wx:World)(ka:Nat)(t1:Tm)(so1:Option Addr)(sn1 sc1:Nat)(lo1:Option Addr)(ln1 lc1:Nat)(m1 n1:Int)(s1:ByteArray)(t2:Tm)(so2:Option Addr)(sn2 sc2:Nat)(lo2:Option Addr)(ln2 lc2:Nat)(m2 n2:Int)(s2:ByteArray)(st:ByteArray):Prop :=
 ag wx ka (TC t1.kind so1 sn1 sc1 lo1 ln1 lc1 m1 n1 s1++TC t2.kind so2 sn2 sc2 lo2 ln2 lc2 m2 n2 s2++[.string st]) 79/\V.heap.size<=ka/\aj wx (λg=>(Kp g\/V.heap.size<=g)/\g≠ka) t1 (TC t1.kind so1 sn1 sc1 lo1 ln1 lc1 m1 n1 s1)/\aj wx (λg=>(Kp g\/V.heap.size<=g)/\g≠ka) t2 (TC t2.kind so2 sn2 sc2 lo2 ln2 lc2 m2 n2 s2)/\Gd (aX s.a.L (back c)) (bZ s.a.z) (s.a.z*s.a.tl) t1/\Gd (aX s.b.L (back c)) (bZ s.b.z) (s.b.z*s.b.tl) t2/\af st=enc (s.u++[back c])/\Below V.heap.size V wx
theorem xO {S:Nat}(h:Below S w W)(hb:S<=b)(v0 v1 v2 v3 v4 v5 v6 v7 v8 v9 v10 v11 v12:Value):Below S w (UC W b v0 v1 v2 v3 v4 v5 v6 v7 v8 v9 v10 v11 v12):=by
 exact (((((((((((((h.setCell (p:=(aD b 0)) hb _).setCell (p:=(aD b 1)) hb _).setCell (p:=(aD b 2)) hb _).setCell (p:=(aD b 3)) hb _).setCell (p:=(aD b 4)) hb _).setCell (p:=(aD b 5)) hb _).setCell (p:=(aD b 6)) hb _).setCell (p:=(aD b 7)) hb _).setCell (p:=(aD b 8)) hb _).setCell (p:=(aD b 9)) hb _).setCell (p:=(aD b 10)) hb _).setCell (p:=(aD b 11)) hb _).setCell (p:=(aD b 12)) hb _)
theorem ag.thirteen {c0 c1 c2 c3 c4 c5 c6 c7 c8 c9 c10 c11 c12:Value}{T:TypeId}(h:ag W b [c0,c1,c2,c3,c4,c5,c6,c7,c8,c9,c10,c11,c12] T)(v0 v1 v2 v3 v4 v5 v6 v7 v8 v9 v10 v11 v12:Value):ag (UC W b v0 v1 v2 v3 v4 v5 v6 v7 v8 v9 v10 v11 v12) b [v0,v1,v2,v3,v4,v5,v6,v7,v8,v9,v10,v11,v12] T:=by
 exact (((((((((((((h.set 0 v0).set 1 v1).set 2 v2).set 3 v3).set 4 v4).set 5 v5).set 6 v6).set 7 v7).set 8 v8).set 9 v9).set 10 v10).set 11 v11).set 12 v12)
theorem Jg (h:aj W A t cs)(hn:¬A b)(v0 v1 v2 v3 v4 v5 v6 v7 v8 v9 v10 v11 v12:Value):aj (UC W b v0 v1 v2 v3 v4 v5 v6 v7 v8 v9 v10 v11 v12) A t cs:=by
 have k:∀(V:World) (o:Nat) (v:Value),ah A V (V.setCell (aD b o) v):=λV o v=>ah.set v hn;exact aj.keep (((((((((((((k _ _ _).trans (k _ _ _)).trans (k _ _ _)).trans (k _ _ _)).trans (k _ _ _)).trans (k _ _ _)).trans (k _ _ _)).trans (k _ _ _)).trans (k _ _ _)).trans (k _ _ _)).trans (k _ _ _)).trans (k _ _ _)).trans (k _ _ _)) t cs h
theorem EI (h:ef u):(enc u).length<=4*u.length:=by
 rw[<-EF h,aL];exact runesBytes_size_le u
theorem RF {c:Int}(h:runeB c=true):(Lib.encodeRune c).length<=4:=by
 have b:=EI (u:=[c]) (λr a=>by simp at a;subst a;exact h);simpa [enc]using b
theorem Hi:(prog.info? 79).map (λi=>(i.zero,i.size,i.bytes))=some (some (.agg #[Vi 0,Vz,Vz,Vi 0,Vi 0,.string ⟨#[]⟩,Vi 0,Vz,Vz,Vi 0,Vi 0,.string ⟨#[]⟩,.string ⟨#[]⟩]),13,192):=by kernel_rfl
theorem Lh {ta tb:Tm}{soa:OA}{sna sca:Nat}{loa:OA}{lna lca:Nat}{ma na:Int}{sa:ByteArray}{sob:OA}{snb scb:Nat}{lob:OA}{lnb lcb:Nat}{mb nb:Int}{sb:ByteArray}{lol:OA}{capl Bl:Nat}(N:Nat)(hN:N<=3)(hA:∀g,A g->g<w.heap.size)(hva:aj w A ta (TC ta.kind soa sna sca loa lna lca ma na sa))(hvb:aj w A tb (TC tb.kind sob snb scb lob lnb lcb mb nb sb))(oa:ta.Ok)(ob:tb.Ok)(za:ta.z<=61)(zb:tb.z<=61)(tla:ta.tl<=12420)(tlb:tb.tl<=12420)(hl:w.ownsRow Bl 3 1 (.slice lol hs.length capl) hs.length (bj hs))(hsrt:hs.Pairwise (·<·))(hpl:∀y∈hs,place y)(hcov:∀m,cX (dG ta.L tb.L) N m->∀r∈m,r∈hs.map back)(hlen:hs.length<=721):Calls prog 16 #[.agg #[.int .i64 ta.kind,.slice soa sna sca,.slice loa lna lca,.int .i64 ma,.int .i64 na,.string sa],.agg #[.int .i64 tb.kind,.slice sob snb scb,.slice lob lnb lcb,.int .i64 mb,.int .i64 nb,.string sb],.slice lol hs.length capl,.int .i64 N] w λe w'=>YX (dG ta.L tb.L) N e/\Below w.heap.size w w':=by
 obtain⟨W0,B4,s9,l5,k3,v2⟩:=jK (rfl:w.heap.size=_) (TC ta.kind soa sna sca loa lna lca ma na sa) 58 (TC tb.kind sob snb scb lob lnb lcb mb nb sb) 58;replace s9:Below _ _ W0:=s9;obtain⟨W1,v1,g6,i0,-⟩:=dS (rfl:W0.heap.size=_) [.int .i64 ta.kind,.slice soa sna sca,.slice loa lna lca,.int .i64 ma,.int .i64 na,.string sa,.int .i64 tb.kind,.slice sob snb scb,.slice lob lnb lcb,.int .i64 mb,.int .i64 nb,.string sb,.string ⟨#[]⟩] 79;replace g6:Below _ _ W1:=g6;have u4:W1.heap.size=w.heap.size+3:=by rw[<-v1];simp[v2]
 obtain⟨W2,m0,s0,-,-⟩:=dS (rfl:W1.heap.size=_) [.string (sa++{ data:=#[47] }++sb)] 9;replace s0:Below _ _ W2:=s0;have w9:W2.heap.size=w.heap.size+4:=by rw[<-m0];simp[u4]
 have B:af sa=ta.key:=qj hva;have q4:af sb=tb.key:=qj hvb;have G2:=qE B oa;have J5:=qE q4 ob;have h7:Below w.heap.size w W2:=s9.trans ((g6.trans (s0.mono g6.size)).mono s9.size);have F1:Hid (Mem w.heap.size A w W2 (some ⟨W0.heap.size,0,none⟩) [⟨ta,tb,[]⟩] (TC ta.kind soa sna sca loa lna lca ma na sa++TC tb.kind sob snb scb lob lnb lcb mb nb sb++[.string ⟨#[]⟩]) (.slice none 0 0) [] [] (.slice (some ⟨W1.heap.size,0,none⟩) 1 1) [ta.key++47::tb.key]):=by
  refine⟨λj v hj=>⟨W0.heap.size,0,rfl,⟨.inr (by omega),by simp[Value.ownBlock],by simp[Value.ownBlock];omega⟩,by omega,?_⟩,eY.one ⟨TC ta.kind soa sna sca loa lna lca ma na sa,TC tb.kind sob snb scb lob lnb lcb mb nb sb,⟨#[]⟩,rfl,?_,?_,rfl⟩,zZ _ _ _ _,rfl,?_,λg e=>(by cases e),h7⟩
  ·rw[zf,(i0.below s0).cell];exact hj
  ·exact aj.mono (λg _ h=>⟨.inl h,by simp[Value.ownBlock],by have:=hA g h;simp[Value.ownBlock];omega⟩) _ _ (aj.below h7 _ _ hva)
  ·exact aj.mono (λg _ h=>⟨.inl h,by simp[Value.ownBlock],by have:=hA g h;simp[Value.ownBlock];omega⟩) _ _ (aj.below h7 _ _ hvb)
  ·have h1:W2.ownsRow W1.heap.size 9 1 (.slice (some ⟨W1.heap.size,0,none⟩) 1 1) 1 [.string (sa++{ data:=#[47] }++sb)]:=by rw[<-m0];exact JH
   rw[Jf B q4]at h1;exact ij (by simpa [qZ]using h1) (by omega)
 have A4:Hid (StG ta.L tb.L 0 ⟨ta,tb,[]⟩):=⟨oa,ob,rfl,rfl,za,zb,tla,tlb,λr hr=>by simp at hr,rfl⟩;have C2:Hid (eE ta.L tb.L (λo=>o.length<=0) [ta.key++47::tb.key]):=eE.add (ks:=[]) (λM6 K=>by simp at K) A4 (zA _);have J3:Hid (∀(j:Nat) (y:Int) (wr:World),hs[j]?=some y->Below w.heap.size w wr->∃b,lol=some ⟨b,0,none⟩/\b<wr.heap.size/\wr.cell? ⟨b,j,none⟩=some (.int .i64 y)):=λj y wr hj hb=>by
  obtain⟨b,a9,e,_,h0,hc⟩:=iQ (bg hl hb) j _ (qJ hj);obtain⟨_,_,h4⟩:=kf hl;obtain⟨g,hg⟩:=h4 _ e;injection hg with e1 e2;subst e1 e2;exact⟨b,e,h0,by simpa using hc⟩
 have D4:=aa (Om hsrt hpl);have K6:Hid (∀r∈hs.map back,runeB r=true):=λr hr=>by
  obtain⟨y,hy,rfl⟩:=yH.1 hr;exact (gL (hpl y hy)).1
 have H0:=aa hpl;have B5:=aa hcov;have HA:=aa hA;have M5:=aa v2;have N0:=aa u4;have N2:=aa w9;have K8:=aa B4;have I7:=aa v1;have F9:=aa m0;obtain⟨a0,a1,a2,a3,a4,a5⟩:=l5.six;obtain⟨b0,b1,b2,b3,b4,b5⟩:=k3.six;have G7:=l5.lt;have H6:=k3.lt;have K4:W1.cell? ⟨w.heap.size,5,none⟩=some (.string sa):=(l5.below g6).cell 5;have G4:W1.cell? ⟨w.heap.size+1,5,none⟩=some (.string sb):=(k3.below g6).cell 5;have D7:w.heap.size<W1.heap.size:=(l5.below g6).lt;have B7:w.heap.size+1<W1.heap.size:=(k3.below g6).lt;have u3:¬9223372036854775807<sa.size+1:=by omega
 have u0:¬9223372036854775807<sa.size+1+sb.size:=by omega
 clear B4 s9 l5 k3 v2 v1 g6 i0 u4 m0 s0 w9 B q4 G2 J5 hva hvb oa ob za zb tla tlb hl hsrt hpl hcov hA h7;obtain⟨i9,H3,A6,A1,B9⟩:=zz AA;obtain⟨i3,K1,x6,E9,B8⟩:=zz Hi;go_enter func16,ntmps16;go_upto_region 1 with fail;rw[K8.out];generalize hS:w.heap.size=S at *;go_upto_region 2 with fail;rw[I7.out];clear a0 a1 a2 a3 a4 a5 b0 b1 b2 b3 b4 b5;go_wp2_with fail;rw[F9.out];clear K4 G4 u3 u0 G7 H6 D7 B7
 go_loopw [10,11,12] (λnv sv iv wr=>∃(n:Nat) (l0:Option Addr) (o5:Nat) (q:List Stp) (xs:List Value) (ks:List (List UInt8)),nv=.slice l0 q.length o5/\iv=.int .i64 n/\n<=N+1/\Mem S A w wr l0 q xs (.slice none 0 0) [] [] sv ks/\(n<=N->Lv (dG ta.L tb.L) N n (q.map (·.u))/\(∀s∈q,StG ta.L tb.L n s)/\eE ta.L tb.L (λo=>o.length<=n) ks/\q.length<=721 ^ n/\ks.length<=(n+1)*400000000)/\(n=N+1->∀s,ef s->s.length<=N->¬dG ta.L tb.L s)) (λ_ _ iv _=>N+1-(intOf iv).toNat)
 case atStart=>exact⟨0,some ⟨W0.heap.size,0,none⟩,1,[⟨ta,tb,[]⟩],_,[ta.key++47::tb.key],rfl,rfl,zW _,F1,λ_=>⟨Lv.start,λs h=>(by simp at h;subst h;exact A4),C2,by simp,by simp⟩,λh=>(by omega)⟩
 case round=>
  obtain⟨n,l0,o5,q,xs,ks,rfl,rfl,L9,hm,D1,o2⟩:=hrel;have J:=aa hm;have E2:=aa D1;have o0:=aa o2;have n1:(0:Int)<=(n:Int):=zK _;clear hm D1 o2;by_cases u9:n<=N
  ·have n2:(n:Int)<=(N:Int):=by omega
   obtain⟨A8,B1,B3,q7,D6⟩:=E2.out u9;have e5:=aa A8;have A5:=aa B1;have J8:=aa B3;have N8:(q.length:Int)<=374805361:=Int.ofNat_le.2 (zJ q7 (zJ (Nat.pow_le_pow_right (by decide) (show n<=3 by omega)) (Nat.le_of_ble_eq_true rfl)));have p1:=aa q7;have E4:=aa D6;clear A8 B1 B3 q7 D6 E2 o0;obtain⟨V,hV⟩:∃V,wr=V:=⟨_,rfl⟩;rw[hV]at J ⊢;clear hV;have p8:S<=V.heap.size:=J.size (by omega);go_wp2_with fail
   go_loopw [14] (λiv wr=>∃i:Nat,iv=.int .i64 i/\i<=q.length/\(∀x∈(q.map (·.u)).take i,¬dG ta.L tb.L x)/\Below V.heap.size V wr) (λiv _=>q.length-(intOf iv).toNat)
   case atStart=>exact⟨0,rfl,zW _,λx h=>(by simp at h),zE _ _⟩
   case round=>
    obtain⟨i,rfl,I2,C1,o1⟩:=hrel;have i4:=aa C1;have i8:=aa o1;have i1:(0:Int)<=(i:Int):=zK _;clear C1 o1;by_cases j0:i<q.length
    ·have i2:(i:Int)<(q.length:Int):=by omega
     obtain⟨s,hs⟩:∃s,q[i]?=some s:=⟨_,zB j0⟩;obtain⟨b,a9,cc,rfl,p9,h0,q5,hc⟩:=J.out.now.step J.out.nowt hs;obtain⟨ca,cb,D,rfl,hva,hvb,e3⟩:=q5;obtain⟨p7,v3,o9,u5,q0,q6,mx,nx,sx,rfl,_⟩:=hva.form;obtain⟨s5,o7,t0,p3,p4,u8,my,ny,sy,rfl,_⟩:=hvb.form;obtain⟨y0,y1,y2,y3,y4,y5,y6,y7,y8,y9,t3,t5,p0⟩:=SS i8.out h0 hc;have H1:=aa hc;have I5:b<wr.heap.size:=zF h0 i8.size;have HG:Hid (StG ta.L tb.L n s):=A5.out s (zU hs);have L5:=Jt n (by omega);have E3:=aa (iR s.a wr _ _ _ _ _ _ _ _ _ _ (aj.below i8 _ _ hva) HG.oa (by have:=HG.ta;omega));have E8:=aa (aj.below i8 _ _ hvb);have o3:=aa e3;have i7:=aa hs;clear hc hva hvb e3 hs p9;go_wp2_with fail;refine E3.mono ?_;rintro e O ⟨v5,rfl,B0,e8⟩;have F7:=aa B0;have x8:Hid (Below V.heap.size V O):=bL i8 e8;have A9:=aa (iR s.b O _ _ _ _ _ _ _ _ _ _ (aj.below e8 _ _ E8) HG.ob (by have:=HG.tb;omega));obtain⟨z0,z1,z2,z3,z4,z5,z6,z7,z8,z9,C7,E6,x0⟩:=SS x8.out h0 H1.out;have o6:b<O.heap.size:=zF I5 e8.size;clear B0 e8 E3 E8 y0 y1 y2 y3 y4 y5 y6 y7 y8 y9 t3 t5 p0;go_wp2_with fail;refine A9.mono ?_;rintro e w6 ⟨v6,rfl,u1,c7⟩;have M0:=aa u1;have m4:Hid (Below V.heap.size V w6):=bL x8 c7;have L6:w6.cell? ⟨b,a9+i*13+12,none⟩=some (.string D):=(c7.cell (p:=⟨b,_,none⟩) o6).trans x0;have L2:b<w6.heap.size:=zF o6 c7.size;have m9:Hid (dG ta.L tb.L s.u↔v5≠v6):=by
      show _↔_
      have e1:s.a.L []↔ta.L s.u:=by rw[HG.out.la];unfold rM;rw[zx]
      have e2:s.b.L []↔tb.L s.u:=by rw[HG.out.lb];unfold rM;rw[zx]
      unfold dG;rw[<-e1,<-e2,<-F7.out,<-u1];cases v5<;>cases v6<;>simp
     clear u1 c7 A9 z0 z1 z2 z3 z4 z5 z6 z7 z8 z9 C7 E6 x0;cases v5 with
     |true=>
      cases v6 with
      |true=>
       have j9:Hid (¬dG ta.L tb.L s.u):=λh=>m9.1 h rfl;have i5:Hid ((q.map (·.u)).take (i+1)=(q.map (·.u)).take i++[s.u]):=by show _=_;rw[zi,zg,i7.out];rfl
       go_wp2_with fail
       go_roundw
       case rel=>exact⟨i+1,by go_num,by omega,by rw[i5.out];intro x hx;rcases zM.1 hx with hx|hx;exact i4 x hx;simp at hx;subst hx;exact j9,m4⟩
       case measure=>simp[intOf];omega
      |false=>
       have HD:Hid (dG ta.L tb.L s.u):=m9.2 (by simp);have t6:Hid (gZ (dG ta.L tb.L) N D true):=.inl ⟨s.u,e5.found u9 (by rw[zg,i7.out];rfl) HD i4,EE (by rw[o3.out,EF HG.out.vl]),rfl⟩;go_wp2_with fail
       go_ret2
       exact⟨⟨D,true,rfl,t6⟩,by rw[hS];exact J.bel.trans (m4.mono p8)⟩
     |false=>
      cases v6 with
      |true=>
       have HD:Hid (dG ta.L tb.L s.u):=m9.2 (by simp);have t6:Hid (gZ (dG ta.L tb.L) N D true):=.inl ⟨s.u,e5.found u9 (by rw[zg,i7.out];rfl) HD i4,EE (by rw[o3.out,EF HG.out.vl]),rfl⟩;go_wp2_with fail
       go_ret2
       exact⟨⟨D,true,rfl,t6⟩,by rw[hS];exact J.bel.trans (m4.mono p8)⟩
      |false=>
       have j9:Hid (¬dG ta.L tb.L s.u):=λh=>m9.1 h rfl;have i5:Hid ((q.map (·.u)).take (i+1)=(q.map (·.u)).take i++[s.u]):=by show _=_;rw[zi,zg,i7.out];rfl
       go_wp2_with fail
       go_roundw
       case rel=>exact⟨i+1,by go_num,by omega,by rw[i5.out];intro x hx;rcases zM.1 hx with hx|hx;exact i4 x hx;simp at hx;subst hx;exact j9,m4⟩
       case measure=>simp[intOf];omega
    ·have i2:decide ((i:Int)<(q.length:Int))=false:=zI (by omega);obtain rfl:i=q.length:=by omega
     have k6:Hid (∀x∈q.map (·.u),¬dG ta.L tb.L x):=by have:=i4.out;rwa [yF (by simp)]at this
     have E0:=aa (J.below i8 p8);clear J i4;go_wp2_with fail
     go_loopw [11,13,17] (λsv nv iv wr=>∃(i:Nat) (H:Option Addr) (l:Nat) (d:List Stp) (ys:List Value) (ks:List (List UInt8)),nv=.slice H d.length l/\iv=.int .i64 i/\i<=q.length/\(n=N->i=0)/\Mem S A w wr l0 q xs nv d ys sv ks/\Nx (dG ta.L tb.L) (q.map (·.u)) (hs.map back) i 0 (d.map (·.u))/\(∀s∈d,StG ta.L tb.L (n+1) s)/\eE ta.L tb.L (λo=>o.length<=n\/kW (q.map (·.u)) (hs.map back) i 0 o) ks/\d.length<=i*721/\ks.length<=(n+1)*400000000+i*721) (λ_ _ iv _=>q.length-(intOf iv).toNat)
     case atStart=>exact⟨0,none,0,[],[],ks,rfl,rfl,zW _,λ_=>rfl,E0,Nx.start,λs h=>(by simp at h),J8.more λo h=>.inl h,by simp,zJ E4 (Nat.le_add_right _ _)⟩
     case round=>
      clear E0;obtain⟨i,H,l,d,ys,ks,rfl,rfl,I2,G5,hm,j7,e7,g4,k5,e4⟩:=hrel;have J:=aa hm;have g8:=aa j7;have Z:=aa e7;have U:=aa g4;have e6:=aa k5;have g5:=aa e4;have i1:(0:Int)<=(i:Int):=zK _;clear hm j7 e7 g4 k5 e4 i2;by_cases j0:i<q.length/\n<N
      ·obtain⟨j0,L3⟩:=j0;have i2:(i:Int)<(q.length:Int):=by omega
       have n3:(n:Int)<(N:Int):=by omega
       obtain⟨s,m5⟩:∃s,q[i]?=some s:=⟨_,zB j0⟩;have i7:=aa m5;have HG:Hid (StG ta.L tb.L n s):=A5.out s (zU m5);have g7:Hid ((q.map (·.u))[i]?=some s.u):=by show _=_;rw[zg,m5];rfl
       clear m5;go_wp2_with fail
       go_loopw [11,13,18] (λsv nv kv wr=>∃(k:Nat) (H:Option Addr) (l:Nat) (d:List Stp) (ys:List Value) (ks:List (List UInt8)),nv=.slice H d.length l/\kv=.int .i64 k/\k<=hs.length/\Mem S A w wr l0 q xs nv d ys sv ks/\Nx (dG ta.L tb.L) (q.map (·.u)) (hs.map back) i k (d.map (·.u))/\(∀s∈d,StG ta.L tb.L (n+1) s)/\eE ta.L tb.L (λo=>o.length<=n\/kW (q.map (·.u)) (hs.map back) i k o) ks/\d.length<=i*721+k/\ks.length<=(n+1)*400000000+i*721+k) (λ_ _ kv _=>hs.length-(intOf kv).toNat)
       case atStart=>exact⟨0,H,l,d,ys,ks,rfl,rfl,zW _,J,g8,Z,U,zJ e6 (Nat.le_add_right _ _),zJ g5 (Nat.le_add_right _ _)⟩
       case round=>
        clear J g8 Z U e6 g5;obtain⟨k,H,l,d,ys,ks,rfl,rfl,L1,hm,j7,e7,g4,k5,e4⟩:=hrel;obtain⟨g0,L,rfl⟩:=cd hm.seen;have J:=aa hm;have g8:=aa j7;have Z:=aa e7;have U:=aa g4;have e6:=aa k5;have g5:=aa e4;have k1:(0:Int)<=(k:Int):=zK _;clear hm j7 e7 g4 k5 e4;by_cases x3:k<hs.length
        ·have k2:(k:Int)<(hs.length:Int):=by omega
         obtain⟨c,m6⟩:∃c,hs[k]?=some c:=⟨_,zB x3⟩;have I9:=aa m6;have i6:Hid (place c):=H0.out c (zU m6);have l1:Hid ((hs.map back)[k]?=some (back c)):=by show _=_;rw[zg,m6];rfl
         clear m6;obtain⟨C,x5⟩:∃C,wr=C:=⟨_,rfl⟩;rw[x5]at J ⊢;clear x5;go_upto_region 20 with fail
         go_cut [19] (λv wx=>∃G t1 j8 l6 l3 l8 j5 k4 m1 n1 s1 t2 l7 k7 j4 l2 l4 j3 m2 n2 s2 st,v=.pointer (some ⟨G,0,none⟩)/\Hid (Lf C (KK S A (.slice H d.length l) (.slice g0 ks.length L)) s c wx G t1 j8 l6 l3 l8 j5 k4 m1 n1 s1 t2 l7 k7 j4 l2 l4 j3 m2 n2 s2 st))
         case first=>
          obtain⟨b,a9,cc,rfl,p9,h0,q5,hc⟩:=J.out.now.step J.out.nowt i7.out;obtain⟨ca,cb,D,rfl,hva,hvb,e3⟩:=q5;obtain⟨p7,v3,o9,u5,q0,q6,mx,nx,sx,rfl,_⟩:=hva.form;obtain⟨s5,o7,t0,p3,p4,u8,my,ny,sy,rfl,_⟩:=hvb.form;obtain⟨bl,rfl,C6,C9⟩:=J3.out k c C I9.out J.out.bel;obtain⟨A2,h6⟩:∃A2:Nat->Prop,A2=λg=>KK S A (.slice H d.length l) (.slice g0 ks.length L) g/\g<C.heap.size:=⟨_,rfl⟩;have t4:Hid (∀g,A2 g->g<C.heap.size):=λg h=>by rw[h6]at h;exact h.2
          have G3:Hid (∀g,KK S A (.slice H d.length l) (.slice g0 ks.length L) g->g<C.heap.size->A2 g):=λg h k=>by rw[h6];exact⟨h,k⟩
          have D3:Hid (∀g,A2 g->KK S A (.slice H d.length l) (.slice g0 ks.length L) g):=λg h=>by rw[h6]at h;exact h.1
          clear h6;have j6:Hid (∀w',Below C.heap.size C w'->(CT w' b (a9+i*13) s.a.kind p7 v3 o9 u5 q0 q6 mx nx sx/\CT w' b (a9+i*13+6) s.b.kind s5 o7 t0 p3 p4 u8 my ny sy/\w'.cell? ⟨b,a9+i*13+12,none⟩=some (.string D)/\w'.cell? ⟨bl,k,none⟩=some (.int .i64 c))):=λw' h=>by
           obtain⟨y0,y1,y2,y3,y4,y5,y6,y7,y8,y9,t3,t5,p0⟩:=SS h h0 hc;exact⟨⟨y0,y1,y2,y3,y4,y5⟩,⟨y6,y7,y8,y9,t3,t5⟩,p0,(h.cell (p:=⟨bl,k,none⟩) C6).trans C9⟩
          have q3:∀(u:Tm) soz snz scz loz lnz lcz mz nz sz,u.z<=lz n->u.tl<=Cw n->u.Ok->aj C (KK S A (.slice H d.length l) (.slice g0 ks.length L)) u (TC u.kind soz snz scz loz lnz lcz mz nz sz)->Hid (∀p E F,Stb C p F->Below p.heap.size p E->Calls prog 30 #[.agg #[.int .i64 u.kind,.slice soz snz scz,.slice loz lnz lcz,.int .i64 mz,.int .i64 nz,.string sz],.int .i64 c] E λe O=>∃t so sn sc lo ln lc mm nn st X Y,e=.returned (.agg #[.int .i64 (Tm.kind t),.slice so sn sc,.slice lo ln lc,.int .i64 mm,.int .i64 nn,.string st])/\Hid (Stb C O (λw'=>F w'/\aj w' (λg=>A2 g\/(X<g/\g<Y)) t (TC t.kind so sn sc lo ln lc mm nn st)))/\Hid (Gd (aX u.L (back c)) (bZ u.z) (u.z*u.tl) t)/\C.heap.size<=X/\p.heap.size<=X/\X<=Y/\Y<=O.heap.size/\C.heap.size<=O.heap.size/\Hid (Below E.heap.size E O)):=λu _ _ _ _ _ _ _ _ _ uz ut uo H7 p E F h hb=>by
           have x7:=bL h.bel hb;have h8:=x7.size;have h9:=Js n (by omega);refine (lH u E A2 _ _ _ _ _ _ _ _ _ c (λg hg=>by have:=t4.out g hg;omega) (aj.below x7 _ _ (aj.mono (λg hg K=>G3 g K hg) _ _ H7)) uo i6 (zJ (Nat.mul_le_mul uz ut) h9.1) (zJ (dY uz) h9.2)).mono ?_;rintro e O ⟨t,so,sn,sc,lo,ln,lc,mm,nn,st,rfl,g1,g2,g3⟩;refine⟨t,so,sn,sc,lo,ln,lc,mm,nn,st,E.heap.size,O.heap.size,rfl,?_,g2,h8,hb.size,g3.size,zA _,zJ h8 g3.size,g3⟩;exact ((h.go hb).go g3).and λw' k9=>aj.below k9 _ _ (aj.mono (λg hg K=>by rcases K with K|K;exact .inl K;exact .inr ⟨K,hg⟩) _ _ g1)
          have I4:=q3 s.a _ _ _ _ _ _ _ _ _ HG.za HG.ta HG.oa hva;have J7:=q3 s.b _ _ _ _ _ _ _ _ _ HG.zb HG.tb HG.ob hvb;clear q3;have H2:Hid (∀(p E:World) (F:World->Prop),Stb C p F->Below p.heap.size p E->Calls prog 31 #[.int .i64 (back c)] E λe O=>∃f,e=.returned (.string f)/\Hid (Stb C O F)/\Hid (af f=Lib.encodeRune (back c))/\f.size<=4/\p.heap.size<=O.heap.size/\C.heap.size<=O.heap.size/\Hid (Below E.heap.size E O)):=λp E F h hb=>by
           refine (QS (back c) E (gL i6).1).mono ?_;rintro e O ⟨f,rfl,g1,g2⟩;exact⟨f,rfl,(h.go hb).go g2,g1,by rw[<-aL,g1];exact RF (gL i6).1,zJ hb.size g2.size,zJ h.bel.size (zJ hb.size g2.size),g2⟩
          have J6:Hid (∀E:World,Calls prog 32 #[.int .i64 c] E λe w'=>e=.returned (.int .i64 (back c))/\w'=E):=λE=>FY c E i6.1 (by have:=i6.2;omega);have p6:Hid (∀O:World,Below (C.alloc (.cells xN.toArray 79)).drew.heap.size (C.alloc (.cells xN.toArray 79)).drew O->∃G,C.heap.size=G/\Hid (ag O G xN 79)/\C.heap.size<=G/\C.drew.heap.size<=G/\G<=C.drew.heap.size):=λO h=>⟨_,rfl,(ag.new C xN 79).below (ku h),zA _,zA _,zA _⟩;have s3:Hid (∀p O:World,Below (p.alloc (.cells xN.toArray 79)).heap.size (p.alloc (.cells xN.toArray 79)) O->C.heap.size<=p.heap.size->∃G,p.heap.size=G/\Hid (ag O G xN 79)/\C.heap.size<=G/\p.heap.size<=G/\G<=p.heap.size):=λp O h k9=>⟨_,rfl,(ag.new p xN 79).below h,k9,zA _,zA _⟩;have N4:D.size<=12:=by rw[<-aL,e3];have h1:=EI HG.vl;have h2:=HG.ln;omega
          have A7:Hid (∀f,af f=Lib.encodeRune (back c)->af (D++f)=enc (s.u++[back c])):=λf h=>by rw[cy,e3,h,SB]
          have F8:Hid (∀X7 Y7 X8 Y8 {wl F t7 c6 c9 e0 M b6 b7 m7 n7 s7 t8 c4 c8 c1 b8 c3 b9 m8 n8 s8 f},Stb C wl F->(∀w',F w'->aj w' (λg=>A2 g\/(X7<g/\g<Y7)) t7 (TC t7.kind c6 c9 e0 M b6 b7 m7 n7 s7))->(∀w',F w'->aj w' (λg=>A2 g\/(X8<g/\g<Y8)) t8 (TC t8.kind c4 c8 c1 b8 c3 b9 m8 n8 s8))->Gd (aX s.a.L (back c)) (bZ s.a.z) (s.a.z*s.a.tl) t7->Gd (aX s.b.L (back c)) (bZ s.b.z) (s.b.z*s.b.tl) t8->af f=Lib.encodeRune (back c)->C.heap.size<=X7->C.heap.size<=X8->Y7<=wl.heap.size->Y8<=wl.heap.size->Lf C (KK S A (.slice H d.length l) (.slice g0 ks.length L)) s c (wl.alloc (.cells #[.int .i64 t7.kind,.slice c6 c9 e0,.slice M b6 b7,.int .i64 m7,.int .i64 n7,.string s7,.int .i64 t8.kind,.slice c4 c8 c1,.slice b8 c3 b9,.int .i64 m8,.int .i64 n8,.string s8,.string (D++f)] 79)) wl.heap.size t7 c6 c9 e0 M b6 b7 m7 n7 s7 t8 c4 c8 c1 b8 c3 b9 m8 n8 s8 (D++f)):=by
           intro X7 Y7 X8 Y8 wl F t7 _ _ _ _ _ _ _ _ _ t8 _ _ _ _ _ _ _ _ _ f h e1 e2 g1 g2 e8 x1 x2 y1 y2;have hw:=h.all wl (zE _ _);have h8:=h.bel.size;refine⟨ag.new wl _ 79,h8,aj.below (fB (zE _ _) _) _ _ (aj.mono (λg hg K=>?_) _ _ (e1 wl hw)),aj.below (fB (zE _ _) _) _ _ (aj.mono (λg hg K=>?_) _ _ (e2 wl hw)),g1,g2,A7 f e8,fB h.bel _⟩<;>rcases K with K|K
           all_goals first|exact⟨.inl (D3 g K),by have:=t4.out g K;omega⟩|exact⟨.inr (by omega),by omega⟩
          have I1:Hid (∀X7 Y7 X8 Y8 {G wl F t7 c6 c9 e0 M b6 b7 m7 n7 s7 t8 c4 c8 c1 b8 c3 b9 m8 n8 s8 f},Stb C wl F->(∀w',F w'->aj w' (λg=>A2 g\/(X7<g/\g<Y7)) t7 (TC t7.kind c6 c9 e0 M b6 b7 m7 n7 s7))->(∀w',F w'->aj w' (λg=>A2 g\/(X8<g/\g<Y8)) t8 (TC t8.kind c4 c8 c1 b8 c3 b9 m8 n8 s8))->Gd (aX s.a.L (back c)) (bZ s.a.z) (s.a.z*s.a.tl) t7->Gd (aX s.b.L (back c)) (bZ s.b.z) (s.b.z*s.b.tl) t8->af f=Lib.encodeRune (back c)->C.heap.size<=X7->C.heap.size<=X8->ag wl G xN 79->C.heap.size<=G->(G<=X7\/Y7<=G)->(G<=X8\/Y8<=G)->Lf C (KK S A (.slice H d.length l) (.slice g0 ks.length L)) s c (UC wl G (.int .i64 t7.kind) (.slice c6 c9 e0) (.slice M b6 b7) (.int .i64 m7) (.int .i64 n7) (.string s7) (.int .i64 t8.kind) (.slice c4 c8 c1) (.slice b8 c3 b9) (.int .i64 m8) (.int .i64 n8) (.string s8) (.string (D++f))) G t7 c6 c9 e0 M b6 b7 m7 n7 s7 t8 c4 c8 c1 b8 c3 b9 m8 n8 s8 (D++f)):=by
           intro X7 Y7 X8 Y8 G wl F t7 _ _ _ _ _ _ _ _ _ t8 _ _ _ _ _ _ _ _ _ f h e1 e2 g1 g2 e8 x1 x2 H9 c2 y1 y2;have hw:=h.all wl (zE _ _);refine⟨H9.thirteen _ _ _ _ _ _ _ _ _ _ _ _ _,c2,Jg (aj.mono (λg hg K=>?_) _ _ (e1 wl hw)) (λK=>K.2 rfl) _ _ _ _ _ _ _ _ _ _ _ _ _,Jg (aj.mono (λg hg K=>?_) _ _ (e2 wl hw)) (λK=>K.2 rfl) _ _ _ _ _ _ _ _ _ _ _ _ _,g1,g2,A7 f e8,xO h.bel c2 _ _ _ _ _ _ _ _ _ _ _ _ _⟩<;>rcases K with K|K
           all_goals first|exact⟨.inl (D3 g K),by have:=t4.out g K;omega⟩|exact⟨.inr (by omega),by omega⟩
          have HS:=aa (Stb.start C);have J9:=aa (j6 C.drew (jw C));have M9:C.heap.size<=C.drew.heap.size:=zA _;clear hc hva hvb e3 C9 p9
          go_region_held3 (λw'=>CT w' b (a9+i*13) s.a.kind p7 v3 o9 u5 q0 q6 mx nx sx/\CT w' b (a9+i*13+6) s.b.kind s5 o7 t0 p3 p4 u8 my ny sy/\w'.cell? ⟨b,a9+i*13+12,none⟩=some (.string D)/\w'.cell? ⟨bl,k,none⟩=some (.int .i64 c))
           (first|with_reducible exact J9.out|with_reducible exact j6.out _ HS.out.bel|with_reducible exact j6.out _ (fB HS.out.bel _)|with_reducible exact j6.out _ (xO HS.out.bel c2 _ _ _ _ _ _ _ _ _ _ _ _ _)|with_reducible exact j6.out _ (OB (zE _ _) _)|fail)
           (first
            |(go_at_call 30;with_reducible refine (I4.out _ _ _ HS.out (by first|with_reducible exact zE _ _|with_reducible exact fB (zE _ _) _|with_reducible exact EH _ _)).mono ?_;rintro e wa ⟨t7,c6,c9,e0,M,b6,b7,m7,n7,s7,X7,Y7,rfl,HS,w1,E7,N3,M1,M4,q8,HD⟩;(first|(clear r0 r1 r2 r3 r4 r5 r6 r7 r8 r9 Q W a7 f0 f1 f2 f3 f4 f5 f6 f7 f8 f9 T R a6 a8;with_reducible have a:=aa (a.out.below HD.out);obtain⟨r0,r1,r2,r3,r4,r5,r6,r7,r8,r9,Q,W,a7⟩:=a.out.c13;obtain⟨f0,f1,f2,f3,f4,f5,f6,f7,f8,f9,T,R,a6,a8⟩:=a.out.f13)|(with_reducible obtain⟨G,B,a,c2,q1,q2⟩:=p6.out _ HD.out;rw[B];clear B;obtain⟨r0,r1,r2,r3,r4,r5,r6,r7,r8,r9,Q,W,a7⟩:=a.out.c13;obtain⟨f0,f1,f2,f3,f4,f5,f6,f7,f8,f9,T,R,a6,a8⟩:=a.out.f13)|(with_reducible obtain⟨G,B,a,c2,q1,q2⟩:=s3.out _ _ HD.out (by first|with_reducible exact q8|with_reducible exact s4|with_reducible exact q9);rw[B];clear B;obtain⟨r0,r1,r2,r3,r4,r5,r6,r7,r8,r9,Q,W,a7⟩:=a.out.c13;obtain⟨f0,f1,f2,f3,f4,f5,f6,f7,f8,f9,T,R,a6,a8⟩:=a.out.f13)|skip))
            |(go_at_call 30;with_reducible refine (J7.out _ _ _ HS.out (by first|with_reducible exact zE _ _|with_reducible exact fB (zE _ _) _|with_reducible exact EH _ _)).mono ?_;rintro e wb ⟨t8,c4,c8,c1,b8,c3,b9,m8,n8,s8,X8,Y8,rfl,HS,D5,C4,M3,N6,M2,s4,HD⟩;(first|(clear r0 r1 r2 r3 r4 r5 r6 r7 r8 r9 Q W a7 f0 f1 f2 f3 f4 f5 f6 f7 f8 f9 T R a6 a8;with_reducible have a:=aa (a.out.below HD.out);obtain⟨r0,r1,r2,r3,r4,r5,r6,r7,r8,r9,Q,W,a7⟩:=a.out.c13;obtain⟨f0,f1,f2,f3,f4,f5,f6,f7,f8,f9,T,R,a6,a8⟩:=a.out.f13)|(with_reducible obtain⟨G,B,a,c2,q1,q2⟩:=p6.out _ HD.out;rw[B];clear B;obtain⟨r0,r1,r2,r3,r4,r5,r6,r7,r8,r9,Q,W,a7⟩:=a.out.c13;obtain⟨f0,f1,f2,f3,f4,f5,f6,f7,f8,f9,T,R,a6,a8⟩:=a.out.f13)|(with_reducible obtain⟨G,B,a,c2,q1,q2⟩:=s3.out _ _ HD.out (by first|with_reducible exact q8|with_reducible exact s4|with_reducible exact q9);rw[B];clear B;obtain⟨r0,r1,r2,r3,r4,r5,r6,r7,r8,r9,Q,W,a7⟩:=a.out.c13;obtain⟨f0,f1,f2,f3,f4,f5,f6,f7,f8,f9,T,R,a6,a8⟩:=a.out.f13)|skip))
            |(go_at_call 32;with_reducible refine (J6.out _).mono ?_;rintro e w8 ⟨rfl,rfl⟩)
            |(go_at_call 31;with_reducible refine (H2.out _ _ _ HS.out (by first|with_reducible exact zE _ _|with_reducible exact fB (zE _ _) _|with_reducible exact EH _ _)).mono ?_;rintro e wt ⟨f,rfl,HS,A0,zt,pt,q9,HD⟩;have z8:D.size+f.size<=9223372036854775807:=(by omega);have z9:=λw=>run_string_add_sum (P:=prog) (w:=w) D f z8;have C7:decide (9223372036854775807<D.size+f.size)=false:=zI (by omega);have E6:(9223372036854775807<D.size+f.size)=False:=eq_false (by omega);(first|(clear r0 r1 r2 r3 r4 r5 r6 r7 r8 r9 Q W a7 f0 f1 f2 f3 f4 f5 f6 f7 f8 f9 T R a6 a8;with_reducible have a:=aa (a.out.below HD.out);obtain⟨r0,r1,r2,r3,r4,r5,r6,r7,r8,r9,Q,W,a7⟩:=a.out.c13;obtain⟨f0,f1,f2,f3,f4,f5,f6,f7,f8,f9,T,R,a6,a8⟩:=a.out.f13)|(with_reducible obtain⟨G,B,a,c2,q1,q2⟩:=p6.out _ HD.out;rw[B];clear B;obtain⟨r0,r1,r2,r3,r4,r5,r6,r7,r8,r9,Q,W,a7⟩:=a.out.c13;obtain⟨f0,f1,f2,f3,f4,f5,f6,f7,f8,f9,T,R,a6,a8⟩:=a.out.f13)|(with_reducible obtain⟨G,B,a,c2,q1,q2⟩:=s3.out _ _ HD.out (by first|with_reducible exact q8|with_reducible exact s4|with_reducible exact q9);rw[B];clear B;obtain⟨r0,r1,r2,r3,r4,r5,r6,r7,r8,r9,Q,W,a7⟩:=a.out.c13;obtain⟨f0,f1,f2,f3,f4,f5,f6,f7,f8,f9,T,R,a6,a8⟩:=a.out.f13)|skip))
            |fail)
          all_goals go_wp2_with fail
          all_goals go_meet
          all_goals first
           |exact⟨G,t7,c6,c9,e0,M,b6,b7,m7,n7,s7,t8,c4,c8,c1,b8,c3,b9,m8,n8,s8,D++f,rfl,I1 X7 Y7 X8 Y8 HS (λw' h=>by first|exact h.2|exact h.1.2) (λw' h=>by first|exact h.2|exact h.1.2) w1 D5 A0 E7 C4 a c2 (by omega) (by omega)⟩
           |exact⟨_,t7,c6,c9,e0,M,b6,b7,m7,n7,s7,t8,c4,c8,c1,b8,c3,b9,m8,n8,s8,D++f,rfl,F8 X7 Y7 X8 Y8 HS (λw' h=>by first|exact h.2|exact h.1.2) (λw' h=>by first|exact h.2|exact h.1.2) w1 D5 A0 E7 C4 (by omega) (by omega)⟩
         case rest=>
          obtain⟨G,t1,j8,l6,l3,l8,j5,k4,m1,u7,s1,t2,l7,k7,j4,l2,l4,j3,m2,u2,s2,st,rfl,I⟩:=hcut;have h3:Hid (StG ta.L tb.L (n+1) ⟨t1,t2,s.u++[back c]⟩):=HG.step i6 I.2.2.2.2.1 I.2.2.2.2.2.1;have a:=aa I.1;have B6:Hid (Below C.heap.size C wc):=I.2.2.2.2.2.2.2;have h5:S<=C.heap.size:=J.size (by omega);have m3:=aa (J.below B6 h5);have i0:af s1=t1.key:=qj I.2.2.1;have v0:af s2=t2.key:=qj I.2.2.2.1;have u3:=qE i0 h3.oa;have u0:=qE v0 h3.ob;have J0:t1.tl<=Cw (n+1):=h3.ta;have H8:t2.tl<=Cw (n+1):=h3.tb;have I0:=Jt (n+1) (by omega);have F3:¬9223372036854775807<s1.size+1:=by omega
          have F6:¬9223372036854775807<s1.size+1+s2.size:=by omega
          have c5:wc.cell? ⟨G,5,none⟩=some (.string s1):=a.cell 5;have J4:wc.cell? ⟨G,11,none⟩=some (.string s2):=a.cell 11;have K9:G<wc.heap.size:=a.lt;have A3:=aa (Jf i0 v0);have s6:i<=519841:=zJ (yJ j0) (EG p1 (by omega));have L7:=YA g5 (by omega) s6 (by omega);have L8:=YB e6 s6 (by omega);clear i0 v0 u3 u0 J0 H8 I0 s6;go_wp2_with fail;clear F3 F6 c5 J4;rw[A3.out];obtain⟨KY,t9⟩:∃KY,t1.key++47::t2.key=KY:=⟨_,rfl⟩;rw[t9];have x9:=aa t9;clear t9 A3
          go_loopw [21,22] (λbv jv wz=>∃(j:Nat) (bo:Bool),bv=.bool bo/\jv=.int .i64 j/\j<=ks.length/\(bo=true↔KY∈ks.take j)/\wz=wc) (λ_ jv _=>ks.length-(intOf jv).toNat)
          case atStart=>exact⟨0,false,rfl,rfl,zW _,⟨λh=>(by cases h),λh=>by simp at h⟩,rfl⟩
          case round=>
           obtain⟨j,bo,rfl,rfl,M7,v9,p5⟩:=hrel;have n4:=aa v9;have j1:(0:Int)<=(j:Int):=zK _;replace p5:=p5.symm;subst p5;clear v9;by_cases D8:j<ks.length
           ·have j2:(j:Int)<(ks.length:Int):=by omega
            obtain⟨z,hz⟩:∃z,ks[j]?=some z:=⟨_,zB D8⟩;obtain⟨bs,a9,rfl,_,N1,hc⟩:=(iQ m3.out.seen) j (.string ⟨z.toArray⟩) (by unfold qZ;rw[zg,hz];rfl);obtain⟨_,_,h4⟩:=kf m3.out.seen;obtain⟨g9,I3⟩:=h4 _ rfl;injection I3 with e1 e2;subst e1 e2;have c0:wc.cell? ⟨bs,j,none⟩=some (.string ⟨z.toArray⟩):=by simpa using hc
            have i5:Hid (ks.take (j+1)=ks.take j++[z]):=by show _=_;rw[zi,hz];rfl
            clear hz hc h4;cases bo with
            |true=>
             go_wp2_with fail
             go_roundw
             case rel=>exact⟨j+1,true,rfl,by go_num,by omega,⟨λ_=>by rw[i5.out];exact yq _ (n4.1 rfl),λ_=>rfl⟩,trivial⟩
             case measure=>simp[intOf];omega
            |false=>
             go_wp2_with fail
             go_roundw
             case rel=>exact⟨j+1,_,rfl,by go_num,by omega,by
              rw[i5.out];constructor
              ·intro h;have e9:z=KY:=JI (by simpa using h);rw[e9];simp
              ·intro h;rcases zM.1 h with h|h
               ·have:=n4.2 h;cases this
               ·simp at h;subst h;simp,trivial⟩
             case measure=>simp[intOf];omega
           ·have j2:decide ((j:Int)<(ks.length:Int))=false:=zI (by omega);obtain rfl:j=ks.length:=by omega
            have w0:Hid (bo=true↔KY∈ks):=by have:=n4.out;rw[zQ]at this;exact this
            have K3:Hid (∀o,(o.length<=n\/kW (q.map (·.u)) (hs.map back) i k o)->bY o (s.u++[back c])=true):=λo h=>by
             rcases h with h|h
             ·rw[fI];left;rw[zH,HG.out.ln];exact Nat.lt_succ_of_le h
             ·exact GN e5 D4 g7 l1 h
            have D0:Hid (eE ta.L tb.L (λo=>o.length<=n\/kW (q.map (·.u)) (hs.map back) i (k+1) o) ks):=U.more λo h=>by
             rcases h with h|h
             ·exact .inl h
             ·exact .inr ((lK g7 l1).2 (.inl h))
            clear n4;cases bo with
            |true=>
             have J1:Hid (DS (dG ta.L tb.L) (s.u++[back c])):=eE.dead (s:=⟨t1,t2,s.u++[back c]⟩) U h3 (by show t1.key++47::t2.key∈ks;rw[x9.out];exact w0.1 rfl) K3;have j9:=aa (g8.drop g7 l1 J1);go_wp2_with fail
             go_roundw
             case rel=>exact⟨k+1,H,l,d,ys,ks,rfl,by go_num,by omega,m3,j9,Z,D0,zJ e6 (yN _),zJ g5 (yN _)⟩
             case measure=>simp[intOf];omega
            |false=>
             have F2:=aa (g8.keep e5 D4 g7 l1);have H4:Hid (eE ta.L tb.L (λo=>o.length<=n\/kW (q.map (·.u)) (hs.map back) i (k+1) o) (ks++[KY])):=by
              show eE _ _ _ _
              rw[<-x9.out];exact eE.add (s:=⟨t1,t2,s.u++[back c]⟩) D0 h3 (.inr ((lK g7 l1).2 (.inr rfl)))
             obtain⟨U3,w3,k8,u6,-⟩:=dS (rfl:wc.heap.size=_) [.string ⟨KY.toArray⟩] 9;replace k8:Below _ _ U3:=k8;replace u6:=aa u6;have J2:=aa w3;have x4:S<=wc.heap.size:=zJ h5 B6.size;have v8:=aa (m3.below k8 x4);have D9:S<=U3.heap.size:=zJ x4 k8.size;have C3:=aa k8;have K7:=aa (a.below k8);have I6:Hid (some G≠Value.ownBlock (.slice g0 ks.length L)):=λe=>by
              have h1:=(J.seen.lt G e.symm).2;have h2:=I.2.1;omega
             clear w3 k8;go_upto_region 29 with (at_builtin;rw[J2.out];refine jg rfl (.tmp 140) (.tmp 142) 81 9 i9 _ 1 16 rfl underlying81 H3 A6 A1 B9 rfl (by decide) S ks.length _ _ rfl v8.seen _ 1 _ [.string ⟨KY.toArray⟩] rfl rfl (by decide) (λj u hj=>by rw[zl,zf,u6.out.cell];exact hj) (λu hu=>by simp at hu;subst hu;rfl) (by unfold maxLen;omega) (by omega) D9 ?_;intro v4 w4 l9 o4 n9;have HF:=aa (And.intro l9 (And.intro o4 n9));clear l9 o4 n9);have C5:=aa (v8.name HF.1 HF.2.1 HF.2.2 D9);have C0:=aa (K7.grown HF.2.1 I6);have G0:=aa (Oo I.2.2.1 C3 HF.2.1 HF.2.2 (λg e=>(J.nx.lt g e).2) (λg e=>(J.seen.lt g e).2) h5);have I8:=aa (Oo I.2.2.2.1 C3 HF.2.1 HF.2.2 (λg e=>(J.nx.lt g e).2) (λg e=>(J.seen.lt g e).2) h5);obtain⟨G8,C8,rfl⟩:=cd HF.out.1;have L0:G<w4.heap.size:=C0.lt;obtain⟨d0,d1,d2,d3,d4,d5,d6,d7,d8,d9,N5,M8,L4⟩:=C0.out.c13;obtain⟨U6,B2,c7,p2,-⟩:=dS (rfl:w4.heap.size=_) [.int .i64 t1.kind,.slice j8 l6 l3,.slice l8 j5 k4,.int .i64 m1,.int .i64 u7,.string s1,.int .i64 t2.kind,.slice l7 k7 j4,.slice l2 l4 j3,.int .i64 m2,.int .i64 u2,.string s2,.string st] 79;replace c7:Below _ _ U6:=c7;replace p2:=aa p2;have G6:=aa B2;have E1:S<=w4.heap.size:=C5.size (by omega);have D2:=aa (C5.below c7 E1);have w2:S<=U6.heap.size:=zJ E1 c7.size;have E5:Hid (oL U6 (KK S A (.slice H d.length l) (.slice G8 (ks.length+1) C8)) ⟨t1,t2,s.u++[back c]⟩ (TC t1.kind j8 l6 l3 l8 j5 k4 m1 u7 s1++TC t2.kind l7 k7 j4 l2 l4 j3 m2 u2 s2++[.string st])):=⟨_,_,st,rfl,aj.below c7 _ _ G0,aj.below c7 _ _ I8,I.2.2.2.2.2.2.1⟩;clear B2 c7;go_wp2_with (at_builtin;rw[G6.out];refine jg rfl (.tmp 144) (.tmp 146) 80 79 i3 _ 13 192 rfl underlying80 K1 x6 E9 B8 rfl (by decide) S d.length _ _ rfl D2.nx _ 1 _ (TC t1.kind j8 l6 l3 l8 j5 k4 m1 u7 s1++TC t2.kind l7 k7 j4 l2 l4 j3 m2 u2 s2++[.string st]) rfl rfl (by decide) (λj u hj=>by rw[zl,zf,p2.out.cell];exact hj) (eY.ones (eY.one E5)) (by unfold maxLen;omega) (by omega) w2 ?_;intro v7 w7 k0 n6 n5;have n0:=aa (And.intro k0 (And.intro n6 n5));clear k0 n6 n5);have K5:=aa (D2.step n0.1 n0.2.1 n0.2.2 w2 E5);obtain⟨M,F0,rfl⟩:=cd n0.out.1
             go_roundw
             case rel=>exact⟨k+1,M,F0,d++[⟨t1,t2,s.u++[back c]⟩],_,ks++[KY],by simp,by go_num,by omega,K5,by simpa using F2,λs' F4=>(by rcases zM.1 F4 with h|h;exact Z s' h;simp at h;subst h;exact h3),H4,by rw[zH];exact Nat.succ_le_succ e6,by rw[zH];exact Nat.succ_le_succ g5⟩
             case measure=>simp[intOf];omega
        ·have k2:decide ((k:Int)<(hs.length:Int))=false:=zI (by omega);obtain rfl:k=hs.length:=by omega
         have H5:Hid (Nx (dG ta.L tb.L) (q.map (·.u)) (hs.map back) (i+1) 0 (d.map (·.u))):=by
          have h1:=g8.out;have e:hs.length=(hs.map back).length:=by simp
          rw[e]at h1;exact h1.next g7
         have K2:Hid (eE ta.L tb.L (λo=>o.length<=n\/kW (q.map (·.u)) (hs.map back) (i+1) 0 o) ks):=U.more λo h=>by
          rcases h with h|h
          ·exact .inl h
          ·exact .inr ((xi g7).2 (by rw[ym];exact h))
         go_wp2_with fail
         go_roundw
         case rel=>exact⟨i+1,H,l,d,ys,ks,rfl,by go_num,by omega,λh=>(by omega),J,H5,Z,K2,Vl e6 hlen,Vm g5 hlen⟩
         case measure=>simp[intOf];omega
      ·by_cases N7:i<q.length
       ·have i2:(i:Int)<(q.length:Int):=by omega
        have n3:decide ((n:Int)<(N:Int))=false:=zI (by omega);obtain rfl:n=N:=by omega
        have o8:=aa (e5.none k6);obtain rfl:i=0:=G5 rfl;have HT:=aa J.turn;go_wp2_with fail
        go_roundw
        case rel=>exact⟨n+1,H,l,d,ys,ks,rfl,by go_num,by omega,HT,λh=>(by omega),λ_=>o8⟩
        case measure=>simp[intOf]
       ·have i2:decide ((i:Int)<(q.length:Int))=false:=zI (by omega);obtain rfl:i=q.length:=by omega
        have HT:=aa J.turn;have F5:Hid (n=N->∀s,ef s->s.length<=N->¬dG ta.L tb.L s):=λe=>by subst e;exact e5.none k6
        have G9:Hid (n<N->Lv (dG ta.L tb.L) N (n+1) (d.map (·.u))):=λh=>by
         have h1:=g8.out;have e:q.length=(q.map (·.u)).length:=by simp
         rw[e]at h1;exact h1.done e5 k6 K6 B5
        have G1:Hid (eE ta.L tb.L (λo=>o.length<=n+1) ks):=U.more λo h=>by
         rcases h with h|h
         ·exact Nat.le_succ_of_le h
         ·rcases h with⟨x,h1,r,_,rfl⟩|⟨x,_,r,h2,_⟩
          ·rw[zH,e5.out.len x (yi h1)];exact zA _
          ·simp at h2
        go_wp2_with fail
        go_roundw
        case rel=>exact⟨n+1,H,l,d,ys,ks,rfl,by go_num,by omega,HT,λh=>⟨G9 (by omega),Z,G1,by have h1:=e6.out;have h2:=p1.out;rw[Nat.pow_succ];exact zJ h1 (zn _ h2),On g5 (EG p1 (by omega))⟩,λh=>F5 (by omega)⟩
        case measure=>simp[intOf];omega
  ·have n2:decide ((n:Int)<=(N:Int))=false:=zI (by omega);obtain rfl:n=N+1:=by omega
   have HF:=aa (o0 rfl);have K0:Hid (Below w.heap.size w wr):=by show Below _ _ _;rw[hS];exact J.bel
   go_wp2_with fail;refine zN (v:=.tuple #[.string ⟨#[]⟩,.bool false]) (by simp[results,results16,go_sem]) rfl ?_;exact⟨⟨⟨#[]⟩,false,rfl,.inr ⟨HF,rfl,rfl⟩⟩,by first|exact K0|exact J.bel⟩
theorem Ql (hh:HeadsG qs hs)(hok:∀q∈qs,PCanon q){D:List Int->Prop}(hD:∀f:Int->Int,(∀q∈qs,∀r,runeB r=true->memB (told q) r=memB (told q) (f r))->fo f D){N:Nat}{m:LZ}(hm:cX D N m):∀r∈m,r∈hs.map back:=by
 have d:∀r:Int,∃r',runeB r=true->r'∈hs.map back/\r'<=r/\runeB r'=true/\∀q∈qs,memB (told q) r=memB (told q) r':=λr=>by
  by_cases a:runeB r=true
  ·obtain⟨w,n,x⟩:=BW a;obtain⟨h,c,k,j⟩:=hh.rep (up r) n;have l:=hh.pl h c;obtain⟨o,u⟩:=gL l;refine⟨back h,λ_=>⟨List.mem_map_of_mem c,?_,o,λq b=>?_⟩⟩
   ·rw[<-w];rcases Int.lt_or_eq_of_le k with g|g
    ·exact Int.le_of_lt (Cn l n g)
    ·rw[g];exact yv _
   ·rw[gb (hok q b) _ a,gb (hok q b) _ o,u];exact (j q b).symm
  ·exact⟨r,λh=>absurd h a⟩
 obtain⟨f,i⟩:∃f:Int->Int,∀r,runeB r=true->f r∈hs.map back/\f r<=r/\runeB (f r)=true/\∀q∈qs,memB (told q) r=memB (told q) (f r):=⟨λr=>Classical.choose (d r),λr=>Classical.choose_spec (d r)⟩;have t:=hD f λq b r a=>(i r a).2.2.2 q b;obtain⟨c,k,j,g⟩:=hm;have p:ef (m.map f):=λr a=>by
  obtain⟨q,b,rfl⟩:=yH.1 a;exact (i q (c q b)).2.2.1
 have v:=g (m.map f) p ((t m c).1 k) (by simpa using j);have s:bY m (m.map f)=false:=by
  rw[gE];exact⟨by simp,λ_=>Bj m (λr a=>(i r (c r a)).2.1)⟩
 have e:=oW s v;intro r a;rw[e]at a;obtain⟨q,b,rfl⟩:=yH.1 a;exact (i q (c q b)).1
theorem Uc {f:Int->Int}:fo f eA:=λ_ _=>Iff.rfl
theorem Ud :dG L eA=L:=by
 funext t;refine propext ⟨λh=>Classical.byContradiction λa=>h ⟨λh=>absurd h a,λh=>h.elim⟩,λh a=>a.1 h⟩
theorem GE {p:Pat}(hp:p.Ok)(sp:Small p){g:Nat}{k:Int}{so:OA}{sn sc:Nat}{ln lc:Nat}{n:Int}(hv:NV w A p (bT k so sn sc lo ln lc m n r) g)(hA:∀g,A g->g<w.heap.size)(most:Int):Calls prog 8 #[.agg #[.int .i64 k,.slice so sn sc,.slice lo ln lc,.int .i64 m,.int .i64 n,.int .i64 r],.int .i64 most] w λe w'=>qf p.Mt most e/\Below w.heap.size w w':=by
 obtain⟨V,hV,u,a7,-⟩:=dS (rfl:w.heap.size=_) [.int .i64 k,.slice so sn sc,.slice lo ln lc,.int .i64 m,.int .i64 n,.int .i64 r] 27;replace u:Below _ _ V:=u;have B:=aa u;have HV:=aa hV;by_cases hm:0<=most/\most<=3
 ·obtain⟨N,rfl⟩:∃N:Nat,most=N:=⟨most.toNat,by omega⟩;have hN:N<=3:=by omega
  have HT:Hid (∀(d a:World) (F:World->Prop),Stb V d F->Below d.heap.size d a->Calls prog 17 #[.agg #[.int .i64 k,.slice so sn sc,.slice lo ln lc,.int .i64 m,.int .i64 n,.int .i64 r]] a λe z=>∃t so sn sc lo ln lc U M K,e=.returned (.agg #[.int .i64 (Tm.kind t),.slice so sn sc,.slice lo ln lc,.int .i64 U,.int .i64 M,.string K])/\Hid (Stb V z (λw'=>F w'/\aj w' (λg=>A g\/V.heap.size<=g) t (TC t.kind so sn sc lo ln lc U M K)))/\Hid (fA p t)):=λd a F h x=>by
   have i:=bL h.bel x;have h8:=i.size;have h7:=u.size;refine (nr p a A g k so sn sc lo ln lc m n r ((hv.below u).below i) (λg y=>by have:=hA g y;omega) hp (zJ sp.nd (by decide)) (zJ sp.rg (by decide))).mono ?_;rintro e z ⟨t,so,sn,sc,lo,ln,lc,U,M,K,rfl,g1,g2,g3⟩;exact⟨t,so,sn,sc,lo,ln,lc,U,M,K,rfl,((h.go x).go g3).and λw' k9=>aj.below k9 _ _ (aj.mono (λg y D=>by rcases D with D|D;exact .inl D;exact .inr (by omega)) _ _ g1),g2⟩
  have HZ:Hid (∀(d a:World) (F:World->Prop),Stb V d F->Below d.heap.size d a->Calls prog 18 #[] a λe z=>∃t so sn sc lo ln lc U M K,e=.returned (.agg #[.int .i64 (Tm.kind t),.slice so sn sc,.slice lo ln lc,.int .i64 U,.int .i64 M,.string K])/\Hid (Stb V z (λw'=>F w'/\aj w' (λg=>A g\/V.heap.size<=g) t (TC t.kind so sn sc lo ln lc U M K)))/\Hid ((λt=>t=.none) t)):=λd a F h x=>by
   have i:=bL h.bel x;have h8:=i.size;refine (fG a).mono ?_;rintro e z ⟨t,so,sn,sc,lo,ln,lc,U,M,K,rfl,g1,g2,g3⟩;exact⟨t,so,sn,sc,lo,ln,lc,U,M,K,rfl,((h.go x).go g3).and λw' k9=>aj.below k9 _ _ (aj.mono (λg y D=>by rcases D with D|D;exact D.elim;exact .inr (by omega)) _ _ g1),g2⟩
  have b7:Hid (∀(d a:World) (F:World->Prop),Stb V d F->Below d.heap.size d a->Calls prog 20 #[.agg #[.int .i64 k,.slice so sn sc,.slice lo ln lc,.int .i64 m,.int .i64 n,.int .i64 r]] a λe z=>∃l j b G,e=.returned (.slice l (List.length j) b)/\Hid (Stb V z (λw'=>F w'/\(w'.ownsRow V.heap.size 24 1 (.slice l j.length b) j.length G/\gh w' A j G)))/\Hid (SetsG [p] j)):=λd a F h x=>by
   have i:=bL h.bel x;have h8:=i.size;have h7:=u.size;refine (nw p a A g k so sn sc lo ln lc m n r ((hv.below u).below i) (λg y=>by have:=hA g y;omega) (zJ sp.nd (by decide))).mono ?_;rintro e z ⟨v',j,G,rfl,g1,g2,g3,g4⟩;obtain⟨l,b,rfl⟩:=cd g1;exact⟨l,j,b,G,rfl,((h.go x).go g4).and λw' k9=>⟨bg (ij g1 h8) k9,g2.below k9⟩,g3⟩
  have c0:Hid (∀(d a:World) (F:World->Prop) (l:Option Addr) (j:List (List (Int×Int))) (b:Nat) (G:List Value),Stb V d F->Below d.heap.size d a->(∀w',F w'->(w'.ownsRow V.heap.size 24 1 (.slice l j.length b) j.length G/\gh w' A j G))->SetsG [p] j->Calls prog 19 #[.slice l j.length b] a λe z=>∃o q c,e=.returned (.slice o (List.length q) c)/\Hid (Stb V z (λw'=>F w'/\w'.ownsRow V.heap.size 3 1 (.slice o q.length c) q.length (bj q)))/\Hid (HeadsG j q/\q.length<=721)):=λd a F l j b G h x he y=>by
   have i:=bL h.bel x;have hF:=he a (h.all a x);have h1:=y.sum;have h2:=y.len;have h3:=sp.rg;have h4:=sp.nd;simp only[cr,bH]at h1 h2;refine (Pp hF.1 hF.2 y.ok (by omega) (by omega)).mono ?_;rintro e z ⟨v',q,rfl,g1,g2,g3,g4⟩;obtain⟨o,c,rfl⟩:=cd g1;exact⟨o,q,c,rfl,((h.go x).go g4).and λw' k9=>bg (ij g1 i.size) k9,g2,by omega⟩
  have b8:Hid (∀(d a:World) (F:World->Prop) (Z:Tm) (J:Option Addr) (H Q:Nat) (W:Option Addr) (R Y:Nat) (m1 n1:Int) (s1:ByteArray) (t2:Tm) (L:Option Addr) (I T:Nat) (O:Option Addr) (a6 P:Nat) (m2 n2:Int) (s2:ByteArray) (o:Option Addr) (q:List Int) (c:Nat) (j:List (List (Int×Int))),Stb V d F->Below d.heap.size d a->(∀w',F w'->aj w' (λg=>A g\/V.heap.size<=g) Z (TC Z.kind J H Q W R Y m1 n1 s1))->(∀w',F w'->aj w' (λg=>A g\/V.heap.size<=g) t2 (TC t2.kind L I T O a6 P m2 n2 s2))->(∀w',F w'->w'.ownsRow V.heap.size 3 1 (.slice o q.length c) q.length (bj q))->fA p Z->t2=.none->(HeadsG j q/\q.length<=721)->SetsG [p] j->Calls prog 16 #[.agg #[.int .i64 Z.kind,.slice J H Q,.slice W R Y,.int .i64 m1,.int .i64 n1,.string s1],.agg #[.int .i64 t2.kind,.slice L I T,.slice O a6 P,.int .i64 m2,.int .i64 n2,.string s2],.slice o q.length c,.int .i64 N] a λe z=>∃s ok,e=.returned (.tuple #[.string s,.bool ok])/\Hid (gZ p.Mt N s ok)/\Hid (Below V.heap.size V z)):=λd a F Z J H Q W R Y m1 n1 s1 t2 L I T O a6 P m2 n2 s2 o q c j h x e1 e2 e3 X b4 hh hq=>by
   have i:=bL h.bel x;have hF:=h.all a x;have b1:=X.lg;have hz:=X.z;have ht:=X.tl;have c2:=sp.z;have c3:=sp.nd;have c1:=sp.rg;subst b4;have b2:∀m,cX (dG Z.L Tm.none.L) N m->∀r∈m,r∈q.map back:=λm hm=>Ql hh.1 hq.ok (λf hf=>by
    have h1:fo f Z.L:=by rw[b1];exact hq.cov p (by simp) f hf
    have h2:fo f Tm.none.L:=by rw[Tm.L_none];exact Uc
    exact RI h1 h2) hm
   refine (Lh (A:=λg=>(A g\/V.heap.size<=g)/\g<a.heap.size) N hN (λg y=>y.2) (aj.mono (λg y D=>⟨D,y⟩) _ _ (e1 a hF)) (aj.mono (λg y D=>⟨D,y⟩) _ _ (e2 a hF)) X.ok trivial (by omega) (by show 1<=61;decide) (by omega) (by show 12<=12420;decide) (e3 a hF) hh.1.srt hh.1.pl b2 hh.2).mono ?_;rintro e z ⟨⟨s,ok,rfl,hl⟩,g3⟩;refine⟨s,ok,rfl,?_,bL i g3⟩;rw[b1,Tm.L_none,Ud]at hl;exact hl
  have E:=aa (Stb.start V);obtain⟨a0,a1,a2,a3,a4,a5⟩:=a7.six;have C:=a7.lt;have n1:decide ((N:Int)<0)=false:=zI (by omega);have n2:decide (3<(N:Int))=false:=zI (by omega);have a8:Hid (∀w',Below V.heap.size V w'->(w'.cell? ⟨w.heap.size,0,none⟩=some (.int .i64 k)/\w'.cell? ⟨w.heap.size,1,none⟩=some (.slice so sn sc)/\w'.cell? ⟨w.heap.size,2,none⟩=some (.slice lo ln lc)/\w'.cell? ⟨w.heap.size,3,none⟩=some (.int .i64 m)/\w'.cell? ⟨w.heap.size,4,none⟩=some (.int .i64 n)/\w'.cell? ⟨w.heap.size,5,none⟩=some (.int .i64 r))):=λw' h=>⟨(h.cell (p:=⟨w.heap.size,0,none⟩) C).trans a0,(h.cell (p:=⟨w.heap.size,1,none⟩) C).trans a1,(h.cell (p:=⟨w.heap.size,2,none⟩) C).trans a2,(h.cell (p:=⟨w.heap.size,3,none⟩) C).trans a3,(h.cell (p:=⟨w.heap.size,4,none⟩) C).trans a4,(h.cell (p:=⟨w.heap.size,5,none⟩) C).trans a5⟩;have b5:=aa (a8 V.drew (jw V));clear hV u a7 hv hA hp sp;go_enter func8,ntmps8;go_upto_region 1 with fail;rw[HV.out];generalize hS:w.heap.size=S at *;go_wp2_with fail
  go_region_held3 (λw'=>w'.cell? ⟨S,0,none⟩=some (.int .i64 k)/\w'.cell? ⟨S,1,none⟩=some (.slice so sn sc)/\w'.cell? ⟨S,2,none⟩=some (.slice lo ln lc)/\w'.cell? ⟨S,3,none⟩=some (.int .i64 m)/\w'.cell? ⟨S,4,none⟩=some (.int .i64 n)/\w'.cell? ⟨S,5,none⟩=some (.int .i64 r))
   (first|with_reducible exact b5.out|with_reducible exact a8.out _ E.out.bel|with_reducible exact a8.out _ a9.out|fail)
   (first
    |(go_at_call 17;with_reducible refine (HT.out _ _ _ E.out (zE _ _)).mono ?_;rintro e wa ⟨Z,J,H,Q,W,R,Y,m1,n1,s1,rfl,E,b3⟩)
    |(go_at_call 18;with_reducible refine (HZ.out _ _ _ E.out (zE _ _)).mono ?_;rintro e wb ⟨t2,L,I,T,O,a6,P,m2,n2,s2,rfl,E,b9⟩)
    |(go_at_call 20;with_reducible refine (b7.out _ _ _ E.out (zE _ _)).mono ?_;rintro e wc ⟨l,j,b,G,rfl,E,HQ⟩)
    |(go_at_call 19;with_reducible refine (c0.out _ _ _ l j b G E.out (zE _ _) (λw' h=>by first|exact h.2|exact h.1.2|exact h.1.1.2|exact h.1.1.1.2) HQ.out).mono ?_;rintro e wd ⟨o,q,c,rfl,E,HH⟩)
    |(go_at_call 16;with_reducible refine (b8.out _ _ _ Z _ _ _ _ _ _ _ _ _ t2 _ _ _ _ _ _ _ _ _ o q c j E.out (zE _ _) (λw' h=>by first|exact h.2|exact h.1.2|exact h.1.1.2|exact h.1.1.1.2) (λw' h=>by first|exact h.2|exact h.1.2|exact h.1.1.2|exact h.1.1.1.2) (λw' h=>by first|exact h.2|exact h.1.2|exact h.1.1.2|exact h.1.1.1.2) b3.out b9.out HH.out HQ.out).mono ?_;rintro e we ⟨s9,b0,rfl,b6,a9⟩)
    |fail)
  all_goals go_wp2_with fail
  all_goals refine zN (v:=.tuple #[.string s9,.bool b0,.int .i64 0]) (by simp[results,results8,go_sem]) rfl ⟨.inr ⟨N,s9,b0,rfl,hN,rfl,b6⟩,by first|exact B.trans (a9.mono B.size)|(rw[hS];exact B.trans (a9.mono (by have:=B.size;omega)))⟩
 ·have HM:Hid (¬(0<=most/\most<=3)):=hm;clear hV u a7 hv hA hp sp;by_cases h0:most<0
  ·go_enter func8,ntmps8;go_upto_region 1 with fail;rw[HV.out];go_wp2_with fail;refine zN (v:=.tuple #[.string ⟨#[]⟩,.bool false,.int .i64 9]) (by simp[results,results8,go_sem]) rfl ⟨.inl ⟨HM,rfl⟩,B⟩
  ·have h1:decide (most<0)=false:=zI h0;have h3:3<most:=by omega
   clear hm;go_enter func8,ntmps8;go_upto_region 1 with fail;rw[HV.out];go_wp2_with fail;refine zN (v:=.tuple #[.string ⟨#[]⟩,.bool false,.int .i64 9]) (by simp[results,results8,go_sem]) rfl ⟨.inl ⟨HM,rfl⟩,B⟩
set_option maxHeartbeats 8000000
open Go.Shelf Go.Lib
theorem Dk {D:List Int->Prop}{s t:LZ}(h:cX D n s)(k:cX D n t):s=t:=oW (k.2.2.2 s h.1 h.2.1 h.2.2.1) (h.2.2.2 t k.1 k.2.1 k.2.2.1)
theorem Dl {s t:ByteArray}{a b:Bool}(h:gZ L n s a)(k:gZ L n t b):s=t/\a=b:=by
 rcases h with⟨u,d,f,j⟩|⟨d,f,j⟩<;>rcases k with⟨v,c,g,i⟩|⟨c,g,i⟩
 ·have e:=Dk d c;subst e;exact⟨f.trans g.symm,j.trans i.symm⟩
 ·exact absurd d.2.1 (c u d.1 d.2.2.1)
 ·exact absurd c.2.1 (d v c.1 c.2.2.1)
 ·exact⟨f.trans g.symm,j.trans i.symm⟩
theorem Dm {e e':Ending}(h:qf L m e)(k:qf L m e'):∃(s:ByteArray) (a:Bool) (er:Int),e=.returned (.tuple #[.string s,.bool a,Vi er])/\e'=.returned (.tuple #[.string s,.bool a,Vi er]):=by
 rcases h with⟨g,d⟩|⟨n,s,a,g,d,p,i⟩<;>rcases k with⟨c,f⟩|⟨l,t,b,c,f,j,o⟩
 ·exact⟨_,_,_,d,f⟩
 ·exact absurd ⟨by omega,by omega⟩ g
 ·exact absurd ⟨by omega,by omega⟩ c
 ·obtain rfl:n=l:=by omega
  obtain⟨rfl,rfl⟩:=Dl i o;exact⟨_,_,_,p,j⟩
theorem GW {e:Ending}(h:qf L m e):∃(s:ByteArray) (a:Bool) (er:Int),e=.returned (.tuple #[.string s,.bool a,Vi er]):=by
 rcases h with⟨_,c⟩|⟨n,s,a,_,_,b,_⟩
 ·exact⟨_,_,_,c⟩
 ·exact⟨_,_,_,b⟩
theorem Xa {p:Pat}{g:Nat}(h:NV w (λ_=>True) p c g):NV w (λq=>q<w.heap.size) p c g:=NV.mono (λ_ a _=>a) p c g h
theorem GX (s:ByteArray)(most:Int)(hT:Bc w)(hm:s.size<=9223372036854775807):Calls prog 3 #[.string s,Vi most] w λe w'=>e=.returned (.bool true)/\Bw w w':=by
 have U:=aa hT;have Z:=aa hm;go_enter func3,ntmps3;go_wp2_with fail;refine (Mz U.1).mono ?_;rintro e w1 ⟨rfl,n⟩;have f:=aa n;have t:=aa (U.below n);go_wp2_with fail;refine (LY s t.1 Z).mono ?_;rintro e z ⟨b,nv,k,G,P,I,S,Q,N,H,M,R,gr,op,rfl,m⟩;have a:Bw z (z.alloc (.cells #[Vi k,.slice G P I,.slice S Q N,Vi H,Vi M,Vi R] 27)):=(zE _ _).alloc (zA _) _;have E:=aa (ag.new z [Vi k,.slice G P I,.slice S Q N,Vi H,Vi M,Vi R] 27);have d:=aa (f.trans ((b.mono f.size).trans (a.mono (zJ f.size b.size))));have j:=aa ((t.below b).below a);cases op with
 |none=>
  have x:nv=.pointer none:=m;subst x;go_wp2_with fail;go_ret;exact⟨rfl,d⟩
 |some p=>
  obtain⟨C,D,K,⟨bx,A,rfl,T⟩,o,a0⟩:=m;have y:=aa (T.below a);have u:=aa (NV.keep (ah.below a) p _ 0 o);have r:=aa C;have v:=aa D;go_upto_region 5 with fail;generalize hW:z.alloc (.cells #[Vi k,.slice G P I,.slice S Q N,Vi H,Vi M,Vi R] 27)=W3 at E d j y u ⊢;have W:=aa (Ii r v y j.2.1 j.2.2 most);go_wp2_with fail;refine W.mono ?_;rintro e F ⟨c,l⟩;obtain⟨s4,X,e4,rfl⟩:=GW l;have L:=aa l;have i:=E.below c;obtain⟨x0,x1,x2,x3,x4,x5⟩:=i.six;have V:=i.lt;have q:=aa c;have HD:Hid (∀O w',(qf p.Mt most O/\Bw F w')->O=.returned (.tuple #[.string s4,.bool X,Vi e4])/\Bw F w'):=λO w' h=>by
   obtain⟨s5,a5,e5,h1,Y⟩:=Dm L.out h.1;rw[h1];exact⟨Y,h.2⟩
  have HR:=aa (GE r v (Xa (NV.keep (ah.below c) p _ 0 u)) (λg h=>h) most);go_wp2_with fail;refine (HR.mono HD).mono ?_;rintro e w5 ⟨rfl,B⟩;have J:=aa B;go_wp2_with fail;go_ret;exact⟨by simp,d.trans ((q.trans (J.mono q.size)).mono d.size)⟩
