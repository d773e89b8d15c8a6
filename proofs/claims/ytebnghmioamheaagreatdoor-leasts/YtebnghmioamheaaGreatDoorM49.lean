import Derived.Test.YtebnghmioamheaaGreatDoorM48
import Derived.Test.YtebnghmioamheaaGreatDoorM44
set_option linter.all false
namespace Go.Proofs.YtebnghmioamheaaGreatDoor
open Go.RowKit Brm Tryz
variable {x:Int×Int}{Q qs:List (List (Int×Int))}{R q:LQ}{at_ out u v hs:LZ}{i k n a b:Nat}{y r m:Int}{w w' U3 w4 W:World}{cs xs c:LV}{A A':NP}{lo:OA}{v4:Value}{LA LB L:Lg}{P:List Int->Prop}{t:Tm}
def Ak (at_:List Int)(x:Int×Int):Prop:=x.1∈at_/\(x.2<1112063->x.2+1∈at_)
structure AtG (Q:List (List (Int×Int)))(R:List (Int×Int))(at_:List Int):Prop where
 srt:at_.Pairwise (·<·)
 zero:(0:Int)∈at_
 pl:∀y∈at_,place y
 old:∀q∈Q,∀x∈q,Ak at_ x
 now:∀x∈R,Ak at_ x
theorem AtG.start:AtG [] [] [0]:=⟨by simp,by simp,λy h=>by simp at h;subst h;exact⟨by decide,by decide⟩,λq h=>by simp at h,λx h=>by simp at h⟩
theorem Ak.more {a b:LZ}(h:Ak a x)(k:∀y∈a,y∈b):Ak b x:=⟨k _ h.1,λc=>k _ (h.2 c)⟩
theorem AtG.step1 {at2:LZ}(h:AtG Q R at_)(hx:PGood x)(hs:at2.Pairwise (·<·))(hm:∀y,y∈at2↔y∈at_\/y=x.1):AtG Q R at2/\x.1∈at2:=by
 have a:∀y∈at_,y∈at2:=λy b=>(hm y).2 (.inl b);unfold PGood at hx;refine⟨⟨hs,a _ h.zero,λy b=>?_,λq d z c=>(h.old q d z c).more a,λz c=>(h.now z c).more a⟩,(hm _).2 (.inr rfl)⟩;rcases (hm y).1 b with b|rfl
 ·exact h.pl y b
 ·exact⟨hx.1,by omega⟩
theorem AtG.step2 {at2:LZ}(h:AtG Q R at_)(hx:PGood x)(h1:x.1∈at_)(hl:x.2<1112063)(hs:at2.Pairwise (·<·))(hm:∀y,y∈at2↔y∈at_\/y=x.2+1):AtG Q (R++[x]) at2:=by
 have a:∀y∈at_,y∈at2:=λy c=>(hm y).2 (.inl c);unfold PGood at hx;refine⟨hs,a _ h.zero,λy c=>?_,λq d z b=>(h.old q d z b).more a,λz b=>?_⟩
 ·rcases (hm y).1 c with c|rfl
  ·exact h.pl y c
  ·exact⟨by omega,by omega⟩
 ·rcases zM.1 b with b|b
  ·exact (h.now z b).more a
  ·simp at b;subst b;exact⟨a _ h1,λ_=>(hm _).2 (.inr rfl)⟩
theorem AtG.step3 (h:AtG Q R at_)(h1:x.1∈at_)(hl:¬x.2<1112063):AtG Q (R++[x]) at_:=by
 refine⟨h.srt,h.zero,h.pl,h.old,λz a=>?_⟩;rcases zM.1 a with a|a
 ·exact h.now z a
 ·simp at a;subst a;exact⟨h1,λk=>absurd k hl⟩
theorem AtG.next (h:AtG Q R at_):AtG (Q++[R]) [] at_:=by
 refine⟨h.srt,h.zero,h.pl,λq a x b=>?_,λx b=>by simp at b⟩;rcases zM.1 a with a|a
 ·exact h.old q a x b
 ·simp at a;subst a;exact h.now x b
theorem XI:∀(l:LZ) (x:Int),(∃a∈l,a<=x)->∃a∈l,a<=x/\∀b∈l,b<=x->b<=a:=EM
theorem AtG.rep (h:AtG Q [] at_){x:Int}(hx:place x):∃a∈at_,a<=x/\∀q∈Q,memB q a=memB q x:=by
 unfold place at hx;obtain⟨a,l,m,i⟩:=XI at_ x ⟨0,h.zero,hx.1⟩;refine⟨a,l,m,λq f=>?_⟩;rw[ze,mem_true,mem_true];constructor
 ·rintro⟨y,b,e,j⟩;obtain⟨d,g⟩:=h.old q f y b;refine⟨y,b,by omega,?_⟩;rcases Int.lt_or_le y.2 x with k|c
  ·have:=i _ (g (by omega)) (by omega);omega
  ·exact c
 ·rintro⟨y,b,e,j⟩;obtain⟨d,g⟩:=h.old q f y b;exact⟨y,b,i _ d e,by omega⟩
def eL (qs:List (List (Int×Int)))(a:Int):List UInt8:=qs.map λq=>if memB q a then 1 else 0
theorem SO {a b:Int}(h:eL qs a=eL qs b):∀q∈qs,memB q a=memB q b:=by
 unfold eL at h;intro q c;have:=List.map_inj_left.1 h q c;revert this;cases memB q a<;>cases memB q b<;>simp
theorem Fw (qs:List (List (Int×Int)))(a:Int):(eL qs a).length=qs.length:=by simp[eL]
structure HdI (qs:List (List (Int×Int)))(at_:List Int)(i:Nat)(out:List Int):Prop where
 sub:∀y∈out,y∈at_.take i
 srt:out.Pairwise (·<·)
 all:∀y∈at_.take i,∃h∈out,h<=y/\eL qs h=eL qs y
theorem HdI.start :HdI qs at_ 0 []:=⟨λy h=>by simp at h,by simp,λy h=>by simp at h⟩
theorem HdI.old (h:HdI qs at_ i out)(hs:at_.Pairwise (·<·))(hy:at_[i]?=some y){z:Int}(hz:z∈out)(hsg:eL qs z=eL qs y):HdI qs at_ (i+1) out:=by
 have e:at_.take (i+1)=at_.take i++[y]:=by rw[zi,hy];rfl
 refine⟨λx a=>by rw[e];exact yq _ (h.sub x a),h.srt,λx a=>?_⟩;rw[e]at a;rcases zM.1 a with a|a
 ·exact h.all x a
 ·simp at a;subst a;have b:=hs.sublist (List.take_sublist (i+1) at_);rw[e,yA]at b;have:=b.2.2 z (h.sub z hz) x (by simp);exact⟨z,hz,by omega,hsg⟩
theorem HdI.new (h:HdI qs at_ i out)(hs:at_.Pairwise (·<·))(hy:at_[i]?=some y):HdI qs at_ (i+1) (out++[y]):=by
 have e:at_.take (i+1)=at_.take i++[y]:=by rw[zi,hy];rfl
 have d:=hs.sublist (List.take_sublist (i+1) at_);rw[e,yA]at d;refine⟨λx c=>?_,?_,λx c=>?_⟩
 ·rw[e];rcases zM.1 c with c|c
  ·exact yq _ (h.sub x c)
  ·exact List.mem_append_right _ c
 ·rw[yA];exact⟨h.srt,by simp,λa l b g=>d.2.2 a (h.sub a l) b g⟩
 ·rw[e]at c;rcases zM.1 c with c|c
  ·obtain⟨z,k,f,j⟩:=h.all x c;exact⟨z,yq _ k,f,j⟩
  ·simp at c;subst c;exact⟨x,by simp,yv _,rfl⟩
structure HeadsG (qs:List (List (Int×Int)))(out:List Int):Prop where
 srt:out.Pairwise (·<·)
 pl:∀y∈out,place y
 rep:∀x,place x->∃h∈out,h<=x/\∀q∈qs,memB q h=memB q x
theorem HdI.done (h:HdI qs at_ at_.length out)(ha:AtG qs [] at_):HeadsG qs out:=by
 have c:=h.sub;have b:=h.all;rw[zQ]at c b;refine⟨h.srt,λy g=>ha.pl y (c y g),λx f=>?_⟩;obtain⟨a,j,m,k⟩:=ha.rep f;obtain⟨z,e,l,i⟩:=b a j;exact⟨z,e,by omega,λq d=>(SO i q d).trans (k q d)⟩
theorem JH {e:TypeId}{v:Value}:(w.alloc (.cells #[v] e)).ownsRow w.heap.size e 1 (Vs w.heap.size 1 1) 1 [v]:=by
 refine⟨rfl,.inr ⟨w.heap.size,1,#[v],rfl,zA _,?_,zA _,by unfold maxLen;decide,rfl,rfl⟩⟩;have h:=ag.new w [v] e;exact h
def qZ (l:List (List UInt8)):List Value:=l.map λs=>.string ⟨s.toArray⟩
theorem Mb:(prog.info? 5).map (λi=>(i.zero,i.size,i.bytes))=some (some (.int .u8 0),1,1):=by kernel_rfl
set_option maxHeartbeats 4000000
set_option maxRecDepth 100000
theorem Po {l:List (List (Int×Int))}(i:Nat):fw (l.take i)<=fw l:=by
 have h:fw l=fw (l.take i)+fw (l.drop i):=by rw[<-lX,zj]
 omega
theorem VX {l:List (List (Int×Int))}(h:l[i]?=some q):fw (l.take (i+1))=fw (l.take i)+q.length:=by
 rw[zi,h,lX];simp[fw]
def rX (qs:List (List (Int×Int)))(y:Int)(k:Nat)(cs:List Value):Prop:=cs.length=qs.length/\∀j q,qs[j]?=some q->cs[j]?=some (Value.int .u8 (if j<k/\memB q y=true then 1 else 0))
theorem rX.start :rX qs y 0 (List.replicate qs.length (.int .u8 0)):=⟨by simp,λj q h=>by
 have a:=(zC.1 h).1;simp[a]⟩
theorem rX.yes (h:rX qs y k cs)(hq:qs[k]?=some q)(hm:memB q y=true):rX qs y (k+1) (cs.set k (.int .u8 1)):=by
 refine⟨by simp[h.1],λj d a=>?_⟩;have b:=(zC.1 a).1;by_cases e:k=j
 ·subst e;rw[hq]at a;injection a with a;subst a;rw[List.getElem?_set_self (by rw[h.1];exact b),zX ⟨by omega,hm⟩]
 ·rw[List.getElem?_set_ne e,h.2 j d a];by_cases c:j<k
  ·simp[c,show j<k+1 by omega]
  ·simp[c,show ¬j<k+1 by omega]
theorem rX.no (h:rX qs y k cs)(hq:qs[k]?=some q)(hm:memB q y=false):rX qs y (k+1) cs:=by
 refine⟨h.1,λj c a=>?_⟩;rw[h.2 j c a];by_cases e:j=k
 ·subst e;rw[hq]at a;injection a with a;subst a;simp[hm]
 ·by_cases b:j<k
  ·simp[b,show j<k+1 by omega]
  ·simp[b,show ¬j<k+1 by omega]
theorem rX.conv {U cap:Nat}(h:rX qs y qs.length cs)(hb:ag w U cs 5):(convert 93 9 (Vs U qs.length cap)).run prog w=.ok (.string ⟨(eL qs y).toArray⟩) w:=by
 have d:=run_convert_bytes_back (P:=prog) w 93 9 5 (aD U 0) cap (eL qs y) underlying93 underlying5 underlying9 (λj a=>by
  rw[Fw]at a;obtain⟨q,c⟩:∃q,qs[j]?=some q:=⟨_,zB a⟩;have b:qs[j]=q:=yT ((zB a).symm.trans c);rw[zl,zf,hb.cell,h.2 j q c];simp only[eL,List.getElem_map,b,a,yB];cases memB q y<;>simp)
 rw[Fw]at d;exact d
theorem oR {B e size:Nat}{v u:Value}(h:w.ownsRow B e size v n xs)(hg:w.grownBy w' u.ownBlock)(hne:∀g,v.ownBlock=some g->u.ownBlock≠some g):w'.ownsRow B e size v n xs:=bP h λg k=>hg.block g (h.lt g k).2 λe=>hne g k e.symm
theorem JI {a b:List UInt8}(h:(⟨a.toArray⟩:ByteArray).toList=(⟨b.toArray⟩:ByteArray).toList):a=b:=by
 have:=kE h;simpa [af]using this
def XM (w:World)(qs:List (List (Int×Int)))(e:Ending)(w':World):Prop:=∃v' out,e=.returned v'/\w'.ownsRow w.heap.size 3 1 v' out.length (bj out)/\HeadsG qs out/\out.length<=1+2*fw qs/\Below w.heap.size w w'
theorem Pp {B:Nat}{cap:Nat}{vs:LV}(hown:w.ownsRow B 24 1 (.slice lo qs.length cap) qs.length vs)(hvs:gh w A qs vs)(hok:∀q∈qs,PCanon q)(hlen:qs.length<=2000000)(hsum:fw qs<=200000):Calls prog 19 #[.slice lo qs.length cap] w (XM w qs):=by
 have h8:Hid (∀(i:Nat) (q:List (Int×Int)) (wr:World),qs[i]?=some q->Bw w wr->∃b so sc,lo=some (aD b 0)/\b<wr.heap.size/\wr.cell? (aD b i)=some (.slice so q.length sc)/\Rd wr so q/\PCanon q):=λi q wr hi hb=>by
  obtain⟨so,sc,l,m⟩:=(hvs.below hb).at hi;have hr:=iQ (bg hown hb);obtain⟨b,j5,e,_,d9,hc⟩:=hr i _ l;obtain⟨_,_,r⟩:=kf hown;obtain⟨g,hg⟩:=r _ e;injection hg with e1 e2;subst e1 e2;exact⟨b,so,sc,e,d9,by simpa using hc,m.rd,hok q (zU hi)⟩
 have j4:=aa hsum;obtain⟨W0,d4,d8,-,-⟩:=dS (rfl:w.heap.size=_) [Vi 0] 3;replace d8:Below _ _ W0:=d8;replace d8:=aa d8;have k4:Hid (W0.ownsRow w.heap.size 3 1 (Vs w.heap.size 1 1) 1 (bj [0])):=by show W0.ownsRow _ _ _ _ _ _;rw[<-d4];exact JH
 have k8:=aa d4;clear hown hvs hok hsum d4;go_enter func19,ntmps19;go_wp2_with fail;rw[k8.out]
 go_loopw [3,4] (λov iv wr=>∃(i:Nat) (a:List Int),iv=Vi i/\i<=qs.length/\wr.ownsRow w.heap.size 3 1 ov a.length (bj a)/\AtG (qs.take i) [] a/\a.length<=1+2*fw (qs.take i)/\Bw w wr) (λ_ iv _=>qs.length-(intOf iv).toNat)
 case atStart=>exact⟨0,[0],rfl,zW _,k4.out,by simpa using AtG.start,by simp,d8.out⟩
 case round=>
  obtain⟨i,a,rfl,k0,hown,H,W,d⟩:=hrel;obtain⟨l6,m5,rfl⟩:=cd hown;have HO:=aa hown;have s:=aa H;have C:=aa W;have F:=aa d;have D:w.heap.size<=wr.heap.size:=d.size;have i1:(0:Int)<=(i:Int):=zK _;clear hown H W d;by_cases d5:i<qs.length
  ·have i2:(i:Int)<(qs.length:Int):=by omega
   obtain⟨q,hq⟩:∃q,qs[i]?=some q:=⟨_,zB d5⟩;have HQ:=aa hq;have f7:=aa (VX hq);have m0:Hid (fw (qs.take (i+1))<=fw qs):=Po _;have l4:Hid (qs.take (i+1)=qs.take i++[q]):=by show _=_;rw[zi,hq];rfl
   clear hq;go_wp2_with fail
   go_loopw [3,5] (λov kv wr2=>∃(k:Nat) (a:List Int),kv=Vi k/\k<=q.length/\wr2.ownsRow w.heap.size 3 1 ov a.length (bj a)/\AtG (qs.take i) (q.take k) a/\a.length<=1+2*(fw (qs.take i)+k)/\Bw w wr2) (λ_ kv _=>q.length-(intOf kv).toNat)
   case atStart=>exact⟨0,a,rfl,zW _,HO.out,by simpa using s.out,by have:=C.out;omega,F.out⟩
   case round=>
    clear HO s C F D;obtain⟨k,a2,rfl,e7,hown,H,W,d⟩:=hrel;obtain⟨n6,m6,rfl⟩:=cd hown;obtain⟨b,so,sc,rfl,a1,c0,T,K⟩:=h8.out i q wr HQ.out d;have l9:=ri K;have D:w.heap.size<=wr.heap.size:=d.size;have k1:(0:Int)<=(k:Int):=zK _;have HO:=aa hown;have s:=aa H;have C:=aa W;have F:=aa d;by_cases o:k<q.length
    ·have k2:(k:Int)<(q.length:Int):=by omega
     obtain⟨x,hx⟩:∃x,q[k]?=some x:=⟨_,zB o⟩;obtain⟨bs,os,rfl,Q,d0,d1⟩:=T k x hx;have HX:Hid (PGood x):=K.1 x (zU hx);have a0:Hid (q.take (k+1)=q.take k++[x]):=by show _=_;rw[zi,hx];rfl
     have l5:a2.length<=500000:=by have l:=f7.out;have m:=m0.out;have h3:=j4.out;omega
     have HR:=aa (xT (x:=x.1) D hown (by omega) H.srt);have i5:(0:Int)<=x.2/\x.2<=1112063:=by have:=HX.out;unfold PGood at this;omega
     obtain⟨i5,n4⟩:=i5;clear hown H W d T K hx;go_wp2_with fail;refine HR.out.mono ?_;rintro e w5 ⟨v5,a5,rfl,e3,g5,g8,j2,R⟩;obtain⟨n3,m1,rfl⟩:=cd e3;have j7:=aa e3;have t:=aa (s.out.step1 HX.out g5 g8);have S:Hid (Bw w w5):=F.out.trans (R.mono D);have i4:=aa j2;have g1:w.heap.size<=w5.heap.size:=S.out.size;have m3:b<w5.heap.size:=zF a1 R.size;have m4:bs<w5.heap.size:=zF Q R.size;have n5:w5.cell? (aD b i)=some (.slice (some ⟨bs,os,none⟩) q.length sc):=(R.cell (p:=(aD b i)) a1).trans c0;have n2:w5.cell? ⟨bs,os+k*2+1,none⟩=some (Vi x.2):=(R.cell (p:=⟨bs,_,none⟩) Q).trans d1;have m8:a5.length<=600000:=by omega
     clear e3 g5 g8 j2 R HR c0 d0 d1 a1 Q;by_cases a8:x.2<1112063
     ·have i0:=aa (xT (x:=x.2+1) g1 j7.out (by omega) t.out.1.srt);go_wp2_with fail;refine i0.out.mono ?_;rintro e w6 ⟨v6,a6,rfl,h0,j6,e8,h5,L⟩;have HF:=aa (And.intro h0 (And.intro (t.out.1.step2 HX.out t.out.2 a8 j6 e8) (And.intro h5 (bL S.out (L.mono (zA _))))));clear h0 j6 e8 h5 L i0;go_wp2_with fail
      go_roundw
      case rel=>exact⟨k+1,a6,by go_num,by omega,HF.out.1,by rw[a0.out];exact HF.out.2.1,by have l:=HF.out.2.2.1;have m:=i4.out;have h3:=C.out;omega,HF.out.2.2.2⟩
      case measure=>simp[intOf];omega
     ·have n0:decide (x.2<1112063)=false:=zI a8;go_wp2_with fail
      go_roundw
      case rel=>exact⟨k+1,a5,by go_num,by omega,j7.out,by rw[a0.out];exact t.out.1.step3 t.out.2 (by omega),by have m:=i4.out;have h3:=C.out;omega,S.out⟩
      case measure=>simp[intOf];omega
    ·have k2:decide ((k:Int)<(q.length:Int))=false:=zI (by omega);obtain rfl:k=q.length:=by omega
     clear hown H W d T K;go_wp2_with fail
     go_roundw
     case rel=>exact⟨i+1,a2,by go_num,by omega,HO.out,by rw[l4.out];have:=s.out;rw[zQ]at this;exact this.next,by have l:=C.out;have m:=f7.out;omega,F.out⟩
     case measure=>simp[intOf];omega
  ·have i2:decide ((i:Int)<(qs.length:Int))=false:=zI (by omega);obtain rfl:i=qs.length:=by omega
   rw[zQ]at s C;obtain⟨f,f3⟩:∃f,wr=f:=⟨_,rfl⟩;rw[f3]at HO F D ⊢;clear f3;have f0:Hid (∀(j:Nat) (y:Int) (wr:World),a[j]?=some y->Bw f wr->∃b,l6=some (aD b 0)/\b<wr.heap.size/\wr.cell? (aD b j)=some (Vi y)):=λj y wr hj hb=>by
    obtain⟨b,j5,e,_,d9,hc⟩:=iQ (bg HO.out hb) j _ (qJ hj);obtain⟨_,_,r⟩:=kf HO.out;obtain⟨g,hg⟩:=r _ e;injection hg with e1 e2;subst e1 e2;exact⟨b,e,d9,by simpa using hc⟩
   have l5:a.length<=400001:=by have l:=C.out;have m:=j4.out;omega
   obtain⟨i3,l3,f6,e9,f5⟩:=zz jo;obtain⟨i9,l8,h7,f9,j0⟩:=zz AA;go_wp2_with fail
   go_loopw [6,7,8] (λov sv iv wr=>∃(i:Nat) (c:List Int),iv=Vi i/\i<=a.length/\wr.ownsRow f.heap.size 3 1 ov c.length (bj c)/\wr.ownsRow f.heap.size 9 1 sv c.length (qZ (c.map (eL qs)))/\(∀g,ov.ownBlock=some g->sv.ownBlock≠some g)/\HdI qs a i c/\c.length<=i/\Bw f wr) (λ_ _ iv _=>a.length-(intOf iv).toNat)
   case atStart=>exact⟨0,[],rfl,zW _,zZ _ _ _ _,zZ _ _ _ _,λg h=>(by cases h),HdI.start,zA _,zE _ _⟩
   case round=>
    obtain⟨i,c,rfl,k0,G,I,f4,f1,m7,d⟩:=hrel;obtain⟨g7,c3,rfl⟩:=cd G;obtain⟨l0,g3,rfl⟩:=cd I;have b1:=aa G;have d3:=aa I;have e5:=aa f4;have e6:=aa f1;have g6:=aa d;have c5:f.heap.size<=wr.heap.size:=d.size;have i1:(0:Int)<=(i:Int):=zK _;clear G I f4 f1 d i2;by_cases d5:i<a.length
    ·have i2:(i:Int)<(a.length:Int):=by omega
     obtain⟨y,hy⟩:∃y,a[i]?=some y:=⟨_,zB d5⟩;have HY:=aa hy;obtain⟨Wb,f2,a4,c6,j3⟩:=dS (rfl:wr.heap.size=_) (List.replicate qs.length (.int .u8 0)) 5;replace a4:Below _ _ Wb:=a4;replace a4:=aa a4;replace c6:=aa c6;replace j3:=aa j3;have l1:=aa f2;clear hy f2;generalize hU:wr.heap.size=U at *;go_wp2_with (at_make;refine vY rfl _ _ 93 rfl 5 (.int .u8 0) 1 underlying93 Mb rfl qs.length rfl rfl (by omega) (by omega) ?_;rw[l1.out])
     go_loopw [10] (λkv wx=>∃(k:Nat) (cs:List Value),kv=Vi k/\k<=qs.length/\ag wx U cs 5/\rX qs y k cs/\Below U Wb wx) (λkv _=>qs.length-(intOf kv).toNat)
     case atStart=>exact⟨0,_,rfl,zW _,c6.out,rX.start,zE _ _⟩
     case round=>
      obtain⟨k,cs,rfl,e7,e0,i7,d2⟩:=hrel;have P:=aa e0;have Y:=aa i7;have a3:=aa d2;have M:Hid (Bw f wr):=(g6.out.trans (a4.out.mono c5)).trans (d2.mono c5);have j8:Hid (Bw w wr):=F.out.trans (M.out.mono D);have k1:(0:Int)<=(k:Int):=zK _;have g4:U<wr.heap.size:=e0.lt;clear e0 i7 d2;by_cases o:k<qs.length
      ·have k2:(k:Int)<(qs.length:Int):=by omega
       obtain⟨q,hq⟩:∃q,qs[k]?=some q:=⟨_,zB o⟩;obtain⟨b,so,sc,rfl,a1,c0,T,K⟩:=h8.out k q wr hq j8.out;obtain⟨b3,rfl,J,d0⟩:=f0.out i y wr HY.out M.out;have l9:=ri K;have HH:=aa (wS (w:=wr.drew) sc y T (by omega));have HQ:=aa hq;clear T K hq;go_upto_region 20 with fail
       go_cut [11] (λv wx=>v=.bool (memB q y)/\∃n,wx=wr.drewN n)
       case first=>
        have k5:Hid (wr.drew.cell? (aD b k)=some (.slice so q.length sc)/\wr.drew.cell? (aD b3 i)=some (Vi y)):=⟨c0,d0⟩
        go_region_held3 (λw'=>w'.cell? (aD b k)=some (.slice so q.length sc)/\w'.cell? (aD b3 i)=some (Vi y))
         (first|with_reducible exact k5.out|fail)
         (first
          |(go_at_call 40;with_reducible refine HH.out.mono ?_;rintro e w5 ⟨rfl,rfl⟩)
          |fail)
        go_wp2_with fail
        go_meet
        case rel=>exact⟨rfl,1,rfl⟩
       case rest=>
        obtain⟨rfl,nq,rfl⟩:=hcut;clear c0 d0 a1 J;cases hm:memB q y with
        |true=>
         have t:=aa (Y.out.yes HQ.out hm);have t0:(wr.drewN nq).cell? (aD U k)=some (.int .u8 (if k<k/\memB q y=true then 1 else 0)):=(P.out.drewN nq).cell k |>.trans (Y.out.2 k q HQ.out);have t1:=(P.out.drewN nq).frozen k;have l2:Hid (Below U Wb (wr.drewN nq)):=aR a3.out;have n7:U<(wr.drewN nq).heap.size:=g4;clear hm;go_wp2_with fail
         go_roundw
         case rel=>exact⟨k+1,_,by go_num,by omega,(P.out.drewN nq).set k _,t.out,l2.out.setCell (p:=(aD U k)) (zA _) _⟩
         case measure=>simp[intOf];omega
        |false=>
         have t:=aa (Y.out.no HQ.out hm);clear hm;go_wp2_with fail
         go_roundw
         case rel=>exact⟨k+1,cs,by go_num,by omega,P.out.drewN nq,t.out,aR a3.out⟩
         case measure=>simp[intOf];omega
      ·have k2:decide ((k:Int)<(qs.length:Int))=false:=zI (by omega);obtain rfl:k=qs.length:=by omega
       have c8:Hid (∀w',Bw wr w'->(convert 93 9 (Vs U qs.length qs.length)).run prog w'=.ok (.string ⟨(eL qs y).toArray⟩) w'):=λw' h=>Y.out.conv (P.out.below h);obtain⟨V,hV⟩:∃V,wr=V:=⟨_,rfl⟩;have O:Hid (V.ownsRow f.heap.size 9 1 (.slice l0 c.length g3) c.length (qZ (c.map (eL qs)))):=by
        show V.ownsRow _ _ _ _ _ _
        rw[<-hV];exact bP (bg d3.out (by show Below _ _ _;rw[hU];exact a4.out)) λg e=>a3.out.block g (by have:=(d3.out.lt g e).2;omega)
       have b6:Hid (V.ownsRow f.heap.size 3 1 (.slice g7 c.length c3) c.length (bj c)):=by
        show V.ownsRow _ _ _ _ _ _
        rw[<-hV];exact bP (bg b1.out (by show Below _ _ _;rw[hU];exact a4.out)) λg e=>a3.out.block g (by have:=(b1.out.lt g e).2;omega)
       rw[hV]at c8 M g4 ⊢;clear hV P Y a3 j8 d3 b1 k2 k1 e7 o;go_wp2_with fail
       go_loopw [12,13] (λbv kv wz=>∃(k:Nat) (bo:Bool),bv=.bool bo/\kv=Vi k/\k<=c.length/\(bo=true↔∃z∈c.take k,eL qs z=eL qs y)/\Bw V wz) (λ_ kv _=>c.length-(intOf kv).toNat)
       case atStart=>exact⟨0,false,rfl,rfl,zW _,⟨λh=>(by cases h),λ⟨z,h,_⟩=>by simp at h⟩,zE _ _⟩
       case round=>
        obtain⟨k,bo,rfl,rfl,e7,j1,g0⟩:=hrel;have b0:=aa j1;have E:=aa g0;have k1:(0:Int)<=(k:Int):=zK _;clear j1 g0;by_cases o:k<c.length
        ·have k2:(k:Int)<(c.length:Int):=by omega
         obtain⟨z,hz⟩:∃z,c[k]?=some z:=⟨_,zB o⟩;obtain⟨bs,j5,rfl,_,Q,hc⟩:=(iQ O.out) k (.string ⟨(eL qs z).toArray⟩) (by unfold qZ;rw[zg,zg,hz];rfl);obtain⟨_,_,r⟩:=kf O.out;obtain⟨g9,l7⟩:=r _ rfl;injection l7 with e1 e2;subst e1 e2;have c0:wr.cell? (aD bs k)=some (.string ⟨(eL qs z).toArray⟩):=(E.out.cell (p:=(aD bs k)) Q).trans (by simpa using hc);have m2:bs<wr.heap.size:=zF Q E.out.size;have a0:Hid (c.take (k+1)=c.take k++[z]):=by show _=_;rw[zi,hz];rfl
         clear hz hc r;have h6:∀n,(convert 93 9 (Vs U qs.length qs.length)).run prog (wr.drewN n)=.ok (.string ⟨(eL qs y).toArray⟩) (wr.drewN n):=λn=>c8.out _ (aR E.out);go_upto_region 27 with fail;cases bo with
         |true=>
          go_quiet (fail)
          go_wp2_with fail
          go_roundw
          case rel=>exact⟨k+1,true,rfl,by go_num,by omega,⟨λ_=>by obtain⟨x,l,m⟩:=b0.out.1 rfl;exact⟨x,by rw[a0.out];exact yq _ l,m⟩,λ_=>rfl⟩,aR E.out⟩
          case measure=>simp[intOf];omega
         |false=>
          go_quiet (fail)
          go_wp2_with fail
          go_roundw
          case rel=>exact⟨k+1,_,rfl,by go_num,by omega,by
           rw[a0.out];constructor
           ·intro h;exact⟨z,by simp,JI (by simpa using h)⟩
           ·rintro⟨x,l,m⟩;rcases zM.1 l with l|l
            ·have:=b0.out.2 ⟨x,l,m⟩;cases this
            ·simp at l;subst l;simp[m],aR E.out⟩
          case measure=>simp[intOf];omega
        ·have k2:decide ((k:Int)<(c.length:Int))=false:=zI (by omega);obtain rfl:k=c.length:=by omega
         obtain⟨V2,Z⟩:∃V2,wr=V2:=⟨_,rfl⟩;have c9:Hid (Bw f V2):=by show Below _ _ _;rw[<-Z];exact bL M.out E.out
         have N:Hid (Bw V V2):=by show Below _ _ _;rw[<-Z];exact E.out
         have h6:(convert 93 9 (Vs U qs.length qs.length)).run prog V2=.ok (.string ⟨(eL qs y).toArray⟩) V2:=by rw[<-Z];exact c8.out _ E.out
         rw[Z];have i6:Hid (bo=true↔∃z∈c,eL qs z=eL qs y):=by have:=b0.out;rw[zQ]at this;exact this
         have n1:f.heap.size<=V2.heap.size:=c9.out.size;clear Z b0;cases bo with
         |true=>
          obtain⟨z,k7,k6⟩:=i6.out.1 rfl;have HN:=aa (e6.out.old s.out.srt HY.out k7 k6);clear h6;go_wp2_with fail
          go_roundw
          case rel=>exact⟨i+1,c,by go_num,by omega,bg b6.out N.out,bg O.out N.out,e5.out,HN.out,by omega,c9.out⟩
          case measure=>simp[intOf];omega
         |false=>
          have HN:=aa (e6.out.new s.out.srt HY.out);obtain⟨U3,j9,J,e4,-⟩:=dS (rfl:V2.heap.size=_) [.string ⟨(eL qs y).toArray⟩] 9;replace J:Below _ _ U3:=J;replace e4:=aa e4;have k9:=aa j9;have b7:=aa (bg (bg O.out N.out) J);have c1:=aa (bg (bg b6.out N.out) J);have c7:Hid (Bw f U3):=bL c9.out J;have m9:c.length<=400001:=by omega
          clear j9 J k2;have k2:decide ((c.length:Int)<(c.length:Int))=false:=zI (by omega);go_upto_region 30 with (at_builtin;rw[k9.out];refine jg rfl (.tmp 106) (.tmp 109) 81 9 i9 _ 1 16 rfl underlying81 l8 h7 f9 j0 rfl (by decide) f.heap.size c.length _ _ rfl b7.out _ 1 _ [.string ⟨(eL qs y).toArray⟩] rfl rfl (by decide) (λj u hj=>by rw[zl,zf,e4.out.cell];exact hj) (λu hu=>by simp at hu;subst hu;rfl) (by unfold maxLen;omega) (by omega) c7.out.size ?_;intro v4 w4 a7 c4 b5;have HF:=aa (And.intro a7 (And.intro c4 b5));clear a7 c4 b5);have S:Hid (Bw f w4):=cD c7.out c7.out.size b7.out HF.out.2.1;have i8:=aa (oR c1.out HF.out.2.1 e5.out);have b9:Hid (∀g,Value.ownBlock (.slice g7 c.length c3)=some g->v4.ownBlock≠some g):=λg l m=>by
           rcases HF.out.2.2 with h|h
           ·rw[h]at m;exact e5.out g l m
           ·have h3:=h g m;have h4:=(c1.out.lt g l).2;omega
          obtain⟨b3,rfl,J,d0⟩:=f0.out i y w4 HY.out S.out;obtain⟨U6,g2,L,d6,-⟩:=dS (rfl:w4.heap.size=_) [Vi y] 3;replace L:Below _ _ U6:=L;replace d6:=aa d6;have k3:=aa g2;have b8:=aa (bg i8.out L);have c2:=aa (bg HF.out.1 L);have d7:Hid (Bw f U6):=bL S.out L;clear g2 L;go_wp2_with (at_builtin;rw[k3.out];refine jg rfl (.tmp 111) (.tmp 116) 61 3 i3 _ 1 8 rfl underlying61 l3 f6 e9 f5 rfl (by decide) f.heap.size c.length _ _ rfl b8.out _ 1 _ [Vi y] rfl rfl (by decide) (λj u hj=>by rw[zl,zf,d6.out.cell];exact hj) (λu hu=>by simp at hu;subst hu;rfl) (by unfold maxLen;omega) (by omega) d7.out.size ?_;intro v7 w7 X b4 b2;have a9:=aa (And.intro X (And.intro b4 b2));clear X b4 b2);have f8:Hid (∀g,v7.ownBlock=some g->v4.ownBlock≠some g):=λg l m=>by
           rcases a9.out.2.2 with h|h
           ·rw[h]at l;exact b9.out g l m
           ·have h3:=h g l;have h4:=(c2.out.lt g m).2;omega
          go_roundw
          case rel=>exact⟨i+1,c++[y],by go_num,by omega,by simpa [bj]using a9.out.1,by have h9:=oR c2.out a9.out.2.1 (λg l m=>b9.out g m l);simpa [qZ]using h9,f8.out,HN.out,by simp;omega,cD d7.out d7.out.size b8.out a9.out.2.1⟩
          case measure=>simp[intOf];omega
    ·have i2:decide ((i:Int)<(a.length:Int))=false:=zI (by omega);obtain rfl:i=a.length:=by omega
     have HF:=aa (e6.out.done s.out);go_wp2_with fail;go_ret;exact⟨_,c,rfl,ij b1.out D,HF.out,by have:=C.out;omega,F.out.trans (g6.out.mono D)⟩
def rM (L:Lg)(u:List Int):Lg:=λz=>L (u++z)
theorem Df (L:Lg)(u:LZ)(r:Int):aX (rM L u) r=rM L (u++[r]):=by
 funext z;simp[aX,rM]
def DS (D:List Int->Prop)(v:List Int):Prop:=∃o,ef o/\bY o v=true/\∀z,D (o++z)↔D (v++z)
structure Lv (D:List Int->Prop)(N n:Nat)(ws:List (List Int)):Prop where
 len:∀x∈ws,x.length=n
 val:∀x∈ws,ef x
 srt:ws.Pairwise λx y=>bY x y=true
 path:∀m,cX D N m->∃x∈ws,∃z,m=x++z
variable {D:List Int->Prop} {N n:Nat} {ws:List (List Int)}
theorem Lv.start:Lv D N 0 [[]]:=⟨λx h=>by simp at h;subst h;rfl,λx h=>by simp at h;subst h;intro r a;simp at a,by simp,λm _=>⟨[],by simp,m,rfl⟩⟩
theorem Um (h:bY u v=true):u.length<=v.length:=by
 rw[fI]at h;omega
theorem Lv.found (h:Lv D N n ws)(hn:n<=N)(hi:ws[i]?=some u)(hd:D u)(hno:∀x∈ws.take i,¬D x):cX D N u:=by
 have a:=zU hi;refine⟨h.val u a,hd,by rw[h.len u a];exact hn,λs y v C=>?_⟩;obtain⟨m,d,w⟩:=rn y v C;obtain⟨x,q,z,rfl⟩:=h.path m d;have o:bY x u=false:=by
  by_cases p:z=[]
  ·subst p;rw[zx]at d;obtain⟨j,b⟩:=List.getElem?_of_mem q;have c:=(zC.1 b).1;have e:=(zC.1 hi).1;rcases Nat.lt_trichotomy j i with k|l|g
   ·have:x∈ws.take i:=zU (i:=j) (by rw[List.getElem?_take_of_lt k];exact b);exact absurd d.2.1 (hno x this)
   ·subst l;rw[hi]at b;injection b with b;subst b;exact eC.irr _
   ·have f:=yX.1 h.srt i j e c g;have A:ws[i]=u:=yT ((zB e).symm.trans hi);have t:ws[j]=x:=yT ((zB c).symm.trans b);rw[A,t]at f;exact eC.as _ _ f
  ·cases hc:bY x u with
   |false=>rfl
   |true=>
    have f:=d.2.2.2 u (h.val u a) hd (by rw[h.len u a];exact hn);rw[gE]at f;have G:=h.len x q;have F:=h.len u a;have E:0<z.length:=List.length_pos_iff.2 p;have B:bY u (x++z)=true:=by
     rw[fI]
     left
     rw[zH];omega
    have r:=d.2.2.2 u (h.val u a) hd (by rw[h.len u a];exact hn);rw[B]at r;cases r
 exact eC.tr _ _ _ o (eC.tr _ _ _ (pH (x:=x) (z:=z)) w)
theorem Lv.none (h:Lv D N N ws)(hno:∀x∈ws,¬D x):∀s,ef s->s.length<=N->¬D s:=λs c e f=>by
 obtain⟨m,a,_⟩:=rn c f e;obtain⟨x,b,z,rfl⟩:=h.path m a;have d:=a.2.2.1;have i:=h.len x b;rw[zH]at d;have g:z=[]:=yf (by omega);subst g;rw[zx]at a;exact hno x b a.2.1
def kW (ws:List (List Int))(Al:List Int)(i k:Nat)(v:List Int):Prop:=(∃x∈ws.take i,∃r∈Al,v=x++[r])\/∃x,ws[i]?=some x/\∃r∈Al.take k,v=x++[r]
structure Nx (D:List Int->Prop)(ws:List (List Int))(Al:List Int)(i k:Nat)(nx:List (List Int)):Prop where
 mem:∀v∈nx,kW ws Al i k v
 srt:nx.Pairwise λx y=>bY x y=true
 all:∀v,kW ws Al i k v->v∈nx\/DS D v
variable {Al:List Int} {i k:Nat} {nx:List (List Int)}
theorem Un :¬kW ws Al 0 0 v:=by
 rintro (⟨x,h,_⟩|⟨x,_,r,h,_⟩)
 ·simp at h
 ·simp at h
theorem Nx.start:Nx D ws Al 0 0 []:=⟨λv h=>by simp at h,by simp,λv h=>absurd h Un⟩
theorem lK {x:LZ}(hx:ws[i]?=some x)(hr:Al[k]?=some r):kW ws Al i (k+1) v↔kW ws Al i k v\/v=x++[r]:=by
 have e:Al.take (k+1)=Al.take k++[r]:=by rw[zi,hr];rfl
 unfold kW;rw[e];constructor
 ·rintro (h|⟨y,b,q,a,c⟩)
  ·exact .inl (.inl h)
  ·rcases zM.1 a with a|a
   ·exact .inl (.inr ⟨y,b,q,a,c⟩)
   ·simp at a;subst a;rw[hx]at b;injection b with b;subst b;exact .inr c
 ·rintro ((h|⟨y,b,q,a,c⟩)|h)
  ·exact .inl h
  ·exact .inr ⟨y,b,q,yq _ a,c⟩
  ·exact .inr ⟨x,hx,r,List.mem_append_right _ (by simp),h⟩
theorem xi {x:LZ}(hx:ws[i]?=some x):kW ws Al (i+1) 0 v↔kW ws Al i Al.length v:=by
 have e:ws.take (i+1)=ws.take i++[x]:=by rw[zi,hx];rfl
 unfold kW;rw[e,zQ];constructor
 ·rintro (⟨y,a,r,b,c⟩|⟨y,_,r,b,_⟩)
  ·rcases zM.1 a with a|a
   ·exact .inl ⟨y,a,r,b,c⟩
   ·simp at a;subst a;exact .inr ⟨y,hx,r,b,c⟩
  ·simp at b
 ·rintro (⟨y,a,r,b,c⟩|⟨y,a,r,b,c⟩)
  ·exact .inl ⟨y,yq _ a,r,b,c⟩
  ·rw[hx]at a;injection a with a;subst a;exact .inl ⟨x,List.mem_append_right _ (by simp),r,b,c⟩
theorem Dg:∀(s t a b:LZ),s.length=t.length->cH s t=true->cH (s++a) (t++b)=true
 | [],[],_,_,_,h=>by simp[cH]at h
 | [],_::_,_,_,h,_=>by simp at h
 |_::_,[],_,_,h,_=>by simp at h
 |c::s,d::t,a,b,hl,h=>by
  simp only[cH,zV,yZ,yP,zY]at h ⊢;rcases h with h|⟨e,h⟩
  ·exact .inl h
  ·exact .inr ⟨e,Dg s t a b (by simpa using hl) h⟩
theorem Dh:∀(s:LZ) (a b:Int),a<b->cH (s++[a]) (s++[b])=true
 | [],a,b,h=>by simp[cH,h]
 |c::s,a,b,h=>by
  have:=Dh s a b h;simp only[cH,zV,yZ,yP,zY];exact .inr ⟨trivial,this⟩
theorem GN {x:LZ}(h:Lv D N n ws)(hA:Al.Pairwise (·<·))(hx:ws[i]?=some x)(hr:Al[k]?=some r)(hv:kW ws Al i k v):bY v (x++[r])=true:=by
 have l:=zU hx;have f:=(zC.1 hx).1;have t:ws[i]=x:=yT ((zB f).symm.trans hx);rw[fI]
 right
 rcases hv with⟨y,e,q,p,rfl⟩|⟨y,e,q,p,rfl⟩
 ·obtain⟨j,b⟩:=List.getElem?_of_mem e;have d:=(zC.1 b).1;rw[yn]at d;rw[List.getElem?_take_of_lt (by omega)]at b;have a:=(zC.1 b).1;have s:ws[j]=y:=yT ((zB a).symm.trans b);have c:=yX.1 h.srt j i a f (by omega);rw[t,s]at c;have o:=h.len x l;have m:=h.len y (zU b);rw[fI]at c;refine⟨by simp;omega,Dg _ _ _ _ (by omega) ?_⟩;rcases c with c|c
  ·omega
  ·exact c.2
 ·rw[hx]at e;injection e with e;subst e;refine⟨by simp,Dh _ _ _ ?_⟩;obtain⟨j,b⟩:=List.getElem?_of_mem p;have d:=(zC.1 b).1;rw[yn]at d;rw[List.getElem?_take_of_lt (by omega)]at b;have a:=(zC.1 b).1;have g:=(zC.1 hr).1;have c:=yX.1 hA j k a g (by omega);have o:Al[j]=q:=yT ((zB a).symm.trans b);have m:Al[k]=r:=yT ((zB g).symm.trans hr);rw[o,m]at c;exact c
theorem Nx.keep {x:LZ}(h:Nx D ws Al i k nx)(hl:Lv D N n ws)(hA:Al.Pairwise (·<·))(hx:ws[i]?=some x)(hr:Al[k]?=some r):Nx D ws Al i (k+1) (nx++[x++[r]]):=by
 refine⟨λv c=>(lK hx hr).2 ?_,?_,λv c=>?_⟩
 ·rcases zM.1 c with c|c
  ·exact .inl (h.mem v c)
  ·exact .inr (by simpa using c)
 ·rw[yA];refine⟨h.srt,by simp,λa f b e=>?_⟩;simp at e;subst e;exact GN hl hA hx hr (h.mem a f)
 ·rcases (lK hx hr).1 c with c|rfl
  ·rcases h.all v c with d|d
   ·exact .inl (yq _ d)
   ·exact .inr d
  ·exact .inl (by simp)
theorem Nx.drop {x:LZ}(h:Nx D ws Al i k nx)(hx:ws[i]?=some x)(hr:Al[k]?=some r)(hd:DS D (x++[r])):Nx D ws Al i (k+1) nx:=by
 refine⟨λv a=>(lK hx hr).2 (.inl (h.mem v a)),h.srt,λv a=>?_⟩;rcases (lK hx hr).1 a with a|rfl
 ·exact h.all v a
 ·exact .inr hd
theorem Nx.next {x:LZ}(h:Nx D ws Al i Al.length nx)(hx:ws[i]?=some x):Nx D ws Al (i+1) 0 nx:=⟨λv a=>(xi hx).2 (h.mem v a),h.srt,λv a=>h.all v ((xi hx).1 a)⟩
theorem Nx.done (h:Nx D ws Al ws.length 0 nx)(hl:Lv D N n ws)(hno:∀x∈ws,¬D x)(hV:∀r∈Al,runeB r=true)(hAl:∀m,cX D N m->∀r∈m,r∈Al):Lv D N (n+1) nx:=by
 have f:∀v,kW ws Al ws.length 0 v->∃x∈ws,∃r∈Al,v=x++[r]:=by
  rintro v (⟨x,b,r,d,i⟩|⟨x,_,r,d,_⟩)
  ·rw[zQ]at b;exact⟨x,b,r,d,i⟩
  ·simp at d
 refine⟨λv g=>?_,λv g=>?_,h.srt,λm c=>?_⟩
 ·obtain⟨x,b,r,d,rfl⟩:=f v (h.mem v g);rw[zH,hl.len x b];rfl
 ·obtain⟨x,b,r,d,rfl⟩:=f v (h.mem v g);intro q a;rcases zM.1 a with a|a
  ·exact hl.val x b q a
  ·simp at a;subst a;exact hV q d
 ·obtain⟨x,l,z,rfl⟩:=hl.path m c;cases z with
  |nil=>rw[zx]at c;exact absurd c.2.1 (hno x l)
  |cons r z=>
   have t:=hAl _ c r (by simp);have g:kW ws Al ws.length 0 (x++[r]):=.inl ⟨x,by rw[zQ];exact l,r,t,rfl⟩;rcases h.all _ g with b|⟨o,b,d,i⟩
   ·exact⟨_,b,z,by simp⟩
   ·have e:x++r::z=(x++[r])++z:=by simp
    rw[e]at c;have j:=vv z d;have p:ef (o++z):=λq a=>by
     rcases zM.1 a with a|a
     ·exact b q a
     ·exact c.1 q (by simp[a])
    have s:=Um j;have k:=c.2.2.2 (o++z) p ((i z).2 c.2.1) (zJ s c.2.2.1);rw[j]at k;cases k
theorem rN (n:Int):∀b∈dN n,b≠47:=by
 intro b a;rcases wh b a with h|h
 ·intro e;subst e;unfold sL at h;exact absurd h.1 (by decide)
 ·subst h;decide
theorem Qx (x:Int×Int):∀b∈eJ x,b≠47:=by
 intro b a;simp only[eJ,zO,zM]at a;rcases a with rfl|a|rfl|a
 ·decide
 ·exact rN _ b a
 ·decide
 ·exact rN _ b a
mutual
theorem jd:∀t:Tm,∀b∈t.key,b≠47
 |.none=>by intro b e;simp[Tm.key]at e;subst e;decide
 |.empty=>by intro b e;simp[Tm.key]at e;subst e;decide
 |.set q=>by
  intro b e;simp only[Tm.key,zO,xL]at e;rcases e with rfl|⟨x,_,e⟩
  ·decide
  ·exact Qx x b e
 |.row a b=>by
  intro c d;have f:=jd a;have g:=jd b;simp only[Tm.key,cU,zO,zM,xD,or_false]at d;rcases d with rfl|(rfl|d|rfl)|rfl|d|rfl
  ·decide
  ·decide
  ·exact f c d
  ·decide
  ·decide
  ·exact g c d
  ·decide
 |.or l=>by
  intro c d;simp only[Tm.key,zO]at d;rcases d with rfl|d
  ·decide
  ·exact rO l c d
 |.and l=>by
  intro c d;simp only[Tm.key,zO]at d;rcases d with rfl|d
  ·decide
  ·exact rO l c d
 |.not t=>by
  intro c d;have f:=jd t;simp only[Tm.key,cU,zO,zM,xD,or_false]at d;rcases d with rfl|rfl|d|rfl
  ·decide
  ·decide
  ·exact f c d
  ·decide
 |.many t m n=>by
  intro c d;have f:=jd t;simp only[Tm.key,cU,zO,zM,xD,or_false]at d;rcases d with rfl|d|rfl|d|rfl|d|rfl
  ·decide
  ·exact rN m c d
  ·decide
  ·exact rN n c d
  ·decide
  ·exact f c d
  ·decide
theorem rO:∀l:List Tm,∀b∈ju l,b≠47
 | [],b,a=>by simp[ju]at a
 |t::l,b,a=>by
  have d:=jd t;have c:=rO l;simp only[ju,cU,zO,zM,xD,or_false]at a;rcases a with (rfl|a|rfl)|a
  ·decide
  ·exact d b a
  ·decide
  ·exact c b a
end
theorem Uo {a b c d:Tm}(ha:a.Ok)(hb:b.Ok)(hc:c.Ok)(hd:d.Ok)(h:a.key++47::b.key=c.key++47::d.key):a=c/\b=d:=by
 obtain⟨g,f⟩:=Jh (P:=λx=>x≠47) (jd a) (jd c) (λx t e k=>by injection e with e _;exact k e.symm) (λx t e k=>by injection e with e _;exact k e.symm) h;injection f with _ f;exact⟨nL ha hc g,nL hb hd f⟩
structure Stp where
 a:Tm
 b:Tm
 u:List Int
def lz:Nat->Nat
 |0=>61
 |n+1=>bZ (lz n)
def Cw:Nat->Nat
 |0=>12420
 |n+1=>lz n*Cw n
theorem Js:∀n,n<=2->lz n*Cw n<=3000000000000000000/\bZ (lz n)<=2000000000000
 |0,_=>by decide
 |1,_=>by decide
 |2,_=>by decide
 |_+3,h=>by omega
theorem Jt:∀n,n<=3->Cw n<=3000000000000000000
 |0,_=>by decide
 |1,_=>by decide
 |2,_=>by decide
 |3,_=>(Js 2 (by omega)).1
 |_+4,h=>by omega
def enc (u:List Int):List UInt8:=u.flatMap Lib.encodeRune
theorem SB (u:LZ)(r:Int):enc (u++[r])=enc u++Lib.encodeRune r:=by simp[enc]
structure StG (LA LB:Lg)(n:Nat)(s:Stp):Prop where
 oa:s.a.Ok
 ob:s.b.Ok
 la:s.a.L=rM LA s.u
 lb:s.b.L=rM LB s.u
 za:s.a.z<=lz n
 zb:s.b.z<=lz n
 ta:s.a.tl<=Cw n
 tb:s.b.tl<=Cw n
 vl:ef s.u
 ln:s.u.length=n
def oL (w:World)(A:Nat->Prop)(s:Stp)(c:List Value):Prop:=∃ca cb str,c=ca++cb++[.string str]/\aj w A s.a ca/\aj w A s.b cb/\af str=enc s.u
def eY (w:World)(A:Nat->Prop):List Stp->List Value->Prop
 | [],xs=>xs=[]
 |s::l,xs=>∃c r,xs=c++r/\oL w A s c/\eY w A l r
theorem oL.keep {A:NP}{w w':World}(k:ah A w w'){s:Stp}{c:LV}(h:oL w A s c):oL w' A s c:=by
 obtain⟨f,b,a,e,d,g,i⟩:=h;exact⟨f,b,a,e,aj.keep k _ _ d,aj.keep k _ _ g,i⟩
theorem eY.keep {A:NP}{w w':World}(k:ah A w w'):∀{l:List Stp} {xs:LV},eY w A l xs->eY w' A l xs
 | [],_,h=>h
 |_::_,_,h=>by obtain⟨c,r,e,a,b⟩:=h;exact⟨c,r,e,a.keep k,eY.keep k b⟩
theorem oL.mono {A A':NP}{w:World}(k:∀g,g<w.heap.size->A g->A' g){s:Stp}{c:LV}(h:oL w A s c):oL w A' s c:=by
 obtain⟨f,b,a,e,d,i,j⟩:=h;exact⟨f,b,a,e,aj.mono k _ _ d,aj.mono k _ _ i,j⟩
theorem eY.mono {A A':NP}{w:World}(k:∀g,g<w.heap.size->A g->A' g):∀{l:List Stp} {xs:LV},eY w A l xs->eY w A' l xs
 | [],_,h=>h
 |_::_,_,h=>by obtain⟨c,r,e,a,b⟩:=h;exact⟨c,r,e,a.mono k,eY.mono k b⟩
theorem eY.below {A:NP}{w w':World}(k:Bw w w'){l:List Stp}{xs:LV}(h:eY w A l xs):eY w' A l xs:=h.keep (ah.below k)
theorem oL.len {A:NP}{w:World}{s:Stp}{c:LV}(h:oL w A s c):c.length=13:=by
 obtain⟨f,e,b,rfl,a,d,_⟩:=h;simp[a.len,d.len]
theorem eY.append {A:NP}{w:World}:∀{l m:List Stp} {xs ys:LV},eY w A l xs->eY w A m ys->eY w A (l++m) (xs++ys)
 | [],_,_,_,h,k=>by rw[show _=[]from h];exact k
 |s::l,m,_,ys,h,k=>by
  obtain⟨c,r,rfl,a,b⟩:=h;exact⟨c,r++ys,by rw[zc],a,eY.append b k⟩
theorem eY.one {s:Stp}(h:oL w A s c):eY w A [s] c:=⟨c,[],by simp,h,rfl⟩
theorem eY.at {A:NP}{w:World}:∀{l:List Stp} {xs:LV},eY w A l xs->∀{i:Nat} {s:Stp},l[i]?=some s->∃c,oL w A s c/\∀j,j<13->xs[13*i+j]?=c[j]?
 | [],_,_,i,s,hi=>by simp at hi
 |_::l,_,h,0,s,hi=>by
  obtain⟨c,r,rfl,a,e⟩:=h;simp at hi;subst hi;refine⟨c,a,λj b=>?_⟩;rw[Nat.mul_zero,zf,yY (by rw[a.len];exact b)]
 |_::l,_,h,i+1,s,hi=>by
  obtain⟨c,r,rfl,a,e⟩:=h;obtain⟨d,f,g⟩:=eY.at e (i:=i) (s:=s) (by simpa using hi);refine⟨d,f,λj b=>?_⟩;rw[<-g j b,yk (by rw[a.len];omega),a.len];congr 1;omega
theorem cg.step {l:List Stp}(hr:cg w A lo xs)(hl:eY w A' l xs){s:Stp}(hi:l[i]?=some s):∃b off c,lo=some (aD b off)/\A b/\b<w.heap.size/\oL w A' s c/\∀j v,c[j]?=some v->w.cell? ⟨b,off+i*13+j,none⟩=some v:=by
 obtain⟨c,g,k⟩:=hl.at hi;have n:∃v,c[0]?=some v:=⟨_,zB (by rw[g.len];decide)⟩;obtain⟨q,f⟩:=n;obtain⟨b,off,e,p,r,_⟩:=hr (13*i+0) q (by rw[k 0 (by decide)];exact f);refine⟨b,off,c,e,p,r,g,λj v h=>?_⟩;have d:j<13:=by have:=(zC.1 h).1;rw[g.len]at this;exact this
 obtain⟨t,m,a,_,_,o⟩:=hr (13*i+j) v (by rw[k j d];exact h);rw[e]at a;injection a with a;injection a with e1 e2;subst e1 e2;rw[show off+i*13+j=off+(13*i+j) by omega];exact o
theorem eY.ones {A:NP}{w:World}:∀{l:List Stp} {xs:LV},eY w A l xs->∀u∈xs,u.oneCell'=true
 | [],_,h=>by rw[show _=[]from h];simp
 |s::l,_,h=>by
  obtain⟨c,r,rfl,⟨k,j,e,rfl,d,f,_⟩,g⟩:=h;have i:=aO.ones (aO.one d);have b:=aO.ones (aO.one f);intro u a;rcases zM.1 a with a|a
  ·rcases zM.1 a with a|a
   ·rcases zM.1 a with a|a
    ·exact i u a
    ·exact b u a
   ·simp at a;subst a;rfl
  ·exact eY.ones g u a
def KK (S:Nat)(A:Nat->Prop)(nv sv:Value)(g:Nat):Prop:=(A g\/S<=g)/\nv.ownBlock≠some g/\sv.ownBlock≠some g
structure Mem (S:Nat)(A:Nat->Prop)(w wr:World)(lon:Option Addr)(ss:List Stp)(xs:List Value)(nv:Value)(sx:List Stp)(ys:List Value)(sv:Value)(ks:List (List UInt8)):Prop where
 now:cg wr (KK S A nv sv) lon xs
 nowt:eY wr (KK S A nv sv) ss xs
 nx:wr.ownsRow S 79 13 nv sx.length ys
 nxt:eY wr (KK S A nv sv) sx ys
 seen:wr.ownsRow S 9 1 sv ks.length (qZ ks)
 ne:∀g,nv.ownBlock=some g->sv.ownBlock≠some g
 bel:Below S w wr
variable {S:Nat} {A:Nat->Prop} {w wr:World} {lon:Option Addr} {ss sx:List Stp} {xs ys:List Value} {nv sv:Value} {ks:List (List UInt8)}
theorem Mem.below {w':World}(h:Mem S A w wr lon ss xs nv sx ys sv ks)(k:Bw wr w')(hS:S<=wr.heap.size):Mem S A w w' lon ss xs nv sx ys sv ks :=
 ⟨h.now.below k,h.nowt.below k,bg h.nx k,h.nxt.below k,bg h.seen k,h.ne,h.bel.trans (k.mono hS)⟩
theorem Mem.size (h:Mem S A w wr lon ss xs nv sx ys sv ks)(hS:S<=w.heap.size):S<=wr.heap.size:=zJ hS h.bel.size
theorem Mem.turn {lo2:OA}{cap2:Nat}(h:Mem S A w wr lon ss xs (.slice lo2 sx.length cap2) sx ys sv ks):Mem S A w wr lo2 sx ys (Vz) [] [] sv ks:=by
 refine⟨?_,?_,zZ _ _ _ _,rfl,h.seen,λg e=>(by cases e),h.bel⟩
 ·intro j v d;obtain⟨b,a,e,i,k,f⟩:=iQ h.nx j v d;subst e;exact⟨b,a,rfl,⟨.inr i,by simp[Value.ownBlock],h.ne b rfl⟩,k,f⟩
 ·exact h.nxt.mono λg _ c=>⟨c.1,by simp[Value.ownBlock],c.2.2⟩
theorem Mem.name {key:List UInt8}(h:Mem S A w U3 lon ss xs nv sx ys sv ks)(ho:w4.ownsRow S 9 1 v4 (ks.length+1) (qZ ks++[.string ⟨key.toArray⟩]))(hg:U3.grownBy w4 sv.ownBlock)(hm:v4.ownBlock=sv.ownBlock\/∀g,v4.ownBlock=some g->U3.heap.size<=g)(hS:S<=U3.heap.size):Mem S A w w4 lon ss xs nv sx ys v4 (ks++[key]):=by
 have b:∀g,g<U3.heap.size->sv.ownBlock≠some g->v4.ownBlock≠some g:=λg a f e=>by
  rcases hm with i|i
  ·rw[i]at e;exact f e
  ·have:=i g e;omega
 have l:ah (KK S A nv sv) U3 w4:=⟨hg.size,λg a j=>hg.block g a (λe=>j.2.2 e.symm)⟩;have k:∀g,g<U3.heap.size->KK S A nv sv g->KK S A nv sv g/\KK S A nv v4 g:=λg a d=>⟨d,d.1,d.2.1,b g a d.2.2⟩;have c:ah (λg=>KK S A nv sv g/\KK S A nv v4 g) U3 w4:=⟨hg.size,λg a j=>l.2 g a j.1⟩;refine⟨((h.now.mono k).keep c).mono λg _ hg=>hg.2,((h.nowt.mono k).keep c).mono λg _ hg=>hg.2,oR h.nx hg h.ne,((h.nxt.mono k).keep c).mono λg _ hg=>hg.2,?_,λg e=>b g (h.nx.lt g e).2 (h.ne g e),cD h.bel hS h.seen hg⟩;simpa [qZ]using ho
theorem Mem.step {s:Stp}(h:Mem S A w U3 lon ss xs nv sx ys sv ks)(ho:w4.ownsRow S 79 13 v4 (sx.length+1) (ys++c))(hg:U3.grownBy w4 nv.ownBlock)(hm:v4.ownBlock=nv.ownBlock\/∀g,v4.ownBlock=some g->U3.heap.size<=g)(hS:S<=U3.heap.size)(hs:oL U3 (KK S A nv sv) s c):Mem S A w w4 lon ss xs v4 (sx++[s]) (ys++c) sv ks:=by
 have b:∀g,g<U3.heap.size->nv.ownBlock≠some g->v4.ownBlock≠some g:=λg a k e=>by
  rcases hm with d|d
  ·rw[d]at e;exact k e
  ·have:=d g e;omega
 have n:ah (KK S A nv sv) U3 w4:=⟨hg.size,λg a l=>hg.block g a (λe=>l.2.1 e.symm)⟩;have m:∀g,g<U3.heap.size->KK S A nv sv g->KK S A nv sv g/\KK S A v4 sv g:=λg a j=>⟨j,j.1,b g a j.2.1,j.2.2⟩;have f:ah (λg=>KK S A nv sv g/\KK S A v4 sv g) U3 w4:=⟨hg.size,λg a l=>n.2 g a l.1⟩;refine⟨((h.now.mono m).keep f).mono λg _ hg=>hg.2,((h.nowt.mono m).keep f).mono λg _ hg=>hg.2,by simpa using ho,(((h.nxt.append (eY.one hs)).mono m).keep f).mono λg _ hg=>hg.2,oR h.seen hg (λg d i=>h.ne g i d),λg d i=>?_,cD h.bel hS h.nx hg⟩;exact b g (h.seen.lt g i).2 (λe=>h.ne g e i) d
def eE (LA LB:Lg)(P:List Int->Prop)(ks:List (List UInt8)):Prop:=∀key∈ks,∃(a b:Tm) (o:List Int),a.Ok/\b.Ok/\key=a.key++47::b.key/\a.L=rM LA o/\b.L=rM LB o/\ef o/\P o
theorem eE.more {Q:List Int->Prop}(h:eE LA LB P ks)(k:∀o,P o->Q o):eE LA LB Q ks:=λc l=>by
 obtain⟨a,b,o,f,i,m,g,j,d,e⟩:=h c l;exact⟨a,b,o,f,i,m,g,j,d,k o e⟩
theorem eE.add {s:Stp}(h:eE LA LB P ks)(hs:StG LA LB n s)(hp:P s.u):eE LA LB P (ks++[s.a.key++47::s.b.key]):=λb a=>by
 rcases zM.1 a with a|a
 ·exact h b a
 ·simp at a;subst a;exact⟨s.a,s.b,s.u,hs.oa,hs.ob,rfl,hs.la,hs.lb,hs.vl,hp⟩
theorem eE.dead {s:Stp}(h:eE LA LB P ks)(hs:StG LA LB n s)(hk:s.a.key++47::s.b.key∈ks)(hl:∀o,P o->bY o s.u=true):DS (dG LA LB) s.u:=by
 obtain⟨a,b,o,f,j,p,i,k,d,g⟩:=h _ hk;obtain⟨m,c⟩:=Uo hs.oa hs.ob f j p;refine⟨o,d,hl o g,λz=>?_⟩;have e:LA (o++z)↔LA (s.u++z):=by
  have:=congrFun (i.symm.trans (m▸hs.la)) z;exact iff_of_eq this
 have l:LB (o++z)↔LB (s.u++z):=by
  have:=congrFun (k.symm.trans (c▸hs.lb)) z;exact iff_of_eq this
 unfold dG;rw[e,l]
theorem StG.step {s:Stp}{c:Int}{ta tb:Tm}(h:StG LA LB n s)(hc:place c)(ha:Gd (aX s.a.L (back c)) (bZ s.a.z) (s.a.z*s.a.tl) ta)(hb:Gd (aX s.b.L (back c)) (bZ s.b.z) (s.b.z*s.b.tl) tb):StG LA LB (n+1) ⟨ta,tb,s.u++[back c]⟩:=by
 refine⟨ha.ok,hb.ok,?_,?_,zJ ha.z (dY h.za),zJ hb.z (dY h.zb),zJ ha.tl (Nat.mul_le_mul h.za h.ta),zJ hb.tl (Nat.mul_le_mul h.zb h.tb),λr a=>?_,?_⟩
 ·rw[ha.lg,h.la,Df]
 ·rw[hb.lg,h.lb,Df]
 ·rcases zM.1 a with a|a
  ·exact h.vl r a
  ·simp at a;subst a;exact (gL hc).1
 ·simp[h.ln]
theorem Cn {x:Int}(hx:place x)(hy:place y)(h:x<y):back x<back y:=by
 unfold place at hx hy;unfold back
 split<;>split<;>omega
theorem Om (h:hs.Pairwise (·<·))(hp:∀y∈hs,place y):(hs.map back).Pairwise (·<·):=by
 rw[List.pairwise_map];exact h.imp_of_mem λb c a=>Cn (hp _ b) (hp _ c) a
theorem EE {a b:ByteArray}(h:af a=af b):a=b:=by
 have d:a.data.toList=b.data.toList:=h;have c:a.data=b.data:=Array.toList_inj.1 d;cases a;cases b;simp at c;rw[c]
theorem Yz (x:List UInt8):af (⟨x.toArray⟩:ByteArray)=x:=by simp[af]
theorem Jf {a b:Tm}{sa sb:ByteArray}(ha:af sa=a.key)(hb:af sb=b.key):sa++{ data:=#[47] }++sb=⟨(a.key++47::b.key).toArray⟩:=by
 refine EE ?_;rw[cy,cy,ha,hb,Yz];simp[af]
theorem qE {s:ByteArray}(h:af s=t.key)(hok:t.Ok):s.size+4<=t.tl:=by
 have a:=ik hok;rw[<-h,aL]at a;exact a
theorem EF {t:LZ}(h:ef t):af (runesBytes t)=enc t:=by
 have:=xS t ByteArray.empty h;unfold runesBytes;rw[this];simp[af,enc]
theorem On (h:a<=(n+1)*400000000+i*721)(hi:i<=519841):a<=(n+1+1)*400000000:=by
 have b:i*721<=519841*721:=zn _ hi;have c:(519841*721:Nat)<=400000000:=Nat.le_of_ble_eq_true rfl;rw[Nat.succ_mul (n+1)];exact zJ h (Nat.add_le_add_left (zJ b c) _)
theorem EG {l:Nat}(h:l<=721 ^ n)(hn:n<=2):l<=519841:=zJ h (zJ (Nat.pow_le_pow_right (by decide) hn) (by decide))
theorem Vl {l:Nat}(h:a<=i*721+l)(hl:l<=721):a<=(i+1)*721:=by omega
theorem Vm {l:Nat}(h:a<=b+i*721+l)(hl:l<=721):a<=b+(i+1)*721:=by omega
def YX (L:Lg)(N:Nat)(e:Ending):Prop:=∃s ok,e=.returned (.tuple #[.string s,.bool ok])/\gZ L N s ok
theorem Oo {S:Nat}{V3 wx:World}{nv sv:Value}{ka:Nat}(h:aj wx (λg=>(KK S A nv sv g\/V3.heap.size<=g)/\g≠ka) t cs)(hb:Bw wx U3)(hgr:U3.grownBy w4 sv.ownBlock)(hmv:v4.ownBlock=sv.ownBlock\/∀g,v4.ownBlock=some g->U3.heap.size<=g)(hnv:∀g,nv.ownBlock=some g->g<V3.heap.size)(hsv:∀g,sv.ownBlock=some g->g<V3.heap.size)(hSV:S<=V3.heap.size):aj w4 (KK S A nv v4) t cs:=by
 have d:∀g,g<U3.heap.size->((KK S A nv sv g\/V3.heap.size<=g)/\g≠ka)->KK S A nv sv g/\KK S A nv v4 g:=λg c h=>by
  have a:KK S A nv sv g:=by
   rcases h.1 with h|h
   ·exact h
   ·exact⟨.inr (by omega),λe=>by have:=hnv g e;omega,λe=>by have:=hsv g e;omega⟩
  refine⟨a,a.1,a.2.1,λe=>?_⟩;rcases hmv with b|b
  ·rw[b]at e;exact a.2.2 e
  ·have:=b g e;omega
 have f:ah (λg=>KK S A nv sv g/\KK S A nv v4 g) U3 w4:=⟨hgr.size,λg c i=>hgr.block g c (λe=>i.1.2.2 e.symm)⟩;exact aj.mono (λg _ h=>h.2) _ _ (aj.keep f _ _ (aj.mono d _ _ (aj.below hb _ _ h)))
theorem YA (h:a<=(n+1)*400000000+i*721+k)(hn:n<=2)(hi:i<=519841)(hk:k<=721):(a:Int)<=2000000000:=by
 have c:i*721<=519841*721:=zn _ hi;have d:(n+1)*400000000<=3*400000000:=zn _ (Nat.succ_le_succ hn);have b:a<=3*400000000+519841*721+721:=zJ h (Nat.add_le_add (Nat.add_le_add d c) hk);exact Int.ofNat_le.2 (zJ b (Nat.le_of_ble_eq_true rfl))
theorem YB (h:a<=i*721+k)(hi:i<=519841)(hk:k<=721):(a:Int)<=400000000:=by
 have b:i*721<=519841*721:=zn _ hi;exact Int.ofNat_le.2 (zJ h (zJ (Nat.add_le_add b hk) (Nat.le_of_ble_eq_true rfl)))
structure Stb (V cur:World)(F:World->Prop):Prop where
 bel:Below V.heap.size V cur
 all:∀w',Below cur.heap.size cur w'->F w'
theorem Stb.start (V:World):Stb V V.drew (λ_=>True):=⟨jw V,λ_ _=>trivial⟩
theorem Stb.go {V p cur:World}{F:World->Prop}(h:Stb V p F)(k:Bw p cur):Stb V cur F:=⟨bL h.bel k,λa b=>h.all a (bL k b)⟩
theorem Stb.and {V cur:World}{F G:World->Prop}(h:Stb V cur F)(k:∀w',Bw cur w'->G w'):Stb V cur (λw'=>F w'/\G w'):=⟨h.bel,λw' a=>⟨h.all w' a,k w' a⟩⟩
theorem EH (w:World)(o:Obj):Bw w.drew (w.alloc o).drew:=have h:=((zE w.heap.size w).alloc (zA _) o).drew;⟨h.os,h.tape,h.output,h.size,h.block⟩
abbrev xN:List Value:=[Vi 0,Vz,Vz,Vi 0,Vi 0,.string ⟨#[]⟩,Vi 0,Vz,Vz,Vi 0,Vi 0,.string ⟨#[]⟩,.string ⟨#[]⟩]
abbrev UC (W:World)(b:Nat)(v0 v1 v2 v3 v4 v5 v6 v7 v8 v9 v10 v11 v12:Value):World:=((((((((((((W.setCell (aD b 0) v0).setCell (aD b 1) v1).setCell (aD b 2) v2).setCell (aD b 3) v3).setCell (aD b 4) v4).setCell (aD b 5) v5).setCell (aD b 6) v6).setCell (aD b 7) v7).setCell (aD b 8) v8).setCell (aD b 9) v9).setCell (aD b 10) v10).setCell (aD b 11) v11).setCell (aD b 12) v12
abbrev Lf (V:World)(Kp:Nat->Prop)(s:Stp)(c:Int)(wx:World)(ka:Nat)(t1:Tm)(so1:Option Addr)(sn1 sc1:Nat)(lo1:Option Addr)(ln1 lc1:Nat)(m1 n1:Int)(s1:ByteArray)(t2:Tm)(so2:Option Addr)(sn2 sc2:Nat)(lo2:Option Addr)(ln2 lc2:Nat)(m2 n2:Int)(s2:ByteArray)(st:ByteArray):Prop :=
 ag wx ka (TC t1.kind so1 sn1 sc1 lo1 ln1 lc1 m1 n1 s1++TC t2.kind so2 sn2 sc2 lo2 ln2 lc2 m2 n2 s2++[.string st]) 79/\V.heap.size<=ka/\aj wx (λg=>(Kp g\/V.heap.size<=g)/\g≠ka) t1 (TC t1.kind so1 sn1 sc1 lo1 ln1 lc1 m1 n1 s1)/\aj wx (λg=>(Kp g\/V.heap.size<=g)/\g≠ka) t2 (TC t2.kind so2 sn2 sc2 lo2 ln2 lc2 m2 n2 s2)/\Gd (aX s.a.L (back c)) (bZ s.a.z) (s.a.z*s.a.tl) t1/\Gd (aX s.b.L (back c)) (bZ s.b.z) (s.b.z*s.b.tl) t2/\af st=enc (s.u++[back c])/\Below V.heap.size V wx
theorem xO {S:Nat}(h:Below S w W)(hb:S<=b)(v0 v1 v2 v3 v4 v5 v6 v7 v8 v9 v10 v11 v12:Value):Below S w (UC W b v0 v1 v2 v3 v4 v5 v6 v7 v8 v9 v10 v11 v12):=by
 exact (((((((((((((h.setCell (p:=(aD b 0)) hb _).setCell (p:=(aD b 1)) hb _).setCell (p:=(aD b 2)) hb _).setCell (p:=(aD b 3)) hb _).setCell (p:=(aD b 4)) hb _).setCell (p:=(aD b 5)) hb _).setCell (p:=(aD b 6)) hb _).setCell (p:=(aD b 7)) hb _).setCell (p:=(aD b 8)) hb _).setCell (p:=(aD b 9)) hb _).setCell (p:=(aD b 10)) hb _).setCell (p:=(aD b 11)) hb _).setCell (p:=(aD b 12)) hb _)
theorem ag.thirteen {c0 c1 c2 c3 c4 c5 c6 c7 c8 c9 c10 c11 c12:Value}{T:TypeId}(h:ag W b [c0,c1,c2,c3,c4,c5,c6,c7,c8,c9,c10,c11,c12] T)(v0 v1 v2 v3 v4 v5 v6 v7 v8 v9 v10 v11 v12:Value):ag (UC W b v0 v1 v2 v3 v4 v5 v6 v7 v8 v9 v10 v11 v12) b [v0,v1,v2,v3,v4,v5,v6,v7,v8,v9,v10,v11,v12] T:=by
 exact (((((((((((((h.set 0 v0).set 1 v1).set 2 v2).set 3 v3).set 4 v4).set 5 v5).set 6 v6).set 7 v7).set 8 v8).set 9 v9).set 10 v10).set 11 v11).set 12 v12)
theorem Jg (h:aj W A t cs)(hn:¬A b)(v0 v1 v2 v3 v4 v5 v6 v7 v8 v9 v10 v11 v12:Value):aj (UC W b v0 v1 v2 v3 v4 v5 v6 v7 v8 v9 v10 v11 v12) A t cs:=by
 have k:∀(V:World) (o:Nat) (v:Value),ah A V (V.setCell (aD b o) v):=λV o v=>ah.set v hn;exact aj.keep (((((((((((((k _ _ _).trans (k _ _ _)).trans (k _ _ _)).trans (k _ _ _)).trans (k _ _ _)).trans (k _ _ _)).trans (k _ _ _)).trans (k _ _ _)).trans (k _ _ _)).trans (k _ _ _)).trans (k _ _ _)).trans (k _ _ _)).trans (k _ _ _)) t cs h
theorem EI (h:ef u):(enc u).length<=4*u.length:=by
 rw[<-EF h,aL];exact runesBytes_size_le u
theorem RF {c:Int}(h:runeB c=true):(Lib.encodeRune c).length<=4:=by
 have b:=EI (u:=[c]) (λr a=>by simp at a;subst a;exact h);simpa [enc]using b
theorem Hi:(prog.info? 79).map (λi=>(i.zero,i.size,i.bytes))=some (some (.agg #[Vi 0,Vz,Vz,Vi 0,Vi 0,.string ⟨#[]⟩,Vi 0,Vz,Vz,Vi 0,Vi 0,.string ⟨#[]⟩,.string ⟨#[]⟩]),13,192):=by kernel_rfl
theorem Lh {A:Nat->Prop}{ta tb:Tm}{soa:Option Addr}{sna sca:Nat}{loa:Option Addr}{lna lca:Nat}{ma na:Int}{sa:ByteArray}{sob:Option Addr}{snb scb:Nat}{lob:Option Addr}{lnb lcb:Nat}{mb nb:Int}{sb:ByteArray}{lol:Option Addr}{capl Bl:Nat}{hs:List Int}(N:Nat)(hN:N<=3)(hA:∀g,A g->g<w.heap.size)(hva:aj w A ta (TC ta.kind soa sna sca loa lna lca ma na sa))(hvb:aj w A tb (TC tb.kind sob snb scb lob lnb lcb mb nb sb))(oa:ta.Ok)(ob:tb.Ok)(za:ta.z<=61)(zb:tb.z<=61)(tla:ta.tl<=12420)(tlb:tb.tl<=12420)(hl:w.ownsRow Bl 3 1 (.slice lol hs.length capl) hs.length (bj hs))(hsrt:hs.Pairwise (·<·))(hpl:∀y∈hs,place y)(hcov:∀m,cX (dG ta.L tb.L) N m->∀r∈m,r∈hs.map back)(hlen:hs.length<=721):Calls prog 16 #[.agg #[.int .i64 ta.kind,.slice soa sna sca,.slice loa lna lca,.int .i64 ma,.int .i64 na,.string sa],.agg #[.int .i64 tb.kind,.slice sob snb scb,.slice lob lnb lcb,.int .i64 mb,.int .i64 nb,.string sb],.slice lol hs.length capl,.int .i64 N] w λe w'=>YX (dG ta.L tb.L) N e/\Below w.heap.size w w':=by
 obtain⟨W0,hW0,hB0,hx0,hy0,hs0⟩:=jK (rfl:w.heap.size=_) (TC ta.kind soa sna sca loa lna lca ma na sa) 58 (TC tb.kind sob snb scb lob lnb lcb mb nb sb) 58;replace hB0:Below _ _ W0:=hB0;obtain⟨W1,hW1,hB1,hk1,-⟩:=dS (rfl:W0.heap.size=_) [.int .i64 ta.kind,.slice soa sna sca,.slice loa lna lca,.int .i64 ma,.int .i64 na,.string sa,.int .i64 tb.kind,.slice sob snb scb,.slice lob lnb lcb,.int .i64 mb,.int .i64 nb,.string sb,.string ⟨#[]⟩] 79;replace hB1:Below _ _ W1:=hB1;have hs1:W1.heap.size=w.heap.size+3:=by rw[<-hW1];simp[hs0]
 obtain⟨W2,hW2,hB2,-,-⟩:=dS (rfl:W1.heap.size=_) [.string (sa++{ data:=#[47] }++sb)] 9;replace hB2:Below _ _ W2:=hB2;have hs2:W2.heap.size=w.heap.size+4:=by rw[<-hW2];simp[hs1]
 have hka:af sa=ta.key:=qj hva;have hkb:af sb=tb.key:=qj hvb;have za1:=qE hka oa;have zb1:=qE hkb ob;have hBw2:Below w.heap.size w W2:=hB0.trans ((hB1.trans (hB2.mono hB1.size)).mono hB0.size);have HM0:Hid (Mem w.heap.size A w W2 (some ⟨W0.heap.size,0,none⟩) [⟨ta,tb,[]⟩] (TC ta.kind soa sna sca loa lna lca ma na sa++TC tb.kind sob snb scb lob lnb lcb mb nb sb++[.string ⟨#[]⟩]) (.slice none 0 0) [] [] (.slice (some ⟨W1.heap.size,0,none⟩) 1 1) [ta.key++47::tb.key]):=by
  refine⟨λj v hj=>⟨W0.heap.size,0,rfl,⟨.inr (by omega),by simp[Value.ownBlock],by simp[Value.ownBlock];omega⟩,by omega,?_⟩,eY.one ⟨TC ta.kind soa sna sca loa lna lca ma na sa,TC tb.kind sob snb scb lob lnb lcb mb nb sb,⟨#[]⟩,rfl,?_,?_,rfl⟩,zZ _ _ _ _,rfl,?_,λg e=>(by cases e),hBw2⟩
  ·rw[zf,(hk1.below hB2).cell];exact hj
  ·exact aj.mono (λg _ h=>⟨.inl h,by simp[Value.ownBlock],by have:=hA g h;simp[Value.ownBlock];omega⟩) _ _ (aj.below hBw2 _ _ hva)
  ·exact aj.mono (λg _ h=>⟨.inl h,by simp[Value.ownBlock],by have:=hA g h;simp[Value.ownBlock];omega⟩) _ _ (aj.below hBw2 _ _ hvb)
  ·have h1:W2.ownsRow W1.heap.size 9 1 (.slice (some ⟨W1.heap.size,0,none⟩) 1 1) 1 [.string (sa++{ data:=#[47] }++sb)]:=by rw[<-hW2];exact JH
   rw[Jf hka hkb]at h1;exact ij (by simpa [qZ]using h1) (by omega)
 have HP0:Hid (StG ta.L tb.L 0 ⟨ta,tb,[]⟩):=⟨oa,ob,rfl,rfl,za,zb,tla,tlb,λr hr=>by simp at hr,rfl⟩;have HSG0:Hid (eE ta.L tb.L (λo=>o.length<=0) [ta.key++47::tb.key]):=eE.add (ks:=[]) (λkey hk=>by simp at hk) HP0.out (zA _);have HCL:Hid (∀(j:Nat) (y:Int) (wr:World),hs[j]?=some y->Below w.heap.size w wr->∃b,lol=some ⟨b,0,none⟩/\b<wr.heap.size/\wr.cell? ⟨b,j,none⟩=some (.int .i64 y)):=λj y wr hj hb=>by
  obtain⟨b,off,e,_,hbl,hc⟩:=iQ (bg hl hb) j _ (qJ hj);obtain⟨_,_,hoff⟩:=kf hl;obtain⟨g,hg⟩:=hoff _ e;injection hg with e1 e2;subst e1 e2;exact⟨b,e,hbl,by simpa using hc⟩
 have HAS:=aa (Om hsrt hpl);have HVA:Hid (∀r∈hs.map back,runeB r=true):=λr hr=>by
  obtain⟨y,hy,rfl⟩:=yH.1 hr;exact (gL (hpl y hy)).1
 have HPL:=aa hpl;have HCOV:=aa hcov;have HA:=aa hA;have HS0:=aa hs0;have HS1:=aa hs1;have HS2:=aa hs2;have HW0:=aa hW0;have HW1:=aa hW1;have HW2:=aa hW2;obtain⟨a0,a1,a2,a3,a4,a5⟩:=hx0.six;obtain⟨b0,b1,b2,b3,b4,b5⟩:=hy0.six;have hla:=hx0.lt;have hlb:=hy0.lt;have a5':W1.cell? ⟨w.heap.size,5,none⟩=some (.string sa):=(hx0.below hB1).cell 5;have b5':W1.cell? ⟨w.heap.size+1,5,none⟩=some (.string sb):=(hy0.below hB1).cell 5;have hla1:w.heap.size<W1.heap.size:=(hx0.below hB1).lt;have hlb1:w.heap.size+1<W1.heap.size:=(hy0.below hB1).lt;have zz1:¬9223372036854775807<sa.size+1:=by omega
 have zz2:¬9223372036854775807<sa.size+1+sb.size:=by omega
 clear hW0 hB0 hx0 hy0 hs0 hW1 hB1 hk1 hs1 hW2 hB2 hs2 hka hkb za1 zb1 hva hvb oa ob za zb tla tlb hl hsrt hpl hcov hA hBw2;obtain⟨i9,hi9,hz90,hz91,hz92⟩:=zz AA;obtain⟨i3,hi3,hz30,hz31,hz32⟩:=zz Hi;go_enter func16,ntmps16;go_upto_region 1 with fail;rw[HW0.out];generalize hS:w.heap.size=S at *;go_upto_region 2 with fail;rw[HW1.out];clear a0 a1 a2 a3 a4 a5 b0 b1 b2 b3 b4 b5;go_wp2_with fail;rw[HW2.out];clear a5' b5' zz1 zz2 hla hlb hla1 hlb1
 go_loopw [10,11,12] (λnv sv iv wr=>∃(n:Nat) (lon:Option Addr) (capn:Nat) (ss:List Stp) (xs:List Value) (ks:List (List UInt8)),nv=.slice lon ss.length capn/\iv=.int .i64 n/\n<=N+1/\Mem S A w wr lon ss xs (.slice none 0 0) [] [] sv ks/\(n<=N->Lv (dG ta.L tb.L) N n (ss.map (·.u))/\(∀s∈ss,StG ta.L tb.L n s)/\eE ta.L tb.L (λo=>o.length<=n) ks/\ss.length<=721 ^ n/\ks.length<=(n+1)*400000000)/\(n=N+1->∀s,ef s->s.length<=N->¬dG ta.L tb.L s)) (λ_ _ iv _=>N+1-(intOf iv).toNat)
 case atStart=>exact⟨0,some ⟨W0.heap.size,0,none⟩,1,[⟨ta,tb,[]⟩],_,[ta.key++47::tb.key],rfl,rfl,zW _,HM0.out,λ_=>⟨Lv.start,λs h=>(by simp at h;subst h;exact HP0.out),HSG0.out,by simp,by simp⟩,λh=>(by omega)⟩
 case round=>
  obtain⟨n,lon,capn,ss,xs,ks,rfl,rfl,hnN,hm,hpn,hend⟩:=hrel;have HM:=aa hm;have HPN:=aa hpn;have HEND:=aa hend;have n1:(0:Int)<=(n:Int):=zK _;clear hm hpn hend;by_cases hle:n<=N
  ·have n2:(n:Int)<=(N:Int):=by omega
   obtain⟨hlv,hst,hsn,hsl,hkl⟩:=HPN.out hle;have HLV:=aa hlv;have HST:=aa hst;have HSN:=aa hsn;have hpI:(ss.length:Int)<=374805361:=Int.ofNat_le.2 (zJ hsl (zJ (Nat.pow_le_pow_right (by decide) (show n<=3 by omega)) (Nat.le_of_ble_eq_true rfl)));have HSL:=aa hsl;have HKL0:=aa hkl;clear hlv hst hsn hsl hkl HPN HEND;obtain⟨V,hV⟩:∃V,wr=V:=⟨_,rfl⟩;rw[hV]at HM ⊢;clear hV;have hSV:S<=V.heap.size:=HM.out.size (by omega);go_wp2_with fail
   go_loopw [14] (λiv wr=>∃i:Nat,iv=.int .i64 i/\i<=ss.length/\(∀x∈(ss.map (·.u)).take i,¬dG ta.L tb.L x)/\Below V.heap.size V wr) (λiv _=>ss.length-(intOf iv).toNat)
   case atStart=>exact⟨0,rfl,zW _,λx h=>(by simp at h),zE _ _⟩
   case round=>
    obtain⟨i,rfl,hil,hno,hbel⟩:=hrel;have HNO:=aa hno;have HBL:=aa hbel;have i1:(0:Int)<=(i:Int):=zK _;clear hno hbel;by_cases hlt:i<ss.length
    ·have i2:(i:Int)<(ss.length:Int):=by omega
     obtain⟨s,hs⟩:∃s,ss[i]?=some s:=⟨_,zB hlt⟩;obtain⟨b,off,cc,rfl,hKb,hbl,hsv,hc⟩:=HM.out.now.step HM.out.nowt hs;obtain⟨ca,cb,str,rfl,hva,hvb,hstr⟩:=hsv;obtain⟨sox,snx,scx,lox,lnx,lcx,mx,nx,sx,rfl,_⟩:=hva.form;obtain⟨soy,sny,scy,loy,lny,lcy,my,ny,sy,rfl,_⟩:=hvb.form;obtain⟨y0,y1,y2,y3,y4,y5,y6,y7,y8,y9,y10,y11,y12⟩:=SS HBL.out hbl hc;have HCC:=aa hc;have hbr:b<wr.heap.size:=zF hbl HBL.out.size;have HG:Hid (StG ta.L tb.L n s):=HST.out s (zU hs);have htl:=Jt n (by omega);have HE1:=aa (iR s.a wr _ _ _ _ _ _ _ _ _ _ (aj.below HBL.out _ _ hva) HG.out.oa (by have:=HG.out.ta;omega));have HVB:=aa (aj.below HBL.out _ _ hvb);have HSTR:=aa hstr;have HSI:=aa hs;clear hc hva hvb hstr hs hKb;go_wp2_with fail;refine HE1.out.mono ?_;rintro e w5 ⟨v5,rfl,hv5,hb5⟩;have HV5:=aa hv5;have HB5:Hid (Below V.heap.size V w5):=bL HBL.out hb5;have HE2:=aa (iR s.b w5 _ _ _ _ _ _ _ _ _ _ (aj.below hb5 _ _ HVB.out) HG.out.ob (by have:=HG.out.tb;omega));obtain⟨z0,z1,z2,z3,z4,z5,z6,z7,z8,z9,z10,z11,z12⟩:=SS HB5.out hbl HCC.out;have hbr5:b<w5.heap.size:=zF hbr hb5.size;clear hv5 hb5 HE1 HVB y0 y1 y2 y3 y4 y5 y6 y7 y8 y9 y10 y11 y12;go_wp2_with fail;refine HE2.out.mono ?_;rintro e w6 ⟨v6,rfl,hv6,hb6⟩;have HV6:=aa hv6;have HB6:Hid (Below V.heap.size V w6):=bL HB5.out hb6;have t12:w6.cell? ⟨b,off+i*13+12,none⟩=some (.string str):=(hb6.cell (p:=⟨b,_,none⟩) hbr5).trans z12;have hbr6:b<w6.heap.size:=zF hbr5 hb6.size;have HDI:Hid (dG ta.L tb.L s.u↔v5≠v6):=by
      show _↔_
      have e1:s.a.L []↔ta.L s.u:=by rw[HG.out.la];unfold rM;rw[zx]
      have e2:s.b.L []↔tb.L s.u:=by rw[HG.out.lb];unfold rM;rw[zx]
      unfold dG;rw[<-e1,<-e2,<-HV5.out,<-hv6];cases v5<;>cases v6<;>simp
     clear hv6 hb6 HE2 z0 z1 z2 z3 z4 z5 z6 z7 z8 z9 z10 z11 z12;cases v5 with
     |true=>
      cases v6 with
      |true=>
       have HND:Hid (¬dG ta.L tb.L s.u):=λh=>HDI.out.1 h rfl;have HTK:Hid ((ss.map (·.u)).take (i+1)=(ss.map (·.u)).take i++[s.u]):=by show _=_;rw[zi,zg,HSI.out];rfl
       go_wp2_with fail
       go_roundw
       case rel=>exact⟨i+1,by go_num,by omega,by rw[HTK.out];intro x hx;rcases zM.1 hx with hx|hx;exact HNO.out x hx;simp at hx;subst hx;exact HND.out,HB6.out⟩
       case measure=>simp[intOf];omega
      |false=>
       have HD:Hid (dG ta.L tb.L s.u):=HDI.out.2 (by simp);have HLE:Hid (gZ (dG ta.L tb.L) N str true):=.inl ⟨s.u,HLV.out.found hle (by rw[zg,HSI.out];rfl) HD.out HNO.out,EE (by rw[HSTR.out,EF HG.out.vl]),rfl⟩;go_wp2_with fail
       go_ret2
       exact⟨⟨str,true,rfl,HLE.out⟩,by rw[hS];exact HM.out.bel.trans (HB6.out.mono hSV)⟩
     |false=>
      cases v6 with
      |true=>
       have HD:Hid (dG ta.L tb.L s.u):=HDI.out.2 (by simp);have HLE:Hid (gZ (dG ta.L tb.L) N str true):=.inl ⟨s.u,HLV.out.found hle (by rw[zg,HSI.out];rfl) HD.out HNO.out,EE (by rw[HSTR.out,EF HG.out.vl]),rfl⟩;go_wp2_with fail
       go_ret2
       exact⟨⟨str,true,rfl,HLE.out⟩,by rw[hS];exact HM.out.bel.trans (HB6.out.mono hSV)⟩
      |false=>
       have HND:Hid (¬dG ta.L tb.L s.u):=λh=>HDI.out.1 h rfl;have HTK:Hid ((ss.map (·.u)).take (i+1)=(ss.map (·.u)).take i++[s.u]):=by show _=_;rw[zi,zg,HSI.out];rfl
       go_wp2_with fail
       go_roundw
       case rel=>exact⟨i+1,by go_num,by omega,by rw[HTK.out];intro x hx;rcases zM.1 hx with hx|hx;exact HNO.out x hx;simp at hx;subst hx;exact HND.out,HB6.out⟩
       case measure=>simp[intOf];omega
    ·have i2:decide ((i:Int)<(ss.length:Int))=false:=zI (by omega);obtain rfl:i=ss.length:=by omega
     have HNO2:Hid (∀x∈ss.map (·.u),¬dG ta.L tb.L x):=by have:=HNO.out;rwa [yF (by simp)]at this
     have HM2:=aa (HM.out.below HBL.out hSV);clear HM HNO;go_wp2_with fail
     go_loopw [11,13,17] (λsv nv iv wr=>∃(i:Nat) (lo2:Option Addr) (cap2:Nat) (nxs:List Stp) (ys:List Value) (ks:List (List UInt8)),nv=.slice lo2 nxs.length cap2/\iv=.int .i64 i/\i<=ss.length/\(n=N->i=0)/\Mem S A w wr lon ss xs nv nxs ys sv ks/\Nx (dG ta.L tb.L) (ss.map (·.u)) (hs.map back) i 0 (nxs.map (·.u))/\(∀s∈nxs,StG ta.L tb.L (n+1) s)/\eE ta.L tb.L (λo=>o.length<=n\/kW (ss.map (·.u)) (hs.map back) i 0 o) ks/\nxs.length<=i*721/\ks.length<=(n+1)*400000000+i*721) (λ_ _ iv _=>ss.length-(intOf iv).toNat)
     case atStart=>exact⟨0,none,0,[],[],ks,rfl,rfl,zW _,λ_=>rfl,HM2.out,Nx.start,λs h=>(by simp at h),HSN.out.more λo h=>.inl h,by simp,zJ HKL0.out (Nat.le_add_right _ _)⟩
     case round=>
      clear HM2;obtain⟨i,lo2,cap2,nxs,ys,ks,rfl,rfl,hil,hin,hm,hnx,hst2,hsn2,hnl,hkl2⟩:=hrel;have HM:=aa hm;have HNX:=aa hnx;have HST2:=aa hst2;have HSN2:=aa hsn2;have HNL:=aa hnl;have HKL:=aa hkl2;have i1:(0:Int)<=(i:Int):=zK _;clear hm hnx hst2 hsn2 hnl hkl2 i2;by_cases hlt:i<ss.length/\n<N
      ·obtain⟨hlt,hnN2⟩:=hlt;have i2:(i:Int)<(ss.length:Int):=by omega
       have n3:(n:Int)<(N:Int):=by omega
       obtain⟨s,hs9⟩:∃s,ss[i]?=some s:=⟨_,zB hlt⟩;have HSI:=aa hs9;have HG:Hid (StG ta.L tb.L n s):=HST.out s (zU hs9);have HWI:Hid ((ss.map (·.u))[i]?=some s.u):=by show _=_;rw[zg,hs9];rfl
       clear hs9;go_wp2_with fail
       go_loopw [11,13,18] (λsv nv kv wr=>∃(k:Nat) (lo2:Option Addr) (cap2:Nat) (nxs:List Stp) (ys:List Value) (ks:List (List UInt8)),nv=.slice lo2 nxs.length cap2/\kv=.int .i64 k/\k<=hs.length/\Mem S A w wr lon ss xs nv nxs ys sv ks/\Nx (dG ta.L tb.L) (ss.map (·.u)) (hs.map back) i k (nxs.map (·.u))/\(∀s∈nxs,StG ta.L tb.L (n+1) s)/\eE ta.L tb.L (λo=>o.length<=n\/kW (ss.map (·.u)) (hs.map back) i k o) ks/\nxs.length<=i*721+k/\ks.length<=(n+1)*400000000+i*721+k) (λ_ _ kv _=>hs.length-(intOf kv).toNat)
       case atStart=>exact⟨0,lo2,cap2,nxs,ys,ks,rfl,rfl,zW _,HM.out,HNX.out,HST2.out,HSN2.out,zJ HNL.out (Nat.le_add_right _ _),zJ HKL.out (Nat.le_add_right _ _)⟩
       case round=>
        clear HM HNX HST2 HSN2 HNL HKL;obtain⟨k,lo2,cap2,nxs,ys,ks,rfl,rfl,hkl3,hm,hnx,hst2,hsn2,hnl,hkl2⟩:=hrel;obtain⟨los,caps,rfl⟩:=cd hm.seen;have HM:=aa hm;have HNX:=aa hnx;have HST2:=aa hst2;have HSN2:=aa hsn2;have HNL:=aa hnl;have HKL:=aa hkl2;have k1:(0:Int)<=(k:Int):=zK _;clear hm hnx hst2 hsn2 hnl hkl2;by_cases hltk:k<hs.length
        ·have k2:(k:Int)<(hs.length:Int):=by omega
         obtain⟨c,hc9⟩:∃c,hs[k]?=some c:=⟨_,zB hltk⟩;have HC9:=aa hc9;have HPC:Hid (place c):=HPL.out c (zU hc9);have HRK:Hid ((hs.map back)[k]?=some (back c)):=by show _=_;rw[zg,hc9];rfl
         clear hc9;obtain⟨V3,hV3⟩:∃V3,wr=V3:=⟨_,rfl⟩;rw[hV3]at HM ⊢;clear hV3;go_upto_region 20 with fail
         go_cut [19] (λv wx=>∃ka t1 so1 sn1 sc1 lo1 ln1 lc1 m1 n1 s1 t2 so2 sn2 sc2 lo3 ln2 lc2 m2 n2 s2 st,v=.pointer (some ⟨ka,0,none⟩)/\Hid (Lf V3 (KK S A (.slice lo2 nxs.length cap2) (.slice los ks.length caps)) s c wx ka t1 so1 sn1 sc1 lo1 ln1 lc1 m1 n1 s1 t2 so2 sn2 sc2 lo3 ln2 lc2 m2 n2 s2 st))
         case first=>
          obtain⟨b,off,cc,rfl,hKb,hbl,hsv,hc⟩:=HM.out.now.step HM.out.nowt HSI.out;obtain⟨ca,cb,str,rfl,hva,hvb,hstr⟩:=hsv;obtain⟨sox,snx,scx,lox,lnx,lcx,mx,nx,sx,rfl,_⟩:=hva.form;obtain⟨soy,sny,scy,loy,lny,lcy,my,ny,sy,rfl,_⟩:=hvb.form;obtain⟨bl,rfl,hbll,cl0⟩:=HCL.out k c V3 HC9.out HM.out.bel;obtain⟨A2,hA2e⟩:∃A2:Nat->Prop,A2=λg=>KK S A (.slice lo2 nxs.length cap2) (.slice los ks.length caps) g/\g<V3.heap.size:=⟨_,rfl⟩;have hA2:Hid (∀g,A2 g->g<V3.heap.size):=λg h=>by rw[hA2e]at h;exact h.2
          have hA3:Hid (∀g,KK S A (.slice lo2 nxs.length cap2) (.slice los ks.length caps) g->g<V3.heap.size->A2 g):=λg h k=>by rw[hA2e];exact⟨h,k⟩
          have hA4:Hid (∀g,A2 g->KK S A (.slice lo2 nxs.length cap2) (.slice los ks.length caps) g):=λg h=>by rw[hA2e]at h;exact h.1
          clear hA2e;have HFC:Hid (∀w',Below V3.heap.size V3 w'->(CT w' b (off+i*13) s.a.kind sox snx scx lox lnx lcx mx nx sx/\CT w' b (off+i*13+6) s.b.kind soy sny scy loy lny lcy my ny sy/\w'.cell? ⟨b,off+i*13+12,none⟩=some (.string str)/\w'.cell? ⟨bl,k,none⟩=some (.int .i64 c))):=λw' h=>by
           obtain⟨y0,y1,y2,y3,y4,y5,y6,y7,y8,y9,y10,y11,y12⟩:=SS h hbl hc;exact⟨⟨y0,y1,y2,y3,y4,y5⟩,⟨y6,y7,y8,y9,y10,y11⟩,y12,(h.cell (p:=⟨bl,k,none⟩) hbll).trans cl0⟩
          have HLG:∀(u:Tm) soz snz scz loz lnz lcz mz nz sz,u.z<=lz n->u.tl<=Cw n->u.Ok->aj V3 (KK S A (.slice lo2 nxs.length cap2) (.slice los ks.length caps)) u (TC u.kind soz snz scz loz lnz lcz mz nz sz)->Hid (∀p cur F,Stb V3 p F->Below p.heap.size p cur->Calls prog 30 #[.agg #[.int .i64 u.kind,.slice soz snz scz,.slice loz lnz lcz,.int .i64 mz,.int .i64 nz,.string sz],.int .i64 c] cur λe w5=>∃t so sn sc lo ln lc mm nn st X Y,e=.returned (.agg #[.int .i64 (Tm.kind t),.slice so sn sc,.slice lo ln lc,.int .i64 mm,.int .i64 nn,.string st])/\Hid (Stb V3 w5 (λw'=>F w'/\aj w' (λg=>A2 g\/(X<g/\g<Y)) t (TC t.kind so sn sc lo ln lc mm nn st)))/\Hid (Gd (aX u.L (back c)) (bZ u.z) (u.z*u.tl) t)/\V3.heap.size<=X/\p.heap.size<=X/\X<=Y/\Y<=w5.heap.size/\V3.heap.size<=w5.heap.size/\Hid (Below cur.heap.size cur w5)):=λu _ _ _ _ _ _ _ _ _ uz ut uo hvu p cur F h hb=>by
           have hVc:=bL h.bel hb;have h8:=hVc.size;have h9:=Js n (by omega);refine (lH u cur A2 _ _ _ _ _ _ _ _ _ c (λg hg=>by have:=hA2.out g hg;omega) (aj.below hVc _ _ (aj.mono (λg hg hk=>hA3.out g hk hg) _ _ hvu)) uo HPC.out (zJ (Nat.mul_le_mul uz ut) h9.1) (zJ (dY uz) h9.2)).mono ?_;rintro e w5 ⟨t,so,sn,sc,lo,ln,lc,mm,nn,st,rfl,g1,g2,g3⟩;refine⟨t,so,sn,sc,lo,ln,lc,mm,nn,st,cur.heap.size,w5.heap.size,rfl,?_,g2,h8,hb.size,g3.size,zA _,zJ h8 g3.size,g3⟩;exact ((h.go hb).go g3).and λw' k9=>aj.below k9 _ _ (aj.mono (λg hg hk=>by rcases hk with hk|hk;exact .inl hk;exact .inr ⟨hk,hg⟩) _ _ g1)
          have HLA:=HLG s.a _ _ _ _ _ _ _ _ _ HG.out.za HG.out.ta HG.out.oa hva;have HLB:=HLG s.b _ _ _ _ _ _ _ _ _ HG.out.zb HG.out.tb HG.out.ob hvb;clear HLG;have HTX:Hid (∀(p cur:World) (F:World->Prop),Stb V3 p F->Below p.heap.size p cur->Calls prog 31 #[.int .i64 (back c)] cur λe w5=>∃st5,e=.returned (.string st5)/\Hid (Stb V3 w5 F)/\Hid (af st5=Lib.encodeRune (back c))/\st5.size<=4/\p.heap.size<=w5.heap.size/\V3.heap.size<=w5.heap.size/\Hid (Below cur.heap.size cur w5)):=λp cur F h hb=>by
           refine (QS (back c) cur (gL HPC.out).1).mono ?_;rintro e w5 ⟨st5,rfl,g1,g2⟩;exact⟨st5,rfl,(h.go hb).go g2,g1,by rw[<-aL,g1];exact RF (gL HPC.out).1,zJ hb.size g2.size,zJ h.bel.size (zJ hb.size g2.size),g2⟩
          have HBK:Hid (∀cur:World,Calls prog 32 #[.int .i64 c] cur λe w'=>e=.returned (.int .i64 (back c))/\w'=cur):=λcur=>FY c cur HPC.out.1 (by have:=HPC.out.2;omega);have HK1:Hid (∀w5:World,Below (V3.alloc (.cells xN.toArray 79)).drew.heap.size (V3.alloc (.cells xN.toArray 79)).drew w5->∃ka,V3.heap.size=ka/\Hid (ag w5 ka xN 79)/\V3.heap.size<=ka/\V3.drew.heap.size<=ka/\ka<=V3.drew.heap.size):=λw5 h=>⟨_,rfl,(ag.new V3 xN 79).below (ku h),zA _,zA _,zA _⟩;have HK2:Hid (∀p w5:World,Below (p.alloc (.cells xN.toArray 79)).heap.size (p.alloc (.cells xN.toArray 79)) w5->V3.heap.size<=p.heap.size->∃ka,p.heap.size=ka/\Hid (ag w5 ka xN 79)/\V3.heap.size<=ka/\p.heap.size<=ka/\ka<=p.heap.size):=λp w5 h k9=>⟨_,rfl,(ag.new p xN 79).below h,k9,zA _,zA _⟩;have hsz:str.size<=12:=by rw[<-aL,hstr];have h1:=EI HG.out.vl;have h2:=HG.out.ln;omega
          have HEN:Hid (∀st5,af st5=Lib.encodeRune (back c)->af (str++st5)=enc (s.u++[back c])):=λst5 h=>by rw[cy,hstr,h,SB]
          have HF1:Hid (∀X7 Y7 X8 Y8 {wl F t7 so7 sn7 sc7 lo7 ln7 lc7 m7 n7 s7 t8 so8 sn8 sc8 lo8 ln8 lc8 m8 n8 s8 st5},Stb V3 wl F->(∀w',F w'->aj w' (λg=>A2 g\/(X7<g/\g<Y7)) t7 (TC t7.kind so7 sn7 sc7 lo7 ln7 lc7 m7 n7 s7))->(∀w',F w'->aj w' (λg=>A2 g\/(X8<g/\g<Y8)) t8 (TC t8.kind so8 sn8 sc8 lo8 ln8 lc8 m8 n8 s8))->Gd (aX s.a.L (back c)) (bZ s.a.z) (s.a.z*s.a.tl) t7->Gd (aX s.b.L (back c)) (bZ s.b.z) (s.b.z*s.b.tl) t8->af st5=Lib.encodeRune (back c)->V3.heap.size<=X7->V3.heap.size<=X8->Y7<=wl.heap.size->Y8<=wl.heap.size->Lf V3 (KK S A (.slice lo2 nxs.length cap2) (.slice los ks.length caps)) s c (wl.alloc (.cells #[.int .i64 t7.kind,.slice so7 sn7 sc7,.slice lo7 ln7 lc7,.int .i64 m7,.int .i64 n7,.string s7,.int .i64 t8.kind,.slice so8 sn8 sc8,.slice lo8 ln8 lc8,.int .i64 m8,.int .i64 n8,.string s8,.string (str++st5)] 79)) wl.heap.size t7 so7 sn7 sc7 lo7 ln7 lc7 m7 n7 s7 t8 so8 sn8 sc8 lo8 ln8 lc8 m8 n8 s8 (str++st5)):=by
           intro X7 Y7 X8 Y8 wl F t7 _ _ _ _ _ _ _ _ _ t8 _ _ _ _ _ _ _ _ _ st5 h e1 e2 g1 g2 hb5 x1 x2 y1 y2;have hw:=h.all wl (zE _ _);have h8:=h.bel.size;refine⟨ag.new wl _ 79,h8,aj.below (fB (zE _ _) _) _ _ (aj.mono (λg hg hk=>?_) _ _ (e1 wl hw)),aj.below (fB (zE _ _) _) _ _ (aj.mono (λg hg hk=>?_) _ _ (e2 wl hw)),g1,g2,HEN.out st5 hb5,fB h.bel _⟩<;>rcases hk with hk|hk
           all_goals first|exact⟨.inl (hA4.out g hk),by have:=hA2.out g hk;omega⟩|exact⟨.inr (by omega),by omega⟩
          have HF2:Hid (∀X7 Y7 X8 Y8 {ka wl F t7 so7 sn7 sc7 lo7 ln7 lc7 m7 n7 s7 t8 so8 sn8 sc8 lo8 ln8 lc8 m8 n8 s8 st5},Stb V3 wl F->(∀w',F w'->aj w' (λg=>A2 g\/(X7<g/\g<Y7)) t7 (TC t7.kind so7 sn7 sc7 lo7 ln7 lc7 m7 n7 s7))->(∀w',F w'->aj w' (λg=>A2 g\/(X8<g/\g<Y8)) t8 (TC t8.kind so8 sn8 sc8 lo8 ln8 lc8 m8 n8 s8))->Gd (aX s.a.L (back c)) (bZ s.a.z) (s.a.z*s.a.tl) t7->Gd (aX s.b.L (back c)) (bZ s.b.z) (s.b.z*s.b.tl) t8->af st5=Lib.encodeRune (back c)->V3.heap.size<=X7->V3.heap.size<=X8->ag wl ka xN 79->V3.heap.size<=ka->(ka<=X7\/Y7<=ka)->(ka<=X8\/Y8<=ka)->Lf V3 (KK S A (.slice lo2 nxs.length cap2) (.slice los ks.length caps)) s c (UC wl ka (.int .i64 t7.kind) (.slice so7 sn7 sc7) (.slice lo7 ln7 lc7) (.int .i64 m7) (.int .i64 n7) (.string s7) (.int .i64 t8.kind) (.slice so8 sn8 sc8) (.slice lo8 ln8 lc8) (.int .i64 m8) (.int .i64 n8) (.string s8) (.string (str++st5))) ka t7 so7 sn7 sc7 lo7 ln7 lc7 m7 n7 s7 t8 so8 sn8 sc8 lo8 ln8 lc8 m8 n8 s8 (str++st5)):=by
           intro X7 Y7 X8 Y8 ka wl F t7 _ _ _ _ _ _ _ _ _ t8 _ _ _ _ _ _ _ _ _ st5 h e1 e2 g1 g2 hb5 x1 x2 hk9 hkv y1 y2;have hw:=h.all wl (zE _ _);refine⟨hk9.thirteen _ _ _ _ _ _ _ _ _ _ _ _ _,hkv,Jg (aj.mono (λg hg hk=>?_) _ _ (e1 wl hw)) (λhk=>hk.2 rfl) _ _ _ _ _ _ _ _ _ _ _ _ _,Jg (aj.mono (λg hg hk=>?_) _ _ (e2 wl hw)) (λhk=>hk.2 rfl) _ _ _ _ _ _ _ _ _ _ _ _ _,g1,g2,HEN.out st5 hb5,xO h.bel hkv _ _ _ _ _ _ _ _ _ _ _ _ _⟩<;>rcases hk with hk|hk
           all_goals first|exact⟨.inl (hA4.out g hk),by have:=hA2.out g hk;omega⟩|exact⟨.inr (by omega),by omega⟩
          have HS:=aa (Stb.start V3);have HC0:=aa (HFC.out V3.drew (jw V3));have hd1:V3.heap.size<=V3.drew.heap.size:=zA _;clear hc hva hvb hstr cl0 hKb
          go_region_held3 (λw'=>CT w' b (off+i*13) s.a.kind sox snx scx lox lnx lcx mx nx sx/\CT w' b (off+i*13+6) s.b.kind soy sny scy loy lny lcy my ny sy/\w'.cell? ⟨b,off+i*13+12,none⟩=some (.string str)/\w'.cell? ⟨bl,k,none⟩=some (.int .i64 c))
           (first|with_reducible exact HC0.out|with_reducible exact HFC.out _ HS.out.bel|with_reducible exact HFC.out _ (fB HS.out.bel _)|with_reducible exact HFC.out _ (xO HS.out.bel hkv _ _ _ _ _ _ _ _ _ _ _ _ _)|with_reducible exact HFC.out _ (OB (zE _ _) _)|fail)
           (first
            |(go_at_call 30;with_reducible refine (HLA.out _ _ _ HS.out (by first|with_reducible exact zE _ _|with_reducible exact fB (zE _ _) _|with_reducible exact EH _ _)).mono ?_;rintro e wa ⟨t7,so7,sn7,sc7,lo7,ln7,lc7,m7,n7,s7,X7,Y7,rfl,HS,HG7,p17,p27,p37,p47,hwa,HD⟩;(first|(clear r0 r1 r2 r3 r4 r5 r6 r7 r8 r9 r10 r11 r12 f0 f1 f2 f3 f4 f5 f6 f7 f8 f9 f10 f11 f12 hrl;with_reducible have HKB:=aa (HKB.out.below HD.out);obtain⟨r0,r1,r2,r3,r4,r5,r6,r7,r8,r9,r10,r11,r12⟩:=HKB.out.c13;obtain⟨f0,f1,f2,f3,f4,f5,f6,f7,f8,f9,f10,f11,f12,hrl⟩:=HKB.out.f13)|(with_reducible obtain⟨ka,hka,HKB,hkv,q1,q2⟩:=HK1.out _ HD.out;rw[hka];clear hka;obtain⟨r0,r1,r2,r3,r4,r5,r6,r7,r8,r9,r10,r11,r12⟩:=HKB.out.c13;obtain⟨f0,f1,f2,f3,f4,f5,f6,f7,f8,f9,f10,f11,f12,hrl⟩:=HKB.out.f13)|(with_reducible obtain⟨ka,hka,HKB,hkv,q1,q2⟩:=HK2.out _ _ HD.out (by first|with_reducible exact hwa|with_reducible exact hwb|with_reducible exact hwt);rw[hka];clear hka;obtain⟨r0,r1,r2,r3,r4,r5,r6,r7,r8,r9,r10,r11,r12⟩:=HKB.out.c13;obtain⟨f0,f1,f2,f3,f4,f5,f6,f7,f8,f9,f10,f11,f12,hrl⟩:=HKB.out.f13)|skip))
            |(go_at_call 30;with_reducible refine (HLB.out _ _ _ HS.out (by first|with_reducible exact zE _ _|with_reducible exact fB (zE _ _) _|with_reducible exact EH _ _)).mono ?_;rintro e wb ⟨t8,so8,sn8,sc8,lo8,ln8,lc8,m8,n8,s8,X8,Y8,rfl,HS,HG8,p18,p28,p38,p48,hwb,HD⟩;(first|(clear r0 r1 r2 r3 r4 r5 r6 r7 r8 r9 r10 r11 r12 f0 f1 f2 f3 f4 f5 f6 f7 f8 f9 f10 f11 f12 hrl;with_reducible have HKB:=aa (HKB.out.below HD.out);obtain⟨r0,r1,r2,r3,r4,r5,r6,r7,r8,r9,r10,r11,r12⟩:=HKB.out.c13;obtain⟨f0,f1,f2,f3,f4,f5,f6,f7,f8,f9,f10,f11,f12,hrl⟩:=HKB.out.f13)|(with_reducible obtain⟨ka,hka,HKB,hkv,q1,q2⟩:=HK1.out _ HD.out;rw[hka];clear hka;obtain⟨r0,r1,r2,r3,r4,r5,r6,r7,r8,r9,r10,r11,r12⟩:=HKB.out.c13;obtain⟨f0,f1,f2,f3,f4,f5,f6,f7,f8,f9,f10,f11,f12,hrl⟩:=HKB.out.f13)|(with_reducible obtain⟨ka,hka,HKB,hkv,q1,q2⟩:=HK2.out _ _ HD.out (by first|with_reducible exact hwa|with_reducible exact hwb|with_reducible exact hwt);rw[hka];clear hka;obtain⟨r0,r1,r2,r3,r4,r5,r6,r7,r8,r9,r10,r11,r12⟩:=HKB.out.c13;obtain⟨f0,f1,f2,f3,f4,f5,f6,f7,f8,f9,f10,f11,f12,hrl⟩:=HKB.out.f13)|skip))
            |(go_at_call 32;with_reducible refine (HBK.out _).mono ?_;rintro e w8 ⟨rfl,rfl⟩)
            |(go_at_call 31;with_reducible refine (HTX.out _ _ _ HS.out (by first|with_reducible exact zE _ _|with_reducible exact fB (zE _ _) _|with_reducible exact EH _ _)).mono ?_;rintro e wt ⟨st5,rfl,HS,HT5,zt,pt,hwt,HD⟩;have z8:str.size+st5.size<=9223372036854775807:=(by omega);have z9:=λw=>run_string_add_sum (P:=prog) (w:=w) str st5 z8;have z10:decide (9223372036854775807<str.size+st5.size)=false:=zI (by omega);have z11:(9223372036854775807<str.size+st5.size)=False:=eq_false (by omega);(first|(clear r0 r1 r2 r3 r4 r5 r6 r7 r8 r9 r10 r11 r12 f0 f1 f2 f3 f4 f5 f6 f7 f8 f9 f10 f11 f12 hrl;with_reducible have HKB:=aa (HKB.out.below HD.out);obtain⟨r0,r1,r2,r3,r4,r5,r6,r7,r8,r9,r10,r11,r12⟩:=HKB.out.c13;obtain⟨f0,f1,f2,f3,f4,f5,f6,f7,f8,f9,f10,f11,f12,hrl⟩:=HKB.out.f13)|(with_reducible obtain⟨ka,hka,HKB,hkv,q1,q2⟩:=HK1.out _ HD.out;rw[hka];clear hka;obtain⟨r0,r1,r2,r3,r4,r5,r6,r7,r8,r9,r10,r11,r12⟩:=HKB.out.c13;obtain⟨f0,f1,f2,f3,f4,f5,f6,f7,f8,f9,f10,f11,f12,hrl⟩:=HKB.out.f13)|(with_reducible obtain⟨ka,hka,HKB,hkv,q1,q2⟩:=HK2.out _ _ HD.out (by first|with_reducible exact hwa|with_reducible exact hwb|with_reducible exact hwt);rw[hka];clear hka;obtain⟨r0,r1,r2,r3,r4,r5,r6,r7,r8,r9,r10,r11,r12⟩:=HKB.out.c13;obtain⟨f0,f1,f2,f3,f4,f5,f6,f7,f8,f9,f10,f11,f12,hrl⟩:=HKB.out.f13)|skip))
            |fail)
          all_goals go_wp2_with fail
          all_goals go_meet
          all_goals first
           |exact⟨ka,t7,so7,sn7,sc7,lo7,ln7,lc7,m7,n7,s7,t8,so8,sn8,sc8,lo8,ln8,lc8,m8,n8,s8,str++st5,rfl,HF2.out X7 Y7 X8 Y8 HS.out (λw' h=>by first|exact h.2|exact h.1.2) (λw' h=>by first|exact h.2|exact h.1.2) HG7.out HG8.out HT5.out p17 p18 HKB.out hkv (by omega) (by omega)⟩
           |exact⟨_,t7,so7,sn7,sc7,lo7,ln7,lc7,m7,n7,s7,t8,so8,sn8,sc8,lo8,ln8,lc8,m8,n8,s8,str++st5,rfl,HF1.out X7 Y7 X8 Y8 HS.out (λw' h=>by first|exact h.2|exact h.1.2) (λw' h=>by first|exact h.2|exact h.1.2) HG7.out HG8.out HT5.out p17 p18 (by omega) (by omega)⟩
         case rest=>
          obtain⟨ka,t1,so1,sn1,sc1,lo1,ln1,lc1,m1,n1',s1,t2,so2,sn2,sc2,lo3,ln2,lc2,m2,n2',s2,st,rfl,HCUT⟩:=hcut;have HG2:Hid (StG ta.L tb.L (n+1) ⟨t1,t2,s.u++[back c]⟩):=HG.out.step HPC.out HCUT.out.2.2.2.2.1 HCUT.out.2.2.2.2.2.1;have HKB:=aa HCUT.out.1;have HBC:Hid (Below V3.heap.size V3 wc):=HCUT.out.2.2.2.2.2.2.2;have hSV3:S<=V3.heap.size:=HM.out.size (by omega);have HMC:=aa (HM.out.below HBC.out hSV3);have hk1:af s1=t1.key:=qj HCUT.out.2.2.1;have hk2:af s2=t2.key:=qj HCUT.out.2.2.2.1;have zz1:=qE hk1 HG2.out.oa;have zz2:=qE hk2 HG2.out.ob;have zz3:t1.tl<=Cw (n+1):=HG2.out.ta;have zz4:t2.tl<=Cw (n+1):=HG2.out.tb;have zz5:=Jt (n+1) (by omega);have zz6:¬9223372036854775807<s1.size+1:=by omega
          have zz7:¬9223372036854775807<s1.size+1+s2.size:=by omega
          have c5:wc.cell? ⟨ka,5,none⟩=some (.string s1):=HKB.out.cell 5;have c11:wc.cell? ⟨ka,11,none⟩=some (.string s2):=HKB.out.cell 11;have hkal:ka<wc.heap.size:=HKB.out.lt;have HKS:=aa (Jf hk1 hk2);have hi5:i<=519841:=zJ (yJ hlt) (EG HSL.out (by omega));have ksI:=YA HKL.out (by omega) hi5 (by omega);have nxI:=YB HNL.out hi5 (by omega);clear hk1 hk2 zz1 zz2 zz3 zz4 zz5 hi5;go_wp2_with fail;clear zz6 zz7 c5 c11;rw[HKS.out];obtain⟨KY,hKY⟩:∃KY,t1.key++47::t2.key=KY:=⟨_,rfl⟩;rw[hKY];have HKY:=aa hKY;clear hKY HKS
          go_loopw [21,22] (λbv jv wz=>∃(j:Nat) (bo:Bool),bv=.bool bo/\jv=.int .i64 j/\j<=ks.length/\(bo=true↔KY∈ks.take j)/\wz=wc) (λ_ jv _=>ks.length-(intOf jv).toNat)
          case atStart=>exact⟨0,false,rfl,rfl,zW _,⟨λh=>(by cases h),λh=>by simp at h⟩,rfl⟩
          case round=>
           obtain⟨j,bo,rfl,rfl,hjl,hbo,hwz⟩:=hrel;have HBO:=aa hbo;have j1:(0:Int)<=(j:Int):=zK _;replace hwz:=hwz.symm;subst hwz;clear hbo;by_cases hltj:j<ks.length
           ·have j2:(j:Int)<(ks.length:Int):=by omega
            obtain⟨z,hz⟩:∃z,ks[j]?=some z:=⟨_,zB hltj⟩;obtain⟨bs,off,rfl,_,hbs,hc⟩:=(iQ HMC.out.seen) j (.string ⟨z.toArray⟩) (by unfold qZ;rw[zg,hz];rfl);obtain⟨_,_,hoff⟩:=kf HMC.out.seen;obtain⟨g9,hg9⟩:=hoff _ rfl;injection hg9 with e1 e2;subst e1 e2;have c0:wc.cell? ⟨bs,j,none⟩=some (.string ⟨z.toArray⟩):=by simpa using hc
            have HTK:Hid (ks.take (j+1)=ks.take j++[z]):=by show _=_;rw[zi,hz];rfl
            clear hz hc hoff;cases bo with
            |true=>
             go_wp2_with fail
             go_roundw
             case rel=>exact⟨j+1,true,rfl,by go_num,by omega,⟨λ_=>by rw[HTK.out];exact yq _ (HBO.out.1 rfl),λ_=>rfl⟩,trivial⟩
             case measure=>simp[intOf];omega
            |false=>
             go_wp2_with fail
             go_roundw
             case rel=>exact⟨j+1,_,rfl,by go_num,by omega,by
              rw[HTK.out];constructor
              ·intro h;have e9:z=KY:=JI (by simpa using h);rw[e9];simp
              ·intro h;rcases zM.1 h with h|h
               ·have:=HBO.out.2 h;cases this
               ·simp at h;subst h;simp,trivial⟩
             case measure=>simp[intOf];omega
           ·have j2:decide ((j:Int)<(ks.length:Int))=false:=zI (by omega);obtain rfl:j=ks.length:=by omega
            have HBO2:Hid (bo=true↔KY∈ks):=by have:=HBO.out;rw[zQ]at this;exact this
            have HVS:Hid (∀o,(o.length<=n\/kW (ss.map (·.u)) (hs.map back) i k o)->bY o (s.u++[back c])=true):=λo h=>by
             rcases h with h|h
             ·rw[fI];left;rw[zH,HG.out.ln];exact Nat.lt_succ_of_le h
             ·exact GN HLV.out HAS.out HWI.out HRK.out h
            have HSM:Hid (eE ta.L tb.L (λo=>o.length<=n\/kW (ss.map (·.u)) (hs.map back) i (k+1) o) ks):=HSN2.out.more λo h=>by
             rcases h with h|h
             ·exact .inl h
             ·exact .inr ((lK HWI.out HRK.out).2 (.inl h))
            clear HBO;cases bo with
            |true=>
             have HDE:Hid (DS (dG ta.L tb.L) (s.u++[back c])):=eE.dead (s:=⟨t1,t2,s.u++[back c]⟩) HSN2.out HG2.out (by show t1.key++47::t2.key∈ks;rw[HKY.out];exact HBO2.out.1 rfl) HVS.out;have HND:=aa (HNX.out.drop HWI.out HRK.out HDE.out);go_wp2_with fail
             go_roundw
             case rel=>exact⟨k+1,lo2,cap2,nxs,ys,ks,rfl,by go_num,by omega,HMC.out,HND.out,HST2.out,HSM.out,zJ HNL.out (yN _),zJ HKL.out (yN _)⟩
             case measure=>simp[intOf];omega
            |false=>
             have HNK:=aa (HNX.out.keep HLV.out HAS.out HWI.out HRK.out);have HSA:Hid (eE ta.L tb.L (λo=>o.length<=n\/kW (ss.map (·.u)) (hs.map back) i (k+1) o) (ks++[KY])):=by
              show eE _ _ _ _
              rw[<-HKY.out];exact eE.add (s:=⟨t1,t2,s.u++[back c]⟩) HSM.out HG2.out (.inr ((lK HWI.out HRK.out).2 (.inr rfl)))
             obtain⟨U3,hU3,hb3,HY3,-⟩:=dS (rfl:wc.heap.size=_) [.string ⟨KY.toArray⟩] 9;replace hb3:Below _ _ U3:=hb3;replace HY3:=aa HY3;have HU3:=aa hU3;have hSc:S<=wc.heap.size:=zJ hSV3 HBC.out.size;have HM3:=aa (HMC.out.below hb3 hSc);have hS3:S<=U3.heap.size:=zJ hSc hb3.size;have HB3:=aa hb3;have HK3:=aa (HKB.out.below hb3);have HKN:Hid (some ka≠Value.ownBlock (.slice los ks.length caps)):=λe=>by
              have h1:=(HM.out.seen.lt ka e.symm).2;have h2:=HCUT.out.2.1;omega
             clear hU3 hb3;go_upto_region 29 with (at_builtin;rw[HU3.out];refine jg rfl (.tmp 140) (.tmp 142) 81 9 i9 _ 1 16 rfl underlying81 hi9 hz90 hz91 hz92 rfl (by decide) S ks.length _ _ rfl HM3.out.seen _ 1 _ [.string ⟨KY.toArray⟩] rfl rfl (by decide) (λj u hj=>by rw[zl,zf,HY3.out.cell];exact hj) (λu hu=>by simp at hu;subst hu;rfl) (by unfold maxLen;omega) (by omega) hS3 ?_;intro v4 w4 hown4 hgr4 hmv4;have HF:=aa (And.intro hown4 (And.intro hgr4 hmv4));clear hown4 hgr4 hmv4);have HM4:=aa (HM3.out.name HF.out.1 HF.out.2.1 HF.out.2.2 hS3);have HK4:=aa (HK3.out.grown HF.out.2.1 HKN.out);have HT1:=aa (Oo HCUT.out.2.2.1 HB3.out HF.out.2.1 HF.out.2.2 (λg e=>(HM.out.nx.lt g e).2) (λg e=>(HM.out.seen.lt g e).2) hSV3);have HT2:=aa (Oo HCUT.out.2.2.2.1 HB3.out HF.out.2.1 HF.out.2.2 (λg e=>(HM.out.nx.lt g e).2) (λg e=>(HM.out.seen.lt g e).2) hSV3);obtain⟨lo4,cap4,rfl⟩:=cd HF.out.1;have hka4:ka<w4.heap.size:=HK4.out.lt;obtain⟨d0,d1,d2,d3,d4,d5,d6,d7,d8,d9,d10,d11,d12⟩:=HK4.out.c13;obtain⟨U6,hU6,hb6,HY6,-⟩:=dS (rfl:w4.heap.size=_) [.int .i64 t1.kind,.slice so1 sn1 sc1,.slice lo1 ln1 lc1,.int .i64 m1,.int .i64 n1',.string s1,.int .i64 t2.kind,.slice so2 sn2 sc2,.slice lo3 ln2 lc2,.int .i64 m2,.int .i64 n2',.string s2,.string st] 79;replace hb6:Below _ _ U6:=hb6;replace HY6:=aa HY6;have HU6:=aa hU6;have hS4:S<=w4.heap.size:=HM4.out.size (by omega);have HM6:=aa (HM4.out.below hb6 hS4);have hS6:S<=U6.heap.size:=zJ hS4 hb6.size;have HSV:Hid (oL U6 (KK S A (.slice lo2 nxs.length cap2) (.slice lo4 (ks.length+1) cap4)) ⟨t1,t2,s.u++[back c]⟩ (TC t1.kind so1 sn1 sc1 lo1 ln1 lc1 m1 n1' s1++TC t2.kind so2 sn2 sc2 lo3 ln2 lc2 m2 n2' s2++[.string st])):=⟨_,_,st,rfl,aj.below hb6 _ _ HT1.out,aj.below hb6 _ _ HT2.out,HCUT.out.2.2.2.2.2.2.1⟩;clear hU6 hb6;go_wp2_with (at_builtin;rw[HU6.out];refine jg rfl (.tmp 144) (.tmp 146) 80 79 i3 _ 13 192 rfl underlying80 hi3 hz30 hz31 hz32 rfl (by decide) S nxs.length _ _ rfl HM6.out.nx _ 1 _ (TC t1.kind so1 sn1 sc1 lo1 ln1 lc1 m1 n1' s1++TC t2.kind so2 sn2 sc2 lo3 ln2 lc2 m2 n2' s2++[.string st]) rfl rfl (by decide) (λj u hj=>by rw[zl,zf,HY6.out.cell];exact hj) (eY.ones (eY.one HSV.out)) (by unfold maxLen;omega) (by omega) hS6 ?_;intro v7 w7 hown7 hgr7 hmv7;have HF7:=aa (And.intro hown7 (And.intro hgr7 hmv7));clear hown7 hgr7 hmv7);have HM7:=aa (HM6.out.step HF7.out.1 HF7.out.2.1 HF7.out.2.2 hS6 HSV.out);obtain⟨lo7,cap7,rfl⟩:=cd HF7.out.1
             go_roundw
             case rel=>exact⟨k+1,lo7,cap7,nxs++[⟨t1,t2,s.u++[back c]⟩],_,ks++[KY],by simp,by go_num,by omega,HM7.out,by simpa using HNK.out,λs' hs'=>(by rcases zM.1 hs' with h|h;exact HST2.out s' h;simp at h;subst h;exact HG2.out),HSA.out,by rw[zH];exact Nat.succ_le_succ HNL.out,by rw[zH];exact Nat.succ_le_succ HKL.out⟩
             case measure=>simp[intOf];omega
        ·have k2:decide ((k:Int)<(hs.length:Int))=false:=zI (by omega);obtain rfl:k=hs.length:=by omega
         have HN9:Hid (Nx (dG ta.L tb.L) (ss.map (·.u)) (hs.map back) (i+1) 0 (nxs.map (·.u))):=by
          have h1:=HNX.out;have e:hs.length=(hs.map back).length:=by simp
          rw[e]at h1;exact h1.next HWI.out
         have HS9:Hid (eE ta.L tb.L (λo=>o.length<=n\/kW (ss.map (·.u)) (hs.map back) (i+1) 0 o) ks):=HSN2.out.more λo h=>by
          rcases h with h|h
          ·exact .inl h
          ·exact .inr ((xi HWI.out).2 (by rw[ym];exact h))
         go_wp2_with fail
         go_roundw
         case rel=>exact⟨i+1,lo2,cap2,nxs,ys,ks,rfl,by go_num,by omega,λh=>(by omega),HM.out,HN9.out,HST2.out,HS9.out,Vl HNL.out hlen,Vm HKL.out hlen⟩
         case measure=>simp[intOf];omega
      ·by_cases hl2:i<ss.length
       ·have i2:(i:Int)<(ss.length:Int):=by omega
        have n3:decide ((n:Int)<(N:Int))=false:=zI (by omega);obtain rfl:n=N:=by omega
        have HNONE:=aa (HLV.out.none HNO2.out);obtain rfl:i=0:=hin rfl;have HT:=aa HM.out.turn;go_wp2_with fail
        go_roundw
        case rel=>exact⟨n+1,lo2,cap2,nxs,ys,ks,rfl,by go_num,by omega,HT.out,λh=>(by omega),λ_=>HNONE.out⟩
        case measure=>simp[intOf]
       ·have i2:decide ((i:Int)<(ss.length:Int))=false:=zI (by omega);obtain rfl:i=ss.length:=by omega
        have HT:=aa HM.out.turn;have HEE:Hid (n=N->∀s,ef s->s.length<=N->¬dG ta.L tb.L s):=λe=>by subst e;exact HLV.out.none HNO2.out
        have HDN:Hid (n<N->Lv (dG ta.L tb.L) N (n+1) (nxs.map (·.u))):=λh=>by
         have h1:=HNX.out;have e:ss.length=(ss.map (·.u)).length:=by simp
         rw[e]at h1;exact h1.done HLV.out HNO2.out HVA.out HCOV.out
        have HSD:Hid (eE ta.L tb.L (λo=>o.length<=n+1) ks):=HSN2.out.more λo h=>by
         rcases h with h|h
         ·exact Nat.le_succ_of_le h
         ·rcases h with⟨x,h1,r,_,rfl⟩|⟨x,_,r,h2,_⟩
          ·rw[zH,HLV.out.len x (yi h1)];exact zA _
          ·simp at h2
        go_wp2_with fail
        go_roundw
        case rel=>exact⟨n+1,lo2,cap2,nxs,ys,ks,rfl,by go_num,by omega,HT.out,λh=>⟨HDN.out (by omega),HST2.out,HSD.out,by have h1:=HNL.out;have h2:=HSL.out;rw[Nat.pow_succ];exact zJ h1 (zn _ h2),On HKL.out (EG HSL.out (by omega))⟩,λh=>HEE.out (by omega)⟩
        case measure=>simp[intOf];omega
  ·have n2:decide ((n:Int)<=(N:Int))=false:=zI (by omega);obtain rfl:n=N+1:=by omega
   have HF:=aa (HEND.out rfl);have HBE:Hid (Below w.heap.size w wr):=by show Below _ _ _;rw[hS];exact HM.out.bel
   go_wp2_with fail;refine zN (v:=.tuple #[.string ⟨#[]⟩,.bool false]) (by simp[results,results16,go_sem]) rfl ?_;exact⟨⟨⟨#[]⟩,false,rfl,.inr ⟨HF.out,rfl,rfl⟩⟩,by first|exact HBE.out|exact HM.out.bel⟩
theorem Ql (hh:HeadsG qs hs)(hok:∀q∈qs,PCanon q){D:List Int->Prop}(hD:∀f:Int->Int,(∀q∈qs,∀r,runeB r=true->memB (told q) r=memB (told q) (f r))->fo f D){N:Nat}{m:LZ}(hm:cX D N m):∀r∈m,r∈hs.map back:=by
 have d:∀r:Int,∃r',runeB r=true->r'∈hs.map back/\r'<=r/\runeB r'=true/\∀q∈qs,memB (told q) r=memB (told q) r':=λr=>by
  by_cases a:runeB r=true
  ·obtain⟨w,n,x⟩:=BW a;obtain⟨h,c,k,j⟩:=hh.rep (up r) n;have l:=hh.pl h c;obtain⟨o,u⟩:=gL l;refine⟨back h,λ_=>⟨List.mem_map_of_mem c,?_,o,λq b=>?_⟩⟩
   ·rw[<-w];rcases Int.lt_or_eq_of_le k with g|g
    ·exact Int.le_of_lt (Cn l n g)
    ·rw[g];exact yv _
   ·rw[gb (hok q b) _ a,gb (hok q b) _ o,u];exact (j q b).symm
  ·exact⟨r,λh=>absurd h a⟩
 obtain⟨f,i⟩:∃f:Int->Int,∀r,runeB r=true->f r∈hs.map back/\f r<=r/\runeB (f r)=true/\∀q∈qs,memB (told q) r=memB (told q) (f r):=⟨λr=>Classical.choose (d r),λr=>Classical.choose_spec (d r)⟩;have t:=hD f λq b r a=>(i r a).2.2.2 q b;obtain⟨c,k,j,g⟩:=hm;have p:ef (m.map f):=λr a=>by
  obtain⟨q,b,rfl⟩:=yH.1 a;exact (i q (c q b)).2.2.1
 have v:=g (m.map f) p ((t m c).1 k) (by simpa using j);have s:bY m (m.map f)=false:=by
  rw[gE];exact⟨by simp,λ_=>Bj m (λr a=>(i r (c r a)).2.1)⟩
 have e:=oW s v;intro r a;rw[e]at a;obtain⟨q,b,rfl⟩:=yH.1 a;exact (i q (c q b)).1
theorem Uc {f:Int->Int}:fo f eA:=λ_ _=>Iff.rfl
theorem Ud :dG L eA=L:=by
 funext t;refine propext ⟨λh=>Classical.byContradiction λa=>h ⟨λh=>absurd h a,λh=>h.elim⟩,λh a=>a.1 h⟩
theorem GE {p:Pat}(hp:p.Ok)(sp:Small p){g:Nat}{k:Int}{so:OA}{sn sc:Nat}{ln lc:Nat}{n:Int}(hv:NV w A p (bT k so sn sc lo ln lc m n r) g)(hA:∀g,A g->g<w.heap.size)(most:Int):Calls prog 8 #[.agg #[.int .i64 k,.slice so sn sc,.slice lo ln lc,.int .i64 m,.int .i64 n,.int .i64 r],.int .i64 most] w λe w'=>qf p.Mt most e/\Below w.heap.size w w':=by
 obtain⟨V,hV,u,a7,-⟩:=dS (rfl:w.heap.size=_) [.int .i64 k,.slice so sn sc,.slice lo ln lc,.int .i64 m,.int .i64 n,.int .i64 r] 27;replace u:Below _ _ V:=u;have B:=aa u;have HV:=aa hV;by_cases hm:0<=most/\most<=3
 ·obtain⟨N,rfl⟩:∃N:Nat,most=N:=⟨most.toNat,by omega⟩;have hN:N<=3:=by omega
  have HT:Hid (∀(d a:World) (F:World->Prop),Stb V d F->Below d.heap.size d a->Calls prog 17 #[.agg #[.int .i64 k,.slice so sn sc,.slice lo ln lc,.int .i64 m,.int .i64 n,.int .i64 r]] a λe z=>∃t so sn sc lo ln lc U M K,e=.returned (.agg #[.int .i64 (Tm.kind t),.slice so sn sc,.slice lo ln lc,.int .i64 U,.int .i64 M,.string K])/\Hid (Stb V z (λw'=>F w'/\aj w' (λg=>A g\/V.heap.size<=g) t (TC t.kind so sn sc lo ln lc U M K)))/\Hid (fA p t)):=λd a F h x=>by
   have i:=bL h.bel x;have h8:=i.size;have h7:=u.size;refine (nr p a A g k so sn sc lo ln lc m n r ((hv.below u).below i) (λg y=>by have:=hA g y;omega) hp (zJ sp.nd (by decide)) (zJ sp.rg (by decide))).mono ?_;rintro e z ⟨t,so,sn,sc,lo,ln,lc,U,M,K,rfl,g1,g2,g3⟩;exact⟨t,so,sn,sc,lo,ln,lc,U,M,K,rfl,((h.go x).go g3).and λw' k9=>aj.below k9 _ _ (aj.mono (λg y D=>by rcases D with D|D;exact .inl D;exact .inr (by omega)) _ _ g1),g2⟩
  have HZ:Hid (∀(d a:World) (F:World->Prop),Stb V d F->Below d.heap.size d a->Calls prog 18 #[] a λe z=>∃t so sn sc lo ln lc U M K,e=.returned (.agg #[.int .i64 (Tm.kind t),.slice so sn sc,.slice lo ln lc,.int .i64 U,.int .i64 M,.string K])/\Hid (Stb V z (λw'=>F w'/\aj w' (λg=>A g\/V.heap.size<=g) t (TC t.kind so sn sc lo ln lc U M K)))/\Hid ((λt=>t=.none) t)):=λd a F h x=>by
   have i:=bL h.bel x;have h8:=i.size;refine (fG a).mono ?_;rintro e z ⟨t,so,sn,sc,lo,ln,lc,U,M,K,rfl,g1,g2,g3⟩;exact⟨t,so,sn,sc,lo,ln,lc,U,M,K,rfl,((h.go x).go g3).and λw' k9=>aj.below k9 _ _ (aj.mono (λg y D=>by rcases D with D|D;exact D.elim;exact .inr (by omega)) _ _ g1),g2⟩
  have b7:Hid (∀(d a:World) (F:World->Prop),Stb V d F->Below d.heap.size d a->Calls prog 20 #[.agg #[.int .i64 k,.slice so sn sc,.slice lo ln lc,.int .i64 m,.int .i64 n,.int .i64 r]] a λe z=>∃l j b G,e=.returned (.slice l (List.length j) b)/\Hid (Stb V z (λw'=>F w'/\(w'.ownsRow V.heap.size 24 1 (.slice l j.length b) j.length G/\gh w' A j G)))/\Hid (SetsG [p] j)):=λd a F h x=>by
   have i:=bL h.bel x;have h8:=i.size;have h7:=u.size;refine (nw p a A g k so sn sc lo ln lc m n r ((hv.below u).below i) (λg y=>by have:=hA g y;omega) (zJ sp.nd (by decide))).mono ?_;rintro e z ⟨v',j,G,rfl,g1,g2,g3,g4⟩;obtain⟨l,b,rfl⟩:=cd g1;exact⟨l,j,b,G,rfl,((h.go x).go g4).and λw' k9=>⟨bg (ij g1 h8) k9,g2.below k9⟩,g3⟩
  have c0:Hid (∀(d a:World) (F:World->Prop) (l:Option Addr) (j:List (List (Int×Int))) (b:Nat) (G:List Value),Stb V d F->Below d.heap.size d a->(∀w',F w'->(w'.ownsRow V.heap.size 24 1 (.slice l j.length b) j.length G/\gh w' A j G))->SetsG [p] j->Calls prog 19 #[.slice l j.length b] a λe z=>∃o q c,e=.returned (.slice o (List.length q) c)/\Hid (Stb V z (λw'=>F w'/\w'.ownsRow V.heap.size 3 1 (.slice o q.length c) q.length (bj q)))/\Hid (HeadsG j q/\q.length<=721)):=λd a F l j b G h x he y=>by
   have i:=bL h.bel x;have hF:=he a (h.all a x);have h1:=y.sum;have h2:=y.len;have h3:=sp.rg;have h4:=sp.nd;simp only[cr,bH]at h1 h2;refine (Pp hF.1 hF.2 y.ok (by omega) (by omega)).mono ?_;rintro e z ⟨v',q,rfl,g1,g2,g3,g4⟩;obtain⟨o,c,rfl⟩:=cd g1;exact⟨o,q,c,rfl,((h.go x).go g4).and λw' k9=>bg (ij g1 i.size) k9,g2,by omega⟩
  have b8:Hid (∀(d a:World) (F:World->Prop) (Z:Tm) (J:Option Addr) (H Q:Nat) (W:Option Addr) (R Y:Nat) (m1 n1:Int) (s1:ByteArray) (t2:Tm) (L:Option Addr) (I T:Nat) (O:Option Addr) (a6 P:Nat) (m2 n2:Int) (s2:ByteArray) (o:Option Addr) (q:List Int) (c:Nat) (j:List (List (Int×Int))),Stb V d F->Below d.heap.size d a->(∀w',F w'->aj w' (λg=>A g\/V.heap.size<=g) Z (TC Z.kind J H Q W R Y m1 n1 s1))->(∀w',F w'->aj w' (λg=>A g\/V.heap.size<=g) t2 (TC t2.kind L I T O a6 P m2 n2 s2))->(∀w',F w'->w'.ownsRow V.heap.size 3 1 (.slice o q.length c) q.length (bj q))->fA p Z->t2=.none->(HeadsG j q/\q.length<=721)->SetsG [p] j->Calls prog 16 #[.agg #[.int .i64 Z.kind,.slice J H Q,.slice W R Y,.int .i64 m1,.int .i64 n1,.string s1],.agg #[.int .i64 t2.kind,.slice L I T,.slice O a6 P,.int .i64 m2,.int .i64 n2,.string s2],.slice o q.length c,.int .i64 N] a λe z=>∃s ok,e=.returned (.tuple #[.string s,.bool ok])/\Hid (gZ p.Mt N s ok)/\Hid (Below V.heap.size V z)):=λd a F Z J H Q W R Y m1 n1 s1 t2 L I T O a6 P m2 n2 s2 o q c j h x e1 e2 e3 X b4 hh hq=>by
   have i:=bL h.bel x;have hF:=h.all a x;have b1:=X.lg;have hz:=X.z;have ht:=X.tl;have c2:=sp.z;have c3:=sp.nd;have c1:=sp.rg;subst b4;have b2:∀m,cX (dG Z.L Tm.none.L) N m->∀r∈m,r∈q.map back:=λm hm=>Ql hh.1 hq.ok (λf hf=>by
    have h1:fo f Z.L:=by rw[b1];exact hq.cov p (by simp) f hf
    have h2:fo f Tm.none.L:=by rw[Tm.L_none];exact Uc
    exact RI h1 h2) hm
   refine (Lh (A:=λg=>(A g\/V.heap.size<=g)/\g<a.heap.size) N hN (λg y=>y.2) (aj.mono (λg y D=>⟨D,y⟩) _ _ (e1 a hF)) (aj.mono (λg y D=>⟨D,y⟩) _ _ (e2 a hF)) X.ok trivial (by omega) (by show 1<=61;decide) (by omega) (by show 12<=12420;decide) (e3 a hF) hh.1.srt hh.1.pl b2 hh.2).mono ?_;rintro e z ⟨⟨s,ok,rfl,hl⟩,g3⟩;refine⟨s,ok,rfl,?_,bL i g3⟩;rw[b1,Tm.L_none,Ud]at hl;exact hl
  have E:=aa (Stb.start V);obtain⟨a0,a1,a2,a3,a4,a5⟩:=a7.six;have C:=a7.lt;have n1:decide ((N:Int)<0)=false:=zI (by omega);have n2:decide (3<(N:Int))=false:=zI (by omega);have a8:Hid (∀w',Below V.heap.size V w'->(w'.cell? ⟨w.heap.size,0,none⟩=some (.int .i64 k)/\w'.cell? ⟨w.heap.size,1,none⟩=some (.slice so sn sc)/\w'.cell? ⟨w.heap.size,2,none⟩=some (.slice lo ln lc)/\w'.cell? ⟨w.heap.size,3,none⟩=some (.int .i64 m)/\w'.cell? ⟨w.heap.size,4,none⟩=some (.int .i64 n)/\w'.cell? ⟨w.heap.size,5,none⟩=some (.int .i64 r))):=λw' h=>⟨(h.cell (p:=⟨w.heap.size,0,none⟩) C).trans a0,(h.cell (p:=⟨w.heap.size,1,none⟩) C).trans a1,(h.cell (p:=⟨w.heap.size,2,none⟩) C).trans a2,(h.cell (p:=⟨w.heap.size,3,none⟩) C).trans a3,(h.cell (p:=⟨w.heap.size,4,none⟩) C).trans a4,(h.cell (p:=⟨w.heap.size,5,none⟩) C).trans a5⟩;have b5:=aa (a8 V.drew (jw V));clear hV u a7 hv hA hp sp;go_enter func8,ntmps8;go_upto_region 1 with fail;rw[HV.out];generalize hS:w.heap.size=S at *;go_wp2_with fail
  go_region_held3 (λw'=>w'.cell? ⟨S,0,none⟩=some (.int .i64 k)/\w'.cell? ⟨S,1,none⟩=some (.slice so sn sc)/\w'.cell? ⟨S,2,none⟩=some (.slice lo ln lc)/\w'.cell? ⟨S,3,none⟩=some (.int .i64 m)/\w'.cell? ⟨S,4,none⟩=some (.int .i64 n)/\w'.cell? ⟨S,5,none⟩=some (.int .i64 r))
   (first|with_reducible exact b5.out|with_reducible exact a8.out _ E.out.bel|with_reducible exact a8.out _ a9.out|fail)
   (first
    |(go_at_call 17;with_reducible refine (HT.out _ _ _ E.out (zE _ _)).mono ?_;rintro e wa ⟨Z,J,H,Q,W,R,Y,m1,n1,s1,rfl,E,b3⟩)
    |(go_at_call 18;with_reducible refine (HZ.out _ _ _ E.out (zE _ _)).mono ?_;rintro e wb ⟨t2,L,I,T,O,a6,P,m2,n2,s2,rfl,E,b9⟩)
    |(go_at_call 20;with_reducible refine (b7.out _ _ _ E.out (zE _ _)).mono ?_;rintro e wc ⟨l,j,b,G,rfl,E,HQ⟩)
    |(go_at_call 19;with_reducible refine (c0.out _ _ _ l j b G E.out (zE _ _) (λw' h=>by first|exact h.2|exact h.1.2|exact h.1.1.2|exact h.1.1.1.2) HQ.out).mono ?_;rintro e wd ⟨o,q,c,rfl,E,HH⟩)
    |(go_at_call 16;with_reducible refine (b8.out _ _ _ Z _ _ _ _ _ _ _ _ _ t2 _ _ _ _ _ _ _ _ _ o q c j E.out (zE _ _) (λw' h=>by first|exact h.2|exact h.1.2|exact h.1.1.2|exact h.1.1.1.2) (λw' h=>by first|exact h.2|exact h.1.2|exact h.1.1.2|exact h.1.1.1.2) (λw' h=>by first|exact h.2|exact h.1.2|exact h.1.1.2|exact h.1.1.1.2) b3.out b9.out HH.out HQ.out).mono ?_;rintro e we ⟨s9,b0,rfl,b6,a9⟩)
    |fail)
  all_goals go_wp2_with fail
  all_goals refine zN (v:=.tuple #[.string s9,.bool b0,.int .i64 0]) (by simp[results,results8,go_sem]) rfl ⟨.inr ⟨N,s9,b0,rfl,hN,rfl,b6⟩,by first|exact B.trans (a9.mono B.size)|(rw[hS];exact B.trans (a9.mono (by have:=B.size;omega)))⟩
 ·have HM:Hid (¬(0<=most/\most<=3)):=hm;clear hV u a7 hv hA hp sp;by_cases h0:most<0
  ·go_enter func8,ntmps8;go_upto_region 1 with fail;rw[HV.out];go_wp2_with fail;refine zN (v:=.tuple #[.string ⟨#[]⟩,.bool false,.int .i64 9]) (by simp[results,results8,go_sem]) rfl ⟨.inl ⟨HM,rfl⟩,B⟩
  ·have h1:decide (most<0)=false:=zI h0;have h3:3<most:=by omega
   clear hm;go_enter func8,ntmps8;go_upto_region 1 with fail;rw[HV.out];go_wp2_with fail;refine zN (v:=.tuple #[.string ⟨#[]⟩,.bool false,.int .i64 9]) (by simp[results,results8,go_sem]) rfl ⟨.inl ⟨HM,rfl⟩,B⟩
set_option maxHeartbeats 8000000
open Go.Shelf Go.Lib
theorem Dk {D:List Int->Prop}{s t:LZ}(h:cX D n s)(k:cX D n t):s=t:=oW (k.2.2.2 s h.1 h.2.1 h.2.2.1) (h.2.2.2 t k.1 k.2.1 k.2.2.1)
theorem Dl {s t:ByteArray}{a b:Bool}(h:gZ L n s a)(k:gZ L n t b):s=t/\a=b:=by
 rcases h with⟨u,d,f,j⟩|⟨d,f,j⟩<;>rcases k with⟨v,c,g,i⟩|⟨c,g,i⟩
 ·have e:=Dk d c;subst e;exact⟨f.trans g.symm,j.trans i.symm⟩
 ·exact absurd d.2.1 (c u d.1 d.2.2.1)
 ·exact absurd c.2.1 (d v c.1 c.2.2.1)
 ·exact⟨f.trans g.symm,j.trans i.symm⟩
theorem Dm {e e':Ending}(h:qf L m e)(k:qf L m e'):∃(s:ByteArray) (a:Bool) (er:Int),e=.returned (.tuple #[.string s,.bool a,Vi er])/\e'=.returned (.tuple #[.string s,.bool a,Vi er]):=by
 rcases h with⟨g,d⟩|⟨n,s,a,g,d,p,i⟩<;>rcases k with⟨c,f⟩|⟨l,t,b,c,f,j,o⟩
 ·exact⟨_,_,_,d,f⟩
 ·exact absurd ⟨by omega,by omega⟩ g
 ·exact absurd ⟨by omega,by omega⟩ c
 ·obtain rfl:n=l:=by omega
  obtain⟨rfl,rfl⟩:=Dl i o;exact⟨_,_,_,p,j⟩
theorem GW {e:Ending}(h:qf L m e):∃(s:ByteArray) (a:Bool) (er:Int),e=.returned (.tuple #[.string s,.bool a,Vi er]):=by
 rcases h with⟨_,c⟩|⟨n,s,a,_,_,b,_⟩
 ·exact⟨_,_,_,c⟩
 ·exact⟨_,_,_,b⟩
theorem Xa {p:Pat}{g:Nat}(h:NV w (λ_=>True) p c g):NV w (λq=>q<w.heap.size) p c g:=NV.mono (λ_ a _=>a) p c g h
theorem GX (s:ByteArray)(most:Int)(hT:Bc w)(hm:s.size<=9223372036854775807):Calls prog 3 #[.string s,Vi most] w λe w'=>e=.returned (.bool true)/\Bw w w':=by
 have U:=aa hT;have Z:=aa hm;go_enter func3,ntmps3;go_wp2_with fail;refine (Mz U.1).mono ?_;rintro e w1 ⟨rfl,n⟩;have f:=aa n;have t:=aa (U.below n);go_wp2_with fail;refine (LY s t.1 Z).mono ?_;rintro e z ⟨b,nv,k,G,P,I,S,Q,N,H,M,R,gr,op,rfl,m⟩;have a:Bw z (z.alloc (.cells #[Vi k,.slice G P I,.slice S Q N,Vi H,Vi M,Vi R] 27)):=(zE _ _).alloc (zA _) _;have E:=aa (ag.new z [Vi k,.slice G P I,.slice S Q N,Vi H,Vi M,Vi R] 27);have d:=aa (f.trans ((b.mono f.size).trans (a.mono (zJ f.size b.size))));have j:=aa ((t.below b).below a);cases op with
 |none=>
  have x:nv=.pointer none:=m;subst x;go_wp2_with fail;go_ret;exact⟨rfl,d⟩
 |some p=>
  obtain⟨C,D,K,⟨bx,A,rfl,T⟩,o,a0⟩:=m;have y:=aa (T.below a);have u:=aa (NV.keep (ah.below a) p _ 0 o);have r:=aa C;have v:=aa D;go_upto_region 5 with fail;generalize hW:z.alloc (.cells #[Vi k,.slice G P I,.slice S Q N,Vi H,Vi M,Vi R] 27)=W3 at E d j y u ⊢;have W:=aa (Ii r v y j.2.1 j.2.2 most);go_wp2_with fail;refine W.mono ?_;rintro e F ⟨c,l⟩;obtain⟨s4,X,e4,rfl⟩:=GW l;have L:=aa l;have i:=E.below c;obtain⟨x0,x1,x2,x3,x4,x5⟩:=i.six;have V:=i.lt;have q:=aa c;have HD:Hid (∀O w',(qf p.Mt most O/\Bw F w')->O=.returned (.tuple #[.string s4,.bool X,Vi e4])/\Bw F w'):=λO w' h=>by
   obtain⟨s5,a5,e5,h1,Y⟩:=Dm L.out h.1;rw[h1];exact⟨Y,h.2⟩
  have HR:=aa (GE r v (Xa (NV.keep (ah.below c) p _ 0 u)) (λg h=>h) most);go_wp2_with fail;refine (HR.mono HD).mono ?_;rintro e w5 ⟨rfl,B⟩;have J:=aa B;go_wp2_with fail;go_ret;exact⟨by simp,d.trans ((q.trans (J.mono q.size)).mono d.size)⟩
