import Derived.Test.YtebnghmioamheaaGreatDoorM41
import Derived.Test.YtebnghmioamheaaGreatDoorM32
set_option maxHeartbeats 2000000
set_option maxRecDepth 100000
set_option linter.all false
namespace Go.Proofs.YtebnghmioamheaaGreatDoor
open Go.Shelf Go.RowKit Go.Lib Brm Tryz
variable {w wr w5 W V X w':World}{q q0 b k S pc tc i sc ln lc sn:Nat}{T:TypeId}{ps xs:List Nat}{v lv0 lv v1 v2:Value}{xa xb os:Option Nat}{tv:Option (Value×Bool)}{m n:Int}{s:ByteArray}
attribute [local go_sem] Oper.semAt_some
theorem Hh {P:Program}{F:Fence}{n:Nat}{g:Operand}{ps:Array Tmp}{assign body:Code}{Q:Exit->Act->World->Prop}{a:Act}
  (hro:F.round=none) (h1:1<=n) {gf:Nat} {lb:Array Value} (hg:a.eval g=Vf gf lb) (hFg:F.fn gf) (eg:∀args w,(callFunc gf args).run P w=.ok (.enter gf args) w)
  (I:Nat->World->Prop) (len:Nat) (encs:Nat->Array Value) (hps:∀k,(encs k).size=ps.size)
  (hseq:∀(l:Nat) (J:Nat->World->Prop) (W:World),(∀k W,J k W->I k W)->(∀k W1,J k W1->k<len->YieldAt F (n-1-1) P l (encs k) W1 λe W'=>e=.returned (.bool true)/\J (k+1) W')->J 0 W->CallsIn F (n-1) P gf (#[.func (.yield l) #[] #[]]++lb) W λe W'=>(∃v,e=.returned v)/\J len W')
  (h0:∀o1 o2,I 0 ((w.alloc o1).alloc o2)) (hI:∀k W o',I k W->w.heap.size+1<W.heap.size->I k (W.putObj (w.heap.size+1) o')) (a₁:Nat->Act)
  (hassign:∀(l k:Nat) (W:World) (K:Act->World->Prop),K (a₁ k) W ->
   assign.wpIn (F.inRound l) (n-1-1) P (Exit.then K (λ_ _ _=>False)) { tmps:=(ps.zip (encs k)).foldl (λt (p,v)=>t.setIfInBounds p v) a.tmps,defers:=[] } W)
  (hbody:∀(l k:Nat) (W:World),I k W->k<len->body.wpIn (F.inRound l) (n-1-1) P (λe _ W'=>e=.normal/\I (k+1) W'/\W'.heap[w.heap.size+1]?=W.heap[w.heap.size+1]?/\W'.heap[w.heap.size]?=W.heap[w.heap.size]?) (a₁ k) W)
  (hdone:∀(W:World),I len W->W.heap[w.heap.size]?=some (.deferred (some []))->Q .normal { a with defers:={ target:=.collected w.heap.size,args:=#[] }::a.defers } W):(Code.rangeFunc g ps assign body).wpIn F n P Q a w:=by
 refine wpIn_rangeFunc ?_;intro fn hfn;rw[hro];obtain⟨lp,hlp⟩:∃lp:LoopState->Option Code->Loop,lp=λst pe=>{ state:=st,pending:=pe,fn,tmps:=a.tmps,params:=ps,assign,body,defers:=w.heap.size }:=⟨_,rfl⟩;obtain⟨W1,hW1⟩:∃W1,(w.alloc (.deferred (some []))).alloc (.loop (lp .ready none))=W1:=⟨_,rfl⟩;have hL:W1.heap[w.heap.size+1]?=some (.loop (lp .ready none)):=by
  rw[<-hW1];have:=World.alloc_heap_new (w.alloc (.deferred (some []))) (.loop (lp .ready none));rwa [World.size_alloc]at this
 have hD:W1.heap[w.heap.size]?=some (.deferred (some [])):=by
  rw[<-hW1];exact (zS _ _ _ (by simp)).trans (World.alloc_heap_new w _)
 refine⟨w.heap.size+1,[{ target:=.collected w.heap.size,args:=#[] }],W1,{ target:=.fn (.func gf) lb,args:=#[.func (.yield (w.heap.size+1)) #[] #[]] },W1,gf,
  #[.func (.yield (w.heap.size+1)) #[] #[]]++lb,W1,?_,?_,?_,?_,λ_=>h1,?_⟩
 ·rw[<-hW1,hlp];exact run_enterLoop_outer _ _ _ _ _
 ·simp only[resolve,hg];simp[go_sem]
 ·intro f' hf';simp[Target.leads]at hf';subst hf';exact hFg
 ·simp[invoke,go_sem,eg]
 ·refine (hseq (w.heap.size+1) (λk W=>I k W/\W.heap[w.heap.size+1]?=some (.loop (lp .ready none))/\W.heap[w.heap.size]?=some (.deferred (some []))) W1 (λk W h=>h.1) ?_ ⟨by rw[<-hW1];exact h0 _ _,hL,hD⟩).mono ?_
  ·rintro k W ⟨hi,hl,hd⟩ hk;have hlt:w.heap.size+1<W.heap.size:=(yl.1 hl).1;have hy:=run_yield (P:=P) (args:=encs k) hl (by rw[hlp];exact hps k);rw[hlp]at hy;refine⟨fn,_,assign,body,hy,roundIn_of_wpIn hfn (hassign _ k W _ ⟨_,run_beginRound hl (by rw[hlp]),?_⟩)⟩;refine wpIn_mono (hbody _ k _ (hI k _ _ hi hlt) hk) ?_;rintro e a3 W3 ⟨rfl,hi3,hl3,hd3⟩;rw[World.putObj_heap_same hlt]at hl3;rw[World.putObj_heap_other (by omega),hd]at hd3;have hlt3:w.heap.size+1<W3.heap.size:=(yl.1 hl3).1;have hr:=run_endRound (P:=P) none hl3;refine⟨_,_,hr,rfl,hI _ _ _ hi3 hlt3,?_,(World.putObj_heap_other (by omega)).trans hd3⟩;rw[World.putObj_heap_same hlt3,hlp];rfl
  ·rintro e W2 ⟨⟨v,rfl⟩,hi,hl,hd⟩;have hlt2:w.heap.size+1<W2.heap.size:=(yl.1 hl).1;exact⟨none,_,by have:=run_endLoop (P:=P) hl (by rw[hlp];simp);rw[hlp]at this;exact this,hdone _ (hI _ _ _ hi hlt2) ((World.putObj_heap_other (by omega)).trans hd)⟩
theorem Rz (F:Fence)(n:Nat)(h7:F.fn 158)(hro:F.round=none)(hn:1<=n)(l Bs len cap:Nat)(ao:OA)(pv:Nat->Value)(J:Nat->World->Prop)(hlen:len<=9000000000000)
  (hJ:∀k W,J k W->W.cell? (aD Bs 0)=some (.slice ao len cap)/\∀i,i<len->∃b off,ao=some (aD b off)/\W.cell? ⟨b,off+i,none⟩=some (pv i))
  (hY:∀k W,J k W->k<len->YieldAt F (n-1) prog l #[Vi ((len-1-k:Nat):Int),pv (len-1-k)] W λe W'=>e=.returned (.bool true)/\J (k+1) W')
  (W:World) (h0:J 0 W) :
  CallsIn F n prog 158 #[.func (.yield l) #[] #[],Vp Bs] W λe W'=>(∃v,e=.returned v)/\J len W':=by
 refine callsIn_of_wp func158 rfl h7 ?_ hro;simp only[ntmps158,List.size_toArray,zG,zh,Nat.reduceAdd,Nat.reduceSub,Array.replicate_succ,Array.replicate_zero,List.push_toArray,List.append_toArray,zd,zV];obtain⟨y,_⟩:=hJ 0 W h0;have r:=aa hJ;have t:=aa hY
 gi_wp2
 gi_loopw [3] (λm wr=>(∃i:Nat,m=Vi (i:Int)/\i<len/\J (len-1-i) wr)\/(m=Vi (-1)/\J len wr)) (λm _=>(intOf m+1).toNat)
 case atStart=>
  by_cases w:len=0
  ·subst w;exact .inr ⟨rfl,h0⟩
  ·refine .inl ⟨len-1,?_,by omega,by rw[show len-1-(len-1)=0 by omega];exact h0⟩;congr 1;have:((len-1:Nat):Int)=(len:Int)-1:=by omega
   rw[this]
 case round=>
  rcases hrel with⟨i,rfl,u,a⟩|⟨rfl,c⟩
  ·obtain⟨h,g⟩:=r.out _ _ a;obtain⟨b,off,rfl,G⟩:=g i u;obtain⟨C,s,j,p,z,q⟩:=t.out _ _ a (by omega);rw[show len-1-(len-1-i)=i by omega]at z;have E:(0:Int)<=(i:Int):=zK _;have D:(i:Int)<(len:Int):=by omega
   have x:=aa q
   gi_wp2
   refine x.mono ?_;rintro e B ⟨rfl,f⟩;have d:=aa f
   gi_wp2
   go_roundw
   case rel=>
    by_cases A:i=0
    ·subst A;refine .inr ⟨rfl,?_⟩;have:=d.out;rw[show len-1-0+1=len by omega]at this;exact this
    ·refine .inl ⟨i-1,?_,by omega,?_⟩
     ·congr 1;have:((i-1:Nat):Int)=(i:Int)-1:=by omega
      rw[this]
     ·have:=d.out;rw[show len-1-i+1=len-1-(i-1) by omega]at this;exact this
   case measure=>
    simp only[intOf]
    first|omega|(unfold IntKind.wrap;simp[IntKind.bits,IntKind.signed];omega)
  ·have o:=aa c;obtain⟨h,_⟩:=r.out _ _ c
   gi_wp2
   go_end0
   exact⟨⟨_,rfl⟩,o⟩
set_option maxHeartbeats 4000000
attribute [local go_sem] Oper.semAt_some
def rwsL:List Lg->Lg
 | []=>dZ
 |a::l=>aJ a (rwsL l)
def rwsM:List Me->Me
 | []=>aV
 | [a]=>a
 |a::l=>bf a (rwsM l)
theorem Dd {a:Me}{l:List Me}(h:l≠[]):rwsM (a::l)=bf a (rwsM l):=by
 cases l with
 |nil=>exact absurd rfl h
 |cons b l=>rfl
theorem MkI.notMp {c:MC}(h:MkI w c q){g:Nat}{cs:LV}(hb:ag w g cs T):¬c.Mp g:=by
 rintro (rfl|⟨i,e,rfl⟩)
 ·obtain⟨f,⟨D,⟨j,a,b,d⟩,k⟩,_⟩:=h.map;have:w.heap[c.bm]?=some (.cells cs.toArray T):=hb;rw[b]at this;cases this
 ·obtain⟨f,n,⟨D,⟨j,a,b,d⟩,k⟩,_⟩:=h.know i e;have:w.heap[c.KM i]?=some (.cells cs.toArray T):=hb;rw[b]at this;cases this
theorem HoldY.blk {c ci c5:MC}{Y:NP}(hI:MkI w c q0)(h:HoldY w c wr ci q Y)(hg:Gone wr ci w5 c5){cs:LV}(hb:ag wr b cs T)(hle:w.heap.size<=b):ag w5 b cs T:=by
 refine (hg.but.block b hb.lt ?_).trans hb;rintro (e|e)
 ·exact h.mk.notMp hb e
 ·rw[h.gone.X]at e;have:=(hI.xs b e).1;omega
def GK (S:Nat)(g:Nat):Prop:=g=S+1\/g=S+3\/g=S+4
def RQ (c:MC)(q:Nat)(ps:List Nat)(k:Nat):Nat:=q+aG (λa=>(sz c.T a).n) (ps.drop (ps.length-k))
def ph (w:World)(c:MC)(q S:Nat)(ps:List Nat)(pa:Option Addr)(pc k:Nat)(W:World):Prop:=∃ck jk,HoldY w c W ck (RQ c q ps k) (GK S)/\jk<ck.T.length/\lg ck.T jk=rwsL ((ps.drop (ps.length-k)).map (lg c.T))/\(k=0->jk=1)/\sz ck.T jk<=rwsM ((ps.drop (ps.length-k)).map (sz c.T))/\ag W S [ae c.m] 95/\ag W (S+1) [ae (ck.R jk)] 103/\ag W (S+2) [.slice pa ps.length pc] 110
theorem Qt {p:Nat}(hk:k<ps.length)(hp:ps[ps.length-1-k]?=some p):ps.drop (ps.length-(k+1))=p::ps.drop (ps.length-k):=by
 have b:ps.length-(k+1)<ps.length:=by omega
 have a:ps[ps.length-(k+1)]?=some p:=by rw[show ps.length-(k+1)=ps.length-1-k by omega];exact hp
 rw[yC b,(zC.1 a).2,show ps.length-(k+1)+1=ps.length-k by omega]
theorem Ul {c:MC}{p:Nat}{pa:OA}(hI:MkI w c q)(hP:aZ w)(hS:w.heap.size=S)(hps:∀a∈ps,a<c.T.length)(hq:q+aG (λa=>(sz c.T a).n) ps<=9000000000000000000)(hk:k<ps.length)(hp:ps[ps.length-1-k]?=some p){x:Nat}(hx:W.cell? (aD (S+1) 0)=some (ae x))(h:ph w c q S ps pa pc k W):Calls prog 114 #[ae c.m,ae (c.R p),ae x] W (λr9 w5=>∃y,r9=.returned (ae y)/\w5.cell? (aD (S+1) 0)=some (ae x)/\w5.frozen? (aD (S+1) 0)=false/\S+1<w5.heap.size/\Hid (ph w c q S ps pa pc (k+1) (w5.setCell (aD (S+1) 0) (ae y))/\(w5.setCell (aD (S+1) 0) (ae y)).heap[S+4]?=W.heap[S+4]?/\(w5.setCell (aD (S+1) 0) (ae y)).heap[S+3]?=W.heap[S+3]?)):=by
 obtain⟨b,A,f,hj,hL,L,hZ,I,v,C⟩:=h;have M:x=b.R A:=by
  have:=v.cell 0;rw[hx]at this;injection this with e;injection e with e;injection e with e;injection e
 subst M;have j:=hps p (zU hp);have P:=f.gone.len;have Q:(b.wY (GK S)).R p=c.R p:=f.gone.R p j;have O:(b.wY (GK S)).m=c.m:=f.gone.m;have m:sz (b.wY (GK S)).T p=sz c.T p:=f.gone.sz j;have t:lg (b.wY (GK S)).T p=lg c.T p:=f.gone.lang j;have E:aZ W:=f.gone.pow hI hP;have s:=Qt hk hp;have hQ:RQ c q ps (k+1)=RQ c q ps k+(sz c.T p).n:=by
  unfold RQ;rw[s];simp only[aG];omega
 have U:RQ c q ps (k+1)<=q+aG (λa=>(sz c.T a).n) ps:=by
  have h1:aG (λa=>(sz c.T a).n) ps=aG (λa=>(sz c.T a).n) (ps.take (ps.length-(k+1)))+aG (λa=>(sz c.T a).n) (ps.drop (ps.length-(k+1))):=by rw[<-fY,zj]
  unfold RQ;omega
 have l:Calls prog 114 #[ae c.m,ae (c.R p),ae (b.R A)] W (au W (b.wY (GK S)) (RQ c q ps (k+1)) (rwsL ((ps.drop (ps.length-(k+1))).map (lg c.T))) (rwsM ((ps.drop (ps.length-(k+1))).map (sz c.T)))):=by
  rw[s,zp,zp];by_cases z:k=0
  ·have N:=L z;subst N;have u:=XV (a:=p) f.mk (show p<b.T.length by omega);rw[Q,O,m,t]at u;refine u.mono ?_;intro r9 w9 h9;have he:ps.drop (ps.length-k)=[]:=by rw[z];exact yh (by omega)
   rw[he];have e1:rwsL (lg c.T p::[].map (lg c.T))=lg c.T p:=by simp only[yU,rwsL,kQ]
   rw[e1];exact h9.more (by omega)
  ·have u:=wU p W (b.wY (GK S)) (RQ c q ps k) A f.mk (show p<b.T.length by omega) hj E (by rw[m];omega);rw[Q,O,m,t]at u;have G:(ps.drop (ps.length-k)).map (sz c.T)≠[]:=by
    intro e;have:=congrArg List.length e;simp at this;omega
   refine u.mono ?_;rintro r9 w9 ⟨c9,X,V,T,g2,Z,Y,g5⟩;refine⟨c9,X,V,by rw[hQ];exact T,g2,Z,?_,?_⟩
   ·rw[Y];show aJ (lg c.T p) (lg b.T A)=_
    rw[hL];rfl
   ·rw[Dd G];exact Me.trans g5 (kP (Me.refl _) hZ)
 refine l.mono ?_;intro r9 w5 i;obtain⟨J,D,rfl,r,o,H,K,F,n⟩:=HoldY.call f i;have a0:w.heap.size<=S:=by omega
 have b0:=HoldY.blk hI f o I (by omega);have b2:=HoldY.blk hI f o C (by omega);have B:ag w5 (S+1) [ae (b.R A)] 103:=(n (S+1) (.inl rfl)).trans v;have R:(w5.setCell (aD (S+1) 0) (ae (J.R D))).heap.size=w5.heap.size:=by simp[World.setCell]
 have d:∀g,g≠S+1->(w5.setCell (aD (S+1) 0) (ae (J.R D))).heap[g]?=w5.heap[g]?:=λg i=>zk _ _ _ _ i;refine⟨_,rfl,B.cell 0,B.frozen 0,B.lt,⟨J,D,?_,H,K,λh=>by omega,F,b0.setOther (p:=(aD (S+1) 0)) (by show S≠S+1;omega) _,B.set 0 _,b2.setOther (p:=(aD (S+1) 0)) (by show S+2≠S+1;omega) _⟩,?_,?_⟩
 ·refine HoldY.turn r (λg i=>?_) hI.seven (by omega) (λg i hn=>d g (λe=>hn (.inl e))) rfl rfl rfl (λg i=>⟨.inl i,?_⟩)
  ·rcases i with rfl|rfl|rfl<;>omega
  ·have:=(r.mk.xs g (.inr i)).1;omega
 ·exact (d _ (by omega)).trans (n _ (.inr (.inr rfl)))
 ·exact (d _ (by omega)).trans (n _ (.inr (.inl rfl)))
theorem Qu {c:MC}{pa:OA}(hI:MkI w c q)(hS:w.heap.size=S){W0:World}(hW0:((w.alloc (.cells #[ae c.m] 95)).alloc (.cells #[ae (c.R 1)] 103)).alloc (.cells #[.slice pa ps.length pc] 110)=W0)(o1 o2:Obj):ph w c q S ps pa pc 0 ((W0.alloc o1).alloc o2):=by
 have f:1<c.T.length:=(zC.1 hI.t1).1;have d:W0.heap.size=S+3:=by rw[<-hW0,<-hS];simp
 have h:Bw w W0:=by rw[<-hW0];exact (((zE _ _).alloc (zA _) _).alloc (by simp) _).alloc (by simp;omega) _
 have a:Bw w ((W0.alloc o1).alloc o2):=(h.alloc (by omega) _).alloc (by simp;omega) _;have l:ag W0 S [ae c.m] 95:=by rw[<-hW0,<-hS];exact ((ag.new w [ae c.m] 95).alloc _).alloc _
 have j:ag W0 (S+1) [ae (c.R 1)] 103:=by rw[<-hW0,<-hS];have:=(ag.new (w.alloc (.cells #[ae c.m] 95)) [ae (c.R 1)] 103).alloc (.cells #[.slice pa ps.length pc] 110);simpa using this
 have k:ag W0 (S+2) [.slice pa ps.length pc] 110:=by rw[<-hW0,<-hS];have:=ag.new ((w.alloc (.cells #[ae c.m] 95)).alloc (.cells #[ae (c.R 1)] 103)) [.slice pa ps.length pc] 110;simpa using this
 have e:ps.drop (ps.length-0)=[]:=yh (by omega);refine⟨c,1,?_,f,?_,λ_=>rfl,?_,(l.alloc _).alloc _,(j.alloc _).alloc _,(k.alloc _).alloc _⟩
 ·have i:HoldY w c w c (RQ c q ps 0) (λg=>some g=none):=dk.start (by unfold RQ;rw[e];exact hI);refine HoldY.turn i (λg b=>by cases b) hI.seven a.size (λg b _=>a.block g b) a.os a.tape a.output (λg b=>?_);have:((W0.alloc o1).alloc o2).heap.size=S+5:=by simp[d]
  rcases b with rfl|rfl|rfl<;>exact⟨.inr (by omega),by omega⟩
 ·rw[e,hI.emp];rfl
 ·rw[e,hI.sz1];exact Me.refl _
theorem WO {c:MC}{pa:OA}(hI:MkI w c q)(hS:w.heap.size=S)(h:ph w c q S ps pa pc k W){l:Nat}(hl:l=S+3\/l=S+4)(o':Obj):ph w c q S ps pa pc k (W.putObj l o'):=by
 obtain⟨p,t,o,u,s,n,r,i,f,j⟩:=h;have d:=grownBy_putObj' W l o';have a:∀g,g<W.heap.size->g≠l->(W.putObj l o').heap[g]?=W.heap[g]?:=λg b m=>d.block g b (λe=>m (by injection e));refine⟨p,t,?_,u,s,n,r,(a _ i.lt (by omega)).trans i,(a _ f.lt (by omega)).trans f,(a _ j.lt (by omega)).trans j⟩;refine HoldY.turn o (λg d=>?_) hI.seven d.size (λg b m=>a g b (λe=>m (by subst e;rcases hl with rfl|rfl;exact .inr (.inl rfl);exact .inr (.inr rfl)))) d.os d.tape d.output (λg b=>⟨.inl b,?_⟩)
 ·rcases d with rfl|rfl|rfl<;>omega
 ·have v:=(o.mk.xs g (.inr b)).1;have x:=d.size;omega
theorem WP {c:MC}{pa:OA}(h:ph w c q S ps pa pc ps.length W)(hv:W.cell? (aD (S+1) 0)=some v):au w c (q+aG (λa=>(sz c.T a).n) ps) (rwsL (ps.map (lg c.T))) (rwsM (ps.map (sz c.T))) (.returned v) W:=by
 obtain⟨f,k,b,r,j,m,i,o,d,n⟩:=h;have l:ps.drop (ps.length-ps.length)=ps:=by rw[Nat.sub_self,List.drop_zero]
 unfold RQ at b;rw[l]at j i b;have p:v=ae (f.R k):=by
  have:=d.cell 0;rw[hv]at this;injection this
 subst p;refine⟨f,k,rfl,?_,b.gone,r,j,i⟩;have:=b.mk.turn (w':=W) (X':=f.X) (zA _) (λ_ _ _=>rfl) (λg e=>⟨.inl (.inl e),(b.mk.xs g (.inl e)).1,b.mk.low g (.inr (.inl e))⟩);exact this
theorem Qv {c:MC}{pa:OA}(hI:MkI w c q)(hP:aZ w)(hps:∀a∈ps,a<c.T.length)(hpa:dQ w c.S c.R pa ps)(hlen:ps.length<=9000000000000)(hq:q+aG (λa=>(sz c.T a).n) ps<=9000000000000000000):Calls prog 71 #[ae c.m,.slice pa ps.length pc] w (au w c (q+aG (λa=>(sz c.T a).n) ps) (rwsL (ps.map (lg c.T))) (rwsM (ps.map (sz c.T)))):=by
 obtain⟨S,u⟩:∃S,w.heap.size=S:=⟨_,rfl⟩;obtain⟨D,f⟩:∃D,((w.alloc (.cells #[ae c.m] 95)).alloc (.cells #[ae (c.R 1)] 103)).alloc (.cells #[.slice pa ps.length pc] 110)=D:=⟨_,rfl⟩;have A:D.heap.size=S+3:=by rw[<-f,<-u];simp
 have c2:w.cell? (aD c.m 2)=some (ae (c.R 1)):=hI.mb.cell 2;have a1:=hI.mb.lt;have U:c.m<S:=by omega
 have r:Hid (∀(W:World) (k p:Nat) (x:Nat),k<ps.length->ps[ps.length-1-k]?=some p->W.cell? (aD (S+1) 0)=some (ae x)->ph w c q S ps pa pc k W->Calls prog 114 #[ae c.m,ae (c.R p),ae x] W (λr9 t=>∃y,r9=.returned (ae y)/\t.cell? (aD (S+1) 0)=some (ae x)/\t.frozen? (aD (S+1) 0)=false/\S+1<t.heap.size/\Hid (ph w c q S ps pa pc (k+1) (t.setCell (aD (S+1) 0) (ae y))/\(t.setCell (aD (S+1) 0) (ae y)).heap[S+4]?=W.heap[S+4]?/\(t.setCell (aD (S+1) 0) (ae y)).heap[S+3]?=W.heap[S+3]?))):=λW k p x C m hx h=>Ul hI hP u hps hq C m hx h;have P:Hid (∀O T,ph w c q S ps pa pc 0 ((D.alloc O).alloc T)):=λO T=>Qu hI u f O T;have j:Hid (∀(k l:Nat) (W:World) (g:Obj),(l=S+3\/l=S+4)->ph w c q S ps pa pc k W->ph w c q S ps pa pc k (W.putObj l g)):=λk l W g X h=>WO hI u h X g;have s:Hid (∀(k:Nat) (W:World),ph w c q S ps pa pc k W->W.cell? (aD S 0)=some (ae c.m)/\(∃x,W.cell? (aD (S+1) 0)=some (ae x))/\W.cell? (aD (S+2) 0)=some (.slice pa ps.length pc)/\∀i,i<ps.length->∃b d,pa=some (aD b d)/\W.cell? ⟨b,d+i,none⟩=some (ae (c.R (ps[i]?.getD 0)))):=λk W h=>by
  obtain⟨ck,jk,hh,hj,hL,a2,hZ,N,Q,H⟩:=h;refine⟨N.cell 0,⟨_,Q.cell 0⟩,H.cell 0,λi hi=>?_⟩;obtain⟨p,m⟩:∃p,ps[i]?=some p:=⟨_,zB hi⟩;obtain⟨V,d,e,R,M,G⟩:=hpa i p m;exact⟨V,d,e,by rw[m];exact (hh.gone.but.cell (p:=⟨V,d+i,none⟩) R M).trans G⟩
 have z:Hid (∀(W:World) (v:Value),ph w c q S ps pa pc ps.length W->W.cell? (aD (S+1) 0)=some v->au w c (q+aG (λa=>(sz c.T a).n) ps) (rwsL (ps.map (lg c.T))) (rwsM (ps.map (sz c.T))) (.returned v) W):=λW v h Y=>WP h Y;have L:=aa f;clear hI hP hps hpa hq f;refine (callsIn_wide (n:=3)).1 ?_;refine callsIn_of_wp_marks func71 rfl trivial ?_ rfl;simp only[ntmps71,List.size_toArray,zG,zh,Nat.reduceAdd,Nat.reduceSub,Array.replicate_succ,Array.replicate_zero,List.push_toArray,List.append_toArray,zd,zV]
 gi_wp2_with (refine⟨trivial,?_⟩;gi_at_call 113;refine (IU Fence.wide _ trivial rfl _ _ _ _).mono ?_;rintro e w' ⟨rfl,rfl⟩)
 rw[L.out]
 try simp only[World.size_alloc,u]
 refine Hh rfl (by decide) (gf:=158) (lb:=#[ae (S+1+1)]) rfl trivial (enters_of func158 (by kernel_rfl) rfl)
  (λk W=>ph w c q S ps pa pc k W) ps.length (λk=>#[Vi ((ps.length-1-k:Nat):Int),ae (c.R (ps[ps.length-1-k]?.getD 0))]) (λ_=>rfl)
  (λl J W F hY h0=>Rz Fence.wide _ trivial rfl (by decide) l (S+2) ps.length pc pa (λi=>ae (c.R (ps[i]?.getD 0))) J hlen (λk W C=>(s k W (F k W C)).2.2) hY W h0)
  P (λk W g h _=>j k _ W g (.inr (by omega)) h)
  (λk=>{ tmps:=#[ae c.m,.slice pa ps.length pc,ae S,undef,.pointer none,ae (S+1),undef,ae (c.R (ps[ps.length-1-k]?.getD 0)),ae c.m,ae c.m,.pointer (some (aD c.m 2)),ae (c.R 1),.slice pa ps.length pc,Vf 158 #[ae (S+1+1)],Vi ((ps.length-1-k:Nat):Int),ae (c.R (ps[ps.length-1-k]?.getD 0)),undef,undef,undef,undef,undef],defers:=[] }) ?assign ?body ?done
 case assign=>
  intro l k W K E
  gi_wp2
  exact E
 case body=>
  intro l k W o C;obtain⟨Z,⟨x,B⟩,y3,_⟩:=s.out k W o;obtain⟨p,m⟩:∃p,ps[ps.length-1-k]?=some p:=⟨_,zB (by omega)⟩;have HC:=aa (r W k p x C m B o);rw[m];simp only[Option.getD_some];have a3:S+1<W.heap.size:=World.block_lt_of_cell? W (aD (S+1) 0) B;have a0:S<W.heap.size:=by omega
  clear o
  gi_wp2_with (refine⟨trivial,?_⟩;gi_at_call 114;refine (CallsIn.inRound l (callsIn_wide.2 HC)).mono ?_;rintro e W2 ⟨y,rfl,g2,f2,l2,I⟩)
  exact⟨I.1,I.2.1,I.2.2⟩
 case done=>
  intro W o E;rw[A]at E;obtain⟨Z,⟨x,B⟩,y3,_⟩:=s.out _ W o;have HE:=aa (λg=>z (W.putObj (S+3) g) (ae x) (j _ _ W g (.inl rfl) o) (by
   refine (zP (w:=W) ?_).trans B;exact (grownBy_putObj' W (S+3) g).block _ (World.block_lt_of_cell? W (aD (S+1) 0) B) (λe=>by injection e with e;simp at e)))
  clear o;rw[A]
  gi_wp2
  refine⟨by simp,.inl ⟨_,_,rfl,run_takeDeferred E,?_⟩⟩;refine⟨_,results_tmp rfl _ _ _,?_⟩;exact HE _
theorem QF (a:OA)(n c:Nat)(w:World):(binOp .eql 71 (.slice a n c) (Vz)).run prog w=.ok (.bool a.isNone) w:=by
 simp[binOp,run_equal_slice_nil w 71 _ a n c underlying71,go_sem,Result.andThen]
theorem uf:(prog.info? 21).map (λi=>(i.zero,i.size,i.bytes))=some (some (.int .i32 0),1,4):=by kernel_rfl
def iC (u:List Int):List Value:=u.map λr=>.int .i32 r
theorem Uy (u:LZ):∀x∈iC u,x.oneCell'=true:=by
 intro x a;obtain⟨r,_,rfl⟩:=yH.1 a;rfl
theorem QG {ta:OA}{B:Nat}{u:LZ}(ht:iy w (.slice ta u.length tc) u)(h0:ta=none->u=[]/\tc=0)(hl:u.length<=1000000)(hB:B<=w.heap.size):Calls prog 76 #[.slice ta u.length tc] w λe w'=>∃v,e=.returned v/\w'.ownsRow B 21 1 v u.length (iC u)/\(∀g,v.ownBlock=some g->w.heap.size<=g)/\Bw w w':=by
 obtain⟨F,I,o,s,n⟩:=zz uf;cases ta with
 |none=>
  obtain⟨rfl,rfl⟩:=h0 rfl;have z:=QF none 0 0;go_enter func76,ntmps76;go_wp2_with fail;go_ret;exact⟨_,rfl,zZ _ _ _ _,λg q=>by simp[Value.ownBlock]at q,zE _ _⟩
 |some ad=>
  have f:∀j x,(iC u)[j]?=some x->(w.alloc (.cells #[] 21)).cell? (ad.add j)=some x:=λj x D=>by
   obtain⟨a,c,e,h⟩:=ht;injection e with e1 e2 e3;subst e1;rw[show (iC u)[j]?=(u[j]?).map (λr=>Value.int .i32 r) by simp[iC]]at D;obtain⟨r,L,rfl⟩:=Option.map_eq_some_iff.1 D;obtain⟨b,G,t,M,K⟩:=h j r L;injection t with t;subst t;rw[zl];exact lq _ K
  have l:(w.alloc (.cells #[] 21)).ownsRow w.heap.size 21 1 (Vs w.heap.size 0 0) 0 []:=⟨rfl,.inr ⟨w.heap.size,0,#[],rfl,zA _,(ag.new w [] 21),zA _,zW _,rfl,rfl⟩⟩;have E:=aa f;have J:=aa l;have z:=QF (some ad) u.length tc;go_enter func76,ntmps76;go_wp2_with (at_builtin;refine ft rfl _ _ 71 rfl w.heap.size 21 F (.int .i32 0) 1 4 underlying71 I o s n rfl (by decide) _ _ _ rfl J ad u.length tc (iC u) rfl (by simp[iC]) E (Uy u) (by unfold maxLen;omega) (by omega) (by simp) ?_;intro C A d i m);have H:Hid (A.ownsRow B 21 1 C u.length (iC u)/\(∀g,C.ownBlock=some g->w.heap.size<=g)/\Bw w A):=by
   rw[zf,zd]at d;refine⟨⟨d.1,?_⟩,λg q=>(d.lt g q).1,((zE _ _).alloc (zA _) _).grown i (by simp) (λk e=>by cases e;exact zA _)⟩;rcases d.2 with h|⟨g,y,p,e,M,r⟩
   ·exact .inl h
   ·exact .inr ⟨g,y,p,e,by omega,r⟩
  go_ret;exact⟨_,rfl,H⟩
structure LS (w:World)(c:MC)(q:Nat)(r:Int)(a b:Nat)(u:List Int)(bcs:List Value)(W:World)(xa xb:Option Nat)(tv:Option (Value×Bool))(os:Option Nat):Prop where
 ex:∃c',HoldY w c W c' (q+(if xa.isSome then aq (sz c.T a)else 0)+(if xb.isSome then aq (sz c.T b)else 0)) (λg=>g=w.heap.size+1\/∃t,tv=some t/\some g=t.1.ownBlock) /\
  (∀x,xa=some x->∃j,j<c'.T.length/\x=c'.R j/\lg c'.T j=aX (lg c.T a) r/\sz c'.T j<=aN (sz c.T a))/\(∀x,xb=some x->∃j,j<c'.T.length/\x=c'.R j/\lg c'.T j=aX (lg c.T b) r/\sz c'.T j<=aN (sz c.T b))
 box:ag W w.heap.size bcs 107
 res:ag W (w.heap.size+1) [Vz,.pointer none,.pointer none] 107
 txt:∀v d,tv=some (v,d)->W.ownsRow (w.heap.size+2) 21 1 v (if d then u.length+1 else u.length) (if d then iC (u++[r])else iC u)
 one:∀n,os=some n->ag W n [.int .i32 r] 21/\w.heap.size+1<n/\∀t,tv=some t->some n≠t.1.ownBlock
def GS (r:Int)(X V:World)(os os':Option Nat):Prop:=(cW V X/\os'=os)\/(os=none/\os'=some X.heap.size/\cW V (X.alloc (.cells #[.int .i32 r] 21)))
theorem cW.blk (h:cW V X){cs:LV}(k:ag X b cs T):ag V b cs T:=(show V.heap[b]?=X.heap[b]? by rw[h.1]).trans k
section
variable {w:World} {c:MC} {q:Nat} {r:Int} {a b:Nat} {u:List Int} {bcs:List Value}
theorem LS.same (h:LS w c q r a b u bcs X xa xb tv os)(hs:cW V X):LS w c q r a b u bcs V xa xb tv os:=by
 obtain⟨⟨l,k,p,i⟩,j,o,m,f⟩:=h;exact⟨⟨l,k.below hs.below,p,i⟩,hs.blk j,hs.blk o,λv d e=>wF (m v d e) (λg _=>by rw[hs.1]),λn e=>⟨hs.blk (f n e).1,(f n e).2⟩⟩
theorem LS.next {os':Option Nat}(h:LS w c q r a b u bcs X xa xb tv os)(hn:GS r X V os os'):LS w c q r a b u bcs V xa xb tv os':=by
 rcases hn with⟨f,rfl⟩|⟨rfl,rfl,f⟩
 ·exact h.same f
 ·refine LS.same (X:=X.alloc (.cells #[.int .i32 r] 21)) ?_ f;obtain⟨⟨o,m,l,k⟩,s,i,g,x⟩:=h;refine⟨⟨o,m.below ((zE _ _).alloc (zA _) _),l,k⟩,s.alloc _,i.alloc _,λv d e=>(g v d e).alloc _,λn e=>?_⟩;injection e with e;subst e;refine⟨ag.new X [.int .i32 r] 21,i.lt,λt j p=>?_⟩;have:=((g t.1 t.2 (by rw[j])).lt _ p.symm).2;omega
theorem LS.start (hI:MkI w c q){W0:World}(hb0:Bw w W0)(hx:ag W0 w.heap.size bcs 107)(hr:ag W0 (w.heap.size+1) [Vz,.pointer none,.pointer none] 107):LS w c q r a b u bcs W0 none none none none:=by
 refine⟨⟨c,⟨?_,Gone.below hb0⟩,λx e=>(by cases e),λx e=>(by cases e)⟩,hx,hr,λv d e=>(by cases e),λn e=>(by cases e)⟩;have i:=hI.seven;have f:=hr.lt;have:=hI.turn (w':=W0) (X':=λg=>c.X g\/(g=w.heap.size+1\/∃t,(none:Option (Value×Bool))=some t/\some g=t.1.ownBlock)) hb0.size (λg h _=>hb0.block g h) (by
  rintro g (hx|rfl|⟨t,e,_⟩)
  ·exact⟨.inl hx,by have:=(hI.xs g hx).1;have:=hb0.size;omega,hI.low g (.inr hx)⟩
  ·exact⟨.inr (by omega),f,by omega⟩
  ·cases e)
 exact this
theorem LS.cell {X:World}{xa xb:Option Nat}{tv:Option (Value×Bool)}{os:Option Nat}(h:LS w c q r a b u bcs X xa xb tv os){p:Addr}(hp:p.block<w.heap.size)(hn:¬c.S p.block):X.cell? p=w.cell? p:=by
 obtain⟨⟨g,d,k,e⟩,f,j,i,l⟩:=h;exact d.gone.but.cell hp hn
theorem LS.called {xa' xb':Option Nat}{c' c5:MC}(h:LS w c q r a b u bcs V xa xb tv os)(hI:MkI w c q0)(hh:HoldY w c V c' (q+(if xa.isSome then aq (sz c.T a)else 0)+(if xb.isSome then aq (sz c.T b)else 0)) (λg=>g=w.heap.size+1\/∃t,tv=some t/\some g=t.1.ownBlock))(hg5:Gone V c' w5 c5)(hk5:∀g,(g=w.heap.size+1\/∃t,tv=some t/\some g=t.1.ownBlock)->w5.heap[g]?=V.heap[g]?)
  (hex:∃c',HoldY w c w5 c' (q+(if xa'.isSome then aq (sz c.T a)else 0)+(if xb'.isSome then aq (sz c.T b)else 0)) (λg=>g=w.heap.size+1\/∃t,tv=some t/\some g=t.1.ownBlock)/\(∀x,xa'=some x->∃j,j<c'.T.length/\x=c'.R j/\lg c'.T j=aX (lg c.T a) r/\sz c'.T j<=aN (sz c.T a))/\(∀x,xb'=some x->∃j,j<c'.T.length/\x=c'.R j/\lg c'.T j=aX (lg c.T b) r/\sz c'.T j<=aN (sz c.T b))):LS w c q r a b u bcs w5 xa' xb' tv os:=by
 refine⟨hex,HoldY.blk hI hh hg5 h.box (zA _),(hk5 _ (.inl rfl)).trans h.res,λv d e=>wF (h.txt v d e) (λg f=>hk5 g (.inr ⟨_,e,f⟩)),λn e=>?_⟩;obtain⟨i,l,k⟩:=h.one n e;refine⟨HoldY.blk hI hh hg5 i (by omega),l,k⟩
theorem LS.behA {kb:Nat}(h:LS w c q r a b u bcs V none xb tv os)(hI:MkI w c q0)(hP:aZ w)(ha:a<c.T.length)(hr:runeB r=true)(hq:q+aq (sz c.T a)+aq (sz c.T b)<=9000000000000000000)(hz:(aN (sz c.T a)).z<=3000000000000)(hc:w.cell? (aD (c.R a) 4)=some (Vf 143 #[ae k,ae kb]))(hcl:c.R a<w.heap.size)(jq:¬c.S (c.R a)):Calls prog 143 #[Vi r,ae k,ae kb] V λe w5=>∃x,e=.returned (ae x)/\LS w c q r a b u bcs w5 (some x) xb tv os:=by
 obtain⟨m,i,L,K⟩:=h.ex;have B:=i.gone.len;have o:sz (m.wY (λg=>g=w.heap.size+1\/∃t,tv=some t/\some g=t.1.ownBlock)).T a=sz c.T a:=i.gone.sz ha;have I:lg (m.wY (λg=>g=w.heap.size+1\/∃t,tv=some t/\some g=t.1.ownBlock)).T a=lg c.T a:=i.gone.lang ha;have G:(m.wY (λg=>g=w.heap.size+1\/∃t,tv=some t/\some g=t.1.ownBlock)).R a=c.R a:=i.gone.R a ha;have y:(q+(if (none:Option Nat).isSome then aq (sz c.T a)else 0)+(if xb.isSome then aq (sz c.T b)else 0))+aq (sz c.T a)<=9000000000000000000:=by
  simp only[Option.isSome_none,yR,if_false]
  split<;>omega
 have f:=Am a V _ _ r k kb i.mk (show a<m.T.length by omega) (i.gone.pow hI hP) hr (by rw[G];exact (i.gone.but.cell (p:=(aD (c.R a) 4)) hcl jq).trans hc) (by rw[o];exact y) (by rw[o];exact hz);rw[o,I]at f;refine f.mono λe w5 J=>?_;obtain⟨E,D,rfl,l,d,z,s,A,v⟩:=HoldY.call i J;refine⟨_,rfl,h.called hI i d v ⟨E,⟨l.mk.more (by simp only[Option.isSome_none,Option.isSome_some,yR,if_false,yd];omega),l.gone⟩,λx e=>?_,λx e=>?_⟩⟩
 ·injection e with e;exact⟨D,z,e.symm,s,A⟩
 ·obtain⟨j,n,F,H,C⟩:=K x e;have:=d.len;exact⟨j,by omega,by rw[d.R j n];exact F,by rw[d.lang n];exact H,by rw[d.sz n];exact C⟩
theorem LS.behB {kb:Nat}(h:LS w c q r a b u bcs V xa none tv os)(hI:MkI w c q0)(hP:aZ w)(hb:b<c.T.length)(hr:runeB r=true)(hq:q+aq (sz c.T a)+aq (sz c.T b)<=9000000000000000000)(hz:(aN (sz c.T b)).z<=3000000000000)(hc:w.cell? (aD (c.R b) 4)=some (Vf 143 #[ae k,ae kb]))(hcl:c.R b<w.heap.size)(jq:¬c.S (c.R b)):Calls prog 143 #[Vi r,ae k,ae kb] V λe w5=>∃x,e=.returned (ae x)/\LS w c q r a b u bcs w5 xa (some x) tv os:=by
 obtain⟨m,i,G,L⟩:=h.ex;have B:=i.gone.len;have o:sz (m.wY (λg=>g=w.heap.size+1\/∃t,tv=some t/\some g=t.1.ownBlock)).T b=sz c.T b:=i.gone.sz hb;have J:lg (m.wY (λg=>g=w.heap.size+1\/∃t,tv=some t/\some g=t.1.ownBlock)).T b=lg c.T b:=i.gone.lang hb;have H:(m.wY (λg=>g=w.heap.size+1\/∃t,tv=some t/\some g=t.1.ownBlock)).R b=c.R b:=i.gone.R b hb;have y:(q+(if xa.isSome then aq (sz c.T a)else 0)+(if (none:Option Nat).isSome then aq (sz c.T b)else 0))+aq (sz c.T b)<=9000000000000000000:=by
  simp only[Option.isSome_none,yR,if_false]
  split<;>omega
 have f:=Am b V _ _ r k kb i.mk (show b<m.T.length by omega) (i.gone.pow hI hP) hr (by rw[H];exact (i.gone.but.cell (p:=(aD (c.R b) 4)) hcl jq).trans hc) (by rw[o];exact y) (by rw[o];exact hz);rw[o,J]at f;refine f.mono λe w5 K=>?_;obtain⟨E,D,rfl,l,d,z,s,A,v⟩:=HoldY.call i K;refine⟨_,rfl,h.called hI i d v ⟨E,⟨l.mk.more (by simp only[Option.isSome_none,Option.isSome_some,yR,if_false,yd];omega),l.gone⟩,λx e=>?_,λx e=>?_⟩⟩
 ·obtain⟨j,n,F,I,C⟩:=G x e;have:=d.len;exact⟨j,by omega,by rw[d.R j n];exact F,by rw[d.lang n];exact I,by rw[d.sz n];exact C⟩
 ·injection e with e;exact⟨D,z,e.symm,s,A⟩
theorem LS.clone {ta:OA}(h:LS w c q r a b u bcs V xa xb none os)(hI:MkI w c q0)(ht:iy w (.slice ta u.length tc) u)(hta:∀o,ta=some o->o.block<w.heap.size/\¬c.S o.block)(h0:ta=none->u=[]/\tc=0)(hl:u.length<=1000000):Calls prog 76 #[.slice ta u.length tc] V λe w5=>∃v,e=.returned v/\LS w c q r a b u bcs w5 xa xb (some (v,false)) os:=by
 obtain⟨E,m,C,F⟩:=h.ex;have p:iy V (.slice ta u.length tc) u:=ht.keep m.gone.but.size (λo n K e=>by
  injection e with e1 e2 e3;obtain⟨D,G⟩:=hta o e1;exact m.gone.but.block _ D G)
 have l:=h.res.lt;refine (QG (B:=w.heap.size+2) p h0 hl l).mono ?_;rintro e w5 ⟨v,rfl,i,y,f⟩;refine⟨v,rfl,⟨E,?_,C,F⟩,(f.block _ h.box.lt).trans h.box,(f.block _ l).trans h.res,λJ d e=>?_,λn e=>?_⟩
 ·refine HoldY.turn m (λg j=>?_) hI.seven f.size (λk z _=>f.block k z) f.os f.tape f.output (λg j=>?_)
  ·rcases j with rfl|⟨t,e,_⟩
   ·omega
   ·cases e
  ·rcases j with rfl|⟨t,e,j⟩
   ·exact⟨.inl (.inl rfl),by have:=f.size;omega⟩
   ·injection e with e;subst e;exact⟨.inr (y g j.symm),(i.lt g j.symm).2⟩
 ·injection e with e;injection e with e1 e2;subst e1 e2;exact i
 ·obtain⟨x,H,I⟩:=h.one n e;refine⟨(f.block n x.lt).trans x,H,λt s A=>?_⟩;injection s with s;subst s;have:=y n A.symm;have:=x.lt;omega
end
set_option maxHeartbeats 40000000
section
variable {w:World} {c:MC} {q:Nat} {r:Int} {a b:Nat} {u:List Int} {bcs:List Value}
theorem LS.app {ops:Array Oper}{o:Oper}{A:Act}{K:Act->World->Prop}{Q:Exit->Act->World->Prop}{E:Prop}{n:Nat}(h:LS w c q r a b u bcs V xa xb (some (v,false)) (some n))(hI:MkI w c q0)(hl:u.length<=1000000)
  (hg:o.guard=none) (hop:o.op=Op.call { callee:=Callee.builtin Builtin.append,args:=#[.tmp 7,.tmp 10],argTypes:=#[71,71] }) (hs:A.eval (.tmp 7)=v) (hx:A.eval (.tmp 10)=Vs n 1 1)
  (hK:∀v' w6,LS w c q r a b u bcs w6 xa xb (some (v',true)) (some n)->K (A.put o.dst v') w6):if Region.wanted o (yielded ops A.tmps)=true then Oper.wp prog o A V K Q else E:=by
 obtain⟨L,O,z,F,C⟩:=zz uf;obtain⟨H,N,S,M⟩:=h.ex;obtain⟨s,G,J⟩:=h.one n rfl;have i:V.ownsRow (w.heap.size+2) 21 1 v u.length (iC u):=h.txt v false rfl;have p:=J _ rfl;have B:=h.res.lt;refine uW hg (.tmp 7) (.tmp 10) 71 hop (w.heap.size+2) 21 L (.int .i32 0) 1 4 underlying71 O z F C rfl (by decide) v u.length (iC u) hs i (aD n 0) 1 1 [.int .i32 r] hx rfl (λj x y=>?_) (by simp[Value.oneCell']) (by unfold maxLen;omega) (by omega) (by omega) ?_
 ·match j,y with
  |0,y=>simp at y;subst y;rw[zl];exact s.cell 0
 intro v' w6 l f m;refine hK v' w6 ⟨⟨H,?_,S,M⟩,?_,?_,λU d e=>?_,λW e=>?_⟩
 ·refine HoldY.turn N (λg hg=>?_) hI.seven f.size (λk P T=>f.block k P (λe=>T (.inr ⟨_,rfl,e⟩))) f.os f.tape f.output (λg hg=>?_)
  ·rcases hg with rfl|⟨t,e,hg⟩
   ·omega
   ·injection e with e;subst e;have:=(i.lt g hg.symm).1;omega
  ·rcases hg with rfl|⟨t,e,hg⟩
   ·exact⟨.inl (.inl rfl),by have:=f.size;omega⟩
   ·injection e with e;subst e;refine⟨?_,(l.lt g hg.symm).2⟩;rcases m g hg.symm with e|e
    ·exact .inl (.inr ⟨_,rfl,e.symm⟩)
    ·exact .inr e
 ·exact (f.block _ h.box.lt (λe=>by have:=(i.lt _ e.symm).1;omega)).trans h.box
 ·exact (f.block _ B (λe=>by have:=(i.lt _ e.symm).1;omega)).trans h.res
 ·injection e with e;injection e with e1 e2;subst e1 e2;have R:iC (u++[r])=iC u++[.int .i32 r]:=by simp[iC]
  simp only[yd];rw[R];exact l
 ·injection e with e;subst e;refine⟨(f.block n s.lt p).trans s,G,λt D I=>?_⟩;injection D with D;subst D;rcases m n I.symm with e|e
  ·exact p e.symm
  ·have:=s.lt;omega
theorem LS.form (h:LS w c q r a b u bcs V xa xb (some (v,true)) os):∃ta' tc',v=.slice ta' (u.length+1) tc':=by
 have d:V.ownsRow (w.heap.size+2) 21 1 v (u.length+1) (iC (u++[r])):=h.txt v true rfl;rcases d.2 with⟨_,j⟩|⟨g,e,f,i,_⟩
 ·omega
 ·exact⟨_,_,i⟩
end
theorem NS (r:Int)(X:World)(os:Option Nat):GS r X X os os:=.inl ⟨⟨rfl,rfl,rfl,rfl⟩,rfl⟩
theorem NT (r:Int)(X:World):GS r X (X.alloc (.cells #[.int .i32 r] 21)) none (some X.heap.size):=.inr ⟨rfl,rfl,rfl,rfl,rfl,rfl⟩
theorem NU (r:Int)(X:World)(os:Option Nat):GS r X X.drew os os:=.inl ⟨⟨rfl,rfl,rfl,rfl⟩,rfl⟩
theorem NW (r:Int)(X:World):GS r X (X.alloc (.cells #[.int .i32 r] 21)).drew none (some X.heap.size):=.inr ⟨rfl,rfl,rfl,rfl,rfl,rfl⟩
theorem Zp (X:World)(b:Nat)(v0 v1 v2:Value)(g:Nat)(hg:g≠b):(((X.setCell (aD b 0) v0).setCell (aD b 1) v1).setCell (aD b 2) v2).heap[g]?=X.heap[g]?:=(zk _ _ _ _ hg).trans ((zk _ _ _ _ hg).trans (zk _ _ _ _ hg))
theorem Xi {r:Int}(h:runeB r=true):IntKind.i32.wrap r=r:=by
 simp only[runeB,zY]at h;simp[IntKind.wrap,IntKind.bits,IntKind.signed];omega
def UA (w:World)(c:MC)(q:Nat)(r:Int)(a b:Nat)(u:List Int)(e:Ending)(w':World):Prop:=∃c' ja jb ta' tc',e=.returned (.agg #[.slice ta' (u.length+1) tc',ae (c'.R ja),ae (c'.R jb)])/\MkI w' c' (q+aq (sz c.T a)+aq (sz c.T b))/\Gone w c w' c'/\ja<c'.T.length/\jb<c'.T.length/\lg c'.T ja=aX (lg c.T a) r/\sz c'.T ja<=aN (sz c.T a)/\lg c'.T jb=aX (lg c.T b) r/\sz c'.T jb<=aN (sz c.T b)/\iy w' (.slice ta' (u.length+1) tc') (u++[r])/\∀o,ta'=some o->w.heap.size<=o.block/\o.block<w'.heap.size
theorem KS {c:MC}{a:Nat}{r:Int}{u:LZ}{ta:OA}(hI:MkI w c q)(hP:aZ w)(ha:a<c.T.length)(hb:b<c.T.length)(hr:runeB r=true)(ht:iy w (.slice ta u.length tc) u)(hta:∀o,ta=some o->o.block<w.heap.size/\¬c.S o.block)(h0:ta=none->u=[]/\tc=0)(hl:u.length<=1000000)(hq:q+aq (sz c.T a)+aq (sz c.T b)<=9000000000000000000)(hza:(aN (sz c.T a)).z<=3000000000000)(hzb:(aN (sz c.T b)).z<=3000000000000):Calls prog 47 #[.agg #[.slice ta u.length tc,ae (c.R a),ae (c.R b)],Vi r] w (UA w c q r a b u):=by
 obtain⟨S,hS⟩:∃S,w.heap.size=S:=⟨_,rfl⟩;obtain⟨W0,T,a0,P,U,-⟩:=jK (rfl:w.heap.size=_) [.slice ta u.length tc,ae (c.R a),ae (c.R b)] 107 [Vz,.pointer none,.pointer none] 107;replace a0:Below _ _ W0:=a0;obtain⟨ka,F,ya,L,M⟩:=nR hI ha;obtain⟨kb,E,yb,O,K⟩:=nR hI hb;have a7:=Xi hr;have A:Hid (LS w c q r a b u [.slice ta u.length tc,ae (c.R a),ae (c.R b)] W0 none none none none):=LS.start hI a0 P U;have H:Hid (∀(V X:World) (i l:Option Nat) (y:Option (Value×Bool)) (m:Option Nat),LS w c q r a b u [.slice ta u.length tc,ae (c.R a),ae (c.R b)] X i l y m->(∀g,g≠S+1->V.heap[g]?=X.heap[g]?)->V.cell? (aD S 0)=some (.slice ta u.length tc)/\V.cell? (aD S 1)=some (ae (c.R a))/\V.cell? (aD S 2)=some (ae (c.R b))/\V.cell? (aD (c.R a) 4)=some (Vf 143 #[ae ka,ae F])/\V.cell? (aD (c.R b) 4)=some (Vf 143 #[ae kb,ae E])):=λV X i l y m h G=>by
  have C:ag V S [.slice ta u.length tc,ae (c.R a),ae (c.R b)] 107:=(G S (by omega)).trans (by rw[<-hS];exact h.box);have h1:=(zP (w:=X) (w':=V) (a:=(aD (c.R a) 4)) (G _ (by show c.R a≠S+1;omega))).trans ((h.cell (p:=(aD (c.R a) 4)) L M).trans ya);have h2:=(zP (w:=X) (w':=V) (a:=(aD (c.R b) 4)) (G _ (by show c.R b≠S+1;omega))).trans ((h.cell (p:=(aD (c.R b) 4)) O K).trans yb);exact⟨C.cell 0,C.cell 1,C.cell 2,h1,h2⟩
 have J:Hid (∀(V:World) (i l:Option Nat) (y:Option (Value×Bool)) (m:Option Nat),LS w c q r a b u [.slice ta u.length tc,ae (c.R a),ae (c.R b)] V i l y m->V.cell? (aD S 0)=some (.slice ta u.length tc)/\V.cell? (aD S 1)=some (ae (c.R a))/\V.cell? (aD S 2)=some (ae (c.R b))/\V.cell? (aD (c.R a) 4)=some (Vf 143 #[ae ka,ae F])/\V.cell? (aD (c.R b) 4)=some (Vf 143 #[ae kb,ae E])):=λV i l y m h=>H V V i l y m h (λ_ _=>rfl);have z:Hid (∀(X:World) (i l:Option Nat) (y:Option (Value×Bool)) (m:Option Nat),LS w c q r a b u [.slice ta u.length tc,ae (c.R a),ae (c.R b)] X i l y m->X.cell? (aD (S+1) 0)=some (Vz)/\X.cell? (aD (S+1) 1)=some (.pointer none)/\X.cell? (aD (S+1) 2)=some (.pointer none)/\X.frozen? (aD (S+1) 0)=false/\X.frozen? (aD (S+1) 1)=false/\X.frozen? (aD (S+1) 2)=false/\S+1<X.heap.size):=λX i l y m h=>by
  have s:=h.res;rw[hS]at s;exact⟨s.cell 0,s.cell 1,s.cell 2,s.frozen 0,s.frozen 1,s.frozen 2,s.lt⟩
 have HA:Hid (∀(V:World) (l:Option Nat) (y:Option (Value×Bool)) (m:Option Nat),LS w c q r a b u [.slice ta u.length tc,ae (c.R a),ae (c.R b)] V none l y m->Calls prog 143 #[Vi r,ae ka,ae F] V λe w5=>∃x,e=.returned (ae x)/\LS w c q r a b u [.slice ta u.length tc,ae (c.R a),ae (c.R b)] w5 (some x) l y m):=λV l y m h=>h.behA hI hP ha hr hq hza ya L M;have HB:Hid (∀(V:World) (i:Option Nat) (y:Option (Value×Bool)) (m:Option Nat),LS w c q r a b u [.slice ta u.length tc,ae (c.R a),ae (c.R b)] V i none y m->Calls prog 143 #[Vi r,ae kb,ae E] V λe w5=>∃x,e=.returned (ae x)/\LS w c q r a b u [.slice ta u.length tc,ae (c.R a),ae (c.R b)] w5 i (some x) y m):=λV i y m h=>h.behB hI hP hb hr hq hzb yb O K;have HC:Hid (∀(V:World) (i l m:Option Nat),LS w c q r a b u [.slice ta u.length tc,ae (c.R a),ae (c.R b)] V i l none m->Calls prog 76 #[.slice ta u.length tc] V λe w5=>∃v,e=.returned v/\LS w c q r a b u [.slice ta u.length tc,ae (c.R a),ae (c.R b)] w5 i l (some (v,false)) m):=λV i l m h=>h.clone hI ht hta h0 hl;have HI:=aa hI;have R:Hid (∀(X:World) (i l n:Nat) (v:Value),LS w c q r a b u [.slice ta u.length tc,ae (c.R a),ae (c.R b)] X (some i) (some l) (some (v,true)) (some n)->∃Q a1,v=.slice Q (u.length+1) a1/\∀V:World,cW V (((X.setCell (aD (S+1) 0) v).setCell (aD (S+1) 1) (ae i)).setCell (aD (S+1) 2) (ae l))->UA w c q r a b u (.returned (.agg #[v,ae i,ae l])) V):=λX i l n v h=>by
  obtain⟨c',hh,h1,h2⟩:=h.ex;obtain⟨ja,j1,rfl,j3,j4⟩:=h1 i rfl;obtain⟨jb,k1,rfl,k3,k4⟩:=h2 l rfl;have B:X.ownsRow (w.heap.size+2) 21 1 v (u.length+1) (iC (u++[r])):=h.txt v true rfl;rcases B.2 with⟨_,h9⟩|⟨g,N,b3,hv,a8,b1,r9⟩
  ·omega
  refine⟨some (aD g 0),N,hv,λV G=>?_⟩;have b2:=h.res.lt;have I:∀k,k≠S+1->V.heap[k]?=X.heap[k]?:=λk D=>by rw[G.1];exact (zk _ _ _ _ D).trans ((zk _ _ _ _ D).trans (zk _ _ _ _ D))
  have a9:V.heap.size=X.heap.size:=by rw[G.1];simp[World.setCell]
  have b0:=(B.lt g (by rw[hv];rfl)).2;have f:HoldY w c V c' (q+aq (sz c.T a)+aq (sz c.T b)) (λ_=>False):=by
   refine HoldY.turn (w5:=X) (Y:=λg=>g=w.heap.size+1\/∃t,some (v,true)=some t/\some g=t.1.ownBlock) (by simpa using hh) (λk D=>?_) HI.seven (by omega) (λk D hn=>I k (λe=>hn (.inl (by omega)))) G.2.1 G.2.2.1 G.2.2.2 (λk D=>D.elim);rcases D with rfl|⟨t,e,D⟩
   ·omega
   ·injection e with e;subst e;have:=(B.lt k D.symm).1;omega
  have a5:MkI V c' (q+aq (sz c.T a)+aq (sz c.T b)):=by
   have:=f.mk.turn (w':=V) (X':=c'.X) (zA _) (λ_ _ _=>rfl) (λg P=>⟨.inl (.inl P),(f.mk.xs g (.inl P)).1,f.mk.low g (.inr (.inl P))⟩);exact this
  refine⟨c',ja,jb,some (aD g 0),N,by rw[hv],a5,f.gone,j1,k1,j3,j4,k3,k4,⟨some (aD g 0),N,by rw[zH];rfl,λj x hj=>⟨g,0,rfl,by omega,?_⟩⟩,λo ho=>?_⟩
  ·have hc:=B.cells (g:=g) (by rw[hv];rfl) j (.int .i32 x) (by unfold iC;rw[zg,hj];rfl);rw[zl]at hc;exact (zP (w:=X) (w':=V) (a:=⟨g,0+j,none⟩) (I g (by omega))).trans hc
  ·injection ho with ho;subst ho;exact⟨by show w.heap.size<=g;omega,by show g<V.heap.size;omega⟩
 have a2:=aa T;clear hI hP ha hb ht hta h0 hq hza hzb T a0 P U ya yb L M O K hr;go_enter func47,ntmps47;go_wp2_with fail;rw[a2.out]
 try simp only[hS]
 obtain⟨Z,e1,W,f0,f1,f2,l1⟩:=z.out _ _ _ _ _ A.out
 go_region_held3 (λw'=>w'.cell? (aD S 0)=some (.slice ta u.length tc)/\w'.cell? (aD S 1)=some (ae (c.R a))/\w'.cell? (aD S 2)=some (ae (c.R b))/\w'.cell? (aD (c.R a) 4)=some (Vf 143 #[ae ka,ae F])/\w'.cell? (aD (c.R b) 4)=some (Vf 143 #[ae kb,ae E]))
  (first|exact J _ _ _ _ _ (LS.next A (by first|with_reducible exact nx1 _ _ _ _|with_reducible exact NS _ _ _|with_reducible exact nx3 _ _ _|with_reducible exact NT _ _|with_reducible exact nx4 _ _ _|with_reducible exact NU _ _ _|with_reducible exact NW _ _|with_reducible exact nx7 _ _))|exact H _ _ _ _ _ _ A (λg hg=>by first|with_reducible exact Zp _ _ _ _ _ g hg|with_reducible exact hs3 _ _ _ _ _ _ g hg|with_reducible exact hs4 _ _ _ _ _ _ g hg))
  (first
   |(go_at_call 76;with_reducible refine (HC.out _ _ _ _ (LS.next A.out (by first|with_reducible exact nx1 _ _ _ _|with_reducible exact NS _ _ _|with_reducible exact nx3 _ _ _|with_reducible exact NT _ _|with_reducible exact nx4 _ _ _|with_reducible exact NU _ _ _|with_reducible exact NW _ _|with_reducible exact nx7 _ _))).mono ?_;rintro e w5 ⟨v7,rfl,d⟩;have A:=aa d;clear d;obtain⟨Z,e1,W,f0,f1,f2,l1⟩:=z.out _ _ _ _ _ A.out)
   |(go_at_call 143;with_reducible refine (HA.out _ _ _ _ (LS.next A.out (by first|with_reducible exact nx1 _ _ _ _|with_reducible exact NS _ _ _|with_reducible exact nx3 _ _ _|with_reducible exact NT _ _|with_reducible exact nx4 _ _ _|with_reducible exact NU _ _ _|with_reducible exact NW _ _|with_reducible exact nx7 _ _))).mono ?_;rintro e w5 ⟨xA,rfl,d⟩;have A:=aa d;clear d;obtain⟨Z,e1,W,f0,f1,f2,l1⟩:=z.out _ _ _ _ _ A.out)
   |(go_at_call 143;with_reducible refine (HB.out _ _ _ _ (LS.next A.out (by first|with_reducible exact nx1 _ _ _ _|with_reducible exact NS _ _ _|with_reducible exact nx3 _ _ _|with_reducible exact NT _ _|with_reducible exact nx4 _ _ _|with_reducible exact NU _ _ _|with_reducible exact NW _ _|with_reducible exact nx7 _ _))).mono ?_;rintro e w5 ⟨xB,rfl,d⟩;have A:=aa d;clear d;obtain⟨Z,e1,W,f0,f1,f2,l1⟩:=z.out _ _ _ _ _ A.out)
   |(refine LS.app (LS.next A (by first|with_reducible exact nx1 _ _ _ _|with_reducible exact NS _ _ _|with_reducible exact nx3 _ _ _|with_reducible exact NT _ _|with_reducible exact nx4 _ _ _|with_reducible exact NU _ _ _|with_reducible exact NW _ _|with_reducible exact nx7 _ _)) HI hl rfl rfl (by simp[Act.eval]) (by simp[Act.eval]) ?_;intro v8 w8 d;obtain⟨a6,a4,a3⟩:=d.form;subst a3;have A:=aa d;clear d;obtain⟨Z,e1,W,f0,f1,f2,l1⟩:=z.out _ _ _ _ _ A.out))
 all_goals (obtain⟨Q,a1,b4,f⟩:=R.out _ _ _ _ _ A.out;have HF:=aa f;clear f;go_wp2_with fail;refine zN (v:=.agg #[.slice a6 (u.length+1) a4,ae xA,ae xB]) (by simp[results,results47,go_sem,Z,e1,W]) rfl ?_;exact HF _ ⟨rfl,rfl,rfl,rfl⟩)
open Go.Sort
def maxA {α:Type}(f:α->Nat):List α->Nat
 | []=>0
 |a::l=>max (f a) (maxA f l)
def sumA {α:Type}(f:α->Nat):List α->Nat
 | []=>0
 |a::l=>f a+sumA f l
def orA (l:List Me):Me:=⟨max 1 (maxA (·.n) l),max 1 (maxA (·.p) l),max 1 (sumA (·.y) l),max 1 (sumA (·.z) l)⟩
namespace Brm
mutual
def Pat.me:Pat->Me
 |.set _=>aV
 |.row l=>rwsM (bX l)
 |.or l=>orA (bX l)
 |.and l=>bB (orA ((bX l).map bB))
 |.not p=>bB p.me
 |.many p _ _=>cZ p.me
 |.group p=>p.me
def bX:List Pat->List Me
 | []=>[]
 |p::l=>p.me::bX l
end
mutual
def Pat.co:Pat->Nat
 |.set _=>1
 |.row l=>cK l+sumA (·.n) (bX l)
 |.or l=>cK l+1
 |.and l=>cK l+l.length+2
 |.not p=>p.co+1
 |.many p _ _=>p.co+1
 |.group p=>p.co
def cK:List Pat->Nat
 | []=>0
 |p::l=>p.co+cK l
end
end Brm
theorem im:∀l:List Pat,bX l=l.map Pat.me
 | []=>rfl
 |p::l=>by simp only[bX,zp,im l]
theorem Tp {l:List Pat}{p:Pat}(h:l[i]?=some p):cK (l.take (i+1))=cK (l.take i)+p.co:=by
 rw[dU h];have:∀(a:List Pat) (p:Pat),cK (a++[p])=cK a+p.co:=by
  intro a p
  induction a with
  |nil=>simp[cK]
  |cons b a ih=>simp only[zV,cK,ih];omega
 exact this _ _
theorem PI:∀(l:List Pat) (i:Nat),cK (l.take i)<=cK l
 | [],i=>by simp[cK]
 |p::l,0=>by simp[cK]
 |p::l,i+1=>by simp only[List.take_succ_cons,cK];have:=PI l i;omega
theorem aT.sumA {β:Type}{f:Nat->Nat}{g:β->Nat}:∀{l:List Nat} {m:List β},aT (λa b=>f a<=g b) l m->aG f l<=sumA g m
 | [],[],_=>zA _
 |a::l,b::m,h=>by simp only[aG,Go.Proofs.YtebnghmioamheaaGreatDoor.sumA];have:=h.1;have:=aT.sumA h.2;omega
 | [],_::_,h=>h.elim
 |_::_,[],h=>h.elim
theorem aT.maxA {β:Type}{f:Nat->Nat}{g:β->Nat}:∀{l:List Nat} {m:List β},aT (λa b=>f a<=g b) l m->dA f l<=maxA g m
 | [],[],_=>zA _
 |a::l,b::m,h=>by simp only[dA,Go.Proofs.YtebnghmioamheaaGreatDoor.maxA];have:=h.1;have:=aT.maxA h.2;omega
 | [],_::_,h=>h.elim
 |_::_,[],h=>h.elim
theorem aT.orA {f:Nat->Me}{l:List Nat}{m:List Me}(h:aT (λa b=>f a<=b) l m):Go.Proofs.YtebnghmioamheaaGreatDoor.orM f l<=orA m:=by
 have i:=aT.maxA (f:=λa=>(f a).n) (g:=λa:Me=>a.n) (h.imp λa b _ k=>k.1);have c:=aT.maxA (f:=λa=>(f a).p) (g:=λa:Me=>a.p) (h.imp λa b _ k=>k.2.1);have d:=aT.sumA (f:=λa=>(f a).y) (g:=λa:Me=>a.y) (h.imp λa b _ k=>k.2.2.1);have e:=aT.sumA (f:=λa=>(f a).z) (g:=λa:Me=>a.z) (h.imp λa b _ k=>k.2.2.2);refine⟨?_,?_,?_,?_⟩<;>simp only[Go.Proofs.YtebnghmioamheaaGreatDoor.orM,Go.Proofs.YtebnghmioamheaaGreatDoor.orA]<;>omega
theorem aT.map {α β γ:Type}{P:α->β->Prop}{g:γ->β}:∀{l:List α} {m:List γ},aT (λa c=>P a (g c)) l m->aT P l (m.map g)
 | [],[],_=>trivial
 |_::_,_::_,h=>⟨h.1,aT.map h.2⟩
 | [],_::_,h=>h.elim
 |_::_,[],h=>h.elim
theorem aT.rwsM {f:Nat->Me}:∀{l:List Nat} {m:List Me},aT (λa b=>f a<=b) l m->rwsM (l.map f)<=rwsM m
 | [],[],_=>Me.refl _
 | [a],[b],h=>h.1
 |a::a'::l,b::b'::m,h=>by
  have c:=aT.rwsM (l:=a'::l) (m:=b'::m) h.2;exact kP h.1 c
 | [],_::_,h=>h.elim
 |_::_,[],h=>h.elim
 | [_],_::_::_,h=>h.2.elim
 |_::_::_,[_],h=>h.2.elim
theorem aT.rwsL {F:Nat->Lg}:∀{l:List Nat} {m:List Pat},aT (λa b=>F a=b.Mt) l m->rwsL (l.map F)=λu=>jl m u
 | [],[],_=>by funext u;simp[Go.Proofs.YtebnghmioamheaaGreatDoor.rwsL,jl,dZ]
 |a::l,b::m,h=>by
  have c:=aT.rwsL h.2;funext u;simp only[zp,Go.Proofs.YtebnghmioamheaaGreatDoor.rwsL,c,h.1,aJ,jl]
 | [],_::_,h=>h.elim
 |_::_,[],h=>h.elim
theorem DN:∀(l:List Me),(∀a∈l,aV<=a)->(∀a∈l,a.z<=(rwsM l).z)/\aV<=rwsM l
 | [],_=>⟨λa h=>by simp at h,Me.refl _⟩
 | [a],h=>⟨λb d=>by simp at d;subst d;exact zA _,h a (by simp)⟩
 |a::b::l,h=>by
  obtain⟨f,e⟩:=DN (b::l) (λx c=>h x (by simp[c]));have g:=h a (by simp);refine⟨λx c=>?_,?_⟩
  ·show x.z<=a.z+(rwsM (b::l)).z
   rcases zO.1 c with rfl|c
   ·omega
   ·have:=f x c;omega
  ·obtain⟨n,m,o,k⟩:=g;obtain⟨p,j,i,q⟩:=e;refine⟨?_,?_,?_,?_⟩<;>simp only[rwsM,bf,aV]at *<;>omega
theorem JX {α:Type}{f:α->Nat}:∀{l:List α} {a:α},a∈l->f a<=sumA f l
 |b::l,a,h=>by
  unfold sumA;rcases zO.1 h with rfl|h
  ·omega
  ·have:=JX (f:=f) h;omega
mutual
theorem tG:∀p:Pat,aV<=p.me
 |.set _=>Me.refl _
 |.row l=>(DN (bX l) (uJ l)).2
 |.or l=>⟨by simp only[Pat.me,orA,aV];omega,by simp only[Pat.me,orA,aV];omega,by simp only[Pat.me,orA,aV];omega,by simp only[Pat.me,orA,aV];omega⟩
 |.and l=>⟨by simp only[Pat.me,bB,orA,aV];omega,by simp only[Pat.me,bB,orA,aV];omega,by simp only[Pat.me,bB,orA,aV];omega,by simp only[Pat.me,bB,orA,aV];omega⟩
 |.not p=>Me.trans (tG p) (BT _)
 |.many p _ _=>⟨by simp only[Pat.me,cZ,aV];omega,by simp only[Pat.me,cZ,aV];omega,by simp only[Pat.me,cZ,aV];omega,by simp only[Pat.me,cZ,aV];omega⟩
 |.group p=>tG p
theorem uJ:∀(l:List Pat),∀a∈bX l,aV<=a
 | [],a,h=>by simp[bX]at h
 |p::l,a,h=>by
  simp only[bX]at h;rcases zO.1 h with rfl|h
  ·exact tG p
  ·exact uJ l a h
end
theorem nf {l:List Pat}{p:Pat}(h:p∈l):p.me∈bX l:=by rw[im];exact List.mem_map_of_mem h
def FQ (p:Pat):Prop:=∀(w:World) (c:MC) (q b:Nat) (A:Nat->Prop),MkI w c q->aZ w->PN w A p b->(∀g,A g->g<w.heap.size/\¬c.S g)->q+p.co<=9000000000000000000->p.me.z<=3000000000000 ->
 Calls prog 44 #[ae c.m,ae b] w (au w c (q+p.co) p.Mt p.me)
structure Parts (w:World)(c:MC)(q:Nat)(l:List Pat)(lv:Value)(wr:World)(ci:MC)(ds:List Nat)(pa:Option Addr)(pc:Nat):Prop where
 intro ::
 v:lv=.slice pa ds.length pc
 mk:MkI wr ci (q+cK l)
 gone:Gone w c wr ci
 lt:∀d∈ds,d<ci.T.length
 all:aT (λd (a:Pat)=>lg ci.T d=a.Mt/\sz ci.T d<=a.me) ds l
 at_:dQ wr ci.S ci.R pa ds
theorem Parts.len {w:World}{c:MC}{q:Nat}{l:List Pat}{lv:Value}{wr:World}{ci:MC}{ds:List Nat}{pa:OA}{pc:Nat}(h:Parts w c q l lv wr ci ds pa pc):ds.length=l.length:=h.all.len
theorem PL.get {w:World}{A:NP}:∀{l:List Pat} {xs:List Nat},PL w A l xs->∀{i:Nat} {p:Pat},l[i]?=some p->∃x,xs[i]?=some x/\PN w A p x
 | [],xs,h,i,p,hp=>by simp at hp
 |q::l,xs,h,0,p,hp=>by
  obtain⟨x,r,rfl,b,a⟩:=h;simp at hp;subst hp;exact⟨x,rfl,b⟩
 |q::l,xs,h,i+1,p,hp=>by
  obtain⟨x,r,rfl,b,a⟩:=h;simp at hp;obtain⟨y,d,c⟩:=PL.get a hp;exact⟨y,by simpa using d,c⟩
theorem PL.leng {w:World}{A:NP}:∀{l:List Pat} {xs:List Nat},PL w A l xs->xs.length=l.length
 | [],xs,h=>by rw[show xs=[]from h];rfl
 |q::l,xs,h=>by obtain⟨x,r,rfl,b,a⟩:=h;simp[PL.leng a]
theorem Gone.keeps {c ci:MC}{A:NP}(h:Gone w c wr ci)(hA:∀g,A g->g<w.heap.size/\¬c.S g):ah A w wr:=⟨h.but.size,λk a b=>h.but.block k a (hA k b).2⟩
theorem Jj {c:MC}{A:NP}{l:List Pat}(ih:∀p∈l,FQ p)(hI:MkI w c q)(hP:aZ w)(hA:∀g,A g->g<w.heap.size/\¬c.S g)(hO:cB w A 47 1 lv0 l.length (xs.map ar))(hL:PL w A l xs)(hq:q+cK l<=9000000000000000000)(hz:∀p∈l,p.me.z<=3000000000000)(wr:World)(lv:Value)(i:Nat)(ci:MC)(ds:List Nat)(hi:i<l.length)(hh:dk w c wr ci (q+cK (l.take i)) lv.ownBlock)(hd:∀d∈ds,d<ci.T.length)(h2:aT (λd (a:Pat)=>lg ci.T d=a.Mt/\sz ci.T d<=a.me) ds (l.take i))(hown:wr.ownsRow w.heap.size 103 1 lv i (ds.map λp=>ae (ci.R p))):∃g cap x,lv0=Vs g l.length cap/\g<wr.heap.size/\wr.cell? (aD g i)=some (ae x) /\
   Calls prog 44 #[ae c.m,ae x] wr (λr9 w5=>∃x,r9=.returned (ae x)/\w5.ownsRow w.heap.size 103 1 lv i (ds.map λp=>ae (ci.R p))/\w.heap.size<=w5.heap.size/\Hid (∀v' w6,w6.ownsRow w.heap.size 103 1 v' (i+1) ((ds.map λp=>ae (ci.R p))++[ae x])->(w5.alloc (.cells #[ae x] 103)).grownBy w6 lv.ownBlock->(∀g,v'.ownBlock=some g->lv.ownBlock=some g\/(w5.alloc (.cells #[ae x] 103)).heap.size<=g)->js Pat.Mt Pat.me (λi=>q+cK (l.take i)) w c l (l.length-(i+1)) v' (Vi ((i+1:Nat):Int)) w6)):=by
 obtain⟨p,n⟩:∃p,l[i]?=some p:=⟨_,zB hi⟩;obtain⟨x,K,E⟩:=hL.get n;have j:=zU n;have h:=hh.gone.keeps hA;have t:=Tp n;have I:=PI l (i+1);rcases hO.1.2 with⟨_,L⟩|⟨g,cap,D,y,N,m,r⟩
 ·omega
 have B:=hO.2 g (by rw[y];rfl);obtain⟨u,o⟩:=hA g B;have f:w.cell? (aD g i)=some (ae x):=by
  have:=hO.1.cells (g:=g) (by rw[y];rfl) i (ae x) (by rw[zg,K];rfl);rw[zl,zf]at this;exact this
 have M:=hh.gone.but.size;refine⟨g,cap,x,y,by omega,(hh.gone.but.cell (p:=(aD g i)) u o).trans f,?_⟩;have z:aZ wr:=hh.gone.pow hI hP;have C:(ci.wX lv.ownBlock).m=c.m:=hh.gone.m;have v:∀g,A g->g<wr.heap.size/\¬(ci.wX lv.ownBlock).S g:=λg m=>by
  obtain⟨s,h2⟩:=hA g m;refine⟨by omega,?_⟩;have k:=hh.gone.notS s h2;rintro (e|e|e)
  ·exact k (.inl e)
  ·exact k (.inr e)
  ·have:=(hown.lt g e.symm).1;omega
 have b:=ih p j wr (ci.wX lv.ownBlock) _ x A hh.mk z (PN.keep h p x E) v (by omega) (hz p j);rw[C]at b;refine b.mono λr9 w5 m=>?_;obtain⟨x,s,k,J,_,H⟩:=js.call (F:=Pat.Mt) (G:=Pat.me) (Q:=λi=>q+cK (l.take i)) hI.seven hh hd h2 hown n (by
  show au wr (ci.wX lv.ownBlock) (q+cK (l.take (i+1))) p.Mt p.me r9 w5
  rw[t,<-xG];exact m)
 exact⟨x,s,k,J,H⟩
theorem EO {c:MC}{l:List Pat}(hI:MkI w c q){ci:MC}{ds:List Nat}(hh:dk w c wr ci (q+cK l) lv.ownBlock)(hd:∀d∈ds,d<ci.T.length)(h2:aT (λd (a:Pat)=>lg ci.T d=a.Mt/\sz ci.T d<=a.me) ds l)(hown:wr.ownsRow w.heap.size 103 1 lv l.length (ds.map λp=>ae (ci.R p))):∃pa pc,Parts w c q l lv wr ci ds pa pc:=by
 obtain⟨e,f,pa,pc,g,b⟩:=dk.done hI hh hown;exact⟨pa,pc,g,e,f,hd,h2,b⟩
theorem JQ {c:MC}{l:List Pat}(hI:MkI w c q)(hP:aZ w)(h100:l.length<=100)(hq:q+(Pat.row l).co<=9000000000000000000):∀wr ci ds pa pc,Parts w c q l (.slice pa ds.length pc) wr ci ds pa pc->Calls prog 71 #[ae c.m,.slice pa ds.length pc] wr (au w c (q+(Pat.row l).co) (Pat.row l).Mt (Pat.row l).me):=λwr ci ds pa pc h=>by
 have o:aG (λa=>(sz ci.T a).n) ds<=sumA (·.n) (bX l):=by
  rw[im];exact aT.sumA (f:=λa=>(sz ci.T a).n) (g:=λa:Me=>a.n) (aT.map (P:=λa (b:Me)=>(sz ci.T a).n<=b.n) (h.all.imp λa b _ k=>k.2.1))
 have r:(Pat.row l).co=cK l+sumA (·.n) (bX l):=rfl;have n:=Qv (pc:=pc) h.mk (h.gone.pow hI hP) h.lt h.at_ (by rw[h.len];omega) (by omega);rw[h.gone.m]at n;refine n.mono ?_;rintro u t ⟨s,p,rfl,j,e,d,m,i⟩;refine⟨s,p,rfl,j.more (by omega),h.gone.trans e,d,?_,?_⟩
 ·rw[m];exact aT.rwsL (F:=lg ci.T) (h.all.imp λa b _ k=>k.1)
 ·refine Me.trans i ?_;show _<=rwsM (bX l)
  rw[im];exact aT.rwsM (f:=sz ci.T) (aT.map (P:=λa (b:Me)=>sz ci.T a<=b) (h.all.imp λa b _ k=>k.2))
theorem PA {c:MC}{l:List Pat}(hI:MkI w c q)(hP:aZ w)(_h100:l.length<=100)(hzz:(Pat.or l).me.z<=3000000000000)(hq:q+(Pat.or l).co<=9000000000000000000):∀wr ci ds pa pc,Parts w c q l (.slice pa ds.length pc) wr ci ds pa pc->Calls prog 61 #[ae c.m,.slice pa ds.length pc] wr (au w c (q+(Pat.or l).co) (Pat.or l).Mt (Pat.or l).me):=λwr ci ds pa pc h=>by
 have y:(Pat.or l).co=cK l+1:=rfl;have e:aT (λa (b:Me)=>sz ci.T a<=b) ds (bX l):=by
  rw[im];exact aT.map (P:=λa (b:Me)=>sz ci.T a<=b) (h.all.imp λa b _ k=>k.2)
 have x:=aT.sumA (f:=λa=>(sz ci.T a).z) (g:=λa:Me=>a.z) (e.imp λa b _ k=>k.2.2.2);have B:sumA (·.z) (bX l)<=(Pat.or l).me.z:=by simp only[Pat.me,orA];omega
 have v:=AH (pc:=pc) h.mk (h.gone.pow hI hP) (by omega) h.lt h.at_ (by omega);rw[h.gone.m]at v;refine v.mono ?_;rintro C D ⟨A,z,rfl,p,m,n,s,r⟩;refine⟨A,z,rfl,p.more (by omega),h.gone.trans m,n,?_,Me.trans r (aT.orA e)⟩;rw[s];funext u;show _=gy l u
 rw[propext (nO (l:=l) (t:=u))];refine propext ⟨?_,?_⟩
 ·rintro⟨d,i,o⟩;obtain⟨a,j,k,_⟩:=h.all.left d i;exact⟨a,j,by rw[<-k];exact o⟩
 ·rintro⟨a,j,o⟩;obtain⟨d,i,k,_⟩:=h.all.right a j;exact⟨d,i,by rw[k];exact o⟩
theorem JR {c:MC}{l:List Pat}(hI:MkI w c q)(hP:aZ w)(_h100:l.length<=100)(hzz:(Pat.and l).me.z<=3000000000000)(hq:q+(Pat.and l).co<=9000000000000000000):∀wr ci ds pa pc,Parts w c q l (.slice pa ds.length pc) wr ci ds pa pc->Calls prog 72 #[ae c.m,.slice pa ds.length pc] wr (au w c (q+(Pat.and l).co) (Pat.and l).Mt (Pat.and l).me):=λwr ci ds pa pc h=>by
 have y:(Pat.and l).co=cK l+l.length+2:=rfl;have e:aT (λa (b:Me)=>bB (sz ci.T a)<=b) ds ((bX l).map bB):=by
  rw[im];exact aT.map (P:=λa (b:Me)=>bB (sz ci.T a)<=b) (aT.map (P:=λa (b:Me)=>bB (sz ci.T a)<=bB b) (h.all.imp λa b _ k=>mt k.2))
 have j:=aT.sumA (f:=λa=>(bB (sz ci.T a)).z) (g:=λa:Me=>a.z) (e.imp λa b _ k=>k.2.2.2);have B:sumA (·.z) ((bX l).map bB)<=(Pat.and l).me.z:=by simp only[Pat.me,orA,bB];omega
 have x:=UR (pc:=pc) h.mk h.lt (h.gone.pow hI hP) h.at_ (by rw[h.len];omega) (zJ j (by omega));rw[h.gone.m,h.len]at x;rw[h.len];refine x.mono ?_;rintro C D ⟨A,z,rfl,r,n,o,v,s⟩;refine⟨A,z,rfl,r.more (by omega),h.gone.trans n,o,?_,Me.trans s (mt (aT.orA (f:=λa=>bB (sz ci.T a)) e))⟩;rw[v];funext u;show _=eG l u
 rw[propext (mj (l:=l) (t:=u))];refine propext ⟨?_,?_⟩
 ·intro p a m;obtain⟨d,i,k,_⟩:=h.all.right a m;rw[<-k];exact p d i
 ·intro p d i;obtain⟨a,m,k,_⟩:=h.all.left d i;rw[k];exact p a m
theorem fx {ex:LV}{tt:TypeId}{c:MC}{A:NP}{l:List Pat}{K:Int}{P:Pat}(hpat:(∃F,(K=1/\F=71\/K=2/\F=61\/K=3/\F=72)/\∀wr ci ds pa pc,Parts w c q l (.slice pa ds.length pc) wr ci ds pa pc->Calls prog F #[ae c.m,.slice pa ds.length pc] wr (au w c (q+P.co) P.Mt P.me))\/∃p,l=[p]/\(K=4/\P=.not p\/K=6/\P=.group p\/K=5/\P=.many p m n/\0<=m/\m<=5/\(n=-1\/(m<=n/\n<=5))))(ih:∀p∈l,FQ p)(hI:MkI w c q)(hP:aZ w)(hA:∀g,A g->g<w.heap.size/\¬c.S g)(hb:A b)(hnb:ag w b ([Vi K,Vz,lv0,Vi m,Vi n]++ex) tt)(hO:cB w A 47 1 lv0 l.length (xs.map ar))(hL:PL w A l xs)(h100:l.length<=100)(hz:∀p∈l,p.me.z<=3000000000000)(hc:cK l<=P.co)(hq:q+P.co<=9000000000000000000):Calls prog 44 #[ae c.m,ae b] w (au w c (q+P.co) P.Mt P.me):=by
 obtain⟨i0,hi,b0,b2,b9⟩:=zz jN;have L:=hnb.lt;have y2:w.cell? (aD b 2)=some lv0:=hnb.cell 2;have Z:=aa (Jj (lv0:=lv0) (xs:=xs) ih hI hP hA hO hL (by omega) hz);have a3:Hid (∀(wr:World) (ci:MC) (q':Nat) (o:Option Nat),dk w c wr ci q' o->ag wr b ([Vi K,Vz,lv0,Vi m,Vi n]++ex) tt/\w.heap.size<=wr.heap.size):=λwr ci q' o C=>⟨(C.gone.but.block b L (hA b hb).2).trans hnb,C.gone.but.size⟩;have a4:Hid (∃ao U,lv0=.slice ao l.length U):=by
  rcases hO.1.2 with⟨h1,h0⟩|⟨g,U,d2,hv,_⟩
  ·exact⟨none,0,by rw[h0];exact h1⟩
  ·exact⟨_,_,hv⟩
 have a5:=aa (λ(wr:World) (lv:Value) (ci:MC) (ds:List Nat)=>EO (w:=w) (c:=c) (q:=q) (l:=l) (wr:=wr) (lv:=lv) (ci:=ci) (ds:=ds) hI);have a0:=aa hpat;have a9:Hid (∀p wr ci ds pa pc,l=[p]->(K=4/\P=.not p\/K=6/\P=.group p\/K=5/\P=.many p m n/\0<=m/\m<=5/\(n=-1\/(m<=n/\n<=5)))->Parts w c q l (.slice pa ds.length pc) wr ci ds pa pc->∃d B a,ds=[d]/\pa=some (aD B a)/\B<wr.heap.size/\wr.cell? (aD B a)=some (ae (ci.R d))/\(K=4/\Calls prog 73 #[ae c.m,ae (ci.R d)] wr (au w c (q+P.co) P.Mt P.me)\/K=6/\au w c (q+P.co) P.Mt P.me (.returned (ae (ci.R d))) wr\/K=5/\∀V:World,cW V wr->Calls prog 74 #[ae c.m,ae (ci.R d),Vi m,Vi n] V (λT z=>∃x,T=.returned (ae x)/\Hid (au w c (q+P.co) P.Mt P.me (.returned (ae x)) z)/\Hid (z.cell? (aD b 3)=some (Vi m)/\z.cell? (aD b 4)=some (Vi n)/\z.cell? (aD B a)=some (ae (ci.R d)))))):=λp wr ci ds pa pc H hk h=>by
  subst H;obtain⟨d,rfl⟩:∃d,ds=[d]:=zy.1 (by rw[h.len];rfl);obtain⟨B,a,rfl,N,a7,f⟩:=h.at_ 0 d rfl;rw[xF]at f;have c0:cK [p]=p.co:=by simp[cK]
  obtain⟨a1,a2⟩:=h.all.1;have X:=h.lt d (by simp);have E:=h.mk;rw[c0]at E;refine⟨d,B,a,rfl,rfl,N,f,?_⟩;rcases hk with⟨rfl,rfl⟩|⟨rfl,rfl⟩|⟨rfl,rfl,hm⟩
  ·refine .inl ⟨rfl,?_⟩;have b7:(Pat.not p).co=p.co+1:=rfl;have hc:=oQ E (by omega) X (h.gone.pow hI hP);rw[h.gone.m]at hc;refine hc.mono ?_;rintro T z ⟨c9,j9,rfl,R,S,M,Y,W⟩;refine⟨c9,j9,rfl,R.more (by omega),h.gone.trans S,M,?_,Me.trans W (mt a2)⟩;rw[Y,a1];rfl
  ·exact .inr (.inl ⟨rfl,ci,d,rfl,E,h.gone,X,a1,a2⟩)
  ·refine .inr (.inr ⟨rfl,?_⟩);intro V hV;have b7:(Pat.many p m n).co=p.co+1:=rfl;have a8:=h.gone.notS L (hA b hb).2;have hs:=h.gone.but.size;have G:ag wr b ([Vi 5,Vz,lv0,Vi m,Vi n]++ex) tt:=(h.gone.but.block b L (hA b hb).2).trans hnb;have hc:=rt (E.below hV.below) (by omega) X ((h.gone.pow hI hP).below hV.below) hm.1 hm.2.1 hm.2.2;rw[h.gone.m]at hc;refine hc.mono ?_;rintro T z ⟨c9,j9,rfl,R,S,M,Y,W⟩;have D:Gone wr ci z c9:=(Gone.below hV.below).trans S;refine⟨_,rfl,⟨c9,j9,rfl,R.more (by omega),h.gone.trans D,M,?_,Me.trans W (Nc a2)⟩,(D.but.cell (p:=(aD b 3)) G.lt a8).trans (G.cell 3),(D.but.cell (p:=(aD b 4)) G.lt a8).trans (G.cell 4),(D.but.cell (p:=(aD B a)) N a7).trans f⟩;rw[Y,a1];rfl
 have c2:Hid (js Pat.Mt Pat.me (λi=>q+cK (l.take i)) w c l l.length (Vz) (Vi 0) w):=js.start (by simpa [cK]using hI) (zE _ _);obtain⟨d0,c4,J⟩:=a4.out;subst J;go_enter func44,ntmps44;go_wp2_with fail
 go_loopg [5,13] l.length (λj lv iv wr=>js Pat.Mt Pat.me (λi=>q+cK (l.take i)) w c l j lv iv wr)
 case atStart=>exact c2
 case round=>
  obtain⟨i,ci,ds,rfl,c7,hj,C,hd,h2,e⟩:=hrel;have k0:(0:Int)<=(i:Int):=zK _;obtain⟨hnb,c8⟩:=a3.out wr ci _ _ C;by_cases b3:i<l.length
  ·have k1:(i:Int)<(l.length:Int):=by omega
   obtain⟨g,U,x,J,d3,f,s⟩:=Z.out wr _ i ci ds b3 C hd h2 e;cases J;have c3:wr.cell? ⟨g,0+i,none⟩=some (ae x):=by rw[zf];exact f
   have HC:=aa s;go_wp2_with fail;refine HC.mono ?_;rintro T w5 ⟨x,rfl,t,c6,HN⟩;have b6:=aa (t.alloc (.cells #[ae x] 103));go_wp2_with (at_builtin;refine ft rfl _ _ 110 rfl w.heap.size 103 i0 (.pointer none) 1 8 underlying110 hi b0 b2 b9 rfl (by decide) _ _ _ rfl b6 (aD w5.heap.size 0) 1 1 [ae x] rfl rfl (ue _ _) (by simp[Value.oneCell']) (by unfold maxLen;omega) (by omega) (by simp;omega) ?_;intro v' w6 y u a6;have H6:=aa (HN v' w6 y u a6))
   go_roundg (l.length-(i+1))
   all_goals first|omega|exact H6
  ·have d1:decide ((i:Int)<(l.length:Int))=false:=zI (by omega);have b8:i=l.length:=by omega
   subst b8;rw[zQ]at h2;simp only[zQ]at C;obtain⟨pa,pc,r⟩:=a5.out wr _ ci ds C hd h2 e;have c1:=r.v;subst c1;have x0:wr.cell? (aD b 0)=some (Vi K):=hnb.cell 0;have c5:=hnb.lt;rcases a0.out with⟨F,b1,k⟩|⟨p,H,hk⟩
   ·have O:=aa (k wr ci ds pa pc r);rcases b1 with⟨rfl,rfl⟩|⟨rfl,rfl⟩|⟨rfl,rfl⟩
    all_goals
     go_wp2_with fail;refine O.mono ?_;intro T z h9;have v:=aa h9;obtain⟨c9,j9,rfl,Q⟩:=h9;go_wp2_with fail;go_ret;exact v
   ·have x3:wr.cell? (aD b 3)=some (Vi m):=hnb.cell 3;have x4:wr.cell? (aD b 4)=some (Vi n):=hnb.cell 4;obtain⟨d,B,a,rfl,rfl,N,f,k⟩:=a9.out p wr ci ds pa pc H hk r;simp only[zo]at *;rcases k with⟨rfl,I⟩|⟨rfl,I⟩|⟨rfl,I⟩
    ·have O:=aa I;go_wp2_with fail;refine O.mono ?_;intro T z h9;have v:=aa h9;obtain⟨c9,j9,rfl,Q⟩:=h9;go_wp2_with fail;go_ret;exact v
    ·have O:=aa I;go_wp2_with fail;go_ret;exact O
    ·have O:=aa I;have b5:Hid (∀V:World,cW V wr->V.cell? (aD b 3)=some (Vi m)/\V.cell? (aD b 4)=some (Vi n)/\V.cell? (aD B a)=some (ae (ci.R d))):=λV hV=>⟨(hV.cell _).trans x3,(hV.cell _).trans x4,(hV.cell _).trans f⟩;go_wp2_with fail
     go_region_held3 (λw'=>w'.cell? (aD b 3)=some (Vi m)/\w'.cell? (aD b 4)=some (Vi n)/\w'.cell? (aD B a)=some (ae (ci.R d)))
      (first|exact b5 _ ⟨rfl,rfl,rfl,rfl⟩|exact b4)
      (first|(go_at_call 74;refine (O (wr.drewN _) ⟨rfl,rfl,rfl,rfl⟩).mono ?_;rintro T z ⟨x,rfl,v,b4⟩))
     all_goals (go_wp2_with fail;go_ret;exact v)
theorem Kh {ex:LV}{tt:TypeId}{c:MC}{A:NP}{s:LQ}{sv:Value}(ih:∀p∈([]:List Pat),FQ p)(hI:MkI w c q)(hP:aZ w)(hA:∀g,A g->g<w.heap.size/\¬c.S g)(hb:A b)(hnb:ag w b ([Vi 0,sv,lv0,Vi 0,Vi 0]++ex) tt)(hO:cB w A 47 1 lv0 ([]:List Pat).length (xs.map ar))(hL:PL w A [] xs)(hz:∀p∈([]:List Pat),p.me.z<=3000000000000)(hsv:dL w A sv s)(hcan:Canon s)(hlen:s.length<=400000)(hq:q+1<=9000000000000000000):Calls prog 44 #[ae c.m,ae b] w (au w c (q+1) (Pat.set s).Mt aV):=by
 obtain⟨i0,hi,a7,a2,a8⟩:=zz jN;have N:=hnb.lt;have y2:w.cell? (aD b 2)=some lv0:=hnb.cell 2;have X:=aa (Jj (lv0:=lv0) (xs:=xs) ih hI hP hA hO hL (by simp only[cK];omega) hz);have F:Hid (∀(wr:World) (ci:MC) (q':Nat) (o:Option Nat),dk w c wr ci q' o->ag wr b ([Vi 0,sv,lv0,Vi 0,Vi 0]++ex) tt/\w.heap.size<=wr.heap.size):=λwr ci q' o u=>⟨(u.gone.but.block b N (hA b hb).2).trans hnb,u.gone.but.size⟩;have C:Hid (∃ao a,lv0=.slice ao ([]:List Pat).length a):=by
  rcases hO.1.2 with⟨G,h0⟩|⟨g,a,a5,D,_⟩
  ·exact⟨none,0,by rw[h0];exact G⟩
  ·exact⟨_,_,D⟩
 have K:=aa (λ(wr:World) (lv:Value) (ci:MC) (ds:List Nat)=>EO (w:=w) (c:=c) (q:=q) (l:=[]) (wr:=wr) (lv:=lv) (ci:=ci) (ds:=ds) hI);have E:Hid (∀(wr:World) (ci:MC) (ds:List Nat) (B:Option Addr) (J:Nat),Parts w c q [] (.slice B ds.length J) wr ci ds B J->Calls prog 70 #[ae c.m,sv] wr (au w c (q+1) (Pat.set s).Mt aV)):=λwr ci ds B J h=>by
  rcases hsv with⟨D,R⟩|⟨I,d,a,D,z,ha,H,hr⟩
  ·subst R;subst D;have z:=Di (lc:=0) (la:=none) (l:=[]) h.mk (h.gone.pow hI hP) (by simp only[cK];omega) (λi x U=>by simp at U) (λb o e=>by cases e) hcan (by simp);rw[h.gone.m]at z;refine z.mono ?_;rintro r9 w9 ⟨L,M,rfl,y,n,v,r,t⟩;exact⟨L,M,rfl,y.more (by simp only[cK];omega),h.gone.trans n,v,r,t⟩
  ·subst D;obtain⟨G,m⟩:=hA I ha;have W:Rd wr (some (aD I d)) s:=λi x U=>by
    obtain⟨b',Y,e',a3,c1,c2⟩:=hr i x U;cases e';have R:=h.gone.but.size;exact⟨I,d,rfl,by omega,(h.gone.but.cell (p:=⟨I,d+i*2,none⟩) G m).trans c1,(h.gone.but.cell (p:=⟨I,d+i*2+1,none⟩) G m).trans c2⟩
   have z:=Di (lc:=a) h.mk (h.gone.pow hI hP) (by simp only[cK];omega) W (λb o e=>by cases e;have R:=h.gone.but.size;exact⟨by omega,h.gone.notS G m⟩) hcan hlen;rw[h.gone.m]at z;refine z.mono ?_;rintro r9 w9 ⟨L,M,rfl,y,n,v,r,t⟩;exact⟨L,M,rfl,y.more (by simp only[cK];omega),h.gone.trans n,v,r,t⟩
 have P:Hid (js Pat.Mt Pat.me (λi=>q+cK (([]:List Pat).take i)) w c ([]:List Pat) ([]:List Pat).length (Vz) (Vi 0) w):=js.start (by simpa [cK]using hI) (zE _ _);obtain⟨a4,Z,S⟩:=C.out;subst S;go_enter func44,ntmps44;go_wp2_with fail
 go_loopg [5,13] ([]:List Pat).length (λj lv iv wr=>js Pat.Mt Pat.me (λi=>q+cK (([]:List Pat).take i)) w c ([]:List Pat) j lv iv wr)
 case atStart=>exact P
 case round=>
  obtain⟨i,ci,ds,rfl,a6,hj,u,hd,m,f⟩:=hrel;have k0:(0:Int)<=(i:Int):=zK _;obtain⟨hnb,a1⟩:=F.out wr ci _ _ u;by_cases H:i<([]:List Pat).length
  ·exact absurd H (by simp)
  ·have d1:decide ((i:Int)<(([]:List Pat).length:Int))=false:=zI (by omega);have T:i=([]:List Pat).length:=by omega
   subst T;rw[zQ]at m;simp only[zQ]at u;obtain⟨B,J,k⟩:=K.out wr _ ci ds u hd m f;have O:=k.v;subst O;have x0:wr.cell? (aD b 0)=some (Vi 0):=hnb.cell 0;have a0:=hnb.lt;have HE:=aa (E wr ci ds B J k);have x1:wr.cell? (aD b 1)=some sv:=hnb.cell 1;go_wp2_with fail;refine HE.mono ?_;intro r9 w9 h9;have V:=aa h9;obtain⟨L,M,rfl,Q⟩:=h9;go_wp2_with fail;go_ret;exact V
namespace Brm
mutual
def Pat.rg:Pat->Nat
 |.set s=>s.length
 |.row l=>cr l
 |.or l=>cr l
 |.and l=>cr l
 |.not p=>p.rg
 |.many p _ _=>p.rg
 |.group p=>p.rg
def cr:List Pat->Nat
 | []=>0
 |p::l=>p.rg+cr l
end
end Brm
theorem Mx {l:List Me}{a:Me}(h:a∈l):a.z<=(orA l).z:=by
 have:=JX (f:=λa:Me=>a.z) h;simp only[orA];omega
theorem ly {A:NP}{x:Nat}(h:cB w A 47 1 lv 1 [ar x]){p:Pat}:cB w A 47 1 lv [p].length ([x].map ar):=h
mutual
theorem nX:∀(p:Pat),p.Ok->p.rg<=400000->FQ p
 |.set s,h,hr=>by
  intro w c q b A k j B t o v;obtain⟨z,V,d,Q⟩:=B;refine Kh (ex:=[]) (xs:=[]) (λp i=>by simp at i) k j t z d ⟨⟨rfl,.inl ⟨rfl,rfl⟩⟩,λg T=>by simp[Value.ownBlock]at T⟩ rfl (λp i=>by simp at i) Q h hr o
 |.row l,h,hr=>by
  have y:=lA l h hr;intro w c q b A k j B t o v;obtain⟨z,f,K,xs,d,C,I⟩:=B;exact fx (ex:=[]) (.inl ⟨71,.inl ⟨rfl,rfl⟩,JQ k j f o⟩) y k j t z d C I f (λp i=>zJ ((DN (bX l) (uJ l)).1 p.me (nf i)) v) (by simp only[Pat.co];omega) o
 |.or l,h,hr=>by
  have y:=lA l h.1 hr;intro w c q b A k j B t o v;have D:∀p∈l,p.me.z<=3000000000000:=λp i=>zJ (Mx (nf i)) v;obtain⟨f,xs,I,⟨P,rfl⟩|⟨S,z,K,d,C⟩⟩:=B
  ·obtain⟨p,rfl⟩:=zy.1 P;obtain⟨x,r,e,i,_⟩:=I;cases e;have N:(Pat.or [p]).co=p.co+1:=by simp[Pat.co,cK]
   refine (y p (by simp) w c q b A k j i t (by omega) (D p (by simp))).mono ?_;rintro U R ⟨M,O,rfl,G,F,E,H,J⟩;refine⟨M,O,rfl,G.more (by omega),F,E,?_,Me.trans J ?_⟩
   ·rw[H];funext u;show _=gy [p] u
    simp[gy]
   ·refine⟨?_,?_,?_,?_⟩<;>simp only[Pat.me,bX,orA,maxA,sumA]<;>omega
  ·exact fx (ex:=[]) (.inl ⟨61,.inr (.inl ⟨rfl,rfl⟩),PA k j f v o⟩) y k j t z d C I f D (by simp only[Pat.co];omega) o
 |.and l,h,hr=>by
  have y:=lA l h.1 hr;intro w c q b A k j B t o v;have D:∀p∈l,p.me.z<=3000000000000:=λp i=>zJ (show (bB p.me).z<=(orA ((bX l).map bB)).z from Mx (List.mem_map_of_mem (nf i))) v;obtain⟨f,xs,I,⟨P,rfl⟩|⟨S,z,K,d,C⟩⟩:=B
  ·obtain⟨p,rfl⟩:=zy.1 P;obtain⟨x,r,e,i,_⟩:=I;cases e;have N:(Pat.and [p]).co=p.co+1+2:=by simp[Pat.co,cK]
   refine (y p (by simp) w c q b A k j i t (by omega) (D p (by simp))).mono ?_;rintro U R ⟨M,O,rfl,G,F,E,H,J⟩;refine⟨M,O,rfl,G.more (by omega),F,E,?_,Me.trans J ?_⟩
   ·rw[H];funext u;show _=eG [p] u
    simp[eG]
   ·refine⟨?_,?_,?_,?_⟩<;>simp only[Pat.me,bX,orA,maxA,sumA,bB,zp,yU]<;>omega
  ·exact fx (ex:=[]) (.inl ⟨72,.inr (.inr ⟨rfl,rfl⟩),JR k j f v o⟩) y k j t z d C I f D (by simp only[Pat.co];omega) o
 |.not p,h,hr=>by
  have y:=nX p h hr;intro w c q b A k j B t o v;obtain⟨z,K,x,d,C,i⟩:=B;exact fx (ex:=[]) (l:=[p]) (xs:=[x]) (.inr ⟨p,rfl,.inl ⟨rfl,rfl⟩⟩) (λL a=>by simp at a;subst a;exact y) k j t z d (ly C) ⟨x,[],rfl,i,rfl⟩ (by simp) (λL a=>by simp at a;subst a;exact v) (by simp only[Pat.co,cK];omega) o
 |.many p m n,h,hr=>by
  have y:=nX p h.1 hr;intro w c q b A k j B t o v;obtain⟨z,K,x,d,C,i⟩:=B;exact fx (ex:=[]) (l:=[p]) (xs:=[x]) (.inr ⟨p,rfl,.inr (.inr ⟨rfl,rfl,h.2⟩)⟩) (λL a=>by simp at a;subst a;exact y) k j t z d (ly C) ⟨x,[],rfl,i,rfl⟩ (by simp) (λL a=>by simp at a;subst a;exact zJ (yN _) v) (by simp only[Pat.co,cK];omega) o
 |.group p,h,hr=>by
  have y:=nX p h hr;intro w c q b A k j B t o v;obtain⟨z,K,x,d,C,i⟩:=B;exact fx (ex:=[]) (l:=[p]) (xs:=[x]) (.inr ⟨p,rfl,.inr (.inl ⟨rfl,rfl⟩)⟩) (λL a=>by simp at a;subst a;exact y) k j t z d (ly C) ⟨x,[],rfl,i,rfl⟩ (by simp) (λL a=>by simp at a;subst a;exact v) (by simp only[Pat.co,cK];omega) o
theorem lA:∀(l:List Pat),jr l->cr l<=400000->∀p∈l,FQ p
 | [],_,_=>λp h=>by cases h
 |q::l,hk,hr=>by
  simp only[cr]at hr;have b:=nX q hk.1 (by omega);have a:=lA l hk.2 (by omega);intro p h;rcases zO.1 h with rfl|h
  ·exact b
  ·exact a p h
end
namespace Brm
mutual
def Pat.nd:Pat->Nat
 |.set _=>1
 |.row l=>bH l+1
 |.or l=>bH l+1
 |.and l=>bH l+l.length+2
 |.not p=>p.nd+1
 |.many p _ _=>p.nd+1
 |.group p=>p.nd
def bH:List Pat->Nat
 | []=>0
 |p::l=>p.nd+bH l
end
end Brm
def zL (l:List Pat):Nat:=sumA (·.z) (bX l)
def yL (l:List Pat):Nat:=sumA (·.y) (bX l)
theorem tf {α:Type}(f:α->Nat):∀(l:List α) (a:α),sumA f (l++[a])=sumA f l+f a
 | [],a=>by simp[sumA]
 |b::l,a=>by simp only[zV,sumA,tf f l a];omega
theorem Fk (l:List Pat)(p:Pat):bX (l++[p])=bX l++[p.me]:=by rw[im,im,xH];rfl
theorem uB (l:List Pat)(p:Pat):zL (l++[p])=zL l+p.me.z:=by unfold zL;rw[Fk,tf]
theorem uC (l:List Pat)(p:Pat):yL (l++[p])=yL l+p.me.y:=by unfold yL;rw[Fk,tf]
theorem qS:∀(l:List Pat) (p:Pat),bH (l++[p])=bH l+p.nd
 | [],p=>by simp[bH]
 |q::l,p=>by simp only[zV,bH,qS l p];omega
theorem qT:∀(l:List Pat) (p:Pat),cr (l++[p])=cr l+p.rg
 | [],p=>by simp[cr]
 |q::l,p=>by simp only[zV,cr,qT l p];omega
theorem Fl:∀l:List Me,(rwsM l).z<=sumA (·.z) l+1/\(rwsM l).y<=sumA (·.y) l+1
 | []=>by simp[rwsM,aV,sumA]
 | [a]=>by simp[rwsM,sumA]
 |a::b::l=>by
  have:=Fl (b::l);simp only[rwsM,bf,sumA]at *;omega
theorem nJ {α β:Type}(f:β->Nat)(g:α->β):∀l:List α,sumA f (l.map g)=sumA (λa=>f (g a)) l
 | []=>rfl
 |a::l=>by simp only[zp,sumA,nJ f g l]
theorem Cz {α:Type}(f:α->Nat):∀l:List α,sumA (λa=>f a+1) l=sumA f l+l.length
 | []=>rfl
 |a::l=>by simp only[sumA,Cz f l,zG];omega
theorem XD (l:List Pat):(Pat.row l).me.z<=zL l+1/\(Pat.row l).me.y<=yL l+1:=Fl (bX l)
theorem VU (l:List Pat):(bX l).length=l.length:=by rw[im,ym]
theorem YH (l:List Pat):(Pat.or l).me.z<=max 1 (zL l)/\(Pat.or l).me.y<=max 1 (yL l):=⟨zA _,zA _⟩
theorem XE (l:List Pat):(Pat.and l).me.z<=max 1 (zL l)/\(Pat.and l).me.y<=max 1 (yL l+l.length)+1:=by
 have b:sumA (·.z) ((bX l).map bB)=zL l:=by rw[nJ];rfl
 have c:sumA (·.y) ((bX l).map bB)=yL l+l.length:=by
  rw[nJ];show sumA (λa:Me=>a.y+1) (bX l)=_
  rw[Cz,VU];rfl
 constructor
 ·show max 1 (sumA (·.z) ((bX l).map bB))<=_
  rw[b];exact zA _
 ·show max 1 (sumA (·.y) ((bX l).map bB))+1<=_
  rw[c];exact zA _
theorem Fm (l:List Pat)(p:Pat):1<=zL (l++[p])/\1<=yL (l++[p]):=by
 rw[uB,uC];have h:=tG p;have b:1<=p.me.z:=h.2.2.2;have a:1<=p.me.y:=h.2.2.1;omega
def kp (kz ky kr kn:Nat)(r:Res Pat)(s:List Int):Prop:=match r with|.ok p s'=>p.me.z+s'.length<=kz+s.length/\p.me.y+3*s'.length<=ky+3*s.length/\p.rg+3*s'.length<=kr+3*s.length/\p.nd+4*s'.length<=kn+4*s.length|.bad _=>True
theorem kp.weak {kz ky kr kn kz' ky' kr' kn':Nat}{r:Res Pat}{s s':LZ}(h:kp kz ky kr kn r s)(h1:kz+s.length<=kz'+s'.length)(h2:ky+3*s.length<=ky'+3*s'.length)(h3:kr+3*s.length<=kr'+3*s'.length)(h4:kn+4*s.length<=kn'+4*s'.length):kp kz' ky' kr' kn' r s':=by
 cases r with
 |bad s=>trivial
 |ok p t=>
  obtain⟨c,b,d,a⟩:p.me.z+t.length<=kz+s.length/\p.me.y+3*t.length<=ky+3*s.length/\p.rg+3*t.length<=kr+3*s.length/\p.nd+4*t.length<=kn+4*s.length:=h;exact⟨by omega,by omega,by omega,by omega⟩
theorem vk:∀(n:Nat) (x:Pat) (s:LZ),kp x.me.z x.me.y x.rg x.nd (aY n x s) s
 |0,_,_=>trivial
 |n+1,x,s=>by
  unfold aY
  split
  ·have a:=fq s;cases hr:dn s with
   |bad s'=>trivial
   |ok mn s'=>
    rw[hr]at a;have:=a.1;refine (vk n (.many x mn.1 mn.2) s').weak ?_ ?_ ?_ ?_
    ·show x.me.z+1+_<=_;omega
    ·show x.me.y+1+_<=_;omega
    ·show x.rg+_<=_;omega
    ·show x.nd+1+_<=_;omega
  ·exact⟨zA _,zA _,zA _,zA _⟩
theorem tg {l:LQ}{s s':LZ}(h:s'.length<s.length)(hl:l.length+3*s'.length<=3*s.length):kp 0 0 0 0 (.ok (.set l) s') s:=by
 refine⟨?_,?_,?_,?_⟩
 ·show 1+_<=_;omega
 ·show 1+_<=_;omega
 ·show l.length+_<=_;omega
 ·show 1+_<=_;omega
def Jz (k:Nat)(r:Res (List (Int×Int)))(s:List Int):Prop:=match r with|.ok l s'=>l.length+3*s'.length<=k+3*s.length|.bad _=>True
theorem CA (a:Int)(s:LZ):Jz 1 (bS a s) s:=by
 cases s with
 |nil=>show 1+0<=1+0;omega
 |cons c s=>
  simp only[bS]
  split
  ·have d:=jU a s;cases hr:bM a s with
   |bad s'=>trivial
   |ok b s'=>
    rw[hr]at d;have:=d.1;show 1+_<=_
    simp;omega
  ·show 1+_<=_;omega
theorem SH (s:LZ):Jz 0 (cq s) s:=by
 cases s with
 |nil=>trivial
 |cons c s=>
  simp only[cq]
  split
  ·cases s with
   |nil=>trivial
   |cons d s=>
    simp only[dx]
    split
    ·have h:=CA (bU d) s;show Jz 0 (bS (bU d) s) _
     cases hr:bS (bU d) s with
     |bad s'=>trivial
     |ok l s'=>
      rw[hr]at h;have a:l.length+3*s'.length<=1+3*s.length:=h;show l.length+_<=_
      simp;omega
    ·split
     ·rename_i h
      have:=(og h).2;show (eF d).length+_<=_
      simp;omega
     ·trivial
  ·split
   ·trivial
   ·have h:=CA c s;cases hr:bS c s with
    |bad s'=>trivial
    |ok l s'=>
     rw[hr]at h;have a:l.length+3*s'.length<=1+3*s.length:=h;show l.length+_<=_
     simp;omega
theorem th:∀(n:Nat) (l:LQ) (s:LZ),Jz l.length (ba n l s) s
 |0,_,_=>trivial
 |n+1,l,s=>by
  unfold ba
  split
  ·show l.length+_<=_;simp;omega
  ·have b:=SH s;cases hr:cq s with
   |bad s'=>trivial
   |ok x s'=>
    rw[hr]at b;have d:x.length+3*s'.length<=0+3*s.length:=b;have c:=th n (l++x) s';show Jz _ (ba n (l++x) s') _
    cases hr2:ba n (l++x) s' with
    |bad s2=>trivial
    |ok y s2=>
     rw[hr2]at c;have a:y.length+3*s2.length<=(l++x).length+3*s'.length:=c;rw[zH]at a;show y.length+_<=_
     omega
theorem Hy (s:LZ):Jz 0 (cJ s) s:=by
 unfold cJ
 split
 ·rename_i hh
  have a:=th (s.length+1) [] s.tail;have e:=(cR hh).1;cases hr:ba (s.length+1) [] s.tail with
  |bad s'=>trivial
  |ok l s'=>
   rw[hr]at a;have b:l.length+3*s'.length<=0+3*s.tail.length:=a;have c:=dr l;have d:=xd (form l);show (dT (form l)).length+_<=_
   omega
 ·have a:=th (s.length+1) [] s;cases hr:ba (s.length+1) [] s with
  |bad s'=>trivial
  |ok l s'=>
   rw[hr]at a;have b:l.length+3*s'.length<=0+3*s.length:=a;have c:=dr l;show (form l).length+_<=_
   omega
theorem SI {rec:List Int->Res Pat}(hr:∀s,kp 1 3 0 5 (rec s) s)(s:LZ):kp 0 0 0 0 (dy rec s) s:=by
 cases s with
 |nil=>trivial
 |cons c s=>
  simp only[dy]
  split
  ·have a:=hr s;cases h:rec s with
   |bad s'=>trivial
   |ok p s'=>
    rw[h]at a;simp only[Res.bind,bV]
    split
    ·rename_i hh
     have:=(cR hh).1;obtain⟨m,j,k,g⟩:p.me.z+s'.length<=1+s.length/\p.me.y+3*s'.length<=3+3*s.length/\p.rg+3*s'.length<=0+3*s.length/\p.nd+4*s'.length<=5+4*s.length:=a;refine⟨?_,?_,?_,?_⟩
     ·show p.me.z+_<=_;simp at *;omega
     ·show p.me.y+_<=_;simp at *;omega
     ·show p.rg+_<=_;simp at *;omega
     ·show p.nd+_<=_;simp at *;omega
    ·trivial
  split
  ·have b:=gw s;have e:=Hy s;cases h:cJ s with
   |bad s'=>trivial
   |ok l s'=>
    rw[h]at b e;have i:=b.1;have f:l.length+3*s'.length<=0+3*s.length:=e;exact tg (by simp;omega) (by simp;omega)
  split
  ·exact tg (by simp) (by have:tm.length<=1+1:=xd [(10,10)];simp;omega)
  split
  ·cases s with
   |nil=>trivial
   |cons d s=>
    simp only[dx]
    split
    ·exact tg (by simp;omega) (by simp;omega)
    ·split
     ·rename_i h
      have:=(og h).2;exact tg (by simp;omega) (by simp;omega)
     ·trivial
  split
  ·trivial
  ·exact tg (by simp) (by simp;omega)
theorem Fn {rec:List Int->Res Pat}(hr:∀s,kp 1 3 0 5 (rec s) s)(s:LZ):kp 0 0 0 0 (dR rec s) s:=by
 unfold dR;have a:=SI hr s;cases h:dy rec s with
 |bad s'=>trivial
 |ok p s'=>
  rw[h]at a;obtain⟨e,c,d,b⟩:p.me.z+s'.length<=0+s.length/\p.me.y+3*s'.length<=0+3*s.length/\p.rg+3*s'.length<=0+3*s.length/\p.nd+4*s'.length<=0+4*s.length:=a;exact (vk _ p s').weak e c d b
theorem JA {rec:List Int->Res Pat}(hr:∀s,kp 1 3 0 5 (rec s) s):∀(s:LZ),kp 0 0 0 0 (Brm.dg rec s) s
 | []=>Fn hr _
 |c::s=>by
  simp only[Brm.dg]
  split
  ·have a:=JA hr s;cases h:Brm.dg rec s with
   |bad s'=>trivial
   |ok p s'=>
    rw[h]at a;obtain⟨f,d,e,b⟩:p.me.z+s'.length<=0+s.length/\p.me.y+3*s'.length<=0+3*s.length/\p.rg+3*s'.length<=0+3*s.length/\p.nd+4*s'.length<=0+4*s.length:=a;refine⟨?_,?_,?_,?_⟩
    ·show p.me.z+_<=_;simp;omega
    ·show p.me.y+1+_<=_;simp;omega
    ·show p.rg+_<=_;simp;omega
    ·show p.nd+1+_<=_;simp;omega
  ·exact Fn hr _
theorem Ag {lax:Bool}{rec:List Int->Res Pat}(hr:∀s,kp 1 3 0 5 (rec s) s):∀(n:Nat) (l:List Pat) (s:LZ),kp (zL l+1) (yL l+1) (cr l) (bH l+1) (cG lax rec n l s) s
 |0,_,_=>trivial
 |n+1,l,s=>by
  unfold cG
  split
  ·have:=XD l;refine⟨?_,?_,?_,?_⟩
   ·show (Pat.row l).me.z+_<=_;omega
   ·show (Pat.row l).me.y+_<=_;omega
   ·show cr l+_<=_;omega
   ·show bH l+1+_<=_;omega
  ·have a:=JA hr s;cases h:Brm.dg rec s with
   |bad s'=>trivial
   |ok p s'=>
    rw[h]at a;obtain⟨e,c,d,b⟩:p.me.z+s'.length<=0+s.length/\p.me.y+3*s'.length<=0+3*s.length/\p.rg+3*s'.length<=0+3*s.length/\p.nd+4*s'.length<=0+4*s.length:=a;refine (Ag hr n (l++[p]) s').weak ?_ ?_ ?_ ?_
    ·rw[uB];omega
    ·rw[uC];omega
    ·rw[qT];omega
    ·rw[qS];omega
theorem Fo {part:List Int->Res Pat}(hr:∀s,kp 1 1 0 1 (part s) s):∀(n:Nat) (l:List Pat) (s:LZ),kp (zL l+1) (yL l+l.length+3) (cr l) (bH l+l.length+4) (bE part 38 .and n l s) s
 |0,_,_=>trivial
 |n+1,l,s=>by
  unfold bE;have a:=hr s;cases h:part s with
  |bad s'=>trivial
  |ok p s'=>
   rw[h]at a;obtain⟨o,k,m,f⟩:p.me.z+s'.length<=1+s.length/\p.me.y+3*s'.length<=1+3*s.length/\p.rg+3*s'.length<=0+3*s.length/\p.nd+4*s'.length<=1+4*s.length:=a;simp only[Res.bind];have i:=uB l p;have g:=uC l p;have c:=qT l p;have d:=qS l p;have e:(l++[p]).length=l.length+1:=by simp
   split
   ·rename_i hh
    have:=(cR hh).1;refine (Fo hr n (l++[p]) s'.tail).weak ?_ ?_ ?_ ?_<;>omega
   ·have j:=XE (l++[p]);have b:=Fm l p;refine⟨?_,?_,?_,?_⟩
    ·show (Pat.and (l++[p])).me.z+_<=_;omega
    ·show (Pat.and (l++[p])).me.y+_<=_;omega
    ·show cr (l++[p])+_<=_;omega
    ·show bH (l++[p])+(l++[p]).length+2+_<=_;omega
theorem JB {part:List Int->Res Pat}(hr:∀s,kp 1 3 0 4 (part s) s):∀(n:Nat) (l:List Pat) (s:LZ),kp (zL l+1) (yL l+3) (cr l) (bH l+5) (bE part 124 .or n l s) s
 |0,_,_=>trivial
 |n+1,l,s=>by
  unfold bE;have a:=hr s;cases h:part s with
  |bad s'=>trivial
  |ok p s'=>
   rw[h]at a;obtain⟨m,j,k,e⟩:p.me.z+s'.length<=1+s.length/\p.me.y+3*s'.length<=3+3*s.length/\p.rg+3*s'.length<=0+3*s.length/\p.nd+4*s'.length<=4+4*s.length:=a;simp only[Res.bind];have g:=uB l p;have f:=uC l p;have c:=qT l p;have d:=qS l p
   split
   ·rename_i hh
    have:=(cR hh).1;refine (JB hr n (l++[p]) s'.tail).weak ?_ ?_ ?_ ?_<;>omega
   ·have i:=YH (l++[p]);have b:=Fm l p;refine⟨?_,?_,?_,?_⟩
    ·show (Pat.or (l++[p])).me.z+_<=_;omega
    ·show (Pat.or (l++[p])).me.y+_<=_;omega
    ·show cr (l++[p])+_<=_;omega
    ·show bH (l++[p])+1+_<=_;omega
theorem Pj (lax:Bool):∀(n:Nat) (s:LZ),kp 1 3 0 5 (aU lax n s) s
 |0,_=>trivial
 |n+1,s=>by
  have a:∀s,kp 1 1 0 1 (fR lax (aU lax n) s) s:=λs=>(Ag (lax:=lax) (Pj lax n) (s.length+1) [] s).weak (by simp[zL,bX,sumA]) (by simp[yL,bX,sumA]) (by simp[cr]) (by simp[bH]);have b:∀s,kp 1 3 0 4 (gP lax (aU lax n) s) s:=λs=>(Fo a (s.length+1) [] s).weak (by simp[zL,bX,sumA]) (by simp[yL,bX,sumA]) (by simp[cr]) (by simp[bH]);exact (JB b (s.length+1) [] s).weak (by simp[zL,bX,sumA]) (by simp[yL,bX,sumA]) (by simp[cr]) (by simp[bH])
theorem jH {α:Type}{f g:α->Nat}:∀{l:List α},(∀a∈l,f a<=g a)->maxA f l<=sumA g l
 | [],_=>zW _
 |a::l,h=>by
  have e:=h a (by simp);have d:=jH (l:=l) (λb c=>h b (by simp[c]));simp only[maxA,sumA];omega
theorem JC:∀l:List Me,(∀a∈l,a.n<=a.z/\a.p<=a.z)->(rwsM l).n<=(rwsM l).z/\(rwsM l).p<=(rwsM l).z
 | [],_=>by simp[rwsM,aV]
 | [a],h=>by simpa [rwsM]using h a (by simp)
 |a::b::l,h=>by
  have e:=JC (b::l) (λx c=>h x (by simp at c ⊢;exact .inr c));have d:=h a (by simp);show (bf a (rwsM (b::l))).n<=_/\(bf a (rwsM (b::l))).p<=(bf a (rwsM (b::l))).z
  simp only[bf];refine⟨?_,?_⟩
  ·show a.n+(rwsM (b::l)).n<=a.z+(rwsM (b::l)).z
   omega
  ·omega
mutual
theorem Ah:∀p:Pat,p.me.n<=p.me.z/\p.me.p<=p.me.z
 |.set _=>by simp[Pat.me,aV]
 |.row l=>JC (bX l) (tj l)
 |.or l=>by
  have h:=tj l;have e:maxA (λx:Me=>x.n) (bX l)<=sumA (λx:Me=>x.z) (bX l):=jH (λa c=>(h a c).1);have i:maxA (λx:Me=>x.p) (bX l)<=sumA (λx:Me=>x.z) (bX l):=jH (λa c=>(h a c).2);simp only[Pat.me,orA];omega
 |.and l=>by
  have h:=tj l;have e:=jH (f:=(·.n)) (g:=(·.z)) (l:=(bX l).map bB) (λa c=>by obtain⟨b,d,rfl⟩:=yH.1 c;exact (h b d).1);have i:=jH (f:=(·.p)) (g:=(·.z)) (l:=(bX l).map bB) (λa c=>by obtain⟨b,d,rfl⟩:=yH.1 c;exact (h b d).2);simp only[Pat.me,bB,orA]at *;omega
 |.not p=>Ah p
 |.many p _ _=>by
  have:=Ah p;simp only[Pat.me,cZ];omega
 |.group p=>Ah p
theorem tj:∀l:List Pat,∀a∈bX l,a.n<=a.z/\a.p<=a.z
 | [],a,h=>by simp[bX]at h
 |p::l,a,h=>by
  simp only[bX]at h;rcases zO.1 h with rfl|h
  ·exact Ah p
  ·exact tj l a h
end
theorem XF (l:List Pat):zL l<=(Pat.row l).me.z:=by
 show sumA (·.z) (bX l)<=(rwsM (bX l)).z
 generalize bX l=m
 induction m with
 |nil=>simp[sumA]
 |cons a m ih=>
  cases m with
  |nil=>simp[sumA,rwsM]
  |cons b m=>
   show a.z+_<=a.z+(rwsM (b::m)).z
   omega
mutual
theorem Ai:∀p:Pat,p.co<=p.nd*p.me.z
 |.set _=>by simp[Pat.co,Pat.nd,Pat.me,aV]
 |.row l=>by
  have h:=uD l;have d:sumA (·.n) (bX l)<=zL l:=by
   have:∀m:List Me,(∀a∈m,a.n<=a.z)->sumA (·.n) m<=sumA (·.z) m:=λm e=>by
    induction m with
    |nil=>exact zA _
    |cons a m ih=>
     have d:=e a (by simp);have j:=ih (λb g=>e b (by simp[g]));simp only[sumA];omega
   exact this (bX l) (λa i=>(tj l a i).1)
  have c:=XF l;show cK l+sumA (·.n) (bX l)<=(bH l+1)*(Pat.row l).me.z
  have:=Nat.mul_le_mul_left (bH l) c;rw[Nat.succ_mul];omega
 |.or l=>by
  have h:=uD l;have c:zL l<=(Pat.or l).me.z/\1<=(Pat.or l).me.z:=by
   simp only[Pat.me,orA,zL];omega
  show cK l+1<=(bH l+1)*(Pat.or l).me.z
  have:=Nat.mul_le_mul_left (bH l) c.1;rw[Nat.succ_mul];omega
 |.and l=>by
  have h:=uD l;have f:sumA (·.z) ((bX l).map bB)=zL l:=by rw[nJ];rfl
  have c:zL l<=(Pat.and l).me.z/\1<=(Pat.and l).me.z:=by
   show zL l<=max 1 (sumA (·.z) ((bX l).map bB))/\1<=max 1 (sumA (·.z) ((bX l).map bB))
   rw[f];omega
  show cK l+l.length+2<=(bH l+l.length+2)*(Pat.and l).me.z
  have d:=Nat.mul_le_mul_left (bH l) c.1;have j:=Nat.mul_le_mul_left (l.length+2) c.2;rw[xG (bH l),Nat.add_mul];omega
 |.not p=>by
  have h:=Ai p;have d:1<=p.me.z:=(tG p).2.2.2;show p.co+1<=(p.nd+1)*p.me.z
  rw[Nat.succ_mul];omega
 |.many p _ _=>by
  have h:=Ai p;show p.co+1<=(p.nd+1)*(p.me.z+1)
  rw[Nat.succ_mul,Nat.mul_succ];omega
 |.group p=>Ai p
theorem uD:∀l:List Pat,cK l<=bH l*zL l
 | []=>by simp[cK]
 |p::l=>by
  have b:=Ai p;have a:=uD l;show p.co+cK l<=(p.nd+bH l)*(p.me.z+zL l)
  rw[Nat.add_mul,ye,ye];omega
end
structure Small (p:Pat):Prop where
 z:p.me.z<=61
 n:p.me.n<=61
 pp:p.me.p<=61
 y:p.me.y<=183
 rg:p.rg<=180
 co:p.co<=20000
 nd:p.nd<=245
theorem LU {lax:Bool}{n:Nat}{s s':LZ}{p:Pat}(h:aU lax n s=.ok p s')(hl:s.length<=60):Small p:=by
 have a:=Pj lax n s;rw[h]at a;obtain⟨g,e,f,d⟩:p.me.z+s'.length<=1+s.length/\p.me.y+3*s'.length<=3+3*s.length/\p.rg+3*s'.length<=0+3*s.length/\p.nd+4*s'.length<=5+4*s.length:=a;have b:p.me.z<=61:=by omega
 have c:=Ah p;refine⟨b,by omega,by omega,by omega,by omega,?_,by omega⟩;have:=Nat.mul_le_mul (show p.nd<=245 by omega) b;have:=Ai p;omega
mutual
def Tm.L:Tm->List Int->Prop
 |.none,_=>False
 |.empty,u=>u=[]
 |.set q,u=>∃c,u=[c]/\memB (told q) c=true
 |.row a b,u=>∃x y,u=x++y/\a.L x/\b.L y
 |.or l,u=>kI l u
 |.and l,u=>iz l u
 |.not t,u=>¬t.L u
 |.many t m n,u=>∃r:Nat,m<=r/\(n<0\/(r:Int)<=n)/\jL t.L r u
def kI:List Tm->List Int->Prop
 | [],_=>False
 |t::l,u=>t.L u\/kI l u
def iz:List Tm->List Int->Prop
 | [],_=>True
 |t::l,u=>t.L u/\iz l u
end
theorem qc:∀{l:List Tm} {u:LZ},kI l u↔∃t∈l,t.L u
 | [],u=>by simp[kI]
 |t::l,u=>by simp only[kI,qc (l:=l),zO,exists_eq_or_imp]
theorem nK:∀{l:List Tm} {u:LZ},iz l u↔∀t∈l,t.L u
 | [],u=>by simp[iz]
 |t::l,u=>by simp only[iz,nK (l:=l),zO,forall_eq_or_imp]
theorem Tm.L_none:Tm.none.L=eA:=by funext u;simp[Tm.L,eA]
theorem Tm.L_empty:Tm.empty.L=dZ:=by funext u;simp[Tm.L,dZ]
theorem Tm.L_row (a b:Tm):(Tm.row a b).L=aJ a.L b.L:=by funext u;simp[Tm.L,aJ]
theorem Tm.L_not (a:Tm):(Tm.not a).L=fZ a.L:=by funext u;simp[Tm.L,fZ]
theorem Tm.L_many (a:Tm)(m n:Int):(Tm.many a m n).L=dB a.L m n:=by funext u;simp[Tm.L,dB]
mutual
def Tm.z:Tm->Nat
 |.none=>1
 |.empty=>1
 |.set _=>1
 |.row a b=>a.z+b.z
 |.or l=>max 1 (bd l)
 |.and l=>max 1 (bd l)
 |.not t=>t.z
 |.many t _ _=>t.z+1
def bd:List Tm->Nat
 | []=>0
 |t::l=>t.z+bd l
end
mutual
def Tm.tl:Tm->Nat
 |.none=>12
 |.empty=>12
 |.set q=>12+20*q.length
 |.row a b=>a.tl+b.tl+12
 |.or l=>bw l+12
 |.and l=>bw l+12
 |.not t=>t.tl+12
 |.many t _ _=>t.tl+12
def bw:List Tm->Nat
 | []=>0
 |t::l=>t.tl+bw l
end
theorem ez:∀(l m:List Tm),bw (l++m)=bw l+bw m
 | [],m=>by simp[bw]
 |t::l,m=>by simp only[zV,bw,ez l m];omega
theorem dV:∀(l m:List Tm),bd (l++m)=bd l+bd m
 | [],m=>by simp[bd]
 |t::l,m=>by simp only[zV,bd,dV l m];omega
mutual
def Tm.Ok:Tm->Prop
 |.none=>True
 |.empty=>True
 |.set q=>PCanon q
 |.row a b=>a.Ok/\b.Ok
 |.or l=>dW l/\l≠[]
 |.and l=>dW l/\l≠[]
 |.not t=>t.Ok
 |.many t m n=>t.Ok/\0<=m/\m<=5/\(n=-1\/(0<n/\m<=n/\n<=5))
def dW:List Tm->Prop
 | []=>True
 |t::l=>t.Ok/\dW l
end
theorem dO:∀{l:List Tm},dW l↔∀t∈l,t.Ok
 | []=>by simp[dW]
 |t::l=>by simp only[dW,dO (l:=l),zO,forall_eq_or_imp]
theorem LX {l m:List Tm}:dW (l++m)↔dW l/\dW m:=by
 simp only[dO,zM];exact⟨λh=>⟨λt a=>h t (.inl a),λt a=>h t (.inr a)⟩,λh t a=>a.elim (h.1 t) (h.2 t)⟩
mutual
theorem Tm.Ok.fit:∀{t:Tm},t.Ok->t.Fit
 |.none,_=>trivial
 |.empty,_=>trivial
 |.set q,h=>λx c=>by
  have:=h.1 x c;unfold PGood at this;exact⟨by unfold iP;omega,by unfold iP;omega⟩
 |.row a b,h=>⟨Tm.Ok.fit h.1,Tm.Ok.fit h.2⟩
 |.or l,h=>dW.fit h.1
 |.and l,h=>dW.fit h.1
 |.not t,h=>Tm.Ok.fit (t:=t) h
 |.many t m n,h=>⟨Tm.Ok.fit h.1,by have:=h.2.1;unfold iP;omega,by have:=h.2.2.2;unfold iP;omega⟩
theorem dW.fit:∀{l:List Tm},dW l->Bh l
 | [],_=>trivial
 |_::_,h=>⟨Tm.Ok.fit h.1,dW.fit h.2⟩
end
theorem nL {a b:Tm}(ha:a.Ok)(hb:b.Ok)(h:a.key=b.key):a=b:=Vo ha.fit hb.fit h
mutual
theorem fE:∀t:Tm,1<=t.z
 |.none=>zA _
 |.empty=>zA _
 |.set _=>zA _
 |.row a b=>by have:=fE a;show 1<=a.z+b.z;omega
 |.or l=>Nat.le_max_left _ _
 |.and l=>Nat.le_max_left _ _
 |.not t=>fE t
 |.many t _ _=>by show 1<=t.z+1;omega
end
mutual
theorem mh:∀t:Tm,12<=t.tl
 |.none=>zA _
 |.empty=>zA _
 |.set _=>by show 12<=12+_;omega
 |.row a b=>by show 12<=a.tl+b.tl+12;omega
 |.or l=>by show 12<=bw l+12;omega
 |.and l=>by show 12<=bw l+12;omega
 |.not t=>by show 12<=t.tl+12;omega
 |.many t _ _=>by show 12<=t.tl+12;omega
end
theorem Fq:∀n:Nat,n<10000000->(eI n).length<=7:=by
 have a:∀k n,n<10 ^ (k+1)->(eI n).length<=k+1:=by
  intro k
  induction k with
  |zero=>
   intro n h;rw[eI,zX (by omega)];simp
  |succ k ih=>
   intro n h;rw[eI]
   split
   ·simp
   ·have b:=ih (n / 10) (by rw[Nat.div_lt_iff_lt_mul (by decide)];rw[Nat.pow_succ]at h;omega);simp only[zH,zo];omega
 intro n h;exact a 6 n (by omega)
theorem jj (h:n<10000000):1<=(dN n).length/\(dN n).length<=7:=by
 unfold dN
 split
 ·simp
 ·exact⟨List.length_pos_iff.2 (ui _),Fq _ (by omega)⟩
theorem Fr:∀{q:LQ},(∀x∈q,PGood x)->(q.flatMap eJ).length<=20*q.length
 | [],_=>by simp
 |x::q,h=>by
  have b:=h x (by simp);unfold PGood at b;have d:=Fr (q:=q) (λy a=>h y (by simp[a]));have e:=(jj (n:=x.1) (by omega)).2;have c:=(jj (n:=x.2) (by omega)).2;simp only[yE,zH,eJ,zG];omega
mutual
theorem ik:∀{t:Tm},t.Ok->t.key.length+4<=t.tl
 |.none,_=>by simp[Tm.key,Tm.tl]
 |.empty,_=>by simp[Tm.key,Tm.tl]
 |.set q,h=>by
  have:=Fr (q:=q) (λx g=>h.1 x g);simp only[Tm.key,Tm.tl,zG];omega
 |.row a b,h=>by
  have c:=ik h.1;have e:=ik h.2;simp only[Tm.key,Tm.tl,cU,zG,zH,zh];omega
 |.or l,h=>by
  have c:=qU h.1;simp only[Tm.key,Tm.tl,zG];omega
 |.and l,h=>by
  have c:=qU h.1;simp only[Tm.key,Tm.tl,zG];omega
 |.not t,h=>by
  have c:=ik (t:=t) h;simp only[Tm.key,Tm.tl,cU,zG,zH,zh];omega
 |.many t m n,h=>by
  have c:=ik h.1;obtain⟨_,e,j,i⟩:=h;have d:(dN m).length=1:=by
   unfold dN;rw[zR (by omega),eI,zX (by omega)];rfl
  have f:(dN n).length=1:=by
   unfold dN
   split
   ·rfl
   ·rw[eI,zX (by omega)];rfl
  simp only[Tm.key,Tm.tl,cU,zG,zH,zh,d,f];omega
theorem qU:∀{l:List Tm},dW l->(ju l).length<=bw l
 | [],_=>by simp[ju]
 |t::l,h=>by
  have b:=ik h.1;have a:=qU h.2;simp only[ju,bw,cU,zG,zH,zh];omega
end
theorem Ns (N:Nat)(w:World)(hN:N<10000000):Calls prog 58 #[Vi (N:Int)] w λe w'=>∃s,e=.returned (.string s)/\af s=eI N/\Bw w w':=by
 have h:¬(N:Int)<0:=by omega
 have u:decide ((N:Int)<0)=false:=zI h;go_enter func58,ntmps58;go_wp2_with fail
 go_loopg [0,3] N (λj nv sv wr=>∃(n:Nat) (o:ByteArray),nv=Vi (n:Int)/\sv=.string o/\eI n++af o=eI N/\n<=j/\n<10000000/\Bw w wr)
 case atStart=>exact⟨N,⟨#[]⟩,rfl,rfl,by simp[af],zA _,hN,zE _ _⟩
 case round=>
  obtain⟨n,o,rfl,rfl,g,v,r,k⟩:=hrel;have f:=aa k;have t:o.size<=100:=by
   have m:=congrArg List.length g;rw[zH,aL]at m;have x:=Fq N hN;omega
  have l:=aa g;by_cases q:9<n
  ·have p:(9:Int)<(n:Int):=by omega
   have a:=lf wr [48+(n:Int) % 10] (by simp;omega);simp only[zG,zh,zp,yU]at a;have i:Hid (eI n=eI (n / 10)++[(48+(n:Int) % 10).toNat.toUInt8]):=by
    show _=_
    rw[eI.eq_def n,zR (by omega),show (48+(n:Int) % 10).toNat=48+n % 10 by omega]
   have b:(ByteArray.mk #[(48+(n:Int) % 10).toNat.toUInt8]).size=1:=rfl;obtain⟨D,c⟩:∃D,ByteArray.mk #[(48+(n:Int) % 10).toNat.toUInt8]=D:=⟨_,rfl⟩;have d:Hid (af D=[(48+(n:Int) % 10).toNat.toUInt8]):=by show _=_;rw[<-c];rfl
   rw[c]at a b;go_wp2_with fail
   go_roundg (n / 10)
   case measure=>omega
   refine⟨n / 10,D++o,by first|rfl|go_num,rfl,?_,zA _,by omega,f.alloc f.size _⟩;rw[cy,d.out,<-zc,<-i.out];exact l
  ·have p:decide ((9:Int)<(n:Int))=false:=zI (by omega);have a:=lf wr [48+(n:Int)] (by simp;omega);simp only[zG,zh,zp,yU]at a;have i:Hid (eI n=[(48+(n:Int)).toNat.toUInt8]):=by
    show _=_
    rw[eI.eq_def n,zX (by omega),show (48+(n:Int)).toNat=48+n by omega]
   have b:(ByteArray.mk #[(48+(n:Int)).toNat.toUInt8]).size=1:=rfl;obtain⟨D,c⟩:∃D,ByteArray.mk #[(48+(n:Int)).toNat.toUInt8]=D:=⟨_,rfl⟩;have d:Hid (af D=[(48+(n:Int)).toNat.toUInt8]):=by show _=_;rw[<-c];rfl
   rw[c]at a b;have y:¬(9:Int)<(n:Int):=by omega
   go_wp2_with fail;go_ret;refine⟨D++o,rfl,?_,f.alloc f.size _⟩;rw[cy,d.out,<-i.out];exact l
theorem Nt (n:Int)(w:World)(h:n<10000000):Calls prog 58 #[Vi n] w λe w'=>∃s,e=.returned (.string s)/\af s=dN n/\Bw w w':=by
 by_cases a:n<0
 ·go_enter func58,ntmps58;go_wp2_with fail;go_ret;exact⟨_,rfl,by unfold dN;rw[zX a];rfl,zE _ _⟩
 ·obtain⟨N,rfl⟩:∃N:Nat,n=N:=⟨n.toNat,by omega⟩;refine (Ns N w (by omega)).mono ?_;rintro e w' ⟨s,d,b,c⟩;exact⟨s,d,by unfold dN;rw[zR a,b];rfl,c⟩
abbrev TC (k:Int)(so:Option Addr)(sn sc:Nat)(lo:Option Addr)(ln lc:Nat)(m n:Int)(s:ByteArray):List Value:=[Vi k,.slice so sn sc,.slice lo ln lc,Vi m,Vi n,.string s]
def cg (w:World)(A:Nat->Prop)(lo:Option Addr)(xs:List Value):Prop:=∀j v,xs[j]?=some v->∃b off,lo=some (aD b off)/\A b/\b<w.heap.size/\w.cell? ⟨b,off+j,none⟩=some v
theorem cg.keep {A:NP}{lo:OA}{xs:LV}(h:cg w A lo xs)(k:ah A w w'):cg w' A lo xs:=λj v g=>by
 obtain⟨b,a,e,d,c,f⟩:=h j v g;exact⟨b,a,e,d,zF c k.1,by rw[zP (w:=w) (k.2 b c d)];exact f⟩
theorem cg.mono {A A':NP}{lo:OA}{xs:LV}(h:cg w A lo xs)(k:∀g,g<w.heap.size->A g->A' g):cg w A' lo xs:=λj v f=>by
 obtain⟨b,a,e,i,c,d⟩:=h j v f;exact⟨b,a,e,k b c i,c,d⟩
def lh (w:World)(A:Nat->Prop)(so:Option Addr)(q:List (Int×Int)):Prop:=∀(i:Nat) (x:Int×Int),q[i]?=some x->∃b off,so=some (aD b off)/\A b/\b<w.heap.size/\w.cell? ⟨b,off+i*2,none⟩=some (Vi x.1)/\w.cell? ⟨b,off+i*2+1,none⟩=some (Vi x.2)
theorem lh.rd {A:NP}{so:OA}{q:LQ}(h:lh w A so q):Rd w so q:=λi x c=>by
 obtain⟨b,a,e,_,g,f,d⟩:=h i x c;exact⟨b,a,e,g,f,d⟩
theorem lh.keep {A:NP}{so:OA}{q:LQ}(h:lh w A so q)(k:ah A w w'):lh w' A so q:=λi x f=>by
 obtain⟨b,d,e,c,a,g,j⟩:=h i x f;exact⟨b,d,e,c,zF a k.1,by rw[zP (w:=w) (k.2 b a c)];exact g,by rw[zP (w:=w) (k.2 b a c)];exact j⟩
theorem lh.mono {A A':NP}{so:OA}{q:LQ}(h:lh w A so q)(k:∀g,g<w.heap.size->A g->A' g):lh w A' so q:=λi x f=>by
 obtain⟨b,a,e,j,d,c⟩:=h i x f;exact⟨b,a,e,k b d j,d,c⟩
mutual
def aj (w:World)(A:Nat->Prop):Tm->List Value->Prop
 |.none,c=>∃s,c=TC 1 none 0 0 none 0 0 0 0 s/\af s=Tm.none.key
 |.empty,c=>∃s,c=TC 2 none 0 0 none 0 0 0 0 s/\af s=Tm.empty.key
 |.set q,c=>∃so sc s,c=TC 3 so q.length sc none 0 0 0 0 s/\lh w A so q/\af s=(Tm.set q).key
 |.row a b,c=>∃lo lc xs ys s,c=TC 4 none 0 0 lo 2 lc 0 0 s/\cg w A lo (xs++ys)/\aj w A a xs/\aj w A b ys/\af s=(Tm.row a b).key
 |.or l,c=>∃lo lc xs s,c=TC 5 none 0 0 lo l.length lc 0 0 s/\cg w A lo xs/\aO w A l xs/\af s=(Tm.or l).key
 |.and l,c=>∃lo lc xs s,c=TC 6 none 0 0 lo l.length lc 0 0 s/\cg w A lo xs/\aO w A l xs/\af s=(Tm.and l).key
 |.not t,c=>∃lo lc xs s,c=TC 7 none 0 0 lo 1 lc 0 0 s/\cg w A lo xs/\aj w A t xs/\af s=(Tm.not t).key
 |.many t m n,c=>∃lo lc xs s,c=TC 8 none 0 0 lo 1 lc m n s/\cg w A lo xs/\aj w A t xs/\af s=(Tm.many t m n).key
def aO (w:World)(A:Nat->Prop):List Tm->List Value->Prop
 | [],xs=>xs=[]
 |t::l,xs=>∃c r,xs=c++r/\aj w A t c/\aO w A l r
end
mutual
theorem aj.keep {A:NP}{w w':World}(k:ah A w w'):∀(t:Tm) (c:LV),aj w A t c->aj w' A t c
 |.none,_,h=>h
 |.empty,_,h=>h
 |.set _,_,h=>by obtain⟨u,r,s,e,g,f⟩:=h;exact⟨u,r,s,e,g.keep k,f⟩
 |.row a b,_,h=>by obtain⟨o,i,d,p,s,e,g,f,j,q⟩:=h;exact⟨o,i,d,p,s,e,g.keep k,aj.keep k a d f,aj.keep k b p j,q⟩
 |.or l,_,h=>by obtain⟨o,i,d,s,e,g,f,j⟩:=h;exact⟨o,i,d,s,e,g.keep k,aO.keep k l d f,j⟩
 |.and l,_,h=>by obtain⟨o,i,d,s,e,g,f,j⟩:=h;exact⟨o,i,d,s,e,g.keep k,aO.keep k l d f,j⟩
 |.not t,_,h=>by obtain⟨o,i,d,s,e,g,f,j⟩:=h;exact⟨o,i,d,s,e,g.keep k,aj.keep k t d f,j⟩
 |.many t m n,_,h=>by obtain⟨o,i,d,s,e,g,f,j⟩:=h;exact⟨o,i,d,s,e,g.keep k,aj.keep k t d f,j⟩
theorem aO.keep {A:NP}{w w':World}(k:ah A w w'):∀(l:List Tm) (xs:LV),aO w A l xs->aO w' A l xs
 | [],_,h=>h
 |t::l,_,h=>by obtain⟨c,r,e,b,a⟩:=h;exact⟨c,r,e,aj.keep k t c b,aO.keep k l r a⟩
end
mutual
theorem aj.mono {A A':NP}{w:World}(k:∀g,g<w.heap.size->A g->A' g):∀(t:Tm) (c:LV),aj w A t c->aj w A' t c
 |.none,_,h=>h
 |.empty,_,h=>h
 |.set _,_,h=>by obtain⟨v,u,s,e,i,f⟩:=h;exact⟨v,u,s,e,i.mono k,f⟩
 |.row a b,_,h=>by obtain⟨p,j,d,q,s,e,i,f,o,r⟩:=h;exact⟨p,j,d,q,s,e,i.mono k,aj.mono k a d f,aj.mono k b q o,r⟩
 |.or l,_,h=>by obtain⟨p,j,d,s,e,i,f,o⟩:=h;exact⟨p,j,d,s,e,i.mono k,aO.mono k l d f,o⟩
 |.and l,_,h=>by obtain⟨p,j,d,s,e,i,f,o⟩:=h;exact⟨p,j,d,s,e,i.mono k,aO.mono k l d f,o⟩
 |.not t,_,h=>by obtain⟨p,j,d,s,e,i,f,o⟩:=h;exact⟨p,j,d,s,e,i.mono k,aj.mono k t d f,o⟩
 |.many t m n,_,h=>by obtain⟨p,j,d,s,e,i,f,o⟩:=h;exact⟨p,j,d,s,e,i.mono k,aj.mono k t d f,o⟩
theorem aO.mono {A A':NP}{w:World}(k:∀g,g<w.heap.size->A g->A' g):∀(l:List Tm) (xs:LV),aO w A l xs->aO w A' l xs
 | [],_,h=>h
 |t::l,_,h=>by obtain⟨c,r,e,b,a⟩:=h;exact⟨c,r,e,aj.mono k t c b,aO.mono k l r a⟩
end
theorem aj.below {A:NP}{w w':World}(k:Bw w w')(t:Tm)(c:LV)(h:aj w A t c):aj w' A t c:=aj.keep (ah.below k) t c h
theorem aO.below {A:NP}{w w':World}(k:Bw w w')(l:List Tm)(xs:LV)(h:aO w A l xs):aO w' A l xs:=aO.keep (ah.below k) l xs h
theorem cg.below {A:NP}{w w':World}{lo:OA}{xs:LV}(h:cg w A lo xs)(k:Bw w w'):cg w' A lo xs:=h.keep (ah.below k)
def Tm.kind:Tm->Int
 |.none=>1
 |.empty=>2
 |.set _=>3
 |.row _ _=>4
 |.or _=>5
 |.and _=>6
 |.not _=>7
 |.many _ _ _=>8
theorem aj.form {A:NP}:∀{t:Tm} {c:LV},aj w A t c->∃so sn sc lo ln lc m n s,c=TC t.kind so sn sc lo ln lc m n s/\af s=t.key
 |.none,_,h=>by obtain⟨s,e,a⟩:=h;exact⟨_,_,_,_,_,_,_,_,s,e,a⟩
 |.empty,_,h=>by obtain⟨s,e,a⟩:=h;exact⟨_,_,_,_,_,_,_,_,s,e,a⟩
 |.set _,_,h=>by obtain⟨so,sc,s,e,a,d⟩:=h;exact⟨_,_,_,_,_,_,_,_,s,e,d⟩
 |.row _ _,_,h=>by obtain⟨lo,lc,f,i,s,e,a,d,b,g⟩:=h;exact⟨_,_,_,_,_,_,_,_,s,e,g⟩
 |.or _,_,h=>by obtain⟨lo,lc,f,s,e,a,d,b⟩:=h;exact⟨_,_,_,_,_,_,_,_,s,e,b⟩
 |.and _,_,h=>by obtain⟨lo,lc,f,s,e,a,d,b⟩:=h;exact⟨_,_,_,_,_,_,_,_,s,e,b⟩
 |.not _,_,h=>by obtain⟨lo,lc,f,s,e,a,d,b⟩:=h;exact⟨_,_,_,_,_,_,_,_,s,e,b⟩
 |.many _ _ _,_,h=>by obtain⟨lo,lc,f,s,e,a,d,b⟩:=h;exact⟨_,_,_,_,_,_,_,_,s,e,b⟩
theorem aj.len {A:NP}{t:Tm}{c:LV}(h:aj w A t c):c.length=6:=by
 obtain⟨g,d,e,f,b,a,m,n,s,rfl,_⟩:=h.form;rfl
theorem aO.len {A:NP}{w:World}:∀{l:List Tm} {xs:LV},aO w A l xs->xs.length=6*l.length
 | [],_,h=>by rw[show _=[]from h];rfl
 |t::l,_,h=>by
  obtain⟨c,r,rfl,b,a⟩:=h;rw[zH,b.len,aO.len a,zG];omega
theorem aO.append {A:NP}{w:World}:∀{l m:List Tm} {xs ys:LV},aO w A l xs->aO w A m ys->aO w A (l++m) (xs++ys)
 | [],_,_,_,h,k=>by rw[show _=[]from h];exact k
 |t::l,m,_,ys,h,k=>by
  obtain⟨c,r,rfl,b,a⟩:=h;exact⟨c,r++ys,by rw[zc],b,aO.append a k⟩
theorem aO.one {A:NP}{t:Tm}{c:LV}(h:aj w A t c):aO w A [t] c:=⟨c,[],by simp,h,rfl⟩
theorem aO.at {A:NP}{w:World}:∀{l:List Tm} {xs:LV},aO w A l xs->∀{i:Nat} {t:Tm},l[i]?=some t->∃c,aj w A t c/\∀j,j<6->xs[6*i+j]?=c[j]?
 | [],_,_,i,t,hi=>by simp at hi
 |u::l,_,h,0,t,hi=>by
  obtain⟨c,r,rfl,a,e⟩:=h;simp at hi;subst hi;refine⟨c,a,λj b=>?_⟩;rw[Nat.mul_zero,zf,yY (by rw[a.len];exact b)]
 |u::l,_,h,i+1,t,hi=>by
  obtain⟨c,r,rfl,a,e⟩:=h;obtain⟨d,g,f⟩:=aO.at e (i:=i) (t:=t) (by simpa using hi);refine⟨d,g,λj b=>?_⟩;rw[<-f j b,yk (by rw[a.len];omega),a.len];congr 1;omega
theorem aO.drop {A:NP}{w:World}:∀{l:List Tm} {xs:LV} (i:Nat),aO w A l xs->aO w A (l.drop i) (xs.drop (6*i))
 |l,xs,0,h=>by simpa using h
 | [],_,i+1,h=>by rw[show _=[]from h];simp[aO]
 |t::l,_,i+1,h=>by
  obtain⟨c,r,rfl,a,b⟩:=h;have:=aO.drop i b;have e:(c++r).drop (6*(i+1))=r.drop (6*i):=by
   rw[List.drop_append,List.drop_eq_nil_of_le (by rw[a.len];omega),zd,a.len,show 6*(i+1)-6=6*i by omega]
  rw[e];exact this
theorem aO.take {A:NP}{w:World}:∀{l:List Tm} {xs:LV} (i:Nat),aO w A l xs->aO w A (l.take i) (xs.take (6*i))
 |l,xs,0,h=>by simp[aO]
 | [],_,i+1,h=>by rw[show _=[]from h];simp[aO]
 |t::l,_,i+1,h=>by
  obtain⟨c,r,rfl,a,b⟩:=h;have:=aO.take i b;have e:(c++r).take (6*(i+1))=c++r.take (6*i):=by
   rw[List.take_append,yF (by rw[a.len];omega),a.len,show 6*(i+1)-6=6*i by omega]
  rw[e];exact⟨c,_,rfl,a,this⟩
theorem cg.at {A:NP}{w:World}{lo:OA}{l:List Tm}{xs:LV}(hr:cg w A lo xs)(hl:aO w A l xs){i:Nat}{t:Tm}(hi:l[i]?=some t):∃b off c,lo=some (aD b off)/\A b/\b<w.heap.size/\aj w A t c/\∀j v,c[j]?=some v->w.cell? ⟨b,off+i*6+j,none⟩=some v:=by
 obtain⟨c,g,k⟩:=hl.at hi;have p:∃v,c[0]?=some v:=⟨_,zB (by rw[g.len];decide)⟩;obtain⟨o,d⟩:=p;obtain⟨b,off,e,q,r,_⟩:=hr (6*i+0) o (by rw[k 0 (by decide)];exact d);refine⟨b,off,c,e,q,r,g,λj v m=>?_⟩;have f:j<6:=by have:=(zC.1 m).1;rw[g.len]at this;exact this
 obtain⟨s,h,a,_,_,n⟩:=hr (6*i+j) v (by rw[k j f];exact m);rw[e]at a;injection a with a;injection a with e1 e2;subst e1 e2;rw[show off+i*6+j=off+(6*i+j) by omega];exact n
abbrev TZ:List Value:=[Vi 0,Vz,Vz,Vi 0,Vi 0,.string ⟨#[]⟩]
def UL (w:World)(lo:Option Addr)(ks:List (List UInt8)):Prop:=∀i k,ks[i]?=some k->∃b off s,lo=some (aD b off)/\b<w.heap.size/\w.cell? ⟨b,off+i*6+5,none⟩=some (.string s)/\af s=k
def fM (k m n:Int):List UInt8:=if k=8 then dN m++58::dN n else[]
structure NmI (w:World)(S:Nat)(k:Int)(so:Option Addr)(sn sc:Nat)(lo:Option Addr)(ln lc:Nat)(m n:Int)(u:List UInt8)(wr:World):Prop where
 box:∃s,ag wr S (TC k so sn sc lo ln lc m n s) 58/\af s=u
 res:ag wr (S+1) TZ 58
 bel:Below S w wr
theorem NmI.set {w wr w5:World}{S:Nat}{k:Int}{so:OA}{sn sc:Nat}{lo:OA}{ln lc:Nat}{m n:Int}{s t:ByteArray}(hb:ag wr S (TC k so sn sc lo ln lc m n s) 58)(hr:ag wr (S+1) TZ 58)(hB:Below S w wr)(h5:Bw wr w5):NmI w S k so sn sc lo ln lc m n (af t) (w5.setCell (aD S 5) (.string t)):=by
 have a:=hb.below h5;refine⟨⟨t,a.set 5 _,rfl⟩,?_,?_⟩
 ·exact (hr.below h5).setOther (p:=(aD S 5)) (by show S+1≠S;omega) _
 ·exact (hB.trans (h5.mono (yJ hb.lt))).setCell (p:=(aD S 5)) (zA _) _
theorem rQ {a b:World}(h:Bw a.drew b):Bw a b:=⟨h.os,h.tape,h.output,h.size,h.block⟩
theorem Ng {b0 o1 o2:Nat}{v3:Value}(t:Value)(hb:b0≠S)(h:w'.cell? (aD S 1)=some v1/\w'.cell? (aD b0 o1)=some v2/\w'.cell? (aD b0 o2)=some v3):(w'.setCell (aD S 5) t).cell? (aD S 1)=some v1/\(w'.setCell (aD S 5) t).cell? (aD b0 o1)=some v2/\(w'.setCell (aD S 5) t).cell? (aD b0 o2)=some v3 :=
 ⟨(yy _ _ _ _ (by simp)).trans h.1,(zw _ _ _ _ (λe=>hb e.symm)).trans h.2.1,(zw _ _ _ _ (λe=>hb e.symm)).trans h.2.2⟩
theorem BX {w6:World}{k:Int}{so:OA}{lo:OA}{s5 s6:ByteArray}{q:LQ}{x:Int×Int}(hb:ag wr S (TC k so q.length sc lo ln lc m n s) 58)(hr:ag wr (S+1) TZ 58)(hB:Below S w wr)(h6:Bw wr w6)(hs:af s=dN k++(q.take i).flatMap eJ)(hx:q[i]?=some x)(h5:af s5=dN x.1)(h7:af s6=dN x.2):NmI w S k so q.length sc lo ln lc m n (dN k++(q.take (i+1)).flatMap eJ) (w6.setCell (aD S 5) (.string (s++{ data:=#[44] }++s5++{ data:=#[45] }++s6))):=by
 have h:=NmI.set (t:=s++{ data:=#[44] }++s5++{ data:=#[45] }++s6) hb hr hB h6;have e:af (s++{ data:=#[44] }++s5++{ data:=#[45] }++s6)=dN k++(q.take (i+1)).flatMap eJ:=by
  have b:q.take (i+1)=q.take i++[x]:=by rw[zi,hx];rfl
  have c:af ⟨#[44]⟩=[44]:=rfl;have a:af ⟨#[45]⟩=[45]:=rfl;rw[cy,cy,cy,cy,hs,h5,h7,b,c,a,List.flatMap_append];simp[eJ]
 rw[e]at h;exact h
theorem Yj {b0 o1:Nat}(t:Value)(hb:b0≠S)(h:w'.cell? (aD S 2)=some v1/\w'.cell? (aD b0 o1)=some v2):(w'.setCell (aD S 5) t).cell? (aD S 2)=some v1/\(w'.setCell (aD S 5) t).cell? (aD b0 o1)=some v2 :=
 ⟨(yy _ _ _ _ (by simp)).trans h.1,(zw _ _ _ _ (λe=>hb e.symm)).trans h.2⟩
theorem GQ (t:Value)(h:w'.cell? (aD S 3)=some v1/\w'.cell? (aD S 4)=some v2):(w'.setCell (aD S 5) t).cell? (aD S 3)=some v1/\(w'.setCell (aD S 5) t).cell? (aD S 4)=some v2 :=
 ⟨(yy _ _ _ _ (by simp)).trans h.1,(yy _ _ _ _ (by simp)).trans h.2⟩
theorem Uw {k:Int}{so:OA}{lo:OA}{t:ByteArray}{U:List UInt8}{ks:List (List UInt8)}{x:List UInt8}(hb:ag wr S (TC k so sn sc lo ln lc m n s) 58)(hr:ag wr (S+1) TZ 58)(hB:Below S w wr)(hs:af s=U++(ks.take i).flatMap cU)(hx:ks[i]?=some x)(h5:af t=x):NmI w S k so sn sc lo ln lc m n (U++(ks.take (i+1)).flatMap cU) (wr.drew.setCell (aD S 5) (.string (s++{ data:=#[40] }++t++{ data:=#[41] }))):=by
 have h:=NmI.set (t:=s++{ data:=#[40] }++t++{ data:=#[41] }) (w5:=wr.drew) hb hr hB (zE _ _).drew;have e:af (s++{ data:=#[40] }++t++{ data:=#[41] })=U++(ks.take (i+1)).flatMap cU:=by
  have b:ks.take (i+1)=ks.take i++[x]:=by rw[zi,hx];rfl
  have c:af ⟨#[40]⟩=[40]:=rfl;have a:af ⟨#[41]⟩=[41]:=rfl;rw[cy,cy,cy,hs,h5,b,c,a,List.flatMap_append];simp[cU]
 rw[e]at h;exact h
theorem xj {w6:World}{so:OA}{lo:OA}{s5 s6:ByteArray}{q:LQ}(hb:ag wr S (TC 8 so q.length sc lo ln lc m n s) 58)(hr:ag wr (S+1) TZ 58)(hB:Below S w wr)(h6:Bw wr w6)(hs:af s=dN 8++q.flatMap eJ)(h5:af s5=dN m)(h7:af s6=dN n):NmI w S 8 so q.length sc lo ln lc m n (dN 8++q.flatMap eJ++fM 8 m n) (w6.setCell (aD S 5) (.string (s++s5++{ data:=#[58] }++s6))):=by
 have h:=NmI.set (t:=s++s5++{ data:=#[58] }++s6) hb hr hB h6;have e:af (s++s5++{ data:=#[58] }++s6)=dN 8++q.flatMap eJ++fM 8 m n:=by
  have a:af ⟨#[58]⟩=[58]:=rfl;rw[cy,cy,cy,hs,h5,h7,a];simp[fM]
 rw[e]at h;exact h
theorem QA {ks:List (List UInt8)}{x:List UInt8}(hx:ks[i]?=some x):((ks.take i).flatMap cU).length+x.length+2<=(ks.flatMap cU).length:=by
 have e:ks=ks.take i++x::ks.drop (i+1):=by
  have h:=zC.1 hx;rw[<-h.2,<-yC h.1,zj]
 have a:(ks.flatMap cU).length=((ks.take i++x::ks.drop (i+1)).flatMap cU).length:=by rw[<-e]
 rw[a,List.flatMap_append,yE];simp only[zH,cU,zG,zh];omega
theorem xk:∀{q:LQ},(∀x∈q,x.1<10000000/\x.2<10000000)->(q.flatMap eJ).length<=20*q.length
 | [],_=>by simp
 |x::q,h=>by
  have a:=h x (by simp);have c:=xk (q:=q) (λy b=>h y (by simp[b]));have d:=(jj a.1).2;have e:=(jj a.2).2;simp only[yE,zH,eJ,zG];omega
theorem iu (h:af s=dN n)(hn:n<10000000):s.size<=7:=by
 rw[<-aL,h];exact (jj hn).2
set_option linter.unusedSimpArgs false in
theorem gF (k:Int)(so:OA)(sc:Nat)(q:LQ)(lo:OA)(lc:Nat)(ks:List (List UInt8))(m n:Int)(s0:ByteArray)(w:World)(hk:0<=k/\k<=9)(hq:Rd w so q)(hqb:∀x∈q,x.1<10000000/\x.2<10000000)(hm:m<10000000)(hn:n<10000000)(hL:UL w lo ks)(ht:40+20*q.length+10*ks.length+(ks.flatMap cU).length<=9000000000000000000):Calls prog 33 #[.agg #[.int .i64 k,.slice so q.length sc,.slice lo ks.length lc,.int .i64 m,.int .i64 n,.string s0]] w λe w'=>∃s,e=.returned (.agg #[.int .i64 k,.slice so q.length sc,.slice lo ks.length lc,.int .i64 m,.int .i64 n,.string s])/\af s=dN k++q.flatMap eJ++fM k m n++ks.flatMap cU/\Below w.heap.size w w':=by
 have HQ:=aa hq;have c1:=aa hqb;have HL:=aa hL;have I:=aa (λ(x:Int) (w:World) (h:x<10000000)=>Nt x w h);obtain⟨W0,c4,c7,b4,c8,-⟩:=jK (rfl:w.heap.size=_) (TC k so q.length sc lo ks.length lc m n s0) 58 TZ 58;replace c7:Below _ _ W0:=c7;have c0:W0.cell? ⟨w.heap.size,0,none⟩=some (.int .i64 k):=b4.cell 0;have e3:=b4.lt;have d3:=aa c4;have d7:=aa c7;have b3:=aa b4;have c9:=aa c8;clear hq hqb hL c4 c7 b4 c8;go_enter func33,ntmps33;go_wp2_with fail;rw[d3.out];generalize hS:w.heap.size=S at *;refine (I.out k W0 (by omega)).mono ?_;rintro e w1 ⟨s1,rfl,c6,a6⟩;have d8:Hid (NmI w S k so q.length sc lo ks.length lc m n (af s1) (w1.setCell ⟨S,5,none⟩ (.string s1))):=NmI.set b3.out c9.out d7.out a6;have c5:w1.cell? ⟨S,5,none⟩=some (.string s0):=(b3.out.below a6).cell 5;have f5:=(b3.out.below a6).frozen 5;have e6:=(b3.out.below a6).lt;have e4:=aa c6;clear c6 a6 c0 e3;go_wp2_with fail
 go_loopg [3] q.length (λj iv wr=>∃i:Nat,iv=.int .i64 i/\i<=q.length/\q.length-i<=j/\NmI w S k so q.length sc lo ks.length lc m n (dN k++(q.take i).flatMap eJ) wr)
 case atStart=>exact⟨0,rfl,zW _,zA _,by have:=d8.out;rw[e4.out]at this;simpa using this⟩
 case round=>
  obtain⟨i,rfl,d1,e2,d9⟩:=hrel;obtain⟨⟨s,r,C⟩,L,f⟩:=d9;have b1:wr.cell? ⟨S,1,none⟩=some (.slice so q.length sc):=r.cell 1;have d5:=r.lt;have k0:(0:Int)<=(i:Int):=zK _;by_cases c3:i<q.length
  ·have k1:(i:Int)<(q.length:Int):=by omega
   obtain⟨x,hx⟩:∃x,q[i]?=some x:=⟨_,zB c3⟩;obtain⟨F,u,rfl,b9,y0,y1⟩:=HQ.out i x hx;have W:F<wr.heap.size:=zF b9 f.size;have z0:wr.cell? ⟨F,u+i*2,none⟩=some (.int .i64 x.1):=(f.cell (p:=⟨F,u+i*2,none⟩) (show F<S by omega)).trans y0;have z1:wr.cell? ⟨F,u+i*2+1,none⟩=some (.int .i64 x.2):=(f.cell (p:=⟨F,u+i*2+1,none⟩) (show F<S by omega)).trans y1;obtain⟨a9,Q⟩:=c1.out x (zU hx);have b5:wr.cell? ⟨S,5,none⟩=some (.string s):=r.cell 5;have f5:=r.frozen 5;have b:=aa r;have H:=aa L;have D:=aa f;have E:=aa C;have e0:s.size<=7+20*q.length:=by
    rw[<-aL,C,zH];have h1:=(jj (n:=k) (by omega)).2;have h2:=xk (q:=q.take i) (λy hy=>c1.out y (yi hy));rw[yn]at h2;have:min i q.length<=q.length:=Nat.min_le_right _ _;omega
   have b6:s.size<=9000000000000000000:=by omega
   have d6:¬9223372036854775807<s.size+1:=by omega
   clear e0;have HX:=aa hx;have G:Hid (∀w',Below wr.heap.size wr w'->w'.cell? ⟨S,5,none⟩=some (.string s)/\w'.frozen? ⟨S,5,none⟩=false/\S<w'.heap.size/\(w'.cell? ⟨S,1,none⟩=some (.slice (some ⟨F,u,none⟩) q.length sc)/\w'.cell? ⟨F,u+i*2,none⟩=some (.int .i64 x.1)/\w'.cell? ⟨F,u+i*2+1,none⟩=some (.int .i64 x.2))):=λw' h=>⟨(b.out.below h).cell 5,(b.out.below h).frozen 5,(b.out.below h).lt,(b.out.below h).cell 1,(h.cell (p:=⟨F,u+i*2,none⟩) W).trans z0,(h.cell (p:=⟨F,u+i*2+1,none⟩) W).trans z1⟩;clear r L f C hx y0 y1;go_upto_region 5 with fail;have V:F≠S:=by omega
   refine yW (S:=λw':World=>w'.cell? ⟨S,1,none⟩=some (.slice (some ⟨F,u,none⟩) q.length sc)/\w'.cell? ⟨F,u+i*2,none⟩=some (.int .i64 x.1)/\w'.cell? ⟨F,u+i*2+1,none⟩=some (.int .i64 x.2)) (by kernel_rfl) ⟨b1,z0,z1⟩ (λhHeld=>?_);refine tk 0 ?_;simp only[tS];refine tk 3 ?_;simp only[tS];refine tk 4 ?_;simp only[tS];refine tk 5 ?_;simp only[tS];refine tk 6 ?_;simp only[tS];refine tk 7 ?_;simp only[tS];refine tk 8 ?_;simp only[tS];refine tk 12 ?_;simp only[tS];refine tk 13 ?_;simp only[tS];refine tk 14 ?_;simp only[tS];refine tk 15 ?_;simp only[tS];refine tk 16 ?_;simp only[tS];refine tk 17 ?_;simp only[tS];refine wpAnyH_ready (rs:=[1,9]) (by kernel_rfl) (by simp) ?_;refine yM (o:=_) rfl (λc a=>?_) ?_
   ·go_simp;refine a.out _ _ ⟨b1,z0,z1⟩ (λhHeld=>?_);clear a c
    try simp only[tS]
    refine tk 2 ?_;simp only[tS];refine di 9 (λc a=>?_);go_simp;go_at_call 58;with_reducible refine (I.out x.1 _ a9).mono ?_
    rintro e w5 ⟨O,rfl,B,J⟩;have b8:=iu B a9;have a7:¬9223372036854775807<s.size+1+O.size:=by omega
    have a8:¬9223372036854775807<s.size+1+O.size+1:=by omega
    have g:=aa (rQ J);obtain⟨g5,g4,g6,Z⟩:=G.out w5 g.out;have M:=aa Z;have N:=aa B;clear B J Z;refine a.out _ _ M.out (λhHeld=>?_);clear a c
    try simp only[tS]
    refine tk 10 ?_;simp only[tS];refine tk 11 ?_;simp only[tS];refine di 18 (λc a=>?_);go_simp;go_at_call 58;with_reducible refine (I.out x.2 _ Q).mono ?_
    rintro e R ⟨Y,rfl,d,A⟩;have X:=iu d Q;have T:¬9223372036854775807<s.size+1+O.size+1+Y.size:=by omega
    have z:=aa (g.out.trans (A.mono g.out.size));obtain⟨r5,r4,r6,P⟩:=G.out R z.out;have l:=aa P;have K:=aa d;clear d A P;refine a.out _ _ l.out (λhHeld=>?_);clear a c
    try simp only[tS]
    refine tk 19 ?_;simp only[tS];refine tk 20 ?_;simp only[tS];refine di 21 (λc a=>?_);go_simp;refine a.out _ _ (Ng _ V l.out) (λhHeld=>?_);clear a c
    try simp only[tS]
    refine yV (by kernel_rfl) ?_ _;go_wp2_with fail
    go_roundg (q.length-(i+1))
    case measure=>omega
    exact⟨i+1,by first|rfl|go_num,by omega,by omega,BX b.out H.out D.out z.out E.out HX.out N.out K.out⟩
   ·refine yM (o:=_) rfl (λc a=>?_) xJ;go_simp;go_at_call 58;with_reducible refine (I.out x.1 _ a9).mono ?_
    rintro e w5 ⟨O,rfl,B,J⟩;have b8:=iu B a9;have a7:¬9223372036854775807<s.size+1+O.size:=by omega
    have a8:¬9223372036854775807<s.size+1+O.size+1:=by omega
    have g:=aa (rQ J);obtain⟨g5,g4,g6,Z⟩:=G.out w5 g.out;have M:=aa Z;have N:=aa B;clear B J Z;refine a.out _ _ M.out (λhHeld=>?_);clear a c
    try simp only[tS]
    refine wpAnyH_ready (rs:=[1,18]) (by kernel_rfl) (by simp) ?_;refine yM (o:=_) rfl (λc a=>?_) ?_
    ·go_simp;refine a.out _ _ M.out (λhHeld=>?_);clear a c
     try simp only[tS]
     refine tk 2 ?_;simp only[tS];refine tk 10 ?_;simp only[tS];refine tk 11 ?_;simp only[tS];refine di 18 (λc a=>?_);go_simp;go_at_call 58;with_reducible refine (I.out x.2 _ Q).mono ?_
     rintro e R ⟨Y,rfl,d,A⟩;have X:=iu d Q;have T:¬9223372036854775807<s.size+1+O.size+1+Y.size:=by omega
     have z:=aa (g.out.trans (A.mono g.out.size));obtain⟨r5,r4,r6,P⟩:=G.out R z.out;have l:=aa P;have K:=aa d;clear d A P;refine a.out _ _ l.out (λhHeld=>?_);clear a c
     try simp only[tS]
     refine tk 19 ?_;simp only[tS];refine tk 20 ?_;simp only[tS];refine di 21 (λc a=>?_);go_simp;refine a.out _ _ (Ng _ V l.out) (λhHeld=>?_);clear a c
     try simp only[tS]
     refine yV (by kernel_rfl) ?_ _;go_wp2_with fail
     go_roundg (q.length-(i+1))
     case measure=>omega
     exact⟨i+1,by first|rfl|go_num,by omega,by omega,BX b.out H.out D.out z.out E.out HX.out N.out K.out⟩
    ·refine yM (o:=_) rfl (λc a=>?_) xJ;go_simp;go_at_call 58;with_reducible refine (I.out x.2 _ Q).mono ?_
     rintro e R ⟨Y,rfl,d,A⟩;have X:=iu d Q;have T:¬9223372036854775807<s.size+1+O.size+1+Y.size:=by omega
     have z:=aa (g.out.trans (A.mono g.out.size));obtain⟨r5,r4,r6,P⟩:=G.out R z.out;have l:=aa P;have K:=aa d;clear d A P;refine a.out _ _ l.out (λhHeld=>?_);clear a c
     try simp only[tS]
     refine di 1 (λc a=>?_);go_simp;refine a.out _ _ l.out (λhHeld=>?_);clear a c
     try simp only[tS]
     refine tk 2 ?_;simp only[tS];refine tk 10 ?_;simp only[tS];refine tk 11 ?_;simp only[tS];refine tk 19 ?_;simp only[tS];refine tk 20 ?_;simp only[tS];refine di 21 (λc a=>?_);go_simp;refine a.out _ _ (Ng _ V l.out) (λhHeld=>?_);clear a c
     try simp only[tS]
     refine yV (by kernel_rfl) ?_ _;go_wp2_with fail
     go_roundg (q.length-(i+1))
     case measure=>omega
     exact⟨i+1,by first|rfl|go_num,by omega,by omega,BX b.out H.out D.out z.out E.out HX.out N.out K.out⟩
  ·have k1:decide ((i:Int)<(q.length:Int))=false:=zI (by omega);obtain rfl:i=q.length:=by omega
   rw[zQ]at C;have a0:wr.cell? ⟨S,0,none⟩=some (.int .i64 k):=r.cell 0;obtain⟨U,hU⟩:∃U,dN k++q.flatMap eJ++fM k m n=U:=⟨_,rfl⟩;have d2:Hid (U++ks.flatMap cU=dN k++q.flatMap eJ++fM k m n++ks.flatMap cU):=by show _=_;rw[hU]
   have h1:=(jj (n:=k) (by omega)).2;have h2:=xk c1.out;have e1:Hid (U.length+(ks.flatMap cU).length<=9000000000000000000):=by
    show _<=_
    have h3:=(jj hm).2;have h4:=(jj hn).2;have h5:(fM k m n).length<=16:=by unfold fM;split<;>simp<;>omega
    rw[<-hU,zH,zH];omega
   have b6:s.size<=9000000000000000000:=by
    rw[<-aL,C,zH];omega
   have b:=aa r;have H:=aa L;have D:=aa f;have E:=aa C;clear r L f C h1 h2
   go_upto_if 39 with fail
   go_cut []from 37 to 51 (λwx=>NmI w S k so q.length sc lo ks.length lc m n U wx)
   case first=>
    by_cases c2:k=8
    ·subst c2;have a3:wr.cell? ⟨S,3,none⟩=some (.int .i64 m):=b.out.cell 3;have a4:wr.cell? ⟨S,4,none⟩=some (.int .i64 n):=b.out.cell 4;have b5:wr.cell? ⟨S,5,none⟩=some (.string s):=b.out.cell 5;have f5:=b.out.frozen 5;have G:Hid (∀w',Below wr.heap.size wr w'->w'.cell? ⟨S,5,none⟩=some (.string s)/\w'.frozen? ⟨S,5,none⟩=false/\S<w'.heap.size/\(w'.cell? ⟨S,3,none⟩=some (.int .i64 m)/\w'.cell? ⟨S,4,none⟩=some (.int .i64 n))):=λw' h=>⟨(b.out.below h).cell 5,(b.out.below h).frozen 5,(b.out.below h).lt,(b.out.below h).cell 3,(b.out.below h).cell 4⟩;go_upto_region 7 with fail;refine yW (S:=λw':World=>w'.cell? ⟨S,3,none⟩=some (.int .i64 m)/\w'.cell? ⟨S,4,none⟩=some (.int .i64 n)) (by kernel_rfl) ⟨a3,a4⟩ (λhHeld=>?_);refine tk 0 ?_;simp only[tS];refine tk 2 ?_;simp only[tS];refine tk 3 ?_;simp only[tS];refine tk 7 ?_;simp only[tS];refine tk 8 ?_;simp only[tS];refine wpAnyH_ready (rs:=[1,4]) (by kernel_rfl) (by simp) ?_;refine yM (o:=_) rfl (λc a=>?_) ?_
     ·go_simp;refine a.out _ _ ⟨a3,a4⟩ (λhHeld=>?_);clear a c
      try simp only[tS]
      refine di 4 (λc a=>?_);go_simp;go_at_call 58;with_reducible refine (I.out m _ hm).mono ?_
      rintro e w5 ⟨O,rfl,B,J⟩;have b8:=iu B hm;have a7:¬9223372036854775807<s.size+O.size:=by omega
      have a8:¬9223372036854775807<s.size+O.size+1:=by omega
      have g:=aa (rQ J);obtain⟨g5,g4,g6,Z⟩:=G.out w5 g.out;have M:=aa Z;have N:=aa B;clear B J Z;refine a.out _ _ M.out (λhHeld=>?_);clear a c
      try simp only[tS]
      refine tk 5 ?_;simp only[tS];refine tk 6 ?_;simp only[tS];refine di 9 (λc a=>?_);go_simp;go_at_call 58;with_reducible refine (I.out n _ hn).mono ?_
      rintro e R ⟨Y,rfl,d,A⟩;have X:=iu d hn;have T:¬9223372036854775807<s.size+O.size+1+Y.size:=by omega
      have z:=aa (g.out.trans (A.mono g.out.size));obtain⟨r5,r4,r6,P⟩:=G.out R z.out;have l:=aa P;have K:=aa d;clear d A P;refine a.out _ _ l.out (λhHeld=>?_);clear a c
      try simp only[tS]
      refine tk 10 ?_;simp only[tS];refine tk 11 ?_;simp only[tS];refine di 12 (λc a=>?_);go_simp;refine a.out _ _ (GQ _ l.out) (λhHeld=>?_);clear a c
      try simp only[tS]
      refine yV (by kernel_rfl) ?_ _;go_wp2_with fail
      go_meet
      rw[<-hU];exact xj b.out H.out D.out z.out E.out N.out K.out
     ·refine yM (o:=_) rfl (λc a=>?_) xJ;go_simp;go_at_call 58;with_reducible refine (I.out m _ hm).mono ?_
      rintro e w5 ⟨O,rfl,B,J⟩;have b8:=iu B hm;have a7:¬9223372036854775807<s.size+O.size:=by omega
      have a8:¬9223372036854775807<s.size+O.size+1:=by omega
      have g:=aa (rQ J);obtain⟨g5,g4,g6,Z⟩:=G.out w5 g.out;have M:=aa Z;have N:=aa B;clear B J Z;refine a.out _ _ M.out (λhHeld=>?_);clear a c
      try simp only[tS]
      refine wpAnyH_ready (rs:=[1,9]) (by kernel_rfl) (by simp) ?_;refine yM (o:=_) rfl (λc a=>?_) ?_
      ·go_simp;refine a.out _ _ M.out (λhHeld=>?_);clear a c
       try simp only[tS]
       refine tk 5 ?_;simp only[tS];refine tk 6 ?_;simp only[tS];refine di 9 (λc a=>?_);go_simp;go_at_call 58;with_reducible refine (I.out n _ hn).mono ?_
       rintro e R ⟨Y,rfl,d,A⟩;have X:=iu d hn;have T:¬9223372036854775807<s.size+O.size+1+Y.size:=by omega
       have z:=aa (g.out.trans (A.mono g.out.size));obtain⟨r5,r4,r6,P⟩:=G.out R z.out;have l:=aa P;have K:=aa d;clear d A P;refine a.out _ _ l.out (λhHeld=>?_);clear a c
       try simp only[tS]
       refine tk 10 ?_;simp only[tS];refine tk 11 ?_;simp only[tS];refine di 12 (λc a=>?_);go_simp;refine a.out _ _ (GQ _ l.out) (λhHeld=>?_);clear a c
       try simp only[tS]
       refine yV (by kernel_rfl) ?_ _;go_wp2_with fail
       go_meet
       rw[<-hU];exact xj b.out H.out D.out z.out E.out N.out K.out
      ·refine yM (o:=_) rfl (λc a=>?_) xJ;go_simp;go_at_call 58;with_reducible refine (I.out n _ hn).mono ?_
       rintro e R ⟨Y,rfl,d,A⟩;have X:=iu d hn;have T:¬9223372036854775807<s.size+O.size+1+Y.size:=by omega
       have z:=aa (g.out.trans (A.mono g.out.size));obtain⟨r5,r4,r6,P⟩:=G.out R z.out;have l:=aa P;have K:=aa d;clear d A P;refine a.out _ _ l.out (λhHeld=>?_);clear a c
       try simp only[tS]
       refine di 1 (λc a=>?_);go_simp;refine a.out _ _ l.out (λhHeld=>?_);clear a c
       try simp only[tS]
       refine tk 5 ?_;simp only[tS];refine tk 6 ?_;simp only[tS];refine tk 10 ?_;simp only[tS];refine tk 11 ?_;simp only[tS];refine di 12 (λc a=>?_);go_simp;refine a.out _ _ (GQ _ l.out) (λhHeld=>?_);clear a c
       try simp only[tS]
       refine yV (by kernel_rfl) ?_ _;go_wp2_with fail
       go_meet
       rw[<-hU];exact xj b.out H.out D.out z.out E.out N.out K.out
    ·have k8:(k==8)=false:=zD.2 c2;go_wp2_with fail
     go_meet
     exact⟨⟨s,b.out,by rw[E.out,<-hU];unfold fM;rw[zR c2,zx]⟩,H.out,D.out⟩
   case rest=>
    have HU:=aa hcut;clear hcut a0 hU b H D E b6;go_wp2_with fail
    go_loopg [4] ks.length (λj iv wr=>∃i:Nat,iv=.int .i64 i/\i<=ks.length/\ks.length-i<=j/\NmI w S k so q.length sc lo ks.length lc m n (U++(ks.take i).flatMap cU) wr)
    case atStart=>exact⟨0,rfl,zW _,zA _,by simpa using HU.out⟩
    case round=>
     obtain⟨i,rfl,d1,e2,⟨⟨s,r,C⟩,L,f⟩⟩:=hrel;have b2:wr.cell? ⟨S,2,none⟩=some (.slice lo ks.length lc):=r.cell 2;have d5:=r.lt;have k0:(0:Int)<=(i:Int):=zK _;by_cases c3:i<ks.length
     ·have k1:(i:Int)<(ks.length:Int):=by omega
      obtain⟨x,hx⟩:∃x,ks[i]?=some x:=⟨_,zB c3⟩;obtain⟨F,u,t,rfl,b9,y0,b7⟩:=HL.out i x hx;have W:F<wr.heap.size:=zF b9 f.size;have z0:wr.cell? ⟨F,u+i*6+5,none⟩=some (.string t):=(f.cell (p:=⟨F,u+i*6+5,none⟩) (show F<S by omega)).trans y0;have b5:wr.cell? ⟨S,5,none⟩=some (.string s):=r.cell 5;have f5:=r.frozen 5;have d0:s.size+t.size+2<=9000000000000000000:=by
       have h1:=QA hx;have h2:=congrArg List.length C;rw[aL,zH]at h2;have h3:=congrArg List.length b7;rw[aL]at h3;have h4:=e1.out;omega
      have d6:¬9223372036854775807<s.size+1:=by omega
      have a7:¬9223372036854775807<s.size+1+t.size:=by omega
      have a8:¬9223372036854775807<s.size+1+t.size+1:=by omega
      have V:F≠S:=by omega
      have b:=aa r;have H:=aa L;have D:=aa f;have E:=aa C;have HX:=aa hx;have e5:=aa b7;clear r L f C hx y0 b7 d0;go_upto_region 11 with fail;refine yW (S:=λw':World=>w'.cell? ⟨S,2,none⟩=some (.slice (some ⟨F,u,none⟩) ks.length lc)/\w'.cell? ⟨F,u+i*6+5,none⟩=some (.string t)) (by kernel_rfl) ⟨b2,z0⟩ (λhHeld=>?_);refine tk 0 ?_;simp only[tS];refine tk 3 ?_;simp only[tS];refine tk 4 ?_;simp only[tS];refine tk 5 ?_;simp only[tS];refine tk 6 ?_;simp only[tS];refine tk 7 ?_;simp only[tS];refine tk 8 ?_;simp only[tS];refine di 1 (λc a=>?_);go_simp;refine a.out _ _ ⟨b2,z0⟩ (λhHeld=>?_);clear a c
      try simp only[tS]
      refine tk 2 ?_;simp only[tS];refine tk 9 ?_;simp only[tS];refine tk 10 ?_;simp only[tS];refine tk 11 ?_;simp only[tS];refine di 12 (λc a=>?_);go_simp;refine a.out _ _ (Yj _ V ⟨b2,z0⟩) (λhHeld=>?_);clear a c
      try simp only[tS]
      refine yV (by kernel_rfl) ?_ _;go_wp2_with fail
      go_roundg (ks.length-(i+1))
      case measure=>omega
      exact⟨i+1,by first|rfl|go_num,by omega,by omega,Uw b.out H.out D.out E.out HX.out e5.out⟩
     ·have k1:decide ((i:Int)<(ks.length:Int))=false:=zI (by omega);obtain rfl:i=ks.length:=by omega
      rw[zQ]at C;obtain⟨a0,a1,a2,a3,a4,a5⟩:=r.six;obtain⟨r0,r1,r2,r3,r4,r5⟩:=L.six;obtain⟨f0,f1,f2,f3,f4,f5,d4⟩:=L.ice;have D:=aa f;have E:=aa C;clear r L f C;go_wp2_with fail;refine zN (v:=.agg #[.int .i64 k,.slice so q.length sc,.slice lo ks.length lc,.int .i64 m,.int .i64 n,.string s]) (by simp[results,results33,go_sem,r0,r1,r2,r3,r4,r5,d4]) rfl ⟨s,rfl,by rw[E.out,d2.out],?_⟩;rw[hS];exact (((((D.out.setCell (p:=⟨S+1,0,none⟩) (yN _) _).setCell (p:=⟨S+1,1,none⟩) (yN _) _).setCell (p:=⟨S+1,2,none⟩) (yN _) _).setCell (p:=⟨S+1,3,none⟩) (yN _) _).setCell (p:=⟨S+1,4,none⟩) (yN _) _).setCell (p:=⟨S+1,5,none⟩) (yN _) _
def eH (w:World)(A:Nat->Prop)(P:Tm->Prop)(e:Ending)(w':World):Prop:=∃t so sn sc lo ln lc m n s,e=.returned (.agg #[Vi (Tm.kind t),.slice so sn sc,.slice lo ln lc,Vi m,Vi n,.string s])/\aj w' (λg=>A g\/w.heap.size<g) t (TC t.kind so sn sc lo ln lc m n s)/\P t/\Below w.heap.size w w'
theorem kt (h0:0<=n)(h1:n<10):dN n=[(48+n.toNat).toUInt8]:=by
 unfold dN;rw[zR (by omega),eI,zX (by omega)]
theorem iV (h:Below S w W)(a b c d e f:Value):Below S w ((((((W.setCell (aD S 0) a).setCell (aD S 1) b).setCell (aD S 2) c).setCell (aD S 3) d).setCell (aD S 4) e).setCell (aD S 5) f) :=
 (((((h.setCell (p:=(aD S 0)) (zA _) _).setCell (p:=(aD S 1)) (zA _) _).setCell (p:=(aD S 2)) (zA _) _).setCell (p:=(aD S 3)) (zA _) _).setCell (p:=(aD S 4)) (zA _) _).setCell (p:=(aD S 5)) (zA _) _
theorem nP (w:World)(xs:LV)(T:TypeId):cg (w.alloc (.cells xs.toArray T)) (λg=>w.heap.size<=g) (some (aD w.heap.size 0)) xs:=λj v a=>by
 have h:=ag.new w xs T;refine⟨w.heap.size,0,rfl,zA _,h.lt,?_⟩;rw[zf,h.cell];exact a
theorem nQ {A:NP}{lo:OA}{l:List Tm}{xs:LV}(hr:cg w A lo xs)(hl:aO w A l xs):UL w lo (l.map Tm.key):=λi k d=>by
 rw[zg]at d;obtain⟨t,o,rfl⟩:=Option.map_eq_some_iff.1 d;obtain⟨b,a,c,e,_,p,j,h⟩:=hr.at hl o;obtain⟨r,q,x,g,u,v,m,n,s,rfl,f⟩:=j.form;exact⟨b,a,s,e,p,h 5 _ rfl,f⟩
theorem rf:∀l:List Tm,(l.map Tm.key).flatMap cU=ju l
 | []=>rfl
 |t::l=>by simp only[zp,yE,ju,rf l]
structure Gd (L:Lg)(z k:Nat)(t:Tm):Prop where
 ok:t.Ok
 lg:t.L=L
 z:t.z<=z
 tl:t.tl<=k
theorem CJ {A:NP}{lo:OA}{t:Tm}{c:LV}(s0:ByteArray)(hr:cg w A lo c)(hv:aj w A t c)(hok:t.Ok)(htl:t.tl<=8000000000000000000):Calls prog 33 #[.agg #[Vi 7,Vz,.slice lo 1 lc,Vi 0,Vi 0,.string s0]] w λe w'=>∃s,e=.returned (.agg #[Vi 7,Vz,.slice lo 1 lc,Vi 0,Vi 0,.string s])/\aj w' A (.not t) (TC 7 none 0 0 lo 1 lc 0 0 s)/\Bw w w':=by
 have g:=ik hok;have f:=gF 7 none 0 [] lo lc ([t].map Tm.key) 0 0 s0 w (by decide) (λi x b=>by simp at b) (λx b=>by simp at b) (by decide) (by decide) (nQ hr (aO.one hv)) (by simp[cU];omega);refine f.mono ?_;rintro e w' ⟨s,rfl,d,a⟩;refine⟨s,rfl,⟨lo,lc,c,s,rfl,hr.below a,aj.below a _ _ hv,?_⟩,a⟩;rw[d,kt (by decide) (by decide)];simp[fM,Tm.key]
theorem Mg {A:NP}{lo:OA}{t:Tm}{c:LV}(m n:Int)(s0:ByteArray)(hr:cg w A lo c)(hv:aj w A t c)(hok:t.Ok)(hm:m<=5)(hn:n<=5)(htl:t.tl<=8000000000000000000):Calls prog 33 #[.agg #[Vi 8,Vz,.slice lo 1 lc,Vi m,Vi n,.string s0]] w λe w'=>∃s,e=.returned (.agg #[Vi 8,Vz,.slice lo 1 lc,Vi m,Vi n,.string s])/\aj w' A (.many t m n) (TC 8 none 0 0 lo 1 lc m n s)/\Bw w w':=by
 have g:=ik hok;have f:=gF 8 none 0 [] lo lc ([t].map Tm.key) m n s0 w (by decide) (λi x b=>by simp at b) (λx b=>by simp at b) (by omega) (by omega) (nQ hr (aO.one hv)) (by simp[cU];omega);refine f.mono ?_;rintro e w' ⟨s,rfl,d,a⟩;refine⟨s,rfl,⟨lo,lc,c,s,rfl,hr.below a,aj.below a _ _ hv,?_⟩,a⟩;rw[d,kt (n:=8) (by decide) (by decide)];simp[fM,Tm.key]
theorem Ps {A:NP}{lo:OA}{a b:Tm}{c d:LV}(s0:ByteArray)(hr:cg w A lo (c++d))(hv:aj w A a c)(hu:aj w A b d)(ha:a.Ok)(hb:b.Ok)(htl:a.tl+b.tl<=8000000000000000000):Calls prog 33 #[.agg #[Vi 4,Vz,.slice lo 2 lc,Vi 0,Vi 0,.string s0]] w λe w'=>∃s,e=.returned (.agg #[Vi 4,Vz,.slice lo 2 lc,Vi 0,Vi 0,.string s])/\aj w' A (.row a b) (TC 4 none 0 0 lo 2 lc 0 0 s)/\Bw w w':=by
 have l:=ik ha;have j:=ik hb;have k:=gF 4 none 0 [] lo lc ([a,b].map Tm.key) 0 0 s0 w (by decide) (λi x g=>by simp at g) (λx g=>by simp at g) (by decide) (by decide) (nQ hr ((aO.one hv).append (aO.one hu))) (by simp[cU];omega);refine k.mono ?_;rintro e w' ⟨s,rfl,h,f⟩;refine⟨s,rfl,⟨lo,lc,c,d,s,rfl,hr.below f,aj.below f _ _ hv,aj.below f _ _ hu,?_⟩,f⟩;rw[h,kt (by decide) (by decide)];simp[fM,Tm.key]
theorem Pt {A:NP}{so:OA}{q:LQ}(s0:ByteArray)(hq:lh w A so q)(hc:PCanon q)(hl:q.length<=100000):Calls prog 33 #[.agg #[Vi 3,.slice so q.length sc,Vz,Vi 0,Vi 0,.string s0]] w λe w'=>∃s,e=.returned (.agg #[Vi 3,.slice so q.length sc,Vz,Vi 0,Vi 0,.string s])/\aj w' A (.set q) (TC 3 so q.length sc none 0 0 0 0 s)/\Bw w w':=by
 have d:=gF 3 so sc q none 0 [] 0 0 s0 w (by decide) hq.rd (λx a=>by have:=hc.1 x a;unfold PGood at this;exact⟨by omega,by omega⟩) (by decide) (by decide) (λi x a=>by simp at a) (by simp;omega);refine d.mono ?_;rintro e w' ⟨s,rfl,c,b⟩;refine⟨s,rfl,⟨so,sc,s,rfl,hq.keep (ah.below b),?_⟩,b⟩;rw[c,kt (by decide) (by decide)];simp[fM,Tm.key]
theorem fG (w:World):Calls prog 18 #[] w (eH w (λ_=>False) (λt=>t=.none)):=by
 obtain⟨o,d,h,c,-⟩:=dS (rfl:w.heap.size=_) TZ 58;replace h:Below _ _ o:=h;have r:=aa (gF 1 none 0 [] none 0 [] 0 0 ⟨#[]⟩ o (by decide) (λi x g=>by simp at g) (λx g=>by simp at g) (by decide) (by decide) (λi x g=>by simp at g) (by simp));have l:=aa d;have j:=aa h;have f:=aa c;clear d h c;go_enter func18,ntmps18;go_wp2_with fail;rw[l.out];generalize hS:w.heap.size=S at *;refine r.mono ?_;rintro e u ⟨s,rfl,m,a⟩;have b:=f.below a;obtain⟨p,n,A,C,z,y⟩:=b.six;obtain⟨F,E,G,D,I,H,B⟩:=b.ice;have k:Hid (Below S w u):=j.trans (a.mono (yJ f.lt));have q:=aa m;clear m a b;go_wp2_with fail;refine zN (v:=.agg #[Vi 1,Vz,Vz,Vi 0,Vi 0,.string s]) (by simp[results,results18,go_sem,p,n,A,C,z,y]) rfl ⟨.none,none,0,0,none,0,0,0,0,s,rfl,⟨s,rfl,?_⟩,rfl,?_⟩
 ·rw[q.out,kt (by decide) (by decide)];simp[fM,Tm.key]
 ·rw[hS];exact iV k _ _ _ _ _ _
theorem rh (w:World):Calls prog 37 #[] w (eH w (λ_=>False) (λt=>t=.empty)):=by
 obtain⟨o,d,h,c,-⟩:=dS (rfl:w.heap.size=_) TZ 58;replace h:Below _ _ o:=h;have r:=aa (gF 2 none 0 [] none 0 [] 0 0 ⟨#[]⟩ o (by decide) (λi x g=>by simp at g) (λx g=>by simp at g) (by decide) (by decide) (λi x g=>by simp at g) (by simp));have l:=aa d;have j:=aa h;have f:=aa c;clear d h c;go_enter func37,ntmps37;go_wp2_with fail;rw[l.out];generalize hS:w.heap.size=S at *;refine r.mono ?_;rintro e u ⟨s,rfl,m,a⟩;have b:=f.below a;obtain⟨p,n,A,C,z,y⟩:=b.six;obtain⟨F,E,G,D,I,H,B⟩:=b.ice;have k:Hid (Below S w u):=j.trans (a.mono (yJ f.lt));have q:=aa m;clear m a b;go_wp2_with fail;refine zN (v:=.agg #[Vi 2,Vz,Vz,Vi 0,Vi 0,.string s]) (by simp[results,results37,go_sem,p,n,A,C,z,y]) rfl ⟨.empty,none,0,0,none,0,0,0,0,s,rfl,⟨s,rfl,?_⟩,rfl,?_⟩
 ·rw[q.out,kt (by decide) (by decide)];simp[fM,Tm.key]
 ·rw[hS];exact iV k _ _ _ _ _ _
theorem dP {A:NP}{t:Tm}{cs:LV}(h:aj W (λg=>A g\/S<g) t cs)(hA:∀g,A g->g<S)(a b c d e f:Value):aj ((((((W.setCell (aD S 0) a).setCell (aD S 1) b).setCell (aD S 2) c).setCell (aD S 3) d).setCell (aD S 4) e).setCell (aD S 5) f) (λg=>A g\/S<g) t cs:=by
 have i:¬(A S\/S<S):=λh=>by rcases h with h|h;exact Nat.lt_irrefl _ (hA S h);exact Nat.lt_irrefl _ h
 have k:∀(V:World) (o:Nat) (v:Value),ah (λg=>A g\/S<g) V (V.setCell (aD S o) v):=λV o v=>ah.set v i;exact aj.keep ((((((k _ _ _).trans (k _ _ _)).trans (k _ _ _)).trans (k _ _ _)).trans (k _ _ _)).trans (k _ _ _)) t cs h
theorem bC (h:Below S w W)(a b c d e f:Value):Below S w ((((((W.setCell (aD (S+1) 0) a).setCell (aD (S+1) 1) b).setCell (aD (S+1) 2) c).setCell (aD (S+1) 3) d).setCell (aD (S+1) 4) e).setCell (aD (S+1) 5) f) :=
 (((((h.setCell (p:=(aD (S+1) 0)) (yN _) _).setCell (p:=(aD (S+1) 1)) (yN _) _).setCell (p:=(aD (S+1) 2)) (yN _) _).setCell (p:=(aD (S+1) 3)) (yN _) _).setCell (p:=(aD (S+1) 4)) (yN _) _).setCell (p:=(aD (S+1) 5)) (yN _) _
theorem Gg (w:World):Calls prog 59 #[] w (eH w (λ_=>False) (λt=>t=.not .none)):=by
 obtain⟨U,y,r,u,-⟩:=dS (rfl:w.heap.size=_) TZ 58;replace r:Below _ _ U:=r;have N:=aa (fG U);have G:=aa y;have I:=aa r;have b:=aa u;clear y r u;go_enter func59,ntmps59;go_wp2_with fail;rw[G.out];generalize hS:w.heap.size=S at *;refine N.mono ?_;rintro e k ⟨t,C,B,z,A,D,lc,m,n,s,rfl,E,rfl,a⟩;simp only[Tm.kind]at E ⊢;obtain⟨L,j,d,-,-⟩:=dS (rfl:k.heap.size=_) [Vi 1,.slice C B z,.slice A D lc,Vi m,Vi n,.string s] 58;replace d:Below _ _ L:=d;have H:S<k.heap.size:=(b.below a).lt;have f:cg L (λg=>False\/S<g) (some (aD k.heap.size 0)) (TC 1 C B z A D lc m n s):=by rw[<-j];exact (nP k (TC 1 C B z A D lc m n s) 58).mono λg _ l=>.inr (by omega)
 have o:aj L (λg=>False\/S<g) .none (TC 1 C B z A D lc m n s):=aj.mono (λg _ l=>by rcases l with l|l;exact l.elim;exact .inr (by have:=b.lt;omega)) _ _ (aj.below d _ _ E);have q:=aa (CJ (lc:=1) ⟨#[]⟩ f o trivial (by decide));have F:Hid (Below S w L):=(I.trans (a.mono (yJ b.lt))).trans (d.mono (yJ (b.below a).lt));have x:=aa ((b.below a).below d);have K:=aa j;clear a E j d f o H N;go_wp2_with fail;rw[K.out];refine q.mono ?_;rintro e O ⟨P,rfl,p,i⟩;have c:=x.below i;obtain⟨T,R,Q,X,Y,Z⟩:=c.six;obtain⟨f0,f1,f2,f3,f4,f5,V⟩:=c.ice;have J:Hid (Below S w O):=F.trans (i.mono (yJ x.lt));have M:=aa p;have W:Hid (S<O.heap.size):=c.lt;clear p i c q;go_wp2_with fail;refine zN (v:=.agg #[Vi 7,Vz,Vs k.heap.size 1 1,Vi 0,Vi 0,.string P]) (by simp[results,results59,go_sem,T,R,Q,X,Y,Z]) rfl ⟨.not .none,none,0,0,some (aD k.heap.size 0),1,1,0,0,P,rfl,?_,rfl,?_⟩
 ·rw[hS];exact dP M (λ_ h=>h.elim) _ _ _ _ _ _
 ·rw[hS];exact iV J _ _ _ _ _ _
theorem TB {A:NP}{t:Tm}{K:Int}{so:OA}{lo:OA}(hA:∀g,A g->g<w.heap.size)(h7:K≠7)(hv:aj w A t (TC K so sn sc lo ln lc m n s))(hok:t.Ok)(htl:t.tl<=8000000000000000000):Calls prog 35 #[.agg #[.int .i64 K,.slice so sn sc,.slice lo ln lc,.int .i64 m,.int .i64 n,.string s]] w (eH w A (λu=>u=.not t)):=by
 obtain⟨o,l,a,k,x,-⟩:=jK (rfl:w.heap.size=_) (TC K so sn sc lo ln lc m n s) 58 TZ 58;replace a:Below _ _ o:=a;obtain⟨a0,a1,W,a3,Z,Y⟩:=k.six;have Q:=k.lt;have k7:(K==7)=false:=zD.2 h7;obtain⟨F,i,b,-,-⟩:=dS (rfl:o.heap.size=_) [.int .i64 K,.slice so sn sc,.slice lo ln lc,.int .i64 m,.int .i64 n,.string s] 58;replace b:Below _ _ F:=b;have B:o.heap.size=w.heap.size+2:=by rw[<-l];simp
 have c:cg F (λg=>A g\/w.heap.size+1<g) (some ⟨o.heap.size,0,none⟩) (TC K so sn sc lo ln lc m n s):=by rw[<-i];exact (nP o (TC K so sn sc lo ln lc m n s) 58).mono λg _ d=>.inr (by omega)
 have p:aj F (λg=>A g\/w.heap.size+1<g) t (TC K so sn sc lo ln lc m n s):=aj.mono (λg _ d=>.inl d) _ _ (aj.below b _ _ (aj.below a _ _ hv));have r:=aa (CJ (lc:=1) ⟨#[]⟩ c p hok htl);have z:Hid (Below w.heap.size w F):=a.trans (b.mono a.size);have y:=aa (x.below b);have E:=aa i;have C:=aa l;have M:=aa hA;clear hv i b c p l a k x hA B;go_enter func35,ntmps35;go_upto_region 1 with fail;rw[C.out];generalize hS:w.heap.size=S at *;go_wp2_with fail;rw[E.out];refine r.mono ?_;rintro e P ⟨H,rfl,q,f⟩;have j:=y.below f;obtain⟨L,J,I,O,R,T⟩:=j.six;obtain⟨U,f1,f2,f3,X,V,N⟩:=j.ice;have D:Hid (Below S w P):=z.trans (f.mono (by have:=y.lt;omega));have G:=aa q;clear q f j r;go_wp2_with fail;refine zN (v:=.agg #[.int .i64 7,.slice none 0 0,.slice (some ⟨o.heap.size,0,none⟩) 1 1,.int .i64 0,.int .i64 0,.string H]) (by simp[results,results35,go_sem,L,J,I,O,R,T]) rfl ⟨.not t,none,0,0,some ⟨o.heap.size,0,none⟩,1,1,0,0,H,rfl,?_,rfl,?_⟩
 ·rw[hS];exact aj.mono (λg _ d=>by rcases d with d|d;exact .inl d;exact .inr (by omega)) _ _ (dP G (λg h=>by have:=M.out g h;omega) _ _ _ _ _ _)
 ·rw[hS];exact bC D _ _ _ _ _ _
theorem WC {A:NP}{t:Tm}{so:OA}{lo:OA}(hA:∀g,A g->g<w.heap.size)(hv:aj w A (.not t) (TC 7 so sn sc lo ln lc m n s)):Calls prog 35 #[.agg #[Vi 7,.slice so sn sc,.slice lo ln lc,Vi m,Vi n,.string s]] w (eH w A (λu=>u=t)):=by
 obtain⟨T,a3,xs,s',e,c,G,_⟩:=hv;simp only[TC,zT,zm,zu,yc,yB,yK]at e;obtain⟨⟨rfl,rfl,rfl⟩,⟨rfl,rfl,rfl⟩,rfl,rfl,rfl⟩:=e;obtain⟨p,f,r,o,i,k,F,E,C,rfl,_⟩:=G.form;obtain⟨b,l,rfl,W,K,U⟩:=c 0 _ rfl;have J:∀j v,(TC t.kind p f r o i k F E C)[j]?=some v->w.cell? ⟨b,l+j,none⟩=some v:=λj v L=>by
  obtain⟨b',I,H,_,_,Z⟩:=c j v L;injection H with H;injection H with e1 e2;subst e1 e2;exact Z
 obtain⟨z,y,a,d,q,-⟩:=jK (rfl:w.heap.size=_) (TC 7 none 0 0 (some (aD b l)) 1 lc 0 0 s) 58 TZ 58;replace a:Below _ _ z:=a;have a0:z.cell? (aD w.heap.size 0)=some (Vi 7):=d.cell 0;have a2:z.cell? (aD w.heap.size 2)=some (.slice (some (aD b l)) 1 lc):=d.cell 2;have X:=d.lt;have a1:b<z.heap.size:=zF K a.size;obtain⟨y0,y1,y2,y3,y4,y5⟩:=oT a K J;have Q:=aa (aj.below a _ _ G);have D:=aa a;obtain⟨O,N,M,V,Y,r5⟩:=q.six;obtain⟨f0,f1,f2,f3,f4,f5,R⟩:=q.ice;have B:=aa y;have P:=aa hA;clear y a d q hA G c U J;go_enter func35,ntmps35;go_upto_region 1 with fail;rw[B.out];generalize hS:w.heap.size=S at *;go_wp2_with fail;refine zN (v:=.agg #[Vi t.kind,.slice p f r,.slice o i k,Vi F,Vi E,.string C]) (by simp[results,results35,go_sem,O,N,M,V,Y,r5]) rfl ⟨t,p,f,r,o,i,k,F,E,C,rfl,?_,rfl,?_⟩
 ·rw[hS];exact aj.mono (λg _ x=>by rcases x with x|x;exact .inl x;exact .inr (by omega)) _ _ (dP (S:=S+1) (aj.mono (λg _ x=>.inl x) _ _ Q) (λg h=>by have:=P.out g h;omega) _ _ _ _ _ _)
 ·rw[hS];exact bC D _ _ _ _ _ _
theorem Ki {A:NP}{t:Tm}{so:OA}{lo:OA}(hA:∀g,A g->g<w.heap.size)(hv:aj w A t (TC t.kind so sn sc lo ln lc m n s))(hok:t.Ok)(htl:t.tl<=8000000000000000000):Calls prog 35 #[.agg #[Vi t.kind,.slice so sn sc,.slice lo ln lc,Vi m,Vi n,.string s]] w (eH w A (Gd (fZ t.L) t.z (t.tl+12))):=by
 by_cases p:∃u,t=.not u
 ·obtain⟨u,rfl⟩:=p;refine (WC hA hv).mono ?_;rintro e q ⟨v,a,d,f,c,b,h,j,o,k,rfl,i,rfl,l⟩;refine⟨v,a,d,f,c,b,h,j,o,k,rfl,i,⟨hok,?_,zA _,?_⟩,l⟩
  ·rw[Tm.L_not,Go.Proofs.YtebnghmioamheaaGreatDoor.not_not]
  ·show v.tl<=v.tl+12+12
   omega
 ·refine (TB hA (by cases t<;>first|(simp[Tm.kind];done)|exact absurd ⟨_,rfl⟩ p) hv hok htl).mono ?_;rintro e q ⟨v,a,d,f,c,b,h,j,o,k,rfl,i,rfl,l⟩;exact⟨.not t,a,d,f,c,b,h,j,o,k,rfl,i,⟨hok,Tm.L_not t,zA _,zA _⟩,l⟩
