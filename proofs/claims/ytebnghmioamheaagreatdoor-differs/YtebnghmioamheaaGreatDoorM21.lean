import Derived.Test.YtebnghmioamheaaGreatDoorM13
import Derived.Test.YtebnghmioamheaaGreatDoorM19
import Derived.Test.YtebnghmioamheaaGreatDoorM20
set_option linter.all false
namespace Go.Proofs.YtebnghmioamheaaGreatDoor
open Go.RowKit Brm Tryz
variable {w w' a:World}{p:Addr}{b k i n j:Nat}{T:TypeId}{xs:LV}{f g:Nat->Bool}{v0 v1:Value}{l:LZ}{bs:List UInt8}
structure KR (R:Nat->Prop)(w w':World):Prop where
 os:w'.os=w.os
 tape:w'.tape=w.tape
 output:w'.output=w.output
 size:w.heap.size<=w'.heap.size
 block:∀k,k<w.heap.size->¬R k->w'.heap[k]?=w.heap[k]?
theorem KR.refl (R:NP)(w:World):KR R w w:=⟨rfl,rfl,rfl,zA _,λ_ _ _=>rfl⟩
theorem KR.trans {R:NP}{a b c:World}(h:KR R a b)(k:KR R b c):KR R a c :=
 ⟨k.os.trans h.os,k.tape.trans h.tape,k.output.trans h.output,zJ h.size k.size,λi e d=>(k.block i (zF e h.size) d).trans (h.block i e d)⟩
theorem KR.below {R:NP}(h:Bw w w'):KR R w w':=⟨h.os,h.tape,h.output,h.size,λk a _=>h.block k a⟩
theorem KR.drew {R:NP}{a w:World}(h:KR R a w):KR R a w.drew:=⟨h.os,h.tape,h.output,h.size,h.block⟩
theorem KR.alloc {R:NP}{a w:World}(h:KR R a w)(o:Obj):KR R a (w.alloc o):=h.trans ⟨rfl,rfl,rfl,by simp,λk b _=>zS _ _ _ b⟩
theorem KR.set {R:NP}(h:KR R a w)(hp:R p.block)(u:Value):KR R a (w.setCell p u):=h.trans ⟨rfl,rfl,rfl,by simp[World.setCell],λk _ b=>zk _ _ _ _ (λe=>b (e▸hp))⟩
theorem KR.cell {R:NP}{w w':World}(h:KR R w w'){p:Addr}(hp:p.block<w.heap.size)(hne:¬R p.block):w'.cell? p=w.cell? p:=zP (w:=w) (h.block p.block hp hne)
theorem KR.keeps {R A:NP}(h:KR R w w')(ha:∀g,A g->¬R g):ah A w w':=⟨h.size,λk a b=>h.block k a (ha k b)⟩
theorem ag.kr {R:NP}{cs:LV}(h:ag w b cs T)(k:KR R w w')(hr:¬R b):ag w' b cs T:=(k.block b h.lt hr).trans h
theorem nh {v:Value}(h:w.cell? p=some v):p.block<w.heap.size:=by
 apply Nat.lt_of_not_le;intro a;have:w.heap[p.block]?=none:=xI a;simp[World.cell?,this]at h
structure Cx where
 L:List Pat
 l:List Int
 bt:Nat
 kb:Nat
 rb:Nat->Nat
 ao:Option Addr
 rc:Nat
 gv:Value
 cap:Nat
def Cx.R (c:Cx)(g:Nat):Prop:=∃k,k<c.L.length/\c.rb k=g
def Cx.A (c:Cx)(g:Nat):Prop:=¬c.R g
def ud (w:World)(R:Nat->Prop)(ao:Option Addr)(l:List Int):Prop:=∀i x,l[i]?=some x->∃b o,ao=some (aD b o)/\¬R b/\b<w.heap.size/\w.cell? ⟨b,o+i,none⟩=some (.int .i32 x)
structure Inv (c:Cx)(w:World):Prop where
 make ::
 len:c.l.length<=40
 all:dh c.l
 parts:c.L.length<=1000000
 bound:∀g,c.R g->g<w.heap.size
 tab:TabAt 2 Lib.deBruijn64tab w
 tab2:¬c.R 2
 text:ag w c.bt [.slice c.ao c.l.length c.rc,Vs c.kb c.L.length c.cap,c.gv] 187
 bt:¬c.R c.bt
 runes:ud w c.R c.ao c.l
 kb:¬c.R c.kb
 inj:∀k k',k<c.L.length->k'<c.L.length->c.rb k=c.rb k'->k=k'
 row:∀k,k<c.L.length->w.cell? (aD c.kb k)=some (.slice (some (aD (c.rb k) 0)) (c.l.length+1) (c.l.length+1))
 known:∀k q i,c.L[k]?=some q->i<=c.l.length->w.frozen? (aD (c.rb k) i)=false/\(w.cell? (aD (c.rb k) i)=some (.int .u64 0)\/w.cell? (aD (c.rb k) i)=some (.int .u64 ((9223372036854775808+mk (mT q c.l i) (c.l.length+1):Nat):Int)))
theorem Inv.below {c:Cx}{w w':World}(h:Inv c w)(k:Bw w w'):Inv c w' where
 len:=h.len
 all:=h.all
 parts:=h.parts
 bound:=λg s=>zF (h.bound g s) k.size
 tab:=λj a=>(k.cell (nh (h.tab j a))).trans (h.tab j a)
 tab2:=h.tab2
 text:=h.text.below k
 bt:=h.bt
 runes:=λi x n=>by obtain⟨b,o,e,l,f,m⟩:=h.runes i x n;exact⟨b,o,e,l,zF f k.size,(k.cell (p:=⟨b,o+i,none⟩) f).trans m⟩
 kb:=h.kb
 inj:=h.inj
 row:=λj a=>(k.cell (nh (h.row j a))).trans (h.row j a)
 known:=λj q i a r=>by
  have d:c.rb j<w.heap.size:=h.bound _ ⟨j,(zC.1 a).1,rfl⟩;rw[k.cell (p:=(aD (c.rb j) i)) d,k.frozen (p:=(aD (c.rb j) i)) d];exact h.known j q i a r
theorem Inv.alloc {c:Cx}{w:World}(h:Inv c w)(o:Obj):Inv c (w.alloc o):=h.below ((zE _ _).alloc (zA _) _)
theorem Inv.drew {c:Cx}{w:World}(h:Inv c w):Inv c w.drew:=h.below (zE _ _).drew
theorem Inv.store {c:Cx}(h:Inv c w){q:Pat}(hq:c.L[k]?=some q)(hi:i<=c.l.length){u:Value}(hu:u=.int .u64 ((9223372036854775808+mk (mT q c.l i) (c.l.length+1):Nat):Int)):Inv c (w.setCell (aD (c.rb k) i) u):=by
 subst hu;have t:=(zC.1 hq).1;have C:c.R (c.rb k):=⟨k,t,rfl⟩;have a:∀u,KR c.R w (w.setCell (aD (c.rb k) i) u):=λu=>(KR.refl _ _).set C u;have f:∃v,w.cell? (aD (c.rb k) i)=some v:=by rcases (h.known k q i hq hi).2 with h|h<;>exact⟨_,h⟩
 exact {
  len:=h.len
  all:=h.all
  parts:=h.parts
  bound:=λg D=>by simpa [World.setCell]using h.bound g D
  tab:=λj d=>((a _).cell (nh (h.tab j d)) h.tab2).trans (h.tab j d)
  tab2:=h.tab2
  text:=h.text.kr (a _) h.bt
  bt:=h.bt
  runes:=λj x F=>by obtain⟨b,o,e,z,A,E⟩:=h.runes j x F;exact⟨b,o,e,z,zF A (a _).size,((a _).cell (p:=⟨b,o+j,none⟩) A z).trans E⟩
  kb:=h.kb
  inj:=h.inj
  row:=λj d=>((a _).cell (nh (h.row j d)) h.kb).trans (h.row j d)
  known:=λj y m d l=>by
   have n:=(zC.1 d).1;by_cases s:j=k/\m=i
   ·obtain⟨rfl,rfl⟩:=s;rw[hq]at d;cases d;obtain⟨v,B⟩:=f;refine⟨?_,.inr ?_⟩
    ·rw[World.frozen?_setCell];exact (h.known j q m hq hi).1
    ·rw[World.cell?_setCell_same (h:=B)]
   ·have r:((aD (c.rb j) m):Addr)≠(aD (c.rb k) i):=by
     intro e;simp only[xK,yK]at e;exact s ⟨h.inj j k n t e.1,e.2⟩
    refine⟨?_,?_⟩
    ·rw[World.frozen?_setCell];exact (h.known j y m d l).1
    ·rw[yy (h:=Ne.symm r)];exact (h.known j y m d l).2 }
def kU (w:World)(A:Nat->Prop)(L:List Pat)(p:Pat)(f:Value)(Q:Value->Prop):Prop:=∃bn be e,∃num:Nat,f=Vf 122 #[ar bn,ar be]/\A bn/\A be/\ag w bn [Vi num] 3/\ag w be [e] 128/\L[num]?=some p/\num<1000000/\Q e
def Bx (w:World)(A:Nat->Prop)(F:Nat)(n:Nat)(xs:List Value)(e:Value):Prop:=∃bi lv,e=Vf F #[ar bi]/\A bi/\ag w bi [lv] 168/\cB w A 132 2 lv n xs
def De (t:Value):Prop:=∃G tc,t=Vf G tc
mutual
def EV (w:World)(A:Nat->Prop)(L:List Pat):Pat->Value->Prop
 |.set s,f=>∃b sv,f=Vf 137 #[ar b]/\A b/\ag w b [sv] 24/\dL w A sv s
 |.row l,f=>l.length<=100/\∃xs,cM w A L l xs/\kU w A L (.row l) f (Bx w A 123 l.length xs)
 |.or l,f=>l.length<=100/\∃xs,cM w A L l xs/\((l.length=1/\∃t,xs=[f,t])\/(l.length≠1/\kU w A L (.or l) f (Bx w A 129 l.length xs)))
 |.and l,f=>l.length<=100/\∃xs,cM w A L l xs/\((l.length=1/\∃t,xs=[f,t])\/(l.length≠1/\kU w A L (.and l) f (Bx w A 131 l.length xs)))
 |.not p,f=>∃g t,EV w A L p g/\kU w A L (.not p) f (λe=>∃bi,e=Vf 133 #[ar bi]/\A bi/\ag w bi [g,t] 132)
 |.many p m n,f=>∃g t,EV w A L p g/\kU w A L (.many p m n) f (λe=>∃b0 b1 b2,e=Vf 134 #[ar b0,ar b1,ar b2]/\A b0/\A b1/\A b2/\ag w b0 [Vi m] 3/\ag w b1 [g,t] 132/\ag w b2 [Vi n] 3)
 |.group p,f=>EV w A L p f
def cM (w:World)(A:Nat->Prop)(L:List Pat):List Pat->List Value->Prop
 | [],xs=>xs=[]
 |p::l,xs=>∃f t r,xs=f::t::r/\De t/\EV w A L p f/\cM w A L l r
end
theorem kU.keep {A:NP}{w w':World}{L:List Pat}{p:Pat}{f:Value}{Q Q':Value->Prop}(k:ah A w w')(hQ:∀e,Q e->Q' e)(h:kU w A L p f Q):kU w' A L p f Q':=by
 obtain⟨g,n,e,a,rfl,c,b,i,l,m,d,j⟩:=h;exact⟨g,n,e,a,rfl,c,b,i.keep k c,l.keep k b,m,d,hQ e j⟩
theorem Bx.keep {A:NP}{w w':World}{F n:Nat}{xs:LV}(k:ah A w w')(e:Value)(h:Bx w A F n xs e):Bx w' A F n xs e:=by
 obtain⟨f,c,rfl,a,b,d⟩:=h;exact⟨f,c,rfl,a,b.keep k a,d.keep k⟩
mutual
theorem EV.keep {A:NP}{w w':World}{L:List Pat}(k:ah A w w'):∀(p:Pat) (f:Value),EV w A L p f->EV w' A L p f
 |.set s,f,h=>by obtain⟨b,z,e,x,E,G⟩:=h;exact⟨b,z,e,x,E.keep k x,G.keep k⟩
 |.row l,f,h=>by obtain⟨d,c,j,a⟩:=h;exact⟨d,c,cM.keep k l c j,a.keep k (Bx.keep k)⟩
 |.or l,f,h=>by
  obtain⟨d,c,j,a⟩:=h;refine⟨d,c,cM.keep k l c j,?_⟩;rcases a with a|⟨u,a⟩
  ·exact .inl a
  ·exact .inr ⟨u,a.keep k (Bx.keep k)⟩
 |.and l,f,h=>by
  obtain⟨d,c,j,a⟩:=h;refine⟨d,c,cM.keep k l c j,?_⟩;rcases a with a|⟨u,a⟩
  ·exact .inl a
  ·exact .inr ⟨u,a.keep k (Bx.keep k)⟩
 |.not p,f,h=>by
  obtain⟨g,t,v,a⟩:=h;exact⟨g,t,EV.keep k p g v,a.keep k (λe r=>by obtain⟨C,q,i,o⟩:=r;exact⟨C,q,i,o.keep k i⟩)⟩
 |.many p m n,f,h=>by
  obtain⟨g,t,v,a⟩:=h;exact⟨g,t,EV.keep k p g v,a.keep k (λe r=>by obtain⟨H,F,B,q,y,i,o,J,D,I⟩:=r;exact⟨H,F,B,q,y,i,o,J.keep k y,D.keep k i,I.keep k o⟩)⟩
 |.group p,f,h=>EV.keep (L:=L) k p f h
theorem cM.keep {A:NP}{w w':World}{L:List Pat}(k:ah A w w'):∀(l:List Pat) (xs:LV),cM w A L l xs->cM w' A L l xs
 | [],xs,h=>h
 |p::l,xs,h=>by obtain⟨f,t,r,e,a,b,c⟩:=h;exact⟨f,t,r,e,a,EV.keep k p f b,cM.keep k l r c⟩
end
theorem EV.form {A:NP}{w:World}{L:List Pat}:∀(p:Pat) (f:Value),p.Ok->EV w A L p f->∃F cp,f=Vf F cp/\∀args w,(callFunc F args).run prog w=.ok (.enter F args) w
 |.set s,f,_,h=>by obtain⟨b,u,e,_⟩:=h;exact⟨_,_,e,enters_of func137 (by kernel_rfl) rfl⟩
 |.row l,f,_,h=>by obtain⟨_,g,_,d,i,e,a,rfl,_⟩:=h;exact⟨_,_,rfl,enters_of func122 (by kernel_rfl) rfl⟩
 |.or [],f,hk,h=>absurd rfl hk.2
 |.or [p],f,hk,h=>by
  obtain⟨_,g,⟨o,k,r,rfl,_,j,_⟩,⟨_,t,e⟩|⟨c,_⟩⟩:=h
  ·cases e;exact EV.form p f hk.1.1 j
  ·exact absurd rfl c
 |.or (p::q::l),f,hk,h=>by
  obtain⟨_,g,_,⟨c,_⟩|⟨_,d,i,e,a,rfl,_⟩⟩:=h
  ·simp at c
  ·exact⟨_,_,rfl,enters_of func122 (by kernel_rfl) rfl⟩
 |.and [],f,hk,h=>absurd rfl hk.2
 |.and [p],f,hk,h=>by
  obtain⟨_,g,⟨o,k,r,rfl,_,j,_⟩,⟨_,t,e⟩|⟨c,_⟩⟩:=h
  ·cases e;exact EV.form p f hk.1.1 j
  ·exact absurd rfl c
 |.and (p::q::l),f,hk,h=>by
  obtain⟨_,g,_,⟨c,_⟩|⟨_,d,i,e,a,rfl,_⟩⟩:=h
  ·simp at c
  ·exact⟨_,_,rfl,enters_of func122 (by kernel_rfl) rfl⟩
 |.not p,f,_,h=>by obtain⟨_,_,_,d,i,e,a,rfl,_⟩:=h;exact⟨_,_,rfl,enters_of func122 (by kernel_rfl) rfl⟩
 |.many p m n,f,_,h=>by obtain⟨_,_,_,d,i,e,a,rfl,_⟩:=h;exact⟨_,_,rfl,enters_of func122 (by kernel_rfl) rfl⟩
 |.group p,f,hk,h=>EV.form (L:=L) p f hk h
theorem cM.at {w:World}{A:NP}{L:List Pat}:∀(l:List Pat) (xs:LV),cM w A L l xs->∀(i:Nat) (p:Pat),l[i]?=some p->∃f t,De t/\EV w A L p f/\[f,t]=(xs.drop (i*2)).take 2
 | [],_,_,i,p,hi=>by simp at hi
 |q::l,xs,h,0,p,hi=>by
  obtain⟨f,t,r,rfl,b,c,d⟩:=h;simp at hi;subst hi;exact⟨f,t,b,c,by simp⟩
 |q::l,xs,h,i+1,p,hi=>by
  obtain⟨f,t,r,rfl,b,c,d⟩:=h;obtain⟨k,j,a,g,e⟩:=cM.at l r d i p (by simpa using hi);refine⟨k,j,a,g,?_⟩;rw[e,show (i+1)*2=(i*2)+1+1 from by omega];simp
theorem BU {A:NP}{lv:Value}(h:cB w A 132 2 lv n xs)(hi:i<n){f t:Value}(hc:[f,t]=(xs.drop (i*2)).take 2):∃b cap,lv=Vs b n cap/\b<w.heap.size/\A b/\w.cell? ⟨b,i*2,none⟩=some f/\w.cell? ⟨b,i*2+1,none⟩=some t:=by
 rcases h.1.2 with⟨rfl,l⟩|⟨b,cap,g,rfl,m,o,k⟩
 ·omega
 ·refine⟨b,cap,rfl,(h.1.lt b rfl).2,h.2 b rfl,?_⟩;have a:∀j u,([f,t]:List Value)[j]?=some u->w.cell? ⟨b,i*2+j,none⟩=some u:=by
   intro j u d;have c:j<2:=(zC.1 d).1;have e:xs[i*2+j]?=some u:=by
    rw[hc,List.getElem?_take,zX c,List.getElem?_drop]at d;exact d
   have:=h.1.cells rfl (i*2+j) u e;rw[zl]at this;simpa using this
  exact⟨a 0 _ rfl,a 1 _ rfl⟩
theorem pi {B:Nat}{v:Value}(h:w.ownsRow B 132 2 v n xs):∃ao cap,v=.slice ao n cap:=by
 rcases h.2 with⟨rfl,a⟩|⟨b,cap,c,rfl,_⟩
 ·exact⟨none,0,by rw[a]⟩
 ·exact⟨_,_,rfl⟩
def GM (c:Cx)(p:Pat):Prop:=∀(w:World) (F:Nat) (cp:Array Value) (i:Nat),Inv c w->EV w c.A c.L p (Vf F cp)->i<=c.l.length ->
 Calls prog F (#[ar c.bt,Vi i]++cp) w λe w'=>e=.returned (.int .u64 ((mk (mT p c.l i) (c.l.length+1):Nat):Int))/\Inv c w'/\KR c.R w w'
set_option maxHeartbeats 4000000
set_option maxRecDepth 100000
open Go.Shelf Go.Lib
def fX (i:Nat):Nat->Bool:=λj=>decide (j=i)
theorem uO (h:i<n):2 ^ i=mk (fX i) n:=WX h
theorem oY (i n:Nat)(w:World)(h:i<n)(hn:n<=42):Calls prog 124 #[Vi i] w λe w'=>e=.returned (.int .u64 ((mk (fX i) n:Nat):Int))/\w'=w:=by
 have d:(0:Int)<=(i:Int):=zK _;have c:(i:Int)<=64:=by omega
 have b:=aa (uO h);have a:=aa (dM (fX i) hn);generalize mk (fX i) n=X at b a ⊢;go_enter func124,ntmps124;go_wp2;go_ret;refine⟨?_,rfl⟩;show Ending.returned (.int .u64 (IntKind.u64.wrap (2 ^ i)))=_
 have e:(2:Int) ^ i=((2 ^ i:Nat):Int):=by simp
 have f:=a.out;rw[e,b.out,IntKind.wrap_u64];congr 2;omega
theorem WI (h:j<n)(hn:n<=42):(bits BinOp.and .u64 ((mk f n:Nat):Int) ((mk (fX j) n:Nat):Int) != 0)=f j:=by
 have b:=dM f hn;have c:=dM (fX j) hn;rw[u64_and_nat _ _ (by omega) (by omega),<-uO h];have a:=eN f n j;rw[show decide (j<n)=true from zv h,Bool.true_and]at a;rw[<-a,ze,<-UP];simp only[bne_iff_ne,ne_eq];omega
theorem TI (f:Nat->Bool)(j n:Nat)(w:World)(h:j<n)(hn:n<=42):Calls prog 95 #[.int .u64 ((mk f n:Nat):Int),Vi j] w λe w'=>e=.returned (.bool (f j))/\w'=w:=by
 have a:=aa (WI (f:=f) h hn);have c:=aa (oY j n w h hn);generalize mk (fX j) n=X at a c;generalize mk f n=Y at a ⊢;generalize f j=b at a ⊢;go_enter func95,ntmps95;go_wp2_with (go_at_call 124;refine c.mono ?_;rintro e w' ⟨rfl,rfl⟩);go_ret;exact⟨eM a,rfl⟩
theorem TJ (r:Int)(B:Nat)(w:World)(hB:B<w.heap.size)(hcell:w.cell? (aD B 0)=some (Vi r)) :
  PredBelow prog 155 #[Vp B] (λx=>.agg (lr x).toArray) (λx=>Brm.inB x r) w:=λW x a=>by
 have d:W.cell? (aD B 0)=some (Vi r):=(a.cell (p:=(aD B 0)) hB).trans hcell;have b:B<W.heap.size:=zF hB a.size;have c:B≠W.heap.size:=by omega
 show Calls prog 155 #[.agg #[Vi x.1,Vi x.2],Vp B] W _
 go_enter func155,ntmps155;go_wp2
 all_goals (go_ret;exact⟨eM (by rw[ze,Brm.in_iff];simp;try omega),a.alloc a.size _⟩)
theorem II (ao:OA)(cap:Nat)(fv:Value)(w:World):Calls prog 180 #[.slice ao 0 cap,fv] w λe w'=>e=.returned (Vi (-1))/\w'=w:=by
 go_enter func180,ntmps180;go_wp2
 go_loop [8] (λi=>i=Vi 0) (λ_=>0)
 case atStart=>rfl
 case round=>
  subst hrel;go_wp2;go_ret;exact⟨rfl,rfl⟩
theorem BP (ao:OA)(cap:Nat)(fv:Value)(w:World):Calls prog 157 #[.slice ao 0 cap,fv] w λe w'=>e=.returned (.bool false)/\w'=w:=by
 go_enter func157,ntmps157;go_wp2_with (go_at_call 180;refine (II _ _ _ _).mono ?_;rintro e w' ⟨rfl,rfl⟩);go_ret;exact⟨rfl,rfl⟩
theorem DC {ao:OA}{l:LQ}(cap:Nat)(r:Int)(B:Nat)(h:Rd w ao l)(hlen:l.length<=1200000)(hB:B<w.heap.size)(hcell:w.cell? (aD B 0)=some (Vi r)):Calls prog 157 #[.slice ao l.length cap,Vf 155 #[Vp B]] w λe w'=>e=.returned (.bool (Brm.memB l r))/\Bw w w':=by
 cases hl:l with
 |nil=>
  refine (BP ao cap _ w).mono ?_;rintro e w' ⟨rfl,rfl⟩;exact⟨rfl,zE _ _⟩
 |cons x t=>
  rw[<-hl];obtain⟨b,d,rfl,p,_⟩:=h 0 x (by rw[hl];rfl);have o:∀args w,(callFunc 155 args).run prog w=.ok (.enter 155 args) w:=enters_of func155 (by kernel_rfl) rfl;have a:=AnyQ.slices_ContainsFunc Nq 2 isAgg92 sizeOf92 lr (λ_=>rfl) (λx=>Brm.inB x r) 155 #[Vp B] o b d l.length cap l w
   (TJ r B w hB hcell) (zA _) (by omega) p (λj k i v c=>by
    have n:l[j]?=some l[j]!:=by rw[zB k,getElem!_pos l j k]
    obtain⟨q,m,e,_,f,g⟩:=h j _ n;simp only[yG,xK,yK]at e;obtain⟨rfl,rfl⟩:=e;generalize l[j]! = y at c f g
    match i,c with
    |0,c=>simp[lr]at c;rw[<-c];exact f
    |1,c=>simp[lr]at c;rw[<-c];exact g
    |i+2,c=>simp[lr]at c)
  change Calls prog 157 _ _ _ at a;rw[zQ]at a;exact a
theorem Kj {ao:OA}{l:LQ}(cap:Nat)(r:Int)(h:Rd w ao l)(hlen:l.length<=1200000):Calls prog 112 #[.slice ao l.length cap,Vi r] w λe w'=>e=.returned (.bool (Brm.runeB r&&Brm.memB l r))/\Bw w w':=by
 have b:Bw w (w.alloc (.cells #[Vi r] 3)):=(zE _ w).alloc (zA _) _;have a:=aa b;have f:=aa (DC cap r w.heap.size (h.below b) hlen (by simp) (by simp));by_cases c:Brm.runeB r=true
 ·rw[c,Bool.true_and];generalize Brm.memB l r=m at f ⊢;go_enter func112,ntmps112;go_wp2_with (first|(go_at_call 156;refine (eT _ _).mono ?_;rintro e w' ⟨rfl,rfl⟩)|(go_at_call 157;refine f.mono ?_;rintro e w' ⟨rfl,d⟩));go_ret;exact⟨rfl,a.trans (d.mono a.size)⟩
 ·have g:Brm.runeB r=false:=by simpa using c
  rw[g,Bool.false_and];go_enter func112,ntmps112;go_wp2_with (go_at_call 156;refine (eT _ _).mono ?_;rintro e w' ⟨rfl,rfl⟩);go_ret;exact⟨rfl,a⟩
theorem xg (x:Int)(i n:Nat)(w:World)(hx:x=(i:Int))(h:i<n)(hn:n<=42):Calls prog 124 #[Vi x] w λe w'=>e=.returned (.int .u64 ((mk (fX i) n:Nat):Int))/\w'=w:=by
 subst hx;exact oY i n w h hn
theorem DR {v2:Value}(h:ag w b [v0,v1,v2] T):w.cell? (aD b 0)=some v0/\w.cell? (aD b 1)=some v1/\w.cell? (aD b 2)=some v2:=⟨by rw[h.cell];rfl,by rw[h.cell];rfl,by rw[h.cell];rfl⟩
theorem iJ (h:ag w b [v0,v1] T):w.cell? (aD b 0)=some v0/\w.cell? (aD b 1)=some v1:=⟨by rw[h.cell];rfl,by rw[h.cell];rfl⟩
theorem one (h:ag w b [v0] T):w.cell? (aD b 0)=some v0:=by rw[h.cell];rfl
def mO (i:Nat):Nat->Bool:=λj=>decide (i<=j)
theorem MY (h:i<=n)(hn:n<=40):((mk (fX (n+1)) 42:Nat):Int)-((mk (fX i) 42:Nat):Int)=((mk (mO i) (n+1):Nat):Int)/\mk (fX i) 42<=mk (fX (n+1)) 42:=by
 have d:=uO (i:=n+1) (n:=42) (by omega);have b:=uO (i:=i) (n:=42) (by omega);have e:=UO (n:=n+1) (i:=i) (by omega);have c:2 ^ i<=2 ^ (n+1):=Nat.pow_le_pow_right (by decide) (by omega);have a:mk (mO i) (n+1)=mk (λj=>decide (i<=j)) (n+1):=rfl;rw[a,<-e,<-d,<-b];exact⟨by omega,c⟩
theorem AQ {c:Cx}(i:Nat)(hI:Inv c w)(hi:i<=c.l.length):Calls prog 132 #[ar c.bt,Vi i] w λe w'=>e=.returned (.int .u64 ((mk (mO i) (c.l.length+1):Nat):Int))/\w'=w:=by
 obtain⟨j,_,_⟩:=DR hI.text;have g:=hI.len;have d:=aa (MY hi hI.len);have f:=aa (dM (fX (c.l.length+1)) (zA 42));have a:=aa (xg (c.l.length+1) (c.l.length+1) 42 w (by omega) (by omega) (zA _));have b:=aa (xg i i 42 w rfl (by omega) (zA _));generalize mk (fX (c.l.length+1)) 42=X at d f a;generalize mk (fX i) 42=Y at d b;generalize mk (mO i) (c.l.length+1)=Z at d ⊢;show Calls prog 132 #[Vp c.bt,Vi i] w _
 go_enter func132,ntmps132;go_wp2_with (go_at_call 124;first|(refine a.mono ?_;rintro e w' ⟨rfl,rfl⟩)|(refine b.mono ?_;rintro e w' ⟨rfl,rfl⟩));go_ret;refine⟨?_,rfl⟩;show Ending.returned (.int .u64 (IntKind.u64.wrap ((X:Int)-(Y:Int))))=_
 obtain⟨e,h⟩:=d.out;have k:=f.out;rw[IntKind.wrap_u64];congr 2;omega
theorem Ue {s:LQ}{x:Int}(hx:l[i]?=some x):mk (mT (.set s) l i) (l.length+1)=if memB s x then mk (fX (i+1)) (l.length+1)else 0:=by
 split
 ·rename_i h
  exact dC (λj a=>by rw[<-Eh (by omega),hx];simp[h,fX])
 ·rename_i h
  exact kX.2 (λj a=>by rw[<-Eh (by omega),hx];simp[h])
theorem GF {s:LQ}:mk (mT (.set s) l l.length) (l.length+1)=0:=kX.2 (λj a=>by rw[<-Eh (by omega)];simp)
theorem Uf (c:Cx)(s:LQ)(hs:s.length<=1200000):GM c (.set s):=by
 intro w F cp i j Z K;obtain⟨b,P,e,M,u,m⟩:=Z;cases e;obtain⟨C,_,_⟩:=DR j.text;have L:=one u;have S:=j.len;have D:=j.text.lt;have y:=u.lt;have A:=aa j;show Calls prog 137 #[Vp c.bt,Vi i,Vp b] w _
 by_cases h:i<c.l.length
 ·obtain⟨l,a,e⟩:∃l a,P=.slice l s.length a/\Rd w l s:=by
   rcases m with⟨rfl,rfl⟩|⟨b',U,V,rfl,_,_,_,O⟩
   ·exact⟨none,0,rfl,λi x B=>by simp at B⟩
   ·exact⟨_,_,rfl,O⟩
  obtain⟨rfl,n⟩:=e;have q:=zB h;generalize c.l[i]=x at q;obtain⟨r,o,E,Q,v,p⟩:=j.runes i x q;have g:runeB x=true:=j.all x (zU q);have T:=aa g;have z:0<=x/\x<=1114111:=by
   simp only[runeB,zY]at g;omega
  have k:=aa (Ue (s:=s) q);rw[E]at C;have i0:(0:Int)<=(i:Int):=zK _;have W:(i:Int)<(c.l.length:Int):=by omega
  obtain⟨xa,xb⟩:=z;have N:=aa (λ(d:World) (x':Int) (B:x'=x) (hw:Bw w d)=>(show Calls prog 112 #[.slice l s.length a,Vi x'] d (λe G=>e=.returned (.bool (Brm.memB s x))/\Bw d G) by rw[B];have J:=Kj a x (n.below hw) hs;rw[g,Bool.true_and]at J;exact J)) -- l s a x d (n.below hw) hs))
  have I:=aa (λ(d:World)=>xg (i+1) (i+1) (c.l.length+1) d (by omega) (by omega) (by omega));generalize memB s x=mb at N k;generalize mk (fX (i+1)) (c.l.length+1)=X at k I;generalize mk (mT (.set s) c.l i) (c.l.length+1)=Y at k ⊢;have hd:decide (i<c.l.length)=true:=zv h;go_enter func137,ntmps137;go_wp2_with fail
  go_region_held3 (λd=>Bw w d/\d.cell? (aD c.bt 0)=some (.slice (some (aD r o)) c.l.length c.rc)/\d.cell? (aD b 0)=some (.slice l s.length a)/\d.cell? ⟨r,o+i,none⟩=some (.int .i32 x))
   (first|exact⟨(zE _ _).drew,C,L,p⟩|exact⟨by assumption,(Below.cell (by assumption) D).trans C,(Below.cell (by assumption) y).trans L,(Below.cell (by assumption) v).trans p⟩)
   ((go_at_call 112;refine (N _ _ (by first|rfl|(rw[IntKind.wrap_i64];omega)|omega) (‹Bw w _/\_›.1)).mono ?_;rintro e R ⟨rfl,t⟩;have f:Bw w R:=(‹Bw w _/\_›.1).trans (t.mono (‹Bw w _/\_›.1).size)))
  cases mb with
  |true=>
   go_wp2_with (go_at_call 124;refine (I _).mono ?_;rintro e d ⟨rfl,rfl⟩);go_ret;exact⟨by rw[k.out];rfl,A.below f,KR.below f⟩
  |false=>
   go_wp2;go_ret;exact⟨by rw[k.out];rfl,A.below f,KR.below f⟩
 ·have H:i=c.l.length:=by omega
  have k:Hid (mk (mT (.set s) c.l i) (c.l.length+1)=0):=by show _=_;rw[H];exact GF
  have W:decide (i<c.l.length)=false:=zI h;generalize mk (mT (.set s) c.l i) (c.l.length+1)=Y at k ⊢;go_enter func137,ntmps137;go_wp2_with fail
  go_region
  go_wp2;go_ret;exact⟨by rw[k.out];rfl,A.below (by first|exact zE _ _|exact (zE _ _).drew),KR.below (by first|exact zE _ _|exact (zE _ _).drew)⟩
theorem Xm {v2:Value}(h:ag w b [v0,v1,v2] T):w.cell? (aD b 0)=some v0/\w.cell? (aD b 1)=some v1/\w.cell? (aD b 2)=some v2:=⟨by rw[h.cell];rfl,by rw[h.cell];rfl,by rw[h.cell];rfl⟩
theorem Ch {M:Nat}(h:M<4398046511104):bits .andNot .u64 ((9223372036854775808+M:Nat):Int) 9223372036854775808=(M:Int):=by
 have e:(9223372036854775808:Int)=((9223372036854775808:Nat):Int):=rfl;rw[e,u64_andNot_nat _ _ (by omega) (by omega),<-DU h,Ni h]
theorem Eu {M:Nat}(h:M<4398046511104):bits .or .u64 (M:Int) 9223372036854775808=((9223372036854775808+M:Nat):Int):=by
 have e:(9223372036854775808:Int)=((9223372036854775808:Nat):Int):=rfl;rw[e,u64_or_nat _ _ (by omega) (by omega),DU h]
theorem pQ {c:Cx}(p:Pat)(F':Nat)(cp':Array Value)(eg:∀args w,(callFunc F' args).run prog w=.ok (.enter F' args) w){bn be:Nat}(num i:Nat)(hI:Inv c w)(hbn:ag w bn [Vi num] 3)(hbe:ag w be [Vf F' cp'] 128)(hL:c.L[num]?=some p)(hi:i<=c.l.length)
  (hc:∀w',Bw w w'->Calls prog F' (#[Vp c.bt,Vi i]++cp') w' λe w''=>e=.returned (.int .u64 ((mk (mT p c.l i) (c.l.length+1):Nat):Int))/\Inv c w''/\KR c.R w' w''):Calls prog 122 #[Vp c.bt,Vi i,Vp bn,Vp be] w λe w'=>e=.returned (.int .u64 ((mk (mT p c.l i) (c.l.length+1):Nat):Int))/\Inv c w'/\KR c.R w w':=by
 obtain⟨_,G,_⟩:=Xm hI.text;have K:w.cell? (aD bn 0)=some (Vi num):=by rw[hbn.cell];rfl
 have O:w.cell? (aD be 0)=some (Vf F' cp'):=by rw[hbe.cell];rfl
 have a:=(zC.1 hL).1;have q:=hI.row num a;have m:=hI.parts;have E:=hI.len;obtain⟨B,h⟩:=hI.known num p i hL hi;have N:(0:Int)<=(num:Int):=zK _;have L:(num:Int)<(c.L.length:Int):=by omega
 have P:(0:Int)<=(i:Int):=zK _;have I:(i:Int)<(c.l.length:Int)+1:=by omega
 have t:=aa hI;have r:=aa hL;have j:=aa hi;have f:=aa (dM (mT p c.l i) (show c.l.length+1<=42 by omega));have s:=aa hc;have y:Hid (c.R (c.rb num)):=⟨num,a,rfl⟩;have D:Hid (∀w'':World,Inv c w''->w''.frozen? (aD (c.rb num) i)=false/\∃v,w''.cell? (aD (c.rb num) i)=some v):=λw'' b=>by
  obtain⟨A,k⟩:=b.known num p i r.out j.out;exact⟨A,by rcases k with k|k<;>exact⟨_,k⟩⟩
 have o:Hid (∀w'':World,Inv c w''->Inv c (w''.setCell (aD (c.rb num) i) (.int .u64 (bits .or .u64 ((mk (mT p c.l i) (c.l.length+1):Nat):Int) 9223372036854775808)))):=λw'' b=>b.store r.out j.out (by rw[Eu f.out]);generalize mk (mT p c.l i) (c.l.length+1)=M at f h s o ⊢;rcases h with u|u
 ·go_enter func122,ntmps122;go_wp2_with fail
  go_region
  go_wp2_with (go_at_fn F';refine (s.out _ (by first|exact (zE _ _).drew|exact zE _ _)).mono ?_;rintro e F ⟨rfl,d,g⟩;obtain⟨C,J,z⟩:=D.out F d;have n:=aa d;have l:=aa g);go_ret;refine⟨?_,o.out _ n.out,KR.set ((KR.below (by first|exact (zE _ _).drew|exact zE _ _)).trans l.out) y.out _⟩;show Ending.returned (.int .u64 (bits .andNot .u64 (bits .or .u64 (M:Int) 9223372036854775808) 9223372036854775808))=_
  rw[Eu f.out,Ch f.out]
 ·have H:((9223372036854775808:Int)+(M:Int)==0)=false:=zD.2 (by omega);go_enter func122,ntmps122;go_wp2_with fail
  go_region
  go_wp2_with fail;go_ret;refine⟨?_,t.out.drew,(KR.refl _ _).drew⟩;show Ending.returned (.int .u64 (bits .andNot .u64 (9223372036854775808+(M:Int)) 9223372036854775808))=_
  have e:=Ch f.out;rw[Int.natCast_add]at e;exact congrArg (λx=>Ending.returned (.int .u64 x)) e
theorem Wl (hn:n<=42)(h:mk f n≠0)(hk:mk f n &&& (mk f n-1)=mk (λj=>f j&&!decide (j=k)) n):bits .and .u64 ((mk f n:Nat):Int) (IntKind.u64.wrap (((mk f n:Nat):Int)-1))=((mk (λj=>f j&&!decide (j=k)) n:Nat):Int):=by
 have a:=dM f hn;have e:IntKind.u64.wrap (((mk f n:Nat):Int)-1)=((mk f n-1:Nat):Int):=by rw[IntKind.wrap_u64];omega
 rw[e,u64_and_nat _ _ (by omega) (by omega),hk]
theorem FJ (hn:n<=42):bits .or .u64 ((mk f n:Nat):Int) ((mk g n:Nat):Int)=((mk (λj=>f j||g j) n:Nat):Int):=by
 have a:=dM f hn;have b:=dM g hn;rw[u64_or_nat _ _ (by omega) (by omega),KB]
theorem Wm (hn:n<=42):bits .and .u64 ((mk f n:Nat):Int) ((mk g n:Nat):Int)=((mk (λj=>f j&&g j) n:Nat):Int):=by
 have a:=dM f hn;have b:=dM g hn;rw[u64_and_nat _ _ (by omega) (by omega),WW]
theorem At (hn:n<=42):bits .andNot .u64 ((mk f n:Nat):Int) ((mk g n:Nat):Int)=((mk (λj=>f j&&!g j) n:Nat):Int):=by
 have a:=dM f hn;have b:=dM g hn;rw[u64_andNot_nat _ _ (by omega) (by omega),Nh f g hn]
theorem Wn {p:Pat}{g' h:Nat->Bool}(hk:k<=l.length)(hg:g' k=true):((h j||mT p l k j)||jp p l (λj=>g' j&&!decide (j=k)) j)=(h j||jp p l g' j):=by
 rw[ze];simp only[yZ,ic,yP,Bool.not_eq_true',yr];constructor
 ·rintro ((a|a)|⟨q,d,⟨c,_⟩,b⟩)
  ·exact .inl a
  ·exact .inr ⟨k,hk,hg,a⟩
  ·exact .inr ⟨q,d,c,b⟩
 ·rintro (a|⟨q,d,c,b⟩)
  ·exact .inl (.inl a)
  ·by_cases e:q=k
   ·subst e;exact .inl (.inr b)
   ·exact .inr ⟨q,d,⟨c,e⟩,b⟩
theorem Wo {p:Pat}(h:mk g (l.length+1)=0):jp p l g j=false:=by
 apply Bool.eq_false_iff.2;intro e;obtain⟨k,b,a,_⟩:=ic.1 e;rw[kX.1 h k (by omega)]at a;cases a
theorem Tk {c:Cx}(p:Pat)(F:Nat)(cp:Array Value)(t:Value)(eg:∀args w,(callFunc F args).run prog w=.ok (.enter F args) w)(g:Nat->Bool)(hI:Inv c w)
  (hc:∀w' k,KR c.R w w'->Inv c w'->k<=c.l.length->Calls prog F (#[Vp c.bt,Vi k]++cp) w' λe w''=>e=.returned (.int .u64 ((mk (mT p c.l k) (c.l.length+1):Nat):Int))/\Inv c w''/\KR c.R w' w''):Calls prog 125 #[.agg #[Vf F cp,t],Vp c.bt,.int .u64 ((mk g (c.l.length+1):Nat):Int)] w λe w'=>e=.returned (.int .u64 ((mk (jp p c.l g) (c.l.length+1):Nat):Int))/\Inv c w'/\KR c.R w w':=by
 have Y:=hI.len;have HI:=aa hI;have Z:=aa hc;have r:=aa ((KR.refl c.R w).alloc (.cells #[Vf F cp,t] 132));have s:=aa (hI.alloc (.cells #[Vf F cp,t] 132));have q:=aa (ag.new w [Vf F cp,t] 132);have A:Hid (¬c.R w.heap.size):=λh=>Nat.lt_irrefl _ (hI.bound _ h);go_enter func125,ntmps125;go_wp2_with fail
 go_loopw [2,7] (λfr out wr=>∃g' h:Nat->Bool,fr=.int .u64 ((mk g' (c.l.length+1):Nat):Int)/\out=.int .u64 ((mk h (c.l.length+1):Nat):Int)/\(∀j,j<=c.l.length->(h j||jp p c.l g' j)=jp p c.l g j)/\Inv c wr/\KR c.R w wr/\ag wr w.heap.size [Vf F cp,t] 132) (λfr _ _=>(intOf fr).toNat)
 case atStart=>
  refine⟨g,λ_=>false,rfl,?_,λj _=>by simp,s,r,q⟩;rw[kX.2 (λ_ _=>rfl)];rfl
 case round=>
  obtain⟨g',h,rfl,rfl,d,hI,O,n⟩:=hrel;have y:=aa d;have z:=aa hI;have C:=aa O;have J:=aa n;have S:wr.cell? (aD w.heap.size 0)=some (Vf F cp):=by rw[n.cell];rfl
  have x1:wr.cell? (aD w.heap.size 1)=some t:=by rw[n.cell];rfl
  have K:=n.lt;by_cases o:mk g' (c.l.length+1)=0
  ·have V:=aa o;rw[o];have T:Hid (mk h (c.l.length+1)=mk (jp p c.l g) (c.l.length+1)):=dC (λj Q=>by rw[<-y.out j (by omega),Wo V.out,Bool.or_false]);generalize mk h (c.l.length+1)=H at T ⊢;go_wp2;go_ret;exact⟨by rw[<-T.out];rfl,z,C⟩
  ·obtain⟨k,k1,W,P,U,R⟩:=WY (show c.l.length+1<=42 by omega) o;have a:=aa (Wl (k:=k) (show c.l.length+1<=42 by omega) o U);have E:=aa (λj=>Wn (p:=p) (l:=c.l) (g':=g') (h:=h) (k:=k) (j:=j) (by omega) W);have N:=dM g' (show c.l.length+1<=42 by omega);have I:=aa (λ(w':World) (hw:TabAt 2 Lib.deBruijn64tab w')=>Xb (mk g' (c.l.length+1)) (by omega) w' (λ_=>hw));rw[P]at I;have D:=aa R;have m:=aa (FJ (f:=h) (g:=mT p c.l k) (show c.l.length+1<=42 by omega));have v:=aa (λ(w':World) (hk:KR c.R w w') (hi:Inv c w')=>Z w' k hk hi (by omega));have a0:=aa (λ(w':World) (hi:Inv c w')=>hi.tab);have L:(((mk g' (c.l.length+1):Nat):Int) != 0)=true:=bne_iff_ne.2 (by omega);generalize hM2:mk (λj=>g' j&&!decide (j=k)) (c.l.length+1)=M2 at a D;have G:=aa hM2;generalize mk g' (c.l.length+1)=M at a D I L ⊢;generalize mk h (c.l.length+1)=H at m ⊢;generalize mk (mT p c.l k) (c.l.length+1)=X at m v;go_wp2_with fail
   go_region_held3 (λw'=>Inv c w'/\KR c.R w w'/\KR c.R wr w'/\w'.cell? (aD w.heap.size 0)=some (Vf F cp))
    (first|exact⟨z.drew,C.drew,(KR.refl _ _).drew,S⟩|exact⟨x,B,b,(b.cell (p:=(aD w.heap.size 0)) K A).trans S⟩)
    (first
     |(go_at_call 164;refine (I _ (‹Inv c _/\KR c.R w _/\KR c.R wr _/\_›.1.tab)).mono ?_;rintro e w5 ⟨rfl,rfl⟩)
     |(go_at_fn F;refine (v _ (‹Inv c _/\KR c.R w _/\KR c.R wr _/\_›.2.1) (‹Inv c _/\KR c.R w _/\KR c.R wr _/\_›.1)).mono ?_;rintro e w5 ⟨rfl,u,i⟩;have x:=aa u;have B:=aa ((‹Inv c _/\KR c.R w _/\KR c.R wr _/\_›.2.1).trans i);have b:=aa ((‹Inv c _/\KR c.R w _/\KR c.R wr _/\_›.2.2.1).trans i)))
   go_wp2_with fail
   go_roundw
   case rel=>exact⟨λj=>g' j&&!decide (j=k),λj=>h j||mT p c.l k j,by rw[a.out,G.out],by rw[m.out],λj Q=>by rw[E.out,y.out j Q],x,B,J.kr b A⟩
   case measure=>rw[a.out];have:=D.out;simp only[intOf,Int.toNat_natCast];exact this
theorem pd (bs:List UInt8)(i k:Nat):am (bs.drop i) k=am bs (i+k):=by
 unfold am;rw[xM,xM,List.getElem?_drop]
theorem vE (s:ByteArray)(i:Nat):Utf8.decode s i=aS ((af s).drop i):=by
 unfold aS;rw[Lib.decode_at,jc,jc,jc,jc,yO,aL,pd,pd,pd,pd];rfl
theorem MO (l:List UInt8):Lib.decodeL l=aS l:=by
 have h:=Lib.decodeL_drop ⟨l.toArray⟩ 0;rw[vE]at h;simpa [af]using h
theorem rF (hne:bs≠[]):Lib.validGoD (n+1) bs=if aS bs=cx then false else Lib.validGoD n (bs.drop (aS bs).2):=by
 have e:((aS bs).1=65533/\(aS bs).2=1)↔aS bs=cx:=by
  unfold cx;constructor
  ·rintro⟨b,a⟩;exact Prod.ext b a
  ·intro h;rw[h];exact⟨rfl,rfl⟩
 show (if bs=[]then true else if (Lib.decodeL bs).1=65533/\(Lib.decodeL bs).2=1 then false else Lib.validGoD n (bs.drop (Lib.decodeL bs).2))=_
 rw[zR hne,MO];simp only[e]
theorem IK (h:Runes bs l):∀n,bs.length<=n->Lib.validGoD n bs=true:=by
 induction h with
 |nil=>intro n _;cases n<;>simp[Lib.validGoD]
 |cons hne hd hn hr ih=>
  intro n a;have b:=fj hne;rw[hd]at b;cases n with
  |zero=>exact absurd (zq.1 (by omega)) hne
  |succ n=>
   rw[rF hne,hd,zR hn];exact ih n (by rw[yO];omega)
theorem Gy (h:Broken bs k):∀n,bs.length<=n->Lib.validGoD n bs=false:=by
 induction h with
 |here hne hd=>
  intro n a;cases n with
  |zero=>exact absurd (zq.1 (by omega)) hne
  |succ n=>rw[rF hne,zX hd]
 |later hne hd hn hr ih=>
  intro n a;have b:=fj hne;rw[hd]at b;cases n with
  |zero=>exact absurd (zq.1 (by omega)) hne
  |succ n=>
   rw[rF hne,hd,zR hn];exact ih n (by rw[yO];omega)
theorem Gz (s:ByteArray)(h:Runes bs l):∀(n i:Nat) (acc:Array Value),bs=(af s).drop i->bs.length<=n->Conv.runesFrom s n i acc=acc++(l.map (Value.int .i32)).toArray:=by
 induction h with
 |nil=>
  intro n i acc b e;have d:¬i<s.size:=by
   have:=congrArg List.length b;rw[yO,aL]at this;simp at this;omega
  cases n with
  |zero=>simp[Conv.runesFrom]
  |succ n=>unfold Conv.runesFrom;rw[zR d];simp
 |cons hne hd e hr ih=>
  rename_i bs c w l
  intro n i acc b f;have g:=fj hne;rw[hd]at g;have a:=congrArg List.length b;rw[yO,aL]at a;have j:0<bs.length:=List.length_pos_iff.2 hne;cases n with
  |zero=>omega
  |succ n=>
   unfold Conv.runesFrom;rw[zX (by omega),vE,<-b,hd];show Conv.runesFrom s n (i+w) (acc.push (.int .i32 (Int.ofNat c)))=_
   rw[ih n (i+w) _ (by rw[b,List.drop_drop]) (by rw[yO];omega)];simp
theorem MP (s:ByteArray)(h:Runes (af s) l):Conv.runesFrom s s.size 0 #[]=(l.map (Value.int .i32)).toArray:=by
 have:=Gz s h s.size 0 #[] (by simp) (by rw[aL];exact zA _);simpa using this
