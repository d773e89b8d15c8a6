import Derived.Test.YtebnghmioamheaaGreatDoorM04
import Derived.Test.YtebnghmioamheaaGreatDoorM09
set_option linter.all false
namespace Go.Proofs.YtebnghmioamheaaGreatDoor
open Go.RowKit Brm Tryz
variable {A A':NP}{b B size n g i j r y sn sc ln lc X:Nat}{w w' a w1 w2 wr:World}{e:TypeId}{v lv c0 c1 c2 c3 c4 c5:Value}{xs c cs:LV}{p:Pat}{l s t:LZ}{d m k mm nn rr:Int}{α:Type}{ps L:List Pat}{so lo:OA}{R:Res Pat}{o:Obj}
def cB (w:World)(A:Nat->Prop)(e:TypeId)(size:Nat)(v:Value)(n:Nat)(xs:List Value):Prop:=w.ownsRow 0 e size v n xs/\∀g,v.ownBlock=some g->A g
def cC (w:World)(A:Nat->Prop)(v:Value)(s:List (Int×Int)):Prop:=∃q,Brm.PCanon q/\Brm.told q=s /\
 ((v=Vz/\q=[])\/∃b off cap,v=.slice (some (aD b off)) q.length cap/\q.length<=cap/\A b/\b<w.heap.size/\Rd w (some (aD b off)) q)
def ZE (n:Int):Value:=Vi n
def nil:Value:=Vz
mutual
def NV (w:World)(A:Nat->Prop):Pat->List Value->Nat->Prop
 |.set s,c,_=>∃sv,c=[Vi 1,sv,Vz,Vi 0,Vi 0,Vi 0]/\cC w A sv s
 |.row l,c,g=>∃lv xs,c=[Vi 2,Vz,lv,Vi 0,Vi 0,Vi 0]/\cB w A 27 6 lv l.length xs/\NL w A l xs g
 |.or l,c,g=>∃lv xs,c=[Vi 3,Vz,lv,Vi 0,Vi 0,Vi 0]/\cB w A 27 6 lv l.length xs/\NL w A l xs g
 |.and l,c,g=>∃lv xs,c=[Vi 4,Vz,lv,Vi 0,Vi 0,Vi 0]/\cB w A 27 6 lv l.length xs/\NL w A l xs g
 |.not p,c,g=>∃lv xs,c=[Vi 5,Vz,lv,Vi 0,Vi 0,Vi 0]/\cB w A 27 6 lv 1 xs/\NV w A p xs g
 |.many p m n,c,g=>∃lv xs,c=[Vi 6,Vz,lv,Vi m,Vi n,Vi 0]/\cB w A 27 6 lv 1 xs/\NV w A p xs g
 |.group p,c,g=>∃lv xs,c=[Vi 7,Vz,lv,Vi 0,Vi 0,Vi g]/\cB w A 27 6 lv 1 xs/\NV w A p xs (g+1)
def NL (w:World)(A:Nat->Prop):List Pat->List Value->Nat->Prop
 | [],xs,_=>xs=[]
 |p::l,xs,g=>∃c r,xs=c++r/\NV w A p c g/\NL w A l r (g+p.groups)
end
def ah (A:Nat->Prop)(w w':World):Prop:=w.heap.size<=w'.heap.size/\∀k,k<w.heap.size->A k->w'.heap[k]?=w.heap[k]?
theorem ah.off (h:Off b w w')(hb:¬A b):ah A w w':=⟨h.size,λk c a=>h.block k c (λe=>hb (e▸a))⟩
theorem ah.below (h:Bw w w'):ah A w w':=⟨h.size,λk a _=>h.block k a⟩
theorem ah.grown {row:Option Nat}(h:w.grownBy w' row)(hr:∀k,row=some k->¬A k):ah A w w':=⟨h.size,λk b a=>h.block k b (λe=>hr k e.symm a)⟩
theorem ah.set {p:Addr}(u:Value)(h:¬A p.block):ah A w (w.setCell p u):=⟨by simp[World.setCell],λk _ a=>zk _ _ _ _ (λe=>h (e▸a))⟩
theorem ah.trans {A:NP}{a b c:World}(h:ah A a b)(k:ah A b c):ah A a c:=⟨zJ h.1 k.1,λi d e=>(k.2 i (zF d h.1) e).trans (h.2 i d e)⟩
theorem ah.refl (A:NP)(w:World):ah A w w:=⟨zA _,λ_ _ _=>rfl⟩
theorem ah.alloc (A:NP)(w:World)(o:Obj):ah A w (w.alloc o):=⟨by simp,λ_ a _=>zS _ _ _ a⟩
theorem ah.drew {A:NP}{a w:World}(h:ah A a w):ah A a w.drew:=h
theorem bP (h:w.ownsRow B e size v n xs)(hk:∀g,v.ownBlock=some g->w'.heap[g]?=w.heap[g]?):w'.ownsRow B e size v n xs:=by
 refine⟨h.1,?_⟩;rcases h.2 with f|⟨g,b,a,rfl,d,c,r⟩
 ·exact .inl f
 ·exact .inr ⟨g,b,a,rfl,d,(hk g rfl).trans c,r⟩
theorem cB.keep (h:cB w A e size v n xs)(k:ah A w w'):cB w' A e size v n xs :=
 ⟨bP h.1 (λg a=>k.2 g (h.1.lt g a).2 (h.2 g a)),h.2⟩
theorem cB.mono (h:cB w A e size v n xs)(k:∀g,g<w.heap.size->A g->A' g):cB w A' e size v n xs :=
 ⟨h.1,λg a=>k g (h.1.lt g a).2 (h.2 g a)⟩
theorem cC.keep {s:LQ}(h:cC w A v s)(k:ah A w w'):cC w' A v s:=by
 obtain⟨q,p,o,c⟩:=h;refine⟨q,p,o,?_⟩;rcases c with c|⟨b,a,f,e,t,j,d,n⟩
 ·exact .inl c
 ·refine .inr ⟨b,a,f,e,t,j,zF d k.1,?_⟩;intro i x y;obtain⟨B,g,z,u,r,m⟩:=n i x y;cases z;have l:=k.2 b d j;exact⟨b,a,rfl,zF d k.1,by rw[zP (w:=w) l];exact r,by rw[zP (w:=w) l];exact m⟩
theorem cC.mono {s:LQ}(h:cC w A v s)(k:∀g,g<w.heap.size->A g->A' g):cC w A' v s:=by
 obtain⟨q,i,l,a⟩:=h;refine⟨q,i,l,?_⟩;rcases a with a|⟨b,c,d,e,j,n,f,m⟩
 ·exact .inl a
 ·exact .inr ⟨b,c,d,e,j,k b f n,f,m⟩
mutual
theorem NV.keep {A:NP}{w w':World}(k:ah A w w'):∀(p:Pat) (c:LV) (g:Nat),NV w A p c g->NV w' A p c g
 |.set s,c,g,h=>by obtain⟨i,e,j⟩:=h;exact⟨i,e,j.keep k⟩
 |.row l,c,g,h=>by obtain⟨b,a,e,f,d⟩:=h;exact⟨b,a,e,f.keep k,NL.keep k l a g d⟩
 |.or l,c,g,h=>by obtain⟨b,a,e,f,d⟩:=h;exact⟨b,a,e,f.keep k,NL.keep k l a g d⟩
 |.and l,c,g,h=>by obtain⟨b,a,e,f,d⟩:=h;exact⟨b,a,e,f.keep k,NL.keep k l a g d⟩
 |.not p,c,g,h=>by obtain⟨b,a,e,f,d⟩:=h;exact⟨b,a,e,f.keep k,NV.keep k p a g d⟩
 |.many p m n,c,g,h=>by obtain⟨b,a,e,f,d⟩:=h;exact⟨b,a,e,f.keep k,NV.keep k p a g d⟩
 |.group p,c,g,h=>by obtain⟨b,a,e,f,d⟩:=h;exact⟨b,a,e,f.keep k,NV.keep k p a (g+1) d⟩
theorem NL.keep {A:NP}{w w':World}(k:ah A w w'):∀(l:List Pat) (xs:LV) (g:Nat),NL w A l xs g->NL w' A l xs g
 | [],xs,g,h=>h
 |p::l,xs,g,h=>by obtain⟨c,r,e,a,b⟩:=h;exact⟨c,r,e,NV.keep k p c g a,NL.keep k l r _ b⟩
end
mutual
theorem NV.mono {A A':NP}{w:World}(k:∀g,g<w.heap.size->A g->A' g):∀(p:Pat) (c:LV) (g:Nat),NV w A p c g->NV w A' p c g
 |.set s,c,g,h=>by obtain⟨i,e,j⟩:=h;exact⟨i,e,j.mono k⟩
 |.row l,c,g,h=>by obtain⟨b,a,e,f,d⟩:=h;exact⟨b,a,e,f.mono k,NL.mono k l a g d⟩
 |.or l,c,g,h=>by obtain⟨b,a,e,f,d⟩:=h;exact⟨b,a,e,f.mono k,NL.mono k l a g d⟩
 |.and l,c,g,h=>by obtain⟨b,a,e,f,d⟩:=h;exact⟨b,a,e,f.mono k,NL.mono k l a g d⟩
 |.not p,c,g,h=>by obtain⟨b,a,e,f,d⟩:=h;exact⟨b,a,e,f.mono k,NV.mono k p a g d⟩
 |.many p m n,c,g,h=>by obtain⟨b,a,e,f,d⟩:=h;exact⟨b,a,e,f.mono k,NV.mono k p a g d⟩
 |.group p,c,g,h=>by obtain⟨b,a,e,f,d⟩:=h;exact⟨b,a,e,f.mono k,NV.mono k p a (g+1) d⟩
theorem NL.mono {A A':NP}{w:World}(k:∀g,g<w.heap.size->A g->A' g):∀(l:List Pat) (xs:LV) (g:Nat),NL w A l xs g->NL w A' l xs g
 | [],xs,g,h=>h
 |p::l,xs,g,h=>by obtain⟨c,r,e,a,b⟩:=h;exact⟨c,r,e,NV.mono k p c g a,NL.mono k l r _ b⟩
end
def Kz (v:Value):Prop:=∃so sn sc,v=.slice so sn sc
theorem mP (h:cB w A e size v n xs):Kz v:=by
 rcases h.1.2 with⟨rfl,_⟩|⟨g,a,b,rfl,_⟩<;>exact⟨_,_,_,rfl⟩
theorem kl {s:LQ}(h:cC w A v s):Kz v:=by
 obtain⟨q,_,_,⟨rfl,_⟩|⟨b,a,c,rfl,_⟩⟩:=h<;>exact⟨_,_,_,rfl⟩
def bT (k:Int)(so:Option Addr)(sn sc:Nat)(lo:Option Addr)(ln lc:Nat)(mm nn rr:Int):List Value:=[Vi k,.slice so sn sc,.slice lo ln lc,Vi mm,Vi nn,Vi rr]
theorem NV.len (h:NV w A p c g):∃k so sn sc lo ln lc m n r,c=bT k so sn sc lo ln lc m n r:=by
 cases p with
 |set s=>obtain⟨i,rfl,f⟩:=h;obtain⟨so,sn,sc,rfl⟩:=kl f;exact⟨_,_,_,_,_,_,_,_,_,_,rfl⟩
 |row l=>obtain⟨d,b,rfl,a,e⟩:=h;obtain⟨so,sn,sc,rfl⟩:=mP a;exact⟨_,_,_,_,_,_,_,_,_,_,rfl⟩
 |or l=>obtain⟨d,b,rfl,a,e⟩:=h;obtain⟨so,sn,sc,rfl⟩:=mP a;exact⟨_,_,_,_,_,_,_,_,_,_,rfl⟩
 |and l=>obtain⟨d,b,rfl,a,e⟩:=h;obtain⟨so,sn,sc,rfl⟩:=mP a;exact⟨_,_,_,_,_,_,_,_,_,_,rfl⟩
 |not p=>obtain⟨d,b,rfl,a,e⟩:=h;obtain⟨so,sn,sc,rfl⟩:=mP a;exact⟨_,_,_,_,_,_,_,_,_,_,rfl⟩
 |many p m n=>obtain⟨d,b,rfl,a,e⟩:=h;obtain⟨so,sn,sc,rfl⟩:=mP a;exact⟨_,_,_,_,_,_,_,_,_,_,rfl⟩
 |group p=>obtain⟨d,b,rfl,a,e⟩:=h;obtain⟨so,sn,sc,rfl⟩:=mP a;exact⟨_,_,_,_,_,_,_,_,_,_,rfl⟩
theorem NV.six (h:NV w A p c g):c.length=6:=by
 obtain⟨k,e,i,b,a,f,d,m,n,r,rfl⟩:=h.len;rfl
theorem NL.snoc {w:World}{A:NP}:∀(l:List Pat) (xs:LV) (g:Nat) (p:Pat) (c:LV),NL w A l xs g->NV w A p c (g+Brm.groupsL l)->NL w A (l++[p]) (xs++c) g
 | [],xs,g,p,c,h,hp=>by
  have:xs=[]:=h;subst this;exact⟨c,[],by simp,by simpa [Brm.groupsL]using hp,rfl⟩
 |q::l,xs,g,p,c,h,hp=>by
  obtain⟨d,r,rfl,b,a⟩:=h;exact⟨d,r++c,by simp,b,NL.snoc l r _ p c a (by simp only[Brm.groupsL]at hp;rw[xG];exact hp)⟩
theorem NL.at {w:World}{A:NP}:∀(l:List Pat) (xs:LV) (g:Nat),NL w A l xs g->∀(i:Nat) (p:Pat),l[i]?=some p->∃c g',NV w A p c g'/\c=(xs.drop (i*6)).take 6
 | [],_,_,_,i,p,hi=>by simp at hi
 |q::l,xs,g,h,0,p,hi=>by
  obtain⟨d,r,rfl,a,b⟩:=h;simp at hi;subst hi;exact⟨d,g,a,by have:=a.six;simp[<-this]⟩
 |q::l,xs,g,h,i+1,p,hi=>by
  obtain⟨d,r,rfl,a,b⟩:=h;obtain⟨c,g',f,e⟩:=NL.at l r _ b i p (by simpa using hi);refine⟨c,g',f,?_⟩;rw[e];have:=a.six;rw[show (i+1)*6=d.length+i*6 from by omega,<-List.drop_drop];simp
set_option maxHeartbeats 400000
set_option maxRecDepth 100000
def UF (w:World)(b:Nat)(lv:Value)(i bad g d m:Int):Prop:=ag w b [lv,Vi i,Vi bad,Vi g,Vi d,Vi m] 76
def te (w:World)(b:Nat)(lv:Value)(l:List Int):Prop:=cB w (λk=>k≠b) 3 1 lv l.length (l.map λc=>Vi c)
def St (w:World)(b:Nat)(lv:Value)(l s:List Int)(g d m:Int):Prop :=
 UF w b lv ((l.length-s.length:Nat):Int) (-1) g d m/\s <:+ l/\te w b lv l/\l.length<=60/\dh l/\0<=g/\g<=((l.length-s.length:Nat):Int)/\0<=d/\d<=((l.length-s.length:Nat):Int)/\0<=m/\m<=((l.length-s.length:Nat):Int)/\d<=m
def gu (w:World)(b:Nat)(lv:Value)(l s:List Int)(d:Int):Prop:=∃i g m:Int,UF w b lv i ((l.length-s.length:Nat):Int) g d m
def aW (s:List Int):Int:=match s with|[]=>-1|c::_=>c
theorem SD (h:te w b lv l):∃ao cap,lv=.slice ao l.length cap/\∀i c,l[i]?=some c->∃bl,ao=some (aD bl 0)/\bl<w.heap.size/\bl≠b/\w.cell? (aD bl i)=some (Vi c):=by
 obtain⟨d,f⟩:=h;rcases d.2 with⟨rfl,e⟩|⟨g,cap,j,rfl,q,m,o,p,n,k⟩
 ·exact⟨none,0,by rw[e],λi c a=>by rw[zq.1 e]at a;simp at a⟩
 ·refine⟨_,cap,rfl,λi c a=>⟨g,rfl,(d.lt g rfl).2,f g rfl,?_⟩⟩;have:=d.cells rfl i (Vi c) (by rw[zg,a];rfl);rw[zl]at this;simpa using this
def oN (w w':World):Prop:=∃n,w'=w.drewN n
theorem uA (w:World)(n:Nat):oN w (w.drewN n):=⟨n,rfl⟩
theorem Ph {b c:World}(h:oN a b)(k:oN b c):oN a c:=by
 obtain⟨n,rfl⟩:=h;obtain⟨m,rfl⟩:=k;exact⟨n+m,by simp[World.drewN,xG]⟩
theorem XC (h:s <:+ l){c:Int}(hs:s=c::t):l[l.length-s.length]?=some c:=by
 obtain⟨p,rfl⟩:=h;subst hs;rw[zH,Nat.add_sub_cancel,yk (zA _),Nat.sub_self];rfl
theorem St.cells {g:Int}(h:St w b lv l s g d m) :
  w.cell? (aD b 0)=some lv/\w.cell? (aD b 1)=some (Vi ((l.length-s.length:Nat):Int))/\w.cell? (aD b 2)=some (Vi (-1))/\w.cell? (aD b 3)=some (Vi g)/\w.cell? (aD b 4)=some (Vi d)/\w.cell? (aD b 5)=some (Vi m)/\b<w.heap.size :=
 ⟨h.1.cell 0,h.1.cell 1,h.1.cell 2,h.1.cell 3,h.1.cell 4,h.1.cell 5,h.1.lt⟩
theorem aM {g:Int}(h:St w b lv l s g d m):Calls prog 98 #[Vp b] w λe w'=>e=.returned (Vi (aW s))/\oN w w':=by
 have q:=aa h;obtain⟨B,i,x,_,_,_,F⟩:=h.cells;obtain⟨C,n,rfl,a⟩:=SD h.2.2.1;have z:=h.2.2.2.1;have p:=h.2.1.length_le;cases s with
 |nil=>
  simp only[zh,Nat.sub_zero]at i;have y:decide ((l.length:Int)<=(l.length:Int))=true:=by simp
  go_enter func98,ntmps98;go_wp2_with fail
  go_quiet (fail)
  go_wp2;go_ret;exact⟨rfl,uA _ _⟩
 |cons c t=>
  have f:=XC q.2.1 rfl;obtain⟨A,rfl,r,o,j⟩:=a _ c f;generalize hk:l.length-(c::t).length=k at i j f;have u:k<l.length:=(zC.1 f).1;have D:(0:Int)<=(k:Int):=zK _;have v:(k:Int)<(l.length:Int):=by omega
  have E:decide ((l.length:Int)<=(k:Int))=false:=by simp;omega
  go_enter func98,ntmps98;go_wp2_with fail
  go_quiet (fail)
  go_wp2_with fail
  go_quiet (fail)
  go_wp2;go_ret;exact⟨rfl,Ph (uA _ _) (uA _ _)⟩
theorem Off.drn (h:oN w w'):Off b w w':=by obtain⟨n,rfl⟩:=h;exact (Off.refl _ _).drewN n
theorem oN.below (h:oN w w'):Bw w w':=by obtain⟨n,rfl⟩:=h;exact aR (zE _ _)
theorem St.drn {g:Int}(h:St w b lv l s g d m)(k:oN w w'):St w' b lv l s g d m:=by obtain⟨n,rfl⟩:=k;exact h
theorem te.off {w w':World}{b:Nat}{lv:Value}{l:LZ}(h:te w b lv l)(k:Off b w w'):te w' b lv l:=cB.keep h (ah.off k (λe=>e rfl))
theorem SF {g:Int}(h:St w b lv l s g d m):-1<=aW s/\aW s<=1114111:=by
 have a:=h.2.2.2.2.1.suf h.2.1;cases s with
 |nil=>exact⟨by simp[aW],by simp[aW]⟩
 |cons c t=>have:=(rune_iff c).1 (a c (by simp));simp only[aW];omega
theorem St.step {c g:Int}(h:St w b lv l (c::t) g d m):St (w.setCell (aD b 1) (Vi (((l.length-(c::t).length:Nat):Int)+1))) b lv l t g d m/\Off b w (w.setCell (aD b 1) (Vi (((l.length-(c::t).length:Nat):Int)+1))):=by
 have i:Off b w (w.setCell (aD b 1) (Vi (((l.length-(c::t).length:Nat):Int)+1))):=(Off.refl _ _).setCell 1 _;have a:=h.2.2.2.2.2;refine⟨⟨?_,(yS c t).trans h.2.1,h.2.2.1.off i,h.2.2.2.1,h.2.2.2.2.1,by simp only[zG]at a;omega⟩,i⟩;have f:=h.1.set 1 (Vi (((l.length-(c::t).length:Nat):Int)+1));have j:=h.2.1.length_le;have e:(((l.length-(c::t).length:Nat):Int)+1)=((l.length-t.length:Nat):Int):=by simp only[zG]at j ⊢;omega
 rw[e]at f ⊢;exact f
theorem St.fail {g:Int}(h:St w b lv l s g d m):gu (w.setCell (aD b 2) (Vi ((l.length-s.length:Nat):Int))) b lv l s d/\Off b w (w.setCell (aD b 2) (Vi ((l.length-s.length:Nat):Int))) :=
 ⟨⟨_,_,_,h.1.set 2 _⟩,(Off.refl _ _).setCell 2 _⟩
theorem gu.off (h:gu w b lv l s d)(k:oN w w'):gu w' b lv l s d:=by obtain⟨n,rfl⟩:=k;exact h
theorem gu.cells (h:gu w b lv l s d):∃i g m:Int,w.cell? (aD b 0)=some lv/\w.cell? (aD b 1)=some (Vi i)/\w.cell? (aD b 2)=some (Vi ((l.length-s.length:Nat):Int))/\w.cell? (aD b 3)=some (Vi g)/\w.cell? (aD b 4)=some (Vi d)/\w.cell? (aD b 5)=some (Vi m)/\b<w.heap.size:=by
 obtain⟨i,g,m,h⟩:=h;exact⟨i,g,m,h.cell 0,h.cell 1,h.cell 2,h.cell 3,h.cell 4,h.cell 5,h.lt⟩
theorem Fj (h:gu w b lv l s d):Calls prog 98 #[Vp b] w λe w'=>e=.returned (Vi (-1))/\oN w w':=by
 obtain⟨i,g,m,c,j,a,_,_,_,n⟩:=h.cells;generalize hk:l.length-s.length=k at a;have f:decide ((0:Int)<=(k:Int))=true:=by simp
 go_enter func98,ntmps98;go_wp2_with fail
 go_quiet (fail)
 go_wp2;go_ret;exact⟨rfl,uA _ _⟩
theorem fQ {g:Int}(h:St w b lv l s g d m):Calls prog 28 #[Vp b] w λe w'=>e=.returned (.tuple #[])/\gu w' b lv l s d/\Off b w w':=by
 have a:=aa h.fail;obtain⟨f,c,j,_,_,_,n⟩:=h.cells;have i:=h.1.frozen 2;generalize hk:l.length-s.length=k at c a;go_enter func28,ntmps28;go_wp2
 go_end0
 exact⟨rfl,a.1,a.2⟩
theorem SG (h:gu w b lv l s d):Calls prog 28 #[Vp b] w λe w'=>e=.returned (.tuple #[])/\w'=w:=by
 obtain⟨i,g,m,c,j,a,_,_,_,n⟩:=h.cells;generalize hk:l.length-s.length=k at a;have f:decide ((k:Int)<0)=false:=by simp
 go_enter func28,ntmps28;go_wp2
 go_end0
 exact⟨rfl,rfl⟩
theorem Jy {c:Int}(h:s.head?≠some c)(hc:0<=c):aW s≠c:=by
 cases s with
 |nil=>simp only[aW];omega
 |cons d t=>simpa [aW]using h
theorem dc {c g:Int}(h:St w b lv l (c::t) g d m)(h0:0<=c)(h1:c<=255):Calls prog 57 #[Vp b,.int .u8 c] w λe w'=>e=.returned (.bool true)/\St w' b lv l t g d m/\Off b w w':=by
 have i:=aa h;go_enter func57,ntmps57;go_wp2_with (go_at_call 98;refine (aM i).mono ?_;rintro e p ⟨rfl,a⟩;have f:=aa (i.drn a).step;have k:=aa (Off.drn (b:=b) a);obtain⟨n,r,q,_,_,_,s⟩:=(i.out.drn a).cells;have o:=(i.drn a).1.frozen 1;have j:=(i.drn a).2.2.2.1;simp only[aW]);go_ret;exact⟨rfl,f.1,k.trans f.2⟩
theorem ep (c:Int){g:Int}(h:St w b lv l s g d m)(h0:0<=c)(h1:c<=255)(hn:s.head?≠some c):Calls prog 57 #[Vp b,.int .u8 c] w λe w'=>e=.returned (.bool false)/\oN w w':=by
 have k:=aa h;have a:=Jy hn h0;generalize hx:aW s=x at a;have j:=aa hx;have i:(x==c)=false:=zD.2 a;go_enter func57,ntmps57;go_wp2_with (go_at_call 98;refine (aM k).mono ?_;rintro e n ⟨rfl,f⟩;rw[j.out]);go_ret;exact⟨rfl,f⟩
theorem takes_bad (b:Nat)(lv:Value)(l s:LZ)(c:Int)(w:World)(h:gu w b lv l s d)(h0:0<=c)(h1:c<=255):Calls prog 57 #[Vp b,.int .u8 c] w λe w'=>e=.returned (.bool false)/\oN w w':=by
 have g:=aa h;have f:((-1:Int)==c)=false:=zD.2 (by omega);go_enter func57,ntmps57;go_wp2_with (go_at_call 98;refine (Fj g).mono ?_;rintro e i ⟨rfl,a⟩);go_ret;exact⟨rfl,a⟩
theorem qG {c g:Int}(h:St w b lv l (c::t) g d m)(h0:0<=c)(h1:c<=255):Calls prog 199 #[Vp b,.int .u8 c] w λe w'=>e=.returned (.tuple #[])/\St w' b lv l t g d m/\Off b w w':=by
 have j:=aa h;go_enter func199,ntmps199;go_wp2_with (go_at_call 57;refine (dc j h0 h1).mono ?_;rintro e n ⟨rfl,a,i⟩;have f:=aa a;have k:=aa i)
 go_end0
 exact⟨rfl,f,k⟩
theorem Bn (c:Int){g:Int}(h:St w b lv l s g d m)(h0:0<=c)(h1:c<=255)(hn:s.head?≠some c):Calls prog 199 #[Vp b,.int .u8 c] w λe w'=>e=.returned (.tuple #[])/\gu w' b lv l s d/\Off b w w':=by
 have n:=aa h;have q:=aa hn;go_enter func199,ntmps199;go_wp2_with (first
  |(go_at_call 57;refine (ep _ n h0 h1 q).mono ?_;rintro e r ⟨rfl,a⟩;have k:=aa (n.drn a);have o:=aa (Off.drn (b:=b) a))
  |(go_at_call 28;refine (fQ k).mono ?_;rintro e t ⟨rfl,f,i⟩;have p:=aa f;have j:=aa i))
 go_end0
 exact⟨rfl,p,o.trans j⟩
theorem wv (c:Int)(h:gu w b lv l s d)(h0:0<=c)(h1:c<=255):Calls prog 199 #[Vp b,.int .u8 c] w λe w'=>e=.returned (.tuple #[])/\gu w' b lv l s d/\oN w w':=by
 have g:=aa h;go_enter func199,ntmps199;go_wp2_with (first
  |(go_at_call 57;refine (takes_bad _ _ _ _ _ _ g h0 h1).mono ?_;rintro e j ⟨rfl,a⟩;have f:=aa (g.off a);have i:=aa a)
  |(go_at_call 28;refine (SG f).mono ?_;rintro e k ⟨rfl,rfl⟩))
 go_end0
 exact⟨rfl,f,i⟩
def el (c:Int)(s:ByteArray):Bool:=s.data.toList.any λx=>(x.toNat:Int)==c
theorem Oy (s:ByteArray)(k:Nat)(h:k<s.size):s.data.toList.take (k+1)=s.data.toList.take k++[s[k]]:=by
 rw[yu (by simpa using h)];rfl
theorem gD (c:Int)(s:ByteArray)(w:World)(hs:s.size<=1000):Calls prog 203 #[Vi c,.string s] w λe w'=>e=.returned (.bool (el c s))/\w'=w:=by
 go_enter func203,ntmps203;go_wp2
 go_loop [5] (λi=>∃k:Nat,k<=s.size/\i=Vi k/\((s.data.toList.take k).any λx=>(x.toNat:Int)==c)=false) (λi=>s.size-(intOf i).toNat)
 case atStart=>exact⟨0,zW _,rfl,rfl⟩
 case round=>
  obtain⟨k,l,rfl,f⟩:=hrel;have d:=aa f;by_cases a:k<s.size
  ·have g:=aa (Oy s k a);have n:(0:Int)<=(s[k].toNat:Int):=zK _;have m:(s[k].toNat:Int)<=255:=by have:=s[k].toNat_lt;omega
   by_cases b:(s[k].toNat:Int)=c
   ·subst b;go_wp2;go_ret;refine⟨eM ?_,rfl⟩;unfold el;symm;rw[List.any_eq_true];exact⟨s[k],by rw[<-zj (k+1) s.data.toList,g.out];simp,by simp⟩
   ·have j:((s[k].toNat:Int)==c)=false:=zD.2 b;have h:=aa j;go_wp2
    go_round
    case rel=>exact⟨k+1,by omega,by go_num,by rw[g.out,List.any_append,d.out];simpa using h.out⟩
    case measure=>simp[intOf];omega
  ·go_wp2;go_ret;exact⟨eM (by unfold el;rw[<-d.out,yF (by simp;omega)]),rfl⟩
theorem sP (c:Int):el c { data:=#[124,38,126,42,43,63,123,125,46,92,91,93,40,41,45,94,110,116,114] }=cQ c:=by
 rw[ze];simp[el,cQ];omega
theorem Bo (c:Int):el c { data:=#[100,119,115,68,87,83] }=cF c:=by
 rw[ze];simp[el,cF];omega
theorem gn (c:Int):el c { data:=#[91,93,92,45,94] }=ej c:=by
 rw[ze];simp[el,ej];omega
theorem lm (c:Int):el c { data:=#[124,38,126,42,43,63,123,125,46,92,91,93,40,41] }=cI c:=by
 rw[ze];simp[el,cI];omega
theorem EX (c:Int)(w:World):Calls prog 221 #[Vi c] w λe w'=>e=.returned (Vi (bU c))/\w'=w:=by
 by_cases a:c=110
 ·subst a;go_enter func221,ntmps221;go_wp2;go_ret;exact⟨rfl,rfl⟩
 ·by_cases d:c=116
  ·subst d;go_enter func221,ntmps221;go_wp2;go_ret;exact⟨rfl,rfl⟩
  ·by_cases b:c=114
   ·subst b;go_enter func221,ntmps221;go_wp2;go_ret;exact⟨rfl,rfl⟩
   ·have g:(c==110)=false:=zD.2 a;have i:(c==116)=false:=zD.2 d;have h:(c==114)=false:=zD.2 b;have f:Hid (bU c=c):=by show bU c=c;unfold bU;rw[zR a,zR d,zR b]
    go_enter func221,ntmps221;go_wp2;go_ret;exact⟨mW f.symm,rfl⟩
def qH (b:Nat)(lv:Value)(l:List Int)(g d m:Int)(r:Res α)(w':World)(P:α->Prop)(Q:Prop):Prop:=match r with|.ok a s=>St w' b lv l s g d m/\P a|.bad s=>gu w' b lv l s d/\Q
theorem eX (least:Int){g:Int}(h:St w b lv l s g d m)(h0:0<=least)(h1:least<=5):Calls prog 205 #[Vp b,Vi least] w λe w'=>∃v,e=.returned v/\Off b w w'/\qH b lv l g d m (ct least s) w' (λn=>v=Vi n) (v=Vi 0):=by
 have k:=aa h;have C:=SF h;by_cases A:∃c t,s=c::t/\48+least<=c/\c<=53
 ·obtain⟨c,t,rfl,I,G⟩:=A;have z:Hid (ct least (c::t)=.ok (c-48) t):=by show _=_;simp only[ct];rw[zX ⟨I,G⟩]
  go_enter func205,ntmps205;go_wp2_with (go_at_call 98;refine (aM k).mono ?_;rintro e F ⟨rfl,a⟩;have f:=aa (k.drn a).step;have r:=aa (Off.drn (b:=b) a);obtain⟨O,M,L,_,_,_,N⟩:=(k.out.drn a).cells;have K:=(k.drn a).1.frozen 1;have D:=(k.drn a).2.2.2.1;simp only[aW]);go_ret;exact⟨_,rfl,r.trans f.2,by rw[z.out];exact⟨f.1,rfl⟩⟩
 ·have z:Hid (ct least s=.bad s):=by
   show _=_
   cases s with
   |nil=>rfl
   |cons c t=>simp only[ct];rw[zR (λq=>A ⟨c,t,rfl,q⟩)]
  have y:¬(48+least<=aW s/\aW s<=53):=by
   intro q;cases s with
   |nil=>simp[aW]at q;omega
   |cons c t=>exact A ⟨c,t,rfl,q⟩
  generalize hx:aW s=x at y C;have E:=aa hx;by_cases p:48+least<=x
  ·have u:¬x<=53:=λq=>y ⟨p,q⟩;have J:decide (x<=53)=false:=by simpa using u
   go_enter func205,ntmps205;go_wp2_with (first
    |(go_at_call 98;refine (aM k).mono ?_;rintro e F ⟨rfl,a⟩;have f:=aa (k.drn a);have r:=aa (Off.drn (b:=b) a);rw[E.out])
    |(go_at_call 28;refine (fQ f).mono ?_;rintro e H ⟨rfl,i,j⟩;have B:=aa i;have o:=aa j))
   go_ret;exact⟨_,rfl,r.trans o,by rw[z.out];exact⟨B,rfl⟩⟩
  ·have J:decide (48+least<=x)=false:=by simpa using p
   go_enter func205,ntmps205;go_wp2_with (first
    |(go_at_call 98;refine (aM k).mono ?_;rintro e F ⟨rfl,a⟩;have f:=aa (k.drn a);have r:=aa (Off.drn (b:=b) a);rw[E.out])
    |(go_at_call 28;refine (fQ f).mono ?_;rintro e H ⟨rfl,i,j⟩;have B:=aa i;have o:=aa j))
   go_ret;exact⟨_,rfl,r.trans o,by rw[z.out];exact⟨B,rfl⟩⟩
def Zd (n:Nat)(g:Nat->Bool):List Value:=(List.range (n+1)).map λj=>.bool (g j)
abbrev XN (n b:Nat):Value:=Vs b (n+1) (n+1)
def Zv (w:World)(B:Nat)(v:Value)(n k:Nat)(f:Nat->Nat->Bool)(r:List Nat):Prop:=r.length=k/\w.ownsRow B 87 1 v k (r.map (XN n))/\r.Nodup/\(∀b∈r,B<=b/\v.ownBlock≠some b)/\∀i b,r[i]?=some b->ag w b (Zd n (f i)) 4
def Zw (w:World)(B:Nat)(v:Value)(n k:Nat)(f:Nat->Nat->Bool):Prop:=∃r:List Nat,Zv w B v n k f r
def Tb (w:World)(B:Nat)(v:Value)(n:Nat)(f:Nat->Nat->Bool):Prop:=Zw w B v n (n+1) f
def upd (f:Nat->Nat->Bool)(i j:Nat)(x:Bool):Nat->Nat->Bool:=λa b=>if a=i then (if b=j then x else f a b)else f a b
def qt (a b:Nat):Bool:=decide (a=b)
def YM (fa fb:Nat->Nat->Bool)(o:Bool)(a b:Nat):Bool:=decide (a<=b)&&((fa a b&&fb a b)||(o&&(fa a b||fb a b)))
def Ty (fa fb:Nat->Nat->Bool)(i K j:Nat):Bool:=(List.range K).any λk=>decide (i<=k)&&decide (k<=j)&&fa i k&&fb k j
def behB (fa fb:Nat->Nat->Bool)(n:Nat)(i j:Nat):Bool:=Ty fa fb i (n+1) j
def aae (fa fb:Nat->Nat->Bool)(n i K j:Nat)(a b:Nat):Bool:=if a<i then behB fa fb n a b else if a=i then (if b<j then Ty fa fb i (K+1) b else Ty fa fb i K b)else false
def Xs (fa:Nat->Nat->Bool)(n:Nat):Nat->Nat->Nat->Bool
 |0=>qt
 |k+1=>behB (Xs fa n k) fa n
def YF (fa:Nat->Nat->Bool)(n:Nat):Nat->Nat->Nat->Bool
 |0=>qt
 |k+1=>YM qt (behB fa (YF fa n k) n) true
open Classical
noncomputable def mT (p:Pat)(l:List Int)(i j:Nat):Bool:=decide (i<=j/\p.Mt (sub l i j))
noncomputable def kC (ps:List Pat)(l:List Int)(i j:Nat):Bool:=decide (i<=j/\jl ps (sub l i j))
noncomputable def rR (ps:List Pat)(l:List Int)(i j:Nat):Bool:=decide (i<=j/\gy ps (sub l i j))
noncomputable def mu (ps:List Pat)(l:List Int)(i j:Nat):Bool:=decide (i<=j/\eG ps (sub l i j))
theorem kD :mT p l i j=true↔i<=j/\p.Mt (sub l i j):=by unfold mT;exact decide_eq_true_iff
theorem QU (hj:j<=l.length):qt i j=kC [] l i j:=by
 rw[ze];unfold qt kC;simp only[zY];constructor
 ·rintro rfl;exact⟨zA _,sub_self _ _⟩
 ·rintro⟨c,b⟩;have a:=uF c hj;rw[show sub l i j=[]from b]at a;simp at a;omega
theorem Xd :mT p l i j=rR [p] l i j:=by
 unfold mT rR;simp only[nO,yQ,exists_eq_left]
theorem UY :mT p l i j=mu [p] l i j:=by
 unfold mT mu;simp only[mj,yQ,forall_eq]
theorem Xe :kC ps l i j=mT (.row ps) l i j:=rfl
theorem Uz :rR ps l i j=mT (.or ps) l i j:=rfl
theorem ND :mu ps l i j=mT (.and ps) l i j:=rfl
theorem Xf :(decide (i<=j)&&!mT p l i j)=mT (.not p) l i j:=by
 rw[ze,kD];simp only[yP,Bool.not_eq_true',zY,<-yI,kD];constructor
 ·rintro⟨a,b⟩;exact⟨a,λh=>b ⟨a,h⟩⟩
 ·rintro⟨a,b⟩;exact⟨a,λh=>b h.2⟩
theorem Eh {s:LQ}(hj:j<=l.length):(match l[i]? with|some c=>decide (j=i+1)&&memB s c|none=>false)=mT (.set s) l i j:=by
 rw[ze,kD];constructor
 ·intro h;cases a:l[i]? with
  |none=>rw[a]at h;cases h
  |some c=>
   rw[a]at h;simp only[yP,zY]at h;obtain⟨rfl,g⟩:=h;exact⟨by omega,c,JM a,g⟩
 ·rintro⟨m,c,f,k⟩;have e:=uF m hj;rw[f]at e;simp at e;have b:j=i+1:=by omega
  subst b;have d:i<l.length:=by omega
  have a:=zB d;have:=JM a;rw[f]at this;simp only[zT,yK]at this;rw[a];simp[<-this,k]
theorem cC.sl {s:LQ}(h:cC w A v s):∃q,PCanon q/\told q=s/\dL w A v q:=h
theorem cC.canon {s:LQ}(h:cC w A v s):Canon s:=by obtain⟨q,a,rfl,_⟩:=h;exact fL a
theorem ul {q s:LQ}(h:dL w A v q)(hq:PCanon q)(e:told q=s):cC w A v s:=⟨q,hq,e,h⟩
theorem nu (q:LQ):(told q).length=q.length:=by simp[told]
theorem EK {a b:LQ}(ha:∀x∈a,okB x=true)(hb:∀x∈b,okB x=true):form (form a++form b)=form (a++b):=by
 have i:=gJ (gm ha).1;have g:=gJ (gm hb).1;have e:∀x∈a++b,okB x=true:=λx f=>by rcases zM.1 f with h|h;exact ha x h;exact hb x h
 have c:∀x∈form a++form b,okB x=true:=λx f=>by rcases zM.1 f with h|h;exact i x h;exact g x h
 refine jC e ⟨(gm c).1,λr d=>?_⟩;rw[(gm c).2 r d,mem_append,mem_append,(gm ha).2 r d,(gm hb).2 r d]
theorem ke {ao:OA}(l:LQ)(cap:Nat)(hcells:Rd w ao l)(hlen:l.length<=1000000)(hok:∀x∈l,okB x=true):Calls prog 236 #[.slice ao l.length cap] w λe w'=>∃v,e=.returned v/\cC w' (λk=>w.heap.size<=k) v (form l)/\Bw w w':=by
 refine (XH cap hcells hlen hok).mono ?_;rintro e w' ⟨v,f,rfl,c,a,d⟩;refine⟨v,rfl,ul c a.1 (jC hok ⟨fL a.1,λr b=>?_⟩),d⟩;rw[gb a.1 r b,a.2.1 r b,zQ]
theorem mR {s:LQ}(h:cC w A v s)(hlen:s.length<=1000000):Calls prog 220 #[v] w λe w'=>∃v',e=.returned v'/\cC w' (λk=>w.heap.size<=k) v' (dT s)/\Bw w w':=by
 obtain⟨q,d,rfl,f⟩:=h;obtain⟨n,b,rfl,a,_⟩:=(dL.sl f).rd;rw[nu]at hlen;refine (Re b a hlen d).mono ?_;rintro e w' ⟨v',rfl,j,⟨c,m,o⟩,l,i⟩;refine⟨v',rfl,ul (sm l (λk g=>g)) c (ve (fL d) (fL c) (λr a=>?_)),i⟩;rw[gb c r a,gb d r a,m _ (BW a).2.1]
theorem xP {u:Value}{s t:LQ}(h:cC w A v s)(h2:cC w A' u t)(hA:∀k,w.heap.size<=k->A k)(hs:s.length<=400000)(ht:t.length<=400000):Calls prog 219 #[v,u] w λe w'=>∃v',e=.returned v'/\cC w' A v' (form (s++t))/\Bw w w':=by
 obtain⟨q,f,rfl,b⟩:=h;obtain⟨p,c,rfl,g⟩:=h2;obtain⟨j,n,rfl,a,_⟩:=(dL.sl g).rd;rw[nu]at hs ht;refine (Zc n b hA a hs ht f c).mono ?_;rintro e w' ⟨v',l,rfl,m,⟨d,h2,z⟩,i⟩;have y:∀x∈told q++told p,okB x=true:=λx o=>by
  rcases zM.1 o with h|h
  ·exact gJ (fL f) x h
  ·exact gJ (fL c) x h
 refine⟨v',rfl,ul m d (jC y ⟨fL d,λr a=>?_⟩),i⟩;rw[gb d r a,h2,mem_append,gb f r a,gb c r a]
theorem sN (w:World)(x y:Int):Rd (w.alloc (.cells #[Vi x,Vi y] 92)) (some (aD w.heap.size 0)) [(x,y)]:=by
 intro i z a
 match i,a with
 |0,a=>simp at a;subst a;exact⟨_,_,rfl,by simp,by simp,by simp⟩
theorem pS (c:Int)(w:World)(hc:runeB c=true):Calls prog 204 #[Vi c] w λe w'=>∃v,e=.returned v/\cC w' (λk=>w.heap.size<=k) v [(c,c)]/\Bw w w':=by
 have d:=aa hc;have g:=(rune_iff c).1 hc;go_enter func204,ntmps204;go_wp2_with (go_at_call 223;refine (PU _ _ (by omega) (by omega)).mono ?_;rintro e w' ⟨rfl,rfl⟩);go_ret;obtain⟨f,a,h⟩:=BW d.out;refine⟨_,rfl,ul (q:=[(up c,up c)]) (.inr ⟨_,0,1,rfl,by simp,zA _,by simp,sN _ _ _⟩) ⟨λx b=>by simp at b;subst b;exact⟨a.1,yv _,a.2⟩,by simp⟩ (by simp[told,f]),(zE _ _).alloc (zA _) _⟩
theorem Vq (w:World):Calls prog 201 #[] w λe w'=>∃v,e=.returned v/\cC w' (λk=>w.heap.size<=k) v tm/\Bw w w':=by
 go_enter func201,ntmps201;go_wp2_with (first
  |(go_at_call 204;refine (pS _ _ (by decide)).mono ?_;rintro e m ⟨n,rfl,d,c⟩;have j:=aa d;have h:=aa c)
  |(go_at_call 220;refine (mR j (by decide)).mono ?_;rintro e o ⟨l,rfl,a,b⟩;have f:=aa a;have g:=aa b))
 go_ret;exact⟨_,rfl,f.mono (λk _ i=>zJ h.size i),h.trans (g.mono h.size)⟩
theorem xp (w:World)(l:LQ):Rd (w.alloc (.cells (aE l).toArray 92)) (some (aD w.heap.size 0)) l:=by
 intro i x b;have a:=jh b;refine⟨_,_,rfl,by simp,?_,?_⟩
 ·rw[(ag.new w (aE l) 92).cell];simpa using a.1
 ·rw[(ag.new w (aE l) 92).cell];simpa using a.2
theorem GU:form [(48,57)]=jI:=by decide
theorem KE:form [(48,57),(65,90),(97,122),(95,95)]=jT:=by decide
theorem GV:form [(9,10),(13,13),(32,32)]=jJ:=by decide
theorem IY (w:World):Calls prog 222 #[Vi 100] w λe w'=>∃v,e=.returned v/\cC w' (λk=>w.heap.size<=k) v jI/\Bw w w':=by
 go_enter func222,ntmps222;go_wp2_with (go_at_call 236;refine (ke [(48,57)] _ (xp w [(48,57)]) (by decide) (by decide)).mono ?_;rintro e i ⟨h,rfl,b,a⟩;have f:=aa b;have g:=aa a);go_ret;have e:=f.out;rw[GU]at e;have c:=((zE _ w).alloc (zA _) _).trans (g.mono (by simp));exact⟨_,rfl,e.mono (λk _ d=>by simp at d;omega),c⟩
theorem IZ (w:World):Calls prog 222 #[Vi 119] w λe w'=>∃v,e=.returned v/\cC w' (λk=>w.heap.size<=k) v jT/\Bw w w':=by
 go_enter func222,ntmps222;go_wp2_with (go_at_call 236;refine (ke [(48,57),(65,90),(97,122),(95,95)] _ (xp w [(48,57),(65,90),(97,122),(95,95)]) (by decide) (by decide)).mono ?_;rintro e i ⟨h,rfl,b,a⟩;have f:=aa b;have g:=aa a);go_ret;have e:=f.out;rw[KE]at e;have c:=((zE _ w).alloc (zA _) _).trans (g.mono (by simp));exact⟨_,rfl,e.mono (λk _ d=>by simp at d;omega),c⟩
theorem Ja (w:World):Calls prog 222 #[Vi 115] w λe w'=>∃v,e=.returned v/\cC w' (λk=>w.heap.size<=k) v jJ/\Bw w w':=by
 go_enter func222,ntmps222;go_wp2_with (go_at_call 236;refine (ke [(9,10),(13,13),(32,32)] _ (xp w [(9,10),(13,13),(32,32)]) (by decide) (by decide)).mono ?_;rintro e i ⟨h,rfl,b,a⟩;have f:=aa b;have g:=aa a);go_ret;have e:=f.out;rw[GV]at e;have c:=((zE _ w).alloc (zA _) _).trans (g.mono (by simp));exact⟨_,rfl,e.mono (λk _ d=>by simp at d;omega),c⟩
theorem US (w:World):Calls prog 222 #[Vi 68] w λe w'=>∃v,e=.returned v/\cC w' (λk=>w.heap.size<=k) v (dT jI)/\Bw w w':=by
 go_enter func222,ntmps222;go_wp2_with (first
  |(go_at_call 222;refine (IY _).mono ?_;rintro e m ⟨l,rfl,c,a⟩;have j:=aa c;have g:=aa a)
  |(go_at_call 220;refine (mR j (by decide)).mono ?_;rintro e o ⟨n,rfl,b,d⟩;have h:=aa b;have f:=aa d))
 go_ret;exact⟨_,rfl,h.mono (λk _ i=>zJ g.size i),g.trans (f.mono g.size)⟩
theorem UT (w:World):Calls prog 222 #[Vi 87] w λe w'=>∃v,e=.returned v/\cC w' (λk=>w.heap.size<=k) v (dT jT)/\Bw w w':=by
 go_enter func222,ntmps222;go_wp2_with (first
  |(go_at_call 222;refine (IZ _).mono ?_;rintro e m ⟨l,rfl,c,a⟩;have j:=aa c;have g:=aa a)
  |(go_at_call 220;refine (mR j (by decide)).mono ?_;rintro e o ⟨n,rfl,b,d⟩;have h:=aa b;have f:=aa d))
 go_ret;exact⟨_,rfl,h.mono (λk _ i=>zJ g.size i),g.trans (f.mono g.size)⟩
theorem UU (w:World):Calls prog 222 #[Vi 83] w λe w'=>∃v,e=.returned v/\cC w' (λk=>w.heap.size<=k) v (dT jJ)/\Bw w w':=by
 go_enter func222,ntmps222;go_wp2_with (first
  |(go_at_call 222;refine (Ja _).mono ?_;rintro e m ⟨l,rfl,c,a⟩;have j:=aa c;have g:=aa a)
  |(go_at_call 220;refine (mR j (by decide)).mono ?_;rintro e o ⟨n,rfl,b,d⟩;have h:=aa b;have f:=aa d))
 go_ret;exact⟨_,rfl,h.mono (λk _ i=>zJ g.size i),g.trans (f.mono g.size)⟩
theorem Nn (c:Int)(w:World)(hc:cF c=true):Calls prog 222 #[Vi c] w λe w'=>∃v,e=.returned v/\cC w' (λk=>w.heap.size<=k) v (eF c)/\Bw w w':=by
 rcases io hc with rfl|rfl|rfl|rfl|rfl|rfl
 ·exact IY w
 ·exact IZ w
 ·exact Ja w
 ·exact US w
 ·exact UT w
 ·exact UU w
set_option maxHeartbeats 4000000
theorem St.below {w w':World}{b:Nat}{lv:Value}{l s:LZ}{g d m:Int}(h:St w b lv l s g d m)(k:Bw w w'):St w' b lv l s g d m :=
 ⟨h.1.below k,h.2.1,cB.keep h.2.2.1 (ah.below k),h.2.2.2⟩
theorem gu.below {w w':World}{b:Nat}{lv:Value}{l s:LZ}{d:Int}(h:gu w b lv l s d)(k:Bw w w'):gu w' b lv l s d:=by
 obtain⟨i,g,m,a⟩:=h;exact⟨i,g,m,a.below k⟩
def Zf (w':World)(A:Nat->Prop)(v:Value)(f:Bool)(r:Int ⊕ List (Int×Int)):Prop:=match r with|.inl a=>f=true/\cC w' A v [(a,a)]/\runeB a=true|.inr L=>f=false/\cC w' A v L
theorem pG {c:Int}(h:cQ c=true):runeB (bU c)=true:=uP (by have:=fJ h;omega) (fJ h).2
theorem FS {q:LZ}{g:Int}{R:Res α}{P:α->Prop}{Q:Prop}(h:gu w b lv l q d)(hr:R=.bad q)(hq:Q):qH b lv l g d m R w P Q:=by
 rw[hr];exact⟨h,hq⟩
theorem JY {q:LZ}{g:Int}{R:Res α}{x:α}{P:α->Prop}{Q:Prop}(h:St w b lv l q g d m)(hr:R=.ok x q)(hp:P x):qH b lv l g d m R w P Q:=by
 rw[hr];exact⟨h,hp⟩
set_option linter.unusedSimpArgs false
theorem fd {g:Int}(h:St w b lv l s g d m):Calls prog 202 #[Vp b,.bool true] w λe w'=>∃v f,e=.returned (.tuple #[v,.bool f])/\Off b w w'/\qH b lv l g d m (dx s) w' (λr=>Zf w' (λk=>w.heap.size<=k) v f r) (v=Vz/\f=false):=by
 have n:=aa h;have q:=aa (Off.refl b w);have j:=h.2.2.2.2.1.suf h.2.1;have I:decide ((0:Int)<=-1)=false:=by decide
 rcases s with _|⟨c,t⟩
 all_goals try
  have H:(0:Int)<=c:=by have:=(rune_iff c).1 j.head;omega
  cases hs:cQ c<;>cases y:cF c
 all_goals clear h j;go_enter func202,ntmps202
 all_goals go_wp2_with (first
  |(go_at_call 98;refine (aM n).mono ?_;rintro e L ⟨rfl,p⟩;replace n:=aa (n.drn p);replace q:=aa (q.trans (Off.drn p));obtain⟨M,K,N,Q,O,J,G⟩:=n.out.cells;have P:=n.1.frozen 1;have z:=n.2.2.2.1;simp only[aW])
  |(go_at_call 203;refine (gD _ _ _ (by decide)).mono ?_;rintro e E ⟨rfl,rfl⟩;simp only[sP,Bo])
  |(go_at_call 221;refine (EX _ _).mono ?_;rintro e E ⟨rfl,rfl⟩)
  |(go_at_call 204;refine (pS _ _ (pG hs)).mono ?_;rintro e D ⟨C,rfl,a,i⟩;have B:=aa a;have o:=aa i)
  |(go_at_call 222;refine (Nn _ _ y).mono ?_;rintro e D ⟨C,rfl,a,i⟩;have B:=aa a;have o:=aa i)
  |(go_at_call 28;refine (fQ n).mono ?_;rintro e R ⟨rfl,u,x⟩;have F:=aa u;replace q:=aa (q.trans x)))
 all_goals go_ret2
 all_goals first
  |exact⟨_,_,rfl,q,FS F (by simp[*,dx]) ⟨rfl,rfl⟩⟩
  |(have S:=n.step;have A:cC _ (λk=>w.heap.size<=k) _ _:=B.mono (λk _ y=>by have:=q.size;simp at y;omega);exact⟨_,_,rfl,(q.trans S.2).trans (Off.below o),JY (S.1.below o) (show _=Res.ok (if cQ c then .inl (bU c)else .inr (eF c)) t by simp[*,dx]) (by simp only[hs];first|exact⟨rfl,A,pG hs⟩|exact⟨rfl,A⟩)⟩)
theorem mM (least:Int){g:Int}(h:St w b lv l s g d m):Calls prog 235 #[Vp b,Vi least] w λe w'=>∃x:Int,e=.returned (Vi x)/\Off b w w'/\qH b lv l g d m (bM least s) w' (λy=>x=y) (x=least):=by
 have f:=aa h;have n:=aa (Off.refl b w);have i:=h.2.2.2.2.1.suf h.2.1;have N:decide ((0:Int)<=-1)=false:=by decide
 have L:ej 92=true:=by decide
 rcases s with _|⟨c,t⟩
 all_goals try
  have M:(0:Int)<=c:=by have:=(rune_iff c).1 i.head;omega
  have j:=i.tail;by_cases p:c=92
 all_goals try
  have D:(c==92)=false:=zD.2 p;cases hi:ej c<;>cases hg:decide (least<=c)
 all_goals try
  subst p;cases hle:decide (least<=126)<;>rcases t with _|⟨r,u⟩
 all_goals try
  have H:(0:Int)<=r:=by have:=(rune_iff r).1 j.head;omega
  cases hs:cQ r<;>cases hge:decide (least<=bU r)
 all_goals try clear j
 all_goals clear h i;go_enter func235,ntmps235
 all_goals go_wp2_with (first
  |(go_at_call 98;refine (aM f).mono ?_;rintro e O ⟨rfl,a⟩;replace f:=aa (f.drn a);replace n:=aa (n.trans (Off.drn a));obtain⟨B,A,C,G,E,z,v⟩:=f.out.cells;have F:=f.1.frozen 1;have k:=f.2.2.2.1;simp only[aW])
  |(go_at_call 98;refine (aM (f.step).1).mono ?_;rintro e K ⟨rfl,a⟩;replace n:=aa ((n.trans f.step.2).trans (Off.drn a));replace f:=aa ((f.step).1.drn a);obtain⟨B,A,C,G,E,z,v⟩:=f.out.cells;have F:=f.1.frozen 1;have k:=f.2.2.2.1;simp only[aW])
  |(go_at_call 203;refine (gD _ _ _ (by decide)).mono ?_;rintro e I ⟨rfl,rfl⟩;simp only[sP,gn])
  |(go_at_call 221;refine (EX _ _).mono ?_;rintro e I ⟨rfl,rfl⟩)
  |(go_at_call 28;refine (fQ f).mono ?_;rintro e P ⟨rfl,o,q⟩;have J:=aa o;replace n:=aa (n.trans q)))
 all_goals go_ret
 all_goals first
  |exact⟨_,rfl,n,FS J (by simp only[yr,zY]at *;simp[*,bM,fu]) rfl⟩
  |(have S:=f.step;exact⟨_,rfl,n.trans S.2,JY S.1 (by simp only[zY]at *;simp[*,bM,fu]) rfl⟩)
theorem sX {a:Int}(h:cC w A v [(a,a)]):∃b1 off1 cap1 x1,v=.slice (some (aD b1 off1)) 1 cap1/\w.cell? (aD b1 off1)=some (Vi x1)/\back x1=a/\0<=x1/\x1<=1112063/\b1<w.heap.size:=by
 obtain⟨q,l,e,i⟩:=h.sl;cases q with
 |nil=>simp[told]at e
 |cons x q=>
  cases q with
  |cons y q=>simp[told]at e
  |nil=>
   simp[told]at e;rcases i with⟨_,k⟩|⟨b1,off1,cap1,rfl,p,_,b,j⟩
   ·cases k
   ·obtain⟨n,d,f,m,g,o⟩:=j 0 x rfl;cases f;have c:=l.1 x (by simp);exact⟨b1,off1,cap1,x.1,rfl,by simpa using g,e.1,c.1,by have:=c.2;omega,b⟩
theorem sY (n:Int)(w:World)(h0:0<=n)(h1:n<=1112063):Calls prog 32 #[Vi n] w λe w'=>e=.returned (Vi (back n))/\w'=w:=FY n w h0 (by omega)
theorem Fh {a:Int}(h:runeB a=true):form [(a,a)]=[(a,a)]:=jf (mo h)
theorem rT (a b:Int):(form [(a,b)]).length<=1:=dr [(a,b)]
theorem nF (w:World)(A:NP):cC w A (Vz) []:=⟨[],pcanon_nil,rfl,.inl ⟨rfl,rfl⟩⟩
def YG (w':World)(A:Nat->Prop)(v:Value):Prop:=∃s0,cC w' A v s0/\s0.length<=1
theorem IF {a:Int}(hal:dh t)(ha:runeB a=true):(t.head?≠some 45/\bS a t=.ok [(a,a)] t)\/(∃u u',t=45::u/\bM a u=.bad u'/\bS a t=.bad u'/\∀x∈[(a,a)],okB x=true)\/∃u u' c,t=45::u/\bM a u=.ok c u'/\bS a t=.ok [(a,c)] u'/\∀x∈[(a,c)],okB x=true:=by
 cases t with
 |nil=>exact .inl ⟨by simp,rfl⟩
 |cons e u=>
  by_cases h:e=45
  ·subst h;have b:=jM (least:=a) hal.tail;cases hs:bM a u with
   |bad q=>exact .inr (.inl ⟨u,q,rfl,hs,by simp only[bS,yd,hs,Res.map],lG ha ha (yv a)⟩)
   |ok c q=>rw[hs]at b;exact .inr (.inr ⟨u,q,c,rfl,hs,by simp only[bS,yd,hs,Res.map],lG ha b.2 b.1⟩)
  ·exact .inl ⟨by simpa using h,by simp only[bS];rw[zR h]⟩
theorem WB (hal:dh s):(s=[]/\cq s=.bad [])\/(∃c t,s=c::t/\(0:Int)<=c/\(c==92)=false/\ej c=true/\cq s=.bad s)\/(∃t q,s=92::t/\dx t=.bad q/\cq s=.bad q)\/(∃t q L,s=92::t/\dx t=.ok (.inr L) q/\cq s=.ok L q)\/∃a q,runeB a=true/\dh q/\cq s=bS a q/\((∃t,s=92::t/\dx t=.ok (.inl a) q)\/(s=a::q/\(0:Int)<=a/\(a==92)=false/\ej a=false)):=by
 cases s with
 |nil=>exact .inl ⟨rfl,rfl⟩
 |cons c t=>
  have f:(0:Int)<=c:=by have:=(rune_iff c).1 hal.head;omega
  by_cases h:c=92
  ·subst h;have b:=qW t;cases he:dx t with
   |bad q=>exact .inr (.inr (.inl ⟨t,q,rfl,he,by simp only[cq,yd,he,Res.bind]⟩))
   |ok r q=>
    rw[he]at b;cases r with
    |inr L=>exact .inr (.inr (.inr (.inl ⟨t,q,L,rfl,he,by simp only[cq,yd,he,Res.bind]⟩)))
    |inl a=>
     refine .inr (.inr (.inr (.inr ⟨a,q,?_,hal.tail.suf b.2,by simp only[cq,yd,he,Res.bind],.inl ⟨t,rfl,he⟩⟩)));cases t with
     |nil=>simp[dx]at he
     |cons e u=>
      simp only[dx]at he
      split at he
      ·rename_i hs;cases he;exact pG hs
      ·split at he<;>cases he
  ·have d:=zD.2 h;cases hi:ej c with
   |true=>exact .inr (.inl ⟨c,t,rfl,f,d,hi,by simp[cq,h,hi]⟩)
   |false=>exact .inr (.inr (.inr (.inr ⟨c,t,hal.head,hal.tail,by simp[cq,h,hi],.inr ⟨rfl,f,d,hi⟩⟩)))
theorem qO {g:Int}(h:St w b lv l s g d m):Calls prog 218 #[Vp b] w λe w'=>∃v,e=.returned v/\Off b w w'/\qH b lv l g d m (cq s) w' (λx=>cC w' (λk=>w.heap.size<=k) v (form x)) (YG w' (λk=>w.heap.size<=k) v):=by
 have f:=aa h;have j:=aa (Off.refl b w);have hd:decide ((0:Int)<=-1)=false:=by decide
 have K:=WB (h.2.2.2.2.1.suf h.2.1);rcases K with⟨rfl,z⟩|⟨c,t,rfl,h0,D,hi,z⟩|⟨t,q,rfl,N,z⟩|⟨t,q,L,rfl,N,z⟩|⟨a,q,y,P,z,⟨t,rfl,N⟩|⟨rfl,h0,D,hi⟩⟩
 all_goals try
  replace y:=aa y;rcases IF P y.out with⟨HN,n⟩|⟨u,q2,rfl,B,n,C⟩|⟨u,q2,X,rfl,B,n,C⟩
 all_goals replace z:=aa z
 all_goals try replace n:=aa n
 all_goals try replace N:=aa N
 all_goals try replace HN:=aa HN
 all_goals try replace B:=aa B
 all_goals try replace C:=aa C
 all_goals try clear P
 all_goals go_enter func218,ntmps218
 all_goals go_wp2_with (first
  |(go_at_call 98;refine (aM f).mono ?_;rintro e wn ⟨rfl,F⟩;replace f:=aa (f.drn F);replace j:=aa (j.trans (Off.drn F));obtain⟨c0,Y,X,Z,c4,c5,hb⟩:=f.out.cells;have hf:=f.1.frozen 1;have S:=f.2.2.2.1;simp only[aW])
  |(go_at_call 203;refine (gD _ _ _ (by decide)).mono ?_;rintro e wa ⟨rfl,rfl⟩;simp only[gn])
  |(go_at_call 28;refine (fQ f).mono ?_;rintro e wf ⟨rfl,Q,O⟩;replace f:=aa Q;replace j:=aa (j.trans O))
  |(go_at_call 202;refine (fd f.step.1).mono ?_;rintro e we ⟨v1,f1,rfl,V,A⟩;have HW:=aa j.size;replace j:=aa ((j.trans f.step.2).trans V);rw[N.out]at A;first
   |(obtain⟨i,rfl,rfl⟩:=A;replace f:=aa i)
   |(obtain⟨i,rfl,r,_⟩:=A;obtain⟨b1,a3,a4,x1,rfl,a5,I,a2,a0,E⟩:=sX r;have a1:=aa I;replace f:=aa i;obtain⟨c0,Y,X,Z,c4,c5,hb⟩:=f.out.cells)
   |(obtain⟨i,rfl,r⟩:=A;have G:=aa r;replace f:=aa i))
  |(go_at_call 32;refine (sY _ _ a2 a0).mono ?_;rintro e wb ⟨rfl,rfl⟩;rw[a1.out])
  |(go_at_call 57;(try (have _:=D;replace j:=aa (j.trans f.step.2);replace f:=aa f.step.1));first
   |(refine (ep _ f (by decide) (by decide) HN).mono ?_;rintro e wt ⟨rfl,p⟩;replace j:=aa (j.trans (Off.drn p));replace f:=aa (f.drn p))
   |(refine (dc f (by decide) (by decide)).mono ?_;rintro e wt ⟨rfl,p,H⟩;replace j:=aa (j.trans H);replace f:=aa p))
  |(go_at_call 235;refine (mM _ f).mono ?_;rintro e ws ⟨xs,rfl,J,U⟩;replace j:=aa (j.trans J);rw[B.out]at U;obtain⟨i,rfl⟩:=U;replace f:=aa i)
  |(go_at_call 236;refine (ke [(_,_)] _ (sN _ _ _) (by simp) C).mono ?_;rintro e wo ⟨v2,rfl,R,T⟩;have G:=aa R;have o:=aa T)
  |(go_at_call 204;refine (pS _ _ y).mono ?_;rintro e wo ⟨v1,rfl,M,E⟩;have G:=aa M;have o:=aa E))
 all_goals go_ret
 all_goals first
  |exact⟨_,rfl,j,FS f z ⟨[],nF _ _,by simp⟩⟩
  |exact⟨_,rfl,j,JY f z (by show cC _ _ _ (form _);rw[jf G.out.canon];exact G.mono (λk _ W=>by have:=HW.out;simp[World.setCell]at W;omega))⟩
  |exact⟨_,rfl,j.trans (Off.below o),JY (f.below o) (z.trans n) (by show cC _ _ _ (form _);rw[Fh y.out];exact G.mono (λk _ W=>by have:=j.size;omega))⟩
  |(refine⟨_,rfl,j.trans ((Off.refl _ _).alloc _ |>.trans (Off.below o)),?_⟩;have HX:cC _ (λk=>w.heap.size<=k) _ _:=G.mono (λk _ W=>by have:=j.size;simp at W;omega);first|exact FS ((f.below ((zE _ _).alloc (zA _) _)).below o) (z.trans n) ⟨_,HX,rT _ _⟩|exact JY ((f.below ((zE _ _).alloc (zA _) _)).below o) (z.trans n) HX)
def YR (w:World)(b:Nat)(lv:Value)(l:List Int)(g d m:Int)(R:Res (List (Int×Int)))(k:Nat)(v:Value)(wr:World):Prop :=
 Off b w wr/\((∃l0 s0,St wr b lv l s0 g d m/\cC wr (λk=>w.heap.size<=k) v (form l0)/\ba k l0 s0=R/\(∀x∈l0,okB x=true)/\l0.length+5*s0.length<=400/\s0.length<k) \/
  (∃s' t',gu wr b lv l s' d/\R=.bad s'/\cC wr (λk=>w.heap.size<=k) v t'/\t'.length<=500))
def YS (b:Nat)(lv:Value)(l:List Int)(g d m:Int)(w w':World)(v:Value)(f:List (Int×Int)->List (Int×Int))(R:Res (List (Int×Int))):Prop :=
 Off b w w'/\qH b lv l g d m (R.map f) w' (λx=>cC w' (λk=>w.heap.size<=k) v x) (Kz v)
theorem pC:∀(n:Nat) (l:LQ) (s:LZ),s.length<n->ba n l s=ba (n+1) l s
 |0,_,s,h=>by omega
 |n+1,l,s,h=>by
  rw[ba,ba]
  split
  ·rfl
  ·have a:=fT s;cases hi:cq s with
   |bad s'=>rfl
   |ok x s'=>
    rw[hi]at a;have:=a.1;exact pC n _ s' (by omega)
theorem Iu {s1:LZ}{g:Int}{f:List (Int×Int)->List (Int×Int)}(h:St w b lv l s g d m)(hk:(94::s1=s/\f=λx=>dT (form x))\/(s1=s/\s1.head?≠some 94/\f=form)):Calls prog 200 #[Vp b] w λe w'=>∃v,e=.returned v/\YS b lv l g d m w w' v f (ba (s1.length+2) [] s1):=by
 have i:=aa (Off.refl b w);have Q:=aa h.1.lt;have a8:=h.2.2.2.1;have a1:=h.2.1.length_le;generalize X:ba (s1.length+2) [] s1=R;have Y:=aa X;rcases hk with⟨rfl,hf⟩|⟨rfl,hn,hf⟩
 all_goals
  try (have HN:=aa hn)
  have j:=aa h;have HF:=aa hf;go_enter func200,ntmps200;go_wp2_with (go_at_call 57;first|(refine (dc j (by decide) (by decide)).mono ?_;rintro e wt ⟨rfl,a,p⟩;replace j:=aa a;replace i:=aa (i.trans p))|(refine (ep _ j (by decide) (by decide) HN).mono ?_;rintro e wt ⟨rfl,a⟩;replace j:=aa (j.drn a);replace i:=aa (i.trans (Off.drn a))))
  go_loopg [4] (s1.length+2) (λk v wr=>YR w b lv l g d m R k v wr)
  case atStart=>exact⟨i,.inl ⟨[],s1,j,nF _ _,Y,by simp,by simp at a1 ⊢;omega,by omega⟩⟩
  case round=>
   obtain⟨ho,L⟩:=hrel;have i:=aa ho;rcases L with⟨M,s0,c,r,o,P,a0,hk⟩|⟨s',t',t,X,r,ht⟩
   ·obtain⟨c0,c1,c2,c3,c4,c5,hb⟩:=c.cells;have B:=c.2.2.2.2.1.suf c.2.1;have a9:=dr M;have j:=aa c;have C:=aa r;have V:=aa P;have a5:=aa a0;have H:Hid ((form M).length<=1000000):=by show _<=_;omega
    obtain⟨k',rfl⟩:∃k',gk=k'+1:=⟨gk-1,by omega⟩;rw[ba]at o
    split at o<;>rename_i h93
    ·obtain⟨u,rfl⟩:∃u,s0=93::u:=⟨_,eZ h93⟩;have S:Hid (R.map f=.ok (f M) u):=by
      show _=_
      rw[<-o];rfl
     go_wp2_with (first
      |(go_at_call 57;refine (dc j (by decide) (by decide)).mono ?_;rintro e wt ⟨rfl,a,p⟩;replace j:=aa a;replace i:=aa (i.trans p);replace C:=aa (C.keep (ah.off p (yz Q))))
      |(go_at_call 220;refine (mR C H).mono ?_;rintro e wz ⟨v4,rfl,q,z⟩;have K:=aa q;have A:=aa z))
     go_ret
     first
      |exact⟨_,rfl,i.trans (Off.below A),by rw[S.out,HF.out];exact⟨j.below A,K.mono (λk _ hk=>by have:=i.size;omega)⟩⟩
      |exact⟨_,rfl,i,by rw[S.out,HF.out];exact⟨j,C⟩⟩
    ·have T:=aa h93;have F:=kO B;have I:=fT s0;have a3:Hid ((form M).length<=400000):=by show _<=_;omega
     cases hi:cq s0 with
      |ok x s2=>?_
      |bad s2=>?_
     all_goals
      have a4:=aa hi;rw[hi]at F I o;have HE:=aa o
      try have G:=aa F
      try have a7:=aa I.1
      try have a2:Hid ((form x).length<=400000):=by have:=dr x;have:=F.2;show _<=_;simp at this;omega
      go_wp2_with (first
       |(go_at_call 57;refine (ep _ j (by decide) (by decide) T).mono ?_;rintro e wt ⟨rfl,a⟩;replace j:=aa (j.drn a);replace i:=aa (i.trans (Off.drn a));replace C:=aa (C.keep (ah.below a.below)))
       |(go_at_call 218;refine (qO j).mono ?_;rintro e wi ⟨vi,rfl,E,J⟩;have a6:=aa (C.keep (ah.off E (yz Q)));replace i:=aa (i.trans E);have HZ:=aa E.size;rw[a4.out]at J;first|(obtain⟨c,n⟩:=J;replace j:Hid (St _ b lv l _ g d m):=(by with_reducible exact aa c);have HX:=aa n)|(obtain⟨c,t2,n,b1⟩:=J;have Z:=aa c;have HX:=aa n))
       |(go_at_call 219;refine (xP a6 HX (λk hk=>zJ i.size hk) a3 (by first|exact a2|omega)).mono ?_;rintro e b0 ⟨v3,rfl,W,O⟩;have U:=aa W;have D:=aa O))
      go_roundg k'
      case measure=>omega
     ·refine⟨i.trans (Off.below D),.inl ⟨M++x,s2,j.below D,?_,HE,?_,?_,?_⟩⟩
      ·rw[<-EK V.out G.out.1];exact U
      ·intro y N;rcases zM.1 N with N|N
       ·exact V y N
       ·exact G.1 y N
      ·have:=a5.out;have:=G.2;rw[zH];omega
      ·have:=a7.out;omega
     ·refine⟨i.trans (Off.below D),.inr ⟨s2,_,Z.below D,HE.symm,U,?_⟩⟩;have h3:=dr (form M++t2);rw[zH]at h3;omega
   ·obtain⟨i0,g0,m0,c0,c1,c2,c3,c4,c5,hb⟩:=t.cells;have Z:=aa t;have C:=aa r;have S:Hid (R.map f=.bad s'):=by show _=_;rw[X];rfl
    have H:Hid (t'.length<=1000000):=by show _<=_;omega
    generalize l.length-s'.length=kk at c2;have hd:decide ((kk:Int)<0)=false:=by simp
    go_wp2_with (go_at_call 220;refine (mR C H).mono ?_;rintro e wz ⟨v4,rfl,q,z⟩;have K:=aa q;have A:=aa z);go_ret
    first
     |exact⟨_,rfl,i.trans (Off.below A),by rw[S.out];exact⟨Z.below A,kl K⟩⟩
     |exact⟨_,rfl,i,by rw[S.out];exact⟨Z,kl C⟩⟩
theorem tA {g:Int}(h:St w b lv l s g d m):Calls prog 200 #[Vp b] w λe w'=>∃v,e=.returned v/\Off b w w'/\qH b lv l g d m (cJ s) w' (λx=>cC w' (λk=>w.heap.size<=k) v x) (Kz v):=by
 unfold cJ;by_cases a:s.head?=some 94
 ·obtain⟨c,rfl⟩:∃t,s=94::t:=⟨_,eZ a⟩;rw[zX a];exact Iu h (.inl ⟨rfl,rfl⟩)
 ·rw[zR a,pC (s.length+1) [] s (by omega)];exact Iu h (.inr ⟨rfl,a,rfl⟩)
theorem Lu {g:Int}(h:St w b lv l s g d m):Calls prog 185 #[Vp b] w λe w'=>∃x y:Int,e=.returned (.tuple #[Vi x,Vi y])/\Off b w w'/\qH b lv l g d m (bh s) w' (λmn=>x=mn.1/\y=mn.2) True:=by
 have i:=aa h;have c:=aa (Off.refl b w);have E:=rA 0 s;cases hr1:ct 0 s with
 |bad s1=>
  have D:Hid (bh s=.bad s1):=by show _=_;unfold bh;rw[hr1];rfl
  have p:=aa hr1;go_enter func185,ntmps185;go_wp2_with (first
   |(go_at_call 205;refine (eX _ i (by decide) (by decide)).mono ?_;rintro e wc ⟨v,rfl,f,a⟩;replace c:=aa (c.trans f);rw[p.out]at a;obtain⟨a,rfl⟩:=a;have B:=aa a)
   |(go_at_call 57;refine (takes_bad _ _ _ _ _ _ B (by decide) (by decide)).mono ?_;rintro e I ⟨rfl,j⟩;replace B:=aa (B.off j);replace c:=aa (c.trans (Off.drn j)))
   |(go_at_call 199;refine (wv _ B (by decide) (by decide)).mono ?_;rintro e H ⟨rfl,k,n⟩;replace B:=aa k;replace c:=aa (c.trans (Off.drn n))))
  go_ret2
  exact⟨_,_,rfl,c,by rw[D.out];exact⟨B,trivial⟩⟩
 |ok m0 s1=>
  rw[hr1]at E;simp only at E;obtain⟨L,O⟩:=E;have p:=aa hr1;by_cases C:s1.head?=some 44
  ·obtain⟨t,rfl⟩:∃t,s1=44::t:=⟨_,eZ C⟩;by_cases q:t.head?=some 125
   ·obtain⟨u,rfl⟩:∃u,t=125::u:=⟨_,eZ q⟩;have D:Hid (bh s=.ok (m0,-1) u):=by show _=_;unfold bh;rw[hr1];rfl
    go_enter func185,ntmps185;go_wp2_with (first
     |(go_at_call 205;refine (eX _ i (by decide) (by decide)).mono ?_;rintro e wc ⟨v,rfl,f,a⟩;replace c:=aa (c.trans f);rw[p.out]at a;obtain⟨a,rfl⟩:=a;replace i:=aa a)
     |(go_at_call 57;refine (dc i (by decide) (by decide)).mono ?_;rintro e I ⟨rfl,j,z⟩;replace i:=aa j;replace c:=aa (c.trans z))
     |(go_at_call 98;refine (aM i).mono ?_;rintro e N ⟨rfl,o⟩;replace i:=aa (i.drn o);replace c:=aa (c.trans (Off.drn o));simp only[aW])
     |(go_at_call 199;refine (qG i (by decide) (by decide)).mono ?_;rintro e H ⟨rfl,k,n⟩;replace i:=aa k;replace c:=aa (c.trans n)))
    go_ret2
    exact⟨_,_,rfl,c,by rw[D.out];exact⟨i,rfl,rfl⟩⟩
   ·have P:=aa (Jy q (by decide));have Q:(aW t==125)=false:=zD.2 P;have K:∃x,aW t=x:=⟨_,rfl⟩;obtain⟨x,F⟩:=K;rw[F]at Q;have G:=aa F;cases hr2:ct m0 t with
    |bad s2=>
     have D:Hid (bh s=.bad s2):=by show _=_;unfold bh;rw[hr1];simp only[Res.bind,yx,yd,yt,zR q,hr2]
     have A:=aa hr2;go_enter func185,ntmps185;go_wp2_with (first
      |(go_at_call 205;refine (eX _ i (by decide) (by decide)).mono ?_;rintro e wc ⟨v,rfl,f,a⟩;replace c:=aa (c.trans f);rw[p.out]at a;obtain⟨a,rfl⟩:=a;replace i:=aa a)
      |(go_at_call 57;refine (dc i (by decide) (by decide)).mono ?_;rintro e I ⟨rfl,j,z⟩;replace i:=aa j;replace c:=aa (c.trans z))
      |(go_at_call 98;refine (aM i).mono ?_;rintro e N ⟨rfl,o⟩;replace i:=aa (i.drn o);replace c:=aa (c.trans (Off.drn o));rw[G.out])
      |(go_at_call 205;refine (eX _ i L O).mono ?_;rintro e wc ⟨v,rfl,f,a⟩;replace c:=aa (c.trans f);rw[A.out]at a;obtain⟨a,rfl⟩:=a;have B:=aa a)
      |(go_at_call 199;refine (wv _ B (by decide) (by decide)).mono ?_;rintro e H ⟨rfl,k,n⟩;replace B:=aa k;replace c:=aa (c.trans (Off.drn n))))
     go_ret2
     exact⟨_,_,rfl,c,by rw[D.out];exact⟨B,trivial⟩⟩
    |ok n0 s2=>
     have A:=aa hr2;by_cases r:s2.head?=some 125
     ·obtain⟨u,rfl⟩:∃u,s2=125::u:=⟨_,eZ r⟩;have D:Hid (bh s=.ok (m0,n0) u):=by show _=_;unfold bh;rw[hr1];simp only[Res.bind,yx,yd,yt,zR q,hr2,bV]
      go_enter func185,ntmps185;go_wp2_with (first
       |(go_at_call 205;refine (eX _ i (by decide) (by decide)).mono ?_;rintro e wc ⟨v,rfl,f,a⟩;replace c:=aa (c.trans f);rw[p.out]at a;obtain⟨a,rfl⟩:=a;replace i:=aa a)
       |(go_at_call 57;refine (dc i (by decide) (by decide)).mono ?_;rintro e I ⟨rfl,j,z⟩;replace i:=aa j;replace c:=aa (c.trans z))
       |(go_at_call 98;refine (aM i).mono ?_;rintro e N ⟨rfl,o⟩;replace i:=aa (i.drn o);replace c:=aa (c.trans (Off.drn o));rw[G.out])
       |(go_at_call 205;refine (eX _ i L O).mono ?_;rintro e wc ⟨v,rfl,f,a⟩;replace c:=aa (c.trans f);rw[A.out]at a;obtain⟨a,rfl⟩:=a;replace i:=aa a)
       |(go_at_call 199;refine (qG i (by decide) (by decide)).mono ?_;rintro e H ⟨rfl,k,n⟩;replace i:=aa k;replace c:=aa (c.trans n)))
      go_ret2
      exact⟨_,_,rfl,c,by rw[D.out];exact⟨i,rfl,rfl⟩⟩
     ·have D:Hid (bh s=.bad s2):=by show _=_;unfold bh;rw[hr1];simp only[Res.bind,yx,yd,yt,zR q,hr2,bV,zR r]
      have M:=aa r;go_enter func185,ntmps185;go_wp2_with (first
       |(go_at_call 205;refine (eX _ i (by decide) (by decide)).mono ?_;rintro e wc ⟨v,rfl,f,a⟩;replace c:=aa (c.trans f);rw[p.out]at a;obtain⟨a,rfl⟩:=a;replace i:=aa a)
       |(go_at_call 57;refine (dc i (by decide) (by decide)).mono ?_;rintro e I ⟨rfl,j,z⟩;replace i:=aa j;replace c:=aa (c.trans z))
       |(go_at_call 98;refine (aM i).mono ?_;rintro e N ⟨rfl,o⟩;replace i:=aa (i.drn o);replace c:=aa (c.trans (Off.drn o));rw[G.out])
       |(go_at_call 205;refine (eX _ i L O).mono ?_;rintro e wc ⟨v,rfl,f,a⟩;replace c:=aa (c.trans f);rw[A.out]at a;obtain⟨a,rfl⟩:=a;replace i:=aa a)
       |(go_at_call 199;refine (Bn _ i (by decide) (by decide) M).mono ?_;rintro e H ⟨rfl,k,n⟩;have B:=aa k;replace c:=aa (c.trans n)))
      go_ret2
      exact⟨_,_,rfl,c,by rw[D.out];exact⟨B,trivial⟩⟩
  ·have J:=aa C;by_cases r:s1.head?=some 125
   ·obtain⟨u,rfl⟩:∃u,s1=125::u:=⟨_,eZ r⟩;have D:Hid (bh s=.ok (m0,m0) u):=by show _=_;unfold bh;rw[hr1];rfl
    go_enter func185,ntmps185;go_wp2_with (first
     |(go_at_call 205;refine (eX _ i (by decide) (by decide)).mono ?_;rintro e wc ⟨v,rfl,f,a⟩;replace c:=aa (c.trans f);rw[p.out]at a;obtain⟨a,rfl⟩:=a;replace i:=aa a)
     |(go_at_call 57;refine (ep _ i (by decide) (by decide) J).mono ?_;rintro e I ⟨rfl,j⟩;replace i:=aa (i.drn j);replace c:=aa (c.trans (Off.drn j)))
     |(go_at_call 199;refine (qG i (by decide) (by decide)).mono ?_;rintro e H ⟨rfl,k,n⟩;replace i:=aa k;replace c:=aa (c.trans n)))
    go_ret2
    exact⟨_,_,rfl,c,by rw[D.out];exact⟨i,rfl,rfl⟩⟩
   ·have D:Hid (bh s=.bad s1):=by show _=_;unfold bh;rw[hr1];simp only[Res.bind,zR C,bV,zR r]
    have M:=aa r;go_enter func185,ntmps185;go_wp2_with (first
     |(go_at_call 205;refine (eX _ i (by decide) (by decide)).mono ?_;rintro e wc ⟨v,rfl,f,a⟩;replace c:=aa (c.trans f);rw[p.out]at a;obtain⟨a,rfl⟩:=a;replace i:=aa a)
     |(go_at_call 57;refine (ep _ i (by decide) (by decide) J).mono ?_;rintro e I ⟨rfl,j⟩;replace i:=aa (i.drn j);replace c:=aa (c.trans (Off.drn j)))
     |(go_at_call 199;refine (Bn _ i (by decide) (by decide) M).mono ?_;rintro e H ⟨rfl,k,n⟩;have B:=aa k;replace c:=aa (c.trans n)))
    go_ret2
    exact⟨_,_,rfl,c,by rw[D.out];exact⟨B,trivial⟩⟩
def kZ (b:Nat)(lv:Value)(l:List Int)(g:Nat)(d m:Int)(r:Res Pat)(w w':World)(c:List Value):Prop :=
 Off b w w'/\match r with
 |.ok p s=>NV w' (λk=>w.heap.size<=k) p c g/\St w' b lv l s ((g+p.groups:Nat):Int) d (max m (d+p.deep))
 |.bad s=>gu w' b lv l s d
def bJ (F:Nat)(b:Nat)(lv:Value)(l:List Int)(g:Nat)(d m:Int)(r:Res Pat)(w:World):Prop :=
 Calls prog F #[Vp b] w λe w'=>∃k so sn sc lo ln lc mm nn rr,e=.returned (.agg #[Vi k,.slice so sn sc,.slice lo ln lc,Vi mm,Vi nn,Vi rr]) /\
  kZ b lv l g d m r w w' (bT k so sn sc lo ln lc mm nn rr)
def ld (n:Nat):Prop:=∀(b:Nat) (lv:Value) (l s:List Int) (g:Nat) (d m:Int) (w:World),St w b lv l s g d m->s.length<n->bJ 27 b lv l g d m (aU false n s) w
theorem St.setD {g:Int}(h:St w b lv l s g d m)(x:Int)(h0:0<=x)(h1:x<=m):St (w.setCell (aD b 4) (Vi x)) b lv l s g x m :=
 ⟨h.1.set 4 _,h.2.1,h.2.2.1.off ((Off.refl _ _).setCell 4 _),h.2.2.2.1,h.2.2.2.2.1,by have:=h.2.2.2.2.2;omega⟩
theorem St.deeper {g:Int}(h:St w b lv l s g d m)(h1:d+1<=((l.length-s.length:Nat):Int)):St ((w.setCell (aD b 4) (Vi (d+1))).setCell (aD b 5) (Vi (max m (d+1)))) b lv l s g (d+1) (max m (d+1)) :=
 ⟨(h.1.set 4 _).set 5 _,h.2.1,h.2.2.1.off (((Off.refl _ _).setCell 4 _).setCell 5 _),h.2.2.2.1,h.2.2.2.2.1,by have:=h.2.2.2.2.2;omega⟩
theorem St.setG {g:Int}(h:St w b lv l s g d m)(x:Int)(h0:0<=x)(h1:x<=((l.length-s.length:Nat):Int)):St (w.setCell (aD b 3) (Vi x)) b lv l s x d m :=
 ⟨h.1.set 3 _,h.2.1,h.2.2.1.off ((Off.refl _ _).setCell 3 _),h.2.2.2.1,h.2.2.2.2.1,h0,h1,h.2.2.2.2.2.2.2⟩
theorem St.facts {g:Int}(h:St w b lv l s g d m):0<=g/\g<=60/\0<=d/\d<=60/\0<=m/\m<=60:=by
 have:=h.2.2.2.2.2;have:=h.2.2.2.1;omega
theorem St.drew {w:World}{b:Nat}{lv:Value}{l s:LZ}{g d m:Int}(h:St w b lv l s g d m):St w.drew b lv l s g d m:=h
theorem St.new {g:Int}(h:St w b lv l s g d m)(o:Obj):St (w.alloc o) b lv l s g d m:=h.below ((zE _ _).alloc (zA _) _)
abbrev put6 (w:World)(r:Nat)(c0 c1 c2 c3 c4 c5:Value):World:=(((((w.setCell (aD r 0) c0).setCell (aD r 1) c1).setCell (aD r 2) c2).setCell (aD r 3) c3).setCell (aD r 4) c4).setCell (aD r 5) c5
theorem ag.put6 {w:World}{b r:Nat}{cs:LV}{T:TypeId}(h:ag w b cs T)(hr:b≠r)(c0 c1 c2 c3 c4 c5:Value):ag (put6 w r c0 c1 c2 c3 c4 c5) b cs T :=
 (((((h.setOther hr _).setOther hr _).setOther hr _).setOther hr _).setOther hr _).setOther hr _
theorem Off.put6 {b r:Nat}{a w:World}(h:Off b a w)(hr:a.heap.size<=r)(c0 c1 c2 c3 c4 c5:Value):Off b a (put6 w r c0 c1 c2 c3 c4 c5) :=
 (((((h.setNew hr _).setNew hr _).setNew hr _).setNew hr _).setNew hr _).setNew hr _
theorem ah.put6 {A:NP}{a w:World}{r:Nat}(h:ah A a w)(hr:¬A r)(c0 c1 c2 c3 c4 c5:Value):ah A a (put6 w r c0 c1 c2 c3 c4 c5) :=
 (((((h.trans (ah.set _ hr)).trans (ah.set _ hr)).trans (ah.set _ hr)).trans (ah.set _ hr)).trans (ah.set _ hr)).trans (ah.set _ hr)
theorem St.move {w0:World}{g:Int}(h0:te w0 b lv l)(ho:Off b w0 w2)(h1:St w1 b lv l s g d m)(h2:UF w2 b lv ((l.length-s.length:Nat):Int) (-1) g d m):St w2 b lv l s g d m :=
 ⟨h2,h1.2.1,h0.off ho,h1.2.2.2⟩
theorem aQ (h:ag w r Zq 27):(w.cell? (aD r 0)=some (Vi 0)/\w.cell? (aD r 1)=some (Vz)/\w.cell? (aD r 2)=some (Vz)/\w.cell? (aD r 3)=some (Vi 0)/\w.cell? (aD r 4)=some (Vi 0)/\w.cell? (aD r 5)=some (Vi 0)) /\
  (w.frozen? (aD r 0)=false/\w.frozen? (aD r 1)=false/\w.frozen? (aD r 2)=false/\w.frozen? (aD r 3)=false/\w.frozen? (aD r 4)=false/\w.frozen? (aD r 5)=false)/\r<w.heap.size :=
 ⟨⟨h.cell 0,h.cell 1,h.cell 2,h.cell 3,h.cell 4,h.cell 5⟩,⟨h.frozen 0,h.frozen 1,h.frozen 2,h.frozen 3,h.frozen 4,h.frozen 5⟩,h.lt⟩
theorem Cb (ih:ld n)(h:St w b lv l s g d m)(hn:s.length<n)(hd:d+1<=((l.length-s.length:Nat):Int))(p:Pat)(s':LZ)(hr:aU false n s=.ok p s'):Calls prog 198 #[Vp b] w λe w'=>∃k so sn sc lo ln lc mm nn rr,e=.returned (.agg #[Vi k,.slice so sn sc,.slice lo ln lc,Vi mm,Vi nn,Vi rr]) /\
   Off b w w'/\NV w' (λk=>w.heap.size<=k) p (bT k so sn sc lo ln lc mm nn rr) g/\St w' b lv l s' ((g+p.groups:Nat):Int) d (max m (d+(p.deep+1))):=by
 have I:=aa h;have HD:=aa hd;obtain⟨f1,f2,f3,f4,f5,f6⟩:=h.facts;obtain⟨B,D,C,M,G,L,hb⟩:=h.cells;have i:=h.1.frozen 4;have z:=h.1.frozen 5;have HR:=aa hr;go_enter func198,ntmps198;go_wp2_with fail
 go_region
 go_wp2_with fail;have u:=aa (((I.deeper HD).new Zo).drew);have S:=aa (ag.new ((w.setCell (aD b 4) (Vi (d+1))).setCell (aD b 5) (Vi (max m (d+1)))) Zq 27).drew;refine (ih b lv l s g (d+1) (max m (d+1)) _ u hn).mono ?_;rintro e H ⟨k,so,sn,sc,lo,ln,lc,mm,nn,rr,rfl,c,j⟩;rw[HR.out]at j;obtain⟨o,f⟩:=j;have R:=aa o;have a:=aa f;have A:=aa c;have x:=aa (S.off (w':=H) c (by simp;omega));obtain⟨B,D,C,M,G,L,T⟩:=a.out.cells;have i:=a.1.frozen 4;obtain⟨⟨F,K,Q,P,O,J⟩,⟨U,V,X,Z,y4,Y⟩,t⟩:=aQ x.out;simp at F K Q P O J U V X Z y4 Y t;go_wp2_with fail;refine zN (v:=.agg #[Vi k,.slice so sn sc,.slice lo ln lc,Vi mm,Vi nn,Vi rr]) (by simp[results,results198,go_sem,F,K,Q,P,O,J,t]) rfl ⟨k,so,sn,sc,lo,ln,lc,mm,nn,rr,rfl,?_⟩;have y:Off b w H:=Off.trans ((((Off.refl b w).setCell 4 _).setCell 5 _).alloc _).drew A;have N:=((y.setCell 4 (Vi d)).put6 (r:=w.heap.size) (zA _) (Vi k) (.slice so sn sc) (.slice lo ln lc) (Vi mm) (Vi nn) (Vi rr)).alloc (.cells #[Vi k,.slice so sn sc,.slice lo ln lc,Vi mm,Vi nn,Vi rr] 27);have W:=((a.1.set 4 (Vi d)).put6 (r:=w.heap.size) (by omega) (Vi k) (.slice so sn sc) (.slice lo ln lc) (Vi mm) (Vi nn) (Vi rr)).alloc (.cells #[Vi k,.slice so sn sc,.slice lo ln lc,Vi mm,Vi nn,Vi rr] 27);have e:max (max m (d+1)) (d+1+(p.deep:Int))=max m (d+((p.deep:Int)+1)):=by omega
 have E:=a.setD d (by omega) (by have:=a.2.2.2.2.2;omega);rw[e]at E;refine⟨N,?_,St.move I.2.2.1 N E (by rw[<-e];exact W)⟩;refine NV.mono (λq _ hq=>by simp at hq;omega) p _ g (NV.keep ?_ p _ g R);exact (((ah.set _ (by simp;omega)).put6 (r:=w.heap.size) (by simp) _ _ _ _ _ _)).trans (ah.alloc _ _ _)
theorem KC (ih:ld n)(h:St w b lv l s g d m)(hn:s.length<n)(hd:d+1<=((l.length-s.length:Nat):Int))(s':LZ)(hr:aU false n s=.bad s'):Calls prog 198 #[Vp b] w λe w'=>∃k so sn sc lo ln lc mm nn rr,e=.returned (.agg #[Vi k,.slice so sn sc,.slice lo ln lc,Vi mm,Vi nn,Vi rr]) /\
   Off b w w'/\gu w' b lv l s' d:=by
 have Q:=aa h;have HD:=aa hd;obtain⟨f1,f2,f3,f4,f5,f6⟩:=h.facts;obtain⟨H,L,K,W,q,V,hb⟩:=h.cells;have i:=h.1.frozen 4;have y:=h.1.frozen 5;have HR:=aa hr;go_enter func198,ntmps198;go_wp2_with fail
 go_region
 go_wp2_with fail;have o:=aa (((Q.deeper HD).new Zo).drew);have M:=aa (ag.new ((w.setCell (aD b 4) (Vi (d+1))).setCell (aD b 5) (Vi (max m (d+1)))) Zq 27).drew;refine (ih b lv l s g (d+1) (max m (d+1)) _ o hn).mono ?_;rintro e B ⟨k,so,sn,sc,lo,ln,lc,mm,nn,rr,rfl,a,f⟩;rw[HR.out]at f;have u:=aa f;have z:=aa a;have p:=aa (M.off (w':=B) a (by simp;omega));obtain⟨J,I,R,c⟩:=u.out;have q:=c.cell 4;have i:=c.frozen 4;have N:=c.lt;have x:=aa c;simp at q;obtain⟨⟨A,D,G,F,E,C⟩,⟨O,P,T,X,Y,U⟩,j⟩:=aQ p.out;simp at A D G F E C O P T X Y U j;go_wp2_with fail;refine zN (v:=.agg #[Vi k,.slice so sn sc,.slice lo ln lc,Vi mm,Vi nn,Vi rr]) (by simp[results,results198,go_sem,A,D,G,F,E,C,j]) rfl ⟨k,so,sn,sc,lo,ln,lc,mm,nn,rr,rfl,?_⟩;have t:Off b w B:=Off.trans ((((Off.refl b w).setCell 4 _).setCell 5 _).alloc _).drew z;have Z:=((t.setCell 4 (Vi d)).put6 (r:=w.heap.size) (zA _) (Vi k) (.slice so sn sc) (.slice lo ln lc) (Vi mm) (Vi nn) (Vi rr)).alloc (.cells #[Vi k,.slice so sn sc,.slice lo ln lc,Vi mm,Vi nn,Vi rr] 27);have S:=((x.set 4 (Vi d)).put6 (r:=w.heap.size) (by omega) (Vi k) (.slice so sn sc) (.slice lo ln lc) (Vi mm) (Vi nn) (Vi rr)).alloc (.cells #[Vi k,.slice so sn sc,.slice lo ln lc,Vi mm,Vi nn,Vi rr] 27);exact⟨Z,J,I,R,S⟩
theorem BC (h:ag w y cs 27)(hl:cs.length=6)(hA:A y):cB w A 27 6 (Vs y 1 1) 1 cs:=by
 refine⟨⟨by omega,.inr ⟨y,1,cs.toArray,rfl,zW _,h,zA _,by unfold maxLen;omega,by simp[hl],?_⟩⟩,λg a=>?_⟩
 ·simp only[Nat.one_mul];rw[yF (by simp[hl])]
 ·simp[Value.ownBlock]at a;exact a▸hA
theorem qh {x:LQ}(h0:St w1 b lv l s g d m)(hv:cC w1 (λk=>B<=k) (.slice so sn sc) x)(hB:w.heap.size<B)(hb:b<w.heap.size)(ho:Off b w w1)(ht:te w b lv l)
  (e:w2=put6 w1 w.heap.size (Vi 1) (.slice so sn sc) (Vz) (Vi 0) (Vi 0) (Vi 0)):kZ b lv l g d m (.ok (.set x) s) w w2 (bT 1 so sn sc none 0 0 0 0 0):=by
 subst e;have f:=ho.put6 (r:=w.heap.size) (zA _) (Vi 1) (.slice so sn sc) (Vz) (Vi 0) (Vi 0) (Vi 0);have c:max m (d+((Pat.set x).deep:Int))=m:=by have:=h0.2.2.2.2.2;simp[Pat.deep];omega
 have a:((g+(Pat.set x).groups:Nat):Int)=g:=by simp[Pat.groups]
 refine⟨f,⟨_,rfl,?_⟩,?_⟩
 ·exact (hv.keep ((ah.refl _ w1).put6 (r:=w.heap.size) (by simp;omega) (Vi 1) (.slice so sn sc) (Vz) (Vi 0) (Vi 0) (Vi 0))).mono (λq _ h=>by omega)
 ·rw[c,a];exact St.move ht f h0 (h0.1.put6 (r:=w.heap.size) (by omega) (Vi 1) (.slice so sn sc) (Vz) (Vi 0) (Vi 0) (Vi 0))
theorem mY (h0:gu w1 b lv l s d)(hb:b<w.heap.size)(ho:Off b w w1)
  (e:w2=put6 w1 w.heap.size c0 c1 c2 c3 c4 c5):kZ b lv l g d m (.bad s) w w2 c:=by
 subst e;obtain⟨i,f,a,h⟩:=h0;exact⟨ho.put6 (r:=w.heap.size) (zA _) _ _ _ _ _ _,i,f,a,h.put6 (r:=w.heap.size) (by omega) _ _ _ _ _ _⟩
theorem wZ 
  (hk:(s=[]/\R=.bad [])\/(∃t,s=46::t/\R=.ok (.set tm) t)\/(∃c t,s=c::t/\runeB c=true/\¬c=40/\¬c=91/\¬c=46/\¬c=92/\((cI c=true/\R=.bad (c::t))\/(cI c=false/\R=.ok (.set [(c,c)]) t))))
  (h:St w b lv l s g d m):bJ 184 b lv l g d m R w:=by
 unfold bJ;have r:=aa h.1.lt;obtain⟨f1,f2,f3,f4,f5,f6⟩:=h.facts;have a0:=h.1.lt;rcases hk with⟨rfl,rfl⟩|⟨t,rfl,rfl⟩|⟨c,t,rfl,J,U,P,M,T,⟨hs,rfl⟩|⟨hs,rfl⟩⟩
 all_goals
  try (have b1:=zD.2 U;have b2:=zD.2 P;have b3:=zD.2 M;have b4:=zD.2 T;have hr:=(rune_iff c).1 J;have h0:(0:Int)<=c:=(by omega);have HC:=aa J)
  have j:=aa h;go_enter func184,ntmps184;go_wp2_with fail;refine (aM (j.new Zo)).mono ?_;rintro e I ⟨rfl,a⟩;simp only[aW];have p:=aa ((j.new Zo).drn a);have O:Hid (Off b w I):=((Off.refl b w).alloc Zo).trans (Off.drn a);have u:=aa ((ag.new w Zq 27).off (c:=b) (Off.drn a) (by omega));have C:Hid (w.heap.size+1<=I.heap.size):=by have:=(Off.drn (b:=b) a).size;show _<=_;simp at this;omega
  obtain⟨c0,c1,c2,c3,Y,c5,hb⟩:=p.out.cells;have H:=p.1.frozen 1;have x:=p.1.frozen 3;have q:=p.2.2.2.1;go_wp2_with fail;have B:Hid (∀v,w.heap.size<(I.setCell (aD b 1) v).heap.size):=λv=>by have:=C.out;simp[World.setCell];omega
  try (refine (gD _ _ _ (by decide)).mono ?_;rintro e wa ⟨rfl,rfl⟩;simp only[lm];go_wp2_with fail)
  first
   |(refine (fQ p).mono ?_;rintro e E ⟨rfl,i,n⟩;have HB:=aa i;have k:Hid (Off b w E):=O.trans n;replace u:=aa (u.off n (by omega)))
   |((first|refine (Vq _).mono ?_|refine (pS _ _ HC).mono ?_);rintro e E ⟨v1,rfl,o,f⟩;have S:=p.step;have z:=aa (S.1.below f);have k:Hid (Off b w E):=(O.trans S.2).trans (Off.below f);obtain⟨Q,V,N,rfl⟩:=kl o;have HV:=aa o;replace u:=aa ((u.off S.2 (by omega)).below f))
  obtain⟨⟨D,K,y,A,L,G⟩,⟨Z,y1,X,W,y4,y5⟩,F⟩:=aQ u.out
  try simp at D K y A L G Z y1 X W y4 y5 F
  go_wp2_with fail
  first
   |(refine zN (v:=.agg #[Vi 1,.slice Q V N,Vz,Vi 0,Vi 0,Vi 0]) (by simp[results,results184,go_sem,D,K,y,A,L,G]) rfl ⟨1,Q,V,N,none,0,0,0,0,0,rfl,?_⟩;exact qh z HV (B _) r k j.2.2.1 rfl)
   |(refine zN (v:=.agg #[Vi 0,Vz,Vz,Vi 0,Vi 0,Vi 0]) (by simp[results,results184,go_sem,D,K,y,A,L,G]) rfl ⟨0,none,0,0,none,0,0,0,0,0,rfl,?_⟩;exact mY HB r k rfl)
theorem ub {t':LZ}{c:Int}
  (hk:(∃a,c=92/\dx t=.ok (.inl a) t'/\R=.ok (.set [(a,a)]) t')\/(∃L,c=92/\dx t=.ok (.inr L) t'/\R=.ok (.set L) t')\/(∃L,c=91/\cJ t=.ok L t'/\R=.ok (.set L) t')\/(c=92/\dx t=.bad t'/\R=.bad t')\/(c=91/\cJ t=.bad t'/\R=.bad t'))
  (h:St w b lv l (c::t) g d m):bJ 184 b lv l g d m R w:=by
 unfold bJ;have u:=aa h.1.lt;obtain⟨f1,f2,f3,f4,f5,f6⟩:=h.facts;have a0:=h.1.lt;rcases hk with⟨a,rfl,n,rfl⟩|⟨L,rfl,n,rfl⟩|⟨L,rfl,n,rfl⟩|⟨rfl,n,rfl⟩|⟨rfl,n,rfl⟩
 all_goals
  have k:=aa h;have o:=aa n;go_enter func184,ntmps184;go_wp2_with fail;refine (aM (k.new Zo)).mono ?_;rintro e D ⟨rfl,j⟩;simp only[aW];have q:=aa ((k.new Zo).drn j);have Z:Hid (Off b w D):=((Off.refl b w).alloc Zo).trans (Off.drn j);have x:=aa ((ag.new w Zq 27).off (c:=b) (Off.drn j) (by omega));have B:Hid (w.heap.size+1<=D.heap.size):=by have:=(Off.drn (b:=b) j).size;show _<=_;simp at this;omega
  obtain⟨c0,V,c2,c3,c4,W,hb⟩:=q.out.cells;have F:=q.1.frozen 1;have C:=q.1.frozen 3;have p:=q.2.2.2.1;go_wp2_with fail;have S:=q.step;have A:Hid (∀v,w.heap.size<(D.setCell (aD b 1) v).heap.size):=λv=>by have:=B.out;simp[World.setCell];omega
  have r:=aa S.1;have z:Hid (Off b w _):=Z.trans S.2;replace x:=aa (x.off S.2 (by omega))
  first
   |(refine (fd r).mono ?_;rintro e O ⟨I,f1,rfl,i,f⟩;rw[o.out]at f)
   |(refine (tA r).mono ?_;rintro e O ⟨I,rfl,i,f⟩;rw[o.out]at f)
  have y:Hid (Off b w O):=z.trans i;replace x:=aa (x.off i (by omega));obtain⟨P,M,N,rfl⟩:Kz I:=by first|exact kl f.2.2.1|exact kl f.2.2|exact kl f.2|exact⟨_,_,_,f.2.1⟩|exact f.2
  try obtain rfl:=f.2.1
  try obtain rfl:=f.2.2
  have s:=aa f;obtain⟨⟨J,T,K,H,G,Q⟩,⟨U,Y,y2,y3,y4,X⟩,E⟩:=aQ x.out
  try simp at J T K H G Q U Y y2 y3 y4 X E
  go_wp2_with fail;refine zN (v:=.agg #[Vi 1,.slice P M N,Vz,Vi 0,Vi 0,Vi 0]) (by simp[results,results184,go_sem,J,T,K,H,G,Q]) rfl ⟨1,P,M,N,none,0,0,0,0,0,rfl,?_⟩
  first
   |exact mY s.1 u y rfl
   |exact qh s.1 (by first|exact s.2.2.1|exact s.2.2|exact s.2) (A _) u y k.2.2.1 rfl
theorem Ep (h0:gu w1 b lv l s d)(hb:b<w.heap.size)(ho:Off b w w1)
  (e:w2=(put6 w1 w.heap.size c0 c1 c2 c3 c4 c5).alloc o):kZ b lv l g d m (.bad s) w w2 c:=by
 subst e;obtain⟨i,f,a,h⟩:=h0;exact⟨(ho.put6 (r:=w.heap.size) (zA _) _ _ _ _ _ _).alloc _,i,f,a,(h.put6 (r:=w.heap.size) (by omega) _ _ _ _ _ _).alloc _⟩
theorem bK (h:ag w r (bT k so sn sc lo ln lc mm nn rr) 27):(w.cell? (aD r 0)=some (Vi k)/\w.cell? (aD r 1)=some (.slice so sn sc)/\w.cell? (aD r 2)=some (.slice lo ln lc)/\w.cell? (aD r 3)=some (Vi mm)/\w.cell? (aD r 4)=some (Vi nn)/\w.cell? (aD r 5)=some (Vi rr))/\r<w.heap.size :=
 ⟨⟨h.cell 0,h.cell 1,h.cell 2,h.cell 3,h.cell 4,h.cell 5⟩,h.lt⟩
theorem Cg (w:World)(r:Nat)(c0 c1 c2 c3 c4 c5:Value):(put6 w r c0 c1 c2 c3 c4 c5).heap.size=w.heap.size:=by simp[World.setCell]
theorem Rh {wm:World}{g0:Nat}
  (hnv:NV wm A p (bT k so sn sc lo ln lc mm nn rr) g0) (hA:∀q,A q->w.heap.size<q) (hs:w.heap.size<=wm.heap.size)
  (e:w2=(put6 wm w.heap.size c0 c1 c2 c3 c4 c5).alloc (.cells #[Vi k,.slice so sn sc,.slice lo ln lc,Vi mm,Vi nn,Vi rr] 27)) :
  cB w2 (λq=>w.heap.size<=q) 27 6 (Vs wm.heap.size 1 1) 1 (bT k so sn sc lo ln lc mm nn rr)/\NV w2 (λq=>w.heap.size<=q) p (bT k so sn sc lo ln lc mm nn rr) g0:=by
 subst e;constructor
 ·have a:=ag.new (put6 wm w.heap.size c0 c1 c2 c3 c4 c5) (bT k so sn sc lo ln lc mm nn rr) 27;rw[Cg]at a;exact BC a rfl hs
 ·exact NV.mono (λq _ b=>by have:=hA q b;omega) p _ g0 (NV.keep (((ah.refl A wm).put6 (r:=w.heap.size) (λh=>by have:=hA _ h;omega) _ _ _ _ _ _).trans (ah.alloc _ _ _)) p _ g0 hnv)
theorem Ri {u:LZ}(ih:ld n)(hn:t.length<n)
  (hk:(∃p,aU false n t=.ok p (41::u)/\R=.ok (.group p) u)\/(∃p,aU false n t=.ok p u/\R=.bad u/\u.head?≠some 41)\/(aU false n t=.bad u/\R=.bad u))
  (h:St w b lv l (40::t) g d m):bJ 184 b lv l g d m R w:=by
 unfold bJ;have T:=aa h.1.lt;obtain⟨f1,f2,f3,f4,f5,f6⟩:=h.facts;have a6:=h.1.lt;rcases hk with⟨p,he,rfl⟩|⟨p,he,rfl,Q⟩|⟨he,rfl⟩
 all_goals
  try (have HN:=aa Q)
  have E:=aa h;have X:=aa he;go_enter func184,ntmps184;go_wp2_with fail;refine (aM (E.new Zo)).mono ?_;rintro e wn ⟨rfl,j⟩;simp only[aW];have B:=aa ((E.new Zo).drn j);have HO:Hid (Off b w wn):=((Off.refl b w).alloc Zo).trans (Off.drn j);have A:=aa ((ag.new w Zq 27).off (c:=b) (Off.drn j) (by omega));have a3:Hid (w.heap.size+1<=wn.heap.size):=by have:=(Off.drn (b:=b) j).size;show _<=_;simp at this;omega
  obtain⟨c0,c1,c2,c3,c4,c5,hb⟩:=B.out.cells;have a5:=B.1.frozen 1;have a2:=B.1.frozen 3;have Y:=B.2.2.2.1;go_wp2_with fail;have S:=B.step;have O:Hid (∀v v',w.heap.size<((wn.setCell (aD b 1) v).setCell (aD b 3) v').heap.size):=λv v'=>by have:=a3.out;simp[World.setCell];omega
  have W:=B.2.2.2.2.2;have U:=B.2.1.length_le;simp only[zG]at W U;have e1:((g+1:Nat):Int)=(g:Int)+1:=by omega
  have S2:=S.1.setG ((g:Int)+1) (by omega) (by omega);rw[<-e1]at S2;have N:=aa S2;have HD:Hid (d+1<=((l.length-t.length:Nat):Int)):=by show _<=_;omega
  have a1:Hid (Off b w _):=(HO.trans S.2).trans ((Off.refl b _).setCell 3 (Vi ((g:Int)+1)));replace A:=aa ((A.off S.2 (by omega)).off ((Off.refl b _).setCell 3 (Vi ((g:Int)+1))) (by omega))
  first
   |(refine (Cb ih N hn HD p _ X).mono ?_;rintro e w1 ⟨k,L,z,F,J,D,G,H,x,I,rfl,f,a0,M⟩;have K:=aa a0)
   |(refine (KC ih N hn HD _ X).mono ?_;rintro e w1 ⟨k,L,z,F,J,D,G,H,x,I,rfl,f,M⟩)
  have y:=aa M;have V:Hid (Off b w w1):=a1.trans f;replace A:=aa ((A.off f (by omega)).alloc (.cells #[Vi k,.slice L z F,.slice J D G,Vi H,Vi x,Vi I] 27));have HX:=aa (ag.new w1 (bT k L z F J D G H x I) 27);go_wp2_with fail
  first
   |(refine (qG (y.new (.cells #[Vi k,.slice L z F,.slice J D G,Vi H,Vi x,Vi I] 27)) (by decide) (by decide)).mono ?_;rintro e o ⟨rfl,i,a⟩)
   |(refine (Bn _ (y.new (.cells #[Vi k,.slice L z F,.slice J D G,Vi H,Vi x,Vi I] 27)) (by decide) (by decide) HN).mono ?_;rintro e o ⟨rfl,i,a⟩)
   |(refine (wv _ (y.below ((zE _ _).alloc (zA _) (.cells #[Vi k,.slice L z F,.slice J D G,Vi H,Vi x,Vi I] 27))) (by decide) (by decide)).mono ?_;rintro e o ⟨rfl,i,P⟩;have a:Off b _ o:=Off.drn P)
  have C:=aa i;have s:Hid (Off b w o):=(V.alloc _).trans a;replace A:=aa (A.off a (by omega));have a4:w1.heap.size≠b:=by have:=V.size;omega
  replace HX:=aa (HX.off a a4)
  try replace K:=aa (NV.keep ((ah.alloc _ _ _).trans (ah.off a (yz (Nat.lt_trans T (O _ _))))) p _ _ K)
  obtain⟨⟨x0,x1,x2,x3,x4,x5⟩,hx⟩:=bK HX.out;obtain⟨⟨z0,z1,z2,z3,z4,z5⟩,⟨y0,y1,y2,y3,y4,y5⟩,Z⟩:=aQ A.out
  try simp at z0 z1 z2 z3 z4 z5 y0 y1 y2 y3 y4 y5 Z
  go_wp2_with fail;refine zN (v:=.agg #[Vi 7,Vz,Vs o.heap.size 1 1,Vi 0,Vi 0,Vi g]) (by simp[results,results184,go_sem,z0,z1,z2,z3,z4,z5,Z]) rfl ⟨7,none,0,0,some (aD o.heap.size 0),1,1,0,0,g,rfl,?_⟩
  try exact Ep C T s rfl
 have HF:=(s.put6 (r:=w.heap.size) (zA _) (Vi 7) (Vz) (Vs o.heap.size 1 1) (Vi 0) (Vi 0) (Vi g)).alloc (.cells #[Vi k,.slice L z F,.slice J D G,Vi H,Vi x,Vi I] 27);obtain⟨o1,o2⟩:=Rh (w:=w) K.out (λq hq=>zF (O.out _ _) hq) s.out.size rfl;refine⟨HF,⟨_,_,rfl,o1,o2⟩,?_⟩;have e2:((g+(Pat.group p).groups:Nat):Int)=((g+1+p.groups:Nat):Int):=by simp[Pat.groups];omega
 have e3:((Pat.group p).deep:Int)=(p.deep:Int)+1:=by simp[Pat.deep]
 rw[e2,e3];exact St.move E.2.2.1 HF C ((C.1.put6 (r:=w.heap.size) (by omega) _ _ _ _ _ _).alloc _)
theorem Sa (ih:ld n)(h:St w b lv l s g d m)(hn:s.length<=n):bJ 184 b lv l g d m (dy (aU false n) s) w:=by
 have o:=h.2.2.2.2.1.suf h.2.1;cases s with
 |nil=>exact wZ (.inl ⟨rfl,rfl⟩) h
 |cons c t=>
  simp only[zG]at hn;simp only[dy];by_cases k:c=40
  ·subst k;simp only[yd];cases hr:aU false n t with
   |bad u=>exact Ri ih (by omega) (.inr (.inr ⟨hr,rfl⟩)) h
   |ok p u=>
    simp only[Res.bind,bV];by_cases i:u.head?=some 41
    ·rw[zX i];obtain⟨v,rfl⟩:∃v,u=41::v:=⟨_,eZ i⟩;exact Ri ih (by omega) (.inl ⟨p,hr,rfl⟩) h
    ·rw[zR i];exact Ri ih (by omega) (.inr (.inl ⟨p,hr,rfl,i⟩)) h
  ·rw[zR k];by_cases e:c=91
   ·subst e;rw[zX rfl];cases hr:cJ t with
    |bad u=>exact ub (.inr (.inr (.inr (.inr ⟨rfl,hr,rfl⟩)))) h
    |ok L u=>exact ub (.inr (.inr (.inl ⟨L,rfl,hr,rfl⟩))) h
   ·rw[zR e];by_cases j:c=46
    ·subst j;rw[zX rfl];exact wZ (.inr (.inl ⟨t,rfl,rfl⟩)) h
    ·rw[zR j];by_cases f:c=92
     ·subst f;rw[zX rfl];cases hr:dx t with
      |bad u=>exact ub (.inr (.inr (.inr (.inl ⟨rfl,hr,rfl⟩)))) h
      |ok r u=>
       cases r with
       |inl a=>exact ub (.inl ⟨a,rfl,hr,rfl⟩) h
       |inr L=>exact ub (.inr (.inl ⟨L,rfl,hr,rfl⟩)) h
     ·rw[zR f];by_cases q:cI c=true
      ·rw[zX q];exact wZ (.inr (.inr ⟨c,t,rfl,o.head,k,e,j,f,.inl ⟨q,rfl⟩⟩)) h
      ·rw[zR q];exact wZ (.inr (.inr ⟨c,t,rfl,o.head,k,e,j,f,.inr ⟨by simpa using q,rfl⟩⟩)) h
def UE (w:World)(X:Nat)(b:Nat)(lv:Value)(l:List Int)(g:Nat)(d m:Int)(R:Res Pat)(j:Nat)(wr:World):Prop :=
 Off b w wr/\ag wr w.heap.size Zq 27/\∃k so sn sc lo ln lc mm nn rr,ag wr X (bT k so sn sc lo ln lc mm nn rr) 27 /\
  ((∃p s0,NV wr (λq=>w.heap.size<q/\q≠X) p (bT k so sn sc lo ln lc mm nn rr) g/\St wr b lv l s0 ((g+p.groups:Nat):Int) d (max m (d+p.deep))/\aY j p s0=R/\s0.length<j)\/(∃s',gu wr b lv l s' d/\R=.bad s'))
theorem Sb {s0:LZ}
  (hnv:NV wr (λq=>w.heap.size<q/\q≠X) p (bT k so sn sc lo ln lc mm nn rr) g) (hst:St wr b lv l s0 ((g+p.groups:Nat):Int) d (max m (d+p.deep))) (ho:Off b w wr) (hb:b<w.heap.size) (ht:te w b lv l)
  (e:w2=put6 wr w.heap.size (Vi k) (.slice so sn sc) (.slice lo ln lc) (Vi mm) (Vi nn) (Vi rr)):kZ b lv l g d m (.ok p s0) w w2 (bT k so sn sc lo ln lc mm nn rr):=by
 subst e;have a:=ho.put6 (r:=w.heap.size) (zA _) (Vi k) (.slice so sn sc) (.slice lo ln lc) (Vi mm) (Vi nn) (Vi rr);refine⟨a,?_,St.move ht a hst (hst.1.put6 (r:=w.heap.size) (by omega) _ _ _ _ _ _)⟩;exact NV.mono (λq _ c=>by omega) p _ g (NV.keep ((ah.refl _ wr).put6 (r:=w.heap.size) (λh=>by omega) _ _ _ _ _ _) p _ g hnv)
theorem oH {wx:World}{m0 n0:Int}
  (hnv:NV wx (λq=>w.heap.size<q/\q≠X) p (bT k so sn sc lo ln lc mm nn rr) g) (hX:X<wx.heap.size) (hw:w.heap.size<wx.heap.size)
  (e:w2=(put6 wx X (Vi 6) (Vz) (Vs wx.heap.size 1 1) (Vi m0) (Vi n0) (Vi 0)).alloc (.cells #[Vi k,.slice so sn sc,.slice lo ln lc,Vi mm,Vi nn,Vi rr] 27)) :
  NV w2 (λq=>w.heap.size<q/\q≠X) (.many p m0 n0) (bT 6 none 0 0 (some (aD wx.heap.size 0)) 1 1 m0 n0 0) g:=by
 subst e;have a:=ag.new (put6 wx X (Vi 6) (Vz) (Vs wx.heap.size 1 1) (Vi m0) (Vi n0) (Vi 0)) (bT k so sn sc lo ln lc mm nn rr) 27;rw[Cg]at a;refine⟨_,_,rfl,BC a rfl ⟨hw,by omega⟩,?_⟩;exact NV.keep (((ah.refl _ wx).put6 (r:=X) (λh=>h.2 rfl) _ _ _ _ _ _).trans (ah.alloc _ _ _)) p _ g hnv
theorem oI {T:TypeId}(h:ag w r cs T)(hl:cs.length=6)(c0 c1 c2 c3 c4 c5:Value):ag (put6 w r c0 c1 c2 c3 c4 c5) r [c0,c1,c2,c3,c4,c5] T:=by
 have:=(((((h.set 0 c0).set 1 c1).set 2 c2).set 3 c3).set 4 c4).set 5 c5;obtain⟨c,b,e,f,d,a,rfl⟩:∃c b e f d a,cs=[c,b,e,f,d,a]:=by
  match cs,hl with
  | [c,b,e,f,d,a],_=>exact⟨_,_,_,_,_,_,rfl⟩
 exact this
theorem Sc (ih:ld n)(h:St w b lv l s g d m)(hn:s.length<=n):bJ 165 b lv l g d m (dR (aU false n) s) w:=by
 unfold bJ;have f1:=aa h;have o:=aa h.1.lt;have f8:=h.1.lt;have HT:=aa h.2.2.1;have e9:Hid (dR (aU false n) s=(dy (aU false n) s).bind λx s'=>aY (s'.length+1) x s'):=rfl;go_enter func165,ntmps165;go_wp2_with fail;refine (Sa ih (f1.new Zo) hn).mono ?_;rintro e w1 ⟨k0,c6,c8,b6,a7,b7,c7,b0,b9,b5,rfl,J,a4⟩;have d2:=aa (((ag.new w Zq 27).off (c:=b) J (by omega)).alloc (.cells #[Vi k0,.slice c6 c8 b6,.slice a7 b7 c7,Vi b0,Vi b9,Vi b5] 27));have d1:Hid (Off b w (w1.alloc (.cells #[Vi k0,.slice c6 c8 b6,.slice a7 b7 c7,Vi b0,Vi b9,Vi b5] 27))):=(((Off.refl b w).alloc Zo).trans J).alloc _;have f7:w.heap.size+1<=w1.heap.size:=by have:=J.size;simp at this;omega
 have z:Hid (b<w1.heap.size/\w.heap.size<=w1.heap.size/\w1.heap.size≠w.heap.size):=by show _/\_;omega
 generalize hR:dR (aU false n) s=R;have HR:=aa hR;have HI:Hid (∃j,UE w w1.heap.size b lv l g d m R j (w1.alloc (.cells #[Vi k0,.slice c6 c8 b6,.slice a7 b7 c7,Vi b0,Vi b9,Vi b5] 27))):=by
  have e5:=ag.new w1 (bT k0 c6 c8 b6 a7 b7 c7 b0 b9 b5) 27;have e:=HR.out;rw[e9.out]at e;cases ha:dy (aU false n) s with
  |bad s'=>
   rw[ha]at a4 e;exact⟨1,d1,d2,_,_,_,_,_,_,_,_,_,_,e5,.inr ⟨s',a4.below ((zE _ _).alloc (zA _) _),e.symm⟩⟩
  |ok p s'=>
   rw[ha]at a4 e;obtain⟨B,I⟩:=a4;refine⟨s'.length+1,d1,d2,_,_,_,_,_,_,_,_,_,_,e5,.inl ⟨p,s',?_,I.new _,e,by omega⟩⟩;exact NV.keep (ah.alloc _ _ _) p _ g (NV.mono (λq hq f4=>by simp at f4;omega) p _ g B)
 obtain⟨j0,d7⟩:=HI.out;have d4:=aa d7;generalize hX:w1.heap.size=X at z d4 f7;go_wp2_with fail
 go_loopg [4,5] j0 (λj _ _ wr=>UE w X b lv l g d m R j wr)
 case atStart=>exact d4
 case round=>
  obtain⟨ho,e4,k,so,sn,sc,lo,ln,lc,mm,nn,rr,hx,d5⟩:=hrel;have E:=aa ho;have A:=aa e4;have f:=aa hx;rcases d5 with⟨p,s0,B,I,e2,f0⟩|⟨s',a6,d8⟩
  ·obtain⟨N,T,Q,O,P,U,hb⟩:=I.cells;have d0:=I.2.2.2.2.1.suf I.2.1;have y:=aa I;have u:=aa B;have HE:=aa e2;have a8:=aa f0;obtain⟨j',rfl⟩:∃j',gk=j'+1:=⟨gk-1,by omega⟩;by_cases ht:df da s0=true
   ·cases s0 with
    |nil=>simp[df]at ht
    |cons c t=>
     have e6:c=42\/c=43\/c=63\/c=123:=by simpa [df,da]using ht
     rcases e6 with rfl|rfl|rfl|rfl
     ·have a1:Hid (aY j' (.many p (0) (-1)) t=R):=by
       have:=HE.out;simp only[aY,df,da]at this;show aY _ _ _=_
       simpa [dn,Res.bind]using this
      go_wp2_with fail;refine (aM y).mono ?_;rintro e C ⟨rfl,a⟩;simp only[aW];replace y:=aa (y.drn a);replace E:=aa (E.trans (Off.drn a));replace A:=aa (A.off (Off.drn (b:=b) a) (by have:=o.out;omega));replace f:=aa (f.off (Off.drn (b:=b) a) (by have:=z.out;omega));replace u:=aa (NV.keep (ah.below a.below) _ _ _ u);obtain⟨N,T,Q,O,P,U,hb⟩:=y.out.cells;have a9:=y.1.frozen 1;have K:=y.2.2.2.1;obtain⟨⟨x0,x1,x2,x3,x4,x5⟩,D⟩:=bK f.out;have V:=f.frozen 0;have a2:=f.frozen 1;have a5:=f.frozen 2;have Y:=f.frozen 3;have a0:=f.frozen 4;have Z:=f.frozen 5;have i:=aa z;go_wp2_with fail;have S:=y.step;have L:Hid (w.heap.size<C.heap.size):=A.lt
      go_roundg j'
      case measure=>omega
      case rel=>
       have G:X≠b:=by have:=i.out;omega
       have ho:Off b w _:=(E.trans S.2);have a3:=f.off S.2 G;have e1:(C.setCell (aD b 1) (Vi (((l.length-(42::t).length:Nat):Int)+1))).heap.size=C.heap.size:=by simp[World.setCell]
       have B:=NV.keep (ah.off (b:=b) S.2 (λh=>by have:=o.out;omega)) _ _ _ u;have st:=oH (w:=w) (X:=X) (m0:=0) (n0:=-1) B (by rw[e1];exact D) (by rw[e1];exact L) rfl;rw[e1]at st;have F:=(ho.put6 (r:=X) i.2.1 (Vi 6) (Vz) (Vs C.heap.size 1 1) (Vi (0)) (Vi (-1)) (Vi 0)).alloc (.cells #[Vi k,.slice so sn sc,.slice lo ln lc,Vi mm,Vi nn,Vi rr] 27);refine⟨F,((A.off S.2 (by have:=o.out;omega)).put6 (r:=X) (by have:=i.out;omega) _ _ _ _ _ _).alloc _,6,none,0,0,some (aD C.heap.size 0),1,1,0,-1,0,(oI a3 rfl _ _ _ _ _ _).alloc _,.inl ⟨_,t,st,?_,a1,?_⟩⟩
       ·exact St.move HT F S.1 ((S.1.1.put6 (r:=X) (by omega) _ _ _ _ _ _).alloc _)
       ·have:=a8.out;simp at this;omega
     ·have a1:Hid (aY j' (.many p (1) (-1)) t=R):=by
       have:=HE.out;simp only[aY,df,da]at this;show aY _ _ _=_
       simpa [dn,Res.bind]using this
      go_wp2_with fail;refine (aM y).mono ?_;rintro e C ⟨rfl,a⟩;simp only[aW];replace y:=aa (y.drn a);replace E:=aa (E.trans (Off.drn a));replace A:=aa (A.off (Off.drn (b:=b) a) (by have:=o.out;omega));replace f:=aa (f.off (Off.drn (b:=b) a) (by have:=z.out;omega));replace u:=aa (NV.keep (ah.below a.below) _ _ _ u);obtain⟨N,T,Q,O,P,U,hb⟩:=y.out.cells;have a9:=y.1.frozen 1;have K:=y.2.2.2.1;obtain⟨⟨x0,x1,x2,x3,x4,x5⟩,D⟩:=bK f.out;have V:=f.frozen 0;have a2:=f.frozen 1;have a5:=f.frozen 2;have Y:=f.frozen 3;have a0:=f.frozen 4;have Z:=f.frozen 5;have i:=aa z;go_wp2_with fail;have S:=y.step;have L:Hid (w.heap.size<C.heap.size):=A.lt
      go_roundg j'
      case measure=>omega
      case rel=>
       have G:X≠b:=by have:=i.out;omega
       have ho:Off b w _:=(E.trans S.2);have a3:=f.off S.2 G;have e1:(C.setCell (aD b 1) (Vi (((l.length-(43::t).length:Nat):Int)+1))).heap.size=C.heap.size:=by simp[World.setCell]
       have B:=NV.keep (ah.off (b:=b) S.2 (λh=>by have:=o.out;omega)) _ _ _ u;have st:=oH (w:=w) (X:=X) (m0:=1) (n0:=-1) B (by rw[e1];exact D) (by rw[e1];exact L) rfl;rw[e1]at st;have F:=(ho.put6 (r:=X) i.2.1 (Vi 6) (Vz) (Vs C.heap.size 1 1) (Vi (1)) (Vi (-1)) (Vi 0)).alloc (.cells #[Vi k,.slice so sn sc,.slice lo ln lc,Vi mm,Vi nn,Vi rr] 27);refine⟨F,((A.off S.2 (by have:=o.out;omega)).put6 (r:=X) (by have:=i.out;omega) _ _ _ _ _ _).alloc _,6,none,0,0,some (aD C.heap.size 0),1,1,1,-1,0,(oI a3 rfl _ _ _ _ _ _).alloc _,.inl ⟨_,t,st,?_,a1,?_⟩⟩
       ·exact St.move HT F S.1 ((S.1.1.put6 (r:=X) (by omega) _ _ _ _ _ _).alloc _)
       ·have:=a8.out;simp at this;omega
     ·have a1:Hid (aY j' (.many p (0) (1)) t=R):=by
       have:=HE.out;simp only[aY,df,da]at this;show aY _ _ _=_
       simpa [dn,Res.bind]using this
      go_wp2_with fail;refine (aM y).mono ?_;rintro e C ⟨rfl,a⟩;simp only[aW];replace y:=aa (y.drn a);replace E:=aa (E.trans (Off.drn a));replace A:=aa (A.off (Off.drn (b:=b) a) (by have:=o.out;omega));replace f:=aa (f.off (Off.drn (b:=b) a) (by have:=z.out;omega));replace u:=aa (NV.keep (ah.below a.below) _ _ _ u);obtain⟨N,T,Q,O,P,U,hb⟩:=y.out.cells;have a9:=y.1.frozen 1;have K:=y.2.2.2.1;obtain⟨⟨x0,x1,x2,x3,x4,x5⟩,D⟩:=bK f.out;have V:=f.frozen 0;have a2:=f.frozen 1;have a5:=f.frozen 2;have Y:=f.frozen 3;have a0:=f.frozen 4;have Z:=f.frozen 5;have i:=aa z;go_wp2_with fail;have S:=y.step;have L:Hid (w.heap.size<C.heap.size):=A.lt
      go_roundg j'
      case measure=>omega
      case rel=>
       have G:X≠b:=by have:=i.out;omega
       have ho:Off b w _:=(E.trans S.2);have a3:=f.off S.2 G;have e1:(C.setCell (aD b 1) (Vi (((l.length-(63::t).length:Nat):Int)+1))).heap.size=C.heap.size:=by simp[World.setCell]
       have B:=NV.keep (ah.off (b:=b) S.2 (λh=>by have:=o.out;omega)) _ _ _ u;have st:=oH (w:=w) (X:=X) (m0:=0) (n0:=1) B (by rw[e1];exact D) (by rw[e1];exact L) rfl;rw[e1]at st;have F:=(ho.put6 (r:=X) i.2.1 (Vi 6) (Vz) (Vs C.heap.size 1 1) (Vi (0)) (Vi (1)) (Vi 0)).alloc (.cells #[Vi k,.slice so sn sc,.slice lo ln lc,Vi mm,Vi nn,Vi rr] 27);refine⟨F,((A.off S.2 (by have:=o.out;omega)).put6 (r:=X) (by have:=i.out;omega) _ _ _ _ _ _).alloc _,6,none,0,0,some (aD C.heap.size 0),1,1,0,1,0,(oI a3 rfl _ _ _ _ _ _).alloc _,.inl ⟨_,t,st,?_,a1,?_⟩⟩
       ·exact St.move HT F S.1 ((S.1.1.put6 (r:=X) (by omega) _ _ _ _ _ _).alloc _)
       ·have:=a8.out;simp at this;omega
     ·have e3:Hid (∀r,bh t=r->aY (j'+1) p (123::t)=(r.bind λmn s'=>aY j' (.many p mn.1 mn.2) s')):=by
       rintro r rfl;simp only[aY,df,da];simp[dn]
      go_wp2_with fail;refine (aM y).mono ?_;rintro e C ⟨rfl,a⟩;simp only[aW];replace y:=aa (y.drn a);replace E:=aa (E.trans (Off.drn a));replace A:=aa (A.off (Off.drn (b:=b) a) (by have:=o.out;omega));replace f:=aa (f.off (Off.drn (b:=b) a) (by have:=z.out;omega));replace u:=aa (NV.keep (ah.below a.below) _ _ _ u);obtain⟨N,T,Q,O,P,U,hb⟩:=y.out.cells;have a9:=y.1.frozen 1;have K:=y.2.2.2.1;have i:=aa z;go_wp2_with fail;have S:=y.step;have G:X≠b:=by have:=i.out;omega
      have L:Hid (w.heap.size<C.heap.size):=A.lt;refine (Lu S.1).mono ?_;rintro e wc ⟨x9,y9,rfl,W,b8⟩;have f5:Hid (Off b w wc):=(E.trans S.2).trans W;have d9:=aa ((A.off S.2 (by have:=o.out;omega)).off W (by have:=o.out;omega));have H:=aa ((f.off S.2 G).off W G);have d6:=aa (NV.keep ((ah.off (b:=b) S.2 (λh=>by have:=o.out;omega)).trans (ah.off (b:=b) W (λh=>by have:=o.out;omega))) _ _ _ u);have e8:=aa (rU t);obtain⟨⟨x0,x1,x2,x3,x4,x5⟩,D⟩:=bK H.out;have V:=H.frozen 0;have a2:=H.frozen 1;have a5:=H.frozen 2;have Y:=H.frozen 3;have a0:=H.frozen 4;have Z:=H.frozen 5;go_wp2_with fail;have f2:Hid (w.heap.size<wc.heap.size):=d9.lt
      go_roundg j'
      case measure=>omega
      case rel=>
       have F:=(f5.put6 (r:=X) i.2.1 (Vi 6) (Vz) (Vs wc.heap.size 1 1) (Vi x9) (Vi y9) (Vi 0)).alloc (.cells #[Vi k,.slice so sn sc,.slice lo ln lc,Vi mm,Vi nn,Vi rr] 27);refine⟨F,(d9.put6 (r:=X) (by have:=i.out;omega) _ _ _ _ _ _).alloc _,6,none,0,0,some (aD wc.heap.size 0),1,1,x9,y9,0,(oI H rfl _ _ _ _ _ _).alloc _,?_⟩;cases hct:bh t with
       |bad s2=>
        rw[hct]at b8;have e:=e3.out _ hct;obtain⟨i1,g1,m1,f3⟩:=b8.1;exact .inr ⟨s2,⟨i1,g1,m1,(f3.put6 (r:=X) (by have:=i.out;omega) _ _ _ _ _ _).alloc _⟩,by rw[<-HE.out,e];rfl⟩
       |ok mn s2=>
        rw[hct]at b8;have e0:=e8.out;rw[hct]at e0;have e:=e3.out _ hct;obtain⟨c9,rfl,rfl⟩:=b8;have st:=oH (w:=w) (X:=X) (m0:=mn.1) (n0:=mn.2) d6 D f2 rfl;refine .inl ⟨_,s2,st,St.move HT F c9 ((c9.1.put6 (r:=X) (by have:=i.out;omega) _ _ _ _ _ _).alloc _),by rw[<-HE.out,e];rfl,?_⟩;have:=a8.out;have:=e0.1;simp only[zG]at *;omega
   ·have d3:Hid (R=.ok p s0):=by
     have:=HE.out;simp only[aY]at this;rw[zR ht]at this;exact this.symm
    have M:¬aW s0=42/\¬aW s0=43/\¬aW s0=63/\¬aW s0=123:=by
     cases s0 with
     |nil=>simp[aW]
     |cons c t=>simpa [df,da,aW]using ht
    generalize hv:aW s0=x at M;have f6:=aa hv;have b1:(x==42)=false:=zD.2 M.1;have b2:(x==43)=false:=zD.2 M.2.1;have b3:(x==63)=false:=zD.2 M.2.2.1;have b4:(x==123)=false:=zD.2 M.2.2.2;go_wp2_with fail;refine (aM y).mono ?_;rintro e C ⟨rfl,a⟩;rw[f6.out];replace y:=aa (y.drn a);replace E:=aa (E.trans (Off.drn a));replace A:=aa (A.off (Off.drn (b:=b) a) (by have:=o.out;omega));replace f:=aa (f.off (Off.drn (b:=b) a) (by have:=z.out;omega));replace u:=aa (NV.keep (ah.below a.below) _ _ _ u);obtain⟨⟨x0,x1,x2,x3,x4,x5⟩,D⟩:=bK f.out;have V:=f.frozen 0;have a2:=f.frozen 1;have a5:=f.frozen 2;have Y:=f.frozen 3;have a0:=f.frozen 4;have Z:=f.frozen 5;obtain⟨⟨z0,z1,z2,z3,z4,z5⟩,⟨y0,y1,y2,y3,y4,y5⟩,e7⟩:=aQ A.out;go_wp2_with fail;refine zN (v:=.agg #[Vi k,.slice so sn sc,.slice lo ln lc,Vi mm,Vi nn,Vi rr]) (by simp[results,results165,go_sem,z0,z1,z2,z3,z4,z5]) rfl ⟨k,so,sn,sc,lo,ln,lc,mm,nn,rr,rfl,?_⟩;rw[HR.out,d3.out];exact Sb u y E o HT rfl
  ·obtain⟨i0,g0,m0,N,T,Q,O,P,U,hb⟩:=a6.cells;have HB:=aa a6;have d3:=aa d8;generalize l.length-s'.length=kk at Q;have hd:decide ((kk:Int)<0)=false:=by simp
   obtain⟨⟨x0,x1,x2,x3,x4,x5⟩,D⟩:=bK f.out;have V:=f.frozen 0;have a2:=f.frozen 1;have a5:=f.frozen 2;have Y:=f.frozen 3;have a0:=f.frozen 4;have Z:=f.frozen 5;obtain⟨⟨z0,z1,z2,z3,z4,z5⟩,⟨y0,y1,y2,y3,y4,y5⟩,e7⟩:=aQ A.out;go_wp2_with fail;refine zN (v:=.agg #[Vi k,.slice so sn sc,.slice lo ln lc,Vi mm,Vi nn,Vi rr]) (by simp[results,results165,go_sem,z0,z1,z2,z3,z4,z5]) rfl ⟨k,so,sn,sc,lo,ln,lc,mm,nn,rr,rfl,?_⟩;rw[HR.out,d3.out];exact mY HB o E rfl
theorem Tl {r:Res Pat}
  (hp:kZ b lv l g d m r (w.alloc o) w1 (bT k so sn sc lo ln lc mm nn rr)) (hb:b<w.heap.size) (ht:te w b lv l) (e:w2=put6 w1 w.heap.size (Vi k) (.slice so sn sc) (.slice lo ln lc) (Vi mm) (Vi nn) (Vi rr)):kZ b lv l g d m r w w2 (bT k so sn sc lo ln lc mm nn rr):=by
 subst e;obtain⟨n,hp⟩:=hp;have f:=(((Off.refl b w).alloc o).trans n).put6 (r:=w.heap.size) (zA _) (Vi k) (.slice so sn sc) (.slice lo ln lc) (Vi mm) (Vi nn) (Vi rr);refine⟨f,?_⟩;cases r with
 |bad s=>obtain⟨i,t,u,h⟩:=hp;exact⟨i,t,u,h.put6 (r:=w.heap.size) (by omega) _ _ _ _ _ _⟩
 |ok p s=>
  obtain⟨c,a⟩:=hp;refine⟨?_,St.move ht f a (a.1.put6 (r:=w.heap.size) (by omega) _ _ _ _ _ _)⟩;exact NV.mono (λq _ j=>by simp at j;omega) p _ g (NV.keep ((ah.refl _ w1).put6 (r:=w.heap.size) (λh=>by simp at h;omega) _ _ _ _ _ _) p _ g c)
theorem Im {r:Res Pat}{nd:Nat}(h:kZ b lv l g d m r (w.drewN nd) w1 c):kZ b lv l g d m r w w1 c :=
 ⟨⟨h.1.os,h.1.tape,h.1.output,h.1.size,h.1.block⟩,h.2⟩
theorem PF {wm:World}{g0:Nat}
  (hnv:NV wm A p (bT k so sn sc lo ln lc mm nn rr) g0) (hA:∀q,A q->w.heap.size<q) (hs:w.heap.size<=wm.heap.size)
  (e:w2=((put6 wm w.heap.size c0 c1 c2 c3 c4 c5).alloc o).alloc (.cells #[Vi k,.slice so sn sc,.slice lo ln lc,Vi mm,Vi nn,Vi rr] 27)) :
  cB w2 (λq=>w.heap.size<=q) 27 6 (.slice (some (aD (wm.heap.size+1) 0)) 1 1) 1 (bT k so sn sc lo ln lc mm nn rr)/\NV w2 (λq=>w.heap.size<=q) p (bT k so sn sc lo ln lc mm nn rr) g0:=by
 subst e;constructor
 ·have a:=ag.new ((put6 wm w.heap.size c0 c1 c2 c3 c4 c5).alloc o) (bT k so sn sc lo ln lc mm nn rr) 27;have c:((put6 wm w.heap.size c0 c1 c2 c3 c4 c5).alloc o).heap.size=wm.heap.size+1:=by simp[World.setCell]
  rw[c]at a;exact BC a rfl (Nat.le_succ_of_le hs)
 ·exact NV.mono (λq _ b=>by have:=hA q b;omega) p _ g0 (NV.keep ((((ah.refl A wm).put6 (r:=w.heap.size) (λh=>by have:=hA _ h;omega) _ _ _ _ _ _).trans (ah.alloc _ _ _)).trans (ah.alloc _ _ _)) p _ g0 hnv)
theorem XS (u:LZ)(r:Res Pat)(hrec:∀w',St w' b lv l t g (d+1) (max m (d+1))->bJ 138 b lv l g (d+1) (max m (d+1)) r w')(p:Pat)(hr:r=.ok p u)(h:St w b lv l (126::t) g d m):bJ 138 b lv l g d m (.ok (.not p) u) w:=by
 unfold bJ;have j:=aa h;have D:=aa h.1.lt;have K:=aa hrec;obtain⟨f1,f2,f3,f4,f5,f6⟩:=h.facts;have a0:=h.1.lt;subst hr;go_enter func138,ntmps138;go_wp2_with fail;refine (dc (j.new Zo) (by decide) (by decide)).mono ?_;rintro e G ⟨rfl,f,a⟩;have HS:=aa f;have B:Hid (Off b w G):=((Off.refl b w).alloc Zo).trans a;have n:=aa ((ag.new w Zq 27).off (c:=b) a (by omega));have HD:Hid (d+1<=((l.length-t.length:Nat):Int)):=by have:=j.2.2.2.2.2;have:=j.2.1.length_le;simp only[zG]at *;show _<=_;omega
 obtain⟨O,U,V,c3,c4,T,hb⟩:=f.cells;have o:=f.1.frozen 4;have F:=f.1.frozen 5;go_wp2_with fail
 go_region
 go_wp2_with fail;have H:=aa (HS.deeper HD).drew;have J:Hid (Off b w ((G.setCell (aD b 4) (Vi (d+1))).setCell (aD b 5) (Vi (max m (d+1)))).drew):=((B.setCell 4 _).setCell 5 _).drew;replace n:=aa (((n.setOther (p:=(aD b 4)) (by simp;omega) (Vi (d+1))).setOther (p:=(aD b 5)) (by simp;omega) (Vi (max m (d+1)))).drew);have z:Hid (w.heap.size<((G.setCell (aD b 4) (Vi (d+1))).setCell (aD b 5) (Vi (max m (d+1)))).drew.heap.size):=n.lt;refine (K _ H).mono ?_;rintro e y ⟨k,so,L,sc,S,ln,Q,mm,nn,rr,rfl,a,I⟩;replace B:=aa (J.trans a);replace n:=aa (n.off a (by omega));obtain⟨x,f⟩:=I;have E:=aa x;have i:=aa f;obtain⟨O,U,V,c3,c4,T,a1⟩:=i.out.cells;have o:=i.1.frozen 4;obtain⟨⟨z0,W,P,N,M,R⟩,⟨y0,y1,y2,y3,y4,y5⟩,s⟩:=aQ n.out
 try simp at z0 W P N M R y0 y1 y2 y3 y4 y5 s
 go_wp2_with fail;refine zN (v:=.agg #[Vi 5,Vz,.slice (some (aD (y.heap.size+1) 0)) 1 1,Vi 0,Vi 0,Vi 0]) (by simp[results,results138,go_sem,z0,W,P,N,M,R,s]) rfl ⟨5,none,0,0,some (aD (y.heap.size+1) 0),1,1,0,0,0,rfl,?_⟩;have X:=(((B.setCell 4 (Vi d)).put6 (r:=w.heap.size) (zA _) (Vi 5) (Vz) (.slice (some (aD (y.heap.size+1) 0)) 1 1) (Vi 0) (Vi 0) (Vi 0)).alloc (.cells #[Vi k,.slice so L sc,.slice S ln Q,Vi mm,Vi nn,Vi rr] 27)).alloc (.cells #[Vi k,.slice so L sc,.slice S ln Q,Vi mm,Vi nn,Vi rr] 27);have Y:(y.setCell (aD b 4) (Vi d)).heap.size=y.heap.size:=by simp[World.setCell]
 have A:=NV.keep (ah.set (p:=(aD b 4)) (Vi d) (yz (Nat.lt_trans D z))) p _ _ E;obtain⟨Z,o2⟩:=PF (w:=w) A (λq hq=>zF z.out hq) (by rw[Y];exact B.size) rfl;rw[Y]at Z;refine⟨X,⟨_,_,rfl,Z,o2⟩,?_⟩;have e2:((Pat.not p).groups)=p.groups:=by simp[Pat.groups]
 have e3:((Pat.not p).deep:Int)=(p.deep:Int)+1:=by simp[Pat.deep]
 have e:max (max m (d+1)) (d+1+(p.deep:Int))=max m (d+((p.deep:Int)+1)):=by omega
 have C:=i.setD d (by omega) (by have:=i.2.2.2.2.2;omega);rw[e]at C;rw[e2,e3];exact St.move j.2.2.1 X C (((C.1.put6 (r:=w.heap.size) (by omega) _ _ _ _ _ _).alloc _).alloc _)
theorem Wp (u:LZ)(r:Res Pat)(hrec:∀w',St w' b lv l t g (d+1) (max m (d+1))->bJ 138 b lv l g (d+1) (max m (d+1)) r w')(hr:r=.bad u)(h:St w b lv l (126::t) g d m):bJ 138 b lv l g d m (.bad u) w:=by
 unfold bJ;have j:=aa h;have M:=aa h.1.lt;have E:=aa hrec;obtain⟨f1,f2,f3,f4,f5,f6⟩:=h.facts;have U:=h.1.lt;subst hr;go_enter func138,ntmps138;go_wp2_with fail;refine (dc (j.new Zo) (by decide) (by decide)).mono ?_;rintro e A ⟨rfl,f,a⟩;have N:=aa f;have z:Hid (Off b w A):=((Off.refl b w).alloc Zo).trans a;have n:=aa ((ag.new w Zq 27).off (c:=b) a (by omega));have W:Hid (d+1<=((l.length-t.length:Nat):Int)):=by have:=j.2.2.2.2.2;have:=j.2.1.length_le;simp only[zG]at *;show _<=_;omega
 obtain⟨P,R,S,c3,y,Q,hb⟩:=f.cells;have o:=f.1.frozen 4;have x:=f.1.frozen 5;go_wp2_with fail
 go_region
 go_wp2_with fail;have B:=aa (N.deeper W).drew;have D:Hid (Off b w ((A.setCell (aD b 4) (Vi (d+1))).setCell (aD b 5) (Vi (max m (d+1)))).drew):=((z.setCell 4 _).setCell 5 _).drew;replace n:=aa (((n.setOther (p:=(aD b 4)) (by simp;omega) (Vi (d+1))).setOther (p:=(aD b 5)) (by simp;omega) (Vi (max m (d+1)))).drew);have X:Hid (w.heap.size<((A.setCell (aD b 4) (Vi (d+1))).setCell (aD b 5) (Vi (max m (d+1)))).drew.heap.size):=n.lt;refine (E _ B).mono ?_;rintro e J ⟨k,so,sn,sc,lo,ln,lc,mm,nn,rr,rfl,a,C⟩;replace z:=aa (D.trans a);replace n:=aa (n.off a (by omega));obtain⟨i1,g1,m1,s⟩:=C;have i:=aa s;have y:=i.cell 4;have o:=i.frozen 4;have Z:=i.lt;simp at y;obtain⟨⟨L,K,H,G,F,I⟩,⟨T,y1,Y,V,y4,O⟩,q⟩:=aQ n.out
 try simp at L K H G F I T y1 Y V y4 O q
 go_wp2_with fail;refine zN (v:=.agg #[Vi 5,Vz,.slice (some (aD (J.heap.size+1) 0)) 1 1,Vi 0,Vi 0,Vi 0]) (by simp[results,results138,go_sem,L,K,H,G,F,I,q]) rfl ⟨5,none,0,0,some (aD (J.heap.size+1) 0),1,1,0,0,0,rfl,?_⟩;exact⟨(((z.setCell 4 (Vi d)).put6 (r:=w.heap.size) (zA _) _ _ _ _ _ _).alloc _).alloc _,i1,g1,m1,((((i.set 4 (Vi d)).put6 (r:=w.heap.size) (by omega) _ _ _ _ _ _).alloc _).alloc _)⟩
theorem FM (ih:ld n)(h:St w b lv l s g d m)(hn:s.length<=n)(h126:s.head?≠some 126):bJ 138 b lv l g d m (dR (aU false n) s) w:=by
 unfold bJ;have a:=aa h;have i:=aa h.1.lt;have R:=aa h126;have P:=h.1.lt;go_enter func138,ntmps138;go_wp2_with fail;refine (ep _ (a.new Zo) (by decide) (by decide) R).mono ?_;rintro e U ⟨rfl,A⟩;obtain⟨K,rfl⟩:=A;have J:Hid (St ((w.alloc Zo).drewN K) b lv l s g d m):=a.new Zo;go_wp2_with fail;refine (Sc ih J hn).mono ?_;rintro e M ⟨k,u,j,t,q,z,p,x,y,r,rfl,f⟩;have F:Hid (kZ b lv l g d m (dR (aU false n) s) (w.alloc Zo) M (bT k u j t q z p x y r)):=Im f;have I:=aa ((ag.new w Zq 27).off (c:=b) (F.1) (by omega));obtain⟨⟨H,G,D,C,B,E⟩,⟨N,T,Q,O,S,L⟩,o⟩:=aQ I.out
 try simp at H G D C B E N T Q O S L o
 go_wp2_with fail;refine zN (v:=.agg #[Vi k,.slice u j t,.slice q z p,Vi x,Vi y,Vi r]) (by simp[results,results138,go_sem,H,G,D,C,B,E]) rfl ⟨k,u,j,t,q,z,p,x,y,r,rfl,?_⟩;exact Tl F i a.2.2.1 rfl
theorem FN (n:Nat)(ih:ld n)(b:Nat)(lv:Value)(l:LZ)(g:Nat):∀(s:LZ) (d m:Int) (w:World),St w b lv l s g d m->s.length<=n->bJ 138 b lv l g d m (dg (aU false n) s) w
 | [],d,m,w,h,hn=>FM ih h hn (by simp)
 |c::t,d,m,w,h,hn=>by
  simp only[dg];by_cases e:c=126
  ·subst e;rw[zX rfl];have a:∀f,St f b lv l t g (d+1) (max m (d+1))->bJ 138 b lv l g (d+1) (max m (d+1)) (dg (aU false n) t) f:=λf i=>FN n ih b lv l g t (d+1) (max m (d+1)) f i (by simp only[zG]at hn;omega);cases hr:dg (aU false n) t with
   |bad u=>rw[hr]at a;exact Wp u _ a rfl h
   |ok p u=>rw[hr]at a;exact XS u _ a p rfl h
  ·rw[zR e];exact FM ih h hn (by simpa using e)
theorem Ij:(prog.info? 27).map (λi=>(i.zero,i.size,i.bytes))=some (some (.agg #[Vi 0,Vz,Vz,Vi 0,Vi 0,Vi 0]),6,80):=by kernel_rfl
theorem BA {B':Nat}(h:w.ownsRow B 27 6 v n xs)(hb:B'<=B):w.ownsRow B' 27 6 v n xs:=by
 refine⟨h.1,?_⟩;rcases h.2 with d|⟨g,b,a,e,c,r⟩
 ·exact .inl d
 ·exact .inr ⟨g,b,a,e,zJ hb c,r⟩
theorem pD {w:World}{ops:Array Oper}{rest:List Oper}{o:Oper}{a:Act}{Q:Exit->Act->World->Prop}(hgd:o.guard=none)(s x:Operand)
  (ho:o.op=.call { callee:=.builtin .append,args:=#[s,x],argTypes:=#[25,25] }) (B n:Nat) (v:Value) (xs:LV) (hs:a.eval s=v) (hown:w.ownsRow B 27 6 v n xs)
  (ad:Addr) (news:LV) (hx:a.eval x=.slice (some ad) 1 1) (hl:news.length=6) (hnews:∀j u,news[j]?=some u->w.cell? (ad.add j)=some u) (h1:∀u∈news,u.oneCell'=true)
  (hn:n<=100000) (hB:B<=w.heap.size)
  (h:∀v' w',w'.ownsRow B 27 6 v' (n+1) (xs++news)->w.grownBy w' v.ownBlock->(v'.ownBlock=v.ownBlock\/∀g,v'.ownBlock=some g->w.heap.size<=g) ->
   wpList prog ops Q rest (a.put o.dst v') w'):wpList prog ops Q (o::rest) a w:=by
 obtain⟨y,t,p,l,q⟩:=zz Ij;have f:=hown;rcases hown.2 with⟨rfl,rfl⟩|⟨g,i,E,rfl,F,G,D,C,z,H⟩
 ·refine yo w hgd s x 25 ho 27 y (.agg #[Vi 0,Vz,Vz,Vi 0,Vi 0,Vi 0]) 6 80 underlying25 t p l q rfl (by decide) none 0 0 xs hs (λ_=>⟨rfl,rfl⟩) f.1 (λb e=>by cases e) ad 1 1 news hx hl hnews h1 (by omega) (by unfold maxLen;omega) (by omega) ?_;intro v' w' d c;exact h v' w' (BA d hB) ⟨c.os,c.tape,c.output,c.size,λk r _=>c.block k r (by simp)⟩ (.inr λg e=>(d.lt g e).1)
 ·by_cases m:n+1<=i
  ·refine wpList_append_fits w hgd s x 25 ho B 27 y 6 underlying25 t l g n i xs hs f ad 1 1 news hx hl hnews h1 m ?_;intro w' d c;exact h _ w' d c (.inl rfl)
  ·refine yo w hgd s x 25 ho 27 y (.agg #[Vi 0,Vz,Vz,Vi 0,Vi 0,Vi 0]) 6 80 underlying25 t p l q rfl (by decide) (some (aD g 0)) n i xs hs (λe=>by cases e) f.1 (λb e j u A=>by cases e;exact f.cells rfl j u A) ad 1 1 news hx hl hnews h1 (by omega) (by unfold maxLen;omega) (by omega) ?_;intro v' w' d c;exact h v' w' (BA d hB) ⟨c.os,c.tape,c.output,c.size,λk r _=>c.block k r (by simp)⟩ (.inr λg e=>(d.lt g e).1)
theorem BB (k:Int)(so:OA)(sn sc:Nat)(lo:OA)(ln lc:Nat)(mm nn rr:Int):∀u∈bT k so sn sc lo ln lc mm nn rr,u.oneCell'=true:=by
 intro u a;simp[bT]at a;rcases a with rfl|rfl|rfl|rfl|rfl|rfl<;>rfl
theorem Wk (h:ag w y (bT k so sn sc lo ln lc mm nn rr) 27):∀j u,(bT k so sn sc lo ln lc mm nn rr)[j]?=some u->w.cell? (((aD y 0):Addr).add j)=some u:=by
 intro j u a;rw[zl,<-a];simpa using h.cell j
theorem wO (w1:World)(o:Obj)(k:Int)(so:OA)(sn sc:Nat)(lo:OA)(ln lc:Nat)(mm nn rr:Int):∀j u,(bT k so sn sc lo ln lc mm nn rr)[j]?=some u->((w1.alloc o).alloc (.cells #[Vi k,.slice so sn sc,.slice lo ln lc,Vi mm,Vi nn,Vi rr] 27)).cell? (((aD (w1.heap.size+1) 0):Addr).add j)=some u:=by
 have h:=Wk (ag.new (w1.alloc o) (bT k so sn sc lo ln lc mm nn rr) 27);have e:(w1.alloc o).heap.size=w1.heap.size+1:=by simp
 rw[e]at h;exact h
theorem tD (h:w.ownsRow B 27 6 v n xs):∃ao cap,v=.slice ao n cap:=by
 rcases h.2 with⟨rfl,rfl⟩|⟨g,cap,a,rfl,_⟩<;>exact⟨_,_,rfl⟩
def AL (w:World)(X:Nat)(v:Value)(q:Nat):Prop:=w.heap.size+1<=q/\q≠X/\some q≠v.ownBlock
def LI (w:World)(X:Nat)(v:Value)(L:List Pat)(g:Nat)(wr:World):Prop:=∃xs,wr.ownsRow (w.heap.size+1) 27 6 v L.length xs/\v.ownBlock≠some X/\NL wr (AL w X v) L xs g
theorem LI.keep {w wr w':World}{X:Nat}{v:Value}{L:List Pat}{g:Nat}{b:Nat}(h:LI w X v L g wr)(k:Off b wr w')(hb:b<w.heap.size):LI w X v L g w':=by
 obtain⟨d,a,e,i⟩:=h;refine⟨d,bP a (λq c=>k.block q (a.lt q c).2 (by have:=(a.lt q c).1;omega)),e,NL.keep (ah.off k (λf=>by have:=f.1;omega)) L d g i⟩
theorem LI.nil (w wr:World)(X g:Nat):LI w X (Vz) [] g wr:=⟨[],zZ _ _ _ _,by simp[Value.ownBlock],rfl⟩
theorem LI.put (h:LI w X v L g wr)(c0 c1 c2 c3 c4 c5:Value):LI w X v L g (put6 wr w.heap.size c0 c1 c2 c3 c4 c5):=by
 obtain⟨c,a,e,i⟩:=h;have d:ah (λq=>w.heap.size+1<=q) wr (put6 wr w.heap.size c0 c1 c2 c3 c4 c5):=(ah.refl _ wr).put6 (r:=w.heap.size) (by simp) _ _ _ _ _ _;exact⟨c,bP a (λq b=>d.2 q (a.lt q b).2 (a.lt q b).1),e,NL.keep ((ah.refl _ wr).put6 (r:=w.heap.size) (λf=>by have:=f.1;omega) _ _ _ _ _ _) L c g i⟩
theorem LI.push {w3:World}{v':Value}{o1 o2:Obj}
  (h1:wr.ownsRow (w.heap.size+1) 27 6 v L.length xs) (h2:v.ownBlock≠some X) (h3:NL wr (AL w X v) L xs g) (hb:b<w.heap.size) (hX:X<wr.heap.size) (hw:w.heap.size<wr.heap.size)
  (hoff:Off b wr w1) (hnv:NV w1 (λq=>wr.heap.size<=q) p c (g+groupsL L))
  (ho3:w3.ownsRow (w.heap.size+1) 27 6 v' (L.length+1) (xs++c)) (hg:((w1.alloc o1).alloc o2).grownBy w3 v.ownBlock) (hloc:v'.ownBlock=v.ownBlock\/∀q,v'.ownBlock=some q->((w1.alloc o1).alloc o2).heap.size<=q) :
  LI w X v' (L++[p]) g (w3.setCell (aD X 2) v'):=by
 have j:v'.ownBlock≠some X:=by
  intro e;rcases hloc with h|h
  ·exact h2 (h▸e)
  ·have r:=h X e;have:=hoff.size;simp at r;omega
 have n:∀q,v.ownBlock=some q->q<wr.heap.size:=λq d=>(h1.lt q d).2;have s:=hoff.size;have i:∀q,q<w1.heap.size->some q≠v.ownBlock->some q≠v'.ownBlock:=by
  intro q d f e;rcases hloc with h|h
  ·exact f (e.trans h)
  ·have:=h q e.symm;simp at this;omega
 have k:ah (λq=>w.heap.size+1<=q/\q≠X/\some q≠v.ownBlock) w1 (w3.setCell (aD X 2) v') :=
  (((ah.alloc _ w1 o1).trans (ah.alloc _ _ o2)).trans (ah.grown hg (λq e a=>a.2.2 e.symm))).trans (ah.set _ (λa=>a.2.1 rfl))
 refine⟨xs++c,?_,j,?_⟩
 ·rw[zH];refine bP ho3 (λq d=>zk _ _ _ _ (λe=>j (by rw[d];simpa using e)))
 ·refine NL.snoc L xs g p c ?_ ?_
  ·have o:=NL.keep (ah.off hoff (λa=>by have:=a.1;omega)) L xs g h3;have l:=NL.mono (A':=λq=>(w.heap.size+1<=q/\q≠X/\some q≠v.ownBlock)/\some q≠v'.ownBlock) (λq d a=>⟨a,i q d a.2.2⟩) L xs g o;have m:=NL.keep (w':=w3.setCell (aD X 2) v') ⟨k.1,λq d a=>k.2 q d a.1⟩ L xs g l;exact NL.mono (λq _ a=>⟨a.1.1,a.1.2.1,a.2⟩) L xs g m
  ·have l:=NV.mono (A':=λq=>(w.heap.size+1<=q/\q≠X/\some q≠v.ownBlock)/\some q≠v'.ownBlock) (λq d a=>by
    have f:some q≠v.ownBlock:=λe=>by have:=n q e.symm;omega
    exact⟨⟨by omega,by omega,f⟩,i q d f⟩) p c _ hnv
   have m:=NV.keep (w':=w3.setCell (aD X 2) v') ⟨k.1,λq d a=>k.2 q d a.1⟩ p c _ l;exact NV.mono (λq _ a=>⟨a.1.1,a.1.2.1,a.2⟩) p c _ m
theorem LI.own (h:LI w X v L g wr):∃xs,cB wr (λq=>w.heap.size<=q) 27 6 v L.length xs/\NL wr (λq=>w.heap.size<=q) L xs g:=by
 obtain⟨xs,a,e,d⟩:=h;exact⟨xs,⟨BA a (zW _),λq b=>by have:=(a.lt q b).1;omega⟩,NL.mono (λq _ c=>by have:=c.1;omega) L xs g d⟩
theorem re {w3:World}{v':Value}{o1 o2:Obj}(h1:wr.ownsRow (w.heap.size+1) 27 6 v L.length xs)(hX:w.heap.size<X)(ho:Off b w wr)(hoff:Off b wr w1)(hg:((w1.alloc o1).alloc o2).grownBy w3 v.ownBlock) :
  Off b w (w3.setCell (aD X 2) v')/\(∀q cs T,ag w1 q cs T->q≠X->some q≠v.ownBlock->ag (w3.setCell (aD X 2) v') q cs T):=by
 refine⟨((((ho.trans hoff).alloc o1).alloc o2).grown hg (λq e=>by have:=(h1.lt q e).1;omega)).setNew (by simp;omega) _,?_⟩;intro q cs T d a c;exact (((d.alloc o1).alloc o2).grown hg c).setOther (by simpa using a) _
def XR (w:World)(b:Nat)(lv:Value)(l:List Int)(g:Nat)(d m:Int)(n:Nat)(R:Res Pat)(j:Nat)(wr:World):Prop :=
 Off b w wr/\ag wr w.heap.size Zq 27/\∃lo ln lc,ag wr (w.heap.size+1) (bT 2 none 0 0 lo ln lc 0 0 0) 27 /\
  ((∃L s0,LI w (w.heap.size+1) (.slice lo ln lc) L g wr/\St wr b lv l s0 ((g+groupsL L:Nat):Int) d (max m (d+ce L))/\L.length+s0.length<=60/\s0.length<=n/\cG false (aU false n) j L s0=R/\s0.length<j)\/(∃s',gu wr b lv l s' d/\R=.bad s'))
theorem mZ {s0:LZ}
  (hk:∀(w':World) (A:NP) (xs:LV),cB w' A 27 6 (.slice lo ln lc) L.length xs->NL w' A L xs g->NV w' A p (bT k none 0 0 lo ln lc 0 0 0) g) (hg:p.groups=groupsL L) (hd:p.deep=ce L)
  (hli:LI w X (.slice lo ln lc) L g wr) (hst:St wr b lv l s0 ((g+groupsL L:Nat):Int) d (max m (d+ce L))) (ho:Off b w wr) (hb:b<w.heap.size) (ht:te w b lv l)
  (e:w2=put6 wr w.heap.size (Vi k) (Vz) (.slice lo ln lc) (Vi 0) (Vi 0) (Vi 0)):kZ b lv l g d m (.ok p s0) w w2 (bT k none 0 0 lo ln lc 0 0 0):=by
 subst e;have a:=ho.put6 (r:=w.heap.size) (zA _) (Vi k) (Vz) (.slice lo ln lc) (Vi 0) (Vi 0) (Vi 0);obtain⟨xs,f,c⟩:=(hli.put (Vi k) (Vz) (.slice lo ln lc) (Vi 0) (Vi 0) (Vi 0)).own;refine⟨a,hk _ _ xs f c,?_⟩;rw[hg,hd];exact St.move ht a hst (hst.1.put6 (r:=w.heap.size) (by omega) _ _ _ _ _ _)
theorem pE (h0:gu wr b lv l s d)(hb:b<w.heap.size)(ho:Off b w wr)(e:w2=put6 wr w.heap.size c0 c1 c2 c3 c4 c5):kZ b lv l g d m (.bad s) w w2 c:=mY h0 hb ho e
theorem JS (ih:ld n)(b:Nat)(lv:Value)(l s:LZ)(g:Nat)(d m:Int)(w:World)(h:St w b lv l s g d m)(hn:s.length<=n):bJ 97 b lv l g d m (fR false (aU false n) s) w:=by
 unfold bJ;have f1:=aa h;have X:=aa h.1.lt;have J:=h.1.lt;have HT:=aa h.2.2.1;have e8:=h.2.1.length_le;have e5:=h.2.2.2.1;have HM:Hid (St w b lv l s ((g+groupsL []:Nat):Int) d (max m (d+ce []))):=by
  have e:max m (d+((ce []:Nat):Int))=m:=by have:=h.2.2.2.2.2;simp[ce];omega
  show St _ _ _ _ _ _ _ _
  rw[e];exact h
 have a6:=aa (show XR w b lv l g d m n (fR false (aU false n) s) (s.length+1) ((w.alloc Zo).alloc (.cells #[Vi 2,Vz,Vz,Vi 0,Vi 0,Vi 0] 27))from by
  refine⟨((Off.refl b w).alloc _).alloc _,(ag.new w Zq 27).alloc _,none,0,0,?_,.inl ⟨[],s,LI.nil _ _ _ _,(HM.new _).new _,by simp;omega,hn,rfl,by omega⟩⟩;have:=ag.new (w.alloc Zo) (bT 2 none 0 0 none 0 0 0 0 0) 27;have e:(w.alloc Zo).heap.size=w.heap.size+1:=by simp
  rw[e]at this;exact this)
 generalize hR:fR false (aU false n) s=R at a6;have HR:=aa hR;go_enter func97,ntmps97;go_wp2_with fail
 go_loopg [4,5] (s.length+1) (λj _ _ wr=>XR w b lv l g d m n R j wr)
 case atStart=>exact a6
 case round=>
  obtain⟨ho,b4,I,O,P,hx,a7⟩:=hrel;have y:=aa ho;have x:=aa b4;have u:=aa hx;rcases a7 with⟨L,s0,c9,z,e3,c5,b5,d8⟩|⟨s',a1,c6⟩
  ·have V:=z.2.2.2.2.1.suf z.2.1;have o:=aa z;have i:=aa c9;have HE:=aa b5;have e4:=aa d8;have d2:=aa c5;obtain⟨j',rfl⟩:∃j',gk=j'+1:=⟨gk-1,by omega⟩;cases s0 with
   |nil=>
    have A:Hid (R=.ok (.row L) []):=by have:=HE.out;simp only[cG,il,yd]at this;exact this.symm
    go_wp2_with fail;refine (aM o).mono ?_;rintro e K ⟨rfl,f⟩;simp only[aW];have a:Off b wr K:=Off.drn f;replace o:=aa (o.drn f);replace y:=aa (y.trans a);replace x:=aa (x.off a (by omega));replace u:=aa (u.off a (by omega));replace i:=aa (i.keep a J);obtain⟨⟨x0,x1,x2,x3,x4,x5⟩,T⟩:=bK u.out;obtain⟨⟨F,E,D,C,H,G⟩,⟨y0,y1,Y,Z,y4,y5⟩,r⟩:=aQ x.out
    try simp at F E D C H G y0 y1 Y Z y4 y5 r
    go_wp2_with fail;refine zN (v:=.agg #[Vi 2,Vz,.slice I O P,Vi 0,Vi 0,Vi 0]) (by simp[results,results97,go_sem,F,E,D,C,H,G]) rfl ⟨2,none,0,0,I,O,P,0,0,0,rfl,?_⟩;rw[A.out];exact mZ (λ_ _ xs o1 o2=>⟨_,xs,rfl,o1,o2⟩) (by simp[Pat.groups]) (by simp[Pat.deep]) i o y X HT rfl
   |cons c t=>
    by_cases W:mw c=true
    ·have A:Hid (R=.ok (.row L) (c::t)):=by have:=HE.out;simp only[cG,il,W,Bool.true_or,yd]at this;exact this.symm
     have Q:c=124\/c=38\/c=41:=by simpa [mw]using W
     rcases Q with rfl|rfl|rfl
     ·go_wp2_with fail;refine (aM o).mono ?_;rintro e K ⟨rfl,f⟩;simp only[aW];have a:Off b wr K:=Off.drn f;replace o:=aa (o.drn f);replace y:=aa (y.trans a);replace x:=aa (x.off a (by omega));replace u:=aa (u.off a (by omega));replace i:=aa (i.keep a J);obtain⟨⟨x0,x1,x2,x3,x4,x5⟩,T⟩:=bK u.out;obtain⟨⟨F,E,D,C,H,G⟩,⟨y0,y1,Y,Z,y4,y5⟩,r⟩:=aQ x.out
      try simp at F E D C H G y0 y1 Y Z y4 y5 r
      go_wp2_with fail;refine zN (v:=.agg #[Vi 2,Vz,.slice I O P,Vi 0,Vi 0,Vi 0]) (by simp[results,results97,go_sem,F,E,D,C,H,G]) rfl ⟨2,none,0,0,I,O,P,0,0,0,rfl,?_⟩;rw[A.out];exact mZ (λ_ _ xs o1 o2=>⟨_,xs,rfl,o1,o2⟩) (by simp[Pat.groups]) (by simp[Pat.deep]) i o y X HT rfl
     ·go_wp2_with fail;refine (aM o).mono ?_;rintro e K ⟨rfl,f⟩;simp only[aW];have a:Off b wr K:=Off.drn f;replace o:=aa (o.drn f);replace y:=aa (y.trans a);replace x:=aa (x.off a (by omega));replace u:=aa (u.off a (by omega));replace i:=aa (i.keep a J);obtain⟨⟨x0,x1,x2,x3,x4,x5⟩,T⟩:=bK u.out;obtain⟨⟨F,E,D,C,H,G⟩,⟨y0,y1,Y,Z,y4,y5⟩,r⟩:=aQ x.out
      try simp at F E D C H G y0 y1 Y Z y4 y5 r
      go_wp2_with fail;refine zN (v:=.agg #[Vi 2,Vz,.slice I O P,Vi 0,Vi 0,Vi 0]) (by simp[results,results97,go_sem,F,E,D,C,H,G]) rfl ⟨2,none,0,0,I,O,P,0,0,0,rfl,?_⟩;rw[A.out];exact mZ (λ_ _ xs o1 o2=>⟨_,xs,rfl,o1,o2⟩) (by simp[Pat.groups]) (by simp[Pat.deep]) i o y X HT rfl
     ·go_wp2_with fail;refine (aM o).mono ?_;rintro e K ⟨rfl,f⟩;simp only[aW];have a:Off b wr K:=Off.drn f;replace o:=aa (o.drn f);replace y:=aa (y.trans a);replace x:=aa (x.off a (by omega));replace u:=aa (u.off a (by omega));replace i:=aa (i.keep a J);obtain⟨⟨x0,x1,x2,x3,x4,x5⟩,T⟩:=bK u.out;obtain⟨⟨F,E,D,C,H,G⟩,⟨y0,y1,Y,Z,y4,y5⟩,r⟩:=aQ x.out
      try simp at F E D C H G y0 y1 Y Z y4 y5 r
      go_wp2_with fail;refine zN (v:=.agg #[Vi 2,Vz,.slice I O P,Vi 0,Vi 0,Vi 0]) (by simp[results,results97,go_sem,F,E,D,C,H,G]) rfl ⟨2,none,0,0,I,O,P,0,0,0,rfl,?_⟩;rw[A.out];exact mZ (λ_ _ xs o1 o2=>⟨_,xs,rfl,o1,o2⟩) (by simp[Pat.groups]) (by simp[Pat.deep]) i o y X HT rfl
    ·have c2:mw c=false:=by simpa using W
     have hr:=(rune_iff c).1 V.head;have h0:¬c<0:=by omega
     have f0:decide (c<0)=false:=by simpa using h0
     have Q:¬c=124/\¬c=38/\¬c=41:=by simpa [mw]using W
     have b1:(c==124)=false:=zD.2 Q.1;have b2:(c==38)=false:=zD.2 Q.2.1;have b3:(c==41)=false:=zD.2 Q.2.2;have d0:Hid ((dg (aU false n) (c::t)).bind (λp s'=>cG false (aU false n) j' (L++[p]) s')=R):=by
      have:=HE.out;simp only[cG,il,c2,Bool.false_and,Bool.or_self,yR,if_false]at this;exact this
     have d5:=aa (kJ (fU false n) (c::t));go_wp2_with fail;refine (aM o).mono ?_;rintro e K ⟨rfl,f⟩;simp only[aW];have a:Off b wr K:=Off.drn f;replace o:=aa (o.drn f);replace y:=aa (y.trans a);replace x:=aa (x.off a (by omega));replace u:=aa (u.off a (by omega));replace i:=aa (i.keep a J);go_wp2_with fail;refine (FN n ih b lv l _ _ _ _ _ o d2).mono ?_;rintro e w1 ⟨k,so,sn,sc,M,S,N,mm,nn,rr,rfl,B,b9⟩;have a0:=aa B;have a4:=aa ((u.off B (by omega)).alloc (.cells #[Vi k,.slice so sn sc,.slice M S N,Vi mm,Vi nn,Vi rr] 27));have HY:=aa ((ag.new w1 (bT k so sn sc M S N mm nn rr) 27));have HP:=aa b9;have a8:Hid (w.heap.size+1<K.heap.size):=u.lt;have d3:Hid (K.heap.size<=w1.heap.size):=B.size;obtain⟨⟨x0,x1,x2,x3,x4,x5⟩,T⟩:=bK a4.out;have f2:=a4.frozen 2;obtain⟨xs,q1,q2,q3⟩:=i.out;have c4:=aa q1;have d7:=aa q3;have b7:=aa q2;have a3:=bP q1 (λq hq=>a0.block q (q1.lt q hq).2 (by have:=(q1.lt q hq).1;omega));have d4:=aa ((a3.alloc (.cells #[Vi k,.slice so sn sc,.slice M S N,Vi mm,Vi nn,Vi rr] 27)).alloc (.cells #[Vi k,.slice so sn sc,.slice M S N,Vi mm,Vi nn,Vi rr] 27));have c7:Hid (∀q,(Value.slice I O P).ownBlock=some q->w.heap.size+1<=q):=λq hq=>(q1.lt q hq).1;go_wp2_with (at_builtin;refine pD rfl (.tmp 27) (.tmp 29) rfl (w.heap.size+1) L.length _ _ rfl d4 (aD (w1.heap.size+1) 0) (bT k so sn sc M S N mm nn rr) rfl rfl (wO _ _ _ _ _ _ _ _ _ _ _ _) (BB _ _ _ _ _ _ _ _ _ _) (by omega) (by have:=a8.out;have:=d3.out;simp;omega) ?_;intro v' w3 c0 b6 U;have c1:=aa c0;have a5:=aa b6;have e0:=aa U;obtain⟨b0,a2,rfl⟩:=tD c1.out;have a9:=aa (((a4).alloc (.cells #[Vi k,.slice so sn sc,.slice M S N,Vi mm,Vi nn,Vi rr] 27)).grown a5 (λe=>b7 e.symm));obtain⟨⟨_,_,e9,_,_,_⟩,e7⟩:=bK a9.out;have e6:=a9.frozen 2)
     go_roundg j'
     case measure=>omega
     case rel=>
      obtain⟨F1,F2⟩:=re (v':=.slice b0 (L.length+1) a2) c4.out (xC _) y.out a0.out a5.out;have b8:some b≠(Value.slice I O P).ownBlock:=λe=>by have:=c7.out b e.symm;omega
      have d6:some w.heap.size≠(Value.slice I O P).ownBlock:=λe=>by have:=c7.out _ e.symm;omega
      refine⟨F1,F2 _ _ _ (x.off a0 (by omega)) (by omega) d6,b0,L.length+1,a2,a9.set 2 _,?_⟩;have hp:=HP.out;have c3:=d5.out;have W:=d0.out;cases hr:dg (aU false n) (c::t)with
      |bad s2=>
       rw[hr]at hp W;obtain⟨i1,g1,m1,d9⟩:=hp;exact .inr ⟨s2,⟨i1,g1,m1,F2 _ _ _ d9 (by omega) b8⟩,W.symm⟩
      |ok p s2=>
       rw[hr]at hp W c3;obtain⟨d1,z⟩:=hp;have hl:=c3.1;have c8:=e4.out;simp only[zG]at hl e3 c5 c8;have e1:(g+groupsL L)+p.groups=g+groupsL (L++[p]):=by rw[iU];omega
       have e2:max (max m (d+(ce L:Int))) (d+(p.deep:Int))=max m (d+(ce (L++[p]):Int)):=by rw[mK];omega
       rw[e1,e2]at z;refine .inl ⟨L++[p],s2,LI.push c4 b7 d7 J a8 (Nat.lt_trans (xC _) a8) a0 d1 c1 a5 e0,St.move HT F1 z (F2 _ _ _ z.1 (by omega) b8),?_,by omega,W,by omega⟩;rw[zH];simp;omega
  ·have HB:=aa a1;have A:=aa c6;go_wp2_with fail;refine (Fj HB).mono ?_;rintro e K ⟨rfl,f⟩;have a:Off b wr K:=Off.drn f;replace HB:=aa (HB.off f);replace y:=aa (y.trans a);replace x:=aa (x.off a (by omega));replace u:=aa (u.off a (by omega));obtain⟨⟨x0,x1,x2,x3,x4,x5⟩,T⟩:=bK u.out;obtain⟨⟨F,E,D,C,H,G⟩,⟨y0,y1,Y,Z,y4,y5⟩,r⟩:=aQ x.out
   try simp at F E D C H G y0 y1 Y Z y4 y5 r
   go_wp2_with fail;refine zN (v:=.agg #[Vi 2,Vz,.slice I O P,Vi 0,Vi 0,Vi 0]) (by simp[results,results97,go_sem,F,E,D,C,H,G]) rfl ⟨2,none,0,0,I,O,P,0,0,0,rfl,?_⟩;rw[A.out];exact pE HB X y rfl
theorem TT (h:ag w y cs 27)(hl:cs.length=6)(hB:B<=y):w.ownsRow B 27 6 (Vs y 1 1) 1 cs:=by
 refine⟨by omega,.inr ⟨y,1,cs.toArray,rfl,hB,h,zA _,by unfold maxLen;omega,by simp[hl],?_⟩⟩;simp only[Nat.one_mul];rw[yF (by simp[hl])]
def MQ (w:World)(X:Nat)(b:Nat)(lv:Value)(l:List Int)(g:Nat)(d m:Int)(n:Nat)(kind:Int)(part:List Int->Res Pat)(sign:Int)(mk:List Pat->Pat)(R:Res Pat)(j:Nat)(wr:World):Prop :=
 Off b w wr/\ag wr w.heap.size Zq 27/\∃lo ln lc,ag wr X (bT kind none 0 0 lo ln lc 0 0 0) 27 /\
  ((∃L s0,LI w X (.slice lo ln lc) L g wr/\St wr b lv l s0 ((g+groupsL L:Nat):Int) d (max m (d+ce L))/\L.length+s0.length<=61/\s0.length<=n/\(if s0.head?=some sign then bE part sign mk j L s0.tail else .ok (mk L) s0)=R/\s0.length<=j)\/(∃s',gu wr b lv l s' d/\R=.bad s'))
theorem AM {kind:Int}{part:List Int->Res Pat}{sign:Int}{mk:List Pat->Pat}{lo1:OA}{ln1 lc1:Nat}
  (hp:kZ b lv l g d m (part s) (w.alloc Zo) w1 (bT k so sn sc lo1 ln1 lc1 mm nn rr)) (hgo:∀s,cN (part s) s) (hb:b<w.heap.size) (hn:s.length<=n) (h60:s.length<=60) :
  MQ w (w1.heap.size+1) b lv l g d m n kind part sign mk (bE part sign mk (s.length+1) [] s) s.length ((w1.alloc (.cells #[Vi k,.slice so sn sc,.slice lo1 ln1 lc1,Vi mm,Vi nn,Vi rr] 27)).alloc (.cells #[Vi kind,Vz,Vs w1.heap.size 1 1,Vi 0,Vi 0,Vi 0] 27)):=by
 obtain⟨f,hp⟩:=hp;have r:=f.size;simp at r;have t:(w1.alloc (.cells #[Vi k,.slice so sn sc,.slice lo1 ln1 lc1,Vi mm,Vi nn,Vi rr] 27)).heap.size=w1.heap.size+1:=by simp
 have h:=ag.new (w1.alloc (.cells #[Vi k,.slice so sn sc,.slice lo1 ln1 lc1,Vi mm,Vi nn,Vi rr] 27)) (bT kind none 0 0 (some (aD w1.heap.size 0)) 1 1 0 0 0) 27;rw[t]at h;refine⟨((((Off.refl b w).alloc _).trans f).alloc _).alloc _,(((ag.new w Zq 27).off f (by omega)).alloc _).alloc _,_,_,_,h,?_⟩;have a:=hgo s;cases hr:part s with
 |bad s'=>
  rw[hr]at hp;refine .inr ⟨s',(hp.below ((zE _ _).alloc (zA _) _)).below ((zE _ _).alloc (zA _) _),?_⟩;simp only[bE,hr,Res.bind]
 |ok p s'=>
  rw[hr]at hp a;obtain⟨e,c⟩:=hp;have v:=List.IsSuffix.length_le a;refine .inl ⟨[p],s',?_,?_,by simp;omega,by omega,by simp only[bE,hr,Res.bind,zd],v⟩
  ·have i:=(ag.new w1 (bT k so sn sc lo1 ln1 lc1 mm nn rr) 27).alloc (.cells #[Vi kind,Vz,Vs w1.heap.size 1 1,Vi 0,Vi 0,Vi 0] 27);refine⟨_,TT i rfl (by omega),by simp[Value.ownBlock],bT k so sn sc lo1 ln1 lc1 mm nn rr,[],by simp,?_,rfl⟩;refine NV.keep ((ah.alloc _ _ _).trans (ah.alloc _ _ _)) p _ g (NV.mono (λq x j=>?_) p _ g e);simp at j;exact⟨by omega,by omega,by simp[Value.ownBlock];omega⟩
  ·have o:g+p.groups=g+groupsL [p]:=by simp[groupsL]
   have u:max m (d+(p.deep:Int))=max m (d+(ce [p]:Int)):=by simp[ce]
   rw[o,u]at c;exact (c.new _).new _
theorem aai {F G:Nat}{kd sg:Int}{mk:List Pat->Pat}{part:List Int->Res Pat}(hk:(F=56/\G=97/\kd=4/\sg=38/\mk=Pat.and)\/(F=27/\G=56/\kd=3/\sg=124/\mk=Pat.or))(hc:∀(s:LZ) (g:Nat) (d m:Int) (w:World),St w b lv l s g d m->s.length<=n->bJ G b lv l g d m (part s) w)(hgo:∀s,cN (part s) s)(h:St w b lv l s g d m)(hn:s.length<=n):bJ F b lv l g d m (bE part sg mk (s.length+1) [] s) w:=by
 unfold bJ;have HC:=aa hc;have d6:=aa h;have b7:=aa h.1.lt;have B:=h.1.lt;have HT:=aa h.2.2.1;have e6:=h.2.1.length_le;have e3:=h.2.2.2.1;have c8:=aa hgo;have c0:=aa (λZ k C P M i c o S D H (f:kZ b lv l g d m (part s) _ Z (bT k C P M i c o S D H))=>AM (w:=w) (kind:=kd) (sign:=sg) (mk:=mk) (n:=n) f hgo B hn (by omega));generalize bE part sg mk (s.length+1) [] s=R at c0 ⊢;generalize hJ:(λX=>MQ w X b lv l g d m n kd part sg mk R)=J;have HJ:=aa (λX=>congrFun hJ X);obtain⟨K,hK⟩:∃K,K=kd:=⟨_,rfl⟩;have b9:=aa hK;rcases hk with⟨rfl,rfl,rfl,rfl,rfl⟩|⟨rfl,rfl,rfl,rfl,rfl⟩
 all_goals
  first|go_enter func56,ntmps56|go_enter func27,ntmps27
  go_wp2_with fail;refine (HC _ _ _ _ _ (d6.new Zo) hn).mono ?_;rintro e Z ⟨k,C,P,M,i,c,o,S,D,H,rfl,f⟩;have V:=c0.out _ _ _ _ _ _ _ _ _ _ _ f;have e8:w.heap.size+1<=Z.heap.size:=by have:=f.1.size;simp at this;omega
  generalize hXe:Z.heap.size+1=X at V;have c2:=aa ((congrFun (congrFun (HJ X) _) _).mp V);have a9:w.heap.size<X:=by omega
  go_wp2_with fail
  go_loopg [4,5] s.length (λj _ _ wr=>J X j wr)
  case atStart=>exact c2
  case round=>
   rw[<-HJ.out]at hrel;obtain⟨ho,a7,lo,ln,lc,hx,Y⟩:=hrel;have U:=aa ho;have HK:=aa a7;have HX:=aa hx;rcases Y with⟨L,s0,u,b2,d3,b4,x,b5⟩|⟨s',Q,b8⟩
   all_goals try (have HS:=aa b2;have z:=aa u;have d9:=aa b5;split at x<;>rename_i hsg)
   ·obtain⟨t,rfl⟩:∃t,s0=_::t:=⟨_,eZ hsg⟩;obtain⟨j',rfl⟩:∃j',gk=j'+1:=⟨gk-1,by simp only[zG]at b5;omega⟩;simp only[yt,bE]at x;have c5:=aa x;have c9:Hid (t.length<=n):=by simp only[zG]at b4;show _<=_;omega
    go_wp2_with fail;refine (dc HS (by decide) (by decide)).mono ?_;rintro e wt ⟨rfl,O,I⟩;have a:Off b wr wt:=I;replace U:=aa (U.trans a);replace HK:=aa (HK.off a (by omega));replace HX:=aa (HX.off a (by omega));replace HS:=aa O;replace z:=aa (z.keep a B);go_wp2_with fail;refine (HC _ _ _ _ _ HS c9).mono ?_;rintro e Z ⟨k,C,P,M,i,c,o,S,D,H,rfl,r,f⟩;have A:=aa r;have W:=aa ((HX.off r (by omega)).alloc (.cells #[Vi k,.slice C P M,.slice i c o,Vi S,Vi D,Vi H] 27));have HP:=aa f;have a0:Hid (X<wt.heap.size):=HX.lt;have d8:Hid (wt.heap.size<=Z.heap.size):=r.size;obtain⟨⟨x0,x1,x2,x3,x4,x5⟩,e0⟩:=bK W.out;have e7:=W.frozen 2;obtain⟨xs,q1,q2,q3⟩:=z.out;have a4:=aa q1;have d5:=aa q3;have a6:=aa q2;have E:=bP q1 (λq hq=>A.block q (q1.lt q hq).2 (by have:=(q1.lt q hq).1;omega));have d2:=aa ((E.alloc (.cells #[Vi k,.slice C P M,.slice i c o,Vi S,Vi D,Vi H] 27)).alloc (.cells #[Vi k,.slice C P M,.slice i c o,Vi S,Vi D,Vi H] 27));have a3:Hid (∀q,(Value.slice lo ln lc).ownBlock=some q->w.heap.size+1<=q):=λq hq=>(q1.lt q hq).1;go_wp2_with (at_builtin;refine pD rfl (.tmp 18) (.tmp 20) rfl (w.heap.size+1) L.length _ _ rfl d2 (aD (Z.heap.size+1) 0) (bT k C P M i c o S D H) rfl rfl (wO _ _ _ _ _ _ _ _ _ _ _ _) (BB _ _ _ _ _ _ _ _ _ _) (by omega) (by have:=a0.out;have:=d8.out;simp;omega) ?_;intro v' w3 b6 a5 y;have a8:=aa b6;have a1:=aa a5;have d1:=aa y;obtain⟨c4,N,rfl⟩:=tD a8.out;have T:=aa (((W).alloc (.cells #[Vi k,.slice C P M,.slice i c o,Vi S,Vi D,Vi H] 27)).grown a1 (λe=>a6 e.symm));obtain⟨⟨_,_,e9,_,_,_⟩,e4⟩:=bK T.out;have e5:=T.frozen 2)
    go_roundg j'
    case measure=>omega
    case rel=>
     rw[<-HJ.out];obtain⟨F1,F2⟩:=re (v':=.slice c4 (L.length+1) N) a4.out a9 U.out A.out a1.out;have c1:some b≠(Value.slice lo ln lc).ownBlock:=λe=>by have:=a3.out b e.symm;omega
     have d4:some w.heap.size≠(Value.slice lo ln lc).ownBlock:=λe=>by have:=a3.out _ e.symm;omega
     refine⟨F1,F2 _ _ _ (HK.off A (by omega)) (by omega) d4,c4,L.length+1,N,T.set 2 _,?_⟩;have hp:=HP.out;have c3:=c8.out t;have he:=c5.out;cases hr:part t with
     |bad s2=>
      rw[hr]at hp he;obtain⟨i1,g1,m1,c7⟩:=hp;exact .inr ⟨s2,⟨i1,g1,m1,F2 _ _ _ c7 (by omega) c1⟩,he.symm⟩
     |ok p s2=>
      rw[hr]at hp he c3;obtain⟨d0,u⟩:=hp;have hl:=List.IsSuffix.length_le c3;have b3:=d9.out;simp only[zG]at d3 b4 b3;have e1:(g+groupsL L)+p.groups=g+groupsL (L++[p]):=by rw[iU];omega
      have e2:max (max m (d+(ce L:Int))) (d+(p.deep:Int))=max m (d+(ce (L++[p]):Int)):=by rw[mK];omega
      rw[e1,e2]at u;refine .inl ⟨L++[p],s2,LI.push a4 a6 d5 B a0 (Nat.lt_trans a9 a0) A d0 a8 a1 d1,St.move HT F1 u (F2 _ _ _ u.1 (by omega) c1),?_,by omega,he,by omega⟩;rw[zH];simp;omega
   all_goals
    first|(have HN:=aa hsg;have b0:=aa x.symm)|(have HB:=aa Q;have b0:=aa b8)
    go_wp2_with fail
    first|refine (ep _ HS (by decide) (by decide) HN).mono ?_|refine (takes_bad _ _ _ _ _ _ HB (by decide) (by decide)).mono ?_
    rintro e wt ⟨rfl,a2⟩;have a:Off b wr wt:=Off.drn a2;replace U:=aa (U.trans a);replace HK:=aa (HK.off a (by omega));replace HX:=aa (HX.off a (by omega));have c6:=aa a;have b1:=aa a2;obtain⟨⟨x0,x1,x2,x3,x4,x5⟩,e0⟩:=bK HX.out;obtain⟨⟨z0,z1,z2,z3,z4,z5⟩,⟨y0,y1,y2,y3,y4,y5⟩,d7⟩:=aQ HK.out
    try simp at z0 z1 z2 z3 z4 z5 y0 y1 y2 y3 y4 y5 d7
    go_wp2_with fail;refine zN (v:=.agg #[Vi K,Vz,.slice lo ln lc,Vi 0,Vi 0,Vi 0]) (by simp[results,results56,results27,go_sem,b9.out,z0,z1,z2,z3,z4,z5]) rfl ⟨K,none,0,0,lo,ln,lc,0,0,0,rfl,?_⟩;rw[b0.out,b9.out]
   ·exact mZ (λ_ _ xs o1 o2=>⟨_,xs,rfl,o1,o2⟩) (by simp[Pat.groups]) (by simp[Pat.deep]) (z.keep c6 B) (HS.drn b1) U b7 HT rfl
   ·exact pE (HB.off b1) b7 U rfl
theorem NX:∀n,ld n
 |0,_,_,_,s,_,_,_,_,_,a=>by omega
 |n+1,b,lv,l,s,g,d,m,w,h,a=>aai (.inr ⟨rfl,rfl,rfl,rfl,rfl⟩) (λs g d m w h a=>aai (.inl ⟨rfl,rfl,rfl,rfl,rfl⟩) (λs g d m w h a=>JS (NX n) b lv l s g d m w h a) (oO (fU false n)) h a) (oP (fU false n)) h (by omega)
theorem lf (w:World)(zs:LZ)(hz:∀x∈zs,0<=x/\x<256):(convert 93 9 (Vs w.heap.size zs.length zs.length)).run prog (w.alloc (.cells (zs.map (Value.int .u8)).toArray 5))=.ok (.string ⟨(zs.map λx=>x.toNat.toUInt8).toArray⟩) (w.alloc (.cells (zs.map (Value.int .u8)).toArray 5)):=by
 have h:=run_convert_bytes_back (P:=prog) (w.alloc (.cells (zs.map (Value.int .u8)).toArray 5)) 93 9 5 (aD w.heap.size 0) zs.length (zs.map λx=>x.toNat.toUInt8) underlying93 underlying5 underlying9 (λj b=>by
  rw[zl,zf,(ag.new w (zs.map (Value.int .u8)) 5).cell];have a:j<zs.length:=by simpa using b
  rw[zg,zB a,List.getElem_map];have:=hz zs[j] (xE a);simp only[yw];congr 2;rw[UInt8.toNat_ofNat_of_lt' (by show _<256;omega)];omega)
 simpa using h
theorem QQ (c:Int)(w:World)(h0:0<=c)(h1:c<128):Calls prog 31 #[Vi c] w λe w'=>∃s,e=.returned (.string s)/\af s=Lib.encodeRune c/\Bw w w':=by
 have a:=lf w [c] (by simp;omega);have b:Hid (Lib.encodeRune c=[c.toNat.toUInt8]):=by show _=_;unfold Lib.encodeRune;rw[Lib.encodeRuneZ_one h0 (by omega)];rfl
 simp only[zG,zh,zp,yU]at a;go_enter func31,ntmps31;go_wp2;go_ret;exact⟨_,rfl,by rw[b.out];rfl,(zE _ _).alloc (zA _) _⟩
theorem QR (c:Int)(w:World)(h0:128<=c)(h1:c<2048):Calls prog 31 #[Vi c] w λe w'=>∃s,e=.returned (.string s)/\af s=Lib.encodeRune c/\Bw w w':=by
 have a:=lf w [192+c / 64,128+c % 64] (by simp only[zO,xD,or_false];rintro x b;(repeat' (rcases b with rfl|b))<;>(try subst b)<;>omega);have d:Hid (Lib.encodeRune c=[(192+c / 64).toNat.toUInt8,(128+c % 64).toNat.toUInt8]):=by show _=_;unfold Lib.encodeRune;rw[Lib.encodeRuneZ_two h0 (by omega)];rfl
 simp only[zG,zh,zp,yU]at a;have f:decide (c<128)=false:=zI (by omega);go_enter func31,ntmps31;go_wp2;go_ret;exact⟨_,rfl,by rw[d.out];rfl,(zE _ _).alloc (zA _) _⟩
theorem KD (c:Int)(w:World)(h0:2048<=c)(h1:c<65536)(hr:c<55296\/57343<c):Calls prog 31 #[Vi c] w λe w'=>∃s,e=.returned (.string s)/\af s=Lib.encodeRune c/\Bw w w':=by
 have a:=lf w [224+c / 4096,128+c / 64 % 64,128+c % 64] (by simp only[zO,xD,or_false];rintro x b;(repeat' (rcases b with rfl|b))<;>(try subst b)<;>omega);have d:Hid (Lib.encodeRune c=[(224+c / 4096).toNat.toUInt8,(128+c / 64 % 64).toNat.toUInt8,(128+c % 64).toNat.toUInt8]):=by show _=_;unfold Lib.encodeRune;rw[Lib.encodeRuneZ_three (by omega)];rfl
 simp only[zG,zh,zp,yU]at a;have f:decide (c<128)=false:=zI (by omega);have g:decide (c<2048)=false:=zI (by omega);go_enter func31,ntmps31;go_wp2;go_ret;exact⟨_,rfl,by rw[d.out];rfl,(zE _ _).alloc (zA _) _⟩
theorem Nl (c:Int)(w:World)(h0:65536<=c)(h1:c<=1114111):Calls prog 31 #[Vi c] w λe w'=>∃s,e=.returned (.string s)/\af s=Lib.encodeRune c/\Bw w w':=by
 have a:=lf w [240+c / 262144,128+c / 4096 % 64,128+c / 64 % 64,128+c % 64] (by simp only[zO,xD,or_false];rintro x b;(repeat' (rcases b with rfl|b))<;>(try subst b)<;>omega);have d:Hid (Lib.encodeRune c=[(240+c / 262144).toNat.toUInt8,(128+c / 4096 % 64).toNat.toUInt8,(128+c / 64 % 64).toNat.toUInt8,(128+c % 64).toNat.toUInt8]):=by show _=_;unfold Lib.encodeRune;rw[Lib.encodeRuneZ_four h0 h1];rfl
 simp only[zG,zh,zp,yU]at a;have g:decide (c<128)=false:=zI (by omega);have h:decide (c<2048)=false:=zI (by omega);have f:decide (c<65536)=false:=zI (by omega);go_enter func31,ntmps31;go_wp2;go_ret;exact⟨_,rfl,by rw[d.out];rfl,(zE _ _).alloc (zA _) _⟩
theorem QS (c:Int)(w:World)(hc:runeB c=true):Calls prog 31 #[Vi c] w λe w'=>∃s,e=.returned (.string s)/\af s=Lib.encodeRune c/\Bw w w':=by
 have h:=(rune_iff c).1 hc;by_cases a:c<128
 ·exact QQ c w (by omega) a
 ·by_cases b:c<2048
  ·exact QR c w (by omega) b
  ·by_cases d:c<65536
   ·exact KD c w (by omega) d (by omega)
   ·exact Nl c w (by omega) (by omega)
theorem NV.below {w w':World}{A:NP}{p:Pat}{c:LV}{g:Nat}(h:NV w A p c g)(hb:Bw w w'):NV w' A p c g:=NV.keep (ah.below hb) p c g h
theorem cB.below {w w':World}{A:NP}{e:TypeId}{size:Nat}{v:Value}{n:Nat}{xs:LV}(h:cB w A e size v n xs)(hb:Bw w w'):cB w' A e size v n xs:=h.keep (ah.below hb)
theorem IX (h:cB w A 27 6 lv n xs)(hi:i<n)(hc:bT k so sn sc lo ln lc mm nn rr=(xs.drop (i*6)).take 6):∃b cap,lv=Vs b n cap/\b<w.heap.size/\w.cell? ⟨b,i*6,none⟩=some (Vi k)/\w.cell? ⟨b,i*6+1,none⟩=some (.slice so sn sc)/\w.cell? ⟨b,i*6+2,none⟩=some (.slice lo ln lc)/\w.cell? ⟨b,i*6+3,none⟩=some (Vi mm)/\w.cell? ⟨b,i*6+4,none⟩=some (Vi nn)/\w.cell? ⟨b,i*6+5,none⟩=some (Vi rr):=by
 rcases h.1.2 with⟨rfl,m⟩|⟨b,cap,e,rfl,l,g,o⟩
 ·omega
 ·refine⟨b,cap,rfl,(h.1.lt b rfl).2,?_⟩;have a:∀j u,(bT k so sn sc lo ln lc mm nn rr)[j]?=some u->w.cell? ⟨b,i*6+j,none⟩=some u:=by
   intro j u d;have c:j<6:=(zC.1 d).1;have f:xs[i*6+j]?=some u:=by
    rw[hc,List.getElem?_take,zX c,List.getElem?_drop]at d;exact d
   have:=h.1.cells rfl (i*6+j) u f;rw[zl]at this;simpa using this
  exact⟨a 0 _ rfl,a 1 _ rfl,a 2 _ rfl,a 3 _ rfl,a 4 _ rfl,a 5 _ rfl⟩
