import Derived.Test.YtebnghmioamheaaGreatDoorM04
import Derived.Test.YtebnghmioamheaaGreatDoorM09
set_option linter.all false
namespace Go.Proofs.YtebnghmioamheaaGreatDoor
open Go.RowKit Brm Tryz
variable {A A':NP}{b B size n g i j r y sn sc ln lc X:Nat}{w w' a w1 w2 wr:World}{e:TypeId}{v lv c0 c1 c2 c3 c4 c5:Value}{xs cs:LV}{p:Pat}{l s t:LZ}{c d m k mm nn rr:Int}{α:Type}{ps L:List Pat}{so lo:OA}{o:Obj}
def cB (w:World)(A:Nat->Prop)(e:TypeId)(size:Nat)(v:Value)(n:Nat)(xs:List Value):Prop:=w.ownsRow 0 e size v n xs/\∀g,v.ownBlock=some g->A g
def cC (w:World)(A:Nat->Prop)(v:Value)(s:List (Int×Int)):Prop:=∃q,Brm.PCanon q/\Brm.told q=s /\
 ((v=Vz/\q=[])\/∃b off cap,v=.slice (some (aD b off)) q.length cap/\q.length<=cap/\A b/\b<w.heap.size/\Rd w (some (aD b off)) q)
def ZE (n:Int):Value:=Vi n
def nil:Value:=Vz
mutual
def NV (w:World)(A:Nat->Prop):Pat->List Value->Nat->Prop
 |.set s,c,_=>∃sv,c=[Vi 1,sv,Vz,Vi 0,Vi 0,Vi 0]/\cC w A sv s
 |.row l,c,g=>∃lv xs,c=[Vi 2,Vz,lv,Vi 0,Vi 0,Vi 0]/\cB w A 27 6 lv l.length xs/\NL w A l xs g
 |.or l,c,g=>∃lv xs,c=[Vi 3,Vz,lv,Vi 0,Vi 0,Vi 0]/\cB w A 27 6 lv l.length xs/\NL w A l xs g
 |.and l,c,g=>∃lv xs,c=[Vi 4,Vz,lv,Vi 0,Vi 0,Vi 0]/\cB w A 27 6 lv l.length xs/\NL w A l xs g
 |.not p,c,g=>∃lv xs,c=[Vi 5,Vz,lv,Vi 0,Vi 0,Vi 0]/\cB w A 27 6 lv 1 xs/\NV w A p xs g
 |.many p m n,c,g=>∃lv xs,c=[Vi 6,Vz,lv,Vi m,Vi n,Vi 0]/\cB w A 27 6 lv 1 xs/\NV w A p xs g
 |.group p,c,g=>∃lv xs,c=[Vi 7,Vz,lv,Vi 0,Vi 0,Vi g]/\cB w A 27 6 lv 1 xs/\NV w A p xs (g+1)
def NL (w:World)(A:Nat->Prop):List Pat->List Value->Nat->Prop
 | [],xs,_=>xs=[]
 |p::l,xs,g=>∃c r,xs=c++r/\NV w A p c g/\NL w A l r (g+p.groups)
end
def ah (A:Nat->Prop)(w w':World):Prop:=w.heap.size<=w'.heap.size/\∀k,k<w.heap.size->A k->w'.heap[k]?=w.heap[k]?
theorem ah.off (h:Off b w w')(hb:¬A b):ah A w w':=⟨h.size,λk a c=>h.block k a (λe=>hb (e▸c))⟩
theorem ah.below (h:Bw w w'):ah A w w':=⟨h.size,λk a _=>h.block k a⟩
theorem ah.grown {row:Option Nat}(h:w.grownBy w' row)(hr:∀k,row=some k->¬A k):ah A w w':=⟨h.size,λk a b=>h.block k a (λe=>hr k e.symm b)⟩
theorem ah.set {p:Addr}(u:Value)(h:¬A p.block):ah A w (w.setCell p u):=⟨by simp[World.setCell],λk _ a=>zk _ _ _ _ (λe=>h (e▸a))⟩
theorem ah.trans {A:NP}{a b c:World}(h:ah A a b)(k:ah A b c):ah A a c:=⟨zJ h.1 k.1,λi d e=>(k.2 i (zF d h.1) e).trans (h.2 i d e)⟩
theorem ah.refl (A:NP)(w:World):ah A w w:=⟨zA _,λ_ _ _=>rfl⟩
theorem ah.alloc (A:NP)(w:World)(o:Obj):ah A w (w.alloc o):=⟨by simp,λ_ a _=>zS _ _ _ a⟩
theorem ah.drew {A:NP}{a w:World}(h:ah A a w):ah A a w.drew:=h
theorem bP (h:w.ownsRow B e size v n xs)(hk:∀g,v.ownBlock=some g->w'.heap[g]?=w.heap[g]?):w'.ownsRow B e size v n xs:=by
 refine⟨h.1,?_⟩;rcases h.2 with d|⟨g,b,a,rfl,f,c,r⟩
 ·exact .inl d
 ·exact .inr ⟨g,b,a,rfl,f,(hk g rfl).trans c,r⟩
theorem cB.keep (h:cB w A e size v n xs)(k:ah A w w'):cB w' A e size v n xs :=
 ⟨bP h.1 (λg a=>k.2 g (h.1.lt g a).2 (h.2 g a)),h.2⟩
theorem cB.mono (h:cB w A e size v n xs)(k:∀g,g<w.heap.size->A g->A' g):cB w A' e size v n xs :=
 ⟨h.1,λg a=>k g (h.1.lt g a).2 (h.2 g a)⟩
theorem cC.keep {s:LQ}(h:cC w A v s)(k:ah A w w'):cC w' A v s:=by
 obtain⟨q,m,n,c⟩:=h;refine⟨q,m,n,?_⟩;rcases c with c|⟨b,a,f,e,o,j,d,u⟩
 ·exact .inl c
 ·refine .inr ⟨b,a,f,e,o,j,zF d k.1,?_⟩;intro i x t;obtain⟨B,g,p,r,y,z⟩:=u i x t;cases p;have l:=k.2 b d j;exact⟨b,a,rfl,zF d k.1,by rw[zP (w:=w) l];exact y,by rw[zP (w:=w) l];exact z⟩
theorem cC.mono {s:LQ}(h:cC w A v s)(k:∀g,g<w.heap.size->A g->A' g):cC w A' v s:=by
 obtain⟨q,i,j,a⟩:=h;refine⟨q,i,j,?_⟩;rcases a with a|⟨b,c,d,e,l,n,f,m⟩
 ·exact .inl a
 ·exact .inr ⟨b,c,d,e,l,k b f n,f,m⟩
mutual
theorem NV.keep {A:NP}{w w':World}(k:ah A w w'):∀(p:Pat) (c:LV) (g:Nat),NV w A p c g->NV w' A p c g
 |.set s,c,g,h=>by obtain⟨j,e,i⟩:=h;exact⟨j,e,i.keep k⟩
 |.row l,c,g,h=>by obtain⟨f,a,e,b,d⟩:=h;exact⟨f,a,e,b.keep k,NL.keep k l a g d⟩
 |.or l,c,g,h=>by obtain⟨f,a,e,b,d⟩:=h;exact⟨f,a,e,b.keep k,NL.keep k l a g d⟩
 |.and l,c,g,h=>by obtain⟨f,a,e,b,d⟩:=h;exact⟨f,a,e,b.keep k,NL.keep k l a g d⟩
 |.not p,c,g,h=>by obtain⟨f,a,e,b,d⟩:=h;exact⟨f,a,e,b.keep k,NV.keep k p a g d⟩
 |.many p m n,c,g,h=>by obtain⟨f,a,e,b,d⟩:=h;exact⟨f,a,e,b.keep k,NV.keep k p a g d⟩
 |.group p,c,g,h=>by obtain⟨f,a,e,b,d⟩:=h;exact⟨f,a,e,b.keep k,NV.keep k p a (g+1) d⟩
theorem NL.keep {A:NP}{w w':World}(k:ah A w w'):∀(l:List Pat) (xs:LV) (g:Nat),NL w A l xs g->NL w' A l xs g
 | [],xs,g,h=>h
 |p::l,xs,g,h=>by obtain⟨c,r,e,b,a⟩:=h;exact⟨c,r,e,NV.keep k p c g b,NL.keep k l r _ a⟩
end
mutual
theorem NV.mono {A A':NP}{w:World}(k:∀g,g<w.heap.size->A g->A' g):∀(p:Pat) (c:LV) (g:Nat),NV w A p c g->NV w A' p c g
 |.set s,c,g,h=>by obtain⟨j,e,i⟩:=h;exact⟨j,e,i.mono k⟩
 |.row l,c,g,h=>by obtain⟨f,a,e,b,d⟩:=h;exact⟨f,a,e,b.mono k,NL.mono k l a g d⟩
 |.or l,c,g,h=>by obtain⟨f,a,e,b,d⟩:=h;exact⟨f,a,e,b.mono k,NL.mono k l a g d⟩
 |.and l,c,g,h=>by obtain⟨f,a,e,b,d⟩:=h;exact⟨f,a,e,b.mono k,NL.mono k l a g d⟩
 |.not p,c,g,h=>by obtain⟨f,a,e,b,d⟩:=h;exact⟨f,a,e,b.mono k,NV.mono k p a g d⟩
 |.many p m n,c,g,h=>by obtain⟨f,a,e,b,d⟩:=h;exact⟨f,a,e,b.mono k,NV.mono k p a g d⟩
 |.group p,c,g,h=>by obtain⟨f,a,e,b,d⟩:=h;exact⟨f,a,e,b.mono k,NV.mono k p a (g+1) d⟩
theorem NL.mono {A A':NP}{w:World}(k:∀g,g<w.heap.size->A g->A' g):∀(l:List Pat) (xs:LV) (g:Nat),NL w A l xs g->NL w A' l xs g
 | [],xs,g,h=>h
 |p::l,xs,g,h=>by obtain⟨c,r,e,b,a⟩:=h;exact⟨c,r,e,NV.mono k p c g b,NL.mono k l r _ a⟩
end
def Kz (v:Value):Prop:=∃so sn sc,v=.slice so sn sc
theorem mP (h:cB w A e size v n xs):Kz v:=by
 rcases h.1.2 with⟨rfl,_⟩|⟨g,a,b,rfl,_⟩<;>exact⟨_,_,_,rfl⟩
theorem kl {s:LQ}(h:cC w A v s):Kz v:=by
 obtain⟨q,_,_,⟨rfl,_⟩|⟨b,c,a,rfl,_⟩⟩:=h<;>exact⟨_,_,_,rfl⟩
def bT (k:Int)(so:Option Addr)(sn sc:Nat)(lo:Option Addr)(ln lc:Nat)(mm nn rr:Int):List Value:=[Vi k,.slice so sn sc,.slice lo ln lc,Vi mm,Vi nn,Vi rr]
theorem NV.len {c:LV}(h:NV w A p c g):∃k so sn sc lo ln lc m n r,c=bT k so sn sc lo ln lc m n r:=by
 cases p with
 |set s=>obtain⟨i,rfl,f⟩:=h;obtain⟨so,sn,sc,rfl⟩:=kl f;exact⟨_,_,_,_,_,_,_,_,_,_,rfl⟩
 |row l=>obtain⟨d,e,rfl,a,b⟩:=h;obtain⟨so,sn,sc,rfl⟩:=mP a;exact⟨_,_,_,_,_,_,_,_,_,_,rfl⟩
 |or l=>obtain⟨d,e,rfl,a,b⟩:=h;obtain⟨so,sn,sc,rfl⟩:=mP a;exact⟨_,_,_,_,_,_,_,_,_,_,rfl⟩
 |and l=>obtain⟨d,e,rfl,a,b⟩:=h;obtain⟨so,sn,sc,rfl⟩:=mP a;exact⟨_,_,_,_,_,_,_,_,_,_,rfl⟩
 |not p=>obtain⟨d,e,rfl,a,b⟩:=h;obtain⟨so,sn,sc,rfl⟩:=mP a;exact⟨_,_,_,_,_,_,_,_,_,_,rfl⟩
 |many p m n=>obtain⟨d,e,rfl,a,b⟩:=h;obtain⟨so,sn,sc,rfl⟩:=mP a;exact⟨_,_,_,_,_,_,_,_,_,_,rfl⟩
 |group p=>obtain⟨d,e,rfl,a,b⟩:=h;obtain⟨so,sn,sc,rfl⟩:=mP a;exact⟨_,_,_,_,_,_,_,_,_,_,rfl⟩
theorem NV.six {c:LV}(h:NV w A p c g):c.length=6:=by
 obtain⟨k,a,e,d,i,f,b,m,n,r,rfl⟩:=h.len;rfl
theorem NL.snoc {w:World}{A:NP}:∀(l:List Pat) (xs:LV) (g:Nat) (p:Pat) (c:LV),NL w A l xs g->NV w A p c (g+Brm.groupsL l)->NL w A (l++[p]) (xs++c) g
 | [],xs,g,p,c,h,hp=>by
  have:xs=[]:=h;subst this;exact⟨c,[],by simp,by simpa [Brm.groupsL]using hp,rfl⟩
 |q::l,xs,g,p,c,h,hp=>by
  obtain⟨d,r,rfl,b,a⟩:=h;exact⟨d,r++c,by simp,b,NL.snoc l r _ p c a (by simp only[Brm.groupsL]at hp;rw[xG];exact hp)⟩
theorem NL.at {w:World}{A:NP}:∀(l:List Pat) (xs:LV) (g:Nat),NL w A l xs g->∀(i:Nat) (p:Pat),l[i]?=some p->∃c g',NV w A p c g'/\c=(xs.drop (i*6)).take 6
 | [],_,_,_,i,p,hi=>by simp at hi
 |q::l,xs,g,h,0,p,hi=>by
  obtain⟨d,r,rfl,a,b⟩:=h;simp at hi;subst hi;exact⟨d,g,a,by have:=a.six;simp[<-this]⟩
 |q::l,xs,g,h,i+1,p,hi=>by
  obtain⟨d,r,rfl,a,b⟩:=h;obtain⟨c,g',f,e⟩:=NL.at l r _ b i p (by simpa using hi);refine⟨c,g',f,?_⟩;rw[e];have:=a.six;rw[show (i+1)*6=d.length+i*6 from by omega,<-List.drop_drop];simp
set_option maxHeartbeats 400000
set_option maxRecDepth 100000
def UF (w:World)(b:Nat)(lv:Value)(i bad g d m:Int):Prop:=ag w b [lv,Vi i,Vi bad,Vi g,Vi d,Vi m] 76
def te (w:World)(b:Nat)(lv:Value)(l:List Int):Prop:=cB w (λk=>k≠b) 3 1 lv l.length (l.map λc=>Vi c)
def St (w:World)(b:Nat)(lv:Value)(l s:List Int)(g d m:Int):Prop :=
 UF w b lv ((l.length-s.length:Nat):Int) (-1) g d m/\s <:+ l/\te w b lv l/\l.length<=60/\dh l/\0<=g/\g<=((l.length-s.length:Nat):Int)/\0<=d/\d<=((l.length-s.length:Nat):Int)/\0<=m/\m<=((l.length-s.length:Nat):Int)/\d<=m
def gu (w:World)(b:Nat)(lv:Value)(l s:List Int)(d:Int):Prop:=∃i g m:Int,UF w b lv i ((l.length-s.length:Nat):Int) g d m
def aW (s:List Int):Int:=match s with|[]=>-1|c::_=>c
theorem SD (h:te w b lv l):∃ao cap,lv=.slice ao l.length cap/\∀i c,l[i]?=some c->∃bl,ao=some (aD bl 0)/\bl<w.heap.size/\bl≠b/\w.cell? (aD bl i)=some (Vi c):=by
 obtain⟨d,j⟩:=h;rcases d.2 with⟨rfl,e⟩|⟨g,cap,f,rfl,k,q,p,m,o,n⟩
 ·exact⟨none,0,by rw[e],λi c a=>by rw[zq.1 e]at a;simp at a⟩
 ·refine⟨_,cap,rfl,λi c a=>⟨g,rfl,(d.lt g rfl).2,j g rfl,?_⟩⟩;have:=d.cells rfl i (Vi c) (by rw[zg,a];rfl);rw[zl]at this;simpa using this
def oN (w w':World):Prop:=∃n,w'=w.drewN n
theorem uA (w:World)(n:Nat):oN w (w.drewN n):=⟨n,rfl⟩
theorem Ph {b c:World}(h:oN a b)(k:oN b c):oN a c:=by
 obtain⟨n,rfl⟩:=h;obtain⟨m,rfl⟩:=k;exact⟨n+m,by simp[World.drewN,xG]⟩
theorem XC (h:s <:+ l)(hs:s=c::t):l[l.length-s.length]?=some c:=by
 obtain⟨p,rfl⟩:=h;subst hs;rw[zH,Nat.add_sub_cancel,yk (zA _),Nat.sub_self];rfl
theorem St.cells {g:Int}(h:St w b lv l s g d m) :
  w.cell? (aD b 0)=some lv/\w.cell? (aD b 1)=some (Vi ((l.length-s.length:Nat):Int))/\w.cell? (aD b 2)=some (Vi (-1))/\w.cell? (aD b 3)=some (Vi g)/\w.cell? (aD b 4)=some (Vi d)/\w.cell? (aD b 5)=some (Vi m)/\b<w.heap.size :=
 ⟨h.1.cell 0,h.1.cell 1,h.1.cell 2,h.1.cell 3,h.1.cell 4,h.1.cell 5,h.1.lt⟩
theorem aM {g:Int}(h:St w b lv l s g d m):Calls prog 98 #[Vp b] w λe w'=>e=.returned (Vi (aW s))/\oN w w':=by
 have q:=aa h;obtain⟨x,i,F,_,_,_,C⟩:=h.cells;obtain⟨D,u,rfl,a⟩:=SD h.2.2.1;have v:=h.2.2.2.1;have o:=h.2.1.length_le;cases s with
 |nil=>
  simp only[zh,Nat.sub_zero]at i;have y:decide ((l.length:Int)<=(l.length:Int))=true:=by simp
  go_enter func98,ntmps98;go_wp2_with fail
  go_quiet (fail)
  go_wp2;go_ret;exact⟨rfl,uA _ _⟩
 |cons c t=>
  have f:=XC q.2.1 rfl;obtain⟨B,rfl,n,p,r⟩:=a _ c f;generalize hk:l.length-(c::t).length=k at i r f;have j:k<l.length:=(zC.1 f).1;have E:(0:Int)<=(k:Int):=zK _;have z:(k:Int)<(l.length:Int):=by omega
  have A:decide ((l.length:Int)<=(k:Int))=false:=by simp;omega
  go_enter func98,ntmps98;go_wp2_with fail
  go_quiet (fail)
  go_wp2_with fail
  go_quiet (fail)
  go_wp2;go_ret;exact⟨rfl,Ph (uA _ _) (uA _ _)⟩
theorem Off.drn (h:oN w w'):Off b w w':=by obtain⟨n,rfl⟩:=h;exact (Off.refl _ _).drewN n
theorem oN.below (h:oN w w'):Bw w w':=by obtain⟨n,rfl⟩:=h;exact aR (zE _ _)
theorem St.drn {g:Int}(h:St w b lv l s g d m)(k:oN w w'):St w' b lv l s g d m:=by obtain⟨n,rfl⟩:=k;exact h
theorem te.off {w w':World}{b:Nat}{lv:Value}{l:LZ}(h:te w b lv l)(k:Off b w w'):te w' b lv l:=cB.keep h (ah.off k (λe=>e rfl))
theorem SF {g:Int}(h:St w b lv l s g d m):-1<=aW s/\aW s<=1114111:=by
 have a:=h.2.2.2.2.1.suf h.2.1;cases s with
 |nil=>exact⟨by simp[aW],by simp[aW]⟩
 |cons c t=>have:=(rune_iff c).1 (a c (by simp));simp only[aW];omega
theorem St.step {g:Int}(h:St w b lv l (c::t) g d m):St (w.setCell (aD b 1) (Vi (((l.length-(c::t).length:Nat):Int)+1))) b lv l t g d m/\Off b w (w.setCell (aD b 1) (Vi (((l.length-(c::t).length:Nat):Int)+1))):=by
 have f:Off b w (w.setCell (aD b 1) (Vi (((l.length-(c::t).length:Nat):Int)+1))):=(Off.refl _ _).setCell 1 _;have a:=h.2.2.2.2.2;refine⟨⟨?_,(yS c t).trans h.2.1,h.2.2.1.off f,h.2.2.2.1,h.2.2.2.2.1,by simp only[zG]at a;omega⟩,f⟩;have i:=h.1.set 1 (Vi (((l.length-(c::t).length:Nat):Int)+1));have j:=h.2.1.length_le;have e:(((l.length-(c::t).length:Nat):Int)+1)=((l.length-t.length:Nat):Int):=by simp only[zG]at j ⊢;omega
 rw[e]at i ⊢;exact i
theorem St.fail {g:Int}(h:St w b lv l s g d m):gu (w.setCell (aD b 2) (Vi ((l.length-s.length:Nat):Int))) b lv l s d/\Off b w (w.setCell (aD b 2) (Vi ((l.length-s.length:Nat):Int))) :=
 ⟨⟨_,_,_,h.1.set 2 _⟩,(Off.refl _ _).setCell 2 _⟩
theorem gu.off (h:gu w b lv l s d)(k:oN w w'):gu w' b lv l s d:=by obtain⟨n,rfl⟩:=k;exact h
theorem gu.cells (h:gu w b lv l s d):∃i g m:Int,w.cell? (aD b 0)=some lv/\w.cell? (aD b 1)=some (Vi i)/\w.cell? (aD b 2)=some (Vi ((l.length-s.length:Nat):Int))/\w.cell? (aD b 3)=some (Vi g)/\w.cell? (aD b 4)=some (Vi d)/\w.cell? (aD b 5)=some (Vi m)/\b<w.heap.size:=by
 obtain⟨i,g,m,h⟩:=h;exact⟨i,g,m,h.cell 0,h.cell 1,h.cell 2,h.cell 3,h.cell 4,h.cell 5,h.lt⟩
theorem Fj (h:gu w b lv l s d):Calls prog 98 #[Vp b] w λe w'=>e=.returned (Vi (-1))/\oN w w':=by
 obtain⟨i,g,m,f,n,a,_,_,_,c⟩:=h.cells;generalize hk:l.length-s.length=k at a;have j:decide ((0:Int)<=(k:Int))=true:=by simp
 go_enter func98,ntmps98;go_wp2_with fail
 go_quiet (fail)
 go_wp2;go_ret;exact⟨rfl,uA _ _⟩
theorem fQ {g:Int}(h:St w b lv l s g d m):Calls prog 28 #[Vp b] w λe w'=>e=.returned (.tuple #[])/\gu w' b lv l s d/\Off b w w':=by
 have a:=aa h.fail;obtain⟨f,c,j,_,_,_,n⟩:=h.cells;have i:=h.1.frozen 2;generalize hk:l.length-s.length=k at c a;go_enter func28,ntmps28;go_wp2
 go_end0
 exact⟨rfl,a.1,a.2⟩
theorem SG (h:gu w b lv l s d):Calls prog 28 #[Vp b] w λe w'=>e=.returned (.tuple #[])/\w'=w:=by
 obtain⟨i,g,m,f,n,a,_,_,_,c⟩:=h.cells;generalize hk:l.length-s.length=k at a;have j:decide ((k:Int)<0)=false:=by simp
 go_enter func28,ntmps28;go_wp2
 go_end0
 exact⟨rfl,rfl⟩
theorem Jy (h:s.head?≠some c)(hc:0<=c):aW s≠c:=by
 cases s with
 |nil=>simp only[aW];omega
 |cons d t=>simpa [aW]using h
theorem dc {g:Int}(h:St w b lv l (c::t) g d m)(h0:0<=c)(h1:c<=255):Calls prog 57 #[Vp b,.int .u8 c] w λe w'=>e=.returned (.bool true)/\St w' b lv l t g d m/\Off b w w':=by
 have i:=aa h;go_enter func57,ntmps57;go_wp2_with (go_at_call 98;refine (aM i).mono ?_;rintro e o ⟨rfl,a⟩;have f:=aa (i.drn a).step;have k:=aa (Off.drn (b:=b) a);obtain⟨n,p,r,_,_,_,s⟩:=(i.out.drn a).cells;have q:=(i.drn a).1.frozen 1;have j:=(i.drn a).2.2.2.1;simp only[aW]);go_ret;exact⟨rfl,f.1,k.trans f.2⟩
theorem ep (c:Int){g:Int}(h:St w b lv l s g d m)(h0:0<=c)(h1:c<=255)(hn:s.head?≠some c):Calls prog 57 #[Vp b,.int .u8 c] w λe w'=>e=.returned (.bool false)/\oN w w':=by
 have k:=aa h;have a:=Jy hn h0;generalize hx:aW s=x at a;have j:=aa hx;have i:(x==c)=false:=zD.2 a;go_enter func57,ntmps57;go_wp2_with (go_at_call 98;refine (aM k).mono ?_;rintro e n ⟨rfl,f⟩;rw[j.out]);go_ret;exact⟨rfl,f⟩
theorem takes_bad (b:Nat)(lv:Value)(l s:LZ)(c:Int)(w:World)(h:gu w b lv l s d)(h0:0<=c)(h1:c<=255):Calls prog 57 #[Vp b,.int .u8 c] w λe w'=>e=.returned (.bool false)/\oN w w':=by
 have g:=aa h;have f:((-1:Int)==c)=false:=zD.2 (by omega);go_enter func57,ntmps57;go_wp2_with (go_at_call 98;refine (Fj g).mono ?_;rintro e i ⟨rfl,a⟩);go_ret;exact⟨rfl,a⟩
theorem qG {g:Int}(h:St w b lv l (c::t) g d m)(h0:0<=c)(h1:c<=255):Calls prog 199 #[Vp b,.int .u8 c] w λe w'=>e=.returned (.tuple #[])/\St w' b lv l t g d m/\Off b w w':=by
 have k:=aa h;go_enter func199,ntmps199;go_wp2_with (go_at_call 57;refine (dc k h0 h1).mono ?_;rintro e n ⟨rfl,a,i⟩;have f:=aa a;have j:=aa i)
 go_end0
 exact⟨rfl,f,j⟩
theorem Bn (c:Int){g:Int}(h:St w b lv l s g d m)(h0:0<=c)(h1:c<=255)(hn:s.head?≠some c):Calls prog 199 #[Vp b,.int .u8 c] w λe w'=>e=.returned (.tuple #[])/\gu w' b lv l s d/\Off b w w':=by
 have n:=aa h;have o:=aa hn;go_enter func199,ntmps199;go_wp2_with (first
  |(go_at_call 57;refine (ep _ n h0 h1 o).mono ?_;rintro e r ⟨rfl,a⟩;have k:=aa (n.drn a);have q:=aa (Off.drn (b:=b) a))
  |(go_at_call 28;refine (fQ k).mono ?_;rintro e t ⟨rfl,i,f⟩;have p:=aa i;have j:=aa f))
 go_end0
 exact⟨rfl,p,q.trans j⟩
theorem wv (c:Int)(h:gu w b lv l s d)(h0:0<=c)(h1:c<=255):Calls prog 199 #[Vp b,.int .u8 c] w λe w'=>e=.returned (.tuple #[])/\gu w' b lv l s d/\oN w w':=by
 have g:=aa h;go_enter func199,ntmps199;go_wp2_with (first
  |(go_at_call 57;refine (takes_bad _ _ _ _ _ _ g h0 h1).mono ?_;rintro e j ⟨rfl,a⟩;have f:=aa (g.off a);have i:=aa a)
  |(go_at_call 28;refine (SG f).mono ?_;rintro e k ⟨rfl,rfl⟩))
 go_end0
 exact⟨rfl,f,i⟩
def el (c:Int)(s:ByteArray):Bool:=s.data.toList.any λx=>(x.toNat:Int)==c
theorem Oy (s:ByteArray)(k:Nat)(h:k<s.size):s.data.toList.take (k+1)=s.data.toList.take k++[s[k]]:=by
 rw[yu (by simpa using h)];rfl
theorem gD (c:Int)(s:ByteArray)(w:World)(hs:s.size<=1000):Calls prog 203 #[Vi c,.string s] w λe w'=>e=.returned (.bool (el c s))/\w'=w:=by
 go_enter func203,ntmps203;go_wp2
 go_loop [5] (λi=>∃k:Nat,k<=s.size/\i=Vi k/\((s.data.toList.take k).any λx=>(x.toNat:Int)==c)=false) (λi=>s.size-(intOf i).toNat)
 case atStart=>exact⟨0,zW _,rfl,rfl⟩
 case round=>
  obtain⟨k,l,rfl,g⟩:=hrel;have d:=aa g;by_cases b:k<s.size
  ·have f:=aa (Oy s k b);have m:(0:Int)<=(s[k].toNat:Int):=zK _;have n:(s[k].toNat:Int)<=255:=by have:=s[k].toNat_lt;omega
   by_cases a:(s[k].toNat:Int)=c
   ·subst a;go_wp2;go_ret;refine⟨eM ?_,rfl⟩;unfold el;symm;rw[List.any_eq_true];exact⟨s[k],by rw[<-zj (k+1) s.data.toList,f.out];simp,by simp⟩
   ·have h:((s[k].toNat:Int)==c)=false:=zD.2 a;have j:=aa h;go_wp2
    go_round
    case rel=>exact⟨k+1,by omega,by go_num,by rw[f.out,List.any_append,d.out];simpa using j.out⟩
    case measure=>simp[intOf];omega
  ·go_wp2;go_ret;exact⟨eM (by unfold el;rw[<-d.out,yF (by simp;omega)]),rfl⟩
theorem sP (c:Int):el c { data:=#[124,38,126,42,43,63,123,125,46,92,91,93,40,41,45,94,110,116,114] }=cQ c:=by
 rw[ze];simp[el,cQ];omega
theorem Bo (c:Int):el c { data:=#[100,119,115,68,87,83] }=cF c:=by
 rw[ze];simp[el,cF];omega
theorem gn (c:Int):el c { data:=#[91,93,92,45,94] }=ej c:=by
 rw[ze];simp[el,ej];omega
theorem lm (c:Int):el c { data:=#[124,38,126,42,43,63,123,125,46,92,91,93,40,41] }=cI c:=by
 rw[ze];simp[el,cI];omega
theorem EX (c:Int)(w:World):Calls prog 221 #[Vi c] w λe w'=>e=.returned (Vi (bU c))/\w'=w:=by
 by_cases d:c=110
 ·subst d;go_enter func221,ntmps221;go_wp2;go_ret;exact⟨rfl,rfl⟩
 ·by_cases b:c=116
  ·subst b;go_enter func221,ntmps221;go_wp2;go_ret;exact⟨rfl,rfl⟩
  ·by_cases a:c=114
   ·subst a;go_enter func221,ntmps221;go_wp2;go_ret;exact⟨rfl,rfl⟩
   ·have h:(c==110)=false:=zD.2 d;have g:(c==116)=false:=zD.2 b;have i:(c==114)=false:=zD.2 a;have f:Hid (bU c=c):=by show bU c=c;unfold bU;rw[zR d,zR b,zR a]
    go_enter func221,ntmps221;go_wp2;go_ret;exact⟨mW f.symm,rfl⟩
def qH (b:Nat)(lv:Value)(l:List Int)(g d m:Int)(r:Res α)(w':World)(P:α->Prop)(Q:Prop):Prop:=match r with|.ok a s=>St w' b lv l s g d m/\P a|.bad s=>gu w' b lv l s d/\Q
theorem eX (least:Int){g:Int}(h:St w b lv l s g d m)(h0:0<=least)(h1:least<=5):Calls prog 205 #[Vp b,Vi least] w λe w'=>∃v,e=.returned v/\Off b w w'/\qH b lv l g d m (ct least s) w' (λn=>v=Vi n) (v=Vi 0):=by
 have k:=aa h;have B:=SF h;by_cases z:∃c t,s=c::t/\48+least<=c/\c<=53
 ·obtain⟨c,t,rfl,J,G⟩:=z;have y:Hid (ct least (c::t)=.ok (c-48) t):=by show _=_;simp only[ct];rw[zX ⟨J,G⟩]
  go_enter func205,ntmps205;go_wp2_with (go_at_call 98;refine (aM k).mono ?_;rintro e E ⟨rfl,a⟩;have f:=aa (k.drn a).step;have r:=aa (Off.drn (b:=b) a);obtain⟨K,O,N,_,_,_,M⟩:=(k.out.drn a).cells;have L:=(k.drn a).1.frozen 1;have F:=(k.drn a).2.2.2.1;simp only[aW]);go_ret;exact⟨_,rfl,r.trans f.2,by rw[y.out];exact⟨f.1,rfl⟩⟩
 ·have y:Hid (ct least s=.bad s):=by
   show _=_
   cases s with
   |nil=>rfl
   |cons c t=>simp only[ct];rw[zR (λq=>z ⟨c,t,rfl,q⟩)]
  have A:¬(48+least<=aW s/\aW s<=53):=by
   intro q;cases s with
   |nil=>simp[aW]at q;omega
   |cons c t=>exact z ⟨c,t,rfl,q⟩
  generalize hx:aW s=x at A B;have D:=aa hx;by_cases o:48+least<=x
  ·have u:¬x<=53:=λq=>A ⟨o,q⟩;have I:decide (x<=53)=false:=by simpa using u
   go_enter func205,ntmps205;go_wp2_with (first
    |(go_at_call 98;refine (aM k).mono ?_;rintro e E ⟨rfl,a⟩;have f:=aa (k.drn a);have r:=aa (Off.drn (b:=b) a);rw[D.out])
    |(go_at_call 28;refine (fQ f).mono ?_;rintro e H ⟨rfl,j,i⟩;have C:=aa j;have p:=aa i))
   go_ret;exact⟨_,rfl,r.trans p,by rw[y.out];exact⟨C,rfl⟩⟩
  ·have I:decide (48+least<=x)=false:=by simpa using o
   go_enter func205,ntmps205;go_wp2_with (first
    |(go_at_call 98;refine (aM k).mono ?_;rintro e E ⟨rfl,a⟩;have f:=aa (k.drn a);have r:=aa (Off.drn (b:=b) a);rw[D.out])
    |(go_at_call 28;refine (fQ f).mono ?_;rintro e H ⟨rfl,j,i⟩;have C:=aa j;have p:=aa i))
   go_ret;exact⟨_,rfl,r.trans p,by rw[y.out];exact⟨C,rfl⟩⟩
def Zd (n:Nat)(g:Nat->Bool):List Value:=(List.range (n+1)).map λj=>.bool (g j)
abbrev XN (n b:Nat):Value:=Vs b (n+1) (n+1)
def Zv (w:World)(B:Nat)(v:Value)(n k:Nat)(f:Nat->Nat->Bool)(r:List Nat):Prop:=r.length=k/\w.ownsRow B 87 1 v k (r.map (XN n))/\r.Nodup/\(∀b∈r,B<=b/\v.ownBlock≠some b)/\∀i b,r[i]?=some b->ag w b (Zd n (f i)) 4
def Zw (w:World)(B:Nat)(v:Value)(n k:Nat)(f:Nat->Nat->Bool):Prop:=∃r:List Nat,Zv w B v n k f r
def Tb (w:World)(B:Nat)(v:Value)(n:Nat)(f:Nat->Nat->Bool):Prop:=Zw w B v n (n+1) f
def upd (f:Nat->Nat->Bool)(i j:Nat)(x:Bool):Nat->Nat->Bool:=λa b=>if a=i then (if b=j then x else f a b)else f a b
def qt (a b:Nat):Bool:=decide (a=b)
def YM (fa fb:Nat->Nat->Bool)(o:Bool)(a b:Nat):Bool:=decide (a<=b)&&((fa a b&&fb a b)||(o&&(fa a b||fb a b)))
def Ty (fa fb:Nat->Nat->Bool)(i K j:Nat):Bool:=(List.range K).any λk=>decide (i<=k)&&decide (k<=j)&&fa i k&&fb k j
def behB (fa fb:Nat->Nat->Bool)(n:Nat)(i j:Nat):Bool:=Ty fa fb i (n+1) j
def aae (fa fb:Nat->Nat->Bool)(n i K j:Nat)(a b:Nat):Bool:=if a<i then behB fa fb n a b else if a=i then (if b<j then Ty fa fb i (K+1) b else Ty fa fb i K b)else false
def Xs (fa:Nat->Nat->Bool)(n:Nat):Nat->Nat->Nat->Bool
 |0=>qt
 |k+1=>behB (Xs fa n k) fa n
def YF (fa:Nat->Nat->Bool)(n:Nat):Nat->Nat->Nat->Bool
 |0=>qt
 |k+1=>YM qt (behB fa (YF fa n k) n) true
open Classical
noncomputable def mT (p:Pat)(l:List Int)(i j:Nat):Bool:=decide (i<=j/\p.Mt (sub l i j))
noncomputable def kC (ps:List Pat)(l:List Int)(i j:Nat):Bool:=decide (i<=j/\jl ps (sub l i j))
noncomputable def rR (ps:List Pat)(l:List Int)(i j:Nat):Bool:=decide (i<=j/\gy ps (sub l i j))
noncomputable def mu (ps:List Pat)(l:List Int)(i j:Nat):Bool:=decide (i<=j/\eG ps (sub l i j))
theorem kD :mT p l i j=true↔i<=j/\p.Mt (sub l i j):=by unfold mT;exact decide_eq_true_iff
theorem QU (hj:j<=l.length):qt i j=kC [] l i j:=by
 rw[ze];unfold qt kC;simp only[zY];constructor
 ·rintro rfl;exact⟨zA _,sub_self _ _⟩
 ·rintro⟨c,b⟩;have a:=uF c hj;rw[show sub l i j=[]from b]at a;simp at a;omega
theorem Xd :mT p l i j=rR [p] l i j:=by
 unfold mT rR;simp only[nO,yQ,exists_eq_left]
theorem UY :mT p l i j=mu [p] l i j:=by
 unfold mT mu;simp only[mj,yQ,forall_eq]
theorem Xe :kC ps l i j=mT (.row ps) l i j:=rfl
theorem Uz :rR ps l i j=mT (.or ps) l i j:=rfl
theorem ND :mu ps l i j=mT (.and ps) l i j:=rfl
theorem Xf :(decide (i<=j)&&!mT p l i j)=mT (.not p) l i j:=by
 rw[ze,kD];simp only[yP,Bool.not_eq_true',zY,<-yI,kD];constructor
 ·rintro⟨a,b⟩;exact⟨a,λh=>b ⟨a,h⟩⟩
 ·rintro⟨a,b⟩;exact⟨a,λh=>b h.2⟩
theorem Eh {s:LQ}(hj:j<=l.length):(match l[i]? with|some c=>decide (j=i+1)&&memB s c|none=>false)=mT (.set s) l i j:=by
 rw[ze,kD];constructor
 ·intro h;cases a:l[i]? with
  |none=>rw[a]at h;cases h
  |some c=>
   rw[a]at h;simp only[yP,zY]at h;obtain⟨rfl,m⟩:=h;exact⟨by omega,c,JM a,m⟩
 ·rintro⟨g,c,e,k⟩;have f:=uF g hj;rw[e]at f;simp at f;have b:j=i+1:=by omega
  subst b;have d:i<l.length:=by omega
  have a:=zB d;have:=JM a;rw[e]at this;simp only[zT,yK]at this;rw[a];simp[<-this,k]
theorem cC.sl {s:LQ}(h:cC w A v s):∃q,PCanon q/\told q=s/\dL w A v q:=h
theorem cC.canon {s:LQ}(h:cC w A v s):Canon s:=by obtain⟨q,a,rfl,_⟩:=h;exact fL a
theorem ul {q s:LQ}(h:dL w A v q)(hq:PCanon q)(e:told q=s):cC w A v s:=⟨q,hq,e,h⟩
theorem nu (q:LQ):(told q).length=q.length:=by simp[told]
theorem EK {a b:LQ}(ha:∀x∈a,okB x=true)(hb:∀x∈b,okB x=true):form (form a++form b)=form (a++b):=by
 have i:=gJ (gm ha).1;have g:=gJ (gm hb).1;have e:∀x∈a++b,okB x=true:=λx d=>by rcases zM.1 d with h|h;exact ha x h;exact hb x h
 have c:∀x∈form a++form b,okB x=true:=λx d=>by rcases zM.1 d with h|h;exact i x h;exact g x h
 refine jC e ⟨(gm c).1,λr f=>?_⟩;rw[(gm c).2 r f,mem_append,mem_append,(gm ha).2 r f,(gm hb).2 r f]
theorem ke {ao:OA}(l:LQ)(cap:Nat)(hcells:Rd w ao l)(hlen:l.length<=1000000)(hok:∀x∈l,okB x=true):Calls prog 236 #[.slice ao l.length cap] w λe w'=>∃v,e=.returned v/\cC w' (λk=>w.heap.size<=k) v (form l)/\Bw w w':=by
 refine (XH cap hcells hlen hok).mono ?_;rintro e w' ⟨v,d,rfl,c,a,f⟩;refine⟨v,rfl,ul c a.1 (jC hok ⟨fL a.1,λr b=>?_⟩),f⟩;rw[gb a.1 r b,a.2.1 r b,zQ]
theorem mR {s:LQ}(h:cC w A v s)(hlen:s.length<=1000000):Calls prog 220 #[v] w λe w'=>∃v',e=.returned v'/\cC w' (λk=>w.heap.size<=k) v' (dT s)/\Bw w w':=by
 obtain⟨q,c,rfl,g⟩:=h;obtain⟨f,b,rfl,a,_⟩:=(dL.sl g).rd;rw[nu]at hlen;refine (Re b a hlen c).mono ?_;rintro e w' ⟨v',rfl,i,⟨d,j,o⟩,m,l⟩;refine⟨v',rfl,ul (qb m (λk n=>n)) d (ve (fL c) (fL d) (λr a=>?_)),l⟩;rw[gb d r a,gb c r a,j _ (BW a).2.1]
theorem xP {u:Value}{s t:LQ}(h:cC w A v s)(h2:cC w A' u t)(hA:∀k,w.heap.size<=k->A k)(hs:s.length<=400000)(ht:t.length<=400000):Calls prog 219 #[v,u] w λe w'=>∃v',e=.returned v'/\cC w' A v' (form (s++t))/\Bw w w':=by
 obtain⟨q,d,rfl,c⟩:=h;obtain⟨p,b,rfl,g⟩:=h2;obtain⟨j,i,rfl,a,_⟩:=(dL.sl g).rd;rw[nu]at hs ht;refine (Zc i c hA a hs ht d b).mono ?_;rintro e w' ⟨v',m,rfl,n,⟨f,h2,z⟩,o⟩;have y:∀x∈told q++told p,okB x=true:=λx l=>by
  rcases zM.1 l with h|h
  ·exact gJ (fL d) x h
  ·exact gJ (fL b) x h
 refine⟨v',rfl,ul n f (jC y ⟨fL f,λr a=>?_⟩),o⟩;rw[gb f r a,h2,mem_append,gb d r a,gb b r a]
theorem sN (w:World)(x y:Int):Rd (w.alloc (.cells #[Vi x,Vi y] 92)) (some (aD w.heap.size 0)) [(x,y)]:=by
 intro i z a
 match i,a with
 |0,a=>simp at a;subst a;exact⟨_,_,rfl,by simp,by simp,by simp⟩
theorem pS (c:Int)(w:World)(hc:runeB c=true):Calls prog 204 #[Vi c] w λe w'=>∃v,e=.returned v/\cC w' (λk=>w.heap.size<=k) v [(c,c)]/\Bw w w':=by
 have d:=aa hc;have h:=(rune_iff c).1 hc;go_enter func204,ntmps204;go_wp2_with (go_at_call 223;refine (PU _ _ (by omega) (by omega)).mono ?_;rintro e w' ⟨rfl,rfl⟩);go_ret;obtain⟨f,b,g⟩:=BW d.out;refine⟨_,rfl,ul (q:=[(up c,up c)]) (.inr ⟨_,0,1,rfl,by simp,zA _,by simp,sN _ _ _⟩) ⟨λx a=>by simp at a;subst a;exact⟨b.1,yv _,b.2⟩,by simp⟩ (by simp[told,f]),(zE _ _).alloc (zA _) _⟩
theorem Vq (w:World):Calls prog 201 #[] w λe w'=>∃v,e=.returned v/\cC w' (λk=>w.heap.size<=k) v tm/\Bw w w':=by
 go_enter func201,ntmps201;go_wp2_with (first
  |(go_at_call 204;refine (pS _ _ (by decide)).mono ?_;rintro e m ⟨n,rfl,c,a⟩;have i:=aa c;have g:=aa a)
  |(go_at_call 220;refine (mR i (by decide)).mono ?_;rintro e o ⟨l,rfl,b,d⟩;have h:=aa b;have f:=aa d))
 go_ret;exact⟨_,rfl,h.mono (λk _ j=>zJ g.size j),g.trans (f.mono g.size)⟩
theorem xp (w:World)(l:LQ):Rd (w.alloc (.cells (aE l).toArray 92)) (some (aD w.heap.size 0)) l:=by
 intro i x b;have a:=jh b;refine⟨_,_,rfl,by simp,?_,?_⟩
 ·rw[(ag.new w (aE l) 92).cell];simpa using a.1
 ·rw[(ag.new w (aE l) 92).cell];simpa using a.2
theorem GU:form [(48,57)]=jI:=by decide
theorem KE:form [(48,57),(65,90),(97,122),(95,95)]=jT:=by decide
theorem GV:form [(9,10),(13,13),(32,32)]=jJ:=by decide
theorem IY (w:World):Calls prog 222 #[Vi 100] w λe w'=>∃v,e=.returned v/\cC w' (λk=>w.heap.size<=k) v jI/\Bw w w':=by
 go_enter func222,ntmps222;go_wp2_with (go_at_call 236;refine (ke [(48,57)] _ (xp w [(48,57)]) (by decide) (by decide)).mono ?_;rintro e h ⟨i,rfl,a,b⟩;have c:=aa a;have d:=aa b);go_ret;have e:=c.out;rw[GU]at e;have g:=((zE _ w).alloc (zA _) _).trans (d.mono (by simp));exact⟨_,rfl,e.mono (λk _ f=>by simp at f;omega),g⟩
theorem IZ (w:World):Calls prog 222 #[Vi 119] w λe w'=>∃v,e=.returned v/\cC w' (λk=>w.heap.size<=k) v jT/\Bw w w':=by
 go_enter func222,ntmps222;go_wp2_with (go_at_call 236;refine (ke [(48,57),(65,90),(97,122),(95,95)] _ (xp w [(48,57),(65,90),(97,122),(95,95)]) (by decide) (by decide)).mono ?_;rintro e h ⟨i,rfl,a,b⟩;have c:=aa a;have d:=aa b);go_ret;have e:=c.out;rw[KE]at e;have g:=((zE _ w).alloc (zA _) _).trans (d.mono (by simp));exact⟨_,rfl,e.mono (λk _ f=>by simp at f;omega),g⟩
theorem Ja (w:World):Calls prog 222 #[Vi 115] w λe w'=>∃v,e=.returned v/\cC w' (λk=>w.heap.size<=k) v jJ/\Bw w w':=by
 go_enter func222,ntmps222;go_wp2_with (go_at_call 236;refine (ke [(9,10),(13,13),(32,32)] _ (xp w [(9,10),(13,13),(32,32)]) (by decide) (by decide)).mono ?_;rintro e h ⟨i,rfl,a,b⟩;have c:=aa a;have d:=aa b);go_ret;have e:=c.out;rw[GV]at e;have g:=((zE _ w).alloc (zA _) _).trans (d.mono (by simp));exact⟨_,rfl,e.mono (λk _ f=>by simp at f;omega),g⟩
theorem US (w:World):Calls prog 222 #[Vi 68] w λe w'=>∃v,e=.returned v/\cC w' (λk=>w.heap.size<=k) v (dT jI)/\Bw w w':=by
 go_enter func222,ntmps222;go_wp2_with (first
  |(go_at_call 222;refine (IY _).mono ?_;rintro e m ⟨o,rfl,b,c⟩;have i:=aa b;have f:=aa c)
  |(go_at_call 220;refine (mR i (by decide)).mono ?_;rintro e n ⟨l,rfl,a,d⟩;have h:=aa a;have g:=aa d))
 go_ret;exact⟨_,rfl,h.mono (λk _ j=>zJ f.size j),f.trans (g.mono f.size)⟩
theorem UT (w:World):Calls prog 222 #[Vi 87] w λe w'=>∃v,e=.returned v/\cC w' (λk=>w.heap.size<=k) v (dT jT)/\Bw w w':=by
 go_enter func222,ntmps222;go_wp2_with (first
  |(go_at_call 222;refine (IZ _).mono ?_;rintro e m ⟨o,rfl,b,c⟩;have i:=aa b;have f:=aa c)
  |(go_at_call 220;refine (mR i (by decide)).mono ?_;rintro e n ⟨l,rfl,a,d⟩;have h:=aa a;have g:=aa d))
 go_ret;exact⟨_,rfl,h.mono (λk _ j=>zJ f.size j),f.trans (g.mono f.size)⟩
theorem UU (w:World):Calls prog 222 #[Vi 83] w λe w'=>∃v,e=.returned v/\cC w' (λk=>w.heap.size<=k) v (dT jJ)/\Bw w w':=by
 go_enter func222,ntmps222;go_wp2_with (first
  |(go_at_call 222;refine (Ja _).mono ?_;rintro e m ⟨o,rfl,b,c⟩;have i:=aa b;have f:=aa c)
  |(go_at_call 220;refine (mR i (by decide)).mono ?_;rintro e n ⟨l,rfl,a,d⟩;have h:=aa a;have g:=aa d))
 go_ret;exact⟨_,rfl,h.mono (λk _ j=>zJ f.size j),f.trans (g.mono f.size)⟩
theorem Nn (c:Int)(w:World)(hc:cF c=true):Calls prog 222 #[Vi c] w λe w'=>∃v,e=.returned v/\cC w' (λk=>w.heap.size<=k) v (eF c)/\Bw w w':=by
 rcases io hc with rfl|rfl|rfl|rfl|rfl|rfl
 ·exact IY w
 ·exact IZ w
 ·exact Ja w
 ·exact US w
 ·exact UT w
 ·exact UU w
set_option maxHeartbeats 4000000
theorem St.below {w w':World}{b:Nat}{lv:Value}{l s:LZ}{g d m:Int}(h:St w b lv l s g d m)(k:Bw w w'):St w' b lv l s g d m :=
 ⟨h.1.below k,h.2.1,cB.keep h.2.2.1 (ah.below k),h.2.2.2⟩
theorem gu.below {w w':World}{b:Nat}{lv:Value}{l s:LZ}{d:Int}(h:gu w b lv l s d)(k:Bw w w'):gu w' b lv l s d:=by
 obtain⟨i,g,m,a⟩:=h;exact⟨i,g,m,a.below k⟩
def Zf (w':World)(A:Nat->Prop)(v:Value)(f:Bool)(r:Int ⊕ List (Int×Int)):Prop:=match r with|.inl a=>f=true/\cC w' A v [(a,a)]/\runeB a=true|.inr L=>f=false/\cC w' A v L
theorem pG (h:cQ c=true):runeB (bU c)=true:=uP (by have:=fJ h;omega) (fJ h).2
theorem FS {q:LZ}{g:Int}{R:Res α}{P:α->Prop}{Q:Prop}(h:gu w b lv l q d)(hr:R=.bad q)(hq:Q):qH b lv l g d m R w P Q:=by
 rw[hr];exact⟨h,hq⟩
theorem JY {q:LZ}{g:Int}{R:Res α}{x:α}{P:α->Prop}{Q:Prop}(h:St w b lv l q g d m)(hr:R=.ok x q)(hp:P x):qH b lv l g d m R w P Q:=by
 rw[hr];exact⟨h,hp⟩
set_option linter.unusedSimpArgs false
theorem fd {g:Int}(h:St w b lv l s g d m):Calls prog 202 #[Vp b,.bool true] w λe w'=>∃v f,e=.returned (.tuple #[v,.bool f])/\Off b w w'/\qH b lv l g d m (dx s) w' (λr=>Zf w' (λk=>w.heap.size<=k) v f r) (v=Vz/\f=false):=by
 have j:=aa h;have p:=aa (Off.refl b w);have n:=h.2.2.2.2.1.suf h.2.1;have K:decide ((0:Int)<=-1)=false:=by decide
 rcases s with _|⟨c,t⟩
 all_goals try
  have H:(0:Int)<=c:=by have:=(rune_iff c).1 n.head;omega
  cases hs:cQ c<;>cases y:cF c
 all_goals clear h n;go_enter func202,ntmps202
 all_goals go_wp2_with (first
  |(go_at_call 98;refine (aM j).mono ?_;rintro e O ⟨rfl,q⟩;replace j:=aa (j.drn q);replace p:=aa (p.trans (Off.drn q));obtain⟨M,N,J,L,I,P,Q⟩:=j.out.cells;have G:=j.1.frozen 1;have A:=j.2.2.2.1;simp only[aW])
  |(go_at_call 203;refine (gD _ _ _ (by decide)).mono ?_;rintro e C ⟨rfl,rfl⟩;simp only[sP,Bo])
  |(go_at_call 221;refine (EX _ _).mono ?_;rintro e C ⟨rfl,rfl⟩)
  |(go_at_call 204;refine (pS _ _ (pG hs)).mono ?_;rintro e F ⟨D,rfl,i,a⟩;have z:=aa i;have o:=aa a)
  |(go_at_call 222;refine (Nn _ _ y).mono ?_;rintro e F ⟨D,rfl,i,a⟩;have z:=aa i;have o:=aa a)
  |(go_at_call 28;refine (fQ j).mono ?_;rintro e R ⟨rfl,u,x⟩;have E:=aa u;replace p:=aa (p.trans x)))
 all_goals go_ret2
 all_goals first
  |exact⟨_,_,rfl,p,FS E (by simp[dx,*]) ⟨rfl,rfl⟩⟩
  |(have S:=j.step
    have B:cC _ (λk=>w.heap.size<=k) _ _:=z.mono (λk _ y=>by have:=p.size;simp at y;omega);exact⟨_,_,rfl,(p.trans S.2).trans (Off.below o),JY (S.1.below o) (show _=Res.ok (if cQ c then .inl (bU c)else .inr (eF c)) t by simp[dx,*]) (by simp only[hs];first|exact⟨rfl,B,pG hs⟩|exact⟨rfl,B⟩)⟩)
theorem mM (least:Int){g:Int}(h:St w b lv l s g d m):Calls prog 235 #[Vp b,Vi least] w λe w'=>∃x:Int,e=.returned (Vi x)/\Off b w w'/\qH b lv l g d m (bM least s) w' (λy=>x=y) (x=least):=by
 have a:=aa h;have n:=aa (Off.refl b w);have j:=h.2.2.2.2.1.suf h.2.1;have N:decide ((0:Int)<=-1)=false:=by decide
 have J:ej 92=true:=by decide
 rcases s with _|⟨c,t⟩
 all_goals try
  have M:(0:Int)<=c:=by have:=(rune_iff c).1 j.head;omega
  have i:=j.tail;by_cases q:c=92
 all_goals try
  have v:(c==92)=false:=zD.2 q;cases hi:ej c<;>cases hg:decide (least<=c)
 all_goals try
  subst q;cases hle:decide (least<=126)<;>rcases t with _|⟨r,u⟩
 all_goals try
  have H:(0:Int)<=r:=by have:=(rune_iff r).1 i.head;omega
  cases hs:cQ r<;>cases hge:decide (least<=bU r)
 all_goals try clear i
 all_goals clear h j;go_enter func235,ntmps235
 all_goals go_wp2_with (first
  |(go_at_call 98;refine (aM a).mono ?_;rintro e O ⟨rfl,f⟩;replace a:=aa (a.drn f);replace n:=aa (n.trans (Off.drn f));obtain⟨D,E,B,C,A,F,G⟩:=a.out.cells;have z:=a.1.frozen 1;have k:=a.2.2.2.1;simp only[aW])
  |(go_at_call 98;refine (aM (a.step).1).mono ?_;rintro e L ⟨rfl,f⟩;replace n:=aa ((n.trans a.step.2).trans (Off.drn f));replace a:=aa ((a.step).1.drn f);obtain⟨D,E,B,C,A,F,G⟩:=a.out.cells;have z:=a.1.frozen 1;have k:=a.2.2.2.1;simp only[aW])
  |(go_at_call 203;refine (gD _ _ _ (by decide)).mono ?_;rintro e I ⟨rfl,rfl⟩;simp only[sP,gn])
  |(go_at_call 221;refine (EX _ _).mono ?_;rintro e I ⟨rfl,rfl⟩)
  |(go_at_call 28;refine (fQ a).mono ?_;rintro e P ⟨rfl,o,p⟩;have K:=aa o;replace n:=aa (n.trans p)))
 all_goals go_ret
 all_goals first
  |exact⟨_,rfl,n,FS K (by simp only[yr,zY]at *;simp[bM,fu,*]) rfl⟩
  |(have S:=a.step;exact⟨_,rfl,n.trans S.2,JY S.1 (by simp only[zY]at *;simp[bM,fu,*]) rfl⟩)
theorem sX {a:Int}(h:cC w A v [(a,a)]):∃b1 off1 cap1 x1,v=.slice (some (aD b1 off1)) 1 cap1/\w.cell? (aD b1 off1)=some (Vi x1)/\back x1=a/\0<=x1/\x1<=1112063/\b1<w.heap.size:=by
 obtain⟨q,l,e,g⟩:=h.sl;cases q with
 |nil=>simp[told]at e
 |cons x q=>
  cases q with
  |cons y q=>simp[told]at e
  |nil=>
   simp[told]at e;rcases g with⟨_,f⟩|⟨b1,off1,cap1,rfl,o,_,b,m⟩
   ·cases f
   ·obtain⟨p,d,k,i,j,n⟩:=m 0 x rfl;cases k;have c:=l.1 x (by simp);exact⟨b1,off1,cap1,x.1,rfl,by simpa using j,e.1,c.1,by have:=c.2;omega,b⟩
theorem sY (n:Int)(w:World)(h0:0<=n)(h1:n<=1112063):Calls prog 32 #[Vi n] w λe w'=>e=.returned (Vi (back n))/\w'=w:=FY n w h0 (by omega)
theorem Fh {a:Int}(h:runeB a=true):form [(a,a)]=[(a,a)]:=jf (mo h)
theorem rT (a b:Int):(form [(a,b)]).length<=1:=dr [(a,b)]
theorem nF (w:World)(A:NP):cC w A (Vz) []:=⟨[],pcanon_nil,rfl,.inl ⟨rfl,rfl⟩⟩
def YG (w':World)(A:Nat->Prop)(v:Value):Prop:=∃s0,cC w' A v s0/\s0.length<=1
theorem IF {a:Int}(hal:dh t)(ha:runeB a=true):(t.head?≠some 45/\bS a t=.ok [(a,a)] t)\/(∃u u',t=45::u/\bM a u=.bad u'/\bS a t=.bad u'/\∀x∈[(a,a)],okB x=true)\/∃u u' c,t=45::u/\bM a u=.ok c u'/\bS a t=.ok [(a,c)] u'/\∀x∈[(a,c)],okB x=true:=by
 cases t with
 |nil=>exact .inl ⟨by simp,rfl⟩
 |cons e u=>
  by_cases h:e=45
  ·subst h;have b:=jM (least:=a) hal.tail;cases hs:bM a u with
   |bad q=>exact .inr (.inl ⟨u,q,rfl,hs,by simp only[bS,yd,hs,Res.map],lG ha ha (yv a)⟩)
   |ok c q=>rw[hs]at b;exact .inr (.inr ⟨u,q,c,rfl,hs,by simp only[bS,yd,hs,Res.map],lG ha b.2 b.1⟩)
  ·exact .inl ⟨by simpa using h,by simp only[bS];rw[zR h]⟩
theorem WB (hal:dh s):(s=[]/\cq s=.bad [])\/(∃c t,s=c::t/\(0:Int)<=c/\(c==92)=false/\ej c=true/\cq s=.bad s)\/(∃t q,s=92::t/\dx t=.bad q/\cq s=.bad q)\/(∃t q L,s=92::t/\dx t=.ok (.inr L) q/\cq s=.ok L q)\/∃a q,runeB a=true/\dh q/\cq s=bS a q/\((∃t,s=92::t/\dx t=.ok (.inl a) q)\/(s=a::q/\(0:Int)<=a/\(a==92)=false/\ej a=false)):=by
 cases s with
 |nil=>exact .inl ⟨rfl,rfl⟩
 |cons c t=>
  have b:(0:Int)<=c:=by have:=(rune_iff c).1 hal.head;omega
  by_cases h:c=92
  ·subst h;have f:=qW t;cases he:dx t with
   |bad q=>exact .inr (.inr (.inl ⟨t,q,rfl,he,by simp only[cq,yd,he,Res.bind]⟩))
   |ok r q=>
    rw[he]at f;cases r with
    |inr L=>exact .inr (.inr (.inr (.inl ⟨t,q,L,rfl,he,by simp only[cq,yd,he,Res.bind]⟩)))
    |inl a=>
     refine .inr (.inr (.inr (.inr ⟨a,q,?_,hal.tail.suf f.2,by simp only[cq,yd,he,Res.bind],.inl ⟨t,rfl,he⟩⟩)));cases t with
     |nil=>simp[dx]at he
     |cons e u=>
      simp only[dx]at he
      split at he
      ·rename_i hs;cases he;exact pG hs
      ·split at he<;>cases he
  ·have d:=zD.2 h;cases hi:ej c with
   |true=>exact .inr (.inl ⟨c,t,rfl,b,d,hi,by simp[cq,h,hi]⟩)
   |false=>exact .inr (.inr (.inr (.inr ⟨c,t,hal.head,hal.tail,by simp[cq,h,hi],.inr ⟨rfl,b,d,hi⟩⟩)))
theorem qO {g:Int}(h:St w b lv l s g d m):Calls prog 218 #[Vp b] w λe w'=>∃v,e=.returned v/\Off b w w'/\qH b lv l g d m (cq s) w' (λx=>cC w' (λk=>w.heap.size<=k) v (form x)) (YG w' (λk=>w.heap.size<=k) v):=by
 have f:=aa h;have j:=aa (Off.refl b w);have hd:decide ((0:Int)<=-1)=false:=by decide
 have K:=WB (h.2.2.2.2.1.suf h.2.1);rcases K with⟨rfl,r⟩|⟨c,t,rfl,h0,D,hi,r⟩|⟨t,q,rfl,N,r⟩|⟨t,q,L,rfl,N,r⟩|⟨a,q,z,O,r,⟨t,rfl,N⟩|⟨rfl,h0,D,hi⟩⟩
 all_goals try
  replace z:=aa z;rcases IF O z.out with⟨HN,n⟩|⟨u,q2,rfl,B,n,C⟩|⟨u,q2,c2,rfl,B,n,C⟩
 all_goals replace r:=aa r
 all_goals try replace n:=aa n
 all_goals try replace N:=aa N
 all_goals try replace HN:=aa HN
 all_goals try replace B:=aa B
 all_goals try replace C:=aa C
 all_goals try clear O
 all_goals go_enter func218,ntmps218
 all_goals go_wp2_with (first
  |(go_at_call 98;refine (aM f).mono ?_;rintro e wn ⟨rfl,E⟩;replace f:=aa (f.drn E);replace j:=aa (j.trans (Off.drn E));obtain⟨c0,c1,c2,c3,c4,Y,hb⟩:=f.out.cells;have hf:=f.1.frozen 1;have R:=f.2.2.2.1;simp only[aW])
  |(go_at_call 203;refine (gD _ _ _ (by decide)).mono ?_;rintro e wa ⟨rfl,rfl⟩;simp only[gn])
  |(go_at_call 28;refine (fQ f).mono ?_;rintro e wf ⟨rfl,V,T⟩;replace f:=aa V;replace j:=aa (j.trans T))
  |(go_at_call 202;refine (fd f.step.1).mono ?_;rintro e we ⟨v1,f1,rfl,U,A⟩;have HW:=aa j.size;replace j:=aa ((j.trans f.step.2).trans U);rw[N.out]at A;first
   |(obtain⟨i,rfl,rfl⟩:=A;replace f:=aa i)
   |(obtain⟨i,rfl,y,_⟩:=A;obtain⟨b1,a2,a1,x1,rfl,a3,I,X,Z,F⟩:=sX y;have a0:=aa I;replace f:=aa i;obtain⟨c0,c1,c2,c3,c4,Y,hb⟩:=f.out.cells)
   |(obtain⟨i,rfl,y⟩:=A;have G:=aa y;replace f:=aa i))
  |(go_at_call 32;refine (sY _ _ X Z).mono ?_;rintro e wb ⟨rfl,rfl⟩;rw[a0.out])
  |(go_at_call 57;(try (have _:=D;replace j:=aa (j.trans f.step.2);replace f:=aa f.step.1));first
   |(refine (ep _ f (by decide) (by decide) HN).mono ?_;rintro e wt ⟨rfl,p⟩;replace j:=aa (j.trans (Off.drn p));replace f:=aa (f.drn p))
   |(refine (dc f (by decide) (by decide)).mono ?_;rintro e wt ⟨rfl,p,S⟩;replace j:=aa (j.trans S);replace f:=aa p))
  |(go_at_call 235;refine (mM _ f).mono ?_;rintro e ws ⟨xs,rfl,J,H⟩;replace j:=aa (j.trans J);rw[B.out]at H;obtain⟨i,rfl⟩:=H;replace f:=aa i)
  |(go_at_call 236;refine (ke [(_,_)] _ (sN _ _ _) (by simp) C).mono ?_;rintro e wo ⟨v2,rfl,P,M⟩;have G:=aa P;have o:=aa M)
  |(go_at_call 204;refine (pS _ _ z).mono ?_;rintro e wo ⟨v1,rfl,Q,F⟩;have G:=aa Q;have o:=aa F))
 all_goals go_ret
 all_goals first
  |exact⟨_,rfl,j,FS f r ⟨[],nF _ _,by simp⟩⟩
  |exact⟨_,rfl,j,JY f r (by show cC _ _ _ (form _);rw[jf G.out.canon];exact G.mono (λk _ W=>by have:=HW.out;simp[World.setCell]at W;omega))⟩
  |exact⟨_,rfl,j.trans (Off.below o),JY (f.below o) (r.trans n) (by show cC _ _ _ (form _);rw[Fh z.out];exact G.mono (λk _ W=>by have:=j.size;omega))⟩
  |(refine⟨_,rfl,j.trans ((Off.refl _ _).alloc _ |>.trans (Off.below o)),?_⟩
    have HX:cC _ (λk=>w.heap.size<=k) _ _:=G.mono (λk _ W=>by have:=j.size;simp at W;omega)
    first
    |exact FS ((f.below ((zE _ _).alloc (zA _) _)).below o) (r.trans n) ⟨_,HX,rT _ _⟩
    |exact JY ((f.below ((zE _ _).alloc (zA _) _)).below o) (r.trans n) HX)
def YR (w:World)(b:Nat)(lv:Value)(l:List Int)(g d m:Int)(R:Res (List (Int×Int)))(k:Nat)(v:Value)(wr:World):Prop :=
 Off b w wr/\((∃l0 s0,St wr b lv l s0 g d m/\cC wr (λk=>w.heap.size<=k) v (form l0)/\ba k l0 s0=R/\(∀x∈l0,okB x=true)/\l0.length+5*s0.length<=400/\s0.length<k) \/
  (∃s' t',gu wr b lv l s' d/\R=.bad s'/\cC wr (λk=>w.heap.size<=k) v t'/\t'.length<=500))
def YS (b:Nat)(lv:Value)(l:List Int)(g d m:Int)(w w':World)(v:Value)(f:List (Int×Int)->List (Int×Int))(R:Res (List (Int×Int))):Prop :=
 Off b w w'/\qH b lv l g d m (R.map f) w' (λx=>cC w' (λk=>w.heap.size<=k) v x) (Kz v)
theorem pC:∀(n:Nat) (l:LQ) (s:LZ),s.length<n->ba n l s=ba (n+1) l s
 |0,_,s,h=>by omega
 |n+1,l,s,h=>by
  rw[ba,ba]
  split
  ·rfl
  ·have a:=fT s;cases hi:cq s with
   |bad s'=>rfl
   |ok x s'=>
    rw[hi]at a;have:=a.1;exact pC n _ s' (by omega)
theorem FA {s1:LZ}{g:Int}(h:St w b lv l (94::s1) g d m):Calls prog 200 #[Vp b] w λe w'=>∃v,e=.returned v/\YS b lv l g d m w w' v (λx=>dT (form x)) (ba (s1.length+2) [] s1):=by
 have o:=aa h;have i:=aa (Off.refl b w);have M:=aa h.1.lt;have b1:=h.2.2.2.1;have a3:=h.2.1.length_le
 skip
 generalize hR:ba (s1.length+2) [] s1=R;have a1:=aa hR;go_enter func200,ntmps200;go_wp2_with (go_at_call 57;refine (dc o (by decide) (by decide)).mono ?_;rintro e wt ⟨rfl,a,r⟩;replace o:=aa a;replace i:=aa (i.trans r))
 go_loopg [4] (s1.length+2) (λk v wr=>YR w b lv l g d m R k v wr)
 case atStart=>exact⟨i,.inl ⟨[],s1,o,nF _ _,a1,by simp,by simp at a3 ⊢;omega,by omega⟩⟩
 case round=>
  obtain⟨ho,U⟩:=hrel;have i:=aa ho;rcases U with⟨s,X,f,B,W,Z,a4,Y⟩|⟨s',t',I,hR,B,ht⟩
  ·obtain⟨c0,c1,c2,c3,c4,c5,hb⟩:=f.cells;have q:=f.2.2.2.2.1.suf f.2.1;have o:=aa f;have C:=aa B;have HE:=aa W;have a0:=aa Z;have a5:=aa a4;have S:Hid ((form s).length<=1000000):=by have:=dr s;show _<=_;omega
   obtain⟨k',rfl⟩:∃k',gk=k'+1:=⟨gk-1,by omega⟩;by_cases j:X.head?=some 93
   ·obtain⟨u,rfl⟩:∃u,X=93::u:=by cases X with|nil=>simp at j|cons c t=>simp at j;exact⟨t,by rw[j]⟩
    have HR:Hid (R.map (λx=>dT (form x))=.ok ((λx=>dT (form x)) s) u):=by
     have:=HE.out;simp only[ba,yx,yd,yt]at this;show _=_
     rw[<-this];rfl
    go_wp2_with (first
     |(go_at_call 57;refine (dc o (by decide) (by decide)).mono ?_;rintro e wt ⟨rfl,a,r⟩;replace o:=aa a;replace i:=aa (i.trans r);replace C:=aa (C.keep (ah.off r (yz M))))
     |(go_at_call 220;refine (mR C S).mono ?_;rintro e wz ⟨v4,rfl,A,E⟩;have N:=aa A;have z:=aa E))
    go_ret;exact⟨_,rfl,i.trans (Off.below z),by rw[HR.out];exact⟨o.below z,N.mono (λk _ Y=>by have:=i.size;omega)⟩⟩
   ·have L:=aa j;have J:=kO q;have K:=fT X;cases hi:cq X with
    |ok x s2=>
     have T:=aa hi;rw[hi]at J K;have O:=aa J;have P:Hid ((form s).length<=400000):=by have:=dr s;show _<=_;omega
     have a8:Hid ((form x).length<=400000):=by have:=dr x;have:=J.2;show _<=_;simp at this;omega
     have a7:Hid (ba k' (s++x) s2=R):=by
      have:=HE.out;simp only[ba,zR j,hi,Res.bind]at this;exact this
     have a2:=aa K.1;go_wp2_with (first
      |(go_at_call 57;refine (ep _ o (by decide) (by decide) L).mono ?_;rintro e wt ⟨rfl,a⟩;replace o:=aa (o.drn a);replace i:=aa (i.trans (Off.drn a));replace C:=aa (C.keep (ah.below a.below)))
      |(go_at_call 218;refine (qO o).mono ?_;rintro e wi ⟨vi,rfl,n,H⟩;have Q:=aa (C.keep (ah.off n (yz M)));replace i:=aa (i.trans n);have HZ:=aa n.size;rw[T.out]at H;obtain⟨f,p⟩:=H;replace o:=aa f;have HX:=aa p)
      |(go_at_call 219;refine (xP Q HX (λk Y=>zJ i.size Y) P a8).mono ?_;rintro e b0 ⟨v3,rfl,G,F⟩;have V:=aa G;have D:=aa F))
     have HF:=aa (EK a0 O.1)
     go_roundg k'
     case measure=>omega
     case rel=>
      refine⟨i.trans (Off.below D),.inl ⟨s++x,s2,o.below D,?_,a7,?_,?_,?_⟩⟩
      ·rw[<-HF.out];exact V
      ·intro y hy;rcases zM.1 hy with hy|hy
       ·exact a0 y hy
       ·exact O.1 y hy
      ·have:=a5.out;have:=O.2;rw[zH];omega
      ·have:=a2.out;omega
    |bad s2=>
     have T:=aa hi;have P:Hid ((form s).length<=400000):=by have:=dr s;show _<=_;omega
     have a9:Hid (R=.bad s2):=by
      have:=HE.out;simp only[ba,zR j,hi,Res.bind]at this;exact this.symm
     have a6:Hid ((form s).length<=400):=by have:=dr s;show _<=_;omega
     go_wp2_with (first
      |(go_at_call 57;refine (ep _ o (by decide) (by decide) L).mono ?_;rintro e wt ⟨rfl,a⟩;replace o:=aa (o.drn a);replace i:=aa (i.trans (Off.drn a));replace C:=aa (C.keep (ah.below a.below)))
      |(go_at_call 218;refine (qO o).mono ?_;rintro e wi ⟨vi,rfl,n,H⟩;have Q:=aa (C.keep (ah.off n (yz M)));replace i:=aa (i.trans n);have HZ:=aa n.size;rw[T.out]at H;obtain⟨f,t2,p,b2⟩:=H;have HB:=aa f;have HX:=aa p)
      |(go_at_call 219;refine (xP Q HX (λk Y=>zJ i.size Y) P (by omega)).mono ?_;rintro e b0 ⟨v3,rfl,G,F⟩;have V:=aa G;have D:=aa F))
     go_roundg k'
     case measure=>omega
     case rel=>
      refine⟨i.trans (Off.below D),.inr ⟨s2,_,HB.below D,a9,V,?_⟩⟩;have:=a6.out;have h3:=dr (form s++t2);rw[zH]at h3;omega
  ·obtain⟨i0,g0,m0,c0,c1,c2,c3,c4,c5,hb⟩:=I.cells;have HB:=aa I;have C:=aa B;have HR:Hid (R.map (λx=>dT (form x))=.bad s'):=by show _=_;rw[hR];rfl
   have S:Hid (t'.length<=1000000):=by show _<=_;omega
   generalize l.length-s'.length=kk at c2;have hd:decide ((kk:Int)<0)=false:=by simp
   go_wp2_with (go_at_call 220;refine (mR C S).mono ?_;rintro e wz ⟨v4,rfl,A,E⟩;have N:=aa A;have z:=aa E);go_ret;exact⟨_,rfl,i.trans (Off.below z),by rw[HR.out];exact⟨HB.below z,kl N⟩⟩
theorem FB {s1:LZ}{g:Int}(h:St w b lv l s1 g d m)(hn:s1.head?≠some 94):Calls prog 200 #[Vp b] w λe w'=>∃v,e=.returned v/\YS b lv l g d m w w' v form (ba (s1.length+2) [] s1):=by
 have n:=aa h;have i:=aa (Off.refl b w);have I:=aa h.1.lt;have b0:=h.2.2.2.1;have a1:=h.2.1.length_le;have HN:=aa hn;generalize W:ba (s1.length+2) [] s1=R;have V:=aa W;go_enter func200,ntmps200;go_wp2_with (go_at_call 57;refine (ep _ n (by decide) (by decide) HN).mono ?_;rintro e wt ⟨rfl,a⟩;replace n:=aa (n.drn a);replace i:=aa (i.trans (Off.drn a)))
 go_loopg [4] (s1.length+2) (λk v wr=>YR w b lv l g d m R k v wr)
 case atStart=>exact⟨i,.inl ⟨[],s1,n,nF _ _,V,by simp,by simp at a1 ⊢;omega,by omega⟩⟩
 case round=>
  obtain⟨ho,O⟩:=hrel;have i:=aa ho;rcases O with⟨r,S,f,s,Q,T,a2,Z⟩|⟨s',t',E,W,s,ht⟩
  ·obtain⟨c0,c1,c2,c3,c4,c5,hb⟩:=f.cells;have q:=f.2.2.2.2.1.suf f.2.1;have n:=aa f;have z:=aa s;have HE:=aa Q;have U:=aa T;have a3:=aa a2;have a6:Hid ((form r).length<=1000000):=by have:=dr r;show _<=_;omega
   obtain⟨Y,rfl⟩:∃Y,gk=Y+1:=⟨gk-1,by omega⟩;by_cases j:S.head?=some 93
   ·obtain⟨u,rfl⟩:∃u,S=93::u:=by cases S with|nil=>simp at j|cons c t=>simp at j;exact⟨t,by rw[j]⟩
    have HR:Hid (R.map form=.ok (form r) u):=by
     have:=HE.out;simp only[ba,yx,yd,yt]at this;show _=_
     rw[<-this];rfl
    go_wp2_with (go_at_call 57;refine (dc n (by decide) (by decide)).mono ?_;rintro e wt ⟨rfl,a,J⟩;replace n:=aa a;replace i:=aa (i.trans J);replace z:=aa (z.keep (ah.off J (yz I))));go_ret;exact⟨_,rfl,i,by rw[HR.out];exact⟨n,z⟩⟩
   ·have H:=aa j;have F:=kO q;have G:=fT S;cases hi:cq S with
    |ok x s2=>
     have N:=aa hi;rw[hi]at F G;have K:=aa F;have L:Hid ((form r).length<=400000):=by have:=dr r;show _<=_;omega
     have a7:Hid ((form x).length<=400000):=by have:=dr x;have:=F.2;show _<=_;simp at this;omega
     have a5:Hid (ba Y (r++x) s2=R):=by
      have:=HE.out;simp only[ba,zR j,hi,Res.bind]at this;exact this
     have a0:=aa G.1;go_wp2_with (first
      |(go_at_call 57;refine (ep _ n (by decide) (by decide) H).mono ?_;rintro e wt ⟨rfl,a⟩;replace n:=aa (n.drn a);replace i:=aa (i.trans (Off.drn a));replace z:=aa (z.keep (ah.below a.below)))
      |(go_at_call 218;refine (qO n).mono ?_;rintro e wi ⟨vi,rfl,o,D⟩;have M:=aa (z.keep (ah.off o (yz I)));replace i:=aa (i.trans o);have HZ:=aa o.size;rw[N.out]at D;obtain⟨f,p⟩:=D;replace n:=aa f;have HX:=aa p)
      |(go_at_call 219;refine (xP M HX (λk Z=>zJ i.size Z) L a7).mono ?_;rintro e a9 ⟨v3,rfl,C,B⟩;have P:=aa C;have A:=aa B))
     have HF:=aa (EK U K.1)
     go_roundg Y
     case measure=>omega
     case rel=>
      refine⟨i.trans (Off.below A),.inl ⟨r++x,s2,n.below A,?_,a5,?_,?_,?_⟩⟩
      ·rw[<-HF.out];exact P
      ·intro y X;rcases zM.1 X with X|X
       ·exact U y X
       ·exact K.1 y X
      ·have:=a3.out;have:=K.2;rw[zH];omega
      ·have:=a0.out;omega
    |bad s2=>
     have N:=aa hi;have L:Hid ((form r).length<=400000):=by have:=dr r;show _<=_;omega
     have a8:Hid (R=.bad s2):=by
      have:=HE.out;simp only[ba,zR j,hi,Res.bind]at this;exact this.symm
     have a4:Hid ((form r).length<=400):=by have:=dr r;show _<=_;omega
     go_wp2_with (first
      |(go_at_call 57;refine (ep _ n (by decide) (by decide) H).mono ?_;rintro e wt ⟨rfl,a⟩;replace n:=aa (n.drn a);replace i:=aa (i.trans (Off.drn a));replace z:=aa (z.keep (ah.below a.below)))
      |(go_at_call 218;refine (qO n).mono ?_;rintro e wi ⟨vi,rfl,o,D⟩;have M:=aa (z.keep (ah.off o (yz I)));replace i:=aa (i.trans o);have HZ:=aa o.size;rw[N.out]at D;obtain⟨f,t2,p,b1⟩:=D;have HB:=aa f;have HX:=aa p)
      |(go_at_call 219;refine (xP M HX (λk Z=>zJ i.size Z) L (by omega)).mono ?_;rintro e a9 ⟨v3,rfl,C,B⟩;have P:=aa C;have A:=aa B))
     go_roundg Y
     case measure=>omega
     case rel=>
      refine⟨i.trans (Off.below A),.inr ⟨s2,_,HB.below A,a8,P,?_⟩⟩;have:=a4.out;have h3:=dr (form r++t2);rw[zH]at h3;omega
  ·obtain⟨i0,g0,m0,c0,c1,c2,c3,c4,c5,hb⟩:=E.cells;have HB:=aa E;have z:=aa s;have HR:Hid (R.map form=.bad s'):=by show _=_;rw[W];rfl
   have a6:Hid (t'.length<=1000000):=by show _<=_;omega
   generalize l.length-s'.length=kk at c2;have hd:decide ((kk:Int)<0)=false:=by simp
   go_wp2_with fail;go_ret;exact⟨_,rfl,i,by rw[HR.out];exact⟨HB,kl z⟩⟩
theorem tA {g:Int}(h:St w b lv l s g d m):Calls prog 200 #[Vp b] w λe w'=>∃v,e=.returned v/\Off b w w'/\qH b lv l g d m (cJ s) w' (λx=>cC w' (λk=>w.heap.size<=k) v x) (Kz v):=by
 unfold cJ;by_cases a:s.head?=some 94
 ·obtain⟨f,rfl⟩:∃t,s=94::t:=by cases s with|nil=>simp at a|cons c t=>simp at a;exact⟨t,by rw[a]⟩
  rw[zX a];exact FA h
 ·rw[zR a];refine (FB h a).mono ?_;rintro e w' ⟨v,rfl,i,j⟩;refine⟨v,rfl,i,?_⟩;rw[pC (s.length+1) [] s (by omega)];exact j
theorem Lu {g:Int}(h:St w b lv l s g d m):Calls prog 185 #[Vp b] w λe w'=>∃x y:Int,e=.returned (.tuple #[Vi x,Vi y])/\Off b w w'/\qH b lv l g d m (bh s) w' (λmn=>x=mn.1/\y=mn.2) True:=by
 have j:=aa h;have f:=aa (Off.refl b w);have F:=rA 0 s;cases hr1:ct 0 s with
 |bad s1=>
  have E:Hid (bh s=.bad s1):=by show _=_;unfold bh;rw[hr1];rfl
  have z:=aa hr1;go_enter func185,ntmps185;go_wp2_with (first
   |(go_at_call 205;refine (eX _ j (by decide) (by decide)).mono ?_;rintro e wc ⟨v,rfl,i,a⟩;replace f:=aa (f.trans i);rw[z.out]at a;obtain⟨a,rfl⟩:=a;have D:=aa a)
   |(go_at_call 57;refine (takes_bad _ _ _ _ _ _ D (by decide) (by decide)).mono ?_;rintro e I ⟨rfl,k⟩;replace D:=aa (D.off k);replace f:=aa (f.trans (Off.drn k)))
   |(go_at_call 199;refine (wv _ D (by decide) (by decide)).mono ?_;rintro e J ⟨rfl,o,n⟩;replace D:=aa o;replace f:=aa (f.trans (Off.drn n))))
  go_ret2
  exact⟨_,_,rfl,f,by rw[E.out];exact⟨D,trivial⟩⟩
 |ok m0 s1=>
  rw[hr1]at F;simp only at F;obtain⟨O,P⟩:=F;have z:=aa hr1;by_cases B:s1.head?=some 44
  ·obtain⟨t,rfl⟩:∃t,s1=44::t:=by cases s1 with|nil=>simp at B|cons c t=>simp at B;exact⟨t,by rw[B]⟩
   by_cases p:t.head?=some 125
   ·obtain⟨u,rfl⟩:∃u,t=125::u:=by cases t with|nil=>simp at p|cons c t=>simp at p;exact⟨t,by rw[p]⟩
    have E:Hid (bh s=.ok (m0,-1) u):=by show _=_;unfold bh;rw[hr1];rfl
    go_enter func185,ntmps185;go_wp2_with (first
     |(go_at_call 205;refine (eX _ j (by decide) (by decide)).mono ?_;rintro e wc ⟨v,rfl,i,a⟩;replace f:=aa (f.trans i);rw[z.out]at a;obtain⟨a,rfl⟩:=a;replace j:=aa a)
     |(go_at_call 57;refine (dc j (by decide) (by decide)).mono ?_;rintro e I ⟨rfl,k,A⟩;replace j:=aa k;replace f:=aa (f.trans A))
     |(go_at_call 98;refine (aM j).mono ?_;rintro e L ⟨rfl,q⟩;replace j:=aa (j.drn q);replace f:=aa (f.trans (Off.drn q));simp only[aW])
     |(go_at_call 199;refine (qG j (by decide) (by decide)).mono ?_;rintro e J ⟨rfl,o,n⟩;replace j:=aa o;replace f:=aa (f.trans n)))
    go_ret2
    exact⟨_,_,rfl,f,by rw[E.out];exact⟨j,rfl,rfl⟩⟩
   ·have Q:=aa (Jy p (by decide));have R:(aW t==125)=false:=zD.2 Q;have M:∃x,aW t=x:=⟨_,rfl⟩;obtain⟨x,H⟩:=M;rw[H]at R;have G:=aa H;cases hr2:ct m0 t with
    |bad s2=>
     have E:Hid (bh s=.bad s2):=by show _=_;unfold bh;rw[hr1];simp only[Res.bind,yx,yd,yt,zR p,hr2]
     have C:=aa hr2;go_enter func185,ntmps185;go_wp2_with (first
      |(go_at_call 205;refine (eX _ j (by decide) (by decide)).mono ?_;rintro e wc ⟨v,rfl,i,a⟩;replace f:=aa (f.trans i);rw[z.out]at a;obtain⟨a,rfl⟩:=a;replace j:=aa a)
      |(go_at_call 57;refine (dc j (by decide) (by decide)).mono ?_;rintro e I ⟨rfl,k,A⟩;replace j:=aa k;replace f:=aa (f.trans A))
      |(go_at_call 98;refine (aM j).mono ?_;rintro e L ⟨rfl,q⟩;replace j:=aa (j.drn q);replace f:=aa (f.trans (Off.drn q));rw[G.out])
      |(go_at_call 205;refine (eX _ j O P).mono ?_;rintro e wc ⟨v,rfl,i,a⟩;replace f:=aa (f.trans i);rw[C.out]at a;obtain⟨a,rfl⟩:=a;have D:=aa a)
      |(go_at_call 199;refine (wv _ D (by decide) (by decide)).mono ?_;rintro e J ⟨rfl,o,n⟩;replace D:=aa o;replace f:=aa (f.trans (Off.drn n))))
     go_ret2
     exact⟨_,_,rfl,f,by rw[E.out];exact⟨D,trivial⟩⟩
    |ok n0 s2=>
     have C:=aa hr2;by_cases r:s2.head?=some 125
     ·obtain⟨u,rfl⟩:∃u,s2=125::u:=by cases s2 with|nil=>simp at r|cons c t=>simp at r;exact⟨t,by rw[r]⟩
      have E:Hid (bh s=.ok (m0,n0) u):=by show _=_;unfold bh;rw[hr1];simp only[Res.bind,yx,yd,yt,zR p,hr2,bV]
      go_enter func185,ntmps185;go_wp2_with (first
       |(go_at_call 205;refine (eX _ j (by decide) (by decide)).mono ?_;rintro e wc ⟨v,rfl,i,a⟩;replace f:=aa (f.trans i);rw[z.out]at a;obtain⟨a,rfl⟩:=a;replace j:=aa a)
       |(go_at_call 57;refine (dc j (by decide) (by decide)).mono ?_;rintro e I ⟨rfl,k,A⟩;replace j:=aa k;replace f:=aa (f.trans A))
       |(go_at_call 98;refine (aM j).mono ?_;rintro e L ⟨rfl,q⟩;replace j:=aa (j.drn q);replace f:=aa (f.trans (Off.drn q));rw[G.out])
       |(go_at_call 205;refine (eX _ j O P).mono ?_;rintro e wc ⟨v,rfl,i,a⟩;replace f:=aa (f.trans i);rw[C.out]at a;obtain⟨a,rfl⟩:=a;replace j:=aa a)
       |(go_at_call 199;refine (qG j (by decide) (by decide)).mono ?_;rintro e J ⟨rfl,o,n⟩;replace j:=aa o;replace f:=aa (f.trans n)))
      go_ret2
      exact⟨_,_,rfl,f,by rw[E.out];exact⟨j,rfl,rfl⟩⟩
     ·have E:Hid (bh s=.bad s2):=by show _=_;unfold bh;rw[hr1];simp only[Res.bind,yx,yd,yt,zR p,hr2,bV,zR r]
      have N:=aa r;go_enter func185,ntmps185;go_wp2_with (first
       |(go_at_call 205;refine (eX _ j (by decide) (by decide)).mono ?_;rintro e wc ⟨v,rfl,i,a⟩;replace f:=aa (f.trans i);rw[z.out]at a;obtain⟨a,rfl⟩:=a;replace j:=aa a)
       |(go_at_call 57;refine (dc j (by decide) (by decide)).mono ?_;rintro e I ⟨rfl,k,A⟩;replace j:=aa k;replace f:=aa (f.trans A))
       |(go_at_call 98;refine (aM j).mono ?_;rintro e L ⟨rfl,q⟩;replace j:=aa (j.drn q);replace f:=aa (f.trans (Off.drn q));rw[G.out])
       |(go_at_call 205;refine (eX _ j O P).mono ?_;rintro e wc ⟨v,rfl,i,a⟩;replace f:=aa (f.trans i);rw[C.out]at a;obtain⟨a,rfl⟩:=a;replace j:=aa a)
       |(go_at_call 199;refine (Bn _ j (by decide) (by decide) N).mono ?_;rintro e J ⟨rfl,o,n⟩;have D:=aa o;replace f:=aa (f.trans n)))
      go_ret2
      exact⟨_,_,rfl,f,by rw[E.out];exact⟨D,trivial⟩⟩
  ·have K:=aa B;by_cases r:s1.head?=some 125
   ·obtain⟨u,rfl⟩:∃u,s1=125::u:=by cases s1 with|nil=>simp at r|cons c t=>simp at r;exact⟨t,by rw[r]⟩
    have E:Hid (bh s=.ok (m0,m0) u):=by show _=_;unfold bh;rw[hr1];rfl
    go_enter func185,ntmps185;go_wp2_with (first
     |(go_at_call 205;refine (eX _ j (by decide) (by decide)).mono ?_;rintro e wc ⟨v,rfl,i,a⟩;replace f:=aa (f.trans i);rw[z.out]at a;obtain⟨a,rfl⟩:=a;replace j:=aa a)
     |(go_at_call 57;refine (ep _ j (by decide) (by decide) K).mono ?_;rintro e I ⟨rfl,k⟩;replace j:=aa (j.drn k);replace f:=aa (f.trans (Off.drn k)))
     |(go_at_call 199;refine (qG j (by decide) (by decide)).mono ?_;rintro e J ⟨rfl,o,n⟩;replace j:=aa o;replace f:=aa (f.trans n)))
    go_ret2
    exact⟨_,_,rfl,f,by rw[E.out];exact⟨j,rfl,rfl⟩⟩
   ·have E:Hid (bh s=.bad s1):=by show _=_;unfold bh;rw[hr1];simp only[Res.bind,zR B,bV,zR r]
    have N:=aa r;go_enter func185,ntmps185;go_wp2_with (first
     |(go_at_call 205;refine (eX _ j (by decide) (by decide)).mono ?_;rintro e wc ⟨v,rfl,i,a⟩;replace f:=aa (f.trans i);rw[z.out]at a;obtain⟨a,rfl⟩:=a;replace j:=aa a)
     |(go_at_call 57;refine (ep _ j (by decide) (by decide) K).mono ?_;rintro e I ⟨rfl,k⟩;replace j:=aa (j.drn k);replace f:=aa (f.trans (Off.drn k)))
     |(go_at_call 199;refine (Bn _ j (by decide) (by decide) N).mono ?_;rintro e J ⟨rfl,o,n⟩;have D:=aa o;replace f:=aa (f.trans n)))
    go_ret2
    exact⟨_,_,rfl,f,by rw[E.out];exact⟨D,trivial⟩⟩
def kZ (b:Nat)(lv:Value)(l:List Int)(g:Nat)(d m:Int)(r:Res Pat)(w w':World)(c:List Value):Prop :=
 Off b w w'/\match r with
 |.ok p s=>NV w' (λk=>w.heap.size<=k) p c g/\St w' b lv l s ((g+p.groups:Nat):Int) d (max m (d+p.deep))
 |.bad s=>gu w' b lv l s d
def bJ (F:Nat)(b:Nat)(lv:Value)(l:List Int)(g:Nat)(d m:Int)(r:Res Pat)(w:World):Prop :=
 Calls prog F #[Vp b] w λe w'=>∃k so sn sc lo ln lc mm nn rr,e=.returned (.agg #[Vi k,.slice so sn sc,.slice lo ln lc,Vi mm,Vi nn,Vi rr]) /\
  kZ b lv l g d m r w w' (bT k so sn sc lo ln lc mm nn rr)
def ld (n:Nat):Prop:=∀(b:Nat) (lv:Value) (l s:List Int) (g:Nat) (d m:Int) (w:World),St w b lv l s g d m->s.length<n->bJ 27 b lv l g d m (aU false n s) w
theorem St.setD {g:Int}(h:St w b lv l s g d m)(x:Int)(h0:0<=x)(h1:x<=m):St (w.setCell (aD b 4) (Vi x)) b lv l s g x m :=
 ⟨h.1.set 4 _,h.2.1,h.2.2.1.off ((Off.refl _ _).setCell 4 _),h.2.2.2.1,h.2.2.2.2.1,by have:=h.2.2.2.2.2;omega⟩
theorem St.deeper {g:Int}(h:St w b lv l s g d m)(h1:d+1<=((l.length-s.length:Nat):Int)):St ((w.setCell (aD b 4) (Vi (d+1))).setCell (aD b 5) (Vi (max m (d+1)))) b lv l s g (d+1) (max m (d+1)) :=
 ⟨(h.1.set 4 _).set 5 _,h.2.1,h.2.2.1.off (((Off.refl _ _).setCell 4 _).setCell 5 _),h.2.2.2.1,h.2.2.2.2.1,by have:=h.2.2.2.2.2;omega⟩
theorem St.setG {g:Int}(h:St w b lv l s g d m)(x:Int)(h0:0<=x)(h1:x<=((l.length-s.length:Nat):Int)):St (w.setCell (aD b 3) (Vi x)) b lv l s x d m :=
 ⟨h.1.set 3 _,h.2.1,h.2.2.1.off ((Off.refl _ _).setCell 3 _),h.2.2.2.1,h.2.2.2.2.1,h0,h1,h.2.2.2.2.2.2.2⟩
theorem St.facts {g:Int}(h:St w b lv l s g d m):0<=g/\g<=60/\0<=d/\d<=60/\0<=m/\m<=60:=by
 have:=h.2.2.2.2.2;have:=h.2.2.2.1;omega
theorem St.drew {w:World}{b:Nat}{lv:Value}{l s:LZ}{g d m:Int}(h:St w b lv l s g d m):St w.drew b lv l s g d m:=h
theorem St.new {g:Int}(h:St w b lv l s g d m)(o:Obj):St (w.alloc o) b lv l s g d m:=h.below ((zE _ _).alloc (zA _) _)
abbrev put6 (w:World)(r:Nat)(c0 c1 c2 c3 c4 c5:Value):World:=(((((w.setCell (aD r 0) c0).setCell (aD r 1) c1).setCell (aD r 2) c2).setCell (aD r 3) c3).setCell (aD r 4) c4).setCell (aD r 5) c5
theorem ag.put6 {w:World}{b r:Nat}{cs:LV}{T:TypeId}(h:ag w b cs T)(hr:b≠r)(c0 c1 c2 c3 c4 c5:Value):ag (put6 w r c0 c1 c2 c3 c4 c5) b cs T :=
 (((((h.setOther hr _).setOther hr _).setOther hr _).setOther hr _).setOther hr _).setOther hr _
theorem Off.put6 {b r:Nat}{a w:World}(h:Off b a w)(hr:a.heap.size<=r)(c0 c1 c2 c3 c4 c5:Value):Off b a (put6 w r c0 c1 c2 c3 c4 c5) :=
 (((((h.setNew hr _).setNew hr _).setNew hr _).setNew hr _).setNew hr _).setNew hr _
theorem ah.put6 {A:NP}{a w:World}{r:Nat}(h:ah A a w)(hr:¬A r)(c0 c1 c2 c3 c4 c5:Value):ah A a (put6 w r c0 c1 c2 c3 c4 c5) :=
 (((((h.trans (ah.set _ hr)).trans (ah.set _ hr)).trans (ah.set _ hr)).trans (ah.set _ hr)).trans (ah.set _ hr)).trans (ah.set _ hr)
theorem St.move {w0:World}{g:Int}(h0:te w0 b lv l)(ho:Off b w0 w2)(h1:St w1 b lv l s g d m)(h2:UF w2 b lv ((l.length-s.length:Nat):Int) (-1) g d m):St w2 b lv l s g d m :=
 ⟨h2,h1.2.1,h0.off ho,h1.2.2.2⟩
theorem aQ (h:ag w r Zq 27):(w.cell? (aD r 0)=some (Vi 0)/\w.cell? (aD r 1)=some (Vz)/\w.cell? (aD r 2)=some (Vz)/\w.cell? (aD r 3)=some (Vi 0)/\w.cell? (aD r 4)=some (Vi 0)/\w.cell? (aD r 5)=some (Vi 0)) /\
  (w.frozen? (aD r 0)=false/\w.frozen? (aD r 1)=false/\w.frozen? (aD r 2)=false/\w.frozen? (aD r 3)=false/\w.frozen? (aD r 4)=false/\w.frozen? (aD r 5)=false)/\r<w.heap.size :=
 ⟨⟨h.cell 0,h.cell 1,h.cell 2,h.cell 3,h.cell 4,h.cell 5⟩,⟨h.frozen 0,h.frozen 1,h.frozen 2,h.frozen 3,h.frozen 4,h.frozen 5⟩,h.lt⟩
theorem Cb (ih:ld n)(h:St w b lv l s g d m)(hn:s.length<n)(hd:d+1<=((l.length-s.length:Nat):Int))(p:Pat)(s':LZ)(hr:aU false n s=.ok p s'):Calls prog 198 #[Vp b] w λe w'=>∃k so sn sc lo ln lc mm nn rr,e=.returned (.agg #[Vi k,.slice so sn sc,.slice lo ln lc,Vi mm,Vi nn,Vi rr]) /\
   Off b w w'/\NV w' (λk=>w.heap.size<=k) p (bT k so sn sc lo ln lc mm nn rr) g/\St w' b lv l s' ((g+p.groups:Nat):Int) d (max m (d+(p.deep+1))):=by
 have J:=aa h;have R:=aa hd;obtain⟨f1,f2,f3,f4,f5,f6⟩:=h.facts;obtain⟨F,Q,N,H,P,I,hb⟩:=h.cells;have t:=h.1.frozen 4;have x:=h.1.frozen 5;have U:=aa hr;go_enter func198,ntmps198;go_wp2_with fail
 go_region
 go_wp2_with fail;have z:=aa (((J.deeper R).new Zo).drew);have HK:=aa (ag.new ((w.setCell (aD b 4) (Vi (d+1))).setCell (aD b 5) (Vi (max m (d+1)))) Zq 27).drew;refine (ih b lv l s g (d+1) (max m (d+1)) _ z hn).mono ?_;rintro e M ⟨k,so,sn,sc,lo,ln,lc,mm,nn,rr,rfl,a,j⟩;rw[U.out]at j;obtain⟨o,i⟩:=j;have T:=aa o;have c:=aa i;have y:=aa a;have A:=aa (HK.off (w':=M) a (by simp;omega));obtain⟨F,Q,N,H,P,I,X⟩:=c.out.cells;have t:=c.1.frozen 4;obtain⟨⟨B,K,L,E,C,O⟩,⟨y0,W,y2,Z,S,V⟩,f⟩:=aQ A.out;simp at B K L E C O y0 W y2 Z S V f;go_wp2_with fail;refine zN (v:=.agg #[Vi k,.slice so sn sc,.slice lo ln lc,Vi mm,Vi nn,Vi rr]) (by simp[results,results198,go_sem,B,K,L,E,C,O,f]) rfl ⟨k,so,sn,sc,lo,ln,lc,mm,nn,rr,rfl,?_⟩;have u:Off b w M:=Off.trans ((((Off.refl b w).setCell 4 _).setCell 5 _).alloc _).drew y;have G:=((u.setCell 4 (Vi d)).put6 (r:=w.heap.size) (zA _) (Vi k) (.slice so sn sc) (.slice lo ln lc) (Vi mm) (Vi nn) (Vi rr)).alloc (.cells #[Vi k,.slice so sn sc,.slice lo ln lc,Vi mm,Vi nn,Vi rr] 27);have Y:=((c.1.set 4 (Vi d)).put6 (r:=w.heap.size) (by omega) (Vi k) (.slice so sn sc) (.slice lo ln lc) (Vi mm) (Vi nn) (Vi rr)).alloc (.cells #[Vi k,.slice so sn sc,.slice lo ln lc,Vi mm,Vi nn,Vi rr] 27);have e:max (max m (d+1)) (d+1+(p.deep:Int))=max m (d+((p.deep:Int)+1)):=by omega
 have D:=c.setD d (by omega) (by have:=c.2.2.2.2.2;omega);rw[e]at D;refine⟨G,?_,St.move J.2.2.1 G D (by rw[<-e];exact Y)⟩;refine NV.mono (λq _ hq=>by simp at hq;omega) p _ g (NV.keep ?_ p _ g T);exact (((ah.set _ (by simp;omega)).put6 (r:=w.heap.size) (by simp) _ _ _ _ _ _)).trans (ah.alloc _ _ _)
theorem KC (ih:ld n)(h:St w b lv l s g d m)(hn:s.length<n)(hd:d+1<=((l.length-s.length:Nat):Int))(s':LZ)(hr:aU false n s=.bad s'):Calls prog 198 #[Vp b] w λe w'=>∃k so sn sc lo ln lc mm nn rr,e=.returned (.agg #[Vi k,.slice so sn sc,.slice lo ln lc,Vi mm,Vi nn,Vi rr]) /\
   Off b w w'/\gu w' b lv l s' d:=by
 have P:=aa h;have H:=aa hd;obtain⟨f1,f2,f3,f4,f5,f6⟩:=h.facts;obtain⟨J,c1,U,L,y,M,hb⟩:=h.cells;have j:=h.1.frozen 4;have q:=h.1.frozen 5;have N:=aa hr;go_enter func198,ntmps198;go_wp2_with fail
 go_region
 go_wp2_with fail;have x:=aa (((P.deeper H).new Zo).drew);have Y:=aa (ag.new ((w.setCell (aD b 4) (Vi (d+1))).setCell (aD b 5) (Vi (max m (d+1)))) Zq 27).drew;refine (ih b lv l s g (d+1) (max m (d+1)) _ x hn).mono ?_;rintro e E ⟨k,so,sn,sc,lo,ln,lc,mm,nn,rr,rfl,a,f⟩;rw[N.out]at f;have p:=aa f;have t:=aa a;have z:=aa (Y.off (w':=E) a (by simp;omega));obtain⟨O,g1,V,c⟩:=p.out;have y:=c.cell 4;have j:=c.frozen 4;have S:=c.lt;have u:=aa c;simp at y;obtain⟨⟨A,G,D,C,B,F⟩,⟨X,R,Z,W,I,Q⟩,i⟩:=aQ z.out;simp at A G D C B F X R Z W I Q i;go_wp2_with fail;refine zN (v:=.agg #[Vi k,.slice so sn sc,.slice lo ln lc,Vi mm,Vi nn,Vi rr]) (by simp[results,results198,go_sem,A,G,D,C,B,F,i]) rfl ⟨k,so,sn,sc,lo,ln,lc,mm,nn,rr,rfl,?_⟩;have o:Off b w E:=Off.trans ((((Off.refl b w).setCell 4 _).setCell 5 _).alloc _).drew t;have K:=((o.setCell 4 (Vi d)).put6 (r:=w.heap.size) (zA _) (Vi k) (.slice so sn sc) (.slice lo ln lc) (Vi mm) (Vi nn) (Vi rr)).alloc (.cells #[Vi k,.slice so sn sc,.slice lo ln lc,Vi mm,Vi nn,Vi rr] 27);have T:=((u.set 4 (Vi d)).put6 (r:=w.heap.size) (by omega) (Vi k) (.slice so sn sc) (.slice lo ln lc) (Vi mm) (Vi nn) (Vi rr)).alloc (.cells #[Vi k,.slice so sn sc,.slice lo ln lc,Vi mm,Vi nn,Vi rr] 27);exact⟨K,O,g1,V,T⟩
theorem BC (h:ag w y cs 27)(hl:cs.length=6)(hA:A y):cB w A 27 6 (Vs y 1 1) 1 cs:=by
 refine⟨⟨by omega,.inr ⟨y,1,cs.toArray,rfl,zW _,h,zA _,by unfold maxLen;omega,by simp[hl],?_⟩⟩,λg a=>?_⟩
 ·simp only[Nat.one_mul];rw[yF (by simp[hl])]
 ·simp[Value.ownBlock]at a;exact a▸hA
theorem qh {x:LQ}(h0:St w1 b lv l s g d m)(hv:cC w1 (λk=>B<=k) (.slice so sn sc) x)(hB:w.heap.size<B)(hb:b<w.heap.size)(ho:Off b w w1)(ht:te w b lv l)
  (e:w2=put6 w1 w.heap.size (Vi 1) (.slice so sn sc) (Vz) (Vi 0) (Vi 0) (Vi 0)):kZ b lv l g d m (.ok (.set x) s) w w2 (bT 1 so sn sc none 0 0 0 0 0):=by
 subst e;have f:=ho.put6 (r:=w.heap.size) (zA _) (Vi 1) (.slice so sn sc) (Vz) (Vi 0) (Vi 0) (Vi 0);have c:max m (d+((Pat.set x).deep:Int))=m:=by have:=h0.2.2.2.2.2;simp[Pat.deep];omega
 have a:((g+(Pat.set x).groups:Nat):Int)=g:=by simp[Pat.groups]
 refine⟨f,⟨_,rfl,?_⟩,?_⟩
 ·exact (hv.keep ((ah.refl _ w1).put6 (r:=w.heap.size) (by simp;omega) (Vi 1) (.slice so sn sc) (Vz) (Vi 0) (Vi 0) (Vi 0))).mono (λq _ h=>by omega)
 ·rw[c,a];exact St.move ht f h0 (h0.1.put6 (r:=w.heap.size) (by omega) (Vi 1) (.slice so sn sc) (Vz) (Vi 0) (Vi 0) (Vi 0))
theorem mY {c:LV}(h0:gu w1 b lv l s d)(hb:b<w.heap.size)(ho:Off b w w1)
  (e:w2=put6 w1 w.heap.size c0 c1 c2 c3 c4 c5):kZ b lv l g d m (.bad s) w w2 c:=by
 subst e;obtain⟨i,a,f,h⟩:=h0;exact⟨ho.put6 (r:=w.heap.size) (zA _) _ _ _ _ _ _,i,a,f,h.put6 (r:=w.heap.size) (by omega) _ _ _ _ _ _⟩
theorem TU (h:St w b lv l [] g d m):bJ 184 b lv l g d m (.bad []) w:=by
 unfold bJ;have j:=aa h;have r:=aa h.1.lt;obtain⟨W,f2,Z,Y,V,X⟩:=h.facts;have I:=h.1.lt
 skip
 go_enter func184,ntmps184;go_wp2_with fail;refine (aM (j.new Zo)).mono ?_;rintro e z ⟨rfl,a⟩;simp only[aW];have k:=aa ((j.new Zo).drn a);have E:Hid (Off b w z):=((Off.refl b w).alloc Zo).trans (Off.drn a);have s:=aa ((ag.new w Zq 27).off (c:=b) (Off.drn a) (by omega));have T:Hid (w.heap.size+1<=z.heap.size):=by have:=(Off.drn (b:=b) a).size;show _<=_;simp at this;omega
 obtain⟨M,U,H,Q,S,F,L⟩:=k.out.cells;have n:=k.1.frozen 1;have o:=k.1.frozen 3;have y:=k.2.2.2.1
 skip
 go_wp2_with fail;refine (fQ k).mono ?_;rintro e D ⟨rfl,f,i⟩;have K:=aa f;have q:Hid (Off b w D):=E.trans i;replace s:=aa (s.off i (by omega));obtain⟨⟨B,A,u,x,C,t⟩,⟨P,R,N,O,J,G⟩,p⟩:=aQ s.out
 try simp at B A u x C t P R N O J G p
 go_wp2_with fail;refine zN (v:=.agg #[Vi 0,Vz,Vz,Vi 0,Vi 0,Vi 0]) (by simp[results,results184,go_sem,B,A,u,x,C,t]) rfl ⟨0,none,0,0,none,0,0,0,0,0,rfl,?_⟩;exact mY K r q rfl
theorem TW (hc:runeB c=true)(hs:cI c=true)(n1:¬c=40)(n2:¬c=91)(n3:¬c=46)(n4:¬c=92)(h:St w b lv l (c::t) g d m):bJ 184 b lv l g d m (.bad (c::t)) w:=by
 unfold bJ;have j:=aa h;have r:=aa h.1.lt;obtain⟨Y,f2,f3,f4,X,f6⟩:=h.facts;have J:=h.1.lt;have W:(c==40)=false:=zD.2 n1;have b2:(c==91)=false:=zD.2 n2;have b3:(c==46)=false:=zD.2 n3;have b4:(c==92)=false:=zD.2 n4;have hr:=(rune_iff c).1 hc;have h0:(0:Int)<=c:=by omega
 go_enter func184,ntmps184;go_wp2_with fail;refine (aM (j.new Zo)).mono ?_;rintro e A ⟨rfl,a⟩;simp only[aW];have k:=aa ((j.new Zo).drn a);have F:Hid (Off b w A):=((Off.refl b w).alloc Zo).trans (Off.drn a);have s:=aa ((ag.new w Zq 27).off (c:=b) (Off.drn a) (by omega));have U:Hid (w.heap.size+1<=A.heap.size):=by have:=(Off.drn (b:=b) a).size;show _<=_;simp at this;omega
 obtain⟨N,V,I,R,T,G,M⟩:=k.out.cells;have n:=k.1.frozen 1;have o:=k.1.frozen 3;have z:=k.2.2.2.1;go_wp2_with fail;refine (gD _ _ _ (by decide)).mono ?_;rintro e Z ⟨rfl,rfl⟩;simp only[lm];go_wp2_with fail;refine (fQ k).mono ?_;rintro e E ⟨rfl,f,i⟩;have L:=aa f;have q:Hid (Off b w E):=F.trans i;replace s:=aa (s.off i (by omega));obtain⟨⟨C,B,x,y,D,u⟩,⟨Q,S,O,P,K,H⟩,p⟩:=aQ s.out
 try simp at C B x y D u Q S O P K H p
 go_wp2_with fail;refine zN (v:=.agg #[Vi 0,Vz,Vz,Vi 0,Vi 0,Vi 0]) (by simp[results,results184,go_sem,C,B,x,y,D,u]) rfl ⟨0,none,0,0,none,0,0,0,0,0,rfl,?_⟩;exact mY L r q rfl
theorem Qj (hc:runeB c=true)(hs:cI c=false)(h:St w b lv l (c::t) g d m):bJ 184 b lv l g d m (.ok (.set [(c,c)]) t) w:=by
 unfold bJ;have i:=aa h;have s:=aa h.1.lt;obtain⟨f1,f2,f3,f4,f5,f6⟩:=h.facts;have P:=h.1.lt;have b1:(c==40)=false:=zD.2 (by intro e;subst e;simp[cI]at hs);have b2:(c==91)=false:=zD.2 (by intro e;subst e;simp[cI]at hs);have b3:(c==46)=false:=zD.2 (by intro e;subst e;simp[cI]at hs);have b4:(c==92)=false:=zD.2 (by intro e;subst e;simp[cI]at hs);have hr:=(rune_iff c).1 hc;have h0:(0:Int)<=c:=by omega
 have HC:=aa hc;go_enter func184,ntmps184;go_wp2_with fail;refine (aM (i.new Zo)).mono ?_;rintro e G ⟨rfl,a⟩;simp only[aW];have n:=aa ((i.new Zo).drn a);have K:Hid (Off b w G):=((Off.refl b w).alloc Zo).trans (Off.drn a);have x:=aa ((ag.new w Zq 27).off (c:=b) (Off.drn a) (by omega));have y:Hid (w.heap.size+1<=G.heap.size):=by have:=(Off.drn (b:=b) a).size;show _<=_;simp at this;omega
 obtain⟨T,c1,O,Y,c4,L,R⟩:=n.out.cells;have o:=n.1.frozen 1;have p:=n.1.frozen 3;have k:=n.2.2.2.1;go_wp2_with fail;refine (gD _ _ _ (by decide)).mono ?_;rintro e U ⟨rfl,rfl⟩;simp only[lm];go_wp2_with fail;refine (pS _ _ HC).mono ?_;rintro e wo ⟨v1,rfl,j,f⟩;have S:=n.step;have u:=aa (S.1.below f);have r:Hid (Off b w wo):=(K.trans S.2).trans (Off.below f);obtain⟨C,F,E,rfl⟩:=kl j;have N:=aa j;replace x:=aa ((x.off S.2 (by omega)).below f);have z:Hid (w.heap.size<(U.setCell (aD b 1) (Vi (((l.length-(c::t).length:Nat):Int)+1))).heap.size):=by have:=y.out;show _<_;simp[World.setCell];omega
 obtain⟨⟨I,H,B,D,J,A⟩,⟨X,Z,V,W,Q,M⟩,q⟩:=aQ x.out
 try simp at I H B D J A X Z V W Q M q
 go_wp2_with fail;refine zN (v:=.agg #[Vi 1,.slice C F E,Vz,Vi 0,Vi 0,Vi 0]) (by simp[results,results184,go_sem,I,H,B,D,J,A]) rfl ⟨1,C,F,E,none,0,0,0,0,0,rfl,?_⟩;exact qh u N z s r i.2.2.1 rfl
theorem TX (h:St w b lv l (46::t) g d m):bJ 184 b lv l g d m (.ok (.set tm) t) w:=by
 unfold bJ;have i:=aa h;have s:=aa h.1.lt;obtain⟨f1,f2,f3,f4,f5,f6⟩:=h.facts;have P:=h.1.lt
 skip
 go_enter func184,ntmps184;go_wp2_with fail;refine (aM (i.new Zo)).mono ?_;rintro e z ⟨rfl,a⟩;simp only[aW];have n:=aa ((i.new Zo).drn a);have K:Hid (Off b w z):=((Off.refl b w).alloc Zo).trans (Off.drn a);have x:=aa ((ag.new w Zq 27).off (c:=b) (Off.drn a) (by omega));have y:Hid (w.heap.size+1<=z.heap.size):=by have:=(Off.drn (b:=b) a).size;show _<=_;simp at this;omega
 obtain⟨T,c1,O,X,Z,L,R⟩:=n.out.cells;have o:=n.1.frozen 1;have p:=n.1.frozen 3;have k:=n.2.2.2.1;go_wp2_with fail;refine (Vq _).mono ?_;rintro e wo ⟨v1,rfl,j,f⟩;have S:=n.step;have u:=aa (S.1.below f);have r:Hid (Off b w wo):=(K.trans S.2).trans (Off.below f);obtain⟨D,G,F,rfl⟩:=kl j;have N:=aa j;replace x:=aa ((x.off S.2 (by omega)).below f);have A:Hid (w.heap.size<(z.setCell (aD b 1) (Vi (((l.length-(46::t).length:Nat):Int)+1))).heap.size):=by have:=y.out;show _<_;simp[World.setCell];omega
 obtain⟨⟨I,H,C,E,J,B⟩,⟨W,Y,U,V,Q,M⟩,q⟩:=aQ x.out
 try simp at I H C E J B W Y U V Q M q
 go_wp2_with fail;refine zN (v:=.agg #[Vi 1,.slice D G F,Vz,Vi 0,Vi 0,Vi 0]) (by simp[results,results184,go_sem,I,H,C,E,J,B]) rfl ⟨1,D,G,F,none,0,0,0,0,0,rfl,?_⟩;exact qh u N A s r i.2.2.1 rfl
theorem Up (t':LZ)(a:Int)(he:dx t=.ok (.inl a) t')(h:St w b lv l (92::t) g d m):bJ 184 b lv l g d m (.ok (.set [(a,a)]) t') w:=by
 unfold bJ;have j:=aa h;have s:=aa h.1.lt;obtain⟨f1,f2,f3,f4,f5,f6⟩:=h.facts;have a0:=h.1.lt;have H:=aa he;go_enter func184,ntmps184;go_wp2_with fail;refine (aM (j.new Zo)).mono ?_;rintro e z ⟨rfl,f⟩;simp only[aW];have p:=aa ((j.new Zo).drn f);have Y:Hid (Off b w z):=((Off.refl b w).alloc Zo).trans (Off.drn f);have q:=aa ((ag.new w Zq 27).off (c:=b) (Off.drn f) (by omega));have y:Hid (w.heap.size+1<=z.heap.size):=by have:=(Off.drn (b:=b) f).size;show _<=_;simp at this;omega
 obtain⟨c0,c1,c2,c3,c4,U,W⟩:=p.out.cells;have E:=p.1.frozen 1;have A:=p.1.frozen 3;have n:=p.2.2.2.1;go_wp2_with fail;have S:=p.step;have B:Hid (w.heap.size<(z.setCell (aD b 1) (Vi (((l.length-(92::t).length:Nat):Int)+1))).heap.size):=by have:=y.out;show _<_;simp[World.setCell];omega
 have x:=aa S.1;have u:Hid (Off b w _):=Y.trans S.2;replace q:=aa (q.off S.2 (by omega));refine (fd x).mono ?_;rintro e wo ⟨v1,f1,rfl,i,o⟩;have C:Hid (Off b w wo):=u.trans i;replace q:=aa (q.off i (by omega));rw[H.out]at o;obtain⟨r,rfl,k,_⟩:=o;have G:=aa r;obtain⟨Q,M,N,rfl⟩:=kl k;have HV:=aa k;have F:=B;obtain⟨⟨O,J,K,I,L,P⟩,⟨V,y1,Z,T,X,R⟩,D⟩:=aQ q.out
 try simp at O J K I L P V y1 Z T X R D
 go_wp2_with fail;refine zN (v:=.agg #[Vi 1,.slice Q M N,Vz,Vi 0,Vi 0,Vi 0]) (by simp[results,results184,go_sem,O,J,K,I,L,P]) rfl ⟨1,Q,M,N,none,0,0,0,0,0,rfl,?_⟩;exact qh G HV F s C j.2.2.1 rfl
theorem Uq (t':LZ)(L:LQ)(he:dx t=.ok (.inr L) t')(h:St w b lv l (92::t) g d m):bJ 184 b lv l g d m (.ok (.set L) t') w:=by
 unfold bJ;have i:=aa h;have r:=aa h.1.lt;obtain⟨f1,f2,f3,f4,f5,f6⟩:=h.facts;have a0:=h.1.lt;have G:=aa he;go_enter func184,ntmps184;go_wp2_with fail;refine (aM (i.new Zo)).mono ?_;rintro e y ⟨rfl,a⟩;simp only[aW];have o:=aa ((i.new Zo).drn a);have Y:Hid (Off b w y):=((Off.refl b w).alloc Zo).trans (Off.drn a);have p:=aa ((ag.new w Zq 27).off (c:=b) (Off.drn a) (by omega));have x:Hid (w.heap.size+1<=y.heap.size):=by have:=(Off.drn (b:=b) a).size;show _<=_;simp at this;omega
 obtain⟨c0,c1,c2,c3,c4,U,W⟩:=o.out.cells;have D:=o.1.frozen 1;have z:=o.1.frozen 3;have k:=o.2.2.2.1;go_wp2_with fail;have S:=o.step;have A:Hid (w.heap.size<(y.setCell (aD b 1) (Vi (((l.length-(92::t).length:Nat):Int)+1))).heap.size):=by have:=x.out;show _<_;simp[World.setCell];omega
 have u:=aa S.1;have s:Hid (Off b w _):=Y.trans S.2;replace p:=aa (p.off S.2 (by omega));refine (fd u).mono ?_;rintro e wo ⟨v1,f1,rfl,f,n⟩;have B:Hid (Off b w wo):=s.trans f;replace p:=aa (p.off f (by omega));rw[G.out]at n;obtain⟨q,rfl,j⟩:=n;have F:=aa q;obtain⟨Q,M,N,rfl⟩:=kl j;have HV:=aa j;have E:=A;obtain⟨⟨O,I,J,H,K,P⟩,⟨V,y1,Z,T,X,R⟩,C⟩:=aQ p.out
 try simp at O I J H K P V y1 Z T X R C
 go_wp2_with fail;refine zN (v:=.agg #[Vi 1,.slice Q M N,Vz,Vi 0,Vi 0,Vi 0]) (by simp[results,results184,go_sem,O,I,J,H,K,P]) rfl ⟨1,Q,M,N,none,0,0,0,0,0,rfl,?_⟩;exact qh F HV E r B i.2.2.1 rfl
theorem Ur (t':LZ)(he:dx t=.bad t')(h:St w b lv l (92::t) g d m):bJ 184 b lv l g d m (.bad t') w:=by
 unfold bJ;have j:=aa h;have q:=aa h.1.lt;obtain⟨f1,f2,f3,f4,f5,f6⟩:=h.facts;have U:=h.1.lt;have C:=aa he;go_enter func184,ntmps184;go_wp2_with fail;refine (aM (j.new Zo)).mono ?_;rintro e x ⟨rfl,a⟩;simp only[aW];have n:=aa ((j.new Zo).drn a);have P:Hid (Off b w x):=((Off.refl b w).alloc Zo).trans (Off.drn a);have o:=aa ((ag.new w Zq 27).off (c:=b) (Off.drn a) (by omega));have u:Hid (w.heap.size+1<=x.heap.size):=by have:=(Off.drn (b:=b) a).size;show _<=_;simp at this;omega
 obtain⟨R,V,W,X,Z,L,N⟩:=n.out.cells;have B:=n.1.frozen 1;have y:=n.1.frozen 3;have i:=n.2.2.2.1;go_wp2_with fail;have S:=n.step;have T:Hid (w.heap.size<(x.setCell (aD b 1) (Vi (((l.length-(92::t).length:Nat):Int)+1))).heap.size):=by have:=u.out;show _<_;simp[World.setCell];omega
 have s:=aa S.1;have r:Hid (Off b w _):=P.trans S.2;replace o:=aa (o.off S.2 (by omega));refine (fd s).mono ?_;rintro e wo ⟨v1,f1,rfl,f,k⟩;have z:Hid (Off b w wo):=r.trans f;replace o:=aa (o.off f (by omega));rw[C.out]at k;obtain⟨p,rfl,rfl⟩:=k;have HB:=aa p;obtain⟨⟨H,E,F,D,G,I⟩,⟨M,Y,Q,K,O,J⟩,A⟩:=aQ o.out
 try simp at H E F D G I M Y Q K O J A
 go_wp2_with fail;refine zN (v:=.agg #[Vi 1,Vz,Vz,Vi 0,Vi 0,Vi 0]) (by simp[results,results184,go_sem,H,E,F,D,G,I]) rfl ⟨1,none,0,0,none,0,0,0,0,0,rfl,?_⟩;exact mY HB q z rfl
theorem Us (t':LZ)(L:LQ)(he:cJ t=.ok L t')(h:St w b lv l (91::t) g d m):bJ 184 b lv l g d m (.ok (.set L) t') w:=by
 unfold bJ;have i:=aa h;have r:=aa h.1.lt;obtain⟨f1,f2,f3,f4,f5,f6⟩:=h.facts;have a0:=h.1.lt;have G:=aa he;go_enter func184,ntmps184;go_wp2_with fail;refine (aM (i.new Zo)).mono ?_;rintro e y ⟨rfl,a⟩;simp only[aW];have o:=aa ((i.new Zo).drn a);have Y:Hid (Off b w y):=((Off.refl b w).alloc Zo).trans (Off.drn a);have p:=aa ((ag.new w Zq 27).off (c:=b) (Off.drn a) (by omega));have x:Hid (w.heap.size+1<=y.heap.size):=by have:=(Off.drn (b:=b) a).size;show _<=_;simp at this;omega
 obtain⟨c0,c1,c2,c3,c4,U,W⟩:=o.out.cells;have D:=o.1.frozen 1;have z:=o.1.frozen 3;have k:=o.2.2.2.1;go_wp2_with fail;have S:=o.step;have A:Hid (w.heap.size<(y.setCell (aD b 1) (Vi (((l.length-(91::t).length:Nat):Int)+1))).heap.size):=by have:=x.out;show _<_;simp[World.setCell];omega
 have u:=aa S.1;have s:Hid (Off b w _):=Y.trans S.2;replace p:=aa (p.off S.2 (by omega));refine (tA u).mono ?_;rintro e wo ⟨v1,rfl,f,n⟩;have B:Hid (Off b w wo):=s.trans f;replace p:=aa (p.off f (by omega));rw[G.out]at n;obtain⟨q,j⟩:=n;have F:=aa q;obtain⟨Q,M,N,rfl⟩:=kl j;have HV:=aa j;have E:=A;obtain⟨⟨O,I,J,H,K,P⟩,⟨V,y1,Z,T,X,R⟩,C⟩:=aQ p.out
 try simp at O I J H K P V y1 Z T X R C
 go_wp2_with fail;refine zN (v:=.agg #[Vi 1,.slice Q M N,Vz,Vi 0,Vi 0,Vi 0]) (by simp[results,results184,go_sem,O,I,J,H,K,P]) rfl ⟨1,Q,M,N,none,0,0,0,0,0,rfl,?_⟩;exact qh F HV E r B i.2.2.1 rfl
theorem Ut (t':LZ)(he:cJ t=.bad t')(h:St w b lv l (91::t) g d m):bJ 184 b lv l g d m (.bad t') w:=by
 unfold bJ;have j:=aa h;have q:=aa h.1.lt;obtain⟨f1,f2,f3,f4,f5,f6⟩:=h.facts;have X:=h.1.lt;have C:=aa he;go_enter func184,ntmps184;go_wp2_with fail;refine (aM (j.new Zo)).mono ?_;rintro e x ⟨rfl,a⟩;simp only[aW];have n:=aa ((j.new Zo).drn a);have T:Hid (Off b w x):=((Off.refl b w).alloc Zo).trans (Off.drn a);have o:=aa ((ag.new w Zq 27).off (c:=b) (Off.drn a) (by omega));have u:Hid (w.heap.size+1<=x.heap.size):=by have:=(Off.drn (b:=b) a).size;show _<=_;simp at this;omega
 obtain⟨V,Y,Z,c3,c4,O,Q⟩:=n.out.cells;have B:=n.1.frozen 1;have y:=n.1.frozen 3;have i:=n.2.2.2.1;go_wp2_with fail;have S:=n.step;have W:Hid (w.heap.size<(x.setCell (aD b 1) (Vi (((l.length-(91::t).length:Nat):Int)+1))).heap.size):=by have:=u.out;show _<_;simp[World.setCell];omega
 have s:=aa S.1;have r:Hid (Off b w _):=T.trans S.2;replace o:=aa (o.off S.2 (by omega));refine (tA s).mono ?_;rintro e wo ⟨v1,rfl,f,k⟩;have z:Hid (Off b w wo):=r.trans f;replace o:=aa (o.off f (by omega));rw[C.out]at k;obtain⟨p,L,H,I,rfl⟩:=k;have HB:=aa p;obtain⟨⟨J,E,F,D,G,K⟩,⟨P,y1,U,N,R,M⟩,A⟩:=aQ o.out
 try simp at J E F D G K P y1 U N R M A
 go_wp2_with fail;refine zN (v:=.agg #[Vi 1,.slice L H I,Vz,Vi 0,Vi 0,Vi 0]) (by simp[results,results184,go_sem,J,E,F,D,G,K]) rfl ⟨1,L,H,I,none,0,0,0,0,0,rfl,?_⟩;exact mY HB q z rfl
theorem Ep {c:LV}(h0:gu w1 b lv l s d)(hb:b<w.heap.size)(ho:Off b w w1)
  (e:w2=(put6 w1 w.heap.size c0 c1 c2 c3 c4 c5).alloc o):kZ b lv l g d m (.bad s) w w2 c:=by
 subst e;obtain⟨i,f,a,h⟩:=h0;exact⟨(ho.put6 (r:=w.heap.size) (zA _) _ _ _ _ _ _).alloc _,i,f,a,(h.put6 (r:=w.heap.size) (by omega) _ _ _ _ _ _).alloc _⟩
theorem bK (h:ag w r (bT k so sn sc lo ln lc mm nn rr) 27):(w.cell? (aD r 0)=some (Vi k)/\w.cell? (aD r 1)=some (.slice so sn sc)/\w.cell? (aD r 2)=some (.slice lo ln lc)/\w.cell? (aD r 3)=some (Vi mm)/\w.cell? (aD r 4)=some (Vi nn)/\w.cell? (aD r 5)=some (Vi rr))/\r<w.heap.size :=
 ⟨⟨h.cell 0,h.cell 1,h.cell 2,h.cell 3,h.cell 4,h.cell 5⟩,h.lt⟩
theorem Cg (w:World)(r:Nat)(c0 c1 c2 c3 c4 c5:Value):(put6 w r c0 c1 c2 c3 c4 c5).heap.size=w.heap.size:=by simp[World.setCell]
theorem Rh {wm:World}{g0:Nat}
  (hnv:NV wm A p (bT k so sn sc lo ln lc mm nn rr) g0) (hA:∀q,A q->w.heap.size<q) (hs:w.heap.size<=wm.heap.size)
  (e:w2=(put6 wm w.heap.size c0 c1 c2 c3 c4 c5).alloc (.cells #[Vi k,.slice so sn sc,.slice lo ln lc,Vi mm,Vi nn,Vi rr] 27)) :
  cB w2 (λq=>w.heap.size<=q) 27 6 (Vs wm.heap.size 1 1) 1 (bT k so sn sc lo ln lc mm nn rr)/\NV w2 (λq=>w.heap.size<=q) p (bT k so sn sc lo ln lc mm nn rr) g0:=by
 subst e;constructor
 ·have a:=ag.new (put6 wm w.heap.size c0 c1 c2 c3 c4 c5) (bT k so sn sc lo ln lc mm nn rr) 27;rw[Cg]at a;exact BC a rfl hs
 ·exact NV.mono (λq _ b=>by have:=hA q b;omega) p _ g0 (NV.keep (((ah.refl A wm).put6 (r:=w.heap.size) (λh=>by have:=hA _ h;omega) _ _ _ _ _ _).trans (ah.alloc _ _ _)) p _ g0 hnv)
theorem Ri (u:LZ)(ih:ld n)(hn:t.length<n)(p:Pat)(hr:aU false n t=.ok p (41::u))(h:St w b lv l (40::t) g d m):bJ 184 b lv l g d m (.ok (.group p) u) w:=by
 unfold bJ;have y:=aa h;have a1:=aa h.1.lt;obtain⟨f1,f2,f3,f4,f5,f6⟩:=h.facts;have a3:=h.1.lt;have HR:=aa hr;go_enter func184,ntmps184;go_wp2_with fail;refine (aM (y.new Zo)).mono ?_;rintro e wn ⟨rfl,i⟩;simp only[aW];have o:=aa ((y.new Zo).drn i);have HO:Hid (Off b w wn):=((Off.refl b w).alloc Zo).trans (Off.drn i);have x:=aa ((ag.new w Zq 27).off (c:=b) (Off.drn i) (by omega));have Y:Hid (w.heap.size+1<=wn.heap.size):=by have:=(Off.drn (b:=b) i).size;show _<=_;simp at this;omega
 obtain⟨c0,c1,c2,c3,c4,c5,hb⟩:=o.out.cells;have U:=o.1.frozen 1;have V:=o.1.frozen 3;have G:=o.2.2.2.1;go_wp2_with fail;have S:=o.step;have A:Hid (w.heap.size<((wn.setCell (aD b 1) (Vi (((l.length-(40::t).length:Nat):Int)+1))).setCell (aD b 3) (Vi ((g:Int)+1))).heap.size):=by have:=Y.out;show _<_;simp[World.setCell];omega
 have F:=o.2.2.2.2.2;have E:=o.2.1.length_le;simp only[zG]at F E;have e1:((g+1:Nat):Int)=(g:Int)+1:=by omega
 have W:=S.1.setG ((g:Int)+1) (by omega) (by omega);rw[<-e1]at W;have a0:=aa W;have HD:Hid (d+1<=((l.length-t.length:Nat):Int)):=by show _<=_;omega
 have Z:Hid (Off b w _):=(HO.trans S.2).trans ((Off.refl b _).setCell 3 (Vi ((g:Int)+1)));replace x:=aa ((x.off S.2 (by omega)).off ((Off.refl b _).setCell 3 (Vi ((g:Int)+1))) (by omega));refine (Cb ih a0 hn HD p _ HR).mono ?_;rintro e w1 ⟨k,Q,L,M,O,K,N,J,T,R,rfl,f,H,I⟩;have s:=aa H;have X:=aa I;have D:Hid (Off b w w1):=Z.trans f;replace x:=aa ((x.off f (by omega)).alloc (.cells #[Vi k,.slice Q L M,.slice O K N,Vi J,Vi T,Vi R] 27));have HX:=aa (ag.new w1 (bT k Q L M O K N J T R) 27);go_wp2_with fail;refine (qG (X.new (.cells #[Vi k,.slice Q L M,.slice O K N,Vi J,Vi T,Vi R] 27)) (by decide) (by decide)).mono ?_;rintro e P ⟨rfl,j,a⟩;have B:=aa j;have z:Hid (Off b w P):=(D.alloc _).trans a;replace x:=aa (x.off a (by omega));have a2:w1.heap.size≠b:=by have:=D.size;omega
 replace HX:=aa (HX.off a a2);replace s:=aa (NV.keep ((ah.alloc _ _ _).trans (ah.off a (yz (Nat.lt_trans a1 A)))) p _ _ s);obtain⟨⟨x0,x1,x2,x3,x4,x5⟩,hx⟩:=bK HX.out;obtain⟨⟨z0,z1,z2,z3,z4,z5⟩,⟨y0,y1,y2,y3,y4,y5⟩,C⟩:=aQ x.out
 try simp at z0 z1 z2 z3 z4 z5 y0 y1 y2 y3 y4 y5 C
 go_wp2_with fail;refine zN (v:=.agg #[Vi 7,Vz,Vs P.heap.size 1 1,Vi 0,Vi 0,Vi g]) (by simp[results,results184,go_sem,z0,z1,z2,z3,z4,z5,C]) rfl ⟨7,none,0,0,some (aD P.heap.size 0),1,1,0,0,g,rfl,?_⟩;have HF:=(z.put6 (r:=w.heap.size) (zA _) (Vi 7) (Vz) (Vs P.heap.size 1 1) (Vi 0) (Vi 0) (Vi g)).alloc (.cells #[Vi k,.slice Q L M,.slice O K N,Vi J,Vi T,Vi R] 27);obtain⟨o1,o2⟩:=Rh (w:=w) s.out (λq hq=>zF A.out hq) z.out.size rfl;refine⟨HF,⟨_,_,rfl,o1,o2⟩,?_⟩;have e2:((g+(Pat.group p).groups:Nat):Int)=((g+1+p.groups:Nat):Int):=by simp[Pat.groups];omega
 have e3:((Pat.group p).deep:Int)=(p.deep:Int)+1:=by simp[Pat.deep]
 rw[e2,e3];exact St.move y.2.2.1 HF B ((B.1.put6 (r:=w.heap.size) (by omega) _ _ _ _ _ _).alloc _)
theorem NR (u:LZ)(ih:ld n)(hn:t.length<n)(p:Pat)(hr:aU false n t=.ok p u)(h41:u.head?≠some 41)(h:St w b lv l (40::t) g d m):bJ 184 b lv l g d m (.bad u) w:=by
 unfold bJ;have C:=aa h;have V:=aa h.1.lt;obtain⟨f1,f2,f3,f4,f5,f6⟩:=h.facts;have a2:=h.1.lt;have HR:=aa hr;have HN:=aa h41;go_enter func184,ntmps184;go_wp2_with fail;refine (aM (C.new Zo)).mono ?_;rintro e W ⟨rfl,i⟩;simp only[aW];have j:=aa ((C.new Zo).drn i);have HO:Hid (Off b w W):=((Off.refl b w).alloc Zo).trans (Off.drn i);have o:=aa ((ag.new w Zq 27).off (c:=b) (Off.drn i) (by omega));have N:Hid (w.heap.size+1<=W.heap.size):=by have:=(Off.drn (b:=b) i).size;show _<=_;simp at this;omega
 obtain⟨c0,c1,c2,c3,c4,c5,hb⟩:=j.out.cells;have D:=j.1.frozen 1;have E:=j.1.frozen 3;have z:=j.2.2.2.1;go_wp2_with fail;have S:=j.step;have a0:Hid (w.heap.size<((W.setCell (aD b 1) (Vi (((l.length-(40::t).length:Nat):Int)+1))).setCell (aD b 3) (Vi ((g:Int)+1))).heap.size):=by have:=N.out;show _<_;simp[World.setCell];omega
 have y:=j.2.2.2.2.2;have s:=j.2.1.length_le;simp only[zG]at y s;have e1:((g+1:Nat):Int)=(g:Int)+1:=by omega
 have J:=S.1.setG ((g:Int)+1) (by omega) (by omega);rw[<-e1]at J;have U:=aa J;have HD:Hid (d+1<=((l.length-t.length:Nat):Int)):=by show _<=_;omega
 have O:Hid (Off b w _):=(HO.trans S.2).trans ((Off.refl b _).setCell 3 (Vi ((g:Int)+1)));replace o:=aa ((o.off S.2 (by omega)).off ((Off.refl b _).setCell 3 (Vi ((g:Int)+1))) (by omega));refine (Cb ih U hn HD p _ HR).mono ?_;rintro e Z ⟨k,T,H,L,P,G,M,F,nn,Y,rfl,f,A,B⟩;have a1:=aa A;have K:=aa B;have r:Hid (Off b w Z):=O.trans f;replace o:=aa ((o.off f (by omega)).alloc (.cells #[Vi k,.slice T H L,.slice P G M,Vi F,Vi nn,Vi Y] 27));have Q:=aa (ag.new Z (bT k T H L P G M F nn Y) 27);go_wp2_with fail;refine (Bn _ (K.new (.cells #[Vi k,.slice T H L,.slice P G M,Vi F,Vi nn,Vi Y] 27)) (by decide) (by decide) HN).mono ?_;rintro e R ⟨rfl,x,a⟩;have HB:=aa x;have I:Hid (Off b w R):=(r.alloc _).trans a;replace o:=aa (o.off a (by omega));have X:Z.heap.size≠b:=by have:=r.size;omega
 replace Q:=aa (Q.off a X);obtain⟨⟨x0,x1,x2,x3,x4,x5⟩,hx⟩:=bK Q.out;obtain⟨⟨z0,z1,z2,z3,z4,z5⟩,⟨y0,y1,y2,y3,y4,y5⟩,q⟩:=aQ o.out
 try simp at z0 z1 z2 z3 z4 z5 y0 y1 y2 y3 y4 y5 q
 go_wp2_with fail;refine zN (v:=.agg #[Vi 7,Vz,Vs R.heap.size 1 1,Vi 0,Vi 0,Vi g]) (by simp[results,results184,go_sem,z0,z1,z2,z3,z4,z5,q]) rfl ⟨7,none,0,0,some (aD R.heap.size 0),1,1,0,0,g,rfl,?_⟩;exact Ep HB V I rfl
theorem KQ (u:LZ)(ih:ld n)(hn:t.length<n)(hr:aU false n t=.bad u)(h:St w b lv l (40::t) g d m):bJ 184 b lv l g d m (.bad u) w:=by
 unfold bJ;have z:=aa h;have T:=aa h.1.lt;obtain⟨f1,f2,f3,f4,f5,f6⟩:=h.facts;have a1:=h.1.lt;have HR:=aa hr;go_enter func184,ntmps184;go_wp2_with fail;refine (aM (z.new Zo)).mono ?_;rintro e U ⟨rfl,j⟩;simp only[aW];have o:=aa ((z.new Zo).drn j);have HO:Hid (Off b w U):=((Off.refl b w).alloc Zo).trans (Off.drn j);have p:=aa ((ag.new w Zq 27).off (c:=b) (Off.drn j) (by omega));have L:Hid (w.heap.size+1<=U.heap.size):=by have:=(Off.drn (b:=b) j).size;show _<=_;simp at this;omega
 obtain⟨c0,c1,c2,c3,c4,c5,hb⟩:=o.out.cells;have C:=o.1.frozen 1;have D:=o.1.frozen 3;have y:=o.2.2.2.1;go_wp2_with fail;have S:=o.step;have a0:Hid (w.heap.size<((U.setCell (aD b 1) (Vi (((l.length-(40::t).length:Nat):Int)+1))).setCell (aD b 3) (Vi ((g:Int)+1))).heap.size):=by have:=L.out;show _<_;simp[World.setCell];omega
 have x:=o.2.2.2.2.2;have s:=o.2.1.length_le;simp only[zG]at x s;have e1:((g+1:Nat):Int)=(g:Int)+1:=by omega
 have I:=S.1.setG ((g:Int)+1) (by omega) (by omega);rw[<-e1]at I;have R:=aa I;have HD:Hid (d+1<=((l.length-t.length:Nat):Int)):=by show _<=_;omega
 have M:Hid (Off b w _):=(HO.trans S.2).trans ((Off.refl b _).setCell 3 (Vi ((g:Int)+1)));replace p:=aa ((p.off S.2 (by omega)).off ((Off.refl b _).setCell 3 (Vi ((g:Int)+1))) (by omega));refine (KC ih R hn HD _ HR).mono ?_;rintro e X ⟨k,P,G,J,N,F,K,E,Y,W,rfl,i,f⟩;have Q:=aa f;have r:Hid (Off b w X):=M.trans i;replace p:=aa ((p.off i (by omega)).alloc (.cells #[Vi k,.slice P G J,.slice N F K,Vi E,Vi Y,Vi W] 27));have O:=aa (ag.new X (bT k P G J N F K E Y W) 27);go_wp2_with fail;refine (wv _ (Q.below ((zE _ _).alloc (zA _) (.cells #[Vi k,.slice P G J,.slice N F K,Vi E,Vi Y,Vi W] 27))) (by decide) (by decide)).mono ?_;rintro e B ⟨rfl,f,A⟩;have a:Off b _ B:=Off.drn A;replace Q:=aa f;have H:Hid (Off b w B):=(r.alloc _).trans a;replace p:=aa (p.off a (by omega));have V:X.heap.size≠b:=by have:=r.size;omega
 replace O:=aa (O.off a V);obtain⟨⟨x0,x1,x2,x3,x4,x5⟩,hx⟩:=bK O.out;obtain⟨⟨z0,z1,z2,Z,z4,z5⟩,⟨y0,y1,y2,y3,y4,y5⟩,q⟩:=aQ p.out
 try simp at z0 z1 z2 Z z4 z5 y0 y1 y2 y3 y4 y5 q
 go_wp2_with fail;refine zN (v:=.agg #[Vi 7,Vz,Vs B.heap.size 1 1,Vi 0,Vi 0,Vi g]) (by simp[results,results184,go_sem,z0,z1,z2,Z,z4,z5,q]) rfl ⟨7,none,0,0,some (aD B.heap.size 0),1,1,0,0,g,rfl,?_⟩;exact Ep Q T H rfl
theorem Sa (ih:ld n)(h:St w b lv l s g d m)(hn:s.length<=n):bJ 184 b lv l g d m (dy (aU false n) s) w:=by
 have f:=h.2.2.2.2.1.suf h.2.1;cases s with
 |nil=>exact TU h
 |cons c t=>
  simp only[zG]at hn;simp only[dy];by_cases o:c=40
  ·subst o;simp only[yd];cases hr:aU false n t with
   |bad u=>exact KQ u ih (by omega) hr h
   |ok p u=>
    simp only[Res.bind,bV];by_cases e:u.head?=some 41
    ·rw[zX e];obtain⟨v,rfl⟩:∃v,u=41::v:=by cases u with|nil=>simp at e|cons c t=>simp at e;exact⟨t,by rw[e]⟩
     exact Ri v ih (by omega) p hr h
    ·rw[zR e];exact NR u ih (by omega) p hr e h
  ·rw[zR o];by_cases k:c=91
   ·subst k;rw[zX rfl];cases hr:cJ t with
    |bad u=>exact Ut u hr h
    |ok L u=>exact Us u L hr h
   ·rw[zR k];by_cases j:c=46
    ·subst j;rw[zX rfl];exact TX h
    ·rw[zR j];by_cases i:c=92
     ·subst i;rw[zX rfl];cases hr:dx t with
      |bad u=>exact Ur u hr h
      |ok r u=>
       cases r with
       |inl a=>exact Up u a hr h
       |inr L=>exact Uq u L hr h
     ·rw[zR i];by_cases q:cI c=true
      ·rw[zX q];exact TW f.head q o k j i h
      ·rw[zR q];exact Qj f.head (by simpa using q) h
def UE (w:World)(X:Nat)(b:Nat)(lv:Value)(l:List Int)(g:Nat)(d m:Int)(R:Res Pat)(j:Nat)(wr:World):Prop :=
 Off b w wr/\ag wr w.heap.size Zq 27/\∃k so sn sc lo ln lc mm nn rr,ag wr X (bT k so sn sc lo ln lc mm nn rr) 27 /\
  ((∃p s0,NV wr (λq=>w.heap.size<q/\q≠X) p (bT k so sn sc lo ln lc mm nn rr) g/\St wr b lv l s0 ((g+p.groups:Nat):Int) d (max m (d+p.deep))/\aY j p s0=R/\s0.length<j)\/(∃s',gu wr b lv l s' d/\R=.bad s'))
theorem Sb {s0:LZ}
  (hnv:NV wr (λq=>w.heap.size<q/\q≠X) p (bT k so sn sc lo ln lc mm nn rr) g) (hst:St wr b lv l s0 ((g+p.groups:Nat):Int) d (max m (d+p.deep))) (ho:Off b w wr) (hb:b<w.heap.size) (ht:te w b lv l)
  (e:w2=put6 wr w.heap.size (Vi k) (.slice so sn sc) (.slice lo ln lc) (Vi mm) (Vi nn) (Vi rr)):kZ b lv l g d m (.ok p s0) w w2 (bT k so sn sc lo ln lc mm nn rr):=by
 subst e;have a:=ho.put6 (r:=w.heap.size) (zA _) (Vi k) (.slice so sn sc) (.slice lo ln lc) (Vi mm) (Vi nn) (Vi rr);refine⟨a,?_,St.move ht a hst (hst.1.put6 (r:=w.heap.size) (by omega) _ _ _ _ _ _)⟩;exact NV.mono (λq _ c=>by omega) p _ g (NV.keep ((ah.refl _ wr).put6 (r:=w.heap.size) (λh=>by omega) _ _ _ _ _ _) p _ g hnv)
theorem oH {wx:World}{m0 n0:Int}
  (hnv:NV wx (λq=>w.heap.size<q/\q≠X) p (bT k so sn sc lo ln lc mm nn rr) g) (hX:X<wx.heap.size) (hw:w.heap.size<wx.heap.size)
  (e:w2=(put6 wx X (Vi 6) (Vz) (Vs wx.heap.size 1 1) (Vi m0) (Vi n0) (Vi 0)).alloc (.cells #[Vi k,.slice so sn sc,.slice lo ln lc,Vi mm,Vi nn,Vi rr] 27)) :
  NV w2 (λq=>w.heap.size<q/\q≠X) (.many p m0 n0) (bT 6 none 0 0 (some (aD wx.heap.size 0)) 1 1 m0 n0 0) g:=by
 subst e;have a:=ag.new (put6 wx X (Vi 6) (Vz) (Vs wx.heap.size 1 1) (Vi m0) (Vi n0) (Vi 0)) (bT k so sn sc lo ln lc mm nn rr) 27;rw[Cg]at a;refine⟨_,_,rfl,BC a rfl ⟨hw,by omega⟩,?_⟩;exact NV.keep (((ah.refl _ wx).put6 (r:=X) (λh=>h.2 rfl) _ _ _ _ _ _).trans (ah.alloc _ _ _)) p _ g hnv
theorem oI {T:TypeId}(h:ag w r cs T)(hl:cs.length=6)(c0 c1 c2 c3 c4 c5:Value):ag (put6 w r c0 c1 c2 c3 c4 c5) r [c0,c1,c2,c3,c4,c5] T:=by
 have:=(((((h.set 0 c0).set 1 c1).set 2 c2).set 3 c3).set 4 c4).set 5 c5;obtain⟨c,b,a,f,d,e,rfl⟩:∃c b a f d e,cs=[c,b,a,f,d,e]:=by
  match cs,hl with
  | [c,b,a,f,d,e],_=>exact⟨_,_,_,_,_,_,rfl⟩
 exact this
theorem Sc (ih:ld n)(h:St w b lv l s g d m)(hn:s.length<=n):bJ 165 b lv l g d m (dR (aU false n) s) w:=by
 unfold bJ;have f4:=aa h;have i:=aa h.1.lt;have g2:=h.1.lt;have HT:=aa h.2.2.1;have f9:Hid (dR (aU false n) s=(dy (aU false n) s).bind λx s'=>aY (s'.length+1) x s'):=rfl;go_enter func165,ntmps165;go_wp2_with fail;refine (Sa ih (f4.new Zo) hn).mono ?_;rintro e w1 ⟨k0,c8,a9,c9,b6,c6,b5,b8,b7,d0,rfl,K,V⟩;have d7:=aa (((ag.new w Zq 27).off (c:=b) K (by omega)).alloc (.cells #[Vi k0,.slice c8 a9 c9,.slice b6 c6 b5,Vi b8,Vi b7,Vi d0] 27));have d6:Hid (Off b w (w1.alloc (.cells #[Vi k0,.slice c8 a9 c9,.slice b6 c6 b5,Vi b8,Vi b7,Vi d0] 27))):=(((Off.refl b w).alloc Zo).trans K).alloc _;have e8:w.heap.size+1<=w1.heap.size:=by have:=K.size;simp at this;omega
 have B:Hid (b<w1.heap.size/\w.heap.size<=w1.heap.size/\w1.heap.size≠w.heap.size):=by show _/\_;omega
 generalize hR:dR (aU false n) s=R;have HR:=aa hR;have HI:Hid (∃j,UE w w1.heap.size b lv l g d m R j (w1.alloc (.cells #[Vi k0,.slice c8 a9 c9,.slice b6 c6 b5,Vi b8,Vi b7,Vi d0] 27))):=by
  have e0:=ag.new w1 (bT k0 c8 a9 c9 b6 c6 b5 b8 b7 d0) 27;have e:=HR.out;rw[f9.out]at e;cases ha:dy (aU false n) s with
  |bad s'=>
   rw[ha]at V e;exact⟨1,d6,d7,_,_,_,_,_,_,_,_,_,_,e0,.inr ⟨s',V.below ((zE _ _).alloc (zA _) _),e.symm⟩⟩
  |ok p s'=>
   rw[ha]at V e;obtain⟨A,I⟩:=V;refine⟨s'.length+1,d6,d7,_,_,_,_,_,_,_,_,_,_,e0,.inl ⟨p,s',?_,I.new _,e,by omega⟩⟩;exact NV.keep (ah.alloc _ _ _) p _ g (NV.mono (λq hq e9=>by simp at e9;omega) p _ g A)
 obtain⟨j0,d8⟩:=HI.out;have d3:=aa d8;generalize hX:w1.heap.size=X at B d3 e8;go_wp2_with fail
 go_loopg [4,5] j0 (λj _ _ wr=>UE w X b lv l g d m R j wr)
 case atStart=>exact d3
 case round=>
  obtain⟨ho,d9,k,so,sn,sc,lo,ln,lc,mm,nn,rr,hx,d4⟩:=hrel;have E:=aa ho;have z:=aa d9;have f:=aa hx;rcases d4 with⟨p,s0,A,I,e5,f8⟩|⟨s',a6,e7⟩
  ·obtain⟨N,U,Q,O,P,T,Z⟩:=I.cells;have d2:=I.2.2.2.2.1.suf I.2.1;have y:=aa I;have u:=aa A;have HE:=aa e5;have b0:=aa f8;obtain⟨j',rfl⟩:∃j',gk=j'+1:=⟨gk-1,by omega⟩;by_cases ht:df da s0=true
   ·cases s0 with
    |nil=>simp[df]at ht
    |cons c t=>
     have f0:c=42\/c=43\/c=63\/c=123:=by simpa [df,da]using ht
     rcases f0 with rfl|rfl|rfl|rfl
     ·have a8:Hid (aY j' (.many p (0) (-1)) t=R):=by
       have:=HE.out;simp only[aY,df,da]at this;show aY _ _ _=_
       simpa [dn,Res.bind]using this
      go_wp2_with fail;refine (aM y).mono ?_;rintro e C ⟨rfl,a⟩;simp only[aW];replace y:=aa (y.drn a);replace E:=aa (E.trans (Off.drn a));replace z:=aa (z.off (Off.drn (b:=b) a) (by have:=i.out;omega));replace f:=aa (f.off (Off.drn (b:=b) a) (by have:=B.out;omega));replace u:=aa (NV.keep (ah.below a.below) _ _ _ u);obtain⟨N,U,Q,O,P,T,Z⟩:=y.out.cells;have b9:=y.1.frozen 1;have J:=y.2.2.2.1;obtain⟨⟨x0,x1,x2,x3,x4,x5⟩,D⟩:=bK f.out;have a7:=f.frozen 0;have a5:=f.frozen 1;have a2:=f.frozen 2;have a1:=f.frozen 3;have a3:=f.frozen 4;have a0:=f.frozen 5;have o:=aa B;go_wp2_with fail;have S:=y.step;have L:Hid (w.heap.size<C.heap.size):=z.lt
      go_roundg j'
      case measure=>omega
      case rel=>
       have G:X≠b:=by have:=o.out;omega
       have ho:Off b w _:=(E.trans S.2);have a4:=f.off S.2 G;have Y:(C.setCell (aD b 1) (Vi (((l.length-(42::t).length:Nat):Int)+1))).heap.size=C.heap.size:=by simp[World.setCell]
       have A:=NV.keep (ah.off (b:=b) S.2 (λh=>by have:=i.out;omega)) _ _ _ u;have st:=oH (w:=w) (X:=X) (m0:=0) (n0:=-1) A (by rw[Y];exact D) (by rw[Y];exact L) rfl;rw[Y]at st;have F:=(ho.put6 (r:=X) o.2.1 (Vi 6) (Vz) (Vs C.heap.size 1 1) (Vi (0)) (Vi (-1)) (Vi 0)).alloc (.cells #[Vi k,.slice so sn sc,.slice lo ln lc,Vi mm,Vi nn,Vi rr] 27);refine⟨F,((z.off S.2 (by have:=i.out;omega)).put6 (r:=X) (by have:=o.out;omega) _ _ _ _ _ _).alloc _,6,none,0,0,some (aD C.heap.size 0),1,1,0,-1,0,(oI a4 rfl _ _ _ _ _ _).alloc _,.inl ⟨_,t,st,?_,a8,?_⟩⟩
       ·exact St.move HT F S.1 ((S.1.1.put6 (r:=X) (by omega) _ _ _ _ _ _).alloc _)
       ·have:=b0.out;simp at this;omega
     ·have a8:Hid (aY j' (.many p (1) (-1)) t=R):=by
       have:=HE.out;simp only[aY,df,da]at this;show aY _ _ _=_
       simpa [dn,Res.bind]using this
      go_wp2_with fail;refine (aM y).mono ?_;rintro e C ⟨rfl,a⟩;simp only[aW];replace y:=aa (y.drn a);replace E:=aa (E.trans (Off.drn a));replace z:=aa (z.off (Off.drn (b:=b) a) (by have:=i.out;omega));replace f:=aa (f.off (Off.drn (b:=b) a) (by have:=B.out;omega));replace u:=aa (NV.keep (ah.below a.below) _ _ _ u);obtain⟨N,U,Q,O,P,T,Z⟩:=y.out.cells;have b9:=y.1.frozen 1;have J:=y.2.2.2.1;obtain⟨⟨x0,x1,x2,x3,x4,x5⟩,D⟩:=bK f.out;have a7:=f.frozen 0;have a5:=f.frozen 1;have a2:=f.frozen 2;have a1:=f.frozen 3;have a3:=f.frozen 4;have a0:=f.frozen 5;have o:=aa B;go_wp2_with fail;have S:=y.step;have L:Hid (w.heap.size<C.heap.size):=z.lt
      go_roundg j'
      case measure=>omega
      case rel=>
       have G:X≠b:=by have:=o.out;omega
       have ho:Off b w _:=(E.trans S.2);have a4:=f.off S.2 G;have Y:(C.setCell (aD b 1) (Vi (((l.length-(43::t).length:Nat):Int)+1))).heap.size=C.heap.size:=by simp[World.setCell]
       have A:=NV.keep (ah.off (b:=b) S.2 (λh=>by have:=i.out;omega)) _ _ _ u;have st:=oH (w:=w) (X:=X) (m0:=1) (n0:=-1) A (by rw[Y];exact D) (by rw[Y];exact L) rfl;rw[Y]at st;have F:=(ho.put6 (r:=X) o.2.1 (Vi 6) (Vz) (Vs C.heap.size 1 1) (Vi (1)) (Vi (-1)) (Vi 0)).alloc (.cells #[Vi k,.slice so sn sc,.slice lo ln lc,Vi mm,Vi nn,Vi rr] 27);refine⟨F,((z.off S.2 (by have:=i.out;omega)).put6 (r:=X) (by have:=o.out;omega) _ _ _ _ _ _).alloc _,6,none,0,0,some (aD C.heap.size 0),1,1,1,-1,0,(oI a4 rfl _ _ _ _ _ _).alloc _,.inl ⟨_,t,st,?_,a8,?_⟩⟩
       ·exact St.move HT F S.1 ((S.1.1.put6 (r:=X) (by omega) _ _ _ _ _ _).alloc _)
       ·have:=b0.out;simp at this;omega
     ·have a8:Hid (aY j' (.many p (0) (1)) t=R):=by
       have:=HE.out;simp only[aY,df,da]at this;show aY _ _ _=_
       simpa [dn,Res.bind]using this
      go_wp2_with fail;refine (aM y).mono ?_;rintro e C ⟨rfl,a⟩;simp only[aW];replace y:=aa (y.drn a);replace E:=aa (E.trans (Off.drn a));replace z:=aa (z.off (Off.drn (b:=b) a) (by have:=i.out;omega));replace f:=aa (f.off (Off.drn (b:=b) a) (by have:=B.out;omega));replace u:=aa (NV.keep (ah.below a.below) _ _ _ u);obtain⟨N,U,Q,O,P,T,Z⟩:=y.out.cells;have b9:=y.1.frozen 1;have J:=y.2.2.2.1;obtain⟨⟨x0,x1,x2,x3,x4,x5⟩,D⟩:=bK f.out;have a7:=f.frozen 0;have a5:=f.frozen 1;have a2:=f.frozen 2;have a1:=f.frozen 3;have a3:=f.frozen 4;have a0:=f.frozen 5;have o:=aa B;go_wp2_with fail;have S:=y.step;have L:Hid (w.heap.size<C.heap.size):=z.lt
      go_roundg j'
      case measure=>omega
      case rel=>
       have G:X≠b:=by have:=o.out;omega
       have ho:Off b w _:=(E.trans S.2);have a4:=f.off S.2 G;have Y:(C.setCell (aD b 1) (Vi (((l.length-(63::t).length:Nat):Int)+1))).heap.size=C.heap.size:=by simp[World.setCell]
       have A:=NV.keep (ah.off (b:=b) S.2 (λh=>by have:=i.out;omega)) _ _ _ u;have st:=oH (w:=w) (X:=X) (m0:=0) (n0:=1) A (by rw[Y];exact D) (by rw[Y];exact L) rfl;rw[Y]at st;have F:=(ho.put6 (r:=X) o.2.1 (Vi 6) (Vz) (Vs C.heap.size 1 1) (Vi (0)) (Vi (1)) (Vi 0)).alloc (.cells #[Vi k,.slice so sn sc,.slice lo ln lc,Vi mm,Vi nn,Vi rr] 27);refine⟨F,((z.off S.2 (by have:=i.out;omega)).put6 (r:=X) (by have:=o.out;omega) _ _ _ _ _ _).alloc _,6,none,0,0,some (aD C.heap.size 0),1,1,0,1,0,(oI a4 rfl _ _ _ _ _ _).alloc _,.inl ⟨_,t,st,?_,a8,?_⟩⟩
       ·exact St.move HT F S.1 ((S.1.1.put6 (r:=X) (by omega) _ _ _ _ _ _).alloc _)
       ·have:=b0.out;simp at this;omega
     ·have e6:Hid (∀r,bh t=r->aY (j'+1) p (123::t)=(r.bind λmn s'=>aY j' (.many p mn.1 mn.2) s')):=by
       rintro r rfl;simp only[aY,df,da];simp[dn]
      go_wp2_with fail;refine (aM y).mono ?_;rintro e C ⟨rfl,a⟩;simp only[aW];replace y:=aa (y.drn a);replace E:=aa (E.trans (Off.drn a));replace z:=aa (z.off (Off.drn (b:=b) a) (by have:=i.out;omega));replace f:=aa (f.off (Off.drn (b:=b) a) (by have:=B.out;omega));replace u:=aa (NV.keep (ah.below a.below) _ _ _ u);obtain⟨N,U,Q,O,P,T,Z⟩:=y.out.cells;have b9:=y.1.frozen 1;have J:=y.2.2.2.1;have o:=aa B;go_wp2_with fail;have S:=y.step;have G:X≠b:=by have:=o.out;omega
      have L:Hid (w.heap.size<C.heap.size):=z.lt;refine (Lu S.1).mono ?_;rintro e wc ⟨x9,y9,rfl,W,c7⟩;have f7:Hid (Off b w wc):=(E.trans S.2).trans W;have e2:=aa ((z.off S.2 (by have:=i.out;omega)).off W (by have:=i.out;omega));have H:=aa ((f.off S.2 G).off W G);have e4:=aa (NV.keep ((ah.off (b:=b) S.2 (λh=>by have:=i.out;omega)).trans (ah.off (b:=b) W (λh=>by have:=i.out;omega))) _ _ _ u);have f6:=aa (rU t);obtain⟨⟨x0,x1,x2,x3,x4,x5⟩,D⟩:=bK H.out;have a7:=H.frozen 0;have a5:=H.frozen 1;have a2:=H.frozen 2;have a1:=H.frozen 3;have a3:=H.frozen 4;have a0:=H.frozen 5;go_wp2_with fail;have f2:Hid (w.heap.size<wc.heap.size):=e2.lt
      go_roundg j'
      case measure=>omega
      case rel=>
       have F:=(f7.put6 (r:=X) o.2.1 (Vi 6) (Vz) (Vs wc.heap.size 1 1) (Vi x9) (Vi y9) (Vi 0)).alloc (.cells #[Vi k,.slice so sn sc,.slice lo ln lc,Vi mm,Vi nn,Vi rr] 27);refine⟨F,(e2.put6 (r:=X) (by have:=o.out;omega) _ _ _ _ _ _).alloc _,6,none,0,0,some (aD wc.heap.size 0),1,1,x9,y9,0,(oI H rfl _ _ _ _ _ _).alloc _,?_⟩;cases hct:bh t with
       |bad s2=>
        rw[hct]at c7;have e:=e6.out _ hct;obtain⟨i1,g1,m1,f1⟩:=c7.1;exact .inr ⟨s2,⟨i1,g1,m1,(f1.put6 (r:=X) (by have:=o.out;omega) _ _ _ _ _ _).alloc _⟩,by rw[<-HE.out,e];rfl⟩
       |ok mn s2=>
        rw[hct]at c7;have e3:=f6.out;rw[hct]at e3;have e:=e6.out _ hct;obtain⟨d1,rfl,rfl⟩:=c7;have st:=oH (w:=w) (X:=X) (m0:=mn.1) (n0:=mn.2) e4 D f2 rfl;refine .inl ⟨_,s2,st,St.move HT F d1 ((d1.1.put6 (r:=X) (by have:=o.out;omega) _ _ _ _ _ _).alloc _),by rw[<-HE.out,e];rfl,?_⟩;have:=b0.out;have:=e3.1;simp only[zG]at *;omega
   ·have d5:Hid (R=.ok p s0):=by
     have:=HE.out;simp only[aY]at this;rw[zR ht]at this;exact this.symm
    have M:¬aW s0=42/\¬aW s0=43/\¬aW s0=63/\¬aW s0=123:=by
     cases s0 with
     |nil=>simp[aW]
     |cons c t=>simpa [df,da,aW]using ht
    generalize hv:aW s0=x at M;have f3:=aa hv;have b1:(x==42)=false:=zD.2 M.1;have b2:(x==43)=false:=zD.2 M.2.1;have b3:(x==63)=false:=zD.2 M.2.2.1;have b4:(x==123)=false:=zD.2 M.2.2.2;go_wp2_with fail;refine (aM y).mono ?_;rintro e C ⟨rfl,a⟩;rw[f3.out];replace y:=aa (y.drn a);replace E:=aa (E.trans (Off.drn a));replace z:=aa (z.off (Off.drn (b:=b) a) (by have:=i.out;omega));replace f:=aa (f.off (Off.drn (b:=b) a) (by have:=B.out;omega));replace u:=aa (NV.keep (ah.below a.below) _ _ _ u);obtain⟨⟨x0,x1,x2,x3,x4,x5⟩,D⟩:=bK f.out;have a7:=f.frozen 0;have a5:=f.frozen 1;have a2:=f.frozen 2;have a1:=f.frozen 3;have a3:=f.frozen 4;have a0:=f.frozen 5;obtain⟨⟨z0,z1,z2,z3,z4,z5⟩,⟨y0,y1,y2,y3,y4,y5⟩,f5⟩:=aQ z.out;go_wp2_with fail;refine zN (v:=.agg #[Vi k,.slice so sn sc,.slice lo ln lc,Vi mm,Vi nn,Vi rr]) (by simp[results,results165,go_sem,z0,z1,z2,z3,z4,z5]) rfl ⟨k,so,sn,sc,lo,ln,lc,mm,nn,rr,rfl,?_⟩;rw[HR.out,d5.out];exact Sb u y E i HT rfl
  ·obtain⟨i0,g0,m0,N,U,Q,O,P,T,Z⟩:=a6.cells;have HB:=aa a6;have d5:=aa e7;generalize l.length-s'.length=kk at Q;have hd:decide ((kk:Int)<0)=false:=by simp
   obtain⟨⟨x0,x1,x2,x3,x4,x5⟩,D⟩:=bK f.out;have a7:=f.frozen 0;have a5:=f.frozen 1;have a2:=f.frozen 2;have a1:=f.frozen 3;have a3:=f.frozen 4;have a0:=f.frozen 5;obtain⟨⟨z0,z1,z2,z3,z4,z5⟩,⟨y0,y1,y2,y3,y4,y5⟩,f5⟩:=aQ z.out;go_wp2_with fail;refine zN (v:=.agg #[Vi k,.slice so sn sc,.slice lo ln lc,Vi mm,Vi nn,Vi rr]) (by simp[results,results165,go_sem,z0,z1,z2,z3,z4,z5]) rfl ⟨k,so,sn,sc,lo,ln,lc,mm,nn,rr,rfl,?_⟩;rw[HR.out,d5.out];exact mY HB i E rfl
theorem Tl {r:Res Pat}
  (hp:kZ b lv l g d m r (w.alloc o) w1 (bT k so sn sc lo ln lc mm nn rr)) (hb:b<w.heap.size) (ht:te w b lv l) (e:w2=put6 w1 w.heap.size (Vi k) (.slice so sn sc) (.slice lo ln lc) (Vi mm) (Vi nn) (Vi rr)):kZ b lv l g d m r w w2 (bT k so sn sc lo ln lc mm nn rr):=by
 subst e;obtain⟨j,hp⟩:=hp;have f:=(((Off.refl b w).alloc o).trans j).put6 (r:=w.heap.size) (zA _) (Vi k) (.slice so sn sc) (.slice lo ln lc) (Vi mm) (Vi nn) (Vi rr);refine⟨f,?_⟩;cases r with
 |bad s=>obtain⟨i,n,t,h⟩:=hp;exact⟨i,n,t,h.put6 (r:=w.heap.size) (by omega) _ _ _ _ _ _⟩
 |ok p s=>
  obtain⟨c,a⟩:=hp;refine⟨?_,St.move ht f a (a.1.put6 (r:=w.heap.size) (by omega) _ _ _ _ _ _)⟩;exact NV.mono (λq _ u=>by simp at u;omega) p _ g (NV.keep ((ah.refl _ w1).put6 (r:=w.heap.size) (λh=>by simp at h;omega) _ _ _ _ _ _) p _ g c)
theorem Im {r:Res Pat}{c:LV}{nd:Nat}(h:kZ b lv l g d m r (w.drewN nd) w1 c):kZ b lv l g d m r w w1 c :=
 ⟨⟨h.1.os,h.1.tape,h.1.output,h.1.size,h.1.block⟩,h.2⟩
theorem PF {wm:World}{g0:Nat}
  (hnv:NV wm A p (bT k so sn sc lo ln lc mm nn rr) g0) (hA:∀q,A q->w.heap.size<q) (hs:w.heap.size<=wm.heap.size)
  (e:w2=((put6 wm w.heap.size c0 c1 c2 c3 c4 c5).alloc o).alloc (.cells #[Vi k,.slice so sn sc,.slice lo ln lc,Vi mm,Vi nn,Vi rr] 27)) :
  cB w2 (λq=>w.heap.size<=q) 27 6 (.slice (some (aD (wm.heap.size+1) 0)) 1 1) 1 (bT k so sn sc lo ln lc mm nn rr)/\NV w2 (λq=>w.heap.size<=q) p (bT k so sn sc lo ln lc mm nn rr) g0:=by
 subst e;constructor
 ·have a:=ag.new ((put6 wm w.heap.size c0 c1 c2 c3 c4 c5).alloc o) (bT k so sn sc lo ln lc mm nn rr) 27;have c:((put6 wm w.heap.size c0 c1 c2 c3 c4 c5).alloc o).heap.size=wm.heap.size+1:=by simp[World.setCell]
  rw[c]at a;exact BC a rfl (Nat.le_succ_of_le hs)
 ·exact NV.mono (λq _ b=>by have:=hA q b;omega) p _ g0 (NV.keep ((((ah.refl A wm).put6 (r:=w.heap.size) (λh=>by have:=hA _ h;omega) _ _ _ _ _ _).trans (ah.alloc _ _ _)).trans (ah.alloc _ _ _)) p _ g0 hnv)
theorem XS (u:LZ)(r:Res Pat)(hrec:∀w',St w' b lv l t g (d+1) (max m (d+1))->bJ 138 b lv l g (d+1) (max m (d+1)) r w')(p:Pat)(hr:r=.ok p u)(h:St w b lv l (126::t) g d m):bJ 138 b lv l g d m (.ok (.not p) u) w:=by
 unfold bJ;have j:=aa h;have K:=aa h.1.lt;have I:=aa hrec;obtain⟨f1,f2,f3,f4,f5,f6⟩:=h.facts;have a0:=h.1.lt;subst hr;go_enter func138,ntmps138;go_wp2_with fail;refine (dc (j.new Zo) (by decide) (by decide)).mono ?_;rintro e F ⟨rfl,f,a⟩;have HS:=aa f;have B:Hid (Off b w F):=((Off.refl b w).alloc Zo).trans a;have n:=aa ((ag.new w Zq 27).off (c:=b) a (by omega));have HD:Hid (d+1<=((l.length-t.length:Nat):Int)):=by have:=j.2.2.2.2.2;have:=j.2.1.length_le;simp only[zG]at *;show _<=_;omega
 obtain⟨Q,c1,O,c3,L,X,hb⟩:=f.cells;have s:=f.1.frozen 4;have G:=f.1.frozen 5;go_wp2_with fail
 go_region
 go_wp2_with fail;have E:=aa (HS.deeper HD).drew;have C:Hid (Off b w ((F.setCell (aD b 4) (Vi (d+1))).setCell (aD b 5) (Vi (max m (d+1)))).drew):=((B.setCell 4 _).setCell 5 _).drew;replace n:=aa (((n.setOther (p:=(aD b 4)) (by simp;omega) (Vi (d+1))).setOther (p:=(aD b 5)) (by simp;omega) (Vi (max m (d+1)))).drew);have o:Hid (w.heap.size<((F.setCell (aD b 4) (Vi (d+1))).setCell (aD b 5) (Vi (max m (d+1)))).drew.heap.size):=n.lt;refine (I _ E).mono ?_;rintro e A ⟨k,so,M,sc,U,Z,R,P,nn,V,rfl,a,J⟩;replace B:=aa (C.trans a);replace n:=aa (n.off a (by omega));obtain⟨x,f⟩:=J;have H:=aa x;have i:=aa f;obtain⟨Q,c1,O,c3,L,X,a1⟩:=i.out.cells;have s:=i.1.frozen 4;obtain⟨⟨z0,N,z2,T,S,z5⟩,⟨y0,y1,y2,y3,y4,y5⟩,y⟩:=aQ n.out
 try simp at z0 N z2 T S z5 y0 y1 y2 y3 y4 y5 y
 go_wp2_with fail;refine zN (v:=.agg #[Vi 5,Vz,.slice (some (aD (A.heap.size+1) 0)) 1 1,Vi 0,Vi 0,Vi 0]) (by simp[results,results138,go_sem,z0,N,z2,T,S,z5,y]) rfl ⟨5,none,0,0,some (aD (A.heap.size+1) 0),1,1,0,0,0,rfl,?_⟩;have Y:=(((B.setCell 4 (Vi d)).put6 (r:=w.heap.size) (zA _) (Vi 5) (Vz) (.slice (some (aD (A.heap.size+1) 0)) 1 1) (Vi 0) (Vi 0) (Vi 0)).alloc (.cells #[Vi k,.slice so M sc,.slice U Z R,Vi P,Vi nn,Vi V] 27)).alloc (.cells #[Vi k,.slice so M sc,.slice U Z R,Vi P,Vi nn,Vi V] 27);have W:(A.setCell (aD b 4) (Vi d)).heap.size=A.heap.size:=by simp[World.setCell]
 have z:=NV.keep (ah.set (p:=(aD b 4)) (Vi d) (yz (Nat.lt_trans K o))) p _ _ H;obtain⟨o1,o2⟩:=PF (w:=w) z (λq hq=>zF o.out hq) (by rw[W];exact B.size) rfl;rw[W]at o1;refine⟨Y,⟨_,_,rfl,o1,o2⟩,?_⟩;have e2:((Pat.not p).groups)=p.groups:=by simp[Pat.groups]
 have e3:((Pat.not p).deep:Int)=(p.deep:Int)+1:=by simp[Pat.deep]
 have e:max (max m (d+1)) (d+1+(p.deep:Int))=max m (d+((p.deep:Int)+1)):=by omega
 have D:=i.setD d (by omega) (by have:=i.2.2.2.2.2;omega);rw[e]at D;rw[e2,e3];exact St.move j.2.2.1 Y D (((D.1.put6 (r:=w.heap.size) (by omega) _ _ _ _ _ _).alloc _).alloc _)
theorem Wp (u:LZ)(r:Res Pat)(hrec:∀w',St w' b lv l t g (d+1) (max m (d+1))->bJ 138 b lv l g (d+1) (max m (d+1)) r w')(hr:r=.bad u)(h:St w b lv l (126::t) g d m):bJ 138 b lv l g d m (.bad u) w:=by
 unfold bJ;have j:=aa h;have a1:=aa h.1.lt;have C:=aa hrec;obtain⟨f1,f2,f3,f4,f5,f6⟩:=h.facts;have N:=h.1.lt;subst hr;go_enter func138,ntmps138;go_wp2_with fail;refine (dc (j.new Zo) (by decide) (by decide)).mono ?_;rintro e A ⟨rfl,f,a⟩;have Y:=aa f;have D:Hid (Off b w A):=((Off.refl b w).alloc Zo).trans a;have n:=aa ((ag.new w Zq 27).off (c:=b) a (by omega));have Z:Hid (d+1<=((l.length-t.length:Nat):Int)):=by have:=j.2.2.2.2.2;have:=j.2.1.length_le;simp only[zG]at *;show _<=_;omega
 obtain⟨Q,U,P,c3,y,R,hb⟩:=f.cells;have o:=f.1.frozen 4;have B:=f.1.frozen 5;go_wp2_with fail
 go_region
 go_wp2_with fail;have z:=aa (Y.deeper Z).drew;have x:Hid (Off b w ((A.setCell (aD b 4) (Vi (d+1))).setCell (aD b 5) (Vi (max m (d+1)))).drew):=((D.setCell 4 _).setCell 5 _).drew;replace n:=aa (((n.setOther (p:=(aD b 4)) (by simp;omega) (Vi (d+1))).setOther (p:=(aD b 5)) (by simp;omega) (Vi (max m (d+1)))).drew);have M:Hid (w.heap.size<((A.setCell (aD b 4) (Vi (d+1))).setCell (aD b 5) (Vi (max m (d+1)))).drew.heap.size):=n.lt;refine (C _ z).mono ?_;rintro e G ⟨k,so,sn,sc,lo,ln,lc,mm,nn,rr,rfl,a,E⟩;replace D:=aa (x.trans a);replace n:=aa (n.off a (by omega));obtain⟨W,O,m1,s⟩:=E;have i:=aa s;have y:=i.cell 4;have o:=i.frozen 4;have a0:=i.lt;simp at y;obtain⟨⟨J,F,K,I,H,L⟩,⟨y0,T,X,S,V,y5⟩,q⟩:=aQ n.out
 try simp at J F K I H L y0 T X S V y5 q
 go_wp2_with fail;refine zN (v:=.agg #[Vi 5,Vz,.slice (some (aD (G.heap.size+1) 0)) 1 1,Vi 0,Vi 0,Vi 0]) (by simp[results,results138,go_sem,J,F,K,I,H,L,q]) rfl ⟨5,none,0,0,some (aD (G.heap.size+1) 0),1,1,0,0,0,rfl,?_⟩;exact⟨(((D.setCell 4 (Vi d)).put6 (r:=w.heap.size) (zA _) _ _ _ _ _ _).alloc _).alloc _,W,O,m1,((((i.set 4 (Vi d)).put6 (r:=w.heap.size) (by omega) _ _ _ _ _ _).alloc _).alloc _)⟩
theorem FM (ih:ld n)(h:St w b lv l s g d m)(hn:s.length<=n)(h126:s.head?≠some 126):bJ 138 b lv l g d m (dR (aU false n) s) w:=by
 unfold bJ;have a:=aa h;have A:=aa h.1.lt;have S:=aa h126;have I:=h.1.lt;go_enter func138,ntmps138;go_wp2_with fail;refine (ep _ (a.new Zo) (by decide) (by decide) S).mono ?_;rintro e U ⟨rfl,u⟩;obtain⟨Q,rfl⟩:=u;have P:Hid (St ((w.alloc Zo).drewN Q) b lv l s g d m):=a.new Zo;go_wp2_with fail;refine (Sc ih P hn).mono ?_;rintro e J ⟨k,z,i,x,q,t,p,o,y,r,rfl,f⟩;have B:Hid (kZ b lv l g d m (dR (aU false n) s) (w.alloc Zo) J (bT k z i x q t p o y r)):=Im f;have K:=aa ((ag.new w Zq 27).off (c:=b) (B.1) (by omega));obtain⟨⟨F,C,G,E,D,H⟩,⟨R,M,O,L,N,T⟩,j⟩:=aQ K.out
 try simp at F C G E D H R M O L N T j
 go_wp2_with fail;refine zN (v:=.agg #[Vi k,.slice z i x,.slice q t p,Vi o,Vi y,Vi r]) (by simp[results,results138,go_sem,F,C,G,E,D,H]) rfl ⟨k,z,i,x,q,t,p,o,y,r,rfl,?_⟩;exact Tl B A a.2.2.1 rfl
theorem FN (n:Nat)(ih:ld n)(b:Nat)(lv:Value)(l:LZ)(g:Nat):∀(s:LZ) (d m:Int) (w:World),St w b lv l s g d m->s.length<=n->bJ 138 b lv l g d m (dg (aU false n) s) w
 | [],d,m,w,h,hn=>FM ih h hn (by simp)
 |c::t,d,m,w,h,hn=>by
  simp only[dg];by_cases e:c=126
  ·subst e;rw[zX rfl];have a:∀f,St f b lv l t g (d+1) (max m (d+1))->bJ 138 b lv l g (d+1) (max m (d+1)) (dg (aU false n) t) f:=λf i=>FN n ih b lv l g t (d+1) (max m (d+1)) f i (by simp only[zG]at hn;omega);cases hr:dg (aU false n) t with
   |bad u=>rw[hr]at a;exact Wp u _ a rfl h
   |ok p u=>rw[hr]at a;exact XS u _ a p rfl h
  ·rw[zR e];exact FM ih h hn (by simpa using e)
theorem Ij:(prog.info? 27).map (λi=>(i.zero,i.size,i.bytes))=some (some (.agg #[Vi 0,Vz,Vz,Vi 0,Vi 0,Vi 0]),6,80):=by kernel_rfl
theorem BA {B':Nat}(h:w.ownsRow B 27 6 v n xs)(hb:B'<=B):w.ownsRow B' 27 6 v n xs:=by
 refine⟨h.1,?_⟩;rcases h.2 with c|⟨g,a,b,e,d,r⟩
 ·exact .inl c
 ·exact .inr ⟨g,a,b,e,zJ hb d,r⟩
theorem pD {w:World}{ops:Array Oper}{rest:List Oper}{o:Oper}{a:Act}{Q:Exit->Act->World->Prop}(hgd:o.guard=none)(s x:Operand)
  (ho:o.op=.call { callee:=.builtin .append,args:=#[s,x],argTypes:=#[25,25] }) (B n:Nat) (v:Value) (xs:LV) (hs:a.eval s=v) (hown:w.ownsRow B 27 6 v n xs)
  (ad:Addr) (news:LV) (hx:a.eval x=.slice (some ad) 1 1) (hl:news.length=6) (hnews:∀j u,news[j]?=some u->w.cell? (ad.add j)=some u) (h1:∀u∈news,u.oneCell'=true)
  (hn:n<=100000) (hB:B<=w.heap.size)
  (h:∀v' w',w'.ownsRow B 27 6 v' (n+1) (xs++news)->w.grownBy w' v.ownBlock->(v'.ownBlock=v.ownBlock\/∀g,v'.ownBlock=some g->w.heap.size<=g) ->
   wpList prog ops Q rest (a.put o.dst v') w'):wpList prog ops Q (o::rest) a w:=by
 obtain⟨r,t,q,i,p⟩:=zz Ij;have f:=hown;rcases hown.2 with⟨rfl,rfl⟩|⟨g,l,D,rfl,E,G,A,F,C,H⟩
 ·refine yo w hgd s x 25 ho 27 r (.agg #[Vi 0,Vz,Vz,Vi 0,Vi 0,Vi 0]) 6 80 underlying25 t q i p rfl (by decide) none 0 0 xs hs (λ_=>⟨rfl,rfl⟩) f.1 (λb e=>by cases e) ad 1 1 news hx hl hnews h1 (by omega) (by unfold maxLen;omega) (by omega) ?_;intro v' w' d c;exact h v' w' (BA d hB) ⟨c.os,c.tape,c.output,c.size,λk y _=>c.block k y (by simp)⟩ (.inr λg e=>(d.lt g e).1)
 ·by_cases m:n+1<=l
  ·refine wpList_append_fits w hgd s x 25 ho B 27 r 6 underlying25 t i g n l xs hs f ad 1 1 news hx hl hnews h1 m ?_;intro w' d c;exact h _ w' d c (.inl rfl)
  ·refine yo w hgd s x 25 ho 27 r (.agg #[Vi 0,Vz,Vz,Vi 0,Vi 0,Vi 0]) 6 80 underlying25 t q i p rfl (by decide) (some (aD g 0)) n l xs hs (λe=>by cases e) f.1 (λb e j u z=>by cases e;exact f.cells rfl j u z) ad 1 1 news hx hl hnews h1 (by omega) (by unfold maxLen;omega) (by omega) ?_;intro v' w' d c;exact h v' w' (BA d hB) ⟨c.os,c.tape,c.output,c.size,λk y _=>c.block k y (by simp)⟩ (.inr λg e=>(d.lt g e).1)
theorem BB (k:Int)(so:OA)(sn sc:Nat)(lo:OA)(ln lc:Nat)(mm nn rr:Int):∀u∈bT k so sn sc lo ln lc mm nn rr,u.oneCell'=true:=by
 intro u a;simp[bT]at a;rcases a with rfl|rfl|rfl|rfl|rfl|rfl<;>rfl
theorem Wk (h:ag w y (bT k so sn sc lo ln lc mm nn rr) 27):∀j u,(bT k so sn sc lo ln lc mm nn rr)[j]?=some u->w.cell? (((aD y 0):Addr).add j)=some u:=by
 intro j u a;rw[zl,<-a];simpa using h.cell j
theorem wO (w1:World)(o:Obj)(k:Int)(so:OA)(sn sc:Nat)(lo:OA)(ln lc:Nat)(mm nn rr:Int):∀j u,(bT k so sn sc lo ln lc mm nn rr)[j]?=some u->((w1.alloc o).alloc (.cells #[Vi k,.slice so sn sc,.slice lo ln lc,Vi mm,Vi nn,Vi rr] 27)).cell? (((aD (w1.heap.size+1) 0):Addr).add j)=some u:=by
 have h:=Wk (ag.new (w1.alloc o) (bT k so sn sc lo ln lc mm nn rr) 27);have e:(w1.alloc o).heap.size=w1.heap.size+1:=by simp
 rw[e]at h;exact h
theorem tD (h:w.ownsRow B 27 6 v n xs):∃ao cap,v=.slice ao n cap:=by
 rcases h.2 with⟨rfl,rfl⟩|⟨g,cap,a,rfl,_⟩<;>exact⟨_,_,rfl⟩
def AL (w:World)(X:Nat)(v:Value)(q:Nat):Prop:=w.heap.size+1<=q/\q≠X/\some q≠v.ownBlock
def LI (w:World)(X:Nat)(v:Value)(L:List Pat)(g:Nat)(wr:World):Prop:=∃xs,wr.ownsRow (w.heap.size+1) 27 6 v L.length xs/\v.ownBlock≠some X/\NL wr (AL w X v) L xs g
theorem LI.keep {w wr w':World}{X:Nat}{v:Value}{L:List Pat}{g:Nat}{b:Nat}(h:LI w X v L g wr)(k:Off b wr w')(hb:b<w.heap.size):LI w X v L g w':=by
 obtain⟨c,a,e,i⟩:=h;refine⟨c,bP a (λq d=>k.block q (a.lt q d).2 (by have:=(a.lt q d).1;omega)),e,NL.keep (ah.off k (λf=>by have:=f.1;omega)) L c g i⟩
theorem LI.nil (w wr:World)(X g:Nat):LI w X (Vz) [] g wr:=⟨[],zZ _ _ _ _,by simp[Value.ownBlock],rfl⟩
theorem LI.put (h:LI w X v L g wr)(c0 c1 c2 c3 c4 c5:Value):LI w X v L g (put6 wr w.heap.size c0 c1 c2 c3 c4 c5):=by
 obtain⟨b,a,d,f⟩:=h;have i:ah (λq=>w.heap.size+1<=q) wr (put6 wr w.heap.size c0 c1 c2 c3 c4 c5):=(ah.refl _ wr).put6 (r:=w.heap.size) (by simp) _ _ _ _ _ _;exact⟨b,bP a (λq c=>i.2 q (a.lt q c).2 (a.lt q c).1),d,NL.keep ((ah.refl _ wr).put6 (r:=w.heap.size) (λe=>by have:=e.1;omega) _ _ _ _ _ _) L b g f⟩
theorem LI.push {w3:World}{v':Value}{c:LV}{o1 o2:Obj}
  (h1:wr.ownsRow (w.heap.size+1) 27 6 v L.length xs) (h2:v.ownBlock≠some X) (h3:NL wr (AL w X v) L xs g) (hb:b<w.heap.size) (hX:X<wr.heap.size) (hw:w.heap.size<wr.heap.size)
  (hoff:Off b wr w1) (hnv:NV w1 (λq=>wr.heap.size<=q) p c (g+groupsL L))
  (ho3:w3.ownsRow (w.heap.size+1) 27 6 v' (L.length+1) (xs++c)) (hg:((w1.alloc o1).alloc o2).grownBy w3 v.ownBlock) (hloc:v'.ownBlock=v.ownBlock\/∀q,v'.ownBlock=some q->((w1.alloc o1).alloc o2).heap.size<=q) :
  LI w X v' (L++[p]) g (w3.setCell (aD X 2) v'):=by
 have j:v'.ownBlock≠some X:=by
  intro e;rcases hloc with h|h
  ·exact h2 (h▸e)
  ·have o:=h X e;have:=hoff.size;simp at o;omega
 have m:∀q,v.ownBlock=some q->q<wr.heap.size:=λq d=>(h1.lt q d).2;have s:=hoff.size;have i:∀q,q<w1.heap.size->some q≠v.ownBlock->some q≠v'.ownBlock:=by
  intro q d f e;rcases hloc with h|h
  ·exact f (e.trans h)
  ·have:=h q e.symm;simp at this;omega
 have k:ah (λq=>w.heap.size+1<=q/\q≠X/\some q≠v.ownBlock) w1 (w3.setCell (aD X 2) v') :=
  (((ah.alloc _ w1 o1).trans (ah.alloc _ _ o2)).trans (ah.grown hg (λq e a=>a.2.2 e.symm))).trans (ah.set _ (λa=>a.2.1 rfl))
 refine⟨xs++c,?_,j,?_⟩
 ·rw[zH];refine bP ho3 (λq d=>zk _ _ _ _ (λe=>j (by rw[d];simpa using e)))
 ·refine NL.snoc L xs g p c ?_ ?_
  ·have r:=NL.keep (ah.off hoff (λa=>by have:=a.1;omega)) L xs g h3;have n:=NL.mono (A':=λq=>(w.heap.size+1<=q/\q≠X/\some q≠v.ownBlock)/\some q≠v'.ownBlock) (λq d a=>⟨a,i q d a.2.2⟩) L xs g r;have l:=NL.keep (w':=w3.setCell (aD X 2) v') ⟨k.1,λq d a=>k.2 q d a.1⟩ L xs g n;exact NL.mono (λq _ a=>⟨a.1.1,a.1.2.1,a.2⟩) L xs g l
  ·have n:=NV.mono (A':=λq=>(w.heap.size+1<=q/\q≠X/\some q≠v.ownBlock)/\some q≠v'.ownBlock) (λq d a=>by
    have f:some q≠v.ownBlock:=λe=>by have:=m q e.symm;omega
    exact⟨⟨by omega,by omega,f⟩,i q d f⟩) p c _ hnv
   have l:=NV.keep (w':=w3.setCell (aD X 2) v') ⟨k.1,λq d a=>k.2 q d a.1⟩ p c _ n;exact NV.mono (λq _ a=>⟨a.1.1,a.1.2.1,a.2⟩) p c _ l
theorem LI.own (h:LI w X v L g wr):∃xs,cB wr (λq=>w.heap.size<=q) 27 6 v L.length xs/\NL wr (λq=>w.heap.size<=q) L xs g:=by
 obtain⟨xs,a,e,c⟩:=h;exact⟨xs,⟨BA a (zW _),λq d=>by have:=(a.lt q d).1;omega⟩,NL.mono (λq _ b=>by have:=b.1;omega) L xs g c⟩
theorem re {w3:World}{v':Value}{o1 o2:Obj}(h1:wr.ownsRow (w.heap.size+1) 27 6 v L.length xs)(hX:w.heap.size<X)(ho:Off b w wr)(hoff:Off b wr w1)(hg:((w1.alloc o1).alloc o2).grownBy w3 v.ownBlock) :
  Off b w (w3.setCell (aD X 2) v')/\(∀q cs T,ag w1 q cs T->q≠X->some q≠v.ownBlock->ag (w3.setCell (aD X 2) v') q cs T):=by
 refine⟨((((ho.trans hoff).alloc o1).alloc o2).grown hg (λq e=>by have:=(h1.lt q e).1;omega)).setNew (by simp;omega) _,?_⟩;intro q cs T d a c;exact (((d.alloc o1).alloc o2).grown hg c).setOther (by simpa using a) _
def XR (w:World)(b:Nat)(lv:Value)(l:List Int)(g:Nat)(d m:Int)(n:Nat)(R:Res Pat)(j:Nat)(wr:World):Prop :=
 Off b w wr/\ag wr w.heap.size Zq 27/\∃lo ln lc,ag wr (w.heap.size+1) (bT 2 none 0 0 lo ln lc 0 0 0) 27 /\
  ((∃L s0,LI w (w.heap.size+1) (.slice lo ln lc) L g wr/\St wr b lv l s0 ((g+groupsL L:Nat):Int) d (max m (d+ce L))/\L.length+s0.length<=60/\s0.length<=n/\cG false (aU false n) j L s0=R/\s0.length<j)\/(∃s',gu wr b lv l s' d/\R=.bad s'))
theorem mZ {s0:LZ}
  (hk:∀(w':World) (A:NP) (xs:LV),cB w' A 27 6 (.slice lo ln lc) L.length xs->NL w' A L xs g->NV w' A p (bT k none 0 0 lo ln lc 0 0 0) g) (hg:p.groups=groupsL L) (hd:p.deep=ce L)
  (hli:LI w X (.slice lo ln lc) L g wr) (hst:St wr b lv l s0 ((g+groupsL L:Nat):Int) d (max m (d+ce L))) (ho:Off b w wr) (hb:b<w.heap.size) (ht:te w b lv l)
  (e:w2=put6 wr w.heap.size (Vi k) (Vz) (.slice lo ln lc) (Vi 0) (Vi 0) (Vi 0)):kZ b lv l g d m (.ok p s0) w w2 (bT k none 0 0 lo ln lc 0 0 0):=by
 subst e;have a:=ho.put6 (r:=w.heap.size) (zA _) (Vi k) (Vz) (.slice lo ln lc) (Vi 0) (Vi 0) (Vi 0);obtain⟨xs,c,f⟩:=(hli.put (Vi k) (Vz) (.slice lo ln lc) (Vi 0) (Vi 0) (Vi 0)).own;refine⟨a,hk _ _ xs c f,?_⟩;rw[hg,hd];exact St.move ht a hst (hst.1.put6 (r:=w.heap.size) (by omega) _ _ _ _ _ _)
theorem pE {c:LV}(h0:gu wr b lv l s d)(hb:b<w.heap.size)(ho:Off b w wr)(e:w2=put6 wr w.heap.size c0 c1 c2 c3 c4 c5):kZ b lv l g d m (.bad s) w w2 c:=mY h0 hb ho e
theorem JS (ih:ld n)(h:St w b lv l s g d m)(hn:s.length<=n):bJ 97 b lv l g d m (fR false (aU false n) s) w:=by
 unfold bJ;have e9:=aa h;have X:=aa h.1.lt;have P:=h.1.lt;have HT:=aa h.2.2.1;have f1:=h.2.1.length_le;have e5:=h.2.2.2.1;have HM:Hid (St w b lv l s ((g+groupsL []:Nat):Int) d (max m (d+ce []))):=by
  have e:max m (d+((ce []:Nat):Int))=m:=by have:=h.2.2.2.2.2;simp[ce];omega
  show St _ _ _ _ _ _ _ _
  rw[e];exact h
 have a8:=aa (show XR w b lv l g d m n (fR false (aU false n) s) (s.length+1) ((w.alloc Zo).alloc (.cells #[Vi 2,Vz,Vz,Vi 0,Vi 0,Vi 0] 27))from by
  refine⟨((Off.refl b w).alloc _).alloc _,(ag.new w Zq 27).alloc _,none,0,0,?_,.inl ⟨[],s,LI.nil _ _ _ _,(HM.new _).new _,by simp;omega,hn,rfl,by omega⟩⟩;have:=ag.new (w.alloc Zo) (bT 2 none 0 0 none 0 0 0 0 0) 27;have e:(w.alloc Zo).heap.size=w.heap.size+1:=by simp
  rw[e]at this;exact this)
 generalize hR:fR false (aU false n) s=R at a8;have HR:=aa hR;go_enter func97,ntmps97;go_wp2_with fail
 go_loopg [4,5] (s.length+1) (λj _ _ wr=>XR w b lv l g d m n R j wr)
 case atStart=>exact a8
 case round=>
  obtain⟨ho,b7,J,K,S,hx,a4⟩:=hrel;have y:=aa ho;have x:=aa b7;have r:=aa hx;rcases a4 with⟨L,s0,b4,z,d4,c6,b8,e3⟩|⟨s',a3,c4⟩
  ·have W:=z.2.2.2.2.1.suf z.2.1;have o:=aa z;have i:=aa b4;have HE:=aa b8;have d1:=aa e3;have d2:=aa c6;obtain⟨j',rfl⟩:∃j',gk=j'+1:=⟨gk-1,by omega⟩;cases s0 with
   |nil=>
    have A:Hid (R=.ok (.row L) []):=by have:=HE.out;simp only[cG,il,yd]at this;exact this.symm
    go_wp2_with fail;refine (aM o).mono ?_;rintro e N ⟨rfl,f⟩;simp only[aW];have a:Off b wr N:=Off.drn f;replace o:=aa (o.drn f);replace y:=aa (y.trans a);replace x:=aa (x.off a (by omega));replace r:=aa (r.off a (by omega));replace i:=aa (i.keep a P);obtain⟨⟨x0,x1,x2,x3,x4,x5⟩,T⟩:=bK r.out;obtain⟨⟨H,E,C,G,D,F⟩,⟨y0,y1,y2,Z,Y,y5⟩,u⟩:=aQ x.out
    try simp at H E C G D F y0 y1 y2 Z Y y5 u
    go_wp2_with fail;refine zN (v:=.agg #[Vi 2,Vz,.slice J K S,Vi 0,Vi 0,Vi 0]) (by simp[results,results97,go_sem,H,E,C,G,D,F]) rfl ⟨2,none,0,0,J,K,S,0,0,0,rfl,?_⟩;rw[A.out];exact mZ (λ_ _ xs o1 o2=>⟨_,xs,rfl,o1,o2⟩) (by simp[Pat.groups]) (by simp[Pat.deep]) i o y X HT rfl
   |cons c t=>
    by_cases U:mw c=true
    ·have A:Hid (R=.ok (.row L) (c::t)):=by have:=HE.out;simp only[cG,il,U,Bool.true_or,yd]at this;exact this.symm
     have M:c=124\/c=38\/c=41:=by simpa [mw]using U
     rcases M with rfl|rfl|rfl
     ·go_wp2_with fail;refine (aM o).mono ?_;rintro e N ⟨rfl,f⟩;simp only[aW];have a:Off b wr N:=Off.drn f;replace o:=aa (o.drn f);replace y:=aa (y.trans a);replace x:=aa (x.off a (by omega));replace r:=aa (r.off a (by omega));replace i:=aa (i.keep a P);obtain⟨⟨x0,x1,x2,x3,x4,x5⟩,T⟩:=bK r.out;obtain⟨⟨H,E,C,G,D,F⟩,⟨y0,y1,y2,Z,Y,y5⟩,u⟩:=aQ x.out
      try simp at H E C G D F y0 y1 y2 Z Y y5 u
      go_wp2_with fail;refine zN (v:=.agg #[Vi 2,Vz,.slice J K S,Vi 0,Vi 0,Vi 0]) (by simp[results,results97,go_sem,H,E,C,G,D,F]) rfl ⟨2,none,0,0,J,K,S,0,0,0,rfl,?_⟩;rw[A.out];exact mZ (λ_ _ xs o1 o2=>⟨_,xs,rfl,o1,o2⟩) (by simp[Pat.groups]) (by simp[Pat.deep]) i o y X HT rfl
     ·go_wp2_with fail;refine (aM o).mono ?_;rintro e N ⟨rfl,f⟩;simp only[aW];have a:Off b wr N:=Off.drn f;replace o:=aa (o.drn f);replace y:=aa (y.trans a);replace x:=aa (x.off a (by omega));replace r:=aa (r.off a (by omega));replace i:=aa (i.keep a P);obtain⟨⟨x0,x1,x2,x3,x4,x5⟩,T⟩:=bK r.out;obtain⟨⟨H,E,C,G,D,F⟩,⟨y0,y1,y2,Z,Y,y5⟩,u⟩:=aQ x.out
      try simp at H E C G D F y0 y1 y2 Z Y y5 u
      go_wp2_with fail;refine zN (v:=.agg #[Vi 2,Vz,.slice J K S,Vi 0,Vi 0,Vi 0]) (by simp[results,results97,go_sem,H,E,C,G,D,F]) rfl ⟨2,none,0,0,J,K,S,0,0,0,rfl,?_⟩;rw[A.out];exact mZ (λ_ _ xs o1 o2=>⟨_,xs,rfl,o1,o2⟩) (by simp[Pat.groups]) (by simp[Pat.deep]) i o y X HT rfl
     ·go_wp2_with fail;refine (aM o).mono ?_;rintro e N ⟨rfl,f⟩;simp only[aW];have a:Off b wr N:=Off.drn f;replace o:=aa (o.drn f);replace y:=aa (y.trans a);replace x:=aa (x.off a (by omega));replace r:=aa (r.off a (by omega));replace i:=aa (i.keep a P);obtain⟨⟨x0,x1,x2,x3,x4,x5⟩,T⟩:=bK r.out;obtain⟨⟨H,E,C,G,D,F⟩,⟨y0,y1,y2,Z,Y,y5⟩,u⟩:=aQ x.out
      try simp at H E C G D F y0 y1 y2 Z Y y5 u
      go_wp2_with fail;refine zN (v:=.agg #[Vi 2,Vz,.slice J K S,Vi 0,Vi 0,Vi 0]) (by simp[results,results97,go_sem,H,E,C,G,D,F]) rfl ⟨2,none,0,0,J,K,S,0,0,0,rfl,?_⟩;rw[A.out];exact mZ (λ_ _ xs o1 o2=>⟨_,xs,rfl,o1,o2⟩) (by simp[Pat.groups]) (by simp[Pat.deep]) i o y X HT rfl
    ·have b9:mw c=false:=by simpa using U
     have hr:=(rune_iff c).1 W.head;have h0:¬c<0:=by omega
     have f0:decide (c<0)=false:=by simpa using h0
     have M:¬c=124/\¬c=38/\¬c=41:=by simpa [mw]using U
     have b1:(c==124)=false:=zD.2 M.1;have b2:(c==38)=false:=zD.2 M.2.1;have b3:(c==41)=false:=zD.2 M.2.2;have d0:Hid ((dg (aU false n) (c::t)).bind (λp s'=>cG false (aU false n) j' (L++[p]) s')=R):=by
      have:=HE.out;simp only[cG,il,b9,Bool.false_and,Bool.or_self,yR,if_false]at this;exact this
     have d3:=aa (kJ (fU false n) (c::t));go_wp2_with fail;refine (aM o).mono ?_;rintro e N ⟨rfl,f⟩;simp only[aW];have a:Off b wr N:=Off.drn f;replace o:=aa (o.drn f);replace y:=aa (y.trans a);replace x:=aa (x.off a (by omega));replace r:=aa (r.off a (by omega));replace i:=aa (i.keep a P);go_wp2_with fail;refine (FN n ih b lv l _ _ _ _ _ o d2).mono ?_;rintro e w1 ⟨k,so,sn,sc,I,O,Q,mm,nn,rr,rfl,B,c0⟩;have a0:=aa B;have a6:=aa ((r.off B (by omega)).alloc (.cells #[Vi k,.slice so sn sc,.slice I O Q,Vi mm,Vi nn,Vi rr] 27));have HY:=aa ((ag.new w1 (bT k so sn sc I O Q mm nn rr) 27));have HP:=aa c0;have a5:Hid (w.heap.size+1<N.heap.size):=r.lt;have d6:Hid (N.heap.size<=w1.heap.size):=B.size;obtain⟨⟨x0,x1,x2,x3,x4,x5⟩,T⟩:=bK a6.out;have e8:=a6.frozen 2;obtain⟨xs,q1,q2,q3⟩:=i.out;have b6:=aa q1;have e0:=aa q3;have c9:=aa q2;have a1:=bP q1 (λq hq=>a0.block q (q1.lt q hq).2 (by have:=(q1.lt q hq).1;omega));have d9:=aa ((a1.alloc (.cells #[Vi k,.slice so sn sc,.slice I O Q,Vi mm,Vi nn,Vi rr] 27)).alloc (.cells #[Vi k,.slice so sn sc,.slice I O Q,Vi mm,Vi nn,Vi rr] 27));have c3:Hid (∀q,(Value.slice J K S).ownBlock=some q->w.heap.size+1<=q):=λq hq=>(q1.lt q hq).1;go_wp2_with (at_builtin;refine pD rfl (.tmp 27) (.tmp 29) rfl (w.heap.size+1) L.length _ _ rfl d9 (aD (w1.heap.size+1) 0) (bT k so sn sc I O Q mm nn rr) rfl rfl (wO _ _ _ _ _ _ _ _ _ _ _ _) (BB _ _ _ _ _ _ _ _ _ _) (by omega) (by have:=a5.out;have:=d6.out;simp;omega) ?_;intro v' w3 c8 c7 V;have c2:=aa c8;have a9:=aa c7;have d7:=aa V;obtain⟨c1,a2,rfl⟩:=tD c2.out;have a7:=aa (((a6).alloc (.cells #[Vi k,.slice so sn sc,.slice I O Q,Vi mm,Vi nn,Vi rr] 27)).grown a9 (λe=>c9 e.symm));obtain⟨⟨_,_,f2,_,_,_⟩,e6⟩:=bK a7.out;have e7:=a7.frozen 2)
     go_roundg j'
     case measure=>omega
     case rel=>
      obtain⟨F1,F2⟩:=re (v':=.slice c1 (L.length+1) a2) b6.out (xC _) y.out a0.out a9.out;have c5:some b≠(Value.slice J K S).ownBlock:=λe=>by have:=c3.out b e.symm;omega
      have e4:some w.heap.size≠(Value.slice J K S).ownBlock:=λe=>by have:=c3.out _ e.symm;omega
      refine⟨F1,F2 _ _ _ (x.off a0 (by omega)) (by omega) e4,c1,L.length+1,a2,a7.set 2 _,?_⟩;have hp:=HP.out;have b5:=d3.out;have U:=d0.out;cases hr:dg (aU false n) (c::t)with
      |bad s2=>
       rw[hr]at hp U;obtain⟨i1,g1,m1,d8⟩:=hp;exact .inr ⟨s2,⟨i1,g1,m1,F2 _ _ _ d8 (by omega) c5⟩,U.symm⟩
      |ok p s2=>
       rw[hr]at hp U b5;obtain⟨d5,z⟩:=hp;have hl:=b5.1;have b0:=d1.out;simp only[zG]at hl d4 c6 b0;have e1:(g+groupsL L)+p.groups=g+groupsL (L++[p]):=by rw[iU];omega
       have e2:max (max m (d+(ce L:Int))) (d+(p.deep:Int))=max m (d+(ce (L++[p]):Int)):=by rw[mK];omega
       rw[e1,e2]at z;refine .inl ⟨L++[p],s2,LI.push b6 c9 e0 P a5 (Nat.lt_trans (xC _) a5) a0 d5 c2 a9 d7,St.move HT F1 z (F2 _ _ _ z.1 (by omega) c5),?_,by omega,U,by omega⟩;rw[zH];simp;omega
  ·have HB:=aa a3;have A:=aa c4;go_wp2_with fail;refine (Fj HB).mono ?_;rintro e N ⟨rfl,f⟩;have a:Off b wr N:=Off.drn f;replace HB:=aa (HB.off f);replace y:=aa (y.trans a);replace x:=aa (x.off a (by omega));replace r:=aa (r.off a (by omega));obtain⟨⟨x0,x1,x2,x3,x4,x5⟩,T⟩:=bK r.out;obtain⟨⟨H,E,C,G,D,F⟩,⟨y0,y1,y2,Z,Y,y5⟩,u⟩:=aQ x.out
   try simp at H E C G D F y0 y1 y2 Z Y y5 u
   go_wp2_with fail;refine zN (v:=.agg #[Vi 2,Vz,.slice J K S,Vi 0,Vi 0,Vi 0]) (by simp[results,results97,go_sem,H,E,C,G,D,F]) rfl ⟨2,none,0,0,J,K,S,0,0,0,rfl,?_⟩;rw[A.out];exact pE HB X y rfl
theorem TT (h:ag w y cs 27)(hl:cs.length=6)(hB:B<=y):w.ownsRow B 27 6 (Vs y 1 1) 1 cs:=by
 refine⟨by omega,.inr ⟨y,1,cs.toArray,rfl,hB,h,zA _,by unfold maxLen;omega,by simp[hl],?_⟩⟩;simp only[Nat.one_mul];rw[yF (by simp[hl])]
def MQ (w:World)(X:Nat)(b:Nat)(lv:Value)(l:List Int)(g:Nat)(d m:Int)(n:Nat)(kind:Int)(part:List Int->Res Pat)(sign:Int)(mk:List Pat->Pat)(R:Res Pat)(j:Nat)(wr:World):Prop :=
 Off b w wr/\ag wr w.heap.size Zq 27/\∃lo ln lc,ag wr X (bT kind none 0 0 lo ln lc 0 0 0) 27 /\
  ((∃L s0,LI w X (.slice lo ln lc) L g wr/\St wr b lv l s0 ((g+groupsL L:Nat):Int) d (max m (d+ce L))/\L.length+s0.length<=61/\s0.length<=n/\(if s0.head?=some sign then bE part sign mk j L s0.tail else .ok (mk L) s0)=R/\s0.length<=j)\/(∃s',gu wr b lv l s' d/\R=.bad s'))
theorem AM {kind:Int}{part:List Int->Res Pat}{sign:Int}{mk:List Pat->Pat}{lo1:OA}{ln1 lc1:Nat}
  (hp:kZ b lv l g d m (part s) (w.alloc Zo) w1 (bT k so sn sc lo1 ln1 lc1 mm nn rr)) (hgo:∀s,cN (part s) s) (hb:b<w.heap.size) (hn:s.length<=n) (h60:s.length<=60) :
  MQ w (w1.heap.size+1) b lv l g d m n kind part sign mk (bE part sign mk (s.length+1) [] s) s.length ((w1.alloc (.cells #[Vi k,.slice so sn sc,.slice lo1 ln1 lc1,Vi mm,Vi nn,Vi rr] 27)).alloc (.cells #[Vi kind,Vz,Vs w1.heap.size 1 1,Vi 0,Vi 0,Vi 0] 27)):=by
 obtain⟨f,hp⟩:=hp;have o:=f.size;simp at o;have r:(w1.alloc (.cells #[Vi k,.slice so sn sc,.slice lo1 ln1 lc1,Vi mm,Vi nn,Vi rr] 27)).heap.size=w1.heap.size+1:=by simp
 have h:=ag.new (w1.alloc (.cells #[Vi k,.slice so sn sc,.slice lo1 ln1 lc1,Vi mm,Vi nn,Vi rr] 27)) (bT kind none 0 0 (some (aD w1.heap.size 0)) 1 1 0 0 0) 27;rw[r]at h;refine⟨((((Off.refl b w).alloc _).trans f).alloc _).alloc _,(((ag.new w Zq 27).off f (by omega)).alloc _).alloc _,_,_,_,h,?_⟩;have a:=hgo s;cases hr:part s with
 |bad s'=>
  rw[hr]at hp;refine .inr ⟨s',(hp.below ((zE _ _).alloc (zA _) _)).below ((zE _ _).alloc (zA _) _),?_⟩;simp only[bE,hr,Res.bind]
 |ok p s'=>
  rw[hr]at hp a;obtain⟨e,c⟩:=hp;have u:=List.IsSuffix.length_le a;refine .inl ⟨[p],s',?_,?_,by simp;omega,by omega,by simp only[bE,hr,Res.bind,zd],u⟩
  ·have j:=(ag.new w1 (bT k so sn sc lo1 ln1 lc1 mm nn rr) 27).alloc (.cells #[Vi kind,Vz,Vs w1.heap.size 1 1,Vi 0,Vi 0,Vi 0] 27);refine⟨_,TT j rfl (by omega),by simp[Value.ownBlock],bT k so sn sc lo1 ln1 lc1 mm nn rr,[],by simp,?_,rfl⟩;refine NV.keep ((ah.alloc _ _ _).trans (ah.alloc _ _ _)) p _ g (NV.mono (λq x v=>?_) p _ g e);simp at v;exact⟨by omega,by omega,by simp[Value.ownBlock];omega⟩
  ·have i:g+p.groups=g+groupsL [p]:=by simp[groupsL]
   have t:max m (d+(p.deep:Int))=max m (d+(ce [p]:Int)):=by simp[ce]
   rw[i,t]at c;exact (c.new _).new _
