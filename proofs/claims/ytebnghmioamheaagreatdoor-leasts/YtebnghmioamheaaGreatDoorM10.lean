import Derived.Test.YtebnghmioamheaaGreatDoorM04
import Derived.Test.YtebnghmioamheaaGreatDoorM09
set_option linter.all false
namespace Go.Proofs.YtebnghmioamheaaGreatDoor
open Go.RowKit Brm Tryz
variable {A A':NP}{b B size n g i j r y sn sc ln lc X:Nat}{w w' a w1 w2 wr:World}{e:TypeId}{v lv c0 c1 c2 c3 c4 c5:Value}{xs cs:LV}{p:Pat}{l s t:LZ}{c d m k mm nn rr:Int}{α:Type}{ps L:List Pat}{so lo:OA}{o:Obj}
def cB (w:World)(A:Nat->Prop)(e:TypeId)(size:Nat)(v:Value)(n:Nat)(xs:List Value):Prop:=w.ownsRow 0 e size v n xs/\∀g,v.ownBlock=some g->A g
def cC (w:World)(A:Nat->Prop)(v:Value)(s:List (Int×Int)):Prop:=∃q,Brm.PCanon q/\Brm.told q=s /\
 ((v=Vz/\q=[])\/∃b off cap,v=.slice (some (aD b off)) q.length cap/\q.length<=cap/\A b/\b<w.heap.size/\Rd w (some (aD b off)) q)
def ZE (n:Int):Value:=Vi n
def nil:Value:=Vz
mutual
def NV (w:World)(A:Nat->Prop):Pat->List Value->Nat->Prop
 |.set s,c,_=>∃sv,c=[Vi 1,sv,Vz,Vi 0,Vi 0,Vi 0]/\cC w A sv s
 |.row l,c,g=>∃lv xs,c=[Vi 2,Vz,lv,Vi 0,Vi 0,Vi 0]/\cB w A 27 6 lv l.length xs/\NL w A l xs g
 |.or l,c,g=>∃lv xs,c=[Vi 3,Vz,lv,Vi 0,Vi 0,Vi 0]/\cB w A 27 6 lv l.length xs/\NL w A l xs g
 |.and l,c,g=>∃lv xs,c=[Vi 4,Vz,lv,Vi 0,Vi 0,Vi 0]/\cB w A 27 6 lv l.length xs/\NL w A l xs g
 |.not p,c,g=>∃lv xs,c=[Vi 5,Vz,lv,Vi 0,Vi 0,Vi 0]/\cB w A 27 6 lv 1 xs/\NV w A p xs g
 |.many p m n,c,g=>∃lv xs,c=[Vi 6,Vz,lv,Vi m,Vi n,Vi 0]/\cB w A 27 6 lv 1 xs/\NV w A p xs g
 |.group p,c,g=>∃lv xs,c=[Vi 7,Vz,lv,Vi 0,Vi 0,Vi g]/\cB w A 27 6 lv 1 xs/\NV w A p xs (g+1)
def NL (w:World)(A:Nat->Prop):List Pat->List Value->Nat->Prop
 | [],xs,_=>xs=[]
 |p::l,xs,g=>∃c r,xs=c++r/\NV w A p c g/\NL w A l r (g+p.groups)
end
def ah (A:Nat->Prop)(w w':World):Prop:=w.heap.size<=w'.heap.size/\∀k,k<w.heap.size->A k->w'.heap[k]?=w.heap[k]?
theorem ah.off (h:Off b w w')(hb:¬A b):ah A w w':=⟨h.size,λk a c=>h.block k a (λe=>hb (e▸c))⟩
theorem ah.below (h:Bw w w'):ah A w w':=⟨h.size,λk a _=>h.block k a⟩
theorem ah.grown {row:Option Nat}(h:w.grownBy w' row)(hr:∀k,row=some k->¬A k):ah A w w':=⟨h.size,λk a b=>h.block k a (λe=>hr k e.symm b)⟩
theorem ah.set {p:Addr}(u:Value)(h:¬A p.block):ah A w (w.setCell p u):=⟨by simp[World.setCell],λk _ a=>zk _ _ _ _ (λe=>h (e▸a))⟩
theorem ah.trans {A:NP}{a b c:World}(h:ah A a b)(k:ah A b c):ah A a c:=⟨zJ h.1 k.1,λi e d=>(k.2 i (zF e h.1) d).trans (h.2 i e d)⟩
theorem ah.refl (A:NP)(w:World):ah A w w:=⟨zA _,λ_ _ _=>rfl⟩
theorem ah.alloc (A:NP)(w:World)(o:Obj):ah A w (w.alloc o):=⟨by simp,λ_ a _=>zS _ _ _ a⟩
theorem ah.drew {A:NP}{a w:World}(h:ah A a w):ah A a w.drew:=h
theorem bP (h:w.ownsRow B e size v n xs)(hk:∀g,v.ownBlock=some g->w'.heap[g]?=w.heap[g]?):w'.ownsRow B e size v n xs:=by
 refine⟨h.1,?_⟩;rcases h.2 with f|⟨g,b,a,rfl,c,d,r⟩
 ·exact .inl f
 ·exact .inr ⟨g,b,a,rfl,c,(hk g rfl).trans d,r⟩
theorem cB.keep (h:cB w A e size v n xs)(k:ah A w w'):cB w' A e size v n xs :=
 ⟨bP h.1 (λg a=>k.2 g (h.1.lt g a).2 (h.2 g a)),h.2⟩
theorem cB.mono (h:cB w A e size v n xs)(k:∀g,g<w.heap.size->A g->A' g):cB w A' e size v n xs :=
 ⟨h.1,λg a=>k g (h.1.lt g a).2 (h.2 g a)⟩
theorem cC.keep {s:LQ}(h:cC w A v s)(k:ah A w w'):cC w' A v s:=by
 obtain⟨q,r,z,c⟩:=h;refine⟨q,r,z,?_⟩;rcases c with c|⟨b,a,d,e,t,g,f,m⟩
 ·exact .inl c
 ·refine .inr ⟨b,a,d,e,t,g,zF f k.1,?_⟩;intro i x o;obtain⟨B,l,p,u,y,n⟩:=m i x o;cases p;have j:=k.2 b f g;exact⟨b,a,rfl,zF f k.1,by rw[zP (w:=w) j];exact y,by rw[zP (w:=w) j];exact n⟩
theorem cC.mono {s:LQ}(h:cC w A v s)(k:∀g,g<w.heap.size->A g->A' g):cC w A' v s:=by
 obtain⟨q,l,n,a⟩:=h;refine⟨q,l,n,?_⟩;rcases a with a|⟨b,c,d,e,m,j,f,i⟩
 ·exact .inl a
 ·exact .inr ⟨b,c,d,e,m,k b f j,f,i⟩
mutual
theorem NV.keep {A:NP}{w w':World}(k:ah A w w'):∀(p:Pat) (c:LV) (g:Nat),NV w A p c g->NV w' A p c g
 |.set s,c,g,h=>by obtain⟨j,e,i⟩:=h;exact⟨j,e,i.keep k⟩
 |.row l,c,g,h=>by obtain⟨b,a,e,f,d⟩:=h;exact⟨b,a,e,f.keep k,NL.keep k l a g d⟩
 |.or l,c,g,h=>by obtain⟨b,a,e,f,d⟩:=h;exact⟨b,a,e,f.keep k,NL.keep k l a g d⟩
 |.and l,c,g,h=>by obtain⟨b,a,e,f,d⟩:=h;exact⟨b,a,e,f.keep k,NL.keep k l a g d⟩
 |.not p,c,g,h=>by obtain⟨b,a,e,f,d⟩:=h;exact⟨b,a,e,f.keep k,NV.keep k p a g d⟩
 |.many p m n,c,g,h=>by obtain⟨b,a,e,f,d⟩:=h;exact⟨b,a,e,f.keep k,NV.keep k p a g d⟩
 |.group p,c,g,h=>by obtain⟨b,a,e,f,d⟩:=h;exact⟨b,a,e,f.keep k,NV.keep k p a (g+1) d⟩
theorem NL.keep {A:NP}{w w':World}(k:ah A w w'):∀(l:List Pat) (xs:LV) (g:Nat),NL w A l xs g->NL w' A l xs g
 | [],xs,g,h=>h
 |p::l,xs,g,h=>by obtain⟨c,r,e,a,b⟩:=h;exact⟨c,r,e,NV.keep k p c g a,NL.keep k l r _ b⟩
end
mutual
theorem NV.mono {A A':NP}{w:World}(k:∀g,g<w.heap.size->A g->A' g):∀(p:Pat) (c:LV) (g:Nat),NV w A p c g->NV w A' p c g
 |.set s,c,g,h=>by obtain⟨j,e,i⟩:=h;exact⟨j,e,i.mono k⟩
 |.row l,c,g,h=>by obtain⟨b,a,e,f,d⟩:=h;exact⟨b,a,e,f.mono k,NL.mono k l a g d⟩
 |.or l,c,g,h=>by obtain⟨b,a,e,f,d⟩:=h;exact⟨b,a,e,f.mono k,NL.mono k l a g d⟩
 |.and l,c,g,h=>by obtain⟨b,a,e,f,d⟩:=h;exact⟨b,a,e,f.mono k,NL.mono k l a g d⟩
 |.not p,c,g,h=>by obtain⟨b,a,e,f,d⟩:=h;exact⟨b,a,e,f.mono k,NV.mono k p a g d⟩
 |.many p m n,c,g,h=>by obtain⟨b,a,e,f,d⟩:=h;exact⟨b,a,e,f.mono k,NV.mono k p a g d⟩
 |.group p,c,g,h=>by obtain⟨b,a,e,f,d⟩:=h;exact⟨b,a,e,f.mono k,NV.mono k p a (g+1) d⟩
theorem NL.mono {A A':NP}{w:World}(k:∀g,g<w.heap.size->A g->A' g):∀(l:List Pat) (xs:LV) (g:Nat),NL w A l xs g->NL w A' l xs g
 | [],xs,g,h=>h
 |p::l,xs,g,h=>by obtain⟨c,r,e,a,b⟩:=h;exact⟨c,r,e,NV.mono k p c g a,NL.mono k l r _ b⟩
end
def Kz (v:Value):Prop:=∃so sn sc,v=.slice so sn sc
theorem mP (h:cB w A e size v n xs):Kz v:=by
 rcases h.1.2 with⟨rfl,_⟩|⟨g,a,b,rfl,_⟩<;>exact⟨_,_,_,rfl⟩
theorem kl {s:LQ}(h:cC w A v s):Kz v:=by
 obtain⟨q,_,_,⟨rfl,_⟩|⟨b,a,c,rfl,_⟩⟩:=h<;>exact⟨_,_,_,rfl⟩
def bT (k:Int)(so:Option Addr)(sn sc:Nat)(lo:Option Addr)(ln lc:Nat)(mm nn rr:Int):List Value:=[Vi k,.slice so sn sc,.slice lo ln lc,Vi mm,Vi nn,Vi rr]
theorem NV.len {c:LV}(h:NV w A p c g):∃k so sn sc lo ln lc m n r,c=bT k so sn sc lo ln lc m n r:=by
 cases p with
 |set s=>obtain⟨i,rfl,f⟩:=h;obtain⟨so,sn,sc,rfl⟩:=kl f;exact⟨_,_,_,_,_,_,_,_,_,_,rfl⟩
 |row l=>obtain⟨b,e,rfl,a,d⟩:=h;obtain⟨so,sn,sc,rfl⟩:=mP a;exact⟨_,_,_,_,_,_,_,_,_,_,rfl⟩
 |or l=>obtain⟨b,e,rfl,a,d⟩:=h;obtain⟨so,sn,sc,rfl⟩:=mP a;exact⟨_,_,_,_,_,_,_,_,_,_,rfl⟩
 |and l=>obtain⟨b,e,rfl,a,d⟩:=h;obtain⟨so,sn,sc,rfl⟩:=mP a;exact⟨_,_,_,_,_,_,_,_,_,_,rfl⟩
 |not p=>obtain⟨b,e,rfl,a,d⟩:=h;obtain⟨so,sn,sc,rfl⟩:=mP a;exact⟨_,_,_,_,_,_,_,_,_,_,rfl⟩
 |many p m n=>obtain⟨b,e,rfl,a,d⟩:=h;obtain⟨so,sn,sc,rfl⟩:=mP a;exact⟨_,_,_,_,_,_,_,_,_,_,rfl⟩
 |group p=>obtain⟨b,e,rfl,a,d⟩:=h;obtain⟨so,sn,sc,rfl⟩:=mP a;exact⟨_,_,_,_,_,_,_,_,_,_,rfl⟩
theorem NV.six {c:LV}(h:NV w A p c g):c.length=6:=by
 obtain⟨k,e,a,i,f,d,b,m,n,r,rfl⟩:=h.len;rfl
theorem NL.snoc {w:World}{A:NP}:∀(l:List Pat) (xs:LV) (g:Nat) (p:Pat) (c:LV),NL w A l xs g->NV w A p c (g+Brm.groupsL l)->NL w A (l++[p]) (xs++c) g
 | [],xs,g,p,c,h,hp=>by
  have:xs=[]:=h;subst this;exact⟨c,[],by simp,by simpa [Brm.groupsL]using hp,rfl⟩
 |q::l,xs,g,p,c,h,hp=>by
  obtain⟨d,r,rfl,a,b⟩:=h;exact⟨d,r++c,by simp,a,NL.snoc l r _ p c b (by simp only[Brm.groupsL]at hp;rw[xG];exact hp)⟩
theorem NL.at {w:World}{A:NP}:∀(l:List Pat) (xs:LV) (g:Nat),NL w A l xs g->∀(i:Nat) (p:Pat),l[i]?=some p->∃c g',NV w A p c g'/\c=(xs.drop (i*6)).take 6
 | [],_,_,_,i,p,hi=>by simp at hi
 |q::l,xs,g,h,0,p,hi=>by
  obtain⟨d,r,rfl,a,b⟩:=h;simp at hi;subst hi;exact⟨d,g,a,by have:=a.six;simp[<-this]⟩
 |q::l,xs,g,h,i+1,p,hi=>by
  obtain⟨d,r,rfl,a,b⟩:=h;obtain⟨c,g',f,e⟩:=NL.at l r _ b i p (by simpa using hi);refine⟨c,g',f,?_⟩;rw[e];have:=a.six;rw[show (i+1)*6=d.length+i*6 from by omega,<-List.drop_drop];simp
set_option maxHeartbeats 400000
set_option maxRecDepth 100000
def UF (w:World)(b:Nat)(lv:Value)(i bad g d m:Int):Prop:=ag w b [lv,Vi i,Vi bad,Vi g,Vi d,Vi m] 76
def te (w:World)(b:Nat)(lv:Value)(l:List Int):Prop:=cB w (λk=>k≠b) 3 1 lv l.length (l.map λc=>Vi c)
def St (w:World)(b:Nat)(lv:Value)(l s:List Int)(g d m:Int):Prop :=
 UF w b lv ((l.length-s.length:Nat):Int) (-1) g d m/\s <:+ l/\te w b lv l/\l.length<=60/\dh l/\0<=g/\g<=((l.length-s.length:Nat):Int)/\0<=d/\d<=((l.length-s.length:Nat):Int)/\0<=m/\m<=((l.length-s.length:Nat):Int)/\d<=m
def gu (w:World)(b:Nat)(lv:Value)(l s:List Int)(d:Int):Prop:=∃i g m:Int,UF w b lv i ((l.length-s.length:Nat):Int) g d m
def aW (s:List Int):Int:=match s with|[]=>-1|c::_=>c
theorem SD (h:te w b lv l):∃ao cap,lv=.slice ao l.length cap/\∀i c,l[i]?=some c->∃bl,ao=some (aD bl 0)/\bl<w.heap.size/\bl≠b/\w.cell? (aD bl i)=some (Vi c):=by
 obtain⟨d,j⟩:=h;rcases d.2 with⟨rfl,e⟩|⟨g,cap,f,rfl,o,m,p,q,n,k⟩
 ·exact⟨none,0,by rw[e],λi c a=>by rw[zq.1 e]at a;simp at a⟩
 ·refine⟨_,cap,rfl,λi c a=>⟨g,rfl,(d.lt g rfl).2,j g rfl,?_⟩⟩;have:=d.cells rfl i (Vi c) (by rw[zg,a];rfl);rw[zl]at this;simpa using this
def oN (w w':World):Prop:=∃n,w'=w.drewN n
theorem uA (w:World)(n:Nat):oN w (w.drewN n):=⟨n,rfl⟩
theorem Ph {b c:World}(h:oN a b)(k:oN b c):oN a c:=by
 obtain⟨n,rfl⟩:=h;obtain⟨m,rfl⟩:=k;exact⟨n+m,by simp[World.drewN,xG]⟩
theorem XC (h:s <:+ l)(hs:s=c::t):l[l.length-s.length]?=some c:=by
 obtain⟨p,rfl⟩:=h;subst hs;rw[zH,Nat.add_sub_cancel,yk (zA _),Nat.sub_self];rfl
theorem St.cells {g:Int}(h:St w b lv l s g d m) :
  w.cell? (aD b 0)=some lv/\w.cell? (aD b 1)=some (Vi ((l.length-s.length:Nat):Int))/\w.cell? (aD b 2)=some (Vi (-1))/\w.cell? (aD b 3)=some (Vi g)/\w.cell? (aD b 4)=some (Vi d)/\w.cell? (aD b 5)=some (Vi m)/\b<w.heap.size :=
 ⟨h.1.cell 0,h.1.cell 1,h.1.cell 2,h.1.cell 3,h.1.cell 4,h.1.cell 5,h.1.lt⟩
theorem aM {g:Int}(h:St w b lv l s g d m):Calls prog 98 #[Vp b] w λe w'=>e=.returned (Vi (aW s))/\oN w w':=by
 have u:=aa h;obtain⟨x,i,z,_,_,_,A⟩:=h.cells;obtain⟨F,j,rfl,a⟩:=SD h.2.2.1;have v:=h.2.2.2.1;have q:=h.2.1.length_le;cases s with
 |nil=>
  simp only[zh,Nat.sub_zero]at i;have E:decide ((l.length:Int)<=(l.length:Int))=true:=by simp
  go_enter func98,ntmps98;go_wp2_with fail
  go_quiet (fail)
  go_wp2;go_ret;exact⟨rfl,uA _ _⟩
 |cons c t=>
  have f:=XC u.2.1 rfl;obtain⟨B,rfl,o,p,n⟩:=a _ c f;generalize hk:l.length-(c::t).length=k at i n f;have r:k<l.length:=(zC.1 f).1;have y:(0:Int)<=(k:Int):=zK _;have C:(k:Int)<(l.length:Int):=by omega
  have D:decide ((l.length:Int)<=(k:Int))=false:=by simp;omega
  go_enter func98,ntmps98;go_wp2_with fail
  go_quiet (fail)
  go_wp2_with fail
  go_quiet (fail)
  go_wp2;go_ret;exact⟨rfl,Ph (uA _ _) (uA _ _)⟩
theorem Off.drn (h:oN w w'):Off b w w':=by obtain⟨n,rfl⟩:=h;exact (Off.refl _ _).drewN n
theorem oN.below (h:oN w w'):Bw w w':=by obtain⟨n,rfl⟩:=h;exact aR (zE _ _)
theorem St.drn {g:Int}(h:St w b lv l s g d m)(k:oN w w'):St w' b lv l s g d m:=by obtain⟨n,rfl⟩:=k;exact h
theorem te.off {w w':World}{b:Nat}{lv:Value}{l:LZ}(h:te w b lv l)(k:Off b w w'):te w' b lv l:=cB.keep h (ah.off k (λe=>e rfl))
theorem SF {g:Int}(h:St w b lv l s g d m):-1<=aW s/\aW s<=1114111:=by
 have a:=h.2.2.2.2.1.suf h.2.1;cases s with
 |nil=>exact⟨by simp[aW],by simp[aW]⟩
 |cons c t=>have:=(rune_iff c).1 (a c (by simp));simp only[aW];omega
theorem St.step {g:Int}(h:St w b lv l (c::t) g d m):St (w.setCell (aD b 1) (Vi (((l.length-(c::t).length:Nat):Int)+1))) b lv l t g d m/\Off b w (w.setCell (aD b 1) (Vi (((l.length-(c::t).length:Nat):Int)+1))):=by
 have f:Off b w (w.setCell (aD b 1) (Vi (((l.length-(c::t).length:Nat):Int)+1))):=(Off.refl _ _).setCell 1 _;have a:=h.2.2.2.2.2;refine⟨⟨?_,(yS c t).trans h.2.1,h.2.2.1.off f,h.2.2.2.1,h.2.2.2.2.1,by simp only[zG]at a;omega⟩,f⟩;have i:=h.1.set 1 (Vi (((l.length-(c::t).length:Nat):Int)+1));have j:=h.2.1.length_le;have e:(((l.length-(c::t).length:Nat):Int)+1)=((l.length-t.length:Nat):Int):=by simp only[zG]at j ⊢;omega
 rw[e]at i ⊢;exact i
theorem St.fail {g:Int}(h:St w b lv l s g d m):gu (w.setCell (aD b 2) (Vi ((l.length-s.length:Nat):Int))) b lv l s d/\Off b w (w.setCell (aD b 2) (Vi ((l.length-s.length:Nat):Int))) :=
 ⟨⟨_,_,_,h.1.set 2 _⟩,(Off.refl _ _).setCell 2 _⟩
theorem gu.off (h:gu w b lv l s d)(k:oN w w'):gu w' b lv l s d:=by obtain⟨n,rfl⟩:=k;exact h
theorem gu.cells (h:gu w b lv l s d):∃i g m:Int,w.cell? (aD b 0)=some lv/\w.cell? (aD b 1)=some (Vi i)/\w.cell? (aD b 2)=some (Vi ((l.length-s.length:Nat):Int))/\w.cell? (aD b 3)=some (Vi g)/\w.cell? (aD b 4)=some (Vi d)/\w.cell? (aD b 5)=some (Vi m)/\b<w.heap.size:=by
 obtain⟨i,g,m,h⟩:=h;exact⟨i,g,m,h.cell 0,h.cell 1,h.cell 2,h.cell 3,h.cell 4,h.cell 5,h.lt⟩
theorem Fj (h:gu w b lv l s d):Calls prog 98 #[Vp b] w λe w'=>e=.returned (Vi (-1))/\oN w w':=by
 obtain⟨i,g,m,f,c,a,_,_,_,j⟩:=h.cells;generalize hk:l.length-s.length=k at a;have n:decide ((0:Int)<=(k:Int))=true:=by simp
 go_enter func98,ntmps98;go_wp2_with fail
 go_quiet (fail)
 go_wp2;go_ret;exact⟨rfl,uA _ _⟩
theorem fQ {g:Int}(h:St w b lv l s g d m):Calls prog 28 #[Vp b] w λe w'=>e=.returned (.tuple #[])/\gu w' b lv l s d/\Off b w w':=by
 have a:=aa h.fail;obtain⟨f,c,j,_,_,_,n⟩:=h.cells;have i:=h.1.frozen 2;generalize hk:l.length-s.length=k at c a;go_enter func28,ntmps28;go_wp2
 go_end0
 exact⟨rfl,a.1,a.2⟩
theorem SG (h:gu w b lv l s d):Calls prog 28 #[Vp b] w λe w'=>e=.returned (.tuple #[])/\w'=w:=by
 obtain⟨i,g,m,f,c,a,_,_,_,j⟩:=h.cells;generalize hk:l.length-s.length=k at a;have n:decide ((k:Int)<0)=false:=by simp
 go_enter func28,ntmps28;go_wp2
 go_end0
 exact⟨rfl,rfl⟩
theorem Jy (h:s.head?≠some c)(hc:0<=c):aW s≠c:=by
 cases s with
 |nil=>simp only[aW];omega
 |cons d t=>simpa [aW]using h
theorem dc {g:Int}(h:St w b lv l (c::t) g d m)(h0:0<=c)(h1:c<=255):Calls prog 57 #[Vp b,.int .u8 c] w λe w'=>e=.returned (.bool true)/\St w' b lv l t g d m/\Off b w w':=by
 have i:=aa h;go_enter func57,ntmps57;go_wp2_with (go_at_call 98;refine (aM i).mono ?_;rintro e q ⟨rfl,a⟩;have f:=aa (i.drn a).step;have k:=aa (Off.drn (b:=b) a);obtain⟨n,p,r,_,_,_,s⟩:=(i.out.drn a).cells;have o:=(i.drn a).1.frozen 1;have j:=(i.drn a).2.2.2.1;simp only[aW]);go_ret;exact⟨rfl,f.1,k.trans f.2⟩
theorem ep (c:Int){g:Int}(h:St w b lv l s g d m)(h0:0<=c)(h1:c<=255)(hn:s.head?≠some c):Calls prog 57 #[Vp b,.int .u8 c] w λe w'=>e=.returned (.bool false)/\oN w w':=by
 have j:=aa h;have a:=Jy hn h0;generalize hx:aW s=x at a;have k:=aa hx;have i:(x==c)=false:=zD.2 a;go_enter func57,ntmps57;go_wp2_with (go_at_call 98;refine (aM j).mono ?_;rintro e n ⟨rfl,f⟩;rw[k.out]);go_ret;exact⟨rfl,f⟩
theorem takes_bad (b:Nat)(lv:Value)(l s:LZ)(c:Int)(w:World)(h:gu w b lv l s d)(h0:0<=c)(h1:c<=255):Calls prog 57 #[Vp b,.int .u8 c] w λe w'=>e=.returned (.bool false)/\oN w w':=by
 have f:=aa h;have g:((-1:Int)==c)=false:=zD.2 (by omega);go_enter func57,ntmps57;go_wp2_with (go_at_call 98;refine (Fj f).mono ?_;rintro e i ⟨rfl,a⟩);go_ret;exact⟨rfl,a⟩
theorem qG {g:Int}(h:St w b lv l (c::t) g d m)(h0:0<=c)(h1:c<=255):Calls prog 199 #[Vp b,.int .u8 c] w λe w'=>e=.returned (.tuple #[])/\St w' b lv l t g d m/\Off b w w':=by
 have k:=aa h;go_enter func199,ntmps199;go_wp2_with (go_at_call 57;refine (dc k h0 h1).mono ?_;rintro e n ⟨rfl,a,i⟩;have f:=aa a;have j:=aa i)
 go_end0
 exact⟨rfl,f,j⟩
theorem Bn (c:Int){g:Int}(h:St w b lv l s g d m)(h0:0<=c)(h1:c<=255)(hn:s.head?≠some c):Calls prog 199 #[Vp b,.int .u8 c] w λe w'=>e=.returned (.tuple #[])/\gu w' b lv l s d/\Off b w w':=by
 have n:=aa h;have q:=aa hn;go_enter func199,ntmps199;go_wp2_with (first
  |(go_at_call 57;refine (ep _ n h0 h1 q).mono ?_;rintro e r ⟨rfl,a⟩;have k:=aa (n.drn a);have p:=aa (Off.drn (b:=b) a))
  |(go_at_call 28;refine (fQ k).mono ?_;rintro e t ⟨rfl,i,f⟩;have o:=aa i;have j:=aa f))
 go_end0
 exact⟨rfl,o,p.trans j⟩
theorem wv (c:Int)(h:gu w b lv l s d)(h0:0<=c)(h1:c<=255):Calls prog 199 #[Vp b,.int .u8 c] w λe w'=>e=.returned (.tuple #[])/\gu w' b lv l s d/\oN w w':=by
 have g:=aa h;go_enter func199,ntmps199;go_wp2_with (first
  |(go_at_call 57;refine (takes_bad _ _ _ _ _ _ g h0 h1).mono ?_;rintro e j ⟨rfl,a⟩;have f:=aa (g.off a);have i:=aa a)
  |(go_at_call 28;refine (SG f).mono ?_;rintro e k ⟨rfl,rfl⟩))
 go_end0
 exact⟨rfl,f,i⟩
def el (c:Int)(s:ByteArray):Bool:=s.data.toList.any λx=>(x.toNat:Int)==c
theorem Oy (s:ByteArray)(k:Nat)(h:k<s.size):s.data.toList.take (k+1)=s.data.toList.take k++[s[k]]:=by
 rw[yu (by simpa using h)];rfl
theorem gD (c:Int)(s:ByteArray)(w:World)(hs:s.size<=1000):Calls prog 203 #[Vi c,.string s] w λe w'=>e=.returned (.bool (el c s))/\w'=w:=by
 go_enter func203,ntmps203;go_wp2
 go_loop [5] (λi=>∃k:Nat,k<=s.size/\i=Vi k/\((s.data.toList.take k).any λx=>(x.toNat:Int)==c)=false) (λi=>s.size-(intOf i).toNat)
 case atStart=>exact⟨0,zW _,rfl,rfl⟩
 case round=>
  obtain⟨k,n,rfl,d⟩:=hrel;have f:=aa d;by_cases b:k<s.size
  ·have g:=aa (Oy s k b);have l:(0:Int)<=(s[k].toNat:Int):=zK _;have m:(s[k].toNat:Int)<=255:=by have:=s[k].toNat_lt;omega
   by_cases a:(s[k].toNat:Int)=c
   ·subst a;go_wp2;go_ret;refine⟨eM ?_,rfl⟩;unfold el;symm;rw[List.any_eq_true];exact⟨s[k],by rw[<-zj (k+1) s.data.toList,g.out];simp,by simp⟩
   ·have j:((s[k].toNat:Int)==c)=false:=zD.2 a;have h:=aa j;go_wp2
    go_round
    case rel=>exact⟨k+1,by omega,by go_num,by rw[g.out,List.any_append,f.out];simpa using h.out⟩
    case measure=>simp[intOf];omega
  ·go_wp2;go_ret;exact⟨eM (by unfold el;rw[<-f.out,yF (by simp;omega)]),rfl⟩
theorem sP (c:Int):el c { data:=#[124,38,126,42,43,63,123,125,46,92,91,93,40,41,45,94,110,116,114] }=cQ c:=by
 rw[ze];simp[el,cQ];omega
theorem Bo (c:Int):el c { data:=#[100,119,115,68,87,83] }=cF c:=by
 rw[ze];simp[el,cF];omega
theorem gn (c:Int):el c { data:=#[91,93,92,45,94] }=ej c:=by
 rw[ze];simp[el,ej];omega
theorem lm (c:Int):el c { data:=#[124,38,126,42,43,63,123,125,46,92,91,93,40,41] }=cI c:=by
 rw[ze];simp[el,cI];omega
theorem EX (c:Int)(w:World):Calls prog 221 #[Vi c] w λe w'=>e=.returned (Vi (bU c))/\w'=w:=by
 by_cases a:c=110
 ·subst a;go_enter func221,ntmps221;go_wp2;go_ret;exact⟨rfl,rfl⟩
 ·by_cases d:c=116
  ·subst d;go_enter func221,ntmps221;go_wp2;go_ret;exact⟨rfl,rfl⟩
  ·by_cases b:c=114
   ·subst b;go_enter func221,ntmps221;go_wp2;go_ret;exact⟨rfl,rfl⟩
   ·have g:(c==110)=false:=zD.2 a;have i:(c==116)=false:=zD.2 d;have h:(c==114)=false:=zD.2 b;have f:Hid (bU c=c):=by show bU c=c;unfold bU;rw[zR a,zR d,zR b]
    go_enter func221,ntmps221;go_wp2;go_ret;exact⟨mW f.symm,rfl⟩
def qH (b:Nat)(lv:Value)(l:List Int)(g d m:Int)(r:Res α)(w':World)(P:α->Prop)(Q:Prop):Prop:=match r with|.ok a s=>St w' b lv l s g d m/\P a|.bad s=>gu w' b lv l s d/\Q
theorem eX (least:Int){g:Int}(h:St w b lv l s g d m)(h0:0<=least)(h1:least<=5):Calls prog 205 #[Vp b,Vi least] w λe w'=>∃v,e=.returned v/\Off b w w'/\qH b lv l g d m (ct least s) w' (λn=>v=Vi n) (v=Vi 0):=by
 have k:=aa h;have B:=SF h;by_cases A:∃c t,s=c::t/\48+least<=c/\c<=53
 ·obtain⟨c,t,rfl,J,I⟩:=A;have y:Hid (ct least (c::t)=.ok (c-48) t):=by show _=_;simp only[ct];rw[zX ⟨J,I⟩]
  go_enter func205,ntmps205;go_wp2_with (go_at_call 98;refine (aM k).mono ?_;rintro e E ⟨rfl,a⟩;have f:=aa (k.drn a).step;have u:=aa (Off.drn (b:=b) a);obtain⟨N,L,M,_,_,_,K⟩:=(k.out.drn a).cells;have O:=(k.drn a).1.frozen 1;have F:=(k.drn a).2.2.2.1;simp only[aW]);go_ret;exact⟨_,rfl,u.trans f.2,by rw[y.out];exact⟨f.1,rfl⟩⟩
 ·have y:Hid (ct least s=.bad s):=by
   show _=_
   cases s with
   |nil=>rfl
   |cons c t=>simp only[ct];rw[zR (λq=>A ⟨c,t,rfl,q⟩)]
  have z:¬(48+least<=aW s/\aW s<=53):=by
   intro q;cases s with
   |nil=>simp[aW]at q;omega
   |cons c t=>exact A ⟨c,t,rfl,q⟩
  generalize hx:aW s=x at z B;have D:=aa hx;by_cases o:48+least<=x
  ·have r:¬x<=53:=λq=>z ⟨o,q⟩;have H:decide (x<=53)=false:=by simpa using r
   go_enter func205,ntmps205;go_wp2_with (first
    |(go_at_call 98;refine (aM k).mono ?_;rintro e E ⟨rfl,a⟩;have f:=aa (k.drn a);have u:=aa (Off.drn (b:=b) a);rw[D.out])
    |(go_at_call 28;refine (fQ f).mono ?_;rintro e G ⟨rfl,j,i⟩;have C:=aa j;have p:=aa i))
   go_ret;exact⟨_,rfl,u.trans p,by rw[y.out];exact⟨C,rfl⟩⟩
  ·have H:decide (48+least<=x)=false:=by simpa using o
   go_enter func205,ntmps205;go_wp2_with (first
    |(go_at_call 98;refine (aM k).mono ?_;rintro e E ⟨rfl,a⟩;have f:=aa (k.drn a);have u:=aa (Off.drn (b:=b) a);rw[D.out])
    |(go_at_call 28;refine (fQ f).mono ?_;rintro e G ⟨rfl,j,i⟩;have C:=aa j;have p:=aa i))
   go_ret;exact⟨_,rfl,u.trans p,by rw[y.out];exact⟨C,rfl⟩⟩
def Zd (n:Nat)(g:Nat->Bool):List Value:=(List.range (n+1)).map λj=>.bool (g j)
abbrev XN (n b:Nat):Value:=Vs b (n+1) (n+1)
def Zv (w:World)(B:Nat)(v:Value)(n k:Nat)(f:Nat->Nat->Bool)(r:List Nat):Prop:=r.length=k/\w.ownsRow B 87 1 v k (r.map (XN n))/\r.Nodup/\(∀b∈r,B<=b/\v.ownBlock≠some b)/\∀i b,r[i]?=some b->ag w b (Zd n (f i)) 4
def Zw (w:World)(B:Nat)(v:Value)(n k:Nat)(f:Nat->Nat->Bool):Prop:=∃r:List Nat,Zv w B v n k f r
def Tb (w:World)(B:Nat)(v:Value)(n:Nat)(f:Nat->Nat->Bool):Prop:=Zw w B v n (n+1) f
def upd (f:Nat->Nat->Bool)(i j:Nat)(x:Bool):Nat->Nat->Bool:=λa b=>if a=i then (if b=j then x else f a b)else f a b
def qt (a b:Nat):Bool:=decide (a=b)
def YM (fa fb:Nat->Nat->Bool)(o:Bool)(a b:Nat):Bool:=decide (a<=b)&&((fa a b&&fb a b)||(o&&(fa a b||fb a b)))
def Ty (fa fb:Nat->Nat->Bool)(i K j:Nat):Bool:=(List.range K).any λk=>decide (i<=k)&&decide (k<=j)&&fa i k&&fb k j
def behB (fa fb:Nat->Nat->Bool)(n:Nat)(i j:Nat):Bool:=Ty fa fb i (n+1) j
def aae (fa fb:Nat->Nat->Bool)(n i K j:Nat)(a b:Nat):Bool:=if a<i then behB fa fb n a b else if a=i then (if b<j then Ty fa fb i (K+1) b else Ty fa fb i K b)else false
def Xs (fa:Nat->Nat->Bool)(n:Nat):Nat->Nat->Nat->Bool
 |0=>qt
 |k+1=>behB (Xs fa n k) fa n
def YF (fa:Nat->Nat->Bool)(n:Nat):Nat->Nat->Nat->Bool
 |0=>qt
 |k+1=>YM qt (behB fa (YF fa n k) n) true
open Classical
noncomputable def mT (p:Pat)(l:List Int)(i j:Nat):Bool:=decide (i<=j/\p.Mt (sub l i j))
noncomputable def kC (ps:List Pat)(l:List Int)(i j:Nat):Bool:=decide (i<=j/\jl ps (sub l i j))
noncomputable def rR (ps:List Pat)(l:List Int)(i j:Nat):Bool:=decide (i<=j/\gy ps (sub l i j))
noncomputable def mu (ps:List Pat)(l:List Int)(i j:Nat):Bool:=decide (i<=j/\eG ps (sub l i j))
theorem kD :mT p l i j=true↔i<=j/\p.Mt (sub l i j):=by unfold mT;exact decide_eq_true_iff
theorem QU (hj:j<=l.length):qt i j=kC [] l i j:=by
 rw[ze];unfold qt kC;simp only[zY];constructor
 ·rintro rfl;exact⟨zA _,sub_self _ _⟩
 ·rintro⟨c,b⟩;have a:=uF c hj;rw[show sub l i j=[]from b]at a;simp at a;omega
theorem Xd :mT p l i j=rR [p] l i j:=by
 unfold mT rR;simp only[nO,yQ,exists_eq_left]
theorem UY :mT p l i j=mu [p] l i j:=by
 unfold mT mu;simp only[mj,yQ,forall_eq]
theorem Xe :kC ps l i j=mT (.row ps) l i j:=rfl
theorem Uz :rR ps l i j=mT (.or ps) l i j:=rfl
theorem ND :mu ps l i j=mT (.and ps) l i j:=rfl
theorem Xf :(decide (i<=j)&&!mT p l i j)=mT (.not p) l i j:=by
 rw[ze,kD];simp only[yP,Bool.not_eq_true',zY,<-yI,kD];constructor
 ·rintro⟨a,b⟩;exact⟨a,λh=>b ⟨a,h⟩⟩
 ·rintro⟨a,b⟩;exact⟨a,λh=>b h.2⟩
theorem Eh {s:LQ}(hj:j<=l.length):(match l[i]? with|some c=>decide (j=i+1)&&memB s c|none=>false)=mT (.set s) l i j:=by
 rw[ze,kD];constructor
 ·intro h;cases a:l[i]? with
  |none=>rw[a]at h;cases h
  |some c=>
   rw[a]at h;simp only[yP,zY]at h;obtain⟨rfl,k⟩:=h;exact⟨by omega,c,JM a,k⟩
 ·rintro⟨m,c,e,g⟩;have f:=uF m hj;rw[e]at f;simp at f;have b:j=i+1:=by omega
  subst b;have d:i<l.length:=by omega
  have a:=zB d;have:=JM a;rw[e]at this;simp only[zT,yK]at this;rw[a];simp[<-this,g]
theorem cC.sl {s:LQ}(h:cC w A v s):∃q,PCanon q/\told q=s/\dL w A v q:=h
theorem cC.canon {s:LQ}(h:cC w A v s):Canon s:=by obtain⟨q,a,rfl,_⟩:=h;exact fL a
theorem ul {q s:LQ}(h:dL w A v q)(hq:PCanon q)(e:told q=s):cC w A v s:=⟨q,hq,e,h⟩
theorem nu (q:LQ):(told q).length=q.length:=by simp[told]
theorem EK {a b:LQ}(ha:∀x∈a,okB x=true)(hb:∀x∈b,okB x=true):form (form a++form b)=form (a++b):=by
 have i:=gJ (gm ha).1;have g:=gJ (gm hb).1;have e:∀x∈a++b,okB x=true:=λx d=>by rcases zM.1 d with h|h;exact ha x h;exact hb x h
 have c:∀x∈form a++form b,okB x=true:=λx d=>by rcases zM.1 d with h|h;exact i x h;exact g x h
 refine jC e ⟨(gm c).1,λr f=>?_⟩;rw[(gm c).2 r f,mem_append,mem_append,(gm ha).2 r f,(gm hb).2 r f]
theorem ke {ao:OA}(l:LQ)(cap:Nat)(hcells:Rd w ao l)(hlen:l.length<=1000000)(hok:∀x∈l,okB x=true):Calls prog 236 #[.slice ao l.length cap] w λe w'=>∃v,e=.returned v/\cC w' (λk=>w.heap.size<=k) v (form l)/\Bw w w':=by
 refine (XH cap hcells hlen hok).mono ?_;rintro e w' ⟨v,c,rfl,f,a,d⟩;refine⟨v,rfl,ul f a.1 (jC hok ⟨fL a.1,λr b=>?_⟩),d⟩;rw[gb a.1 r b,a.2.1 r b,zQ]
theorem mR {s:LQ}(h:cC w A v s)(hlen:s.length<=1000000):Calls prog 220 #[v] w λe w'=>∃v',e=.returned v'/\cC w' (λk=>w.heap.size<=k) v' (dT s)/\Bw w w':=by
 obtain⟨q,b,rfl,l⟩:=h;obtain⟨m,c,rfl,a,_⟩:=(dL.sl l).rd;rw[nu]at hlen;refine (Re c a hlen b).mono ?_;rintro e w' ⟨v',rfl,i,⟨d,n,o⟩,g,j⟩;refine⟨v',rfl,ul (sm g (λk f=>f)) d (ve (fL b) (fL d) (λr a=>?_)),j⟩;rw[gb d r a,gb b r a,n _ (BW a).2.1]
theorem xP {u:Value}{s t:LQ}(h:cC w A v s)(h2:cC w A' u t)(hA:∀k,w.heap.size<=k->A k)(hs:s.length<=400000)(ht:t.length<=400000):Calls prog 219 #[v,u] w λe w'=>∃v',e=.returned v'/\cC w' A v' (form (s++t))/\Bw w w':=by
 obtain⟨q,b,rfl,d⟩:=h;obtain⟨p,f,rfl,c⟩:=h2;obtain⟨y,o,rfl,a,_⟩:=(dL.sl c).rd;rw[nu]at hs ht;refine (Zc o d hA a hs ht b f).mono ?_;rintro e w' ⟨v',m,rfl,l,⟨g,h2,z⟩,n⟩;have i:∀x∈told q++told p,okB x=true:=λx j=>by
  rcases zM.1 j with h|h
  ·exact gJ (fL b) x h
  ·exact gJ (fL f) x h
 refine⟨v',rfl,ul l g (jC i ⟨fL g,λr a=>?_⟩),n⟩;rw[gb g r a,h2,mem_append,gb b r a,gb f r a]
theorem sN (w:World)(x y:Int):Rd (w.alloc (.cells #[Vi x,Vi y] 92)) (some (aD w.heap.size 0)) [(x,y)]:=by
 intro i z a
 match i,a with
 |0,a=>simp at a;subst a;exact⟨_,_,rfl,by simp,by simp,by simp⟩
theorem pS (c:Int)(w:World)(hc:runeB c=true):Calls prog 204 #[Vi c] w λe w'=>∃v,e=.returned v/\cC w' (λk=>w.heap.size<=k) v [(c,c)]/\Bw w w':=by
 have d:=aa hc;have g:=(rune_iff c).1 hc;go_enter func204,ntmps204;go_wp2_with (go_at_call 223;refine (PU _ _ (by omega) (by omega)).mono ?_;rintro e w' ⟨rfl,rfl⟩);go_ret;obtain⟨f,b,h⟩:=BW d.out;refine⟨_,rfl,ul (q:=[(up c,up c)]) (.inr ⟨_,0,1,rfl,by simp,zA _,by simp,sN _ _ _⟩) ⟨λx a=>by simp at a;subst a;exact⟨b.1,yv _,b.2⟩,by simp⟩ (by simp[told,f]),(zE _ _).alloc (zA _) _⟩
theorem Vq (w:World):Calls prog 201 #[] w λe w'=>∃v,e=.returned v/\cC w' (λk=>w.heap.size<=k) v tm/\Bw w w':=by
 go_enter func201,ntmps201;go_wp2_with (first
  |(go_at_call 204;refine (pS _ _ (by decide)).mono ?_;rintro e o ⟨m,rfl,b,c⟩;have j:=aa b;have g:=aa c)
  |(go_at_call 220;refine (mR j (by decide)).mono ?_;rintro e n ⟨l,rfl,a,d⟩;have f:=aa a;have h:=aa d))
 go_ret;exact⟨_,rfl,f.mono (λk _ i=>zJ g.size i),g.trans (h.mono g.size)⟩
theorem xp (w:World)(l:LQ):Rd (w.alloc (.cells (aE l).toArray 92)) (some (aD w.heap.size 0)) l:=by
 intro i x b;have a:=jh b;refine⟨_,_,rfl,by simp,?_,?_⟩
 ·rw[(ag.new w (aE l) 92).cell];simpa using a.1
 ·rw[(ag.new w (aE l) 92).cell];simpa using a.2
theorem GU:form [(48,57)]=jI:=by decide
theorem KE:form [(48,57),(65,90),(97,122),(95,95)]=jT:=by decide
theorem GV:form [(9,10),(13,13),(32,32)]=jJ:=by decide
theorem IY (w:World):Calls prog 222 #[Vi 100] w λe w'=>∃v,e=.returned v/\cC w' (λk=>w.heap.size<=k) v jI/\Bw w w':=by
 go_enter func222,ntmps222;go_wp2_with (go_at_call 236;refine (ke [(48,57)] _ (xp w [(48,57)]) (by decide) (by decide)).mono ?_;rintro e h ⟨i,rfl,b,a⟩;have g:=aa b;have c:=aa a);go_ret;have e:=g.out;rw[GU]at e;have f:=((zE _ w).alloc (zA _) _).trans (c.mono (by simp));exact⟨_,rfl,e.mono (λk _ d=>by simp at d;omega),f⟩
theorem IZ (w:World):Calls prog 222 #[Vi 119] w λe w'=>∃v,e=.returned v/\cC w' (λk=>w.heap.size<=k) v jT/\Bw w w':=by
 go_enter func222,ntmps222;go_wp2_with (go_at_call 236;refine (ke [(48,57),(65,90),(97,122),(95,95)] _ (xp w [(48,57),(65,90),(97,122),(95,95)]) (by decide) (by decide)).mono ?_;rintro e h ⟨i,rfl,b,a⟩;have g:=aa b;have c:=aa a);go_ret;have e:=g.out;rw[KE]at e;have f:=((zE _ w).alloc (zA _) _).trans (c.mono (by simp));exact⟨_,rfl,e.mono (λk _ d=>by simp at d;omega),f⟩
theorem Ja (w:World):Calls prog 222 #[Vi 115] w λe w'=>∃v,e=.returned v/\cC w' (λk=>w.heap.size<=k) v jJ/\Bw w w':=by
 go_enter func222,ntmps222;go_wp2_with (go_at_call 236;refine (ke [(9,10),(13,13),(32,32)] _ (xp w [(9,10),(13,13),(32,32)]) (by decide) (by decide)).mono ?_;rintro e h ⟨i,rfl,b,a⟩;have g:=aa b;have c:=aa a);go_ret;have e:=g.out;rw[GV]at e;have f:=((zE _ w).alloc (zA _) _).trans (c.mono (by simp));exact⟨_,rfl,e.mono (λk _ d=>by simp at d;omega),f⟩
theorem US (w:World):Calls prog 222 #[Vi 68] w λe w'=>∃v,e=.returned v/\cC w' (λk=>w.heap.size<=k) v (dT jI)/\Bw w w':=by
 go_enter func222,ntmps222;go_wp2_with (first
  |(go_at_call 222;refine (IY _).mono ?_;rintro e m ⟨o,rfl,d,b⟩;have j:=aa d;have f:=aa b)
  |(go_at_call 220;refine (mR j (by decide)).mono ?_;rintro e l ⟨n,rfl,c,a⟩;have h:=aa c;have g:=aa a))
 go_ret;exact⟨_,rfl,h.mono (λk _ i=>zJ f.size i),f.trans (g.mono f.size)⟩
theorem UT (w:World):Calls prog 222 #[Vi 87] w λe w'=>∃v,e=.returned v/\cC w' (λk=>w.heap.size<=k) v (dT jT)/\Bw w w':=by
 go_enter func222,ntmps222;go_wp2_with (first
  |(go_at_call 222;refine (IZ _).mono ?_;rintro e m ⟨o,rfl,d,b⟩;have j:=aa d;have f:=aa b)
  |(go_at_call 220;refine (mR j (by decide)).mono ?_;rintro e l ⟨n,rfl,c,a⟩;have h:=aa c;have g:=aa a))
 go_ret;exact⟨_,rfl,h.mono (λk _ i=>zJ f.size i),f.trans (g.mono f.size)⟩
theorem UU (w:World):Calls prog 222 #[Vi 83] w λe w'=>∃v,e=.returned v/\cC w' (λk=>w.heap.size<=k) v (dT jJ)/\Bw w w':=by
 go_enter func222,ntmps222;go_wp2_with (first
  |(go_at_call 222;refine (Ja _).mono ?_;rintro e m ⟨o,rfl,d,b⟩;have j:=aa d;have f:=aa b)
  |(go_at_call 220;refine (mR j (by decide)).mono ?_;rintro e l ⟨n,rfl,c,a⟩;have h:=aa c;have g:=aa a))
 go_ret;exact⟨_,rfl,h.mono (λk _ i=>zJ f.size i),f.trans (g.mono f.size)⟩
theorem Nn (c:Int)(w:World)(hc:cF c=true):Calls prog 222 #[Vi c] w λe w'=>∃v,e=.returned v/\cC w' (λk=>w.heap.size<=k) v (eF c)/\Bw w w':=by
 rcases io hc with rfl|rfl|rfl|rfl|rfl|rfl
 ·exact IY w
 ·exact IZ w
 ·exact Ja w
 ·exact US w
 ·exact UT w
 ·exact UU w
set_option maxHeartbeats 4000000
theorem St.below {w w':World}{b:Nat}{lv:Value}{l s:LZ}{g d m:Int}(h:St w b lv l s g d m)(k:Bw w w'):St w' b lv l s g d m :=
 ⟨h.1.below k,h.2.1,cB.keep h.2.2.1 (ah.below k),h.2.2.2⟩
theorem gu.below {w w':World}{b:Nat}{lv:Value}{l s:LZ}{d:Int}(h:gu w b lv l s d)(k:Bw w w'):gu w' b lv l s d:=by
 obtain⟨i,g,m,a⟩:=h;exact⟨i,g,m,a.below k⟩
def Zf (w':World)(A:Nat->Prop)(v:Value)(f:Bool)(r:Int ⊕ List (Int×Int)):Prop:=match r with|.inl a=>f=true/\cC w' A v [(a,a)]/\runeB a=true|.inr L=>f=false/\cC w' A v L
theorem pG (h:cQ c=true):runeB (bU c)=true:=uP (by have:=fJ h;omega) (fJ h).2
theorem FS {q:LZ}{g:Int}{R:Res α}{P:α->Prop}{Q:Prop}(h:gu w b lv l q d)(hr:R=.bad q)(hq:Q):qH b lv l g d m R w P Q:=by
 rw[hr];exact⟨h,hq⟩
theorem JY {q:LZ}{g:Int}{R:Res α}{x:α}{P:α->Prop}{Q:Prop}(h:St w b lv l q g d m)(hr:R=.ok x q)(hp:P x):qH b lv l g d m R w P Q:=by
 rw[hr];exact⟨h,hp⟩
set_option linter.unusedSimpArgs false
theorem fd {g:Int}(h:St w b lv l s g d m):Calls prog 202 #[Vp b,.bool true] w λe w'=>∃v f,e=.returned (.tuple #[v,.bool f])/\Off b w w'/\qH b lv l g d m (dx s) w' (λr=>Zf w' (λk=>w.heap.size<=k) v f r) (v=Vz/\f=false):=by
 have n:=aa h;have p:=aa (Off.refl b w);have j:=h.2.2.2.2.1.suf h.2.1;have O:decide ((0:Int)<=-1)=false:=by decide
 rcases s with _|⟨c,t⟩
 all_goals try
  have H:(0:Int)<=c:=by have:=(rune_iff c).1 j.head;omega
  cases hs:cQ c<;>cases y:cF c
 all_goals clear h j;go_enter func202,ntmps202
 all_goals go_wp2_with (first
  |(go_at_call 98;refine (aM n).mono ?_;rintro e R ⟨rfl,q⟩;replace n:=aa (n.drn q);replace p:=aa (p.trans (Off.drn q));obtain⟨M,G,I,N,J,Q,L⟩:=n.out.cells;have P:=n.1.frozen 1;have B:=n.2.2.2.1;simp only[aW])
  |(go_at_call 203;refine (gD _ _ _ (by decide)).mono ?_;rintro e D ⟨rfl,rfl⟩;simp only[sP,Bo])
  |(go_at_call 221;refine (EX _ _).mono ?_;rintro e D ⟨rfl,rfl⟩)
  |(go_at_call 204;refine (pS _ _ (pG hs)).mono ?_;rintro e E ⟨F,rfl,a,i⟩;have z:=aa a;have o:=aa i)
  |(go_at_call 222;refine (Nn _ _ y).mono ?_;rintro e E ⟨F,rfl,a,i⟩;have z:=aa a;have o:=aa i)
  |(go_at_call 28;refine (fQ n).mono ?_;rintro e K ⟨rfl,x,u⟩;have C:=aa x;replace p:=aa (p.trans u)))
 all_goals go_ret2
 all_goals first
  |exact⟨_,_,rfl,p,FS C (by simp[*,dx]) ⟨rfl,rfl⟩⟩
  |(have S:=n.step;have A:cC _ (λk=>w.heap.size<=k) _ _:=z.mono (λk _ y=>by have:=p.size;simp at y;omega);exact⟨_,_,rfl,(p.trans S.2).trans (Off.below o),JY (S.1.below o) (show _=Res.ok (if cQ c then .inl (bU c)else .inr (eF c)) t by simp[*,dx]) (by simp only[hs];first|exact⟨rfl,A,pG hs⟩|exact⟨rfl,A⟩)⟩)
theorem mM (least:Int){g:Int}(h:St w b lv l s g d m):Calls prog 235 #[Vp b,Vi least] w λe w'=>∃x:Int,e=.returned (Vi x)/\Off b w w'/\qH b lv l g d m (bM least s) w' (λy=>x=y) (x=least):=by
 have a:=aa h;have k:=aa (Off.refl b w);have i:=h.2.2.2.2.1.suf h.2.1;have O:decide ((0:Int)<=-1)=false:=by decide
 have L:ej 92=true:=by decide
 rcases s with _|⟨c,t⟩
 all_goals try
  have M:(0:Int)<=c:=by have:=(rune_iff c).1 i.head;omega
  have j:=i.tail;by_cases o:c=92
 all_goals try
  have D:(c==92)=false:=zD.2 o;cases hi:ej c<;>cases hg:decide (least<=c)
 all_goals try
  subst o;cases hle:decide (least<=126)<;>rcases t with _|⟨r,u⟩
 all_goals try
  have J:(0:Int)<=r:=by have:=(rune_iff r).1 j.head;omega
  cases hs:cQ r<;>cases hge:decide (least<=bU r)
 all_goals try clear j
 all_goals clear h i;go_enter func235,ntmps235
 all_goals go_wp2_with (first
  |(go_at_call 98;refine (aM a).mono ?_;rintro e P ⟨rfl,f⟩;replace a:=aa (a.drn f);replace k:=aa (k.trans (Off.drn f));obtain⟨C,v,z,E,A,G,B⟩:=a.out.cells;have F:=a.1.frozen 1;have n:=a.2.2.2.1;simp only[aW])
  |(go_at_call 98;refine (aM (a.step).1).mono ?_;rintro e K ⟨rfl,f⟩;replace k:=aa ((k.trans a.step.2).trans (Off.drn f));replace a:=aa ((a.step).1.drn f);obtain⟨C,v,z,E,A,G,B⟩:=a.out.cells;have F:=a.1.frozen 1;have n:=a.2.2.2.1;simp only[aW])
  |(go_at_call 203;refine (gD _ _ _ (by decide)).mono ?_;rintro e I ⟨rfl,rfl⟩;simp only[sP,gn])
  |(go_at_call 221;refine (EX _ _).mono ?_;rintro e I ⟨rfl,rfl⟩)
  |(go_at_call 28;refine (fQ a).mono ?_;rintro e N ⟨rfl,q,p⟩;have H:=aa q;replace k:=aa (k.trans p)))
 all_goals go_ret
 all_goals first
  |exact⟨_,rfl,k,FS H (by simp only[yr,zY]at *;simp[*,bM,fu]) rfl⟩
  |(have S:=a.step;exact⟨_,rfl,k.trans S.2,JY S.1 (by simp only[zY]at *;simp[*,bM,fu]) rfl⟩)
theorem sX {a:Int}(h:cC w A v [(a,a)]):∃b1 off1 cap1 x1,v=.slice (some (aD b1 off1)) 1 cap1/\w.cell? (aD b1 off1)=some (Vi x1)/\back x1=a/\0<=x1/\x1<=1112063/\b1<w.heap.size:=by
 obtain⟨q,l,e,j⟩:=h.sl;cases q with
 |nil=>simp[told]at e
 |cons x q=>
  cases q with
  |cons y q=>simp[told]at e
  |nil=>
   simp[told]at e;rcases j with⟨_,m⟩|⟨b1,off1,cap1,rfl,n,_,b,g⟩
   ·cases m
   ·obtain⟨o,c,i,f,k,p⟩:=g 0 x rfl;cases i;have d:=l.1 x (by simp);exact⟨b1,off1,cap1,x.1,rfl,by simpa using k,e.1,d.1,by have:=d.2;omega,b⟩
theorem sY (n:Int)(w:World)(h0:0<=n)(h1:n<=1112063):Calls prog 32 #[Vi n] w λe w'=>e=.returned (Vi (back n))/\w'=w:=FY n w h0 (by omega)
theorem Fh {a:Int}(h:runeB a=true):form [(a,a)]=[(a,a)]:=jf (mo h)
theorem rT (a b:Int):(form [(a,b)]).length<=1:=dr [(a,b)]
theorem nF (w:World)(A:NP):cC w A (Vz) []:=⟨[],pcanon_nil,rfl,.inl ⟨rfl,rfl⟩⟩
def YG (w':World)(A:Nat->Prop)(v:Value):Prop:=∃s0,cC w' A v s0/\s0.length<=1
theorem IF {a:Int}(hal:dh t)(ha:runeB a=true):(t.head?≠some 45/\bS a t=.ok [(a,a)] t)\/(∃u u',t=45::u/\bM a u=.bad u'/\bS a t=.bad u'/\∀x∈[(a,a)],okB x=true)\/∃u u' c,t=45::u/\bM a u=.ok c u'/\bS a t=.ok [(a,c)] u'/\∀x∈[(a,c)],okB x=true:=by
 cases t with
 |nil=>exact .inl ⟨by simp,rfl⟩
 |cons e u=>
  by_cases h:e=45
  ·subst h;have b:=jM (least:=a) hal.tail;cases hs:bM a u with
   |bad q=>exact .inr (.inl ⟨u,q,rfl,hs,by simp only[bS,yd,hs,Res.map],lG ha ha (yv a)⟩)
   |ok c q=>rw[hs]at b;exact .inr (.inr ⟨u,q,c,rfl,hs,by simp only[bS,yd,hs,Res.map],lG ha b.2 b.1⟩)
  ·exact .inl ⟨by simpa using h,by simp only[bS];rw[zR h]⟩
theorem WB (hal:dh s):(s=[]/\cq s=.bad [])\/(∃c t,s=c::t/\(0:Int)<=c/\(c==92)=false/\ej c=true/\cq s=.bad s)\/(∃t q,s=92::t/\dx t=.bad q/\cq s=.bad q)\/(∃t q L,s=92::t/\dx t=.ok (.inr L) q/\cq s=.ok L q)\/∃a q,runeB a=true/\dh q/\cq s=bS a q/\((∃t,s=92::t/\dx t=.ok (.inl a) q)\/(s=a::q/\(0:Int)<=a/\(a==92)=false/\ej a=false)):=by
 cases s with
 |nil=>exact .inl ⟨rfl,rfl⟩
 |cons c t=>
  have d:(0:Int)<=c:=by have:=(rune_iff c).1 hal.head;omega
  by_cases h:c=92
  ·subst h;have f:=qW t;cases he:dx t with
   |bad q=>exact .inr (.inr (.inl ⟨t,q,rfl,he,by simp only[cq,yd,he,Res.bind]⟩))
   |ok r q=>
    rw[he]at f;cases r with
    |inr L=>exact .inr (.inr (.inr (.inl ⟨t,q,L,rfl,he,by simp only[cq,yd,he,Res.bind]⟩)))
    |inl a=>
     refine .inr (.inr (.inr (.inr ⟨a,q,?_,hal.tail.suf f.2,by simp only[cq,yd,he,Res.bind],.inl ⟨t,rfl,he⟩⟩)));cases t with
     |nil=>simp[dx]at he
     |cons e u=>
      simp only[dx]at he
      split at he
      ·rename_i hs;cases he;exact pG hs
      ·split at he<;>cases he
  ·have b:=zD.2 h;cases hi:ej c with
   |true=>exact .inr (.inl ⟨c,t,rfl,d,b,hi,by simp[cq,h,hi]⟩)
   |false=>exact .inr (.inr (.inr (.inr ⟨c,t,hal.head,hal.tail,by simp[cq,h,hi],.inr ⟨rfl,d,b,hi⟩⟩)))
theorem qO {g:Int}(h:St w b lv l s g d m):Calls prog 218 #[Vp b] w λe w'=>∃v,e=.returned v/\Off b w w'/\qH b lv l g d m (cq s) w' (λx=>cC w' (λk=>w.heap.size<=k) v (form x)) (YG w' (λk=>w.heap.size<=k) v):=by
 have f:=aa h;have j:=aa (Off.refl b w);have hd:decide ((0:Int)<=-1)=false:=by decide
 have K:=WB (h.2.2.2.2.1.suf h.2.1);rcases K with⟨rfl,z⟩|⟨c,t,rfl,h0,D,hi,z⟩|⟨t,q,rfl,V,z⟩|⟨t,q,L,rfl,V,z⟩|⟨a,q,r,R,z,⟨t,rfl,V⟩|⟨rfl,h0,D,hi⟩⟩
 all_goals try
  replace r:=aa r;rcases IF R r.out with⟨HN,n⟩|⟨u,q2,rfl,A,n,B⟩|⟨u,q2,c2,rfl,A,n,B⟩
 all_goals replace z:=aa z
 all_goals try replace n:=aa n
 all_goals try replace V:=aa V
 all_goals try replace HN:=aa HN
 all_goals try replace A:=aa A
 all_goals try replace B:=aa B
 all_goals try clear R
 all_goals go_enter func218,ntmps218
 all_goals go_wp2_with (first
  |(go_at_call 98;refine (aM f).mono ?_;rintro e wn ⟨rfl,E⟩;replace f:=aa (f.drn E);replace j:=aa (j.trans (Off.drn E));obtain⟨c0,Z,c2,c3,Y,c5,hb⟩:=f.out.cells;have hf:=f.1.frozen 1;have U:=f.2.2.2.1;simp only[aW])
  |(go_at_call 203;refine (gD _ _ _ (by decide)).mono ?_;rintro e wa ⟨rfl,rfl⟩;simp only[gn])
  |(go_at_call 28;refine (fQ f).mono ?_;rintro e wf ⟨rfl,Q,P⟩;replace f:=aa Q;replace j:=aa (j.trans P))
  |(go_at_call 202;refine (fd f.step.1).mono ?_;rintro e we ⟨v1,f1,rfl,N,C⟩;have HW:=aa j.size;replace j:=aa ((j.trans f.step.2).trans N);rw[V.out]at C;first
   |(obtain⟨i,rfl,rfl⟩:=C;replace f:=aa i)
   |(obtain⟨i,rfl,y,_⟩:=C;obtain⟨b1,a3,a2,x1,rfl,a4,S,a0,a1,F⟩:=sX y;have X:=aa S;replace f:=aa i;obtain⟨c0,Z,c2,c3,Y,c5,hb⟩:=f.out.cells)
   |(obtain⟨i,rfl,y⟩:=C;have G:=aa y;replace f:=aa i))
  |(go_at_call 32;refine (sY _ _ a0 a1).mono ?_;rintro e wb ⟨rfl,rfl⟩;rw[X.out])
  |(go_at_call 57;(try (have _:=D;replace j:=aa (j.trans f.step.2);replace f:=aa f.step.1));first
   |(refine (ep _ f (by decide) (by decide) HN).mono ?_;rintro e wt ⟨rfl,o⟩;replace j:=aa (j.trans (Off.drn o));replace f:=aa (f.drn o))
   |(refine (dc f (by decide) (by decide)).mono ?_;rintro e wt ⟨rfl,o,I⟩;replace j:=aa (j.trans I);replace f:=aa o))
  |(go_at_call 235;refine (mM _ f).mono ?_;rintro e ws ⟨xs,rfl,T,M⟩;replace j:=aa (j.trans T);rw[A.out]at M;obtain⟨i,rfl⟩:=M;replace f:=aa i)
  |(go_at_call 236;refine (ke [(_,_)] _ (sN _ _ _) (by simp) B).mono ?_;rintro e wo ⟨v2,rfl,H,J⟩;have G:=aa H;have p:=aa J)
  |(go_at_call 204;refine (pS _ _ r).mono ?_;rintro e wo ⟨v1,rfl,O,F⟩;have G:=aa O;have p:=aa F))
 all_goals go_ret
 all_goals first
  |exact⟨_,rfl,j,FS f z ⟨[],nF _ _,by simp⟩⟩
  |exact⟨_,rfl,j,JY f z (by show cC _ _ _ (form _);rw[jf G.out.canon];exact G.mono (λk _ W=>by have:=HW.out;simp[World.setCell]at W;omega))⟩
  |exact⟨_,rfl,j.trans (Off.below p),JY (f.below p) (z.trans n) (by show cC _ _ _ (form _);rw[Fh r.out];exact G.mono (λk _ W=>by have:=j.size;omega))⟩
  |(refine⟨_,rfl,j.trans ((Off.refl _ _).alloc _ |>.trans (Off.below p)),?_⟩;have HX:cC _ (λk=>w.heap.size<=k) _ _:=G.mono (λk _ W=>by have:=j.size;simp at W;omega);first|exact FS ((f.below ((zE _ _).alloc (zA _) _)).below p) (z.trans n) ⟨_,HX,rT _ _⟩|exact JY ((f.below ((zE _ _).alloc (zA _) _)).below p) (z.trans n) HX)
def YR (w:World)(b:Nat)(lv:Value)(l:List Int)(g d m:Int)(R:Res (List (Int×Int)))(k:Nat)(v:Value)(wr:World):Prop :=
 Off b w wr/\((∃l0 s0,St wr b lv l s0 g d m/\cC wr (λk=>w.heap.size<=k) v (form l0)/\ba k l0 s0=R/\(∀x∈l0,okB x=true)/\l0.length+5*s0.length<=400/\s0.length<k) \/
  (∃s' t',gu wr b lv l s' d/\R=.bad s'/\cC wr (λk=>w.heap.size<=k) v t'/\t'.length<=500))
def YS (b:Nat)(lv:Value)(l:List Int)(g d m:Int)(w w':World)(v:Value)(f:List (Int×Int)->List (Int×Int))(R:Res (List (Int×Int))):Prop :=
 Off b w w'/\qH b lv l g d m (R.map f) w' (λx=>cC w' (λk=>w.heap.size<=k) v x) (Kz v)
theorem pC:∀(n:Nat) (l:LQ) (s:LZ),s.length<n->ba n l s=ba (n+1) l s
 |0,_,s,h=>by omega
 |n+1,l,s,h=>by
  rw[ba,ba]
  split
  ·rfl
  ·have a:=fT s;cases hi:cq s with
   |bad s'=>rfl
   |ok x s'=>
    rw[hi]at a;have:=a.1;exact pC n _ s' (by omega)
theorem FA {s1:LZ}{g:Int}(h:St w b lv l (94::s1) g d m):Calls prog 200 #[Vp b] w λe w'=>∃v,e=.returned v/\YS b lv l g d m w w' v (λx=>dT (form x)) (ba (s1.length+2) [] s1):=by
 have o:=aa h;have i:=aa (Off.refl b w);have T:=aa h.1.lt;have b1:=h.2.2.2.1;have a6:=h.2.1.length_le
 skip
 generalize Y:ba (s1.length+2) [] s1=R;have X:=aa Y;go_enter func200,ntmps200;go_wp2_with (go_at_call 57;refine (dc o (by decide) (by decide)).mono ?_;rintro e wt ⟨rfl,a,r⟩;replace o:=aa a;replace i:=aa (i.trans r))
 go_loopg [4] (s1.length+2) (λk v wr=>YR w b lv l g d m R k v wr)
 case atStart=>exact⟨i,.inl ⟨[],s1,o,nF _ _,X,by simp,by simp at a6 ⊢;omega,by omega⟩⟩
 case round=>
  obtain⟨ho,P⟩:=hrel;have i:=aa ho;rcases P with⟨s,s0,f,C,Z,a0,a8,hk⟩|⟨s',t',B,Y,C,ht⟩
  ·obtain⟨c0,c1,c2,c3,c4,c5,hb⟩:=f.cells;have q:=f.2.2.2.2.1.suf f.2.1;have o:=aa f;have E:=aa C;have HE:=aa Z;have a1:=aa a0;have b0:=aa a8;have M:Hid ((form s).length<=1000000):=by have:=dr s;show _<=_;omega
   obtain⟨W,rfl⟩:∃W,gk=W+1:=⟨gk-1,by omega⟩;by_cases j:s0.head?=some 93
   ·obtain⟨u,rfl⟩:∃u,s0=93::u:=by cases s0 with|nil=>simp at j|cons c t=>simp at j;exact⟨t,by rw[j]⟩
    have HR:Hid (R.map (λx=>dT (form x))=.ok ((λx=>dT (form x)) s) u):=by
     have:=HE.out;simp only[ba,yx,yd,yt]at this;show _=_
     rw[<-this];rfl
    go_wp2_with (first
     |(go_at_call 57;refine (dc o (by decide) (by decide)).mono ?_;rintro e wt ⟨rfl,a,r⟩;replace o:=aa a;replace i:=aa (i.trans r);replace E:=aa (E.keep (ah.off r (yz T))))
     |(go_at_call 220;refine (mR E M).mono ?_;rintro e wz ⟨v4,rfl,G,H⟩;have S:=aa G;have z:=aa H))
    go_ret;exact⟨_,rfl,i.trans (Off.below z),by rw[HR.out];exact⟨o.below z,S.mono (λk _ hk=>by have:=i.size;omega)⟩⟩
   ·have L:=aa j;have I:=kO q;have K:=fT s0;cases hi:cq s0 with
    |ok x s2=>
     have V:=aa hi;rw[hi]at I K;have N:=aa I;have Q:Hid ((form s).length<=400000):=by have:=dr s;show _<=_;omega
     have a9:Hid ((form x).length<=400000):=by have:=dr x;have:=I.2;show _<=_;simp at this;omega
     have a4:Hid (ba W (s++x) s2=R):=by
      have:=HE.out;simp only[ba,zR j,hi,Res.bind]at this;exact this
     have a3:=aa K.1;go_wp2_with (first
      |(go_at_call 57;refine (ep _ o (by decide) (by decide) L).mono ?_;rintro e wt ⟨rfl,a⟩;replace o:=aa (o.drn a);replace i:=aa (i.trans (Off.drn a));replace E:=aa (E.keep (ah.below a.below)))
      |(go_at_call 218;refine (qO o).mono ?_;rintro e wi ⟨vi,rfl,n,F⟩;have U:=aa (E.keep (ah.off n (yz T)));replace i:=aa (i.trans n);have HZ:=aa n.size;rw[V.out]at F;obtain⟨f,p⟩:=F;replace o:=aa f;have HX:=aa p)
      |(go_at_call 219;refine (xP U HX (λk hk=>zJ i.size hk) Q a9).mono ?_;rintro e a2 ⟨v3,rfl,D,A⟩;have O:=aa D;have J:=aa A))
     have HF:=aa (EK a1 N.1)
     go_roundg W
     case measure=>omega
     case rel=>
      refine⟨i.trans (Off.below J),.inl ⟨s++x,s2,o.below J,?_,a4,?_,?_,?_⟩⟩
      ·rw[<-HF.out];exact O
      ·intro y hy;rcases zM.1 hy with hy|hy
       ·exact a1 y hy
       ·exact N.1 y hy
      ·have:=b0.out;have:=N.2;rw[zH];omega
      ·have:=a3.out;omega
    |bad s2=>
     have V:=aa hi;have Q:Hid ((form s).length<=400000):=by have:=dr s;show _<=_;omega
     have a7:Hid (R=.bad s2):=by
      have:=HE.out;simp only[ba,zR j,hi,Res.bind]at this;exact this.symm
     have a5:Hid ((form s).length<=400):=by have:=dr s;show _<=_;omega
     go_wp2_with (first
      |(go_at_call 57;refine (ep _ o (by decide) (by decide) L).mono ?_;rintro e wt ⟨rfl,a⟩;replace o:=aa (o.drn a);replace i:=aa (i.trans (Off.drn a));replace E:=aa (E.keep (ah.below a.below)))
      |(go_at_call 218;refine (qO o).mono ?_;rintro e wi ⟨vi,rfl,n,F⟩;have U:=aa (E.keep (ah.off n (yz T)));replace i:=aa (i.trans n);have HZ:=aa n.size;rw[V.out]at F;obtain⟨f,t2,p,b2⟩:=F;have HB:=aa f;have HX:=aa p)
      |(go_at_call 219;refine (xP U HX (λk hk=>zJ i.size hk) Q (by omega)).mono ?_;rintro e a2 ⟨v3,rfl,D,A⟩;have O:=aa D;have J:=aa A))
     go_roundg W
     case measure=>omega
     case rel=>
      refine⟨i.trans (Off.below J),.inr ⟨s2,_,HB.below J,a7,O,?_⟩⟩;have:=a5.out;have h3:=dr (form s++t2);rw[zH]at h3;omega
  ·obtain⟨i0,g0,m0,c0,c1,c2,c3,c4,c5,hb⟩:=B.cells;have HB:=aa B;have E:=aa C;have HR:Hid (R.map (λx=>dT (form x))=.bad s'):=by show _=_;rw[Y];rfl
   have M:Hid (t'.length<=1000000):=by show _<=_;omega
   generalize l.length-s'.length=kk at c2;have hd:decide ((kk:Int)<0)=false:=by simp
   go_wp2_with (go_at_call 220;refine (mR E M).mono ?_;rintro e wz ⟨v4,rfl,G,H⟩;have S:=aa G;have z:=aa H);go_ret;exact⟨_,rfl,i.trans (Off.below z),by rw[HR.out];exact⟨HB.below z,kl S⟩⟩
theorem FB {s1:LZ}{g:Int}(h:St w b lv l s1 g d m)(hn:s1.head?≠some 94):Calls prog 200 #[Vp b] w λe w'=>∃v,e=.returned v/\YS b lv l g d m w w' v form (ba (s1.length+2) [] s1):=by
 have o:=aa h;have i:=aa (Off.refl b w);have N:=aa h.1.lt;have b0:=h.2.2.2.1;have a5:=h.2.1.length_le;have HN:=aa hn;generalize T:ba (s1.length+2) [] s1=R;have S:=aa T;go_enter func200,ntmps200;go_wp2_with (go_at_call 57;refine (ep _ o (by decide) (by decide) HN).mono ?_;rintro e wt ⟨rfl,a⟩;replace o:=aa (o.drn a);replace i:=aa (i.trans (Off.drn a)))
 go_loopg [4] (s1.length+2) (λk v wr=>YR w b lv l g d m R k v wr)
 case atStart=>exact⟨i,.inl ⟨[],s1,o,nF _ _,S,by simp,by simp at a5 ⊢;omega,by omega⟩⟩
 case round=>
  obtain⟨ho,K⟩:=hrel;have i:=aa ho;rcases K with⟨r,Y,f,A,U,V,a7,Z⟩|⟨s',t',z,T,A,ht⟩
  ·obtain⟨c0,c1,c2,c3,c4,c5,hb⟩:=f.cells;have q:=f.2.2.2.2.1.suf f.2.1;have o:=aa f;have C:=aa A;have HE:=aa U;have W:=aa V;have a9:=aa a7;have a1:Hid ((form r).length<=1000000):=by have:=dr r;show _<=_;omega
   obtain⟨Q,rfl⟩:∃Q,gk=Q+1:=⟨gk-1,by omega⟩;by_cases j:Y.head?=some 93
   ·obtain⟨u,rfl⟩:∃u,Y=93::u:=by cases Y with|nil=>simp at j|cons c t=>simp at j;exact⟨t,by rw[j]⟩
    have HR:Hid (R.map form=.ok (form r) u):=by
     have:=HE.out;simp only[ba,yx,yd,yt]at this;show _=_
     rw[<-this];rfl
    go_wp2_with (go_at_call 57;refine (dc o (by decide) (by decide)).mono ?_;rintro e wt ⟨rfl,a,L⟩;replace o:=aa a;replace i:=aa (i.trans L);replace C:=aa (C.keep (ah.off L (yz N))));go_ret;exact⟨_,rfl,i,by rw[HR.out];exact⟨o,C⟩⟩
   ·have H:=aa j;have E:=kO q;have G:=fT Y;cases hi:cq Y with
    |ok x s2=>
     have P:=aa hi;rw[hi]at E G;have I:=aa E;have M:Hid ((form r).length<=400000):=by have:=dr r;show _<=_;omega
     have a8:Hid ((form x).length<=400000):=by have:=dr x;have:=E.2;show _<=_;simp at this;omega
     have a3:Hid (ba Q (r++x) s2=R):=by
      have:=HE.out;simp only[ba,zR j,hi,Res.bind]at this;exact this
     have a2:=aa G.1;go_wp2_with (first
      |(go_at_call 57;refine (ep _ o (by decide) (by decide) H).mono ?_;rintro e wt ⟨rfl,a⟩;replace o:=aa (o.drn a);replace i:=aa (i.trans (Off.drn a));replace C:=aa (C.keep (ah.below a.below)))
      |(go_at_call 218;refine (qO o).mono ?_;rintro e wi ⟨vi,rfl,n,D⟩;have O:=aa (C.keep (ah.off n (yz N)));replace i:=aa (i.trans n);have HZ:=aa n.size;rw[P.out]at D;obtain⟨f,p⟩:=D;replace o:=aa f;have HX:=aa p)
      |(go_at_call 219;refine (xP O HX (λk Z=>zJ i.size Z) M a8).mono ?_;rintro e a0 ⟨v3,rfl,B,s⟩;have J:=aa B;have F:=aa s))
     have HF:=aa (EK W I.1)
     go_roundg Q
     case measure=>omega
     case rel=>
      refine⟨i.trans (Off.below F),.inl ⟨r++x,s2,o.below F,?_,a3,?_,?_,?_⟩⟩
      ·rw[<-HF.out];exact J
      ·intro y X;rcases zM.1 X with X|X
       ·exact W y X
       ·exact I.1 y X
      ·have:=a9.out;have:=I.2;rw[zH];omega
      ·have:=a2.out;omega
    |bad s2=>
     have P:=aa hi;have M:Hid ((form r).length<=400000):=by have:=dr r;show _<=_;omega
     have a6:Hid (R=.bad s2):=by
      have:=HE.out;simp only[ba,zR j,hi,Res.bind]at this;exact this.symm
     have a4:Hid ((form r).length<=400):=by have:=dr r;show _<=_;omega
     go_wp2_with (first
      |(go_at_call 57;refine (ep _ o (by decide) (by decide) H).mono ?_;rintro e wt ⟨rfl,a⟩;replace o:=aa (o.drn a);replace i:=aa (i.trans (Off.drn a));replace C:=aa (C.keep (ah.below a.below)))
      |(go_at_call 218;refine (qO o).mono ?_;rintro e wi ⟨vi,rfl,n,D⟩;have O:=aa (C.keep (ah.off n (yz N)));replace i:=aa (i.trans n);have HZ:=aa n.size;rw[P.out]at D;obtain⟨f,t2,p,b1⟩:=D;have HB:=aa f;have HX:=aa p)
      |(go_at_call 219;refine (xP O HX (λk Z=>zJ i.size Z) M (by omega)).mono ?_;rintro e a0 ⟨v3,rfl,B,s⟩;have J:=aa B;have F:=aa s))
     go_roundg Q
     case measure=>omega
     case rel=>
      refine⟨i.trans (Off.below F),.inr ⟨s2,_,HB.below F,a6,J,?_⟩⟩;have:=a4.out;have h3:=dr (form r++t2);rw[zH]at h3;omega
  ·obtain⟨i0,g0,m0,c0,c1,c2,c3,c4,c5,hb⟩:=z.cells;have HB:=aa z;have C:=aa A;have HR:Hid (R.map form=.bad s'):=by show _=_;rw[T];rfl
   have a1:Hid (t'.length<=1000000):=by show _<=_;omega
   generalize l.length-s'.length=kk at c2;have hd:decide ((kk:Int)<0)=false:=by simp
   go_wp2_with fail;go_ret;exact⟨_,rfl,i,by rw[HR.out];exact⟨HB,kl C⟩⟩
theorem tA {g:Int}(h:St w b lv l s g d m):Calls prog 200 #[Vp b] w λe w'=>∃v,e=.returned v/\Off b w w'/\qH b lv l g d m (cJ s) w' (λx=>cC w' (λk=>w.heap.size<=k) v x) (Kz v):=by
 unfold cJ;by_cases a:s.head?=some 94
 ·obtain⟨f,rfl⟩:∃t,s=94::t:=by cases s with|nil=>simp at a|cons c t=>simp at a;exact⟨t,by rw[a]⟩
  rw[zX a];exact FA h
 ·rw[zR a];refine (FB h a).mono ?_;rintro e w' ⟨v,rfl,i,j⟩;refine⟨v,rfl,i,?_⟩;rw[pC (s.length+1) [] s (by omega)];exact j
theorem Lu {g:Int}(h:St w b lv l s g d m):Calls prog 185 #[Vp b] w λe w'=>∃x y:Int,e=.returned (.tuple #[Vi x,Vi y])/\Off b w w'/\qH b lv l g d m (bh s) w' (λmn=>x=mn.1/\y=mn.2) True:=by
 have j:=aa h;have f:=aa (Off.refl b w);have F:=rA 0 s;cases hr1:ct 0 s with
 |bad s1=>
  have E:Hid (bh s=.bad s1):=by show _=_;unfold bh;rw[hr1];rfl
  have q:=aa hr1;go_enter func185,ntmps185;go_wp2_with (first
   |(go_at_call 205;refine (eX _ j (by decide) (by decide)).mono ?_;rintro e wc ⟨v,rfl,i,a⟩;replace f:=aa (f.trans i);rw[q.out]at a;obtain⟨a,rfl⟩:=a;have D:=aa a)
   |(go_at_call 57;refine (takes_bad _ _ _ _ _ _ D (by decide) (by decide)).mono ?_;rintro e J ⟨rfl,k⟩;replace D:=aa (D.off k);replace f:=aa (f.trans (Off.drn k)))
   |(go_at_call 199;refine (wv _ D (by decide) (by decide)).mono ?_;rintro e I ⟨rfl,n,o⟩;replace D:=aa n;replace f:=aa (f.trans (Off.drn o))))
  go_ret2
  exact⟨_,_,rfl,f,by rw[E.out];exact⟨D,trivial⟩⟩
 |ok m0 s1=>
  rw[hr1]at F;simp only at F;obtain⟨M,O⟩:=F;have q:=aa hr1;by_cases B:s1.head?=some 44
  ·obtain⟨t,rfl⟩:∃t,s1=44::t:=by cases s1 with|nil=>simp at B|cons c t=>simp at B;exact⟨t,by rw[B]⟩
   by_cases p:t.head?=some 125
   ·obtain⟨u,rfl⟩:∃u,t=125::u:=by cases t with|nil=>simp at p|cons c t=>simp at p;exact⟨t,by rw[p]⟩
    have E:Hid (bh s=.ok (m0,-1) u):=by show _=_;unfold bh;rw[hr1];rfl
    go_enter func185,ntmps185;go_wp2_with (first
     |(go_at_call 205;refine (eX _ j (by decide) (by decide)).mono ?_;rintro e wc ⟨v,rfl,i,a⟩;replace f:=aa (f.trans i);rw[q.out]at a;obtain⟨a,rfl⟩:=a;replace j:=aa a)
     |(go_at_call 57;refine (dc j (by decide) (by decide)).mono ?_;rintro e J ⟨rfl,k,A⟩;replace j:=aa k;replace f:=aa (f.trans A))
     |(go_at_call 98;refine (aM j).mono ?_;rintro e L ⟨rfl,r⟩;replace j:=aa (j.drn r);replace f:=aa (f.trans (Off.drn r));simp only[aW])
     |(go_at_call 199;refine (qG j (by decide) (by decide)).mono ?_;rintro e I ⟨rfl,n,o⟩;replace j:=aa n;replace f:=aa (f.trans o)))
    go_ret2
    exact⟨_,_,rfl,f,by rw[E.out];exact⟨j,rfl,rfl⟩⟩
   ·have Q:=aa (Jy p (by decide));have R:(aW t==125)=false:=zD.2 Q;have P:∃x,aW t=x:=⟨_,rfl⟩;obtain⟨x,H⟩:=P;rw[H]at R;have G:=aa H;cases hr2:ct m0 t with
    |bad s2=>
     have E:Hid (bh s=.bad s2):=by show _=_;unfold bh;rw[hr1];simp only[Res.bind,yx,yd,yt,zR p,hr2]
     have C:=aa hr2;go_enter func185,ntmps185;go_wp2_with (first
      |(go_at_call 205;refine (eX _ j (by decide) (by decide)).mono ?_;rintro e wc ⟨v,rfl,i,a⟩;replace f:=aa (f.trans i);rw[q.out]at a;obtain⟨a,rfl⟩:=a;replace j:=aa a)
      |(go_at_call 57;refine (dc j (by decide) (by decide)).mono ?_;rintro e J ⟨rfl,k,A⟩;replace j:=aa k;replace f:=aa (f.trans A))
      |(go_at_call 98;refine (aM j).mono ?_;rintro e L ⟨rfl,r⟩;replace j:=aa (j.drn r);replace f:=aa (f.trans (Off.drn r));rw[G.out])
      |(go_at_call 205;refine (eX _ j M O).mono ?_;rintro e wc ⟨v,rfl,i,a⟩;replace f:=aa (f.trans i);rw[C.out]at a;obtain⟨a,rfl⟩:=a;have D:=aa a)
      |(go_at_call 199;refine (wv _ D (by decide) (by decide)).mono ?_;rintro e I ⟨rfl,n,o⟩;replace D:=aa n;replace f:=aa (f.trans (Off.drn o))))
     go_ret2
     exact⟨_,_,rfl,f,by rw[E.out];exact⟨D,trivial⟩⟩
    |ok n0 s2=>
     have C:=aa hr2;by_cases z:s2.head?=some 125
     ·obtain⟨u,rfl⟩:∃u,s2=125::u:=by cases s2 with|nil=>simp at z|cons c t=>simp at z;exact⟨t,by rw[z]⟩
      have E:Hid (bh s=.ok (m0,n0) u):=by show _=_;unfold bh;rw[hr1];simp only[Res.bind,yx,yd,yt,zR p,hr2,bV]
      go_enter func185,ntmps185;go_wp2_with (first
       |(go_at_call 205;refine (eX _ j (by decide) (by decide)).mono ?_;rintro e wc ⟨v,rfl,i,a⟩;replace f:=aa (f.trans i);rw[q.out]at a;obtain⟨a,rfl⟩:=a;replace j:=aa a)
       |(go_at_call 57;refine (dc j (by decide) (by decide)).mono ?_;rintro e J ⟨rfl,k,A⟩;replace j:=aa k;replace f:=aa (f.trans A))
       |(go_at_call 98;refine (aM j).mono ?_;rintro e L ⟨rfl,r⟩;replace j:=aa (j.drn r);replace f:=aa (f.trans (Off.drn r));rw[G.out])
       |(go_at_call 205;refine (eX _ j M O).mono ?_;rintro e wc ⟨v,rfl,i,a⟩;replace f:=aa (f.trans i);rw[C.out]at a;obtain⟨a,rfl⟩:=a;replace j:=aa a)
       |(go_at_call 199;refine (qG j (by decide) (by decide)).mono ?_;rintro e I ⟨rfl,n,o⟩;replace j:=aa n;replace f:=aa (f.trans o)))
      go_ret2
      exact⟨_,_,rfl,f,by rw[E.out];exact⟨j,rfl,rfl⟩⟩
     ·have E:Hid (bh s=.bad s2):=by show _=_;unfold bh;rw[hr1];simp only[Res.bind,yx,yd,yt,zR p,hr2,bV,zR z]
      have N:=aa z;go_enter func185,ntmps185;go_wp2_with (first
       |(go_at_call 205;refine (eX _ j (by decide) (by decide)).mono ?_;rintro e wc ⟨v,rfl,i,a⟩;replace f:=aa (f.trans i);rw[q.out]at a;obtain⟨a,rfl⟩:=a;replace j:=aa a)
       |(go_at_call 57;refine (dc j (by decide) (by decide)).mono ?_;rintro e J ⟨rfl,k,A⟩;replace j:=aa k;replace f:=aa (f.trans A))
       |(go_at_call 98;refine (aM j).mono ?_;rintro e L ⟨rfl,r⟩;replace j:=aa (j.drn r);replace f:=aa (f.trans (Off.drn r));rw[G.out])
       |(go_at_call 205;refine (eX _ j M O).mono ?_;rintro e wc ⟨v,rfl,i,a⟩;replace f:=aa (f.trans i);rw[C.out]at a;obtain⟨a,rfl⟩:=a;replace j:=aa a)
       |(go_at_call 199;refine (Bn _ j (by decide) (by decide) N).mono ?_;rintro e I ⟨rfl,n,o⟩;have D:=aa n;replace f:=aa (f.trans o)))
      go_ret2
      exact⟨_,_,rfl,f,by rw[E.out];exact⟨D,trivial⟩⟩
  ·have K:=aa B;by_cases z:s1.head?=some 125
   ·obtain⟨u,rfl⟩:∃u,s1=125::u:=by cases s1 with|nil=>simp at z|cons c t=>simp at z;exact⟨t,by rw[z]⟩
    have E:Hid (bh s=.ok (m0,m0) u):=by show _=_;unfold bh;rw[hr1];rfl
    go_enter func185,ntmps185;go_wp2_with (first
     |(go_at_call 205;refine (eX _ j (by decide) (by decide)).mono ?_;rintro e wc ⟨v,rfl,i,a⟩;replace f:=aa (f.trans i);rw[q.out]at a;obtain⟨a,rfl⟩:=a;replace j:=aa a)
     |(go_at_call 57;refine (ep _ j (by decide) (by decide) K).mono ?_;rintro e J ⟨rfl,k⟩;replace j:=aa (j.drn k);replace f:=aa (f.trans (Off.drn k)))
     |(go_at_call 199;refine (qG j (by decide) (by decide)).mono ?_;rintro e I ⟨rfl,n,o⟩;replace j:=aa n;replace f:=aa (f.trans o)))
    go_ret2
    exact⟨_,_,rfl,f,by rw[E.out];exact⟨j,rfl,rfl⟩⟩
   ·have E:Hid (bh s=.bad s1):=by show _=_;unfold bh;rw[hr1];simp only[Res.bind,zR B,bV,zR z]
    have N:=aa z;go_enter func185,ntmps185;go_wp2_with (first
     |(go_at_call 205;refine (eX _ j (by decide) (by decide)).mono ?_;rintro e wc ⟨v,rfl,i,a⟩;replace f:=aa (f.trans i);rw[q.out]at a;obtain⟨a,rfl⟩:=a;replace j:=aa a)
     |(go_at_call 57;refine (ep _ j (by decide) (by decide) K).mono ?_;rintro e J ⟨rfl,k⟩;replace j:=aa (j.drn k);replace f:=aa (f.trans (Off.drn k)))
     |(go_at_call 199;refine (Bn _ j (by decide) (by decide) N).mono ?_;rintro e I ⟨rfl,n,o⟩;have D:=aa n;replace f:=aa (f.trans o)))
    go_ret2
    exact⟨_,_,rfl,f,by rw[E.out];exact⟨D,trivial⟩⟩
def kZ (b:Nat)(lv:Value)(l:List Int)(g:Nat)(d m:Int)(r:Res Pat)(w w':World)(c:List Value):Prop :=
 Off b w w'/\match r with
 |.ok p s=>NV w' (λk=>w.heap.size<=k) p c g/\St w' b lv l s ((g+p.groups:Nat):Int) d (max m (d+p.deep))
 |.bad s=>gu w' b lv l s d
def bJ (F:Nat)(b:Nat)(lv:Value)(l:List Int)(g:Nat)(d m:Int)(r:Res Pat)(w:World):Prop :=
 Calls prog F #[Vp b] w λe w'=>∃k so sn sc lo ln lc mm nn rr,e=.returned (.agg #[Vi k,.slice so sn sc,.slice lo ln lc,Vi mm,Vi nn,Vi rr]) /\
  kZ b lv l g d m r w w' (bT k so sn sc lo ln lc mm nn rr)
def ld (n:Nat):Prop:=∀(b:Nat) (lv:Value) (l s:List Int) (g:Nat) (d m:Int) (w:World),St w b lv l s g d m->s.length<n->bJ 27 b lv l g d m (aU false n s) w
theorem St.setD {g:Int}(h:St w b lv l s g d m)(x:Int)(h0:0<=x)(h1:x<=m):St (w.setCell (aD b 4) (Vi x)) b lv l s g x m :=
 ⟨h.1.set 4 _,h.2.1,h.2.2.1.off ((Off.refl _ _).setCell 4 _),h.2.2.2.1,h.2.2.2.2.1,by have:=h.2.2.2.2.2;omega⟩
theorem St.deeper {g:Int}(h:St w b lv l s g d m)(h1:d+1<=((l.length-s.length:Nat):Int)):St ((w.setCell (aD b 4) (Vi (d+1))).setCell (aD b 5) (Vi (max m (d+1)))) b lv l s g (d+1) (max m (d+1)) :=
 ⟨(h.1.set 4 _).set 5 _,h.2.1,h.2.2.1.off (((Off.refl _ _).setCell 4 _).setCell 5 _),h.2.2.2.1,h.2.2.2.2.1,by have:=h.2.2.2.2.2;omega⟩
theorem St.setG {g:Int}(h:St w b lv l s g d m)(x:Int)(h0:0<=x)(h1:x<=((l.length-s.length:Nat):Int)):St (w.setCell (aD b 3) (Vi x)) b lv l s x d m :=
 ⟨h.1.set 3 _,h.2.1,h.2.2.1.off ((Off.refl _ _).setCell 3 _),h.2.2.2.1,h.2.2.2.2.1,h0,h1,h.2.2.2.2.2.2.2⟩
theorem St.facts {g:Int}(h:St w b lv l s g d m):0<=g/\g<=60/\0<=d/\d<=60/\0<=m/\m<=60:=by
 have:=h.2.2.2.2.2;have:=h.2.2.2.1;omega
theorem St.drew {w:World}{b:Nat}{lv:Value}{l s:LZ}{g d m:Int}(h:St w b lv l s g d m):St w.drew b lv l s g d m:=h
theorem St.new {g:Int}(h:St w b lv l s g d m)(o:Obj):St (w.alloc o) b lv l s g d m:=h.below ((zE _ _).alloc (zA _) _)
abbrev put6 (w:World)(r:Nat)(c0 c1 c2 c3 c4 c5:Value):World:=(((((w.setCell (aD r 0) c0).setCell (aD r 1) c1).setCell (aD r 2) c2).setCell (aD r 3) c3).setCell (aD r 4) c4).setCell (aD r 5) c5
theorem ag.put6 {w:World}{b r:Nat}{cs:LV}{T:TypeId}(h:ag w b cs T)(hr:b≠r)(c0 c1 c2 c3 c4 c5:Value):ag (put6 w r c0 c1 c2 c3 c4 c5) b cs T :=
 (((((h.setOther hr _).setOther hr _).setOther hr _).setOther hr _).setOther hr _).setOther hr _
theorem Off.put6 {b r:Nat}{a w:World}(h:Off b a w)(hr:a.heap.size<=r)(c0 c1 c2 c3 c4 c5:Value):Off b a (put6 w r c0 c1 c2 c3 c4 c5) :=
 (((((h.setNew hr _).setNew hr _).setNew hr _).setNew hr _).setNew hr _).setNew hr _
theorem ah.put6 {A:NP}{a w:World}{r:Nat}(h:ah A a w)(hr:¬A r)(c0 c1 c2 c3 c4 c5:Value):ah A a (put6 w r c0 c1 c2 c3 c4 c5) :=
 (((((h.trans (ah.set _ hr)).trans (ah.set _ hr)).trans (ah.set _ hr)).trans (ah.set _ hr)).trans (ah.set _ hr)).trans (ah.set _ hr)
theorem St.move {w0:World}{g:Int}(h0:te w0 b lv l)(ho:Off b w0 w2)(h1:St w1 b lv l s g d m)(h2:UF w2 b lv ((l.length-s.length:Nat):Int) (-1) g d m):St w2 b lv l s g d m :=
 ⟨h2,h1.2.1,h0.off ho,h1.2.2.2⟩
theorem aQ (h:ag w r Zq 27):(w.cell? (aD r 0)=some (Vi 0)/\w.cell? (aD r 1)=some (Vz)/\w.cell? (aD r 2)=some (Vz)/\w.cell? (aD r 3)=some (Vi 0)/\w.cell? (aD r 4)=some (Vi 0)/\w.cell? (aD r 5)=some (Vi 0)) /\
  (w.frozen? (aD r 0)=false/\w.frozen? (aD r 1)=false/\w.frozen? (aD r 2)=false/\w.frozen? (aD r 3)=false/\w.frozen? (aD r 4)=false/\w.frozen? (aD r 5)=false)/\r<w.heap.size :=
 ⟨⟨h.cell 0,h.cell 1,h.cell 2,h.cell 3,h.cell 4,h.cell 5⟩,⟨h.frozen 0,h.frozen 1,h.frozen 2,h.frozen 3,h.frozen 4,h.frozen 5⟩,h.lt⟩
theorem Cb (ih:ld n)(h:St w b lv l s g d m)(hn:s.length<n)(hd:d+1<=((l.length-s.length:Nat):Int))(p:Pat)(s':LZ)(hr:aU false n s=.ok p s'):Calls prog 198 #[Vp b] w λe w'=>∃k so sn sc lo ln lc mm nn rr,e=.returned (.agg #[Vi k,.slice so sn sc,.slice lo ln lc,Vi mm,Vi nn,Vi rr]) /\
   Off b w w'/\NV w' (λk=>w.heap.size<=k) p (bT k so sn sc lo ln lc mm nn rr) g/\St w' b lv l s' ((g+p.groups:Nat):Int) d (max m (d+(p.deep+1))):=by
 have L:=aa h;have Y:=aa hd;obtain⟨f1,f2,f3,f4,f5,f6⟩:=h.facts;obtain⟨P,C,B,F,I,O,hb⟩:=h.cells;have o:=h.1.frozen 4;have z:=h.1.frozen 5;have HR:=aa hr;go_enter func198,ntmps198;go_wp2_with fail
 go_region
 go_wp2_with fail;have A:=aa (((L.deeper Y).new Zo).drew);have HK:=aa (ag.new ((w.setCell (aD b 4) (Vi (d+1))).setCell (aD b 5) (Vi (max m (d+1)))) Zq 27).drew;refine (ih b lv l s g (d+1) (max m (d+1)) _ A hn).mono ?_;rintro e E ⟨k,so,sn,sc,lo,ln,lc,mm,nn,rr,rfl,c,t⟩;rw[HR.out]at t;obtain⟨f,i⟩:=t;have R:=aa f;have a:=aa i;have x:=aa c;have u:=aa (HK.off (w':=E) c (by simp;omega));obtain⟨P,C,B,F,I,O,Z⟩:=a.out.cells;have o:=a.1.frozen 4;obtain⟨⟨D,K,G,J,Q,M⟩,⟨V,T,W,U,S,X⟩,j⟩:=aQ u.out;simp at D K G J Q M V T W U S X j;go_wp2_with fail;refine zN (v:=.agg #[Vi k,.slice so sn sc,.slice lo ln lc,Vi mm,Vi nn,Vi rr]) (by simp[results,results198,go_sem,D,K,G,J,Q,M,j]) rfl ⟨k,so,sn,sc,lo,ln,lc,mm,nn,rr,rfl,?_⟩;have y:Off b w E:=Off.trans ((((Off.refl b w).setCell 4 _).setCell 5 _).alloc _).drew x;have N:=((y.setCell 4 (Vi d)).put6 (r:=w.heap.size) (zA _) (Vi k) (.slice so sn sc) (.slice lo ln lc) (Vi mm) (Vi nn) (Vi rr)).alloc (.cells #[Vi k,.slice so sn sc,.slice lo ln lc,Vi mm,Vi nn,Vi rr] 27);have RB:=((a.1.set 4 (Vi d)).put6 (r:=w.heap.size) (by omega) (Vi k) (.slice so sn sc) (.slice lo ln lc) (Vi mm) (Vi nn) (Vi rr)).alloc (.cells #[Vi k,.slice so sn sc,.slice lo ln lc,Vi mm,Vi nn,Vi rr] 27);have e:max (max m (d+1)) (d+1+(p.deep:Int))=max m (d+((p.deep:Int)+1)):=by omega
 have H:=a.setD d (by omega) (by have:=a.2.2.2.2.2;omega);rw[e]at H;refine⟨N,?_,St.move L.2.2.1 N H (by rw[<-e];exact RB)⟩;refine NV.mono (λq _ hq=>by simp at hq;omega) p _ g (NV.keep ?_ p _ g R);exact (((ah.set _ (by simp;omega)).put6 (r:=w.heap.size) (by simp) _ _ _ _ _ _)).trans (ah.alloc _ _ _)
theorem KC (ih:ld n)(h:St w b lv l s g d m)(hn:s.length<n)(hd:d+1<=((l.length-s.length:Nat):Int))(s':LZ)(hr:aU false n s=.bad s'):Calls prog 198 #[Vp b] w λe w'=>∃k so sn sc lo ln lc mm nn rr,e=.returned (.agg #[Vi k,.slice so sn sc,.slice lo ln lc,Vi mm,Vi nn,Vi rr]) /\
   Off b w w'/\gu w' b lv l s' d:=by
 have X:=aa h;have S:=aa hd;obtain⟨f1,f2,f3,f4,f5,f6⟩:=h.facts;obtain⟨c0,K,H,L,z,c5,hb⟩:=h.cells;have j:=h.1.frozen 4;have x:=h.1.frozen 5;have U:=aa hr;go_enter func198,ntmps198;go_wp2_with fail
 go_region
 go_wp2_with fail;have y:=aa (((X.deeper S).new Zo).drew);have V:=aa (ag.new ((w.setCell (aD b 4) (Vi (d+1))).setCell (aD b 5) (Vi (max m (d+1)))) Zq 27).drew;refine (ih b lv l s g (d+1) (max m (d+1)) _ y hn).mono ?_;rintro e B ⟨k,so,sn,sc,lo,ln,lc,mm,nn,rr,rfl,c,f⟩;rw[U.out]at f;have p:=aa f;have t:=aa c;have q:=aa (V.off (w':=B) c (by simp;omega));obtain⟨O,W,M,a⟩:=p.out;have z:=a.cell 4;have j:=a.frozen 4;have T:=a.lt;have o:=aa a;simp at z;obtain⟨⟨A,E,C,D,G,F⟩,⟨P,J,Q,N,I,R⟩,i⟩:=aQ q.out;simp at A E C D G F P J Q N I R i;go_wp2_with fail;refine zN (v:=.agg #[Vi k,.slice so sn sc,.slice lo ln lc,Vi mm,Vi nn,Vi rr]) (by simp[results,results198,go_sem,A,E,C,D,G,F,i]) rfl ⟨k,so,sn,sc,lo,ln,lc,mm,nn,rr,rfl,?_⟩;have u:Off b w B:=Off.trans ((((Off.refl b w).setCell 4 _).setCell 5 _).alloc _).drew t;have Y:=((u.setCell 4 (Vi d)).put6 (r:=w.heap.size) (zA _) (Vi k) (.slice so sn sc) (.slice lo ln lc) (Vi mm) (Vi nn) (Vi rr)).alloc (.cells #[Vi k,.slice so sn sc,.slice lo ln lc,Vi mm,Vi nn,Vi rr] 27);have Z:=((o.set 4 (Vi d)).put6 (r:=w.heap.size) (by omega) (Vi k) (.slice so sn sc) (.slice lo ln lc) (Vi mm) (Vi nn) (Vi rr)).alloc (.cells #[Vi k,.slice so sn sc,.slice lo ln lc,Vi mm,Vi nn,Vi rr] 27);exact⟨Y,O,W,M,Z⟩
theorem BC (h:ag w y cs 27)(hl:cs.length=6)(hA:A y):cB w A 27 6 (Vs y 1 1) 1 cs:=by
 refine⟨⟨by omega,.inr ⟨y,1,cs.toArray,rfl,zW _,h,zA _,by unfold maxLen;omega,by simp[hl],?_⟩⟩,λg a=>?_⟩
 ·simp only[Nat.one_mul];rw[yF (by simp[hl])]
 ·simp[Value.ownBlock]at a;exact a▸hA
theorem qh {x:LQ}(h0:St w1 b lv l s g d m)(hv:cC w1 (λk=>B<=k) (.slice so sn sc) x)(hB:w.heap.size<B)(hb:b<w.heap.size)(ho:Off b w w1)(ht:te w b lv l)
  (e:w2=put6 w1 w.heap.size (Vi 1) (.slice so sn sc) (Vz) (Vi 0) (Vi 0) (Vi 0)):kZ b lv l g d m (.ok (.set x) s) w w2 (bT 1 so sn sc none 0 0 0 0 0):=by
 subst e;have f:=ho.put6 (r:=w.heap.size) (zA _) (Vi 1) (.slice so sn sc) (Vz) (Vi 0) (Vi 0) (Vi 0);have c:max m (d+((Pat.set x).deep:Int))=m:=by have:=h0.2.2.2.2.2;simp[Pat.deep];omega
 have a:((g+(Pat.set x).groups:Nat):Int)=g:=by simp[Pat.groups]
 refine⟨f,⟨_,rfl,?_⟩,?_⟩
 ·exact (hv.keep ((ah.refl _ w1).put6 (r:=w.heap.size) (by simp;omega) (Vi 1) (.slice so sn sc) (Vz) (Vi 0) (Vi 0) (Vi 0))).mono (λq _ h=>by omega)
 ·rw[c,a];exact St.move ht f h0 (h0.1.put6 (r:=w.heap.size) (by omega) (Vi 1) (.slice so sn sc) (Vz) (Vi 0) (Vi 0) (Vi 0))
theorem mY {c:LV}(h0:gu w1 b lv l s d)(hb:b<w.heap.size)(ho:Off b w w1)
  (e:w2=put6 w1 w.heap.size c0 c1 c2 c3 c4 c5):kZ b lv l g d m (.bad s) w w2 c:=by
 subst e;obtain⟨i,a,f,h⟩:=h0;exact⟨ho.put6 (r:=w.heap.size) (zA _) _ _ _ _ _ _,i,a,f,h.put6 (r:=w.heap.size) (by omega) _ _ _ _ _ _⟩
theorem TU (h:St w b lv l [] g d m):bJ 184 b lv l g d m (.bad []) w:=by
 unfold bJ;have j:=aa h;have r:=aa h.1.lt;obtain⟨X,Z,V,f4,Y,W⟩:=h.facts;have N:=h.1.lt
 skip
 go_enter func184,ntmps184;go_wp2_with fail;refine (aM (j.new Zo)).mono ?_;rintro e C ⟨rfl,a⟩;simp only[aW];have k:=aa ((j.new Zo).drn a);have I:Hid (Off b w C):=((Off.refl b w).alloc Zo).trans (Off.drn a);have o:=aa ((ag.new w Zq 27).off (c:=b) (Off.drn a) (by omega));have F:Hid (w.heap.size+1<=C.heap.size):=by have:=(Off.drn (b:=b) a).size;show _<=_;simp at this;omega
 obtain⟨H,K,U,G,E,J,T⟩:=k.out.cells;have q:=k.1.frozen 1;have s:=k.1.frozen 3;have y:=k.2.2.2.1
 skip
 go_wp2_with fail;refine (fQ k).mono ?_;rintro e O ⟨rfl,f,i⟩;have L:=aa f;have p:Hid (Off b w O):=I.trans i;replace o:=aa (o.off i (by omega));obtain⟨⟨z,A,B,t,x,u⟩,⟨S,M,D,P,Q,R⟩,n⟩:=aQ o.out
 try simp at z A B t x u S M D P Q R n
 go_wp2_with fail;refine zN (v:=.agg #[Vi 0,Vz,Vz,Vi 0,Vi 0,Vi 0]) (by simp[results,results184,go_sem,z,A,B,t,x,u]) rfl ⟨0,none,0,0,none,0,0,0,0,0,rfl,?_⟩;exact mY L r p rfl
theorem TW (hc:runeB c=true)(hs:cI c=true)(n1:¬c=40)(n2:¬c=91)(n3:¬c=46)(n4:¬c=92)(h:St w b lv l (c::t) g d m):bJ 184 b lv l g d m (.bad (c::t)) w:=by
 unfold bJ;have j:=aa h;have r:=aa h.1.lt;obtain⟨f1,f2,W,f4,f5,Y⟩:=h.facts;have O:=h.1.lt;have b1:(c==40)=false:=zD.2 n1;have b2:(c==91)=false:=zD.2 n2;have X:(c==46)=false:=zD.2 n3;have Z:(c==92)=false:=zD.2 n4;have hr:=(rune_iff c).1 hc;have h0:(0:Int)<=c:=by omega
 go_enter func184,ntmps184;go_wp2_with fail;refine (aM (j.new Zo)).mono ?_;rintro e D ⟨rfl,a⟩;simp only[aW];have k:=aa ((j.new Zo).drn a);have J:Hid (Off b w D):=((Off.refl b w).alloc Zo).trans (Off.drn a);have o:=aa ((ag.new w Zq 27).off (c:=b) (Off.drn a) (by omega));have G:Hid (w.heap.size+1<=D.heap.size):=by have:=(Off.drn (b:=b) a).size;show _<=_;simp at this;omega
 obtain⟨I,L,V,H,F,K,U⟩:=k.out.cells;have q:=k.1.frozen 1;have s:=k.1.frozen 3;have z:=k.2.2.2.1;go_wp2_with fail;refine (gD _ _ _ (by decide)).mono ?_;rintro e wa ⟨rfl,rfl⟩;simp only[lm];go_wp2_with fail;refine (fQ k).mono ?_;rintro e P ⟨rfl,f,i⟩;have M:=aa f;have p:Hid (Off b w P):=J.trans i;replace o:=aa (o.off i (by omega));obtain⟨⟨A,B,C,u,y,x⟩,⟨T,N,E,Q,R,S⟩,n⟩:=aQ o.out
 try simp at A B C u y x T N E Q R S n
 go_wp2_with fail;refine zN (v:=.agg #[Vi 0,Vz,Vz,Vi 0,Vi 0,Vi 0]) (by simp[results,results184,go_sem,A,B,C,u,y,x]) rfl ⟨0,none,0,0,none,0,0,0,0,0,rfl,?_⟩;exact mY M r p rfl
theorem Qj (hc:runeB c=true)(hs:cI c=false)(h:St w b lv l (c::t) g d m):bJ 184 b lv l g d m (.ok (.set [(c,c)]) t) w:=by
 unfold bJ;have i:=aa h;have u:=aa h.1.lt;obtain⟨f1,f2,f3,f4,f5,f6⟩:=h.facts;have V:=h.1.lt;have b1:(c==40)=false:=zD.2 (by intro e;subst e;simp[cI]at hs);have b2:(c==91)=false:=zD.2 (by intro e;subst e;simp[cI]at hs);have b3:(c==46)=false:=zD.2 (by intro e;subst e;simp[cI]at hs);have b4:(c==92)=false:=zD.2 (by intro e;subst e;simp[cI]at hs);have hr:=(rune_iff c).1 hc;have h0:(0:Int)<=c:=by omega
 have W:=aa hc;go_enter func184,ntmps184;go_wp2_with fail;refine (aM (i.new Zo)).mono ?_;rintro e J ⟨rfl,a⟩;simp only[aW];have n:=aa ((i.new Zo).drn a);have Q:Hid (Off b w J):=((Off.refl b w).alloc Zo).trans (Off.drn a);have p:=aa ((ag.new w Zq 27).off (c:=b) (Off.drn a) (by omega));have q:Hid (w.heap.size+1<=J.heap.size):=by have:=(Off.drn (b:=b) a).size;show _<=_;simp at this;omega
 obtain⟨P,T,c2,O,M,R,hb⟩:=n.out.cells;have r:=n.1.frozen 1;have y:=n.1.frozen 3;have k:=n.2.2.2.1;go_wp2_with fail;refine (gD _ _ _ (by decide)).mono ?_;rintro e Y ⟨rfl,rfl⟩;simp only[lm];go_wp2_with fail;refine (pS _ _ W).mono ?_;rintro e N ⟨v1,rfl,j,f⟩;have S:=n.step;have z:=aa (S.1.below f);have s:Hid (Off b w N):=(Q.trans S.2).trans (Off.below f);obtain⟨C,I,E,rfl⟩:=kl j;have L:=aa j;replace p:=aa ((p.off S.2 (by omega)).below f);have x:Hid (w.heap.size<(Y.setCell (aD b 1) (Vi (((l.length-(c::t).length:Nat):Int)+1))).heap.size):=by have:=q.out;show _<_;simp[World.setCell];omega
 obtain⟨⟨F,G,H,A,D,B⟩,⟨y0,U,K,X,Z,y5⟩,o⟩:=aQ p.out
 try simp at F G H A D B y0 U K X Z y5 o
 go_wp2_with fail;refine zN (v:=.agg #[Vi 1,.slice C I E,Vz,Vi 0,Vi 0,Vi 0]) (by simp[results,results184,go_sem,F,G,H,A,D,B]) rfl ⟨1,C,I,E,none,0,0,0,0,0,rfl,?_⟩;exact qh z L x u s i.2.2.1 rfl
theorem TX (h:St w b lv l (46::t) g d m):bJ 184 b lv l g d m (.ok (.set tm) t) w:=by
 unfold bJ;have i:=aa h;have u:=aa h.1.lt;obtain⟨f1,f2,f3,f4,f5,f6⟩:=h.facts;have V:=h.1.lt
 skip
 go_enter func184,ntmps184;go_wp2_with fail;refine (aM (i.new Zo)).mono ?_;rintro e z ⟨rfl,a⟩;simp only[aW];have n:=aa ((i.new Zo).drn a);have Q:Hid (Off b w z):=((Off.refl b w).alloc Zo).trans (Off.drn a);have p:=aa ((ag.new w Zq 27).off (c:=b) (Off.drn a) (by omega));have q:Hid (w.heap.size+1<=z.heap.size):=by have:=(Off.drn (b:=b) a).size;show _<=_;simp at this;omega
 obtain⟨P,T,c2,O,M,R,hb⟩:=n.out.cells;have r:=n.1.frozen 1;have y:=n.1.frozen 3;have k:=n.2.2.2.1;go_wp2_with fail;refine (Vq _).mono ?_;rintro e N ⟨v1,rfl,j,f⟩;have S:=n.step;have A:=aa (S.1.below f);have s:Hid (Off b w N):=(Q.trans S.2).trans (Off.below f);obtain⟨D,J,F,rfl⟩:=kl j;have L:=aa j;replace p:=aa ((p.off S.2 (by omega)).below f);have x:Hid (w.heap.size<(z.setCell (aD b 1) (Vi (((l.length-(46::t).length:Nat):Int)+1))).heap.size):=by have:=q.out;show _<_;simp[World.setCell];omega
 obtain⟨⟨G,H,I,B,E,C⟩,⟨Z,U,K,W,X,Y⟩,o⟩:=aQ p.out
 try simp at G H I B E C Z U K W X Y o
 go_wp2_with fail;refine zN (v:=.agg #[Vi 1,.slice D J F,Vz,Vi 0,Vi 0,Vi 0]) (by simp[results,results184,go_sem,G,H,I,B,E,C]) rfl ⟨1,D,J,F,none,0,0,0,0,0,rfl,?_⟩;exact qh A L x u s i.2.2.1 rfl
theorem Up (t':LZ)(a:Int)(he:dx t=.ok (.inl a) t')(h:St w b lv l (92::t) g d m):bJ 184 b lv l g d m (.ok (.set [(a,a)]) t') w:=by
 unfold bJ;have j:=aa h;have H:=aa h.1.lt;obtain⟨U,f2,f3,f4,f5,f6⟩:=h.facts;have T:=h.1.lt;have y:=aa he;go_enter func184,ntmps184;go_wp2_with fail;refine (aM (j.new Zo)).mono ?_;rintro e x ⟨rfl,f⟩;simp only[aW];have q:=aa ((j.new Zo).drn f);have HO:Hid (Off b w x):=((Off.refl b w).alloc Zo).trans (Off.drn f);have p:=aa ((ag.new w Zq 27).off (c:=b) (Off.drn f) (by omega));have s:Hid (w.heap.size+1<=x.heap.size):=by have:=(Off.drn (b:=b) f).size;show _<=_;simp at this;omega
 obtain⟨R,c1,c2,X,c4,c5,hb⟩:=q.out.cells;have C:=q.1.frozen 1;have D:=q.1.frozen 3;have o:=q.2.2.2.1;go_wp2_with fail;have S:=q.step;have F:Hid (w.heap.size<(x.setCell (aD b 1) (Vi (((l.length-(92::t).length:Nat):Int)+1))).heap.size):=by have:=s.out;show _<_;simp[World.setCell];omega
 have z:=aa S.1;have A:Hid (Off b w _):=HO.trans S.2;replace p:=aa (p.off S.2 (by omega));refine (fd z).mono ?_;rintro e V ⟨v1,U,rfl,i,r⟩;have E:Hid (Off b w V):=A.trans i;replace p:=aa (p.off i (by omega));rw[y.out]at r;obtain⟨n,rfl,k,_⟩:=r;have B:=aa n;obtain⟨N,K,O,rfl⟩:=kl k;have HV:=aa k;have u:=F;obtain⟨⟨M,L,P,I,Q,J⟩,⟨Y,W,y2,y3,y4,Z⟩,G⟩:=aQ p.out
 try simp at M L P I Q J Y W y2 y3 y4 Z G
 go_wp2_with fail;refine zN (v:=.agg #[Vi 1,.slice N K O,Vz,Vi 0,Vi 0,Vi 0]) (by simp[results,results184,go_sem,M,L,P,I,Q,J]) rfl ⟨1,N,K,O,none,0,0,0,0,0,rfl,?_⟩;exact qh B HV u H E j.2.2.1 rfl
theorem Uq (t':LZ)(L:LQ)(he:dx t=.ok (.inr L) t')(h:St w b lv l (92::t) g d m):bJ 184 b lv l g d m (.ok (.set L) t') w:=by
 unfold bJ;have i:=aa h;have G:=aa h.1.lt;obtain⟨U,f2,f3,f4,f5,f6⟩:=h.facts;have T:=h.1.lt;have x:=aa he;go_enter func184,ntmps184;go_wp2_with fail;refine (aM (i.new Zo)).mono ?_;rintro e u ⟨rfl,a⟩;simp only[aW];have p:=aa ((i.new Zo).drn a);have HO:Hid (Off b w u):=((Off.refl b w).alloc Zo).trans (Off.drn a);have o:=aa ((ag.new w Zq 27).off (c:=b) (Off.drn a) (by omega));have r:Hid (w.heap.size+1<=u.heap.size):=by have:=(Off.drn (b:=b) a).size;show _<=_;simp at this;omega
 obtain⟨R,c1,c2,X,c4,c5,hb⟩:=p.out.cells;have B:=p.1.frozen 1;have C:=p.1.frozen 3;have n:=p.2.2.2.1;go_wp2_with fail;have S:=p.step;have E:Hid (w.heap.size<(u.setCell (aD b 1) (Vi (((l.length-(92::t).length:Nat):Int)+1))).heap.size):=by have:=r.out;show _<_;simp[World.setCell];omega
 have y:=aa S.1;have z:Hid (Off b w _):=HO.trans S.2;replace o:=aa (o.off S.2 (by omega));refine (fd y).mono ?_;rintro e V ⟨v1,U,rfl,f,q⟩;have D:Hid (Off b w V):=z.trans f;replace o:=aa (o.off f (by omega));rw[x.out]at q;obtain⟨k,rfl,j⟩:=q;have A:=aa k;obtain⟨N,J,O,rfl⟩:=kl j;have HV:=aa j;have s:=E;obtain⟨⟨M,K,P,H,Q,I⟩,⟨Y,W,y2,y3,y4,Z⟩,F⟩:=aQ o.out
 try simp at M K P H Q I Y W y2 y3 y4 Z F
 go_wp2_with fail;refine zN (v:=.agg #[Vi 1,.slice N J O,Vz,Vi 0,Vi 0,Vi 0]) (by simp[results,results184,go_sem,M,K,P,H,Q,I]) rfl ⟨1,N,J,O,none,0,0,0,0,0,rfl,?_⟩;exact qh A HV s G D i.2.2.1 rfl
theorem Ur (t':LZ)(he:dx t=.bad t')(h:St w b lv l (92::t) g d m):bJ 184 b lv l g d m (.bad t') w:=by
 unfold bJ;have k:=aa h;have C:=aa h.1.lt;obtain⟨L,f2,f3,f4,f5,f6⟩:=h.facts;have K:=h.1.lt;have s:=aa he;go_enter func184,ntmps184;go_wp2_with fail;refine (aM (k.new Zo)).mono ?_;rintro e r ⟨rfl,a⟩;simp only[aW];have o:=aa ((k.new Zo).drn a);have T:Hid (Off b w r):=((Off.refl b w).alloc Zo).trans (Off.drn a);have n:=aa ((ag.new w Zq 27).off (c:=b) (Off.drn a) (by omega));have q:Hid (w.heap.size+1<=r.heap.size):=by have:=(Off.drn (b:=b) a).size;show _<=_;simp at this;omega
 obtain⟨J,c1,U,P,V,X,W⟩:=o.out.cells;have y:=o.1.frozen 1;have z:=o.1.frozen 3;have j:=o.2.2.2.1;go_wp2_with fail;have S:=o.step;have Z:Hid (w.heap.size<(r.setCell (aD b 1) (Vi (((l.length-(92::t).length:Nat):Int)+1))).heap.size):=by have:=q.out;show _<_;simp[World.setCell];omega
 have u:=aa S.1;have x:Hid (Off b w _):=T.trans S.2;replace n:=aa (n.off S.2 (by omega));refine (fd u).mono ?_;rintro e M ⟨v1,L,rfl,f,p⟩;have A:Hid (Off b w M):=x.trans f;replace n:=aa (n.off f (by omega));rw[s.out]at p;obtain⟨i,rfl,rfl⟩:=p;have O:=aa i;obtain⟨⟨G,F,H,D,I,E⟩,⟨Q,N,y2,Y,y4,R⟩,B⟩:=aQ n.out
 try simp at G F H D I E Q N y2 Y y4 R B
 go_wp2_with fail;refine zN (v:=.agg #[Vi 1,Vz,Vz,Vi 0,Vi 0,Vi 0]) (by simp[results,results184,go_sem,G,F,H,D,I,E]) rfl ⟨1,none,0,0,none,0,0,0,0,0,rfl,?_⟩;exact mY O C A rfl
theorem Us (t':LZ)(L:LQ)(he:cJ t=.ok L t')(h:St w b lv l (91::t) g d m):bJ 184 b lv l g d m (.ok (.set L) t') w:=by
 unfold bJ;have i:=aa h;have G:=aa h.1.lt;obtain⟨f1,f2,f3,f4,f5,f6⟩:=h.facts;have T:=h.1.lt;have x:=aa he;go_enter func184,ntmps184;go_wp2_with fail;refine (aM (i.new Zo)).mono ?_;rintro e u ⟨rfl,a⟩;simp only[aW];have p:=aa ((i.new Zo).drn a);have Z:Hid (Off b w u):=((Off.refl b w).alloc Zo).trans (Off.drn a);have o:=aa ((ag.new w Zq 27).off (c:=b) (Off.drn a) (by omega));have r:Hid (w.heap.size+1<=u.heap.size):=by have:=(Off.drn (b:=b) a).size;show _<=_;simp at this;omega
 obtain⟨R,c1,c2,W,c4,c5,hb⟩:=p.out.cells;have B:=p.1.frozen 1;have C:=p.1.frozen 3;have n:=p.2.2.2.1;go_wp2_with fail;have S:=p.step;have E:Hid (w.heap.size<(u.setCell (aD b 1) (Vi (((l.length-(91::t).length:Nat):Int)+1))).heap.size):=by have:=r.out;show _<_;simp[World.setCell];omega
 have y:=aa S.1;have z:Hid (Off b w _):=Z.trans S.2;replace o:=aa (o.off S.2 (by omega));refine (tA y).mono ?_;rintro e U ⟨v1,rfl,f,q⟩;have D:Hid (Off b w U):=z.trans f;replace o:=aa (o.off f (by omega));rw[x.out]at q;obtain⟨k,j⟩:=q;have A:=aa k;obtain⟨N,J,O,rfl⟩:=kl j;have HV:=aa j;have s:=E;obtain⟨⟨M,K,P,H,Q,I⟩,⟨X,V,y2,y3,y4,Y⟩,F⟩:=aQ o.out
 try simp at M K P H Q I X V y2 y3 y4 Y F
 go_wp2_with fail;refine zN (v:=.agg #[Vi 1,.slice N J O,Vz,Vi 0,Vi 0,Vi 0]) (by simp[results,results184,go_sem,M,K,P,H,Q,I]) rfl ⟨1,N,J,O,none,0,0,0,0,0,rfl,?_⟩;exact qh A HV s G D i.2.2.1 rfl
theorem Ut (t':LZ)(he:cJ t=.bad t')(h:St w b lv l (91::t) g d m):bJ 184 b lv l g d m (.bad t') w:=by
 unfold bJ;have k:=aa h;have C:=aa h.1.lt;obtain⟨f1,f2,f3,f4,f5,f6⟩:=h.facts;have N:=h.1.lt;have s:=aa he;go_enter func184,ntmps184;go_wp2_with fail;refine (aM (k.new Zo)).mono ?_;rintro e r ⟨rfl,a⟩;simp only[aW];have o:=aa ((k.new Zo).drn a);have V:Hid (Off b w r):=((Off.refl b w).alloc Zo).trans (Off.drn a);have n:=aa ((ag.new w Zq 27).off (c:=b) (Off.drn a) (by omega));have q:Hid (w.heap.size+1<=r.heap.size):=by have:=(Off.drn (b:=b) a).size;show _<=_;simp at this;omega
 obtain⟨M,c1,W,R,X,Z,Y⟩:=o.out.cells;have y:=o.1.frozen 1;have z:=o.1.frozen 3;have j:=o.2.2.2.1;go_wp2_with fail;have S:=o.step;have a0:Hid (w.heap.size<(r.setCell (aD b 1) (Vi (((l.length-(91::t).length:Nat):Int)+1))).heap.size):=by have:=q.out;show _<_;simp[World.setCell];omega
 have u:=aa S.1;have x:Hid (Off b w _):=V.trans S.2;replace n:=aa (n.off S.2 (by omega));refine (tA u).mono ?_;rintro e O ⟨v1,rfl,f,p⟩;have A:Hid (Off b w O):=x.trans f;replace n:=aa (n.off f (by omega));rw[s.out]at p;obtain⟨i,I,F,J,rfl⟩:=p;have Q:=aa i;obtain⟨⟨H,G,K,D,L,E⟩,⟨T,P,y2,y3,y4,U⟩,B⟩:=aQ n.out
 try simp at H G K D L E T P y2 y3 y4 U B
 go_wp2_with fail;refine zN (v:=.agg #[Vi 1,.slice I F J,Vz,Vi 0,Vi 0,Vi 0]) (by simp[results,results184,go_sem,H,G,K,D,L,E]) rfl ⟨1,I,F,J,none,0,0,0,0,0,rfl,?_⟩;exact mY Q C A rfl
theorem Ep {c:LV}(h0:gu w1 b lv l s d)(hb:b<w.heap.size)(ho:Off b w w1)
  (e:w2=(put6 w1 w.heap.size c0 c1 c2 c3 c4 c5).alloc o):kZ b lv l g d m (.bad s) w w2 c:=by
 subst e;obtain⟨i,a,f,h⟩:=h0;exact⟨(ho.put6 (r:=w.heap.size) (zA _) _ _ _ _ _ _).alloc _,i,a,f,(h.put6 (r:=w.heap.size) (by omega) _ _ _ _ _ _).alloc _⟩
theorem bK (h:ag w r (bT k so sn sc lo ln lc mm nn rr) 27):(w.cell? (aD r 0)=some (Vi k)/\w.cell? (aD r 1)=some (.slice so sn sc)/\w.cell? (aD r 2)=some (.slice lo ln lc)/\w.cell? (aD r 3)=some (Vi mm)/\w.cell? (aD r 4)=some (Vi nn)/\w.cell? (aD r 5)=some (Vi rr))/\r<w.heap.size :=
 ⟨⟨h.cell 0,h.cell 1,h.cell 2,h.cell 3,h.cell 4,h.cell 5⟩,h.lt⟩
theorem Cg (w:World)(r:Nat)(c0 c1 c2 c3 c4 c5:Value):(put6 w r c0 c1 c2 c3 c4 c5).heap.size=w.heap.size:=by simp[World.setCell]
theorem Rh {wm:World}{g0:Nat}
  (hnv:NV wm A p (bT k so sn sc lo ln lc mm nn rr) g0) (hA:∀q,A q->w.heap.size<q) (hs:w.heap.size<=wm.heap.size)
  (e:w2=(put6 wm w.heap.size c0 c1 c2 c3 c4 c5).alloc (.cells #[Vi k,.slice so sn sc,.slice lo ln lc,Vi mm,Vi nn,Vi rr] 27)) :
  cB w2 (λq=>w.heap.size<=q) 27 6 (Vs wm.heap.size 1 1) 1 (bT k so sn sc lo ln lc mm nn rr)/\NV w2 (λq=>w.heap.size<=q) p (bT k so sn sc lo ln lc mm nn rr) g0:=by
 subst e;constructor
 ·have a:=ag.new (put6 wm w.heap.size c0 c1 c2 c3 c4 c5) (bT k so sn sc lo ln lc mm nn rr) 27;rw[Cg]at a;exact BC a rfl hs
 ·exact NV.mono (λq _ b=>by have:=hA q b;omega) p _ g0 (NV.keep (((ah.refl A wm).put6 (r:=w.heap.size) (λh=>by have:=hA _ h;omega) _ _ _ _ _ _).trans (ah.alloc _ _ _)) p _ g0 hnv)
theorem Ri (u:LZ)(ih:ld n)(hn:t.length<n)(p:Pat)(hr:aU false n t=.ok p (41::u))(h:St w b lv l (40::t) g d m):bJ 184 b lv l g d m (.ok (.group p) u) w:=by
 unfold bJ;have y:=aa h;have Z:=aa h.1.lt;obtain⟨f1,f2,f3,f4,f5,f6⟩:=h.facts;have a3:=h.1.lt;have HR:=aa hr;go_enter func184,ntmps184;go_wp2_with fail;refine (aM (y.new Zo)).mono ?_;rintro e wn ⟨rfl,f⟩;simp only[aW];have s:=aa ((y.new Zo).drn f);have HO:Hid (Off b w wn):=((Off.refl b w).alloc Zo).trans (Off.drn f);have x:=aa ((ag.new w Zq 27).off (c:=b) (Off.drn f) (by omega));have a0:Hid (w.heap.size+1<=wn.heap.size):=by have:=(Off.drn (b:=b) f).size;show _<=_;simp at this;omega
 obtain⟨c0,c1,c2,c3,c4,c5,hb⟩:=s.out.cells;have a1:=s.1.frozen 1;have V:=s.1.frozen 3;have B:=s.2.2.2.1;go_wp2_with fail;have S:=s.step;have I:Hid (w.heap.size<((wn.setCell (aD b 1) (Vi (((l.length-(40::t).length:Nat):Int)+1))).setCell (aD b 3) (Vi ((g:Int)+1))).heap.size):=by have:=a0.out;show _<_;simp[World.setCell];omega
 have E:=s.2.2.2.2.2;have z:=s.2.1.length_le;simp only[zG]at E z;have e1:((g+1:Nat):Int)=(g:Int)+1:=by omega
 have Y:=S.1.setG ((g:Int)+1) (by omega) (by omega);rw[<-e1]at Y;have X:=aa Y;have HD:Hid (d+1<=((l.length-t.length:Nat):Int)):=by show _<=_;omega
 have a2:Hid (Off b w _):=(HO.trans S.2).trans ((Off.refl b _).setCell 3 (Vi ((g:Int)+1)));replace x:=aa ((x.off S.2 (by omega)).off ((Off.refl b _).setCell 3 (Vi ((g:Int)+1))) (by omega));refine (Cb ih X hn HD p _ HR).mono ?_;rintro e w1 ⟨k,J,T,L,Q,N,R,P,O,M,rfl,i,C,D⟩;have o:=aa C;have U:=aa D;have G:Hid (Off b w w1):=a2.trans i;replace x:=aa ((x.off i (by omega)).alloc (.cells #[Vi k,.slice J T L,.slice Q N R,Vi P,Vi O,Vi M] 27));have HX:=aa (ag.new w1 (bT k J T L Q N R P O M) 27);go_wp2_with fail;refine (qG (U.new (.cells #[Vi k,.slice J T L,.slice Q N R,Vi P,Vi O,Vi M] 27)) (by decide) (by decide)).mono ?_;rintro e K ⟨rfl,j,a⟩;have A:=aa j;have F:Hid (Off b w K):=(G.alloc _).trans a;replace x:=aa (x.off a (by omega));have W:w1.heap.size≠b:=by have:=G.size;omega
 replace HX:=aa (HX.off a W);replace o:=aa (NV.keep ((ah.alloc _ _ _).trans (ah.off a (yz (Nat.lt_trans Z I)))) p _ _ o);obtain⟨⟨x0,x1,x2,x3,x4,x5⟩,hx⟩:=bK HX.out;obtain⟨⟨z0,z1,z2,z3,z4,z5⟩,⟨y0,y1,y2,y3,y4,y5⟩,H⟩:=aQ x.out
 try simp at z0 z1 z2 z3 z4 z5 y0 y1 y2 y3 y4 y5 H
 go_wp2_with fail;refine zN (v:=.agg #[Vi 7,Vz,Vs K.heap.size 1 1,Vi 0,Vi 0,Vi g]) (by simp[results,results184,go_sem,z0,z1,z2,z3,z4,z5,H]) rfl ⟨7,none,0,0,some (aD K.heap.size 0),1,1,0,0,g,rfl,?_⟩;have HF:=(F.put6 (r:=w.heap.size) (zA _) (Vi 7) (Vz) (Vs K.heap.size 1 1) (Vi 0) (Vi 0) (Vi g)).alloc (.cells #[Vi k,.slice J T L,.slice Q N R,Vi P,Vi O,Vi M] 27);obtain⟨o1,o2⟩:=Rh (w:=w) o.out (λq hq=>zF I.out hq) F.out.size rfl;refine⟨HF,⟨_,_,rfl,o1,o2⟩,?_⟩;have e2:((g+(Pat.group p).groups:Nat):Int)=((g+1+p.groups:Nat):Int):=by simp[Pat.groups];omega
 have e3:((Pat.group p).deep:Int)=(p.deep:Int)+1:=by simp[Pat.deep]
 rw[e2,e3];exact St.move y.2.2.1 HF A ((A.1.put6 (r:=w.heap.size) (by omega) _ _ _ _ _ _).alloc _)
theorem NR (u:LZ)(ih:ld n)(hn:t.length<n)(p:Pat)(hr:aU false n t=.ok p u)(h41:u.head?≠some 41)(h:St w b lv l (40::t) g d m):bJ 184 b lv l g d m (.bad u) w:=by
 unfold bJ;have r:=aa h;have M:=aa h.1.lt;obtain⟨f1,f2,f3,f4,f5,f6⟩:=h.facts;have a1:=h.1.lt;have HR:=aa hr;have HN:=aa h41;go_enter func184,ntmps184;go_wp2_with fail;refine (aM (r.new Zo)).mono ?_;rintro e U ⟨rfl,f⟩;simp only[aW];have j:=aa ((r.new Zo).drn f);have HO:Hid (Off b w U):=((Off.refl b w).alloc Zo).trans (Off.drn f);have o:=aa ((ag.new w Zq 27).off (c:=b) (Off.drn f) (by omega));have Q:Hid (w.heap.size+1<=U.heap.size):=by have:=(Off.drn (b:=b) f).size;show _<=_;simp at this;omega
 obtain⟨c0,c1,c2,c3,c4,c5,hb⟩:=j.out.cells;have T:=j.1.frozen 1;have E:=j.1.frozen 3;have s:=j.2.2.2.1;go_wp2_with fail;have S:=j.step;have a2:Hid (w.heap.size<((U.setCell (aD b 1) (Vi (((l.length-(40::t).length:Nat):Int)+1))).setCell (aD b 3) (Vi ((g:Int)+1))).heap.size):=by have:=Q.out;show _<_;simp[World.setCell];omega
 have z:=j.2.2.2.2.2;have q:=j.2.1.length_le;simp only[zG]at z q;have e1:((g+1:Nat):Int)=(g:Int)+1:=by omega
 have L:=S.1.setG ((g:Int)+1) (by omega) (by omega);rw[<-e1]at L;have J:=aa L;have HD:Hid (d+1<=((l.length-t.length:Nat):Int)):=by show _<=_;omega
 have Z:Hid (Off b w _):=(HO.trans S.2).trans ((Off.refl b _).setCell 3 (Vi ((g:Int)+1)));replace o:=aa ((o.off S.2 (by omega)).off ((Off.refl b _).setCell 3 (Vi ((g:Int)+1))) (by omega));refine (Cb ih J hn HD p _ HR).mono ?_;rintro e w1 ⟨k,F,W,I,R,N,V,P,O,K,rfl,i,x,y⟩;have a0:=aa x;have D:=aa y;have A:Hid (Off b w w1):=Z.trans i;replace o:=aa ((o.off i (by omega)).alloc (.cells #[Vi k,.slice F W I,.slice R N V,Vi P,Vi O,Vi K] 27));have Y:=aa (ag.new w1 (bT k F W I R N V P O K) 27);go_wp2_with fail;refine (Bn _ (D.new (.cells #[Vi k,.slice F W I,.slice R N V,Vi P,Vi O,Vi K] 27)) (by decide) (by decide) HN).mono ?_;rintro e H ⟨rfl,B,a⟩;have HB:=aa B;have X:Hid (Off b w H):=(A.alloc _).trans a;replace o:=aa (o.off a (by omega));have G:w1.heap.size≠b:=by have:=A.size;omega
 replace Y:=aa (Y.off a G);obtain⟨⟨x0,x1,x2,x3,x4,x5⟩,hx⟩:=bK Y.out;obtain⟨⟨z0,z1,z2,z3,z4,z5⟩,⟨y0,y1,y2,y3,y4,y5⟩,C⟩:=aQ o.out
 try simp at z0 z1 z2 z3 z4 z5 y0 y1 y2 y3 y4 y5 C
 go_wp2_with fail;refine zN (v:=.agg #[Vi 7,Vz,Vs H.heap.size 1 1,Vi 0,Vi 0,Vi g]) (by simp[results,results184,go_sem,z0,z1,z2,z3,z4,z5,C]) rfl ⟨7,none,0,0,some (aD H.heap.size 0),1,1,0,0,g,rfl,?_⟩;exact Ep HB M X rfl
theorem KQ (u:LZ)(ih:ld n)(hn:t.length<n)(hr:aU false n t=.bad u)(h:St w b lv l (40::t) g d m):bJ 184 b lv l g d m (.bad u) w:=by
 unfold bJ;have s:=aa h;have J:=aa h.1.lt;obtain⟨f1,f2,f3,f4,f5,f6⟩:=h.facts;have a0:=h.1.lt;have HR:=aa hr;go_enter func184,ntmps184;go_wp2_with fail;refine (aM (s.new Zo)).mono ?_;rintro e R ⟨rfl,f⟩;simp only[aW];have o:=aa ((s.new Zo).drn f);have HO:Hid (Off b w R):=((Off.refl b w).alloc Zo).trans (Off.drn f);have p:=aa ((ag.new w Zq 27).off (c:=b) (Off.drn f) (by omega));have N:Hid (w.heap.size+1<=R.heap.size):=by have:=(Off.drn (b:=b) f).size;show _<=_;simp at this;omega
 obtain⟨c0,c1,c2,c3,c4,c5,hb⟩:=o.out.cells;have Q:=o.1.frozen 1;have C:=o.1.frozen 3;have x:=o.2.2.2.1;go_wp2_with fail;have S:=o.step;have a1:Hid (w.heap.size<((R.setCell (aD b 1) (Vi (((l.length-(40::t).length:Nat):Int)+1))).setCell (aD b 3) (Vi ((g:Int)+1))).heap.size):=by have:=N.out;show _<_;simp[World.setCell];omega
 have y:=o.2.2.2.2.2;have r:=o.2.1.length_le;simp only[zG]at y r;have e1:((g+1:Nat):Int)=(g:Int)+1:=by omega
 have I:=S.1.setG ((g:Int)+1) (by omega) (by omega);rw[<-e1]at I;have G:=aa I;have HD:Hid (d+1<=((l.length-t.length:Nat):Int)):=by show _<=_;omega
 have X:Hid (Off b w _):=(HO.trans S.2).trans ((Off.refl b _).setCell 3 (Vi ((g:Int)+1)));replace p:=aa ((p.off S.2 (by omega)).off ((Off.refl b _).setCell 3 (Vi ((g:Int)+1))) (by omega));refine (KC ih G hn HD _ HR).mono ?_;rintro e Y ⟨k,D,U,F,P,K,T,M,L,H,rfl,i,j⟩;have O:=aa j;have z:Hid (Off b w Y):=X.trans i;replace p:=aa ((p.off i (by omega)).alloc (.cells #[Vi k,.slice D U F,.slice P K T,Vi M,Vi L,Vi H] 27));have W:=aa (ag.new Y (bT k D U F P K T M L H) 27);go_wp2_with fail;refine (wv _ (O.below ((zE _ _).alloc (zA _) (.cells #[Vi k,.slice D U F,.slice P K T,Vi M,Vi L,Vi H] 27))) (by decide) (by decide)).mono ?_;rintro e B ⟨rfl,j,q⟩;have a:Off b _ B:=Off.drn q;replace O:=aa j;have V:Hid (Off b w B):=(z.alloc _).trans a;replace p:=aa (p.off a (by omega));have E:Y.heap.size≠b:=by have:=z.size;omega
 replace W:=aa (W.off a E);obtain⟨⟨x0,x1,x2,x3,x4,x5⟩,hx⟩:=bK W.out;obtain⟨⟨z0,z1,Z,z3,z4,z5⟩,⟨y0,y1,y2,y3,y4,y5⟩,A⟩:=aQ p.out
 try simp at z0 z1 Z z3 z4 z5 y0 y1 y2 y3 y4 y5 A
 go_wp2_with fail;refine zN (v:=.agg #[Vi 7,Vz,Vs B.heap.size 1 1,Vi 0,Vi 0,Vi g]) (by simp[results,results184,go_sem,z0,z1,Z,z3,z4,z5,A]) rfl ⟨7,none,0,0,some (aD B.heap.size 0),1,1,0,0,g,rfl,?_⟩;exact Ep O J V rfl
theorem Sa (ih:ld n)(h:St w b lv l s g d m)(hn:s.length<=n):bJ 184 b lv l g d m (dy (aU false n) s) w:=by
 have f:=h.2.2.2.2.1.suf h.2.1;cases s with
 |nil=>exact TU h
 |cons c t=>
  simp only[zG]at hn;simp only[dy];by_cases i:c=40
  ·subst i;simp only[yd];cases hr:aU false n t with
   |bad u=>exact KQ u ih (by omega) hr h
   |ok p u=>
    simp only[Res.bind,bV];by_cases e:u.head?=some 41
    ·rw[zX e];obtain⟨v,rfl⟩:∃v,u=41::v:=by cases u with|nil=>simp at e|cons c t=>simp at e;exact⟨t,by rw[e]⟩
     exact Ri v ih (by omega) p hr h
    ·rw[zR e];exact NR u ih (by omega) p hr e h
  ·rw[zR i];by_cases j:c=91
   ·subst j;rw[zX rfl];cases hr:cJ t with
    |bad u=>exact Ut u hr h
    |ok L u=>exact Us u L hr h
   ·rw[zR j];by_cases o:c=46
    ·subst o;rw[zX rfl];exact TX h
    ·rw[zR o];by_cases k:c=92
     ·subst k;rw[zX rfl];cases hr:dx t with
      |bad u=>exact Ur u hr h
      |ok r u=>
       cases r with
       |inl a=>exact Up u a hr h
       |inr L=>exact Uq u L hr h
     ·rw[zR k];by_cases q:cI c=true
      ·rw[zX q];exact TW f.head q i j o k h
      ·rw[zR q];exact Qj f.head (by simpa using q) h
def UE (w:World)(X:Nat)(b:Nat)(lv:Value)(l:List Int)(g:Nat)(d m:Int)(R:Res Pat)(j:Nat)(wr:World):Prop :=
 Off b w wr/\ag wr w.heap.size Zq 27/\∃k so sn sc lo ln lc mm nn rr,ag wr X (bT k so sn sc lo ln lc mm nn rr) 27 /\
  ((∃p s0,NV wr (λq=>w.heap.size<q/\q≠X) p (bT k so sn sc lo ln lc mm nn rr) g/\St wr b lv l s0 ((g+p.groups:Nat):Int) d (max m (d+p.deep))/\aY j p s0=R/\s0.length<j)\/(∃s',gu wr b lv l s' d/\R=.bad s'))
theorem Sb {s0:LZ}
  (hnv:NV wr (λq=>w.heap.size<q/\q≠X) p (bT k so sn sc lo ln lc mm nn rr) g) (hst:St wr b lv l s0 ((g+p.groups:Nat):Int) d (max m (d+p.deep))) (ho:Off b w wr) (hb:b<w.heap.size) (ht:te w b lv l)
  (e:w2=put6 wr w.heap.size (Vi k) (.slice so sn sc) (.slice lo ln lc) (Vi mm) (Vi nn) (Vi rr)):kZ b lv l g d m (.ok p s0) w w2 (bT k so sn sc lo ln lc mm nn rr):=by
 subst e;have a:=ho.put6 (r:=w.heap.size) (zA _) (Vi k) (.slice so sn sc) (.slice lo ln lc) (Vi mm) (Vi nn) (Vi rr);refine⟨a,?_,St.move ht a hst (hst.1.put6 (r:=w.heap.size) (by omega) _ _ _ _ _ _)⟩;exact NV.mono (λq _ c=>by omega) p _ g (NV.keep ((ah.refl _ wr).put6 (r:=w.heap.size) (λh=>by omega) _ _ _ _ _ _) p _ g hnv)
theorem oH {wx:World}{m0 n0:Int}
  (hnv:NV wx (λq=>w.heap.size<q/\q≠X) p (bT k so sn sc lo ln lc mm nn rr) g) (hX:X<wx.heap.size) (hw:w.heap.size<wx.heap.size)
  (e:w2=(put6 wx X (Vi 6) (Vz) (Vs wx.heap.size 1 1) (Vi m0) (Vi n0) (Vi 0)).alloc (.cells #[Vi k,.slice so sn sc,.slice lo ln lc,Vi mm,Vi nn,Vi rr] 27)) :
  NV w2 (λq=>w.heap.size<q/\q≠X) (.many p m0 n0) (bT 6 none 0 0 (some (aD wx.heap.size 0)) 1 1 m0 n0 0) g:=by
 subst e;have a:=ag.new (put6 wx X (Vi 6) (Vz) (Vs wx.heap.size 1 1) (Vi m0) (Vi n0) (Vi 0)) (bT k so sn sc lo ln lc mm nn rr) 27;rw[Cg]at a;refine⟨_,_,rfl,BC a rfl ⟨hw,by omega⟩,?_⟩;exact NV.keep (((ah.refl _ wx).put6 (r:=X) (λh=>h.2 rfl) _ _ _ _ _ _).trans (ah.alloc _ _ _)) p _ g hnv
theorem oI {T:TypeId}(h:ag w r cs T)(hl:cs.length=6)(c0 c1 c2 c3 c4 c5:Value):ag (put6 w r c0 c1 c2 c3 c4 c5) r [c0,c1,c2,c3,c4,c5] T:=by
 have:=(((((h.set 0 c0).set 1 c1).set 2 c2).set 3 c3).set 4 c4).set 5 c5;obtain⟨e,c,b,a,d,f,rfl⟩:∃e c b a d f,cs=[e,c,b,a,d,f]:=by
  match cs,hl with
  | [e,c,b,a,d,f],_=>exact⟨_,_,_,_,_,_,rfl⟩
 exact this
theorem Sc (ih:ld n)(h:St w b lv l s g d m)(hn:s.length<=n):bJ 165 b lv l g d m (dR (aU false n) s) w:=by
 unfold bJ;have f4:=aa h;have i:=aa h.1.lt;have f9:=h.1.lt;have HT:=aa h.2.2.1;have f1:Hid (dR (aU false n) s=(dy (aU false n) s).bind λx s'=>aY (s'.length+1) x s'):=rfl;go_enter func165,ntmps165;go_wp2_with fail;refine (Sa ih (f4.new Zo) hn).mono ?_;rintro e w1 ⟨k0,c9,b0,b5,b7,b9,a8,c8,a9,c7,rfl,K,a0⟩;have d6:=aa (((ag.new w Zq 27).off (c:=b) K (by omega)).alloc (.cells #[Vi k0,.slice c9 b0 b5,.slice b7 b9 a8,Vi c8,Vi a9,Vi c7] 27));have d5:Hid (Off b w (w1.alloc (.cells #[Vi k0,.slice c9 b0 b5,.slice b7 b9 a8,Vi c8,Vi a9,Vi c7] 27))):=(((Off.refl b w).alloc Zo).trans K).alloc _;have f5:w.heap.size+1<=w1.heap.size:=by have:=K.size;simp at this;omega
 have B:Hid (b<w1.heap.size/\w.heap.size<=w1.heap.size/\w1.heap.size≠w.heap.size):=by show _/\_;omega
 generalize hR:dR (aU false n) s=R;have HR:=aa hR;have HI:Hid (∃j,UE w w1.heap.size b lv l g d m R j (w1.alloc (.cells #[Vi k0,.slice c9 b0 b5,.slice b7 b9 a8,Vi c8,Vi a9,Vi c7] 27))):=by
  have d7:=ag.new w1 (bT k0 c9 b0 b5 b7 b9 a8 c8 a9 c7) 27;have e:=HR.out;rw[f1.out]at e;cases ha:dy (aU false n) s with
  |bad s'=>
   rw[ha]at a0 e;exact⟨1,d5,d6,_,_,_,_,_,_,_,_,_,_,d7,.inr ⟨s',a0.below ((zE _ _).alloc (zA _) _),e.symm⟩⟩
  |ok p s'=>
   rw[ha]at a0 e;obtain⟨A,I⟩:=a0;refine⟨s'.length+1,d5,d6,_,_,_,_,_,_,_,_,_,_,d7,.inl ⟨p,s',?_,I.new _,e,by omega⟩⟩;exact NV.keep (ah.alloc _ _ _) p _ g (NV.mono (λq hq f0=>by simp at f0;omega) p _ g A)
 obtain⟨j0,e3⟩:=HI.out;have d4:=aa e3;generalize hX:w1.heap.size=X at B d4 f5;go_wp2_with fail
 go_loopg [4,5] j0 (λj _ _ wr=>UE w X b lv l g d m R j wr)
 case atStart=>exact d4
 case round=>
  obtain⟨ho,e0,k,so,sn,sc,lo,ln,lc,mm,nn,rr,hx,d3⟩:=hrel;have G:=aa ho;have z:=aa e0;have f:=aa hx;rcases d3 with⟨p,s0,A,I,e6,f3⟩|⟨s',a4,e5⟩
  ·obtain⟨U,O,Q,T,N,P,hb⟩:=I.cells;have d1:=I.2.2.2.2.1.suf I.2.1;have y:=aa I;have u:=aa A;have HE:=aa e6;have b8:=aa f3;obtain⟨V,rfl⟩:∃V,gk=V+1:=⟨gk-1,by omega⟩;by_cases ht:df da s0=true
   ·cases s0 with
    |nil=>simp[df]at ht
    |cons c t=>
     have f2:c=42\/c=43\/c=63\/c=123:=by simpa [df,da]using ht
     rcases f2 with rfl|rfl|rfl|rfl
     ·have a6:Hid (aY V (.many p (0) (-1)) t=R):=by
       have:=HE.out;simp only[aY,df,da]at this;show aY _ _ _=_
       simpa [dn,Res.bind]using this
      go_wp2_with fail;refine (aM y).mono ?_;rintro e C ⟨rfl,a⟩;simp only[aW];replace y:=aa (y.drn a);replace G:=aa (G.trans (Off.drn a));replace z:=aa (z.off (Off.drn (b:=b) a) (by have:=i.out;omega));replace f:=aa (f.off (Off.drn (b:=b) a) (by have:=B.out;omega));replace u:=aa (NV.keep (ah.below a.below) _ _ _ u);obtain⟨U,O,Q,T,N,P,hb⟩:=y.out.cells;have c6:=y.1.frozen 1;have J:=y.2.2.2.1;obtain⟨⟨x0,x1,x2,x3,x4,x5⟩,D⟩:=bK f.out;have W:=f.frozen 0;have a2:=f.frozen 1;have Z:=f.frozen 2;have a1:=f.frozen 3;have Y:=f.frozen 4;have a5:=f.frozen 5;have o:=aa B;go_wp2_with fail;have S:=y.step;have L:Hid (w.heap.size<C.heap.size):=z.lt
      go_roundg V
      case measure=>omega
      case rel=>
       have H:X≠b:=by have:=o.out;omega
       have ho:Off b w _:=(G.trans S.2);have a7:=f.off S.2 H;have e1:(C.setCell (aD b 1) (Vi (((l.length-(42::t).length:Nat):Int)+1))).heap.size=C.heap.size:=by simp[World.setCell]
       have A:=NV.keep (ah.off (b:=b) S.2 (λh=>by have:=i.out;omega)) _ _ _ u;have st:=oH (w:=w) (X:=X) (m0:=0) (n0:=-1) A (by rw[e1];exact D) (by rw[e1];exact L) rfl;rw[e1]at st;have F:=(ho.put6 (r:=X) o.2.1 (Vi 6) (Vz) (Vs C.heap.size 1 1) (Vi (0)) (Vi (-1)) (Vi 0)).alloc (.cells #[Vi k,.slice so sn sc,.slice lo ln lc,Vi mm,Vi nn,Vi rr] 27);refine⟨F,((z.off S.2 (by have:=i.out;omega)).put6 (r:=X) (by have:=o.out;omega) _ _ _ _ _ _).alloc _,6,none,0,0,some (aD C.heap.size 0),1,1,0,-1,0,(oI a7 rfl _ _ _ _ _ _).alloc _,.inl ⟨_,t,st,?_,a6,?_⟩⟩
       ·exact St.move HT F S.1 ((S.1.1.put6 (r:=X) (by omega) _ _ _ _ _ _).alloc _)
       ·have:=b8.out;simp at this;omega
     ·have a6:Hid (aY V (.many p (1) (-1)) t=R):=by
       have:=HE.out;simp only[aY,df,da]at this;show aY _ _ _=_
       simpa [dn,Res.bind]using this
      go_wp2_with fail;refine (aM y).mono ?_;rintro e C ⟨rfl,a⟩;simp only[aW];replace y:=aa (y.drn a);replace G:=aa (G.trans (Off.drn a));replace z:=aa (z.off (Off.drn (b:=b) a) (by have:=i.out;omega));replace f:=aa (f.off (Off.drn (b:=b) a) (by have:=B.out;omega));replace u:=aa (NV.keep (ah.below a.below) _ _ _ u);obtain⟨U,O,Q,T,N,P,hb⟩:=y.out.cells;have c6:=y.1.frozen 1;have J:=y.2.2.2.1;obtain⟨⟨x0,x1,x2,x3,x4,x5⟩,D⟩:=bK f.out;have W:=f.frozen 0;have a2:=f.frozen 1;have Z:=f.frozen 2;have a1:=f.frozen 3;have Y:=f.frozen 4;have a5:=f.frozen 5;have o:=aa B;go_wp2_with fail;have S:=y.step;have L:Hid (w.heap.size<C.heap.size):=z.lt
      go_roundg V
      case measure=>omega
      case rel=>
       have H:X≠b:=by have:=o.out;omega
       have ho:Off b w _:=(G.trans S.2);have a7:=f.off S.2 H;have e1:(C.setCell (aD b 1) (Vi (((l.length-(43::t).length:Nat):Int)+1))).heap.size=C.heap.size:=by simp[World.setCell]
       have A:=NV.keep (ah.off (b:=b) S.2 (λh=>by have:=i.out;omega)) _ _ _ u;have st:=oH (w:=w) (X:=X) (m0:=1) (n0:=-1) A (by rw[e1];exact D) (by rw[e1];exact L) rfl;rw[e1]at st;have F:=(ho.put6 (r:=X) o.2.1 (Vi 6) (Vz) (Vs C.heap.size 1 1) (Vi (1)) (Vi (-1)) (Vi 0)).alloc (.cells #[Vi k,.slice so sn sc,.slice lo ln lc,Vi mm,Vi nn,Vi rr] 27);refine⟨F,((z.off S.2 (by have:=i.out;omega)).put6 (r:=X) (by have:=o.out;omega) _ _ _ _ _ _).alloc _,6,none,0,0,some (aD C.heap.size 0),1,1,1,-1,0,(oI a7 rfl _ _ _ _ _ _).alloc _,.inl ⟨_,t,st,?_,a6,?_⟩⟩
       ·exact St.move HT F S.1 ((S.1.1.put6 (r:=X) (by omega) _ _ _ _ _ _).alloc _)
       ·have:=b8.out;simp at this;omega
     ·have a6:Hid (aY V (.many p (0) (1)) t=R):=by
       have:=HE.out;simp only[aY,df,da]at this;show aY _ _ _=_
       simpa [dn,Res.bind]using this
      go_wp2_with fail;refine (aM y).mono ?_;rintro e C ⟨rfl,a⟩;simp only[aW];replace y:=aa (y.drn a);replace G:=aa (G.trans (Off.drn a));replace z:=aa (z.off (Off.drn (b:=b) a) (by have:=i.out;omega));replace f:=aa (f.off (Off.drn (b:=b) a) (by have:=B.out;omega));replace u:=aa (NV.keep (ah.below a.below) _ _ _ u);obtain⟨U,O,Q,T,N,P,hb⟩:=y.out.cells;have c6:=y.1.frozen 1;have J:=y.2.2.2.1;obtain⟨⟨x0,x1,x2,x3,x4,x5⟩,D⟩:=bK f.out;have W:=f.frozen 0;have a2:=f.frozen 1;have Z:=f.frozen 2;have a1:=f.frozen 3;have Y:=f.frozen 4;have a5:=f.frozen 5;have o:=aa B;go_wp2_with fail;have S:=y.step;have L:Hid (w.heap.size<C.heap.size):=z.lt
      go_roundg V
      case measure=>omega
      case rel=>
       have H:X≠b:=by have:=o.out;omega
       have ho:Off b w _:=(G.trans S.2);have a7:=f.off S.2 H;have e1:(C.setCell (aD b 1) (Vi (((l.length-(63::t).length:Nat):Int)+1))).heap.size=C.heap.size:=by simp[World.setCell]
       have A:=NV.keep (ah.off (b:=b) S.2 (λh=>by have:=i.out;omega)) _ _ _ u;have st:=oH (w:=w) (X:=X) (m0:=0) (n0:=1) A (by rw[e1];exact D) (by rw[e1];exact L) rfl;rw[e1]at st;have F:=(ho.put6 (r:=X) o.2.1 (Vi 6) (Vz) (Vs C.heap.size 1 1) (Vi (0)) (Vi (1)) (Vi 0)).alloc (.cells #[Vi k,.slice so sn sc,.slice lo ln lc,Vi mm,Vi nn,Vi rr] 27);refine⟨F,((z.off S.2 (by have:=i.out;omega)).put6 (r:=X) (by have:=o.out;omega) _ _ _ _ _ _).alloc _,6,none,0,0,some (aD C.heap.size 0),1,1,0,1,0,(oI a7 rfl _ _ _ _ _ _).alloc _,.inl ⟨_,t,st,?_,a6,?_⟩⟩
       ·exact St.move HT F S.1 ((S.1.1.put6 (r:=X) (by omega) _ _ _ _ _ _).alloc _)
       ·have:=b8.out;simp at this;omega
     ·have d9:Hid (∀r,bh t=r->aY (V+1) p (123::t)=(r.bind λmn s'=>aY V (.many p mn.1 mn.2) s')):=by
       rintro r rfl;simp only[aY,df,da];simp[dn]
      go_wp2_with fail;refine (aM y).mono ?_;rintro e C ⟨rfl,a⟩;simp only[aW];replace y:=aa (y.drn a);replace G:=aa (G.trans (Off.drn a));replace z:=aa (z.off (Off.drn (b:=b) a) (by have:=i.out;omega));replace f:=aa (f.off (Off.drn (b:=b) a) (by have:=B.out;omega));replace u:=aa (NV.keep (ah.below a.below) _ _ _ u);obtain⟨U,O,Q,T,N,P,hb⟩:=y.out.cells;have c6:=y.1.frozen 1;have J:=y.2.2.2.1;have o:=aa B;go_wp2_with fail;have S:=y.step;have H:X≠b:=by have:=o.out;omega
      have L:Hid (w.heap.size<C.heap.size):=z.lt;refine (Lu S.1).mono ?_;rintro e wc ⟨x9,y9,rfl,a3,b6⟩;have f6:Hid (Off b w wc):=(G.trans S.2).trans a3;have e4:=aa ((z.off S.2 (by have:=i.out;omega)).off a3 (by have:=i.out;omega));have E:=aa ((f.off S.2 H).off a3 H);have d8:=aa (NV.keep ((ah.off (b:=b) S.2 (λh=>by have:=i.out;omega)).trans (ah.off (b:=b) a3 (λh=>by have:=i.out;omega))) _ _ _ u);have e7:=aa (rU t);obtain⟨⟨x0,x1,x2,x3,x4,x5⟩,D⟩:=bK E.out;have W:=E.frozen 0;have a2:=E.frozen 1;have Z:=E.frozen 2;have a1:=E.frozen 3;have Y:=E.frozen 4;have a5:=E.frozen 5;go_wp2_with fail;have f7:Hid (w.heap.size<wc.heap.size):=e4.lt
      go_roundg V
      case measure=>omega
      case rel=>
       have F:=(f6.put6 (r:=X) o.2.1 (Vi 6) (Vz) (Vs wc.heap.size 1 1) (Vi x9) (Vi y9) (Vi 0)).alloc (.cells #[Vi k,.slice so sn sc,.slice lo ln lc,Vi mm,Vi nn,Vi rr] 27);refine⟨F,(e4.put6 (r:=X) (by have:=o.out;omega) _ _ _ _ _ _).alloc _,6,none,0,0,some (aD wc.heap.size 0),1,1,x9,y9,0,(oI E rfl _ _ _ _ _ _).alloc _,?_⟩;cases hct:bh t with
       |bad s2=>
        rw[hct]at b6;have e:=d9.out _ hct;obtain⟨i1,g1,m1,e8⟩:=b6.1;exact .inr ⟨s2,⟨i1,g1,m1,(e8.put6 (r:=X) (by have:=o.out;omega) _ _ _ _ _ _).alloc _⟩,by rw[<-HE.out,e];rfl⟩
       |ok mn s2=>
        rw[hct]at b6;have e2:=e7.out;rw[hct]at e2;have e:=d9.out _ hct;obtain⟨d0,rfl,rfl⟩:=b6;have st:=oH (w:=w) (X:=X) (m0:=mn.1) (n0:=mn.2) d8 D f7 rfl;refine .inl ⟨_,s2,st,St.move HT F d0 ((d0.1.put6 (r:=X) (by have:=o.out;omega) _ _ _ _ _ _).alloc _),by rw[<-HE.out,e];rfl,?_⟩;have:=b8.out;have:=e2.1;simp only[zG]at *;omega
   ·have d2:Hid (R=.ok p s0):=by
     have:=HE.out;simp only[aY]at this;rw[zR ht]at this;exact this.symm
    have M:¬aW s0=42/\¬aW s0=43/\¬aW s0=63/\¬aW s0=123:=by
     cases s0 with
     |nil=>simp[aW]
     |cons c t=>simpa [df,da,aW]using ht
    generalize hv:aW s0=x at M;have e9:=aa hv;have b1:(x==42)=false:=zD.2 M.1;have b2:(x==43)=false:=zD.2 M.2.1;have b3:(x==63)=false:=zD.2 M.2.2.1;have b4:(x==123)=false:=zD.2 M.2.2.2;go_wp2_with fail;refine (aM y).mono ?_;rintro e C ⟨rfl,a⟩;rw[e9.out];replace y:=aa (y.drn a);replace G:=aa (G.trans (Off.drn a));replace z:=aa (z.off (Off.drn (b:=b) a) (by have:=i.out;omega));replace f:=aa (f.off (Off.drn (b:=b) a) (by have:=B.out;omega));replace u:=aa (NV.keep (ah.below a.below) _ _ _ u);obtain⟨⟨x0,x1,x2,x3,x4,x5⟩,D⟩:=bK f.out;have W:=f.frozen 0;have a2:=f.frozen 1;have Z:=f.frozen 2;have a1:=f.frozen 3;have Y:=f.frozen 4;have a5:=f.frozen 5;obtain⟨⟨z0,z1,z2,z3,z4,z5⟩,⟨y0,y1,y2,y3,y4,y5⟩,f8⟩:=aQ z.out;go_wp2_with fail;refine zN (v:=.agg #[Vi k,.slice so sn sc,.slice lo ln lc,Vi mm,Vi nn,Vi rr]) (by simp[results,results165,go_sem,z0,z1,z2,z3,z4,z5]) rfl ⟨k,so,sn,sc,lo,ln,lc,mm,nn,rr,rfl,?_⟩;rw[HR.out,d2.out];exact Sb u y G i HT rfl
  ·obtain⟨i0,g0,m0,U,O,Q,T,N,P,hb⟩:=a4.cells;have HB:=aa a4;have d2:=aa e5;generalize l.length-s'.length=kk at Q;have hd:decide ((kk:Int)<0)=false:=by simp
   obtain⟨⟨x0,x1,x2,x3,x4,x5⟩,D⟩:=bK f.out;have W:=f.frozen 0;have a2:=f.frozen 1;have Z:=f.frozen 2;have a1:=f.frozen 3;have Y:=f.frozen 4;have a5:=f.frozen 5;obtain⟨⟨z0,z1,z2,z3,z4,z5⟩,⟨y0,y1,y2,y3,y4,y5⟩,f8⟩:=aQ z.out;go_wp2_with fail;refine zN (v:=.agg #[Vi k,.slice so sn sc,.slice lo ln lc,Vi mm,Vi nn,Vi rr]) (by simp[results,results165,go_sem,z0,z1,z2,z3,z4,z5]) rfl ⟨k,so,sn,sc,lo,ln,lc,mm,nn,rr,rfl,?_⟩;rw[HR.out,d2.out];exact mY HB i G rfl
theorem Tl {r:Res Pat}
  (hp:kZ b lv l g d m r (w.alloc o) w1 (bT k so sn sc lo ln lc mm nn rr)) (hb:b<w.heap.size) (ht:te w b lv l) (e:w2=put6 w1 w.heap.size (Vi k) (.slice so sn sc) (.slice lo ln lc) (Vi mm) (Vi nn) (Vi rr)):kZ b lv l g d m r w w2 (bT k so sn sc lo ln lc mm nn rr):=by
 subst e;obtain⟨t,hp⟩:=hp;have f:=(((Off.refl b w).alloc o).trans t).put6 (r:=w.heap.size) (zA _) (Vi k) (.slice so sn sc) (.slice lo ln lc) (Vi mm) (Vi nn) (Vi rr);refine⟨f,?_⟩;cases r with
 |bad s=>obtain⟨i,u,j,h⟩:=hp;exact⟨i,u,j,h.put6 (r:=w.heap.size) (by omega) _ _ _ _ _ _⟩
 |ok p s=>
  obtain⟨c,a⟩:=hp;refine⟨?_,St.move ht f a (a.1.put6 (r:=w.heap.size) (by omega) _ _ _ _ _ _)⟩;exact NV.mono (λq _ n=>by simp at n;omega) p _ g (NV.keep ((ah.refl _ w1).put6 (r:=w.heap.size) (λh=>by simp at h;omega) _ _ _ _ _ _) p _ g c)
theorem Im {r:Res Pat}{c:LV}{nd:Nat}(h:kZ b lv l g d m r (w.drewN nd) w1 c):kZ b lv l g d m r w w1 c :=
 ⟨⟨h.1.os,h.1.tape,h.1.output,h.1.size,h.1.block⟩,h.2⟩
theorem PF {wm:World}{g0:Nat}
  (hnv:NV wm A p (bT k so sn sc lo ln lc mm nn rr) g0) (hA:∀q,A q->w.heap.size<q) (hs:w.heap.size<=wm.heap.size)
  (e:w2=((put6 wm w.heap.size c0 c1 c2 c3 c4 c5).alloc o).alloc (.cells #[Vi k,.slice so sn sc,.slice lo ln lc,Vi mm,Vi nn,Vi rr] 27)) :
  cB w2 (λq=>w.heap.size<=q) 27 6 (.slice (some (aD (wm.heap.size+1) 0)) 1 1) 1 (bT k so sn sc lo ln lc mm nn rr)/\NV w2 (λq=>w.heap.size<=q) p (bT k so sn sc lo ln lc mm nn rr) g0:=by
 subst e;constructor
 ·have a:=ag.new ((put6 wm w.heap.size c0 c1 c2 c3 c4 c5).alloc o) (bT k so sn sc lo ln lc mm nn rr) 27;have b:((put6 wm w.heap.size c0 c1 c2 c3 c4 c5).alloc o).heap.size=wm.heap.size+1:=by simp[World.setCell]
  rw[b]at a;exact BC a rfl (Nat.le_succ_of_le hs)
 ·exact NV.mono (λq _ c=>by have:=hA q c;omega) p _ g0 (NV.keep ((((ah.refl A wm).put6 (r:=w.heap.size) (λh=>by have:=hA _ h;omega) _ _ _ _ _ _).trans (ah.alloc _ _ _)).trans (ah.alloc _ _ _)) p _ g0 hnv)
theorem XS (u:LZ)(r:Res Pat)(hrec:∀w',St w' b lv l t g (d+1) (max m (d+1))->bJ 138 b lv l g (d+1) (max m (d+1)) r w')(p:Pat)(hr:r=.ok p u)(h:St w b lv l (126::t) g d m):bJ 138 b lv l g d m (.ok (.not p) u) w:=by
 unfold bJ;have i:=aa h;have E:=aa h.1.lt;have I:=aa hrec;obtain⟨f1,f2,f3,f4,f5,f6⟩:=h.facts;have a1:=h.1.lt;subst hr;go_enter func138,ntmps138;go_wp2_with fail;refine (dc (i.new Zo) (by decide) (by decide)).mono ?_;rintro e H ⟨rfl,f,a⟩;have HS:=aa f;have B:Hid (Off b w H):=((Off.refl b w).alloc Zo).trans a;have n:=aa ((ag.new w Zq 27).off (c:=b) a (by omega));have HD:Hid (d+1<=((l.length-t.length:Nat):Int)):=by have:=i.2.2.2.2.2;have:=i.2.1.length_le;simp only[zG]at *;show _<=_;omega
 obtain⟨O,c1,T,W,M,L,hb⟩:=f.cells;have z:=f.1.frozen 4;have D:=f.1.frozen 5;go_wp2_with fail
 go_region
 go_wp2_with fail;have G:=aa (HS.deeper HD).drew;have C:Hid (Off b w ((H.setCell (aD b 4) (Vi (d+1))).setCell (aD b 5) (Vi (max m (d+1)))).drew):=((B.setCell 4 _).setCell 5 _).drew;replace n:=aa (((n.setOther (p:=(aD b 4)) (by simp;omega) (Vi (d+1))).setOther (p:=(aD b 5)) (by simp;omega) (Vi (max m (d+1)))).drew);have s:Hid (w.heap.size<((H.setCell (aD b 4) (Vi (d+1))).setCell (aD b 5) (Vi (max m (d+1)))).drew.heap.size):=n.lt;refine (I _ G).mono ?_;rintro e x ⟨k,so,V,sc,Y,X,R,mm,U,rr,rfl,a,F⟩;replace B:=aa (C.trans a);replace n:=aa (n.off a (by omega));obtain⟨o,f⟩:=F;have K:=aa o;have j:=aa f;obtain⟨O,c1,T,W,M,L,a0⟩:=j.out.cells;have z:=j.1.frozen 4;obtain⟨⟨S,Q,z2,z3,z4,Z⟩,⟨y0,y1,y2,y3,y4,y5⟩,A⟩:=aQ n.out
 try simp at S Q z2 z3 z4 Z y0 y1 y2 y3 y4 y5 A
 go_wp2_with fail;refine zN (v:=.agg #[Vi 5,Vz,.slice (some (aD (x.heap.size+1) 0)) 1 1,Vi 0,Vi 0,Vi 0]) (by simp[results,results138,go_sem,S,Q,z2,z3,z4,Z,A]) rfl ⟨5,none,0,0,some (aD (x.heap.size+1) 0),1,1,0,0,0,rfl,?_⟩;have HF:=(((B.setCell 4 (Vi d)).put6 (r:=w.heap.size) (zA _) (Vi 5) (Vz) (.slice (some (aD (x.heap.size+1) 0)) 1 1) (Vi 0) (Vi 0) (Vi 0)).alloc (.cells #[Vi k,.slice so V sc,.slice Y X R,Vi mm,Vi U,Vi rr] 27)).alloc (.cells #[Vi k,.slice so V sc,.slice Y X R,Vi mm,Vi U,Vi rr] 27);have N:(x.setCell (aD b 4) (Vi d)).heap.size=x.heap.size:=by simp[World.setCell]
 have y:=NV.keep (ah.set (p:=(aD b 4)) (Vi d) (yz (Nat.lt_trans E s))) p _ _ K;obtain⟨P,o2⟩:=PF (w:=w) y (λq hq=>zF s.out hq) (by rw[N];exact B.size) rfl;rw[N]at P;refine⟨HF,⟨_,_,rfl,P,o2⟩,?_⟩;have e2:((Pat.not p).groups)=p.groups:=by simp[Pat.groups]
 have e3:((Pat.not p).deep:Int)=(p.deep:Int)+1:=by simp[Pat.deep]
 have e:max (max m (d+1)) (d+1+(p.deep:Int))=max m (d+((p.deep:Int)+1)):=by omega
 have J:=j.setD d (by omega) (by have:=j.2.2.2.2.2;omega);rw[e]at J;rw[e2,e3];exact St.move i.2.2.1 HF J (((J.1.put6 (r:=w.heap.size) (by omega) _ _ _ _ _ _).alloc _).alloc _)
theorem Wp (u:LZ)(r:Res Pat)(hrec:∀w',St w' b lv l t g (d+1) (max m (d+1))->bJ 138 b lv l g (d+1) (max m (d+1)) r w')(hr:r=.bad u)(h:St w b lv l (126::t) g d m):bJ 138 b lv l g d m (.bad u) w:=by
 unfold bJ;have j:=aa h;have X:=aa h.1.lt;have E:=aa hrec;obtain⟨f1,f2,f3,f4,f5,f6⟩:=h.facts;have a0:=h.1.lt;subst hr;go_enter func138,ntmps138;go_wp2_with fail;refine (dc (j.new Zo) (by decide) (by decide)).mono ?_;rintro e D ⟨rfl,f,a⟩;have HS:=aa f;have B:Hid (Off b w D):=((Off.refl b w).alloc Zo).trans a;have n:=aa ((ag.new w Zq 27).off (c:=b) a (by omega));have W:Hid (d+1<=((l.length-t.length:Nat):Int)):=by have:=j.2.2.2.2.2;have:=j.2.1.length_le;simp only[zG]at *;show _<=_;omega
 obtain⟨N,c1,S,Z,x,M,hb⟩:=f.cells;have o:=f.1.frozen 4;have z:=f.1.frozen 5;go_wp2_with fail
 go_region
 go_wp2_with fail;have C:=aa (HS.deeper W).drew;have y:Hid (Off b w ((D.setCell (aD b 4) (Vi (d+1))).setCell (aD b 5) (Vi (max m (d+1)))).drew):=((B.setCell 4 _).setCell 5 _).drew;replace n:=aa (((n.setOther (p:=(aD b 4)) (by simp;omega) (Vi (d+1))).setOther (p:=(aD b 5)) (by simp;omega) (Vi (max m (d+1)))).drew);have O:Hid (w.heap.size<((D.setCell (aD b 4) (Vi (d+1))).setCell (aD b 5) (Vi (max m (d+1)))).drew.heap.size):=n.lt;refine (E _ C).mono ?_;rintro e H ⟨k,so,sn,sc,lo,ln,lc,mm,nn,rr,rfl,a,A⟩;replace B:=aa (y.trans a);replace n:=aa (n.off a (by omega));obtain⟨i1,R,m1,s⟩:=A;have i:=aa s;have x:=i.cell 4;have o:=i.frozen 4;have V:=i.lt;simp at x;obtain⟨⟨G,F,L,K,J,I⟩,⟨U,Q,Y,y3,T,P⟩,q⟩:=aQ n.out
 try simp at G F L K J I U Q Y y3 T P q
 go_wp2_with fail;refine zN (v:=.agg #[Vi 5,Vz,.slice (some (aD (H.heap.size+1) 0)) 1 1,Vi 0,Vi 0,Vi 0]) (by simp[results,results138,go_sem,G,F,L,K,J,I,q]) rfl ⟨5,none,0,0,some (aD (H.heap.size+1) 0),1,1,0,0,0,rfl,?_⟩;exact⟨(((B.setCell 4 (Vi d)).put6 (r:=w.heap.size) (zA _) _ _ _ _ _ _).alloc _).alloc _,i1,R,m1,((((i.set 4 (Vi d)).put6 (r:=w.heap.size) (by omega) _ _ _ _ _ _).alloc _).alloc _)⟩
theorem FM (ih:ld n)(h:St w b lv l s g d m)(hn:s.length<=n)(h126:s.head?≠some 126):bJ 138 b lv l g d m (dR (aU false n) s) w:=by
 unfold bJ;have a:=aa h;have q:=aa h.1.lt;have O:=aa h126;have S:=h.1.lt;go_enter func138,ntmps138;go_wp2_with fail;refine (ep _ (a.new Zo) (by decide) (by decide) O).mono ?_;rintro e U ⟨rfl,i⟩;obtain⟨R,rfl⟩:=i;have P:Hid (St ((w.alloc Zo).drewN R) b lv l s g d m):=a.new Zo;go_wp2_with fail;refine (Sc ih P hn).mono ?_;rintro e M ⟨k,x,p,y,u,t,j,z,o,A,rfl,f⟩;have H:Hid (kZ b lv l g d m (dR (aU false n) s) (w.alloc Zo) M (bT k x p y u t j z o A)):=Im f;have T:=aa ((ag.new w Zq 27).off (c:=b) (H.1) (by omega));obtain⟨⟨C,B,G,F,E,D⟩,⟨K,I,N,Q,L,J⟩,r⟩:=aQ T.out
 try simp at C B G F E D K I N Q L J r
 go_wp2_with fail;refine zN (v:=.agg #[Vi k,.slice x p y,.slice u t j,Vi z,Vi o,Vi A]) (by simp[results,results138,go_sem,C,B,G,F,E,D]) rfl ⟨k,x,p,y,u,t,j,z,o,A,rfl,?_⟩;exact Tl H q a.2.2.1 rfl
theorem FN (n:Nat)(ih:ld n)(b:Nat)(lv:Value)(l:LZ)(g:Nat):∀(s:LZ) (d m:Int) (w:World),St w b lv l s g d m->s.length<=n->bJ 138 b lv l g d m (dg (aU false n) s) w
 | [],d,m,w,h,hn=>FM ih h hn (by simp)
 |c::t,d,m,w,h,hn=>by
  simp only[dg];by_cases e:c=126
  ·subst e;rw[zX rfl];have a:∀f,St f b lv l t g (d+1) (max m (d+1))->bJ 138 b lv l g (d+1) (max m (d+1)) (dg (aU false n) t) f:=λf i=>FN n ih b lv l g t (d+1) (max m (d+1)) f i (by simp only[zG]at hn;omega);cases hr:dg (aU false n) t with
   |bad u=>rw[hr]at a;exact Wp u _ a rfl h
   |ok p u=>rw[hr]at a;exact XS u _ a p rfl h
  ·rw[zR e];exact FM ih h hn (by simpa using e)
theorem Ij:(prog.info? 27).map (λi=>(i.zero,i.size,i.bytes))=some (some (.agg #[Vi 0,Vz,Vz,Vi 0,Vi 0,Vi 0]),6,80):=by kernel_rfl
theorem BA {B':Nat}(h:w.ownsRow B 27 6 v n xs)(hb:B'<=B):w.ownsRow B' 27 6 v n xs:=by
 refine⟨h.1,?_⟩;rcases h.2 with d|⟨g,a,b,e,c,r⟩
 ·exact .inl d
 ·exact .inr ⟨g,a,b,e,zJ hb c,r⟩
theorem pD {w:World}{ops:Array Oper}{rest:List Oper}{o:Oper}{a:Act}{Q:Exit->Act->World->Prop}(hgd:o.guard=none)(s x:Operand)
  (ho:o.op=.call { callee:=.builtin .append,args:=#[s,x],argTypes:=#[25,25] }) (B n:Nat) (v:Value) (xs:LV) (hs:a.eval s=v) (hown:w.ownsRow B 27 6 v n xs)
  (ad:Addr) (news:LV) (hx:a.eval x=.slice (some ad) 1 1) (hl:news.length=6) (hnews:∀j u,news[j]?=some u->w.cell? (ad.add j)=some u) (h1:∀u∈news,u.oneCell'=true)
  (hn:n<=100000) (hB:B<=w.heap.size)
  (h:∀v' w',w'.ownsRow B 27 6 v' (n+1) (xs++news)->w.grownBy w' v.ownBlock->(v'.ownBlock=v.ownBlock\/∀g,v'.ownBlock=some g->w.heap.size<=g) ->
   wpList prog ops Q rest (a.put o.dst v') w'):wpList prog ops Q (o::rest) a w:=by
 obtain⟨y,t,p,i,q⟩:=zz Ij;have f:=hown;rcases hown.2 with⟨rfl,rfl⟩|⟨g,m,E,rfl,z,G,F,C,A,H⟩
 ·refine yo w hgd s x 25 ho 27 y (.agg #[Vi 0,Vz,Vz,Vi 0,Vi 0,Vi 0]) 6 80 underlying25 t p i q rfl (by decide) none 0 0 xs hs (λ_=>⟨rfl,rfl⟩) f.1 (λb e=>by cases e) ad 1 1 news hx hl hnews h1 (by omega) (by unfold maxLen;omega) (by omega) ?_;intro v' w' d c;exact h v' w' (BA d hB) ⟨c.os,c.tape,c.output,c.size,λk r _=>c.block k r (by simp)⟩ (.inr λg e=>(d.lt g e).1)
 ·by_cases l:n+1<=m
  ·refine wpList_append_fits w hgd s x 25 ho B 27 y 6 underlying25 t i g n m xs hs f ad 1 1 news hx hl hnews h1 l ?_;intro w' d c;exact h _ w' d c (.inl rfl)
  ·refine yo w hgd s x 25 ho 27 y (.agg #[Vi 0,Vz,Vz,Vi 0,Vi 0,Vi 0]) 6 80 underlying25 t p i q rfl (by decide) (some (aD g 0)) n m xs hs (λe=>by cases e) f.1 (λb e j u D=>by cases e;exact f.cells rfl j u D) ad 1 1 news hx hl hnews h1 (by omega) (by unfold maxLen;omega) (by omega) ?_;intro v' w' d c;exact h v' w' (BA d hB) ⟨c.os,c.tape,c.output,c.size,λk r _=>c.block k r (by simp)⟩ (.inr λg e=>(d.lt g e).1)
theorem BB (k:Int)(so:OA)(sn sc:Nat)(lo:OA)(ln lc:Nat)(mm nn rr:Int):∀u∈bT k so sn sc lo ln lc mm nn rr,u.oneCell'=true:=by
 intro u a;simp[bT]at a;rcases a with rfl|rfl|rfl|rfl|rfl|rfl<;>rfl
theorem Wk (h:ag w y (bT k so sn sc lo ln lc mm nn rr) 27):∀j u,(bT k so sn sc lo ln lc mm nn rr)[j]?=some u->w.cell? (((aD y 0):Addr).add j)=some u:=by
 intro j u a;rw[zl,<-a];simpa using h.cell j
theorem wO (w1:World)(o:Obj)(k:Int)(so:OA)(sn sc:Nat)(lo:OA)(ln lc:Nat)(mm nn rr:Int):∀j u,(bT k so sn sc lo ln lc mm nn rr)[j]?=some u->((w1.alloc o).alloc (.cells #[Vi k,.slice so sn sc,.slice lo ln lc,Vi mm,Vi nn,Vi rr] 27)).cell? (((aD (w1.heap.size+1) 0):Addr).add j)=some u:=by
 have h:=Wk (ag.new (w1.alloc o) (bT k so sn sc lo ln lc mm nn rr) 27);have e:(w1.alloc o).heap.size=w1.heap.size+1:=by simp
 rw[e]at h;exact h
theorem tD (h:w.ownsRow B 27 6 v n xs):∃ao cap,v=.slice ao n cap:=by
 rcases h.2 with⟨rfl,rfl⟩|⟨g,cap,a,rfl,_⟩<;>exact⟨_,_,rfl⟩
def AL (w:World)(X:Nat)(v:Value)(q:Nat):Prop:=w.heap.size+1<=q/\q≠X/\some q≠v.ownBlock
def LI (w:World)(X:Nat)(v:Value)(L:List Pat)(g:Nat)(wr:World):Prop:=∃xs,wr.ownsRow (w.heap.size+1) 27 6 v L.length xs/\v.ownBlock≠some X/\NL wr (AL w X v) L xs g
theorem LI.keep {w wr w':World}{X:Nat}{v:Value}{L:List Pat}{g:Nat}{b:Nat}(h:LI w X v L g wr)(k:Off b wr w')(hb:b<w.heap.size):LI w X v L g w':=by
 obtain⟨c,a,i,f⟩:=h;refine⟨c,bP a (λq d=>k.block q (a.lt q d).2 (by have:=(a.lt q d).1;omega)),i,NL.keep (ah.off k (λe=>by have:=e.1;omega)) L c g f⟩
theorem LI.nil (w wr:World)(X g:Nat):LI w X (Vz) [] g wr:=⟨[],zZ _ _ _ _,by simp[Value.ownBlock],rfl⟩
theorem LI.put (h:LI w X v L g wr)(c0 c1 c2 c3 c4 c5:Value):LI w X v L g (put6 wr w.heap.size c0 c1 c2 c3 c4 c5):=by
 obtain⟨b,a,i,f⟩:=h;have d:ah (λq=>w.heap.size+1<=q) wr (put6 wr w.heap.size c0 c1 c2 c3 c4 c5):=(ah.refl _ wr).put6 (r:=w.heap.size) (by simp) _ _ _ _ _ _;exact⟨b,bP a (λq c=>d.2 q (a.lt q c).2 (a.lt q c).1),i,NL.keep ((ah.refl _ wr).put6 (r:=w.heap.size) (λe=>by have:=e.1;omega) _ _ _ _ _ _) L b g f⟩
theorem LI.push {w3:World}{v':Value}{c:LV}{o1 o2:Obj}
  (h1:wr.ownsRow (w.heap.size+1) 27 6 v L.length xs) (h2:v.ownBlock≠some X) (h3:NL wr (AL w X v) L xs g) (hb:b<w.heap.size) (hX:X<wr.heap.size) (hw:w.heap.size<wr.heap.size)
  (hoff:Off b wr w1) (hnv:NV w1 (λq=>wr.heap.size<=q) p c (g+groupsL L))
  (ho3:w3.ownsRow (w.heap.size+1) 27 6 v' (L.length+1) (xs++c)) (hg:((w1.alloc o1).alloc o2).grownBy w3 v.ownBlock) (hloc:v'.ownBlock=v.ownBlock\/∀q,v'.ownBlock=some q->((w1.alloc o1).alloc o2).heap.size<=q) :
  LI w X v' (L++[p]) g (w3.setCell (aD X 2) v'):=by
 have j:v'.ownBlock≠some X:=by
  intro e;rcases hloc with h|h
  ·exact h2 (h▸e)
  ·have o:=h X e;have:=hoff.size;simp at o;omega
 have m:∀q,v.ownBlock=some q->q<wr.heap.size:=λq d=>(h1.lt q d).2;have s:=hoff.size;have i:∀q,q<w1.heap.size->some q≠v.ownBlock->some q≠v'.ownBlock:=by
  intro q d f e;rcases hloc with h|h
  ·exact f (e.trans h)
  ·have:=h q e.symm;simp at this;omega
 have k:ah (λq=>w.heap.size+1<=q/\q≠X/\some q≠v.ownBlock) w1 (w3.setCell (aD X 2) v') :=
  (((ah.alloc _ w1 o1).trans (ah.alloc _ _ o2)).trans (ah.grown hg (λq e a=>a.2.2 e.symm))).trans (ah.set _ (λa=>a.2.1 rfl))
 refine⟨xs++c,?_,j,?_⟩
 ·rw[zH];refine bP ho3 (λq d=>zk _ _ _ _ (λe=>j (by rw[d];simpa using e)))
 ·refine NL.snoc L xs g p c ?_ ?_
  ·have r:=NL.keep (ah.off hoff (λa=>by have:=a.1;omega)) L xs g h3;have n:=NL.mono (A':=λq=>(w.heap.size+1<=q/\q≠X/\some q≠v.ownBlock)/\some q≠v'.ownBlock) (λq d a=>⟨a,i q d a.2.2⟩) L xs g r;have l:=NL.keep (w':=w3.setCell (aD X 2) v') ⟨k.1,λq d a=>k.2 q d a.1⟩ L xs g n;exact NL.mono (λq _ a=>⟨a.1.1,a.1.2.1,a.2⟩) L xs g l
  ·have n:=NV.mono (A':=λq=>(w.heap.size+1<=q/\q≠X/\some q≠v.ownBlock)/\some q≠v'.ownBlock) (λq d a=>by
    have f:some q≠v.ownBlock:=λe=>by have:=m q e.symm;omega
    exact⟨⟨by omega,by omega,f⟩,i q d f⟩) p c _ hnv
   have l:=NV.keep (w':=w3.setCell (aD X 2) v') ⟨k.1,λq d a=>k.2 q d a.1⟩ p c _ n;exact NV.mono (λq _ a=>⟨a.1.1,a.1.2.1,a.2⟩) p c _ l
theorem LI.own (h:LI w X v L g wr):∃xs,cB wr (λq=>w.heap.size<=q) 27 6 v L.length xs/\NL wr (λq=>w.heap.size<=q) L xs g:=by
 obtain⟨xs,a,e,d⟩:=h;exact⟨xs,⟨BA a (zW _),λq b=>by have:=(a.lt q b).1;omega⟩,NL.mono (λq _ c=>by have:=c.1;omega) L xs g d⟩
theorem re {w3:World}{v':Value}{o1 o2:Obj}(h1:wr.ownsRow (w.heap.size+1) 27 6 v L.length xs)(hX:w.heap.size<X)(ho:Off b w wr)(hoff:Off b wr w1)(hg:((w1.alloc o1).alloc o2).grownBy w3 v.ownBlock) :
  Off b w (w3.setCell (aD X 2) v')/\(∀q cs T,ag w1 q cs T->q≠X->some q≠v.ownBlock->ag (w3.setCell (aD X 2) v') q cs T):=by
 refine⟨((((ho.trans hoff).alloc o1).alloc o2).grown hg (λq e=>by have:=(h1.lt q e).1;omega)).setNew (by simp;omega) _,?_⟩;intro q cs T d a c;exact (((d.alloc o1).alloc o2).grown hg c).setOther (by simpa using a) _
def XR (w:World)(b:Nat)(lv:Value)(l:List Int)(g:Nat)(d m:Int)(n:Nat)(R:Res Pat)(j:Nat)(wr:World):Prop :=
 Off b w wr/\ag wr w.heap.size Zq 27/\∃lo ln lc,ag wr (w.heap.size+1) (bT 2 none 0 0 lo ln lc 0 0 0) 27 /\
  ((∃L s0,LI w (w.heap.size+1) (.slice lo ln lc) L g wr/\St wr b lv l s0 ((g+groupsL L:Nat):Int) d (max m (d+ce L))/\L.length+s0.length<=60/\s0.length<=n/\cG false (aU false n) j L s0=R/\s0.length<j)\/(∃s',gu wr b lv l s' d/\R=.bad s'))
theorem mZ {s0:LZ}
  (hk:∀(w':World) (A:NP) (xs:LV),cB w' A 27 6 (.slice lo ln lc) L.length xs->NL w' A L xs g->NV w' A p (bT k none 0 0 lo ln lc 0 0 0) g) (hg:p.groups=groupsL L) (hd:p.deep=ce L)
  (hli:LI w X (.slice lo ln lc) L g wr) (hst:St wr b lv l s0 ((g+groupsL L:Nat):Int) d (max m (d+ce L))) (ho:Off b w wr) (hb:b<w.heap.size) (ht:te w b lv l)
  (e:w2=put6 wr w.heap.size (Vi k) (Vz) (.slice lo ln lc) (Vi 0) (Vi 0) (Vi 0)):kZ b lv l g d m (.ok p s0) w w2 (bT k none 0 0 lo ln lc 0 0 0):=by
 subst e;have a:=ho.put6 (r:=w.heap.size) (zA _) (Vi k) (Vz) (.slice lo ln lc) (Vi 0) (Vi 0) (Vi 0);obtain⟨xs,c,f⟩:=(hli.put (Vi k) (Vz) (.slice lo ln lc) (Vi 0) (Vi 0) (Vi 0)).own;refine⟨a,hk _ _ xs c f,?_⟩;rw[hg,hd];exact St.move ht a hst (hst.1.put6 (r:=w.heap.size) (by omega) _ _ _ _ _ _)
theorem pE {c:LV}(h0:gu wr b lv l s d)(hb:b<w.heap.size)(ho:Off b w wr)(e:w2=put6 wr w.heap.size c0 c1 c2 c3 c4 c5):kZ b lv l g d m (.bad s) w w2 c:=mY h0 hb ho e
theorem JS (ih:ld n)(h:St w b lv l s g d m)(hn:s.length<=n):bJ 97 b lv l g d m (fR false (aU false n) s) w:=by
 unfold bJ;have f1:=aa h;have V:=aa h.1.lt;have O:=h.1.lt;have HT:=aa h.2.2.1;have e8:=h.2.1.length_le;have e7:=h.2.2.2.1;have HM:Hid (St w b lv l s ((g+groupsL []:Nat):Int) d (max m (d+ce []))):=by
  have e:max m (d+((ce []:Nat):Int))=m:=by have:=h.2.2.2.2.2;simp[ce];omega
  show St _ _ _ _ _ _ _ _
  rw[e];exact h
 have a4:=aa (show XR w b lv l g d m n (fR false (aU false n) s) (s.length+1) ((w.alloc Zo).alloc (.cells #[Vi 2,Vz,Vz,Vi 0,Vi 0,Vi 0] 27))from by
  refine⟨((Off.refl b w).alloc _).alloc _,(ag.new w Zq 27).alloc _,none,0,0,?_,.inl ⟨[],s,LI.nil _ _ _ _,(HM.new _).new _,by simp;omega,hn,rfl,by omega⟩⟩;have:=ag.new (w.alloc Zo) (bT 2 none 0 0 none 0 0 0 0 0) 27;have e:(w.alloc Zo).heap.size=w.heap.size+1:=by simp
  rw[e]at this;exact this)
 generalize hR:fR false (aU false n) s=R at a4;have HR:=aa hR;go_enter func97,ntmps97;go_wp2_with fail
 go_loopg [4,5] (s.length+1) (λj _ _ wr=>XR w b lv l g d m n R j wr)
 case atStart=>exact a4
 case round=>
  obtain⟨ho,c7,M,N,I,hx,a5⟩:=hrel;have x:=aa ho;have y:=aa c7;have u:=aa hx;rcases a5 with⟨L,s0,b6,z,d9,c1,b5,d4⟩|⟨s',a3,b8⟩
  ·have T:=z.2.2.2.2.1.suf z.2.1;have o:=aa z;have i:=aa b6;have HE:=aa b5;have e4:=aa d4;have d5:=aa c1;obtain⟨j',rfl⟩:∃j',gk=j'+1:=⟨gk-1,by omega⟩;cases s0 with
   |nil=>
    have A:Hid (R=.ok (.row L) []):=by have:=HE.out;simp only[cG,il,yd]at this;exact this.symm
    go_wp2_with fail;refine (aM o).mono ?_;rintro e Q ⟨rfl,f⟩;simp only[aW];have a:Off b wr Q:=Off.drn f;replace o:=aa (o.drn f);replace x:=aa (x.trans a);replace y:=aa (y.off a (by omega));replace u:=aa (u.off a (by omega));replace i:=aa (i.keep a O);obtain⟨⟨x0,x1,x2,x3,x4,x5⟩,U⟩:=bK u.out;obtain⟨⟨D,G,C,E,F,B⟩,⟨y0,Z,y2,y3,y4,Y⟩,r⟩:=aQ y.out
    try simp at D G C E F B y0 Z y2 y3 y4 Y r
    go_wp2_with fail;refine zN (v:=.agg #[Vi 2,Vz,.slice M N I,Vi 0,Vi 0,Vi 0]) (by simp[results,results97,go_sem,D,G,C,E,F,B]) rfl ⟨2,none,0,0,M,N,I,0,0,0,rfl,?_⟩;rw[A.out];exact mZ (λ_ _ xs o1 o2=>⟨_,xs,rfl,o1,o2⟩) (by simp[Pat.groups]) (by simp[Pat.deep]) i o x V HT rfl
   |cons c t=>
    by_cases W:mw c=true
    ·have A:Hid (R=.ok (.row L) (c::t)):=by have:=HE.out;simp only[cG,il,W,Bool.true_or,yd]at this;exact this.symm
     have P:c=124\/c=38\/c=41:=by simpa [mw]using W
     rcases P with rfl|rfl|rfl
     ·go_wp2_with fail;refine (aM o).mono ?_;rintro e Q ⟨rfl,f⟩;simp only[aW];have a:Off b wr Q:=Off.drn f;replace o:=aa (o.drn f);replace x:=aa (x.trans a);replace y:=aa (y.off a (by omega));replace u:=aa (u.off a (by omega));replace i:=aa (i.keep a O);obtain⟨⟨x0,x1,x2,x3,x4,x5⟩,U⟩:=bK u.out;obtain⟨⟨D,G,C,E,F,B⟩,⟨y0,Z,y2,y3,y4,Y⟩,r⟩:=aQ y.out
      try simp at D G C E F B y0 Z y2 y3 y4 Y r
      go_wp2_with fail;refine zN (v:=.agg #[Vi 2,Vz,.slice M N I,Vi 0,Vi 0,Vi 0]) (by simp[results,results97,go_sem,D,G,C,E,F,B]) rfl ⟨2,none,0,0,M,N,I,0,0,0,rfl,?_⟩;rw[A.out];exact mZ (λ_ _ xs o1 o2=>⟨_,xs,rfl,o1,o2⟩) (by simp[Pat.groups]) (by simp[Pat.deep]) i o x V HT rfl
     ·go_wp2_with fail;refine (aM o).mono ?_;rintro e Q ⟨rfl,f⟩;simp only[aW];have a:Off b wr Q:=Off.drn f;replace o:=aa (o.drn f);replace x:=aa (x.trans a);replace y:=aa (y.off a (by omega));replace u:=aa (u.off a (by omega));replace i:=aa (i.keep a O);obtain⟨⟨x0,x1,x2,x3,x4,x5⟩,U⟩:=bK u.out;obtain⟨⟨D,G,C,E,F,B⟩,⟨y0,Z,y2,y3,y4,Y⟩,r⟩:=aQ y.out
      try simp at D G C E F B y0 Z y2 y3 y4 Y r
      go_wp2_with fail;refine zN (v:=.agg #[Vi 2,Vz,.slice M N I,Vi 0,Vi 0,Vi 0]) (by simp[results,results97,go_sem,D,G,C,E,F,B]) rfl ⟨2,none,0,0,M,N,I,0,0,0,rfl,?_⟩;rw[A.out];exact mZ (λ_ _ xs o1 o2=>⟨_,xs,rfl,o1,o2⟩) (by simp[Pat.groups]) (by simp[Pat.deep]) i o x V HT rfl
     ·go_wp2_with fail;refine (aM o).mono ?_;rintro e Q ⟨rfl,f⟩;simp only[aW];have a:Off b wr Q:=Off.drn f;replace o:=aa (o.drn f);replace x:=aa (x.trans a);replace y:=aa (y.off a (by omega));replace u:=aa (u.off a (by omega));replace i:=aa (i.keep a O);obtain⟨⟨x0,x1,x2,x3,x4,x5⟩,U⟩:=bK u.out;obtain⟨⟨D,G,C,E,F,B⟩,⟨y0,Z,y2,y3,y4,Y⟩,r⟩:=aQ y.out
      try simp at D G C E F B y0 Z y2 y3 y4 Y r
      go_wp2_with fail;refine zN (v:=.agg #[Vi 2,Vz,.slice M N I,Vi 0,Vi 0,Vi 0]) (by simp[results,results97,go_sem,D,G,C,E,F,B]) rfl ⟨2,none,0,0,M,N,I,0,0,0,rfl,?_⟩;rw[A.out];exact mZ (λ_ _ xs o1 o2=>⟨_,xs,rfl,o1,o2⟩) (by simp[Pat.groups]) (by simp[Pat.deep]) i o x V HT rfl
    ·have b4:mw c=false:=by simpa using W
     have hr:=(rune_iff c).1 T.head;have h0:¬c<0:=by omega
     have e9:decide (c<0)=false:=by simpa using h0
     have P:¬c=124/\¬c=38/\¬c=41:=by simpa [mw]using W
     have b1:(c==124)=false:=zD.2 P.1;have b2:(c==38)=false:=zD.2 P.2.1;have b3:(c==41)=false:=zD.2 P.2.2;have d3:Hid ((dg (aU false n) (c::t)).bind (λp s'=>cG false (aU false n) j' (L++[p]) s')=R):=by
      have:=HE.out;simp only[cG,il,b4,Bool.false_and,Bool.or_self,yR,if_false]at this;exact this
     have d8:=aa (kJ (fU false n) (c::t));go_wp2_with fail;refine (aM o).mono ?_;rintro e Q ⟨rfl,f⟩;simp only[aW];have a:Off b wr Q:=Off.drn f;replace o:=aa (o.drn f);replace x:=aa (x.trans a);replace y:=aa (y.off a (by omega));replace u:=aa (u.off a (by omega));replace i:=aa (i.keep a O);go_wp2_with fail;refine (FN n ih b lv l _ _ _ _ _ o d5).mono ?_;rintro e w1 ⟨k,so,sn,sc,K,J,S,mm,nn,rr,rfl,H,c9⟩;have a0:=aa H;have a8:=aa ((u.off H (by omega)).alloc (.cells #[Vi k,.slice so sn sc,.slice K J S,Vi mm,Vi nn,Vi rr] 27));have HY:=aa ((ag.new w1 (bT k so sn sc K J S mm nn rr) 27));have HP:=aa c9;have a9:Hid (w.heap.size+1<Q.heap.size):=u.lt;have d1:Hid (Q.heap.size<=w1.heap.size):=H.size;obtain⟨⟨x0,x1,x2,x3,x4,x5⟩,U⟩:=bK a8.out;have f2:=a8.frozen 2;obtain⟨xs,q1,q2,q3⟩:=i.out;have c2:=aa q1;have d0:=aa q3;have b9:=aa q2;have a1:=bP q1 (λq hq=>a0.block q (q1.lt q hq).2 (by have:=(q1.lt q hq).1;omega));have d6:=aa ((a1.alloc (.cells #[Vi k,.slice so sn sc,.slice K J S,Vi mm,Vi nn,Vi rr] 27)).alloc (.cells #[Vi k,.slice so sn sc,.slice K J S,Vi mm,Vi nn,Vi rr] 27));have c5:Hid (∀q,(Value.slice M N I).ownBlock=some q->w.heap.size+1<=q):=λq hq=>(q1.lt q hq).1;go_wp2_with (at_builtin;refine pD rfl (.tmp 27) (.tmp 29) rfl (w.heap.size+1) L.length _ _ rfl d6 (aD (w1.heap.size+1) 0) (bT k so sn sc K J S mm nn rr) rfl rfl (wO _ _ _ _ _ _ _ _ _ _ _ _) (BB _ _ _ _ _ _ _ _ _ _) (by omega) (by have:=a9.out;have:=d1.out;simp;omega) ?_;intro v' w3 c3 b7 X;have c4:=aa c3;have a6:=aa b7;have e0:=aa X;obtain⟨c8,a2,rfl⟩:=tD c4.out;have a7:=aa (((a8).alloc (.cells #[Vi k,.slice so sn sc,.slice K J S,Vi mm,Vi nn,Vi rr] 27)).grown a6 (λe=>b9 e.symm));obtain⟨⟨_,_,f0,_,_,_⟩,e6⟩:=bK a7.out;have e5:=a7.frozen 2)
     go_roundg j'
     case measure=>omega
     case rel=>
      obtain⟨F1,F2⟩:=re (v':=.slice c8 (L.length+1) a2) c2.out (xC _) x.out a0.out a6.out;have c0:some b≠(Value.slice M N I).ownBlock:=λe=>by have:=c5.out b e.symm;omega
      have d2:some w.heap.size≠(Value.slice M N I).ownBlock:=λe=>by have:=c5.out _ e.symm;omega
      refine⟨F1,F2 _ _ _ (y.off a0 (by omega)) (by omega) d2,c8,L.length+1,a2,a7.set 2 _,?_⟩;have hp:=HP.out;have c6:=d8.out;have W:=d3.out;cases hr:dg (aU false n) (c::t)with
      |bad s2=>
       rw[hr]at hp W;obtain⟨i1,g1,m1,d7⟩:=hp;exact .inr ⟨s2,⟨i1,g1,m1,F2 _ _ _ d7 (by omega) c0⟩,W.symm⟩
      |ok p s2=>
       rw[hr]at hp W c6;obtain⟨e3,z⟩:=hp;have hl:=c6.1;have b0:=e4.out;simp only[zG]at hl d9 c1 b0;have e1:(g+groupsL L)+p.groups=g+groupsL (L++[p]):=by rw[iU];omega
       have e2:max (max m (d+(ce L:Int))) (d+(p.deep:Int))=max m (d+(ce (L++[p]):Int)):=by rw[mK];omega
       rw[e1,e2]at z;refine .inl ⟨L++[p],s2,LI.push c2 b9 d0 O a9 (Nat.lt_trans (xC _) a9) a0 e3 c4 a6 e0,St.move HT F1 z (F2 _ _ _ z.1 (by omega) c0),?_,by omega,W,by omega⟩;rw[zH];simp;omega
  ·have HB:=aa a3;have A:=aa b8;go_wp2_with fail;refine (Fj HB).mono ?_;rintro e Q ⟨rfl,f⟩;have a:Off b wr Q:=Off.drn f;replace HB:=aa (HB.off f);replace x:=aa (x.trans a);replace y:=aa (y.off a (by omega));replace u:=aa (u.off a (by omega));obtain⟨⟨x0,x1,x2,x3,x4,x5⟩,U⟩:=bK u.out;obtain⟨⟨D,G,C,E,F,B⟩,⟨y0,Z,y2,y3,y4,Y⟩,r⟩:=aQ y.out
   try simp at D G C E F B y0 Z y2 y3 y4 Y r
   go_wp2_with fail;refine zN (v:=.agg #[Vi 2,Vz,.slice M N I,Vi 0,Vi 0,Vi 0]) (by simp[results,results97,go_sem,D,G,C,E,F,B]) rfl ⟨2,none,0,0,M,N,I,0,0,0,rfl,?_⟩;rw[A.out];exact pE HB V x rfl
theorem TT (h:ag w y cs 27)(hl:cs.length=6)(hB:B<=y):w.ownsRow B 27 6 (Vs y 1 1) 1 cs:=by
 refine⟨by omega,.inr ⟨y,1,cs.toArray,rfl,hB,h,zA _,by unfold maxLen;omega,by simp[hl],?_⟩⟩;simp only[Nat.one_mul];rw[yF (by simp[hl])]
def MQ (w:World)(X:Nat)(b:Nat)(lv:Value)(l:List Int)(g:Nat)(d m:Int)(n:Nat)(kind:Int)(part:List Int->Res Pat)(sign:Int)(mk:List Pat->Pat)(R:Res Pat)(j:Nat)(wr:World):Prop :=
 Off b w wr/\ag wr w.heap.size Zq 27/\∃lo ln lc,ag wr X (bT kind none 0 0 lo ln lc 0 0 0) 27 /\
  ((∃L s0,LI w X (.slice lo ln lc) L g wr/\St wr b lv l s0 ((g+groupsL L:Nat):Int) d (max m (d+ce L))/\L.length+s0.length<=61/\s0.length<=n/\(if s0.head?=some sign then bE part sign mk j L s0.tail else .ok (mk L) s0)=R/\s0.length<=j)\/(∃s',gu wr b lv l s' d/\R=.bad s'))
theorem AM {kind:Int}{part:List Int->Res Pat}{sign:Int}{mk:List Pat->Pat}{lo1:OA}{ln1 lc1:Nat}
  (hp:kZ b lv l g d m (part s) (w.alloc Zo) w1 (bT k so sn sc lo1 ln1 lc1 mm nn rr)) (hgo:∀s,cN (part s) s) (hb:b<w.heap.size) (hn:s.length<=n) (h60:s.length<=60) :
  MQ w (w1.heap.size+1) b lv l g d m n kind part sign mk (bE part sign mk (s.length+1) [] s) s.length ((w1.alloc (.cells #[Vi k,.slice so sn sc,.slice lo1 ln1 lc1,Vi mm,Vi nn,Vi rr] 27)).alloc (.cells #[Vi kind,Vz,Vs w1.heap.size 1 1,Vi 0,Vi 0,Vi 0] 27)):=by
 obtain⟨e,hp⟩:=hp;have r:=e.size;simp at r;have j:(w1.alloc (.cells #[Vi k,.slice so sn sc,.slice lo1 ln1 lc1,Vi mm,Vi nn,Vi rr] 27)).heap.size=w1.heap.size+1:=by simp
 have h:=ag.new (w1.alloc (.cells #[Vi k,.slice so sn sc,.slice lo1 ln1 lc1,Vi mm,Vi nn,Vi rr] 27)) (bT kind none 0 0 (some (aD w1.heap.size 0)) 1 1 0 0 0) 27;rw[j]at h;refine⟨((((Off.refl b w).alloc _).trans e).alloc _).alloc _,(((ag.new w Zq 27).off e (by omega)).alloc _).alloc _,_,_,_,h,?_⟩;have a:=hgo s;cases hr:part s with
 |bad s'=>
  rw[hr]at hp;refine .inr ⟨s',(hp.below ((zE _ _).alloc (zA _) _)).below ((zE _ _).alloc (zA _) _),?_⟩;simp only[bE,hr,Res.bind]
 |ok p s'=>
  rw[hr]at hp a;obtain⟨f,c⟩:=hp;have t:=List.IsSuffix.length_le a;refine .inl ⟨[p],s',?_,?_,by simp;omega,by omega,by simp only[bE,hr,Res.bind,zd],t⟩
  ·have o:=(ag.new w1 (bT k so sn sc lo1 ln1 lc1 mm nn rr) 27).alloc (.cells #[Vi kind,Vz,Vs w1.heap.size 1 1,Vi 0,Vi 0,Vi 0] 27);refine⟨_,TT o rfl (by omega),by simp[Value.ownBlock],bT k so sn sc lo1 ln1 lc1 mm nn rr,[],by simp,?_,rfl⟩;refine NV.keep ((ah.alloc _ _ _).trans (ah.alloc _ _ _)) p _ g (NV.mono (λq x u=>?_) p _ g f);simp at u;exact⟨by omega,by omega,by simp[Value.ownBlock];omega⟩
  ·have v:g+p.groups=g+groupsL [p]:=by simp[groupsL]
   have i:max m (d+(p.deep:Int))=max m (d+(ce [p]:Int)):=by simp[ce]
   rw[v,i]at c;exact (c.new _).new _
