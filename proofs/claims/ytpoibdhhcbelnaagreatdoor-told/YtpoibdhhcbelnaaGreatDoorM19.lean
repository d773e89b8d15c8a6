/- Walks and plain laws, some texts in one. -/
import Derived.Deep.RegionHeld3
import Derived.Test.YtpoibdhhcbelnaaGreatDoorM12
import Derived.Test.YtpoibdhhcbelnaaGreatDoorM17
import Derived.Test.YtpoibdhhcbelnaaGreatDoorM18
import Derived.Test.YtpoibdhhcbelnaaGreatDoorM09
import Derived.Test.YtpoibdhhcbelnaaGreatDoorM06
namespace Go.Proofs.YtpoibdhhcbelnaaGreatDoor
open Go.RowKit Brm
structure KR (R:Nat->Prop)(w w':World):Prop where
  os:w'.os=w.os
  tape:w'.tape=w.tape
  output:w'.output=w.output
  size:w.heap.size<=w'.heap.size
  block:∀ k,k<w.heap.size->¬ R k->w'.heap[k]?=w.heap[k]?
theorem KR.refl (R:Nat->Prop)(w:World):KR R w w:=⟨rfl,rfl,rfl,Nat.le_refl _,fun _ _ _=>rfl⟩
theorem KR.trans {R:Nat->Prop}{a b c:World}(h:KR R a b)(k:KR R b c):KR R a c :=
  ⟨k.os.trans h.os,k.tape.trans h.tape,k.output.trans h.output,Nat.le_trans h.size k.size,fun i hi hr=>(k.block i (Nat.lt_of_lt_of_le hi h.size) hr).trans (h.block i hi hr)⟩
theorem KR.below {R:Nat->Prop}{w w':World}(h:Below w.heap.size w w'):KR R w w':=⟨h.os,h.tape,h.output,h.size,fun k hk _=>h.block k hk⟩
theorem KR.drew {R:Nat->Prop}{a w:World}(h:KR R a w):KR R a w.drew:=⟨h.os,h.tape,h.output,h.size,h.block⟩
theorem KR.alloc {R:Nat->Prop}{a w:World}(h:KR R a w)(o:Obj):KR R a (w.alloc o):=h.trans ⟨rfl,rfl,rfl,by simp,fun k hk _=>Below.heap_alloc _ _ _ hk⟩
theorem KR.set {R:Nat->Prop}{a w:World}(h:KR R a w){p:Addr}(hp:R p.block)(u:Value):KR R a (w.setCell p u):=h.trans ⟨rfl,rfl,rfl,by simp [World.setCell],fun k _ hne=>Below.heap_setCell _ _ _ _ (fun e=>hne (e▸hp))⟩
theorem KR.cell {R:Nat->Prop}{w w':World}(h:KR R w w'){p:Addr}(hp:p.block<w.heap.size)(hne:¬ R p.block):w'.cell? p=w.cell? p:=World.cell?_of_block (w:=w) (h.block p.block hp hne)
theorem KR.keeps {R A:Nat->Prop}{w w':World}(h:KR R w w')(ha:∀ g,A g->¬ R g):Keeps A w w':=⟨h.size,fun k hk hA=>h.block k hk (ha k hA)⟩
theorem Blk.kr {R:Nat->Prop}{w w':World}{b:Nat}{cs:List Value}{T:TypeId}(h:Blk w b cs T)(k:KR R w w')(hr:¬ R b):Blk w' b cs T:=(k.block b h.lt hr).trans h
theorem cell_lt {w:World}{p:Addr}{v:Value}(h:w.cell? p=some v):p.block<w.heap.size:=by
  apply Nat.lt_of_not_le
  intro hle
  have:w.heap[p.block]?=none:=Array.getElem?_eq_none hle
  simp [World.cell?,this] at h
structure Cx where
  L:List Pat
  l:List Int
  bt:Nat
  kb:Nat
  rb:Nat->Nat
  ao:Option Addr
  rc:Nat
  gv:Value
  cap:Nat
def Cx.R (c:Cx)(g:Nat):Prop:=∃ k,k<c.L.length/\c.rb k=g
def Cx.A (c:Cx)(g:Nat):Prop:=¬ c.R g
def RunesA (w:World)(R:Nat->Prop)(ao:Option Addr)(l:List Int):Prop:=∀ i x,l[i]?=some x->∃ b o,ao=some ⟨b,o,none⟩/\¬ R b/\b<w.heap.size/\w.cell? ⟨b,o+i,none⟩=some (.int .i32 x)
structure Inv (c:Cx)(w:World):Prop where
  make ::
  len:c.l.length<=40
  all:AllR c.l
  parts:c.L.length<=1000000
  bound:∀ g,c.R g->g<w.heap.size
  tab:TabAt 2 Lib.deBruijn64tab w
  tab2:¬ c.R 2
  text:Blk w c.bt [.slice c.ao c.l.length c.rc,.slice (some ⟨c.kb,0,none⟩) c.L.length c.cap,c.gv] 188
  bt:¬ c.R c.bt
  runes:RunesA w c.R c.ao c.l
  kb:¬ c.R c.kb
  inj:∀ k k',k<c.L.length->k'<c.L.length->c.rb k=c.rb k'->k=k'
  row:∀ k,k<c.L.length->w.cell? ⟨c.kb,k,none⟩=some (.slice (some ⟨c.rb k,0,none⟩) (c.l.length+1) (c.l.length+1))
  known:∀ k q i,c.L[k]?=some q->i<=c.l.length->w.frozen? ⟨c.rb k,i,none⟩=false/\(w.cell? ⟨c.rb k,i,none⟩=some (.int .u64 0)\/w.cell? ⟨c.rb k,i,none⟩=some (.int .u64 ((9223372036854775808+mk (mT q c.l i) (c.l.length+1):Nat):Int)))
theorem Inv.below {c:Cx}{w w':World}(h:Inv c w)(k:Below w.heap.size w w'):Inv c w' where
  len:=h.len
  all:=h.all
  parts:=h.parts
  bound:=fun g hg=>Nat.lt_of_lt_of_le (h.bound g hg) k.size
  tab:=fun j hj=>(k.cell (cell_lt (h.tab j hj))).trans (h.tab j hj)
  tab2:=h.tab2
  text:=h.text.below k
  bt:=h.bt
  runes:=fun i x hx=>by obtain ⟨b,o,e,hr,hb,hc⟩:=h.runes i x hx;exact ⟨b,o,e,hr,Nat.lt_of_lt_of_le hb k.size,(k.cell (p:=⟨b,o+i,none⟩) hb).trans hc⟩
  kb:=h.kb
  inj:=h.inj
  row:=fun j hj=>(k.cell (cell_lt (h.row j hj))).trans (h.row j hj)
  known:=fun j q i hj hi=>by
    have hlt:c.rb j<w.heap.size:=h.bound _ ⟨j,(List.getElem?_eq_some_iff.1 hj).1,rfl⟩
    rw [k.cell (p:=⟨c.rb j,i,none⟩) hlt,k.frozen (p:=⟨c.rb j,i,none⟩) hlt]
    exact h.known j q i hj hi
theorem Inv.alloc {c:Cx}{w:World}(h:Inv c w)(o:Obj):Inv c (w.alloc o):=h.below ((Below.refl _ _).alloc (Nat.le_refl _) _)
theorem Inv.drew {c:Cx}{w:World}(h:Inv c w):Inv c w.drew:=h.below (Below.refl _ _).drew
theorem Inv.store {c:Cx}{w:World}(h:Inv c w){k:Nat}{q:Pat}{i:Nat}(hq:c.L[k]?=some q)(hi:i<=c.l.length){u:Value}(hu:u=.int .u64 ((9223372036854775808+mk (mT q c.l i) (c.l.length+1):Nat):Int)):Inv c (w.setCell ⟨c.rb k,i,none⟩ u):=by
  subst hu
  have hk:=(List.getElem?_eq_some_iff.1 hq).1
  have hR:c.R (c.rb k):=⟨k,hk,rfl⟩
  have hkr:∀ u,KR c.R w (w.setCell ⟨c.rb k,i,none⟩ u):=fun u=>(KR.refl _ _).set hR u
  have hcell:∃ v,w.cell? ⟨c.rb k,i,none⟩=some v:=by rcases (h.known k q i hq hi).2 with h | h<;>exact ⟨_,h⟩
  exact {
    len:=h.len
    all:=h.all
    parts:=h.parts
    bound:=fun g hg=>by simpa [World.setCell] using h.bound g hg
    tab:=fun j hj=>((hkr _).cell (cell_lt (h.tab j hj)) h.tab2).trans (h.tab j hj)
    tab2:=h.tab2
    text:=h.text.kr (hkr _) h.bt
    bt:=h.bt
    runes:=fun j x hx=>by obtain ⟨b,o,e,hr,hb,hc⟩:=h.runes j x hx;exact ⟨b,o,e,hr,Nat.lt_of_lt_of_le hb (hkr _).size,((hkr _).cell (p:=⟨b,o+j,none⟩) hb hr).trans hc⟩
    kb:=h.kb
    inj:=h.inj
    row:=fun j hj=>((hkr _).cell (cell_lt (h.row j hj)) h.kb).trans (h.row j hj)
    known:=fun j q' i' hj hi'=>by
      have hjl:=(List.getElem?_eq_some_iff.1 hj).1
      by_cases he:j=k/\i'=i
      · obtain ⟨rfl,rfl⟩:=he
        rw [hq] at hj
        cases hj
        obtain ⟨v,hv⟩:=hcell
        refine ⟨?_,.inr ?_⟩
        · rw [World.frozen?_setCell];exact (h.known j q i' hq hi).1
        · rw [World.cell?_setCell_same (h:=hv)]
      · have hne:(⟨c.rb j,i',none⟩:Addr)≠⟨c.rb k,i,none⟩:=by
          intro e
          simp only [Addr.mk.injEq,and_true] at e
          exact he ⟨h.inj j k hjl hk e.1,e.2⟩
        refine ⟨?_,?_⟩
        · rw [World.frozen?_setCell];exact (h.known j q' i' hj hi').1
        · rw [World.cell?_setCell_other (h:=Ne.symm hne)];exact (h.known j q' i' hj hi').2 }
def Rem (w:World)(A:Nat->Prop)(L:List Pat)(p:Pat)(f:Value)(Q:Value->Prop):Prop:=∃ bn be e,∃ num:Nat,f=.func (.func 192) #[] #[Ptr bn,Ptr be]/\A bn/\A be/\Blk w bn [.int .i64 num] 3/\Blk w be [e] 176/\L[num]?=some p/\num<1000000/\Q e
def Bx (w:World)(A:Nat->Prop)(F:Nat)(n:Nat)(xs:List Value)(e:Value):Prop:=∃ bi lv,e=.func (.func F) #[] #[Ptr bi]/\A bi/\Blk w bi [lv] 242/\Own w A 180 2 lv n xs
def IsF (t:Value):Prop:=∃ G tc,t=.func (.func G) #[] tc
mutual
def EV (w:World)(A:Nat->Prop)(L:List Pat):Pat->Value->Prop
  | .set s,f=>∃ b sv,f=.func (.func 206) #[] #[Ptr b]/\A b/\Blk w b [sv] 29/\SlA w A sv s
  | .row l,f=>l.length<=100/\∃ xs,EVL w A L l xs/\Rem w A L (.row l) f (Bx w A 193 l.length xs)
  | .or l,f=>l.length<=100/\∃ xs,EVL w A L l xs/\((l.length=1/\∃ t,xs=[f,t])\/(l.length≠1/\Rem w A L (.or l) f (Bx w A 198 l.length xs)))
  | .and l,f=>l.length<=100/\∃ xs,EVL w A L l xs/\((l.length=1/\∃ t,xs=[f,t])\/(l.length≠1/\Rem w A L (.and l) f (Bx w A 200 l.length xs)))
  | .not p,f=>∃ g t,EV w A L p g/\Rem w A L (.not p) f (fun e=>∃ bi,e=.func (.func 202) #[] #[Ptr bi]/\A bi/\Blk w bi [g,t] 180)
  | .many p m n,f=>∃ g t,EV w A L p g/\Rem w A L (.many p m n) f (fun e=>∃ b0 b1 b2,e=.func (.func 203) #[] #[Ptr b0,Ptr b1,Ptr b2]/\A b0/\A b1/\A b2/\Blk w b0 [.int .i64 m] 3/\Blk w b1 [g,t] 180/\Blk w b2 [.int .i64 n] 3)
  | .group p,f=>EV w A L p f
def EVL (w:World)(A:Nat->Prop)(L:List Pat):List Pat->List Value->Prop
  | [],xs=>xs=[]
  | p::l,xs=>∃ f t r,xs=f::t::r/\IsF t/\EV w A L p f/\EVL w A L l r
end
theorem Rem.keep {A:Nat->Prop}{w w':World}{L:List Pat}{p:Pat}{f:Value}{Q Q':Value->Prop}(k:Keeps A w w')(hQ:∀ e,Q e->Q' e)(h:Rem w A L p f Q):Rem w' A L p f Q':=by
  obtain ⟨bn,be,e,num,rfl,h1,h2,h3,h4,h5,h6,h7⟩:=h
  exact ⟨bn,be,e,num,rfl,h1,h2,h3.keep k h1,h4.keep k h2,h5,h6,hQ e h7⟩
theorem Bx.keep {A:Nat->Prop}{w w':World}{F n:Nat}{xs:List Value}(k:Keeps A w w')(e:Value)(h:Bx w A F n xs e):Bx w' A F n xs e:=by
  obtain ⟨bi,lv,rfl,h1,h2,h3⟩:=h
  exact ⟨bi,lv,rfl,h1,h2.keep k h1,h3.keep k⟩
mutual
theorem EV.keep {A:Nat->Prop}{w w':World}{L:List Pat}(k:Keeps A w w'):∀ (p:Pat) (f:Value),EV w A L p f->EV w' A L p f
  | .set s,f,h=>by obtain ⟨b,sv,e,ha,hb,hs⟩:=h;exact ⟨b,sv,e,ha,hb.keep k ha,hs.keep k⟩
  | .row l,f,h=>by obtain ⟨h9,xs,hl,hr⟩:=h;exact ⟨h9,xs,EVL.keep k l xs hl,hr.keep k (Bx.keep k)⟩
  | .or l,f,h=>by
    obtain ⟨h9,xs,hl,hr⟩:=h
    refine ⟨h9,xs,EVL.keep k l xs hl,?_⟩
    rcases hr with hr | ⟨hn,hr⟩
    · exact .inl hr
    · exact .inr ⟨hn,hr.keep k (Bx.keep k)⟩
  | .and l,f,h=>by
    obtain ⟨h9,xs,hl,hr⟩:=h
    refine ⟨h9,xs,EVL.keep k l xs hl,?_⟩
    rcases hr with hr | ⟨hn,hr⟩
    · exact .inl hr
    · exact .inr ⟨hn,hr.keep k (Bx.keep k)⟩
  | .not p,f,h=>by
    obtain ⟨g,t,hp,hr⟩:=h
    exact ⟨g,t,EV.keep k p g hp,hr.keep k (fun e he=>by obtain ⟨bi,e1,h1,h2⟩:=he;exact ⟨bi,e1,h1,h2.keep k h1⟩)⟩
  | .many p m n,f,h=>by
    obtain ⟨g,t,hp,hr⟩:=h
    exact ⟨g,t,EV.keep k p g hp,hr.keep k (fun e he=>by obtain ⟨b0,b1,b2,e1,h0,h1,h2,k0,k1,k2⟩:=he;exact ⟨b0,b1,b2,e1,h0,h1,h2,k0.keep k h0,k1.keep k h1,k2.keep k h2⟩)⟩
  | .group p,f,h=>EV.keep (L:=L) k p f h
theorem EVL.keep {A:Nat->Prop}{w w':World}{L:List Pat}(k:Keeps A w w'):∀ (l:List Pat) (xs:List Value),EVL w A L l xs->EVL w' A L l xs
  | [],xs,h=>h
  | p::l,xs,h=>by obtain ⟨f,t,r,e,ht,hp,hl⟩:=h;exact ⟨f,t,r,e,ht,EV.keep k p f hp,EVL.keep k l r hl⟩
end
theorem EV.form {A:Nat->Prop}{w:World}{L:List Pat}:∀ (p:Pat) (f:Value),p.Ok->EV w A L p f->∃ F cp,f=.func (.func F) #[] cp/\∀ args w,(callFunc F args).run Tryz.prog w=.ok (.enter F args) w
  | .set s,f,_,h=>by obtain ⟨b,sv,e,_⟩:=h;exact ⟨_,_,e,enters_of Tryz.func206 (by kernel_rfl) rfl⟩
  | .row l,f,_,h=>by obtain ⟨_,xs,_,bn,be,e,num,rfl,_⟩:=h;exact ⟨_,_,rfl,enters_of Tryz.func192 (by kernel_rfl) rfl⟩
  | .or [],f,hk,h=>absurd rfl hk.2
  | .or [p],f,hk,h=>by
    obtain ⟨_,xs,⟨f',t',r,rfl,_,hp,_⟩,⟨_,t,e⟩ | ⟨hn,_⟩⟩:=h
    · cases e
      exact EV.form p f hk.1.1 hp
    · exact absurd rfl hn
  | .or (p::q::l),f,hk,h=>by
    obtain ⟨_,xs,_,⟨hn,_⟩ | ⟨_,bn,be,e,num,rfl,_⟩⟩:=h
    · simp at hn
    · exact ⟨_,_,rfl,enters_of Tryz.func192 (by kernel_rfl) rfl⟩
  | .and [],f,hk,h=>absurd rfl hk.2
  | .and [p],f,hk,h=>by
    obtain ⟨_,xs,⟨f',t',r,rfl,_,hp,_⟩,⟨_,t,e⟩ | ⟨hn,_⟩⟩:=h
    · cases e
      exact EV.form p f hk.1.1 hp
    · exact absurd rfl hn
  | .and (p::q::l),f,hk,h=>by
    obtain ⟨_,xs,_,⟨hn,_⟩ | ⟨_,bn,be,e,num,rfl,_⟩⟩:=h
    · simp at hn
    · exact ⟨_,_,rfl,enters_of Tryz.func192 (by kernel_rfl) rfl⟩
  | .not p,f,_,h=>by obtain ⟨_,_,_,bn,be,e,num,rfl,_⟩:=h;exact ⟨_,_,rfl,enters_of Tryz.func192 (by kernel_rfl) rfl⟩
  | .many p m n,f,_,h=>by obtain ⟨_,_,_,bn,be,e,num,rfl,_⟩:=h;exact ⟨_,_,rfl,enters_of Tryz.func192 (by kernel_rfl) rfl⟩
  | .group p,f,hk,h=>EV.form (L:=L) p f hk h
theorem EVL.at {w:World}{A:Nat->Prop}{L:List Pat}:∀ (l:List Pat) (xs:List Value),EVL w A L l xs->∀ (i:Nat) (p:Pat),l[i]?=some p->∃ f t,IsF t/\EV w A L p f/\[f,t]=(xs.drop (i*2)).take 2
  | [],_,_,i,p,hi=>by simp at hi
  | q::l,xs,h,0,p,hi=>by
    obtain ⟨f,t,r,rfl,ht,hq,hl⟩:=h
    simp at hi;subst hi
    exact ⟨f,t,ht,hq,by simp⟩
  | q::l,xs,h,i+1,p,hi=>by
    obtain ⟨f,t,r,rfl,ht,hq,hl⟩:=h
    obtain ⟨f',t',ht',hp,e⟩:=EVL.at l r hl i p (by simpa using hi)
    refine ⟨f',t',ht',hp,?_⟩
    rw [e,show (i+1)*2=(i*2)+1+1 from by omega]
    simp
theorem own_two {w:World}{A:Nat->Prop}{lv:Value}{n:Nat}{xs:List Value}(h:Own w A 180 2 lv n xs){i:Nat}(hi:i<n){f t:Value}(hc:[f,t]=(xs.drop (i*2)).take 2) :
    ∃ b cap,lv=.slice (some ⟨b,0,none⟩) n cap/\b<w.heap.size/\A b/\w.cell? ⟨b,i*2,none⟩=some f/\w.cell? ⟨b,i*2+1,none⟩=some t:=by
  rcases h.1.2 with ⟨rfl,h0⟩ | ⟨b,cap,cur,rfl,hg,hh,hr⟩
  · omega
  · refine ⟨b,cap,rfl,(h.1.lt b rfl).2,h.2 b rfl,?_⟩
    have key:∀ j u,([f,t]:List Value)[j]?=some u->w.cell? ⟨b,i*2+j,none⟩=some u:=by
      intro j u hj
      have hj2:j<2:=(List.getElem?_eq_some_iff.1 hj).1
      have hx:xs[i*2+j]?=some u:=by
        rw [hc,List.getElem?_take,if_pos hj2,List.getElem?_drop] at hj
        exact hj
      have:=h.1.cells rfl (i*2+j) u hx
      rw [Addr.add_lit] at this;simpa using this
    exact ⟨key 0 _ rfl,key 1 _ rfl⟩
theorem ownP_form {w:World}{B n:Nat}{v:Value}{xs:List Value}(h:w.ownsRow B 180 2 v n xs):∃ ao cap,v=.slice ao n cap:=by
  rcases h.2 with ⟨rfl,h0⟩ | ⟨b,cap,cur,rfl,_⟩
  · exact ⟨none,0,by rw [h0]⟩
  · exact ⟨_,_,rfl⟩
def EOk (c:Cx)(p:Pat):Prop:=∀ (w:World) (F:Nat) (cp:Array Value) (i:Nat),Inv c w->EV w c.A c.L p (.func (.func F) #[] cp)->i<=c.l.length ->
  Calls Tryz.prog F (#[Ptr c.bt,.int .i64 i]++cp) w fun e w'=>e=.returned (.int .u64 ((mk (mT p c.l i) (c.l.length+1):Nat):Int))/\Inv c w'/\KR c.R w w'
end Go.Proofs.YtpoibdhhcbelnaaGreatDoor
namespace Go.Proofs.YtpoibdhhcbelnaaGreatDoor
open Go.Shelf Go.RowKit Go.Lib Brm
def oneB (i:Nat):Nat->Bool:=fun j=>decide (j=i)
theorem mk_oneB {i n:Nat}(h:i<n):2 ^ i=mk (oneB i) n:=mk_one h
set_option maxRecDepth 100000 in
set_option maxHeartbeats 4000000 in
theorem place_any (i n:Nat)(w:World)(h:i<n)(hn:n<=42):Calls Tryz.prog 172 #[.int .i64 i] w fun e w'=>e=.returned (.int .u64 ((mk (oneB i) n:Nat):Int))/\w'=w:=by
  have h0:(0:Int)<=(i:Int):=Int.natCast_nonneg _
  have h1:(i:Int)<=64:=by omega
  have HE:=hide (mk_oneB h)
  have HB:=hide (mk_le63 (oneB i) hn)
  generalize mk (oneB i) n=X at HE HB ⊢
  go_enter Tryz.func172,Tryz.ntmps172
  go_wp2
  go_ret
  refine ⟨?_,rfl⟩
  show Ending.returned (.int .u64 (IntKind.u64.wrap (2 ^ i)))=_
  have e:(2:Int) ^ i=((2 ^ i:Nat):Int):=by simp
  have hb:=HB.out
  rw [e,HE.out,IntKind.wrap_u64]
  congr 2
  omega
theorem has_bit {f:Nat->Bool}{j n:Nat}(h:j<n)(hn:n<=42):(bits BinOp.and .u64 ((mk f n:Nat):Int) ((mk (oneB j) n:Nat):Int) != 0)=f j:=by
  have h1:=mk_le63 f hn
  have h2:=mk_le63 (oneB j) hn
  rw [u64_and_nat _ _ (by omega) (by omega),<- mk_oneB h]
  have hb:=mk_bit f n j
  rw [show decide (j<n)=true from decide_eq_true h,Bool.true_and] at hb
  rw [<- hb,Bool.eq_iff_iff,<- bit_and]
  simp only [bne_iff_ne,ne_eq]
  omega
set_option maxRecDepth 100000 in
set_option maxHeartbeats 4000000 in
theorem has_any2 (f:Nat->Bool)(j n:Nat)(w:World)(h:j<n)(hn:n<=42):Calls Tryz.prog 122 #[.int .u64 ((mk f n:Nat):Int),.int .i64 j] w fun e w'=>e=.returned (.bool (f j))/\w'=w:=by
  have HE:=hide (has_bit (f:=f) h hn)
  have HC:=hide (place_any j n w h hn)
  generalize mk (oneB j) n=X at HE HC
  generalize mk f n=Y at HE ⊢
  generalize f j=b at HE ⊢
  clear h hn
  go_enter Tryz.func122,Tryz.ntmps122
  go_wp2_with (go_at_call 172;refine HC.out.mono ?_;rintro e w' ⟨rfl,rfl⟩)
  go_ret
  exact ⟨ret_bool HE.out,rfl⟩
theorem pred_any (r:Int)(B:Nat)(w:World)(hB:B<w.heap.size)(hcell:w.cell? ⟨B,0,none⟩=some (.int .i64 r)) :
    PredBelow Tryz.prog 232 #[.pointer (some ⟨B,0,none⟩)] (fun x=>.agg (encR x).toArray) (fun x=>Brm.inB x r) w:=fun W x hb=>by
  have hc:W.cell? ⟨B,0,none⟩=some (.int .i64 r):=(hb.cell (p:=⟨B,0,none⟩) hB).trans hcell
  have hBW:B<W.heap.size:=Nat.lt_of_lt_of_le hB hb.size
  have hne:B≠W.heap.size:=by omega
  show Calls Tryz.prog 232 #[.agg #[.int .i64 x.1,.int .i64 x.2],.pointer (some ⟨B,0,none⟩)] W _
  go_enter Tryz.func232,Tryz.ntmps232
  go_wp2
  all_goals (go_ret;exact ⟨ret_bool (by rw [Bool.eq_iff_iff,Brm.in_iff];simp;try omega),hb.alloc hb.size _⟩)
set_option maxHeartbeats 400000 in
theorem index_empty (ao:Option Addr)(cap:Nat)(fv:Value)(w:World):Calls Tryz.prog 268 #[.slice ao 0 cap,fv] w fun e w'=>e=.returned (.int .i64 (-1))/\w'=w:=by
  go_enter Tryz.func268,Tryz.ntmps268
  go_wp2
  go_loop [8] (fun i=>i=.int .i64 0) (fun _=>0)
  case atStart=>rfl
  case round =>
    subst hrel
    go_wp2
    go_ret
    exact ⟨rfl,rfl⟩
set_option maxHeartbeats 400000 in
theorem contains_empty (ao:Option Addr)(cap:Nat)(fv:Value)(w:World):Calls Tryz.prog 234 #[.slice ao 0 cap,fv] w fun e w'=>e=.returned (.bool false)/\w'=w:=by
  go_enter Tryz.func234,Tryz.ntmps234
  go_wp2_with (go_at_call 268;refine (index_empty _ _ _ _).mono ?_;rintro e w' ⟨rfl,rfl⟩)
  go_ret
  exact ⟨rfl,rfl⟩
theorem containsR_any (ao:Option Addr)(l:List (Int×Int))(cap:Nat)(r:Int)(B:Nat)(w:World)(h:Rd w ao l)(hlen:l.length<=1200000)(hB:B<w.heap.size)(hcell:w.cell? ⟨B,0,none⟩=some (.int .i64 r)) :
    Calls Tryz.prog 234 #[.slice ao l.length cap,.func (.func 232) #[] #[.pointer (some ⟨B,0,none⟩)]] w fun e w'=>e=.returned (.bool (Brm.memB l r))/\Below w.heap.size w w':=by
  cases hl:l with
  | nil =>
    refine (contains_empty ao cap _ w).mono ?_
    rintro e w' ⟨rfl,rfl⟩
    exact ⟨rfl,Below.refl _ _⟩
  | cons x t =>
    rw [<- hl]
    obtain ⟨b,off,rfl,hb,_⟩:=h 0 x (by rw [hl];rfl)
    have eg:∀ args w,(callFunc 232 args).run Tryz.prog w=.ok (.enter 232 args) w:=enters_of Tryz.func232 (by kernel_rfl) rfl
    have hcon:=AnyQ.slices_ContainsFunc Tryz.hasR 2 Tryz.isAgg149 Tryz.sizeOf149 encR (fun _=>rfl) (fun x=>Brm.inB x r) 232 #[.pointer (some ⟨B,0,none⟩)] eg b off l.length cap l w
      (pred_any r B w hB hcell) (Nat.le_refl _) (by omega) hb (fun j hj i v hi=>by
        have hg:l[j]?=some l[j]!:=by rw [List.getElem?_eq_getElem hj,getElem!_pos l j hj]
        obtain ⟨b',off',e,_,h1,h2⟩:=h j _ hg
        simp only [Option.some.injEq,Addr.mk.injEq,and_true] at e
        obtain ⟨rfl,rfl⟩:=e
        generalize l[j]! = y at hi h1 h2
        match i,hi with
        | 0,hi=>simp [encR] at hi;rw [<- hi];exact h1
        | 1,hi=>simp [encR] at hi;rw [<- hi];exact h2
        | i+2,hi=>simp [encR] at hi)
    change Calls Tryz.prog 234 _ _ _ at hcon
    rw [List.take_length] at hcon
    exact hcon
set_option maxHeartbeats 400000 in
theorem has_any (ao:Option Addr)(l:List (Int×Int))(cap:Nat)(r:Int)(w:World)(h:Rd w ao l)(hlen:l.length<=1200000) :
    Calls Tryz.prog 185 #[.slice ao l.length cap,.int .i64 r] w fun e w'=>e=.returned (.bool (Brm.runeB r && Brm.memB l r))/\Below w.heap.size w w':=by
  have hb0:Below w.heap.size w (w.alloc (.cells #[.int .i64 r] 3)):=(Below.refl _ w).alloc (Nat.le_refl _) _
  have HB0:=hide hb0
  have HC:=hide (containsR_any ao l cap r w.heap.size _ (h.below hb0) hlen (by simp) (by simp))
  clear h hb0
  by_cases hr:Brm.runeB r=true
  · rw [hr,Bool.true_and]
    generalize Brm.memB l r=m at HC ⊢
    go_enter Tryz.func185,Tryz.ntmps185
    go_wp2_with (first | (go_at_call 233;refine (isRune_any _ _).mono ?_;rintro e w' ⟨rfl,rfl⟩) | (go_at_call 234;refine HC.out.mono ?_;rintro e w' ⟨rfl,hb'⟩))
    go_ret
    exact ⟨rfl,HB0.out.trans (hb'.mono HB0.out.size)⟩
  · have hf:Brm.runeB r=false:=by simpa using hr
    rw [hf,Bool.false_and]
    clear hr
    go_enter Tryz.func185,Tryz.ntmps185
    go_wp2_with (go_at_call 233;refine (isRune_any _ _).mono ?_;rintro e w' ⟨rfl,rfl⟩)
    go_ret
    exact ⟨rfl,HB0.out⟩
end Go.Proofs.YtpoibdhhcbelnaaGreatDoor
namespace Go.Proofs.YtpoibdhhcbelnaaGreatDoor
open Go.Shelf Go.RowKit Go.Lib Brm
theorem place_at (x:Int)(i n:Nat)(w:World)(hx:x=(i:Int))(h:i<n)(hn:n<=42):Calls Tryz.prog 172 #[.int .i64 x] w fun e w'=>e=.returned (.int .u64 ((mk (oneB i) n:Nat):Int))/\w'=w:=by
  subst hx;exact place_any i n w h hn
theorem three {w:World}{b:Nat}{v0 v1 v2:Value}{T:TypeId}(h:Blk w b [v0,v1,v2] T):w.cell? ⟨b,0,none⟩=some v0/\w.cell? ⟨b,1,none⟩=some v1/\w.cell? ⟨b,2,none⟩=some v2:=⟨by rw [h.cell];rfl,by rw [h.cell];rfl,by rw [h.cell];rfl⟩
theorem two {w:World}{b:Nat}{v0 v1:Value}{T:TypeId}(h:Blk w b [v0,v1] T):w.cell? ⟨b,0,none⟩=some v0/\w.cell? ⟨b,1,none⟩=some v1:=⟨by rw [h.cell];rfl,by rw [h.cell];rfl⟩
theorem one {w:World}{b:Nat}{v0:Value}{T:TypeId}(h:Blk w b [v0] T):w.cell? ⟨b,0,none⟩=some v0:=by rw [h.cell];rfl
def fromB (i:Nat):Nat->Bool:=fun j=>decide (i<=j)
theorem onward_num {i n:Nat}(h:i<=n)(hn:n<=40):((mk (oneB (n+1)) 42:Nat):Int)-((mk (oneB i) 42:Nat):Int)=((mk (fromB i) (n+1):Nat):Int)/\mk (oneB i) 42<=mk (oneB (n+1)) 42:=by
  have h1:=mk_oneB (i:=n+1) (n:=42) (by omega)
  have h2:=mk_oneB (i:=i) (n:=42) (by omega)
  have h3:=mk_from (n:=n+1) (i:=i) (by omega)
  have h4:2 ^ i<=2 ^ (n+1):=Nat.pow_le_pow_right (by decide) (by omega)
  have h5:mk (fromB i) (n+1)=mk (fun j=>decide (i<=j)) (n+1):=rfl
  rw [h5,<- h3,<- h1,<- h2]
  exact ⟨by omega,h4⟩
set_option maxRecDepth 100000 in
set_option maxHeartbeats 4000000 in
theorem onward_any (c:Cx)(w:World)(i:Nat)(hI:Inv c w)(hi:i<=c.l.length):Calls Tryz.prog 201 #[Ptr c.bt,.int .i64 i] w fun e w'=>e=.returned (.int .u64 ((mk (fromB i) (c.l.length+1):Nat):Int))/\w'=w:=by
  obtain ⟨x0,_,_⟩:=three hI.text
  have h40:=hI.len
  have HN:=hide (onward_num hi hI.len)
  have HX:=hide (mk_le63 (oneB (c.l.length+1)) (Nat.le_refl 42))
  have HC1:=hide (place_at (c.l.length+1) (c.l.length+1) 42 w (by omega) (by omega) (Nat.le_refl _))
  have HC2:=hide (place_at i i 42 w rfl (by omega) (Nat.le_refl _))
  generalize mk (oneB (c.l.length+1)) 42=X at HN HX HC1
  generalize mk (oneB i) 42=Y at HN HC2
  generalize mk (fromB i) (c.l.length+1)=Z at HN ⊢
  clear hI hi
  show Calls Tryz.prog 201 #[.pointer (some ⟨c.bt,0,none⟩),.int .i64 i] w _
  go_enter Tryz.func201,Tryz.ntmps201
  go_wp2_with (go_at_call 172;first | (refine HC1.out.mono ?_;rintro e w' ⟨rfl,rfl⟩) | (refine HC2.out.mono ?_;rintro e w' ⟨rfl,rfl⟩))
  go_ret
  refine ⟨?_,rfl⟩
  show Ending.returned (.int .u64 (IntKind.u64.wrap ((X:Int)-(Y:Int))))=_
  obtain ⟨e,hle⟩:=HN.out
  have hx:=HX.out
  rw [IntKind.wrap_u64]
  congr 2
  omega
theorem set_mask {s:List (Int×Int)}{l:List Int}{i:Nat}{x:Int}(hx:l[i]?=some x):mk (mT (.set s) l i) (l.length+1)=if memB s x then mk (oneB (i+1)) (l.length+1) else 0:=by
  split
  · rename_i h
    exact mk_ext (fun j hj=>by rw [<- mT_set (by omega),hx];simp [h,oneB])
  · rename_i h
    exact mk_zero.2 (fun j hj=>by rw [<- mT_set (by omega),hx];simp [h])
theorem set_mask_end {s:List (Int×Int)}{l:List Int}:mk (mT (.set s) l l.length) (l.length+1)=0:=mk_zero.2 (fun j hj=>by rw [<- mT_set (by omega)];simp)
set_option maxRecDepth 100000 in
set_option maxHeartbeats 4000000 in
theorem eset_any (c:Cx)(s:List (Int×Int))(hs:s.length<=1200000):EOk c (.set s):=by
  intro w F cp i hI hE hi
  obtain ⟨b,sv,e,ha,hb,hsl⟩:=hE
  cases e
  obtain ⟨x0,_,_⟩:=three hI.text
  have y0:=one hb
  have h40:=hI.len
  have hbt:=hI.text.lt
  have hbl:=hb.lt
  have HI:=hide hI
  show Calls Tryz.prog 206 #[.pointer (some ⟨c.bt,0,none⟩),.int .i64 i,.pointer (some ⟨b,0,none⟩)] w _
  by_cases hlt:i<c.l.length
  · obtain ⟨so,scap,e⟩:∃ so scap,sv=.slice so s.length scap/\Rd w so s:=by
      rcases hsl with ⟨rfl,rfl⟩ | ⟨b',off,cap,rfl,_,_,_,hr⟩
      · exact ⟨none,0,rfl,fun i x hx=>by simp at hx⟩
      · exact ⟨_,_,rfl,hr⟩
    obtain ⟨rfl,hrd⟩:=e
    have hg:=List.getElem?_eq_getElem hlt
    generalize c.l[i]=x at hg
    obtain ⟨rbk,o,hao,hR,hrl,hcx⟩:=hI.runes i x hg
    have hrx:runeB x=true:=hI.all x (List.mem_of_getElem? hg)
    have HRX:=hide hrx
    have hxr:0<=x/\x<=1114111:=by
      simp only [runeB,decide_eq_true_eq] at hrx;omega
    have HG:=hide (set_mask (s:=s) hg)
    rw [hao] at x0
    have i0:(0:Int)<=(i:Int):=Int.natCast_nonneg _
    have i1:(i:Int)<(c.l.length:Int):=by omega
    obtain ⟨xa,xb⟩:=hxr
    have HC:=hide (fun (w':World) (x':Int) (hx:x'=x) (hw:Below w.heap.size w w')=>(show Calls Tryz.prog 185 #[.slice so s.length scap,.int .i64 x'] w' (fun e w''=>e=.returned (.bool (Brm.memB s x))/\Below w'.heap.size w' w'') by rw [hx];have h9:=has_any so s scap x w' (hrd.below hw) hs;rw [hrx,Bool.true_and] at h9;exact h9)) -- so s scap x w' (hrd.below hw) hs))
    have HP:=hide (fun (w':World)=>place_at (i+1) (i+1) (c.l.length+1) w' (by omega) (by omega) (by omega))
    generalize memB s x=mb at HC HG
    generalize mk (oneB (i+1)) (c.l.length+1)=X at HG HP
    generalize mk (mT (.set s) c.l i) (c.l.length+1)=Y at HG ⊢
    have hd:decide (i<c.l.length)=true:=decide_eq_true hlt
    clear hI hb hsl hrd hR hrx hg hi ha hs
    go_enter Tryz.func206,Tryz.ntmps206
    go_wp2_with fail
    go_region_held3 (fun w'=>Below w.heap.size w w'/\w'.cell? ⟨c.bt,0,none⟩=some (.slice (some ⟨rbk,o,none⟩) c.l.length c.rc)/\w'.cell? ⟨b,0,none⟩=some (.slice so s.length scap)/\w'.cell? ⟨rbk,o+i,none⟩=some (.int .i32 x))
      (first | exact ⟨(Below.refl _ _).drew,x0,y0,hcx⟩ | exact ⟨by assumption,(Below.cell (by assumption) hbt).trans x0,(Below.cell (by assumption) hbl).trans y0,(Below.cell (by assumption) hrl).trans hcx⟩)
      ((go_at_call 185;refine (HC.out _ _ (by first | rfl | (rw [IntKind.wrap_i64];omega) | omega) (‹Below w.heap.size w _/\_›.1)).mono ?_;rintro e w5 ⟨rfl,hb5⟩;have hb6:Below w.heap.size w w5:=(‹Below w.heap.size w _/\_›.1).trans (hb5.mono (‹Below w.heap.size w _/\_›.1).size);clear hb5))
    cases mb with
    | true =>
      go_wp2_with (go_at_call 172;refine (HP.out _).mono ?_;rintro e w' ⟨rfl,rfl⟩)
      go_ret
      exact ⟨by rw [HG.out];rfl,HI.out.below hb6,KR.below hb6⟩
    | false =>
      go_wp2
      go_ret
      exact ⟨by rw [HG.out];rfl,HI.out.below hb6,KR.below hb6⟩
  · have he:i=c.l.length:=by omega
    have HG:Hid (mk (mT (.set s) c.l i) (c.l.length+1)=0):=by show _=_;rw [he];exact set_mask_end
    have i1:decide (i<c.l.length)=false:=decide_eq_false hlt
    generalize mk (mT (.set s) c.l i) (c.l.length+1)=Y at HG ⊢
    clear hI hb hsl hlt hi ha he hs
    go_enter Tryz.func206,Tryz.ntmps206
    go_wp2_with fail
    go_region
    go_wp2
    go_ret
    exact ⟨by rw [HG.out];rfl,HI.out.below (by first | exact Below.refl _ _ | exact (Below.refl _ _).drew),KR.below (by first | exact Below.refl _ _ | exact (Below.refl _ _).drew)⟩
end Go.Proofs.YtpoibdhhcbelnaaGreatDoor
namespace Go.Proofs.YtpoibdhhcbelnaaGreatDoor
open Go.Shelf Go.RowKit Go.Lib Brm
theorem three' {w:World}{b:Nat}{v0 v1 v2:Value}{T:TypeId}(h:Blk w b [v0,v1,v2] T):w.cell? ⟨b,0,none⟩=some v0/\w.cell? ⟨b,1,none⟩=some v1/\w.cell? ⟨b,2,none⟩=some v2:=⟨by rw [h.cell];rfl,by rw [h.cell];rfl,by rw [h.cell];rfl⟩
theorem known_off {M:Nat}(h:M<4398046511104):bits .andNot .u64 ((9223372036854775808+M:Nat):Int) 9223372036854775808=(M:Int):=by
  have e:(9223372036854775808:Int)=((9223372036854775808:Nat):Int):=rfl
  rw [e,u64_andNot_nat _ _ (by omega) (by omega),<- asked_on h,asked_off h]
theorem known_on {M:Nat}(h:M<4398046511104):bits .or .u64 (M:Int) 9223372036854775808=((9223372036854775808+M:Nat):Int):=by
  have e:(9223372036854775808:Int)=((9223372036854775808:Nat):Int):=rfl
  rw [e,u64_or_nat _ _ (by omega) (by omega),asked_on h]
set_option maxRecDepth 100000 in
set_option maxHeartbeats 4000000 in
theorem rem_any (c:Cx)(p:Pat)(F':Nat)(cp':Array Value)(eg:∀ args w,(callFunc F' args).run Tryz.prog w=.ok (.enter F' args) w)(bn be num i:Nat)(w:World)(hI:Inv c w)(hbn:Blk w bn [.int .i64 num] 3)(hbe:Blk w be [.func (.func F') #[] cp'] 176)(hL:c.L[num]?=some p)(hi:i<=c.l.length)
    (hc:∀ w',Below w.heap.size w w'->Calls Tryz.prog F' (#[.pointer (some ⟨c.bt,0,none⟩),.int .i64 i]++cp') w' fun e w''=>e=.returned (.int .u64 ((mk (mT p c.l i) (c.l.length+1):Nat):Int))/\Inv c w''/\KR c.R w' w'') :
    Calls Tryz.prog 192 #[.pointer (some ⟨c.bt,0,none⟩),.int .i64 i,.pointer (some ⟨bn,0,none⟩),.pointer (some ⟨be,0,none⟩)] w fun e w'=>e=.returned (.int .u64 ((mk (mT p c.l i) (c.l.length+1):Nat):Int))/\Inv c w'/\KR c.R w w':=by
  obtain ⟨_,x1,_⟩:=three' hI.text
  have y0:w.cell? ⟨bn,0,none⟩=some (.int .i64 num):=by rw [hbn.cell];rfl
  have z0:w.cell? ⟨be,0,none⟩=some (.func (.func F') #[] cp'):=by rw [hbe.cell];rfl
  have hnum:=(List.getElem?_eq_some_iff.1 hL).1
  have hrow:=hI.row num hnum
  have hpa:=hI.parts
  have h40:=hI.len
  obtain ⟨hfz,hkn⟩:=hI.known num p i hL hi
  have n0:(0:Int)<=(num:Int):=Int.natCast_nonneg _
  have n1:(num:Int)<(c.L.length:Int):=by omega
  have i0:(0:Int)<=(i:Int):=Int.natCast_nonneg _
  have i1:(i:Int)<(c.l.length:Int)+1:=by omega
  have HI:=hide hI
  have HL:=hide hL
  have HI2:=hide hi
  have HB:=hide (mk_le63 (mT p c.l i) (show c.l.length+1<=42 by omega))
  have HC:=hide hc
  have HR:Hid (c.R (c.rb num)):=⟨num,hnum,rfl⟩
  have HM:Hid (∀ w'':World,Inv c w''->w''.frozen? ⟨c.rb num,i,none⟩=false/\∃ v,w''.cell? ⟨c.rb num,i,none⟩=some v):=fun w'' h''=>by
    obtain ⟨h1,h2⟩:=h''.known num p i HL.out HI2.out
    exact ⟨h1,by rcases h2 with h2 | h2<;>exact ⟨_,h2⟩⟩
  have HS:Hid (∀ w'':World,Inv c w''->Inv c (w''.setCell ⟨c.rb num,i,none⟩ (.int .u64 (bits .or .u64 ((mk (mT p c.l i) (c.l.length+1):Nat):Int) 9223372036854775808)))):=fun w'' h''=>h''.store HL.out HI2.out (by rw [known_on HB.out])
  generalize mk (mT p c.l i) (c.l.length+1)=M at HB hkn HC HS ⊢
  clear hI hbn hbe hL hi hc hnum hpa
  rcases hkn with hk | hk
  · go_enter Tryz.func192,Tryz.ntmps192
    go_wp2_with fail
    go_region
    go_wp2_with (go_at_fn F';refine (HC.out _ (by first | exact (Below.refl _ _).drew | exact Below.refl _ _)).mono ?_;rintro e w5 ⟨rfl,hI5,hK5⟩;obtain ⟨hz5,v5,hv5⟩:=HM.out w5 hI5;have HI5:=hide hI5;have HK5:=hide hK5;clear hI5 hK5)
    go_ret
    refine ⟨?_,HS.out _ HI5.out,KR.set ((KR.below (by first | exact (Below.refl _ _).drew | exact Below.refl _ _)).trans HK5.out) HR.out _⟩
    show Ending.returned (.int .u64 (bits .andNot .u64 (bits .or .u64 (M:Int) 9223372036854775808) 9223372036854775808))=_
    rw [known_on HB.out,known_off HB.out]
  · have hq:((9223372036854775808:Int)+(M:Int) == 0)=false:=beq_eq_false_iff_ne.2 (by omega)
    go_enter Tryz.func192,Tryz.ntmps192
    go_wp2_with fail
    go_region
    go_wp2_with fail
    go_ret
    refine ⟨?_,HI.out.drew,(KR.refl _ _).drew⟩
    show Ending.returned (.int .u64 (bits .andNot .u64 (9223372036854775808+(M:Int)) 9223372036854775808))=_
    have e:=known_off HB.out
    rw [Int.natCast_add] at e
    exact congrArg (fun x=>Ending.returned (.int .u64 x)) e
end Go.Proofs.YtpoibdhhcbelnaaGreatDoor
namespace Go.Proofs.YtpoibdhhcbelnaaGreatDoor
open Go.Shelf Go.RowKit Go.Lib Brm
theorem low_off {f:Nat->Bool}{n k:Nat}(hn:n<=42)(h:mk f n≠0)(hk:mk f n &&& (mk f n-1)=mk (fun j=>f j && !decide (j=k)) n):bits .and .u64 ((mk f n:Nat):Int) (IntKind.u64.wrap (((mk f n:Nat):Int)-1))=((mk (fun j=>f j && !decide (j=k)) n:Nat):Int):=by
  have h1:=mk_le63 f hn
  have e:IntKind.u64.wrap (((mk f n:Nat):Int)-1)=((mk f n-1:Nat):Int):=by rw [IntKind.wrap_u64];omega
  rw [e,u64_and_nat _ _ (by omega) (by omega),hk]
theorem or_num {f g:Nat->Bool}{n:Nat}(hn:n<=42):bits .or .u64 ((mk f n:Nat):Int) ((mk g n:Nat):Int)=((mk (fun j=>f j || g j) n:Nat):Int):=by
  have h1:=mk_le63 f hn
  have h2:=mk_le63 g hn
  rw [u64_or_nat _ _ (by omega) (by omega),mk_or]
theorem and_num {f g:Nat->Bool}{n:Nat}(hn:n<=42):bits .and .u64 ((mk f n:Nat):Int) ((mk g n:Nat):Int)=((mk (fun j=>f j && g j) n:Nat):Int):=by
  have h1:=mk_le63 f hn
  have h2:=mk_le63 g hn
  rw [u64_and_nat _ _ (by omega) (by omega),mk_and]
theorem andNot_num {f g:Nat->Bool}{n:Nat}(hn:n<=42):bits .andNot .u64 ((mk f n:Nat):Int) ((mk g n:Nat):Int)=((mk (fun j=>f j && !g j) n:Nat):Int):=by
  have h1:=mk_le63 f hn
  have h2:=mk_le63 g hn
  rw [u64_andNot_nat _ _ (by omega) (by omega),mk_andNot f g hn]
theorem go_step {p:Pat}{l:List Int}{g' h:Nat->Bool}{k j:Nat}(hk:k<=l.length)(hg:g' k=true):((h j || mT p l k j) || goB p l (fun j=>g' j && !decide (j=k)) j)=(h j || goB p l g' j):=by
  rw [Bool.eq_iff_iff]
  simp only [Bool.or_eq_true,goB_iff,Bool.and_eq_true,Bool.not_eq_true',decide_eq_false_iff_not]
  constructor
  · rintro ((h1 | h1) | ⟨q,q1,⟨q2,_⟩,q3⟩)
    · exact .inl h1
    · exact .inr ⟨k,hk,hg,h1⟩
    · exact .inr ⟨q,q1,q2,q3⟩
  · rintro (h1 | ⟨q,q1,q2,q3⟩)
    · exact .inl (.inl h1)
    · by_cases e:q=k
      · subst e;exact .inl (.inr q3)
      · exact .inr ⟨q,q1,⟨q2,e⟩,q3⟩
theorem go_none {p:Pat}{l:List Int}{g:Nat->Bool}{j:Nat}(h:mk g (l.length+1)=0):goB p l g j=false:=by
  apply Bool.eq_false_iff.2
  intro e
  obtain ⟨k,k1,k2,_⟩:=goB_iff.1 e
  rw [mk_zero.1 h k (by omega)] at k2
  cases k2
set_option maxRecDepth 100000 in
set_option maxHeartbeats 4000000 in
theorem goOn_any (c:Cx)(p:Pat)(F:Nat)(cp:Array Value)(t:Value)(eg:∀ args w,(callFunc F args).run Tryz.prog w=.ok (.enter F args) w)(g:Nat->Bool)(w:World)(hI:Inv c w)
    (hc:∀ w' k,KR c.R w w'->Inv c w'->k<=c.l.length->Calls Tryz.prog F (#[.pointer (some ⟨c.bt,0,none⟩),.int .i64 k]++cp) w' fun e w''=>e=.returned (.int .u64 ((mk (mT p c.l k) (c.l.length+1):Nat):Int))/\Inv c w''/\KR c.R w' w'') :
    Calls Tryz.prog 194 #[.agg #[.func (.func F) #[] cp,t],.pointer (some ⟨c.bt,0,none⟩),.int .u64 ((mk g (c.l.length+1):Nat):Int)] w fun e w'=>e=.returned (.int .u64 ((mk (goB p c.l g) (c.l.length+1):Nat):Int))/\Inv c w'/\KR c.R w w':=by
  have h40:=hI.len
  have HI:=hide hI
  have HC:=hide hc
  have HK0:=hide ((KR.refl c.R w).alloc (.cells #[.func (.func F) #[] cp,t] 180))
  have HI0:=hide (hI.alloc (.cells #[.func (.func F) #[] cp,t] 180))
  have HB0:=hide (Blk.new w [.func (.func F) #[] cp,t] 180)
  have HNR:Hid (¬ c.R w.heap.size):=fun h=>Nat.lt_irrefl _ (hI.bound _ h)
  clear hI hc
  go_enter Tryz.func194,Tryz.ntmps194
  go_wp2_with fail
  go_loopw [2,7] (fun fr out wr=>∃ g' h:Nat->Bool,fr=.int .u64 ((mk g' (c.l.length+1):Nat):Int)/\out=.int .u64 ((mk h (c.l.length+1):Nat):Int)/\(∀ j,j<=c.l.length->(h j || goB p c.l g' j)=goB p c.l g j)/\Inv c wr/\KR c.R w wr/\Blk wr w.heap.size [.func (.func F) #[] cp,t] 180) (fun fr _ _=>(intOf fr).toNat)
  case atStart =>
    refine ⟨g,fun _=>false,rfl,?_,fun j _=>by simp,HI0.out,HK0.out,HB0.out⟩
    rw [mk_zero.2 (fun _ _=>rfl)];rfl
  case round =>
    clear HI0 HK0 HB0
    obtain ⟨g',h,rfl,rfl,hgo,hI,hK,hB⟩:=hrel
    have HGO:=hide hgo
    have HIr:=hide hI
    have HKr:=hide hK
    have HBr:=hide hB
    have x0:wr.cell? ⟨w.heap.size,0,none⟩=some (.func (.func F) #[] cp):=by rw [hB.cell];rfl
    have x1:wr.cell? ⟨w.heap.size,1,none⟩=some t:=by rw [hB.cell];rfl
    have hbl:=hB.lt
    by_cases hz:mk g' (c.l.length+1)=0
    · have HZ:=hide hz
      rw [hz]
      have HR:Hid (mk h (c.l.length+1)=mk (goB p c.l g) (c.l.length+1)):=mk_ext (fun j hj=>by rw [<- HGO.out j (by omega),go_none HZ.out,Bool.or_false])
      generalize mk h (c.l.length+1)=H at HR ⊢
      clear hgo hI hK hB hz
      go_wp2
      go_ret
      exact ⟨by rw [<- HR.out];rfl,HIr.out,HKr.out⟩
    · obtain ⟨k,k1,k2,k3,k4,k5⟩:=mk_low (show c.l.length+1<=42 by omega) hz
      have HLO:=hide (low_off (k:=k) (show c.l.length+1<=42 by omega) hz k4)
      have HST:=hide (fun j=>go_step (p:=p) (l:=c.l) (g':=g') (h:=h) (k:=k) (j:=j) (by omega) k2)
      have hlt:=mk_le63 g' (show c.l.length+1<=42 by omega)
      have HT:=hide (fun (w':World) (hw:TabAt 2 Lib.deBruijn64tab w')=>tz_any (mk g' (c.l.length+1)) (by omega) w' (fun _=>hw))
      rw [k3] at HT
      have HL:=hide k5
      have HOR:=hide (or_num (f:=h) (g:=mT p c.l k) (show c.l.length+1<=42 by omega))
      have HCk:=hide (fun (w':World) (hk:KR c.R w w') (hi:Inv c w')=>HC.out w' k hk hi (by omega))
      have HTb:=hide (fun (w':World) (hi:Inv c w')=>hi.tab)
      have hne:(((mk g' (c.l.length+1):Nat):Int) != 0)=true:=bne_iff_ne.2 (by omega)
      generalize hM2:mk (fun j=>g' j && !decide (j=k)) (c.l.length+1)=M2 at HLO HL
      have HM2:=hide hM2
      generalize mk g' (c.l.length+1)=M at HLO HL HT hne ⊢
      generalize mk h (c.l.length+1)=H at HOR ⊢
      generalize mk (mT p c.l k) (c.l.length+1)=X at HOR HCk
      clear hgo hI hK hB hz k4 k5 k3 hlt hM2
      go_wp2_with fail
      go_region_held3 (fun w'=>Inv c w'/\KR c.R w w'/\KR c.R wr w'/\w'.cell? ⟨w.heap.size,0,none⟩=some (.func (.func F) #[] cp))
        (first | exact ⟨HIr.out.drew,HKr.out.drew,(KR.refl _ _).drew,x0⟩ | exact ⟨HI5.out,HK5.out,HK6.out,(HK6.out.cell (p:=⟨w.heap.size,0,none⟩) hbl HNR.out).trans x0⟩)
        (first
          | (go_at_call 238;refine (HT.out _ (‹Inv c _/\KR c.R w _/\KR c.R wr _/\_›.1.tab)).mono ?_;rintro e w5 ⟨rfl,rfl⟩)
          | (go_at_fn F;refine (HCk.out _ (‹Inv c _/\KR c.R w _/\KR c.R wr _/\_›.2.1) (‹Inv c _/\KR c.R w _/\KR c.R wr _/\_›.1)).mono ?_;rintro e w5 ⟨rfl,hI5,hK5⟩;have HI5:=hide hI5;have HK5:=hide ((‹Inv c _/\KR c.R w _/\KR c.R wr _/\_›.2.1).trans hK5);have HK6:=hide ((‹Inv c _/\KR c.R w _/\KR c.R wr _/\_›.2.2.1).trans hK5);clear hI5 hK5))
      go_wp2_with fail
      go_roundw
      case rel=>exact ⟨fun j=>g' j && !decide (j=k),fun j=>h j || mT p c.l k j,by rw [HLO.out,HM2.out],by rw [HOR.out],fun j hj=>by rw [HST.out,HGO.out j hj],HI5.out,HK5.out,HBr.out.kr HK6.out HNR.out⟩
      case measure=>rw [HLO.out];have:=HL.out;simp only [intOf,Int.toNat_natCast];exact this
end Go.Proofs.YtpoibdhhcbelnaaGreatDoor
