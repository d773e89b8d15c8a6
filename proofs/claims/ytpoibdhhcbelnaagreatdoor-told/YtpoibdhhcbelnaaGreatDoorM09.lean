/- Walks and plain laws, some texts in one. -/
import Derived.Deep.AppendLies
import Derived.Deep.LoopGhost
import Derived.Laws.IdiomStrings
import Derived.Laws.StructEq
import Derived.BigRegion
import Derived.BigQuiet
import Derived.Deep.QuietTactic
import Derived.Test.YtpoibdhhcbelnaaGreatDoorM03
import Derived.Test.YtpoibdhhcbelnaaGreatDoorM01
import Derived.Test.YtpoibdhhcbelnaaGreatDoorM08
import Derived.Test.YtpoibdhhcbelnaaGreatDoorM05
import Derived.Test.YtpoibdhhcbelnaaGreatDoorM06
namespace Go.Proofs.YtpoibdhhcbelnaaGreatDoor
open Go.RowKit Brm
def Own (w:World)(A:Nat->Prop)(e:TypeId)(size:Nat)(v:Value)(n:Nat)(xs:List Value):Prop:=w.ownsRow 0 e size v n xs/\∀ g,v.ownBlock=some g->A g
def SetV (w:World)(A:Nat->Prop)(v:Value)(s:List (Int×Int)):Prop:=∃ q,Brm.PCanon q/\Brm.told q=s /\
  ((v=.slice none 0 0/\q=[])\/∃ b off cap,v=.slice (some ⟨b,off,none⟩) q.length cap/\q.length<=cap/\A b/\b<w.heap.size/\Rd w (some ⟨b,off,none⟩) q)
def int64 (n:Int):Value:=.int .i64 n
def nil:Value:=.slice none 0 0
mutual
def NV (w:World)(A:Nat->Prop):Pat->List Value->Nat->Prop
  | .set s,c,_=>∃ sv,c=[.int .i64 1,sv,.slice none 0 0,.int .i64 0,.int .i64 0,.int .i64 0]/\SetV w A sv s
  | .row l,c,g=>∃ lv xs,c=[.int .i64 2,.slice none 0 0,lv,.int .i64 0,.int .i64 0,.int .i64 0]/\Own w A 32 6 lv l.length xs/\NL w A l xs g
  | .or l,c,g=>∃ lv xs,c=[.int .i64 3,.slice none 0 0,lv,.int .i64 0,.int .i64 0,.int .i64 0]/\Own w A 32 6 lv l.length xs/\NL w A l xs g
  | .and l,c,g=>∃ lv xs,c=[.int .i64 4,.slice none 0 0,lv,.int .i64 0,.int .i64 0,.int .i64 0]/\Own w A 32 6 lv l.length xs/\NL w A l xs g
  | .not p,c,g=>∃ lv xs,c=[.int .i64 5,.slice none 0 0,lv,.int .i64 0,.int .i64 0,.int .i64 0]/\Own w A 32 6 lv 1 xs/\NV w A p xs g
  | .many p m n,c,g=>∃ lv xs,c=[.int .i64 6,.slice none 0 0,lv,.int .i64 m,.int .i64 n,.int .i64 0]/\Own w A 32 6 lv 1 xs/\NV w A p xs g
  | .group p,c,g=>∃ lv xs,c=[.int .i64 7,.slice none 0 0,lv,.int .i64 0,.int .i64 0,.int .i64 g]/\Own w A 32 6 lv 1 xs/\NV w A p xs (g+1)
def NL (w:World)(A:Nat->Prop):List Pat->List Value->Nat->Prop
  | [],xs,_=>xs=[]
  | p::l,xs,g=>∃ c r,xs=c++r/\NV w A p c g/\NL w A l r (g+p.groups)
end
def Keeps (A:Nat->Prop)(w w':World):Prop:=w.heap.size<=w'.heap.size/\∀ k,k<w.heap.size->A k->w'.heap[k]?=w.heap[k]?
theorem Keeps.off {A:Nat->Prop}{b:Nat}{w w':World}(h:Off b w w')(hb:¬ A b):Keeps A w w':=⟨h.size,fun k hk ha=>h.block k hk (fun e=>hb (e▸ha))⟩
theorem Keeps.below {A:Nat->Prop}{w w':World}(h:Below w.heap.size w w'):Keeps A w w':=⟨h.size,fun k hk _=>h.block k hk⟩
theorem Keeps.grown {A:Nat->Prop}{w w':World}{row:Option Nat}(h:w.grownBy w' row)(hr:∀ k,row=some k->¬ A k):Keeps A w w':=⟨h.size,fun k hk ha=>h.block k hk (fun e=>hr k e.symm ha)⟩
theorem Keeps.set {A:Nat->Prop}{w:World}{p:Addr}(u:Value)(h:¬ A p.block):Keeps A w (w.setCell p u):=⟨by simp [World.setCell],fun k _ ha=>Below.heap_setCell _ _ _ _ (fun e=>h (e▸ha))⟩
theorem Keeps.trans {A:Nat->Prop}{a b c:World}(h:Keeps A a b)(k:Keeps A b c):Keeps A a c:=⟨Nat.le_trans h.1 k.1,fun i hi ha=>(k.2 i (Nat.lt_of_lt_of_le hi h.1) ha).trans (h.2 i hi ha)⟩
theorem Keeps.alloc (A:Nat->Prop)(w:World)(o:Obj):Keeps A w (w.alloc o):=⟨by simp,fun _ hk _=>Below.heap_alloc _ _ _ hk⟩
theorem own_block {w:World}{B:Nat}{e:TypeId}{size:Nat}{v:Value}{n:Nat}{xs:List Value}{w':World}(h:w.ownsRow B e size v n xs)(hk:∀ g,v.ownBlock=some g->w'.heap[g]?=w.heap[g]?):w'.ownsRow B e size v n xs:=by
  refine ⟨h.1,?_⟩
  rcases h.2 with h2 | ⟨g,cap,cur,rfl,h3,h4,r⟩
  · exact .inl h2
  · exact .inr ⟨g,cap,cur,rfl,h3,(hk g rfl).trans h4,r⟩
theorem Own.keep {A:Nat->Prop}{w w':World}{e:TypeId}{size:Nat}{v:Value}{n:Nat}{xs:List Value}(h:Own w A e size v n xs)(k:Keeps A w w'):Own w' A e size v n xs :=
  ⟨own_block h.1 (fun g hg=>k.2 g (h.1.lt g hg).2 (h.2 g hg)),h.2⟩
theorem Own.mono {A A':Nat->Prop}{w:World}{e:TypeId}{size:Nat}{v:Value}{n:Nat}{xs:List Value}(h:Own w A e size v n xs)(k:∀ g,g<w.heap.size->A g->A' g):Own w A' e size v n xs :=
  ⟨h.1,fun g hg=>k g (h.1.lt g hg).2 (h.2 g hg)⟩
def IsSl (v:Value):Prop:=∃ so sn sc,v=.slice so sn sc
def Six (k:Int)(so:Option Addr)(sn sc:Nat)(lo:Option Addr)(ln lc:Nat)(mm nn rr:Int):List Value:=[.int .i64 k,.slice so sn sc,.slice lo ln lc,.int .i64 mm,.int .i64 nn,.int .i64 rr]
end Go.Proofs.YtpoibdhhcbelnaaGreatDoor
namespace Go.Proofs.YtpoibdhhcbelnaaGreatDoor
open Go.RowKit Brm
def Rdr (w:World)(b:Nat)(lv:Value)(i bad g d m:Int):Prop:=Blk w b [lv,.int .i64 i,.int .i64 bad,.int .i64 g,.int .i64 d,.int .i64 m] 127
def Txt (w:World)(b:Nat)(lv:Value)(l:List Int):Prop:=Own w (fun k=>k≠b) 3 1 lv l.length (l.map fun c=>.int .i64 c)
def St (w:World)(b:Nat)(lv:Value)(l s:List Int)(g d m:Int):Prop :=
  Rdr w b lv ((l.length-s.length:Nat):Int) (-1) g d m/\s <:+ l/\Txt w b lv l/\l.length<=60/\AllR l/\0<=g/\g<=((l.length-s.length:Nat):Int)/\0<=d/\d<=((l.length-s.length:Nat):Int)/\0<=m/\m<=((l.length-s.length:Nat):Int)/\d<=m
def Bad (w:World)(b:Nat)(lv:Value)(l s:List Int)(d:Int):Prop:=∃ i g m:Int,Rdr w b lv i ((l.length-s.length:Nat):Int) g d m
def nextV (s:List Int):Int:=match s with | []=>-1 | c::_=>c
def Drn (w w':World):Prop:=∃ n,w'=w.drewN n
end Go.Proofs.YtpoibdhhcbelnaaGreatDoor
namespace Go.Proofs.YtpoibdhhcbelnaaGreatDoor
open Go.RowKit Brm
def amongB (c:Int)(s:ByteArray):Bool:=s.data.toList.any fun x=>(x.toNat:Int) == c
theorem amongB_inner (c:Int):amongB c { data:=#[91,93,92,45,94] }=inner c:=by
  rw [Bool.eq_iff_iff]
  simp [amongB,inner]
  omega
theorem amongB_special (c:Int):amongB c { data:=#[124,38,126,42,43,63,123,125,46,92,91,93,40,41] }=special c:=by
  rw [Bool.eq_iff_iff]
  simp [amongB,special]
  omega
def Done {α:Type}(b:Nat)(lv:Value)(l:List Int)(g d m:Int)(r:Res α)(w':World)(P:α->Prop)(Q:Prop):Prop:=match r with | .ok a s=>St w' b lv l s g d m/\P a | .bad s=>Bad w' b lv l s d/\Q
end Go.Proofs.YtpoibdhhcbelnaaGreatDoor
namespace Go.Proofs.YtpoibdhhcbelnaaGreatDoor
open Go.RowKit Brm
def rowL (n:Nat)(g:Nat->Bool):List Value:=(List.range (n+1)).map fun j=>.bool (g j)
abbrev rowV (n b:Nat):Value:=.slice (some ⟨b,0,none⟩) (n+1) (n+1)
def TbR (w:World)(B:Nat)(v:Value)(n k:Nat)(f:Nat->Nat->Bool)(r:List Nat):Prop:=r.length=k/\w.ownsRow B 87 1 v k (r.map (rowV n))/\r.Nodup/\(∀ b∈r,B<=b/\v.ownBlock≠some b)/\∀ i b,r[i]?=some b->Blk w b (rowL n (f i)) 4
def TbK (w:World)(B:Nat)(v:Value)(n k:Nat)(f:Nat->Nat->Bool):Prop:=∃ r:List Nat,TbR w B v n k f r
def Tb (w:World)(B:Nat)(v:Value)(n:Nat)(f:Nat->Nat->Bool):Prop:=TbK w B v n (n+1) f
def upd (f:Nat->Nat->Bool)(i j:Nat)(x:Bool):Nat->Nat->Bool:=fun a b=>if a=i then (if b=j then x else f a b) else f a b
end Go.Proofs.YtpoibdhhcbelnaaGreatDoor
namespace Go.Proofs.YtpoibdhhcbelnaaGreatDoor
open Go.RowKit Brm
def emptyB (a b:Nat):Bool:=decide (a=b)
def bothB (fa fb:Nat->Nat->Bool)(o:Bool)(a b:Nat):Bool:=decide (a<=b) && ((fa a b && fb a b) || (o && (fa a b || fb a b)))
end Go.Proofs.YtpoibdhhcbelnaaGreatDoor
namespace Go.Proofs.YtpoibdhhcbelnaaGreatDoor
open Go.RowKit Brm
def behK (fa fb:Nat->Nat->Bool)(i K j:Nat):Bool:=(List.range K).any fun k=>decide (i<=k) && decide (k<=j) && fa i k && fb k j
def behB (fa fb:Nat->Nat->Bool)(n:Nat)(i j:Nat):Bool:=behK fa fb i (n+1) j
def behT (fa fb:Nat->Nat->Bool)(n i K j:Nat)(a b:Nat):Bool:=if a<i then behB fa fb n a b else if a=i then (if b<j then behK fa fb i (K+1) b else behK fa fb i K b) else false
end Go.Proofs.YtpoibdhhcbelnaaGreatDoor
namespace Go.Proofs.YtpoibdhhcbelnaaGreatDoor
open Go.RowKit Brm
def leastN (fa:Nat->Nat->Bool)(n:Nat):Nat->Nat->Nat->Bool
  | 0=>emptyB
  | k+1=>behB (leastN fa n k) fa n
def moreN (fa:Nat->Nat->Bool)(n:Nat):Nat->Nat->Nat->Bool
  | 0=>emptyB
  | k+1=>bothB emptyB (behB fa (moreN fa n k) n) true
end Go.Proofs.YtpoibdhhcbelnaaGreatDoor
namespace Go.Proofs.YtpoibdhhcbelnaaGreatDoor
open Brm
open Classical
noncomputable def mT (p:Pat)(l:List Int)(i j:Nat):Bool:=decide (i<=j/\p.Mt (sub l i j))
noncomputable def restT (ps:List Pat)(l:List Int)(i j:Nat):Bool:=decide (i<=j/\MtRow ps (sub l i j))
noncomputable def orT (ps:List Pat)(l:List Int)(i j:Nat):Bool:=decide (i<=j/\MtOr ps (sub l i j))
noncomputable def andT (ps:List Pat)(l:List Int)(i j:Nat):Bool:=decide (i<=j/\MtAnd ps (sub l i j))
theorem mT_iff {p:Pat}{l:List Int}{i j:Nat}:mT p l i j=true↔i<=j/\p.Mt (sub l i j):=by unfold mT;exact decide_eq_true_iff
theorem rest_nil {l:List Int}{i j:Nat}(hj:j<=l.length):emptyB i j=restT [] l i j:=by
  rw [Bool.eq_iff_iff]
  unfold emptyB restT
  simp only [decide_eq_true_eq]
  constructor
  · rintro rfl;exact ⟨Nat.le_refl _,sub_self _ _⟩
  · rintro ⟨h1,h2⟩
    have hl:=sub_len h1 hj
    rw [show sub l i j=[] from h2] at hl
    simp at hl;omega
theorem or_one {p:Pat}{l:List Int}{i j:Nat}:mT p l i j=orT [p] l i j:=by
  unfold mT orT;simp only [mtOr_iff,List.mem_singleton,exists_eq_left]
theorem and_one {p:Pat}{l:List Int}{i j:Nat}:mT p l i j=andT [p] l i j:=by
  unfold mT andT;simp only [mtAnd_iff,List.mem_singleton,forall_eq]
theorem mT_row {ps:List Pat}{l:List Int}{i j:Nat}:restT ps l i j=mT (.row ps) l i j:=rfl
theorem mT_or {ps:List Pat}{l:List Int}{i j:Nat}:orT ps l i j=mT (.or ps) l i j:=rfl
theorem mT_and {ps:List Pat}{l:List Int}{i j:Nat}:andT ps l i j=mT (.and ps) l i j:=rfl
theorem mT_not {p:Pat}{l:List Int}{i j:Nat}:(decide (i<=j) && !mT p l i j)=mT (.not p) l i j:=by
  rw [Bool.eq_iff_iff,mT_iff]
  simp only [Bool.and_eq_true,Bool.not_eq_true',decide_eq_true_eq,<- Bool.not_eq_true,mT_iff]
  constructor
  · rintro ⟨h1,h2⟩;exact ⟨h1,fun h=>h2 ⟨h1,h⟩⟩
  · rintro ⟨h1,h2⟩;exact ⟨h1,fun h=>h2 h.2⟩
theorem mT_set {s:List (Int×Int)}{l:List Int}{i j:Nat}(hj:j<=l.length):(match l[i]? with | some c=>decide (j=i+1) && memB s c | none=>false)=mT (.set s) l i j:=by
  rw [Bool.eq_iff_iff,mT_iff]
  constructor
  · intro h
    cases hc:l[i]? with
    | none=>rw [hc] at h;cases h
    | some c =>
      rw [hc] at h
      simp only [Bool.and_eq_true,decide_eq_true_eq] at h
      obtain ⟨rfl,hm⟩:=h
      exact ⟨by omega,c,sub_one hc,hm⟩
  · rintro ⟨h1,c,h2,h3⟩
    have hl:=sub_len h1 hj
    rw [h2] at hl
    simp at hl
    have hji:j=i+1:=by omega
    subst hji
    have hlt:i<l.length:=by omega
    have hc:=List.getElem?_eq_getElem hlt
    have:=sub_one hc
    rw [h2] at this
    simp only [List.cons.injEq,and_true] at this
    rw [hc]
    simp [<- this,h3]
end Go.Proofs.YtpoibdhhcbelnaaGreatDoor
namespace Go.Proofs.YtpoibdhhcbelnaaGreatDoor
open Go.RowKit Brm
theorem rd_lit (w:World)(l:List (Int×Int)):Rd (w.alloc (.cells (cellsR l).toArray 149)) (some ⟨w.heap.size,0,none⟩) l:=by
  intro i x hx
  have hg:=cellsR_get hx
  refine ⟨_,_,rfl,by simp,?_,?_⟩
  · rw [(Blk.new w (cellsR l) 149).cell];simpa using hg.1
  · rw [(Blk.new w (cellsR l) 149).cell];simpa using hg.2
end Go.Proofs.YtpoibdhhcbelnaaGreatDoor
namespace Go.Proofs.YtpoibdhhcbelnaaGreatDoor
open Go.RowKit Brm
def EscV (w':World)(A:Nat->Prop)(v:Value)(f:Bool)(r:Int ⊕ List (Int×Int)):Prop:=match r with | .inl a=>f=true/\SetV w' A v [(a,a)]/\runeB a=true | .inr L=>f=false/\SetV w' A v L
end Go.Proofs.YtpoibdhhcbelnaaGreatDoor
namespace Go.Proofs.YtpoibdhhcbelnaaGreatDoor
open Go.RowKit Brm
def ItemV (w':World)(A:Nat->Prop)(v:Value):Prop:=∃ s0,SetV w' A v s0/\s0.length<=1
end Go.Proofs.YtpoibdhhcbelnaaGreatDoor
namespace Go.Proofs.YtpoibdhhcbelnaaGreatDoor
open Go.RowKit Brm
def BrI (w:World)(b:Nat)(lv:Value)(l:List Int)(g d m:Int)(R:Res (List (Int×Int)))(k:Nat)(v:Value)(wr:World):Prop :=
  Off b w wr/\((∃ l0 s0,St wr b lv l s0 g d m/\SetV wr (fun k=>w.heap.size<=k) v (form l0)/\itemsP k l0 s0=R/\(∀ x∈l0,okB x=true)/\l0.length+5*s0.length<=400/\s0.length<k) \/
    (∃ s' t',Bad wr b lv l s' d/\R=.bad s'/\SetV wr (fun k=>w.heap.size<=k) v t'/\t'.length<=500))
def BrV (b:Nat)(lv:Value)(l:List Int)(g d m:Int)(w w':World)(v:Value)(f:List (Int×Int)->List (Int×Int))(R:Res (List (Int×Int))):Prop :=
  Off b w w'/\Done b lv l g d m (R.map f) w' (fun x=>SetV w' (fun k=>w.heap.size<=k) v x) (IsSl v)
theorem itemsP_more:∀ (n:Nat) (l:List (Int×Int)) (s:List Int),s.length<n->itemsP n l s=itemsP (n+1) l s
  | 0,_,s,h=>by omega
  | n+1,l,s,h=>by
    rw [itemsP,itemsP]
    split
    · rfl
    · have h2:=itemP_takes s
      cases hi:itemP s with
      | bad s'=>rfl
      | ok x s' =>
        rw [hi] at h2
        have:=h2.1
        exact itemsP_more n _ s' (by omega)
end Go.Proofs.YtpoibdhhcbelnaaGreatDoor
namespace Go.Proofs.YtpoibdhhcbelnaaGreatDoor
open Go.RowKit Brm
def Part (b:Nat)(lv:Value)(l:List Int)(g:Nat)(d m:Int)(r:Res Pat)(w w':World)(c:List Value):Prop :=
  Off b w w'/\match r with
  | .ok p s=>NV w' (fun k=>w.heap.size<=k) p c g/\St w' b lv l s ((g+p.groups:Nat):Int) d (max m (d+p.deep))
  | .bad s=>Bad w' b lv l s d
def Gives (F:Nat)(b:Nat)(lv:Value)(l:List Int)(g:Nat)(d m:Int)(r:Res Pat)(w:World):Prop :=
  Calls Tryz.prog F #[.pointer (some ⟨b,0,none⟩)] w fun e w'=>∃ k so sn sc lo ln lc mm nn rr,e=.returned (.agg #[.int .i64 k,.slice so sn sc,.slice lo ln lc,.int .i64 mm,.int .i64 nn,.int .i64 rr]) /\
    Part b lv l g d m r w w' (Six k so sn sc lo ln lc mm nn rr)
def OrOk (n:Nat):Prop:=∀ (b:Nat) (lv:Value) (l s:List Int) (g:Nat) (d m:Int) (w:World),St w b lv l s g d m->s.length<n->Gives 64 b lv l g d m (orN false n s) w
abbrev put6 (w:World)(r:Nat)(c0 c1 c2 c3 c4 c5:Value):World:=(((((w.setCell ⟨r,0,none⟩ c0).setCell ⟨r,1,none⟩ c1).setCell ⟨r,2,none⟩ c2).setCell ⟨r,3,none⟩ c3).setCell ⟨r,4,none⟩ c4).setCell ⟨r,5,none⟩ c5
end Go.Proofs.YtpoibdhhcbelnaaGreatDoor
namespace Go.Proofs.YtpoibdhhcbelnaaGreatDoor
open Go.RowKit Brm
def ManyI (w:World)(X:Nat)(b:Nat)(lv:Value)(l:List Int)(g:Nat)(d m:Int)(R:Res Pat)(j:Nat)(wr:World):Prop :=
  Off b w wr/\Blk wr w.heap.size [.int .i64 0,.slice none 0 0,.slice none 0 0,.int .i64 0,.int .i64 0,.int .i64 0] 32/\∃ k so sn sc lo ln lc mm nn rr,Blk wr X (Six k so sn sc lo ln lc mm nn rr) 32 /\
    ((∃ p s0,NV wr (fun q=>w.heap.size<q/\q≠X) p (Six k so sn sc lo ln lc mm nn rr) g/\St wr b lv l s0 ((g+p.groups:Nat):Int) d (max m (d+p.deep))/\manyLoop j p s0=R/\s0.length<j)\/(∃ s',Bad wr b lv l s' d/\R=.bad s'))
end Go.Proofs.YtpoibdhhcbelnaaGreatDoor
namespace Go.Proofs.YtpoibdhhcbelnaaGreatDoor
open Go.RowKit Brm
def AL (w:World)(X:Nat)(v:Value)(q:Nat):Prop:=w.heap.size+1<=q/\q≠X/\some q≠v.ownBlock
def LI (w:World)(X:Nat)(v:Value)(L:List Pat)(g:Nat)(wr:World):Prop:=∃ xs,wr.ownsRow (w.heap.size+1) 32 6 v L.length xs/\v.ownBlock≠some X/\NL wr (AL w X v) L xs g
end Go.Proofs.YtpoibdhhcbelnaaGreatDoor
namespace Go.Proofs.YtpoibdhhcbelnaaGreatDoor
open Go.RowKit Brm
def RowI (w:World)(b:Nat)(lv:Value)(l:List Int)(g:Nat)(d m:Int)(n:Nat)(R:Res Pat)(j:Nat)(wr:World):Prop :=
  Off b w wr/\Blk wr w.heap.size [.int .i64 0,.slice none 0 0,.slice none 0 0,.int .i64 0,.int .i64 0,.int .i64 0] 32/\∃ lo ln lc,Blk wr (w.heap.size+1) (Six 2 none 0 0 lo ln lc 0 0 0) 32 /\
    ((∃ L s0,LI w (w.heap.size+1) (.slice lo ln lc) L g wr/\St wr b lv l s0 ((g+groupsL L:Nat):Int) d (max m (d+deepL L))/\L.length+s0.length<=60/\s0.length<=n/\rowLoop false (orN false n) j L s0=R/\s0.length<j)\/(∃ s',Bad wr b lv l s' d/\R=.bad s'))
end Go.Proofs.YtpoibdhhcbelnaaGreatDoor
namespace Go.Proofs.YtpoibdhhcbelnaaGreatDoor
open Go.RowKit Brm
def JoinI (w:World)(X:Nat)(b:Nat)(lv:Value)(l:List Int)(g:Nat)(d m:Int)(n:Nat)(kind:Int)(part:List Int->Res Pat)(sign:Int)(mk:List Pat->Pat)(R:Res Pat)(j:Nat)(wr:World):Prop :=
  Off b w wr/\Blk wr w.heap.size [.int .i64 0,.slice none 0 0,.slice none 0 0,.int .i64 0,.int .i64 0,.int .i64 0] 32/\∃ lo ln lc,Blk wr X (Six kind none 0 0 lo ln lc 0 0 0) 32 /\
    ((∃ L s0,LI w X (.slice lo ln lc) L g wr/\St wr b lv l s0 ((g+groupsL L:Nat):Int) d (max m (d+deepL L))/\L.length+s0.length<=61/\s0.length<=n/\(if s0.head?=some sign then joinLoop part sign mk j L s0.tail else .ok (mk L) s0)=R/\s0.length<=j)\/(∃ s',Bad wr b lv l s' d/\R=.bad s'))
end Go.Proofs.YtpoibdhhcbelnaaGreatDoor
namespace Go.Proofs.YtpoibdhhcbelnaaGreatDoor
open Go.RowKit Brm
def TextOk (p:Pat):Prop:=∀ (A:Nat->Prop) (c:List Value) (g:Nat) (w:World),NV w A p c g->p.wr.length<=4000->p.Ok->Calls Tryz.prog 37 #[.agg c.toArray] w fun e w'=>∃ t,e=.returned (.string t)/\bytesOf t=p.wr/\Below w.heap.size w w'
theorem Own.below {w w':World}{A:Nat->Prop}{e:TypeId}{size:Nat}{v:Value}{n:Nat}{xs:List Value}(h:Own w A e size v n xs)(hb:Below w.heap.size w w'):Own w' A e size v n xs:=h.keep (Keeps.below hb)
end Go.Proofs.YtpoibdhhcbelnaaGreatDoor
