/- Walks and plain laws, some texts in one. -/
import Derived.Lib.IndexBytes
import Derived.Deep.RegionHeld3
import Derived.Deep.RegionWith
import Derived.Test.YtpoibdhhcbelnaaGreatDoorM04
import Derived.Test.YtpoibdhhcbelnaaGreatDoorM05
import Derived.Test.YtpoibdhhcbelnaaGreatDoorM09
namespace Go.Proofs.YtpoibdhhcbelnaaGreatDoor
open Go.RowKit Brm
theorem Tryz.info3:(Tryz.prog.info? 3).map (fun i=>(i.zero,i.size,i.bytes))=some (some (.int .i64 0),1,8):=by kernel_rfl
theorem bytes_drop (s:ByteArray)(i:Nat):bytesOf (s.extract i s.size)=(bytesOf s).drop i:=by
  unfold bytesOf
  rw [ByteArray.data_extract]
  simp [Array.toList_extract,List.extract_eq_take_drop]
  rw [List.take_of_length_le]
  simp
def Chain (bs:List UInt8)(pre:List Int):Prop:=posOf pre.length bs<=bs.length/\(∀ l,Runes (bs.drop (posOf pre.length bs)) l->Runes bs (pre++l))/\∀ k,Broken (bs.drop (posOf pre.length bs)) k->Broken bs (posOf pre.length bs+k)
theorem chain_nil (bs:List UInt8):Chain bs []:=⟨by simp [posOf],fun l h=>by simpa [posOf] using h,fun k h=>by simpa [posOf] using h⟩
theorem chain_snoc {bs:List UInt8}{pre:List Int}(h:Chain bs pre)(hne:bs.drop (posOf pre.length bs)≠[])(hn:decL (bs.drop (posOf pre.length bs))≠noRune) :
    Chain bs (pre++[((decL (bs.drop (posOf pre.length bs))).1:Int)])/\posOf (pre.length+1) bs=posOf pre.length bs+(decL (bs.drop (posOf pre.length bs))).2:=by
  have hf:=decL_fit hne
  have e:posOf (pre++[((decL (bs.drop (posOf pre.length bs))).1:Int)]).length bs=posOf pre.length bs+(decL (bs.drop (posOf pre.length bs))).2:=by
    rw [List.length_append,List.length_singleton,posOf_succ]
  refine ⟨⟨?_,?_,?_⟩,posOf_succ _ _⟩
  · rw [e];have:=hf.2.1;rw [List.length_drop] at this;have:=h.1;omega
  · intro l hl
    rw [e,<- List.drop_drop] at hl
    rw [List.append_assoc]
    exact h.2.1 _ (.cons hne (c:=(decL (bs.drop (posOf pre.length bs))).1) (n:=(decL (bs.drop (posOf pre.length bs))).2) rfl hn hl)
  · intro k hk
    rw [e,<- List.drop_drop] at hk
    have:=h.2.2 _ (.later hne (c:=(decL (bs.drop (posOf pre.length bs))).1) (n:=(decL (bs.drop (posOf pre.length bs))).2) rfl hn hk)
    rw [e,Nat.add_assoc];exact this
def posns (bs:List UInt8)(n:Nat):List Int:=(List.range n).map fun t=>(posOf t bs:Int)
def ints (l:List Int):List Value:=l.map fun c=>.int .i64 c
def RunesI (w:World)(bs:List UInt8)(j:Nat)(ov av iv:Value)(wr:World):Prop:=∃ pre:List Int,Chain bs pre/\iv=.int .i64 (posOf pre.length bs)/\wr.ownsRow w.heap.size 3 1 ov pre.length (ints pre)/\wr.ownsRow w.heap.size 3 1 av pre.length (ints (posns bs pre.length))/\(ov.ownBlock=none\/ov.ownBlock≠av.ownBlock)/\Below w.heap.size w wr/\bs.length-posOf pre.length bs<=j/\pre.length<=posOf pre.length bs
end Go.Proofs.YtpoibdhhcbelnaaGreatDoor
namespace Go.Proofs.YtpoibdhhcbelnaaGreatDoor
open Go.RowKit Brm
def outcome (bs:List UInt8)(l:List Int):Int×Int×Option Pat:=match orN false (l.length+1) l with
  | .bad s=>(4,(posOf (l.length-s.length) bs:Int),none)
  | .ok _ (_::t)=>(4,(posOf (l.length-(t.length+1)) bs:Int),none)
  | .ok p []=>if 8<p.deep then (5,0,none) else (0,0,some p)
def ReadR (bs:List UInt8)(r:Int×Int×Option Pat):Prop :=
  (60<bs.length/\r=(2,0,none))\/(bs.length<=60/\∃ k:Nat,Broken bs k/\r=(3,(k:Int),none))\/(bs.length<=60/\∃ l,Runes bs l/\r=outcome bs l)
theorem readR_unique {bs:List UInt8}{r r':Int×Int×Option Pat}(h:ReadR bs r)(h':ReadR bs r'):r'=r:=by
  rcases h with ⟨a,rfl⟩ | ⟨a,k,hk,rfl⟩ | ⟨a,l,hl,rfl⟩<;>rcases h' with ⟨a',rfl⟩ | ⟨a',k',hk',rfl⟩ | ⟨a',l',hl',rfl⟩
  · rfl
  · omega
  · omega
  · omega
  · rw [broken_unique hk hk']
  · exact absurd hk (runes_not_broken hl' k)
  · omega
  · exact absurd hk' (runes_not_broken hl k')
  · rw [runes_unique hl hl']
def ReadV (s:ByteArray)(w:World)(e:Ending)(w':World):Prop:=Below w.heap.size w w'/\∃ k so sn sc lo ln lc mm nn rr gr er place op,ReadR (bytesOf s) (er,place,op) /\
  e=.returned (.tuple #[.agg #[.int .i64 k,.slice so sn sc,.slice lo ln lc,.int .i64 mm,.int .i64 nn,.int .i64 rr],.int .i64 gr,.int .i64 er,.int .i64 place]) /\
  match op with | some p=>NV w' (fun q=>w.heap.size<=q) p (Six k so sn sc lo ln lc mm nn rr) 0/\gr=(p.groups:Int) | none=>gr=0
theorem own3_cell {w:World}{B n t:Nat}{pa:Option Addr}{pc:Nat}{xs:List Int}(h:w.ownsRow B 3 1 (.slice pa n pc) n (ints xs))(x:Int)(ht:xs[t]?=some x):∃ bp,pa=some ⟨bp,0,none⟩/\w.cell? ⟨bp,t,none⟩=some (.int .i64 x)/\bp<w.heap.size/\B<=bp/\t<n:=by
  have hl:=h.1
  have htl:t<xs.length:=(List.getElem?_eq_some_iff.1 ht).1
  simp [ints] at hl
  rcases h.2 with ⟨_,h0⟩ | ⟨g,cap,cur,e,hg,hh,r⟩
  · omega
  · cases e
    have:=h.cells rfl t (.int .i64 x) (by simp [ints,ht])
    rw [Addr.add_lit] at this
    exact ⟨g,rfl,by simpa using this,(h.lt g rfl).2,hg,by omega⟩
end Go.Proofs.YtpoibdhhcbelnaaGreatDoor
namespace Go.Proofs.YtpoibdhhcbelnaaGreatDoor
open Go.RowKit Brm
def wrOf (op:Option Pat):List UInt8:=match op with | some p=>p.wr | none=>[]
def PrintR (bs:List UInt8)(t:List UInt8)(er place:Int):Prop:=∃ op,ReadR bs (er,place,op)/\t=wrOf op
theorem readR_some {bs:List UInt8}{er place:Int}{p:Pat}(h:ReadR bs (er,place,some p)):er=0/\place=0/\p.Ok/\p.wr.length<=3600:=by
  rcases h with ⟨_,h⟩ | ⟨_,k,_,h⟩ | ⟨hl,l,hr,h⟩
  · simp at h
  · simp at h
  · have hp:=orN_pat false (l.length+1) l (runes_all hr)
    have hlen:=runes_len hr
    unfold outcome at h
    cases ho:orN false (l.length+1) l with
    | bad s=>rw [ho] at h;simp at h
    | ok q s =>
      rw [ho] at h hp
      cases s with
      | cons c t=>simp at h
      | nil =>
        simp only at h
        split at h
        · simp at h
        · simp only [Prod.mk.injEq,Option.some.injEq] at h
          obtain ⟨rfl,rfl,rfl⟩:=h
          obtain ⟨h1,h2⟩:=hp
          simp only [List.length_nil,Nat.mul_zero,Nat.add_zero,Nat.zero_add] at h2
          exact ⟨rfl,rfl,h1,by omega⟩
theorem readR_none {bs:List UInt8}{er place:Int}(h:ReadR bs (er,place,none)):er≠0:=by
  rcases h with ⟨_,h⟩ | ⟨_,k,_,h⟩ | ⟨hl,l,hr,h⟩
  · simp at h;omega
  · simp at h;omega
  · unfold outcome at h
    cases ho:orN false (l.length+1) l with
    | bad s=>rw [ho] at h;simp at h;omega
    | ok q s =>
      rw [ho] at h
      cases s with
      | cons c t=>simp at h;omega
      | nil =>
        simp only at h
        split at h
        · simp at h;omega
        · simp at h
end Go.Proofs.YtpoibdhhcbelnaaGreatDoor
namespace Go.Proofs.YtpoibdhhcbelnaaGreatDoor
open Go.RowKit Brm
def Il (w:World)(v:Value)(l:List Int):Prop:=∃ B,w.ownsRow B 3 1 v l.length (ints l)
def TabOk (p:Pat):Prop:=∀ (A:Nat->Prop) (c:List Value) (g:Nat) (w:World) (l:List Int) (lv:Value),NV w A p c g->p.wr.length<=4000->p.Ok->Il w lv l->l.length<=40->AllR l ->
  Calls Tryz.prog 41 #[.agg c.toArray,lv] w fun e w'=>∃ v,e=.returned v/\Tb w' w.heap.size v l.length (mT p l)/\Below w.heap.size w w'
def setT (q:List (Int×Int))(l:List Int)(k:Nat)(i j:Nat):Bool:=decide (i<k) && (match l[i]? with | some c=>decide (j=i+1) && memB q (up c) | none=>false)
end Go.Proofs.YtpoibdhhcbelnaaGreatDoor
namespace Go.Proofs.YtpoibdhhcbelnaaGreatDoor
open Go.RowKit Brm
def Low (w:World)(ob n U:Nat):Prop:=ob<w.heap.size/\∀ i rb,i<=n->w.cell? ⟨ob,i,none⟩=some (rowV n rb)->rb<U
def RestOk (ps:List Pat):Prop:=∀ (A:Nat->Prop) (v:Value) (xs:List Value) (g:Nat) (w:World) (l:List Int) (lv:Value),Own w A 32 6 v ps.length xs->NL w A ps xs g->(Lib.join (wrL ps) []).length<=4000->(∀ p∈ps,p.Ok)->Il w lv l->l.length<=40->AllR l ->
  Calls Tryz.prog 75 #[v,lv] w fun e w'=>∃ v,e=.returned v/\Tb w' w.heap.size v l.length (restT ps l)/\Below w.heap.size w w'
end Go.Proofs.YtpoibdhhcbelnaaGreatDoor
namespace Go.Proofs.YtpoibdhhcbelnaaGreatDoor
open Go.RowKit Brm
def TextR (bs:List UInt8)(e:Int)(ol:Option (List Int)):Prop:=(40<bs.length/\e=2/\ol=none)\/(bs.length<=40/\(∃ k,Broken bs k)/\e=3/\ol=none)\/(bs.length<=40/\∃ l,Runes bs l/\e=0/\ol=some l)
theorem textR_unique {bs:List UInt8}{e e':Int}{o o':Option (List Int)}(h:TextR bs e o)(h':TextR bs e' o'):e'=e/\o'=o:=by
  rcases h with ⟨a,rfl,rfl⟩ | ⟨a,⟨k,hk⟩,rfl,rfl⟩ | ⟨a,l,hl,rfl,rfl⟩<;>rcases h' with ⟨a',rfl,rfl⟩ | ⟨a',⟨k',hk'⟩,rfl,rfl⟩ | ⟨a',l',hl',rfl,rfl⟩
  · exact ⟨rfl,rfl⟩
  · omega
  · omega
  · omega
  · exact ⟨rfl,rfl⟩
  · exact absurd hk (runes_not_broken hl' k)
  · omega
  · exact absurd hk' (runes_not_broken hl k')
  · exact ⟨rfl,by rw [runes_unique hl hl']⟩
noncomputable def matchB (p:Pat)(ol:Option (List Int)):Bool:=match ol with | some l=>mT p l 0 l.length | none=>false
theorem textR_none {bs:List UInt8}{e:Int}(h:TextR bs e none):e≠0:=by
  rcases h with ⟨_,rfl,_⟩ | ⟨_,_,rfl,_⟩ | ⟨_,l,_,_,h⟩
  · decide
  · decide
  · cases h
theorem textR_some {bs:List UInt8}{e:Int}{l:List Int}(h:TextR bs e (some l)):e=0:=by
  rcases h with ⟨_,_,h⟩ | ⟨_,_,_,h⟩ | ⟨_,l,_,h,_⟩
  · cases h
  · cases h
  · exact h
end Go.Proofs.YtpoibdhhcbelnaaGreatDoor
