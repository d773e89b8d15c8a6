/- Walks and plain laws, some texts in one. -/
import Derived.Deep.OwnRows
import Derived.Test.YtpoibdhhcbelnaaGreatDoorM20
import Derived.Test.YtpoibdhhcbelnaaGreatDoorM03
namespace Go.Proofs.YtpoibdhhcbelnaaGreatDoor
open Go.Shelf Go.RowKit Go.Lib Brm
theorem made_rep (z:Value)(n:Nat):madeCells #[z] n=(List.replicate n z).toArray:=by
  apply Array.ext'
  refine List.ext_getElem? fun i=>?_
  simp only [madeCells,Array.toList_map,Array.toList_range,List.getElem?_map]
  by_cases h:i<n
  · rw [List.getElem?_range h]
    simp [Nat.mod_one,h]
  · rw [List.getElem?_eq_none (by simp;omega)];simp [h]
theorem Tryz.info261:(Tryz.prog.info? 261).map (fun i=>(i.zero,i.size,i.bytes))=some (some (.slice none 0 0),1,24):=by kernel_rfl
theorem Tryz.info218:(Tryz.prog.info? 218).map (fun i=>(i.zero,i.size,i.bytes))=some (some (.int .u64 0),1,8):=by kernel_rfl
theorem make_rep {w:World}{ops:Array Oper}{rest:List Oper}{o:Oper}{a:Act}{Q:Exit->Act->World->Prop}(hg:o.guard=none)(l c:Operand)(t:TypeId)(hop:o.op=Op.makeSlice t l c)
    (e:TypeId) (z:Value) (by_:Nat) (ht:Tryz.prog.underlying t=some (.slice e)) (hinfo:(Tryz.prog.info? e).map (fun i=>(i.zero,i.size,i.bytes))=some (some z,1,by_)) (hz1:z.cells=#[z])
    (n:Nat) (hl:a.eval l=.int .i64 (n:Int)) (hc:a.eval c=.int .i64 (n:Int)) (hbytes:by_*n<=281474976710656) (h63:n<=9223372036854775807)
    (hK:wpList Tryz.prog ops Q rest (a.put o.dst (.slice (some ⟨w.heap.size,0,none⟩) n n)) (w.alloc (.cells (List.replicate n z).toArray e))) :
    wpList Tryz.prog ops Q (o::rest) a w:=by
  obtain ⟨i,hi,hzz⟩:=Option.map_eq_some_iff.1 hinfo
  simp only [Prod.mk.injEq] at hzz
  obtain ⟨hz,hs,hb⟩:=hzz
  refine wpList_make_row w hg l c t hop e i z ht hi hz hs hz1 .i64 .i64 n hl hc (by rw [hb];exact hbytes) h63 ?_
  rw [made_rep];exact hK
def TK (w wr:World)(rows cols k:Nat):Prop:=Below w.heap.size w wr/\wr.heap.size=w.heap.size+1+k/\(∃ cs,Blk wr w.heap.size cs 261/\cs.length=rows/\∀ i,i<rows->cs[i]?=some (if i<k then .slice (some ⟨w.heap.size+1+i,0,none⟩) cols cols else .slice none 0 0))/\∀ i,i<k->Blk wr (w.heap.size+1+i) (List.replicate cols (.int .u64 0)) 218
theorem TK.start (w:World)(rows cols:Nat):TK w (w.alloc (.cells (List.replicate rows (.slice none 0 0)).toArray 261)) rows cols 0 :=
  ⟨(Below.refl _ _).alloc (Nat.le_refl _) _,by simp,⟨_,Blk.new w _ 261,by simp,fun i hi=>by simp [hi]⟩,fun i hi=>absurd hi (Nat.not_lt_zero _)⟩
theorem TK.step {w wr:World}{rows cols k:Nat}(h:TK w wr rows cols k)(hk:k<rows):TK w ((wr.alloc (.cells (List.replicate cols (.int .u64 0)).toArray 218)).setCell ⟨w.heap.size,k,none⟩ (.slice (some ⟨wr.heap.size,0,none⟩) cols cols)) rows cols (k+1):=by
  obtain ⟨h1,h2,⟨cs,h3,h4,h5⟩,h6⟩:=h
  refine ⟨(h1.alloc (by omega) _).setCell (Nat.le_refl _) _,by simp [World.setCell];omega,⟨_,(h3.alloc _).set k _,by simp [h4],fun i hi=>?_⟩,fun i hi=>?_⟩
  · rw [List.getElem?_set]
    by_cases he:k=i
    · subst he
      rw [if_pos rfl,if_pos (by omega),h2,if_pos (by omega)]
    · rw [if_neg he,h5 i hi]
      by_cases hlt:i<k
      · rw [if_pos hlt,if_pos (by omega)]
      · rw [if_neg hlt,if_neg (by omega)]
  · by_cases he:i=k
    · subst he
      have:=Blk.new wr (List.replicate cols (.int .u64 0)) 218
      rw [h2] at this
      exact this.setOther (p:=⟨w.heap.size,i,none⟩) (by simp;omega) _
    · exact ((h6 i (by omega)).alloc _).setOther (p:=⟨w.heap.size,k,none⟩) (by simp;omega) _
theorem TK.cell {w wr:World}{rows cols k:Nat}(h:TK w wr rows cols k){i:Nat}(hi:i<rows):wr.cell? ⟨w.heap.size,i,none⟩=some (if i<k then .slice (some ⟨w.heap.size+1+i,0,none⟩) cols cols else .slice none 0 0)/\wr.frozen? ⟨w.heap.size,i,none⟩=false/\w.heap.size<wr.heap.size:=by
  obtain ⟨h1,h2,⟨cs,h3,h4,h5⟩,h6⟩:=h
  exact ⟨by rw [h3.cell,h5 i hi],h3.frozen i,by omega⟩
set_option maxRecDepth 100000 in
set_option maxHeartbeats 4000000 in
theorem table_any (rows cols:Nat)(w:World)(hr:rows<=1000000)(hc:cols<=41):Calls Tryz.prog 123 #[.int .i64 rows,.int .i64 cols] w fun e w'=>e=.returned (.slice (some ⟨w.heap.size,0,none⟩) rows rows)/\TK w w' rows cols rows:=by
  have HT0:=hide (TK.start w rows cols)
  generalize hW:w.alloc (.cells (List.replicate rows (.slice none 0 0)).toArray 261)=W0 at HT0
  have HW0:=hide hW
  clear hW
  go_enter Tryz.func123,Tryz.ntmps123
  go_wp2_with (at_make;refine make_rep rfl _ _ 186 rfl 261 (.slice none 0 0) 24 Tryz.underlying186 Tryz.info261 rfl rows rfl rfl (by omega) (by omega) ?_;rw [HW0.out])
  go_loopw [11] (fun ix wr=>∃ k:Nat,k<=rows/\ix=.int .i64 k/\TK w wr rows cols k) (fun ix _=>rows-(intOf ix).toNat)
  case atStart=>exact ⟨0,Nat.zero_le _,rfl,HT0.out⟩
  case round =>
    obtain ⟨k,hk,rfl,ht⟩:=hrel
    have HT:=hide ht
    have k0:(0:Int)<=(k:Int):=Int.natCast_nonneg _
    by_cases hlt:k<rows
    · obtain ⟨c0,c1,c2⟩:=ht.cell hlt
      rw [if_neg (Nat.lt_irrefl k)] at c0
      have d0:(wr.alloc (.cells (List.replicate cols (.int .u64 0)).toArray 218)).cell? ⟨w.heap.size,k,none⟩=some (.slice none 0 0):=(((Below.refl _ wr).alloc (Nat.le_refl _) _).cell (p:=⟨w.heap.size,k,none⟩) c2).trans c0
      have d1:(wr.alloc (.cells (List.replicate cols (.int .u64 0)).toArray 218)).frozen? ⟨w.heap.size,k,none⟩=false:=(((Below.refl _ wr).alloc (Nat.le_refl _) _).frozen (p:=⟨w.heap.size,k,none⟩) c2).trans c1
      have HS:=hide (ht.step hlt)
      generalize hW:wr.alloc (.cells (List.replicate cols (.int .u64 0)).toArray 218)=W1 at d0 d1 HS
      have HW:=hide hW
      have k1:(k:Int)<(rows:Int):=by omega
      clear ht hW
      go_wp2_with (at_make;refine make_rep rfl _ _ 261 rfl 218 (.int .u64 0) 8 Tryz.underlying261 Tryz.info218 rfl cols rfl rfl (by omega) (by omega) ?_;rw [HW.out])
      go_roundw
      case rel=>exact ⟨k+1,by omega,by go_num,HS.out⟩
      case measure=>simp [intOf];omega
    · have hke:k=rows:=by omega
      subst hke
      have k1:decide (k<k)=false:=decide_eq_false hlt
      clear ht
      go_wp2
      go_ret
      exact ⟨rfl,HT.out⟩
end Go.Proofs.YtpoibdhhcbelnaaGreatDoor
namespace Go.Proofs.YtpoibdhhcbelnaaGreatDoor
open Go.Shelf Go.RowKit Go.Lib Brm
theorem Rem.mono {A A':Nat->Prop}{w:World}{L:List Pat}{p:Pat}{f:Value}{Q Q':Value->Prop}(k:∀ g,g<w.heap.size->A g->A' g)(hQ:∀ e,Q e->Q' e)(h:Rem w A L p f Q):Rem w A' L p f Q':=by
  obtain ⟨bn,be,e,num,rfl,h1,h2,h3,h4,h5,h6,h7⟩:=h
  exact ⟨bn,be,e,num,rfl,k _ h3.lt h1,k _ h4.lt h2,h3,h4,h5,h6,hQ e h7⟩
theorem Bx.mono {A A':Nat->Prop}{w:World}{F n:Nat}{xs:List Value}(k:∀ g,g<w.heap.size->A g->A' g)(e:Value)(h:Bx w A F n xs e):Bx w A' F n xs e:=by
  obtain ⟨bi,lv,rfl,h1,h2,h3⟩:=h
  exact ⟨bi,lv,rfl,k _ h2.lt h1,h2,h3.mono k⟩
mutual
theorem EV.mono {A A':Nat->Prop}{w:World}{L:List Pat}(k:∀ g,g<w.heap.size->A g->A' g):∀ (p:Pat) (f:Value),EV w A L p f->EV w A' L p f
  | .set s,f,h=>by obtain ⟨b,sv,e,ha,hb,hs⟩:=h;exact ⟨b,sv,e,k _ hb.lt ha,hb,hs.mono k⟩
  | .row l,f,h=>by obtain ⟨h9,xs,hl,hr⟩:=h;exact ⟨h9,xs,EVL.mono k l xs hl,hr.mono k (Bx.mono k)⟩
  | .or l,f,h=>by
    obtain ⟨h9,xs,hl,hr⟩:=h
    refine ⟨h9,xs,EVL.mono k l xs hl,?_⟩
    rcases hr with hr | ⟨hn,hr⟩
    · exact .inl hr
    · exact .inr ⟨hn,hr.mono k (Bx.mono k)⟩
  | .and l,f,h=>by
    obtain ⟨h9,xs,hl,hr⟩:=h
    refine ⟨h9,xs,EVL.mono k l xs hl,?_⟩
    rcases hr with hr | ⟨hn,hr⟩
    · exact .inl hr
    · exact .inr ⟨hn,hr.mono k (Bx.mono k)⟩
  | .not p,f,h=>by
    obtain ⟨g,t,hp,hr⟩:=h
    exact ⟨g,t,EV.mono k p g hp,hr.mono k (fun e he=>by obtain ⟨bi,e1,h1,h2⟩:=he;exact ⟨bi,e1,k _ h2.lt h1,h2⟩)⟩
  | .many p m n,f,h=>by
    obtain ⟨g,t,hp,hr⟩:=h
    exact ⟨g,t,EV.mono k p g hp,hr.mono k (fun e he=>by obtain ⟨b0,b1,b2,e1,h0,h1,h2,k0,k1,k2⟩:=he;exact ⟨b0,b1,b2,e1,k _ k0.lt h0,k _ k1.lt h1,k _ k2.lt h2,k0,k1,k2⟩)⟩
  | .group p,f,h=>EV.mono (L:=L) k p f h
theorem EVL.mono {A A':Nat->Prop}{w:World}{L:List Pat}(k:∀ g,g<w.heap.size->A g->A' g):∀ (l:List Pat) (xs:List Value),EVL w A L l xs->EVL w A' L l xs
  | [],xs,h=>h
  | p::l,xs,h=>by obtain ⟨f,t,r,e,ht,hp,hl⟩:=h;exact ⟨f,t,r,e,ht,EV.mono k p f hp,EVL.mono k l r hl⟩
end
def cx0 (w w1:World)(L:List Pat)(l:List Int)(ao:Option Addr)(rc:Nat):Cx:=⟨L,l,w1.heap.size,w.heap.size,fun k=>w.heap.size+1+k,ao,rc,.slice none 0 0,L.length⟩
theorem cx0_R {w w1:World}{L:List Pat}{l:List Int}{ao:Option Addr}{rc:Nat}{g:Nat}(h:(cx0 w w1 L l ao rc).R g):w.heap.size<g/\g<w.heap.size+1+L.length:=by
  obtain ⟨k,hk,e⟩:=h
  have e':w.heap.size+1+k=g:=e
  have hk':k<L.length:=hk
  omega
theorem inv_new {w w1:World}{L:List Pat}{l:List Int}{ao:Option Addr}{rc:Nat}(hT:TK w w1 L.length (l.length+1) L.length)(hl:l.length<=40)(hall:AllR l)(hL:L.length<=1000000)(htab:TabAt 2 Lib.deBruijn64tab w)(hru:RunesA w (fun _=>False) ao l) :
    Inv (cx0 w w1 L l ao rc) (w1.alloc (.cells #[.slice ao l.length rc,.slice (some ⟨w.heap.size,0,none⟩) L.length L.length,.slice none 0 0] 188)):=by
  have hb:Below w.heap.size w (w1.alloc (.cells #[.slice ao l.length rc,.slice (some ⟨w.heap.size,0,none⟩) L.length L.length,.slice none 0 0] 188)):=hT.1.alloc hT.1.size _
  have h2:2<w.heap.size:=cell_lt (htab 0 (by decide))
  have hs:w1.heap.size=w.heap.size+1+L.length:=hT.2.1
  exact {
    len:=hl
    all:=hall
    parts:=hL
    bound:=fun g hg=>by have:=cx0_R hg;simp;omega
    tab:=fun j hj=>(hb.cell (p:=⟨2,j,none⟩) h2).trans (htab j hj)
    tab2:=fun h=>by have:=cx0_R h;omega
    text:=Blk.new w1 [.slice ao l.length rc,.slice (some ⟨w.heap.size,0,none⟩) L.length L.length,.slice none 0 0] 188
    bt:=fun h=>by have:=cx0_R h;show False;simp only [cx0] at this;omega
    runes:=fun i x hx=>by
      obtain ⟨b,o,e,_,hbl,hc⟩:=hru i x hx
      exact ⟨b,o,e,fun h=>by have:=cx0_R h;omega,Nat.lt_of_lt_of_le hbl hb.size,(hb.cell (p:=⟨b,o+i,none⟩) hbl).trans hc⟩
    kb:=fun h=>by have:=cx0_R h;simp only [cx0] at this;omega
    inj:=fun k k' _ _ e=>by have e':w.heap.size+1+k=w.heap.size+1+k':=e;omega
    row:=fun k hk=>by
      have hk':k<L.length:=hk
      obtain ⟨c0,_,c2⟩:=hT.cell hk'
      rw [if_pos hk'] at c0
      exact (((Below.refl _ w1).alloc (Nat.le_refl _) _).cell (p:=⟨w.heap.size,k,none⟩) c2).trans c0
    known:=fun k q i hq hi=>by
      have hk:k<L.length:=(List.getElem?_eq_some_iff.1 hq).1
      have hB:=(hT.2.2.2 k hk).alloc (.cells #[.slice ao l.length rc,.slice (some ⟨w.heap.size,0,none⟩) L.length L.length,.slice none 0 0] 188)
      have hi':i<=l.length:=hi
      exact ⟨hB.frozen i,.inl (by show World.cell? _ ⟨w.heap.size+1+k,i,none⟩=_;rw [hB.cell,List.getElem?_replicate,if_pos (by omega)])⟩ }
def PT (w:World)(A:Nat->Prop)(p:Pat)(bp:Nat):Prop:=A bp/\∃ f t,∃ g:Int,Blk w bp [f,t,.int .i64 (subs p).length,.int .i64 g] 183/\EV w A (subs p) p f/\(subs p).length<=1000
theorem four {w:World}{b:Nat}{v0 v1 v2 v3:Value}{T:TypeId}(h:Blk w b [v0,v1,v2,v3] T):w.cell? ⟨b,0,none⟩=some v0/\w.cell? ⟨b,1,none⟩=some v1/\w.cell? ⟨b,2,none⟩=some v2/\w.cell? ⟨b,3,none⟩=some v3:=⟨by rw [h.cell];rfl,by rw [h.cell];rfl,by rw [h.cell];rfl,by rw [h.cell];rfl⟩
set_option maxRecDepth 100000 in
set_option maxHeartbeats 4000000 in
theorem mtext_any (w:World)(bp:Nat)(L:List Pat)(f t:Value)(g:Int)(l:List Int)(ao:Option Addr)(rc:Nat)(hbp:Blk w bp [f,t,.int .i64 L.length,.int .i64 g] 183)(hl:l.length<=40)(hall:AllR l)(hL:L.length<=1000)(htab:TabAt 2 Lib.deBruijn64tab w)(hru:RunesA w (fun _=>False) ao l) :
    Calls Tryz.prog 70 #[.pointer (some ⟨bp,0,none⟩),.slice ao l.length rc] w fun e w'=>∃ w1,e=.returned (Ptr (cx0 w w1 L l ao rc).bt)/\Inv (cx0 w w1 L l ao rc) w'/\Below w.heap.size w w':=by
  obtain ⟨x0,x1,x2,x3⟩:=four hbp
  have HT:=hide (fun (w1:World) (hT:TK w w1 L.length (l.length+1) L.length)=>inv_new (rc:=rc) hT hl hall (by omega) htab hru)
  have HC:=hide (table_any L.length (l.length+1) w (by omega) (by omega))
  have HB:=hide (fun (w1:World) (hT:TK w w1 L.length (l.length+1) L.length)=>hT.1.alloc hT.1.size (.cells #[.slice ao l.length rc,.slice (some ⟨w.heap.size,0,none⟩) L.length L.length,.slice none 0 0] 188))
  clear hbp hall htab hru
  go_enter Tryz.func70,Tryz.ntmps70
  go_wp2_with (go_at_call 123;refine (by simpa using HC.out:Calls Tryz.prog 123 #[.int .i64 L.length,.int .i64 ((l.length:Int)+1)] w _).mono ?_;rintro e w1 ⟨rfl,hT⟩;have HTK:=hide hT;clear hT)
  go_ret
  exact ⟨w1,rfl,HT.out w1 HTK.out,HB.out w1 HTK.out⟩
set_option maxRecDepth 100000 in
set_option maxHeartbeats 4000000 in
theorem matches_any (c:Cx)(p:Pat)(hok:p.Ok)(w:World)(bp:Nat)(F:Nat)(cp:Array Value)(t:Value)(k9 g:Int)(hA:c.A bp)(hbp:Blk w bp [.func (.func F) #[] cp,t,.int .i64 k9,.int .i64 g] 183)(eg:∀ args w,(callFunc F args).run Tryz.prog w=.ok (.enter F args) w)(hI:Inv c w)(hE:EV w c.A c.L p (.func (.func F) #[] cp)) :
    Calls Tryz.prog 69 #[.pointer (some ⟨bp,0,none⟩),.pointer (some ⟨c.bt,0,none⟩)] w fun e w'=>e=.returned (.bool (mT p c.l 0 c.l.length))/\KR c.R w w':=by
  obtain ⟨x0,_,_,_⟩:=four hbp
  obtain ⟨y0,_,_⟩:=three hI.text
  have hbl:=hbp.lt
  have htl:=hI.text.lt
  have h40:=hI.len
  have HBT:=hide hI.bt
  have HA:=hide hA
  have HI:=hide hI
  have HC:=hide (fun (w':World) (hk:KR c.R w w') (h':Inv c w')=>(show Calls Tryz.prog F (#[.pointer (some ⟨c.bt,0,none⟩),.int .i64 0]++cp) w' _ from ends_all c p hok w' F cp 0 h' (EV.keep (hk.keeps (A:=c.A) (fun g h=>h)) p _ hE) (Nat.zero_le _)))
  have HH:=hide (fun (w':World)=>has_any2 (mT p c.l 0) c.l.length (c.l.length+1) w' (Nat.lt_succ_self _) (by omega))
  generalize mk (mT p c.l 0) (c.l.length+1)=M at HC HH
  generalize mT p c.l 0 c.l.length=B at HH ⊢
  clear hbp hI hE hA
  go_enter Tryz.func69,Tryz.ntmps69
  go_wp2_with fail
  go_region_held3 (fun w'=>Inv c w'/\KR c.R w w'/\w'.cell? ⟨bp,0,none⟩=some (.func (.func F) #[] cp)/\w'.cell? ⟨c.bt,0,none⟩=some (.slice c.ao c.l.length c.rc))
    (first | exact ⟨HI.out.drew,(KR.refl _ _).drew,x0,y0⟩ | exact ⟨HI5.out,HK5.out,(HK5.out.cell (p:=⟨bp,0,none⟩) hbl HA.out).trans x0,(HK5.out.cell (p:=⟨c.bt,0,none⟩) htl HBT.out).trans y0⟩)
    (first
      | (go_at_call 122;refine (HH.out _).mono ?_;rintro e w6 ⟨rfl,hw9⟩;have hw8:=hw9.symm;subst hw8;clear hw9)
      | (go_at_fn F;refine (HC.out _ (‹Inv c _/\KR c.R w _/\_›.2.1) (‹Inv c _/\KR c.R w _/\_›.1)).mono ?_;rintro e w5 ⟨rfl,hI5,hK5⟩;have HI5:=hide hI5;have HK5:=hide ((‹Inv c _/\KR c.R w _/\_›.2.1).trans hK5);clear hI5 hK5))
  all_goals (go_wp2_with fail;go_ret;exact ⟨rfl,HK5.out⟩)
set_option maxRecDepth 100000 in
set_option maxHeartbeats 4000000 in
theorem match_any (p:Pat)(hok:p.Ok)(w:World)(A:Nat->Prop)(bp:Nat)(l:List Int)(ao:Option Addr)(rc:Nat)(hP:PT w A p bp)(hl:l.length<=40)(hall:AllR l)(htab:TabAt 2 Lib.deBruijn64tab w)(hru:RunesA w (fun _=>False) ao l) :
    Calls Tryz.prog 39 #[.pointer (some ⟨bp,0,none⟩),.slice ao l.length rc] w fun e w'=>e=.returned (.bool (mT p l 0 l.length))/\Below w.heap.size w w':=by
  obtain ⟨hAb,f,t,g,hbp,hE,hL⟩:=hP
  obtain ⟨F,cp,rfl,eg⟩:=EV.form p f hok hE
  have HT:=hide (mtext_any w bp (subs p) _ t g l ao rc hbp hl hall hL htab hru)
  have HM:Hid (∀ w1 w2,Inv (cx0 w w1 (subs p) l ao rc) w2->Below w.heap.size w w2->Calls Tryz.prog 69 #[.pointer (some ⟨bp,0,none⟩),Ptr (cx0 w w1 (subs p) l ao rc).bt] w2 fun e w'=>e=.returned (.bool (mT p l 0 l.length))/\Below w.heap.size w w'):=fun w1 w2 h2 hb2 =>
    (matches_any (cx0 w w1 (subs p) l ao rc) p hok w2 bp F cp t _ g (fun h=>by have:=cx0_R h;have:=hbp.lt;omega) (hbp.below hb2) eg h2 (EV.keep (Keeps.below hb2) p _ (EV.mono (fun g hg _ h=>by have:=cx0_R h;omega) p _ hE))).mono (fun e w' h5=>⟨h5.1,⟨h5.2.os.trans hb2.os,h5.2.tape.trans hb2.tape,h5.2.output.trans hb2.output,Nat.le_trans hb2.size h5.2.size,fun k hk=>(h5.2.block k (Nat.lt_of_lt_of_le hk hb2.size) (fun h=>by have:=cx0_R h;omega)).trans (hb2.block k hk)⟩⟩)
  clear hbp hE hall htab hru hAb
  go_enter Tryz.func39,Tryz.ntmps39
  go_wp2_with (first
    | (go_at_call 70;refine HT.out.mono ?_;rintro e w2 ⟨w1,rfl,hI2,hb2⟩;have HI2:=hide hI2;have HB2:=hide hb2;clear hI2 hb2)
    | (go_at_call 69;refine (HM.out w1 _ HI2.out HB2.out).mono ?_;rintro e w3 ⟨rfl,hb3⟩))
  go_ret
  exact ⟨rfl,hb3⟩
end Go.Proofs.YtpoibdhhcbelnaaGreatDoor
namespace Go.Proofs.YtpoibdhhcbelnaaGreatDoor
open Go.RowKit Brm
mutual
def TV (w:World)(A:Nat->Prop)(L:List Pat):Pat->Nat->Value->Prop
  | .set _,_,t=>t=.func (.func 152) #[] #[]
  | .row l,g,t=>∃ xs,TVL w A L l g xs/\Bx w A 195 l.length xs t
  | .or l,g,t=>∃ xs,TVL w A L l g xs/\((l.length=1/\∃ f,xs=[f,t])\/(l.length≠1/\Bx w A 199 l.length xs t))
  | .and l,g,t=>∃ xs,TVL w A L l g xs/\((l.length=1/\∃ f,xs=[f,t])\/(l.length≠1/\t=.func (.func 152) #[] #[]))
  | .not _,_,t=>t=.func (.func 152) #[] #[]
  | .many p m n,g,t=>∃ b0 b1 b2 f u,t=.func (.func 204) #[] #[Ptr b0,Ptr b1,Ptr b2]/\A b0/\A b1/\A b2/\Blk w b0 [f,u] 180/\Blk w b1 [.int .i64 m] 3/\Blk w b2 [.int .i64 n] 3/\IsF u/\EV w A L p f/\TV w A L p g u
  | .group p,g,t=>∃ b0 b1 f u,t=.func (.func 237) #[] #[Ptr b0,Ptr b1]/\A b0/\A b1/\Blk w b0 [f,u] 180/\Blk w b1 [.int .i64 (g:Int)] 3/\IsF u/\EV w A L p f/\TV w A L p (g+1) u
def TVL (w:World)(A:Nat->Prop)(L:List Pat):List Pat->Nat->List Value->Prop
  | [],_,xs=>xs=[]
  | p::l,g,xs=>∃ f t r,xs=f::t::r/\IsF t/\EV w A L p f/\TV w A L p g t/\TVL w A L l (g+p.groups) r
end
mutual
theorem TV.keep {A:Nat->Prop}{w w':World}{L:List Pat}(k:Keeps A w w'):∀ (p:Pat) (g:Nat) (t:Value),TV w A L p g t->TV w' A L p g t
  | .set _,_,_,h=>h
  | .row l,g,t,h=>by obtain ⟨xs,hl,hr⟩:=h;exact ⟨xs,TVL.keep k l g xs hl,Bx.keep k t hr⟩
  | .or l,g,t,h=>by
    obtain ⟨xs,hl,hr⟩:=h
    refine ⟨xs,TVL.keep k l g xs hl,?_⟩
    rcases hr with hr | ⟨hn,hr⟩
    · exact .inl hr
    · exact .inr ⟨hn,Bx.keep k t hr⟩
  | .and l,g,t,h=>by
    obtain ⟨xs,hl,hr⟩:=h
    exact ⟨xs,TVL.keep k l g xs hl,hr⟩
  | .not _,_,_,h=>h
  | .many p m n,g,t,h=>by
    obtain ⟨b0,b1,b2,f,u,e,h0,h1,h2,k0,k1,k2,hu,hE,hT⟩:=h
    exact ⟨b0,b1,b2,f,u,e,h0,h1,h2,k0.keep k h0,k1.keep k h1,k2.keep k h2,hu,EV.keep k p f hE,TV.keep k p g u hT⟩
  | .group p,g,t,h=>by
    obtain ⟨b0,b1,f,u,e,h0,h1,k0,k1,hu,hE,hT⟩:=h
    exact ⟨b0,b1,f,u,e,h0,h1,k0.keep k h0,k1.keep k h1,hu,EV.keep k p f hE,TV.keep k p (g+1) u hT⟩
theorem TVL.keep {A:Nat->Prop}{w w':World}{L:List Pat}(k:Keeps A w w'):∀ (l:List Pat) (g:Nat) (xs:List Value),TVL w A L l g xs->TVL w' A L l g xs
  | [],_,_,h=>h
  | p::l,g,xs,h=>by obtain ⟨f,t,r,e,ht,hp,hT,hl⟩:=h;exact ⟨f,t,r,e,ht,EV.keep k p f hp,TV.keep k p g t hT,TVL.keep k l _ r hl⟩
end
mutual
theorem TV.mono {A A':Nat->Prop}{w:World}{L:List Pat}(k:∀ g,g<w.heap.size->A g->A' g):∀ (p:Pat) (g:Nat) (t:Value),TV w A L p g t->TV w A' L p g t
  | .set _,_,_,h=>h
  | .row l,g,t,h=>by obtain ⟨xs,hl,hr⟩:=h;exact ⟨xs,TVL.mono k l g xs hl,Bx.mono k t hr⟩
  | .or l,g,t,h=>by
    obtain ⟨xs,hl,hr⟩:=h
    refine ⟨xs,TVL.mono k l g xs hl,?_⟩
    rcases hr with hr | ⟨hn,hr⟩
    · exact .inl hr
    · exact .inr ⟨hn,Bx.mono k t hr⟩
  | .and l,g,t,h=>by
    obtain ⟨xs,hl,hr⟩:=h
    exact ⟨xs,TVL.mono k l g xs hl,hr⟩
  | .not _,_,_,h=>h
  | .many p m n,g,t,h=>by
    obtain ⟨b0,b1,b2,f,u,e,h0,h1,h2,k0,k1,k2,hu,hE,hT⟩:=h
    exact ⟨b0,b1,b2,f,u,e,k _ k0.lt h0,k _ k1.lt h1,k _ k2.lt h2,k0,k1,k2,hu,EV.mono k p f hE,TV.mono k p g u hT⟩
  | .group p,g,t,h=>by
    obtain ⟨b0,b1,f,u,e,h0,h1,k0,k1,hu,hE,hT⟩:=h
    exact ⟨b0,b1,f,u,e,k _ k0.lt h0,k _ k1.lt h1,k0,k1,hu,EV.mono k p f hE,TV.mono k p (g+1) u hT⟩
theorem TVL.mono {A A':Nat->Prop}{w:World}{L:List Pat}(k:∀ g,g<w.heap.size->A g->A' g):∀ (l:List Pat) (g:Nat) (xs:List Value),TVL w A L l g xs->TVL w A' L l g xs
  | [],_,_,h=>h
  | p::l,g,xs,h=>by obtain ⟨f,t,r,e,ht,hp,hT,hl⟩:=h;exact ⟨f,t,r,e,ht,EV.mono k p f hp,TV.mono k p g t hT,TVL.mono k l _ r hl⟩
end
theorem TVL.snoc {w:World}{A:Nat->Prop}{L:List Pat}:∀ (l:List Pat) (g:Nat) (xs:List Value) (p:Pat) (f t:Value),TVL w A L l g xs->IsF t->EV w A L p f->TV w A L p (g+groupsL l) t->TVL w A L (l++[p]) g (xs++[f,t])
  | [],g,xs,p,f,t,h,ht,hp,hT=>by rw [show xs=[] from h];exact ⟨f,t,[],rfl,ht,hp,hT,rfl⟩
  | q::l,g,xs,p,f,t,h,ht,hp,hT=>by
    obtain ⟨f',t',r,rfl,ht',hq,hTq,hl⟩:=h
    exact ⟨f',t',r++[f,t],by simp,ht',hq,hTq,TVL.snoc l (g+q.groups) r p f t hl ht hp (by rw [Nat.add_assoc];exact hT)⟩
def PK (w:World)(A:Nat->Prop)(p:Pat)(bp:Nat):Prop:=A bp/\∃ f t,Blk w bp [f,t,.int .i64 (subs p).length,.int .i64 p.groups] 183/\IsF t/\EV w A (subs p) p f/\TV w A (subs p) p 0 t/\(subs p).length<=1000/\p.groups<=1000
theorem PK.keep {w w':World}{A:Nat->Prop}{p:Pat}{bp:Nat}(h:PK w A p bp)(k:Keeps A w w'):PK w' A p bp:=by
  obtain ⟨ha,f,t,hb,ht,hE,hT,hl⟩:=h
  exact ⟨ha,f,t,hb.keep k ha,ht,EV.keep k p f hE,TV.keep k p 0 t hT,hl⟩
end Go.Proofs.YtpoibdhhcbelnaaGreatDoor
namespace Go.Proofs.YtpoibdhhcbelnaaGreatDoor
open Go.Shelf Go.RowKit Go.Lib Brm
theorem mk147 (lo:Option Addr)(ln lc:Nat)(w:World):Calls Tryz.prog 147 #[.slice lo ln lc] w fun e w'=>e=.returned (.func (.func 193) #[] #[Ptr w.heap.size])/\w'=w.alloc (.cells #[.slice lo ln lc] 242):=by
  go_enter Tryz.func147,Tryz.ntmps147
  go_wp2
  go_ret
  exact ⟨rfl,rfl⟩
theorem mk148 (lo:Option Addr)(ln lc:Nat)(w:World):Calls Tryz.prog 148 #[.slice lo ln lc] w fun e w'=>e=.returned (.func (.func 195) #[] #[Ptr w.heap.size])/\w'=w.alloc (.cells #[.slice lo ln lc] 242):=by
  go_enter Tryz.func148,Tryz.ntmps148
  go_wp2
  go_ret
  exact ⟨rfl,rfl⟩
theorem mk149 (lo:Option Addr)(ln lc:Nat)(w:World):Calls Tryz.prog 149 #[.slice lo ln lc] w fun e w'=>e=.returned (.func (.func 198) #[] #[Ptr w.heap.size])/\w'=w.alloc (.cells #[.slice lo ln lc] 242):=by
  go_enter Tryz.func149,Tryz.ntmps149
  go_wp2
  go_ret
  exact ⟨rfl,rfl⟩
theorem mk150 (lo:Option Addr)(ln lc:Nat)(w:World):Calls Tryz.prog 150 #[.slice lo ln lc] w fun e w'=>e=.returned (.func (.func 199) #[] #[Ptr w.heap.size])/\w'=w.alloc (.cells #[.slice lo ln lc] 242):=by
  go_enter Tryz.func150,Tryz.ntmps150
  go_wp2
  go_ret
  exact ⟨rfl,rfl⟩
theorem mk151 (lo:Option Addr)(ln lc:Nat)(w:World):Calls Tryz.prog 151 #[.slice lo ln lc] w fun e w'=>e=.returned (.func (.func 200) #[] #[Ptr w.heap.size])/\w'=w.alloc (.cells #[.slice lo ln lc] 242):=by
  go_enter Tryz.func151,Tryz.ntmps151
  go_wp2
  go_ret
  exact ⟨rfl,rfl⟩
theorem mk156 (lo:Option Addr)(ln lc:Nat)(w:World):Calls Tryz.prog 156 #[.slice lo ln lc] w fun e w'=>e=.returned (.func (.func 206) #[] #[Ptr w.heap.size])/\w'=w.alloc (.cells #[.slice lo ln lc] 29):=by
  go_enter Tryz.func156,Tryz.ntmps156
  go_wp2
  go_ret
  exact ⟨rfl,rfl⟩
theorem mk153 (F:Nat)(cp:Array Value)(G:Nat)(tc:Array Value)(w:World):Calls Tryz.prog 153 #[.agg #[.func (.func F) #[] cp,.func (.func G) #[] tc]] w fun e w'=>e=.returned (.func (.func 202) #[] #[Ptr w.heap.size])/\w'=w.alloc (.cells #[.func (.func F) #[] cp,.func (.func G) #[] tc] 180):=by
  go_enter Tryz.func153,Tryz.ntmps153
  go_wp2
  go_ret
  exact ⟨rfl,rfl⟩
theorem mk154 (F:Nat)(cp:Array Value)(G:Nat)(tc:Array Value)(m n:Int)(w:World):Calls Tryz.prog 154 #[.agg #[.func (.func F) #[] cp,.func (.func G) #[] tc],.int .i64 m,.int .i64 n] w fun e w'=>e=.returned (.func (.func 203) #[] #[Ptr (w.heap.size+1),Ptr w.heap.size,Ptr (w.heap.size+2)])/\w'=((w.alloc (.cells #[.func (.func F) #[] cp,.func (.func G) #[] tc] 180)).alloc (.cells #[.int .i64 m] 3)).alloc (.cells #[.int .i64 n] 3):=by
  go_enter Tryz.func154,Tryz.ntmps154
  go_wp2
  go_ret
  exact ⟨rfl,rfl⟩
theorem mk155 (F:Nat)(cp:Array Value)(G:Nat)(tc:Array Value)(m n:Int)(w:World):Calls Tryz.prog 155 #[.agg #[.func (.func F) #[] cp,.func (.func G) #[] tc],.int .i64 m,.int .i64 n] w fun e w'=>e=.returned (.func (.func 204) #[] #[Ptr w.heap.size,Ptr (w.heap.size+1),Ptr (w.heap.size+2)])/\w'=((w.alloc (.cells #[.func (.func F) #[] cp,.func (.func G) #[] tc] 180)).alloc (.cells #[.int .i64 m] 3)).alloc (.cells #[.int .i64 n] 3):=by
  go_enter Tryz.func155,Tryz.ntmps155
  go_wp2
  go_ret
  exact ⟨rfl,rfl⟩
theorem mk191 (F:Nat)(cp:Array Value)(G:Nat)(tc:Array Value)(m:Int)(w:World):Calls Tryz.prog 191 #[.agg #[.func (.func F) #[] cp,.func (.func G) #[] tc],.int .i64 m] w fun e w'=>e=.returned (.func (.func 237) #[] #[Ptr w.heap.size,Ptr (w.heap.size+1)])/\w'=(w.alloc (.cells #[.func (.func F) #[] cp,.func (.func G) #[] tc] 180)).alloc (.cells #[.int .i64 m] 3):=by
  go_enter Tryz.func191,Tryz.ntmps191
  go_wp2
  go_ret
  exact ⟨rfl,rfl⟩
set_option maxRecDepth 100000 in
set_option maxHeartbeats 4000000 in
theorem mk146 (bm k:Nat)(g:Int)(F:Nat)(cp:Array Value)(w:World)(hk:k<=100000)(hb:Blk w bm [.int .i64 k,.int .i64 g] 174):Calls Tryz.prog 146 #[.pointer (some ⟨bm,0,none⟩),.func (.func F) #[] cp] w fun e w'=>e=.returned (.func (.func 192) #[] #[Ptr (w.heap.size+1),Ptr w.heap.size])/\Off bm w w'/\Blk w' bm [.int .i64 ((k+1:Nat):Int),.int .i64 g] 174/\Blk w' w.heap.size [.func (.func F) #[] cp] 176/\Blk w' (w.heap.size+1) [.int .i64 k] 3:=by
  obtain ⟨x0,x1⟩:=two hb
  have z0:=hb.frozen 0
  have hbl:=hb.lt
  have hne:bm≠w.heap.size:=by omega
  have hne1:bm≠w.heap.size+1:=by omega
  have HB:=hide hb
  clear hb
  go_enter Tryz.func146,Tryz.ntmps146
  go_wp2
  go_ret
  have e9:(k:Int)+1=((k+1:Nat):Int):=by omega
  rw [e9]
  have hs:(w.setCell ⟨bm,0,none⟩ (.int .i64 ((k+1:Nat):Int))).heap.size=w.heap.size:=by simp [World.setCell]
  have h1:=(Blk.new (w.setCell ⟨bm,0,none⟩ (.int .i64 ((k+1:Nat):Int))) [.func (.func F) #[] cp] 176).alloc (.cells #[.int .i64 k] 3)
  have h2:=Blk.new ((w.setCell ⟨bm,0,none⟩ (.int .i64 ((k+1:Nat):Int))).alloc (.cells #[.func (.func F) #[] cp] 176)) [.int .i64 k] 3
  have hs2:((w.setCell ⟨bm,0,none⟩ (.int .i64 ((k+1:Nat):Int))).alloc (.cells #[.func (.func F) #[] cp] 176)).heap.size=w.heap.size+1:=by simp [World.setCell]
  rw [hs] at h1
  rw [hs2] at h2
  exact ⟨rfl,(((Off.refl _ _).setCell 0 _).alloc _).alloc _,((HB.out.set 0 _).alloc _).alloc _,h1,h2⟩
def Pre (L:List Pat)(k:Nat)(xs:List Pat):Prop:=∀ i q,xs[i]?=some q->L[k+i]?=some q
theorem Pre.left {L xs ys:List Pat}{k:Nat}(h:Pre L k (xs++ys)):Pre L k xs:=fun i q hi=>h i q (by rw [List.getElem?_append_left (List.getElem?_eq_some_iff.1 hi).1];exact hi)
theorem Pre.right {L xs ys:List Pat}{k:Nat}(h:Pre L k (xs++ys)):Pre L (k+xs.length) ys:=fun i q hi=>by
  have:=h (xs.length+i) q (by rw [List.getElem?_append_right (by omega)];rw [show xs.length+i-xs.length=i by omega];exact hi)
  rw [<- this];congr 1;omega
theorem Pre.one {L xs:List Pat}{k:Nat}{p:Pat}(h:Pre L k (xs++[p])):L[k+xs.length]?=some p:=by
  have:=h.right 0 p rfl
  simpa using this
theorem subsL_append:∀ (l r:List Pat),subsL (l++r)=subsL l++subsL r
  | [],r=>by simp [subsL]
  | q::l,r=>by simp [subsL,subsL_append l r]
theorem groupsL_append:∀ (l r:List Pat),groupsL (l++r)=groupsL l+groupsL r
  | [],r=>by simp [groupsL]
  | q::l,r=>by simp [groupsL,groupsL_append l r];omega
theorem take_one {l:List Pat}{k:Nat}(hk:k<l.length):l=l.take k++(l[k]::l.drop (k+1)):=by
  rw [List.getElem_cons_drop,List.take_append_drop]
theorem EVL.snoc {w:World}{A:Nat->Prop}{L:List Pat}:∀ (l:List Pat) (xs:List Value) (p:Pat) (f t:Value),EVL w A L l xs->IsF t->EV w A L p f->EVL w A L (l++[p]) (xs++[f,t])
  | [],xs,p,f,t,h,ht,hp=>by rw [show xs=[] from h];exact ⟨f,t,[],rfl,ht,hp,rfl⟩
  | q::l,xs,p,f,t,h,ht,hp=>by
    obtain ⟨f',t',r,rfl,ht',hq,hl⟩:=h
    exact ⟨f',t',r++[f,t],by simp,ht',hq,EVL.snoc l r p f t hl ht hp⟩
def AB (lo B:Nat)(w:World)(x:Nat):Prop:=(lo<=x/\x<B)\/w.heap.size<=x
theorem Tryz.info180:(Tryz.prog.info? 180).map (fun i=>(i.zero,i.size,i.bytes))=some (some (.agg #[.nilFunc,.nilFunc]),2,16):=by kernel_rfl
theorem own_le180 {w:World}{B B':Nat}{v:Value}{n:Nat}{xs:List Value}(h:w.ownsRow B 180 2 v n xs)(hb:B'<=B):w.ownsRow B' 180 2 v n xs:=by
  refine ⟨h.1,?_⟩
  rcases h.2 with h2 | ⟨g,cap,cur,e,hg,r⟩
  · exact .inl h2
  · exact .inr ⟨g,cap,cur,e,Nat.le_trans hb hg,r⟩
theorem append_part {w:World}{ops:Array Oper}{rest:List Oper}{o:Oper}{a:Act}{Q:Exit->Act->World->Prop}(hgd:o.guard=none)(s x:Operand)
    (ho:o.op=.call { callee:=.builtin .append,args:=#[s,x],argTypes:=#[242,242] }) (B n:Nat) (v:Value) (xs:List Value) (hs:a.eval s=v) (hown:w.ownsRow B 180 2 v n xs)
    (ad:Addr) (news:List Value) (hx:a.eval x=.slice (some ad) 1 1) (hl:news.length=2) (hnews:∀ j u,news[j]?=some u->w.cell? (ad.add j)=some u) (h1:∀ u∈news,u.oneCell'=true)
    (hn:n<=100000) (hB:B<=w.heap.size)
    (h:∀ v' w',w'.ownsRow B 180 2 v' (n+1) (xs++news)->w.grownBy w' v.ownBlock->(v'.ownBlock=v.ownBlock\/∀ g,v'.ownBlock=some g->w.heap.size<=g) ->
      wpList Tryz.prog ops Q rest (a.put o.dst v') w'):wpList Tryz.prog ops Q (o::rest) a w:=by
  obtain ⟨i0,hi,hz0,hz1,hz2⟩:=info_parts Tryz.info180
  have hrow:=hown
  rcases hown.2 with ⟨rfl,rfl⟩ | ⟨g,cap,cur,rfl,hbg,hg,hnc,hcm,hcs,ht⟩
  · refine wpList_append_grows w hgd s x 242 ho 180 i0 (.agg #[.nilFunc,.nilFunc]) 2 16 Tryz.underlying242 hi hz0 hz1 hz2 rfl (by decide) none 0 0 xs hs (fun _=>⟨rfl,rfl⟩) hrow.1 (fun b e=>by cases e) ad 1 1 news hx hl hnews h1 (by omega) (by unfold maxLen;omega) (by omega) ?_
    intro v' w' ho' hg'
    exact h v' w' (own_le180 ho' hB) ⟨hg'.os,hg'.tape,hg'.output,hg'.size,fun k hk _=>hg'.block k hk (by simp)⟩ (.inr fun g e=>(ho'.lt g e).1)
  · by_cases hroom:n+1<=cap
    · refine wpList_append_fits w hgd s x 242 ho B 180 i0 2 Tryz.underlying242 hi hz1 g n cap xs hs hrow ad 1 1 news hx hl hnews h1 hroom ?_
      intro w' ho' hg'
      exact h _ w' ho' hg' (.inl rfl)
    · refine wpList_append_grows w hgd s x 242 ho 180 i0 (.agg #[.nilFunc,.nilFunc]) 2 16 Tryz.underlying242 hi hz0 hz1 hz2 rfl (by decide) (some ⟨g,0,none⟩) n cap xs hs (fun e=>by cases e) hrow.1 (fun b e j u hj=>by cases e;exact hrow.cells rfl j u hj) ad 1 1 news hx hl hnews h1 (by omega) (by unfold maxLen;omega) (by omega) ?_
      intro v' w' ho' hg'
      exact h v' w' (own_le180 ho' hB) ⟨hg'.os,hg'.tape,hg'.output,hg'.size,fun k hk _=>hg'.block k hk (by simp)⟩ (.inr fun g e=>(ho'.lt g e).1)
end Go.Proofs.YtpoibdhhcbelnaaGreatDoor
namespace Go.Proofs.YtpoibdhhcbelnaaGreatDoor
open Go.Shelf Go.RowKit Go.Lib Brm
abbrev Mkr (w:World)(bm k g:Nat):Prop:=Blk w bm [.int .i64 k,.int .i64 g] 174
def PartQ (p:Pat)(lo B bm k g:Nat)(L:List Pat)(w:World)(e:Ending)(w':World):Prop:=∃ F cp G tc,e=.returned (.agg #[.func (.func F) #[] cp,.func (.func G) #[] tc])/\EV w' (AB lo B w) L p (.func (.func F) #[] cp)/\TV w' (AB lo B w) L p g (.func (.func G) #[] tc)/\Off bm w w'/\Mkr w' bm (k+(subs p).length) (g+p.groups)
def PartOk (p:Pat):Prop:=∀ (lo B bm b k g:Nat) (L:List Pat) (w:World),B<=bm->PN w (fun x=>lo<=x/\x<B) p b->Mkr w bm k g->Pre L k (subs p)->k+(subs p).length<=1000->g+p.groups<=1000->Calls Tryz.prog 96 #[.pointer (some ⟨bm,0,none⟩),.pointer (some ⟨b,0,none⟩)] w (PartQ p lo B bm k g L w)
def AllQ (l:List Pat)(lo B bm k g:Nat)(L:List Pat)(w:World)(e:Ending)(w':World):Prop:=∃ la lc ys,e=.returned (.slice la l.length lc)/\Own w' (AB lo B w) 180 2 (.slice la l.length lc) l.length ys/\EVL w' (AB lo B w) L l ys/\TVL w' (AB lo B w) L l g ys/\Off bm w w'/\Mkr w' bm (k+(subsL l).length) (g+groupsL l)
theorem part_new (w:World)(F:Nat)(cp:Array Value)(G:Nat)(tc:Array Value):∀ j u,([.func (.func F) #[] cp,.func (.func G) #[] tc]:List Value)[j]?=some u->(w.alloc (.cells #[.func (.func F) #[] cp,.func (.func G) #[] tc] 180)).cell? ((⟨w.heap.size,0,none⟩:Addr).add j)=some u:=by
  intro j u hj
  rw [Addr.add_lit,<- hj]
  simp
theorem part_one (F:Nat)(cp:Array Value)(G:Nat)(tc:Array Value):∀ u∈([.func (.func F) #[] cp,.func (.func G) #[] tc]:List Value),u.oneCell'=true:=by
  intro u hu;simp at hu;rcases hu with rfl | rfl<;>rfl
def AP (w:World)(lo B bm k g:Nat)(L:List Pat)(v:Value)(l:List Pat)(wr:World):Prop:=∃ ys,wr.ownsRow w.heap.size 180 2 v l.length ys/\EVL wr (fun x=>AB lo B w x/\some x≠v.ownBlock) L l ys/\TVL wr (fun x=>AB lo B w x/\some x≠v.ownBlock) L l g ys/\Off bm w wr/\Mkr wr bm (k+(subsL l).length) (g+groupsL l)
theorem AP.push {w wr w2 w3:World}{lo B bm k g:Nat}{L l:List Pat}{p:Pat}{v v3:Value}{F:Nat}{cp:Array Value}{G:Nat}{tc:Array Value}{ys:List Value}(hB:B<=bm)(hbm:bm<w.heap.size)
    (h1:wr.ownsRow w.heap.size 180 2 v l.length ys) (h2:EVL wr (fun x=>AB lo B w x/\some x≠v.ownBlock) L l ys) (h2T:TVL wr (fun x=>AB lo B w x/\some x≠v.ownBlock) L l g ys) (h3:Off bm w wr)
    (hE:EV w2 (AB lo B wr) L p (.func (.func F) #[] cp)) (hT:TV w2 (AB lo B wr) L p (g+groupsL l) (.func (.func G) #[] tc)) (hO:Off bm wr w2) (hM:Mkr w2 bm (k+(subsL l).length+(subs p).length) (g+groupsL l+p.groups))
    (ho3:w3.ownsRow w.heap.size 180 2 v3 (l.length+1) (ys++[.func (.func F) #[] cp,.func (.func G) #[] tc])) (hg3:(w2.alloc (.cells #[.func (.func F) #[] cp,.func (.func G) #[] tc] 180)).grownBy w3 v.ownBlock)
    (hl3:v3.ownBlock=v.ownBlock\/∀ g,v3.ownBlock=some g->(w2.alloc (.cells #[.func (.func F) #[] cp,.func (.func G) #[] tc] 180)).heap.size<=g):AP w lo B bm k g L v3 (l++[p]) w3:=by
  have hv:∀ q,v.ownBlock=some q->w.heap.size<=q/\q<wr.heap.size:=fun q hq=>h1.lt q hq
  have hsz:=hO.size
  have hs2:(w2.alloc (.cells #[.func (.func F) #[] cp,.func (.func G) #[] tc] 180)).heap.size=w2.heap.size+1:=by simp
  have hk3:Keeps (fun x=>AB lo B w x/\some x≠v.ownBlock) w2 w3:=(Keeps.alloc _ _ _).trans (Keeps.grown hg3 (fun q e h=>h.2 e.symm))
  have hmono:∀ q,q<w2.heap.size->some q≠v.ownBlock->some q≠v3.ownBlock:=fun q hq hne e=>by
    rcases hl3 with h | h
    · rw [h] at e;exact hne e
    · have:=h q e.symm;omega
  refine ⟨_,by rw [List.length_append];exact ho3,?_,?_,(h3.trans (hO.alloc _)).grown hg3 (fun q e=>(hv q e).1),?_⟩
  · have e1:EVL w2 (fun x=>AB lo B w x/\some x≠v.ownBlock) L l ys:=EVL.keep (Keeps.off hO (fun ha=>by rcases ha.1 with ha | ha<;>omega)) l ys h2
    have e2:EV w2 (fun x=>AB lo B w x/\some x≠v.ownBlock) L p (.func (.func F) #[] cp):=EV.mono (fun q _ ha=>by
      rcases ha with ha | ha
      · exact ⟨.inl ha,fun e=>by have:=hv q e.symm;omega⟩
      · exact ⟨.inr (Nat.le_trans h3.size ha),fun e=>by have:=hv q e.symm;omega⟩) p _ hE
    have e3:=EVL.snoc l ys p _ _ e1 ⟨G,tc,rfl⟩ e2
    have e4:EVL w2 (fun x=>(AB lo B w x/\some x≠v.ownBlock)/\some x≠v3.ownBlock) L (l++[p]) _:=EVL.mono (fun q hq ha=>⟨ha,hmono q hq ha.2⟩) _ _ e3
    have e5:=EVL.keep (w':=w3) (A:=fun x=>(AB lo B w x/\some x≠v.ownBlock)/\some x≠v3.ownBlock) ⟨hk3.1,fun q hq ha=>hk3.2 q hq ha.1⟩ _ _ e4
    exact EVL.mono (fun q _ ha=>⟨ha.1.1,ha.2⟩) _ _ e5
  · have e1:TVL w2 (fun x=>AB lo B w x/\some x≠v.ownBlock) L l g ys:=TVL.keep (Keeps.off hO (fun ha=>by rcases ha.1 with ha | ha<;>omega)) l g ys h2T
    have e2:EV w2 (fun x=>AB lo B w x/\some x≠v.ownBlock) L p (.func (.func F) #[] cp):=EV.mono (fun q _ ha=>by
      rcases ha with ha | ha
      · exact ⟨.inl ha,fun e=>by have:=hv q e.symm;omega⟩
      · exact ⟨.inr (Nat.le_trans h3.size ha),fun e=>by have:=hv q e.symm;omega⟩) p _ hE
    have e2T:TV w2 (fun x=>AB lo B w x/\some x≠v.ownBlock) L p (g+groupsL l) (.func (.func G) #[] tc):=TV.mono (fun q _ ha=>by
      rcases ha with ha | ha
      · exact ⟨.inl ha,fun e=>by have:=hv q e.symm;omega⟩
      · exact ⟨.inr (Nat.le_trans h3.size ha),fun e=>by have:=hv q e.symm;omega⟩) p _ _ hT
    have e3:=TVL.snoc l g ys p _ _ e1 ⟨G,tc,rfl⟩ e2 e2T
    have e4:TVL w2 (fun x=>(AB lo B w x/\some x≠v.ownBlock)/\some x≠v3.ownBlock) L (l++[p]) g _:=TVL.mono (fun q hq ha=>⟨ha,hmono q hq ha.2⟩) _ _ _ e3
    have e5:=TVL.keep (w':=w3) (A:=fun x=>(AB lo B w x/\some x≠v.ownBlock)/\some x≠v3.ownBlock) ⟨hk3.1,fun q hq ha=>hk3.2 q hq ha.1⟩ _ _ _ e4
    exact TVL.mono (fun q _ ha=>⟨ha.1.1,ha.2⟩) _ _ _ e5
  · have:=(hM.alloc (.cells #[.func (.func F) #[] cp,.func (.func G) #[] tc] 180)).grown hg3 (fun e=>by have:=hv bm e.symm;omega)
    rw [subsL_append,groupsL_append]
    simp only [subsL,groupsL,List.append_nil,Nat.add_zero,List.length_append,<- Nat.add_assoc]
    exact this
theorem own_ptr_at {w:World}{A:Nat->Prop}{lv:Value}{n:Nat}{xs:List Nat}(h:Own w A 65 1 lv n (xs.map Ptr)){i x:Nat}(hi:i<n)(hx:xs[i]?=some x):∃ b cap,lv=.slice (some ⟨b,0,none⟩) n cap/\b<w.heap.size/\A b/\w.cell? ⟨b,i,none⟩=some (.pointer (some ⟨x,0,none⟩)):=by
  rcases h.1.2 with ⟨rfl,h0⟩ | ⟨b,cap,cur,rfl,hg,hh,hr⟩
  · omega
  · refine ⟨b,cap,rfl,(h.1.lt b rfl).2,h.2 b rfl,?_⟩
    have:=h.1.cells rfl i (Ptr x) (by rw [List.getElem?_map,hx];rfl)
    rw [Addr.add_lit] at this;simpa using this
set_option maxRecDepth 100000 in
set_option maxHeartbeats 4000000 in
theorem all_any (l:List Pat)(ih:∀ p∈l,PartOk p)(lo B bm k g:Nat)(L:List Pat)(w:World)(lv:Value)(xs:List Nat)(hB:B<=bm)(ho:Own w (fun x=>lo<=x/\x<B) 65 1 lv l.length (xs.map Ptr))(hP:PL w (fun x=>lo<=x/\x<B) l xs)(hm:Mkr w bm k g)(hL:Pre L k (subsL l))(hk:k+(subsL l).length<=1000)(hg:g+groupsL l<=1000)(h100:l.length<=100) :
    Calls Tryz.prog 145 #[.pointer (some ⟨bm,0,none⟩),lv] w (AllQ l lo B bm k g L w):=by
  have HPT:Hid (∀ (i:Nat) (_:i<l.length) (wr:World),Off bm w wr->∃ b cap x,lv=.slice (some ⟨b,0,none⟩) l.length cap/\wr.cell? ⟨b,i,none⟩=some (.pointer (some ⟨x,0,none⟩))/\PN wr (fun x=>lo<=x/\x<B) l[i] x):=fun i hi wr hw=>by
    obtain ⟨x,hx,hp⟩:=PL.at l xs hP i l[i] (List.getElem?_eq_getElem hi)
    have hkp:Keeps (fun x=>lo<=x/\x<B) w wr:=Keeps.off hw (by omega)
    obtain ⟨b,cap,rfl,_,_,c0⟩:=own_ptr_at (ho.keep hkp) hi hx
    exact ⟨b,cap,x,rfl,c0,PN.keep hkp _ _ hp⟩
  obtain ⟨lo9,lc,rfl⟩:=own65_form ho.1
  have hbm:=hm.lt
  have HIH:=hide ih
  have HM:=hide hm
  have HL:=hide hL
  have HB:=hide hB
  have HK:=hide hk
  have HG:=hide hg
  clear ho hP hm ih hL hB hk hg
  go_enter Tryz.func145,Tryz.ntmps145
  go_wp2_with fail
  go_loopw [5,10] (fun out ix wr=>∃ i:Nat,i<=l.length/\ix=.int .i64 i/\AP w lo B bm k g L out (l.take i) wr) (fun _ ix _=>l.length-(intOf ix).toNat)
  case atStart=>exact ⟨0,Nat.zero_le _,rfl,[],by simpa using World.ownsRow_nil _ _ _ _,by simp [EVL],by simp [TVL],Off.refl _ _,by simpa [subsL,groupsL] using HM.out⟩
  case round =>
    obtain ⟨i,hi,rfl,ys,ho,hE,hTv,hO,hM⟩:=hrel
    have HTr:=hide hTv
    have hti:(l.take i).length=i:=by rw [List.length_take];omega
    have HOr:=hide ho
    have HEr:=hide hE
    have HOf:=hide hO
    obtain ⟨ao,cap,rfl⟩:=ownP_form ho
    rw [hti]
    have HTI:=hide hti
    have i0:(0:Int)<=(i:Int):=Int.natCast_nonneg _
    by_cases hlt:i<l.length
    · obtain ⟨b,cap9,x,hlv,c0,hPN⟩:=HPT.out i hlt wr hO
      cases hlv
      have hsp:=take_one hlt
      have hse:subsL l=subsL (l.take i)++(subs l[i]++subsL (l.drop (i+1))):=by
        have:=congrArg subsL hsp
        rw [subsL_append] at this
        exact this
      have hge:groupsL l=groupsL (l.take i)+(l[i].groups+groupsL (l.drop (i+1))):=by
        have:=congrArg groupsL hsp
        rw [groupsL_append] at this
        exact this
      have hpre:Pre L (k+(subsL (l.take i)).length) (subs l[i]):=by
        have:=HL.out
        rw [hse] at this
        exact this.right.left
      have hle:(subsL (l.take i)).length+(subs l[i]).length<=(subsL l).length:=by rw [hse];simp only [List.length_append];omega
      have HC:=hide (HIH.out l[i] (List.getElem_mem hlt) lo B bm x (k+(subsL (l.take i)).length) (g+groupsL (l.take i)) L wr HB.out hPN hM hpre (by have:=HK.out;omega) (by have:=HG.out;omega))
      have HTS:Hid (l.take (i+1)=l.take i++[l[i]]):=List.take_succ_eq_append_getElem hlt
      generalize l[i]=p at HC HTS
      have i1:(i:Int)<(l.length:Int):=by omega
      have hsz:=hO.size
      clear hE hTv hO hM ho hsp hse hge hpre hle hPN hti
      go_wp2_with (first
        | (go_at_call 96;refine HC.out.mono ?_;rintro e w2 ⟨F,cp,G,tc,rfl,hE2,hT2,hO2,hM2⟩;have HE2:=hide hE2;have HT2:=hide hT2;have HO2:=hide hO2;have HM2:=hide hM2;have hs2:=hO2.size;clear hE2 hT2 hO2 hM2)
        | (at_builtin;refine append_part rfl (.tmp 14) (.tmp 18) rfl w.heap.size (l.take i).length _ _ (by rw [HTI.out];rfl) ((own_block HOr.out (fun q hq=>HO2.out.block q (HOr.out.lt q hq).2 (fun e=>by have:=(HOr.out.lt q hq).1;omega))).alloc _) ⟨w2.heap.size,0,none⟩ [.func (.func F) #[] cp,.func (.func G) #[] tc] rfl rfl (part_new _ _ _ _ _) (part_one _ _ _ _) (by rw [HTI.out];omega) (by simp;omega) ?_;intro v3 w3 ho3 hg3 hl3;have HO3:=hide ho3;have HG3:=hide hg3;have HL3:=hide hl3;clear ho3 hg3 hl3))
      go_roundw
      case rel=>exact ⟨i+1,by omega,by go_num,by rw [HTS.out];exact AP.push HB.out hbm HOr.out HEr.out HTr.out HOf.out HE2.out HT2.out HO2.out HM2.out HO3.out HG3.out HL3.out⟩
      case measure=>simp [intOf];omega
    · have hie:i=l.length:=by omega
      have HMr:=hide hM
      have HIE:=hide hie
      have i1:decide (i<l.length)=false:=decide_eq_false hlt
      clear hE hTv hO hM ho hti
      go_wp2
      go_ret
      have hie:=HIE.out
      have ho:=HOr.out
      have hE:=HEr.out
      have hTv:=HTr.out
      have hM:=HMr.out
      rw [HTI.out] at ho
      rw [hie] at ho hE hTv hM ⊢
      rw [List.take_length] at hE hTv hM
      exact ⟨ao,cap,ys,rfl,⟨own_le180 ho (Nat.zero_le _),fun q hq=>.inr (ho.lt q hq).1⟩,EVL.mono (fun q _ ha=>ha.1) _ _ hE,TVL.mono (fun q _ ha=>ha.1) _ _ _ hTv,HOf.out,hM⟩
end Go.Proofs.YtpoibdhhcbelnaaGreatDoor
namespace Go.Proofs.YtpoibdhhcbelnaaGreatDoor
namespace Brm
def GrpP (k:Nat)(r:Res Pat)(s:List Int):Prop:=match r with | .ok p s'=>p.groups+3*s'.length<=k+3*s.length | .bad _=>True
theorem GrpP.weak {k k':Nat}{r:Res Pat}{s s':List Int}(h:GrpP k r s)(hk:k+3*s.length<=k'+3*s'.length):GrpP k' r s':=by
  cases r with
  | bad s=>trivial
  | ok p t=>have h':p.groups+3*t.length<=k+3*s.length:=h;show p.groups+3*t.length<=_;omega
theorem manyLoop_grp:∀ (n:Nat) (x:Pat) (s:List Int),GrpP x.groups (manyLoop n x s) s
  | 0,_,_=>trivial
  | n+1,x,s=>by
    unfold manyLoop
    split
    · have h2:=timesP_takes s
      cases hr:timesP s with
      | bad s'=>trivial
      | ok mn s' =>
        rw [hr] at h2
        have:=h2.1
        refine (manyLoop_grp n (.many x mn.1 mn.2) s').weak ?_
        simp only [Pat.groups];omega
    · exact Nat.le_refl _
theorem set_grp {l:List (Int×Int)}{s s':List Int}(h:s'.length<=s.length):GrpP 0 (.ok (.set l) s') s:=by
  show (Pat.set l).groups+3*s'.length<=0+3*s.length
  simp [Pat.groups];omega
theorem atomP_grp {rec:List Int->Res Pat}(hr:∀ s,GrpP 1 (rec s) s)(s:List Int):GrpP 0 (atomP rec s) s:=by
  cases s with
  | nil=>trivial
  | cons c s =>
    simp only [atomP]
    split
    · have h1:=hr s
      cases h:rec s with
      | bad s'=>trivial
      | ok p s' =>
        rw [h] at h1
        simp only [Res.bind,closeP]
        split
        · rename_i hh
          have:=(head_less hh).1
          have h1':p.groups+3*s'.length<=1+3*s.length:=h1
          show (Pat.group p).groups+_<=_
          simp [Pat.groups] at *;omega
        · trivial
    split
    · have h3:=bracketP_takes s
      cases h:bracketP s with
      | bad s'=>trivial
      | ok l s' =>
        rw [h] at h3
        have h4:=h3.1
        exact set_grp (by simp;omega)
    split
    · exact set_grp (by simp)
    split
    · cases s with
      | nil=>trivial
      | cons d s =>
        simp only [escP]
        split
        · exact set_grp (by simp;omega)
        · split
          · exact set_grp (by simp;omega)
          · trivial
    split
    · trivial
    · exact set_grp (by simp)
theorem manyP_grp {rec:List Int->Res Pat}(hr:∀ s,GrpP 1 (rec s) s)(s:List Int):GrpP 0 (manyP rec s) s:=by
  unfold manyP
  have h1:=atomP_grp hr s
  cases h:atomP rec s with
  | bad s'=>trivial
  | ok p s' =>
    rw [h] at h1
    have h1':p.groups+3*s'.length<=0+3*s.length:=h1
    exact (manyLoop_grp _ p s').weak (by omega)
theorem notP_grp {rec:List Int->Res Pat}(hr:∀ s,GrpP 1 (rec s) s):∀ (s:List Int),GrpP 0 (notP rec s) s
  | []=>manyP_grp hr _
  | c::s=>by
    simp only [notP]
    split
    · have h1:=notP_grp hr s
      cases h:notP rec s with
      | bad s'=>trivial
      | ok p s' =>
        rw [h] at h1
        have h1':p.groups+3*s'.length<=0+3*s.length:=h1
        show (Pat.not p).groups+_<=_
        simp [Pat.groups];omega
    · exact manyP_grp hr _
theorem rowLoop_grp {lax:Bool}{rec:List Int->Res Pat}(hr:∀ s,GrpP 1 (rec s) s):∀ (n:Nat) (l:List Pat) (s:List Int),GrpP (groupsL l+1) (rowLoop lax rec n l s) s
  | 0,_,_=>trivial
  | n+1,l,s=>by
    unfold rowLoop
    split
    · show (Pat.row l).groups+_<=_
      simp [Pat.groups];try omega
    · have h1:=notP_grp hr s
      cases h:notP rec s with
      | bad s'=>trivial
      | ok p s' =>
        rw [h] at h1
        have h1':p.groups+3*s'.length<=0+3*s.length:=h1
        refine (rowLoop_grp hr n (l++[p]) s').weak ?_
        rw [groupsL_snoc];omega
theorem joinLoop_grp {part:List Int->Res Pat}{sign:Int}{mk:List Pat->Pat}(hw:∀ l,(mk l).groups<=groupsL l+1)(hr:∀ s,GrpP 1 (part s) s):∀ (n:Nat) (l:List Pat) (s:List Int),GrpP (groupsL l+2) (joinLoop part sign mk n l s) s
  | 0,_,_=>trivial
  | n+1,l,s=>by
    unfold joinLoop
    have h1:=hr s
    cases h:part s with
    | bad s'=>trivial
    | ok p s' =>
      rw [h] at h1
      have h1':p.groups+3*s'.length<=1+3*s.length:=h1
      have e:groupsL (l++[p])=groupsL l+p.groups:=by rw [groupsL_snoc]
      simp only [Res.bind]
      split
      · rename_i hh
        have:=(head_less hh).1
        refine (joinLoop_grp hw hr n (l++[p]) s'.tail).weak ?_
        omega
      · have:=hw (l++[p])
        show (mk (l++[p])).groups+_<=_
        omega
theorem joinLoop_grp0 {part:List Int->Res Pat}{sign:Int}{mk:List Pat->Pat}(hw:∀ l,(mk l).groups<=groupsL l+1)(hw1:∀ p,(mk [p]).groups=p.groups)(hr:∀ s,GrpP 1 (part s) s)(n:Nat)(s:List Int):GrpP 1 (joinLoop part sign mk n [] s) s:=by
  cases n with
  | zero=>trivial
  | succ n =>
    unfold joinLoop
    have h1:=hr s
    cases h:part s with
    | bad s'=>trivial
    | ok p s' =>
      rw [h] at h1
      have h1':p.groups+3*s'.length<=1+3*s.length:=h1
      simp only [Res.bind,List.nil_append]
      split
      · rename_i hh
        have:=(head_less hh).1
        refine (joinLoop_grp hw hr n [p] s'.tail).weak ?_
        simp only [groupsL];omega
      · show (mk [p]).groups+_<=_
        rw [hw1];exact h1'
theorem or_grps_le (l:List Pat):(Pat.or l).groups<=groupsL l+1:=by simp only [Pat.groups];omega
theorem and_grps_le (l:List Pat):(Pat.and l).groups<=groupsL l+1:=by simp only [Pat.groups];omega
theorem orN_grp (lax:Bool):∀ (n:Nat) (s:List Int),GrpP 1 (orN lax n s) s
  | 0,_=>trivial
  | n+1,s=>by
    have hrow:∀ s,GrpP 1 (rowP lax (orN lax n) s) s:=fun s=>(rowLoop_grp (lax:=lax) (orN_grp lax n) (s.length+1) [] s).weak (by simp [groupsL])
    have hand:∀ s,GrpP 1 (andP lax (orN lax n) s) s:=fun s=>joinLoop_grp0 (mk:=.and) and_grps_le (fun p=>by simp [Pat.groups,groupsL]) hrow _ s
    exact joinLoop_grp0 (mk:=.or) or_grps_le (fun p=>by simp [Pat.groups,groupsL]) hand _ s
end Brm
end Go.Proofs.YtpoibdhhcbelnaaGreatDoor
