/- Walks and plain laws, some texts in one. -/
import Derived.BigRegion
import Derived.Test.YtpoibdhhcbelnaaGreatDoorM24
import Derived.Test.YtpoibdhhcbelnaaGreatDoorM25
import Derived.Test.YtpoibdhhcbelnaaGreatDoorM23
namespace Go.Proofs.YtpoibdhhcbelnaaGreatDoor
open Go.Shelf Go.RowKit Go.Lib Brm
def MTab (w:World):Prop:=Tabs w/\TabAt 2 Lib.deBruijn64tab w
theorem MTab.below {w w':World}(h:MTab w)(k:Below w.heap.size w w'):MTab w':=⟨h.1.below k,fun j hj=>(k.cell (cell_lt (h.2 j hj))).trans (h.2 j hj)⟩
theorem PT.below {w w':World}{A:Nat->Prop}{p:Pat}{bp:Nat}(h:PT w A p bp)(k:Below w.heap.size w w'):PT w' A p bp:=by
  obtain ⟨ha,f,t,g,hb,hE,hl⟩:=h
  exact ⟨ha,f,t,g,hb.below k,EV.keep (Keeps.below k) p f hE,hl⟩
def RX (w:World)(A:Nat->Prop)(p:Pat)(bx:Nat):Prop:=A bx/\∃ v0 v1 v2 v3 v4 bp x,Blk w bx [v0,v1,v2,v3,v4,Ptr bp] 79/\(A x/\Blk w x [v0,v1,v2,v3,v4] 76)/\PN w A p x/\PT w A p bp/\PK w A p bp
theorem RX.keep {w w':World}{A:Nat->Prop}{p:Pat}{bx:Nat}(h:RX w A p bx)(k:Keeps A w w'):RX w' A p bx:=by
  obtain ⟨h0,v0,v1,v2,v3,v4,bp,x,h1,h2,h3,h4,h5⟩:=h
  obtain ⟨ha,f,t,g,hb,hE,hl⟩:=h4
  exact ⟨h0,v0,v1,v2,v3,v4,bp,x,h1.keep k h0,⟨h2.1,h2.2.keep k h2.1⟩,PN.keep k p x h3,⟨ha,f,t,g,hb.keep k ha,EV.keep k p f hE,hl⟩,h5.keep k⟩
theorem RX.below {w w':World}{A:Nat->Prop}{p:Pat}{bx:Nat}(h:RX w A p bx)(k:Below w.heap.size w w'):RX w' A p bx:=h.keep (Keeps.below k)
theorem PN.five {w:World}{A:Nat->Prop}:∀ (p:Pat) (b:Nat),PN w A p b->p.Ok->∃ v0 v1 v2 v3 v4,Blk w b [v0,v1,v2,v3,v4] 76
  | .set s,b,h,_=>by obtain ⟨ha,sv,hb,hs⟩:=h;exact ⟨_,_,_,_,_,hb⟩
  | .row l,b,h,_=>by obtain ⟨ha,_,lv,xs,hb,ho,hl⟩:=h;exact ⟨_,_,_,_,_,hb⟩
  | .or [],b,h,hk=>absurd rfl hk.2
  | .or [p],b,h,hk=>by
    obtain ⟨_,xs,hl,hh⟩:=h
    rcases hh with ⟨_,rfl⟩ | ⟨hn,_⟩
    · obtain ⟨x,r,e,hp,_⟩:=hl
      cases e
      exact PN.five p b hp hk.1.1
    · exact absurd rfl hn
  | .or (p::q::l),b,h,hk=>by
    obtain ⟨_,xs,hl,hh⟩:=h
    rcases hh with ⟨hn,_⟩ | ⟨hn,ha,lv,hb,ho⟩
    · simp at hn
    · exact ⟨_,_,_,_,_,hb⟩
  | .and [],b,h,hk=>absurd rfl hk.2
  | .and [p],b,h,hk=>by
    obtain ⟨_,xs,hl,hh⟩:=h
    rcases hh with ⟨_,rfl⟩ | ⟨hn,_⟩
    · obtain ⟨x,r,e,hp,_⟩:=hl
      cases e
      exact PN.five p b hp hk.1.1
    · exact absurd rfl hn
  | .and (p::q::l),b,h,hk=>by
    obtain ⟨_,xs,hl,hh⟩:=h
    rcases hh with ⟨hn,_⟩ | ⟨hn,ha,lv,hb,ho⟩
    · simp at hn
    · exact ⟨_,_,_,_,_,hb⟩
  | .not p,b,h,_=>by obtain ⟨ha,lv,x,hb,ho,hl⟩:=h;exact ⟨_,_,_,_,_,hb⟩
  | .many p m n,b,h,_=>by obtain ⟨ha,lv,x,hb,ho,hl⟩:=h;exact ⟨_,_,_,_,_,hb⟩
  | .group p,b,h,_=>by obtain ⟨ha,lv,x,hb,ho,hl⟩:=h;exact ⟨_,_,_,_,_,hb⟩
set_option maxRecDepth 100000 in
set_option maxHeartbeats 4000000 in
theorem textErr_any (s:ByteArray)(w:World)(hT:MTab w)(hm:s.size<=9223372036854775807):Calls Tryz.prog 38 #[.string s] w fun e w'=>Below w.heap.size w w'/\∃ er ol,e=.returned (.int .i64 er)/\TextR (bytesOf s) er ol:=by
  have HL:=hide (bytes_len s)
  by_cases h:s.size<=40
  · have hd:decide ((40:Int)<(s.size:Int))=false:=decide_eq_false (by omega)
    have HLE:Hid ((bytesOf s).length<=40):=by show _<=_;rw [HL.out];exact h
    have HC:=hide (valid_any s w hm (hT.1.2 w (fun _ _=>rfl)))
    have HV:Hid ((Lib.validD s.data.toList=true/\∃ l,Runes (bytesOf s) l)\/(Lib.validD s.data.toList=false/\∃ k,Broken (bytesOf s) k)):=by
      rcases runes_or (bytesOf s).length (bytesOf s) (Nat.le_refl _) with ⟨l,hl⟩ | ⟨k,hk⟩
      · exact .inl ⟨valid_runes hl _ (Nat.le_refl _),l,hl⟩
      · exact .inr ⟨valid_broken hk _ (Nat.le_refl _),k,hk⟩
    generalize Lib.validD s.data.toList=b at HC HV
    clear hm hT
    rcases HV.out with ⟨rfl,l,hl⟩ | ⟨rfl,k,hk⟩
    · have HR:=hide hl
      clear hl HV
      go_enter Tryz.func38,Tryz.ntmps38
      go_wp2_with (go_at_call 68;refine HC.out.mono ?_;rintro e w1 ⟨rfl,hb1⟩;have HB1:=hide hb1;clear hb1)
      go_ret
      exact ⟨HB1.out,0,some l,rfl,.inr (.inr ⟨HLE.out,l,HR.out,rfl,rfl⟩)⟩
    · have HR:=hide hk
      clear hk HV
      go_enter Tryz.func38,Tryz.ntmps38
      go_wp2_with (go_at_call 68;refine HC.out.mono ?_;rintro e w1 ⟨rfl,hb1⟩;have HB1:=hide hb1;clear hb1)
      go_ret
      exact ⟨HB1.out,3,none,rfl,.inr (.inl ⟨HLE.out,⟨k,HR.out⟩,rfl,rfl⟩)⟩
  · have hd:decide ((40:Int)<(s.size:Int))=true:=decide_eq_true (by omega)
    have HLE:Hid (40<(bytesOf s).length):=by show _<_;rw [HL.out];omega
    clear hT
    go_enter Tryz.func38,Tryz.ntmps38
    go_wp2
    go_ret
    exact ⟨Below.refl _ _,2,none,rfl,.inl ⟨HLE.out,rfl,rfl⟩⟩
theorem conv_any (s:ByteArray)(w:World){l:List Int}(h:Runes (bytesOf s) l)(hl:l.length<=40):∃ rc W2,(convert 9 81 (.string s)).run Tryz.prog w=.ok (.slice (some ⟨w.heap.size,0,none⟩) l.length rc) W2/\RunesA W2 (fun _=>False) (some ⟨w.heap.size,0,none⟩) l/\Below w.heap.size w W2:=by
  have e:=runes_conv s h
  have hr:=run_runes_of_string (P:=Tryz.prog) w 9 81 21 s Tryz.underlying9 Tryz.underlying81 Tryz.underlying21 (by rw [e];simp;omega)
  rw [e] at hr
  have hsz:((l.map (Value.int .i32)).toArray).size=l.length:=by simp
  rw [hsz] at hr
  refine ⟨_,_,hr,fun i x hx=>⟨w.heap.size,0,rfl,fun h=>h,by simp,?_⟩,(Below.refl _ w).drew.alloc (Nat.le_refl _) _⟩
  have hi:i<l.length:=(List.getElem?_eq_some_iff.1 hx).1
  have hb:Blk (w.drew.alloc (.cells ((l.map (Value.int .i32)).toArray++Array.replicate (grownCap w l.length 0 21-l.length) (.int .i32 0)) 21)) w.heap.size (l.map (Value.int .i32)++List.replicate (grownCap w l.length 0 21-l.length) (.int .i32 0)) 21:=by
    have:=Blk.new w.drew (l.map (Value.int .i32)++List.replicate (grownCap w l.length 0 21-l.length) (.int .i32 0)) 21
    rw [<- List.append_toArray,List.toArray_replicate] at this
    exact this
  rw [hb.cell,Nat.zero_add,List.getElem?_append_left (by simpa using hi),List.getElem?_map,hx]
  rfl
set_option maxRecDepth 100000 in
set_option maxHeartbeats 4000000 in
theorem rxnew_any (s:ByteArray)(w:World)(hT:MTab w)(hm:s.size<=9223372036854775807):Calls Tryz.prog 23 #[.string s] w fun e w'=>Below w.heap.size w w'/\∃ nv er place op,ReadR (bytesOf s) (er,place,op)/\e=.returned (.tuple #[nv,.int .i64 er,.int .i64 place])/\match op with | some p=>∃ bx,nv=Ptr bx/\RX w' (New w) p bx | none=>nv=.pointer none:=by
  have HR:=hide (pread_any s w hT.1 hm)
  clear hT hm
  go_enter Tryz.func23,Tryz.ntmps23
  go_wp2_with fail
  refine HR.out.mono ?_
  rintro e w1 ⟨hb1,nv,er,place,op,hr,rfl,hop⟩
  have HB1:=hide hb1
  have HRR:=hide hr
  clear hb1
  cases op with
  | none =>
    have hne:(er == 0)=false:=beq_eq_false_iff_ne.2 (readR_none hr)
    have hop2:nv=.pointer none:=hop
    subst hop2
    clear hr hop
    go_wp2
    refine bodyPost_ret (v:=.tuple #[.pointer none,.int .i64 er,.int .i64 place]) (by simp [results,Tryz.results23,go_sem]) rfl ?_
    exact ⟨HB1.out,_,_,_,none,HRR.out,rfl,rfl⟩
  | some p =>
    obtain ⟨rfl,rfl,hok,hlen⟩:=readR_some hr
    obtain ⟨hc,hg⟩:=readR_few hr
    obtain ⟨x,rfl,hp⟩:=hop
    obtain ⟨v0,v1,v2,v3,v4,hx⟩:∃ v0 v1 v2 v3 v4,Blk w1 x [v0,v1,v2,v3,v4] 76:=PN.five p x hp hok
    obtain ⟨c0,c1,c2,c3,c4,hxl⟩:=hx.five
    have HX:=hide hx
    have HAX:=hide (PN.lt p x hp hok).1
    have HC:=hide (fun (w':World) (hb:Below w1.heap.size w1 w')=>mnew_any p hok w.heap.size x w' (Nat.le_trans HB1.out.size hb.size) (PN.keep (Keeps.below hb) p x hp) hc hg)
    have HP:=hide hp
    clear hr hp hok hlen hc hg hx
    go_wp2_with fail
    go_region_held3 (fun w'=>Below w1.heap.size w1 w'/\w'.cell? ⟨x,0,none⟩=some v0/\w'.cell? ⟨x,1,none⟩=some v1/\w'.cell? ⟨x,2,none⟩=some v2/\w'.cell? ⟨x,3,none⟩=some v3/\w'.cell? ⟨x,4,none⟩=some v4)
      (first | exact ⟨(Below.refl _ _).drew,c0,c1,c2,c3,c4⟩ | exact HS5.out | exact HS6.out _)
      ((go_at_call 50;refine (HC.out _ (‹Below w1.heap.size w1 _/\_›.1)).mono ?_;rintro e w5 ⟨bp,rfl,hP5,hb5,hge5,hK5⟩;have HK5:=hide hK5;have hb6:Below w1.heap.size w1 w5:=(‹Below w1.heap.size w1 _/\_›.1).trans (hb5.mono (‹Below w1.heap.size w1 _/\_›.1).size);have HS6:Hid (∀ o,Below w1.heap.size w1 (w5.alloc o)/\(w5.alloc o).cell? ⟨x,0,none⟩=some v0/\(w5.alloc o).cell? ⟨x,1,none⟩=some v1/\(w5.alloc o).cell? ⟨x,2,none⟩=some v2/\(w5.alloc o).cell? ⟨x,3,none⟩=some v3/\(w5.alloc o).cell? ⟨x,4,none⟩=some v4):=(fun o=>by have h7:=hb6.alloc hb6.size o;obtain ⟨a0,a1,a2,a3,a4,_⟩:=(HX.out.below h7).five;exact ⟨h7,a0,a1,a2,a3,a4⟩);have HS5:Hid (Below w1.heap.size w1 w5/\w5.cell? ⟨x,0,none⟩=some v0/\w5.cell? ⟨x,1,none⟩=some v1/\w5.cell? ⟨x,2,none⟩=some v2/\w5.cell? ⟨x,3,none⟩=some v3/\w5.cell? ⟨x,4,none⟩=some v4):=(by obtain ⟨a0,a1,a2,a3,a4,_⟩:=(HX.out.below hb6).five;exact ⟨hb6,a0,a1,a2,a3,a4⟩);have HP5:=hide hP5;have HB6:=hide hb6;clear hP5 hb5 hb6 hK5))
    all_goals go_wp2_with fail
    have h7:=HB6.out.alloc HB6.out.size (.cells #[v0,v1,v2,v3,v4,Ptr bp] 79)
    refine bodyPost_ret (v:=.tuple #[Ptr w5.heap.size,.int .i64 0,.int .i64 0]) (by simp [results,Tryz.results23,go_sem]) rfl ?_
    exact ⟨HB1.out.trans (h7.mono HB1.out.size),_,0,0,some p,HRR.out,rfl,w5.heap.size,rfl,Nat.le_trans HB1.out.size HB6.out.size,v0,v1,v2,v3,v4,bp,x,Blk.new w5 [v0,v1,v2,v3,v4,Ptr bp] 79,⟨HAX.out,HX.out.below h7⟩,PN.keep (Keeps.below h7) p x HP.out,HP5.out.below ((Below.refl _ w5).alloc (Nat.le_refl _) _),HK5.out.keep (Keeps.below ((Below.refl _ w5).alloc (Nat.le_refl _) _))⟩
set_option maxRecDepth 100000 in
set_option maxHeartbeats 4000000 in
theorem rxmatch_any (p:Pat)(hok:p.Ok)(bx:Nat)(s:ByteArray)(w:World)(A:Nat->Prop)(hX:RX w A p bx)(hT:MTab w)(hm:s.size<=9223372036854775807):Calls Tryz.prog 17 #[.pointer (some ⟨bx,0,none⟩),.string s] w fun e w'=>Below w.heap.size w w'/\∃ er ol,e=.returned (.tuple #[.bool (matchB p ol),.int .i64 er])/\TextR (bytesOf s) er ol:=by
  have HC:=hide (textErr_any s w hT hm)
  have HX:=hide hX
  have HT:=hide hT
  clear hX hT hm
  go_enter Tryz.func17,Tryz.ntmps17
  go_wp2_with fail
  refine HC.out.mono ?_
  rintro e w1 ⟨hb1,er,ol,rfl,htr⟩
  have HB1:=hide hb1
  have HTR:=hide htr
  cases ol with
  | none =>
    have hne:(er == 0)=false:=beq_eq_false_iff_ne.2 (textR_none htr)
    clear htr hb1
    go_wp2
    refine bodyPost_ret (v:=.tuple #[.bool false,.int .i64 er]) (by simp [results,Tryz.results17,go_sem]) rfl ?_
    exact ⟨HB1.out,er,none,rfl,HTR.out⟩
  | some l =>
    have e0:=textR_some htr
    subst e0
    obtain ⟨h40,hru⟩:l.length<=40/\Runes (bytesOf s) l:=by
      rcases htr with ⟨_,_,h⟩ | ⟨_,_,_,h⟩ | ⟨h1,l',h2,_,h⟩
      · cases h
      · cases h
      · cases h;exact ⟨Nat.le_trans (runes_len h2) h1,h2⟩
    obtain ⟨rc,W2,hconv,hra,hb2⟩:=conv_any s w1 hru h40
    obtain ⟨_,v0,v1,v2,v3,v4,bp,x,hx,_,_,hpt,_⟩:=HX.out.below hb1
    have c5:w1.cell? ⟨bx,5,none⟩=some (.pointer (some ⟨bp,0,none⟩)):=by rw [hx.cell];rfl
    have HM:=hide (match_any p hok W2 _ bp l (some ⟨w1.heap.size,0,none⟩) rc (hpt.below hb2) h40 (runes_all hru) ((HT.out.below hb1).below hb2).2 hra)
    have HB2:=hide hb2
    have HMB:Hid (mT p l 0 l.length=matchB p (some l)):=rfl
    generalize mT p l 0 l.length=MB at HM HMB
    clear htr hb1 hru hra hb2 hx hpt
    go_wp2_with (go_at_call 39;refine HM.out.mono ?_;rintro e w3 ⟨rfl,hb3⟩;have HB3:=hide hb3;clear hb3)
    refine bodyPost_ret (v:=.tuple #[.bool MB,.int .i64 0]) (by simp [results,Tryz.results17,go_sem]) rfl ?_
    exact ⟨HB1.out.trans ((HB2.out.trans (HB3.out.mono HB2.out.size)).mono HB1.out.size),0,some l,by rw [HMB.out],HTR.out⟩
end Go.Proofs.YtpoibdhhcbelnaaGreatDoor
namespace Go.Proofs.YtpoibdhhcbelnaaGreatDoor
open Go.Shelf Go.RowKit Go.Lib Brm
def livesIn:List UInt8:=[126,40,46,42,97,97,46,42,41,38,97,46,42,98]
def livesPat:Pat:=match orN false 15 (livesIn.map fun x=>(x.toNat:Int)) with | .ok p _=>p | .bad _=>.row []
def dotS:Pat:=.many (.set dot) 0 (-1)
def chr (c:Int):Pat:=.set [(c,c)]
theorem chr_one (c:Int):(chr c).Mt [c]:=⟨c,rfl,by simp [memB,inB]⟩
theorem chr_is {c:Int}{t:List Int}(h:(chr c).Mt t):t=[c]:=by
  obtain ⟨d,rfl,hd⟩:=h
  simp [memB,inB] at hd
  rw [show d=c by omega]
end Go.Proofs.YtpoibdhhcbelnaaGreatDoor
namespace Go.Proofs.YtpoibdhhcbelnaaGreatDoor
open Go.Shelf Go.RowKit Go.Lib Brm
abbrev Z6:List Value:=[.int .i64 0,.slice none 0 0,.slice none 0 0,.int .i64 0,.int .i64 0,.int .i64 0]
def MadeQ (w:World)(e:Ending)(w':World):Prop:=Below w.heap.size w w'/\∃ (nv:Value) (k:Int) (so:Option Addr) (sn sc:Nat) (lo:Option Addr) (ln lc:Nat) (mm nn rr gr:Int) (op:Option Pat),e=.returned (.tuple #[nv,.agg #[.int .i64 k,.slice so sn sc,.slice lo ln lc,.int .i64 mm,.int .i64 nn,.int .i64 rr],.int .i64 gr,.bool true]) /\
  match op with | some p=>p.Ok/\p.wr.length<=4000/\(∃ bx A,nv=Ptr bx/\RX w' A p bx)/\NV w' (fun _=>True) p (Six k so sn sc lo ln lc mm nn rr) 0/\gr=(p.groups:Int) | none=>nv=.pointer none
end Go.Proofs.YtpoibdhhcbelnaaGreatDoor
