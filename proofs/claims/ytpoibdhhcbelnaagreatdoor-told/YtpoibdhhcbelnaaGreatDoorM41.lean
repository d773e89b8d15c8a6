/- Walks and plain laws, some texts in one. -/
import Derived.Laws.Cover3
import Derived.Deep.RegionHeld3
import Derived.Test.YtpoibdhhcbelnaaGreatDoorM40
import Derived.Test.YtpoibdhhcbelnaaGreatDoorM31
import Derived.Test.YtpoibdhhcbelnaaGreatDoorM29
import Derived.Test.YtpoibdhhcbelnaaGreatDoorM03
namespace Go.Proofs.YtpoibdhhcbelnaaGreatDoor
open Go.Shelf Go.RowKit Go.Lib Brm
attribute [local go_sem] Oper.semAt_some
theorem range_plain {P:Program}{F:Fence}{n:Nat}{g:Operand}{ps:Array Tmp}{assign body:Code}{Q:Exit->Act->World->Prop}{a:Act}{w:World}
    (hro:F.round=none) (h1:1<=n) {gf:Nat} {lb:Array Value} (hg:a.eval g=.func (.func gf) #[] lb) (hFg:F.fn gf) (eg:∀ args w,(callFunc gf args).run P w=.ok (.enter gf args) w)
    (I:Nat->World->Prop) (len:Nat) (encs:Nat->Array Value) (hps:∀ k,(encs k).size=ps.size)
    (hseq:∀ (l:Nat) (J:Nat->World->Prop) (W:World),(∀ k W,J k W->I k W)->(∀ k W1,J k W1->k<len->YieldAt F (n-1-1) P l (encs k) W1 fun e W'=>e=.returned (.bool true)/\J (k+1) W')->J 0 W->CallsIn F (n-1) P gf (#[.func (.yield l) #[] #[]]++lb) W fun e W'=>(∃ v,e=.returned v)/\J len W')
    (h0:∀ o1 o2,I 0 ((w.alloc o1).alloc o2)) (hI:∀ k W o',I k W->w.heap.size+1<W.heap.size->I k (W.putObj (w.heap.size+1) o')) (a₁:Nat->Act)
    (hassign:∀ (l k:Nat) (W:World) (K:Act->World->Prop),K (a₁ k) W ->
      assign.wpIn (F.inRound l) (n-1-1) P (Exit.then K (fun _ _ _=>False)) { tmps:=(ps.zip (encs k)).foldl (fun t (p,v)=>t.setIfInBounds p v) a.tmps,defers:=[] } W)
    (hbody:∀ (l k:Nat) (W:World),I k W->k<len->body.wpIn (F.inRound l) (n-1-1) P (fun e _ W'=>e=.normal/\I (k+1) W'/\W'.heap[w.heap.size+1]?=W.heap[w.heap.size+1]?/\W'.heap[w.heap.size]?=W.heap[w.heap.size]?) (a₁ k) W)
    (hdone:∀ (W:World),I len W->W.heap[w.heap.size]?=some (.deferred (some []))->Q .normal { a with defers:={ target:=.collected w.heap.size,args:=#[] }::a.defers } W) :
    (Code.rangeFunc g ps assign body).wpIn F n P Q a w:=by
  refine wpIn_rangeFunc ?_
  intro fn hfn
  rw [hro]
  obtain ⟨lp,hlp⟩:∃ lp:LoopState->Option Code->Loop,lp=fun st pe=>{ state:=st,pending:=pe,fn,tmps:=a.tmps,params:=ps,assign,body,defers:=w.heap.size }:=⟨_,rfl⟩
  obtain ⟨W1,hW1⟩:∃ W1,(w.alloc (.deferred (some []))).alloc (.loop (lp .ready none))=W1:=⟨_,rfl⟩
  have hL:W1.heap[w.heap.size+1]?=some (.loop (lp .ready none)):=by
    rw [<- hW1]
    have:=World.alloc_heap_new (w.alloc (.deferred (some []))) (.loop (lp .ready none));rwa [World.size_alloc] at this
  have hD:W1.heap[w.heap.size]?=some (.deferred (some [])):=by
    rw [<- hW1]
    exact (Below.heap_alloc _ _ _ (by simp)).trans (World.alloc_heap_new w _)
  refine ⟨w.heap.size+1,[{ target:=.collected w.heap.size,args:=#[] }],W1,{ target:=.fn (.func gf) lb,args:=#[.func (.yield (w.heap.size+1)) #[] #[]] },W1,gf,
    #[.func (.yield (w.heap.size+1)) #[] #[]]++lb,W1,?_,?_,?_,?_,fun _=>h1,?_⟩
  · rw [<- hW1,hlp];exact run_enterLoop_outer _ _ _ _ _
  · simp only [resolve,hg]
    simp [go_sem]
  · intro f' hf';simp [Target.leads] at hf';subst hf';exact hFg
  · simp [invoke,go_sem,eg]
  · refine (hseq (w.heap.size+1) (fun k W=>I k W/\W.heap[w.heap.size+1]?=some (.loop (lp .ready none))/\W.heap[w.heap.size]?=some (.deferred (some []))) W1 (fun k W h=>h.1) ?_ ⟨by rw [<- hW1];exact h0 _ _,hL,hD⟩).mono ?_
    · rintro k W ⟨hi,hl,hd⟩ hk
      have hlt:w.heap.size+1<W.heap.size:=(Array.getElem?_eq_some_iff.1 hl).1
      have hy:=run_yield (P:=P) (args:=encs k) hl (by rw [hlp];exact hps k)
      rw [hlp] at hy
      refine ⟨fn,_,assign,body,hy,roundIn_of_wpIn hfn (hassign _ k W _ ⟨_,run_beginRound hl (by rw [hlp]),?_⟩)⟩
      refine wpIn_mono (hbody _ k _ (hI k _ _ hi hlt) hk) ?_
      rintro e a3 W3 ⟨rfl,hi3,hl3,hd3⟩
      rw [World.putObj_heap_same hlt] at hl3
      rw [World.putObj_heap_other (by omega),hd] at hd3
      have hlt3:w.heap.size+1<W3.heap.size:=(Array.getElem?_eq_some_iff.1 hl3).1
      have hr:=run_endRound (P:=P) none hl3
      refine ⟨_,_,hr,rfl,hI _ _ _ hi3 hlt3,?_,(World.putObj_heap_other (by omega)).trans hd3⟩
      rw [World.putObj_heap_same hlt3,hlp]
      rfl
    · rintro e W2 ⟨⟨v,rfl⟩,hi,hl,hd⟩
      have hlt2:w.heap.size+1<W2.heap.size:=(Array.getElem?_eq_some_iff.1 hl).1
      exact ⟨none,_,by have:=run_endLoop (P:=P) hl (by rw [hlp];simp);rw [hlp] at this;exact this,hdone _ (hI _ _ _ hi hlt2) ((World.putObj_heap_other (by omega)).trans hd)⟩
set_option maxRecDepth 100000 in
set_option maxHeartbeats 2000000 in
theorem backs_in (F:Fence)(n:Nat)(h7:F.fn 235)(hro:F.round=none)(hn:1<=n)(l Bs len cap:Nat)(ao:Option Addr)(pv:Nat->Value)(J:Nat->World->Prop)(hlen:len<=9000000000000)
    (hJ:∀ k W,J k W->W.cell? ⟨Bs,0,none⟩=some (.slice ao len cap)/\∀ i,i<len->∃ b off,ao=some ⟨b,off,none⟩/\W.cell? ⟨b,off+i,none⟩=some (pv i))
    (hY:∀ k W,J k W->k<len->YieldAt F (n-1) Tryz.prog l #[.int .i64 ((len-1-k:Nat):Int),pv (len-1-k)] W fun e W'=>e=.returned (.bool true)/\J (k+1) W')
    (W:World) (h0:J 0 W) :
    CallsIn F n Tryz.prog 235 #[.func (.yield l) #[] #[],.pointer (some ⟨Bs,0,none⟩)] W fun e W'=>(∃ v,e=.returned v)/\J len W':=by
  refine callsIn_of_wp Tryz.func235 rfl h7 ?_ hro
  simp only [Tryz.ntmps235,List.size_toArray,List.length_cons,List.length_nil,Nat.reduceAdd,Nat.reduceSub,Array.replicate_succ,Array.replicate_zero,List.push_toArray,List.append_toArray,List.nil_append,List.cons_append]
  obtain ⟨hBs,_⟩:=hJ 0 W h0
  have HJ:=hide hJ
  have HY:=hide hY
  clear hJ hY
  gi_wp2
  gi_loopw [3] (fun iv wr=>(∃ i:Nat,iv=.int .i64 (i:Int)/\i<len/\J (len-1-i) wr)\/(iv=.int .i64 (-1)/\J len wr)) (fun iv _=>(intOf iv+1).toNat)
  case atStart =>
    by_cases hl:len=0
    · subst hl
      exact .inr ⟨rfl,h0⟩
    · refine .inl ⟨len-1,?_,by omega,by rw [show len-1-(len-1)=0 by omega];exact h0⟩
      congr 1
      have:((len-1:Nat):Int)=(len:Int)-1:=by omega
      rw [this]
  case round =>
    rcases hrel with ⟨i,rfl,hi,hJi⟩ | ⟨rfl,hJ9⟩
    · obtain ⟨hBs',hcs⟩:=HJ.out _ _ hJi
      obtain ⟨b,off,rfl,hc⟩:=hcs i hi
      obtain ⟨fn,tmps,assign,body,hy,hR⟩:=HY.out _ _ hJi (by omega)
      rw [show len-1-(len-1-i)=i by omega] at hy
      have k0:(0:Int)<=(i:Int):=Int.natCast_nonneg _
      have k1:(i:Int)<(len:Int):=by omega
      have HR:=hide hR
      clear hR hJi hcs
      gi_wp2
      refine HR.out.mono ?_
      rintro e W3 ⟨rfl,hJ3⟩
      have HJ3:=hide hJ3
      clear hJ3
      gi_wp2
      go_roundw
      case rel =>
        by_cases h9:i=0
        · subst h9
          refine .inr ⟨rfl,?_⟩
          have:=HJ3.out
          rw [show len-1-0+1=len by omega] at this
          exact this
        · refine .inl ⟨i-1,?_,by omega,?_⟩
          · congr 1
            have:((i-1:Nat):Int)=(i:Int)-1:=by omega
            rw [this]
          · have:=HJ3.out
            rw [show len-1-i+1=len-1-(i-1) by omega] at this
            exact this
      case measure =>
        simp only [intOf]
        first | omega | (unfold IntKind.wrap;simp [IntKind.bits,IntKind.signed];omega)
    · have HJ9:=hide hJ9
      obtain ⟨hBs',_⟩:=HJ.out _ _ hJ9
      clear hJ9
      gi_wp2
      go_end0
      exact ⟨⟨_,rfl⟩,HJ9.out⟩
end Go.Proofs.YtpoibdhhcbelnaaGreatDoor
namespace Go.Proofs.YtpoibdhhcbelnaaGreatDoor
open Go.Shelf Go.RowKit Go.Lib Brm
attribute [local go_sem] Oper.semAt_some
def rwsL:List Lg->Lg
  | []=>emptyL
  | a::l=>pairL a (rwsL l)
def rwsM:List Me->Me
  | []=>oneM
  | [a]=>a
  | a::l=>pairM a (rwsM l)
theorem rwsM_cons {a:Me}{l:List Me}(h:l≠[]):rwsM (a::l)=pairM a (rwsM l):=by
  cases l with
  | nil=>exact absurd rfl h
  | cons b l=>rfl
theorem MkI.notMp {w:World}{c:MC}{q:Nat}(h:MkI w c q){g:Nat}{cs:List Value}{T:TypeId}(hb:Blk w g cs T):¬ c.Mp g:=by
  rintro (rfl | ⟨i,hi,rfl⟩)
  · obtain ⟨f,⟨D,⟨es,clock,h1,h2⟩,h3⟩,_⟩:=h.map
    have:w.heap[c.bm]?=some (.cells cs.toArray T):=hb
    rw [h1] at this;cases this
  · obtain ⟨f,n,⟨D,⟨es,clock,h1,h2⟩,h3⟩,_⟩:=h.know i hi
    have:w.heap[c.KM i]?=some (.cells cs.toArray T):=hb
    rw [h1] at this;cases this
theorem HoldY.blk {w wr w5:World}{c ci c5:MC}{q q0:Nat}{Y:Nat->Prop}(hI:MkI w c q0)(h:HoldY w c wr ci q Y)(hg:Gone wr ci w5 c5){b:Nat}{cs:List Value}{T:TypeId}(hb:Blk wr b cs T)(hle:w.heap.size<=b):Blk w5 b cs T:=by
  refine (hg.but.block b hb.lt ?_).trans hb
  rintro (e | e)
  · exact h.mk.notMp hb e
  · rw [h.gone.X] at e
    have:=(hI.xs b e).1
    omega
def RYs (S:Nat)(g:Nat):Prop:=g=S+1\/g=S+3\/g=S+4
def RQ (c:MC)(q:Nat)(ps:List Nat)(k:Nat):Nat:=q+sumL (fun a=>(sz c.T a).n) (ps.drop (ps.length-k))
def RBk (w:World)(c:MC)(q S:Nat)(ps:List Nat)(pa:Option Addr)(pc k:Nat)(W:World):Prop:=∃ ck jk,HoldY w c W ck (RQ c q ps k) (RYs S)/\jk<ck.T.length/\lg ck.T jk=rwsL ((ps.drop (ps.length-k)).map (lg c.T))/\(k=0->jk=1)/\sz ck.T jk<=rwsM ((ps.drop (ps.length-k)).map (sz c.T))/\Blk W S [PtrB c.m] 151/\Blk W (S+1) [PtrB (ck.R jk)] 159/\Blk W (S+2) [.slice pa ps.length pc] 166
theorem drop_next {ps:List Nat}{k p:Nat}(hk:k<ps.length)(hp:ps[ps.length-1-k]?=some p):ps.drop (ps.length-(k+1))=p::ps.drop (ps.length-k):=by
  have hl:ps.length-(k+1)<ps.length:=by omega
  have h1:ps[ps.length-(k+1)]?=some p:=by rw [show ps.length-(k+1)=ps.length-1-k by omega];exact hp
  rw [List.drop_eq_getElem_cons hl,(List.getElem?_eq_some_iff.1 h1).2,show ps.length-(k+1)+1=ps.length-k by omega]
theorem rbk_call {w W:World}{c:MC}{q S pc k p:Nat}{ps:List Nat}{pa:Option Addr}(hI:MkI w c q)(hP:PowT w)(hS:w.heap.size=S)(hps:∀ a∈ps,a<c.T.length)(hq:q+sumL (fun a=>(sz c.T a).n) ps<=9000000000000000000)(hk:k<ps.length)(hp:ps[ps.length-1-k]?=some p){x:Nat}(hx:W.cell? ⟨S+1,0,none⟩=some (PtrB x))(h:RBk w c q S ps pa pc k W) :
    Calls Tryz.prog 187 #[PtrB c.m,PtrB (c.R p),PtrB x] W (fun r9 w5=>∃ y,r9=.returned (PtrB y)/\w5.cell? ⟨S+1,0,none⟩=some (PtrB x)/\w5.frozen? ⟨S+1,0,none⟩=false/\S+1<w5.heap.size/\Hid (RBk w c q S ps pa pc (k+1) (w5.setCell ⟨S+1,0,none⟩ (PtrB y))/\(w5.setCell ⟨S+1,0,none⟩ (PtrB y)).heap[S+4]?=W.heap[S+4]?/\(w5.setCell ⟨S+1,0,none⟩ (PtrB y)).heap[S+3]?=W.heap[S+3]?)):=by
  obtain ⟨ck,jk,hh,hj,hL,hj0,hZ,hb0,hb1,hb2⟩:=h
  have hxe:x=ck.R jk:=by
    have:=hb1.cell 0
    rw [hx] at this
    injection this with e;injection e with e;injection e with e;injection e
  subst hxe
  have hpl:=hps p (List.mem_of_getElem? hp)
  have hlen:=hh.gone.len
  have hR:(ck.wY (RYs S)).R p=c.R p:=hh.gone.R p hpl
  have hM:(ck.wY (RYs S)).m=c.m:=hh.gone.m
  have hSz:sz (ck.wY (RYs S)).T p=sz c.T p:=hh.gone.sz hpl
  have hLg:lg (ck.wY (RYs S)).T p=lg c.T p:=hh.gone.lang hpl
  have hPr:PowT W:=hh.gone.pow hI hP
  have hdn:=drop_next hk hp
  have hQ:RQ c q ps (k+1)=RQ c q ps k+(sz c.T p).n:=by
    unfold RQ
    rw [hdn]
    simp only [sumL]
    omega
  have hQ9:RQ c q ps (k+1)<=q+sumL (fun a=>(sz c.T a).n) ps:=by
    have h1:sumL (fun a=>(sz c.T a).n) ps=sumL (fun a=>(sz c.T a).n) (ps.take (ps.length-(k+1)))+sumL (fun a=>(sz c.T a).n) (ps.drop (ps.length-(k+1))):=by rw [<- sumL_append,List.take_append_drop]
    unfold RQ
    omega
  have hcall:Calls Tryz.prog 187 #[PtrB c.m,PtrB (c.R p),PtrB (ck.R jk)] W (GivesL W (ck.wY (RYs S)) (RQ c q ps (k+1)) (rwsL ((ps.drop (ps.length-(k+1))).map (lg c.T))) (rwsM ((ps.drop (ps.length-(k+1))).map (sz c.T)))):=by
    rw [hdn,List.map_cons,List.map_cons]
    by_cases hk0:k=0
    · have hj1:=hj0 hk0
      subst hj1
      have hc:=pair_e (a:=p) hh.mk (show p<ck.T.length by omega)
      rw [hR,hM,hSz,hLg] at hc
      refine hc.mono ?_
      intro r9 w9 h9
      have he:ps.drop (ps.length-k)=[]:=by rw [hk0];exact List.drop_of_length_le (by omega)
      rw [he]
      have e1:rwsL (lg c.T p::[].map (lg c.T))=lg c.T p:=by simp only [List.map_nil,rwsL,empty_pair]
      rw [e1]
      exact h9.more (by omega)
    · have hc:=pair_all p W (ck.wY (RYs S)) (RQ c q ps k) jk hh.mk (show p<ck.T.length by omega) hj hPr (by rw [hSz];omega)
      rw [hR,hM,hSz,hLg] at hc
      have hne:(ps.drop (ps.length-k)).map (sz c.T)≠[]:=by
        intro e
        have:=congrArg List.length e
        simp at this
        omega
      refine hc.mono ?_
      rintro r9 w9 ⟨c9,j9,e9,g1,g2,g3,g4,g5⟩
      refine ⟨c9,j9,e9,by rw [hQ];exact g1,g2,g3,?_,?_⟩
      · rw [g4]
        show pairL (lg c.T p) (lg ck.T jk)=_
        rw [hL]
        rfl
      · rw [rwsM_cons hne]
        exact Me.trans g5 (pairM_mono (Me.refl _) hZ)
  refine hcall.mono ?_
  intro r9 w5 hg
  obtain ⟨c5,j5,rfl,hh5,hg5,hj5,hL5,hZ5,hk5⟩:=HoldY.call hh hg
  have hs1:w.heap.size<=S:=by omega
  have b0:=HoldY.blk hI hh hg5 hb0 (by omega)
  have b2:=HoldY.blk hI hh hg5 hb2 (by omega)
  have b1:Blk w5 (S+1) [PtrB (ck.R jk)] 159:=(hk5 (S+1) (.inl rfl)).trans hb1
  have hsz5:(w5.setCell ⟨S+1,0,none⟩ (PtrB (c5.R j5))).heap.size=w5.heap.size:=by simp [World.setCell]
  have hoth:∀ g,g≠S+1->(w5.setCell ⟨S+1,0,none⟩ (PtrB (c5.R j5))).heap[g]?=w5.heap[g]?:=fun g hg=>Below.heap_setCell _ _ _ _ hg
  refine ⟨_,rfl,b1.cell 0,b1.frozen 0,b1.lt,⟨c5,j5,?_,hj5,hL5,fun h=>by omega,hZ5,b0.setOther (p:=⟨S+1,0,none⟩) (by show S≠S+1;omega) _,b1.set 0 _,b2.setOther (p:=⟨S+1,0,none⟩) (by show S+2≠S+1;omega) _⟩,?_,?_⟩
  · refine HoldY.turn hh5 (fun g hg=>?_) hI.seven (by omega) (fun g hg hn=>hoth g (fun e=>hn (.inl e))) rfl rfl rfl (fun g hg=>⟨.inl hg,?_⟩)
    · rcases hg with rfl | rfl | rfl<;>omega
    · have:=(hh5.mk.xs g (.inr hg)).1
      omega
  · exact (hoth _ (by omega)).trans (hk5 _ (.inr (.inr rfl)))
  · exact (hoth _ (by omega)).trans (hk5 _ (.inr (.inl rfl)))
theorem rbk_start {w:World}{c:MC}{q S pc:Nat}{ps:List Nat}{pa:Option Addr}(hI:MkI w c q)(hS:w.heap.size=S){W0:World}(hW0:((w.alloc (.cells #[PtrB c.m] 151)).alloc (.cells #[PtrB (c.R 1)] 159)).alloc (.cells #[.slice pa ps.length pc] 166)=W0)(o1 o2:Obj):RBk w c q S ps pa pc 0 ((W0.alloc o1).alloc o2):=by
  have h1l:1<c.T.length:=(List.getElem?_eq_some_iff.1 hI.t1).1
  have hs0:W0.heap.size=S+3:=by rw [<- hW0,<- hS];simp
  have hB0:Below w.heap.size w W0:=by rw [<- hW0];exact (((Below.refl _ _).alloc (Nat.le_refl _) _).alloc (by simp) _).alloc (by simp;omega) _
  have hB1:Below w.heap.size w ((W0.alloc o1).alloc o2):=(hB0.alloc (by omega) _).alloc (by simp;omega) _
  have b1:Blk W0 S [PtrB c.m] 151:=by rw [<- hW0,<- hS];exact ((Blk.new w [PtrB c.m] 151).alloc _).alloc _
  have b2:Blk W0 (S+1) [PtrB (c.R 1)] 159:=by rw [<- hW0,<- hS];have:=(Blk.new (w.alloc (.cells #[PtrB c.m] 151)) [PtrB (c.R 1)] 159).alloc (.cells #[.slice pa ps.length pc] 166);simpa using this
  have b3:Blk W0 (S+2) [.slice pa ps.length pc] 166:=by rw [<- hW0,<- hS];have:=Blk.new ((w.alloc (.cells #[PtrB c.m] 151)).alloc (.cells #[PtrB (c.R 1)] 159)) [.slice pa ps.length pc] 166;simpa using this
  have he:ps.drop (ps.length-0)=[]:=List.drop_of_length_le (by omega)
  refine ⟨c,1,?_,h1l,?_,fun _=>rfl,?_,(b1.alloc _).alloc _,(b2.alloc _).alloc _,(b3.alloc _).alloc _⟩
  · have h0:HoldY w c w c (RQ c q ps 0) (fun g=>some g=none):=HoldX.start (by unfold RQ;rw [he];exact hI)
    refine HoldY.turn h0 (fun g hg=>by cases hg) hI.seven hB1.size (fun g hg _=>hB1.block g hg) hB1.os hB1.tape hB1.output (fun g hg=>?_)
    have:((W0.alloc o1).alloc o2).heap.size=S+5:=by simp [hs0]
    rcases hg with rfl | rfl | rfl<;>exact ⟨.inr (by omega),by omega⟩
  · rw [he,hI.emp];rfl
  · rw [he,hI.sz1];exact Me.refl _
theorem rbk_put {w W:World}{c:MC}{q S pc k:Nat}{ps:List Nat}{pa:Option Addr}(hI:MkI w c q)(hS:w.heap.size=S)(h:RBk w c q S ps pa pc k W){l:Nat}(hl:l=S+3\/l=S+4)(o':Obj):RBk w c q S ps pa pc k (W.putObj l o'):=by
  obtain ⟨ck,jk,hh,hj,hL,hj0,hZ,hb0,hb1,hb2⟩:=h
  have hg:=grownBy_putObj' W l o'
  have hoth:∀ g,g<W.heap.size->g≠l->(W.putObj l o').heap[g]?=W.heap[g]?:=fun g hg' hn=>hg.block g hg' (fun e=>hn (by injection e))
  refine ⟨ck,jk,?_,hj,hL,hj0,hZ,(hoth _ hb0.lt (by omega)).trans hb0,(hoth _ hb1.lt (by omega)).trans hb1,(hoth _ hb2.lt (by omega)).trans hb2⟩
  refine HoldY.turn hh (fun g hg=>?_) hI.seven hg.size (fun g hg' hn=>hoth g hg' (fun e=>hn (by subst e;rcases hl with rfl | rfl;exact .inr (.inl rfl);exact .inr (.inr rfl)))) hg.os hg.tape hg.output (fun g hg'=>⟨.inl hg',?_⟩)
  · rcases hg with rfl | rfl | rfl<;>omega
  · have h1:=(hh.mk.xs g (.inr hg')).1
    have h2:=hg.size
    omega
theorem rbk_end {w W:World}{c:MC}{q S pc:Nat}{ps:List Nat}{pa:Option Addr}(h:RBk w c q S ps pa pc ps.length W){v:Value}(hv:W.cell? ⟨S+1,0,none⟩=some v):GivesL w c (q+sumL (fun a=>(sz c.T a).n) ps) (rwsL (ps.map (lg c.T))) (rwsM (ps.map (sz c.T))) (.returned v) W:=by
  obtain ⟨ck,jk,hh,hj,hL,hj0,hZ,hb0,hb1,hb2⟩:=h
  have he:ps.drop (ps.length-ps.length)=ps:=by rw [Nat.sub_self,List.drop_zero]
  unfold RQ at hh
  rw [he] at hL hZ hh
  have e1:v=PtrB (ck.R jk):=by
    have:=hb1.cell 0
    rw [hv] at this
    injection this
  subst e1
  refine ⟨ck,jk,rfl,?_,hh.gone,hj,hL,hZ⟩
  have:=hh.mk.turn (w':=W) (X':=ck.X) (Nat.le_refl _) (fun _ _ _=>rfl) (fun g hx=>⟨.inl (.inl hx),(hh.mk.xs g (.inl hx)).1,hh.mk.low g (.inr (.inl hx))⟩)
  exact this
set_option maxRecDepth 100000 in
set_option maxHeartbeats 4000000 in
theorem mkrow_any {w:World}{c:MC}{q pc:Nat}{pa:Option Addr}{ps:List Nat}(hI:MkI w c q)(hP:PowT w)(hps:∀ a∈ps,a<c.T.length)(hpa:PartsAt w c.S c.R pa ps)(hlen:ps.length<=9000000000000)(hq:q+sumL (fun a=>(sz c.T a).n) ps<=9000000000000000000) :
    Calls Tryz.prog 138 #[PtrB c.m,.slice pa ps.length pc] w (GivesL w c (q+sumL (fun a=>(sz c.T a).n) ps) (rwsL (ps.map (lg c.T))) (rwsM (ps.map (sz c.T)))):=by
  obtain ⟨S,hS⟩:∃ S,w.heap.size=S:=⟨_,rfl⟩
  obtain ⟨W0,hW0⟩:∃ W0,((w.alloc (.cells #[PtrB c.m] 151)).alloc (.cells #[PtrB (c.R 1)] 159)).alloc (.cells #[.slice pa ps.length pc] 166)=W0:=⟨_,rfl⟩
  have hs0:W0.heap.size=S+3:=by rw [<- hW0,<- hS];simp
  have c2:w.cell? ⟨c.m,2,none⟩=some (PtrB (c.R 1)):=hI.mb.cell 2
  have hml:=hI.mb.lt
  have hml':c.m<S:=by omega
  have HCALL:Hid (∀ (W:World) (k p:Nat) (x:Nat),k<ps.length->ps[ps.length-1-k]?=some p->W.cell? ⟨S+1,0,none⟩=some (PtrB x)->RBk w c q S ps pa pc k W->Calls Tryz.prog 187 #[PtrB c.m,PtrB (c.R p),PtrB x] W (fun r9 w5=>∃ y,r9=.returned (PtrB y)/\w5.cell? ⟨S+1,0,none⟩=some (PtrB x)/\w5.frozen? ⟨S+1,0,none⟩=false/\S+1<w5.heap.size/\Hid (RBk w c q S ps pa pc (k+1) (w5.setCell ⟨S+1,0,none⟩ (PtrB y))/\(w5.setCell ⟨S+1,0,none⟩ (PtrB y)).heap[S+4]?=W.heap[S+4]?/\(w5.setCell ⟨S+1,0,none⟩ (PtrB y)).heap[S+3]?=W.heap[S+3]?))):=fun W k p x hk hp hx h=>rbk_call hI hP hS hps hq hk hp hx h
  have HST:Hid (∀ o1 o2,RBk w c q S ps pa pc 0 ((W0.alloc o1).alloc o2)):=fun o1 o2=>rbk_start hI hS hW0 o1 o2
  have HPUT:Hid (∀ (k l:Nat) (W:World) (o':Obj),(l=S+3\/l=S+4)->RBk w c q S ps pa pc k W->RBk w c q S ps pa pc k (W.putObj l o')):=fun k l W o' hl h=>rbk_put hI hS h hl o'
  have HRD:Hid (∀ (k:Nat) (W:World),RBk w c q S ps pa pc k W->W.cell? ⟨S,0,none⟩=some (PtrB c.m)/\(∃ x,W.cell? ⟨S+1,0,none⟩=some (PtrB x))/\W.cell? ⟨S+2,0,none⟩=some (.slice pa ps.length pc)/\∀ i,i<ps.length->∃ b off,pa=some ⟨b,off,none⟩/\W.cell? ⟨b,off+i,none⟩=some (PtrB (c.R (ps[i]?.getD 0)))):=fun k W h=>by
    obtain ⟨ck,jk,hh,hj,hL,hj0,hZ,hb0,hb1,hb2⟩:=h
    refine ⟨hb0.cell 0,⟨_,hb1.cell 0⟩,hb2.cell 0,fun i hi=>?_⟩
    obtain ⟨p,hp⟩:∃ p,ps[i]?=some p:=⟨_,List.getElem?_eq_getElem hi⟩
    obtain ⟨bb,off,e,hbb,hbS,hcp⟩:=hpa i p hp
    exact ⟨bb,off,e,by rw [hp];exact (hh.gone.but.cell (p:=⟨bb,off+i,none⟩) hbb hbS).trans hcp⟩
  have HEND:Hid (∀ (W:World) (v:Value),RBk w c q S ps pa pc ps.length W->W.cell? ⟨S+1,0,none⟩=some v->GivesL w c (q+sumL (fun a=>(sz c.T a).n) ps) (rwsL (ps.map (lg c.T))) (rwsM (ps.map (sz c.T))) (.returned v) W):=fun W v h hv=>rbk_end h hv
  have HW0:=hide hW0
  clear hI hP hps hpa hq hW0
  refine (callsIn_wide (n:=3)).1 ?_
  refine callsIn_of_wp_marks Tryz.func138 rfl trivial ?_ rfl
  simp only [Tryz.ntmps138,List.size_toArray,List.length_cons,List.length_nil,Nat.reduceAdd,Nat.reduceSub,Array.replicate_succ,Array.replicate_zero,List.push_toArray,List.append_toArray,List.nil_append,List.cons_append]
  gi_wp2_with (refine ⟨trivial,?_⟩;gi_at_call 186;refine (backward_in Fence.wide _ trivial rfl _ _ _ _).mono ?_;rintro e w' ⟨rfl,rfl⟩)
  rw [HW0.out]
  try simp only [World.size_alloc,hS]
  refine range_plain rfl (by decide) (gf:=235) (lb:=#[PtrB (S+1+1)]) rfl trivial (enters_of Tryz.func235 (by kernel_rfl) rfl)
    (fun k W=>RBk w c q S ps pa pc k W) ps.length (fun k=>#[.int .i64 ((ps.length-1-k:Nat):Int),PtrB (c.R (ps[ps.length-1-k]?.getD 0))]) (fun _=>rfl)
    (fun l J W hJI hY h0=>backs_in Fence.wide _ trivial rfl (by decide) l (S+2) ps.length pc pa (fun i=>PtrB (c.R (ps[i]?.getD 0))) J hlen (fun k W hk=>(HRD.out k W (hJI k W hk)).2.2) hY W h0)
    HST.out (fun k W o' h _=>HPUT.out k _ W o' (.inr (by omega)) h)
    (fun k=>{ tmps:=#[PtrB c.m,.slice pa ps.length pc,PtrB S,undef,.pointer none,PtrB (S+1),undef,PtrB (c.R (ps[ps.length-1-k]?.getD 0)),PtrB c.m,PtrB c.m,.pointer (some ⟨c.m,2,none⟩),PtrB (c.R 1),.slice pa ps.length pc,.func (.func 235) #[] #[PtrB (S+1+1)],.int .i64 ((ps.length-1-k:Nat):Int),PtrB (c.R (ps[ps.length-1-k]?.getD 0)),undef,undef,undef,undef,undef],defers:=[] }) ?assign ?body ?done
  case assign =>
    intro l k W K hK
    gi_wp2
    exact hK
  case body =>
    intro l k W hB hk
    obtain ⟨y1,⟨x,y2⟩,y3,_⟩:=HRD.out k W hB
    obtain ⟨p,hp⟩:∃ p,ps[ps.length-1-k]?=some p:=⟨_,List.getElem?_eq_getElem (by omega)⟩
    have HC:=hide (HCALL.out W k p x hk hp y2 hB)
    rw [hp]
    simp only [Option.getD_some]
    have hl1:S+1<W.heap.size:=World.block_lt_of_cell? W ⟨S+1,0,none⟩ y2
    have hl0:S<W.heap.size:=by omega
    clear hB
    gi_wp2_with (refine ⟨trivial,?_⟩;gi_at_call 187;refine (CallsIn.inRound l (callsIn_wide.2 HC.out)).mono ?_;rintro e W2 ⟨y,rfl,g2,f2,l2,HN⟩)
    exact ⟨HN.out.1,HN.out.2.1,HN.out.2.2⟩
  case done =>
    intro W hB hK
    rw [hs0] at hK
    obtain ⟨y1,⟨x,y2⟩,y3,_⟩:=HRD.out _ W hB
    have HE:=hide (fun o'=>HEND.out (W.putObj (S+3) o') (PtrB x) (HPUT.out _ _ W o' (.inl rfl) hB) (by
      refine (World.cell?_of_block (w:=W) ?_).trans y2
      exact (grownBy_putObj' W (S+3) o').block _ (World.block_lt_of_cell? W ⟨S+1,0,none⟩ y2) (fun e=>by injection e with e;simp at e)))
    clear hB
    rw [hs0]
    gi_wp2
    refine ⟨by simp,.inl ⟨_,_,rfl,run_takeDeferred hK,?_⟩⟩
    refine ⟨_,results_tmp rfl _ _ _,?_⟩
    exact HE.out _
end Go.Proofs.YtpoibdhhcbelnaaGreatDoor
namespace Go.Proofs.YtpoibdhhcbelnaaGreatDoor
open Go.Shelf Go.RowKit Go.Lib Brm
theorem nil_eq (a:Option Addr)(n c:Nat)(w:World):(binOp .eql 81 (.slice a n c) (.slice none 0 0)).run Tryz.prog w=.ok (.bool a.isNone) w:=by
  simp [binOp,run_equal_slice_nil w 81 _ a n c Tryz.underlying81,go_sem,Result.andThen]
theorem Tryz.info21r:(Tryz.prog.info? 21).map (fun i=>(i.zero,i.size,i.bytes))=some (some (.int .i32 0),1,4):=by kernel_rfl
def rnsV (u:List Int):List Value:=u.map fun r=>.int .i32 r
theorem rnsV_one (u:List Int):∀ x∈rnsV u,x.oneCell'=true:=by
  intro x hx
  obtain ⟨r,_,rfl⟩:=List.mem_map.1 hx
  rfl
set_option maxRecDepth 100000 in
set_option maxHeartbeats 1000000 in
theorem clone_any {ta:Option Addr}{tc B:Nat}{u:List Int}{w:World}(ht:TxtW w (.slice ta u.length tc) u)(h0:ta=none->u=[]/\tc=0)(hl:u.length<=1000000)(hB:B<=w.heap.size) :
    Calls Tryz.prog 143 #[.slice ta u.length tc] w fun e w'=>∃ v,e=.returned v/\w'.ownsRow B 21 1 v u.length (rnsV u)/\(∀ g,v.ownBlock=some g->w.heap.size<=g)/\Below w.heap.size w w':=by
  obtain ⟨i0,hi,hz0,hz1,hz2⟩:=info_parts Tryz.info21r
  cases ta with
  | none =>
    obtain ⟨rfl,rfl⟩:=h0 rfl
    have heq:=nil_eq none 0 0
    go_enter Tryz.func143,Tryz.ntmps143
    go_wp2_with fail
    go_ret
    exact ⟨_,rfl,World.ownsRow_nil _ _ _ _,fun g hg=>by simp [Value.ownBlock] at hg,Below.refl _ _⟩
  | some ad =>
    have hcell:∀ j x,(rnsV u)[j]?=some x->(w.alloc (.cells #[] 21)).cell? (ad.add j)=some x:=fun j x hx=>by
      obtain ⟨a,c,e,h⟩:=ht
      injection e with e1 e2 e3
      subst e1
      rw [show (rnsV u)[j]?=(u[j]?).map (fun r=>Value.int .i32 r) by simp [rnsV]] at hx
      obtain ⟨r,hr,rfl⟩:=Option.map_eq_some_iff.1 hx
      obtain ⟨b,off,e4,hb,hc⟩:=h j r hr
      injection e4 with e4
      subst e4
      rw [Addr.add_lit]
      exact cell_al _ hc
    have hown:(w.alloc (.cells #[] 21)).ownsRow w.heap.size 21 1 (.slice (some ⟨w.heap.size,0,none⟩) 0 0) 0 []:=⟨rfl,.inr ⟨w.heap.size,0,#[],rfl,Nat.le_refl _,(Blk.new w [] 21),Nat.le_refl _,Nat.zero_le _,rfl,rfl⟩⟩
    have HC:=hide hcell
    have HO:=hide hown
    have heq:=nil_eq (some ad) u.length tc
    clear ht hcell hown
    go_enter Tryz.func143,Tryz.ntmps143
    go_wp2_with (at_builtin;refine wpList_append_moves rfl _ _ 81 rfl w.heap.size 21 i0 (.int .i32 0) 1 4 Tryz.underlying81 hi hz0 hz1 hz2 rfl (by decide) _ _ _ rfl HO.out ad u.length tc (rnsV u) rfl (by simp [rnsV]) HC.out (rnsV_one u) (by unfold maxLen;omega) (by omega) (by simp) ?_;intro v' w6 hown' hgrow hmv)
    have HF:Hid (w6.ownsRow B 21 1 v' u.length (rnsV u)/\(∀ g,v'.ownBlock=some g->w.heap.size<=g)/\Below w.heap.size w w6):=by
      rw [Nat.zero_add,List.nil_append] at hown'
      refine ⟨⟨hown'.1,?_⟩,fun g hg=>(hown'.lt g hg).1,((Below.refl _ _).alloc (Nat.le_refl _) _).grown hgrow (by simp) (fun k e=>by cases e;exact Nat.le_refl _)⟩
      rcases hown'.2 with h | ⟨g,cap,cur,e,hb,r⟩
      · exact .inl h
      · exact .inr ⟨g,cap,cur,e,by omega,r⟩
    clear hown' hgrow hmv
    go_ret
    exact ⟨_,rfl,HF.out⟩
structure LS (w:World)(c:MC)(q:Nat)(r:Int)(a b:Nat)(u:List Int)(bcs:List Value)(W:World)(xa xb:Option Nat)(tv:Option (Value×Bool))(os:Option Nat):Prop where
  ex:∃ c',HoldY w c W c' (q+(if xa.isSome then costM (sz c.T a) else 0)+(if xb.isSome then costM (sz c.T b) else 0)) (fun g=>g=w.heap.size+1\/∃ t,tv=some t/\some g=t.1.ownBlock) /\
    (∀ x,xa=some x->∃ j,j<c'.T.length/\x=c'.R j/\lg c'.T j=der (lg c.T a) r/\sz c'.T j<=derM (sz c.T a))/\(∀ x,xb=some x->∃ j,j<c'.T.length/\x=c'.R j/\lg c'.T j=der (lg c.T b) r/\sz c'.T j<=derM (sz c.T b))
  box:Blk W w.heap.size bcs 163
  res:Blk W (w.heap.size+1) [.slice none 0 0,.pointer none,.pointer none] 163
  txt:∀ v d,tv=some (v,d)->W.ownsRow (w.heap.size+2) 21 1 v (if d then u.length+1 else u.length) (if d then rnsV (u++[r]) else rnsV u)
  one:∀ n,os=some n->Blk W n [.int .i32 r] 21/\w.heap.size+1<n/\∀ t,tv=some t->some n≠t.1.ownBlock
def NxtW (r:Int)(X V:World)(os os':Option Nat):Prop:=(SameH V X/\os'=os)\/(os=none/\os'=some X.heap.size/\SameH V (X.alloc (.cells #[.int .i32 r] 21)))
theorem SameH.blk {V X:World}(h:SameH V X){b:Nat}{cs:List Value}{T:TypeId}(k:Blk X b cs T):Blk V b cs T:=(show V.heap[b]?=X.heap[b]? by rw [h.1]).trans k
section
variable {w:World} {c:MC} {q:Nat} {r:Int} {a b:Nat} {u:List Int} {bcs:List Value}
theorem LS.same {X V:World}{xa xb:Option Nat}{tv:Option (Value×Bool)}{os:Option Nat}(h:LS w c q r a b u bcs X xa xb tv os)(hs:SameH V X):LS w c q r a b u bcs V xa xb tv os:=by
  obtain ⟨⟨c',hh,h1,h2⟩,hx,hr,ht,ho⟩:=h
  exact ⟨⟨c',hh.below hs.below,h1,h2⟩,hs.blk hx,hs.blk hr,fun v d e=>own_keep (ht v d e) (fun g _=>by rw [hs.1]),fun n e=>⟨hs.blk (ho n e).1,(ho n e).2⟩⟩
theorem LS.next {X V:World}{xa xb:Option Nat}{tv:Option (Value×Bool)}{os os':Option Nat}(h:LS w c q r a b u bcs X xa xb tv os)(hn:NxtW r X V os os'):LS w c q r a b u bcs V xa xb tv os':=by
  rcases hn with ⟨hs,rfl⟩ | ⟨rfl,rfl,hs⟩
  · exact h.same hs
  · refine LS.same (X:=X.alloc (.cells #[.int .i32 r] 21)) ?_ hs
    obtain ⟨⟨c',hh,h1,h2⟩,hx,hr,ht,ho⟩:=h
    refine ⟨⟨c',hh.below ((Below.refl _ _).alloc (Nat.le_refl _) _),h1,h2⟩,hx.alloc _,hr.alloc _,fun v d e=>(ht v d e).alloc _,fun n e=>?_⟩
    injection e with e
    subst e
    refine ⟨Blk.new X [.int .i32 r] 21,hr.lt,fun t et en=>?_⟩
    have:=((ht t.1 t.2 (by rw [et])).lt _ en.symm).2
    omega
theorem LS.start (hI:MkI w c q){W0:World}(hb0:Below w.heap.size w W0)(hx:Blk W0 w.heap.size bcs 163)(hr:Blk W0 (w.heap.size+1) [.slice none 0 0,.pointer none,.pointer none] 163):LS w c q r a b u bcs W0 none none none none:=by
  refine ⟨⟨c,⟨?_,Gone.below hb0⟩,fun x e=>(by cases e),fun x e=>(by cases e)⟩,hx,hr,fun v d e=>(by cases e),fun n e=>(by cases e)⟩
  have h7:=hI.seven
  have hl:=hr.lt
  have:=hI.turn (w':=W0) (X':=fun g=>c.X g\/(g=w.heap.size+1\/∃ t,(none:Option (Value×Bool))=some t/\some g=t.1.ownBlock)) hb0.size (fun g hg _=>hb0.block g hg) (by
    rintro g (hx | rfl | ⟨t,e,_⟩)
    · exact ⟨.inl hx,by have:=(hI.xs g hx).1;have:=hb0.size;omega,hI.low g (.inr hx)⟩
    · exact ⟨.inr (by omega),hl,by omega⟩
    · cases e)
  exact this
theorem LS.cell {X:World}{xa xb:Option Nat}{tv:Option (Value×Bool)}{os:Option Nat}(h:LS w c q r a b u bcs X xa xb tv os){p:Addr}(hp:p.block<w.heap.size)(hn:¬ c.S p.block):X.cell? p=w.cell? p:=by
  obtain ⟨⟨c',hh,h1,h2⟩,hx,hr,ht,ho⟩:=h
  exact hh.gone.but.cell hp hn
theorem LS.called {V w5:World}{xa xb xa' xb':Option Nat}{tv:Option (Value×Bool)}{os:Option Nat}{c' c5:MC}{q0:Nat}(h:LS w c q r a b u bcs V xa xb tv os)(hI:MkI w c q0)(hh:HoldY w c V c' (q+(if xa.isSome then costM (sz c.T a) else 0)+(if xb.isSome then costM (sz c.T b) else 0)) (fun g=>g=w.heap.size+1\/∃ t,tv=some t/\some g=t.1.ownBlock))(hg5:Gone V c' w5 c5)(hk5:∀ g,(g=w.heap.size+1\/∃ t,tv=some t/\some g=t.1.ownBlock)->w5.heap[g]?=V.heap[g]?)
    (hex:∃ c',HoldY w c w5 c' (q+(if xa'.isSome then costM (sz c.T a) else 0)+(if xb'.isSome then costM (sz c.T b) else 0)) (fun g=>g=w.heap.size+1\/∃ t,tv=some t/\some g=t.1.ownBlock)/\(∀ x,xa'=some x->∃ j,j<c'.T.length/\x=c'.R j/\lg c'.T j=der (lg c.T a) r/\sz c'.T j<=derM (sz c.T a))/\(∀ x,xb'=some x->∃ j,j<c'.T.length/\x=c'.R j/\lg c'.T j=der (lg c.T b) r/\sz c'.T j<=derM (sz c.T b))):LS w c q r a b u bcs w5 xa' xb' tv os:=by
  refine ⟨hex,HoldY.blk hI hh hg5 h.box (Nat.le_refl _),(hk5 _ (.inl rfl)).trans h.res,fun v d e=>own_keep (h.txt v d e) (fun g hg=>hk5 g (.inr ⟨_,e,hg⟩)),fun n e=>?_⟩
  obtain ⟨o1,o2,o3⟩:=h.one n e
  refine ⟨HoldY.blk hI hh hg5 o1 (by omega),o2,o3⟩
theorem LS.behA {V:World}{xb:Option Nat}{tv:Option (Value×Bool)}{os:Option Nat}{k kb:Nat}(h:LS w c q r a b u bcs V none xb tv os){q0:Nat}(hI:MkI w c q0)(hP:PowT w)(ha:a<c.T.length)(hr:runeB r=true)(hq:q+costM (sz c.T a)+costM (sz c.T b)<=9000000000000000000)(hz:(derM (sz c.T a)).z<=3000000000000)(hc:w.cell? ⟨c.R a,4,none⟩=some (.func (.func 220) #[] #[PtrB k,PtrB kb]))(hcl:c.R a<w.heap.size)(hcs:¬ c.S (c.R a)) :
    Calls Tryz.prog 220 #[.int .i64 r,PtrB k,PtrB kb] V fun e w5=>∃ x,e=.returned (PtrB x)/\LS w c q r a b u bcs w5 (some x) xb tv os:=by
  obtain ⟨c',hh,h1,h2⟩:=h.ex
  have hlen:=hh.gone.len
  have hS:sz (c'.wY (fun g=>g=w.heap.size+1\/∃ t,tv=some t/\some g=t.1.ownBlock)).T a=sz c.T a:=hh.gone.sz ha
  have hL:lg (c'.wY (fun g=>g=w.heap.size+1\/∃ t,tv=some t/\some g=t.1.ownBlock)).T a=lg c.T a:=hh.gone.lang ha
  have hR:(c'.wY (fun g=>g=w.heap.size+1\/∃ t,tv=some t/\some g=t.1.ownBlock)).R a=c.R a:=hh.gone.R a ha
  have hq2:(q+(if (none:Option Nat).isSome then costM (sz c.T a) else 0)+(if xb.isSome then costM (sz c.T b) else 0))+costM (sz c.T a)<=9000000000000000000:=by
    simp only [Option.isSome_none,Bool.false_eq_true,if_false]
    split<;>omega
  have hcall:=behind_all a V _ _ r k kb hh.mk (show a<c'.T.length by omega) (hh.gone.pow hI hP) hr (by rw [hR];exact (hh.gone.but.cell (p:=⟨c.R a,4,none⟩) hcl hcs).trans hc) (by rw [hS];exact hq2) (by rw [hS];exact hz)
  rw [hS,hL] at hcall
  refine hcall.mono fun e w5 hg=>?_
  obtain ⟨c5,j5,rfl,hh5,hg5,hj5,hL5,hZ5,hk5⟩:=HoldY.call hh hg
  refine ⟨_,rfl,h.called hI hh hg5 hk5 ⟨c5,⟨hh5.mk.more (by simp only [Option.isSome_none,Option.isSome_some,Bool.false_eq_true,if_false,if_true];omega),hh5.gone⟩,fun x e=>?_,fun x e=>?_⟩⟩
  · injection e with e
    exact ⟨j5,hj5,e.symm,hL5,hZ5⟩
  · obtain ⟨j,j1,j2,j3,j4⟩:=h2 x e
    have:=hg5.len
    exact ⟨j,by omega,by rw [hg5.R j j1];exact j2,by rw [hg5.lang j1];exact j3,by rw [hg5.sz j1];exact j4⟩
theorem LS.behB {V:World}{xa:Option Nat}{tv:Option (Value×Bool)}{os:Option Nat}{k kb:Nat}(h:LS w c q r a b u bcs V xa none tv os){q0:Nat}(hI:MkI w c q0)(hP:PowT w)(hb:b<c.T.length)(hr:runeB r=true)(hq:q+costM (sz c.T a)+costM (sz c.T b)<=9000000000000000000)(hz:(derM (sz c.T b)).z<=3000000000000)(hc:w.cell? ⟨c.R b,4,none⟩=some (.func (.func 220) #[] #[PtrB k,PtrB kb]))(hcl:c.R b<w.heap.size)(hcs:¬ c.S (c.R b)) :
    Calls Tryz.prog 220 #[.int .i64 r,PtrB k,PtrB kb] V fun e w5=>∃ x,e=.returned (PtrB x)/\LS w c q r a b u bcs w5 xa (some x) tv os:=by
  obtain ⟨c',hh,h1,h2⟩:=h.ex
  have hlen:=hh.gone.len
  have hS:sz (c'.wY (fun g=>g=w.heap.size+1\/∃ t,tv=some t/\some g=t.1.ownBlock)).T b=sz c.T b:=hh.gone.sz hb
  have hL:lg (c'.wY (fun g=>g=w.heap.size+1\/∃ t,tv=some t/\some g=t.1.ownBlock)).T b=lg c.T b:=hh.gone.lang hb
  have hR:(c'.wY (fun g=>g=w.heap.size+1\/∃ t,tv=some t/\some g=t.1.ownBlock)).R b=c.R b:=hh.gone.R b hb
  have hq2:(q+(if xa.isSome then costM (sz c.T a) else 0)+(if (none:Option Nat).isSome then costM (sz c.T b) else 0))+costM (sz c.T b)<=9000000000000000000:=by
    simp only [Option.isSome_none,Bool.false_eq_true,if_false]
    split<;>omega
  have hcall:=behind_all b V _ _ r k kb hh.mk (show b<c'.T.length by omega) (hh.gone.pow hI hP) hr (by rw [hR];exact (hh.gone.but.cell (p:=⟨c.R b,4,none⟩) hcl hcs).trans hc) (by rw [hS];exact hq2) (by rw [hS];exact hz)
  rw [hS,hL] at hcall
  refine hcall.mono fun e w5 hg=>?_
  obtain ⟨c5,j5,rfl,hh5,hg5,hj5,hL5,hZ5,hk5⟩:=HoldY.call hh hg
  refine ⟨_,rfl,h.called hI hh hg5 hk5 ⟨c5,⟨hh5.mk.more (by simp only [Option.isSome_none,Option.isSome_some,Bool.false_eq_true,if_false,if_true];omega),hh5.gone⟩,fun x e=>?_,fun x e=>?_⟩⟩
  · obtain ⟨j,j1,j2,j3,j4⟩:=h1 x e
    have:=hg5.len
    exact ⟨j,by omega,by rw [hg5.R j j1];exact j2,by rw [hg5.lang j1];exact j3,by rw [hg5.sz j1];exact j4⟩
  · injection e with e
    exact ⟨j5,hj5,e.symm,hL5,hZ5⟩
theorem LS.clone {V:World}{xa xb os:Option Nat}{ta:Option Addr}{tc:Nat}(h:LS w c q r a b u bcs V xa xb none os){q0:Nat}(hI:MkI w c q0)(ht:TxtW w (.slice ta u.length tc) u)(hta:∀ o,ta=some o->o.block<w.heap.size/\¬ c.S o.block)(h0:ta=none->u=[]/\tc=0)(hl:u.length<=1000000) :
    Calls Tryz.prog 143 #[.slice ta u.length tc] V fun e w5=>∃ v,e=.returned v/\LS w c q r a b u bcs w5 xa xb (some (v,false)) os:=by
  obtain ⟨c',hh,h1,h2⟩:=h.ex
  have htV:TxtW V (.slice ta u.length tc) u:=ht.keep hh.gone.but.size (fun o n cc e=>by
    injection e with e1 e2 e3
    obtain ⟨t1,t2⟩:=hta o e1
    exact hh.gone.but.block _ t1 t2)
  have hlt:=h.res.lt
  refine (clone_any (B:=w.heap.size+2) htV h0 hl hlt).mono ?_
  rintro e w5 ⟨v,rfl,hown,hv,hbel⟩
  refine ⟨v,rfl,⟨c',?_,h1,h2⟩,(hbel.block _ h.box.lt).trans h.box,(hbel.block _ hlt).trans h.res,fun v' d e=>?_,fun n e=>?_⟩
  · refine HoldY.turn hh (fun g hg=>?_) hI.seven hbel.size (fun k hk _=>hbel.block k hk) hbel.os hbel.tape hbel.output (fun g hg=>?_)
    · rcases hg with rfl | ⟨t,e,_⟩
      · omega
      · cases e
    · rcases hg with rfl | ⟨t,e,hg⟩
      · exact ⟨.inl (.inl rfl),by have:=hbel.size;omega⟩
      · injection e with e
        subst e
        exact ⟨.inr (hv g hg.symm),(hown.lt g hg.symm).2⟩
  · injection e with e
    injection e with e1 e2
    subst e1 e2
    exact hown
  · obtain ⟨o1,o2,o3⟩:=h.one n e
    refine ⟨(hbel.block n o1.lt).trans o1,o2,fun t et en=>?_⟩
    injection et with et
    subst et
    have:=hv n en.symm
    have:=o1.lt
    omega
end
end Go.Proofs.YtpoibdhhcbelnaaGreatDoor
namespace Go.Proofs.YtpoibdhhcbelnaaGreatDoor
open Go.Shelf Go.RowKit Go.Lib Brm
section
variable {w:World} {c:MC} {q:Nat} {r:Int} {a b:Nat} {u:List Int} {bcs:List Value}
theorem LS.app {ops:Array Oper}{o:Oper}{A:Act}{V:World}{K:Act->World->Prop}{Q:Exit->Act->World->Prop}{E:Prop}{xa xb:Option Nat}{v:Value}{n q0:Nat}(h:LS w c q r a b u bcs V xa xb (some (v,false)) (some n))(hI:MkI w c q0)(hl:u.length<=1000000)
    (hg:o.guard=none) (hop:o.op=Op.call { callee:=Callee.builtin Builtin.append,args:=#[.tmp 7,.tmp 10],argTypes:=#[81,81] }) (hs:A.eval (.tmp 7)=v) (hx:A.eval (.tmp 10)=.slice (some ⟨n,0,none⟩) 1 1)
    (hK:∀ v' w6,LS w c q r a b u bcs w6 xa xb (some (v',true)) (some n)->K (A.put o.dst v') w6):if Region.wanted o (yielded ops A.tmps)=true then Oper.wp Tryz.prog o A V K Q else E:=by
  obtain ⟨i0,hi,hz0,hz1,hz2⟩:=info_parts Tryz.info21r
  obtain ⟨c',hh,h1,h2⟩:=h.ex
  obtain ⟨o1,o2,o3⟩:=h.one n rfl
  have hown:V.ownsRow (w.heap.size+2) 21 1 v u.length (rnsV u):=h.txt v false rfl
  have hno:=o3 _ rfl
  have hlt:=h.res.lt
  refine step_append_moves hg (.tmp 7) (.tmp 10) 81 hop (w.heap.size+2) 21 i0 (.int .i32 0) 1 4 Tryz.underlying81 hi hz0 hz1 hz2 rfl (by decide) v u.length (rnsV u) hs hown ⟨n,0,none⟩ 1 1 [.int .i32 r] hx rfl (fun j x hj=>?_) (by simp [Value.oneCell']) (by unfold maxLen;omega) (by omega) (by omega) ?_
  · match j,hj with
    | 0,hj=>simp at hj;subst hj;rw [Addr.add_lit];exact o1.cell 0
  intro v' w6 hown' hgrow hmv
  refine hK v' w6 ⟨⟨c',?_,h1,h2⟩,?_,?_,fun v2 d e=>?_,fun n2 e=>?_⟩
  · refine HoldY.turn hh (fun g hg=>?_) hI.seven hgrow.size (fun k hk hn=>hgrow.block k hk (fun e=>hn (.inr ⟨_,rfl,e⟩))) hgrow.os hgrow.tape hgrow.output (fun g hg=>?_)
    · rcases hg with rfl | ⟨t,e,hg⟩
      · omega
      · injection e with e
        subst e
        have:=(hown.lt g hg.symm).1
        omega
    · rcases hg with rfl | ⟨t,e,hg⟩
      · exact ⟨.inl (.inl rfl),by have:=hgrow.size;omega⟩
      · injection e with e
        subst e
        refine ⟨?_,(hown'.lt g hg.symm).2⟩
        rcases hmv g hg.symm with e | e
        · exact .inl (.inr ⟨_,rfl,e.symm⟩)
        · exact .inr e
  · exact (hgrow.block _ h.box.lt (fun e=>by have:=(hown.lt _ e.symm).1;omega)).trans h.box
  · exact (hgrow.block _ hlt (fun e=>by have:=(hown.lt _ e.symm).1;omega)).trans h.res
  · injection e with e
    injection e with e1 e2
    subst e1 e2
    have e3:rnsV (u++[r])=rnsV u++[.int .i32 r]:=by simp [rnsV]
    simp only [if_true]
    rw [e3]
    exact hown'
  · injection e with e
    subst e
    refine ⟨(hgrow.block n o1.lt hno).trans o1,o2,fun t et en=>?_⟩
    injection et with et
    subst et
    rcases hmv n en.symm with e | e
    · exact hno e.symm
    · have:=o1.lt;omega
theorem LS.form {V:World}{xa xb os:Option Nat}{v:Value}(h:LS w c q r a b u bcs V xa xb (some (v,true)) os):∃ ta' tc',v=.slice ta' (u.length+1) tc':=by
  have hown:V.ownsRow (w.heap.size+2) 21 1 v (u.length+1) (rnsV (u++[r])):=h.txt v true rfl
  rcases hown.2 with ⟨_,h9⟩ | ⟨g,cap,cur,hv,_⟩
  · omega
  · exact ⟨_,_,hv⟩
end
theorem nx0 (r:Int)(X:World)(os:Option Nat):NxtW r X X os os:=.inl ⟨⟨rfl,rfl,rfl,rfl⟩,rfl⟩
theorem nx2 (r:Int)(X:World):NxtW r X (X.alloc (.cells #[.int .i32 r] 21)) none (some X.heap.size):=.inr ⟨rfl,rfl,rfl,rfl,rfl,rfl⟩
theorem nx5 (r:Int)(X:World)(os:Option Nat):NxtW r X X.drew os os:=.inl ⟨⟨rfl,rfl,rfl,rfl⟩,rfl⟩
theorem nx6 (r:Int)(X:World):NxtW r X (X.alloc (.cells #[.int .i32 r] 21)).drew none (some X.heap.size):=.inr ⟨rfl,rfl,rfl,rfl,rfl,rfl⟩
theorem hs5 (X:World)(b:Nat)(v0 v1 v2:Value)(g:Nat)(hg:g≠b):(((X.setCell ⟨b,0,none⟩ v0).setCell ⟨b,1,none⟩ v1).setCell ⟨b,2,none⟩ v2).heap[g]?=X.heap[g]?:=(Below.heap_setCell _ _ _ _ hg).trans ((Below.heap_setCell _ _ _ _ hg).trans (Below.heap_setCell _ _ _ _ hg))
theorem wrap32 {r:Int}(h:runeB r=true):IntKind.i32.wrap r=r:=by
  simp only [runeB,decide_eq_true_eq] at h
  simp [IntKind.wrap,IntKind.bits,IntKind.signed]
  omega
def LongQ (w:World)(c:MC)(q:Nat)(r:Int)(a b:Nat)(u:List Int)(e:Ending)(w':World):Prop:=∃ c' ja jb ta' tc',e=.returned (.agg #[.slice ta' (u.length+1) tc',PtrB (c'.R ja),PtrB (c'.R jb)])/\MkI w' c' (q+costM (sz c.T a)+costM (sz c.T b))/\Gone w c w' c'/\ja<c'.T.length/\jb<c'.T.length/\lg c'.T ja=der (lg c.T a) r/\sz c'.T ja<=derM (sz c.T a)/\lg c'.T jb=der (lg c.T b) r/\sz c'.T jb<=derM (sz c.T b)/\TxtW w' (.slice ta' (u.length+1) tc') (u++[r])/\∀ o,ta'=some o->w.heap.size<=o.block/\o.block<w'.heap.size
set_option maxRecDepth 100000 in
set_option maxHeartbeats 40000000 in
theorem longer_any {w:World}{c:MC}{q a b:Nat}{r:Int}{u:List Int}{ta:Option Addr}{tc:Nat}(hI:MkI w c q)(hP:PowT w)(ha:a<c.T.length)(hb:b<c.T.length)(hr:runeB r=true)(ht:TxtW w (.slice ta u.length tc) u)(hta:∀ o,ta=some o->o.block<w.heap.size/\¬ c.S o.block)(h0:ta=none->u=[]/\tc=0)(hl:u.length<=1000000)(hq:q+costM (sz c.T a)+costM (sz c.T b)<=9000000000000000000)(hza:(derM (sz c.T a)).z<=3000000000000)(hzb:(derM (sz c.T b)).z<=3000000000000) :
    Calls Tryz.prog 95 #[.agg #[.slice ta u.length tc,PtrB (c.R a),PtrB (c.R b)],.int .i64 r] w (LongQ w c q r a b u):=by
  obtain ⟨S,hS⟩:∃ S,w.heap.size=S:=⟨_,rfl⟩
  obtain ⟨W0,hW0⟩:∃ W0,(w.alloc (.cells #[.slice ta u.length tc,PtrB (c.R a),PtrB (c.R b)] 163)).alloc (.cells #[.slice none 0 0,.pointer none,.pointer none] 163)=W0:=⟨_,rfl⟩
  have hB0:Below w.heap.size w W0:=by rw [<- hW0];exact ((Below.refl _ _).alloc (Nat.le_refl _) _).alloc (by simp) _
  have hx:Blk W0 w.heap.size [.slice ta u.length tc,PtrB (c.R a),PtrB (c.R b)] 163:=by rw [<- hW0];exact (Blk.new w [.slice ta u.length tc,PtrB (c.R a),PtrB (c.R b)] 163).alloc _
  have hrs:Blk W0 (w.heap.size+1) [.slice none 0 0,.pointer none,.pointer none] 163:=by rw [<- hW0];have:=Blk.new (w.alloc (.cells #[.slice ta u.length tc,PtrB (c.R a),PtrB (c.R b)] 163)) [.slice none 0 0,.pointer none,.pointer none] 163;simpa using this
  obtain ⟨ka,kka,ya,hal,haS⟩:=mk_beh hI ha
  obtain ⟨kb,kkb,yb,hbl,hbS⟩:=mk_beh hI hb
  have hw32:=wrap32 hr
  have HS:Hid (LS w c q r a b u [.slice ta u.length tc,PtrB (c.R a),PtrB (c.R b)] W0 none none none none):=LS.start hI hB0 hx hrs
  have HELD:Hid (∀ (V X:World) (xa xb:Option Nat) (tv:Option (Value×Bool)) (os:Option Nat),LS w c q r a b u [.slice ta u.length tc,PtrB (c.R a),PtrB (c.R b)] X xa xb tv os->(∀ g,g≠S+1->V.heap[g]?=X.heap[g]?)->V.cell? ⟨S,0,none⟩=some (.slice ta u.length tc)/\V.cell? ⟨S,1,none⟩=some (PtrB (c.R a))/\V.cell? ⟨S,2,none⟩=some (PtrB (c.R b))/\V.cell? ⟨c.R a,4,none⟩=some (.func (.func 220) #[] #[PtrB ka,PtrB kka])/\V.cell? ⟨c.R b,4,none⟩=some (.func (.func 220) #[] #[PtrB kb,PtrB kkb])):=fun V X xa xb tv os h hV=>by
    have hbox:Blk V S [.slice ta u.length tc,PtrB (c.R a),PtrB (c.R b)] 163:=(hV S (by omega)).trans (by rw [<- hS];exact h.box)
    have h1:=(World.cell?_of_block (w:=X) (w':=V) (a:=⟨c.R a,4,none⟩) (hV _ (by show c.R a≠S+1;omega))).trans ((h.cell (p:=⟨c.R a,4,none⟩) hal haS).trans ya)
    have h2:=(World.cell?_of_block (w:=X) (w':=V) (a:=⟨c.R b,4,none⟩) (hV _ (by show c.R b≠S+1;omega))).trans ((h.cell (p:=⟨c.R b,4,none⟩) hbl hbS).trans yb)
    exact ⟨hbox.cell 0,hbox.cell 1,hbox.cell 2,h1,h2⟩
  have HELD0:Hid (∀ (V:World) (xa xb:Option Nat) (tv:Option (Value×Bool)) (os:Option Nat),LS w c q r a b u [.slice ta u.length tc,PtrB (c.R a),PtrB (c.R b)] V xa xb tv os->V.cell? ⟨S,0,none⟩=some (.slice ta u.length tc)/\V.cell? ⟨S,1,none⟩=some (PtrB (c.R a))/\V.cell? ⟨S,2,none⟩=some (PtrB (c.R b))/\V.cell? ⟨c.R a,4,none⟩=some (.func (.func 220) #[] #[PtrB ka,PtrB kka])/\V.cell? ⟨c.R b,4,none⟩=some (.func (.func 220) #[] #[PtrB kb,PtrB kkb])):=fun V xa xb tv os h=>HELD.out V V xa xb tv os h (fun _ _=>rfl)
  have HRES:Hid (∀ (X:World) (xa xb:Option Nat) (tv:Option (Value×Bool)) (os:Option Nat),LS w c q r a b u [.slice ta u.length tc,PtrB (c.R a),PtrB (c.R b)] X xa xb tv os->X.cell? ⟨S+1,0,none⟩=some (.slice none 0 0)/\X.cell? ⟨S+1,1,none⟩=some (.pointer none)/\X.cell? ⟨S+1,2,none⟩=some (.pointer none)/\X.frozen? ⟨S+1,0,none⟩=false/\X.frozen? ⟨S+1,1,none⟩=false/\X.frozen? ⟨S+1,2,none⟩=false/\S+1<X.heap.size):=fun X xa xb tv os h=>by
    have hr':=h.res
    rw [hS] at hr'
    exact ⟨hr'.cell 0,hr'.cell 1,hr'.cell 2,hr'.frozen 0,hr'.frozen 1,hr'.frozen 2,hr'.lt⟩
  have HA:Hid (∀ (V:World) (xb:Option Nat) (tv:Option (Value×Bool)) (os:Option Nat),LS w c q r a b u [.slice ta u.length tc,PtrB (c.R a),PtrB (c.R b)] V none xb tv os->Calls Tryz.prog 220 #[.int .i64 r,PtrB ka,PtrB kka] V fun e w5=>∃ x,e=.returned (PtrB x)/\LS w c q r a b u [.slice ta u.length tc,PtrB (c.R a),PtrB (c.R b)] w5 (some x) xb tv os):=fun V xb tv os h=>h.behA hI hP ha hr hq hza ya hal haS
  have HB:Hid (∀ (V:World) (xa:Option Nat) (tv:Option (Value×Bool)) (os:Option Nat),LS w c q r a b u [.slice ta u.length tc,PtrB (c.R a),PtrB (c.R b)] V xa none tv os->Calls Tryz.prog 220 #[.int .i64 r,PtrB kb,PtrB kkb] V fun e w5=>∃ x,e=.returned (PtrB x)/\LS w c q r a b u [.slice ta u.length tc,PtrB (c.R a),PtrB (c.R b)] w5 xa (some x) tv os):=fun V xa tv os h=>h.behB hI hP hb hr hq hzb yb hbl hbS
  have HC:Hid (∀ (V:World) (xa xb os:Option Nat),LS w c q r a b u [.slice ta u.length tc,PtrB (c.R a),PtrB (c.R b)] V xa xb none os->Calls Tryz.prog 143 #[.slice ta u.length tc] V fun e w5=>∃ v,e=.returned v/\LS w c q r a b u [.slice ta u.length tc,PtrB (c.R a),PtrB (c.R b)] w5 xa xb (some (v,false)) os):=fun V xa xb os h=>h.clone hI ht hta h0 hl
  have HI:=hide hI
  have HFIN:Hid (∀ (X:World) (xa xb n:Nat) (v:Value),LS w c q r a b u [.slice ta u.length tc,PtrB (c.R a),PtrB (c.R b)] X (some xa) (some xb) (some (v,true)) (some n)->∃ ta' tc',v=.slice ta' (u.length+1) tc'/\∀ V:World,SameH V (((X.setCell ⟨S+1,0,none⟩ v).setCell ⟨S+1,1,none⟩ (PtrB xa)).setCell ⟨S+1,2,none⟩ (PtrB xb))->LongQ w c q r a b u (.returned (.agg #[v,PtrB xa,PtrB xb])) V):=fun X xa xb n v h=>by
    obtain ⟨c',hh,h1,h2⟩:=h.ex
    obtain ⟨ja,j1,rfl,j3,j4⟩:=h1 xa rfl
    obtain ⟨jb,k1,rfl,k3,k4⟩:=h2 xb rfl
    have hown:X.ownsRow (w.heap.size+2) 21 1 v (u.length+1) (rnsV (u++[r])):=h.txt v true rfl
    rcases hown.2 with ⟨_,h9⟩ | ⟨g,cap,cur,hv,hb9,hg9,r9⟩
    · omega
    refine ⟨some ⟨g,0,none⟩,cap,hv,fun V hV=>?_⟩
    have hlt:=h.res.lt
    have hoth:∀ k,k≠S+1->V.heap[k]?=X.heap[k]?:=fun k hk=>by rw [hV.1];exact (Below.heap_setCell _ _ _ _ hk).trans ((Below.heap_setCell _ _ _ _ hk).trans (Below.heap_setCell _ _ _ _ hk))
    have hsz:V.heap.size=X.heap.size:=by rw [hV.1];simp [World.setCell]
    have hgx:=(hown.lt g (by rw [hv];rfl)).2
    have hfin:HoldY w c V c' (q+costM (sz c.T a)+costM (sz c.T b)) (fun _=>False):=by
      refine HoldY.turn (w5:=X) (Y:=fun g=>g=w.heap.size+1\/∃ t,some (v,true)=some t/\some g=t.1.ownBlock) (by simpa using hh) (fun k hk=>?_) HI.out.seven (by omega) (fun k hk hn=>hoth k (fun e=>hn (.inl (by omega)))) hV.2.1 hV.2.2.1 hV.2.2.2 (fun k hk=>hk.elim)
      rcases hk with rfl | ⟨t,e,hk⟩
      · omega
      · injection e with e
        subst e
        have:=(hown.lt k hk.symm).1
        omega
    have hmk:MkI V c' (q+costM (sz c.T a)+costM (sz c.T b)):=by
      have:=hfin.mk.turn (w':=V) (X':=c'.X) (Nat.le_refl _) (fun _ _ _=>rfl) (fun g hx=>⟨.inl (.inl hx),(hfin.mk.xs g (.inl hx)).1,hfin.mk.low g (.inr (.inl hx))⟩)
      exact this
    refine ⟨c',ja,jb,some ⟨g,0,none⟩,cap,by rw [hv],hmk,hfin.gone,j1,k1,j3,j4,k3,k4,⟨some ⟨g,0,none⟩,cap,by rw [List.length_append];rfl,fun j x hj=>⟨g,0,rfl,by omega,?_⟩⟩,fun o ho=>?_⟩
    · have hc:=hown.cells (g:=g) (by rw [hv];rfl) j (.int .i32 x) (by unfold rnsV;rw [List.getElem?_map,hj];rfl)
      rw [Addr.add_lit] at hc
      exact (World.cell?_of_block (w:=X) (w':=V) (a:=⟨g,0+j,none⟩) (hoth g (by omega))).trans hc
    · injection ho with ho
      subst ho
      exact ⟨by show w.heap.size<=g;omega,by show g<V.heap.size;omega⟩
  have HW0:=hide hW0
  clear hI hP ha hb ht hta h0 hq hza hzb hW0 hB0 hx hrs ya yb hal haS hbl hbS hr
  go_enter Tryz.func95,Tryz.ntmps95
  go_wp2_with fail
  rw [HW0.out]
  try simp only [hS]
  obtain ⟨e0,e1,e2,f0,f1,f2,l1⟩:=HRES.out _ _ _ _ _ HS.out
  go_region_held3 (fun w'=>w'.cell? ⟨S,0,none⟩=some (.slice ta u.length tc)/\w'.cell? ⟨S,1,none⟩=some (PtrB (c.R a))/\w'.cell? ⟨S,2,none⟩=some (PtrB (c.R b))/\w'.cell? ⟨c.R a,4,none⟩=some (.func (.func 220) #[] #[PtrB ka,PtrB kka])/\w'.cell? ⟨c.R b,4,none⟩=some (.func (.func 220) #[] #[PtrB kb,PtrB kkb]))
    (first | exact HELD0.out _ _ _ _ _ (LS.next HS.out (by first | with_reducible exact nx1 _ _ _ _ | with_reducible exact nx0 _ _ _ | with_reducible exact nx3 _ _ _ | with_reducible exact nx2 _ _ | with_reducible exact nx4 _ _ _ | with_reducible exact nx5 _ _ _ | with_reducible exact nx6 _ _ | with_reducible exact nx7 _ _)) | exact HELD.out _ _ _ _ _ _ HS.out (fun g hg=>by first | with_reducible exact hs5 _ _ _ _ _ g hg | with_reducible exact hs3 _ _ _ _ _ _ g hg | with_reducible exact hs4 _ _ _ _ _ _ g hg))
    (first
      | (go_at_call 143;with_reducible refine (HC.out _ _ _ _ (LS.next HS.out (by first | with_reducible exact nx1 _ _ _ _ | with_reducible exact nx0 _ _ _ | with_reducible exact nx3 _ _ _ | with_reducible exact nx2 _ _ | with_reducible exact nx4 _ _ _ | with_reducible exact nx5 _ _ _ | with_reducible exact nx6 _ _ | with_reducible exact nx7 _ _))).mono ?_;rintro e w5 ⟨v7,rfl,hS5⟩;have HS:=hide hS5;clear hS5;obtain ⟨e0,e1,e2,f0,f1,f2,l1⟩:=HRES.out _ _ _ _ _ HS.out)
      | (go_at_call 220;with_reducible refine (HA.out _ _ _ _ (LS.next HS.out (by first | with_reducible exact nx1 _ _ _ _ | with_reducible exact nx0 _ _ _ | with_reducible exact nx3 _ _ _ | with_reducible exact nx2 _ _ | with_reducible exact nx4 _ _ _ | with_reducible exact nx5 _ _ _ | with_reducible exact nx6 _ _ | with_reducible exact nx7 _ _))).mono ?_;rintro e w5 ⟨xA,rfl,hS5⟩;have HS:=hide hS5;clear hS5;obtain ⟨e0,e1,e2,f0,f1,f2,l1⟩:=HRES.out _ _ _ _ _ HS.out)
      | (go_at_call 220;with_reducible refine (HB.out _ _ _ _ (LS.next HS.out (by first | with_reducible exact nx1 _ _ _ _ | with_reducible exact nx0 _ _ _ | with_reducible exact nx3 _ _ _ | with_reducible exact nx2 _ _ | with_reducible exact nx4 _ _ _ | with_reducible exact nx5 _ _ _ | with_reducible exact nx6 _ _ | with_reducible exact nx7 _ _))).mono ?_;rintro e w5 ⟨xB,rfl,hS5⟩;have HS:=hide hS5;clear hS5;obtain ⟨e0,e1,e2,f0,f1,f2,l1⟩:=HRES.out _ _ _ _ _ HS.out)
      | (refine LS.app (LS.next HS.out (by first | with_reducible exact nx1 _ _ _ _ | with_reducible exact nx0 _ _ _ | with_reducible exact nx3 _ _ _ | with_reducible exact nx2 _ _ | with_reducible exact nx4 _ _ _ | with_reducible exact nx5 _ _ _ | with_reducible exact nx6 _ _ | with_reducible exact nx7 _ _)) HI.out hl rfl rfl (by simp [Act.eval]) (by simp [Act.eval]) ?_;intro v8 w8 hS5;obtain ⟨ta8,tc8,hv8⟩:=hS5.form;subst hv8;have HS:=hide hS5;clear hS5;obtain ⟨e0,e1,e2,f0,f1,f2,l1⟩:=HRES.out _ _ _ _ _ HS.out))
  all_goals (obtain ⟨ta',tc',hv9,hfin⟩:=HFIN.out _ _ _ _ _ HS.out;have HF:=hide hfin;clear hfin;go_wp2_with fail;refine bodyPost_ret (v:=.agg #[.slice ta8 (u.length+1) tc8,PtrB xA,PtrB xB]) (by simp [results,Tryz.results95,go_sem,e0,e1,e2]) rfl ?_;exact HF.out _ ⟨rfl,rfl,rfl,rfl⟩)
end Go.Proofs.YtpoibdhhcbelnaaGreatDoor
namespace Go.Proofs.YtpoibdhhcbelnaaGreatDoor
open Go.Shelf Go.RowKit Go.Lib Go.Sort Brm
def maxA {α:Type}(f:α->Nat):List α->Nat
  | []=>0
  | a::l=>max (f a) (maxA f l)
def sumA {α:Type}(f:α->Nat):List α->Nat
  | []=>0
  | a::l=>f a+sumA f l
def orA (l:List Me):Me:=⟨max 1 (maxA (·.n) l),max 1 (maxA (·.p) l),max 1 (sumA (·.y) l),max 1 (sumA (·.z) l)⟩
namespace Brm
mutual
def Pat.me:Pat->Me
  | .set _=>oneM
  | .row l=>rwsM (meL l)
  | .or l=>orA (meL l)
  | .and l=>notM (orA ((meL l).map notM))
  | .not p=>notM p.me
  | .many p _ _=>manyM p.me
  | .group p=>p.me
def meL:List Pat->List Me
  | []=>[]
  | p::l=>p.me::meL l
end
mutual
def Pat.co:Pat->Nat
  | .set _=>1
  | .row l=>coL l+sumA (·.n) (meL l)
  | .or l=>coL l+1
  | .and l=>coL l+l.length+2
  | .not p=>p.co+1
  | .many p _ _=>p.co+1
  | .group p=>p.co
def coL:List Pat->Nat
  | []=>0
  | p::l=>p.co+coL l
end
end Brm
theorem meL_map:∀ l:List Pat,meL l=l.map Pat.me
  | []=>rfl
  | p::l=>by simp only [meL,List.map_cons,meL_map l]
theorem coL_take {l:List Pat}{i:Nat}{p:Pat}(h:l[i]?=some p):coL (l.take (i+1))=coL (l.take i)+p.co:=by
  rw [take_snocL h]
  have:∀ (a:List Pat) (p:Pat),coL (a++[p])=coL a+p.co:=by
    intro a p
    induction a with
    | nil=>simp [coL]
    | cons b a ih=>simp only [List.cons_append,coL,ih];omega
  exact this _ _
theorem coL_le:∀ (l:List Pat) (i:Nat),coL (l.take i)<=coL l
  | [],i=>by simp [coL]
  | p::l,0=>by simp [coL]
  | p::l,i+1=>by simp only [List.take_succ_cons,coL];have:=coL_le l i;omega
theorem All2.sumA {β:Type}{f:Nat->Nat}{g:β->Nat}:∀ {l:List Nat} {m:List β},All2 (fun a b=>f a<=g b) l m->sumL f l<=sumA g m
  | [],[],_=>Nat.le_refl _
  | a::l,b::m,h=>by simp only [sumL,Go.Proofs.YtpoibdhhcbelnaaGreatDoor.sumA];have:=h.1;have:=All2.sumA h.2;omega
  | [],_::_,h=>h.elim
  | _::_,[],h=>h.elim
theorem All2.maxA {β:Type}{f:Nat->Nat}{g:β->Nat}:∀ {l:List Nat} {m:List β},All2 (fun a b=>f a<=g b) l m->maxL f l<=maxA g m
  | [],[],_=>Nat.le_refl _
  | a::l,b::m,h=>by simp only [maxL,Go.Proofs.YtpoibdhhcbelnaaGreatDoor.maxA];have:=h.1;have:=All2.maxA h.2;omega
  | [],_::_,h=>h.elim
  | _::_,[],h=>h.elim
theorem All2.orA {f:Nat->Me}{l:List Nat}{m:List Me}(h:All2 (fun a b=>f a<=b) l m):Go.Proofs.YtpoibdhhcbelnaaGreatDoor.orM f l<=orA m:=by
  have h1:=All2.maxA (f:=fun a=>(f a).n) (g:=fun a:Me=>a.n) (h.imp fun a b _ k=>k.1)
  have h2:=All2.maxA (f:=fun a=>(f a).p) (g:=fun a:Me=>a.p) (h.imp fun a b _ k=>k.2.1)
  have h3:=All2.sumA (f:=fun a=>(f a).y) (g:=fun a:Me=>a.y) (h.imp fun a b _ k=>k.2.2.1)
  have h4:=All2.sumA (f:=fun a=>(f a).z) (g:=fun a:Me=>a.z) (h.imp fun a b _ k=>k.2.2.2)
  refine ⟨?_,?_,?_,?_⟩<;>simp only [Go.Proofs.YtpoibdhhcbelnaaGreatDoor.orM,Go.Proofs.YtpoibdhhcbelnaaGreatDoor.orA]<;>omega
theorem All2.map {α β γ:Type}{P:α->β->Prop}{g:γ->β}:∀ {l:List α} {m:List γ},All2 (fun a c=>P a (g c)) l m->All2 P l (m.map g)
  | [],[],_=>trivial
  | _::_,_::_,h=>⟨h.1,All2.map h.2⟩
  | [],_::_,h=>h.elim
  | _::_,[],h=>h.elim
theorem All2.rwsM {f:Nat->Me}:∀ {l:List Nat} {m:List Me},All2 (fun a b=>f a<=b) l m->rwsM (l.map f)<=rwsM m
  | [],[],_=>Me.refl _
  | [a],[b],h=>h.1
  | a::a'::l,b::b'::m,h=>by
    have ih:=All2.rwsM (l:=a'::l) (m:=b'::m) h.2
    exact pairM_mono h.1 ih
  | [],_::_,h=>h.elim
  | _::_,[],h=>h.elim
  | [_],_::_::_,h=>h.2.elim
  | _::_::_,[_],h=>h.2.elim
theorem All2.rwsL {F:Nat->Lg}:∀ {l:List Nat} {m:List Pat},All2 (fun a b=>F a=b.Mt) l m->rwsL (l.map F)=fun u=>MtRow m u
  | [],[],_=>by funext u;simp [Go.Proofs.YtpoibdhhcbelnaaGreatDoor.rwsL,MtRow,emptyL]
  | a::l,b::m,h=>by
    have ih:=All2.rwsL h.2
    funext u
    simp only [List.map_cons,Go.Proofs.YtpoibdhhcbelnaaGreatDoor.rwsL,ih,h.1,pairL,MtRow]
  | [],_::_,h=>h.elim
  | _::_,[],h=>h.elim
theorem row_z:∀ (l:List Me),(∀ a∈l,oneM<=a)->(∀ a∈l,a.z<=(rwsM l).z)/\oneM<=rwsM l
  | [],_=>⟨fun a h=>by simp at h,Me.refl _⟩
  | [a],h=>⟨fun b hb=>by simp at hb;subst hb;exact Nat.le_refl _,h a (by simp)⟩
  | a::b::l,h=>by
    obtain ⟨h1,h2⟩:=row_z (b::l) (fun x hx=>h x (by simp [hx]))
    have ha:=h a (by simp)
    refine ⟨fun x hx=>?_,?_⟩
    · show x.z<=a.z+(rwsM (b::l)).z
      rcases List.mem_cons.1 hx with rfl | hx
      · omega
      · have:=h1 x hx;omega
    · obtain ⟨a1,a2,a3,a4⟩:=ha
      obtain ⟨b1,b2,b3,b4⟩:=h2
      refine ⟨?_,?_,?_,?_⟩<;>simp only [rwsM,pairM,oneM] at *<;>omega
theorem le_sumA {α:Type}{f:α->Nat}:∀ {l:List α} {a:α},a∈l->f a<=sumA f l
  | b::l,a,h=>by
    unfold sumA
    rcases List.mem_cons.1 h with rfl | h
    · omega
    · have:=le_sumA (f:=f) h;omega
mutual
theorem me_one:∀ p:Pat,oneM<=p.me
  | .set _=>Me.refl _
  | .row l=>(row_z (meL l) (meL_one l)).2
  | .or l=>⟨by simp only [Pat.me,orA,oneM];omega,by simp only [Pat.me,orA,oneM];omega,by simp only [Pat.me,orA,oneM];omega,by simp only [Pat.me,orA,oneM];omega⟩
  | .and l=>⟨by simp only [Pat.me,notM,orA,oneM];omega,by simp only [Pat.me,notM,orA,oneM];omega,by simp only [Pat.me,notM,orA,oneM];omega,by simp only [Pat.me,notM,orA,oneM];omega⟩
  | .not p=>Me.trans (me_one p) (le_notM _)
  | .many p _ _=>⟨by simp only [Pat.me,manyM,oneM];omega,by simp only [Pat.me,manyM,oneM];omega,by simp only [Pat.me,manyM,oneM];omega,by simp only [Pat.me,manyM,oneM];omega⟩
  | .group p=>me_one p
theorem meL_one:∀ (l:List Pat),∀ a∈meL l,oneM<=a
  | [],a,h=>by simp [meL] at h
  | p::l,a,h=>by
    simp only [meL] at h
    rcases List.mem_cons.1 h with rfl | h
    · exact me_one p
    · exact meL_one l a h
end
theorem mem_meL {l:List Pat}{p:Pat}(h:p∈l):p.me∈meL l:=by rw [meL_map];exact List.mem_map_of_mem h
def OfOk (p:Pat):Prop:=∀ (w:World) (c:MC) (q b:Nat) (A:Nat->Prop),MkI w c q->PowT w->PN w A p b->(∀ g,A g->g<w.heap.size/\¬ c.S g)->q+p.co<=9000000000000000000->p.me.z<=3000000000000 ->
  Calls Tryz.prog 92 #[PtrB c.m,PtrB b] w (GivesL w c (q+p.co) p.Mt p.me)
structure Parts (w:World)(c:MC)(q:Nat)(l:List Pat)(lv:Value)(wr:World)(ci:MC)(ds:List Nat)(pa:Option Addr)(pc:Nat):Prop where
  intro ::
  v:lv=.slice pa ds.length pc
  mk:MkI wr ci (q+coL l)
  gone:Gone w c wr ci
  lt:∀ d∈ds,d<ci.T.length
  all:All2 (fun d (a:Pat)=>lg ci.T d=a.Mt/\sz ci.T d<=a.me) ds l
  at_:PartsAt wr ci.S ci.R pa ds
theorem Parts.len {w:World}{c:MC}{q:Nat}{l:List Pat}{lv:Value}{wr:World}{ci:MC}{ds:List Nat}{pa:Option Addr}{pc:Nat}(h:Parts w c q l lv wr ci ds pa pc):ds.length=l.length:=h.all.len
theorem PL.get {w:World}{A:Nat->Prop}:∀ {l:List Pat} {xs:List Nat},PL w A l xs->∀ {i:Nat} {p:Pat},l[i]?=some p->∃ x,xs[i]?=some x/\PN w A p x
  | [],xs,h,i,p,hp=>by simp at hp
  | q::l,xs,h,0,p,hp=>by
    obtain ⟨x,r,rfl,h1,h2⟩:=h
    simp at hp;subst hp
    exact ⟨x,rfl,h1⟩
  | q::l,xs,h,i+1,p,hp=>by
    obtain ⟨x,r,rfl,h1,h2⟩:=h
    simp at hp
    obtain ⟨y,hy,hn⟩:=PL.get h2 hp
    exact ⟨y,by simpa using hy,hn⟩
theorem PL.leng {w:World}{A:Nat->Prop}:∀ {l:List Pat} {xs:List Nat},PL w A l xs->xs.length=l.length
  | [],xs,h=>by rw [show xs=[] from h];rfl
  | q::l,xs,h=>by obtain ⟨x,r,rfl,h1,h2⟩:=h;simp [PL.leng h2]
theorem Gone.keeps {w wr:World}{c ci:MC}{A:Nat->Prop}(h:Gone w c wr ci)(hA:∀ g,A g->g<w.heap.size/\¬ c.S g):Keeps A w wr:=⟨h.but.size,fun k hk ha=>h.but.block k hk (hA k ha).2⟩
end Go.Proofs.YtpoibdhhcbelnaaGreatDoor
namespace Go.Proofs.YtpoibdhhcbelnaaGreatDoor
open Go.Shelf Go.RowKit Go.Lib Go.Sort Brm
theorem of_step {w:World}{c:MC}{q:Nat}{A:Nat->Prop}{l:List Pat}{lv0:Value}{xs:List Nat}(ih:∀ p∈l,OfOk p)(hI:MkI w c q)(hP:PowT w)(hA:∀ g,A g->g<w.heap.size/\¬ c.S g)(hO:Own w A 65 1 lv0 l.length (xs.map Ptr))(hL:PL w A l xs)(hq:q+coL l<=9000000000000000000)(hz:∀ p∈l,p.me.z<=3000000000000)(wr:World)(lv:Value)(i:Nat)(ci:MC)(ds:List Nat)(hi:i<l.length)(hh:HoldX w c wr ci (q+coL (l.take i)) lv.ownBlock)(hd:∀ d∈ds,d<ci.T.length)(h2:All2 (fun d (a:Pat)=>lg ci.T d=a.Mt/\sz ci.T d<=a.me) ds (l.take i))(hown:wr.ownsRow w.heap.size 159 1 lv i (ds.map fun p=>PtrB (ci.R p))) :
    ∃ g cap x,lv0=.slice (some ⟨g,0,none⟩) l.length cap/\g<wr.heap.size/\wr.cell? ⟨g,i,none⟩=some (PtrB x) /\
      Calls Tryz.prog 92 #[PtrB c.m,PtrB x] wr (fun r9 w5=>∃ x,r9=.returned (PtrB x)/\w5.ownsRow w.heap.size 159 1 lv i (ds.map fun p=>PtrB (ci.R p))/\w.heap.size<=w5.heap.size/\Hid (∀ v' w6,w6.ownsRow w.heap.size 159 1 v' (i+1) ((ds.map fun p=>PtrB (ci.R p))++[PtrB x])->(w5.alloc (.cells #[PtrB x] 159)).grownBy w6 lv.ownBlock->(∀ g,v'.ownBlock=some g->lv.ownBlock=some g\/(w5.alloc (.cells #[PtrB x] 159)).heap.size<=g)->RmI Pat.Mt Pat.me (fun i=>q+coL (l.take i)) w c l (l.length-(i+1)) v' (.int .i64 ((i+1:Nat):Int)) w6)):=by
  obtain ⟨p,hp⟩:∃ p,l[i]?=some p:=⟨_,List.getElem?_eq_getElem hi⟩
  obtain ⟨x,hx,hN⟩:=hL.get hp
  have hpm:=List.mem_of_getElem? hp
  have hkeep:=hh.gone.keeps hA
  have hct:=coL_take hp
  have hcl:=coL_le l (i+1)
  rcases hO.1.2 with ⟨_,h0⟩ | ⟨g,cap,cur,hv,hb,hg,r⟩
  · omega
  have hAg:=hO.2 g (by rw [hv];rfl)
  obtain ⟨hgl,hgS⟩:=hA g hAg
  have hcell:w.cell? ⟨g,i,none⟩=some (PtrB x):=by
    have:=hO.1.cells (g:=g) (by rw [hv];rfl) i (PtrB x) (by rw [List.getElem?_map,hx];rfl)
    rw [Addr.add_lit,Nat.zero_add] at this
    exact this
  have hs:=hh.gone.but.size
  refine ⟨g,cap,x,hv,by omega,(hh.gone.but.cell (p:=⟨g,i,none⟩) hgl hgS).trans hcell,?_⟩
  have hPr:PowT wr:=hh.gone.pow hI hP
  have hM:(ci.wX lv.ownBlock).m=c.m:=hh.gone.m
  have hAr:∀ g,A g->g<wr.heap.size/\¬ (ci.wX lv.ownBlock).S g:=fun g hg=>by
    obtain ⟨h1,h2⟩:=hA g hg
    refine ⟨by omega,?_⟩
    have h3:=hh.gone.notS h1 h2
    rintro (e | e | e)
    · exact h3 (.inl e)
    · exact h3 (.inr e)
    · have:=(hown.lt g e.symm).1
      omega
  have hcall:=ih p hpm wr (ci.wX lv.ownBlock) _ x A hh.mk hPr (PN.keep hkeep p x hN) hAr (by omega) (hz p hpm)
  rw [hM] at hcall
  refine hcall.mono fun r9 w5 hg=>?_
  obtain ⟨x,h1,h3,h4,_,h5⟩:=RmI.call (F:=Pat.Mt) (G:=Pat.me) (Q:=fun i=>q+coL (l.take i)) hI.seven hh hd h2 hown hp (by
    show GivesL wr (ci.wX lv.ownBlock) (q+coL (l.take (i+1))) p.Mt p.me r9 w5
    rw [hct,<- Nat.add_assoc]
    exact hg)
  exact ⟨x,h1,h3,h4,h5⟩
theorem of_parts {w:World}{c:MC}{q:Nat}{l:List Pat}(hI:MkI w c q){wr:World}{lv:Value}{ci:MC}{ds:List Nat}(hh:HoldX w c wr ci (q+coL l) lv.ownBlock)(hd:∀ d∈ds,d<ci.T.length)(h2:All2 (fun d (a:Pat)=>lg ci.T d=a.Mt/\sz ci.T d<=a.me) ds l)(hown:wr.ownsRow w.heap.size 159 1 lv l.length (ds.map fun p=>PtrB (ci.R p))):∃ pa pc,Parts w c q l lv wr ci ds pa pc:=by
  obtain ⟨hI',hgo,pa,pc,hv,hparts⟩:=HoldX.done hI hh hown
  exact ⟨pa,pc,hv,hI',hgo,hd,h2,hparts⟩
end Go.Proofs.YtpoibdhhcbelnaaGreatDoor
namespace Go.Proofs.YtpoibdhhcbelnaaGreatDoor
open Go.Shelf Go.RowKit Go.Lib Go.Sort Brm
set_option maxRecDepth 100000 in
set_option maxHeartbeats 4000000 in
theorem ofp_row {w:World}{ex:List Value}{tt:TypeId}{c:MC}{q b:Nat}{A:Nat->Prop}{l:List Pat}{lv0:Value}{xs:List Nat}(ih:∀ p∈l,OfOk p)(hI:MkI w c q)(hP:PowT w)(hA:∀ g,A g->g<w.heap.size/\¬ c.S g)(hb:A b)(hnb:Blk w b ([.int .i64 1,.slice none 0 0,lv0,.int .i64 0,.int .i64 0]++ex) tt)(hO:Own w A 65 1 lv0 l.length (xs.map Ptr))(hL:PL w A l xs)(h100:l.length<=100)(hz:∀ p∈l,p.me.z<=3000000000000)(hq:q+(Pat.row l).co<=9000000000000000000) :
    Calls Tryz.prog 92 #[PtrB c.m,PtrB b] w (GivesL w c (q+(Pat.row l).co) (Pat.row l).Mt (Pat.row l).me):=by
  obtain ⟨i0,hi,hz0,hz1,hz2⟩:=info_parts Tryz.info159r
  have hbl:=hnb.lt
  have y2:w.cell? ⟨b,2,none⟩=some lv0:=hnb.cell 2
  have HSTEP:=hide (of_step (lv0:=lv0) (xs:=xs) ih hI hP hA hO hL (by have:(Pat.row l).co=coL l+sumA (·.n) (meL l):=rfl;omega) hz)
  have HNOD:Hid (∀ (wr:World) (ci:MC) (q':Nat) (o:Option Nat),HoldX w c wr ci q' o->Blk wr b ([.int .i64 1,.slice none 0 0,lv0,.int .i64 0,.int .i64 0]++ex) tt/\w.heap.size<=wr.heap.size):=fun wr ci q' o hh=>⟨(hh.gone.but.block b hbl (hA b hb).2).trans hnb,hh.gone.but.size⟩
  have HLV:Hid (∃ ao cap,lv0=.slice ao l.length cap):=by
    rcases hO.1.2 with ⟨h1,h0⟩ | ⟨g,cap,cur,hv,_⟩
    · exact ⟨none,0,by rw [h0];exact h1⟩
    · exact ⟨_,_,hv⟩
  have HPRT:=hide (fun (wr:World) (lv:Value) (ci:MC) (ds:List Nat)=>of_parts (w:=w) (c:=c) (q:=q) (l:=l) (wr:=wr) (lv:=lv) (ci:=ci) (ds:=ds) hI)
  have HEND:Hid (∀ (wr:World) (ci:MC) (ds:List Nat) (pa:Option Addr) (pc:Nat),Parts w c q l (.slice pa ds.length pc) wr ci ds pa pc->Calls Tryz.prog 138 #[PtrB c.m,.slice pa ds.length pc] wr (GivesL w c (q+(Pat.row l).co) (Pat.row l).Mt (Pat.row l).me)):=fun wr ci ds pa pc h=>by
    have hsum:sumL (fun a=>(sz ci.T a).n) ds<=sumA (·.n) (meL l):=by
      rw [meL_map]
      exact All2.sumA (f:=fun a=>(sz ci.T a).n) (g:=fun a:Me=>a.n) (All2.map (P:=fun a (b:Me)=>(sz ci.T a).n<=b.n) (h.all.imp fun a b _ k=>k.2.1))
    have hco:(Pat.row l).co=coL l+sumA (·.n) (meL l):=rfl
    have hc:=mkrow_any (pc:=pc) h.mk (h.gone.pow hI hP) h.lt h.at_ (by rw [h.len];omega) (by omega)
    rw [h.gone.m] at hc
    refine hc.mono ?_
    rintro r9 w9 ⟨c9,j9,rfl,hI9,hG9,hj9,hL9,hZ9⟩
    refine ⟨c9,j9,rfl,hI9.more (by omega),h.gone.trans hG9,hj9,?_,?_⟩
    · rw [hL9]
      exact All2.rwsL (F:=lg ci.T) (h.all.imp fun a b _ k=>k.1)
    · refine Me.trans hZ9 ?_
      show _<=rwsM (meL l)
      rw [meL_map]
      exact All2.rwsM (f:=sz ci.T) (All2.map (P:=fun a (b:Me)=>sz ci.T a<=b) (h.all.imp fun a b _ k=>k.2))
  have HST:Hid (RmI Pat.Mt Pat.me (fun i=>q+coL (l.take i)) w c l l.length (.slice none 0 0) (.int .i64 0) w):=RmI.start (by simpa [coL] using hI) (Below.refl _ _)
  obtain ⟨ao0,cap0,hlv⟩:=HLV.out
  subst hlv
  clear ih hI hP hA hb hnb hO hL hz hq HLV
  go_enter Tryz.func92,Tryz.ntmps92
  go_wp2_with fail
  go_loopg [5,13] l.length (fun j lv iv wr=>RmI Pat.Mt Pat.me (fun i=>q+coL (l.take i)) w c l j lv iv wr)
  case atStart=>exact HST.out
  case round =>
    obtain ⟨i,ci,ds,rfl,hil,hj,hh,hd,h2,hown⟩:=hrel
    have k0:(0:Int)<=(i:Int):=Int.natCast_nonneg _
    obtain ⟨hnb,hs1⟩:=HNOD.out wr ci _ _ hh
    by_cases hlt:i<l.length
    · have k1:(i:Int)<(l.length:Int):=by omega
      obtain ⟨g,cap,x,hlv,hgl,hcp,hcall⟩:=HSTEP.out wr _ i ci ds hlt hh hd h2 hown
      cases hlv
      have hcp':wr.cell? ⟨g,0+i,none⟩=some (PtrB x):=by rw [Nat.zero_add];exact hcp
      have HC:=hide hcall
      clear hcall hh hd h2 hown hnb
      go_wp2_with fail
      refine HC.out.mono ?_
      rintro r9 w5 ⟨x,rfl,hown5,hs5,HN⟩
      have HO5:=hide (hown5.alloc (.cells #[PtrB x] 159))
      clear hown5
      go_wp2_with (at_builtin;refine wpList_append_moves rfl _ _ 166 rfl w.heap.size 159 i0 (.pointer none) 1 8 Tryz.underlying166 hi hz0 hz1 hz2 rfl (by decide) _ _ _ rfl HO5.out ⟨w5.heap.size,0,none⟩ 1 1 [PtrB x] rfl rfl (one_ptrR2 _ _) (by simp [Value.oneCell']) (by unfold maxLen;omega) (by omega) (by simp;omega) ?_;intro v' w6 hown' hgrow hmv;have H6:=hide (HN.out v' w6 hown' hgrow hmv);clear hown' hgrow hmv)
      go_roundg (l.length-(i+1))
      all_goals first | omega | exact H6.out
    · have d1:decide ((i:Int)<(l.length:Int))=false:=decide_eq_false (by omega)
      have hie:i=l.length:=by omega
      subst hie
      rw [List.take_length] at h2
      simp only [List.take_length] at hh
      obtain ⟨pa,pc,hPT⟩:=HPRT.out wr _ ci ds hh hd h2 hown
      have hv5:=hPT.v
      subst hv5
      have x0:wr.cell? ⟨b,0,none⟩=some (.int .i64 1):=hnb.cell 0
      have hbl':=hnb.lt
      have HE:=hide (HEND.out wr ci ds pa pc hPT)
      clear hh hd h2 hown hPT hnb
      go_wp2_with fail
      refine HE.out.mono ?_
      intro r9 w9 h9
      have HG9:=hide h9
      obtain ⟨c9,j9,rfl,h10⟩:=h9
      clear h10
      go_wp2_with fail
      go_ret
      exact HG9.out
end Go.Proofs.YtpoibdhhcbelnaaGreatDoor
namespace Go.Proofs.YtpoibdhhcbelnaaGreatDoor
open Go.Shelf Go.RowKit Go.Lib Go.Sort Brm
set_option maxRecDepth 100000 in
set_option maxHeartbeats 4000000 in
theorem ofp_or {w:World}{ex:List Value}{tt:TypeId}{c:MC}{q b:Nat}{A:Nat->Prop}{l:List Pat}{lv0:Value}{xs:List Nat}(ih:∀ p∈l,OfOk p)(hI:MkI w c q)(hP:PowT w)(hA:∀ g,A g->g<w.heap.size/\¬ c.S g)(hb:A b)(hnb:Blk w b ([.int .i64 2,.slice none 0 0,lv0,.int .i64 0,.int .i64 0]++ex) tt)(hO:Own w A 65 1 lv0 l.length (xs.map Ptr))(hL:PL w A l xs)(h100:l.length<=100)(hz:∀ p∈l,p.me.z<=3000000000000)(hzz:(Pat.or l).me.z<=3000000000000)(hq:q+(Pat.or l).co<=9000000000000000000) :
    Calls Tryz.prog 92 #[PtrB c.m,PtrB b] w (GivesL w c (q+(Pat.or l).co) (Pat.or l).Mt (Pat.or l).me):=by
  obtain ⟨i0,hi,hz0,hz1,hz2⟩:=info_parts Tryz.info159r
  have hbl:=hnb.lt
  have y2:w.cell? ⟨b,2,none⟩=some lv0:=hnb.cell 2
  have HSTEP:=hide (of_step (lv0:=lv0) (xs:=xs) ih hI hP hA hO hL (by have:(Pat.or l).co=coL l+1:=rfl;omega) hz)
  have HNOD:Hid (∀ (wr:World) (ci:MC) (q':Nat) (o:Option Nat),HoldX w c wr ci q' o->Blk wr b ([.int .i64 2,.slice none 0 0,lv0,.int .i64 0,.int .i64 0]++ex) tt/\w.heap.size<=wr.heap.size):=fun wr ci q' o hh=>⟨(hh.gone.but.block b hbl (hA b hb).2).trans hnb,hh.gone.but.size⟩
  have HLV:Hid (∃ ao cap,lv0=.slice ao l.length cap):=by
    rcases hO.1.2 with ⟨h1,h0⟩ | ⟨g,cap,cur,hv,_⟩
    · exact ⟨none,0,by rw [h0];exact h1⟩
    · exact ⟨_,_,hv⟩
  have HPRT:=hide (fun (wr:World) (lv:Value) (ci:MC) (ds:List Nat)=>of_parts (w:=w) (c:=c) (q:=q) (l:=l) (wr:=wr) (lv:=lv) (ci:=ci) (ds:=ds) hI)
  have HEND:Hid (∀ (wr:World) (ci:MC) (ds:List Nat) (pa:Option Addr) (pc:Nat),Parts w c q l (.slice pa ds.length pc) wr ci ds pa pc->Calls Tryz.prog 128 #[PtrB c.m,.slice pa ds.length pc] wr (GivesL w c (q+(Pat.or l).co) (Pat.or l).Mt (Pat.or l).me)):=fun wr ci ds pa pc h=>by
    have hco:(Pat.or l).co=coL l+1:=rfl
    have hall:All2 (fun a (b:Me)=>sz ci.T a<=b) ds (meL l):=by
      rw [meL_map]
      exact All2.map (P:=fun a (b:Me)=>sz ci.T a<=b) (h.all.imp fun a b _ k=>k.2)
    have hsum:=All2.sumA (f:=fun a=>(sz ci.T a).z) (g:=fun a:Me=>a.z) (hall.imp fun a b _ k=>k.2.2.2)
    have hzo:sumA (·.z) (meL l)<=(Pat.or l).me.z:=by simp only [Pat.me,orA];omega
    have hc:=or_any (pc:=pc) h.mk (h.gone.pow hI hP) (by omega) h.lt h.at_ (by omega)
    rw [h.gone.m] at hc
    refine hc.mono ?_
    rintro r9 w9 ⟨c9,j9,rfl,hI9,hG9,hj9,hL9,hZ9⟩
    refine ⟨c9,j9,rfl,hI9.more (by omega),h.gone.trans hG9,hj9,?_,Me.trans hZ9 (All2.orA hall)⟩
    rw [hL9]
    funext u
    show _=MtOr l u
    rw [propext (mtOr_iff (l:=l) (t:=u))]
    refine propext ⟨?_,?_⟩
    · rintro ⟨d,hd',hu⟩
      obtain ⟨a,ha,k,_⟩:=h.all.left d hd'
      exact ⟨a,ha,by rw [<- k];exact hu⟩
    · rintro ⟨a,ha,hu⟩
      obtain ⟨d,hd',k,_⟩:=h.all.right a ha
      exact ⟨d,hd',by rw [k];exact hu⟩
  have HST:Hid (RmI Pat.Mt Pat.me (fun i=>q+coL (l.take i)) w c l l.length (.slice none 0 0) (.int .i64 0) w):=RmI.start (by simpa [coL] using hI) (Below.refl _ _)
  obtain ⟨ao0,cap0,hlv⟩:=HLV.out
  subst hlv
  clear ih hI hP hA hb hnb hO hL hz hq hzz HLV
  go_enter Tryz.func92,Tryz.ntmps92
  go_wp2_with fail
  go_loopg [5,13] l.length (fun j lv iv wr=>RmI Pat.Mt Pat.me (fun i=>q+coL (l.take i)) w c l j lv iv wr)
  case atStart=>exact HST.out
  case round =>
    obtain ⟨i,ci,ds,rfl,hil,hj,hh,hd,h2,hown⟩:=hrel
    have k0:(0:Int)<=(i:Int):=Int.natCast_nonneg _
    obtain ⟨hnb,hs1⟩:=HNOD.out wr ci _ _ hh
    by_cases hlt:i<l.length
    · have k1:(i:Int)<(l.length:Int):=by omega
      obtain ⟨g,cap,x,hlv,hgl,hcp,hcall⟩:=HSTEP.out wr _ i ci ds hlt hh hd h2 hown
      cases hlv
      have hcp':wr.cell? ⟨g,0+i,none⟩=some (PtrB x):=by rw [Nat.zero_add];exact hcp
      have HC:=hide hcall
      clear hcall hh hd h2 hown hnb
      go_wp2_with fail
      refine HC.out.mono ?_
      rintro r9 w5 ⟨x,rfl,hown5,hs5,HN⟩
      have HO5:=hide (hown5.alloc (.cells #[PtrB x] 159))
      clear hown5
      go_wp2_with (at_builtin;refine wpList_append_moves rfl _ _ 166 rfl w.heap.size 159 i0 (.pointer none) 1 8 Tryz.underlying166 hi hz0 hz1 hz2 rfl (by decide) _ _ _ rfl HO5.out ⟨w5.heap.size,0,none⟩ 1 1 [PtrB x] rfl rfl (one_ptrR2 _ _) (by simp [Value.oneCell']) (by unfold maxLen;omega) (by omega) (by simp;omega) ?_;intro v' w6 hown' hgrow hmv;have H6:=hide (HN.out v' w6 hown' hgrow hmv);clear hown' hgrow hmv)
      go_roundg (l.length-(i+1))
      all_goals first | omega | exact H6.out
    · have d1:decide ((i:Int)<(l.length:Int))=false:=decide_eq_false (by omega)
      have hie:i=l.length:=by omega
      subst hie
      rw [List.take_length] at h2
      simp only [List.take_length] at hh
      obtain ⟨pa,pc,hPT⟩:=HPRT.out wr _ ci ds hh hd h2 hown
      have hv5:=hPT.v
      subst hv5
      have x0:wr.cell? ⟨b,0,none⟩=some (.int .i64 2):=hnb.cell 0
      have hbl':=hnb.lt
      have HE:=hide (HEND.out wr ci ds pa pc hPT)
      clear hh hd h2 hown hPT hnb
      go_wp2_with fail
      refine HE.out.mono ?_
      intro r9 w9 h9
      have HG9:=hide h9
      obtain ⟨c9,j9,rfl,h10⟩:=h9
      clear h10
      go_wp2_with fail
      go_ret
      exact HG9.out
end Go.Proofs.YtpoibdhhcbelnaaGreatDoor
namespace Go.Proofs.YtpoibdhhcbelnaaGreatDoor
open Go.Shelf Go.RowKit Go.Lib Go.Sort Brm
set_option maxRecDepth 100000 in
set_option maxHeartbeats 4000000 in
theorem ofp_and {w:World}{ex:List Value}{tt:TypeId}{c:MC}{q b:Nat}{A:Nat->Prop}{l:List Pat}{lv0:Value}{xs:List Nat}(ih:∀ p∈l,OfOk p)(hI:MkI w c q)(hP:PowT w)(hA:∀ g,A g->g<w.heap.size/\¬ c.S g)(hb:A b)(hnb:Blk w b ([.int .i64 3,.slice none 0 0,lv0,.int .i64 0,.int .i64 0]++ex) tt)(hO:Own w A 65 1 lv0 l.length (xs.map Ptr))(hL:PL w A l xs)(h100:l.length<=100)(hz:∀ p∈l,p.me.z<=3000000000000)(hzz:(Pat.and l).me.z<=3000000000000)(hq:q+(Pat.and l).co<=9000000000000000000) :
    Calls Tryz.prog 92 #[PtrB c.m,PtrB b] w (GivesL w c (q+(Pat.and l).co) (Pat.and l).Mt (Pat.and l).me):=by
  obtain ⟨i0,hi,hz0,hz1,hz2⟩:=info_parts Tryz.info159r
  have hbl:=hnb.lt
  have y2:w.cell? ⟨b,2,none⟩=some lv0:=hnb.cell 2
  have HSTEP:=hide (of_step (lv0:=lv0) (xs:=xs) ih hI hP hA hO hL (by have:(Pat.and l).co=coL l+l.length+2:=rfl;omega) hz)
  have HNOD:Hid (∀ (wr:World) (ci:MC) (q':Nat) (o:Option Nat),HoldX w c wr ci q' o->Blk wr b ([.int .i64 3,.slice none 0 0,lv0,.int .i64 0,.int .i64 0]++ex) tt/\w.heap.size<=wr.heap.size):=fun wr ci q' o hh=>⟨(hh.gone.but.block b hbl (hA b hb).2).trans hnb,hh.gone.but.size⟩
  have HLV:Hid (∃ ao cap,lv0=.slice ao l.length cap):=by
    rcases hO.1.2 with ⟨h1,h0⟩ | ⟨g,cap,cur,hv,_⟩
    · exact ⟨none,0,by rw [h0];exact h1⟩
    · exact ⟨_,_,hv⟩
  have HPRT:=hide (fun (wr:World) (lv:Value) (ci:MC) (ds:List Nat)=>of_parts (w:=w) (c:=c) (q:=q) (l:=l) (wr:=wr) (lv:=lv) (ci:=ci) (ds:=ds) hI)
  have HEND:Hid (∀ (wr:World) (ci:MC) (ds:List Nat) (pa:Option Addr) (pc:Nat),Parts w c q l (.slice pa ds.length pc) wr ci ds pa pc->Calls Tryz.prog 139 #[PtrB c.m,.slice pa ds.length pc] wr (GivesL w c (q+(Pat.and l).co) (Pat.and l).Mt (Pat.and l).me)):=fun wr ci ds pa pc h=>by
    have hco:(Pat.and l).co=coL l+l.length+2:=rfl
    have hall:All2 (fun a (b:Me)=>notM (sz ci.T a)<=b) ds ((meL l).map notM):=by
      rw [meL_map]
      exact All2.map (P:=fun a (b:Me)=>notM (sz ci.T a)<=b) (All2.map (P:=fun a (b:Me)=>notM (sz ci.T a)<=notM b) (h.all.imp fun a b _ k=>notM_mono k.2))
    have hsum:=All2.sumA (f:=fun a=>(notM (sz ci.T a)).z) (g:=fun a:Me=>a.z) (hall.imp fun a b _ k=>k.2.2.2)
    have hzo:sumA (·.z) ((meL l).map notM)<=(Pat.and l).me.z:=by simp only [Pat.me,orA,notM];omega
    have hc:=and_any (pc:=pc) h.mk h.lt (h.gone.pow hI hP) h.at_ (by rw [h.len];omega) (Nat.le_trans hsum (by omega))
    rw [h.gone.m,h.len] at hc
    rw [h.len]
    refine hc.mono ?_
    rintro r9 w9 ⟨c9,j9,rfl,hI9,hG9,hj9,hL9,hZ9⟩
    refine ⟨c9,j9,rfl,hI9.more (by omega),h.gone.trans hG9,hj9,?_,Me.trans hZ9 (notM_mono (All2.orA (f:=fun a=>notM (sz ci.T a)) hall))⟩
    rw [hL9]
    funext u
    show _=MtAnd l u
    rw [propext (mtAnd_iff (l:=l) (t:=u))]
    refine propext ⟨?_,?_⟩
    · intro hu a ha
      obtain ⟨d,hd',k,_⟩:=h.all.right a ha
      rw [<- k];exact hu d hd'
    · intro hu d hd'
      obtain ⟨a,ha,k,_⟩:=h.all.left d hd'
      rw [k];exact hu a ha
  have HST:Hid (RmI Pat.Mt Pat.me (fun i=>q+coL (l.take i)) w c l l.length (.slice none 0 0) (.int .i64 0) w):=RmI.start (by simpa [coL] using hI) (Below.refl _ _)
  obtain ⟨ao0,cap0,hlv⟩:=HLV.out
  subst hlv
  clear ih hI hP hA hb hnb hO hL hz hq hzz HLV
  go_enter Tryz.func92,Tryz.ntmps92
  go_wp2_with fail
  go_loopg [5,13] l.length (fun j lv iv wr=>RmI Pat.Mt Pat.me (fun i=>q+coL (l.take i)) w c l j lv iv wr)
  case atStart=>exact HST.out
  case round =>
    obtain ⟨i,ci,ds,rfl,hil,hj,hh,hd,h2,hown⟩:=hrel
    have k0:(0:Int)<=(i:Int):=Int.natCast_nonneg _
    obtain ⟨hnb,hs1⟩:=HNOD.out wr ci _ _ hh
    by_cases hlt:i<l.length
    · have k1:(i:Int)<(l.length:Int):=by omega
      obtain ⟨g,cap,x,hlv,hgl,hcp,hcall⟩:=HSTEP.out wr _ i ci ds hlt hh hd h2 hown
      cases hlv
      have hcp':wr.cell? ⟨g,0+i,none⟩=some (PtrB x):=by rw [Nat.zero_add];exact hcp
      have HC:=hide hcall
      clear hcall hh hd h2 hown hnb
      go_wp2_with fail
      refine HC.out.mono ?_
      rintro r9 w5 ⟨x,rfl,hown5,hs5,HN⟩
      have HO5:=hide (hown5.alloc (.cells #[PtrB x] 159))
      clear hown5
      go_wp2_with (at_builtin;refine wpList_append_moves rfl _ _ 166 rfl w.heap.size 159 i0 (.pointer none) 1 8 Tryz.underlying166 hi hz0 hz1 hz2 rfl (by decide) _ _ _ rfl HO5.out ⟨w5.heap.size,0,none⟩ 1 1 [PtrB x] rfl rfl (one_ptrR2 _ _) (by simp [Value.oneCell']) (by unfold maxLen;omega) (by omega) (by simp;omega) ?_;intro v' w6 hown' hgrow hmv;have H6:=hide (HN.out v' w6 hown' hgrow hmv);clear hown' hgrow hmv)
      go_roundg (l.length-(i+1))
      all_goals first | omega | exact H6.out
    · have d1:decide ((i:Int)<(l.length:Int))=false:=decide_eq_false (by omega)
      have hie:i=l.length:=by omega
      subst hie
      rw [List.take_length] at h2
      simp only [List.take_length] at hh
      obtain ⟨pa,pc,hPT⟩:=HPRT.out wr _ ci ds hh hd h2 hown
      have hv5:=hPT.v
      subst hv5
      have x0:wr.cell? ⟨b,0,none⟩=some (.int .i64 3):=hnb.cell 0
      have hbl':=hnb.lt
      have HE:=hide (HEND.out wr ci ds pa pc hPT)
      clear hh hd h2 hown hPT hnb
      go_wp2_with fail
      refine HE.out.mono ?_
      intro r9 w9 h9
      have HG9:=hide h9
      obtain ⟨c9,j9,rfl,h10⟩:=h9
      clear h10
      go_wp2_with fail
      go_ret
      exact HG9.out
end Go.Proofs.YtpoibdhhcbelnaaGreatDoor
namespace Go.Proofs.YtpoibdhhcbelnaaGreatDoor
open Go.Shelf Go.RowKit Go.Lib Go.Sort Brm
set_option maxRecDepth 100000 in
set_option maxHeartbeats 4000000 in
theorem ofp_set {w:World}{ex:List Value}{tt:TypeId}{c:MC}{q b:Nat}{A:Nat->Prop}{s:List (Int×Int)}{sv:Value}{lv0:Value}{xs:List Nat}(ih:∀ p∈([]:List Pat),OfOk p)(hI:MkI w c q)(hP:PowT w)(hA:∀ g,A g->g<w.heap.size/\¬ c.S g)(hb:A b)(hnb:Blk w b ([.int .i64 0,sv,lv0,.int .i64 0,.int .i64 0]++ex) tt)(hO:Own w A 65 1 lv0 ([]:List Pat).length (xs.map Ptr))(hL:PL w A [] xs)(hz:∀ p∈([]:List Pat),p.me.z<=3000000000000)(hsv:SlA w A sv s)(hcan:Canon s)(hlen:s.length<=400000)(hq:q+1<=9000000000000000000) :
    Calls Tryz.prog 92 #[PtrB c.m,PtrB b] w (GivesL w c (q+1) (Pat.set s).Mt oneM):=by
  obtain ⟨i0,hi,hz0,hz1,hz2⟩:=info_parts Tryz.info159r
  have hbl:=hnb.lt
  have y2:w.cell? ⟨b,2,none⟩=some lv0:=hnb.cell 2
  have HSTEP:=hide (of_step (lv0:=lv0) (xs:=xs) ih hI hP hA hO hL (by simp only [coL];omega) hz)
  have HNOD:Hid (∀ (wr:World) (ci:MC) (q':Nat) (o:Option Nat),HoldX w c wr ci q' o->Blk wr b ([.int .i64 0,sv,lv0,.int .i64 0,.int .i64 0]++ex) tt/\w.heap.size<=wr.heap.size):=fun wr ci q' o hh=>⟨(hh.gone.but.block b hbl (hA b hb).2).trans hnb,hh.gone.but.size⟩
  have HLV:Hid (∃ ao cap,lv0=.slice ao ([]:List Pat).length cap):=by
    rcases hO.1.2 with ⟨h1,h0⟩ | ⟨g,cap,cur,hv,_⟩
    · exact ⟨none,0,by rw [h0];exact h1⟩
    · exact ⟨_,_,hv⟩
  have HPRT:=hide (fun (wr:World) (lv:Value) (ci:MC) (ds:List Nat)=>of_parts (w:=w) (c:=c) (q:=q) (l:=[]) (wr:=wr) (lv:=lv) (ci:=ci) (ds:=ds) hI)
  have HEND:Hid (∀ (wr:World) (ci:MC) (ds:List Nat) (pa:Option Addr) (pc:Nat),Parts w c q [] (.slice pa ds.length pc) wr ci ds pa pc->Calls Tryz.prog 137 #[PtrB c.m,sv] wr (GivesL w c (q+1) (Pat.set s).Mt oneM)):=fun wr ci ds pa pc h=>by
    rcases hsv with ⟨hv,hs⟩ | ⟨bb,off,cap,hv,hc,ha,hlt,hr⟩
    · subst hs
      subst hv
      have hc:=mkset_any (lc:=0) (la:=none) (l:=[]) h.mk (h.gone.pow hI hP) (by simp only [coL];omega) (fun i x hx=>by simp at hx) (fun b o e=>by cases e) hcan (by simp)
      rw [h.gone.m] at hc
      refine hc.mono ?_
      rintro r9 w9 ⟨c9,j9,rfl,hI9,hG9,hj9,hL9,hZ9⟩
      exact ⟨c9,j9,rfl,hI9.more (by simp only [coL];omega),h.gone.trans hG9,hj9,hL9,hZ9⟩
    · subst hv
      obtain ⟨h1,h2⟩:=hA bb ha
      have hr':Rd wr (some ⟨bb,off,none⟩) s:=fun i x hx=>by
        obtain ⟨b',off',e',hb',c1,c2⟩:=hr i x hx
        cases e'
        have hs:=h.gone.but.size
        exact ⟨bb,off,rfl,by omega,(h.gone.but.cell (p:=⟨bb,off+i*2,none⟩) h1 h2).trans c1,(h.gone.but.cell (p:=⟨bb,off+i*2+1,none⟩) h1 h2).trans c2⟩
      have hc:=mkset_any (lc:=cap) h.mk (h.gone.pow hI hP) (by simp only [coL];omega) hr' (fun b o e=>by cases e;have hs:=h.gone.but.size;exact ⟨by omega,h.gone.notS h1 h2⟩) hcan hlen
      rw [h.gone.m] at hc
      refine hc.mono ?_
      rintro r9 w9 ⟨c9,j9,rfl,hI9,hG9,hj9,hL9,hZ9⟩
      exact ⟨c9,j9,rfl,hI9.more (by simp only [coL];omega),h.gone.trans hG9,hj9,hL9,hZ9⟩
  have HST:Hid (RmI Pat.Mt Pat.me (fun i=>q+coL (([]:List Pat).take i)) w c ([]:List Pat) ([]:List Pat).length (.slice none 0 0) (.int .i64 0) w):=RmI.start (by simpa [coL] using hI) (Below.refl _ _)
  obtain ⟨ao0,cap0,hlv⟩:=HLV.out
  subst hlv
  clear ih hI hP hA hb hnb hO hL hz hq hsv hcan HLV
  go_enter Tryz.func92,Tryz.ntmps92
  go_wp2_with fail
  go_loopg [5,13] ([]:List Pat).length (fun j lv iv wr=>RmI Pat.Mt Pat.me (fun i=>q+coL (([]:List Pat).take i)) w c ([]:List Pat) j lv iv wr)
  case atStart=>exact HST.out
  case round =>
    obtain ⟨i,ci,ds,rfl,hil,hj,hh,hd,h2,hown⟩:=hrel
    have k0:(0:Int)<=(i:Int):=Int.natCast_nonneg _
    obtain ⟨hnb,hs1⟩:=HNOD.out wr ci _ _ hh
    by_cases hlt:i<([]:List Pat).length
    · exact absurd hlt (by simp)
    · have d1:decide ((i:Int)<(([]:List Pat).length:Int))=false:=decide_eq_false (by omega)
      have hie:i=([]:List Pat).length:=by omega
      subst hie
      rw [List.take_length] at h2
      simp only [List.take_length] at hh
      obtain ⟨pa,pc,hPT⟩:=HPRT.out wr _ ci ds hh hd h2 hown
      have hv5:=hPT.v
      subst hv5
      have x0:wr.cell? ⟨b,0,none⟩=some (.int .i64 0):=hnb.cell 0
      have hbl':=hnb.lt
      have HE:=hide (HEND.out wr ci ds pa pc hPT)
      have x1:wr.cell? ⟨b,1,none⟩=some sv:=hnb.cell 1
      clear hh hd h2 hown hPT hnb
      go_wp2_with fail
      refine HE.out.mono ?_
      intro r9 w9 h9
      have HG9:=hide h9
      obtain ⟨c9,j9,rfl,h10⟩:=h9
      clear h10
      go_wp2_with fail
      go_ret
      exact HG9.out
end Go.Proofs.YtpoibdhhcbelnaaGreatDoor
namespace Go.Proofs.YtpoibdhhcbelnaaGreatDoor
open Go.Shelf Go.RowKit Go.Lib Go.Sort Brm
set_option maxRecDepth 100000 in
set_option maxHeartbeats 4000000 in
theorem ofp_not {w:World}{ex:List Value}{tt:TypeId}{c:MC}{q b:Nat}{A:Nat->Prop}{l:List Pat}{p:Pat}{lv0:Value}{xs:List Nat}(ih:∀ p∈l,OfOk p)(hI:MkI w c q)(hP:PowT w)(hA:∀ g,A g->g<w.heap.size/\¬ c.S g)(hb:A b)(hnb:Blk w b ([.int .i64 4,.slice none 0 0,lv0,.int .i64 0,.int .i64 0]++ex) tt)(hO:Own w A 65 1 lv0 l.length (xs.map Ptr))(hL:PL w A l xs)(h100:l.length<=100)(hz:∀ p∈l,p.me.z<=3000000000000)(hlp:l=[p])(hq:q+(Pat.not p).co<=9000000000000000000) :
    Calls Tryz.prog 92 #[PtrB c.m,PtrB b] w (GivesL w c (q+(Pat.not p).co) (Pat.not p).Mt (Pat.not p).me):=by
  obtain ⟨i0,hi,hz0,hz1,hz2⟩:=info_parts Tryz.info159r
  have hbl:=hnb.lt
  have y2:w.cell? ⟨b,2,none⟩=some lv0:=hnb.cell 2
  have HSTEP:=hide (of_step (lv0:=lv0) (xs:=xs) ih hI hP hA hO hL (by have:(Pat.not p).co=p.co+1:=rfl;subst hlp;simp only [coL];omega) hz)
  have HNOD:Hid (∀ (wr:World) (ci:MC) (q':Nat) (o:Option Nat),HoldX w c wr ci q' o->Blk wr b ([.int .i64 4,.slice none 0 0,lv0,.int .i64 0,.int .i64 0]++ex) tt/\w.heap.size<=wr.heap.size):=fun wr ci q' o hh=>⟨(hh.gone.but.block b hbl (hA b hb).2).trans hnb,hh.gone.but.size⟩
  have HLV:Hid (∃ ao cap,lv0=.slice ao l.length cap):=by
    rcases hO.1.2 with ⟨h1,h0⟩ | ⟨g,cap,cur,hv,_⟩
    · exact ⟨none,0,by rw [h0];exact h1⟩
    · exact ⟨_,_,hv⟩
  have HPRT:=hide (fun (wr:World) (lv:Value) (ci:MC) (ds:List Nat)=>of_parts (w:=w) (c:=c) (q:=q) (l:=l) (wr:=wr) (lv:=lv) (ci:=ci) (ds:=ds) hI)
  have HEND:Hid (∀ (wr:World) (ci:MC) (ds:List Nat) (pa:Option Addr) (pc:Nat),Parts w c q l (.slice pa ds.length pc) wr ci ds pa pc->∃ d bb off,ds=[d]/\pa=some ⟨bb,off,none⟩/\bb<wr.heap.size/\wr.cell? ⟨bb,off,none⟩=some (PtrB (ci.R d))/\Calls Tryz.prog 140 #[PtrB c.m,PtrB (ci.R d)] wr (GivesL w c (q+(Pat.not p).co) (Pat.not p).Mt (Pat.not p).me)):=fun wr ci ds pa pc h=>by
    subst hlp
    obtain ⟨d,rfl⟩:∃ d,ds=[d]:=List.length_eq_one_iff.1 (by rw [h.len];rfl)
    obtain ⟨bb,off,rfl,hbb,hbbS,hcp⟩:=h.at_ 0 d rfl
    rw [Nat.add_zero] at hcp
    have hcl:coL [p]=p.co:=by simp [coL]
    obtain ⟨a1,a2⟩:=h.all.1
    have hdl:=h.lt d (by simp)
    have hmk:=h.mk
    rw [hcl] at hmk
    refine ⟨d,bb,off,rfl,rfl,hbb,hcp,?_⟩
    have hco:(Pat.not p).co=p.co+1:=rfl
    have hc:=mknot_any hmk (by omega) hdl (h.gone.pow hI hP)
    rw [h.gone.m] at hc
    refine hc.mono ?_
    rintro r9 w9 ⟨c9,j9,rfl,hI9,hG9,hj9,hL9,hZ9⟩
    refine ⟨c9,j9,rfl,hI9.more (by omega),h.gone.trans hG9,hj9,?_,Me.trans hZ9 (notM_mono a2)⟩
    rw [hL9,a1]
    rfl
  have HST:Hid (RmI Pat.Mt Pat.me (fun i=>q+coL (l.take i)) w c l l.length (.slice none 0 0) (.int .i64 0) w):=RmI.start (by simpa [coL] using hI) (Below.refl _ _)
  obtain ⟨ao0,cap0,hlv⟩:=HLV.out
  subst hlv
  clear ih hI hP hA hb hnb hO hL hz hq hlp HLV
  go_enter Tryz.func92,Tryz.ntmps92
  go_wp2_with fail
  go_loopg [5,13] l.length (fun j lv iv wr=>RmI Pat.Mt Pat.me (fun i=>q+coL (l.take i)) w c l j lv iv wr)
  case atStart=>exact HST.out
  case round =>
    obtain ⟨i,ci,ds,rfl,hil,hj,hh,hd,h2,hown⟩:=hrel
    have k0:(0:Int)<=(i:Int):=Int.natCast_nonneg _
    obtain ⟨hnb,hs1⟩:=HNOD.out wr ci _ _ hh
    by_cases hlt:i<l.length
    · have k1:(i:Int)<(l.length:Int):=by omega
      obtain ⟨g,cap,x,hlv,hgl,hcp,hcall⟩:=HSTEP.out wr _ i ci ds hlt hh hd h2 hown
      cases hlv
      have hcp':wr.cell? ⟨g,0+i,none⟩=some (PtrB x):=by rw [Nat.zero_add];exact hcp
      have HC:=hide hcall
      clear hcall hh hd h2 hown hnb
      go_wp2_with fail
      refine HC.out.mono ?_
      rintro r9 w5 ⟨x,rfl,hown5,hs5,HN⟩
      have HO5:=hide (hown5.alloc (.cells #[PtrB x] 159))
      clear hown5
      go_wp2_with (at_builtin;refine wpList_append_moves rfl _ _ 166 rfl w.heap.size 159 i0 (.pointer none) 1 8 Tryz.underlying166 hi hz0 hz1 hz2 rfl (by decide) _ _ _ rfl HO5.out ⟨w5.heap.size,0,none⟩ 1 1 [PtrB x] rfl rfl (one_ptrR2 _ _) (by simp [Value.oneCell']) (by unfold maxLen;omega) (by omega) (by simp;omega) ?_;intro v' w6 hown' hgrow hmv;have H6:=hide (HN.out v' w6 hown' hgrow hmv);clear hown' hgrow hmv)
      go_roundg (l.length-(i+1))
      all_goals first | omega | exact H6.out
    · have d1:decide ((i:Int)<(l.length:Int))=false:=decide_eq_false (by omega)
      have hie:i=l.length:=by omega
      subst hie
      rw [List.take_length] at h2
      simp only [List.take_length] at hh
      obtain ⟨pa,pc,hPT⟩:=HPRT.out wr _ ci ds hh hd h2 hown
      have hv5:=hPT.v
      subst hv5
      have x0:wr.cell? ⟨b,0,none⟩=some (.int .i64 4):=hnb.cell 0
      have hbl':=hnb.lt
      obtain ⟨d,bb,off,rfl,rfl,hbb,hcp,hend⟩:=HEND.out wr ci ds pa pc hPT
      have HE:=hide hend
      simp only [List.length_singleton] at *
      clear hh hd h2 hown hPT hnb hend
      go_wp2_with fail
      refine HE.out.mono ?_
      intro r9 w9 h9
      have HG9:=hide h9
      obtain ⟨c9,j9,rfl,h10⟩:=h9
      clear h10
      go_wp2_with fail
      go_ret
      exact HG9.out
end Go.Proofs.YtpoibdhhcbelnaaGreatDoor
namespace Go.Proofs.YtpoibdhhcbelnaaGreatDoor
open Go.Shelf Go.RowKit Go.Lib Go.Sort Brm
set_option maxRecDepth 100000 in
set_option maxHeartbeats 4000000 in
theorem ofp_group {w:World}{ex:List Value}{tt:TypeId}{c:MC}{q b:Nat}{A:Nat->Prop}{l:List Pat}{p:Pat}{lv0:Value}{xs:List Nat}(ih:∀ p∈l,OfOk p)(hI:MkI w c q)(hP:PowT w)(hA:∀ g,A g->g<w.heap.size/\¬ c.S g)(hb:A b)(hnb:Blk w b ([.int .i64 6,.slice none 0 0,lv0,.int .i64 0,.int .i64 0]++ex) tt)(hO:Own w A 65 1 lv0 l.length (xs.map Ptr))(hL:PL w A l xs)(h100:l.length<=100)(hz:∀ p∈l,p.me.z<=3000000000000)(hlp:l=[p])(hq:q+(Pat.group p).co<=9000000000000000000) :
    Calls Tryz.prog 92 #[PtrB c.m,PtrB b] w (GivesL w c (q+(Pat.group p).co) (Pat.group p).Mt (Pat.group p).me):=by
  obtain ⟨i0,hi,hz0,hz1,hz2⟩:=info_parts Tryz.info159r
  have hbl:=hnb.lt
  have y2:w.cell? ⟨b,2,none⟩=some lv0:=hnb.cell 2
  have HSTEP:=hide (of_step (lv0:=lv0) (xs:=xs) ih hI hP hA hO hL (by have:(Pat.group p).co=p.co:=rfl;subst hlp;simp only [coL];omega) hz)
  have HNOD:Hid (∀ (wr:World) (ci:MC) (q':Nat) (o:Option Nat),HoldX w c wr ci q' o->Blk wr b ([.int .i64 6,.slice none 0 0,lv0,.int .i64 0,.int .i64 0]++ex) tt/\w.heap.size<=wr.heap.size):=fun wr ci q' o hh=>⟨(hh.gone.but.block b hbl (hA b hb).2).trans hnb,hh.gone.but.size⟩
  have HLV:Hid (∃ ao cap,lv0=.slice ao l.length cap):=by
    rcases hO.1.2 with ⟨h1,h0⟩ | ⟨g,cap,cur,hv,_⟩
    · exact ⟨none,0,by rw [h0];exact h1⟩
    · exact ⟨_,_,hv⟩
  have HPRT:=hide (fun (wr:World) (lv:Value) (ci:MC) (ds:List Nat)=>of_parts (w:=w) (c:=c) (q:=q) (l:=l) (wr:=wr) (lv:=lv) (ci:=ci) (ds:=ds) hI)
  have HEND:Hid (∀ (wr:World) (ci:MC) (ds:List Nat) (pa:Option Addr) (pc:Nat),Parts w c q l (.slice pa ds.length pc) wr ci ds pa pc->∃ d bb off,ds=[d]/\pa=some ⟨bb,off,none⟩/\bb<wr.heap.size/\wr.cell? ⟨bb,off,none⟩=some (PtrB (ci.R d))/\GivesL w c (q+(Pat.group p).co) (Pat.group p).Mt (Pat.group p).me (.returned (PtrB (ci.R d))) wr):=fun wr ci ds pa pc h=>by
    subst hlp
    obtain ⟨d,rfl⟩:∃ d,ds=[d]:=List.length_eq_one_iff.1 (by rw [h.len];rfl)
    obtain ⟨bb,off,rfl,hbb,hbbS,hcp⟩:=h.at_ 0 d rfl
    rw [Nat.add_zero] at hcp
    have hcl:coL [p]=p.co:=by simp [coL]
    obtain ⟨a1,a2⟩:=h.all.1
    have hdl:=h.lt d (by simp)
    have hmk:=h.mk
    rw [hcl] at hmk
    refine ⟨d,bb,off,rfl,rfl,hbb,hcp,?_⟩
    exact ⟨ci,d,rfl,hmk,h.gone,hdl,a1,a2⟩
  have HST:Hid (RmI Pat.Mt Pat.me (fun i=>q+coL (l.take i)) w c l l.length (.slice none 0 0) (.int .i64 0) w):=RmI.start (by simpa [coL] using hI) (Below.refl _ _)
  obtain ⟨ao0,cap0,hlv⟩:=HLV.out
  subst hlv
  clear ih hI hP hA hb hnb hO hL hz hq hlp HLV
  go_enter Tryz.func92,Tryz.ntmps92
  go_wp2_with fail
  go_loopg [5,13] l.length (fun j lv iv wr=>RmI Pat.Mt Pat.me (fun i=>q+coL (l.take i)) w c l j lv iv wr)
  case atStart=>exact HST.out
  case round =>
    obtain ⟨i,ci,ds,rfl,hil,hj,hh,hd,h2,hown⟩:=hrel
    have k0:(0:Int)<=(i:Int):=Int.natCast_nonneg _
    obtain ⟨hnb,hs1⟩:=HNOD.out wr ci _ _ hh
    by_cases hlt:i<l.length
    · have k1:(i:Int)<(l.length:Int):=by omega
      obtain ⟨g,cap,x,hlv,hgl,hcp,hcall⟩:=HSTEP.out wr _ i ci ds hlt hh hd h2 hown
      cases hlv
      have hcp':wr.cell? ⟨g,0+i,none⟩=some (PtrB x):=by rw [Nat.zero_add];exact hcp
      have HC:=hide hcall
      clear hcall hh hd h2 hown hnb
      go_wp2_with fail
      refine HC.out.mono ?_
      rintro r9 w5 ⟨x,rfl,hown5,hs5,HN⟩
      have HO5:=hide (hown5.alloc (.cells #[PtrB x] 159))
      clear hown5
      go_wp2_with (at_builtin;refine wpList_append_moves rfl _ _ 166 rfl w.heap.size 159 i0 (.pointer none) 1 8 Tryz.underlying166 hi hz0 hz1 hz2 rfl (by decide) _ _ _ rfl HO5.out ⟨w5.heap.size,0,none⟩ 1 1 [PtrB x] rfl rfl (one_ptrR2 _ _) (by simp [Value.oneCell']) (by unfold maxLen;omega) (by omega) (by simp;omega) ?_;intro v' w6 hown' hgrow hmv;have H6:=hide (HN.out v' w6 hown' hgrow hmv);clear hown' hgrow hmv)
      go_roundg (l.length-(i+1))
      all_goals first | omega | exact H6.out
    · have d1:decide ((i:Int)<(l.length:Int))=false:=decide_eq_false (by omega)
      have hie:i=l.length:=by omega
      subst hie
      rw [List.take_length] at h2
      simp only [List.take_length] at hh
      obtain ⟨pa,pc,hPT⟩:=HPRT.out wr _ ci ds hh hd h2 hown
      have hv5:=hPT.v
      subst hv5
      have x0:wr.cell? ⟨b,0,none⟩=some (.int .i64 6):=hnb.cell 0
      have hbl':=hnb.lt
      obtain ⟨d,bb,off,rfl,rfl,hbb,hcp,hend⟩:=HEND.out wr ci ds pa pc hPT
      have HE:=hide hend
      simp only [List.length_singleton] at *
      clear hh hd h2 hown hPT hnb hend
      go_wp2_with fail
      go_ret
      exact HE.out
end Go.Proofs.YtpoibdhhcbelnaaGreatDoor
namespace Go.Proofs.YtpoibdhhcbelnaaGreatDoor
open Go.Shelf Go.RowKit Go.Lib Go.Sort Brm
set_option maxRecDepth 100000 in
set_option maxHeartbeats 4000000 in
theorem ofp_many {w:World}{ex:List Value}{tt:TypeId}{c:MC}{q b:Nat}{A:Nat->Prop}{l:List Pat}{p:Pat}{m n:Int}{lv0:Value}{xs:List Nat}(ih:∀ p∈l,OfOk p)(hI:MkI w c q)(hP:PowT w)(hA:∀ g,A g->g<w.heap.size/\¬ c.S g)(hb:A b)(hnb:Blk w b ([.int .i64 5,.slice none 0 0,lv0,.int .i64 m,.int .i64 n]++ex) tt)(hO:Own w A 65 1 lv0 l.length (xs.map Ptr))(hL:PL w A l xs)(h100:l.length<=100)(hz:∀ p∈l,p.me.z<=3000000000000)(hlp:l=[p])(hm:0<=m/\m<=5/\(n=-1\/(m<=n/\n<=5)))(hq:q+(Pat.many p m n).co<=9000000000000000000) :
    Calls Tryz.prog 92 #[PtrB c.m,PtrB b] w (GivesL w c (q+(Pat.many p m n).co) (Pat.many p m n).Mt (Pat.many p m n).me):=by
  obtain ⟨i0,hi,hz0,hz1,hz2⟩:=info_parts Tryz.info159r
  have hbl:=hnb.lt
  have y2:w.cell? ⟨b,2,none⟩=some lv0:=hnb.cell 2
  have HSTEP:=hide (of_step (lv0:=lv0) (xs:=xs) ih hI hP hA hO hL (by have:(Pat.many p m n).co=p.co+1:=rfl;subst hlp;simp only [coL];omega) hz)
  have HNOD:Hid (∀ (wr:World) (ci:MC) (q':Nat) (o:Option Nat),HoldX w c wr ci q' o->Blk wr b ([.int .i64 5,.slice none 0 0,lv0,.int .i64 m,.int .i64 n]++ex) tt/\w.heap.size<=wr.heap.size):=fun wr ci q' o hh=>⟨(hh.gone.but.block b hbl (hA b hb).2).trans hnb,hh.gone.but.size⟩
  have HLV:Hid (∃ ao cap,lv0=.slice ao l.length cap):=by
    rcases hO.1.2 with ⟨h1,h0⟩ | ⟨g,cap,cur,hv,_⟩
    · exact ⟨none,0,by rw [h0];exact h1⟩
    · exact ⟨_,_,hv⟩
  have HPRT:=hide (fun (wr:World) (lv:Value) (ci:MC) (ds:List Nat)=>of_parts (w:=w) (c:=c) (q:=q) (l:=l) (wr:=wr) (lv:=lv) (ci:=ci) (ds:=ds) hI)
  have HEND:Hid (∀ (wr:World) (ci:MC) (ds:List Nat) (pa:Option Addr) (pc:Nat),Parts w c q l (.slice pa ds.length pc) wr ci ds pa pc->∃ d bb off,ds=[d]/\pa=some ⟨bb,off,none⟩/\bb<wr.heap.size/\wr.cell? ⟨bb,off,none⟩=some (PtrB (ci.R d))/\∀ V:World,SameH V wr->Calls Tryz.prog 141 #[PtrB c.m,PtrB (ci.R d),.int .i64 m,.int .i64 n] V (fun r9 w9=>∃ x,r9=.returned (PtrB x)/\Hid (GivesL w c (q+(Pat.many p m n).co) (Pat.many p m n).Mt (Pat.many p m n).me (.returned (PtrB x)) w9)/\Hid (w9.cell? ⟨b,3,none⟩=some (.int .i64 m)/\w9.cell? ⟨b,4,none⟩=some (.int .i64 n)/\w9.cell? ⟨bb,off,none⟩=some (PtrB (ci.R d))))):=fun wr ci ds pa pc h=>by
    subst hlp
    obtain ⟨d,rfl⟩:∃ d,ds=[d]:=List.length_eq_one_iff.1 (by rw [h.len];rfl)
    obtain ⟨bb,off,rfl,hbb,hbbS,hcp⟩:=h.at_ 0 d rfl
    rw [Nat.add_zero] at hcp
    have hcl:coL [p]=p.co:=by simp [coL]
    obtain ⟨a1,a2⟩:=h.all.1
    have hdl:=h.lt d (by simp)
    have hmk:=h.mk
    rw [hcl] at hmk
    refine ⟨d,bb,off,rfl,rfl,hbb,hcp,?_⟩
    intro V hV
    have hco:(Pat.many p m n).co=p.co+1:=rfl
    have hbS:=h.gone.notS hbl (hA b hb).2
    have hs:=h.gone.but.size
    have hnr:Blk wr b ([.int .i64 5,.slice none 0 0,lv0,.int .i64 m,.int .i64 n]++ex) tt:=(h.gone.but.block b hbl (hA b hb).2).trans hnb
    have hc:=mkmany_any (hmk.below hV.below) (by omega) hdl ((h.gone.pow hI hP).below hV.below) hm.1 hm.2.1 hm.2.2
    rw [h.gone.m] at hc
    refine hc.mono ?_
    rintro r9 w9 ⟨c9,j9,rfl,hI9,hG9,hj9,hL9,hZ9⟩
    have hgo:Gone wr ci w9 c9:=(Gone.below hV.below).trans hG9
    refine ⟨_,rfl,⟨c9,j9,rfl,hI9.more (by omega),h.gone.trans hgo,hj9,?_,Me.trans hZ9 (manyM_mono a2)⟩,(hgo.but.cell (p:=⟨b,3,none⟩) hnr.lt hbS).trans (hnr.cell 3),(hgo.but.cell (p:=⟨b,4,none⟩) hnr.lt hbS).trans (hnr.cell 4),(hgo.but.cell (p:=⟨bb,off,none⟩) hbb hbbS).trans hcp⟩
    rw [hL9,a1]
    rfl
  have HST:Hid (RmI Pat.Mt Pat.me (fun i=>q+coL (l.take i)) w c l l.length (.slice none 0 0) (.int .i64 0) w):=RmI.start (by simpa [coL] using hI) (Below.refl _ _)
  obtain ⟨ao0,cap0,hlv⟩:=HLV.out
  subst hlv
  clear ih hI hP hA hb hnb hO hL hz hq hlp hm HLV
  go_enter Tryz.func92,Tryz.ntmps92
  go_wp2_with fail
  go_loopg [5,13] l.length (fun j lv iv wr=>RmI Pat.Mt Pat.me (fun i=>q+coL (l.take i)) w c l j lv iv wr)
  case atStart=>exact HST.out
  case round =>
    obtain ⟨i,ci,ds,rfl,hil,hj,hh,hd,h2,hown⟩:=hrel
    have k0:(0:Int)<=(i:Int):=Int.natCast_nonneg _
    obtain ⟨hnb,hs1⟩:=HNOD.out wr ci _ _ hh
    by_cases hlt:i<l.length
    · have k1:(i:Int)<(l.length:Int):=by omega
      obtain ⟨g,cap,x,hlv,hgl,hcp,hcall⟩:=HSTEP.out wr _ i ci ds hlt hh hd h2 hown
      cases hlv
      have hcp':wr.cell? ⟨g,0+i,none⟩=some (PtrB x):=by rw [Nat.zero_add];exact hcp
      have HC:=hide hcall
      clear hcall hh hd h2 hown hnb
      go_wp2_with fail
      refine HC.out.mono ?_
      rintro r9 w5 ⟨x,rfl,hown5,hs5,HN⟩
      have HO5:=hide (hown5.alloc (.cells #[PtrB x] 159))
      clear hown5
      go_wp2_with (at_builtin;refine wpList_append_moves rfl _ _ 166 rfl w.heap.size 159 i0 (.pointer none) 1 8 Tryz.underlying166 hi hz0 hz1 hz2 rfl (by decide) _ _ _ rfl HO5.out ⟨w5.heap.size,0,none⟩ 1 1 [PtrB x] rfl rfl (one_ptrR2 _ _) (by simp [Value.oneCell']) (by unfold maxLen;omega) (by omega) (by simp;omega) ?_;intro v' w6 hown' hgrow hmv;have H6:=hide (HN.out v' w6 hown' hgrow hmv);clear hown' hgrow hmv)
      go_roundg (l.length-(i+1))
      all_goals first | omega | exact H6.out
    · have d1:decide ((i:Int)<(l.length:Int))=false:=decide_eq_false (by omega)
      have hie:i=l.length:=by omega
      subst hie
      rw [List.take_length] at h2
      simp only [List.take_length] at hh
      obtain ⟨pa,pc,hPT⟩:=HPRT.out wr _ ci ds hh hd h2 hown
      have hv5:=hPT.v
      subst hv5
      have x0:wr.cell? ⟨b,0,none⟩=some (.int .i64 5):=hnb.cell 0
      have hbl':=hnb.lt
      obtain ⟨d,bb,off,rfl,rfl,hbb,hcp,hend⟩:=HEND.out wr ci ds pa pc hPT
      have x3:wr.cell? ⟨b,3,none⟩=some (.int .i64 m):=hnb.cell 3
      have x4:wr.cell? ⟨b,4,none⟩=some (.int .i64 n):=hnb.cell 4
      have HH0:Hid (∀ V:World,SameH V wr->V.cell? ⟨b,3,none⟩=some (.int .i64 m)/\V.cell? ⟨b,4,none⟩=some (.int .i64 n)/\V.cell? ⟨bb,off,none⟩=some (PtrB (ci.R d))):=fun V hV=>⟨(hV.cell _).trans x3,(hV.cell _).trans x4,(hV.cell _).trans hcp⟩
      have HE:=hide hend
      simp only [List.length_singleton] at *
      clear hh hd h2 hown hPT hnb hend
      go_wp2_with fail
      go_region_held3 (fun w'=>w'.cell? ⟨b,3,none⟩=some (.int .i64 m)/\w'.cell? ⟨b,4,none⟩=some (.int .i64 n)/\w'.cell? ⟨bb,off,none⟩=some (PtrB (ci.R d)))
        (first | exact HH0.out _ ⟨rfl,rfl,rfl,rfl⟩ | exact HH9.out)
        (first | (go_at_call 141;refine (HE.out (wr.drewN _) ⟨rfl,rfl,rfl,rfl⟩).mono ?_;rintro r9 w9 ⟨x,rfl,HG9,HH9⟩))
      all_goals (go_wp2_with fail;go_ret;exact HG9.out)
end Go.Proofs.YtpoibdhhcbelnaaGreatDoor
namespace Go.Proofs.YtpoibdhhcbelnaaGreatDoor
open Go.Shelf Go.RowKit Go.Lib Go.Sort Brm
namespace Brm
mutual
def Pat.rg:Pat->Nat
  | .set s=>s.length
  | .row l=>rgL l
  | .or l=>rgL l
  | .and l=>rgL l
  | .not p=>p.rg
  | .many p _ _=>p.rg
  | .group p=>p.rg
def rgL:List Pat->Nat
  | []=>0
  | p::l=>p.rg+rgL l
end
end Brm
theorem or_z {l:List Me}{a:Me}(h:a∈l):a.z<=(orA l).z:=by
  have:=le_sumA (f:=fun a:Me=>a.z) h
  simp only [orA]
  omega
theorem own_oneQ {w:World}{A:Nat->Prop}{lv:Value}{x:Nat}(h:Own w A 65 1 lv 1 [Ptr x]){p:Pat}:Own w A 65 1 lv [p].length ([x].map Ptr):=h
mutual
theorem of_all:∀ (p:Pat),p.Ok->p.rg<=400000->OfOk p
  | .set s,h,hr=>by
    intro w c q b A hI hP hN hA hq hz
    obtain ⟨hb,sv,hnb,hs⟩:=hN
    refine ofp_set (ex:=[]) (xs:=[]) (fun p hp=>by simp at hp) hI hP hA hb hnb ⟨⟨rfl,.inl ⟨rfl,rfl⟩⟩,fun g hg=>by simp [Value.ownBlock] at hg⟩ rfl (fun p hp=>by simp at hp) hs h hr hq
  | .row l,h,hr=>by
    have ih:=of_allL l h hr
    intro w c q b A hI hP hN hA hq hz
    obtain ⟨hb,h100,lv,xs,hnb,ho,hL⟩:=hN
    exact ofp_row (ex:=[]) ih hI hP hA hb hnb ho hL h100 (fun p hp=>Nat.le_trans ((row_z (meL l) (meL_one l)).1 p.me (mem_meL hp)) hz) hq
  | .or l,h,hr=>by
    have ih:=of_allL l h.1 hr
    intro w c q b A hI hP hN hA hq hz
    have hzz:∀ p∈l,p.me.z<=3000000000000:=fun p hp=>Nat.le_trans (or_z (mem_meL hp)) hz
    obtain ⟨h100,xs,hL,⟨h1,rfl⟩ | ⟨hn,hb,lv,hnb,ho⟩⟩:=hN
    · obtain ⟨p,rfl⟩:=List.length_eq_one_iff.1 h1
      obtain ⟨x,r,e,hp,_⟩:=hL
      cases e
      have hco:(Pat.or [p]).co=p.co+1:=by simp [Pat.co,coL]
      refine (ih p (by simp) w c q b A hI hP hp hA (by omega) (hzz p (by simp))).mono ?_
      rintro r9 w9 ⟨c9,j9,rfl,hI9,hG9,hj9,hL9,hZ9⟩
      refine ⟨c9,j9,rfl,hI9.more (by omega),hG9,hj9,?_,Me.trans hZ9 ?_⟩
      · rw [hL9]
        funext u
        show _=MtOr [p] u
        simp [MtOr]
      · refine ⟨?_,?_,?_,?_⟩<;>simp only [Pat.me,meL,orA,maxA,sumA]<;>omega
    · exact ofp_or (ex:=[]) ih hI hP hA hb hnb ho hL h100 hzz hz hq
  | .and l,h,hr=>by
    have ih:=of_allL l h.1 hr
    intro w c q b A hI hP hN hA hq hz
    have hzz:∀ p∈l,p.me.z<=3000000000000:=fun p hp=>Nat.le_trans (show (notM p.me).z<=(orA ((meL l).map notM)).z from or_z (List.mem_map_of_mem (mem_meL hp))) hz
    obtain ⟨h100,xs,hL,⟨h1,rfl⟩ | ⟨hn,hb,lv,hnb,ho⟩⟩:=hN
    · obtain ⟨p,rfl⟩:=List.length_eq_one_iff.1 h1
      obtain ⟨x,r,e,hp,_⟩:=hL
      cases e
      have hco:(Pat.and [p]).co=p.co+1+2:=by simp [Pat.co,coL]
      refine (ih p (by simp) w c q b A hI hP hp hA (by omega) (hzz p (by simp))).mono ?_
      rintro r9 w9 ⟨c9,j9,rfl,hI9,hG9,hj9,hL9,hZ9⟩
      refine ⟨c9,j9,rfl,hI9.more (by omega),hG9,hj9,?_,Me.trans hZ9 ?_⟩
      · rw [hL9]
        funext u
        show _=MtAnd [p] u
        simp [MtAnd]
      · refine ⟨?_,?_,?_,?_⟩<;>simp only [Pat.me,meL,orA,maxA,sumA,notM,List.map_cons,List.map_nil]<;>omega
    · exact ofp_and (ex:=[]) ih hI hP hA hb hnb ho hL h100 hzz hz hq
  | .not p,h,hr=>by
    have ih:=of_all p h hr
    intro w c q b A hI hP hN hA hq hz
    obtain ⟨hb,lv,x,hnb,ho,hp⟩:=hN
    exact ofp_not (ex:=[]) (l:=[p]) (xs:=[x]) (fun p' hp'=>by simp at hp';subst hp';exact ih) hI hP hA hb hnb (own_oneQ ho) ⟨x,[],rfl,hp,rfl⟩ (by simp) (fun p' hp'=>by simp at hp';subst hp';exact hz) rfl hq
  | .many p m n,h,hr=>by
    have ih:=of_all p h.1 hr
    intro w c q b A hI hP hN hA hq hz
    obtain ⟨hb,lv,x,hnb,ho,hp⟩:=hN
    exact ofp_many (ex:=[]) (l:=[p]) (xs:=[x]) (fun p' hp'=>by simp at hp';subst hp';exact ih) hI hP hA hb hnb (own_oneQ ho) ⟨x,[],rfl,hp,rfl⟩ (by simp) (fun p' hp'=>by simp at hp';subst hp';exact Nat.le_trans (Nat.le_succ _) hz) rfl h.2 hq
  | .group p,h,hr=>by
    have ih:=of_all p h hr
    intro w c q b A hI hP hN hA hq hz
    obtain ⟨hb,lv,x,hnb,ho,hp⟩:=hN
    exact ofp_group (ex:=[]) (l:=[p]) (xs:=[x]) (fun p' hp'=>by simp at hp';subst hp';exact ih) hI hP hA hb hnb (own_oneQ ho) ⟨x,[],rfl,hp,rfl⟩ (by simp) (fun p' hp'=>by simp at hp';subst hp';exact hz) rfl hq
theorem of_allL:∀ (l:List Pat),OkL l->rgL l<=400000->∀ p∈l,OfOk p
  | [],_,_=>fun p h=>by cases h
  | q::l,hk,hr=>by
    simp only [rgL] at hr
    have hq:=of_all q hk.1 (by omega)
    have hl:=of_allL l hk.2 (by omega)
    intro p h
    rcases List.mem_cons.1 h with rfl | h
    · exact hq
    · exact hl p h
end
end Go.Proofs.YtpoibdhhcbelnaaGreatDoor
namespace Go.Proofs.YtpoibdhhcbelnaaGreatDoor
namespace Brm
mutual
def Pat.nd:Pat->Nat
  | .set _=>1
  | .row l=>ndL l+1
  | .or l=>ndL l+1
  | .and l=>ndL l+l.length+2
  | .not p=>p.nd+1
  | .many p _ _=>p.nd+1
  | .group p=>p.nd
def ndL:List Pat->Nat
  | []=>0
  | p::l=>p.nd+ndL l
end
end Brm
open Brm
def zL (l:List Pat):Nat:=sumA (·.z) (meL l)
def yL (l:List Pat):Nat:=sumA (·.y) (meL l)
theorem sumA_snoc {α:Type}(f:α->Nat):∀ (l:List α) (a:α),sumA f (l++[a])=sumA f l+f a
  | [],a=>by simp [sumA]
  | b::l,a=>by simp only [List.cons_append,sumA,sumA_snoc f l a];omega
theorem meL_snoc (l:List Pat)(p:Pat):meL (l++[p])=meL l++[p.me]:=by rw [meL_map,meL_map,List.map_append];rfl
theorem zL_snoc (l:List Pat)(p:Pat):zL (l++[p])=zL l+p.me.z:=by unfold zL;rw [meL_snoc,sumA_snoc]
theorem yL_snoc (l:List Pat)(p:Pat):yL (l++[p])=yL l+p.me.y:=by unfold yL;rw [meL_snoc,sumA_snoc]
theorem ndL_snoc:∀ (l:List Pat) (p:Pat),ndL (l++[p])=ndL l+p.nd
  | [],p=>by simp [ndL]
  | q::l,p=>by simp only [List.cons_append,ndL,ndL_snoc l p];omega
theorem rgL_snoc:∀ (l:List Pat) (p:Pat),rgL (l++[p])=rgL l+p.rg
  | [],p=>by simp [rgL]
  | q::l,p=>by simp only [List.cons_append,rgL,rgL_snoc l p];omega
theorem rwsM_sum:∀ l:List Me,(rwsM l).z<=sumA (·.z) l+1/\(rwsM l).y<=sumA (·.y) l+1
  | []=>by simp [rwsM,oneM,sumA]
  | [a]=>by simp [rwsM,sumA]
  | a::b::l=>by
    have:=rwsM_sum (b::l)
    simp only [rwsM,pairM,sumA] at *
    omega
theorem sumA_map {α β:Type}(f:β->Nat)(g:α->β):∀ l:List α,sumA f (l.map g)=sumA (fun a=>f (g a)) l
  | []=>rfl
  | a::l=>by simp only [List.map_cons,sumA,sumA_map f g l]
theorem sumA_succ {α:Type}(f:α->Nat):∀ l:List α,sumA (fun a=>f a+1) l=sumA f l+l.length
  | []=>rfl
  | a::l=>by simp only [sumA,sumA_succ f l,List.length_cons];omega
theorem row_ct (l:List Pat):(Pat.row l).me.z<=zL l+1/\(Pat.row l).me.y<=yL l+1:=rwsM_sum (meL l)
theorem meL_len (l:List Pat):(meL l).length=l.length:=by rw [meL_map,List.length_map]
theorem or_ct (l:List Pat):(Pat.or l).me.z<=max 1 (zL l)/\(Pat.or l).me.y<=max 1 (yL l):=⟨Nat.le_refl _,Nat.le_refl _⟩
theorem and_ct (l:List Pat):(Pat.and l).me.z<=max 1 (zL l)/\(Pat.and l).me.y<=max 1 (yL l+l.length)+1:=by
  have e1:sumA (·.z) ((meL l).map notM)=zL l:=by rw [sumA_map];rfl
  have e2:sumA (·.y) ((meL l).map notM)=yL l+l.length:=by
    rw [sumA_map]
    show sumA (fun a:Me=>a.y+1) (meL l)=_
    rw [sumA_succ,meL_len]
    rfl
  constructor
  · show max 1 (sumA (·.z) ((meL l).map notM))<=_
    rw [e1]
    exact Nat.le_refl _
  · show max 1 (sumA (·.y) ((meL l).map notM))+1<=_
    rw [e2]
    exact Nat.le_refl _
theorem snoc_pos (l:List Pat)(p:Pat):1<=zL (l++[p])/\1<=yL (l++[p]):=by
  rw [zL_snoc,yL_snoc]
  have h:=me_one p
  have h1:1<=p.me.z:=h.2.2.2
  have h2:1<=p.me.y:=h.2.2.1
  omega
def CtP (kz ky kr kn:Nat)(r:Res Pat)(s:List Int):Prop:=match r with | .ok p s'=>p.me.z+s'.length<=kz+s.length/\p.me.y+3*s'.length<=ky+3*s.length/\p.rg+3*s'.length<=kr+3*s.length/\p.nd+4*s'.length<=kn+4*s.length | .bad _=>True
theorem CtP.weak {kz ky kr kn kz' ky' kr' kn':Nat}{r:Res Pat}{s s':List Int}(h:CtP kz ky kr kn r s)(h1:kz+s.length<=kz'+s'.length)(h2:ky+3*s.length<=ky'+3*s'.length)(h3:kr+3*s.length<=kr'+3*s'.length)(h4:kn+4*s.length<=kn'+4*s'.length):CtP kz' ky' kr' kn' r s':=by
  cases r with
  | bad s=>trivial
  | ok p t =>
    obtain ⟨a1,a2,a3,a4⟩:p.me.z+t.length<=kz+s.length/\p.me.y+3*t.length<=ky+3*s.length/\p.rg+3*t.length<=kr+3*s.length/\p.nd+4*t.length<=kn+4*s.length:=h
    exact ⟨by omega,by omega,by omega,by omega⟩
theorem manyLoop_ct:∀ (n:Nat) (x:Pat) (s:List Int),CtP x.me.z x.me.y x.rg x.nd (manyLoop n x s) s
  | 0,_,_=>trivial
  | n+1,x,s=>by
    unfold manyLoop
    split
    · have h2:=timesP_takes s
      cases hr:timesP s with
      | bad s'=>trivial
      | ok mn s' =>
        rw [hr] at h2
        have:=h2.1
        refine (manyLoop_ct n (.many x mn.1 mn.2) s').weak ?_ ?_ ?_ ?_
        · show x.me.z+1+_<=_;omega
        · show x.me.y+1+_<=_;omega
        · show x.rg+_<=_;omega
        · show x.nd+1+_<=_;omega
    · exact ⟨Nat.le_refl _,Nat.le_refl _,Nat.le_refl _,Nat.le_refl _⟩
theorem set_ct {l:List (Int×Int)}{s s':List Int}(h:s'.length<s.length)(hl:l.length+3*s'.length<=3*s.length):CtP 0 0 0 0 (.ok (.set l) s') s:=by
  refine ⟨?_,?_,?_,?_⟩
  · show 1+_<=_;omega
  · show 1+_<=_;omega
  · show l.length+_<=_;omega
  · show 1+_<=_;omega
def LsP (k:Nat)(r:Res (List (Int×Int)))(s:List Int):Prop:=match r with | .ok l s'=>l.length+3*s'.length<=k+3*s.length | .bad _=>True
theorem rangeP_ls (a:Int)(s:List Int):LsP 1 (rangeP a s) s:=by
  cases s with
  | nil=>show 1+0<=1+0;omega
  | cons c s =>
    simp only [rangeP]
    split
    · have h1:=singleP_takes a s
      cases hr:singleP a s with
      | bad s'=>trivial
      | ok b s' =>
        rw [hr] at h1
        have:=h1.1
        show 1+_<=_
        simp;omega
    · show 1+_<=_;omega
theorem itemP_ls (s:List Int):LsP 0 (itemP s) s:=by
  cases s with
  | nil=>trivial
  | cons c s =>
    simp only [itemP]
    split
    · cases s with
      | nil=>trivial
      | cons d s =>
        simp only [escP]
        split
        · have h:=rangeP_ls (signOf d) s
          show LsP 0 (rangeP (signOf d) s) _
          cases hr:rangeP (signOf d) s with
          | bad s'=>trivial
          | ok l s' =>
            rw [hr] at h
            have h':l.length+3*s'.length<=1+3*s.length:=h
            show l.length+_<=_
            simp;omega
        · split
          · rename_i h
            have:=(class_ok h).2
            show (classOf d).length+_<=_
            simp;omega
          · trivial
    · split
      · trivial
      · have h:=rangeP_ls c s
        cases hr:rangeP c s with
        | bad s'=>trivial
        | ok l s' =>
          rw [hr] at h
          have h':l.length+3*s'.length<=1+3*s.length:=h
          show l.length+_<=_
          simp;omega
theorem itemsP_ls:∀ (n:Nat) (l:List (Int×Int)) (s:List Int),LsP l.length (itemsP n l s) s
  | 0,_,_=>trivial
  | n+1,l,s=>by
    unfold itemsP
    split
    · show l.length+_<=_;simp;omega
    · have h1:=itemP_ls s
      cases hr:itemP s with
      | bad s'=>trivial
      | ok x s' =>
        rw [hr] at h1
        have h1':x.length+3*s'.length<=0+3*s.length:=h1
        have h3:=itemsP_ls n (l++x) s'
        show LsP _ (itemsP n (l++x) s') _
        cases hr2:itemsP n (l++x) s' with
        | bad s2=>trivial
        | ok y s2 =>
          rw [hr2] at h3
          have h3':y.length+3*s2.length<=(l++x).length+3*s'.length:=h3
          rw [List.length_append] at h3'
          show y.length+_<=_
          omega
theorem bracketP_ls (s:List Int):LsP 0 (bracketP s) s:=by
  unfold bracketP
  split
  · rename_i hh
    have h1:=itemsP_ls (s.length+1) [] s.tail
    have h2:=(head_less hh).1
    cases hr:itemsP (s.length+1) [] s.tail with
    | bad s'=>trivial
    | ok l s' =>
      rw [hr] at h1
      have h1':l.length+3*s'.length<=0+3*s.tail.length:=h1
      have e1:=form_len l
      have e2:=notC_len (form l)
      show (notC (form l)).length+_<=_
      omega
  · have h1:=itemsP_ls (s.length+1) [] s
    cases hr:itemsP (s.length+1) [] s with
    | bad s'=>trivial
    | ok l s' =>
      rw [hr] at h1
      have h1':l.length+3*s'.length<=0+3*s.length:=h1
      have e1:=form_len l
      show (form l).length+_<=_
      omega
theorem atomP_ct {rec:List Int->Res Pat}(hr:∀ s,CtP 1 3 0 5 (rec s) s)(s:List Int):CtP 0 0 0 0 (atomP rec s) s:=by
  cases s with
  | nil=>trivial
  | cons c s =>
    simp only [atomP]
    split
    · have h1:=hr s
      cases h:rec s with
      | bad s'=>trivial
      | ok p s' =>
        rw [h] at h1
        simp only [Res.bind,closeP]
        split
        · rename_i hh
          have:=(head_less hh).1
          obtain ⟨a1,a2,a3,a4⟩:p.me.z+s'.length<=1+s.length/\p.me.y+3*s'.length<=3+3*s.length/\p.rg+3*s'.length<=0+3*s.length/\p.nd+4*s'.length<=5+4*s.length:=h1
          refine ⟨?_,?_,?_,?_⟩
          · show p.me.z+_<=_;simp at *;omega
          · show p.me.y+_<=_;simp at *;omega
          · show p.rg+_<=_;simp at *;omega
          · show p.nd+_<=_;simp at *;omega
        · trivial
    split
    · have h3:=bracketP_takes s
      have h5:=bracketP_ls s
      cases h:bracketP s with
      | bad s'=>trivial
      | ok l s' =>
        rw [h] at h3 h5
        have h4:=h3.1
        have h5':l.length+3*s'.length<=0+3*s.length:=h5
        exact set_ct (by simp;omega) (by simp;omega)
    split
    · exact set_ct (by simp) (by have:dot.length<=1+1:=notC_len [(10,10)];simp;omega)
    split
    · cases s with
      | nil=>trivial
      | cons d s =>
        simp only [escP]
        split
        · exact set_ct (by simp;omega) (by simp;omega)
        · split
          · rename_i h
            have:=(class_ok h).2
            exact set_ct (by simp;omega) (by simp;omega)
          · trivial
    split
    · trivial
    · exact set_ct (by simp) (by simp;omega)
theorem manyP_ct {rec:List Int->Res Pat}(hr:∀ s,CtP 1 3 0 5 (rec s) s)(s:List Int):CtP 0 0 0 0 (manyP rec s) s:=by
  unfold manyP
  have h1:=atomP_ct hr s
  cases h:atomP rec s with
  | bad s'=>trivial
  | ok p s' =>
    rw [h] at h1
    obtain ⟨a1,a2,a3,a4⟩:p.me.z+s'.length<=0+s.length/\p.me.y+3*s'.length<=0+3*s.length/\p.rg+3*s'.length<=0+3*s.length/\p.nd+4*s'.length<=0+4*s.length:=h1
    exact (manyLoop_ct _ p s').weak a1 a2 a3 a4
theorem notP_ct {rec:List Int->Res Pat}(hr:∀ s,CtP 1 3 0 5 (rec s) s):∀ (s:List Int),CtP 0 0 0 0 (notP rec s) s
  | []=>manyP_ct hr _
  | c::s=>by
    simp only [notP]
    split
    · have h1:=notP_ct hr s
      cases h:notP rec s with
      | bad s'=>trivial
      | ok p s' =>
        rw [h] at h1
        obtain ⟨a1,a2,a3,a4⟩:p.me.z+s'.length<=0+s.length/\p.me.y+3*s'.length<=0+3*s.length/\p.rg+3*s'.length<=0+3*s.length/\p.nd+4*s'.length<=0+4*s.length:=h1
        refine ⟨?_,?_,?_,?_⟩
        · show p.me.z+_<=_;simp;omega
        · show p.me.y+1+_<=_;simp;omega
        · show p.rg+_<=_;simp;omega
        · show p.nd+1+_<=_;simp;omega
    · exact manyP_ct hr _
theorem rowLoop_ct {lax:Bool}{rec:List Int->Res Pat}(hr:∀ s,CtP 1 3 0 5 (rec s) s):∀ (n:Nat) (l:List Pat) (s:List Int),CtP (zL l+1) (yL l+1) (rgL l) (ndL l+1) (rowLoop lax rec n l s) s
  | 0,_,_=>trivial
  | n+1,l,s=>by
    unfold rowLoop
    split
    · have:=row_ct l
      refine ⟨?_,?_,?_,?_⟩
      · show (Pat.row l).me.z+_<=_;omega
      · show (Pat.row l).me.y+_<=_;omega
      · show rgL l+_<=_;omega
      · show ndL l+1+_<=_;omega
    · have h1:=notP_ct hr s
      cases h:notP rec s with
      | bad s'=>trivial
      | ok p s' =>
        rw [h] at h1
        obtain ⟨a1,a2,a3,a4⟩:p.me.z+s'.length<=0+s.length/\p.me.y+3*s'.length<=0+3*s.length/\p.rg+3*s'.length<=0+3*s.length/\p.nd+4*s'.length<=0+4*s.length:=h1
        refine (rowLoop_ct hr n (l++[p]) s').weak ?_ ?_ ?_ ?_
        · rw [zL_snoc];omega
        · rw [yL_snoc];omega
        · rw [rgL_snoc];omega
        · rw [ndL_snoc];omega
theorem and_loop {part:List Int->Res Pat}(hr:∀ s,CtP 1 1 0 1 (part s) s):∀ (n:Nat) (l:List Pat) (s:List Int),CtP (zL l+1) (yL l+l.length+3) (rgL l) (ndL l+l.length+4) (joinLoop part 38 .and n l s) s
  | 0,_,_=>trivial
  | n+1,l,s=>by
    unfold joinLoop
    have h1:=hr s
    cases h:part s with
    | bad s'=>trivial
    | ok p s' =>
      rw [h] at h1
      obtain ⟨a1,a2,a3,a4⟩:p.me.z+s'.length<=1+s.length/\p.me.y+3*s'.length<=1+3*s.length/\p.rg+3*s'.length<=0+3*s.length/\p.nd+4*s'.length<=1+4*s.length:=h1
      simp only [Res.bind]
      have ez:=zL_snoc l p
      have ey:=yL_snoc l p
      have er:=rgL_snoc l p
      have en:=ndL_snoc l p
      have el:(l++[p]).length=l.length+1:=by simp
      split
      · rename_i hh
        have:=(head_less hh).1
        refine (and_loop hr n (l++[p]) s'.tail).weak ?_ ?_ ?_ ?_<;>omega
      · have hc:=and_ct (l++[p])
        have hs:=snoc_pos l p
        refine ⟨?_,?_,?_,?_⟩
        · show (Pat.and (l++[p])).me.z+_<=_;omega
        · show (Pat.and (l++[p])).me.y+_<=_;omega
        · show rgL (l++[p])+_<=_;omega
        · show ndL (l++[p])+(l++[p]).length+2+_<=_;omega
theorem or_loop {part:List Int->Res Pat}(hr:∀ s,CtP 1 3 0 4 (part s) s):∀ (n:Nat) (l:List Pat) (s:List Int),CtP (zL l+1) (yL l+3) (rgL l) (ndL l+5) (joinLoop part 124 .or n l s) s
  | 0,_,_=>trivial
  | n+1,l,s=>by
    unfold joinLoop
    have h1:=hr s
    cases h:part s with
    | bad s'=>trivial
    | ok p s' =>
      rw [h] at h1
      obtain ⟨a1,a2,a3,a4⟩:p.me.z+s'.length<=1+s.length/\p.me.y+3*s'.length<=3+3*s.length/\p.rg+3*s'.length<=0+3*s.length/\p.nd+4*s'.length<=4+4*s.length:=h1
      simp only [Res.bind]
      have ez:=zL_snoc l p
      have ey:=yL_snoc l p
      have er:=rgL_snoc l p
      have en:=ndL_snoc l p
      split
      · rename_i hh
        have:=(head_less hh).1
        refine (or_loop hr n (l++[p]) s'.tail).weak ?_ ?_ ?_ ?_<;>omega
      · have hc:=or_ct (l++[p])
        have hs:=snoc_pos l p
        refine ⟨?_,?_,?_,?_⟩
        · show (Pat.or (l++[p])).me.z+_<=_;omega
        · show (Pat.or (l++[p])).me.y+_<=_;omega
        · show rgL (l++[p])+_<=_;omega
        · show ndL (l++[p])+1+_<=_;omega
theorem orN_ct (lax:Bool):∀ (n:Nat) (s:List Int),CtP 1 3 0 5 (orN lax n s) s
  | 0,_=>trivial
  | n+1,s=>by
    have hrow:∀ s,CtP 1 1 0 1 (rowP lax (orN lax n) s) s:=fun s=>(rowLoop_ct (lax:=lax) (orN_ct lax n) (s.length+1) [] s).weak (by simp [zL,meL,sumA]) (by simp [yL,meL,sumA]) (by simp [rgL]) (by simp [ndL])
    have hand:∀ s,CtP 1 3 0 4 (andP lax (orN lax n) s) s:=fun s=>(and_loop hrow (s.length+1) [] s).weak (by simp [zL,meL,sumA]) (by simp [yL,meL,sumA]) (by simp [rgL]) (by simp [ndL])
    exact (or_loop hand (s.length+1) [] s).weak (by simp [zL,meL,sumA]) (by simp [yL,meL,sumA]) (by simp [rgL]) (by simp [ndL])
theorem maxA_le_sum {α:Type}{f g:α->Nat}:∀ {l:List α},(∀ a∈l,f a<=g a)->maxA f l<=sumA g l
  | [],_=>Nat.zero_le _
  | a::l,h=>by
    have h1:=h a (by simp)
    have h2:=maxA_le_sum (l:=l) (fun b hb=>h b (by simp [hb]))
    simp only [maxA,sumA]
    omega
theorem rwsM_np:∀ l:List Me,(∀ a∈l,a.n<=a.z/\a.p<=a.z)->(rwsM l).n<=(rwsM l).z/\(rwsM l).p<=(rwsM l).z
  | [],_=>by simp [rwsM,oneM]
  | [a],h=>by simpa [rwsM] using h a (by simp)
  | a::b::l,h=>by
    have h1:=rwsM_np (b::l) (fun x hx=>h x (by simp at hx ⊢;exact .inr hx))
    have h2:=h a (by simp)
    show (pairM a (rwsM (b::l))).n<=_/\(pairM a (rwsM (b::l))).p<=(pairM a (rwsM (b::l))).z
    simp only [pairM]
    refine ⟨?_,?_⟩
    · show a.n+(rwsM (b::l)).n<=a.z+(rwsM (b::l)).z
      omega
    · omega
mutual
theorem me_np:∀ p:Pat,p.me.n<=p.me.z/\p.me.p<=p.me.z
  | .set _=>by simp [Pat.me,oneM]
  | .row l=>rwsM_np (meL l) (meL_np l)
  | .or l=>by
    have h:=meL_np l
    have h1:maxA (fun x:Me=>x.n) (meL l)<=sumA (fun x:Me=>x.z) (meL l):=maxA_le_sum (fun a ha=>(h a ha).1)
    have h2:maxA (fun x:Me=>x.p) (meL l)<=sumA (fun x:Me=>x.z) (meL l):=maxA_le_sum (fun a ha=>(h a ha).2)
    simp only [Pat.me,orA]
    omega
  | .and l=>by
    have h:=meL_np l
    have h1:=maxA_le_sum (f:=(·.n)) (g:=(·.z)) (l:=(meL l).map notM) (fun a ha=>by obtain ⟨b,hb,rfl⟩:=List.mem_map.1 ha;exact (h b hb).1)
    have h2:=maxA_le_sum (f:=(·.p)) (g:=(·.z)) (l:=(meL l).map notM) (fun a ha=>by obtain ⟨b,hb,rfl⟩:=List.mem_map.1 ha;exact (h b hb).2)
    simp only [Pat.me,notM,orA] at *
    omega
  | .not p=>me_np p
  | .many p _ _=>by
    have:=me_np p
    simp only [Pat.me,manyM]
    omega
  | .group p=>me_np p
theorem meL_np:∀ l:List Pat,∀ a∈meL l,a.n<=a.z/\a.p<=a.z
  | [],a,h=>by simp [meL] at h
  | p::l,a,h=>by
    simp only [meL] at h
    rcases List.mem_cons.1 h with rfl | h
    · exact me_np p
    · exact meL_np l a h
end
theorem row_zL (l:List Pat):zL l<=(Pat.row l).me.z:=by
  show sumA (·.z) (meL l)<=(rwsM (meL l)).z
  generalize meL l=m
  induction m with
  | nil=>simp [sumA]
  | cons a m ih =>
    cases m with
    | nil=>simp [sumA,rwsM]
    | cons b m =>
      show a.z+_<=a.z+(rwsM (b::m)).z
      omega
mutual
theorem co_le:∀ p:Pat,p.co<=p.nd*p.me.z
  | .set _=>by simp [Pat.co,Pat.nd,Pat.me,oneM]
  | .row l=>by
    have h:=coL_leL l
    have h1:sumA (·.n) (meL l)<=zL l:=by
      have:∀ m:List Me,(∀ a∈m,a.n<=a.z)->sumA (·.n) m<=sumA (·.z) m:=fun m hm=>by
        induction m with
        | nil=>exact Nat.le_refl _
        | cons a m ih =>
          have h1:=hm a (by simp)
          have h2:=ih (fun b hb=>hm b (by simp [hb]))
          simp only [sumA];omega
      exact this (meL l) (fun a ha=>(meL_np l a ha).1)
    have hz:=row_zL l
    show coL l+sumA (·.n) (meL l)<=(ndL l+1)*(Pat.row l).me.z
    have:=Nat.mul_le_mul_left (ndL l) hz
    rw [Nat.succ_mul]
    omega
  | .or l=>by
    have h:=coL_leL l
    have hz:zL l<=(Pat.or l).me.z/\1<=(Pat.or l).me.z:=by
      simp only [Pat.me,orA,zL];omega
    show coL l+1<=(ndL l+1)*(Pat.or l).me.z
    have:=Nat.mul_le_mul_left (ndL l) hz.1
    rw [Nat.succ_mul]
    omega
  | .and l=>by
    have h:=coL_leL l
    have e1:sumA (·.z) ((meL l).map notM)=zL l:=by rw [sumA_map];rfl
    have hz:zL l<=(Pat.and l).me.z/\1<=(Pat.and l).me.z:=by
      show zL l<=max 1 (sumA (·.z) ((meL l).map notM))/\1<=max 1 (sumA (·.z) ((meL l).map notM))
      rw [e1];omega
    show coL l+l.length+2<=(ndL l+l.length+2)*(Pat.and l).me.z
    have h1:=Nat.mul_le_mul_left (ndL l) hz.1
    have h2:=Nat.mul_le_mul_left (l.length+2) hz.2
    rw [Nat.add_assoc (ndL l),Nat.add_mul]
    omega
  | .not p=>by
    have h:=co_le p
    have h1:1<=p.me.z:=(me_one p).2.2.2
    show p.co+1<=(p.nd+1)*p.me.z
    rw [Nat.succ_mul]
    omega
  | .many p _ _=>by
    have h:=co_le p
    show p.co+1<=(p.nd+1)*(p.me.z+1)
    rw [Nat.succ_mul,Nat.mul_succ]
    omega
  | .group p=>co_le p
theorem coL_leL:∀ l:List Pat,coL l<=ndL l*zL l
  | []=>by simp [coL]
  | p::l=>by
    have h1:=co_le p
    have h2:=coL_leL l
    show p.co+coL l<=(p.nd+ndL l)*(p.me.z+zL l)
    rw [Nat.add_mul,Nat.mul_add,Nat.mul_add]
    omega
end
structure Small (p:Pat):Prop where
  z:p.me.z<=61
  n:p.me.n<=61
  pp:p.me.p<=61
  y:p.me.y<=183
  rg:p.rg<=180
  co:p.co<=20000
  nd:p.nd<=245
theorem read_small {lax:Bool}{n:Nat}{s s':List Int}{p:Pat}(h:orN lax n s=.ok p s')(hl:s.length<=60):Small p:=by
  have h1:=orN_ct lax n s
  rw [h] at h1
  obtain ⟨a1,a2,a3,a4⟩:p.me.z+s'.length<=1+s.length/\p.me.y+3*s'.length<=3+3*s.length/\p.rg+3*s'.length<=0+3*s.length/\p.nd+4*s'.length<=5+4*s.length:=h1
  have hz:p.me.z<=61:=by omega
  have hnp:=me_np p
  refine ⟨hz,by omega,by omega,by omega,by omega,?_,by omega⟩
  have:=Nat.mul_le_mul (show p.nd<=245 by omega) hz
  have:=co_le p
  omega
end Go.Proofs.YtpoibdhhcbelnaaGreatDoor
