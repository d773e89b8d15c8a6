/- Walks and plain laws, some texts in one. -/
import Derived.Deep.RegionLawGrows
import Derived.Laws.AppendOwnNone
import Derived.Deep.DeepCutAuto
import Derived.BigRegion
import Derived.Test.YtpoibdhhcbelnaaGreatDoorM38
namespace Go.Proofs.YtpoibdhhcbelnaaGreatDoor
open Go.Shelf Go.RowKit Go.Lib Go.Sort Brm
def partO (T:List RE)(p:Nat):List Nat:=match T[p]? with | some (.or l)=>l | _=>[p]
def flatO (T:List RE)(ps:List Nat):List Nat:=ps.flatMap (partO T)
theorem flatO_snoc (T:List RE)(ps:List Nat)(p:Nat):flatO T (ps++[p])=flatO T ps++partO T p:=by simp [flatO]
theorem sumL_append (f:Nat->Nat):∀ l m:List Nat,sumL f (l++m)=sumL f l+sumL f m
  | [],m=>by simp [sumL]
  | a::l,m=>by simp only [List.cons_append,sumL];rw [sumL_append f l m];omega
theorem maxL_append (f:Nat->Nat):∀ l m:List Nat,maxL f (l++m)=max (maxL f l) (maxL f m)
  | [],m=>by simp [maxL]
  | a::l,m=>by simp only [List.cons_append,maxL];rw [maxL_append f l m];omega
theorem sumL_perm (f:Nat->Nat){l m:List Nat}(h:l.Perm m):sumL f l=sumL f m:=by
  induction h with
  | nil=>rfl
  | cons x _ ih=>simp only [sumL,ih]
  | swap x y l=>simp only [sumL];omega
  | trans _ _ h1 h2=>exact h1.trans h2
theorem sumL_sub (f:Nat->Nat):∀ {l m:List Nat},l.Nodup->(∀ x∈l,x∈m)->sumL f l<=sumL f m
  | [],m,_,_=>Nat.zero_le _
  | a::l,m,hn,hs=>by
    have ha:=hs a (by simp)
    rw [sumL_perm f (List.perm_cons_erase ha)]
    simp only [sumL]
    have hn':=List.nodup_cons.1 hn
    have:=sumL_sub f (l:=l) (m:=m.erase a) hn'.2 (fun x hx=>(List.mem_erase_of_ne (by intro e;subst e;exact hn'.1 hx)).2 (hs x (by simp [hx])))
    omega
theorem maxL_sub (f:Nat->Nat):∀ {l m:List Nat},(∀ x∈l,x∈m)->maxL f l<=maxL f m
  | [],m,_=>Nat.zero_le _
  | a::l,m,hs=>by
    simp only [maxL]
    have h1:=le_maxL (f:=f) (hs a (by simp))
    have h2:=maxL_sub f (l:=l) (m:=m) (fun x hx=>hs x (by simp [hx]))
    omega
theorem len_sumL {f:Nat->Nat}:∀ {l:List Nat},(∀ a∈l,1<=f a)->l.length<=sumL f l
  | [],_=>Nat.le_refl _
  | a::l,h=>by simp only [sumL,List.length_cons];have:=h a (by simp);have:=len_sumL (f:=f) (l:=l) (fun b hb=>h b (by simp [hb]));omega
def WfT (T:List RE):Prop:=∀ (i:Nat) (e:RE),T[i]?=some e->∀ a∈e.parts,a<i
theorem MkI.wfT {w:World}{c:MC}{q:Nat}(h:MkI w c q):WfT c.T:=fun i e hi=>(h.wf i e hi).2
theorem partO_cases {T:List RE}(p:Nat):(∃ l,T[p]?=some (.or l)/\partO T p=l)\/((∀ l,T[p]?≠some (.or l))/\partO T p=[p]):=by
  unfold partO
  split
  · rename_i l h;exact .inl ⟨l,h,rfl⟩
  · rename_i h;exact .inr ⟨fun l e=>h l e,rfl⟩
theorem partO_lt {T:List RE}(hT:WfT T){p:Nat}(hp:p<T.length):∀ a∈partO T p,a<T.length:=by
  intro a ha
  rcases partO_cases (T:=T) p with ⟨l,h1,h2⟩ | ⟨_,h2⟩
  · rw [h2] at ha;have:=hT p _ h1 a ha;omega
  · rw [h2] at ha;simp at ha;omega
theorem flatO_lt {T:List RE}(hT:WfT T){ps:List Nat}(hp:∀ a∈ps,a<T.length):∀ a∈flatO T ps,a<T.length:=by
  intro a ha
  obtain ⟨p,h1,h2⟩:=List.mem_flatMap.1 ha
  exact partO_lt hT (hp p h1) a h2
theorem partO_le {T:List RE}(hT:WfT T)(p:Nat):maxL (fun a=>(sz T a).n) (partO T p)<=(sz T p).n/\maxL (fun a=>(sz T a).p) (partO T p)<=(sz T p).p/\sumL (fun a=>(sz T a).y) (partO T p)<=(sz T p).y/\sumL (fun a=>(sz T a).z) (partO T p)<=(sz T p).z:=by
  rcases partO_cases (T:=T) p with ⟨l,h1,h2⟩ | ⟨_,h2⟩
  · rw [h2,sz_at h1 (hT p _ h1)]
    simp only [RE.size,orM]
    omega
  · rw [h2]
    simp [maxL,sumL]
theorem flatO_le {T:List RE}(hT:WfT T):∀ (ps:List Nat),maxL (fun a=>(sz T a).n) (flatO T ps)<=maxL (fun a=>(sz T a).n) ps/\maxL (fun a=>(sz T a).p) (flatO T ps)<=maxL (fun a=>(sz T a).p) ps/\sumL (fun a=>(sz T a).y) (flatO T ps)<=sumL (fun a=>(sz T a).y) ps/\sumL (fun a=>(sz T a).z) (flatO T ps)<=sumL (fun a=>(sz T a).z) ps
  | []=>by simp [flatO,maxL,sumL]
  | p::ps=>by
    have h1:=partO_le hT p
    have h2:=flatO_le hT ps
    have e:flatO T (p::ps)=partO T p++flatO T ps:=by simp [flatO]
    rw [e,maxL_append,maxL_append,sumL_append,sumL_append]
    simp only [maxL,sumL]
    omega
theorem flatO_len {T:List RE}(hT:WfT T){ps:List Nat}(hp:∀ a∈ps,a<T.length):(flatO T ps).length<=sumL (fun a=>(sz T a).z) ps :=
  Nat.le_trans (len_sumL (f:=fun a=>(sz T a).z) (fun a ha=>(sz_one hT a (flatO_lt hT hp a ha)).2.2.2)) (flatO_le hT ps).2.2.2
theorem flatO_lang {T:List RE}(hT:WfT T){ps:List Nat}(u:List Int):(∃ a∈flatO T ps,lg T a u)↔∃ a∈ps,lg T a u:=by
  have key:∀ p,(∃ a∈partO T p,lg T a u)↔lg T p u:=by
    intro p
    rcases partO_cases (T:=T) p with ⟨l,h1,h2⟩ | ⟨_,h2⟩
    · rw [h2,lg_at h1 (hT p _ h1)];rfl
    · rw [h2];simp
  constructor
  · rintro ⟨a,ha,hu⟩
    obtain ⟨p,h1,h2⟩:=List.mem_flatMap.1 ha
    exact ⟨p,h1,(key p).1 ⟨a,h2,hu⟩⟩
  · rintro ⟨p,hp,hu⟩
    obtain ⟨a,ha,hu⟩:=(key p).2 hu
    exact ⟨a,List.mem_flatMap.2 ⟨p,hp,ha⟩,hu⟩
theorem orM_sub {T:List RE}(hT:WfT T){ps l:List Nat}(hn:l.Pairwise (·<·))(hm:∀ x,x∈l↔x∈flatO T ps):orM (sz T) l<=orM (sz T) ps:=by
  have hnd:l.Nodup:=hn.imp (fun h=>by omega)
  have h:=flatO_le hT ps
  have h1:=maxL_sub (fun a=>(sz T a).n) (l:=l) (m:=flatO T ps) (fun x hx=>(hm x).1 hx)
  have h2:=maxL_sub (fun a=>(sz T a).p) (l:=l) (m:=flatO T ps) (fun x hx=>(hm x).1 hx)
  have h3:=sumL_sub (fun a=>(sz T a).y) hnd (fun x hx=>(hm x).1 hx)
  have h4:=sumL_sub (fun a=>(sz T a).z) hnd (fun x hx=>(hm x).1 hx)
  refine ⟨?_,?_,?_,?_⟩<;>simp only [orM]<;>omega
def RowV (B:Nat)(R:Nat->Nat)(l:List Nat)(v:Value)(w:World):Prop:=(l=[]/\∃ a cap,v=.slice a 0 cap)\/∃ g cap,v=.slice (some ⟨g,0,none⟩) l.length cap/\l.length<=cap/\B<=g/\g<w.heap.size/\RowP w g R l.toArray w
theorem own_rowV {w:World}{B:Nat}{R:Nat->Nat}{v:Value}{l:List Nat}(h:w.ownsRow B 159 1 v l.length (l.map fun p=>PtrB (R p))):RowV B R l v w:=by
  rcases h.2 with ⟨rfl,h0⟩ | ⟨g,cap,cur,rfl,hb,hg,hn,hm,hs,ht⟩
  · exact .inl ⟨List.length_eq_zero_iff.1 h0,none,0,rfl⟩
  · refine .inr ⟨g,cap,rfl,hn,hb,(h.lt g rfl).2,But.refl _ _,fun j hj=>?_⟩
    have hj':j<l.length:=by simpa using hj
    refine ⟨?_,h.frozenAt j⟩
    rw [h.cellAt j (by omega),List.getElem?_map,List.getElem?_eq_getElem hj']
    have e1:l.toArray[j]! = l[j]:=by simp [getElem!_pos,hj']
    rw [e1];rfl
theorem sortRest_any (R:Nat->Nat)(N B:Nat)(l:List Nat)(hl:∀ a∈l,a<N)(v:Value)(w:World)(h0:0<N)(hN:∀ p,p<N->w.cell? ⟨R p,0,none⟩=some (.int .i64 (p:Int))/\R p<B)(hB:B<=w.heap.size)(hv:RowV B R l v w)(hlen:l.length<=9000000000000000) :
    Calls Tryz.prog 173 #[v,.func (.func 174) #[] #[]] w fun e w'=>e=.returned (.tuple #[])/\∃ l':List Nat,l'.Perm l/\l'.Pairwise (fun x y=>x<=y)/\RowV B R l' v w'/\Below B w w':=by
  rcases hv with ⟨rfl,a,cap,rfl⟩ | ⟨g,cap,rfl,hc,hg,hgl,hrow⟩
  · have hcon:=AnyF.slices_SortFunc_none Tryz.sortP0 a cap (.func (.func 174) #[] #[]) w
    change Calls Tryz.prog 173 _ _ _ at hcon
    refine hcon.mono ?_
    rintro e w' ⟨he,rfl⟩
    exact ⟨he,[],List.Perm.refl _,by simp,.inl ⟨rfl,a,cap,rfl⟩,Below.refl _ _⟩
  · refine (sortRest_some R N l hl g cap w h0 (fun p hp=>⟨(hN p hp).1,by have:=(hN p hp).2;omega⟩) hrow hgl hlen).mono ?_
    rintro e w' ⟨he,l',hp,hs,hr⟩
    refine ⟨he,l',hp,hs,.inr ⟨g,cap,by rw [hp.length_eq],by rw [hp.length_eq];exact hc,hg,Nat.lt_of_lt_of_le hgl hr.but.size,But.refl _ _,hr.cell⟩,hr.but.toBelow (fun k hk=>by subst hk;exact hg) hB⟩
set_option maxRecDepth 100000 in
set_option maxHeartbeats 4000000 in
theorem compact_len0 (a:Option Addr)(cap:Nat)(w:World):Calls Tryz.prog 176 #[.slice a 0 cap] w fun e w'=>e=.returned (.slice a 0 cap)/\w'=w:=by
  go_enter Tryz.func176,Tryz.ntmps176
  go_wp2_with fail
  go_ret
  exact ⟨rfl,rfl⟩
def PartV (B:Nat)(R:Nat->Nat)(l:List Nat)(v:Value)(w:World):Prop:=∃ a cap,v=.slice a l.length cap/\∀ j p,l[j]?=some p->∃ g,a=some ⟨g,0,none⟩/\B<=g/\g<w.heap.size/\w.cell? ⟨g,j,none⟩=some (PtrB (R p))
theorem compactRest_any (R:Nat->Nat)(N B:Nat)(l:List Nat)(hl:∀ a∈l,a<N)(v:Value)(w:World)(hN:∀ p,p<N->R p<B/\∃ cs t,Blk w (R p) cs t)(hinj:∀ i j,i<N->j<N->R i=R j->i=j)(hB:B<=w.heap.size)(hv:RowV B R l v w)(hlen:l.length<=9000000000000000)(hs:l.Pairwise (fun x y=>x<=y)) :
    Calls Tryz.prog 176 #[v] w fun e w'=>∃ (v':Value) (l':List Nat),e=.returned v'/\l'.Pairwise (·<·)/\(∀ x,x∈l'↔x∈l)/\PartV B R l' v' w'/\Below B w w':=by
  rcases hv with ⟨rfl,a,cap,rfl⟩ | ⟨g,cap,rfl,hc,hg,hgl,hrow⟩
  · refine (compact_len0 a cap w).mono ?_
    rintro e w' ⟨rfl,rfl⟩
    exact ⟨_,[],rfl,by simp,fun _=>Iff.rfl,⟨a,cap,rfl,fun j p h=>by simp at h⟩,Below.refl _ _⟩
  · have hget:∀ j,j<l.toArray.size->l.toArray[j]!<N:=fun j hj=>by
      have hj':j<l.length:=by simpa using hj
      have e1:l.toArray[j]! = l[j]:=by simp [getElem!_pos,hj']
      rw [e1];exact hl _ (List.getElem_mem hj')
    have hcon:=compact_any R g cap l.toArray w hrow (fun j hj=>⟨by have:=(hN _ (hget j hj)).1;omega,(hN _ (hget j hj)).2⟩) (fun i j hi hj h=>hinj _ _ (hget i hi) (hget j hj) h) (by simpa using hlen) (by simpa using hc)
    rw [show l.toArray.size=l.length by simp] at hcon
    refine hcon.mono ?_
    rintro e w' ⟨rfl,hbut,hcell⟩
    have hm:=mem_compact_list l
    have hr:=compact_rises l.toArray (sorted_get hs)
    rw [show l.toArray.size=l.length by simp] at hm hr
    exact ⟨_,compactUpTo l.toArray l.length,rfl,hr,hm,⟨_,_,rfl,fun j p hj=>⟨g,rfl,hg,Nat.lt_of_lt_of_le hgl hbut.size,hcell j p hj⟩⟩,hbut.toBelow (fun k hk=>by subst hk;exact hg) hB⟩
end Go.Proofs.YtpoibdhhcbelnaaGreatDoor
namespace Go.Proofs.YtpoibdhhcbelnaaGreatDoor
open Go.Shelf Go.RowKit Go.Lib Go.Sort Brm
set_option maxRecDepth 100000 in
set_option maxHeartbeats 1000000 in
theorem endsRest_any (a:Nat)(b:Bool)(W:World)(ha:W.cell? ⟨a,3,none⟩=some (.bool b)):Calls Tryz.prog 179 #[PtrB a] W fun e w'=>e=.returned (.bool b)/\∃ q,w'=W.drewN q:=by
  have hla:=lt_of_cell ha
  go_enter Tryz.func179,Tryz.ntmps179
  go_wp2_with fail
  go_ret
  exact ⟨rfl,0,rfl⟩
theorem hasRest_any (R:Nat->Nat)(N B:Nat)(en:Nat->Bool)(l:List Nat)(hl:∀ a∈l,a<N)(v:Value)(w:World)(h0:0<N)(hN:∀ p,p<N->w.cell? ⟨R p,3,none⟩=some (.bool (en p)))(hv:PartV B R l v w)(hlen:l.length<=9000000000000000) :
    Calls Tryz.prog 178 #[v,.func (.func 179) #[] #[]] w fun e w'=>e=.returned (.bool (l.any en))/\∃ q,w'=w.drewN q:=by
  obtain ⟨a,cap,rfl,hc⟩:=hv
  cases hl0:l with
  | nil =>
    have hcon:=AnyE.slices_ContainsFunc_empty Tryz.hasP a cap (.func (.func 179) #[] #[]) w
    change Calls Tryz.prog 178 _ _ _ at hcon
    refine hcon.mono ?_
    rintro e w' ⟨he,rfl⟩
    exact ⟨he,0,rfl⟩
  | cons p0 l0 =>
    rw [<- hl0]
    obtain ⟨g,rfl,_⟩:=hc 0 p0 (by rw [hl0];rfl)
    haveI:Inhabited (Num N):=⟨⟨0,h0⟩⟩
    have hval:=numsOf_val l hl
    generalize numsOf l hl=ns at hval
    have hnl:ns.length=l.length:=by rw [<- hval];simp
    have eg:∀ args w,(callFunc 179 args).run Tryz.prog w=.ok (.enter 179 args) w:=enters_of Tryz.func179 (by kernel_rfl) rfl
    have hp:PredAt Tryz.prog 179 #[] (fun x:Num N=>PtrB (R x.1)) (fun x=>en x.1) w:=fun W x hb=>by
      have c:=hN x.1 x.2
      exact endsRest_any (R x.1) (en x.1) W ((hb.cell (p:=⟨R x.1,3,none⟩) (lt_of_cell c)).trans c)
    have hcon:=AnyE.slices_ContainsFunc Tryz.hasP (fun x:Num N=>PtrB (R x.1)) (fun x=>en x.1) 179 #[] eg g 0 l.length cap ns w hp (by omega) (by omega) (fun j hj=>by
      have hj2:j<l.length:=by omega
      obtain ⟨g',e',_,_,hcell⟩:=hc j l[j] (List.getElem?_eq_getElem hj2)
      cases e'
      rw [Nat.zero_add,hcell]
      have e2:ns[j]! = ns[j]:=by simp [getElem!_pos,hj]
      have e3:ns[j].1=l[j]:=by
        have:(ns.map Subtype.val)[j]'(by simpa using hj)=l[j]:=by simp only [hval]
        simpa using this
      rw [e2]
      show _=some (PtrB (R ns[j].1))
      rw [e3])
    change Calls Tryz.prog 178 _ _ _ at hcon
    refine hcon.mono ?_
    rintro e w' ⟨he,q,hq⟩
    refine ⟨?_,q,hq⟩
    rw [he]
    have:(ns.take l.length).any (fun x=>en x.1)=l.any en:=by
      rw [List.take_of_length_le (by omega)]
      conv=>rhs;rw [<- hval,List.any_map]
      rfl
    rw [this]
theorem run_append_nothing {w:World}(base:Nat)(t ty e:TypeId)(i:TypeInfo)(size c:Nat)(ht:Tryz.prog.underlying t=some (.slice e))(hi:Tryz.prog.info? e=some i)(v:Value)(n:Nat)(xs:List Value)(hown:w.ownsRow base e size v n xs) :
    (Builtin.append_ #[t,t] ty #[v,.slice none 0 c]).run Tryz.prog w=.ok v w:=by
  rcases hown.2 with ⟨rfl,rfl⟩ | ⟨g,cap,cur,rfl,_,_,hnc,_⟩
  · simp [Builtin.append_,run_underlying ht,sizeOf,typeInfo,hi,Builtin.lenOf,Builtin.firstCells]
  · simp [Builtin.append_,run_underlying ht,sizeOf,typeInfo,hi,Builtin.lenOf,Builtin.firstCells,hnc,storeCells]
theorem step_append_own {ops:Array Oper}{o:Oper}{a:Act}{w:World}{K:Act->World->Prop}{Q:Exit->Act->World->Prop}{E:Prop}
    (hg:o.guard=none) (s x:Operand) (t:TypeId) (hop:o.op=Op.call { callee:=Callee.builtin Builtin.append,args:=#[s,x],argTypes:=#[t,t] })
    (base:Nat) (e:TypeId) (i:TypeInfo) (z:Value) (size bytes:Nat) (h1:Tryz.prog.underlying t=some (.slice e)) (h2:Tryz.prog.info? e=some i) (h3:i.zero=some z) (h4:i.size=size) (h5:i.bytes=bytes) (h6:z.cells.size=size) (h7:0<size)
    (v:Value) (n:Nat) (xs:List Value) (hs:a.eval s=v) (hown:w.ownsRow base e size v n xs)
    (xa:Option Addr) (m c:Nat) (news:List Value) (hx:a.eval x=.slice xa m c) (hx0:xa=none->m=0) (hn:news.length=m*size) (hc:∀ ad,xa=some ad->∀ j u,news[j]?=some u->w.cell? (ad.add j)=some u) (h1c:∀ u∈news,u.oneCell'=true)
    (b1:n+m<=maxLen) (b2:(n+m)*bytes<=140737488355328) (hbase:base<=w.heap.size)
    (hK:∀ v' w',w'.ownsRow base e size v' (n+m) (xs++news)->w.grownBy w' v.ownBlock->K (a.put o.dst v') w') :
    if Region.wanted o (yielded ops a.tmps)=true then Oper.wp Tryz.prog o a w K Q else E:=by
  have hw:Region.wanted o (yielded ops a.tmps)=true:=by simp [Region.wanted,hg]
  rw [if_pos hw]
  cases xa with
  | some ad =>
    obtain ⟨v',w',hrun,r1,r2,_⟩:=run_append_own (P:=Tryz.prog) w base t o.type e i z size bytes h1 h2 h3 h4 h5 h6 h7 v n xs hown ad m c news hn (hc ad rfl) h1c b1 b2 hbase
    unfold Oper.wp
    simp [execOp,hop,resolve,invoke,builtin,hs,hx,hrun,Result.andThen]
    exact hK v' w' r1 r2
  | none =>
    obtain rfl:=hx0 rfl
    obtain rfl:news=[]:=List.eq_nil_of_length_eq_zero (by simpa using hn)
    have hrun:=run_append_nothing (w:=w) base t o.type e i size c h1 h2 v n xs hown
    unfold Oper.wp
    simp [execOp,hop,resolve,invoke,builtin,hs,hx,hrun,Result.andThen]
    exact hK v w (by simpa using hown) (World.grownBy.refl _ _)
end Go.Proofs.YtpoibdhhcbelnaaGreatDoor
namespace Go.Proofs.YtpoibdhhcbelnaaGreatDoor
open Go.Shelf Go.RowKit Go.Lib Go.Sort Brm
theorem Tryz.info159r:(Tryz.prog.info? 159).map (fun i=>(i.zero,i.size,i.bytes))=some (some (.pointer none),1,8):=by kernel_rfl
theorem own159_form {w:World}{B n:Nat}{v:Value}{xs:List Value}(h:w.ownsRow B 159 1 v n xs):∃ ao cap,v=.slice ao n cap:=by
  rcases h.2 with ⟨rfl,rfl⟩ | ⟨g,cap,cur,rfl,_⟩<;>exact ⟨_,_,rfl⟩
def OrI (w:World)(c:MC)(S:Nat)(ps:List Nat)(j:Nat)(iv:Value)(wr:World):Prop:=∃ (i:Nat) (v:Value),iv=.int .i64 (i:Int)/\i<=ps.length/\ps.length-i<=j/\Below S w wr/\Blk wr S [PtrB c.m] 151/\Blk wr (S+1) [v] 166/\wr.ownsRow (S+2) 159 1 v (flatO c.T (ps.take i)).length ((flatO c.T (ps.take i)).map fun p=>PtrB (c.R p))
theorem ptrs_one (R:Nat->Nat)(l:List Nat):∀ u∈l.map (fun p=>PtrB (R p)),u.oneCell'=true:=by
  intro u hu
  obtain ⟨p,_,rfl⟩:=List.mem_map.1 hu
  rfl
theorem own159_set {w:World}{B n:Nat}{v:Value}{xs:List Value}(h:w.ownsRow B 159 1 v n xs){p:Addr}(hp:p.block<B)(u:Value):(w.setCell p u).ownsRow B 159 1 v n xs:=by
  refine ⟨h.1,?_⟩
  rcases h.2 with h2 | ⟨g,cap,cur,e,hb,hg,r⟩
  · exact .inl h2
  · exact .inr ⟨g,cap,cur,e,hb,(Below.heap_setCell _ _ _ _ (by omega)).trans hg,r⟩
theorem one_ptrR (w:World)(x:Nat):∀ j u,[PtrB x][j]?=some u->(w.alloc (.cells #[PtrB x] 159)).cell? ((⟨w.heap.size,0,none⟩:Addr).add j)=some u:=by
  intro j u hj
  match j,hj with
  | 0,hj=>simp at hj;subst hj;simp [Addr.add]
open Classical in
noncomputable def endsB (T:List RE)(p:Nat):Bool:=decide (lg T p [])
theorem endsB_iff {T:List RE}{p:Nat}:endsB T p=true↔lg T p []:=by simp [endsB]
theorem OrI.step {w wr w3:World}{c:MC}{S i p cap cap3:Nat}{ps FL l:List Nat}{ao ao3:Option Addr}{j:Nat}(hFL:flatO c.T (ps.take i)=FL)(hTK:ps.take (i+1)=ps.take i++[p])(hpo:partO c.T p=l)(hi:i<ps.length)(hj:ps.length-(i+1)<=j)(hbel:Below S w wr)(hk1:Blk wr S [PtrB c.m] 151)(hk2:Blk wr (S+1) [.slice ao FL.length cap] 166)(hown:wr.ownsRow (S+2) 159 1 (.slice ao FL.length cap) FL.length (FL.map fun p=>PtrB (c.R p)))(hgrow:wr.grownBy w3 (Value.slice ao FL.length cap).ownBlock)(hown':w3.ownsRow (S+2) 159 1 (.slice ao3 (FL.length+l.length) cap3) (FL.length+l.length) ((FL.map fun p=>PtrB (c.R p))++l.map fun p=>PtrB (c.R p))) :
    w3.cell? ⟨S+1,0,none⟩=some (.slice ao FL.length cap)/\w3.frozen? ⟨S+1,0,none⟩=false/\S+1<w3.heap.size/\OrI w c S ps j (.int .i64 ((i+1:Nat):Int)) (w3.setCell ⟨S+1,0,none⟩ (.slice ao3 (FL.length+l.length) cap3)):=by
  have hfar:∀ k,k<S+2->some k≠(Value.slice ao FL.length cap).ownBlock:=fun k hk e=>by have:=(hown.lt k e.symm).1;omega
  have hb1:=hk1.grown hgrow (hfar _ (by omega))
  have hb2:=hk2.grown hgrow (hfar _ (by omega))
  have hsz:S<=wr.heap.size:=by have:=hk1.lt;omega
  have hB3:=hbel.grown hgrow hsz (fun k e=>by have:=(hown.lt k e).1;omega)
  refine ⟨hb2.cell 0,hb2.frozen 0,hb2.lt,i+1,_,rfl,by omega,hj,hB3.setCell (p:=⟨S+1,0,none⟩) (by show S<=S+1;omega) _,hb1.setOther (p:=⟨S+1,0,none⟩) (by show S≠S+1;omega) _,hb2.set 0 _,?_⟩
  rw [hTK,flatO_snoc,hFL,hpo,List.length_append,List.map_append]
  exact own159_set hown' (by show S+1<S+2;omega) _
theorem or_keep {w W:World}{c:MC}{q S:Nat}{en:Bool}{l:List Nat}{v:Value}(hI:MkI w c q)(hP:PowT w)(hq:q<=9000000000000000000)(hS:w.heap.size=S)(hl:∀ a∈l,a<c.T.length)(h1:l.length≠1)(hr:l.Pairwise (·<·))(hlen:l.length<=3000000000000)(hen:en=true↔∃ a∈l,lg c.T a [])(hB:Below w.heap.size w W)(hb1:Blk W S [PtrB c.m] 151)(hb2:Blk W (S+1) [v] 166)(hv:PartV (S+2) c.R l v W) :
    Calls Tryz.prog 129 #[PtrB c.m,PtrB W.heap.size,.slice none 0 0] (W.alloc (.cells #[.int .i64 0,.int .i64 2,v,.bool en,.func (.func 177) #[] #[PtrB (S+1),PtrB S]] 169)) (GivesE w c (q+1) (.or l)):=by
  obtain ⟨a,cap,rfl,hc⟩:=hv
  have hl2:=hb2.lt
  have hn:∀ g,S<=g->g≠W.heap.size->¬ (c.S g\/g=W.heap.size):=fun g h1 h2 h3=>by
    rcases h3 with h3 | h3
    · have:=hI.S_lt h3;omega
    · exact h2 h3
  have hBW:Below w.heap.size w (W.alloc (.cells #[.int .i64 0,.int .i64 2,.slice a l.length cap,.bool en,.func (.func 177) #[] #[PtrB (S+1),PtrB S]] 169)):=hB.alloc hB.size _
  have hparts:PartsAt (W.alloc (.cells #[.int .i64 0,.int .i64 2,.slice a l.length cap,.bool en,.func (.func 177) #[] #[PtrB (S+1),PtrB S]] 169)) (fun g=>c.S g\/g=W.heap.size) c.R a l:=fun j p hj=>by
    obtain ⟨g,e1,e2,e3,e4⟩:=hc j p hj
    exact ⟨g,0,e1,by simp;omega,hn g (by omega) (by omega),by rw [Nat.zero_add];exact (Below.cell ((Below.refl W.heap.size W).alloc (Nat.le_refl _) _) (p:=⟨g,j,none⟩) e3).trans e4⟩
  exact mk_keep (e:=.or l) hI hBW (hP.below hBW) ⟨h1,hr⟩ hl (by have:=hB.size;exact this) (Blk.new W _ 169) hen hparts
    ⟨S+1,S,a,cap,rfl,rfl,hn _ (by omega) (by omega),hn _ (by omega) (by omega),hb2.alloc _,hb1.alloc _,hparts⟩ (IntsW.nil _ _) (by simp [RE.args]) hlen hq
set_option maxRecDepth 100000 in
set_option maxHeartbeats 8000000 in
theorem or_any {w:World}{c:MC}{q pc:Nat}{pa:Option Addr}{ps:List Nat}(hI:MkI w c q)(hP:PowT w)(hq:q<=9000000000000000000)(hps:∀ a∈ps,a<c.T.length)(hpa:PartsAt w c.S c.R pa ps)(hz:sumL (fun a=>(sz c.T a).z) ps<=3000000000000) :
    Calls Tryz.prog 128 #[PtrB c.m,.slice pa ps.length pc] w (GivesL w c (q+1) (fun u=>∃ a∈ps,lg c.T a u) (orM (sz c.T) ps)):=by
  obtain ⟨i0,hi,hz0,hz1,hz2⟩:=info_parts Tryz.info159r
  obtain ⟨S,hS⟩:∃ S,w.heap.size=S:=⟨_,rfl⟩
  obtain ⟨W0,hW0⟩:∃ W0,(w.alloc (.cells #[PtrB c.m] 151)).alloc (.cells #[.slice none 0 0] 166)=W0:=⟨_,rfl⟩
  have hB0:Below S w W0:=by rw [<- hW0,<- hS];exact ((Below.refl _ _).alloc (Nat.le_refl _) _).alloc (by simp) _
  have hb1:Blk W0 S [PtrB c.m] 151:=by rw [<- hW0,<- hS];exact (Blk.new w [PtrB c.m] 151).alloc _
  have hb2:Blk W0 (S+1) [.slice none 0 0] 166:=by rw [<- hW0,<- hS];have:=Blk.new (w.alloc (.cells #[PtrB c.m] 151)) [.slice none 0 0] 166;simpa using this
  have hT:=hI.wfT
  have hpl:ps.length<=3000000000000:=Nat.le_trans (len_sumL (f:=fun a=>(sz c.T a).z) (fun a ha=>(hI.sz_one (hps a ha)).2.2.2)) hz
  have hfl:∀ i,(flatO c.T (ps.take i)).length<=3000000000000:=fun i=>by
    have h1:=flatO_len hT (ps:=ps.take i) (fun a ha=>hps a (List.mem_of_mem_take ha))
    have h2:sumL (fun a=>(sz c.T a).z) ps=sumL (fun a=>(sz c.T a).z) (ps.take i)+sumL (fun a=>(sz c.T a).z) (ps.drop i):=by rw [<- sumL_append,List.take_append_drop]
    omega
  have HI:=hide hI
  have HP:=hide hP
  have HPS:=hide hps
  have HPA:=hide hpa
  have HW0:=hide hW0
  have HST:Hid (OrI w c S ps ps.length (.int .i64 0) W0):=⟨0,_,rfl,Nat.zero_le _,by omega,hB0,hb1,hb2,World.ownsRow_nil _ _ _ _⟩
  have HFL:=hide hfl
  have HT:=hide hT
  clear hI hP hps hpa hz hW0 hB0 hb1 hb2 hfl hT
  go_enter Tryz.func128,Tryz.ntmps128
  go_wp2_with fail
  rw [HW0.out]
  try simp only [hS]
  go_wp2_with fail
  go_loopg [12] ps.length (fun j iv wr=>OrI w c S ps j iv wr)
  case atStart=>exact HST.out
  case round =>
    obtain ⟨i,v,rfl,hil,hj,hbel,hk1,hk2,hown⟩:=hrel
    have k0:(0:Int)<=(i:Int):=Int.natCast_nonneg _
    have hsz:S+2<=wr.heap.size:=by have:=hk2.lt;omega
    obtain ⟨ao,cap,rfl⟩:=own159_form hown
    by_cases hlt:i<ps.length
    · have k1:(i:Int)<(ps.length:Int):=by omega
      obtain ⟨p,hp⟩:∃ p,ps[i]?=some p:=⟨_,List.getElem?_eq_getElem hlt⟩
      have hpl:=HPS.out p (List.mem_of_getElem? hp)
      obtain ⟨e,he⟩:∃ e,c.T[p]?=some e:=⟨_,List.getElem?_eq_getElem hpl⟩
      obtain ⟨pa2,pc2,en2,fv2,hR,hen2,hpa2,hnS2⟩:=HI.out.look he
      obtain ⟨bb,off,rfl,hbb,hbS,hcp⟩:=HPA.out i p hp
      rw [hS] at hbb
      have c1:wr.cell? ⟨bb,off+i,none⟩=some (PtrB (c.R p)):=(hbel.cell (p:=⟨bb,off+i,none⟩) hbb).trans hcp
      have hbbl:bb<wr.heap.size:=by omega
      have hRr:=Blk.below hR (show Below w.heap.size w wr by rw [hS];exact hbel)
      have x1:wr.cell? ⟨c.R p,1,none⟩=some (.int .i64 e.kd):=hRr.cell 1
      have x2:wr.cell? ⟨c.R p,2,none⟩=some (.slice pa2 e.parts.length pc2):=hRr.cell 2
      have hRl:=hRr.lt
      have hTK:ps.take (i+1)=ps.take i++[p]:=take_snocL hp
      have hlen:=HFL.out (i+1)
      rw [hTK,flatO_snoc,List.length_append] at hlen
      have k2c:wr.cell? ⟨S+1,0,none⟩=some (.slice ao (flatO c.T (ps.take i)).length cap):=hk2.cell 0
      generalize hFLE:flatO c.T (ps.take i)=FL at *
      by_cases hor:∃ l,e=.or l
      · obtain ⟨l,rfl⟩:=hor
        have hpo:partO c.T p=l:=by unfold partO;rw [he]
        rw [hpo] at hlen
        simp only [RE.kd,RE.parts] at x1 x2 hpa2
        have HX0:Hid (pa2=none->l.length=0):=fun h0=>by
          cases l with
          | nil=>rfl
          | cons a l=>obtain ⟨b9,o9,e9,_⟩:=hpa2 0 a rfl;rw [h0] at e9;cases e9
        have HCL:Hid (∀ ad,pa2=some ad->∀ j u,(l.map fun p=>PtrB (c.R p))[j]?=some u->wr.drew.cell? (ad.add j)=some u):=fun ad had j u hu=>by
          rw [List.getElem?_map] at hu
          obtain ⟨p',hp',rfl⟩:=Option.map_eq_some_iff.1 hu
          obtain ⟨b9,o9,e9,hb9,_,hc9⟩:=hpa2 j p' hp'
          rw [had] at e9;cases e9
          rw [show (⟨b9,o9,none⟩:Addr).add j=⟨b9,o9+j,none⟩ by simp [Addr.add]]
          show wr.cell? ⟨b9,o9+j,none⟩=_
          exact (hbel.cell (p:=⟨b9,o9+j,none⟩) (by rw [<- hS];exact hb9)).trans hc9
        have HSTEP:=hide (fun (w3:World) (ao3:Option Addr) (cap3:Nat) (hg:wr.grownBy w3 _)=>OrI.step (w:=w) (wr:=wr) (w3:=w3) (ao3:=ao3) (cap3:=cap3) (j:=ps.length-(i+1)) hFLE hTK hpo hlt (Nat.le_refl _) hbel hk1 hk2 hown hg)
        have HOWN:Hid (wr.drew.ownsRow (S+2) 159 1 (.slice ao FL.length cap) FL.length (FL.map fun p=>PtrB (c.R p))):=hown
        clear hRr hR hk1 hk2 hbel hown hcp hpa2 hen2 hnS2 hTK hFLE hpo he hp hpl hbS
        go_wp2_with fail
        go_region_law (refine step_append_own rfl (.tmp 21) (.tmp 25) 166 rfl (S+2) 159 i0 (.pointer none) 1 8 Tryz.underlying166 hi hz0 hz1 hz2 rfl (by decide) (.slice ao FL.length cap) FL.length (FL.map fun p=>PtrB (c.R p)) (by simp [Act.eval]) HOWN.out pa2 l.length pc2 (l.map fun p=>PtrB (c.R p)) (by simp [Act.eval]) HX0.out (by simp) HCL.out (ptrs_one _ _) (by unfold maxLen;omega) (by omega) (by simp;omega) ?_;intro v' w3 hown' hgrow;obtain ⟨ao3,cap3,rfl⟩:=own159_form hown';obtain ⟨e3,f3,l3,h3⟩:=HSTEP.out w3 ao3 cap3 ⟨hgrow.os,hgrow.tape,hgrow.output,hgrow.size,hgrow.block⟩ hown';have H3:=hide h3;clear h3 hown' hgrow)
        all_goals go_wp2_with fail
        all_goals go_roundg (ps.length-(i+1))
        all_goals first | omega | exact H3.out
      · have hpo:partO c.T p=[p]:=by
          rcases partO_cases (T:=c.T) p with ⟨l,h1,_⟩ | ⟨_,h2⟩
          · rw [he] at h1;cases h1;exact absurd ⟨l,rfl⟩ hor
          · exact h2
        rw [hpo] at hlen
        have hzk:(e.kd == 2)=false:=beq_eq_false_iff_ne.2 (fun h=>hor (by cases e<;>simp [RE.kd] at h;exact ⟨_,rfl⟩))
        have HSTEP:=hide (fun (w3:World) (ao3:Option Addr) (cap3:Nat) (hg:(wr.alloc (.cells #[PtrB (c.R p)] 159)).grownBy w3 _)=>OrI.step (w:=w) (wr:=wr.alloc (.cells #[PtrB (c.R p)] 159)) (w3:=w3) (ao3:=ao3) (cap3:=cap3) (j:=ps.length-(i+1)) hFLE hTK hpo hlt (Nat.le_refl _) (hbel.alloc (by omega) _) (hk1.alloc _) (hk2.alloc _) (hown.alloc _) hg)
        have HOWN:Hid ((wr.alloc (.cells #[PtrB (c.R p)] 159)).ownsRow (S+2) 159 1 (.slice ao FL.length cap) FL.length (FL.map fun p=>PtrB (c.R p))):=hown.alloc _
        clear hRr hR hk1 hk2 hbel hown hcp hpa2 hen2 hnS2 hTK hFLE hpo he hp hpl hbS hor
        go_wp2_with (at_builtin;refine wpList_append_own _ rfl _ _ 166 rfl (S+2) 159 i0 (.pointer none) 1 8 Tryz.underlying166 hi hz0 hz1 hz2 rfl (by decide) _ _ _ rfl HOWN.out ⟨wr.heap.size,0,none⟩ 1 1 [PtrB (c.R p)] rfl rfl (one_ptrR _ _) (by simp [Value.oneCell']) (by unfold maxLen;simp at hlen;omega) (by simp at hlen;omega) (by simp;omega) ?_;intro v' w3 hown' hgrow _;obtain ⟨ao3,cap3,rfl⟩:=own159_form hown';obtain ⟨e3,f3,l3,h3⟩:=HSTEP.out w3 ao3 cap3 hgrow hown';have H3:=hide h3;clear h3 hown' hgrow)
        go_roundg (ps.length-(i+1))
        all_goals first | omega | exact H3.out
    · have d1:decide ((i:Int)<(ps.length:Int))=false:=decide_eq_false (by omega)
      have hie:i=ps.length:=by omega
      subst hie
      rw [List.take_length] at hown hk2
      have hlen:=HFL.out ps.length
      rw [List.take_length] at hlen
      have hI:=HI.out
      have h0l:0<c.T.length:=(List.getElem?_eq_some_iff.1 hI.t0).1
      have hRS:∀ p,p<c.T.length->c.R p<S:=fun p hp=>by rw [<- hS];exact (hI.cell0 hp).2
      have hbw:Below w.heap.size w wr:=by rw [hS];exact hbel
      have HSORT:=hide (sortRest_any c.R c.T.length (S+2) (flatO c.T ps) (flatO_lt HT.out HPS.out) _ wr h0l (fun p hp=>⟨((hbw.cell (p:=⟨c.R p,0,none⟩) (hI.cell0 hp).2).trans (hI.cell0 hp).1),by have:=hRS p hp;omega⟩) hsz (own_rowV hown) (by omega))
      have k2c:wr.cell? ⟨S+1,0,none⟩=some (.slice ao (flatO c.T ps).length cap):=hk2.cell 0
      have HK1:=hide hk1
      have HK2:=hide hk2
      have HBW:=hide hbw
      have HRS:=hide hRS
      generalize hFLE:flatO c.T ps=FL at *
      have HFLE:=hide hFLE
      clear hI hk1 hk2 hbel hown hbw hRS hFLE
      go_wp2_with fail
      refine HSORT.out.mono ?_
      rintro e w5 ⟨rfl,l5,hp5,hs5,hv5,hb5⟩
      have HCMP:=hide (compactRest_any c.R c.T.length (S+2) l5 (fun a ha=>by have:=hp5.mem_iff.1 ha;rw [<- HFLE.out] at this;exact flatO_lt HT.out HPS.out a this) _ w5 (fun p hp=>⟨by have:=HRS.out p hp;omega,by
        obtain ⟨e9,he9⟩:∃ e,c.T[p]?=some e:=⟨_,List.getElem?_eq_getElem hp⟩
        obtain ⟨pa9,pc9,en9,fv9,hR9,_⟩:=HI.out.look he9
        exact ⟨_,_,(hb5.block _ (by have:=HRS.out p hp;omega)).trans (Blk.below hR9 HBW.out)⟩⟩) (fun i j hi hj h=>HI.out.inj i j hi hj h) (Nat.le_trans hsz hb5.size) hv5 (by rw [hp5.length_eq];omega) hs5)
      have k5:w5.cell? ⟨S+1,0,none⟩=some (.slice ao FL.length cap):=(hb5.cell (p:=⟨S+1,0,none⟩) (by show S+1<S+2;omega)).trans k2c
      have hl5:S+1<w5.heap.size:=by have:=hb5.size;omega
      have HP5:=hide hp5
      have HB5:=hide hb5
      clear hp5 hs5 hv5 hb5
      go_wp2_with fail
      refine HCMP.out.mono ?_
      rintro e w6 ⟨v6,l6,rfl,hr6,hm6,hv6,hb6⟩
      obtain ⟨a6,cap6,rfl,hc6⟩:=hv6
      have HM:Hid (∀ x,x∈l6↔x∈flatO c.T ps):=fun x=>by rw [hm6 x,HP5.out.mem_iff,HFLE.out]
      have HLT:Hid (∀ x∈l6,x<c.T.length):=fun x hx=>flatO_lt HT.out HPS.out x ((HM.out x).1 hx)
      have hlen6:l6.length<=FL.length:=by
        have h9:=sumL_sub (fun _=>1) (l:=l6) (m:=FL) (hr6.imp (fun h=>by omega)) (fun x hx=>by rw [<- HFLE.out];exact (HM.out x).1 hx)
        have e9:∀ l:List Nat,sumL (fun _=>1) l=l.length:=fun l=>by induction l with | nil=>rfl | cons a l ih=>simp only [sumL,ih,List.length_cons];omega
        rw [e9,e9] at h9;exact h9
      have hk6:Blk w6 (S+1) [.slice ao FL.length cap] 166:=(hb6.block _ (by omega)).trans ((HB5.out.block _ (by omega)).trans HK2.out)
      have hk61:Blk w6 S [PtrB c.m] 151:=(hb6.block _ (by omega)).trans ((HB5.out.block _ (by omega)).trans HK1.out)
      have hB6:Below w.heap.size w w6:=HBW.out.trans ((HB5.out.mono (by omega)).trans (hb6.mono (by omega)))
      have k6:w6.cell? ⟨S+1,0,none⟩=some (.slice ao FL.length cap):=hk6.cell 0
      have f6:=hk6.frozen 0
      have hl6:=hk6.lt
      have hB7:Below w.heap.size w (w6.setCell ⟨S+1,0,none⟩ (.slice a6 l6.length cap6)):=hB6.setCell (p:=⟨S+1,0,none⟩) (by show w.heap.size<=S+1;omega) _
      have hk7:Blk (w6.setCell ⟨S+1,0,none⟩ (.slice a6 l6.length cap6)) (S+1) [.slice a6 l6.length cap6] 166:=hk6.set 0 _
      have hk71:Blk (w6.setCell ⟨S+1,0,none⟩ (.slice a6 l6.length cap6)) S [PtrB c.m] 151:=hk61.setOther (p:=⟨S+1,0,none⟩) (by show S≠S+1;omega) _
      have hc7:PartV (S+2) c.R l6 (.slice a6 l6.length cap6) (w6.setCell ⟨S+1,0,none⟩ (.slice a6 l6.length cap6)):=⟨a6,cap6,rfl,fun j p hj=>by
        obtain ⟨g,e1,e2,e3,e4⟩:=hc6 j p hj
        exact ⟨g,e1,e2,by simpa [World.setCell] using e3,(World.cell?_of_block (w:=w6) (Below.heap_setCell w6 ⟨S+1,0,none⟩ _ g (show g≠S+1 by omega))).trans e4⟩⟩
      have HR6:=hide hr6
      clear hm6 hb6 hk61 hB6 k5 k2c hr6 hk6
      by_cases h1:l6.length=1
      · obtain ⟨x,rfl⟩:=List.length_eq_one_iff.1 h1
        have hx:=HLT.out x (by simp)
        obtain ⟨g,rfl,hg1,hg2,hg3⟩:=hc6 0 x rfl
        have hne:g≠S+1:=by omega
        have HG:Hid (GivesL w c (q+1) (fun u=>∃ a∈ps,lg c.T a u) (orM (sz c.T) ps) (.returned (PtrB (c.R x))) (w6.setCell ⟨S+1,0,none⟩ (.slice (some ⟨g,0,none⟩) 1 cap6))):=by
          refine ⟨c,x,rfl,(HI.out.below hB7).more (by omega),Gone.below hB7,hx,?_,?_⟩
          · funext u
            rw [<- propext (flatO_lang HT.out u)]
            refine propext ⟨fun h=>⟨x,(HM.out x).1 (by simp),h⟩,?_⟩
            rintro ⟨a,ha,hu⟩
            have:=(HM.out a).2 ha
            simp at this
            rw [<- this];exact hu
          · exact Me.trans (le_orM (f:=sz c.T) (l:=[x]) (by simp)) (orM_sub HT.out HR6.out HM.out)
        clear hB7 hk7 hk71 hc7 hc6
        simp only [List.length_singleton] at *
        go_wp2_with fail
        go_ret
        exact HG.out
      · have hz1':((l6.length:Int) == 1)=false:=beq_eq_false_iff_ne.2 (by omega)
        have hz1'':(l6.length == 1)=false:=beq_eq_false_iff_ne.2 h1
        have HKEEP:=hide (fun (k:Nat) (en:Bool) (hen:en=true↔∃ a∈l6,lg c.T a [])=>or_keep (c:=c) (q:=q) (en:=en) (W:=((w6.setCell ⟨S+1,0,none⟩ (.slice a6 l6.length cap6)).drewN k)) HI.out HP.out hq hS HLT.out h1 HR6.out (by omega) hen ⟨hB7.os,hB7.tape,hB7.output,hB7.size,hB7.block⟩ (hk71.drewN k) (hk7.drewN k) ⟨a6,cap6,rfl,by obtain ⟨a7,cap7,e7,hc7⟩:=hc7;cases e7;exact hc7⟩)
        have HHAS:=hide (hasRest_any c.R c.T.length (S+2) (endsB c.T) l6 HLT.out (.slice a6 l6.length cap6) (w6.setCell ⟨S+1,0,none⟩ (.slice a6 l6.length cap6)) h0l (fun p hp=>by
          obtain ⟨e9,he9⟩:∃ e,c.T[p]?=some e:=⟨_,List.getElem?_eq_getElem hp⟩
          obtain ⟨pa9,pc9,en9,fv9,hR9,hen9,_⟩:=HI.out.look he9
          have c9:=(Blk.below hR9 hB7).cell 3
          have:en9=endsB c.T p:=by
            cases en9 with
            | true=>exact (endsB_iff.2 (hen9.1 rfl)).symm
            | false =>
              cases h:endsB c.T p with
              | false=>rfl
              | true=>have:=hen9.2 (endsB_iff.1 h);cases this
          rw [<- this];exact c9) hc7 (by omega))
        have HEN:Hid (l6.any (endsB c.T)=true↔∃ a∈l6,lg c.T a []):=by
          show _↔_
          rw [List.any_eq_true]
          exact ⟨fun ⟨a,h1,h2⟩=>⟨a,h1,endsB_iff.1 h2⟩,fun ⟨a,h1,h2⟩=>⟨a,h1,endsB_iff.2 h2⟩⟩
        have HGL:Hid (∀ r w9,GivesE w c (q+1) (.or l6) r w9->GivesL w c (q+1) (fun u=>∃ a∈ps,lg c.T a u) (orM (sz c.T) ps) r w9):=fun r w9 h9=>h9.at (Below.refl _ _) HLT.out (by
          funext u
          rw [<- propext (flatO_lang HT.out u)]
          exact propext ⟨fun ⟨a,h1,h2⟩=>⟨a,(HM.out a).1 h1,h2⟩,fun ⟨a,h1,h2⟩=>⟨a,(HM.out a).2 h1,h2⟩⟩) (orM_sub HT.out HR6.out HM.out)
        generalize l6.any (endsB c.T)=en at HHAS HEN
        have k7:(w6.setCell ⟨S+1,0,none⟩ (.slice a6 l6.length cap6)).cell? ⟨S,0,none⟩=some (PtrB c.m):=hk71.cell 0
        have n7:S≠S+1:=by omega
        have k8:w6.cell? ⟨S,0,none⟩=some (PtrB c.m):=(World.cell?_of_block (w:=w6) (Below.heap_setCell w6 ⟨S+1,0,none⟩ _ S n7)).symm.trans k7
        have hlS:S<w6.heap.size:=by omega
        clear hB7 hk7 hk71 hc7 hc6
        go_wp2_with fail
        refine HHAS.out.mono ?_
        rintro e w8 ⟨rfl,q8,rfl⟩
        go_wp2_with fail
        have hk:=HKEEP.out q8 en HEN.out
        rw [show ((w6.setCell ⟨S+1,0,none⟩ (.slice a6 l6.length cap6)).drewN q8).heap.size=w6.heap.size by simp [World.setCell]] at hk
        refine hk.mono ?_
        intro r w9 h9
        have HG9:=hide (HGL.out r w9 h9)
        obtain ⟨c9,j9,rfl,h10⟩:=h9
        clear h10 hk
        go_wp2_with fail
        go_ret
        exact HG9.out
end Go.Proofs.YtpoibdhhcbelnaaGreatDoor
