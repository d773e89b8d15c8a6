/- Walks and plain laws, some texts in one. -/
import Derived.BigRegion
import Derived.BigQuiet
import Derived.Deep.QuietTactic
import Derived.Test.YtpoibdhhcbelnaaGreatDoorM06
import Derived.Test.YtpoibdhhcbelnaaGreatDoorM13
namespace Go.Proofs.YtpoibdhhcbelnaaGreatDoor
open Go.Shelf Go.RowKit Go.Lib Go.Sort
def encR (x:Int×Int):List Value:=[.int .i64 x.1,.int .i64 x.2]
theorem ltLow (x y:Int×Int):ltOf (fun x y:Int×Int=>Lib.compareInt x.1 y.1) x y=decide (x.1<y.1):=by
  unfold ltOf Lib.compareInt
  by_cases h1:x.1<y.1
  · simp [h1]
  · by_cases h2:y.1<x.1<;>simp [h1,h2]
theorem swoLow:SWO (ltOf fun x y:Int×Int=>Lib.compareInt x.1 y.1):={
  irrefl:=fun x=>by rw [ltLow];simp
  trans:=fun x y z h1 h2=>by rw [ltLow] at *;simp at *;omega
  ntrans:=fun x y z h1 h2=>by rw [ltLow] at *;simp at *;omega }
set_option maxRecDepth 100000 in
set_option maxHeartbeats 1000000 in
theorem closure_any (x y:Int×Int)(W:World):Calls Tryz.prog 244 #[.agg #[.int .i64 x.1,.int .i64 x.2],.agg #[.int .i64 y.1,.int .i64 y.2]] W fun e w'=>e=.returned (.int .i64 (Lib.compareInt x.1 y.1))/\∃ q os',w'=grow (W.drewN q) os':=by
  have hcon:=fun W'=>AnyG.cmp_Compare_int Tryz.cmpInt x.1 y.1 W'
  change ∀ W',Calls Tryz.prog 175 _ _ _ at hcon
  generalize Lib.compareInt x.1 y.1=r at hcon ⊢
  go_enter Tryz.func244,Tryz.ntmps244
  go_wp2_with (go_at_call 175;refine (hcon _).mono ?_;rintro e w' ⟨rfl,rfl⟩)
  go_ret
  exact ⟨rfl,0,_,by rw [alloc_eq_grow,alloc_eq_grow,grow_grow];rfl⟩
theorem flat_get (l:List (Int×Int))(t:Nat)(h:t<l.length*2):(cellsR l)[t]?=some ((flatK encR 2 l.toArray)[t]!):=by
  rw [get_flatK encR 2 l.toArray t (by simpa using h)]
  have hi:t / 2<l.length:=by omega
  have hx:l[t / 2]?=some l[t / 2]:=List.getElem?_eq_getElem hi
  have e:l.toArray[t / 2]! = l[t / 2]:=by simp [getElem!_pos,hi]
  rw [e]
  have:=cellsR_get hx
  rcases Nat.mod_two_eq_zero_or_one t with h0 | h1
  · rw [h0];rw [show t / 2*2=t from by omega] at this;rw [this.1];rfl
  · rw [h1];rw [show t / 2*2+1=t from by omega] at this;rw [this.2];rfl
theorem own_holds {w:World}{B g cap:Nat}{l:List (Int×Int)}(h:w.ownsRow B 149 2 (.slice (some ⟨g,0,none⟩) l.length cap) l.length (cellsR l)):HoldsK encR 2 w g 0 l.toArray:=by
  intro j hj
  have hj':j<l.length*2:=by simpa using hj
  refine ⟨?_,by rw [Nat.zero_add];exact h.frozenAt j⟩
  rw [Nat.zero_add,h.cellAt j hj',flat_get l j hj']
  rfl
theorem own_sorted {w:World}{B g cap q:Nat}{os:Array Obj}{l l':List (Int×Int)}(h:w.ownsRow B 149 2 (.slice (some ⟨g,0,none⟩) l.length cap) l.length (cellsR l))(hl:l'.length=l.length) :
    (sortWorldK encR 2 w g 0 q l'.toArray os).ownsRow B 149 2 (.slice (some ⟨g,0,none⟩) l'.length cap) l'.length (cellsR l')/\Below B w (sortWorldK encR 2 w g 0 q l'.toArray os):=by
  rcases h.2 with ⟨e0,_⟩ | ⟨g',cap',cur,e0,hb,hg,hn,hm,hs,ht⟩
  · cases e0
  · injection e0 with e1 _ e3
    injection e1 with e1
    injection e1 with e1
    subst e1;subst e3
    have hlt:g<w.heap.size:=(h.lt g rfl).2
    constructor
    · refine ⟨cellsR_length l',.inr ⟨g,cap,putCells id 0 (flatK encR 2 l'.toArray) cur,rfl,hb,?_,by omega,hm,by simpa [putCells] using hs,?_⟩⟩
      · simp only [sortWorldK,grow,putRowK,putRow,mapBlock,Sort.ahead]
        rw [Array.getElem?_append_left (by simpa using hlt),Array.getElem?_modify,if_pos rfl,hg]
        rfl
      · apply List.ext_getElem?
        intro j
        rw [List.getElem?_take,Array.getElem?_toList]
        by_cases hj:j<l'.length*2
        · have hjc:j<cur.size:=by omega
          simp only [if_pos hj,putCells,Array.getElem?_mapIdx,Array.getElem?_eq_getElem hjc,Option.map_some]
          rw [if_pos (by simp;omega),flat_get l' j hj]
          simp
        · rw [if_neg hj,List.getElem?_eq_none (by rw [cellsR_length];omega)]
    · refine ⟨rfl,rfl,rfl,by simp [sortWorldK,grow,putRowK,putRow,mapBlock,Sort.ahead],fun k hk=>?_⟩
      simp only [sortWorldK,grow,putRowK,putRow,mapBlock,Sort.ahead]
      rw [Array.getElem?_append_left (by simp;omega),Array.getElem?_modify,if_neg (by omega)]
set_option maxRecDepth 100000 in
set_option maxHeartbeats 1000000 in
theorem sort_some (l:List (Int×Int))(g cap B:Nat)(w:World)(h:w.ownsRow B 149 2 (.slice (some ⟨g,0,none⟩) l.length cap) l.length (cellsR l))(hlen:l.length<=1000000) :
    Calls Tryz.prog 243 #[.slice (some ⟨g,0,none⟩) l.length cap,.func (.func 244) #[] #[]] w fun e w'=>e=.returned (.tuple #[])/\∃ l',l'.Perm l/\l'.Pairwise (fun x y=>x.1<=y.1) /\
      w'.ownsRow B 149 2 (.slice (some ⟨g,0,none⟩) l'.length cap) l'.length (cellsR l')/\Below B w w':=by
  have eg:∀ args w,(callFunc 244 args).run Tryz.prog w=.ok (.enter 244 args) w:=enters_of Tryz.func244 (by kernel_rfl) rfl
  have hcon:=AnyQ.slices_SortFunc Tryz.sortR 2 Tryz.isAgg149 Tryz.sizeOf149 encR (fun _=>rfl) (fun x v hv=>by simp [encR] at hv;rcases hv with rfl | rfl<;>rfl) (fun x y=>Lib.compareInt x.1 y.1) swoLow 244 #[] g 0 cap l.toArray w eg
    (fun _ _ _ _ x y=>closure_any x y _) (own_holds h) (h.lt g rfl).2 (by simp;omega)
  change Calls Tryz.prog 243 _ _ _ at hcon
  simp only [List.size_toArray] at hcon
  refine hcon.mono ?_
  rintro e w' ⟨he,d',n,os,hp,hs,rfl⟩
  obtain ⟨hsz,_,hperm⟩:=hp
  have hsz':d'.size=l.length:=by simpa using hsz
  have hl':d'.toList.length=l.length:=by simpa using hsz'
  refine ⟨he,d'.toList,?_,?_,?_⟩
  · have e1:d'.extract 0 l.length=d':=by rw [<- hsz'];simp
    have e2:l.toArray.extract 0 l.length=l.toArray:=by simp
    rw [e1,e2] at hperm
    simpa using hperm
  · rw [List.pairwise_iff_getElem]
    intro i j hi hj hij
    have:=hs i j (Nat.zero_le _) hij (by omega)
    rw [ltLow] at this
    simp only [decide_eq_false_iff_not] at this
    have hi2:i<d'.size:=by omega
    have hj2:j<d'.size:=by omega
    rw [getElem!_pos d' i hi2,getElem!_pos d' j hj2] at this
    simp only [Array.getElem_toList]
    omega
  · have:=own_sorted (q:=n) (os:=os) (l':=d'.toList) h hl'
    simpa using this
theorem sort_any (l:List (Int×Int))(v:Value)(B:Nat)(w:World)(h:w.ownsRow B 149 2 v l.length (cellsR l))(hlen:l.length<=1000000) :
    Calls Tryz.prog 243 #[v,.func (.func 244) #[] #[]] w fun e w'=>e=.returned (.tuple #[])/\∃ l',l'.Perm l/\l'.Pairwise (fun x y=>x.1<=y.1)/\w'.ownsRow B 149 2 v l'.length (cellsR l')/\Below B w w':=by
  rcases h.2 with ⟨rfl,h0⟩ | ⟨g,cap,cur,rfl,_⟩
  · have hl:l=[]:=List.length_eq_zero_iff.1 h0
    subst hl
    have hcon:=AnyF.slices_SortFunc_none Tryz.sortR none 0 (.func (.func 244) #[] #[]) w
    change Calls Tryz.prog 243 _ _ _ at hcon
    refine hcon.mono ?_
    rintro e w' ⟨he,rfl⟩
    exact ⟨he,[],List.Perm.refl _,by simp,h,Below.refl _ _⟩
  · refine (sort_some l g cap B w h hlen).mono ?_
    rintro e w' ⟨he,l',hp,hs,ho,hb⟩
    refine ⟨he,l',hp,hs,?_,hb⟩
    rw [hp.length_eq] at ho ⊢
    exact ho
end Go.Proofs.YtpoibdhhcbelnaaGreatDoor
namespace Go.Proofs.YtpoibdhhcbelnaaGreatDoor
open Go.RowKit
def FInv (S out:List (Int×Int))(k:Nat):Prop :=
  Brm.Canon out/\(∀ r,Brm.runeB r=true->Brm.memB out r=Brm.memB (S.take k) r)/\(∀ x∈out,∀ y∈S.drop k,x.1<=y.1)/\out.length<=k
theorem finv_new {S out:List (Int×Int)}{k:Nat}{x:Int×Int}(h:FInv S out k)(hx:S[k]?=some x)(hs:S.Pairwise fun x y=>x.1<=y.1)(g:Brm.Good x)
    (hn:out=[]\/∃ p last,out=p++[last]/\Brm.after last.2<x.1):FInv S (out++[x]) (k+1):=by
  obtain ⟨h1,h2,h3,h4⟩:=h
  have hf:=Brm.form_new h1 h2 g hn
  have ht:S.take (k+1)=S.take k++[x]:=by rw [List.take_add_one,hx];rfl
  refine ⟨hf.1,fun r hr=>by rw [hf.2 r hr,ht],fun z hz y hy=>?_,by simp;omega⟩
  have hd:=drop_cons hx
  rcases List.mem_append.1 hz with hz | hz
  · exact h3 z hz y (by rw [hd];exact List.mem_cons_of_mem _ hy)
  · simp at hz;subst hz
    have:=(List.pairwise_append.1 ((List.take_append_drop k S).symm▸hs)).2.1
    rw [hd] at this
    exact (List.pairwise_cons.1 this).1 y hy
theorem finv_join {S p:List (Int×Int)}{k:Nat}{x last:Int×Int}(h:FInv S (p++[last]) k)(hx:S[k]?=some x)(g:Brm.Good x)(hj:x.1<=Brm.after last.2):FInv S (p++[(last.1,max last.2 x.2)]) (k+1):=by
  obtain ⟨h1,h2,h3,h4⟩:=h
  have hd:=drop_cons hx
  have hl:last.1<=x.1:=h3 last (by simp) x (by rw [hd];simp)
  have hf:=Brm.form_join h1 h2 g hl hj
  have ht:S.take (k+1)=S.take k++[x]:=by rw [List.take_add_one,hx];rfl
  refine ⟨hf.1,fun r hr=>by rw [hf.2 r hr,ht],fun z hz y hy=>?_,by simp at h4 ⊢;omega⟩
  rcases List.mem_append.1 hz with hz | hz
  · exact h3 z (by simp [hz]) y (by rw [hd];exact List.mem_cons_of_mem _ hy)
  · simp at hz;subst hz
    exact h3 last (by simp) y (by rw [hd];exact List.mem_cons_of_mem _ hy)
theorem finv_end {l S out:List (Int×Int)}{k:Nat}(h:FInv S out k)(hk:S.length<=k)(hp:S.Perm (Brm.runes l))(hok:∀ x∈l,Brm.okB x=true):Brm.IsForm l out :=
  ⟨h.1,fun r hr=>by rw [h.2.1 r hr,List.take_of_length_le hk,Brm.perm_mem hp,Brm.runes_mem l r hok hr]⟩
theorem cells_last (p:List (Int×Int))(x1 x2 y:Int):(cellsR (p++[(x1,x2)])).set (p.length*2+1) (.int .i64 y)=cellsR (p++[(x1,y)]):=by
  rw [cellsR_append,cellsR_append,List.set_append_right _ _ (by rw [cellsR_length];omega),cellsR_length]
  simp [cellsR]
theorem own_form {w:World}{B n:Nat}{v:Value}{xs:List Value}(h:w.ownsRow B 149 2 v (n+1) xs):∃ g cap,v=.slice (some ⟨g,0,none⟩) (n+1) cap/\B<=g/\g<w.heap.size:=by
  have h':=h
  rcases h.2 with ⟨_,h0⟩ | ⟨g,cap,cur,rfl,_⟩
  · omega
  · exact ⟨g,cap,rfl,h'.lt g rfl⟩
theorem own_join {w:World}{B g cap q:Nat}{p:List (Int×Int)}{l1 l2 y:Int}{o:Obj}(h:w.ownsRow B 149 2 (.slice (some ⟨g,0,none⟩) (p.length+1) cap) (p.length+1) (cellsR (p++[(l1,l2)]))) :
    (((w.alloc o).drewN q).setCell ⟨g,p.length*2+1,none⟩ (.int .i64 y)).ownsRow B 149 2 (.slice (some ⟨g,0,none⟩) (p.length+1) cap) (p++[(l1,y)]).length (cellsR (p++[(l1,y)])):=by
  have h2:((w.alloc o).drewN q).ownsRow B 149 2 (.slice (some ⟨g,0,none⟩) (p.length+1) cap) (p.length+1) (cellsR (p++[(l1,l2)])):=h.alloc o
  have h3:=(h2.stored (p.length*2+1) (.int .i64 y)).1
  rw [cells_last] at h3
  simpa using h3
set_option maxRecDepth 100000 in
set_option maxHeartbeats 400000 in
theorem form_any:FormSaid:=by
  intro ao l cap w hcells hlen hok
  obtain ⟨i0,hi,hz0,hz1,hz2⟩:=info_parts Tryz.info149
  have HR:=hide (runesOnly_any ao l cap w hcells hlen)
  have hrl:=Brm.runes_length l
  have HG:=hide (Brm.runes_good l)
  have HOK:=hide hok
  clear hcells hok
  go_enter Tryz.func210,Tryz.ntmps210
  go_wp2_with fail
  refine HR.out.mono ?_
  rintro e w1 ⟨v1,rfl,hown1,hbel1⟩
  go_wp2_with fail
  refine (sort_any _ v1 _ w1 hown1 (by omega)).mono ?_
  rintro e w2 ⟨rfl,S,hperm,hsort,hown2,hbel2⟩
  obtain ⟨ao1,cap1,rfl,hcap1,hrd1⟩:=own_rd hown2
  have HC:=hide hrd1
  have HP:=hide hperm
  have HS:=hide hsort
  have hSl:S.length<=l.length:=by rw [hperm.length_eq];exact hrl
  clear hrd1 hperm hsort hown2 hown1 hrl
  go_wp2
  go_loopw [4,14] (fun v i wr=>∃ (k:Nat) (out:List (Int×Int)),k<=S.length/\i=.int .i64 k/\FInv S out k/\wr.ownsRow w2.heap.size 149 2 v out.length (cellsR out)/\Below w2.heap.size w2 wr) (fun _ i _=>S.length-(intOf i).toNat)
  case atStart=>exact ⟨0,[],Nat.zero_le _,rfl,⟨Brm.canon_nil,fun _ _=>rfl,by simp,by simp⟩,World.ownsRow_nil _ _ _ _,Below.refl _ _⟩
  case round =>
    obtain ⟨k,out,hk,rfl,hinv,hown,hbel⟩:=hrel
    have hsz:=hbel.size
    have hol:=hinv.2.2.2
    have HI:=hide hinv;clear hinv
    by_cases hlt:k<S.length
    · obtain ⟨b,off,rfl,hb,h1,h2⟩:=HC.out k S[k] (List.getElem?_eq_getElem hlt)
      generalize hx:S[k]=x at h1 h2
      have HX:Hid (S[k]?=some x):=by rw [List.getElem?_eq_getElem hlt,hx];rfl
      clear hx
      have HGX:=hide (HG.out x (HP.out.mem_iff.1 (List.mem_of_getElem? HX.out)))
      obtain ⟨x1,x2⟩:=x
      simp only at h1 h2
      rw [<- hbel.cell (p:=⟨b,_,none⟩) hb] at h1 h2
      rcases List.eq_nil_or_concat out with rfl | ⟨p,last,rfl⟩
      · obtain ⟨aov,capv,rfl,_,_⟩:=own_rd hown
        go_wp2_with fail
        have hg:decide ((-1:Int) ≥ 0)=false:=rfl
        go_quiet (fail)
        go_wp2_with (at_builtin;refine wpList_append_own _ rfl _ _ 29 rfl w2.heap.size 149 i0 (.agg #[.int .i64 0,.int .i64 0]) 2 16 Tryz.underlying29 hi hz0 hz1 hz2 rfl (by decide) _ _ _ rfl ((hown.alloc _).alloc _) ⟨wr.heap.size+1,0,none⟩ 1 1 [.int .i64 x1,.int .i64 x2] rfl rfl (new_cells _ _ _ _) (new_one _ _) (by unfold maxLen;omega) (by omega) (by simp;omega) ?_;intro v' w3 hown' hgrow _)
        have R1:=own_snoc (c:=[]++[(x1,x2)]) (y:=(x1,x2)) hown' rfl
        have R2:=Below.keep (below_drawn ((hbel.alloc (by omega) _).alloc (by simp;omega) _)) (by simp;omega) ((hown.alloc _).alloc _) hgrow
        go_roundw
        case rel=>exact ⟨k+1,[]++[(x1,x2)],by omega,by go_num,finv_new HI.out HX.out HS.out HGX.out (.inl rfl),R1,R2⟩
        case measure=>simp [intOf];omega
      · obtain ⟨last1,last2⟩:=last
        have hpl:p.length+1<=k:=by simpa using hol
        simp only [List.concat_eq_append,List.length_append,List.length_cons,List.length_nil,Nat.zero_add] at *
        obtain ⟨g,capv,rfl,hg1,hg2⟩:=own_form hown
        have hcl:wr.cell? ⟨g,p.length*2+1,none⟩=some (.int .i64 last2):=by
          rw [hown.cellAt _ (by omega)];exact (cellsR_get (x:=(last1,last2)) (by simp)).2
        have hfz:wr.frozen? ⟨g,p.length*2+1,none⟩=false:=hown.frozenAt _
        have e1:∀ o c,(wr.alloc o).cell? ⟨g,c,none⟩=wr.cell? ⟨g,c,none⟩:=fun o c=>cell_old o c hg2
        have e2:∀ o c,(wr.alloc o).frozen? ⟨g,c,none⟩=wr.frozen? ⟨g,c,none⟩:=fun o c=>frozen_old o c hg2
        have HGL:=hide (HI.out.1.1 (last1,last2) (by simp))
        have hr2:=(Brm.rune_iff _).1 HGL.out.2.1
        simp only at hr2
        have q1:0<=last2:=by omega
        have q2:last2<=1114111:=by omega
        clear hr2
        by_cases hj:x1<=Brm.after last2
        · go_wp2_with fail
          go_quiet ((go_at_call 131;exact Calls.quiet_of_same (after_any _ _ (by omega) (by omega))))
          go_wp2_with fail
          go_region
          go_wp2
          go_roundw
          case rel=>exact ⟨k+1,p++[(last1,max last2 x2)],by omega,by go_num,finv_join HI.out HX.out HGX.out hj,own_join hown,(below_drawn (hbel.alloc (by omega) _)).setCell hg1 _⟩
          case measure=>simp [intOf];omega
        · have HJ:=hide hj
          go_wp2_with fail
          go_quiet ((go_at_call 131;exact Calls.quiet_of_same (after_any _ _ (by omega) (by omega))))
          go_wp2_with (at_builtin;refine wpList_append_own _ rfl _ _ 29 rfl w2.heap.size 149 i0 (.agg #[.int .i64 0,.int .i64 0]) 2 16 Tryz.underlying29 hi hz0 hz1 hz2 rfl (by decide) _ _ _ rfl ((hown.alloc _).alloc _) ⟨wr.heap.size+1,0,none⟩ 1 1 [.int .i64 x1,.int .i64 x2] rfl rfl (new_cells _ _ _ _) (new_one _ _) (by unfold maxLen;omega) (by omega) (by simp;omega) ?_;intro v' w3 hown' hgrow _)
          have R1:=own_snoc (c:=(p++[(last1,last2)])++[(x1,x2)]) (a:=p++[(last1,last2)]) (y:=(x1,x2)) (by simpa using hown') rfl
          have R2:=Below.keep (below_drawn ((hbel.alloc (by omega) _).alloc (by simp;omega) _)) (by simp;omega) ((hown.alloc _).alloc _) hgrow
          go_roundw
          case rel=>exact ⟨k+1,(p++[(last1,last2)])++[(x1,x2)],by omega,by go_num,finv_new HI.out HX.out HS.out HGX.out (.inr ⟨p,(last1,last2),rfl,by have:=HJ.out;simp only;omega⟩),R1,R2⟩
          case measure=>simp [intOf];omega
    · obtain ⟨aov,capv,rfl,_,_⟩:=own_rd hown
      go_wp2
      go_ret
      exact ⟨_,rfl,out,⟨finv_end HI.out (by omega) HP.out HOK.out,by omega⟩,own_le hown (Nat.le_trans hbel1.size hbel2.size),(hbel1.trans hbel2).trans (hbel.mono (Nat.le_trans hbel1.size hbel2.size))⟩
end Go.Proofs.YtpoibdhhcbelnaaGreatDoor
