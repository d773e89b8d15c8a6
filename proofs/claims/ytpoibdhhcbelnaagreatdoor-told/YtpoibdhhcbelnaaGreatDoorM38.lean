/- The library's sort on a row of rests; which ends. -/
import Derived.Test.YtpoibdhhcbelnaaGreatDoorM37
import Derived.Test.YtpoibdhhcbelnaaGreatDoorM14
namespace Go.Proofs.YtpoibdhhcbelnaaGreatDoor
open Go.Shelf Go.RowKit Go.Lib Go.Sort Brm
abbrev Num (N:Nat):={p:Nat // p<N}
theorem ltNum {N:Nat}(x y:Num N):ltOf (fun x y:Num N=>Lib.compareInt (x.1:Int) (y.1:Int)) x y=decide (x.1<y.1):=by
  unfold ltOf Lib.compareInt
  by_cases h1:x.1<y.1
  · have:(x.1:Int)<(y.1:Int):=by omega
    simp [h1,this]
  · have h3:¬ (x.1:Int)<(y.1:Int):=by omega
    by_cases h2:(y.1:Int)<(x.1:Int)<;>simp [h1,h2,h3]
theorem swoNum (N:Nat):SWO (ltOf fun x y:Num N=>Lib.compareInt (x.1:Int) (y.1:Int)):={
  irrefl:=fun x=>by rw [ltNum];simp
  trans:=fun x y z h1 h2=>by rw [ltNum] at *;simp at *;omega
  ntrans:=fun x y z h1 h2=>by rw [ltNum] at *;simp at *;omega }
set_option maxRecDepth 100000 in
set_option maxHeartbeats 1000000 in
theorem cmpRest_any (a b:Nat)(x y:Int)(W:World)(ha:W.cell? ⟨a,0,none⟩=some (.int .i64 x))(hb:W.cell? ⟨b,0,none⟩=some (.int .i64 y)):Calls Tryz.prog 174 #[PtrB a,PtrB b] W fun e w'=>e=.returned (.int .i64 (Lib.compareInt x y))/\∃ q os',w'=grow (W.drewN q) os':=by
  have hcon:=fun W'=>AnyG.cmp_Compare_int Tryz.cmpInt x y W'
  change ∀ W',Calls Tryz.prog 175 _ _ _ at hcon
  have hla:=lt_of_cell ha
  have hlb:=lt_of_cell hb
  generalize Lib.compareInt x y=r at hcon ⊢
  go_enter Tryz.func174,Tryz.ntmps174
  go_wp2_with fail
  go_quiet (first | (go_at_call 175;refine Calls.quiet_of_same (hcon _)))
  all_goals go_wp2_with fail
  all_goals go_ret
  all_goals exact ⟨rfl,_,#[],(grow_empty _).symm⟩
theorem sortWorld_but {α:Type}[Inhabited α](enc:α->Value)(w:World)(g n:Nat)(d:Array α)(os:Array Obj):But (fun k=>k=g) w (sortWorld enc w g 0 n d os):=by
  refine ⟨rfl,rfl,rfl,by simp [sortWorld,grow,putRow,mapBlock,Sort.ahead],fun k hk hn=>?_⟩
  simp only [sortWorld,grow,putRow,mapBlock,Sort.ahead]
  rw [Array.getElem?_append_left (by simp;omega),Array.getElem?_modify,if_neg (fun e=>hn e.symm)]
def numsOf {N:Nat}(l:List Nat)(hl:∀ a∈l,a<N):List (Num N):=l.attach.map fun p=>⟨p.1,hl p.1 p.2⟩
theorem numsOf_val {N:Nat}(l:List Nat)(hl:∀ a∈l,a<N):(numsOf l hl).map Subtype.val=l:=by
  unfold numsOf
  rw [List.map_map]
  simp [Function.comp_def]
set_option maxRecDepth 100000 in
set_option maxHeartbeats 1000000 in
theorem sortRest_some (R:Nat->Nat)(N:Nat)(l:List Nat)(hl:∀ a∈l,a<N)(g cap:Nat)(w:World)(h0:0<N)(hN:∀ p,p<N->w.cell? ⟨R p,0,none⟩=some (.int .i64 (p:Int))/\R p≠g)(hrow:RowP w g R l.toArray w)(hg:g<w.heap.size)(hlen:l.length<=9000000000000000) :
    Calls Tryz.prog 173 #[.slice (some ⟨g,0,none⟩) l.length cap,.func (.func 174) #[] #[]] w fun e w'=>e=.returned (.tuple #[])/\∃ l':List Nat,l'.Perm l/\l'.Pairwise (fun x y=>x<=y)/\RowP w g R l'.toArray w':=by
  haveI:Inhabited (Num N):=⟨⟨0,h0⟩⟩
  have hval:=numsOf_val l hl
  generalize numsOf l hl=ns at hval
  have hnl:ns.length=l.length:=by rw [<- hval];simp
  have eg:∀ args w,(callFunc 174 args).run Tryz.prog w=.ok (.enter 174 args) w:=enters_of Tryz.func174 (by kernel_rfl) rfl
  have hH:Holds (fun x:Num N=>PtrB (R x.1)) w g 0 ns.toArray:=by
    intro j hj
    have hj':j<ns.length:=by simpa using hj
    have hj2:j<l.length:=by omega
    rw [Nat.zero_add]
    obtain ⟨c1,c2⟩:=hrow.cell j (by simpa using hj2)
    refine ⟨?_,c2⟩
    rw [c1]
    have e1:l.toArray[j]! = l[j]:=by simp [getElem!_pos,hj2]
    have e2:ns.toArray[j]! = ns[j]:=by simp [getElem!_pos,hj']
    have e3:ns[j].1=l[j]:=by
      have:(ns.map Subtype.val)[j]'(by simpa using hj')=l[j]:=by simp only [hval]
      simpa using this
    rw [e1,e2]
    show _=some (PtrB (R ns[j].1))
    rw [e3]
  have hcmp:CmpLays1 Tryz.prog 174 #[] (fun x:Num N=>PtrB (R x.1)) (fun x y=>Lib.compareInt (x.1:Int) (y.1:Int)) g 0 ns.toArray.size w:=by
    intro m os dk hs x y
    have hb:=sortWorld_but (fun x:Num N=>PtrB (R x.1)) w g m dk os
    have hc:∀ z:Num N,(sortWorld (fun x:Num N=>PtrB (R x.1)) w g 0 m dk os).cell? ⟨R z.1,0,none⟩=some (.int .i64 (z.1:Int)):=fun z=>by
      obtain ⟨c1,c2⟩:=hN z.1 z.2
      exact (hb.cell (p:=⟨R z.1,0,none⟩) (lt_of_cell c1) c2).trans c1
    exact cmpRest_any (R x.1) (R y.1) x.1 y.1 _ (hc x) (hc y)
  have hcon:=Any.slices_SortFunc Tryz.sortP (fun x:Num N=>PtrB (R x.1)) (fun _=>rfl) (fun x y=>Lib.compareInt (x.1:Int) (y.1:Int)) (swoNum N) 174 #[] g 0 cap ns.toArray w eg hcmp hH hg (by simp;omega)
  change Calls Tryz.prog 173 _ _ _ at hcon
  simp only [List.size_toArray,hnl] at hcon
  refine hcon.mono ?_
  rintro e w' ⟨he,d',n,os,hp,hs,rfl⟩
  obtain ⟨hsz,_,hperm⟩:=hp
  have hsz':d'.size=l.length:=by simpa [hnl] using hsz
  refine ⟨he,d'.toList.map Subtype.val,?_,?_,sortWorld_but _ _ _ _ _ _,fun j hj=>?_⟩
  · have e1:d'.extract 0 l.length=d':=by rw [<- hsz'];simp
    have e2:ns.toArray.extract 0 l.length=ns.toArray:=by rw [<- hnl];simp
    rw [e1,e2] at hperm
    have:=hperm.map Subtype.val
    simpa [hval] using this
  · rw [List.pairwise_iff_getElem]
    intro i j hi hj hij
    have hi2:i<d'.size:=by simpa using hi
    have hj2:j<d'.size:=by simpa using hj
    have:=hs i j (Nat.zero_le _) hij (by omega)
    rw [ltNum] at this
    simp only [decide_eq_false_iff_not] at this
    rw [getElem!_pos d' i hi2,getElem!_pos d' j hj2] at this
    simp only [List.getElem_map,Array.getElem_toList]
    omega
  · have hj2:j<d'.size:=by simpa using hj
    obtain ⟨c1,c2⟩:=holds_sortWorld (fun x:Num N=>PtrB (R x.1)) w g 0 n ns.toArray d' os hg hH (by simp [hsz',hnl]) j hj2
    rw [Nat.zero_add] at c1 c2
    refine ⟨?_,c2⟩
    rw [c1,getElem!_pos d' j hj2]
    have e1:(d'.toList.map Subtype.val).toArray[j]! = d'[j].1:=by simp [getElem!_pos,hj2]
    rw [e1]
theorem mem_compactUpTo (d:Array Nat):∀ m,m<=d.size->∀ x,x∈compactUpTo d m↔∃ j,j<m/\d[j]! = x:=by
  intro m
  induction m with
  | zero=>intro _ x;simp [compactUpTo]
  | succ m ih =>
    intro hm x
    rw [compactUpTo_succ,List.mem_append,ih (by omega)]
    constructor
    · rintro (⟨j,hj,rfl⟩ | h)
      · exact ⟨j,by omega,rfl⟩
      · by_cases hk:keeps d m
        · rw [if_pos hk] at h;simp at h;exact ⟨m,by omega,h.symm⟩
        · rw [if_neg hk] at h;simp at h
    · rintro ⟨j,hj,rfl⟩
      by_cases e:j=m
      · subst e
        by_cases hk:keeps d j
        · right;rw [if_pos hk];simp
        · left
          have:¬ (j=0\/d[j]!≠d[j-1]!):=by simpa [keeps] using hk
          have h0:j≠0:=fun h=>this (.inl h)
          exact ⟨j-1,by omega,(Classical.not_not.1 (fun h=>this (.inr h))).symm⟩
      · exact .inl ⟨j,by omega,rfl⟩
theorem compact_rises (d:Array Nat)(hs:∀ i j,i<=j->j<d.size->d[i]!<=d[j]!):(compactUpTo d d.size).Pairwise (·<·):=by
  unfold compactUpTo
  rw [List.pairwise_map]
  have hr:(List.range d.size).Pairwise (·<·):=List.pairwise_lt_range
  rw [List.pairwise_filter]
  refine hr.imp_of_mem ?_
  intro i j hi hj hij hki hkj
  have hjd:=List.mem_range.1 hj
  have hne:d[j]!≠d[j-1]!:=by
    have:j=0\/d[j]!≠d[j-1]!:=by simpa [keeps] using hkj
    rcases this with h | h
    · omega
    · exact h
  have h1:=hs i (j-1) (by omega) (by omega)
  have h2:=hs (j-1) j (by omega) hjd
  omega
theorem sorted_get {l:List Nat}(h:l.Pairwise (fun x y=>x<=y)):∀ i j,i<=j->j<l.toArray.size->l.toArray[i]!<=l.toArray[j]!:=by
  intro i j hij hj
  have hj':j<l.length:=by simpa using hj
  have hi':i<l.length:=by omega
  have e1:l.toArray[i]! = l[i]:=by simp [getElem!_pos,hi']
  have e2:l.toArray[j]! = l[j]:=by simp [getElem!_pos,hj']
  rw [e1,e2]
  by_cases e:i=j
  · subst e;exact Nat.le_refl _
  · exact List.pairwise_iff_getElem.1 h i j hi' hj' (by omega)
theorem mem_compact_list (l:List Nat)(x:Nat):x∈compactUpTo l.toArray l.toArray.size↔x∈l:=by
  rw [mem_compactUpTo _ _ (Nat.le_refl _)]
  constructor
  · rintro ⟨j,hj,rfl⟩
    have hj':j<l.length:=by simpa using hj
    have e1:l.toArray[j]! = l[j]:=by simp [getElem!_pos,hj']
    rw [e1];exact List.getElem_mem hj'
  · intro h
    obtain ⟨j,hj,rfl⟩:=List.getElem_of_mem h
    exact ⟨j,by simpa using hj,by simp [getElem!_pos,hj]⟩
end Go.Proofs.YtpoibdhhcbelnaaGreatDoor
