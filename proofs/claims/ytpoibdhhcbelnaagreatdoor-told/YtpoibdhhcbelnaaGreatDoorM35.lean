/- Walks and plain laws, some texts in one. -/
import Derived.ChangeKeysEq
import Derived.Test.YtpoibdhhcbelnaaGreatDoorM29
import Derived.Test.YtpoibdhhcbelnaaGreatDoorM34
import Derived.Test.YtpoibdhhcbelnaaGreatDoorM30
import Derived.Test.YtpoibdhhcbelnaaGreatDoorM31
namespace Go.Proofs.YtpoibdhhcbelnaaGreatDoor
open Go.Shelf Go.RowKit
abbrev key33:Value:=.agg #[.int .i64 3,.int .i64 3]
def putO (w:World)(b:Nat)(o:Obj):World:={ w with heap:=w.heap.setIfInBounds b o }
theorem putO_self {w:World}{b:Nat}(o:Obj)(h:b<w.heap.size):(putO w b o).heap[b]?=some o:=by
  show (w.heap.setIfInBounds b o)[b]?=some o
  rw [Array.getElem?_setIfInBounds];simp [h]
theorem putO_other {w:World}{b k:Nat}(o:Obj)(h:k≠b):(putO w b o).heap[k]?=w.heap[k]?:=by
  show (w.heap.setIfInBounds b o)[k]?=w.heap[k]?
  rw [Array.getElem?_setIfInBounds,if_neg (Ne.symm h)]
theorem Off.putO {b:Nat}{a w:World}(h:Off b a w)(o:Obj):Off b a (putO w b o) :=
  ⟨h.os,h.tape,h.output,by show _<=(w.heap.setIfInBounds b o).size;rw [Array.size_setIfInBounds];exact h.size,fun k hk hne=>(putO_other o hne).trans (h.block k hk hne)⟩
end Go.Proofs.YtpoibdhhcbelnaaGreatDoor
namespace Go.Proofs.YtpoibdhhcbelnaaGreatDoor
open Go.Shelf Go.RowKit Go.Lib
abbrev kV (p:Int×Int):Value:=.agg #[.int .i64 p.1,.int .i64 p.2]
theorem chkV (e:Bool)(p:Int×Int)(w:World):(Instr.checkKey e 10000 170 (kV p)).run Tryz.prog w=.ok () w:=by
  cases e<;>kernel_rfl
theorem und170:Tryz.prog.underlying 170=some (.array 2 3):=by kernel_rfl
theorem staysV (p:Int×Int)(w:World):(Instr.keyThatStays (kV p) (kV p)).run Tryz.prog w=.ok (kV p) w:=by
  simp [Instr.keyThatStays,kV,Instr.sameBits]
theorem eqInt (d:Nat)(a b:Int)(w:World):(Op.equalIn (d+1) 3 (.int .i64 a) (.int .i64 b)).run Tryz.prog w=.ok (a == b) w:=by
  simp [Op.equalIn,run_underlying Tryz.underlying3]
theorem cells3c:Tryz.prog.cellsOf 3=1:=by kernel_rfl
theorem part3a (x y:Int)(w:World):(part 3 #[.int .i64 x,.int .i64 y] 0).run Tryz.prog w=.ok (.int .i64 x) w:=by kernel_rfl
theorem part3b (x y:Int)(w:World):(part 3 #[.int .i64 x,.int .i64 y] 1).run Tryz.prog w=.ok (.int .i64 y) w:=by kernel_rfl
theorem eqVd (D:Nat)(p q:Int×Int)(w:World):(Op.equalIn (D+1+1) 170 (kV p) (kV q)).run Tryz.prog w=.ok (decide (p=q)) w:=by
  obtain ⟨i,hi,hz0,hz1,hz2⟩:=info_parts Tryz.info3
  rw [run_equalIn_array w (D+1) _ _ und170 hi,cells3c]
  obtain ⟨a,b⟩:=p
  obtain ⟨c,d⟩:=q
  by_cases e1:a=c
  · by_cases e2:b=d
    · simp [List.range,List.range.loop,Op.eqItems,part3a,part3b,eqInt,e1,e2,Result.andThen]
    · simp [List.range,List.range.loop,Op.eqItems,part3a,part3b,eqInt,e1,e2,Result.andThen]
  · simp [List.range,List.range.loop,Op.eqItems,part3a,eqInt,e1,Result.andThen]
theorem eqV (p q:Int×Int)(w:World):(Op.equal 170 (kV p) (kV q)).run Tryz.prog w=.ok (decide (p=q)) w:=eqVd 9998 p q w
abbrev SE:=(Int×Int)×Int×Nat
def sE (t:SE):MapEntry:=⟨kV t.1,.int .i64 t.2.1,t.2.2⟩
def fnd:List SE->Int×Int->Nat->Option (Nat×Value)
  | [],_,_=>none
  | t::L,p,i=>if p=t.1 then some (i,.int .i64 t.2.1) else fnd L p (i+1)
def cnt:List SE->Int×Int->Int
  | [],_=>0
  | t::L,p=>if p=t.1 then t.2.1 else cnt L p
theorem ask_fnd:∀ (L:List SE) (p:Int×Int) (i:Nat) (w:World),(Instr.findAsking 170 (kV p) (L.map sE) i).run Tryz.prog w=.ok (fnd L p i) w
  | [],p,i,w=>rfl
  | t::L,p,i,w=>by
    have ih:=ask_fnd L p (i+1) w
    simp only [List.map_cons,Instr.findAsking,sE]
    simp only [Sem.run_bind,eqV,Result.andThen_ok]
    by_cases h:p=t.1
    · simp [h,fnd]
    · simp only [h,decide_false,Bool.false_eq_true,if_false,fnd]
      exact ih
theorem find_fnd (L:List SE)(p:Int×Int)(w:World):(Instr.findKey 170 (kV p) (L.map sE)).run Tryz.prog w=.ok (fnd L p 0) w:=by
  cases L with
  | nil=>simp [Instr.findKey,run_underlying und170,Instr.findNow,fnd]
  | cons t L =>
    have:=ask_fnd (t::L) p 0 w
    simp only [Instr.findKey,Sem.run_bind,run_underlying und170,Result.andThen_ok,List.map_cons,Instr.findNow,Instr.sameNow]
    exact this
structure SeenW (w:World)(b:Nat)(L:List SE)(k:Nat):Prop where
  obj:w.heap[b]?=some (.map (L.map sE).toArray k)
  born:∀ t∈L,t.2.2<k
  one:(L.map (·.2.2)).Pairwise (·≠·)
  keys:(L.map (·.1)).Pairwise (·≠·)
theorem fnd_cnt:∀ (L:List SE) (p:Int×Int) (i:Nat),(fnd L p i=none->cnt L p=0)/\(∀ j v,fnd L p i=some (j,v)->v=.int .i64 (cnt L p)/\i<=j/\∃ t,L[j-i]?=some t/\t.1=p/\t.2.1=cnt L p)
  | [],p,i=>⟨fun _=>rfl,fun j v h=>by cases h⟩
  | t::L,p,i=>by
    obtain ⟨h1,h2⟩:=fnd_cnt L p (i+1)
    by_cases h:p=t.1
    · refine ⟨fun h'=>by simp [fnd,h] at h',fun j v h'=>?_⟩
      simp only [fnd,if_pos h] at h'
      injection h' with h'
      injection h' with e1 e2
      subst e1 e2
      exact ⟨by simp [cnt,h],Nat.le_refl _,t,by simp,h.symm,by simp [cnt,h]⟩
    · simp only [fnd,cnt,if_neg h]
      refine ⟨h1,fun j v h'=>?_⟩
      obtain ⟨g1,g2,u,g3,g4⟩:=h2 j v h'
      refine ⟨g1,by omega,u,?_,g4⟩
      rw [show j-i=(j-(i+1))+1 by omega]
      simpa using g3
theorem fnd_no:∀ (L:List SE) (p:Int×Int) (i:Nat),fnd L p i=none->∀ t∈L,t.1≠p
  | [],p,i,_,t,ht=>by simp at ht
  | u::L,p,i,h,t,ht=>by
    by_cases e:p=u.1
    · simp [fnd,e] at h
    · simp only [fnd,if_neg e] at h
      rcases List.mem_cons.1 ht with rfl | ht
      · exact fun e'=>e e'.symm
      · exact fnd_no L p (i+1) h t ht
theorem SeenW.look {w:World}{b k:Nat}{L:List SE}(h:SeenW w b L k)(p:Int×Int):(Instr.lookup 157 (.map (some b)) (kV p) false).run Tryz.prog w=.ok (.int .i64 (cnt L p)) w:=by
  have hf:=find_fnd L p w
  obtain ⟨h1,h2⟩:=fnd_cnt L p 0
  cases hc:fnd L p 0 with
  | none =>
    rw [hc] at hf
    simp [Instr.lookup,run_underlying Tryz.underlying157,MapKept.run_getObj_map h.obj,chkV,hf,Tryz.zeroValue3,Result.andThen,h1 hc]
  | some x =>
    obtain ⟨j,v⟩:=x
    obtain ⟨rfl,_⟩:=h2 j v hc
    rw [hc] at hf
    simp [Instr.lookup,run_underlying Tryz.underlying157,MapKept.run_getObj_map h.obj,chkV,hf,Result.andThen]
structure SeenP (w:World)(b:Nat)(L:List SE)(k:Nat)(p:Int×Int)(st:Nat):Prop where
  map:SeenW w b L k
  at_:∃ v,(p,v,st)∈L
theorem cnt_snoc (L:List SE)(p q:Int×Int)(n:Nat):cnt (L++[(p,0,n)]) q=cnt L q:=by
  induction L with
  | nil=>simp [cnt]
  | cons t L ih=>simp only [List.cons_append,cnt,ih]
theorem SeenW.entry {w:World}{b k:Nat}{L:List SE}(h:SeenW w b L k)(p:Int×Int):∃ (L':List SE) (k' st:Nat),(Instr.mapEntry 157 (.map (some b)) (kV p)).run Tryz.prog w=.ok (.tuple #[.int .i64 (cnt L p),goInt (st:Int)]) (putO w b (.map (L'.map sE).toArray k'))/\SeenP (putO w b (.map (L'.map sE).toArray k')) b L' k' p st/\∀ q,cnt L' q=cnt L q:=by
  have hf:=find_fnd L p w
  have hb:b<w.heap.size:=(Array.getElem?_eq_some_iff.1 h.obj).1
  obtain ⟨h1,h2⟩:=fnd_cnt L p 0
  cases hc:fnd L p 0 with
  | none =>
    rw [hc] at hf
    refine ⟨L++[(p,0,k)],k+1,k,?_,⟨⟨putO_self _ hb,fun t ht=>?_,?_,?_⟩,0,by simp⟩,fun q=>cnt_snoc L p q k⟩
    · simp [Instr.mapEntry,run_underlying Tryz.underlying157,MapKept.run_getObj_map h.obj,chkV,hf,Tryz.zeroValue3,MapKept.run_setObj_map _ h.obj,putO,Result.andThen,h1 hc,sE]
    · rcases List.mem_append.1 ht with ht | ht
      · have:=h.born t ht;omega
      · simp at ht;subst ht;show k<k+1;omega
    · rw [List.map_append,List.pairwise_append]
      refine ⟨h.one,by simp,fun x hx y hy=>?_⟩
      obtain ⟨t,ht,rfl⟩:=List.mem_map.1 hx
      simp at hy
      have:=h.born t ht
      omega
    · rw [List.map_append,List.pairwise_append]
      refine ⟨h.keys,by simp,fun x hx y hy=>?_⟩
      obtain ⟨t,ht,rfl⟩:=List.mem_map.1 hx
      simp at hy
      rw [hy]
      exact fnd_no L p 0 hc t ht
  | some x =>
    obtain ⟨j,v⟩:=x
    obtain ⟨rfl,_,t,g3,g4,g5⟩:=h2 j v hc
    rw [Nat.sub_zero] at g3
    have hjl:j<L.length:=(List.getElem?_eq_some_iff.1 g3).1
    obtain ⟨tp,tvv,tb⟩:=t
    simp only at g4 g5
    subst g4
    rw [hc] at hf
    have hst:=staysV tp w
    have hget:(L.map sE).toArray[j]?=some (sE (tp,tvv,tb)):=by simp [g3]
    have hmod:((L.map sE).toArray.modify j fun e=>{ e with key:=kV tp })=(L.map sE).toArray:=by
      apply Array.ext_getElem?
      intro i
      rw [Array.getElem?_modify]
      by_cases e:j=i
      · subst e
        rw [if_pos rfl,hget]
        rfl
      · rw [if_neg e]
    refine ⟨L,k,tb,?_,⟨⟨putO_self _ hb,h.born,h.one,h.keys⟩,tvv,List.mem_of_getElem? g3⟩,fun q=>rfl⟩
    simp only [Instr.mapEntry,Sem.run_bind,run_underlying Tryz.underlying157,Result.andThen_ok,MapKept.run_getObj_map h.obj,chkV,hf,hget,Option.map_some,Option.getD_some]
    simp [sE,hst,hmod,MapKept.run_setObj_map _ h.obj,putO,Result.andThen]
def setC (L:List SE)(st:Nat)(v:Int):List SE:=L.map fun t=>if t.2.2=st then (t.1,v,t.2.2) else t
theorem setC_born (L:List SE)(st:Nat)(v:Int):(setC L st v).map (·.2.2)=L.map (·.2.2):=by
  unfold setC
  rw [List.map_map]
  apply List.map_congr_left
  intro t _
  simp only [Function.comp]
  split<;>rfl
theorem setC_keys (L:List SE)(st:Nat)(v:Int):(setC L st v).map (·.1)=L.map (·.1):=by
  unfold setC
  rw [List.map_map]
  apply List.map_congr_left
  intro t _
  simp only [Function.comp]
  split<;>rfl
theorem setC_cnt:∀ (L:List SE) (p:Int×Int) (x:Int) (st:Nat) (v:Int),(L.map (·.2.2)).Pairwise (·≠·)->(p,x,st)∈L->(∀ t∈L,t.1=p->t.2.2=st)->∀ q,cnt (setC L st v) q=if q=p then v else cnt L q
  | [],p,x,st,v,_,h,_,_=>by simp at h
  | t::L,p,x,st,v,hn,h,hu,q=>by
    rw [List.map_cons,List.pairwise_cons] at hn
    obtain ⟨tp,tx,tb⟩:=t
    by_cases e:tb=st
    · subst e
      have ht:tp=p:=by
        rcases List.mem_cons.1 h with e | e
        · injection e with e1 e2;exact e1.symm
        · exact absurd rfl (hn.1 tb (List.mem_map.2 ⟨_,e,rfl⟩))
      subst ht
      have hrest:setC L tb v=L:=by
        unfold setC
        conv=>rhs;rw [<- List.map_id L]
        apply List.map_congr_left
        intro u hu'
        have:=hn.1 u.2.2 (List.mem_map.2 ⟨u,hu',rfl⟩)
        rw [if_neg (fun e=>this e.symm)]
        rfl
      have e9:setC ((tp,tx,tb)::L) tb v=(tp,v,tb)::setC L tb v:=by simp [setC]
      rw [e9,hrest]
      simp only [cnt]
      by_cases hq:q=tp
      · rw [if_pos hq,if_pos hq]
      · rw [if_neg hq,if_neg hq,if_neg hq]
    · have hm:(p,x,st)∈L:=by
        rcases List.mem_cons.1 h with e' | e'
        · injection e' with e1 e2;injection e2 with e2 e3;exact absurd e3.symm e
        · exact e'
      have hp:tp≠p:=fun e'=>e (hu (tp,tx,tb) (by simp) e')
      have e9:setC ((tp,tx,tb)::L) st v=(tp,tx,tb)::setC L st v:=by simp [setC,e]
      rw [e9]
      simp only [cnt]
      rw [setC_cnt L p x st v hn.2 hm (fun t ht=>hu t (by simp [ht])) q]
      by_cases hq:q=tp
      · rw [if_pos hq,if_pos hq,if_neg (fun e'=>hp (hq.symm.trans e'))]
      · rw [if_neg hq,if_neg hq]
theorem find_born:∀ (L:List SE) (st:Nat),(∃ p v,(p,v,st)∈L)->∃ i t,(L.map sE).toArray.findIdx? (fun e=>(e.born:Int) == (st:Int))=some i/\L[i]?=some t/\t.2.2=st
  | [],st,h=>by obtain ⟨p,v,h⟩:=h;simp at h
  | t::L,st,h=>by
    rw [List.findIdx?_toArray,List.map_cons,List.findIdx?_cons]
    by_cases e:t.2.2=st
    · exact ⟨0,t,by simp [sE,e],rfl,e⟩
    · have ht:((((sE t).born:Nat):Int) == (st:Int))=false:=by
        rw [beq_eq_false_iff_ne]
        intro h'
        exact e (by have:(sE t).born=st:=by omega
                    exact this)
      rw [ht]
      obtain ⟨p,v,hm⟩:=h
      have hm':(p,v,st)∈L:=by
        rcases List.mem_cons.1 hm with e' | e'
        · exact absurd (by rw [<- e']) e
        · exact e'
      obtain ⟨i,u,h1,h2,h3⟩:=find_born L st ⟨p,v,hm'⟩
      rw [List.findIdx?_toArray] at h1
      exact ⟨i+1,u,by simp [h1],by simpa using h2,h3⟩
theorem SeenP.store {w:World}{b k st:Nat}{L:List SE}{p:Int×Int}(h:SeenP w b L k p st)(v:Int):∃ L',(Instr.entryStore 157 (.map (some b)) (goInt (st:Int)) (.int .i64 v)).run Tryz.prog w=.ok () (putO w b (.map (L'.map sE).toArray k))/\SeenW (putO w b (.map (L'.map sE).toArray k)) b L' k/\∀ q,cnt L' q=if q=p then v else cnt L q:=by
  obtain ⟨x,hx⟩:=h.at_
  have hb:b<w.heap.size:=(Array.getElem?_eq_some_iff.1 h.map.obj).1
  obtain ⟨i,t,h1,h2,h3⟩:=find_born L st ⟨p,x,hx⟩
  have hu:∀ t∈L,t.1=p->t.2.2=st:=fun t ht e=>by
    obtain ⟨a,ha,ea⟩:=List.getElem_of_mem ht
    obtain ⟨b',hb',eb⟩:=List.getElem_of_mem hx
    have hp:=List.pairwise_iff_getElem.1 h.map.keys
    have k1:(L.map (·.1))[a]'(by simpa using ha)=p:=by simp [ea,e]
    have k2:(L.map (·.1))[b']'(by simpa using hb')=p:=by simp [eb]
    by_cases hab:a=b'
    · subst hab
      rw [ea] at eb
      rw [eb]
    · rcases Nat.lt_or_gt_of_ne hab with hlt | hlt
      · exact absurd (k1.trans k2.symm) (hp a b' (by simpa using ha) (by simpa using hb') hlt)
      · exact absurd (k2.trans k1.symm) (hp b' a (by simpa using hb') (by simpa using ha) hlt)
  have hmod:((L.map sE).toArray.modify i fun e=>{ e with val:=.int .i64 v })=((setC L st v).map sE).toArray:=by
    apply Array.ext_getElem?
    intro j
    rw [Array.getElem?_modify]
    simp only [List.getElem?_toArray,setC,List.map_map,List.getElem?_map]
    by_cases e:i=j
    · subst e
      rw [if_pos rfl,h2]
      simp [sE,h3]
    · rw [if_neg e]
      cases hj:L[j]? with
      | none=>rfl
      | some u =>
        have hne:u.2.2≠st:=fun e'=>by
          have hi:=(List.getElem?_eq_some_iff.1 h2).1
          have hj':=(List.getElem?_eq_some_iff.1 hj).1
          have a1:(L.map (·.2.2))[i]?=some st:=by rw [List.getElem?_map,h2];simp [h3]
          have a2:(L.map (·.2.2))[j]?=some st:=by rw [List.getElem?_map,hj];simp [e']
          have hp:=List.pairwise_iff_getElem.1 h.map.one
          rcases Nat.lt_or_gt_of_ne e with hlt | hlt
          · exact hp i j (by simpa using hi) (by simpa using hj') hlt (by rw [(List.getElem?_eq_some_iff.1 a1).2,(List.getElem?_eq_some_iff.1 a2).2])
          · exact hp j i (by simpa using hj') (by simpa using hi) hlt (by rw [(List.getElem?_eq_some_iff.1 a1).2,(List.getElem?_eq_some_iff.1 a2).2])
        simp [hne]
  refine ⟨setC L st v,?_,⟨putO_self _ hb,fun u hu'=>?_,by rw [setC_born];exact h.map.one,by rw [setC_keys];exact h.map.keys⟩,setC_cnt L p x st v h.map.one hx hu⟩
  · simp [Instr.entryStore,MapKept.run_getObj_map h.map.obj,asInt,asIntOf,goInt,h1,hmod,MapKept.run_setObj_map _ h.map.obj,putO,Result.andThen]
  · have:u.2.2∈(setC L st v).map (·.2.2):=List.mem_map.2 ⟨u,hu',rfl⟩
    rw [setC_born] at this
    obtain ⟨t',ht',e⟩:=List.mem_map.1 this
    rw [<- e]
    exact h.map.born t' ht'
end Go.Proofs.YtpoibdhhcbelnaaGreatDoor
