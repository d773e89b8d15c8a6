/- Walks and plain laws, some texts in one. -/
import Derived.Test.YtpoibdhhcbelnaaGreatDoorM33
import Derived.Test.YtpoibdhhcbelnaaGreatDoorM30
namespace Go.Proofs.YtpoibdhhcbelnaaGreatDoor
open Go.Shelf Go.RowKit
def NodesA (w:World)(a:Option Addr)(xs:List Nat):Prop:=∀ j x,xs[j]?=some x->∃ b off,a=some ⟨b,off,none⟩/\b<w.heap.size/\w.cell? ⟨b,off+j,none⟩=some (.pointer (some ⟨x,0,none⟩))
theorem NodesA.below {w w':World}{a:Option Addr}{xs:List Nat}(h:NodesA w a xs)(k:Below w.heap.size w w'):NodesA w' a xs:=by
  intro j x hx
  obtain ⟨b,off,rfl,hb,hc⟩:=h j x hx
  exact ⟨b,off,rfl,Nat.lt_of_lt_of_le hb k.size,(k.cell (p:=⟨b,_,none⟩) hb).trans hc⟩
def FirstsQ (K:Nat)(w:World)(e:Ending)(w':World):Prop:=∃ (L:List Int) (g c:Nat),e=.returned (.slice (some ⟨g,0,none⟩) L.length c)/\L.length<=c/\L.length<=K/\(∀ x∈L,0<=x/\x<=1114111)/\w.heap.size<=g/\RowH w' g L/\Below w.heap.size w w'
structure NodeF (w:World)(x:Nat)(K:Nat):Prop where
  set:∃ la lc l,w.cell? ⟨x,1,none⟩=some (.slice la l.length lc)/\Rd w la l/\l.length<=10/\∀ y∈l,0<=y.1/\y.1<=1114111/\0<=y.2/\y.2<=1114111
  parts:∃ pv,w.cell? ⟨x,2,none⟩=some pv/\(∃ a n c,pv=.slice a n c)/\∀ W,Below w.heap.size w W->Calls Tryz.prog 90 #[pv] W (FirstsQ K W)
  lt:x<w.heap.size
theorem after_range {r:Int}(h0:0<=r)(h1:r<=1114111):0<=Brm.after r/\Brm.after r<=1114112:=by unfold Brm.after;split<;>omega
theorem own_row {w:World}{B n:Nat}{v:Value}{L:List Int}(h:w.ownsRow B 3 1 v n (ints L))(hn:0<n):∃ g c,v=.slice (some ⟨g,0,none⟩) L.length c/\L.length<=c/\B<=g/\RowH w g L:=by
  have hl:=h.1
  simp [ints] at hl
  have hrow:=h
  rcases h.2 with ⟨_,h0⟩ | ⟨g,cap,cur,rfl,hg,hh,r⟩
  · omega
  · refine ⟨g,cap,by rw [hl],by rw [hl];exact r.1,hg,⟨fun j hj=>?_,(hrow.lt g rfl).2⟩⟩
    have hj':j<L.length:=by simpa using hj
    refine ⟨?_,hrow.frozenAt _⟩
    rw [Nat.zero_add,hrow.cellAt j (by omega)]
    simp [ints,List.getElem?_map,List.getElem?_eq_getElem hj',getElem!_pos L.toArray j (by simpa using hj')]
end Go.Proofs.YtpoibdhhcbelnaaGreatDoor
namespace Go.Proofs.YtpoibdhhcbelnaaGreatDoor
open Go.Shelf Go.RowKit
theorem own_below {w w':World}{B n:Nat}{v:Value}{xs:List Value}(h:w.ownsRow B 3 1 v n xs)(k:Below w.heap.size w w'):w'.ownsRow B 3 1 v n xs:=by
  have hlt:=h.lt
  obtain ⟨h1,h2⟩:=h
  refine ⟨h1,?_⟩
  rcases h2 with h2 | ⟨g,cap,cur,rfl,hg,hh,r⟩
  · exact .inl h2
  · exact .inr ⟨g,cap,cur,rfl,hg,(k.block g (hlt g rfl).2).trans hh,r⟩
theorem pair_cells (w:World)(y1 y2:Int):∀ j u,[Value.int .i64 y1,Value.int .i64 y2][j]?=some u->(w.alloc (.cells #[.int .i64 y1,.int .i64 y2] 3)).drew.cell? ((⟨w.heap.size,0,none⟩:Addr).add j)=some u:=by
  intro j u hj
  match j,hj with
  | 0,hj=>simp at hj;subst hj;simp [Addr.add]
  | 1,hj=>simp at hj;subst hj;simp [Addr.add]
def OutI (w:World)(S N:Nat)(ov:Value)(wr:World):Prop:=∃ L:List Int,wr.ownsRow S 3 1 ov L.length (ints L)/\0<L.length/\L.length<=N/\(∀ x∈L,0<=x/\x<=1114112)/\Below S w wr
end Go.Proofs.YtpoibdhhcbelnaaGreatDoor
namespace Go.Proofs.YtpoibdhhcbelnaaGreatDoor
open Go.RowKit Go.Sort Go.Shelf
theorem sort_row2 (g c:Nat)(L:List Int)(w:World)(h:RowH w g L)(hl:L.length<=1000000) :
    Calls Tryz.prog 132 #[.slice (some ⟨g,0,none⟩) L.length c] w fun e w'=>e=.returned (.tuple #[])/\∃ L':List Int,L'.Perm L/\L'.Pairwise (fun x y=>x<=y)/\RowH w' g L'/\Below g w w':=by
  refine (Tryz.slices_Sort_int g 0 c L w h.1 h.2 (by omega)).mono ?_
  rintro e w' ⟨rfl,n,os,rfl⟩
  have hp:=List.mergeSort_perm L fun x y=>decide (x<=y)
  have hs:=List.pairwise_mergeSort (le:=fun x y:Int=>decide (x<=y)) (fun a b c h1 h2=>by simp at *;omega) (fun a b=>by simp;omega) L
  exact ⟨rfl,_,hp,hs.imp (fun h=>by simpa using h),row_put h hp.length_eq os⟩
theorem compact_mem_iff {L:List Int}{x:Int}:x∈Lib.compact L↔x∈L:=by
  refine ⟨compact_mem,fun h=>?_⟩
  obtain ⟨j,hj,rfl⟩:=List.getElem_of_mem h
  unfold Lib.compact Lib.compactUpTo
  induction j using Nat.strongRecOn with
  | ind j ih =>
    have e1:L.toArray[j]! = L[j]:=by simp [getElem!_pos,hj]
    by_cases hk:Lib.keeps L.toArray j=true
    · exact List.mem_map.2 ⟨j,List.mem_filter.2 ⟨List.mem_range.2 hj,hk⟩,e1⟩
    · have:¬ (j=0\/L.toArray[j]!≠L.toArray[j-1]!):=by simpa [Lib.keeps] using hk
      have h0:j≠0:=fun h=>this (.inl h)
      have he:L.toArray[j]! = L.toArray[j-1]!:=Classical.not_not.1 (fun h=>this (.inr h))
      have e2:L.toArray[j-1]! = L[j-1]:=by
        have:j-1<L.length:=by omega
        simp [getElem!_pos,this]
      rw [<- e1,he,e2]
      exact ih (j-1) (by omega) (by omega) (List.getElem_mem _)
theorem compact_risesI {L:List Int}(h:L.Pairwise (fun x y=>x<=y)):(Lib.compact L).Pairwise (fun x y=>x<y):=by
  unfold Lib.compact Lib.compactUpTo
  rw [List.pairwise_map]
  have hr:(List.range L.length).Pairwise (fun x y=>x<y):=List.pairwise_lt_range
  rw [List.pairwise_filter]
  refine hr.imp_of_mem ?_
  intro i j hi hj hij hki hkj
  have hjd:=List.mem_range.1 hj
  have hg:∀ k,k<L.length->∃ h:k<L.length,L.toArray[k]! = L[k]:=fun k hk=>⟨hk,by simp [getElem!_pos,hk]⟩
  obtain ⟨hi',ei⟩:=hg i (by omega)
  obtain ⟨hj',ej⟩:=hg j hjd
  obtain ⟨hj1,ej1⟩:=hg (j-1) (by omega)
  have hne:L.toArray[j]!≠L.toArray[j-1]!:=by
    have:j=0\/L.toArray[j]!≠L.toArray[j-1]!:=by simpa [Lib.keeps] using hkj
    rcases this with h | h
    · omega
    · exact h
  rw [ej,ej1] at hne
  rw [ei,ej]
  have h2:=List.pairwise_iff_getElem.1 h (j-1) j hj1 hj' (by omega)
  by_cases e:i=j-1
  · subst e;omega
  · have h1:=List.pairwise_iff_getElem.1 h i (j-1) hi' hj1 (by omega)
    omega
theorem compact_row2 (g c:Nat)(L:List Int)(w:World)(h:RowH w g L)(hl:L.length<=1000000)(hc:L.length<=c) :
    Calls Tryz.prog 133 #[.slice (some ⟨g,0,none⟩) L.length c] w fun e w'=>e=.returned (.slice (some ⟨g,0,none⟩) (Lib.compact L).length c)/\(Lib.compact L).length<=L.length/\RowH w' g (Lib.compact L)/\Below g w w':=by
  refine (Tryz.slices_Compact_int g 0 c L w h.1 (by omega) hc).mono ?_
  rintro e w' ⟨rfl,q,rfl⟩
  have hle:=Lib.compact_length_le L
  have hp:=row_put (q:=q) (L':=Lib.compact L++List.replicate (L.length-(Lib.compact L).length) 0) h (by simp;omega) #[]
  rw [grow_none] at hp
  exact ⟨rfl,hle,hp.1.pre,hp.2⟩
theorem delete_row2 (g c:Nat)(L:List Int)(w:World)(h:RowH w g L)(hl:L.length<=1000000)(hc:L.length<=c) :
    Calls Tryz.prog 134 #[.slice (some ⟨g,0,none⟩) L.length c,.func (.func 135) #[] #[]] w fun e w'=>e=.returned (.slice (some ⟨g,0,none⟩) (L.filter fun x=>!decide (1114111<x)).length c)/\(L.filter fun x=>!decide (1114111<x)).length<=L.length/\RowH w' g (L.filter fun x=>!decide (1114111<x))/\Below g w w':=by
  refine (Tryz.slices_DeleteFunc (Value.int .i64) (fun _=>rfl) (fun x=>decide (1114111<x)) 135 #[] (enters_of Tryz.func135 (by kernel_rfl) rfl) 0 (Tryz.zeroValue3) g 0 c L.toArray w (fun W x _=>far_gives x W) (fun n os dk x _=>far_gives x _) h.1 (by simp;omega) (by simpa using hc)).mono ?_
  rintro e w' ⟨rfl,q,rfl⟩
  have hle:=List.length_filter_le (fun x=>!decide (1114111<x)) L
  have hp:=row_put (q:=q) (L':=(L.filter fun x=>!decide (1114111<x))++List.replicate (L.length-(L.filter fun x=>!decide (1114111<x)).length) 0) h (by simp;omega) #[]
  rw [grow_none] at hp
  exact ⟨rfl,hle,hp.1.pre,hp.2⟩
theorem rises_len:∀ {L C:List Int},L.Pairwise (fun x y=>x<y)->(∀ x∈L,x∈C)->L.length<=C.length
  | [],_,_,_=>Nat.zero_le _
  | a::L,C,h,hm=>by
    obtain ⟨h1,h2⟩:=List.pairwise_cons.1 h
    have ha:=hm a (by simp)
    have hp:=List.perm_cons_erase ha
    have hlen:=hp.length_eq
    have ih:=rises_len (C:=C.erase a) h2 (fun x hx=>by
      have hx':=hp.mem_iff.1 (hm x (by simp [hx]))
      rcases List.mem_cons.1 hx' with e | e
      · have:=h1 x hx;omega
      · exact e)
    simp only [List.length_cons] at hlen ⊢
    omega
def cutsR (l:List (Int×Int)):List Int:=l.flatMap fun y=>[y.1,Brm.after y.2]
theorem cutsR_len (l:List (Int×Int)):(cutsR l).length=2*l.length:=by
  induction l with
  | nil=>rfl
  | cons x l ih=>simp only [cutsR,List.flatMap_cons,List.length_append,List.length_cons,List.length_nil] at *;omega
theorem cutsR_snoc (l:List (Int×Int))(y:Int×Int):cutsR (l++[y])=cutsR l++[y.1,Brm.after y.2]:=by simp [cutsR]
def FirstsC (C:List Int)(w:World)(e:Ending)(w':World):Prop:=∃ (L:List Int) (g c:Nat),e=.returned (.slice (some ⟨g,0,none⟩) L.length c)/\L.length<=c/\L.Pairwise (fun x y=>x<y)/\(∀ x∈L,0<=x/\x<=1114111)/\(∀ x,x∈L↔x<=1114111/\x∈C)/\w.heap.size<=g/\RowH w' g L/\Below w.heap.size w w'
theorem FirstsC.len {C:List Int}{L:List Int}(h:L.Pairwise (fun x y=>x<y))(hm:∀ x,x∈L↔x<=1114111/\x∈C):L.length<=C.length:=rises_len h (fun x hx=>((hm x).1 hx).2)
structure NodeG (w:World)(x:Nat)(l:List (Int×Int))(Cp:List Int):Prop where
  set:∃ la lc,w.cell? ⟨x,1,none⟩=some (.slice la l.length lc)/\Rd w la l
  rng:∀ y∈l,0<=y.1/\y.1<=1114111/\0<=y.2/\y.2<=1114111
  parts:∃ pv,w.cell? ⟨x,2,none⟩=some pv/\(∃ a n c,pv=.slice a n c)/\∀ W,Below w.heap.size w W->Calls Tryz.prog 90 #[pv] W (FirstsC Cp W)
  lt:x<w.heap.size
def nodeC (d:List (Int×Int)×List Int):List Int:=cutsR d.1++d.2
def SameE (L C:List Int):Prop:=∀ x,x<=1114111->(x∈L↔x∈C)
def OutJ (w:World)(S:Nat)(C:List Int)(ov:Value)(wr:World):Prop:=∃ L:List Int,wr.ownsRow S 3 1 ov L.length (ints L)/\0<L.length/\L.length<=C.length/\(∀ x∈L,0<=x/\x<=1114112)/\SameE L C/\Below S w wr
theorem OutJ.below {w wr w':World}{S:Nat}{C:List Int}{ov:Value}(h:OutJ w S C ov wr)(k:Below wr.heap.size wr w')(hS:S<=wr.heap.size):OutJ w S C ov w':=by
  obtain ⟨L,h1,h2,h3,h4,h6,h5⟩:=h
  exact ⟨L,own_below h1 k,h2,h3,h4,h6,h5.trans (k.mono hS)⟩
theorem firsts_end {C L L1:List Int}(hp:L1.Perm L)(hs:L1.Pairwise (fun x y=>x<=y))(hr:∀ x∈L,0<=x/\x<=1114112)(he:SameE L C):((Lib.compact L1).filter fun x=>!decide (1114111<x)).Pairwise (fun x y=>x<y)/\(∀ x∈(Lib.compact L1).filter fun x=>!decide (1114111<x),0<=x/\x<=1114111)/\∀ x,x∈(Lib.compact L1).filter (fun x=>!decide (1114111<x))↔x<=1114111/\x∈C:=by
  have hm:∀ x,x∈(Lib.compact L1).filter (fun x=>!decide (1114111<x))↔x∈L/\x<=1114111:=fun x=>by
    rw [List.mem_filter,compact_mem_iff,hp.mem_iff]
    simp
  refine ⟨(compact_risesI hs).filter _,fun x hx=>?_,fun x=>?_⟩
  · obtain ⟨h1,h2⟩:=(hm x).1 hx
    exact ⟨(hr x h1).1,h2⟩
  · rw [hm]
    constructor
    · rintro ⟨h1,h2⟩;exact ⟨h2,(he x h2).1 h1⟩
    · rintro ⟨h1,h2⟩;exact ⟨(he x h1).2 h2,h1⟩
end Go.Proofs.YtpoibdhhcbelnaaGreatDoor
namespace Go.Proofs.YtpoibdhhcbelnaaGreatDoor
open Go.Shelf Go.RowKit
set_option maxRecDepth 100000 in
set_option maxHeartbeats 4000000 in
theorem firsts_all (a:Option Addr)(c:Nat)(xs:List Nat)(D:List (List (Int×Int)×List Int))(w:World)(hA:NodesA w a xs)(hN:∀ (i x:Nat),xs[i]?=some x->∃ d:List (Int×Int)×List Int,D[i]?=some d/\NodeG w x d.1 d.2)(hl:xs.length=D.length)(hx9:xs.length<=100000)(hK:(0::D.flatMap nodeC).length<=100000) :
    Calls Tryz.prog 90 #[.slice a xs.length c] w (FirstsC (0::D.flatMap nodeC) w):=by
  have hKi:∀ i,(0::(D.take i).flatMap nodeC).length<=100000:=fun i=>by
    have e:D.flatMap nodeC=(D.take i).flatMap nodeC++(D.drop i).flatMap nodeC:=by rw [<- List.flatMap_append,List.take_append_drop]
    rw [e] at hK
    simp only [List.length_cons,List.length_append] at hK ⊢
    omega
  have HKI:=hide hKi
  have HLD:=hide hl
  clear hl
  obtain ⟨i0,hi,hz0,hz1,hz2⟩:=info_parts Tryz.info3
  obtain ⟨W0,hW0⟩:∃ W0,w.alloc (.cells #[.int .i64 0] 3)=W0:=⟨_,rfl⟩
  have hB0:Below w.heap.size w W0:=by rw [<- hW0];exact (Below.refl _ _).alloc (Nat.le_refl _) _
  have hO0:OutJ w w.heap.size [0] (.slice (some ⟨w.heap.size,0,none⟩) 1 1) W0:=by
    rw [<- hW0]
    exact ⟨[0],World.ownsRow_lit w #[.int .i64 0] 1 (Nat.le_refl _) (by unfold maxLen;omega) rfl,by simp,by simp,by simp,fun x _=>Iff.rfl,(Below.refl _ _).alloc (Nat.le_refl _) _⟩
  have hs0:W0.heap.size=w.heap.size+1:=by rw [<- hW0];simp
  have HA:=hide hA
  have HN:=hide hN
  have HW0:=hide hW0
  have HB0:=hide hB0
  have HO0:=hide hO0
  clear hA hN hW0 hB0 hO0 hKi hK
  go_enter Tryz.func90,Tryz.ntmps90
  go_wp2_with fail
  rw [HW0.out]
  generalize hS:w.heap.size=S at *
  go_loopg [3,11] xs.length (fun j ov iv wr=>∃ i:Nat,iv=.int .i64 (i:Int)/\i<=xs.length/\xs.length-i<=j/\OutJ w S (0::(D.take i).flatMap nodeC) ov wr/\S<wr.heap.size)
  case atStart=>exact ⟨0,rfl,Nat.zero_le _,by omega,by simpa using HO0.out,by omega⟩
  case round =>
    obtain ⟨i,rfl,hil,hj,hout,hSr⟩:=hrel
    have k0:(0:Int)<=(i:Int):=Int.natCast_nonneg _
    have hBel:Below S w wr:=by obtain ⟨L,_,_,_,_,_,h5⟩:=hout;exact h5
    have hBw:Below w.heap.size w wr:=by rw [hS];exact hBel
    by_cases hlt:i<xs.length
    · have k1:(i:Int)<(xs.length:Int):=by omega
      obtain ⟨x,hx⟩:∃ x,xs[i]?=some x:=⟨_,List.getElem?_eq_getElem hlt⟩
      obtain ⟨b,off,rfl,hb,hcx⟩:=(HA.out.below hBw) i x hx
      obtain ⟨d,hd,hnode⟩:=HN.out i x hx
      obtain ⟨l,Cp⟩:=d
      simp only at hnode
      obtain ⟨la,lc,hc0,hrd⟩:=hnode.set
      have hrng:=hnode.rng
      have HTK:Hid (D.take (i+1)=D.take i++[(l,Cp)]):=take_snocL hd
      have hK1:=HKI.out (i+1)
      have hK2:=hK1
      rw [HTK.out,List.flatMap_append] at hK2
      simp only [List.flatMap_cons,List.flatMap_nil,List.append_nil,nodeC,List.length_cons,List.length_append,cutsR_len] at hK2
      generalize hCI:(D.take i).flatMap nodeC=CI at *
      have HCI:=hide hCI
      have hc1:=(hBw.cell (p:=⟨x,1,none⟩) hnode.lt).trans hc0
      have hxl:x<wr.heap.size:=Nat.lt_of_lt_of_le hnode.lt hBw.size
      have HNODE:=hide hnode
      have HOUT:=hide hout
      have HRD:=hide hrd
      have HRNG:=hide hrng
      have hbw:b<wr.heap.size:=hb
      clear hx hnode hout hrd hrng hBel hBw hc0 hd hK1 hCI
      go_wp2_with fail
      go_loopg [3,20] l.length (fun j ov qv wr=>∃ q:Nat,qv=.int .i64 (q:Int)/\q<=l.length/\l.length-q<=j/\OutJ w S ((0::CI)++cutsR (l.take q)) ov wr/\S<wr.heap.size)
      case atStart=>exact ⟨0,rfl,Nat.zero_le _,by omega,by simpa [cutsR] using HOUT.out,hSr⟩
      case round =>
        obtain ⟨q,rfl,hql,hqj,hout2,hSr2⟩:=hrel
        have q0:(0:Int)<=(q:Int):=Int.natCast_nonneg _
        have hBel2:Below S w wr:=by obtain ⟨L,_,_,_,_,_,h5⟩:=hout2;exact h5
        have hBw2:Below w.heap.size w wr:=by rw [hS];exact hBel2
        by_cases hqlt:q<l.length
        · have q1:(q:Int)<(l.length:Int):=by omega
          obtain ⟨b2,off2,rfl,hb2,h1,h2⟩:=(HRD.out.below hBw2) q l[q] (List.getElem?_eq_getElem hqlt)
          have hr4:=HRNG.out l[q] (List.getElem_mem hqlt)
          have HTQ:Hid (l.take (q+1)=l.take q++[l[q]]):=take_snocL (List.getElem?_eq_getElem hqlt)
          generalize l[q]=y at h1 h2 hr4 HTQ
          obtain ⟨x1,x2⟩:=y
          simp only at h1 h2 hr4
          obtain ⟨r1,r2,r3,r4⟩:=hr4
          have HAF:=hide (after_range r3 r4)
          obtain ⟨L,hown,hL0,hLN,hLr,hLE,_⟩:=hout2
          have HLE:=hide hLE
          have hLb:L.length<=100000:=by
            have e8:(l.take q).length<=l.length:=by simp;omega
            simp only [List.length_append,List.length_cons,cutsR_len] at hLN
            omega
          have HLN:=hide hLN
          clear hLE hLN
          have HLR:=hide hLr
          have HOWN:=hide hown
          have HB2:=hide hBel2
          have hR:=Blk.new wr [.int .i64 x1,.int .i64 x2] 149
          have HRB:=hide hR
          have hown1:=hown.alloc (.cells #[.int .i64 x1,.int .i64 x2] 149)
          have HBA:Hid (Below S w (wr.alloc (.cells #[.int .i64 x1,.int .i64 x2] 149))):=hBel2.alloc (Nat.le_of_lt hSr2) _
          have HRS:Hid (S<=wr.heap.size):=Nat.le_of_lt hSr2
          clear hLr hown hBel2 hBw2 hSr2 hR
          go_wp2_with fail
          generalize hR:wr.heap.size=R at *
          obtain ⟨W1,hW1⟩:∃ W1,wr.alloc (.cells #[.int .i64 x1,.int .i64 x2] 149)=W1:=⟨_,rfl⟩
          rw [hW1] at HRB hown1 HBA
          have e0:W1.cell? ⟨R,0,none⟩=some (.int .i64 x1):=HRB.out.cell 0
          have e1:W1.cell? ⟨R,1,none⟩=some (.int .i64 x2):=HRB.out.cell 1
          rw [hW1]
          refine wp_region_held_drew (S:=fun w':World=>w'.cell? ⟨R,0,none⟩=some (.int .i64 x1)/\w'.cell? ⟨R,1,none⟩=some (.int .i64 x2)) (by kernel_rfl) ⟨e0,e1⟩ (fun hHeld=>?_)
          refine wpAnyH_take (i:=0) (oi:=_) (v:=u3) rfl (by kernel_rfl) (by kernel_rfl) (by kernel_rfl) (fun _ _ _ h=>h) (Or.inl ⟨by rfl,by intro w hSw;go_simp⟩) (by assumption) ?_
          try simp only [Act.put,List.setIfInBounds_toArray,List.set_cons_zero,List.set_cons_succ,List.getElem_toArray,List.getElem_cons_zero]
          refine wpAnyH_take (i:=1) (oi:=_) (v:=.pointer (some ⟨R,0,none⟩)) rfl (by kernel_rfl) (by kernel_rfl) (by kernel_rfl) (fun _ _ _ h=>h) (Or.inl ⟨by rfl,by intro w hSw;go_simp⟩) (by assumption) ?_
          try simp only [Act.put,List.setIfInBounds_toArray,List.set_cons_zero,List.set_cons_succ,List.getElem_toArray,List.getElem_cons_zero,List.getElem_cons_succ]
          refine wpAnyH_take (i:=2) (oi:=_) (v:=.int .i64 x1) rfl (by kernel_rfl) (by kernel_rfl) (by kernel_rfl) (fun _ _ _ h=>h) (Or.inl ⟨by rfl,by intro w hSw;go_simp⟩) (by assumption) ?_
          try simp only [Act.put,List.setIfInBounds_toArray,List.set_cons_zero,List.set_cons_succ,List.getElem_toArray,List.getElem_cons_zero,List.getElem_cons_succ]
          refine wpAnyH_take (i:=3) (oi:=_) (v:=.pointer (some ⟨R,1,none⟩)) rfl (by kernel_rfl) (by kernel_rfl) (by kernel_rfl) (fun _ _ _ h=>h) (Or.inl ⟨by rfl,by intro w hSw;go_simp⟩) (by assumption) ?_
          try simp only [Act.put,List.setIfInBounds_toArray,List.set_cons_zero,List.set_cons_succ,List.getElem_toArray,List.getElem_cons_zero,List.getElem_cons_succ]
          refine wpAnyH_take (i:=4) (oi:=_) (v:=.int .i64 x2) rfl (by kernel_rfl) (by kernel_rfl) (by kernel_rfl) (fun _ _ _ h=>h) (Or.inl ⟨by rfl,by intro w hSw;go_simp⟩) (by assumption) ?_
          try simp only [Act.put,List.setIfInBounds_toArray,List.set_cons_zero,List.set_cons_succ,List.getElem_toArray,List.getElem_cons_zero,List.getElem_cons_succ]
          refine wpAnyH_ready (rs:=[5]) (by kernel_rfl) (by simp) ?_
          refine AllReadyH.cons (o:=_) rfl (fun Kc hK=>?_) AllReadyH.nil
          go_simp
          refine (after_any x2 _ r3 r4).mono ?_
          rintro e w5 ⟨rfl,hw5⟩
          have hw6:=hw5.symm
          subst hw6
          clear hw5
          go_wp2_with fail
          refine hK.out _ _ ⟨e0,e1⟩ (fun hHeld=>?_)
          clear hK Kc
          try simp only [Act.put,List.setIfInBounds_toArray,List.set_cons_zero,List.set_cons_succ]
          refine wpAnyH_ready (rs:=[6]) (by kernel_rfl) (by simp) ?_
          refine AllReadyH.cons (o:=_) rfl (fun Kc hK=>?_) AllReadyH.nil
          go_simp
          refine hK.out _ _ ⟨(HRB.out.alloc _).cell 0,(HRB.out.alloc _).cell 1⟩ (fun hHeld=>?_)
          clear hK Kc
          try simp only [Act.put,List.setIfInBounds_toArray,List.set_cons_zero,List.set_cons_succ]
          refine wpAnyH_ready (rs:=[7]) (by kernel_rfl) (by simp) ?_
          refine AllReadyH.cons (o:=_) rfl (fun Kc hK=>?_) AllReadyH.nil
          rw [if_pos (by rfl)]
          have hW1z:W1.heap.size=R+1:=by rw [<- hW1];simp [hR]
          have hSR:=HRS.out
          refine wp_append_own _ _ _ 48 rfl S 3 i0 (.int .i64 0) 1 8 Tryz.underlying48 hi hz0 hz1 hz2 rfl (by decide) _ _ _ rfl (hown1.alloc _) ⟨W1.heap.size,0,none⟩ 2 2 [.int .i64 x1,.int .i64 (Brm.after x2)] rfl rfl (pair_cells W1 _ _) (new_one _ _) (by unfold maxLen;omega) (by omega) (by simp;omega) ?_
          intro v' w3 hown' hgrow _
          have hfar:∀ k,R<=k->some k≠Value.ownBlock u3:=fun k hk e=>by have:=(HOWN.out.lt k e.symm).2;omega
          have hr3:=((HRB.out.alloc (.cells #[.int .i64 x1,.int .i64 (Brm.after x2)] 3)).drew).grown hgrow (hfar R (Nat.le_refl _))
          have hb3:Below S w w3:=((HBA.out.alloc (by omega) (.cells #[.int .i64 x1,.int .i64 (Brm.after x2)] 3)).drew).grown hgrow (by simp;omega) (fun k e=>(HOWN.out.lt k e).1)
          have HB3:=hide hb3
          have hsz3:S<w3.heap.size:=by have:=hr3.lt;omega
          have HOUT3:Hid (OutJ w S ((0::CI)++cutsR (l.take (q+1))) v' w3):=by
            refine ⟨L++[x1,Brm.after x2],?_,by simp,?_,?_,?_,hb3⟩
            · have e9:ints (L++[x1,Brm.after x2])=ints L++[.int .i64 x1,.int .i64 (Brm.after x2)]:=by simp [ints]
              rw [e9];simpa using hown'
            · have e8:=HLN.out
              rw [HTQ.out,cutsR_snoc]
              simp only [List.length_append,List.length_cons,List.length_nil] at e8 ⊢
              omega
            · intro y hy
              rcases List.mem_append.1 hy with hy | hy
              · exact HLR.out y hy
              · simp only [List.mem_cons,List.not_mem_nil,or_false] at hy
                rcases hy with rfl | rfl
                · omega
                · exact HAF.out
            · intro y hy
              rw [HTQ.out,cutsR_snoc,<- List.append_assoc,List.mem_append,List.mem_append,HLE.out y hy]
          refine hK.out _ _ ⟨hr3.cell 0,hr3.cell 1⟩ (fun hHeld=>?_)
          clear hK Kc hgrow hown' hb3 hr3 hfar
          try simp only [Act.put,List.setIfInBounds_toArray,List.set_cons_zero,List.set_cons_succ,List.getElem_toArray,List.getElem_cons_zero,List.getElem_cons_succ]
          refine wpAnyH_take (i:=8) (oi:=_) (v:=v') rfl (by kernel_rfl) (by kernel_rfl) (by kernel_rfl) (fun _ _ _ h=>h) (Or.inl ⟨by rfl,by intro w hSw;go_simp⟩) (by assumption) ?_
          try simp only [Act.put,List.setIfInBounds_toArray,List.set_cons_zero,List.set_cons_succ,List.getElem_toArray,List.getElem_cons_zero,List.getElem_cons_succ]
          refine wpAnyH_done (by kernel_rfl) ?_ _
          go_wp2_with fail
          go_roundg (gk-1)
          case measure=>omega
          case rel=>exact ⟨q+1,by go_num,by omega,by omega,HOUT3.out,hsz3⟩
        · have d1:decide ((q:Int)<(l.length:Int))=false:=decide_eq_false (by omega)
          have d2:decide (q<l.length)=false:=decide_eq_false hqlt
          obtain ⟨pv,hp0,⟨pa,pn,pc,rfl⟩,hcall⟩:=HNODE.out.parts
          have hp1:=(hBw2.cell (p:=⟨x,2,none⟩) HNODE.out.lt).trans hp0
          have hxl2:x<wr.heap.size:=Nat.lt_of_lt_of_le HNODE.out.lt hBw2.size
          have HCALL:=hide (hcall wr hBw2)
          have HOUT2:=hide hout2
          clear hp0 hcall hout2 hBel2 hBw2
          go_wp2_with fail
          refine HCALL.out.mono ?_
          rintro e w5 ⟨L5,g5,c5,rfl,hc5,hS5,hr5,hm5,hg5,hrow5,hb5⟩
          have hlen5:=FirstsC.len hS5 hm5
          obtain ⟨L,hown,hL0,hLN,hLr,hLE,hBL⟩:=HOUT2.out.below hb5 (Nat.le_of_lt hSr2)
          have hqe:q=l.length:=by omega
          rw [hqe,List.take_length] at hLN hLE
          simp only [List.length_append,List.length_cons,cutsR_len] at hLN
          have HM5:=hide hm5
          have HLE:=hide hLE
          have HLN:=hide hLN
          have hLb:L.length<=100000:=by omega
          have hL5b:L5.length<=100000:=by omega
          clear hm5 hLE hLN hS5
          have hs5:S<w5.heap.size:=Nat.lt_of_lt_of_le hSr2 hb5.size
          have HLR:=hide hLr
          have HOWN:=hide hown
          have HBL:=hide hBL
          have HR5:=hide hr5
          have hcells:∀ j u,(ints L5)[j]?=some u->w5.cell? ((⟨g5,0,none⟩:Addr).add j)=some u:=by
            intro j u hju
            rw [Addr.add_mid,Nat.zero_add]
            unfold ints at hju
            rw [List.getElem?_map] at hju
            cases hv:L5[j]? with
            | none=>rw [hv] at hju;cases hju
            | some z=>rw [hv] at hju;cases hju;exact hrow5.cell hv
          have hone:∀ u∈ints L5,u.oneCell'=true:=by
            intro u hu
            unfold ints at hu
            obtain ⟨z,_,rfl⟩:=List.mem_map.1 hu
            rfl
          clear hLr hBL hr5 hrow5 hb5 HOUT2
          go_wp2_with (at_builtin;refine wpList_append_own _ rfl _ _ 48 rfl S 3 i0 (.int .i64 0) 1 8 Tryz.underlying48 hi hz0 hz1 hz2 rfl (by decide) _ _ _ rfl hown ⟨g5,0,none⟩ L5.length c5 (ints L5) rfl (by simp [ints]) hcells hone (by unfold maxLen;omega) (by omega) (Nat.le_of_lt hs5) ?_;intro v' w6 hown' hgrow _)
          have hb6:Below S w w6:=HBL.out.grown hgrow (Nat.le_of_lt hs5) (fun k e=>(HOWN.out.lt k e).1)
          have hs6:S<w6.heap.size:=Nat.lt_of_lt_of_le hs5 hgrow.size
          go_roundg (xs.length-(i+1))
          case measure=>omega
          case rel =>
            refine ⟨i+1,by go_num,by omega,Nat.le_refl _,⟨L++L5,?_,by simp;omega,?_,?_,?_,hb6⟩,hs6⟩
            · have e9:ints (L++L5)=ints L++ints L5:=by simp [ints]
              rw [e9,List.length_append];exact hown'
            · have e8:=HLN.out
              rw [HTK.out,List.flatMap_append,HCI.out]
              simp only [List.flatMap_cons,List.flatMap_nil,List.append_nil,nodeC,List.length_cons,List.length_append,cutsR_len]
              omega
            · intro y hy
              rcases List.mem_append.1 hy with hy | hy
              · exact HLR.out y hy
              · have:=HR5.out y hy;omega
            · intro y hy
              rw [HTK.out,List.flatMap_append,HCI.out,List.mem_append,HLE.out y hy,HM5.out y]
              simp only [List.flatMap_cons,List.flatMap_nil,List.append_nil,nodeC,List.mem_cons,List.mem_append]
              constructor
              · rintro (((h1 | h1) | h1) | h1)
                · exact .inl h1
                · exact .inr (.inl h1)
                · exact .inr (.inr (.inl h1))
                · exact .inr (.inr (.inr h1.2))
              · rintro (h1 | h1 | h1 | h1)
                · exact .inl (.inl (.inl h1))
                · exact .inl (.inl (.inr h1))
                · exact .inl (.inr h1)
                · exact .inr ⟨hy,h1⟩
    · have d1:decide ((i:Int)<(xs.length:Int))=false:=decide_eq_false (by omega)
      have d2:decide (i<xs.length)=false:=decide_eq_false hlt
      have hie:i=xs.length:=by omega
      subst hie
      obtain ⟨L,hown,hL0,hLN,hLr,hLE,hBL⟩:=hout
      have hK9:=HKI.out xs.length
      rw [List.take_of_length_le (by have:=HLD.out;omega)] at hLN hLE hK9
      have hLb:L.length<=100000:=Nat.le_trans hLN hK9
      have HLE:=hide hLE
      clear hLE hLN hK9
      obtain ⟨g,cc,rfl,hcc,hgS,hrow⟩:=own_row hown hL0
      have HLR:=hide hLr
      have HROW:=hide hrow
      have HBL:=hide hBL
      clear hown hLr hrow hBL hBel hBw
      go_wp2_with fail
      refine (sort_row2 g cc L wr HROW.out (by omega)).mono ?_
      rintro e w1 ⟨rfl,L1,hp1,hs1,hrow1,hb1⟩
      have HS1:=hide hs1
      have HL1:=hide hp1.length_eq
      have HP1:=hide hp1
      have HROW1:=hide hrow1
      have HB1:=hide hb1
      clear hp1 hrow1 hb1 hs1
      go_wp2_with fail
      rw [<- HL1.out]
      have hl1:=HL1.out
      refine (compact_row2 g cc L1 w1 HROW1.out (by omega) (by omega)).mono ?_
      rintro e w2 ⟨rfl,hl2,hrow2,hb2⟩
      have HROW2:=hide hrow2
      have HB2:=hide hb2
      clear hrow2 hb2
      go_wp2_with fail
      have HEND:=hide (firsts_end HP1.out HS1.out HLR.out HLE.out)
      have HLR9:=hide hl2
      generalize hL2:Lib.compact L1=L2 at *
      refine (delete_row2 g cc L2 w2 HROW2.out (by omega) (by omega)).mono ?_
      rintro e w3 ⟨rfl,hl3,hrow3,hb3⟩
      have HROW3:=hide hrow3
      have HB3:=hide hb3
      clear hrow3 hb3
      go_wp2_with fail
      go_ret
      refine ⟨_,g,cc,rfl,by omega,HEND.out.1,HEND.out.2.1,HEND.out.2.2,by omega,HROW3.out,?_⟩
      rw [hS]
      exact HBL.out.trans ((HB1.out.mono hgS).trans ((HB2.out.mono hgS).trans (HB3.out.mono hgS)))
end Go.Proofs.YtpoibdhhcbelnaaGreatDoor
