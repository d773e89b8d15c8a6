/- Walks and plain laws, some texts in one. -/
import Derived.Laws.Cover4
import Derived.Deep.DeepCutAuto
import Derived.BigRegion
import Derived.BigQuiet
import Derived.Deep.QuietTactic
import Derived.Test.YtpoibdhhcbelnaaGreatDoorM34
import Derived.Test.YtpoibdhhcbelnaaGreatDoorM41
import Derived.Test.YtpoibdhhcbelnaaGreatDoorM03
import Derived.Test.YtpoibdhhcbelnaaGreatDoorM35
import Derived.Test.YtpoibdhhcbelnaaGreatDoorM30
namespace Go.Proofs.YtpoibdhhcbelnaaGreatDoor
open Go.Shelf Go.RowKit Brm
namespace Brm
mutual
def Pat.cl:Pat->List Int
  | .set s=>cutsR s++[0]
  | .row l=>0::clL l
  | .or l=>0::clL l
  | .and l=>0::clL l
  | .not p=>0::p.cl
  | .many p _ _=>0::p.cl
  | .group p=>0::p.cl
def clL:List Pat->List Int
  | []=>[]
  | p::l=>p.cl++clL l
end
end Brm
mutual
theorem cl_zero:∀ p:Pat,0∈p.cl
  | .set s=>by simp [Pat.cl]
  | .row l=>by simp [Pat.cl]
  | .or l=>by simp [Pat.cl]
  | .and l=>by simp [Pat.cl]
  | .not p=>by simp [Pat.cl]
  | .many p _ _=>by simp [Pat.cl]
  | .group p=>by simp [Pat.cl]
end
theorem canon_rng {s:List (Int×Int)}(h:Canon s):∀ y∈s,0<=y.1/\y.1<=1114111/\0<=y.2/\y.2<=1114111:=fun y hy=>by
  obtain ⟨g1,g2,_⟩:=h.1 y hy
  simp only [runeB,decide_eq_true_eq] at g1 g2
  omega
theorem FirstsC.same {C C':List Int}{w:World}{e:Ending}{w':World}(h:FirstsC C w e w')(hc:∀ x,x∈C↔x∈C'):FirstsC C' w e w':=by
  obtain ⟨L,g,c,h1,h2,h3,h4,h5,h6⟩:=h
  exact ⟨L,g,c,h1,h2,h3,h4,fun x=>by rw [h5,hc],h6⟩
def NodeP (p:Pat):Prop:=∀ (w:World) (A:Nat->Prop) (b:Nat),PN w A p b->(∀ g,A g->g<w.heap.size)->p.cl.length<=50000->∃ l Cp,NodeG w b l Cp/\(cutsR l++Cp).length<=p.cl.length/\∀ x,x∈cutsR l++Cp↔x∈p.cl
theorem nodesA_own {w:World}{A:Nat->Prop}{lv:Value}{n:Nat}{xs:List Nat}(h:Own w A 65 1 lv n (xs.map Ptr)):∃ a c,lv=.slice a n c/\NodesA w a xs:=by
  rcases h.1.2 with ⟨h1,h0⟩ | ⟨g,cap,cur,hv,hb,hg,r⟩
  · refine ⟨none,0,by rw [h0];exact h1,fun j x hx=>?_⟩
    have:xs.length=0:=by have:=h.1.1;rw [h0] at this;simpa using this
    rw [List.length_eq_zero_iff.1 this] at hx
    simp at hx
  · refine ⟨_,_,hv,fun j x hx=>⟨g,0,rfl,(h.1.lt g (by rw [hv];rfl)).2,?_⟩⟩
    have:=h.1.cells (g:=g) (by rw [hv];rfl) j (Ptr x) (by rw [List.getElem?_map,hx];rfl)
    rw [Addr.add_lit] at this
    exact this
theorem parts_firsts {l:List Pat}(ih:∀ p∈l,NodeP p){w:World}{A:Nat->Prop}{lv:Value}{xs:List Nat}(hA:∀ g,A g->g<w.heap.size)(hO:Own w A 65 1 lv l.length (xs.map Ptr))(hL:PL w A l xs)(h100:l.length<=100)(hc:(0::clL l).length<=50000) :
    ∀ W,Below w.heap.size w W->Calls Tryz.prog 90 #[lv] W (FirstsC (0::clL l) W):=by
  intro W hW
  obtain ⟨a,c,rfl,hN⟩:=nodesA_own hO
  have hAW:∀ g,A g->g<W.heap.size:=fun g hg=>Nat.lt_of_lt_of_le (hA g hg) hW.size
  have hLW:PL W A l xs:=PL.keep (Keeps.below hW) l xs hL
  have hle:∀ p∈l,p.cl.length<=(clL l).length:=by
    intro p hp
    clear ih hO hL h100 hc hLW
    induction l with
    | nil=>simp at hp
    | cons q l ih =>
      simp only [clL,List.length_append]
      rcases List.mem_cons.1 hp with rfl | hp
      · omega
      · have:=ih hp;omega
  have key:∀ (l:List Pat) (xs:List Nat),PL W A l xs->(∀ p∈l,NodeP p)->(∀ p∈l,p.cl.length<=50000)->∃ D:List (List (Int×Int)×List Int),D.length=xs.length/\(∀ (i x:Nat),xs[i]?=some x->∃ d:List (Int×Int)×List Int,D[i]?=some d/\NodeG W x d.1 d.2)/\(D.flatMap nodeC).length<=(clL l).length/\∀ x,x∈D.flatMap nodeC↔x∈clL l:=by
    intro l
    induction l with
    | nil =>
      intro xs h _ _
      have:xs=[]:=h
      subst this
      exact ⟨[],rfl,fun i x hx=>by simp at hx,by simp,fun x=>by simp [clL]⟩
    | cons p l ih2 =>
      intro xs h hn hb
      obtain ⟨x,r,rfl,h1,h2⟩:=h
      obtain ⟨s,Cp,hg,hlen,hm⟩:=hn p (by simp) W A x h1 hAW (hb p (by simp))
      obtain ⟨D,d1,d2,d3,d4⟩:=ih2 r h2 (fun q hq=>hn q (by simp [hq])) (fun q hq=>hb q (by simp [hq]))
      refine ⟨(s,Cp)::D,by simp [d1],fun i y hy=>?_,?_,fun y=>?_⟩
      · cases i with
        | zero=>simp at hy;subst hy;exact ⟨(s,Cp),rfl,hg⟩
        | succ i=>simp at hy;obtain ⟨d,e1,e2⟩:=d2 i y hy;exact ⟨d,by simpa using e1,e2⟩
      · simp only [List.flatMap_cons,List.length_append,clL]
        have:(nodeC (s,Cp)).length<=p.cl.length:=hlen
        omega
      · rw [List.flatMap_cons,List.mem_append,d4]
        have:=hm y
        simp only [clL,List.mem_append]
        rw [show y∈nodeC (s,Cp)↔y∈p.cl from this]
  simp only [List.length_cons] at hc
  obtain ⟨D,d1,d2,d3,d4⟩:=key l xs hLW ih (fun p hp=>by have:=hle p hp;omega)
  have hxl:xs.length=l.length:=hL.leng
  rw [<- hxl]
  refine (firsts_all a c xs D W (hN.below hW) d2 d1.symm (by omega) (by simp only [List.length_cons];omega)).mono fun e w' h=>h.same fun x=>?_
  simp only [List.mem_cons,d4]
theorem firsts_nilC (w:World):Calls Tryz.prog 90 #[.slice none 0 0] w (FirstsC [0] w):=by
  have:=firsts_all none 0 [] [] w (fun j x hx=>by simp at hx) (fun i x hx=>by simp at hx) rfl (by simp) (by simp)
  simpa using this
mutual
theorem node_all:∀ (p:Pat),p.Ok->NodeP p
  | .set s,h=>by
    intro w A b hN hA hc
    obtain ⟨hb,sv,hnb,hs⟩:=hN
    refine ⟨s,[0],⟨?_,canon_rng h,⟨_,hnb.cell 2,⟨_,_,_,rfl⟩,fun W _=>firsts_nilC W⟩,hnb.lt⟩,Nat.le_refl _,fun x=>Iff.rfl⟩
    rcases hs with ⟨rfl,rfl⟩ | ⟨bb,off,cap,rfl,_,_,_,hr⟩
    · exact ⟨none,0,hnb.cell 1,fun i x hx=>by simp at hx⟩
    · exact ⟨_,_,hnb.cell 1,hr⟩
  | .row l,h=>by
    have ih:=node_allL l h
    intro w A b hN hA hc
    obtain ⟨hb,h100,lv,xs,hnb,ho,hL⟩:=hN
    obtain ⟨a,c,hlv,_⟩:=nodesA_own ho
    exact ⟨[],0::clL l,⟨⟨none,0,hnb.cell 1,fun i x hx=>by simp at hx⟩,fun y hy=>by simp at hy,⟨lv,hnb.cell 2,⟨_,_,_,hlv⟩,parts_firsts ih hA ho hL h100 hc⟩,hnb.lt⟩,Nat.le_refl _,fun x=>Iff.rfl⟩
  | .or l,h=>by
    have ih:=node_allL l h.1
    intro w A b hN hA hc
    obtain ⟨h100,xs,hL,⟨h1,rfl⟩ | ⟨hn,hb,lv,hnb,ho⟩⟩:=hN
    · obtain ⟨p,rfl⟩:=List.length_eq_one_iff.1 h1
      obtain ⟨x,r,e,hp,_⟩:=hL
      cases e
      have hlen:(Pat.or [p]).cl=0::p.cl:=by simp [Pat.cl,clL]
      rw [hlen] at hc ⊢
      simp only [List.length_cons] at hc
      obtain ⟨s,Cp,g1,g2,g3⟩:=ih p (by simp) w A b hp hA (by omega)
      refine ⟨s,Cp,g1,by simp only [List.length_cons];omega,fun x=>?_⟩
      rw [g3,List.mem_cons]
      exact ⟨.inr,fun h=>h.elim (fun e=>by rw [e];exact cl_zero p) id⟩
    · obtain ⟨a,c,hlv,_⟩:=nodesA_own ho
      exact ⟨[],0::clL l,⟨⟨none,0,hnb.cell 1,fun i x hx=>by simp at hx⟩,fun y hy=>by simp at hy,⟨lv,hnb.cell 2,⟨_,_,_,hlv⟩,parts_firsts ih hA ho hL h100 hc⟩,hnb.lt⟩,Nat.le_refl _,fun x=>Iff.rfl⟩
  | .and l,h=>by
    have ih:=node_allL l h.1
    intro w A b hN hA hc
    obtain ⟨h100,xs,hL,⟨h1,rfl⟩ | ⟨hn,hb,lv,hnb,ho⟩⟩:=hN
    · obtain ⟨p,rfl⟩:=List.length_eq_one_iff.1 h1
      obtain ⟨x,r,e,hp,_⟩:=hL
      cases e
      have hlen:(Pat.and [p]).cl=0::p.cl:=by simp [Pat.cl,clL]
      rw [hlen] at hc ⊢
      simp only [List.length_cons] at hc
      obtain ⟨s,Cp,g1,g2,g3⟩:=ih p (by simp) w A b hp hA (by omega)
      refine ⟨s,Cp,g1,by simp only [List.length_cons];omega,fun x=>?_⟩
      rw [g3,List.mem_cons]
      exact ⟨.inr,fun h=>h.elim (fun e=>by rw [e];exact cl_zero p) id⟩
    · obtain ⟨a,c,hlv,_⟩:=nodesA_own ho
      exact ⟨[],0::clL l,⟨⟨none,0,hnb.cell 1,fun i x hx=>by simp at hx⟩,fun y hy=>by simp at hy,⟨lv,hnb.cell 2,⟨_,_,_,hlv⟩,parts_firsts ih hA ho hL h100 hc⟩,hnb.lt⟩,Nat.le_refl _,fun x=>Iff.rfl⟩
  | .not p,h=>by
    have ih:=node_all p h
    intro w A b hN hA hc
    obtain ⟨hb,lv,x,hnb,ho,hp⟩:=hN
    obtain ⟨a,c,hlv,_⟩:=nodesA_own (xs:=[x]) ho
    have hcl:(Pat.not p).cl=0::clL [p]:=by simp [Pat.cl,clL]
    rw [hcl] at hc ⊢
    exact ⟨[],0::clL [p],⟨⟨none,0,hnb.cell 1,fun i x hx=>by simp at hx⟩,fun y hy=>by simp at hy,⟨lv,hnb.cell 2,⟨_,_,_,hlv⟩,parts_firsts (l:=[p]) (xs:=[x]) (fun q hq=>by simp at hq;subst hq;exact ih) hA ho ⟨x,[],rfl,hp,rfl⟩ (by simp) hc⟩,hnb.lt⟩,Nat.le_refl _,fun x=>Iff.rfl⟩
  | .many p m n,h=>by
    have ih:=node_all p h.1
    intro w A b hN hA hc
    obtain ⟨hb,lv,x,hnb,ho,hp⟩:=hN
    obtain ⟨a,c,hlv,_⟩:=nodesA_own (xs:=[x]) ho
    have hcl:(Pat.many p m n).cl=0::clL [p]:=by simp [Pat.cl,clL]
    rw [hcl] at hc ⊢
    exact ⟨[],0::clL [p],⟨⟨none,0,hnb.cell 1,fun i x hx=>by simp at hx⟩,fun y hy=>by simp at hy,⟨lv,hnb.cell 2,⟨_,_,_,hlv⟩,parts_firsts (l:=[p]) (xs:=[x]) (fun q hq=>by simp at hq;subst hq;exact ih) hA ho ⟨x,[],rfl,hp,rfl⟩ (by simp) hc⟩,hnb.lt⟩,Nat.le_refl _,fun x=>Iff.rfl⟩
  | .group p,h=>by
    have ih:=node_all p h
    intro w A b hN hA hc
    obtain ⟨hb,lv,x,hnb,ho,hp⟩:=hN
    obtain ⟨a,c,hlv,_⟩:=nodesA_own (xs:=[x]) ho
    have hcl:(Pat.group p).cl=0::clL [p]:=by simp [Pat.cl,clL]
    rw [hcl] at hc ⊢
    exact ⟨[],0::clL [p],⟨⟨none,0,hnb.cell 1,fun i x hx=>by simp at hx⟩,fun y hy=>by simp at hy,⟨lv,hnb.cell 2,⟨_,_,_,hlv⟩,parts_firsts (l:=[p]) (xs:=[x]) (fun q hq=>by simp at hq;subst hq;exact ih) hA ho ⟨x,[],rfl,hp,rfl⟩ (by simp) hc⟩,hnb.lt⟩,Nat.le_refl _,fun x=>Iff.rfl⟩
theorem node_allL:∀ (l:List Pat),OkL l->∀ p∈l,NodeP p
  | [],_=>fun p h=>by cases h
  | q::l,hk=>by
    have hq:=node_all q hk.1
    have hl:=node_allL l hk.2
    intro p h
    rcases List.mem_cons.1 h with rfl | h
    · exact hq
    · exact hl p h
end
end Go.Proofs.YtpoibdhhcbelnaaGreatDoor
namespace Go.Proofs.YtpoibdhhcbelnaaGreatDoor
open Brm
def repR:List Int->Int->Int
  | [],_=>0
  | a::L,r=>if repR L r<=r/\a<=repR L r/\repR L r∈L then repR L r else a
structure RepOf (Al:List Int)(f:Int->Int):Prop where
  mem:∀ r,0<=r->f r∈Al
  le:∀ r,0<=r->f r<=r
  max:∀ r,0<=r->∀ a∈Al,a<=r->a<=f r
open Classical in
noncomputable def repA (Al:List Int)(r:Int):Int:=if h:∃ a∈Al,a<=r/\∀ b∈Al,b<=r->b<=a then Classical.choose h else 0
theorem max_ex:∀ (Al:List Int) (r:Int),(∃ a∈Al,a<=r)->∃ a∈Al,a<=r/\∀ b∈Al,b<=r->b<=a
  | [],r,h=>by obtain ⟨a,ha,_⟩:=h;simp at ha
  | x::L,r,h=>by
    by_cases hL:∃ a∈L,a<=r
    · obtain ⟨a,a1,a2,a3⟩:=max_ex L r hL
      by_cases hx:x<=r/\a<=x
      · exact ⟨x,by simp,hx.1,fun b hb hr=>by
          rcases List.mem_cons.1 hb with rfl | hb
          · exact Int.le_refl _
          · have:=a3 b hb hr;omega⟩
      · exact ⟨a,by simp [a1],a2,fun b hb hr=>by
          rcases List.mem_cons.1 hb with rfl | hb
          · omega
          · exact a3 b hb hr⟩
    · obtain ⟨a,ha,hr⟩:=h
      rcases List.mem_cons.1 ha with rfl | ha
      · exact ⟨a,by simp,hr,fun b hb hb2=>by
          rcases List.mem_cons.1 hb with rfl | hb
          · exact Int.le_refl _
          · exact absurd ⟨b,hb,hb2⟩ hL⟩
      · exact absurd ⟨a,ha,hr⟩ hL
theorem repA_of {Al:List Int}(h0:(0:Int)∈Al):RepOf Al (repA Al):=by
  have key:∀ r,0<=r->repA Al r∈Al/\repA Al r<=r/\∀ b∈Al,b<=r->b<=repA Al r:=fun r hr=>by
    have hex:=max_ex Al r ⟨0,h0,hr⟩
    unfold repA
    rw [dif_pos hex]
    exact Classical.choose_spec hex
  exact ⟨fun r hr=>(key r hr).1,fun r hr=>(key r hr).2.1,fun r hr=>(key r hr).2.2⟩
def InvL (f:Int->Int)(L:List Int->Prop):Prop:=∀ t,ValT t->(L t↔L (t.map f))
theorem set_inv {Al:List Int}{f:Int->Int}(hf:RepOf Al f){s:List (Int×Int)}(hs:Canon s)(hc:∀ x∈cutsR s,x<=1114111->x∈Al){r:Int}(hr:runeB r=true):memB s r=true↔memB s (f r)=true:=by
  have hr':=hr
  simp only [runeB,decide_eq_true_eq] at hr'
  have h1:=hf.le r (by omega)
  have h2:=hf.max r (by omega)
  simp only [memB,List.any_eq_true,inB,decide_eq_true_eq]
  have key:∀ y∈s,(y.1<=r/\r<=y.2)↔(y.1<=f r/\f r<=y.2):=fun y hy=>by
    obtain ⟨g1,g2,g3⟩:=hs.1 y hy
    simp only [runeB,decide_eq_true_eq] at g1 g2
    have m1:y.1∈cutsR s:=List.mem_flatMap.2 ⟨y,hy,by simp⟩
    have m2:after y.2∈cutsR s:=List.mem_flatMap.2 ⟨y,hy,by simp⟩
    constructor
    · rintro ⟨k1,k2⟩
      exact ⟨h2 y.1 (hc _ m1 (by omega)) k1,by omega⟩
    · rintro ⟨k1,k2⟩
      refine ⟨by omega,?_⟩
      rcases Int.lt_or_le y.2 r with hlt | hle
      · have ha:after y.2<=r:=by unfold after;split<;>omega
        have hb:y.2<after y.2:=by unfold after;split<;>omega
        have:=h2 (after y.2) (hc _ m2 (by omega)) ha
        omega
      · exact hle
  constructor
  · rintro ⟨y,hy,h⟩;exact ⟨y,hy,(key y hy).1 h⟩
  · rintro ⟨y,hy,h⟩;exact ⟨y,hy,(key y hy).2 h⟩
theorem pair_inv {f:Int->Int}{A B:List Int->Prop}(hA:InvL f A)(hB:InvL f B):InvL f (fun t=>∃ x y,t=x++y/\A x/\B y):=fun t ht=>by
  constructor
  · rintro ⟨x,y,rfl,h1,h2⟩
    exact ⟨x.map f,y.map f,by simp,(hA x (fun r hr=>ht r (by simp [hr]))).1 h1,(hB y (fun r hr=>ht r (by simp [hr]))).1 h2⟩
  · rintro ⟨x,y,e,h1,h2⟩
    obtain ⟨u,v,rfl,rfl,rfl⟩:=List.map_eq_append_iff.1 e
    exact ⟨u,v,rfl,(hA u (fun r hr=>ht r (by simp [hr]))).2 h1,(hB v (fun r hr=>ht r (by simp [hr]))).2 h2⟩
theorem rep_inv {f:Int->Int}{A:List Int->Prop}(hA:InvL f A):∀ k,InvL f (Rep A k)
  | 0=>fun t _=>by simp [Rep]
  | k+1=>pair_inv hA (rep_inv hA k)
mutual
theorem mt_inv {Al:List Int}{f:Int->Int}(hf:RepOf Al f):∀ (p:Pat),p.Ok->(∀ x∈p.cl,x<=1114111->x∈Al)->InvL f p.Mt
  | .set s,h,hc=>fun t ht=>by
    have hc':∀ x∈cutsR s,x<=1114111->x∈Al:=fun x hx=>hc x (by simp [Pat.cl,hx])
    show (∃ c,t=[c]/\memB s c=true)↔∃ c,t.map f=[c]/\memB s c=true
    constructor
    · rintro ⟨c,rfl,h1⟩
      exact ⟨f c,rfl,(set_inv hf h hc' (ht c (by simp))).1 h1⟩
    · rintro ⟨c,e,h1⟩
      obtain ⟨d,rfl,rfl⟩:=List.map_eq_singleton_iff.1 e
      exact ⟨d,rfl,(set_inv hf h hc' (ht d (by simp))).2 h1⟩
  | .row l,h,hc=>mtRow_inv hf l h (fun x hx=>hc x (by simp [Pat.cl,hx]))
  | .or l,h,hc=>mtOr_inv hf l h.1 (fun x hx=>hc x (by simp [Pat.cl,hx]))
  | .and l,h,hc=>mtAnd_inv hf l h.1 (fun x hx=>hc x (by simp [Pat.cl,hx]))
  | .not p,h,hc=>fun t ht=>by
    show ¬ p.Mt t↔¬ p.Mt (t.map f)
    rw [mt_inv hf p h (fun x hx=>hc x (by simp [Pat.cl,hx])) t ht]
  | .many p m n,h,hc=>fun t ht=>by
    have ih:=mt_inv hf p h.1 (fun x hx=>hc x (by simp [Pat.cl,hx]))
    show (∃ r:Nat,m<=r/\(n<0\/(r:Int)<=n)/\Rep p.Mt r t)↔∃ r:Nat,m<=r/\(n<0\/(r:Int)<=n)/\Rep p.Mt r (t.map f)
    constructor
    · rintro ⟨r,h1,h2,h3⟩;exact ⟨r,h1,h2,(rep_inv ih r t ht).1 h3⟩
    · rintro ⟨r,h1,h2,h3⟩;exact ⟨r,h1,h2,(rep_inv ih r t ht).2 h3⟩
  | .group p,h,hc=>mt_inv hf p h (fun x hx=>hc x (by simp [Pat.cl,hx]))
theorem mtRow_inv {Al:List Int}{f:Int->Int}(hf:RepOf Al f):∀ (l:List Pat),OkL l->(∀ x∈clL l,x<=1114111->x∈Al)->InvL f (MtRow l)
  | [],_,_=>fun t _=>by simp [MtRow]
  | p::l,h,hc=>pair_inv (mt_inv hf p h.1 (fun x hx=>hc x (by simp [clL,hx]))) (mtRow_inv hf l h.2 (fun x hx=>hc x (by simp [clL,hx])))
theorem mtOr_inv {Al:List Int}{f:Int->Int}(hf:RepOf Al f):∀ (l:List Pat),OkL l->(∀ x∈clL l,x<=1114111->x∈Al)->InvL f (MtOr l)
  | [],_,_=>fun t _=>by simp [MtOr]
  | p::l,h,hc=>fun t ht=>by
    show p.Mt t\/MtOr l t↔p.Mt (t.map f)\/MtOr l (t.map f)
    rw [mt_inv hf p h.1 (fun x hx=>hc x (by simp [clL,hx])) t ht,mtOr_inv hf l h.2 (fun x hx=>hc x (by simp [clL,hx])) t ht]
theorem mtAnd_inv {Al:List Int}{f:Int->Int}(hf:RepOf Al f):∀ (l:List Pat),OkL l->(∀ x∈clL l,x<=1114111->x∈Al)->InvL f (MtAnd l)
  | [],_,_=>fun t _=>by simp [MtAnd]
  | p::l,h,hc=>fun t ht=>by
    show p.Mt t/\MtAnd l t↔p.Mt (t.map f)/\MtAnd l (t.map f)
    rw [mt_inv hf p h.1 (fun x hx=>hc x (by simp [clL,hx])) t ht,mtAnd_inv hf l h.2 (fun x hx=>hc x (by simp [clL,hx])) t ht]
end
theorem lex_map {f:Int->Int}:∀ (t:List Int),(∀ r∈t,f r<=r)->lexB t (t.map f)=false
  | [],_=>rfl
  | a::t,h=>by
    have ha:=h a (by simp)
    have ih:=lex_map t (fun r hr=>h r (by simp [hr]))
    simp only [List.map_cons,lexB,Bool.or_eq_false_iff,Bool.and_eq_false_imp,decide_eq_false_iff_not,decide_eq_true_eq]
    exact ⟨by omega,fun _=>ih⟩
theorem least_al {Al:List Int}{f:Int->Int}(hf:RepOf Al f)(hA:∀ a∈Al,runeB a=true){D:List Int->Prop}(hD:InvL f D){n:Nat}{m:List Int}(hm:LeastT D n m):∀ r∈m,r∈Al:=by
  obtain ⟨h1,h2,h3,h4⟩:=hm
  have hv:ValT (m.map f):=fun r hr=>by
    obtain ⟨q,hq,rfl⟩:=List.mem_map.1 hr
    exact hA _ (hf.mem q (h1.rng q hq).1)
  have ha:=h4 (m.map f) hv ((hD m h1).1 h2) (by simpa using h3)
  have hb:lessT m (m.map f)=false:=by
    rw [lessT_not]
    exact ⟨by simp,fun _=>lex_map m (fun r hr=>hf.le r (h1.rng r hr).1)⟩
  have e:=lessT_tot hb ha
  intro r hr
  rw [e] at hr
  obtain ⟨q,hq,rfl⟩:=List.mem_map.1 hr
  exact hf.mem q (h1.rng q hq).1
end Go.Proofs.YtpoibdhhcbelnaaGreatDoor
namespace Go.Proofs.YtpoibdhhcbelnaaGreatDoor
open Go.Shelf Go.RowKit Go.Lib Brm
def derT (L:Lg)(u:List Int):Lg:=fun z=>L (u++z)
theorem derT_snoc (L:Lg)(u:List Int)(r:Int):der (derT L u) r=derT L (u++[r]):=by
  funext z
  show L (u++(r::z))=L ((u++[r])++z)
  rw [List.append_assoc]
  rfl
def lev (Z:Me):Nat->Me
  | 0=>Z
  | k+1=>derM (lev Z k)
structure ItOk (LA LB:Lg)(ZA ZB:Me)(ci:MC)(a:HIt):Prop where
  none:a.u=[]->a.ta=none/\a.tc=0
  some_:a.u≠[]->a.ta≠Option.none
  left:∃ j,j<ci.T.length/\a.x=ci.R j/\lg ci.T j=derT LA a.u/\sz ci.T j<=lev ZA a.u.length
  right:∃ j,j<ci.T.length/\a.y=ci.R j/\lg ci.T j=derT LB a.u/\sz ci.T j<=lev ZB a.u.length
theorem ItOk.gone {LA LB:Lg}{ZA ZB:Me}{W W':World}{ci c':MC}{a:HIt}(h:ItOk LA LB ZA ZB ci a)(k:Gone W ci W' c'):ItOk LA LB ZA ZB c' a:=by
  obtain ⟨j,j1,j2,j3,j4⟩:=h.left
  obtain ⟨i,i1,i2,i3,i4⟩:=h.right
  have hl:=k.len
  exact ⟨h.none,h.some_,⟨j,by omega,by rw [k.R j j1];exact j2,by rw [k.lang j1];exact j3,by rw [k.sz j1];exact j4⟩,⟨i,by omega,by rw [k.R i i1];exact i2,by rw [k.lang i1];exact i3,by rw [k.sz i1];exact i4⟩⟩
theorem MkI.notMp_cell {w:World}{c:MC}{q:Nat}(h:MkI w c q){p:Addr}{v:Value}(hp:w.cell? p=some v):¬ c.Mp p.block:=by
  rintro (e | ⟨i,hi,e⟩)
  · obtain ⟨f,⟨D,⟨es,clock,h1,h2⟩,h3⟩,_⟩:=h.map
    rw [<- e] at h1
    simp [World.cell?,h1] at hp
  · obtain ⟨f,n,⟨D,⟨es,clock,h1,h2⟩,h3⟩,_⟩:=h.know i hi
    rw [<- e] at h1
    simp [World.cell?,h1] at hp
def DY (bn g sb:Nat)(k:Nat):Prop:=k=bn\/k=g\/k=sb
structure DSt (LA LB:Lg)(ZA ZB:Me)(w:World)(c:MC)(bn sb:Nat)(W:World)(ci:MC)(q:Nat)(l:List HIt)(g cc:Nat)(Ls:List SE)(ks:Nat):Prop where
  hold:HoldY w c W ci q (DY bn g sb)
  wait:Wait W w.heap.size bn l g cc
  seen:SeenW W sb Ls ks
  its:∀ a∈l,ItOk LA LB ZA ZB ci a
  low:w.heap.size<=bn/\w.heap.size<=sb
theorem TxtW.cellW {w:World}{ta:Option Addr}{tc:Nat}{u:List Int}(h:TxtW w (.slice ta u.length tc) u)(hu:u≠[]):∃ b off v,ta=some ⟨b,off,none⟩/\w.cell? ⟨b,off,none⟩=some v:=by
  obtain ⟨a,c,e,h1⟩:=h
  injection e with e1 e2 e3
  subst e1
  cases u with
  | nil=>exact absurd rfl hu
  | cons r u =>
    obtain ⟨b,off,rfl,hl,hc⟩:=h1 0 r rfl
    exact ⟨b,off,_,rfl,by rw [Nat.add_zero] at hc;exact hc⟩
section
variable {LA LB:Lg} {ZA ZB:Me} {w:World} {c:MC} {bn sb:Nat} {W:World} {ci:MC} {q:Nat} {l:List HIt} {g cc:Nat} {Ls:List SE} {ks:Nat}
theorem DSt.ne (h:DSt LA LB ZA ZB w c bn sb W ci q l g cc Ls ks):bn≠sb/\g≠sb/\sb<W.heap.size:=by
  have hs:=h.seen.obj
  refine ⟨fun e=>?_,fun e=>?_,(Array.getElem?_eq_some_iff.1 hs).1⟩
  · have:=h.wait.heap.var
    rw [e] at this
    have h2:W.heap[sb]?=some (.cells _ _):=this
    rw [hs] at h2;cases h2
  · obtain ⟨_,_,_,rest,h4,_⟩:=h.wait.heap.row
    rw [e] at h4
    have h2:W.heap[sb]?=some (.cells _ _):=h4
    rw [hs] at h2;cases h2
theorem DSt.txt (h:DSt LA LB ZA ZB w c bn sb W ci q l g cc Ls ks){a:HIt}(ht:HTx W g bn a)(hi:ItOk LA LB ZA ZB ci a)(hX:∀ k,¬ c.X k):∀ o,a.ta=some o->o.block<W.heap.size/\¬ (ci.wY (DY bn g sb)).S o.block:=fun o ho=>by
  obtain ⟨t1,t2,t3⟩:=ht.2.2 o ho
  refine ⟨t1,?_⟩
  have hu:a.u≠[]:=fun e=>by have:=(hi.none e).1;rw [ho] at this;cases this
  obtain ⟨b,off,v,e,hc⟩:=ht.1.cellW hu
  rw [ho] at e
  injection e with e
  subst e
  rintro (e | e | e | e | e)
  · exact h.hold.mk.notMp_cell hc e
  · rw [h.hold.gone.X] at e
    exact hX _ e
  · exact t3 e
  · exact t2 e
  · have hs:=h.seen.obj
    have e':b=sb:=e
    rw [<- e'] at hs
    simp [World.cell?,hs] at hc
theorem DSt.below {W':World}(h:DSt LA LB ZA ZB w c bn sb W ci q l g cc Ls ks)(k:Below W.heap.size W W'):DSt LA LB ZA ZB w c bn sb W' ci q l g cc Ls ks where
  hold:=h.hold.below k
  wait:=⟨h.wait.heap.below k,fun a ha=>(h.wait.txt a ha).but (But.below k),h.wait.ord⟩
  seen:=⟨(k.block sb h.ne.2.2).trans h.seen.obj,h.seen.born,h.seen.one,h.seen.keys⟩
  its:=h.its
  low:=h.low
theorem HTx.turn {V V':World}{gg bb:Nat}{a:HIt}(h:HTx V gg bb a)(hs:V.heap.size<=V'.heap.size)(hb:∀ o,a.ta=some o->V'.heap[o.block]?=V.heap[o.block]?):HTx V' gg bb a:=by
  refine ⟨h.1.keep hs (fun o n c e=>?_),h.2.1,fun o ho=>⟨Nat.lt_of_lt_of_le (h.2.2 o ho).1 hs,(h.2.2 o ho).2⟩⟩
  injection e with e1 e2 e3
  exact hb o e1
theorem DSt.longer (h:DSt LA LB ZA ZB w c bn sb W ci q l g cc Ls ks){c0q:Nat}(hI:MkI w c c0q)(hP:PowT w)(hX:∀ k,¬ c.X k){now:HIt}(hn:HTx W g bn now)(hi:ItOk LA LB ZA ZB ci now)(hul:now.u.length<=500){r:Int}(hr:runeB r=true)
    (hq:q+costM (lev ZA now.u.length)+costM (lev ZB now.u.length)<=9000000000000000000) (hza:(lev ZA (now.u.length+1)).z<=3000000000000) (hzb:(lev ZB (now.u.length+1)).z<=3000000000000) :
    Calls Tryz.prog 95 #[hV now,.int .i64 r] W fun e W'=>∃ ci' a,e=.returned (hV a)/\a.u=now.u++[r]/\DSt LA LB ZA ZB w c bn sb W' ci' (q+costM (lev ZA now.u.length)+costM (lev ZB now.u.length)) l g cc Ls ks/\HTx W' g bn a/\ItOk LA LB ZA ZB ci' a/\HTx W' g bn now/\ItOk LA LB ZA ZB ci' now/\Gone W ci W' ci'/\∀ k,k<W.heap.size->W.cell? ⟨k,0,none⟩≠Option.none->W'.heap[k]?=W.heap[k]?:=by
  obtain ⟨ja,j1,j2,j3,j4⟩:=hi.left
  obtain ⟨jb,k1,k2,k3,k4⟩:=hi.right
  have hcm:∀ {A B:Me},A<=B->costM A<=costM B:=fun {A B} hAB=>by
    unfold costM
    have:=Nat.mul_le_mul (Nat.add_le_add_right hAB.2.1 4) (Nat.sub_le_sub_right hAB.2.2.1 1)
    omega
  have ca:=hcm j4
  have cb:=hcm k4
  have hPW:PowT W:=h.hold.gone.pow hI hP
  have hlong:=longer_any (w:=W) (c:=ci.wY (DY bn g sb)) (q:=q) (a:=ja) (b:=jb) (r:=r) (u:=now.u) (ta:=now.ta) (tc:=now.tc) h.hold.mk hPW j1 k1 hr hn.1 (h.txt hn hi hX) (fun e=>by
      by_cases hu:now.u=[]
      · exact ⟨hu,(hi.none hu).2⟩
      · exact absurd e (hi.some_ hu)) (by have:=hn.2.1;omega) (by show q+costM (sz ci.T ja)+costM (sz ci.T jb)<=_;omega) (Nat.le_trans (derM_mono j4).2.2.2 hza) (Nat.le_trans (derM_mono k4).2.2.2 hzb)
  have e1:(hV now)=.agg #[.slice now.ta now.u.length now.tc,PtrB ((ci.wY (DY bn g sb)).R ja),PtrB ((ci.wY (DY bn g sb)).R jb)]:=by
    show Value.agg _=Value.agg _
    rw [show (ci.wY (DY bn g sb)).R ja=ci.R ja from rfl,show (ci.wY (DY bn g sb)).R jb=ci.R jb from rfl,<- j2,<- k2]
  rw [e1]
  refine hlong.mono ?_
  rintro e W' ⟨c5,ia,ib,ta',tc',rfl,hI5,hG5,i1,i2,i3,i4,i5,i6,ht5,hb5⟩
  have hgo:=hG5.unY
  obtain ⟨c',hc'⟩:∃ c':MC,c'={ c5 with X:=ci.X }:=⟨_,rfl⟩
  rw [<- hc'] at hgo
  have e5:c'.wY (DY bn g sb)=c5:=by
    rw [hc']
    have:=hG5.X
    cases c5
    simp only [MC.wY,MC.mk.injEq,true_and] at this ⊢
    exact this.symm
  have hT:c'.T=c5.T:=by rw [hc']
  have hR:c'.R=c5.R:=by rw [hc']
  have hkeep:∀ k,DY bn g sb k->W'.heap[k]?=W.heap[k]?:=fun k hk=>hG5.keepX k (h.hold.mk.xs k (.inr hk)).1 (.inr hk)
  have hcell:∀ k,k<W.heap.size->¬ (ci.wY (DY bn g sb)).S k->W'.heap[k]?=W.heap[k]?:=fun k hk hn=>hG5.but.block k hk hn
  have hsz:=hG5.but.size
  have hhold:HoldY w c W' c' (q+costM (lev ZA now.u.length)+costM (lev ZB now.u.length)) (DY bn g sb):=⟨by rw [e5];exact hI5.more (by show q+costM (sz ci.T ja)+costM (sz ci.T jb)<=_;omega),h.hold.gone.trans hgo⟩
  have hlow:=h.wait.heap.row.lt
  have hbl:=h.wait.heap.var.lt
  have hall:∀ x,HTx W g bn x->ItOk LA LB ZA ZB ci x->HTx W' g bn x:=fun x hx hix=>hx.turn hsz (fun o ho=>hcell _ (h.txt hx hix hX o ho).1 (h.txt hx hix hX o ho).2)
  refine ⟨c',⟨ta',tc',now.u++[r],c'.R ia,c'.R ib⟩,?_,rfl,⟨hhold,⟨⟨(hkeep bn (.inl rfl)).trans h.wait.heap.var,h.wait.heap.row.block (hkeep g (.inr (.inl rfl)))⟩,fun x hx=>hall x (h.wait.txt x hx) (h.its x hx),h.wait.ord⟩,⟨(hkeep sb (.inr (.inr rfl))).trans h.seen.obj,h.seen.born,h.seen.one,h.seen.keys⟩,fun x hx=>(h.its x hx).gone hgo,h.low⟩,⟨?_,?_,fun o ho=>?_⟩,⟨fun e=>?_,fun _ e=>?_,⟨ia,by rw [hT];exact i1,rfl,?_,?_⟩,⟨ib,by rw [hT];exact i2,rfl,?_,?_⟩⟩,hall now hn hi,hi.gone hgo,hgo,fun k hk hc=>?_⟩
  · rw [hR]
    simp only [hV,List.length_append,List.length_cons,List.length_nil]
  · have:(now.u++[r]).length=now.u.length+1:=by simp
    show TxtW W' (.slice ta' (now.u++[r]).length tc') (now.u++[r])
    rw [this]
    exact ht5
  · show (now.u++[r]).length<=1000
    simp
    omega
  · obtain ⟨b1,b2⟩:=hb5 o ho
    exact ⟨b2,by omega,by omega⟩
  · simp at e
  · have ht6:TxtW W' (.slice ta' (now.u++[r]).length tc') (now.u++[r]):=by
      have:(now.u++[r]).length=now.u.length+1:=by simp
      rw [this]
      exact ht5
    obtain ⟨bq,off,v,e2,_⟩:=ht6.cellW (by simp)
    have e':ta'=Option.none:=e
    rw [e2] at e'
    cases e'
  · rw [hT,i3]
    show der (lg ci.T ja) r=_
    rw [j3,derT_snoc]
  · rw [hT]
    refine Me.trans i4 ?_
    show derM (sz ci.T ja)<=lev ZA (now.u++[r]).length
    rw [List.length_append]
    exact derM_mono j4
  · rw [hT,i5]
    show der (lg ci.T jb) r=_
    rw [k3,derT_snoc]
  · rw [hT]
    refine Me.trans i6 ?_
    show derM (sz ci.T jb)<=lev ZB (now.u++[r]).length
    rw [List.length_append]
    exact derM_mono k4
  · by_cases hd:DY bn g sb k
    · exact hkeep k hd
    · refine hcell k hk ?_
      obtain ⟨v,hv⟩:=Option.ne_none_iff_exists'.1 hc
      rintro (e | e | e)
      · exact h.hold.mk.notMp_cell hv e
      · rw [h.hold.gone.X] at e
        exact hX _ e
      · exact hd e
end
end Go.Proofs.YtpoibdhhcbelnaaGreatDoor
namespace Go.Proofs.YtpoibdhhcbelnaaGreatDoor
open Go.Shelf Go.RowKit Go.Lib Brm
section
variable {LA LB:Lg} {ZA ZB:Me} {w:World} {c:MC} {bn sb:Nat} {W:World} {ci:MC} {q:Nat} {l:List HIt} {g cc:Nat} {Ls:List SE} {ks:Nat}
theorem DSt.turned {W':World}{l':List HIt}{g' cc':Nat}(h:DSt LA LB ZA ZB w c bn sb W ci q l g cc Ls ks){c0q:Nat}(hI:MkI w c c0q)(hw:Wait W' w.heap.size bn l' g' cc')(hb:But (fun k=>k=bn\/k=g) W W')(hg:g'=g\/W.heap.size<=g')(hi:∀ a∈l',ItOk LA LB ZA ZB ci a):DSt LA LB ZA ZB w c bn sb W' ci q l' g' cc' Ls ks:=by
  obtain ⟨n1,n2,n3⟩:=h.ne
  have hgl:=hw.heap.row.lt
  have hbl:=h.wait.heap.var.lt
  have hsz:=hb.size
  refine ⟨?_,hw,⟨(hb.block sb n3 (fun e=>by rcases e with e | e;exact n1 e.symm;exact n2 e.symm)).trans h.seen.obj,h.seen.born,h.seen.one,h.seen.keys⟩,hi,h.low⟩
  refine HoldY.turn h.hold (fun k hk=>?_) hI.seven hsz (fun k hk hn=>hb.block k hk (fun e=>hn (by rcases e with e | e;exact .inl e;exact .inr (.inl e)))) hb.os hb.tape hb.output (fun k hk=>?_)
  · rcases hk with rfl | rfl | rfl
    · exact h.low.1
    · exact h.wait.heap.row.1
    · exact h.low.2
  · rcases hk with rfl | rfl | rfl
    · exact ⟨.inl (.inl rfl),by omega⟩
    · rcases hg with rfl | e
      · exact ⟨.inl (.inr (.inl rfl)),hgl⟩
      · exact ⟨.inr e,hgl⟩
    · exact ⟨.inl (.inr (.inr rfl)),by omega⟩
theorem DSt.push (h:DSt LA LB ZA ZB w c bn sb W ci q l g cc Ls ks){c0q:Nat}(hI:MkI w c c0q){a:HIt}(ha:HTx W g bn a)(hia:ItOk LA LB ZA ZB ci a)(hl:l.length<=100000000000) :
    Calls Tryz.prog 91 #[.iface 154 (.pointer (some ⟨bn,0,none⟩)),.iface 163 (hV a)] W fun e W'=>e=.returned (.tuple #[])/\∃ l' g' cc',DSt LA LB ZA ZB w c bn sb W' ci q l' g' cc' Ls ks/\l'.Perm (a::l)/\But (fun k=>k=bn\/k=g) W W'/\(g'=g\/W.heap.size<=g'):=by
  refine (hpush_any h.wait h.low.1 a ha hl).mono ?_
  rintro e W' ⟨rfl,l',g',c',hw,hp,hb,hg⟩
  refine ⟨rfl,l',g',c',h.turned hI hw hb hg (fun x hx=>?_),hp,hb,hg⟩
  rcases List.mem_cons.1 (hp.mem_iff.1 hx) with rfl | hx
  · exact hia
  · exact h.its x hx
theorem DSt.pop (h:DSt LA LB ZA ZB w c bn sb W ci q l g cc Ls ks){c0q:Nat}(hI:MkI w c c0q)(h0:l≠[])(hl:l.length<=100000000000) :
    Calls Tryz.prog 94 #[.iface 154 (.pointer (some ⟨bn,0,none⟩))] W fun e W'=>∃ a l',e=.returned (.iface 163 (hV a))/\DSt LA LB ZA ZB w c bn sb W' ci q l' g cc Ls ks/\l.Perm (a::l')/\(∀ x∈l,ltH x a=false)/\HTx W' g bn a/\ItOk LA LB ZA ZB ci a/\But (fun k=>k=bn\/k=g) W W':=by
  refine (hpop_any h.wait h0 hl).mono ?_
  rintro e W' ⟨a,l',rfl,hw,hp,hm,hb⟩
  have ha:a∈l:=hp.mem_iff.2 (by simp)
  exact ⟨a,l',rfl,h.turned hI hw hb (.inl rfl) (fun x hx=>h.its x (hp.mem_iff.2 (by simp [hx]))),hp,hm,(h.wait.txt a ha).but hb,h.its a ha,hb⟩
theorem DSt.map {o:Obj}{Ls':List SE}{ks':Nat}(h:DSt LA LB ZA ZB w c bn sb W ci q l g cc Ls ks){c0q:Nat}(hI:MkI w c c0q)(hs:SeenW (putO W sb o) sb Ls' ks'):DSt LA LB ZA ZB w c bn sb (putO W sb o) ci q l g cc Ls' ks':=by
  obtain ⟨n1,n2,n3⟩:=h.ne
  have hoff:Off sb W (putO W sb o):=(Off.refl sb W).putO o
  have hsz:=hoff.size
  have hgl:=h.wait.heap.row.lt
  have hbl:=h.wait.heap.var.lt
  have hsame:(putO W sb o).heap.size=W.heap.size:=by show (W.heap.setIfInBounds sb o).size=_;rw [Array.size_setIfInBounds]
  refine ⟨?_,⟨⟨h.wait.heap.var.off hoff n1,h.wait.heap.row.block (hoff.block g hgl n2)⟩,fun a ha=>?_,h.wait.ord⟩,hs,h.its,h.low⟩
  · refine HoldY.turn h.hold (fun k hk=>?_) hI.seven hsz (fun k hk hn=>hoff.block k hk (fun e=>hn (.inr (.inr e)))) hoff.os hoff.tape hoff.output (fun k hk=>⟨.inl hk,?_⟩)
    · rcases hk with rfl | rfl | rfl
      · exact h.low.1
      · exact h.wait.heap.row.1
      · exact h.low.2
    · rcases hk with rfl | rfl | rfl<;>omega
  · refine (h.wait.txt a ha).turn hsz (fun p hp=>hoff.block _ ((h.wait.txt a ha).2.2 p hp).1 (fun e=>?_))
    have hs0:=h.seen.obj
    have hu:a.u≠[]:=fun e=>by have:=((h.its a ha).none e).1;rw [hp] at this;cases this
    obtain ⟨b,off,v,e2,hc⟩:=(h.wait.txt a ha).1.cellW hu
    rw [hp] at e2
    injection e2 with e2
    subst e2
    have e':b=sb:=e
    rw [<- e'] at hs0
    simp [World.cell?,hs0] at hc
theorem HTx.map {W:World}{gg bb sb:Nat}{o:Obj}{a:HIt}(h:HTx W gg bb a)(hne:a.u=[]->a.ta=none){k:Nat}{es:Array MapEntry}(hs:W.heap[sb]?=some (.map es k)):HTx (putO W sb o) gg bb a:=by
  have hoff:Off sb W (putO W sb o):=(Off.refl sb W).putO o
  refine h.turn hoff.size (fun p hp=>hoff.block _ (h.2.2 p hp).1 (fun e=>?_))
  have hu:a.u≠[]:=fun e=>by have:=hne e;rw [hp] at this;cases this
  obtain ⟨b,off,v,e2,hc⟩:=h.1.cellW hu
  rw [hp] at e2
  injection e2 with e2
  subst e2
  have e':b=sb:=e
  rw [<- e'] at hs
  simp [World.cell?,hs] at hc
end
def Wt (A:Nat):Nat->Nat
  | 0=>1
  | d+1=>1+A*Wt A d
def Wc (A:Nat)(cost:Nat->Nat)(n:Nat):Nat->Nat
  | 0=>0
  | d+1=>A*(cost (n-(d+1))+Wc A cost n d)
theorem sumA_perm {α:Type}(f:α->Nat){l m:List α}(h:l.Perm m):sumA f l=sumA f m:=by
  induction h with
  | nil=>rfl
  | cons x _ ih=>simp only [sumA,ih]
  | swap x y l=>simp only [sumA];omega
  | trans _ _ ih1 ih2=>exact ih1.trans ih2
theorem sumA_len {α:Type}(f:α->Nat):∀ (l:List α),(∀ a∈l,1<=f a)->l.length<=sumA f l
  | [],_=>Nat.zero_le _
  | a::l,h=>by
    simp only [sumA,List.length_cons]
    have:=h a (by simp)
    have:=sumA_len f l (fun b hb=>h b (by simp [hb]))
    omega
theorem Wt_pos (A d:Nat):1<=Wt A d:=by
  cases d with
  | zero=>exact Nat.le_refl _
  | succ d=>simp only [Wt];omega
end Go.Proofs.YtpoibdhhcbelnaaGreatDoor
namespace Go.Proofs.YtpoibdhhcbelnaaGreatDoor
open Go.Shelf Go.RowKit Go.Lib Brm
def Dif (LA LB:Lg):List Int->Prop:=fun t=>¬ (LA t↔LB t)
def costK (ZA ZB:Me)(k:Nat):Nat:=costM (lev ZA k)+costM (lev ZB k)
def potC (Al:List Int)(ZA ZB:Me)(n:Nat)(l:List HIt):Nat:=sumA (fun a:HIt=>Wc Al.length (costK ZA ZB) n (n-a.u.length)) l
def potW (Al:List Int)(n:Nat)(l:List HIt):Nat:=sumA (fun a:HIt=>Wt Al.length (n-a.u.length)) l
structure SeenOk (LA LB:Lg)(ci:MC)(old:List (List Int))(Ls:List SE):Prop where
  at_:∀ p:Int×Int,0<cnt Ls p->∃ t∈old,∃ ja jb:Nat,p=((ja:Int),(jb:Int))/\ja<ci.T.length/\jb<ci.T.length/\lg ci.T ja=derT LA t/\lg ci.T jb=derT LB t
  num:∀ p,0<=cnt Ls p/\cnt Ls p<=old.length
theorem SeenOk.gone {LA LB:Lg}{ci c':MC}{old:List (List Int)}{Ls:List SE}{W W':World}(h:SeenOk LA LB ci old Ls)(k:Gone W ci W' c'):SeenOk LA LB c' old Ls:=by
  refine ⟨fun p hp=>?_,h.num⟩
  obtain ⟨t,t1,ja,jb,t2,t3,t4,t5,t6⟩:=h.at_ p hp
  have:=k.len
  exact ⟨t,t1,ja,jb,t2,by omega,by omega,by rw [k.lang t3];exact t5,by rw [k.lang t4];exact t6⟩
theorem SeenOk.add {LA LB:Lg}{ci:MC}{old:List (List Int)}{Ls Ls':List SE}(h:SeenOk LA LB ci old Ls){t:List Int}{ja jb:Nat}(ha:ja<ci.T.length)(hb:jb<ci.T.length)(la:lg ci.T ja=derT LA t)(lb:lg ci.T jb=derT LB t)(hc:∀ q,cnt Ls' q=if q=((ja:Int),(jb:Int)) then cnt Ls ((ja:Int),(jb:Int))+1 else cnt Ls q):SeenOk LA LB ci (t::old) Ls':=by
  refine ⟨fun p hp=>?_,fun p=>?_⟩
  · rw [hc] at hp
    by_cases e:p=((ja:Int),(jb:Int))
    · exact ⟨t,by simp,ja,jb,e,ha,hb,la,lb⟩
    · rw [if_neg e] at hp
      obtain ⟨s,s1,r⟩:=h.at_ p hp
      exact ⟨s,by simp [s1],r⟩
  · rw [hc]
    have h1:=h.num p
    have h2:=h.num ((ja:Int),(jb:Int))
    simp only [List.length_cons]
    split<;>omega
section
variable {LA LB:Lg} {ZA ZB:Me} {w:World} {c:MC} {bn sb:Nat} {Al:List Int} {n:Nat}
def DOut (LA LB:Lg)(ZA ZB:Me)(w:World)(c:MC)(bn sb:Nat)(Al:List Int)(n k:Nat)(W:World):Prop:=∃ ci q l g cc Ls ks old,DSt LA LB ZA ZB w c bn sb W ci q l g cc Ls ks/\SrI (Dif LA LB) Al n old (l.map (·.u))/\SeenOk LA LB ci old Ls/\q+potC Al ZA ZB n l<=9000000000000000000/\potW Al n l<=k/\old.length+k<=100000000000
theorem potW_len (l:List HIt):l.length<=potW Al n l:=sumA_len _ l (fun _ _=>Wt_pos _ _)
theorem wc_step {A:Nat}{cost:Nat->Nat}{k:Nat}(h:k<n):Wc A cost n (n-k)=A*(cost k+Wc A cost n (n-(k+1))):=by
  obtain ⟨d,hd⟩:∃ d,n-k=d+1:=⟨n-k-1,by omega⟩
  rw [hd]
  simp only [Wc]
  rw [show n-(d+1)=k by omega,show n-(k+1)=d by omega]
theorem wt_step {A:Nat}{k:Nat}(h:k<n):Wt A (n-k)=1+A*Wt A (n-(k+1)):=by
  obtain ⟨d,hd⟩:∃ d,n-k=d+1:=⟨n-k-1,by omega⟩
  rw [hd]
  simp only [Wt]
  rw [show n-(k+1)=d by omega]
theorem ends_iff {ci:MC}{L:Lg}{u:List Int}{j:Nat}(h:lg ci.T j=derT L u):lg ci.T j []↔L u:=by
  rw [h]
  show L (u++[])↔L u
  rw [List.append_nil]
structure DNow (LA LB:Lg)(ZA ZB:Me)(w:World)(c:MC)(bn sb:Nat)(Al:List Int)(n k:Nat)(W:World)(ci:MC)(q:Nat)(l':List HIt)(g cc:Nat)(Ls:List SE)(ks:Nat)(old:List (List Int))(now:HIt)(wait:List (List Int)):Prop where
  st:DSt LA LB ZA ZB w c bn sb W ci q l' g cc Ls ks
  txt:HTx W g bn now
  it:ItOk LA LB ZA ZB ci now
  sr:SrI (Dif LA LB) Al n old wait
  pm:wait.Perm (now.u::l'.map (·.u))
  min:∀ x∈wait,lessT x now.u=false
  seen:SeenOk LA LB ci old Ls
  pc:q+Wc Al.length (costK ZA ZB) n (n-now.u.length)+potC Al ZA ZB n l'<=9000000000000000000
  pw:Wt Al.length (n-now.u.length)+potW Al n l'<=k
  lo:old.length+k<=100000000000
variable {k:Nat} {W:World} {ci:MC} {q:Nat} {l l':List HIt} {g cc:Nat} {Ls:List SE} {ks:Nat} {old:List (List Int)} {now:HIt} {wait:List (List Int)}
theorem DNow.below {W':World}(h:DNow LA LB ZA ZB w c bn sb Al n k W ci q l' g cc Ls ks old now wait)(hb:Below W.heap.size W W'):DNow LA LB ZA ZB w c bn sb Al n k W' ci q l' g cc Ls ks old now wait :=
  ⟨h.st.below hb,h.txt.but (But.below hb),h.it,h.sr,h.pm,h.min,h.seen,h.pc,h.pw,h.lo⟩
theorem DOut.pop (h:DSt LA LB ZA ZB w c bn sb W ci q l g cc Ls ks){c0q:Nat}(hI:MkI w c c0q)(hs:SrI (Dif LA LB) Al n old (l.map (·.u)))(hn:SeenOk LA LB ci old Ls)(hc:q+potC Al ZA ZB n l<=9000000000000000000)(hk:potW Al n l<=k)(ho:old.length+k<=100000000000)(h0:l≠[]) :
    Calls Tryz.prog 94 #[.iface 154 (.pointer (some ⟨bn,0,none⟩))] W fun e W'=>∃ a l',e=.returned (.iface 163 (hV a))/\DNow LA LB ZA ZB w c bn sb Al n k W' ci q l' g cc Ls ks old a (l.map (·.u)):=by
  have hlen:=potW_len (Al:=Al) (n:=n) l
  refine (h.pop hI h0 (by omega)).mono ?_
  rintro e W' ⟨a,l',rfl,h1,h2,h3,h4,h5,h6⟩
  refine ⟨a,l',rfl,h1,h4,h5,hs,h2.map _,fun x hx=>?_,hn,?_,?_,ho⟩
  · obtain ⟨y,hy,rfl⟩:=List.mem_map.1 hx
    exact h3 y hy
  · unfold potC at hc ⊢
    rw [sumA_perm _ h2] at hc
    simp only [sumA] at hc
    omega
  · unfold potW at hk ⊢
    rw [sumA_perm _ h2] at hk
    simp only [sumA] at hk
    omega
theorem DNow.len (h:DNow LA LB ZA ZB w c bn sb Al n k W ci q l' g cc Ls ks old now wait):now.u.length<=n:=h.sr.len _ (h.pm.mem_iff.2 (by simp))
theorem DNow.found (h:DNow LA LB ZA ZB w c bn sb Al n k W ci q l' g cc Ls ks old now wait)(hd:Dif LA LB now.u):LeastT (Dif LA LB) n now.u:=sr_found h.sr (h.pm.mem_iff.2 (by simp)) h.min hd
theorem DNow.skip {Ls':List SE}{ks':Nat}{W':World}(h:DNow LA LB ZA ZB w c bn sb Al n k W ci q l' g cc Ls ks old now wait)(hst:DSt LA LB ZA ZB w c bn sb W' ci q l' g cc Ls' ks')(hs:SeenOk LA LB ci (now.u::old) Ls')(hno:now.u ∉ old->∀ m z,LeastT (Dif LA LB) n m->m≠now.u++z):0<k/\DOut LA LB ZA ZB w c bn sb Al n (k-1) W':=by
  have hw:=Wt_pos Al.length (n-now.u.length)
  have hpw:=h.pw
  have hpc:=h.pc
  have hlo:=h.lo
  refine ⟨by omega,ci,q,l',g,cc,Ls',ks',now.u::old,hst,sr_drop h.sr h.pm h.min hno,hs,by omega,by omega,by simp only [List.length_cons];omega⟩
theorem now_same {n:Nat}{now:HIt}{LA LB:Lg}(he:derT LA now.u=derT LB now.u):∀ m z,LeastT (Dif LA LB) n m->m≠now.u++z:=sr_same (fun z hz=>hz (by
  have:=congrFun he z
  show LA (now.u++z)↔LB (now.u++z)
  exact Iff.of_eq this))
theorem DNow.again (h:DNow LA LB ZA ZB w c bn sb Al n k W ci q l' g cc Ls ks old now wait){ja jb:Nat}(la:lg ci.T ja=derT LA now.u)(lb:lg ci.T jb=derT LB now.u)(hc:0<cnt Ls ((ja:Int),(jb:Int))):now.u ∉ old->∀ m z,LeastT (Dif LA LB) n m->m≠now.u++z:=fun hno=>by
  obtain ⟨t,t1,ja',jb',e,_,_,ta,tb⟩:=h.seen.at_ _ hc
  injection e with e1 e2
  have e3:ja=ja':=by omega
  have e4:jb=jb':=by omega
  subst e3 e4
  refine sr_seen h.sr (h.pm.mem_iff.2 (by simp)) t1 (fun z _=>?_) hno
  have h1:derT LA t z=derT LA now.u z:=by rw [<- ta,la]
  have h2:derT LB t z=derT LB now.u z:=by rw [<- tb,lb]
  show ¬ (LA (t++z)↔LB (t++z))↔¬ (LA (now.u++z)↔LB (now.u++z))
  have e5:LA (t++z)=LA (now.u++z):=h1
  have e6:LB (t++z)=LB (now.u++z):=h2
  rw [e5,e6]
def DIn (LA LB:Lg)(ZA ZB:Me)(w:World)(c:MC)(bn sb:Nat)(Al:List Int)(n:Nat)(Ls:List SE)(ks:Nat)(old:List (List Int))(now:HIt)(l':List HIt)(U:Nat)(i:Nat)(W:World):Prop:=∃ ci q l g cc,U≠g/\DSt LA LB ZA ZB w c bn sb W ci q l g cc Ls ks/\HTx W g bn now/\ItOk LA LB ZA ZB ci now/\SeenOk LA LB ci (now.u::old) Ls/\(∃ ch:List HIt,l.Perm (ch++l')/\(ch.map (·.u)).Perm ((Al.take i).map (fun r=>now.u++[r])))/\q+(Al.length-i)*(costK ZA ZB now.u.length+Wc Al.length (costK ZA ZB) n (n-(now.u.length+1)))+potC Al ZA ZB n l<=9000000000000000000
theorem sumA_append {α:Type}(f:α->Nat):∀ l m:List α,sumA f (l++m)=sumA f l+sumA f m
  | [],m=>by simp [sumA]
  | a::l,m=>by simp only [List.cons_append,sumA,sumA_append f l m];omega
theorem sumA_const {α:Type}{f:α->Nat}{v:Nat}:∀ {l:List α},(∀ a∈l,f a=v)->sumA f l=l.length*v
  | [],_=>by simp [sumA]
  | a::l,h=>by
    simp only [sumA,List.length_cons,h a (by simp),sumA_const (l:=l) (fun b hb=>h b (by simp [hb])),Nat.succ_mul]
    omega
theorem DIn.start {Ls':List SE}{ks':Nat}{W':World}(h:DNow LA LB ZA ZB w c bn sb Al n k W ci q l' g cc Ls ks old now wait)(hst:DSt LA LB ZA ZB w c bn sb W' ci q l' g cc Ls' ks')(ht:HTx W' g bn now)(hs:SeenOk LA LB ci (now.u::old) Ls')(hl:now.u.length<n){U:Nat}(hU:U≠g):DIn LA LB ZA ZB w c bn sb Al n Ls' ks' old now l' U 0 W':=by
  have hpc:=h.pc
  rw [wc_step hl] at hpc
  exact ⟨ci,q,l',g,cc,hU,hst,ht,h.it,hs,⟨[],by simp,by simp⟩,by rw [Nat.sub_zero];exact hpc⟩
theorem DIn.push {q1:Nat}{a:HIt}{g' cc':Nat}{l2:List HIt}{W1:World}{i:Nat}{r:Int}(hi:Al[i]?=some r)(hst:DSt LA LB ZA ZB w c bn sb W1 ci q1 l2 g' cc' Ls ks)(ht:HTx W1 g' bn now)(hit:ItOk LA LB ZA ZB ci now)(hs:SeenOk LA LB ci (now.u::old) Ls)(hch:∃ ch:List HIt,l.Perm (ch++l')/\(ch.map (·.u)).Perm ((Al.take i).map (fun r=>now.u++[r])))(hp:l2.Perm (a::l))(ha:a.u=now.u++[r])(hq:q1=q+costK ZA ZB now.u.length)(hpc:q+(Al.length-i)*(costK ZA ZB now.u.length+Wc Al.length (costK ZA ZB) n (n-(now.u.length+1)))+potC Al ZA ZB n l<=9000000000000000000){U:Nat}(hU:U≠g'):DIn LA LB ZA ZB w c bn sb Al n Ls ks old now l' U (i+1) W1:=by
  obtain ⟨ch,c1,c2⟩:=hch
  have hil:i<Al.length:=(List.getElem?_eq_some_iff.1 hi).1
  refine ⟨ci,q1,l2,g',cc',hU,hst,ht,hit,hs,⟨a::ch,hp.trans (c1.cons a),?_⟩,?_⟩
  · rw [take_snocL hi,List.map_append,List.map_cons,ha]
    exact ((List.Perm.cons _ c2).trans (List.perm_append_singleton _ _).symm)
  · have e1:potC Al ZA ZB n l2=Wc Al.length (costK ZA ZB) n (n-(now.u.length+1))+potC Al ZA ZB n l:=by
      unfold potC
      rw [sumA_perm _ hp]
      simp only [sumA,ha,List.length_append,List.length_cons,List.length_nil]
    obtain ⟨d,hd⟩:∃ d,Al.length-i=d+1:=⟨Al.length-i-1,by omega⟩
    rw [e1,hq,show Al.length-(i+1)=d by omega]
    rw [hd,Nat.succ_mul] at hpc
    omega
theorem DIn.done {Ls0:List SE}{ks0:Nat}{W1:World}(h:DNow LA LB ZA ZB w c bn sb Al n k W ci q l' g cc Ls0 ks0 old now wait)(hd:¬ Dif LA LB now.u)(hl:now.u.length<n)(hA:∀ r∈Al,runeB r=true)(hAl:∀ m,LeastT (Dif LA LB) n m->∀ r∈m,r∈Al){U:Nat}(hin:DIn LA LB ZA ZB w c bn sb Al n Ls ks old now l' U Al.length W1):0<k/\DOut LA LB ZA ZB w c bn sb Al n (k-1) W1:=by
  obtain ⟨ci1,q1,l1,g1,cc1,_,hst,ht,hit,hs,⟨ch,c1,c2⟩,hpc⟩:=hin
  rw [List.take_length] at c2
  have hpw:=h.pw
  have hlo:=h.lo
  rw [wt_step hl] at hpw
  have hchu:∀ a∈ch,a.u.length=now.u.length+1:=fun a ha=>by
    have:=c2.mem_iff.1 (List.mem_map.2 ⟨a,ha,rfl⟩)
    obtain ⟨r,_,e⟩:=List.mem_map.1 this
    rw [<- e];simp
  have hchl:ch.length=Al.length:=by have:=c2.length_eq;simpa using this
  have e1:potW Al n l1=Al.length*Wt Al.length (n-(now.u.length+1))+potW Al n l':=by
    unfold potW
    rw [sumA_perm _ c1,sumA_append,sumA_const (v:=Wt Al.length (n-(now.u.length+1))) (fun a ha=>by rw [hchu a ha]),hchl]
  refine ⟨by omega,ci1,q1,l1,g1,cc1,Ls,ks,now.u::old,hst,?_,hs,by omega,by omega,by simp only [List.length_cons];omega⟩
  refine sr_grow h.sr h.pm h.min hd (by omega) hA hAl ?_
  refine (c1.map _).trans ?_
  rw [List.map_append]
  exact c2.append_right _
end
end Go.Proofs.YtpoibdhhcbelnaaGreatDoor
namespace Go.Proofs.YtpoibdhhcbelnaaGreatDoor
open Go.Shelf Go.RowKit Go.Lib Go.Sort Brm
def PNx (w:World)(A:Nat->Prop)(p:Pat)(b:Nat):Prop:=A b/\∃ x v0 v1 v2 v3 v4 ex tt,Blk w b ([v0,v1,v2,v3,v4]++ex) tt/\A x/\Blk w x [v0,v1,v2,v3,v4] 76/\PN w A p x
theorem PNx.keep {A:Nat->Prop}{w w':World}(k:Keeps A w w'){p:Pat}{b:Nat}(h:PNx w A p b):PNx w' A p b:=by
  obtain ⟨ha,x,v0,v1,v2,v3,v4,ex,tt,hB,hx,hX,hN⟩:=h
  exact ⟨ha,x,v0,v1,v2,v3,v4,ex,tt,hB.keep k ha,hx,hX.keep k hx,PN.keep k p x hN⟩
theorem PNx.mono {A A':Nat->Prop}{w:World}{p:Pat}{b:Nat}(h:PNx w A p b)(k:∀ g,g<w.heap.size->A g->A' g):PNx w A' p b:=by
  obtain ⟨ha,x,v0,v1,v2,v3,v4,ex,tt,hB,hx,hX,hN⟩:=h
  exact ⟨k _ hB.lt ha,x,v0,v1,v2,v3,v4,ex,tt,hB,k _ hX.lt hx,hX,PN.mono k p x hN⟩
theorem five_eq {w:World}{x:Nat}{v0 v1 v2 v3 v4 u0 u1 u2 u3 u4:Value}(h:Blk w x [v0,v1,v2,v3,v4] 76)(k:Blk w x [u0,u1,u2,u3,u4] 76):v0=u0/\v1=u1/\v2=u2/\v3=u3/\v4=u4:=by
  have e:some (Obj.cells #[v0,v1,v2,v3,v4] 76)=some (Obj.cells #[u0,u1,u2,u3,u4] 76):=Eq.trans (Eq.symm h) k
  simpa using e
def OfOkx (p:Pat):Prop:=∀ (w:World) (c:MC) (q b:Nat) (A:Nat->Prop),MkI w c q->PowT w->PNx w A p b->(∀ g,A g->g<w.heap.size/\¬ c.S g)->q+p.co<=9000000000000000000->p.me.z<=3000000000000 ->
  Calls Tryz.prog 92 #[PtrB c.m,PtrB b] w (GivesL w c (q+p.co) p.Mt p.me)
mutual
theorem of_allx:∀ (p:Pat),p.Ok->p.rg<=400000->OfOkx p
  | .set s,h,hr=>by
    intro w c q b A hI hP hN hA hq hz
    obtain ⟨hb,x,v0,v1,v2,v3,v4,ex,tt,hB,_,hX,hN⟩:=hN
    obtain ⟨_,sv,hnb,hs⟩:=hN
    obtain ⟨rfl,rfl,rfl,rfl,rfl⟩:=five_eq hX hnb
    exact ofp_set (ex:=ex) (tt:=tt) (xs:=[]) (fun p hp=>by simp at hp) hI hP hA hb hB ⟨⟨rfl,.inl ⟨rfl,rfl⟩⟩,fun g hg=>by simp [Value.ownBlock] at hg⟩ rfl (fun p hp=>by simp at hp) hs h hr hq
  | .row l,h,hr=>by
    have ih:=of_allL l h hr
    intro w c q b A hI hP hN hA hq hz
    obtain ⟨hb,x,v0,v1,v2,v3,v4,ex,tt,hB,_,hX,hN⟩:=hN
    obtain ⟨_,h100,lv,xs,hnb,ho,hL⟩:=hN
    obtain ⟨rfl,rfl,rfl,rfl,rfl⟩:=five_eq hX hnb
    exact ofp_row (ex:=ex) (tt:=tt) ih hI hP hA hb hB ho hL h100 (fun p hp=>Nat.le_trans ((row_z (meL l) (meL_one l)).1 p.me (mem_meL hp)) hz) hq
  | .or l,h,hr=>by
    have ih:=of_allL l h.1 hr
    have ihx:=of_allxL l h.1 hr
    intro w c q b A hI hP hN hA hq hz
    have hzz:∀ p∈l,p.me.z<=3000000000000:=fun p hp=>Nat.le_trans (or_z (mem_meL hp)) hz
    obtain ⟨hb,x,v0,v1,v2,v3,v4,ex,tt,hB,hx,hX,hN⟩:=hN
    obtain ⟨h100,xs,hL,⟨h1,rfl⟩ | ⟨hn,_,lv,hnb,ho⟩⟩:=hN
    · obtain ⟨p,rfl⟩:=List.length_eq_one_iff.1 h1
      obtain ⟨x',r,e,hp,_⟩:=hL
      cases e
      have hco:(Pat.or [p]).co=p.co+1:=by simp [Pat.co,coL]
      refine (ihx p (by simp) w c q b A hI hP ⟨hb,x,v0,v1,v2,v3,v4,ex,tt,hB,hx,hX,hp⟩ hA (by omega) (hzz p (by simp))).mono ?_
      rintro r9 w9 ⟨c9,j9,rfl,hI9,hG9,hj9,hL9,hZ9⟩
      refine ⟨c9,j9,rfl,hI9.more (by omega),hG9,hj9,?_,Me.trans hZ9 ?_⟩
      · rw [hL9]
        funext u
        show _=MtOr [p] u
        simp [MtOr]
      · refine ⟨?_,?_,?_,?_⟩<;>simp only [Pat.me,meL,orA,maxA,sumA]<;>omega
    · obtain ⟨rfl,rfl,rfl,rfl,rfl⟩:=five_eq hX hnb
      exact ofp_or (ex:=ex) (tt:=tt) ih hI hP hA hb hB ho hL h100 hzz hz hq
  | .and l,h,hr=>by
    have ih:=of_allL l h.1 hr
    have ihx:=of_allxL l h.1 hr
    intro w c q b A hI hP hN hA hq hz
    have hzz:∀ p∈l,p.me.z<=3000000000000:=fun p hp=>Nat.le_trans (show (notM p.me).z<=(orA ((meL l).map notM)).z from or_z (List.mem_map_of_mem (mem_meL hp))) hz
    obtain ⟨hb,x,v0,v1,v2,v3,v4,ex,tt,hB,hx,hX,hN⟩:=hN
    obtain ⟨h100,xs,hL,⟨h1,rfl⟩ | ⟨hn,_,lv,hnb,ho⟩⟩:=hN
    · obtain ⟨p,rfl⟩:=List.length_eq_one_iff.1 h1
      obtain ⟨x',r,e,hp,_⟩:=hL
      cases e
      have hco:(Pat.and [p]).co=p.co+1+2:=by simp [Pat.co,coL]
      refine (ihx p (by simp) w c q b A hI hP ⟨hb,x,v0,v1,v2,v3,v4,ex,tt,hB,hx,hX,hp⟩ hA (by omega) (hzz p (by simp))).mono ?_
      rintro r9 w9 ⟨c9,j9,rfl,hI9,hG9,hj9,hL9,hZ9⟩
      refine ⟨c9,j9,rfl,hI9.more (by omega),hG9,hj9,?_,Me.trans hZ9 ?_⟩
      · rw [hL9]
        funext u
        show _=MtAnd [p] u
        simp [MtAnd]
      · refine ⟨?_,?_,?_,?_⟩<;>simp only [Pat.me,meL,orA,maxA,sumA,notM,List.map_cons,List.map_nil]<;>omega
    · obtain ⟨rfl,rfl,rfl,rfl,rfl⟩:=five_eq hX hnb
      exact ofp_and (ex:=ex) (tt:=tt) ih hI hP hA hb hB ho hL h100 hzz hz hq
  | .not p,h,hr=>by
    have ih:=of_all p h hr
    intro w c q b A hI hP hN hA hq hz
    obtain ⟨hb,x,v0,v1,v2,v3,v4,ex,tt,hB,_,hX,hN⟩:=hN
    obtain ⟨_,lv,x',hnb,ho,hp⟩:=hN
    obtain ⟨rfl,rfl,rfl,rfl,rfl⟩:=five_eq hX hnb
    exact ofp_not (ex:=ex) (tt:=tt) (l:=[p]) (xs:=[x']) (fun p' hp'=>by simp at hp';subst hp';exact ih) hI hP hA hb hB (own_oneQ ho) ⟨x',[],rfl,hp,rfl⟩ (by simp) (fun p' hp'=>by simp at hp';subst hp';exact hz) rfl hq
  | .many p m n,h,hr=>by
    have ih:=of_all p h.1 hr
    intro w c q b A hI hP hN hA hq hz
    obtain ⟨hb,x,v0,v1,v2,v3,v4,ex,tt,hB,_,hX,hN⟩:=hN
    obtain ⟨_,lv,x',hnb,ho,hp⟩:=hN
    obtain ⟨rfl,rfl,rfl,rfl,rfl⟩:=five_eq hX hnb
    exact ofp_many (ex:=ex) (tt:=tt) (l:=[p]) (xs:=[x']) (fun p' hp'=>by simp at hp';subst hp';exact ih) hI hP hA hb hB (own_oneQ ho) ⟨x',[],rfl,hp,rfl⟩ (by simp) (fun p' hp'=>by simp at hp';subst hp';exact Nat.le_trans (Nat.le_succ _) hz) rfl h.2 hq
  | .group p,h,hr=>by
    have ih:=of_all p h hr
    intro w c q b A hI hP hN hA hq hz
    obtain ⟨hb,x,v0,v1,v2,v3,v4,ex,tt,hB,_,hX,hN⟩:=hN
    obtain ⟨_,lv,x',hnb,ho,hp⟩:=hN
    obtain ⟨rfl,rfl,rfl,rfl,rfl⟩:=five_eq hX hnb
    exact ofp_group (ex:=ex) (tt:=tt) (l:=[p]) (xs:=[x']) (fun p' hp'=>by simp at hp';subst hp';exact ih) hI hP hA hb hB (own_oneQ ho) ⟨x',[],rfl,hp,rfl⟩ (by simp) (fun p' hp'=>by simp at hp';subst hp';exact hz) rfl hq
theorem of_allxL:∀ (l:List Pat),OkL l->rgL l<=400000->∀ p∈l,OfOkx p
  | [],_,_=>fun p h=>by cases h
  | q::l,hk,hr=>by
    simp only [rgL] at hr
    have hq:=of_allx q hk.1 (by omega)
    have hl:=of_allxL l hk.2 (by omega)
    intro p h
    rcases List.mem_cons.1 h with rfl | h
    · exact hq
    · exact hl p h
end
theorem node_x {p:Pat}(hp:p.Ok){w:World}{A:Nat->Prop}{b:Nat}(h:PNx w A p b)(hA:∀ g,A g->g<w.heap.size)(hc:p.cl.length<=50000):∃ l Cp,NodeG w b l Cp/\(cutsR l++Cp).length<=p.cl.length/\∀ x,x∈cutsR l++Cp↔x∈p.cl:=by
  obtain ⟨hb,x,v0,v1,v2,v3,v4,ex,tt,hB,hx,hX,hN⟩:=h
  obtain ⟨l,Cp,h1,h2⟩:=node_all p hp w A x hN hA hc
  refine ⟨l,Cp,?_,h2⟩
  have b1:w.cell? ⟨b,1,none⟩=some v1:=hB.cell 1
  have b2:w.cell? ⟨b,2,none⟩=some v2:=hB.cell 2
  have x1:w.cell? ⟨x,1,none⟩=some v1:=hX.cell 1
  have x2:w.cell? ⟨x,2,none⟩=some v2:=hX.cell 2
  obtain ⟨⟨la,lc,s1,s2⟩,g2,⟨lv,l1,l2⟩,g4⟩:=h1
  exact ⟨⟨la,lc,b1.trans (x1.symm.trans s1),s2⟩,g2,⟨lv,b2.trans (x2.symm.trans l1),l2⟩,hB.lt⟩
theorem firsts_twox {w:World}{A:Nat->Prop}{p q:Pat}{a b:Nat}(hp:p.Ok)(hq:q.Ok)(hA:∀ g,A g->g<w.heap.size)(hN:PNx w A p a)(hM:PNx w A q b)(hc:p.cl.length+q.cl.length<=40000)(g:Nat)(hg:w.cell? ⟨g,0,none⟩=some (Ptr a))(hg1:w.cell? ⟨g,1,none⟩=some (Ptr b))(hgl:g<w.heap.size) :
    Calls Tryz.prog 90 #[.slice (some ⟨g,0,none⟩) 2 2] w (FirstsC (0::(p.cl++q.cl)) w):=by
  obtain ⟨s,Cp,h1,h2,h3⟩:=node_x hp hN hA (by omega)
  obtain ⟨t,Dp,k1,k2,k3⟩:=node_x hq hM hA (by omega)
  refine (firsts_all (some ⟨g,0,none⟩) 2 [a,b] [(s,Cp),(t,Dp)] w ?_ ?_ rfl (by simp) ?_).mono fun e w' h=>h.same fun x=>?_
  · intro j x hx
    match j,hx with
    | 0,hx=>simp at hx;subst hx;exact ⟨g,0,rfl,hgl,hg⟩
    | 1,hx=>simp at hx;subst hx;exact ⟨g,0,rfl,hgl,hg1⟩
  · intro i x hx
    match i,hx with
    | 0,hx=>simp at hx;subst hx;exact ⟨(s,Cp),rfl,h1⟩
    | 1,hx=>simp at hx;subst hx;exact ⟨(t,Dp),rfl,k1⟩
  · simp only [List.flatMap_cons,List.flatMap_nil,List.append_nil,List.length_cons,List.length_append,nodeC] at h2 k2 ⊢
    omega
  · simp only [List.flatMap_cons,List.flatMap_nil,List.append_nil,List.mem_cons,List.mem_append,nodeC] at h3 k3 ⊢
    rw [h3,k3]
end Go.Proofs.YtpoibdhhcbelnaaGreatDoor
namespace Go.Proofs.YtpoibdhhcbelnaaGreatDoor
open Go.Shelf Go.RowKit Go.Lib Brm
theorem of_hold {w W:World}{c ci:MC}{q c0q:Nat}{Y:Nat->Prop}{p:Pat}{b:Nat}{A:Nat->Prop}(hp:p.Ok)(hr:p.rg<=400000)(h:HoldY w c W ci q Y)(hI:MkI w c c0q)(hP:PowT w)(hN:PNx w A p b)(hA:∀ g,A g->g<w.heap.size/\¬ c.S g)(hY:∀ g,Y g->w.heap.size<=g)(hq:q+p.co<=9000000000000000000)(hz:p.me.z<=3000000000000) :
    Calls Tryz.prog 92 #[PtrB c.m,PtrB b] W fun e W'=>∃ ci' j,e=.returned (PtrB (ci'.R j))/\HoldY w c W' ci' (q+p.co) Y/\Gone W ci W' ci'/\j<ci'.T.length/\lg ci'.T j=p.Mt/\sz ci'.T j<=p.me/\∀ g,Y g->W'.heap[g]?=W.heap[g]?:=by
  have hs:=h.gone.but.size
  have hcall:=of_allx p hp hr W (ci.wY Y) q b A h.mk (h.gone.pow hI hP) (hN.keep (h.gone.keeps hA)) (fun g hg=>by
    obtain ⟨h1,h2⟩:=hA g hg
    refine ⟨by omega,?_⟩
    have h3:=h.gone.notS h1 h2
    rintro (e | e | e)
    · exact h3 (.inl e)
    · exact h3 (.inr e)
    · have:=hY g e;omega) hq hz
  have hm:(ci.wY Y).m=c.m:=h.gone.m
  rw [hm] at hcall
  exact hcall.mono fun e W' hg=>HoldY.call h hg
theorem dst_init {w W:World}{c ci:MC}{q:Nat}{LA LB:Lg}{ZA ZB:Me}{b0 bn sb:Nat}(h:HoldY w c W ci q (DY bn b0 sb))(h0:Blk W b0 [] 163)(hn:Blk W bn [.slice (some ⟨b0,0,none⟩) 0 0] 156)(hs:W.heap[sb]?=some (.map #[] 0))(l1:w.heap.size<=b0)(l2:w.heap.size<=bn)(l3:w.heap.size<=sb):DSt LA LB ZA ZB w c bn sb W ci q [] b0 0 [] 0 where
  hold:=h
  wait:=⟨⟨hn,l1,Nat.le_refl _,Nat.zero_le _,[],h0,rfl⟩,fun a ha=>by simp at ha,fun k h1 h2=>by simp at h2⟩
  seen:=⟨hs,fun t ht=>by simp at ht,by simp,by simp⟩
  its:=fun a ha=>by simp at ha
  low:=⟨l2,l3⟩
theorem hold_init {w W:World}{c:MC}{q:Nat}(hI:MkI w c q)(hb:Below w.heap.size w W){b0 bn sb:Nat}(l1:w.heap.size<=b0/\b0<W.heap.size)(l2:w.heap.size<=bn/\bn<W.heap.size)(l3:w.heap.size<=sb/\sb<W.heap.size):HoldY w c W c q (DY bn b0 sb):=by
  refine HoldY.turn (HoldX.start hI) (fun g hg=>by cases hg) hI.seven hb.size (fun g hg _=>hb.block g hg) hb.os hb.tape hb.output (fun g hg=>?_)
  rcases hg with rfl | rfl | rfl
  · exact ⟨.inr l2.1,l2.2⟩
  · exact ⟨.inr l1.1,l1.2⟩
  · exact ⟨.inr l3.1,l3.2⟩
theorem seen_inc {V:World}{sb ks:Nat}{Ls:List SE}(h:SeenW V sb Ls ks)(p:Int×Int):∃ (o1 o2:Obj) (st:Nat),
    (Instr.lookup 157 (.map (some sb)) (kV p) false).run Tryz.prog V=.ok (.int .i64 (cnt Ls p)) V /\
    (Instr.mapEntry 157 (.map (some sb)) (kV p)).run Tryz.prog V=.ok (.tuple #[.int .i64 (cnt Ls p),goInt (st:Int)]) (putO V sb o1) /\
    (Instr.lookup 157 (.map (some sb)) (kV p) false).run Tryz.prog (putO V sb o1)=.ok (.int .i64 (cnt Ls p)) (putO V sb o1) /\
    (Instr.entryStore 157 (.map (some sb)) (goInt (st:Int)) (.int .i64 (cnt Ls p+1))).run Tryz.prog (putO V sb o1)=.ok () (putO (putO V sb o1) sb o2) /\
    (∃ Ls1 ks1,SeenW (putO V sb o1) sb Ls1 ks1)/\∃ Ls' ks',SeenW (putO (putO V sb o1) sb o2) sb Ls' ks'/\∀ q,cnt Ls' q=if q=p then cnt Ls p+1 else cnt Ls q:=by
  obtain ⟨L1,k1,st,e1,e2,e3⟩:=h.entry p
  obtain ⟨L2,f1,f2,f3⟩:=e2.store (cnt Ls p+1)
  have g1:=e2.map.look p
  rw [e3 p] at g1
  refine ⟨_,_,st,h.look p,e1,g1,f1,⟨L1,k1,e2.map⟩,L2,k1,f2,fun q=>?_⟩
  rw [f3 q,e3 q]
theorem now_counted {LA LB:Lg}{ZA ZB:Me}{w:World}{c:MC}{bn sb:Nat}{Al:List Int}{n k:Nat}{V:World}{ci:MC}{q:Nat}{l':List HIt}{g cc:Nat}{Ls:List SE}{ks:Nat}{old:List (List Int)}{now:HIt}{wait:List (List Int)}(h:DNow LA LB ZA ZB w c bn sb Al n k V ci q l' g cc Ls ks old now wait){c0q:Nat}(hI:MkI w c c0q){o1 o2:Obj}{Ls1 Ls':List SE}{ks1 ks':Nat}(h1:SeenW (putO V sb o1) sb Ls1 ks1)(h2:SeenW (putO (putO V sb o1) sb o2) sb Ls' ks'):DSt LA LB ZA ZB w c bn sb (putO (putO V sb o1) sb o2) ci q l' g cc Ls' ks'/\HTx (putO (putO V sb o1) sb o2) g bn now :=
  ⟨(h.st.map hI h1).map hI h2,(h.txt.map (fun e=>(h.it.none e).1) h.st.seen.obj).map (fun e=>(h.it.none e).1) h1.obj⟩
theorem rest_cells {w W:World}{c ci:MC}{q:Nat}{Y:Nat->Prop}(h:HoldY w c W ci q Y){j:Nat}(hj:j<ci.T.length):W.cell? ⟨ci.R j,0,none⟩=some (.int .i64 (j:Int))/\(∃ e:Bool,W.cell? ⟨ci.R j,3,none⟩=some (.bool e)/\(e=true↔lg ci.T j []))/\ci.R j<W.heap.size/\∃ cs t,Blk W (ci.R j) cs t:=by
  obtain ⟨e,he⟩:∃ e,ci.T[j]?=some e:=⟨_,List.getElem?_eq_getElem hj⟩
  obtain ⟨pa,pc,en,fv,hR,hen,_⟩:=h.mk.look (i:=j) (e:=e) he
  exact ⟨Blk.cell hR 0,⟨en,Blk.cell hR 3,hen⟩,Blk.lt hR,_,_,hR⟩
theorem rest_inj {w W:World}{c ci:MC}{q:Nat}{Y:Nat->Prop}(h:HoldY w c W ci q Y){i j:Nat}(hi:i<ci.T.length)(hj:j<ci.T.length)(e:ci.R i=ci.R j):i=j:=h.mk.inj i j hi hj e
end Go.Proofs.YtpoibdhhcbelnaaGreatDoor
namespace Go.Proofs.YtpoibdhhcbelnaaGreatDoor
open Go.Shelf Go.RowKit Go.Lib Brm
theorem cuts_rune {s:List (Int×Int)}(hs:Canon s):∀ x∈cutsR s,x<=1114111->runeB x=true:=fun x hx hl=>by
  obtain ⟨y,hy,he⟩:=List.mem_flatMap.1 hx
  obtain ⟨g1,g2,g3⟩:=hs.1 y hy
  simp only [List.mem_cons,List.not_mem_nil,or_false] at he
  rcases he with rfl | rfl
  · exact g1
  · simp only [runeB,decide_eq_true_eq] at g1 g2 ⊢
    unfold after at hl ⊢
    split at hl<;>rename_i h<;>simp only [h,if_true,if_false]<;>omega
mutual
theorem cl_rune:∀ (p:Pat),p.Ok->∀ x∈p.cl,x<=1114111->runeB x=true
  | .set s,h,x,hx,hl=>by
    rcases List.mem_append.1 (by simpa [Pat.cl] using hx:x∈cutsR s++[0]) with hx | hx
    · exact cuts_rune h x hx hl
    · simp at hx;subst hx;decide
  | .row l,h,x,hx,hl=>by
    rcases List.mem_cons.1 (show x∈0::clL l from hx) with rfl | hx
    · decide
    · exact clL_rune l h x hx hl
  | .or l,h,x,hx,hl=>by
    rcases List.mem_cons.1 (show x∈0::clL l from hx) with rfl | hx
    · decide
    · exact clL_rune l h.1 x hx hl
  | .and l,h,x,hx,hl=>by
    rcases List.mem_cons.1 (show x∈0::clL l from hx) with rfl | hx
    · decide
    · exact clL_rune l h.1 x hx hl
  | .not p,h,x,hx,hl=>by
    rcases List.mem_cons.1 (show x∈0::p.cl from hx) with rfl | hx
    · decide
    · exact cl_rune p h x hx hl
  | .many p m n,h,x,hx,hl=>by
    rcases List.mem_cons.1 (show x∈0::p.cl from hx) with rfl | hx
    · decide
    · exact cl_rune p h.1 x hx hl
  | .group p,h,x,hx,hl=>by
    rcases List.mem_cons.1 (show x∈0::p.cl from hx) with rfl | hx
    · decide
    · exact cl_rune p h x hx hl
theorem clL_rune:∀ (l:List Pat),OkL l->∀ x∈clL l,x<=1114111->runeB x=true
  | [],_,x,hx,_=>by simp [clL] at hx
  | p::l,h,x,hx,hl=>by
    rcases List.mem_append.1 (show x∈p.cl++clL l from hx) with hx | hx
    · exact cl_rune p h.1 x hx hl
    · exact clL_rune l h.2 x hx hl
end
theorem dif_inv {f:Int->Int}{A B:Lg}(hA:InvL f A)(hB:InvL f B):InvL f (Dif A B):=fun t ht=>by
  show ¬ (A t↔B t)↔¬ (A (t.map f)↔B (t.map f))
  rw [hA t ht,hB t ht]
theorem alpha_ok {p q:Pat}(hp:p.Ok)(hq:q.Ok){L:List Int}(hm:∀ x,x∈L↔x<=1114111/\x∈0::(p.cl++q.cl))(n:Nat):(∀ r∈L,runeB r=true)/\(∀ m,LeastT (Dif p.Mt q.Mt) n m->∀ r∈m,r∈L):=by
  have hr:∀ r∈L,runeB r=true:=fun r h=>by
    obtain ⟨h1,h2⟩:=(hm r).1 h
    rcases List.mem_cons.1 h2 with rfl | h2
    · decide
    · rcases List.mem_append.1 h2 with h2 | h2
      · exact cl_rune p hp r h2 h1
      · exact cl_rune q hq r h2 h1
  have h0:(0:Int)∈L:=(hm 0).2 ⟨by decide,by simp⟩
  exact ⟨hr,fun m hl=>least_al (repA_of h0) hr (dif_inv (mt_inv (repA_of h0) p hp fun x hx hl=>(hm x).2 ⟨hl,by simp [hx]⟩) (mt_inv (repA_of h0) q hq fun x hx hl=>(hm x).2 ⟨hl,by simp [hx]⟩)) hl⟩
section
variable {LA LB:Lg} {ZA ZB:Me} {w:World} {c:MC} {bn sb:Nat} {W:World} {ci:MC} {q:Nat} {l:List HIt} {g cc:Nat} {Ls:List SE} {ks:Nat}
theorem DSt.toBelow (h:DSt LA LB ZA ZB w c bn sb W ci q l g cc Ls ks){w0:World}(hb:Below w0.heap.size w0 w)(hS:∀ k,c.S k->w0.heap.size<=k):Below w0.heap.size w0 W:=hb.trans (h.hold.gone.but.toBelow hS hb.size)
theorem DSt.row (h:DSt LA LB ZA ZB w c bn sb W ci q l g cc Ls ks){ga:Nat}{Al:List Int}(hr:RowH w ga Al)(hS:¬ c.S ga):RowH W ga Al:=hr.block (h.hold.gone.but.block ga hr.2 hS) h.hold.gone.but.size
theorem row_notS {ga q0:Nat}{Al:List Int}(hI:MkI w c q0)(hX:∀ k,¬ c.X k)(hr:RowH w ga Al){x:Int}(hx:Al[0]?=some x):¬ c.S ga:=by
  rintro (e | e)
  · exact hI.notMp_cell (hr.cell hx) e
  · exact hX _ e
theorem txt_conv {V:World}{ta:Option Addr}{tc:Nat}{u:List Int}(h:TxtW V (.slice ta u.length tc) u)(h0:u=[]->ta=none):(convert 81 9 (.slice ta u.length tc)).run Tryz.prog V=.ok (.string (runesBytes u)) V:=by
  have h1:∀ j r,u[j]?=some r->∃ b off,ta=some ⟨b,off,none⟩/\b<V.heap.size/\V.cell? ⟨b,off+j,none⟩=some (.int .i32 r):=by
    obtain ⟨a,c',e,h1⟩:=h
    injection e with e1 e2 e3
    subst e1
    exact h1
  cases u with
  | nil =>
    rw [h0 rfl]
    exact run_convert_runes_nil V 81 9 21 _ _ Tryz.underlying81 Tryz.underlying21 Tryz.underlying9
  | cons r u =>
    obtain ⟨b,off,rfl,hl,hc⟩:=h1 0 r rfl
    have hz:=run_convert_runes (P:=Tryz.prog) V 81 9 21 ⟨b,off,none⟩ (r::u).length tc (r::u) (Nat.le_refl _) Tryz.underlying81 Tryz.underlying21 Tryz.underlying9 (fun j hj=>by
      obtain ⟨b',off',e,_,hc'⟩:=h1 j ((r::u)[j]) (List.getElem?_eq_getElem hj)
      injection e with e
      injection e with e1 e2 e3
      subst e1 e2
      rw [List.getD_eq_getElem?_getD,List.getElem?_eq_getElem hj,Addr.add_lit]
      exact hc')
    rw [List.take_length] at hz
    exact hz
end
def DiffR (LA LB:Lg)(n:Nat)(e:Ending):Prop:=(∃ t,LeastT (Dif LA LB) n t/\e=.returned (.tuple #[.string (runesBytes t),.bool true]))\/((∀ s,ValT s->s.length<=n->¬ Dif LA LB s)/\e=.returned (.tuple #[.string ⟨#[]⟩,.bool false]))
structure DCt (LA LB:Lg)(ZA ZB:Me)(w:World)(c:MC)(bn sb:Nat)(ci:MC)(q:Nat)(l':List HIt)(g cc:Nat)(Ls:List SE)(old:List (List Int))(now:HIt)(ja jb U Y:Nat)(Ls':List SE)(ks':Nat)(W:World):Prop where
  st:DSt LA LB ZA ZB w c bn sb W ci q l' g cc Ls' ks'
  txt:HTx W g bn now
  seen:SeenOk LA LB ci (now.u::old) Ls'
  num:cnt Ls' ((ja:Int),(jb:Int))=cnt Ls ((ja:Int),(jb:Int))+1
  box:Blk W U [.slice now.ta now.u.length now.tc,.pointer (some ⟨now.x,0,none⟩),.pointer (some ⟨now.y,0,none⟩)] 163
  key:Blk W Y [.int .i64 (ja:Int),.int .i64 (jb:Int)] 170
theorem DCt.of {LA LB:Lg}{ZA ZB:Me}{w:World}{c:MC}{bn sb:Nat}{Al:List Int}{n k:Nat}{V:World}{ci:MC}{q:Nat}{l':List HIt}{g cc:Nat}{Ls:List SE}{ks:Nat}{old:List (List Int)}{now:HIt}{wait:List (List Int)}(h:DNow LA LB ZA ZB w c bn sb Al n k V ci q l' g cc Ls ks old now wait){c0q:Nat}(hI:MkI w c c0q){ja jb U Y:Nat}(ha:ja<ci.T.length)(hb:jb<ci.T.length)(la:lg ci.T ja=derT LA now.u)(lb:lg ci.T jb=derT LB now.u)(hbox:Blk V U [.slice now.ta now.u.length now.tc,.pointer (some ⟨now.x,0,none⟩),.pointer (some ⟨now.y,0,none⟩)] 163)(hkey:Blk V Y [.int .i64 (ja:Int),.int .i64 (jb:Int)] 170){o1 o2:Obj}(h1:∃ Ls1 ks1,SeenW (putO V sb o1) sb Ls1 ks1)(h2:∃ Ls' ks',SeenW (putO (putO V sb o1) sb o2) sb Ls' ks'/\∀ p,cnt Ls' p=if p=((ja:Int),(jb:Int)) then cnt Ls ((ja:Int),(jb:Int))+1 else cnt Ls p):∃ Ls' ks',DCt LA LB ZA ZB w c bn sb ci q l' g cc Ls old now ja jb U Y Ls' ks' (putO (putO V sb o1) sb o2):=by
  obtain ⟨Ls1,ks1,h1⟩:=h1
  obtain ⟨Ls',ks',h2,h3⟩:=h2
  obtain ⟨d1,d2⟩:=now_counted h hI h1 h2
  have hoff:Off sb V (putO (putO V sb o1) sb o2):=((Off.refl _ _).putO o1).putO o2
  have hne:∀ {b:Nat} {cs:List Value} {t:TypeId},Blk V b cs t->b≠sb:=fun {b cs t} hB e=>by
    have hs:=h.st.seen.obj
    rw [e] at hB
    have h2:V.heap[sb]?=some (.cells _ _):=hB
    rw [hs] at h2;cases h2
  exact ⟨Ls',ks',d1,d2,h.seen.add ha hb la lb h3,by rw [h3,if_pos rfl],hbox.off hoff (hne hbox),hkey.off hoff (hne hkey)⟩
end Go.Proofs.YtpoibdhhcbelnaaGreatDoor
namespace Go.Proofs.YtpoibdhhcbelnaaGreatDoor
open Go.Shelf Go.RowKit Go.Lib Brm
namespace Brm
mutual
def Pat.cu:Pat->List Int
  | .set s=>cutsR s
  | .row l=>cuL l
  | .or l=>cuL l
  | .and l=>cuL l
  | .not p=>p.cu
  | .many p _ _=>p.cu
  | .group p=>p.cu
def cuL:List Pat->List Int
  | []=>[]
  | p::l=>p.cu++cuL l
end
end Brm
theorem dout_start {LA LB:Lg}{ZA ZB:Me}{w:World}{c:MC}{bn sb:Nat}{Al:List Int}{n:Nat}{W:World}{ci:MC}{q:Nat}{l:List HIt}{g cc:Nat}{a0:HIt}(hst:DSt LA LB ZA ZB w c bn sb W ci q l g cc [] 0)(hp:l.Perm [a0])(hu:a0.u=[])(hc:q+Wc Al.length (costK ZA ZB) n n<=9000000000000000000)(hw:Wt Al.length n<=100000000000):DOut LA LB ZA ZB w c bn sb Al n (Wt Al.length n) W:=by
  have hl:l=[a0]:=List.perm_singleton.1 hp
  subst hl
  refine ⟨ci,q,[a0],g,cc,[],0,[],hst,?_,⟨fun p hp=>by simp [cnt] at hp,fun p=>by simp [cnt]⟩,?_,?_,?_⟩
  · rw [List.map_cons,List.map_nil,hu]
    exact sr_start
  · simp only [potC,sumA,hu,List.length_nil,Nat.sub_zero]
    omega
  · simp only [potW,sumA,hu,List.length_nil,Nat.sub_zero]
    omega
  · simpa using hw
theorem HTx.pushed {W W1:World}{g g' bn:Nat}{a:HIt}(h:HTx W g bn a)(hb:But (fun k=>k=bn\/k=g) W W1)(hg:g'=g\/W.heap.size<=g'):HTx W1 g' bn a:=by
  have h1:HTx W1 g bn a:=h.but hb
  refine ⟨h1.1,h1.2.1,fun o ho=>⟨(h1.2.2 o ho).1,?_,(h1.2.2 o ho).2.2⟩⟩
  rcases hg with rfl | e
  · exact (h1.2.2 o ho).2.1
  · have:=(h.2.2 o ho).1
    omega
mutual
theorem cl_cut:∀ (p:Pat) (x:Int),x∈p.cl->x=0\/x∈p.cu
  | .set s,x,h=>by
    rcases List.mem_append.1 (show x∈cutsR s++[0] from h) with h | h
    · exact .inr h
    · exact .inl (by simpa using h)
  | .row l,x,h=>by
    rcases List.mem_cons.1 (show x∈0::clL l from h) with h | h
    · exact .inl h
    · exact clL_cut l x h
  | .or l,x,h=>by
    rcases List.mem_cons.1 (show x∈0::clL l from h) with h | h
    · exact .inl h
    · exact clL_cut l x h
  | .and l,x,h=>by
    rcases List.mem_cons.1 (show x∈0::clL l from h) with h | h
    · exact .inl h
    · exact clL_cut l x h
  | .not p,x,h=>by
    rcases List.mem_cons.1 (show x∈0::p.cl from h) with h | h
    · exact .inl h
    · exact cl_cut p x h
  | .many p _ _,x,h=>by
    rcases List.mem_cons.1 (show x∈0::p.cl from h) with h | h
    · exact .inl h
    · exact cl_cut p x h
  | .group p,x,h=>by
    rcases List.mem_cons.1 (show x∈0::p.cl from h) with h | h
    · exact .inl h
    · exact cl_cut p x h
theorem clL_cut:∀ (l:List Pat) (x:Int),x∈clL l->x=0\/x∈cuL l
  | [],x,h=>by simp [clL] at h
  | p::l,x,h=>by
    rcases List.mem_append.1 (show x∈p.cl++clL l from h) with h | h
    · exact (cl_cut p x h).imp_right fun h=>List.mem_append_left _ h
    · exact (clL_cut l x h).imp_right fun h=>List.mem_append_right _ h
end
mutual
theorem cu_len:∀ p:Pat,p.cu.length=2*p.rg
  | .set s=>cutsR_len s
  | .row l=>cuL_len l
  | .or l=>cuL_len l
  | .and l=>cuL_len l
  | .not p=>cu_len p
  | .many p _ _=>cu_len p
  | .group p=>cu_len p
theorem cuL_len:∀ l:List Pat,(cuL l).length=2*rgL l
  | []=>rfl
  | p::l=>by
    show (p.cu++cuL l).length=2*(p.rg+rgL l)
    rw [List.length_append,cu_len p,cuL_len l]
    omega
end
theorem firsts_few {p q:Pat}{L:List Int}(h:L.Pairwise (fun x y=>x<y))(hm:∀ x,x∈L↔x<=1114111/\x∈0::(p.cl++q.cl)):L.length<=1+2*(p.rg+q.rg):=by
  have h1:L.length<=(0::(p.cu++q.cu)).length:=rises_len h (fun x hx=>by
    have h2:=((hm x).1 hx).2
    simp only [List.mem_cons,List.mem_append] at h2 ⊢
    rcases h2 with h2 | h2 | h2
    · exact .inl h2
    · exact (cl_cut p x h2).imp_right .inl
    · exact (cl_cut q x h2).imp_right .inr)
  rw [List.length_cons,List.length_append,cu_len,cu_len] at h1
  omega
theorem dnow_ends {LA LB:Lg}{ZA ZB:Me}{w:World}{c:MC}{bn sb:Nat}{Al:List Int}{n k:Nat}{W:World}{ci:MC}{q:Nat}{l':List HIt}{g cc:Nat}{Ls:List SE}{ks:Nat}{old:List (List Int)}{now:HIt}{wait:List (List Int)}(h:DNow LA LB ZA ZB w c bn sb Al n k W ci q l' g cc Ls ks old now wait):∃ (ja jb:Nat) (ea eb:Bool),ja<ci.T.length/\jb<ci.T.length/\lg ci.T ja=derT LA now.u/\lg ci.T jb=derT LB now.u/\now.x=ci.R ja/\now.y=ci.R jb/\W.cell? ⟨now.x,0,none⟩=some (.int .i64 (ja:Int))/\W.cell? ⟨now.y,0,none⟩=some (.int .i64 (jb:Int))/\W.cell? ⟨now.x,3,none⟩=some (.bool ea)/\W.cell? ⟨now.y,3,none⟩=some (.bool eb)/\now.x<W.heap.size/\now.y<W.heap.size/\(ea≠eb↔Dif LA LB now.u)/\(∃ cs t,Blk W now.x cs t)/\∃ cs t,Blk W now.y cs t:=by
  obtain ⟨ja,j1,j2,j3,j4⟩:=h.it.left
  obtain ⟨jb,k1,k2,k3,k4⟩:=h.it.right
  obtain ⟨a0,⟨ea,a3,a4⟩,a5,a6⟩:=rest_cells h.st.hold j1
  obtain ⟨b0,⟨eb,b3,b4⟩,b5,b6⟩:=rest_cells h.st.hold k1
  rw [<- j2] at a0 a3 a5 a6
  rw [<- k2] at b0 b3 b5 b6
  refine ⟨ja,jb,ea,eb,j1,k1,j3,k3,j2,k2,a0,b0,a3,b3,a5,b5,?_,a6,b6⟩
  have e1:ea=true↔LA now.u:=a4.trans (ends_iff j3)
  have e2:eb=true↔LB now.u:=b4.trans (ends_iff k3)
  show ea≠eb↔¬ (LA now.u↔LB now.u)
  rw [<- e1,<- e2]
  cases ea<;>cases eb<;>simp
theorem DNow.room {LA LB:Lg}{ZA ZB:Me}{w:World}{c:MC}{bn sb:Nat}{Al:List Int}{n k:Nat}{W:World}{ci:MC}{q:Nat}{l':List HIt}{g cc:Nat}{Ls:List SE}{ks:Nat}{old:List (List Int)}{now:HIt}{wait:List (List Int)}(h:DNow LA LB ZA ZB w c bn sb Al n k W ci q l' g cc Ls ks old now wait)(hl:now.u.length<n){l2:List HIt}{i:Nat}(hch:∃ ch:List HIt,l2.Perm (ch++l')/\(ch.map (·.u)).Perm ((Al.take i).map (fun r=>now.u++[r]))):l2.length<=100000000000:=by
  obtain ⟨ch,c1,c2⟩:=hch
  have h1:=c1.length_eq
  have h2:=c2.length_eq
  have h3:=potW_len (Al:=Al) (n:=n) l'
  have h4:=h.pw
  have h5:=h.lo
  rw [wt_step hl] at h4
  have h6:=Nat.mul_le_mul_left Al.length (Wt_pos Al.length (n-(now.u.length+1)))
  simp only [List.length_append,List.length_map,List.length_take] at h1 h2
  omega
theorem din_cost {q m X Y Z:Nat}(h:q+m*(X+Y)+Z<=9000000000000000000)(hm:0<m):q+X<=9000000000000000000:=by
  have:=Nat.le_mul_of_pos_left (X+Y) hm
  omega
set_option maxRecDepth 100000 in
set_option maxHeartbeats 8000000 in
theorem differ_any {p qq:Pat}(hp:p.Ok)(hqk:qq.Ok){w0:World}{A:Nat->Prop}{a b:Nat}(hA:∀ g,A g->g<w0.heap.size)(hNa:PNx w0 A p a)(hNb:PNx w0 A qq b)(hP:PowT w0)(h7:7<=w0.heap.size)(hcl:p.cl.length+qq.cl.length<=40000)(hrp:p.rg<=400000)(hrq:qq.rg<=400000)(n:Nat)(hn:n<=500)(hb1:∀ M,M<=1+2*(p.rg+qq.rg)->2+p.co+qq.co+Wc M (costK p.me qq.me) n n<=9000000000000000000/\Wt M n<=100000000000)(hlev:∀ k,k<=n->(lev p.me k).z<=3000000000000/\(lev qq.me k).z<=3000000000000) :
    Calls Tryz.prog 49 #[.pointer (some ⟨a,0,none⟩),.pointer (some ⟨b,0,none⟩),.int .i64 n] w0 fun e w'=>Below w0.heap.size w0 w'/\DiffR p.Mt qq.Mt n e:=by
  have hmm:=@run_makeMap Tryz.prog
  have HNM:=hide (newMaker_mk w0 hP h7)
  have HP:=hide hP
  have HNA:=hide hNa
  have HNB:=hide hNb
  have HA:=hide hA
  have HB1:=hide hb1
  have HLEV:=hide hlev
  have HCL:=hide hcl
  clear hP hNa hNb hA hb1 hlev hcl
  go_enter Tryz.func49,Tryz.ntmps49
  go_wp2_with fail
  refine HNM.out.mono ?_
  rintro e w1 ⟨c,rfl,hI1,hSlo,hX,hml,hB1⟩
  obtain ⟨Wf,hWf⟩:∃ Wf,w1.alloc (.cells #[.pointer (some ⟨a,0,none⟩),.pointer (some ⟨b,0,none⟩)] 65)=Wf:=⟨_,rfl⟩
  have hBf:Below w1.heap.size w1 Wf:=by rw [<- hWf];exact (Below.refl _ _).alloc (Nat.le_refl _) _
  have hbb:Blk Wf w1.heap.size [.pointer (some ⟨a,0,none⟩),.pointer (some ⟨b,0,none⟩)] 65:=by rw [<- hWf];exact Blk.new w1 [.pointer (some ⟨a,0,none⟩),.pointer (some ⟨b,0,none⟩)] 65
  have hBwf:Below w0.heap.size w0 Wf:=hB1.trans (hBf.mono hB1.size)
  have HF:=hide (firsts_twox hp hqk (fun g hg=>Nat.lt_of_lt_of_le (HA.out g hg) hBwf.size) (HNA.out.keep (Keeps.below hBwf)) (HNB.out.keep (Keeps.below hBwf)) HCL.out w1.heap.size (hbb.cell 0) (hbb.cell 1) hbb.lt)
  have HWF:=hide hWf
  have HI1:=hide (hI1.below hBf)
  have HBF:=hide hBwf
  have HSLO:=hide hSlo
  have HX:=hide hX
  clear hWf hBf hbb hBwf hI1 hSlo hX hml HNM hB1
  go_wp2_with fail
  rw [HWF.out]
  refine HF.out.mono ?_
  rintro e w2 ⟨Al,ga,gc,rfl,hgc,hrise,hrng,hmem,hgal,hrow,hb2⟩
  have HI2:=hide (HI1.out.below hb2)
  have HB02:=hide (HBF.out.trans (hb2.mono HBF.out.size))
  have HP2:=hide (HP.out.below HB02.out)
  have HAL:=hide (alpha_ok hp hqk hmem n)
  have HM:=hide (HB1.out Al.length (firsts_few hrise hmem))
  have HAN:Hid (Al.length<=2000000):=by have:=firsts_few hrise hmem;show _<=_;omega
  have HROW:=hide hrow
  have HGS:Hid (∀ x,Al[0]?=some x->¬ c.S ga):=fun x hx=>row_notS HI2.out HX.out hrow hx
  have HA2:Hid (∀ g,A g->g<w2.heap.size/\¬ c.S g):=fun g hg=>⟨Nat.lt_of_lt_of_le (HA.out g hg) HB02.out.size,fun h=>by have:=HSLO.out g h;have:=HA.out g hg;omega⟩
  have HNA2:=hide (HNA.out.keep (Keeps.below HB02.out))
  have HNB2:=hide (HNB.out.keep (Keeps.below HB02.out))
  clear hgc hrise hrng hmem hgal hrow hb2 HF HWF HI1 HBF HP HNA HNB HB1 HA
  obtain ⟨W3,hW3⟩:∃ W3,((w2.alloc (.cells #[] 163)).alloc (.cells #[.slice (some ⟨w2.heap.size,0,none⟩) 0 0] 156)).alloc (.map #[] 0)=W3:=⟨_,rfl⟩
  have hB3:Below w2.heap.size w2 W3:=by rw [<- hW3];exact (((Below.refl _ _).alloc (Nat.le_refl _) _).alloc (by simp) _).alloc (by simp;omega) _
  have hq0:Blk W3 w2.heap.size [] 163:=by rw [<- hW3];exact ((Blk.new w2 [] 163).alloc _).alloc _
  have hq1:Blk W3 (w2.heap.size+1) [.slice (some ⟨w2.heap.size,0,none⟩) 0 0] 156:=by
    rw [<- hW3];have:=(Blk.new (w2.alloc (.cells #[] 163)) [.slice (some ⟨w2.heap.size,0,none⟩) 0 0] 156).alloc (.map #[] 0);simpa using this
  have hq2:W3.heap[w2.heap.size+1+1]?=some (.map #[] 0):=by
    rw [<- hW3];have:=(MapKept.heap_alloc ((w2.alloc (.cells #[] 163)).alloc (.cells #[.slice (some ⟨w2.heap.size,0,none⟩) 0 0] 156)) (.map #[] 0)).1;simpa using this
  have hs3:W3.heap.size=w2.heap.size+3:=by rw [<- hW3];simp
  have hold3:HoldY w2 c W3 c 2 (DY (w2.heap.size+1) w2.heap.size (w2.heap.size+1+1)):=hold_init HI2.out hB3 ⟨Nat.le_refl _,by omega⟩ ⟨by omega,by omega⟩ ⟨by omega,by omega⟩
  have HDY:Hid (∀ g,DY (w2.heap.size+1) w2.heap.size (w2.heap.size+1+1) g->w2.heap.size<=g):=fun g hg=>by rcases hg with rfl | rfl | rfl<;>omega
  have hco:2+p.co+qq.co<=9000000000000000000:=by have:=HM.out.1;omega
  have HOF:=hide (of_hold hp hrp hold3 HI2.out HP2.out HNA2.out HA2.out HDY.out (by omega) (HLEV.out 0 (Nat.zero_le _)).1)
  have HW3:=hide hW3
  have HQ0:=hide hq0
  have HQ1:=hide hq1
  have HQ2:=hide hq2
  clear hW3 hB3 hq0 hq1 hq2 hold3
  go_wp2_with fail
  rw [HW3.out]
  refine HOF.out.mono ?_
  rintro e w4 ⟨c4,ja,rfl,hold4,hg4,hja,hlja,hszja,hk4⟩
  have HOF2:=hide (of_hold hqk hrq hold4 HI2.out HP2.out HNB2.out HA2.out HDY.out hco (HLEV.out 0 (Nat.zero_le _)).2)
  have HK4:=hide hk4
  have HJA:=hide (And.intro hja (And.intro hlja hszja))
  clear hold4 hg4 hja hlja hszja hk4 HOF
  go_wp2_with fail
  refine HOF2.out.mono ?_
  rintro e w5 ⟨c5,jb,rfl,hold5,hg5,hjb,hljb,hszjb,hk5⟩
  have hst5:DSt p.Mt qq.Mt p.me qq.me w2 c (w2.heap.size+1) (w2.heap.size+1+1) w5 c5 (2+p.co+qq.co) [] w2.heap.size 0 [] 0:=dst_init hold5 (((hk5 _ (.inr (.inl rfl))).trans (HK4.out _ (.inr (.inl rfl)))).trans HQ0.out) (((hk5 _ (.inl rfl)).trans (HK4.out _ (.inl rfl))).trans HQ1.out) (((hk5 _ (.inr (.inr rfl))).trans (HK4.out _ (.inr (.inr rfl)))).trans HQ2.out) (Nat.le_refl _) (by omega) (by omega)
  have hia:ItOk p.Mt qq.Mt p.me qq.me c5 ⟨none,0,[],c4.R ja,c5.R jb⟩:=by
    obtain ⟨j1,j2,j3⟩:=HJA.out
    have hl5:=hg5.len
    exact ⟨fun _=>⟨rfl,rfl⟩,fun h=>absurd rfl h,⟨ja,by omega,(hg5.R ja j1).symm,by rw [hg5.lang j1];exact j2,by rw [hg5.sz j1];exact j3⟩,⟨jb,hjb,rfl,hljb,hszjb⟩⟩
  have HPU:=hide (hst5.push HI2.out (a:=⟨none,0,[],c4.R ja,c5.R jb⟩) ⟨⟨none,0,rfl,fun j r h=>by simp at h⟩,by simp,fun o ho=>by cases ho⟩ hia (by simp))
  clear hold5 hg5 hjb hljb hszjb hk5 hst5 hia HOF2 HK4 HJA HQ0 HQ1 HQ2 HW3 HNA2 HNB2 HA2 HDY
  go_wp2_with fail
  refine HPU.out.mono ?_
  rintro e w6 ⟨rfl,l6,g6,cc6,hst6,hperm6,hbut6,hg6⟩
  have HST:Hid (DOut p.Mt qq.Mt p.me qq.me w2 c (w2.heap.size+1) (w2.heap.size+1+1) Al n (Wt Al.length n) w6):=dout_start hst6 hperm6 rfl HM.out.1 HM.out.2
  clear hst6 hperm6 hbut6 hg6 HPU hs3 hco
  generalize hT:w2.heap.size=T at *
  go_wp2_with fail
  go_loopg [] (Wt Al.length n) (fun k wr=>DOut p.Mt qq.Mt p.me qq.me w2 c (T+1) (T+1+1) Al n k wr)
  case atStart=>exact HST.out
  case round =>
    obtain ⟨ci,q,l,g,cc,Ls,ks,old,hst,hsr,hsn,hpc,hpw,hlo⟩:=hrel
    have hbl:=hst.wait.heap.var.lt
    have hB0:Below w0.heap.size w0 wr:=hst.toBelow HB02.out HSLO.out
    by_cases hl0:l=[]
    · subst hl0
      have e0:wr.cell? ⟨T+1,0,none⟩=some (.slice (some ⟨g,0,none⟩) 0 cc):=hst.wait.heap.var.cell 0
      have HEND:Hid (DiffR p.Mt qq.Mt n (.returned (.tuple #[.string ⟨#[]⟩,.bool false]))):=.inr ⟨sr_none hsr,rfl⟩
      have HB0:=hide hB0
      clear hst hsr hsn hpc hpw hlo hB0
      go_wp2_with (go_at_call 93;refine (len_any _ _ _ _).mono ?_;rintro e w' ⟨rfl,hw⟩;have hw8:=hw.symm;subst hw8;clear hw)
      go_ret2
      exact ⟨HB0.out,HEND.out⟩
    · have e0:wr.cell? ⟨T+1,0,none⟩=some (.slice (some ⟨g,0,none⟩) l.length cc):=hst.wait.heap.var.cell 0
      have hlp:(0:Int)<(l.length:Int):=by have:l.length≠0:=fun e=>hl0 (List.length_eq_zero_iff.1 e);omega
      have HPOP:=hide (DOut.pop hst HI2.out hsr hsn hpc hpw hlo hl0)
      clear hst hsr hsn hpc hpw hlo hl0 hB0
      go_wp2_with (go_at_call 93;refine (len_any _ _ _ _).mono ?_;rintro e w' ⟨rfl,hw⟩;have hw8:=hw.symm;subst hw8;clear hw)
      refine HPOP.out.mono ?_
      rintro e w7 ⟨now,l',rfl,hnow⟩
      clear HPOP hlp e0 hbl
      have hta:=assert_hV (hV now)
      obtain ⟨W8,hW8⟩:∃ W8,w7.alloc (.cells #[.slice now.ta now.u.length now.tc,.pointer (some ⟨now.x,0,none⟩),.pointer (some ⟨now.y,0,none⟩)] 163)=W8:=⟨_,rfl⟩
      have hb78:Below w7.heap.size w7 W8:=by rw [<- hW8];exact (Below.refl _ _).alloc (Nat.le_refl _) _
      have hnw:Blk W8 w7.heap.size [.slice now.ta now.u.length now.tc,.pointer (some ⟨now.x,0,none⟩),.pointer (some ⟨now.y,0,none⟩)] 163:=by rw [<- hW8];exact Blk.new w7 [.slice now.ta now.u.length now.tc,.pointer (some ⟨now.x,0,none⟩),.pointer (some ⟨now.y,0,none⟩)] 163
      have HUB:Hid (w7.heap.size≠T+1/\w7.heap.size≠g):=⟨fun e=>by have:=hnow.st.wait.heap.var.lt;omega,fun e=>by have:=hnow.st.wait.heap.row.lt;omega⟩
      have HN8:=hide (hnow.below hb78)
      have n0:W8.cell? ⟨w7.heap.size,0,none⟩=some (.slice now.ta now.u.length now.tc):=hnw.cell 0
      have n1:W8.cell? ⟨w7.heap.size,1,none⟩=some (.pointer (some ⟨now.x,0,none⟩)):=hnw.cell 1
      have n2:W8.cell? ⟨w7.heap.size,2,none⟩=some (.pointer (some ⟨now.y,0,none⟩)):=hnw.cell 2
      obtain ⟨ja,jb,ea,eb,hja,hjb,hla,hlb,hxa,hyb,x0,y0,x3,y3,hxl,hyl,hdf,_,_⟩:=dnow_ends HN8.out
      have HJ:=hide (And.intro hja (And.intro hjb (And.intro hla (And.intro hlb (And.intro hxa hyb)))))
      have HDF:=hide hdf
      have HW8:=hide hW8
      have HNW:=hide hnw
      have HB8:Hid (Below w0.heap.size w0 W8):=HN8.out.st.toBelow HB02.out HSLO.out
      obtain ⟨k1,hk1⟩:∃ k1,k1+1=gk:=⟨gk-1,by have:=hnow.pw;have:=Wt_pos Al.length (n-now.u.length);omega⟩
      have HK1:=hide hk1
      clear hnow hb78 hnw hW8 hja hjb hla hlb hxa hyb hdf hk1
      go_wp2_with fail
      rw [HW8.out]
      generalize hU:w7.heap.size=U at *
      by_cases hee:ea=eb
      · have hne:(ea != eb)=false:=by rw [hee];simp
        have HND:Hid (¬ Dif p.Mt qq.Mt now.u):=fun h=>(HDF.out.2 h) hee
        subst hee
        go_quiet (fail)
        go_wp2_with fail
        obtain ⟨W9,hW9⟩:∃ W9,W8.drewN nq=W9:=⟨_,rfl⟩
        have hb89:Below W8.heap.size W8 W9:=by rw [<- hW9];exact below_drawn (Below.refl _ _)
        have HN9:=hide (HN8.out.below hb89)
        have hnw9:=HNW.out.below hb89
        rw [hW9]
        have n19:W9.cell? ⟨U,1,none⟩=some (.pointer (some ⟨now.x,0,none⟩)):=hnw9.cell 1
        have n29:W9.cell? ⟨U,2,none⟩=some (.pointer (some ⟨now.y,0,none⟩)):=hnw9.cell 2
        have x09:W9.cell? ⟨now.x,0,none⟩=some (.int .i64 (ja:Int)):=(hb89.cell (p:=⟨now.x,0,none⟩) hxl).trans x0
        have y09:W9.cell? ⟨now.y,0,none⟩=some (.int .i64 (jb:Int)):=(hb89.cell (p:=⟨now.y,0,none⟩) hyl).trans y0
        have hU9:=hnw9.lt
        have hxl9:now.x<W9.heap.size:=Nat.lt_of_lt_of_le hxl hb89.size
        have hyl9:now.y<W9.heap.size:=Nat.lt_of_lt_of_le hyl hb89.size
        have HNW9:=hide hnw9
        clear hW9 hb89 hnw9 n0 n1 n2 x0 y0 x3 y3 hxl hyl hne HN8 HNW HW8 HB8 hta
        go_region_held3 (fun w'=>w'.cell? ⟨U,1,none⟩=some (.pointer (some ⟨now.x,0,none⟩))/\w'.cell? ⟨U,2,none⟩=some (.pointer (some ⟨now.y,0,none⟩))/\w'.cell? ⟨now.x,0,none⟩=some (.int .i64 (ja:Int))/\w'.cell? ⟨now.y,0,none⟩=some (.int .i64 (jb:Int)))
          (first | exact ⟨n19,n29,x09,y09⟩ | go_keep)
          (fail)
        all_goals go_wp2_with fail
        obtain ⟨X,hX⟩:∃ X,(W9.alloc (.cells #[.int .i64 (ja:Int),.int .i64 (jb:Int)] 170)).drew=X:=⟨_,rfl⟩
        obtain ⟨V,hV⟩:∃ V,X.drew=V:=⟨_,rfl⟩
        have hbX:Below W9.heap.size W9 V:=by rw [<- hV,<- hX];exact (((Below.refl _ _).alloc (Nat.le_refl _) _).drew).drew
        have hKV:Blk V W9.heap.size [.int .i64 (ja:Int),.int .i64 (jb:Int)] 170:=by rw [<- hV,<- hX];exact ((Blk.new W9 [.int .i64 (ja:Int),.int .i64 (jb:Int)] 170).drew).drew
        obtain ⟨hja,hjb,hla,hlb,hxa,hyb⟩:=HJ.out
        have HNV:=hide (HN9.out.below hbX)
        obtain ⟨o1,o2,st,q1,q2,q3,q4,q5,q6⟩:=seen_inc HNV.out.st.seen ((ja:Int),(jb:Int))
        have HCT:=hide (DCt.of HNV.out HI2.out hja hjb hla hlb (HNW9.out.below hbX) hKV q5 q6)
        have hKn:0<=cnt Ls ((ja:Int),(jb:Int))/\cnt Ls ((ja:Int),(jb:Int))<=100000000000:=by have h1:=HN9.out.seen.num ((ja:Int),(jb:Int));have h2:=HN9.out.lo;omega
        obtain ⟨K,hK⟩:∃ K,cnt Ls ((ja:Int),(jb:Int))=K:=⟨_,rfl⟩
        rw [hK] at q1 q2 q3 q4 hKn
        have HK:=hide hK
        obtain ⟨hK0,hK9⟩:=hKn
        generalize hY:W9.heap.size=Y at *
        have hMlV:T+1+1<V.heap.size:=HNV.out.st.ne.2.2
        have hYne:Y≠T+1+1:=fun e=>by
          have h8:=HNV.out.st.seen.obj
          rw [<- e] at h8
          have h9:V.heap[Y]?=some (.cells _ _):=hKV
          rw [h9] at h8;cases h8
        have HKV:=hide hKV
        have k0:∀ w',Off (T+1+1) V w'->w'.cell? ⟨Y,0,none⟩=some (.int .i64 (ja:Int)):=fun w' h=>(HKV.out.off h hYne).cell 0
        have k9:∀ w',Off (T+1+1) V w'->w'.cell? ⟨Y,1,none⟩=some (.int .i64 (jb:Int)):=fun w' h=>(HKV.out.off h hYne).cell 1
        have o1f:Off (T+1+1) V (putO V (T+1+1) o1):=(Off.refl _ _).putO _
        have o2f:Off (T+1+1) V (putO (putO V (T+1+1) o1) (T+1+1) o2):=o1f.putO _
        rw [hX]
        clear hbX hKV hja hjb hla hlb hxa hyb q5 q6 hK n19 n29 x09 y09 hX hU9 hxl9 hyl9 hY
        go_cut [] from 36 to 113 (fun wx=>∃ Ls' ks',DCt p.Mt qq.Mt p.me qq.me w2 c (T+1) (T+1+1) ci q l' g cc Ls old now ja jb U Y Ls' ks' wx)
        case first =>
          refine wp_region_held_drew (S:=fun w':World=>w'.cell? ⟨Y,0,none⟩=some (.int .i64 (ja:Int))/\w'.cell? ⟨Y,1,none⟩=some (.int .i64 (jb:Int))) (by kernel_rfl) (by rw [hV];exact ⟨HKV.out.cell 0,HKV.out.cell 1⟩) (fun hHeld=>?_)
          rw [hV]
          rw [hV] at hHeld
          refine wpAnyH_take (i:=0) (oi:=_) (v:=.map (some (T+1+1))) rfl (by kernel_rfl) (by kernel_rfl) (by kernel_rfl) (fun _ _ _ h=>h) (Or.inl ⟨by rfl,by intro w hSw;go_simp⟩) (by assumption) ?_
          try simp only [Act.put,List.setIfInBounds_toArray,List.set_cons_zero,List.set_cons_succ,List.getElem_toArray,List.getElem_cons_zero]
          refine wpAnyH_take (i:=1) (oi:=_) (v:=(.agg #[.int .i64 (ja:Int),.int .i64 (jb:Int)])) rfl (by kernel_rfl) (by kernel_rfl) (by kernel_rfl) (fun _ _ _ h=>h) (Or.inl ⟨by rfl,by intro w hSw;go_simp⟩) (by assumption) ?_
          try simp only [Act.put,List.setIfInBounds_toArray,List.set_cons_zero,List.set_cons_succ,List.getElem_toArray,List.getElem_cons_zero,List.getElem_cons_succ]
          refine wpAnyH_ready (rs:=[2,4]) (by kernel_rfl) (by simp) ?_
          refine AllReadyH.cons (o:=_) rfl (fun Kc hK=>?_) ?_
          · have q9:=q1
            go_simp
            clear q9
            refine hK.out _ _ ⟨HKV.out.cell 0,HKV.out.cell 1⟩ (fun hHeld=>?_)
            clear hK Kc
            try simp only [Act.put,List.setIfInBounds_toArray,List.set_cons_zero,List.set_cons_succ]
            refine wpAnyH_take (i:=3) (oi:=_) (v:=.int .i64 (K+1)) rfl (by kernel_rfl) (by kernel_rfl) (by kernel_rfl) (fun _ _ _ h=>h) (Or.inl ⟨by rfl,by intro w hSw;go_simp;rw [IntKind.wrap_i64]<;>omega⟩) (by assumption) ?_
            try simp only [Act.put,List.setIfInBounds_toArray,List.set_cons_zero,List.set_cons_succ,List.getElem_toArray,List.getElem_cons_zero,List.getElem_cons_succ]
            refine wpAnyH_ready (rs:=[4]) (by kernel_rfl) (by simp) ?_
            refine AllReadyH.cons (o:=_) rfl (fun Kc hK=>?_) AllReadyH.nil
            have q9:=q2
            go_simp
            clear q9
            refine hK.out _ _ ⟨k0 _ o1f,k9 _ o1f⟩ (fun hHeld=>?_)
            clear hK Kc
            try simp only [Act.put,List.setIfInBounds_toArray,List.set_cons_zero,List.set_cons_succ]
            refine wpAnyH_take (i:=5) (oi:=_) (v:=goInt (st:Int)) rfl (by kernel_rfl) (by kernel_rfl) (by kernel_rfl) (fun _ _ _ h=>h) (Or.inl ⟨by rfl,by intro w hSw;go_simp⟩) (by assumption) ?_
            try simp only [Act.put,List.setIfInBounds_toArray,List.set_cons_zero,List.set_cons_succ,List.getElem_toArray,List.getElem_cons_zero,List.getElem_cons_succ]
            refine wpAnyH_ready (rs:=[6]) (by kernel_rfl) (by simp) ?_
            refine AllReadyH.cons (o:=_) rfl (fun Kc hK=>?_) AllReadyH.nil
            have q9:(Instr.entryStore 157 (.map (some (T+1+1))) (.int .i64 (st:Int)) (.int .i64 (K+1))).run Tryz.prog (putO V (T+1+1) o1)=_:=q4
            go_simp
            clear q9
            refine hK.out _ _ ⟨k0 _ o2f,k9 _ o2f⟩ (fun hHeld=>?_)
            clear hK Kc
            try simp only [Act.put,List.setIfInBounds_toArray,List.set_cons_zero,List.set_cons_succ]
            refine wpAnyH_done (by kernel_rfl) ?_ _
            go_wp2_with fail
            go_meet
            exact HCT.out
          · refine AllReadyH.cons (o:=_) rfl (fun Kc hK=>?_) AllReadyH.nil
            have q9:=q2
            go_simp
            clear q9
            refine hK.out _ _ ⟨k0 _ o1f,k9 _ o1f⟩ (fun hHeld=>?_)
            clear hK Kc
            try simp only [Act.put,List.setIfInBounds_toArray,List.set_cons_zero,List.set_cons_succ]
            refine wpAnyH_take (i:=5) (oi:=_) (v:=goInt (st:Int)) rfl (by kernel_rfl) (by kernel_rfl) (by kernel_rfl) (fun _ _ _ h=>h) (Or.inl ⟨by rfl,by intro w hSw;go_simp⟩) (by assumption) ?_
            try simp only [Act.put,List.setIfInBounds_toArray,List.set_cons_zero,List.set_cons_succ,List.getElem_toArray,List.getElem_cons_zero,List.getElem_cons_succ]
            refine wpAnyH_ready (rs:=[2]) (by kernel_rfl) (by simp) ?_
            refine AllReadyH.cons (o:=_) rfl (fun Kc hK=>?_) AllReadyH.nil
            have q9:=q3
            go_simp
            clear q9
            refine hK.out _ _ ⟨k0 _ o1f,k9 _ o1f⟩ (fun hHeld=>?_)
            clear hK Kc
            try simp only [Act.put,List.setIfInBounds_toArray,List.set_cons_zero,List.set_cons_succ]
            refine wpAnyH_take (i:=3) (oi:=_) (v:=.int .i64 (K+1)) rfl (by kernel_rfl) (by kernel_rfl) (by kernel_rfl) (fun _ _ _ h=>h) (Or.inl ⟨by rfl,by intro w hSw;go_simp;rw [IntKind.wrap_i64]<;>omega⟩) (by assumption) ?_
            try simp only [Act.put,List.setIfInBounds_toArray,List.set_cons_zero,List.set_cons_succ,List.getElem_toArray,List.getElem_cons_zero,List.getElem_cons_succ]
            refine wpAnyH_ready (rs:=[6]) (by kernel_rfl) (by simp) ?_
            refine AllReadyH.cons (o:=_) rfl (fun Kc hK=>?_) AllReadyH.nil
            have q9:(Instr.entryStore 157 (.map (some (T+1+1))) (.int .i64 (st:Int)) (.int .i64 (K+1))).run Tryz.prog (putO V (T+1+1) o1)=_:=q4
            go_simp
            clear q9
            refine hK.out _ _ ⟨k0 _ o2f,k9 _ o2f⟩ (fun hHeld=>?_)
            clear hK Kc
            try simp only [Act.put,List.setIfInBounds_toArray,List.set_cons_zero,List.set_cons_succ]
            refine wpAnyH_done (by kernel_rfl) ?_ _
            go_wp2_with fail
            go_meet
            exact HCT.out
        case rest =>
          obtain ⟨Ls',ks',hct⟩:=hcut
          clear q1 q2 q3 q4 k0 k9 o1f o2f hMlV hYne HCT HKV HNV hV
          have u0:wc.cell? ⟨U,0,none⟩=some (.slice now.ta now.u.length now.tc):=hct.box.cell 0
          have u1:wc.cell? ⟨U,1,none⟩=some (.pointer (some ⟨now.x,0,none⟩)):=hct.box.cell 1
          have u2:wc.cell? ⟨U,2,none⟩=some (.pointer (some ⟨now.y,0,none⟩)):=hct.box.cell 2
          have v0:wc.cell? ⟨Y,0,none⟩=some (.int .i64 (ja:Int)):=hct.key.cell 0
          have v1:wc.cell? ⟨Y,1,none⟩=some (.int .i64 (jb:Int)):=hct.key.cell 1
          have hUl:=hct.box.lt
          have hYl:=hct.key.lt
          have hlk:=hct.st.seen.look ((ja:Int),(jb:Int))
          rw [hct.num,HK.out] at hlk
          have HCT:=hide hct
          obtain ⟨hja,hjb,hla,hlb,hxa,hyb⟩:=HJ.out
          by_cases hrep:0<K
          · have hr1:(1:Int)<K+1:=by omega
            have HSK:=hide (HN9.out.skip (W':=wc) HCT.out.st HCT.out.seen (HN9.out.again hla hlb (by rw [HK.out];exact hrep)))
            clear hct hja hjb hla hlb hxa hyb HN9
            go_wp2_with fail
            go_roundg k1
            case measure=>have:=HK1.out;omega
            have h9:=HSK.out.2
            have h8:gk-1=k1:=by have:=HK1.out;omega
            rw [h8] at h9
            exact h9
          · obtain rfl:K=0:=by omega
            by_cases hxy:now.x=now.y
            · have hpe:(binOp .eql 159 (.pointer (some ⟨now.x,0,none⟩)) (.pointer (some ⟨now.y,0,none⟩))).run Tryz.prog wc=.ok (.bool true) wc:=by rw [hxy];exact ptr_same _ _
              have hjj:ja=jb:=rest_inj HN9.out.st.hold hja hjb (by rw [<- hxa,<- hyb];exact hxy)
              have HSK:=hide (HN9.out.skip (W':=wc) HCT.out.st HCT.out.seen (fun _=>now_same (by rw [<- hla,<- hlb,hjj])))
              clear hjj hxy
              clear hct hja hjb hla hlb hxa hyb HN9
              go_wp2_with fail
              go_roundg k1
              case measure=>have:=HK1.out;omega
              have h9:=HSK.out.2
              have h8:gk-1=k1:=by have:=HK1.out;omega
              rw [h8] at h9
              exact h9
            · obtain ⟨hbx1,hbx2⟩:(∃ cs t,Blk wc now.x cs t)/\∃ cs t,Blk wc now.y cs t:=by
                obtain ⟨_,_,_,h1⟩:=rest_cells hct.st.hold hja
                obtain ⟨_,_,_,h2⟩:=rest_cells hct.st.hold hjb
                rw [<- hxa] at h1
                rw [<- hyb] at h2
                exact ⟨h1,h2⟩
              obtain ⟨cs1,t1,hbx1⟩:=hbx1
              obtain ⟨cs2,t2,hbx2⟩:=hbx2
              have hpe:=ptr_other hbx1 hbx2 hxy
              clear hbx1 hbx2
              by_cases hln:now.u.length=n
              · have hl1:((now.u.length:Int) == (n:Int))=true:=by rw [hln];simp
                have HSK:=hide (HN9.out.skip (W':=wc) HCT.out.st HCT.out.seen (fun _=>sr_long HND.out hln))
                clear hct hja hjb hla hlb hxa hyb HN9
                go_wp2_with fail
                go_roundg k1
                case measure=>have:=HK1.out;omega
                have h9:=HSK.out.2
                have h8:gk-1=k1:=by have:=HK1.out;omega
                rw [h8] at h9
                exact h9
              · have hl1:((now.u.length:Int) == (n:Int))=false:=beq_eq_false_iff_ne.2 (by omega)
                have hun:now.u.length<n:=by have:=HN9.out.len;omega
                have HUN:=hide hun
                have HG1:Hid (gk-1=k1):=by have:=HK1.out;show _=_;omega
                have HIN:=hide (DIn.start HN9.out hct.st hct.txt hct.seen hun (U:=U) HUB.out.2)
                clear hct hja hjb hla hlb hxa hyb hun hln
                go_wp2_with fail
                go_loopg [102] Al.length (fun j iv wr=>∃ i:Nat,iv=.int .i64 i/\i<=Al.length/\Al.length-i<=j/\DIn p.Mt qq.Mt p.me qq.me w2 c (T+1) (T+1+1) Al n Ls' ks' old now l' U i wr/\Blk wr U [.slice now.ta now.u.length now.tc,.pointer (some ⟨now.x,0,none⟩),.pointer (some ⟨now.y,0,none⟩)] 163)
                case atStart=>exact ⟨0,rfl,Nat.zero_le _,Nat.le_refl _,HIN.out,HCT.out.box⟩
                case round =>
                  obtain ⟨i,rfl,hil,hij,hin,hbx⟩:=hrel
                  clear u0 u1 u2 v0 v1 hUl hYl hlk hpe HIN
                  have i0:(0:Int)<=(i:Int):=Int.natCast_nonneg _
                  by_cases hlt:i<Al.length
                  · have i1:(i:Int)<(Al.length:Int):=by omega
                    have i2:(i:Int)+1<=9223372036854775807:=by have:=HAN.out;omega
                    obtain ⟨r,hr⟩:∃ r,Al[i]?=some r:=⟨_,List.getElem?_eq_getElem hlt⟩
                    obtain ⟨ci2,q2,l2,g2,cc2,hUg2,hst2,htx2,hit2,hsn2,hch2,hpc2⟩:=hin
                    have hrow:RowH wr ga Al:=hst2.row HROW.out (HGS.out _ (List.getElem?_eq_getElem (show 0<Al.length by omega)))
                    have hcr:wr.cell? ⟨ga,i,none⟩=some (.int .i64 r):=hrow.cell hr
                    have hgl:=hrow.2
                    have b0:wr.cell? ⟨U,0,none⟩=some (.slice now.ta now.u.length now.tc):=hbx.cell 0
                    have b1:wr.cell? ⟨U,1,none⟩=some (.pointer (some ⟨now.x,0,none⟩)):=hbx.cell 1
                    have b2:wr.cell? ⟨U,2,none⟩=some (.pointer (some ⟨now.y,0,none⟩)):=hbx.cell 2
                    have hUw:=hbx.lt
                    have HLG:=hide (hst2.longer HI2.out HP2.out HX.out htx2 hit2 (by have:=HUN.out;omega) (HAL.out.1 r (List.mem_of_getElem? hr)) (by have:=din_cost hpc2 (by omega);unfold costK at this;omega) (HLEV.out _ HUN.out).1 (HLEV.out _ HUN.out).2)
                    have HR:=hide hr
                    have HBX:=hide hbx
                    have HUG:=hide hUg2
                    have HCH:=hide hch2
                    have HPC:=hide hpc2
                    have HSN:=hide hsn2
                    clear hst2 htx2 hit2 hsn2 hch2 hpc2 hUg2 hr hrow hbx
                    go_wp2_with fail
                    refine HLG.out.mono ?_
                    rintro e w10 ⟨ci3,a3,rfl,hau,hst3,hat3,hia3,hnt3,hni3,hgo3,hkp3⟩
                    have HPU:=hide (hst3.push HI2.out hat3 hia3 (HN9.out.room HUN.out HCH.out))
                    have HB3:Hid (Blk w10 U [.slice now.ta now.u.length now.tc,.pointer (some ⟨now.x,0,none⟩),.pointer (some ⟨now.y,0,none⟩)] 163):=(hkp3 U HBX.out.lt (by rw [b0];simp)).trans HBX.out
                    have HNT:=hide hnt3
                    have HNI:=hide hni3
                    have HSN3:=hide (HSN.out.gone hgo3)
                    have HAU:=hide hau
                    clear hau hst3 hat3 hia3 hnt3 hni3 hgo3 hkp3 HLG b0 b1 b2 hcr hgl hUw
                    go_wp2_with fail
                    refine HPU.out.mono ?_
                    rintro e w11 ⟨rfl,l4,g4,cc4,hst4,hperm4,hbut4,hg4⟩
                    have HDI:=hide (DIn.push HR.out hst4 (HNT.out.pushed hbut4 hg4) HNI.out HSN3.out HCH.out hperm4 HAU.out (by unfold costK;omega) HPC.out (U:=U) (by
                      rcases hg4 with e | e
                      · rw [e];exact HUG.out
                      · have:=HB3.out.lt;omega))
                    have HB4:Hid (Blk w11 U [.slice now.ta now.u.length now.tc,.pointer (some ⟨now.x,0,none⟩),.pointer (some ⟨now.y,0,none⟩)] 163):=HB3.out.but hbut4 (fun e=>by rcases e with e | e;exact HUB.out.1 e;exact HUG.out e)
                    clear hst4 hperm4 hbut4 hg4 HPU
                    go_wp2_with fail
                    go_roundg (Al.length-(i+1))
                    case measure=>omega
                    exact ⟨i+1,by first | rfl | go_num,by omega,by omega,HDI.out,HB4.out⟩
                  · have i1:decide ((i:Int)<(Al.length:Int))=false:=decide_eq_false (by omega)
                    obtain rfl:i=Al.length:=by omega
                    have HDN:=hide (DIn.done HN9.out HND.out HUN.out HAL.out.1 HAL.out.2 hin)
                    clear hin hbx
                    go_wp2_with fail
                    go_roundg k1
                    case measure=>have:=HK1.out;omega
                    have h9:=HDN.out.2
                    rw [HG1.out] at h9
                    exact h9
      · have hne:(ea == eb)=false:=beq_eq_false_iff_ne.2 hee
        have HFD:=hide (HN8.out.found (HDF.out.1 hee))
        have HCV:∀ m,(convert 81 9 (.slice now.ta now.u.length now.tc)).run Tryz.prog (W8.drewN m)=.ok (.string (runesBytes now.u)) (W8.drewN m):=fun m=>txt_conv (HN8.out.below (below_drawn (Below.refl _ _))).txt.1 (fun e=>(HN8.out.it.none e).1)
        have hU8:=HNW.out.lt
        clear hta
        go_quiet (fail)
        go_wp2_with fail
        go_ret2
        exact ⟨below_drawn HB8.out,.inl ⟨now.u,HFD.out,rfl⟩⟩
end Go.Proofs.YtpoibdhhcbelnaaGreatDoor
namespace Go.Proofs.YtpoibdhhcbelnaaGreatDoor
open Brm
def bigM:Me:=⟨61,61,183,61⟩
theorem Small.le {p:Pat}(h:Small p):p.me<=bigM:=⟨h.n,h.pp,h.y,h.z⟩
theorem lev_mono {A B:Me}(h:A<=B):∀ k,lev A k<=lev B k
  | 0=>h
  | k+1=>derM_mono (lev_mono h k)
theorem costM_mono {A B:Me}(h:A<=B):costM A<=costM B:=by
  unfold costM
  have:=Nat.mul_le_mul (Nat.add_le_add_right h.2.1 4) (Nat.sub_le_sub_right h.2.2.1 1)
  omega
theorem costK_mono {A B:Me}(hA:A<=bigM)(hB:B<=bigM)(k:Nat):costK A B k<=2*costM (lev bigM k):=by
  have h1:=costM_mono (lev_mono hA k)
  have h2:=costM_mono (lev_mono hB k)
  unfold costK
  omega
theorem Wc_mono {M M' n:Nat}{f g:Nat->Nat}(hM:M<=M')(h:∀ k,f k<=g k):∀ d,Wc M f n d<=Wc M' g n d
  | 0=>Nat.le_refl _
  | d+1=>Nat.mul_le_mul hM (Nat.add_le_add (h _) (Wc_mono hM h d))
theorem Wt_mono {M M':Nat}(hM:M<=M'):∀ d,Wt M d<=Wt M' d
  | 0=>Nat.le_refl _
  | d+1=>Nat.add_le_add_left (Nat.mul_le_mul hM (Wt_mono hM d)) 1
theorem big_wc:∀ n,n<=3->Wc 721 (fun k=>2*costM (lev bigM k)) n n<=8000000000000000000/\Wt 721 n<=100000000000
  | 0,_=>by decide
  | 1,_=>by decide
  | 2,_=>by decide
  | 3,_=>by decide
  | n+4,h=>by omega
theorem big_lev:∀ k,k<=3->(lev bigM k).z<=3000000000000
  | 0,_=>by decide
  | 1,_=>by decide
  | 2,_=>by decide
  | 3,_=>by decide
  | n+4,h=>by omega
theorem small_reach {p q:Pat}(hp:Small p)(hq:Small q){n:Nat}(hn:n<=3):(∀ M,M<=1+2*(p.rg+q.rg)->2+p.co+q.co+Wc M (costK p.me q.me) n n<=9000000000000000000/\Wt M n<=100000000000)/\∀ k,k<=n->(lev p.me k).z<=3000000000000/\(lev q.me k).z<=3000000000000:=by
  refine ⟨fun M hM=>?_,fun k hk=>?_⟩
  · have h1:=hp.rg
    have h2:=hq.rg
    have hM':M<=721:=by omega
    obtain ⟨b1,b2⟩:=big_wc n hn
    have h3:=Wc_mono (n:=n) hM' (costK_mono hp.le hq.le) n
    have h4:=Wt_mono hM' n
    have h5:=hp.co
    have h6:=hq.co
    exact ⟨by omega,by omega⟩
  · have h0:=big_lev k (by omega)
    have h1:=(lev_mono hp.le k).2.2.2
    have h2:=(lev_mono hq.le k).2.2.2
    exact ⟨by omega,by omega⟩
end Go.Proofs.YtpoibdhhcbelnaaGreatDoor
