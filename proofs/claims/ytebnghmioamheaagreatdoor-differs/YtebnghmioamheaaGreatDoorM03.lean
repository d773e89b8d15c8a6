import Derived.Deep.DeepAppendWide
import Derived.Lib.Join
import Derived.Test.YtebnghmioamheaaGreatDoorM02
set_option linter.all false
namespace Go.Proofs.YtebnghmioamheaaGreatDoor
open Go Go.RowKit Go.Lib
variable {r c:Int}{x:Int×Int}{i:Nat}{α β:Type}{lax:Bool}
theorem zA:type_of% @Nat.le_refl:=@Nat.le_refl
theorem zB:type_of% @List.getElem?_eq_getElem:=@List.getElem?_eq_getElem
theorem zC:type_of% @List.getElem?_eq_some_iff:=@List.getElem?_eq_some_iff
theorem zD:type_of% @beq_eq_false_iff_ne:=@beq_eq_false_iff_ne
theorem zE:type_of% @Below.refl:=@Below.refl
theorem zF:type_of% @Nat.lt_of_lt_of_le:=@Nat.lt_of_lt_of_le
theorem zG:type_of% @List.length_cons:=@List.length_cons
theorem zH:type_of% @List.length_append:=@List.length_append
theorem zI:type_of% @decide_eq_false:=@decide_eq_false
theorem zJ:type_of% @Nat.le_trans:=@Nat.le_trans
theorem zK:type_of% @Int.natCast_nonneg:=@Int.natCast_nonneg
theorem zM:type_of% @List.mem_append:=@List.mem_append
theorem zN:type_of% @bodyPost_ret:=@bodyPost_ret
theorem zO:type_of% @List.mem_cons:=@List.mem_cons
theorem zP:type_of% @World.cell?_of_block:=@World.cell?_of_block
theorem zQ:type_of% @List.take_length:=@List.take_length
theorem zR:type_of% @if_neg:=@if_neg
theorem zS:type_of% @Below.heap_alloc:=@Below.heap_alloc
theorem zT:type_of% @List.cons.injEq:=@List.cons.injEq
theorem zU:type_of% @List.mem_of_getElem?:=@List.mem_of_getElem?
theorem zV:type_of% @List.cons_append:=@List.cons_append
theorem zW:type_of% @Nat.zero_le:=@Nat.zero_le
theorem zX:type_of% @if_pos:=@if_pos
theorem zY:type_of% @decide_eq_true_eq:=@decide_eq_true_eq
theorem zZ:type_of% @World.ownsRow_nil:=@World.ownsRow_nil
theorem zc:type_of% @List.append_assoc:=@List.append_assoc
theorem zd:type_of% @List.nil_append:=@List.nil_append
theorem ze:type_of% @Bool.eq_iff_iff:=@Bool.eq_iff_iff
theorem zf:type_of% @Nat.zero_add:=@Nat.zero_add
theorem zg:type_of% @List.getElem?_map:=@List.getElem?_map
theorem zh:type_of% @List.length_nil:=@List.length_nil
theorem zi:type_of% @List.take_add_one:=@List.take_add_one
theorem zj:type_of% @List.take_append_drop:=@List.take_append_drop
theorem zk:type_of% @Below.heap_setCell:=@Below.heap_setCell
theorem zl:type_of% @Addr.add_lit:=@Addr.add_lit
theorem zm:type_of% @Value.slice.injEq:=@Value.slice.injEq
theorem zn:type_of% @Nat.mul_le_mul_right:=@Nat.mul_le_mul_right
theorem zo:type_of% @List.length_singleton:=@List.length_singleton
theorem zp:type_of% @List.map_cons:=@List.map_cons
theorem zq:type_of% @List.length_eq_zero_iff:=@List.length_eq_zero_iff
theorem zu:type_of% @Value.int.injEq:=@Value.int.injEq
theorem zv:type_of% @decide_eq_true:=@decide_eq_true
theorem zw:type_of% @World.cell?_setCell_far:=@World.cell?_setCell_far
theorem zx:type_of% @List.append_nil:=@List.append_nil
theorem zy:type_of% @List.length_eq_one_iff:=@List.length_eq_one_iff
theorem zz:type_of% @info_parts:=@info_parts
theorem yA:type_of% @List.pairwise_append:=@List.pairwise_append
theorem yB:type_of% @true_and:=@true_and
theorem yC:type_of% @List.drop_eq_getElem_cons:=@List.drop_eq_getElem_cons
theorem yD:type_of% @wpList_append_own:=@wpList_append_own
theorem yE:type_of% @List.flatMap_cons:=@List.flatMap_cons
theorem yF:type_of% @List.take_of_length_le:=@List.take_of_length_le
theorem yG:type_of% @Option.some.injEq:=@Option.some.injEq
theorem yH:type_of% @List.mem_map:=@List.mem_map
theorem yI:type_of% @Bool.not_eq_true:=@Bool.not_eq_true
theorem yJ:type_of% @Nat.le_of_lt:=@Nat.le_of_lt
theorem yK:type_of% @and_true:=@and_true
theorem yM:type_of% @AllReadyH.cons:=@AllReadyH.cons
theorem yN:type_of% @Nat.le_succ:=@Nat.le_succ
theorem yO:type_of% @List.length_drop:=@List.length_drop
theorem yP:type_of% @Bool.and_eq_true:=@Bool.and_eq_true
theorem yQ:type_of% @List.mem_singleton:=@List.mem_singleton
theorem yR:type_of% @Bool.false_eq_true:=@Bool.false_eq_true
theorem yS:type_of% @List.suffix_cons:=@List.suffix_cons
theorem yT:type_of% @Option.some.inj:=@Option.some.inj
theorem yU:type_of% @List.map_nil:=@List.map_nil
theorem yV:type_of% @wpAnyH_done:=@wpAnyH_done
theorem yW:type_of% @wp_region_held_drew:=@wp_region_held_drew
theorem yX:type_of% @List.pairwise_iff_getElem:=@List.pairwise_iff_getElem
theorem yY:type_of% @List.getElem?_append_left:=@List.getElem?_append_left
theorem yZ:type_of% @Bool.or_eq_true:=@Bool.or_eq_true
theorem yc:type_of% @Value.string.injEq:=@Value.string.injEq
theorem yd:type_of% @if_true:=@if_true
theorem ye:type_of% @Nat.mul_add:=@Nat.mul_add
theorem yf:type_of% @List.eq_nil_of_length_eq_zero:=@List.eq_nil_of_length_eq_zero
theorem yg:type_of% @List.pairwise_cons:=@List.pairwise_cons
theorem yh:type_of% @List.drop_of_length_le:=@List.drop_of_length_le
theorem yi:type_of% @List.mem_of_mem_take:=@List.mem_of_mem_take
theorem yj:type_of% @List.mem_cons_of_mem:=@List.mem_cons_of_mem
theorem yk:type_of% @List.getElem?_append_right:=@List.getElem?_append_right
theorem yl:type_of% @Array.getElem?_eq_some_iff:=@Array.getElem?_eq_some_iff
theorem ym:type_of% @List.length_map:=@List.length_map
theorem yn:type_of% @List.length_take:=@List.length_take
theorem yo:type_of% @wpList_append_grows:=@wpList_append_grows
theorem yp:type_of% @run_underlying:=@run_underlying
theorem yq:type_of% @List.mem_append_left:=@List.mem_append_left
theorem yr:type_of% @decide_eq_false_iff_not:=@decide_eq_false_iff_not
theorem yt:type_of% @List.tail_cons:=@List.tail_cons
theorem yu:type_of% @List.take_succ_eq_append_getElem:=@List.take_succ_eq_append_getElem
theorem yv:type_of% @Int.le_refl:=@Int.le_refl
theorem yw:type_of% @Option.map_some:=@Option.map_some
theorem yx:type_of% @List.head?_cons:=@List.head?_cons
theorem yy:type_of% @World.cell?_setCell_other:=@World.cell?_setCell_other
theorem yz:type_of% @Nat.not_le_of_lt:=@Nat.not_le_of_lt
theorem xC:type_of% @Nat.lt_succ_self:=@Nat.lt_succ_self
theorem xD:type_of% @List.not_mem_nil:=@List.not_mem_nil
theorem xE:type_of% @List.getElem_mem:=@List.getElem_mem
theorem xF:type_of% @Nat.add_zero:=@Nat.add_zero
theorem xG:type_of% @Nat.add_assoc:=@Nat.add_assoc
theorem xH:type_of% @List.map_append:=@List.map_append
theorem xI:type_of% @Array.getElem?_eq_none:=@Array.getElem?_eq_none
theorem xJ:type_of% @AllReadyH.nil:=@AllReadyH.nil
theorem xK:type_of% @Addr.mk.injEq:=@Addr.mk.injEq
theorem xL:type_of% @List.mem_flatMap:=@List.mem_flatMap
theorem xM:type_of% @List.getD_eq_getElem?_getD:=@List.getD_eq_getElem?_getD
namespace Brm
def runeB (r:Int):Bool:=decide (0<=r/\r<=55295\/57344<=r/\r<=1114111)
def after (r:Int):Int:=if r=55295 then 57344 else r+1
def before (r:Int):Int:=if r=57344 then 55295 else r-1
def inB (x:Int×Int)(r:Int):Bool:=decide (x.1<=r/\r<=x.2)
def memB (l:List (Int×Int))(r:Int):Bool:=l.any λx=>inB x r
def okB (x:Int×Int):Bool:=decide (0<=x.1/\x.2<=1114111/\x.1<=x.2)
def ZV (l:List (Int×Int)):Bool:=decide (l.length<=40)&&l.all okB
def clip (x:Int×Int):Int×Int:=(if runeB x.1=true then x.1 else 57344,if runeB x.2=true then x.2 else 55295)
def riseB (x:Int×Int):Bool:=decide (x.1<=x.2)
def runes (l:List (Int×Int)):List (Int×Int):=(l.map clip).filter riseB
def Good (x:Int×Int):Prop:=runeB x.1=true/\runeB x.2=true/\x.1<=x.2
def Canon (l:List (Int×Int)):Prop:=(∀x∈l,Good x)/\l.Pairwise λx y=>after x.2<y.1
def IsForm (l out:List (Int×Int)):Prop:=Canon out/\∀r,runeB r=true->memB out r=memB l r
theorem rune_iff (r:Int):runeB r=true↔(0<=r/\r<=55295\/57344<=r/\r<=1114111):=by simp[runeB]
theorem in_iff (x:Int×Int)(r:Int):inB x r=true↔x.1<=r/\r<=x.2:=by simp[inB]
theorem mem_cons (x:Int×Int)(l:LQ)(r:Int):memB (x::l) r=(inB x r||memB l r):=by simp[memB]
theorem mem_append (a b:LQ)(r:Int):memB (a++b) r=(memB a r||memB b r):=by simp[memB]
theorem mem_true {l:LQ}:memB l r=true↔∃x∈l,x.1<=r/\r<=x.2:=by simp[memB,inB]
theorem oB {l:LQ}:memB l r=false↔∀x∈l,¬(x.1<=r/\r<=x.2):=by
 rw[<-yI,mem_true];simp
theorem canon_nil:Canon []:=⟨by simp,by simp⟩
theorem mG {l:LQ}(h:Canon (x::l)):Canon l :=
 ⟨λy a=>h.1 y (yj _ a),(yg.1 h.2).2⟩
theorem canon_head {l:LQ}(h:Canon (x::l)):Good x/\∀y∈l,after x.2<y.1 :=
 ⟨h.1 x (by simp),(yg.1 h.2).1⟩
theorem mH {l:LQ}(h:Canon l)(g:Good x)(hl:∀y∈l,after y.2<x.1):Canon (l++[x]):=by
 refine⟨λy a=>?_,yA.2 ⟨h.2,by simp,λy a z b=>?_⟩⟩
 ·rcases zM.1 a with a|a
  ·exact h.1 y a
  ·simp at a;exact a▸g
 ·simp at b;subst b;exact hl y a
theorem vV {a:Int}(hr:runeB r=true)(h:a<r):after a<=r:=by
 rw[rune_iff]at hr;unfold after;split<;>omega
theorem rise_iff (x:Int×Int):riseB x=true↔x.1<=x.2:=by simp[riseB]
theorem jY (a:Int):a<after a:=by unfold after;split<;>omega
theorem perm_mem {a b:LQ}(h:a.Perm b)(r:Int):memB a r=memB b r:=by
 rw[ze,mem_true,mem_true];exact⟨λ⟨x,c,e⟩=>⟨x,h.mem_iff.1 c,e⟩,λ⟨x,c,e⟩=>⟨x,h.mem_iff.2 c,e⟩⟩
theorem Vc (x:Int×Int)(r:Int)(hx:okB x=true)(hr:runeB r=true):inB (clip x) r=inB x r:=by
 simp[okB]at hx;rw[rune_iff]at hr;rw[ze,in_iff,in_iff];unfold clip;by_cases a:runeB x.1=true<;>by_cases b:runeB x.2=true<;>simp only[a,b,yd,if_false,yR]<;>rw[rune_iff]at a b<;>omega
theorem NO (x:Int×Int)(h:riseB (clip x)=true):Good (clip x):=by
 simp[riseB]at h;refine⟨?_,?_,h⟩<;>unfold clip<;>simp only<;>split<;>first|assumption|decide
theorem runes_good (l:LQ):∀x∈runes l,Good x:=by
 intro x a;simp only[runes,List.mem_filter,yH]at a;obtain⟨⟨y,_,rfl⟩,h⟩:=a;exact NO y h
theorem runes_snoc (l:LQ)(x:Int×Int):runes (l++[x])=runes l++if riseB (clip x)=true then[clip x]else[]:=by
 simp only[runes,xH,List.filter_append,zp,yU,List.filter_cons,List.filter_nil]
theorem runes_length (l:LQ):(runes l).length<=l.length:=by
 unfold runes;have:=List.length_filter_le riseB (l.map clip);simpa using this
theorem runes_mem (l:LQ)(r:Int)(hl:∀x∈l,okB x=true)(hr:runeB r=true):memB (runes l) r=memB l r:=by
 induction l with
 |nil=>rfl
 |cons x t ih=>
  have a:=ih (λy b=>hl y (yj _ b));have c:=Vc x r (hl x (by simp)) hr;have e:runes (x::t)=(if riseB (clip x)=true then[clip x]else[])++runes t:=by
   simp only[runes,zp,List.filter_cons];split<;>simp
  rw[e,mem_append,mem_cons,a,<-c]
  split
  ·simp[memB]
  ·rename_i h
   have:inB (clip x) r=false:=by
    rw[<-yI,in_iff];simp[riseB]at h;omega
   simp[this,memB]
theorem form_new {d out:LQ}(hc:Canon out)(hm:∀r,runeB r=true->memB out r=memB d r)(g:Good x)
  (hn:out=[]\/∃p last,out=p++[last]/\after last.2<x.1) :
  Canon (out++[x])/\∀r,runeB r=true->memB (out++[x]) r=memB (d++[x]) r:=by
 refine⟨mH hc g ?_,λr c=>by rw[mem_append,mem_append,hm r c]⟩;rcases hn with rfl|⟨p,last,rfl,b⟩
 ·simp
 ·intro y a;rcases zM.1 a with a|a
  ·have f:=(yA.1 hc.2).2.2 y a last (by simp);have e:=(hc.1 last (by simp)).2.2;have:=jY last.2;omega
  ·simp at a;exact a▸b
theorem form_join {d p:LQ}{last:Int×Int}(hc:Canon (p++[last]))(hm:∀r,runeB r=true->memB (p++[last]) r=memB d r)(g:Good x)
  (h1:last.1<=x.1) (h2:x.1<=after last.2) :
  Canon (p++[(last.1,max last.2 x.2)])/\∀r,runeB r=true->memB (p++[(last.1,max last.2 x.2)]) r=memB (d++[x]) r:=by
 have a:=hc.1 last (by simp);have e:Canon p:=⟨λy b=>hc.1 y (by simp[b]),(yA.1 hc.2).1⟩;refine⟨mH e ⟨a.1,?_,?_⟩ λy b=>(yA.1 hc.2).2.2 y b last (by simp),λr c=>?_⟩
 ·show runeB (max last.2 x.2)=true
  rw[Int.max_def];split
  ·exact g.2.1
  ·exact a.2.1
 ·show last.1<=max last.2 x.2
  have:=a.2.2;omega
 ·have:=hm r c;rw[mem_append]at this;rw[mem_append,mem_append,<-this,Bool.or_assoc];congr 1;simp only[memB,List.any_cons,List.any_nil,Bool.or_false];rw[ze,yZ,in_iff,in_iff,in_iff];have f:last.2<r->after last.2<=r:=vV c;have:=a.2.2;have:=g.2.2;simp only;omega
def ZW (a b a' b' out:List (Int×Int)):Prop :=
 Canon out/\Canon a'/\Canon b'/\(∀r,runeB r=true->(memB out r||(memB a' r&&memB b' r))=(memB a r&&memB b r)) /\
 ∀x∈out,(∀y∈a',after x.2<y.1)\/∀y∈b',after x.2<y.1
def Rf (x y:Int×Int):Int×Int:=(max x.1 y.1,min x.2 y.2)
theorem vW {l:LQ}(h:Canon (x::l))(hr:r<=x.2):memB l r=false:=by
 rw[oB];intro y a b;have:=(canon_head h).2 y a;have:=jY x.2;omega
def ZX (out:List (Int×Int))(x y:Int×Int):List (Int×Int):=out++if riseB (Rf x y)=true then[Rf x y]else[]
def NInv (l rest out:List (Int×Int))(next:Int):Prop :=
 Canon out/\Canon rest/\(runeB next=true\/next=1114112)/\(∀y∈rest,next<=y.1)/\(∀x∈out,after x.2<next) /\
 (∀r,runeB r=true->memB out r=(decide (r<next)&&!memB l r))/\∀r,runeB r=true->next<=r->memB l r=memB rest r
theorem ninv_start {l:LQ}(h:Canon l):NInv l l [] 0:=by
 refine⟨canon_nil,h,.inl (by decide),λy b=>?_,by simp,λr a=>?_,λr _ _=>rfl⟩
 ·have:=(h.1 y b).1;rw[rune_iff]at this;omega
 ·rw[rune_iff]at a;have:¬r<0:=by omega
  simp[memB,this]
def putN (out:List (Int×Int))(next lo:Int):List (Int×Int):=out++if next<lo then[(next,before lo)]else[]
theorem ninv_step {l rest out:LQ}{next:Int}(h:NInv l (x::rest) out next):NInv l rest (putN out next x.1) (after x.2):=by
 obtain⟨A,t,K,s,g,G,b⟩:=h;obtain⟨v,L⟩:=canon_head t;have H:next<=x.1:=s x (by simp)
 have J:=(rune_iff _).1 v.1;have C:=(rune_iff _).1 v.2.1;have E:=v.2.2;have d:next<x.1->runeB next=true:=λc=>K.resolve_right (by omega)
 have i:next<x.1->Good (next,before x.1):=by
  intro c;have k:=(rune_iff _).1 (d c);refine⟨d c,?_,?_⟩
  ·rw[rune_iff];unfold before;simp only;split<;>omega
  ·show next<=before x.1
   unfold before;split<;>omega
 have n:next<x.1->after (before x.1)=x.1:=by
  intro c;have k:=(rune_iff _).1 (d c);unfold after before;split<;>split<;>omega
 refine⟨?_,mG t,?_,λy u=>?_,λz f=>?_,λr a=>?_,λr a B=>?_⟩
 ·unfold putN;split
  ·rename_i c;exact mH A (i c) λy u=>g y u
  ·simpa using A
 ·by_cases e:x.2=1114111
  ·right;rw[e];decide
  ·left;rw[rune_iff];unfold after;split<;>omega
 ·have:=L y u;omega
 ·have j:=jY x.2;unfold putN at f;rcases zM.1 f with f|f
  ·have:=g z f;omega
  ·split at f
   ·rename_i c;simp at f;subst f;show after (before x.1)<_;rw[n c];omega
   ·simp at f
 ·have M:memB (putN out next x.1) r=(memB out r||decide (next<=r/\r<x.1)):=by
   unfold putN;rw[mem_append];congr 1;rw[rune_iff]at a;rw[ze,decide_eq_true_iff]
   split
   ·rename_i c
    have k:=(rune_iff _).1 (d c);simp only[memB,List.any_cons,List.any_nil,Bool.or_false,in_iff];unfold before;split<;>omega
   ·simp only[memB,List.any_nil,yR,false_iff];omega
  rw[M,G r a];have o:(r<after x.2)↔r<=x.2:=by
   constructor
   ·intro h;by_cases e:x.2<r
    ·have:=vV a e;omega
    ·omega
   ·intro h;have:=jY x.2;omega
  by_cases j:r<next
  ·have F:r<after x.2:=o.2 (by omega);have D:¬(next<=r/\r<x.1):=by omega
   simp[j,F,D]
  ·have p:=b r a (by omega);rw[mem_cons]at p;by_cases N:r<x.1
   ·have w:memB l r=false:=by
     rw[p,Bool.or_eq_false_iff];refine⟨?_,vW t (by omega)⟩;rw[<-yI,in_iff];omega
    have q:r<after x.2:=o.2 (by omega);have m:next<=r/\r<x.1:=by omega
    simp[j,w,q,m]
   ·have m:¬(next<=r/\r<x.1):=by omega
    by_cases I:r<=x.2
    ·have w:memB l r=true:=by
      rw[p,(in_iff x r).2 (by omega)];rfl
     simp[j,w,m]
    ·have q:¬r<after x.2:=λh=>I (o.1 h);simp[j,q,m]
 ·have j:=jY x.2;rw[b r a (by omega),mem_cons];have:inB x r=false:=by rw[<-yI,in_iff];omega
  rw[this];rfl
def endN (out:List (Int×Int))(next:Int):List (Int×Int):=out++if next<=1114111 then[(next,1114111)]else[]
theorem ninv_end {l out:LQ}{next:Int}(h:NInv l [] out next):Canon (endN out next)/\∀r,runeB r=true->memB (endN out next) r=!memB l r:=by
 obtain⟨e,_,i,_,b,k,a⟩:=h;constructor
 ·unfold endN;split
  ·refine mH e ⟨i.resolve_right (by omega),by simp[runeB],by assumption⟩ λy g=>b y g
  ·simpa using e
 ·intro r c;unfold endN;rw[mem_append,k r c];by_cases d:r<next
  ·have:memB (if next<=1114111 then[(next,(1114111:Int))]else[]) r=false:=by
    split
    ·rw[oB];simp;omega
    ·rfl
   simp[d,this]
  ·have j:memB l r=false:=by rw[a r c (by omega)];rfl
   have f:=(rune_iff _).1 c;rw[zX (by omega)];have:memB [(next,(1114111:Int))] r=true:=by
    rw[mem_true];exact⟨(next,1114111),by simp,by show next<=r/\r<=1114111;omega⟩
   simp[d,j,this]
end Brm
namespace Brm
def up (n:Int):Int:=if n<55296 then n else if n<57344 then 55296 else n-2048
def down (n:Int):Int:=if n<55296 then n else if n<57344 then 55295 else n-2048
def back (n:Int):Int:=if n<55296 then n else n+2048
def PGood (x:Int×Int):Prop:=0<=x.1/\x.1<=x.2/\x.2<=1112063
def PCanon (l:List (Int×Int)):Prop:=(∀x∈l,PGood x)/\l.Pairwise λx y=>x.2+1<y.1
def told (l:List (Int×Int)):List (Int×Int):=l.map λx=>(back x.1,back x.2)
def place (n:Int):Prop:=0<=n/\n<=1112063
theorem oj:∀(a b:LQ),Canon a->Canon b->(∀r,runeB r=true->memB a r=memB b r)->a=b
 | [],[],_,_,_=>rfl
 | [],y::t,_,hb,h=>by
  have g:=(canon_head hb).1;have:=h y.1 g.1;rw[mem_cons,(in_iff y y.1).2 ⟨yv _,g.2.2⟩]at this;simp[memB]at this
 |x::s,[],ha,_,h=>by
  have g:=(canon_head ha).1;have:=h x.1 g.1;rw[mem_cons,(in_iff x x.1).2 ⟨yv _,g.2.2⟩]at this;simp[memB]at this
 |x::s,y::t,ha,hb,h=>by
  obtain⟨R,N⟩:=canon_head ha;obtain⟨O,M⟩:=canon_head hb;have k:∀{u v:Int×Int} {p q:LQ},Canon (u::p)->Canon (v::q)->(∀r,runeB r=true->memB (u::p) r=memB (v::q) r)->¬u.1<v.1:=by
   intro u v p q C o d m;obtain⟨l,_⟩:=canon_head C;obtain⟨n,J⟩:=canon_head o;have e:=d u.1 l.1;rw[mem_cons,(in_iff u u.1).2 ⟨yv _,l.2.2⟩,Bool.true_or]at e;obtain⟨z,i,w⟩:=mem_true.1 e.symm;rcases zO.1 i with rfl|i
   ·omega
   ·have:=J z i;have:=jY v.2;have:=n.2.2;omega
  have c:∀{u v:Int×Int} {p q:List (Int×Int)},Canon (u::p)->Canon (v::q)->u.1=v.1->(∀r,runeB r=true->memB (u::p) r=memB (v::q) r)->¬u.2<v.2:=by
   intro u v p q C o L d m;obtain⟨l,I⟩:=canon_head C;obtain⟨n,_⟩:=canon_head o;have P:=(rune_iff _).1 l.2.1;have K:=(rune_iff _).1 n.2.1;have f:after u.2<=v.2:=vV n.2.1 m;have j:runeB (after u.2)=true:=by rw[rune_iff];unfold after at f ⊢;split at f<;>omega
   have e:=d (after u.2) j;have D:=jY u.2;have Q:=l.2.2;rw[mem_cons (x:=v),(in_iff v _).2 ⟨by omega,f⟩,Bool.true_or]at e;obtain⟨z,i,w⟩:=mem_true.1 e;rcases zO.1 i with rfl|i
   ·omega
   ·have:=I z i;omega
  have E:∀r,runeB r=true->memB (y::t) r=memB (x::s) r:=λr j=>(h r j).symm;have B:x.1=y.1:=by have:=k ha hb h;have:=k hb ha E;omega
  have G:x.2=y.2:=by have:=c ha hb B h;have:=c hb ha B.symm E;omega
  have A:x=y:=Prod.ext B G;subst A;have:=oj s t (mG ha) (mG hb) λr j=>by
   have e:=h r j;rw[mem_cons,mem_cons]at e;by_cases F:inB x r=true
   ·have D:=(in_iff x r).1 F;rw[vW ha D.2,vW hb D.2]
   ·have H:inB x r=false:=by simpa using F
    simpa [H]using e
  rw[this]
theorem BW (h:runeB r=true):back (up r)=r/\place (up r)/\up r=down r:=by
 rw[rune_iff]at h;unfold back up down place;refine⟨?_,?_,?_⟩<;>(repeat' split)<;>omega
theorem lift_in (x:Int×Int)(r:Int)(hx:okB x=true)(hr:runeB r=true):inB (up x.1,down x.2) (up r)=inB x r:=by
 simp[okB]at hx;rw[rune_iff]at hr;rw[ze,in_iff,in_iff];simp only;unfold up down
 (repeat' split)<;>omega
theorem lift_good (x:Int×Int)(hx:okB x=true)(h:up x.1<=down x.2):PGood (up x.1,down x.2):=by
 simp[okB]at hx;unfold PGood;refine⟨?_,h,?_⟩<;>simp only<;>unfold up down at *<;>(repeat' split)<;>omega
theorem pcanon_nil:PCanon []:=⟨by simp,by simp⟩
theorem fL {l:LQ}(h:PCanon l):Canon (told l):=by
 refine⟨λx b=>?_,?_⟩
 ·obtain⟨y,a,rfl⟩:=yH.1 b;have g:=h.1 y a;unfold PGood at g;refine⟨?_,?_,?_⟩
  ·rw[rune_iff];simp only;unfold back;split<;>omega
  ·rw[rune_iff];simp only;unfold back;split<;>omega
  ·show back y.1<=back y.2;unfold back;split<;>split<;>omega
 ·unfold told;rw[List.pairwise_map];refine List.Pairwise.imp_of_mem ?_ h.2;intro x y b a d;have e:=h.1 x b;have c:=h.1 y a;unfold PGood at e c;show after (back x.2)<back y.1
  unfold after back
  (repeat' split)<;>omega
theorem gb {l:LQ}(h:PCanon l)(r:Int)(hr:runeB r=true):memB (told l) r=memB l (up r):=by
 rw[ze,mem_true,mem_true];rw[rune_iff]at hr;constructor
 ·rintro⟨x,d,a,c⟩;obtain⟨y,b,rfl⟩:=yH.1 d;have g:=h.1 y b;unfold PGood at g;refine⟨y,b,?_⟩;simp only at a c;unfold back at a c;unfold up
  (repeat' split at a)<;>(repeat' split at c)<;>(repeat' split)<;>omega
 ·rintro⟨y,b,a,c⟩;have g:=h.1 y b;unfold PGood at g;refine⟨_,List.mem_map_of_mem b,?_⟩;simp only;unfold up at a c;unfold back
  (repeat' split at a)<;>(repeat' split)<;>omega
def JInv (l:List (Int×Int))(x:Int×Int)(i0:Nat)(y:Int×Int)(i:Nat):Prop :=
 i0<=i/\i<=l.length/\PGood y/\(∀z∈l.take i0,z.2+1<y.1)/\(∀z∈l.drop i,y.1<=z.2+1) /\
 ∀n,(memB (l.take i0) n||inB y n||memB (l.drop i) n)=(memB l n||inB x n)
theorem om {l:LQ}{k:Nat}(h:PCanon l)(hx:l[k]?=some x):PGood x/\(∀z∈l.take k,z.2+1<x.1)/\∀z∈l.drop (k+1),x.2+1<z.1:=by
 obtain⟨b,e⟩:=zC.1 hx;have c:l.drop k=x::l.drop (k+1):=by rw[<-e];exact yC b
 have a:=yA.1 ((zj k l).symm▸h.2);rw[c]at a;exact⟨h.1 x (zU hx),λz d=>a.2.2 z d x (by simp),(yg.1 a.2.1).1⟩
theorem jinv_start {l:LQ}(hl:PCanon l)(hx:PGood x)(hi:i<=l.length)(h1:∀z∈l.take i,z.2+1<x.1)(h2:∀z,l[i]?=some z->x.1<=z.2+1):JInv l x i x i:=by
 refine⟨zA _,hi,hx,h1,λz a=>?_,λn=>?_⟩
 ·cases hy:l[i]? with
  |none=>
   have:l.length<=i:=List.getElem?_eq_none_iff.1 hy;rw[yh this]at a;simp at a
  |some y=>
   obtain⟨b,e⟩:=zC.1 hy;have c:l.drop i=y::l.drop (i+1):=by rw[<-e];exact yC b
   have f:=om hl hy;have d:=h2 y hy;rw[c]at a;rcases zO.1 a with rfl|a
   ·exact d
   ·have:=f.2.2 z a;have:=hl.1 z (List.mem_of_mem_drop a);unfold PGood at this;omega
 ·have:memB l n=(memB (l.take i) n||memB (l.drop i) n):=by rw[<-mem_append,zj]
  rw[this];cases memB (l.take i) n<;>cases inB x n<;>simp
def qu (y z:Int×Int):Int×Int:=(min y.1 z.1,max y.2 z.2)
theorem jinv_step {l:LQ}{y z:Int×Int}{i0:Nat}(hl:PCanon l)(h:JInv l x i0 y i)(hz:l[i]?=some z)(hle:z.1<=y.2+1):JInv l x i0 (qu y z) (i+1):=by
 obtain⟨p,r,o,j,c,q⟩:=h;obtain⟨g,e⟩:=zC.1 hz;have b:l.drop i=z::l.drop (i+1):=by rw[<-e];exact yC g
 obtain⟨f,m,s⟩:=om hl hz;have k:=c z (by rw[b];simp);unfold PGood at o f;refine⟨by omega,by omega,?_,λu a=>?_,λu a=>?_,λn=>?_⟩
 ·unfold PGood qu;simp only;omega
 ·have d:=j u a;have t:=m u (by
   have:l.take i0=(l.take i).take i0:=by rw[List.take_take,Nat.min_eq_left p]
   rw[this]at a;exact yi a)
  unfold qu;simp only;omega
 ·have d:=c u (by rw[b];exact yj _ a);unfold qu;simp only;omega
 ·rw[<-q n,b,mem_cons];have:inB (qu y z) n=(inB y n||inB z n):=by
   rw[ze,yZ,in_iff,in_iff,in_iff];unfold qu;simp only;omega
  rw[this];cases memB (l.take i0) n<;>cases inB y n<;>cases inB z n<;>simp
theorem jinv_end {l:LQ}{y:Int×Int}{i0:Nat}(hl:PCanon l)(h:JInv l x i0 y i)(he:∀z,l[i]?=some z->y.2+1<z.1) :
  PCanon (l.take i0++[y]++l.drop i)/\∀n,memB (l.take i0++[y]++l.drop i) n=(memB l n||inB x n):=by
 obtain⟨t,r,g,k,s,q⟩:=h;have f:∀z∈l.drop i,y.2+1<z.1:=by
  intro z c;cases hy:l[i]? with
  |none=>
   have:l.length<=i:=List.getElem?_eq_none_iff.1 hy;rw[yh this]at c;simp at c
  |some u=>
   obtain⟨m,e⟩:=zC.1 hy;have f:l.drop i=u::l.drop (i+1):=by rw[<-e];exact yC m
   have j:=om hl hy;have g:=he u hy;have o:=j.1;rw[f]at c;rcases zO.1 c with rfl|c
   ·exact g
   ·have:=j.2.2 z c;unfold PGood at o;omega
 refine⟨⟨λz c=>?_,?_⟩,λn=>?_⟩
 ·simp only[zM,yQ]at c;rcases c with (c|rfl)|c
  ·exact hl.1 z (yi c)
  ·exact g
  ·exact hl.1 z (List.mem_of_mem_drop c)
 ·have j:=yA.1 ((zj i l).symm▸hl.2);have p:=yA.1 ((zj i0 l).symm▸hl.2);rw[zc];refine yA.2 ⟨p.1,yA.2 ⟨by simp,j.2.1,λu d z c=>?_⟩,λu d z c=>?_⟩
  ·simp at d;subst d;exact f z c
  ·rcases zM.1 c with c|c
   ·simp at c;subst c;exact k u d
   ·have a:=k u d;have b:=f z c;unfold PGood at g;omega
 ·rw[mem_append,mem_append,<-q n];simp[memB]
def PInv (l rest out:List (Int×Int))(frm:Int):Prop :=
 PCanon out/\PCanon rest/\0<=frm/\frm<=1112064/\(∀y∈rest,frm<=y.1)/\(∀x∈out,x.2+1<frm) /\
 (∀n,place n->memB out n=(decide (n<frm)&&!memB l n))/\∀n,place n->frm<=n->memB l n=memB rest n
theorem vN {l:LQ}(h:PCanon l)(g:PGood x)(hl:∀y∈l,y.2+1<x.1):PCanon (l++[x]):=by
 refine⟨λy a=>?_,yA.2 ⟨h.2,by simp,λy a z b=>?_⟩⟩
 ·rcases zM.1 a with a|a
  ·exact h.1 y a
  ·simp at a;exact a▸g
 ·simp at b;subst b;exact hl y a
theorem pN {l:LQ}(h:PCanon (x::l)):PGood x/\(∀y∈l,x.2+1<y.1)/\PCanon l :=
 ⟨h.1 x (by simp),(yg.1 h.2).1,λy a=>h.1 y (yj _ a),(yg.1 h.2).2⟩
theorem pinv_start {l:LQ}(h:PCanon l):PInv l l [] 0:=by
 refine⟨pcanon_nil,h,by omega,by omega,λy a=>(h.1 y a).1,by simp,λn b=>?_,λn _ _=>rfl⟩;have:¬n<0:=by unfold place at b;omega
 simp[memB,this]
def putP (out:List (Int×Int))(frm lo:Int):List (Int×Int):=out++if frm<lo then[(frm,lo-1)]else[]
theorem pinv_step {l rest out:LQ}{frm:Int}(h:PInv l (x::rest) out frm):PInv l rest (putP out frm x.1) (x.2+1):=by
 obtain⟨r,w,E,H,o,c,u,a⟩:=h;obtain⟨D,s,j⟩:=pN w;unfold PGood at D;have v:=o x (by simp);refine⟨?_,j,by omega,by omega,λy d=>by have:=s y d;omega,λz b=>?_,λn g=>?_,λn g m=>?_⟩
 ·unfold putP;split
  ·exact vN r ⟨by simp only;omega,by simp only;omega,by simp only;omega⟩ λy d=>c y d
  ·simpa using r
 ·unfold putP at b;rcases zM.1 b with b|b
  ·have:=c z b;omega
  ·split at b
   ·simp at b;subst b;simp only;omega
   ·simp at b
 ·have A:memB (putP out frm x.1) n=(memB out n||decide (frm<=n/\n<x.1)):=by
   unfold putP;rw[mem_append];congr 1;rw[ze,decide_eq_true_iff]
   split
   ·simp only[memB,List.any_cons,List.any_nil,Bool.or_false,in_iff];omega
   ·simp only[memB,List.any_nil,yR,false_iff];omega
  rw[A,u n g];by_cases i:n<frm
  ·have C:n<x.2+1:=by omega
   have t:¬(frm<=n/\n<x.1):=by omega
   simp[i,C,t]
  ·have p:=a n g (by omega);rw[mem_cons]at p;have e:n<=x.2->memB rest n=false:=by
    intro m;rw[oB];intro y d B;have:=s y d;omega
   by_cases G:n<x.1
   ·have q:memB l n=false:=by
     rw[p,Bool.or_eq_false_iff];refine⟨?_,e (by omega)⟩;rw[<-yI,in_iff];omega
    have k:n<x.2+1:=by omega
    have f:frm<=n/\n<x.1:=by omega
    simp[i,q,k,f]
   ·have f:¬(frm<=n/\n<x.1):=by omega
    by_cases F:n<=x.2
    ·have q:memB l n=true:=by rw[p,(in_iff x n).2 (by omega)];rfl
     simp[i,q,f]
    ·have k:¬n<x.2+1:=by omega
     simp[i,k,f]
 ·rw[a n g (by omega),mem_cons];have:inB x n=false:=by rw[<-yI,in_iff];omega
  rw[this];rfl
def endP (out:List (Int×Int))(frm:Int):List (Int×Int):=out++if frm<=1112063 then[(frm,1112063)]else[]
theorem pinv_end {l out:LQ}{frm:Int}(h:PInv l [] out frm):PCanon (endP out frm)/\∀n,place n->memB (endP out frm) n=!memB l n:=by
 obtain⟨d,_,f,k,_,b,i,a⟩:=h;constructor
 ·unfold endP;split
  ·exact vN d ⟨f,by assumption,by simp⟩ λy g=>b y g
  ·simpa using d
 ·intro n c;unfold endP;rw[mem_append,i n c];unfold place at c;by_cases e:n<frm
  ·have:memB (if frm<=1112063 then[(frm,(1112063:Int))]else[]) n=false:=by
    split
    ·rw[oB];simp;omega
    ·rfl
   simp[e,this]
  ·have j:memB l n=false:=by rw[a n c (by omega)];rfl
   rw[zX (by omega)];have:memB [(frm,(1112063:Int))] n=true:=by
    rw[mem_true];exact⟨(frm,1112063),by simp,by show frm<=n/\n<=1112063;omega⟩
   simp[e,j,this]
end Brm
namespace Brm
def iD:List (Int×Int)->Int×Int->List (Int×Int)
 | [],x=>[x]
 |y::l,x=>if y.2+1<x.1 then y::iD l x else if x.2+1<y.1 then x::y::l else iD l (min y.1 x.1,max y.2 x.2)
theorem qC {l:LQ}(g:PGood x)(h:∀y∈l,x.2+1<y.1)(hl:PCanon l):PCanon (x::l) :=
 ⟨λy a=>by rcases zO.1 a with rfl|a;exact g;exact hl.1 y a,yg.2 ⟨h,hl.2⟩⟩
theorem sH (m:Int):∀(l:LQ) (x:Int×Int),(∀y∈l,m<y.1)->m<x.1->∀y∈iD l x,m<y.1
 | [],x,_,hx,y,a=>by simp[iD]at a;subst a;exact hx
 |z::l,x,hl,hx,y,a=>by
  have c:=hl z (by simp);have b:∀y∈l,m<y.1:=λy a=>hl y (yj _ a);unfold iD at a
  split at a
  ·rcases zO.1 a with rfl|a
   ·exact c
   ·exact sH m l x b hx y a
  ·split at a
   ·rcases zO.1 a with rfl|a
    ·exact hx
    ·exact hl y a
   ·exact sH m l _ b (by simp only;omega) y a
theorem pq:∀(l:LQ) (x:Int×Int),PCanon l->PGood x->PCanon (iD l x)
 | [],x,_,hx=>qC hx (by simp) pcanon_nil
 |z::l,x,hl,hx=>by
  obtain⟨c,d,b⟩:=pN hl;unfold iD
  split
  ·exact qC c (λy a=>sH _ l x (λy a=>d y a) (by assumption) y a) (pq l x b hx)
  ·split
   ·exact qC hx (λy a=>by
     rcases zO.1 a with rfl|a
     ·assumption
     ·have:=d y a;unfold PGood at c;omega) hl
   ·exact pq l _ b (by unfold PGood at *;simp only;omega)
theorem sI:∀(l:LQ) (x:Int×Int),PCanon l->PGood x->∀n,memB (iD l x) n=(memB l n||inB x n)
 | [],x,_,_,n=>by simp[iD,memB]
 |z::l,x,hl,hx,n=>by
  obtain⟨c,b,a⟩:=pN hl;unfold iD
  split
  ·rw[mem_cons,mem_cons,sI l x a hx,Bool.or_assoc]
  ·split
   ·rw[mem_cons,mem_cons,Bool.or_comm]
   ·have g:PGood (min z.1 x.1,max z.2 x.2):=by unfold PGood at *;simp only;omega
    rw[sI l _ a g,mem_cons];have:inB (min z.1 x.1,max z.2 x.2) n=(inB z n||inB x n):=by
     rw[ze,yZ,in_iff,in_iff,in_iff];unfold PGood at *;simp only;omega
    rw[this,Bool.or_comm (inB z n) (memB l n),Bool.or_assoc]
def mv (l:List (Int×Int))(x:Int×Int):List (Int×Int):=if up x.1<=down x.2 then iD l (up x.1,down x.2)else l
def gW (l:List (Int×Int)):List (Int×Int):=l.foldl mv []
theorem KW {l:LQ}(h:PCanon l)(hx:okB x=true):PCanon (mv l x):=by
 unfold mv;split
 ·exact pq _ _ h (lift_good x hx ‹_›)
 ·exact h
theorem Ru {l:LQ}(h:PCanon l)(hx:okB x=true)(hr:runeB r=true):memB (mv l x) (up r)=(memB l (up r)||inB x r):=by
 unfold mv;split
 ·rw[sI _ _ h (lift_good x hx ‹_›),lift_in x r hx hr]
 ·have:inB x r=false:=by
   rw[<-lift_in x r hx hr,<-yI,in_iff];simp only;omega
  rw[this,Bool.or_false]
theorem pr:∀(l out:LQ),PCanon out->(∀x∈l,okB x=true)->PCanon (l.foldl mv out)/\∀r,runeB r=true->memB (l.foldl mv out) (up r)=(memB out (up r)||memB l r)
 | [],out,h,_=>⟨h,λr _=>by simp[memB]⟩
 |x::l,out,h,hl=>by
  have b:=hl x (by simp);obtain⟨d,e⟩:=pr l (mv out x) (KW h b) (λy c=>hl y (yj _ c));exact⟨d,λr a=>by rw[List.foldl_cons,e r a,Ru h b a,mem_cons,Bool.or_assoc]⟩
theorem sJ {l:LQ}(h:∀x∈l,okB x=true):PCanon (gW l):=(pr l [] pcanon_nil h).1
theorem KX {l:LQ}(h:∀x∈l,okB x=true)(hr:runeB r=true):memB (gW l) (up r)=memB l r:=by
 rw[gW,(pr l [] pcanon_nil h).2 r hr];simp[memB]
def form (l:List (Int×Int)):List (Int×Int):=told (gW l)
theorem gm {l:LQ}(h:∀x∈l,okB x=true):IsForm l (form l) :=
 ⟨fL (sJ h),λr a=>by rw[form,gb (sJ h) r a,KX h a]⟩
theorem jC {l out:LQ}(hl:∀x∈l,okB x=true)(h:IsForm l out):out=form l :=
 oj _ _ h.1 (gm hl).1 (λr a=>by rw[h.2 r a,(gm hl).2 r a])
theorem Jd (h:Good x):okB x=true:=by
 obtain⟨a,b,c⟩:=h;rw[rune_iff]at a b;simp[okB];omega
theorem gJ {l:LQ}(h:Canon l):∀x∈l,okB x=true:=λx a=>Jd (h.1 x a)
theorem jf {l:LQ}(h:Canon l):form l=l:=(jC (gJ h) ⟨h,λ_ _=>rfl⟩).symm
def km:Int->List (Int×Int)->List (Int×Int)
 |next,[]=>if next<=1114111 then[(next,1114111)]else[]
 |next,x::l=>(if next<x.1 then[(next,before x.1)]else[])++km (after x.2) l
def dT (l:List (Int×Int)):List (Int×Int):=km 0 l
theorem xz (l:LQ):∀(rest out:LQ) (next:Int),NInv l rest out next->Canon (out++km next rest)/\∀r,runeB r=true->memB (out++km next rest) r=!memB l r
 | [],out,next,h=>ninv_end h
 |x::rest,out,next,h=>by
  have:=xz l rest _ _ (ninv_step h);unfold km;rw[<-zc];exact this
theorem lj {l:LQ}(h:Canon l):Canon (dT l)/\∀r,runeB r=true->memB (dT l) r=!memB l r:=by
 have:=xz l l [] 0 (ninv_start h);simpa [dT]using this
theorem ve {l out:LQ}(hl:Canon l)(h:Canon out)(hm:∀r,runeB r=true->memB out r=!memB l r):out=dT l :=
 oj _ _ h (lj hl).1 (λr a=>by rw[hm r a,(lj hl).2 r a])
end Brm
namespace Brm
inductive Pat where
 |set (s:List (Int×Int))
 |row (l:List Pat)
 |or (l:List Pat)
 |and (l:List Pat)
 |not (p:Pat)
 |many (p:Pat) (m n:Int)
 |group (p:Pat)
mutual
def Pat.deep:Pat->Nat
 |.set _=>0
 |.row l=>ce l
 |.or l=>ce l
 |.and l=>ce l
 |.not p=>p.deep+1
 |.many p _ _=>p.deep
 |.group p=>p.deep+1
def ce:List Pat->Nat
 | []=>0
 |p::l=>max p.deep (ce l)
end
mutual
def Pat.groups:Pat->Nat
 |.set _=>0
 |.row l=>groupsL l
 |.or l=>groupsL l
 |.and l=>groupsL l
 |.not p=>p.groups
 |.many p _ _=>p.groups
 |.group p=>p.groups+1
def groupsL:List Pat->Nat
 | []=>0
 |p::l=>p.groups+groupsL l
end
theorem mK (l:List Pat)(p:Pat):ce (l++[p])=max (ce l) p.deep:=by
 induction l with
 |nil=>simp[ce]
 |cons q l ih=>simp only[zV,ce,ih];omega
theorem iU (l:List Pat)(p:Pat):groupsL (l++[p])=groupsL l+p.groups:=by
 induction l with
 |nil=>simp[groupsL]
 |cons q l ih=>simp only[zV,groupsL,ih];omega
def cI (c:Int):Bool:=[124,38,126,42,43,63,123,125,46,92,91,93,40,41].contains c
def ej (c:Int):Bool:=[91,93,92,45,94].contains c
def cQ (c:Int):Bool:=[124,38,126,42,43,63,123,125,46,92,91,93,40,41,45,94,110,116,114].contains c
def cF (c:Int):Bool:=[100,119,115,68,87,83].contains c
def bU (c:Int):Int:=if c=110 then 10 else if c=116 then 9 else if c=114 then 13 else c
def jI:List (Int×Int):=[(48,57)]
def jT:List (Int×Int):=[(48,57),(65,90),(95,95),(97,122)]
def jJ:List (Int×Int):=[(9,10),(13,13),(32,32)]
def eF (c:Int):List (Int×Int) :=
 if c=100 then jI else if c=119 then jT else if c=115 then jJ else if c=68 then dT jI else if c=87 then dT jT else dT jJ
def tm:List (Int×Int):=dT [(10,10)]
inductive Res (α:Type) where
 |ok (a:α) (s:List Int)
 |bad (s:List Int)
def Res.left :Res α->List Int
 |.ok _ s=>s
 |.bad s=>s
def Res.bind (r:Res α)(f:α->List Int->Res β):Res β:=match r with|.ok a s=>f a s|.bad s=>.bad s
def Res.map (f:α->β)(r:Res α):Res β:=match r with|.ok a s=>.ok (f a) s|.bad s=>.bad s
def fu (least:Int):List Int->Res Int
 | []=>.bad []
 |c::s=>if cQ c&&decide (least<=bU c)then .ok (bU c) s else .bad (c::s)
def bM (least:Int):List Int->Res Int
 | []=>.bad []
 |c::s=>if c=92 then (if least<=126 then fu least s else .bad (c::s))else if !ej c&&decide (least<=c)then .ok c s else .bad (c::s)
def bS (a:Int):List Int->Res (List (Int×Int))
 | []=>.ok [(a,a)] []
 |c::s=>if c=45 then (bM a s).map λb=>[(a,b)]else .ok [(a,a)] (c::s)
def dx (s:List Int):Res (Int ⊕ List (Int×Int)):=match s with
 | []=>.bad []
 |c::s=>if cQ c then .ok (.inl (bU c)) s else if cF c then .ok (.inr (eF c)) s else .bad (c::s)
def cq:List Int->Res (List (Int×Int))
 | []=>.bad []
 |c::s=>if c=92 then (dx s).bind λe s'=>match e with|.inl a=>bS a s'|.inr l=>.ok l s'
  else if ej c then .bad (c::s)else bS c s
def ba:Nat->List (Int×Int)->List Int->Res (List (Int×Int))
 |0,_,s=>.bad s
 |n+1,l,s=>if s.head?=some 93 then .ok l s.tail else (cq s).bind λx s'=>ba n (l++x) s'
def cJ (s:List Int):Res (List (Int×Int)) :=
 if s.head?=some 94 then (ba (s.length+1) [] s.tail).map λl=>dT (form l)else (ba (s.length+1) [] s).map form
def ct (least:Int):List Int->Res Int
 | []=>.bad []
 |c::s=>if 48+least<=c/\c<=53 then .ok (c-48) s else .bad (c::s)
def bV (a:α)(c:Int)(s:List Int):Res α:=if s.head?=some c then .ok a s.tail else .bad s
def bh (s:List Int):Res (Int×Int):=(ct 0 s).bind λm s1=>
 if s1.head?=some 44 then (if s1.tail.head?=some 125 then .ok (m,-1) s1.tail.tail else (ct m s1.tail).bind λn s2=>bV (m,n) 125 s2)
 else bV (m,m) 125 s1
def da (c:Int):Bool:=[42,43,63,123].contains c
def dn:List Int->Res (Int×Int)
 | []=>.bad []
 |c::s=>if c=42 then .ok (0,-1) s else if c=43 then .ok (1,-1) s else if c=63 then .ok (0,1) s else if c=123 then bh s else .bad (c::s)
def df (f:Int->Bool)(s:List Int):Bool:=match s with|[]=>false|c::_=>f c
def aY:Nat->Pat->List Int->Res Pat
 |0,_,s=>.bad s
 |n+1,x,s=>if df da s then (dn s).bind λmn s'=>aY n (.many x mn.1 mn.2) s' else .ok x s
def dy (rec:List Int->Res Pat):List Int->Res Pat
 | []=>.bad []
 |c::s=>
  if c=40 then (rec s).bind λp s'=>bV (.group p) 41 s'
  else if c=91 then (cJ s).map .set
  else if c=46 then .ok (.set tm) s
  else if c=92 then (dx s).map λe=>match e with|.inl a=>.set [(a,a)]|.inr l=>.set l
  else if cI c then .bad (c::s)else .ok (.set [(c,c)]) s
def dR (rec:List Int->Res Pat)(s:List Int):Res Pat:=(dy rec s).bind λx s'=>aY (s'.length+1) x s'
def dg (rec:List Int->Res Pat):List Int->Res Pat
 | []=>dR rec []
 |c::s=>if c=126 then (dg rec s).map .not else dR rec (c::s)
def mw (c:Int):Bool:=[124,38,41].contains c
def lR (c:Int):Bool:=[42,43,63,123,125,93].contains c
def il (lax:Bool)(s:List Int):Bool:=match s with|[]=>true|c::_=>mw c||(lax&&lR c)
def cG (lax:Bool)(rec:List Int->Res Pat):Nat->List Pat->List Int->Res Pat
 |0,_,s=>.bad s
 |n+1,l,s=>if il lax s then .ok (.row l) s else (dg rec s).bind λp s'=>cG lax rec n (l++[p]) s'
def fR (lax:Bool)(rec:List Int->Res Pat)(s:List Int):Res Pat:=cG lax rec (s.length+1) [] s
def bE (part:List Int->Res Pat)(sign:Int)(mk:List Pat->Pat):Nat->List Pat->List Int->Res Pat
 |0,_,s=>.bad s
 |n+1,l,s=>(part s).bind λp s'=>if s'.head?=some sign then bE part sign mk n (l++[p]) s'.tail else .ok (mk (l++[p])) s'
def gP (lax:Bool)(rec:List Int->Res Pat)(s:List Int):Res Pat:=bE (fR lax rec) 38 .and (s.length+1) [] s
def JE (lax:Bool)(rec:List Int->Res Pat)(s:List Int):Res Pat:=bE (gP lax rec) 124 .or (s.length+1) [] s
def aU (lax:Bool):Nat->List Int->Res Pat
 |0,s=>.bad s
 |n+1,s=>JE lax (aU lax n) s
def mA (s' s:List Int):Prop:=s'.length<s.length/\s' <:+ s
theorem tn {s:LZ}:mA s (c::s):=⟨by simp,yS c s⟩
theorem SJ {a b c:LZ}(h:mA a b)(k:b <:+ c):mA a c:=⟨zF h.1 k.length_le,h.2.trans k⟩
theorem SL {a b c:LZ}(h:a <:+ b)(k:mA b c):mA a c:=⟨Nat.lt_of_le_of_lt h.length_le k.1,h.trans k.2⟩
theorem kg (s:LZ):s.tail <:+ s:=List.tail_suffix s
theorem cR {s:LZ}(h:s.head?=some c):mA s.tail s:=by
 cases s with
 |nil=>simp at h
 |cons d s=>exact tn
def cV (r:Res α)(s:List Int):Prop:=match r with|.ok _ s'=>mA s' s|.bad s'=>s' <:+ s
def cN (r:Res α)(s:List Int):Prop:=match r with|.ok _ s'=>s' <:+ s|.bad s'=>s' <:+ s
theorem cV.goes {r:Res α}{s:LZ}(h:cV r s):cN r s:=by cases r with|ok a s'=>exact h.2|bad s'=>exact h
theorem cN.tail {r:Res α}{s t:LZ}(h:cN r s)(k:mA s t):cV r t:=by cases r with|ok a s'=>exact SL h k|bad s'=>exact List.IsSuffix.trans h k.2
theorem cV.suf {r:Res α}{s t:LZ}(h:cV r s)(k:s <:+ t):cV r t:=by cases r with|ok a s'=>exact SJ h k|bad s'=>exact List.IsSuffix.trans h k
theorem cN.suf {r:Res α}{s t:LZ}(h:cN r s)(k:s <:+ t):cN r t:=by cases r with|ok a s'=>exact List.IsSuffix.trans h k|bad s'=>exact List.IsSuffix.trans h k
theorem cV.map {α β:Type}{r:Res α}{s:LZ}(f:α->β)(h:cV r s):cV (r.map f) s:=by cases r<;>exact h
theorem cV.bind {α β:Type}{r:Res α}{f:α->List Int->Res β}{s:LZ}(h:cV r s)(k:∀a s',mA s' s->cN (f a s') s'):cV (r.bind f) s:=by
 cases r with
 |ok a s'=>exact (k a s' h).tail h
 |bad s'=>exact h
theorem cN.bind {α β:Type}{r:Res α}{f:α->List Int->Res β}{s:LZ}(h:cN r s)(k:∀a s',s' <:+ s->cN (f a s') s'):cN (r.bind f) s:=by
 cases r with
 |ok a s'=>exact (k a s' h).suf h
 |bad s'=>exact h
theorem cN.bind_takes {r:Res α}{f:α->List Int->Res β}{s:LZ}(h:cN r s)(k:∀a s',s' <:+ s->cV (f a s') s'):cV (r.bind f) s:=by
 cases r with
 |ok a s'=>exact (k a s' h).suf h
 |bad s'=>exact h
theorem mV (a:α)(s:LZ):cN (.ok a s) s:=List.suffix_refl s
theorem qV (s:LZ):cN (.bad s:Res α) s:=List.suffix_refl s
theorem takes_bad (s:LZ):cV (.bad s:Res α) s:=List.suffix_refl s
theorem fS (a:α)(c:Int)(s:LZ):cV (.ok a s) (c::s):=tn
theorem Hz (least:Int)(s:LZ):cV (fu least s) s:=by
 cases s with
 |nil=>exact takes_bad _
 |cons c s=>simp only[fu];split;exact fS _ _ _;exact takes_bad _
theorem jU (least:Int)(s:LZ):cV (bM least s) s:=by
 cases s with
 |nil=>exact takes_bad _
 |cons c s=>
  simp only[bM]
  split
  ·split
   ·exact (Hz _ _).suf (yS _ _)
   ·exact takes_bad _
  ·split
   ·exact fS _ _ _
   ·exact takes_bad _
theorem vm (a:Int)(s:LZ):cN (bS a s) s:=by
 cases s with
 |nil=>exact mV _ _
 |cons c s=>
  simp only[bS]
  split
  ·exact ((jU _ _).map _).goes.suf (yS _ _)
  ·exact mV _ _
theorem qW (s:LZ):cV (dx s) s:=by
 cases s with
 |nil=>exact takes_bad _
 |cons c s=>simp only[dx];split;exact fS _ _ _;split;exact fS _ _ _;exact takes_bad _
theorem fT (s:LZ):cV (cq s) s:=by
 cases s with
 |nil=>exact takes_bad _
 |cons c s=>
  simp only[cq]
  split
  ·refine cV.suf ((qW s).bind λe b _=>?_) (yS _ _);cases e with
   |inl a=>exact vm _ _
   |inr l=>exact mV _ _
  ·split
   ·exact takes_bad _
   ·exact (vm _ _).tail tn
theorem nM:∀(n:Nat) (l:LQ) (s:LZ),cV (ba n l s) s
 |0,_,s=>takes_bad s
 |n+1,l,s=>by
  unfold ba
  split
  ·rename_i h;exact cR h
  ·exact (fT s).bind λx a _=>(nM n _ a).goes
theorem gw (s:LZ):cV (cJ s) s:=by
 unfold cJ
 split
 ·exact ((nM _ _ _).map _).suf (kg s)
 ·exact (nM _ _ _).map _
theorem tp (least:Int)(s:LZ):cV (ct least s) s:=by
 cases s with
 |nil=>exact takes_bad _
 |cons c s=>simp only[ct];split;exact fS _ _ _;exact takes_bad _
theorem nN (a:α)(c:Int)(s:LZ):cV (bV a c s) s:=by
 unfold bV;split
 ·rename_i h;exact cR h
 ·exact takes_bad _
theorem rU (s:LZ):cV (bh s) s:=by
 unfold bh;refine (tp 0 s).bind λm a _=>?_
 split
 ·rename_i h
  split
  ·rename_i h2;exact ((cR h2).2).trans (kg a)
  ·exact ((tp m a.tail).bind λn b _=>(nN _ _ _).goes).goes.suf (kg a)
 ·exact (nN _ _ _).goes
theorem fq (s:LZ):cV (dn s) s:=by
 cases s with
 |nil=>exact takes_bad _
 |cons c s=>
  simp only[dn]
  split;exact fS _ _ _
  split;exact fS _ _ _
  split;exact fS _ _ _
  split;exact (rU s).suf (yS _ _)
  exact takes_bad _
theorem rV:∀(n:Nat) (x:Pat) (s:LZ),cN (aY n x s) s
 |0,_,s=>qV s
 |n+1,x,s=>by
  unfold aY
  split
  ·exact ((fq s).bind λb a _=>rV n _ a).goes
  ·exact mV _ _
theorem Ia {rec:List Int->Res Pat}(hr:∀s,cN (rec s) s)(s:LZ):cV (dy rec s) s:=by
 cases s with
 |nil=>exact takes_bad _
 |cons c s=>
  simp only[dy]
  split
  ·exact cV.suf (cN.bind_takes (hr s) λp a _=>nN _ _ _) (yS _ _)
  split
  ·exact ((gw s).map _).suf (yS _ _)
  split
  ·exact fS _ _ _
  split
  ·exact ((qW s).map _).suf (yS _ _)
  split
  ·exact takes_bad _
  ·exact fS _ _ _
theorem vn {rec:List Int->Res Pat}(hr:∀s,cN (rec s) s)(s:LZ):cV (dR rec s) s:=(Ia hr s).bind λx a _=>rV _ x a
theorem kJ {rec:List Int->Res Pat}(hr:∀s,cN (rec s) s):∀(s:LZ),cV (dg rec s) s
 | []=>vn hr []
 |c::s=>by
  simp only[dg]
  split
  ·exact ((kJ hr s).map _).suf (yS _ _)
  ·exact vn hr _
theorem tq {lax:Bool}{rec:List Int->Res Pat}(hr:∀s,cN (rec s) s):∀(n:Nat) (l:List Pat) (s:LZ),cN (cG lax rec n l s) s
 |0,_,s=>qV s
 |n+1,l,s=>by
  unfold cG
  split
  ·exact mV _ _
  ·exact ((kJ hr s).bind λp a _=>tq hr n _ a).goes
theorem mB {part:List Int->Res Pat}{sign:Int}{mk:List Pat->Pat}(hp:∀s,cN (part s) s):∀(n:Nat) (l:List Pat) (s:LZ),cN (bE part sign mk n l s) s
 |0,_,s=>qV s
 |n+1,l,s=>by
  unfold bE;refine (hp s).bind λp a _=>?_
  split
  ·exact (mB hp n _ _).suf (kg a)
  ·exact mV _ _
theorem oO {rec:List Int->Res Pat}(hr:∀s,cN (rec s) s)(s:LZ):cN (fR lax rec s) s:=tq hr _ _ _
theorem oP {rec:List Int->Res Pat}(hr:∀s,cN (rec s) s)(s:LZ):cN (gP lax rec s) s:=mB (oO hr) _ _ _
theorem SM {rec:List Int->Res Pat}(hr:∀s,cN (rec s) s)(s:LZ):cN (JE lax rec s) s:=mB (oP hr) _ _ _
theorem fU (lax:Bool):∀(n:Nat) (s:LZ),cN (aU lax n s) s
 |0,s=>qV s
 |n+1,s=>SM (fU lax n) s
theorem eZ {r:LZ}(h:r.head?=some c):r=c::r.tail:=by
 cases r with
 |nil=>simp at h
 |cons x t=>simp at h;rw[h];rfl
end Brm
namespace Brm
def oq (r:Res Pat):Res Pat:=match r with|.ok p s=>if df lR s then .bad s else .ok p s|.bad s=>.bad s
theorem vO (h:lR c=true):c=42\/c=43\/c=63\/c=123\/c=125\/c=93:=by simpa [lR]using h
theorem QD {r r':Res Pat}(f:Pat->Pat)(h:r=oq r'):(r.bind λp s'=>bV (f p) 41 s')=r'.bind λp s'=>bV (f p) 41 s':=by
 subst h;cases r' with
 |bad s=>rfl
 |ok p s=>
  unfold oq;simp only
  split
  ·rename_i hl
   cases s with
   |nil=>simp[df]at hl
   |cons c s=>
    have:¬c=41:=by rcases vO hl with rfl|rfl|rfl|rfl|rfl|rfl<;>decide
    simp[Res.bind,bV,this]
  ·rfl
theorem Ux {f g:List Int->Res Pat}(h:∀s,f s=oq (g s))(s:LZ):dy f s=dy g s:=by
 cases s with
 |nil=>rfl
 |cons c s=>
  simp only[dy]
  split
  ·exact QD .group (h s)
  ·rfl
theorem GR {f g:List Int->Res Pat}(h:∀s,f s=oq (g s))(s:LZ):dR f s=dR g s:=by unfold dR;rw[Ux h]
theorem Kw {f g:List Int->Res Pat}(h:∀s,f s=oq (g s)):∀(s:LZ),dg f s=dg g s
 | []=>GR h []
 |c::s=>by
  simp only[dg]
  split
  ·rw[Kw h s]
  ·exact GR h _
theorem QE {f:List Int->Res Pat}{s:LZ}(h:lR c=true):dg f (c::s)=.bad (c::s):=by
 rcases vO h with rfl|rfl|rfl|rfl|rfl|rfl<;>rfl
theorem BY (h:mw c=true):lR c=false:=by
 have:c=124\/c=38\/c=41:=by simpa [mw]using h
 rcases this with rfl|rfl|rfl<;>rfl
theorem Kx {f g:List Int->Res Pat}(h:∀s,f s=oq (g s)):∀(n:Nat) (l:List Pat) (s:LZ),cG false f n l s=oq (cG true g n l s)
 |0,_,_=>rfl
 |n+1,l,s=>by
  unfold cG;cases s with
  |nil=>simp[il,oq,df]
  |cons c s=>
   simp only[il];by_cases a:mw c=true
   ·simp[oq,df,BY a,a]
   ·by_cases b:lR c=true
    ·simp[QE b,oq,df,b,a,Res.bind]
    ·simp only[a,b,Bool.false_and,Bool.or_self,Bool.true_and,yR,if_false];rw[Kw h];cases dg g (c::s)with
     |bad s'=>rfl
     |ok p s'=>exact Kx h n _ s'
theorem xl {f g:List Int->Res Pat}{sign:Int}{mk:List Pat->Pat}(hs:lR sign=false)(h:∀s,f s=oq (g s)):∀(n:Nat) (l:List Pat) (s:LZ),bE f sign mk n l s=oq (bE g sign mk n l s)
 |0,_,_=>rfl
 |n+1,l,s=>by
  unfold bE;rw[h s];cases hg:g s with
  |bad s'=>rfl
  |ok p s'=>
   unfold oq;simp only;cases hl:df lR s' with
   |true=>
    have:¬s'.head?=some sign:=by
     intro e;cases s' with
     |nil=>simp at e
     |cons c t=>simp at e;subst e;simp[df,hs]at hl
    simp[Res.bind,this,hl]
   |false=>
    simp only[yR,if_false,Res.bind]
    split
    ·exact xl hs h n _ _
    ·simp[hl]
theorem Ba:∀(n:Nat) (s:LZ),aU false n s=oq (aU true n s)
 |0,_=>rfl
 |n+1,s=>xl rfl (λs=>xl rfl (λs=>Kx (Ba n) _ _ s) _ _ s) _ _ s
end Brm
