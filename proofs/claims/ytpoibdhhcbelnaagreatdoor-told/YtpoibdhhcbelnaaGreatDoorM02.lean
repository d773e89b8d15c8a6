/- Walks and plain laws, some texts in one. -/
namespace Go.Proofs.YtpoibdhhcbelnaaGreatDoor
namespace Brm
def runeB (r:Int):Bool:=decide (0<=r/\r<=55295\/57344<=r/\r<=1114111)
def after (r:Int):Int:=if r=55295 then 57344 else r+1
def before (r:Int):Int:=if r=57344 then 55295 else r-1
def inB (x:Int×Int)(r:Int):Bool:=decide (x.1<=r/\r<=x.2)
def memB (l:List (Int×Int))(r:Int):Bool:=l.any fun x=>inB x r
def okB (x:Int×Int):Bool:=decide (0<=x.1/\x.2<=1114111/\x.1<=x.2)
def setB (l:List (Int×Int)):Bool:=decide (l.length<=40) && l.all okB
def clip (x:Int×Int):Int×Int:=(if runeB x.1=true then x.1 else 57344,if runeB x.2=true then x.2 else 55295)
def riseB (x:Int×Int):Bool:=decide (x.1<=x.2)
def runes (l:List (Int×Int)):List (Int×Int):=(l.map clip).filter riseB
def Good (x:Int×Int):Prop:=runeB x.1=true/\runeB x.2=true/\x.1<=x.2
def Canon (l:List (Int×Int)):Prop:=(∀ x∈l,Good x)/\l.Pairwise fun x y=>after x.2<y.1
def IsForm (l out:List (Int×Int)):Prop:=Canon out/\∀ r,runeB r=true->memB out r=memB l r
theorem rune_iff (r:Int):runeB r=true↔(0<=r/\r<=55295\/57344<=r/\r<=1114111):=by simp [runeB]
theorem in_iff (x:Int×Int)(r:Int):inB x r=true↔x.1<=r/\r<=x.2:=by simp [inB]
theorem mem_cons (x:Int×Int)(l:List (Int×Int))(r:Int):memB (x::l) r=(inB x r || memB l r):=by simp [memB]
theorem mem_append (a b:List (Int×Int))(r:Int):memB (a++b) r=(memB a r || memB b r):=by simp [memB]
theorem mem_true {l:List (Int×Int)}{r:Int}:memB l r=true↔∃ x∈l,x.1<=r/\r<=x.2:=by simp [memB,inB]
theorem mem_false {l:List (Int×Int)}{r:Int}:memB l r=false↔∀ x∈l,¬ (x.1<=r/\r<=x.2):=by
  rw [<- Bool.not_eq_true,mem_true];simp
theorem canon_nil:Canon []:=⟨by simp,by simp⟩
theorem canon_tail {x:Int×Int}{l:List (Int×Int)}(h:Canon (x::l)):Canon l :=
  ⟨fun y hy=>h.1 y (List.mem_cons_of_mem _ hy),(List.pairwise_cons.1 h.2).2⟩
theorem canon_head {x:Int×Int}{l:List (Int×Int)}(h:Canon (x::l)):Good x/\∀ y∈l,after x.2<y.1 :=
  ⟨h.1 x (by simp),(List.pairwise_cons.1 h.2).1⟩
theorem canon_snoc {x:Int×Int}{l:List (Int×Int)}(h:Canon l)(g:Good x)(hl:∀ y∈l,after y.2<x.1):Canon (l++[x]):=by
  refine ⟨fun y hy=>?_,List.pairwise_append.2 ⟨h.2,by simp,fun y hy z hz=>?_⟩⟩
  · rcases List.mem_append.1 hy with hy | hy
    · exact h.1 y hy
    · simp at hy;exact hy▸g
  · simp at hz;subst hz;exact hl y hy
theorem after_le {a r:Int}(hr:runeB r=true)(h:a<r):after a<=r:=by
  rw [rune_iff] at hr;unfold after;split<;>omega
theorem rise_iff (x:Int×Int):riseB x=true↔x.1<=x.2:=by simp [riseB]
theorem lt_after (a:Int):a<after a:=by unfold after;split<;>omega
theorem perm_mem {a b:List (Int×Int)}(h:a.Perm b)(r:Int):memB a r=memB b r:=by
  rw [Bool.eq_iff_iff,mem_true,mem_true]
  exact ⟨fun ⟨x,hx,e⟩=>⟨x,h.mem_iff.1 hx,e⟩,fun ⟨x,hx,e⟩=>⟨x,h.mem_iff.2 hx,e⟩⟩
theorem clip_in (x:Int×Int)(r:Int)(hx:okB x=true)(hr:runeB r=true):inB (clip x) r=inB x r:=by
  simp [okB] at hx
  rw [rune_iff] at hr
  rw [Bool.eq_iff_iff,in_iff,in_iff]
  unfold clip
  by_cases h1:runeB x.1=true<;>by_cases h2:runeB x.2=true<;>simp only [h1,h2,if_true,if_false,Bool.false_eq_true]<;>rw [rune_iff] at h1 h2<;>omega
theorem clip_good (x:Int×Int)(h:riseB (clip x)=true):Good (clip x):=by
  simp [riseB] at h
  refine ⟨?_,?_,h⟩<;>unfold clip<;>simp only<;>split<;>first | assumption | decide
theorem runes_good (l:List (Int×Int)):∀ x∈runes l,Good x:=by
  intro x hx
  simp only [runes,List.mem_filter,List.mem_map] at hx
  obtain ⟨⟨y,_,rfl⟩,h⟩:=hx
  exact clip_good y h
theorem runes_snoc (l:List (Int×Int))(x:Int×Int):runes (l++[x])=runes l++if riseB (clip x)=true then [clip x] else []:=by
  simp only [runes,List.map_append,List.filter_append,List.map_cons,List.map_nil,List.filter_cons,List.filter_nil]
theorem runes_length (l:List (Int×Int)):(runes l).length<=l.length:=by
  unfold runes;have:=List.length_filter_le riseB (l.map clip);simpa using this
theorem runes_mem (l:List (Int×Int))(r:Int)(hl:∀ x∈l,okB x=true)(hr:runeB r=true):memB (runes l) r=memB l r:=by
  induction l with
  | nil=>rfl
  | cons x t ih =>
    have ih':=ih (fun y hy=>hl y (List.mem_cons_of_mem _ hy))
    have hx:=clip_in x r (hl x (by simp)) hr
    have e:runes (x::t)=(if riseB (clip x)=true then [clip x] else [])++runes t:=by
      simp only [runes,List.map_cons,List.filter_cons];split<;>simp
    rw [e,mem_append,mem_cons,ih',<- hx]
    split
    · simp [memB]
    · rename_i h
      have:inB (clip x) r=false:=by
        rw [<- Bool.not_eq_true,in_iff];simp [riseB] at h;omega
      simp [this,memB]
theorem form_new {d out:List (Int×Int)}{x:Int×Int}(hc:Canon out)(hm:∀ r,runeB r=true->memB out r=memB d r)(g:Good x)
    (hn:out=[]\/∃ p last,out=p++[last]/\after last.2<x.1) :
    Canon (out++[x])/\∀ r,runeB r=true->memB (out++[x]) r=memB (d++[x]) r:=by
  refine ⟨canon_snoc hc g ?_,fun r hr=>by rw [mem_append,mem_append,hm r hr]⟩
  rcases hn with rfl | ⟨p,last,rfl,hl⟩
  · simp
  · intro y hy
    rcases List.mem_append.1 hy with hy | hy
    · have h1:=(List.pairwise_append.1 hc.2).2.2 y hy last (by simp)
      have h2:=(hc.1 last (by simp)).2.2
      have:=lt_after last.2
      omega
    · simp at hy;exact hy▸hl
theorem form_join {d p:List (Int×Int)}{last x:Int×Int}(hc:Canon (p++[last]))(hm:∀ r,runeB r=true->memB (p++[last]) r=memB d r)(g:Good x)
    (h1:last.1<=x.1) (h2:x.1<=after last.2) :
    Canon (p++[(last.1,max last.2 x.2)])/\∀ r,runeB r=true->memB (p++[(last.1,max last.2 x.2)]) r=memB (d++[x]) r:=by
  have gl:=hc.1 last (by simp)
  have cp:Canon p:=⟨fun y hy=>hc.1 y (by simp [hy]),(List.pairwise_append.1 hc.2).1⟩
  refine ⟨canon_snoc cp ⟨gl.1,?_,?_⟩ fun y hy=>(List.pairwise_append.1 hc.2).2.2 y hy last (by simp),fun r hr=>?_⟩
  · show runeB (max last.2 x.2)=true
    rw [Int.max_def];split
    · exact g.2.1
    · exact gl.2.1
  · show last.1<=max last.2 x.2
    have:=gl.2.2;omega
  · have:=hm r hr
    rw [mem_append] at this
    rw [mem_append,mem_append,<- this,Bool.or_assoc]
    congr 1
    simp only [memB,List.any_cons,List.any_nil,Bool.or_false]
    rw [Bool.eq_iff_iff,Bool.or_eq_true,in_iff,in_iff,in_iff]
    have ha:last.2<r->after last.2<=r:=after_le hr
    have:=gl.2.2
    have:=g.2.2
    simp only
    omega
def AInv (a b a' b' out:List (Int×Int)):Prop :=
  Canon out/\Canon a'/\Canon b'/\(∀ r,runeB r=true->(memB out r || (memB a' r && memB b' r))=(memB a r && memB b r)) /\
  ∀ x∈out,(∀ y∈a',after x.2<y.1)\/∀ y∈b',after x.2<y.1
def both (x y:Int×Int):Int×Int:=(max x.1 y.1,min x.2 y.2)
theorem tail_out {x:Int×Int}{l:List (Int×Int)}{r:Int}(h:Canon (x::l))(hr:r<=x.2):memB l r=false:=by
  rw [mem_false]
  intro y hy hc
  have:=(canon_head h).2 y hy
  have:=lt_after x.2
  omega
def putB (out:List (Int×Int))(x y:Int×Int):List (Int×Int):=out++if riseB (both x y)=true then [both x y] else []
def NInv (l rest out:List (Int×Int))(next:Int):Prop :=
  Canon out/\Canon rest/\(runeB next=true\/next=1114112)/\(∀ y∈rest,next<=y.1)/\(∀ x∈out,after x.2<next) /\
  (∀ r,runeB r=true->memB out r=(decide (r<next) && !memB l r))/\∀ r,runeB r=true->next<=r->memB l r=memB rest r
theorem ninv_start {l:List (Int×Int)}(h:Canon l):NInv l l [] 0:=by
  refine ⟨canon_nil,h,.inl (by decide),fun y hy=>?_,by simp,fun r hr=>?_,fun r _ _=>rfl⟩
  · have:=(h.1 y hy).1;rw [rune_iff] at this;omega
  · rw [rune_iff] at hr
    have:¬ r<0:=by omega
    simp [memB,this]
def putN (out:List (Int×Int))(next lo:Int):List (Int×Int):=out++if next<lo then [(next,before lo)] else []
theorem ninv_step {l rest out:List (Int×Int)}{next:Int}{x:Int×Int}(h:NInv l (x::rest) out next):NInv l rest (putN out next x.1) (after x.2):=by
  obtain ⟨hc,hr,hn,hlo,hout,hm,hrest⟩:=h
  obtain ⟨gx,hx⟩:=canon_head hr
  have hnx:next<=x.1:=hlo x (by simp)
  have rx1:=(rune_iff _).1 gx.1
  have rx2:=(rune_iff _).1 gx.2.1
  have hle:=gx.2.2
  have hnr:next<x.1->runeB next=true:=fun hl=>hn.resolve_right (by omega)
  have hgood:next<x.1->Good (next,before x.1):=by
    intro hl
    have hn':=(rune_iff _).1 (hnr hl)
    refine ⟨hnr hl,?_,?_⟩
    · rw [rune_iff];unfold before;simp only;split<;>omega
    · show next<=before x.1
      unfold before;split<;>omega
  have hba:next<x.1->after (before x.1)=x.1:=by
    intro hl
    have hn':=(rune_iff _).1 (hnr hl)
    unfold after before;split<;>split<;>omega
  refine ⟨?_,canon_tail hr,?_,fun y hy=>?_,fun z hz=>?_,fun r hrr=>?_,fun r hrr hle'=>?_⟩
  · unfold putN;split
    · rename_i hl;exact canon_snoc hc (hgood hl) fun y hy=>hout y hy
    · simpa using hc
  · by_cases e:x.2=1114111
    · right;rw [e];decide
    · left;rw [rune_iff];unfold after;split<;>omega
  · have:=hx y hy;omega
  · have h1:=lt_after x.2
    unfold putN at hz
    rcases List.mem_append.1 hz with hz | hz
    · have:=hout z hz;omega
    · split at hz
      · rename_i hl;simp at hz;subst hz;show after (before x.1)<_;rw [hba hl];omega
      · simp at hz
  · have e0:memB (putN out next x.1) r=(memB out r || decide (next<=r/\r<x.1)):=by
      unfold putN;rw [mem_append];congr 1
      rw [rune_iff] at hrr
      rw [Bool.eq_iff_iff,decide_eq_true_iff]
      split
      · rename_i hl
        have hn':=(rune_iff _).1 (hnr hl)
        simp only [memB,List.any_cons,List.any_nil,Bool.or_false,in_iff]
        unfold before;split<;>omega
      · simp only [memB,List.any_nil,Bool.false_eq_true,false_iff];omega
    rw [e0,hm r hrr]
    have ha:(r<after x.2)↔r<=x.2:=by
      constructor
      · intro h;by_cases e:x.2<r
        · have:=after_le hrr e;omega
        · omega
      · intro h;have:=lt_after x.2;omega
    by_cases h1:r<next
    · have h2:r<after x.2:=ha.2 (by omega)
      have h3:¬ (next<=r/\r<x.1):=by omega
      simp [h1,h2,h3]
    · have h4:=hrest r hrr (by omega)
      rw [mem_cons] at h4
      by_cases h5:r<x.1
      · have h6:memB l r=false:=by
          rw [h4,Bool.or_eq_false_iff]
          refine ⟨?_,tail_out hr (by omega)⟩
          rw [<- Bool.not_eq_true,in_iff];omega
        have h7:r<after x.2:=ha.2 (by omega)
        have h8:next<=r/\r<x.1:=by omega
        simp [h1,h6,h7,h8]
      · have h8:¬ (next<=r/\r<x.1):=by omega
        by_cases h9:r<=x.2
        · have h6:memB l r=true:=by
            rw [h4,(in_iff x r).2 (by omega)];rfl
          simp [h1,h6,h8]
        · have h7:¬ r<after x.2:=fun h=>h9 (ha.1 h)
          simp [h1,h7,h8]
  · have h1:=lt_after x.2
    rw [hrest r hrr (by omega),mem_cons]
    have:inB x r=false:=by rw [<- Bool.not_eq_true,in_iff];omega
    rw [this];rfl
def endN (out:List (Int×Int))(next:Int):List (Int×Int):=out++if next<=1114111 then [(next,1114111)] else []
theorem ninv_end {l out:List (Int×Int)}{next:Int}(h:NInv l [] out next):Canon (endN out next)/\∀ r,runeB r=true->memB (endN out next) r=!memB l r:=by
  obtain ⟨hc,_,hn,_,hout,hm,hrest⟩:=h
  constructor
  · unfold endN;split
    · refine canon_snoc hc ⟨hn.resolve_right (by omega),by simp [runeB],by assumption⟩ fun y hy=>hout y hy
    · simpa using hc
  · intro r hr
    unfold endN
    rw [mem_append,hm r hr]
    by_cases h1:r<next
    · have:memB (if next<=1114111 then [(next,(1114111:Int))] else []) r=false:=by
        split
        · rw [mem_false];simp;omega
        · rfl
      simp [h1,this]
    · have h2:memB l r=false:=by rw [hrest r hr (by omega)];rfl
      have hr':=(rune_iff _).1 hr
      rw [if_pos (by omega)]
      have:memB [(next,(1114111:Int))] r=true:=by
        rw [mem_true];exact ⟨(next,1114111),by simp,by show next<=r/\r<=1114111;omega⟩
      simp [h1,h2,this]
end Brm
end Go.Proofs.YtpoibdhhcbelnaaGreatDoor
namespace Go.Proofs.YtpoibdhhcbelnaaGreatDoor
namespace Brm
def up (n:Int):Int:=if n<55296 then n else if n<57344 then 55296 else n-2048
def down (n:Int):Int:=if n<55296 then n else if n<57344 then 55295 else n-2048
def back (n:Int):Int:=if n<55296 then n else n+2048
def PGood (x:Int×Int):Prop:=0<=x.1/\x.1<=x.2/\x.2<=1112063
def PCanon (l:List (Int×Int)):Prop:=(∀ x∈l,PGood x)/\l.Pairwise fun x y=>x.2+1<y.1
def told (l:List (Int×Int)):List (Int×Int):=l.map fun x=>(back x.1,back x.2)
def place (n:Int):Prop:=0<=n/\n<=1112063
theorem canon_unique:∀ (a b:List (Int×Int)),Canon a->Canon b->(∀ r,runeB r=true->memB a r=memB b r)->a=b
  | [],[],_,_,_=>rfl
  | [],y::t,_,hb,h=>by
    have g:=(canon_head hb).1
    have:=h y.1 g.1
    rw [mem_cons,(in_iff y y.1).2 ⟨Int.le_refl _,g.2.2⟩] at this
    simp [memB] at this
  | x::s,[],ha,_,h=>by
    have g:=(canon_head ha).1
    have:=h x.1 g.1
    rw [mem_cons,(in_iff x x.1).2 ⟨Int.le_refl _,g.2.2⟩] at this
    simp [memB] at this
  | x::s,y::t,ha,hb,h=>by
    obtain ⟨gx,hx⟩:=canon_head ha
    obtain ⟨gy,hy⟩:=canon_head hb
    have low:∀ {u v:Int×Int} {p q:List (Int×Int)},Canon (u::p)->Canon (v::q)->(∀ r,runeB r=true->memB (u::p) r=memB (v::q) r)->¬ u.1<v.1:=by
      intro u v p q hu hv huv hlt
      obtain ⟨gu,_⟩:=canon_head hu
      obtain ⟨gv,hq⟩:=canon_head hv
      have e:=huv u.1 gu.1
      rw [mem_cons,(in_iff u u.1).2 ⟨Int.le_refl _,gu.2.2⟩,Bool.true_or] at e
      obtain ⟨z,hz,hz2⟩:=mem_true.1 e.symm
      rcases List.mem_cons.1 hz with rfl | hz
      · omega
      · have:=hq z hz;have:=lt_after v.2;have:=gv.2.2;omega
    have high:∀ {u v:Int×Int} {p q:List (Int×Int)},Canon (u::p)->Canon (v::q)->u.1=v.1->(∀ r,runeB r=true->memB (u::p) r=memB (v::q) r)->¬ u.2<v.2:=by
      intro u v p q hu hv he huv hlt
      obtain ⟨gu,hp⟩:=canon_head hu
      obtain ⟨gv,_⟩:=canon_head hv
      have ra:=(rune_iff _).1 gu.2.1
      have rb:=(rune_iff _).1 gv.2.1
      have hle:after u.2<=v.2:=after_le gv.2.1 hlt
      have hr:runeB (after u.2)=true:=by rw [rune_iff];unfold after at hle ⊢;split at hle<;>omega
      have e:=huv (after u.2) hr
      have h1:=lt_after u.2
      have h2:=gu.2.2
      rw [mem_cons (x:=v),(in_iff v _).2 ⟨by omega,hle⟩,Bool.true_or] at e
      obtain ⟨z,hz,hz2⟩:=mem_true.1 e
      rcases List.mem_cons.1 hz with rfl | hz
      · omega
      · have:=hp z hz;omega
    have h':∀ r,runeB r=true->memB (y::t) r=memB (x::s) r:=fun r hr=>(h r hr).symm
    have e1:x.1=y.1:=by have:=low ha hb h;have:=low hb ha h';omega
    have e2:x.2=y.2:=by have:=high ha hb e1 h;have:=high hb ha e1.symm h';omega
    have exy:x=y:=Prod.ext e1 e2
    subst exy
    have:=canon_unique s t (canon_tail ha) (canon_tail hb) fun r hr=>by
      have e:=h r hr
      rw [mem_cons,mem_cons] at e
      by_cases hc:inB x r=true
      · have h1:=(in_iff x r).1 hc
        rw [tail_out ha h1.2,tail_out hb h1.2]
      · have hf:inB x r=false:=by simpa using hc
        simpa [hf] using e
    rw [this]
theorem lift_in (x:Int×Int)(r:Int)(hx:okB x=true)(hr:runeB r=true):inB (up x.1,down x.2) (up r)=inB x r:=by
  simp [okB] at hx
  rw [rune_iff] at hr
  rw [Bool.eq_iff_iff,in_iff,in_iff]
  simp only
  unfold up down
  (repeat' split)<;>omega
theorem lift_good (x:Int×Int)(hx:okB x=true)(h:up x.1<=down x.2):PGood (up x.1,down x.2):=by
  simp [okB] at hx
  unfold PGood
  refine ⟨?_,h,?_⟩<;>simp only<;>unfold up down at *<;>(repeat' split)<;>omega
theorem pcanon_nil:PCanon []:=⟨by simp,by simp⟩
theorem told_canon {l:List (Int×Int)}(h:PCanon l):Canon (told l):=by
  refine ⟨fun x hx=>?_,?_⟩
  · obtain ⟨y,hy,rfl⟩:=List.mem_map.1 hx
    have g:=h.1 y hy
    unfold PGood at g
    refine ⟨?_,?_,?_⟩
    · rw [rune_iff];simp only;unfold back;split<;>omega
    · rw [rune_iff];simp only;unfold back;split<;>omega
    · show back y.1<=back y.2;unfold back;split<;>split<;>omega
  · unfold told
    rw [List.pairwise_map]
    refine List.Pairwise.imp_of_mem ?_ h.2
    intro x y hx hy hxy
    have gx:=h.1 x hx
    have gy:=h.1 y hy
    unfold PGood at gx gy
    show after (back x.2)<back y.1
    unfold after back
    (repeat' split)<;>omega
theorem told_mem {l:List (Int×Int)}(h:PCanon l)(r:Int)(hr:runeB r=true):memB (told l) r=memB l (up r):=by
  rw [Bool.eq_iff_iff,mem_true,mem_true]
  rw [rune_iff] at hr
  constructor
  · rintro ⟨x,hx,h1,h2⟩
    obtain ⟨y,hy,rfl⟩:=List.mem_map.1 hx
    have g:=h.1 y hy
    unfold PGood at g
    refine ⟨y,hy,?_⟩
    simp only at h1 h2
    unfold back at h1 h2;unfold up
    (repeat' split at h1)<;>(repeat' split at h2)<;>(repeat' split)<;>omega
  · rintro ⟨y,hy,h1,h2⟩
    have g:=h.1 y hy
    unfold PGood at g
    refine ⟨_,List.mem_map_of_mem hy,?_⟩
    simp only
    unfold up at h1 h2;unfold back
    (repeat' split at h1)<;>(repeat' split)<;>omega
def JInv (l:List (Int×Int))(x:Int×Int)(i0:Nat)(y:Int×Int)(i:Nat):Prop :=
  i0<=i/\i<=l.length/\PGood y/\(∀ z∈l.take i0,z.2+1<y.1)/\(∀ z∈l.drop i,y.1<=z.2+1) /\
  ∀ n,(memB (l.take i0) n || inB y n || memB (l.drop i) n)=(memB l n || inB x n)
def merged (y z:Int×Int):Int×Int:=(min y.1 z.1,max y.2 z.2)
def PInv (l rest out:List (Int×Int))(frm:Int):Prop :=
  PCanon out/\PCanon rest/\0<=frm/\frm<=1112064/\(∀ y∈rest,frm<=y.1)/\(∀ x∈out,x.2+1<frm) /\
  (∀ n,place n->memB out n=(decide (n<frm) && !memB l n))/\∀ n,place n->frm<=n->memB l n=memB rest n
theorem pcanon_cons {x:Int×Int}{l:List (Int×Int)}(h:PCanon (x::l)):PGood x/\(∀ y∈l,x.2+1<y.1)/\PCanon l :=
  ⟨h.1 x (by simp),(List.pairwise_cons.1 h.2).1,fun y hy=>h.1 y (List.mem_cons_of_mem _ hy),(List.pairwise_cons.1 h.2).2⟩
def putP (out:List (Int×Int))(frm lo:Int):List (Int×Int):=out++if frm<lo then [(frm,lo-1)] else []
def endP (out:List (Int×Int))(frm:Int):List (Int×Int):=out++if frm<=1112063 then [(frm,1112063)] else []
end Brm
end Go.Proofs.YtpoibdhhcbelnaaGreatDoor
namespace Go.Proofs.YtpoibdhhcbelnaaGreatDoor
namespace Brm
def pjoin:List (Int×Int)->Int×Int->List (Int×Int)
  | [],x=>[x]
  | y::l,x=>if y.2+1<x.1 then y::pjoin l x else if x.2+1<y.1 then x::y::l else pjoin l (min y.1 x.1,max y.2 x.2)
theorem pcanon_put {x:Int×Int}{l:List (Int×Int)}(g:PGood x)(h:∀ y∈l,x.2+1<y.1)(hl:PCanon l):PCanon (x::l) :=
  ⟨fun y hy=>by rcases List.mem_cons.1 hy with rfl | hy;exact g;exact hl.1 y hy,List.pairwise_cons.2 ⟨h,hl.2⟩⟩
theorem pjoin_low (m:Int):∀ (l:List (Int×Int)) (x:Int×Int),(∀ y∈l,m<y.1)->m<x.1->∀ y∈pjoin l x,m<y.1
  | [],x,_,hx,y,hy=>by simp [pjoin] at hy;subst hy;exact hx
  | z::l,x,hl,hx,y,hy=>by
    have hz:=hl z (by simp)
    have hl':∀ y∈l,m<y.1:=fun y hy=>hl y (List.mem_cons_of_mem _ hy)
    unfold pjoin at hy
    split at hy
    · rcases List.mem_cons.1 hy with rfl | hy
      · exact hz
      · exact pjoin_low m l x hl' hx y hy
    · split at hy
      · rcases List.mem_cons.1 hy with rfl | hy
        · exact hx
        · exact hl y hy
      · exact pjoin_low m l _ hl' (by simp only;omega) y hy
theorem pjoin_canon:∀ (l:List (Int×Int)) (x:Int×Int),PCanon l->PGood x->PCanon (pjoin l x)
  | [],x,_,hx=>pcanon_put hx (by simp) pcanon_nil
  | z::l,x,hl,hx=>by
    obtain ⟨gz,hz,hl'⟩:=pcanon_cons hl
    unfold pjoin
    split
    · exact pcanon_put gz (fun y hy=>pjoin_low _ l x (fun y hy=>hz y hy) (by assumption) y hy) (pjoin_canon l x hl' hx)
    · split
      · exact pcanon_put hx (fun y hy=>by
          rcases List.mem_cons.1 hy with rfl | hy
          · assumption
          · have:=hz y hy;unfold PGood at gz;omega) hl
      · exact pjoin_canon l _ hl' (by unfold PGood at *;simp only;omega)
theorem pjoin_mem:∀ (l:List (Int×Int)) (x:Int×Int),PCanon l->PGood x->∀ n,memB (pjoin l x) n=(memB l n || inB x n)
  | [],x,_,_,n=>by simp [pjoin,memB]
  | z::l,x,hl,hx,n=>by
    obtain ⟨gz,hz,hl'⟩:=pcanon_cons hl
    unfold pjoin
    split
    · rw [mem_cons,mem_cons,pjoin_mem l x hl' hx,Bool.or_assoc]
    · split
      · rw [mem_cons,mem_cons,Bool.or_comm]
      · have g:PGood (min z.1 x.1,max z.2 x.2):=by unfold PGood at *;simp only;omega
        rw [pjoin_mem l _ hl' g,mem_cons]
        have:inB (min z.1 x.1,max z.2 x.2) n=(inB z n || inB x n):=by
          rw [Bool.eq_iff_iff,Bool.or_eq_true,in_iff,in_iff,in_iff];unfold PGood at *;simp only;omega
        rw [this,Bool.or_comm (inB z n) (memB l n),Bool.or_assoc]
def pput (l:List (Int×Int))(x:Int×Int):List (Int×Int):=if up x.1<=down x.2 then pjoin l (up x.1,down x.2) else l
def places (l:List (Int×Int)):List (Int×Int):=l.foldl pput []
theorem pput_canon {l:List (Int×Int)}{x:Int×Int}(h:PCanon l)(hx:okB x=true):PCanon (pput l x):=by
  unfold pput;split
  · exact pjoin_canon _ _ h (lift_good x hx ‹_›)
  · exact h
theorem pput_mem {l:List (Int×Int)}{x:Int×Int}(h:PCanon l)(hx:okB x=true){r:Int}(hr:runeB r=true):memB (pput l x) (up r)=(memB l (up r) || inB x r):=by
  unfold pput;split
  · rw [pjoin_mem _ _ h (lift_good x hx ‹_›),lift_in x r hx hr]
  · have:inB x r=false:=by
      rw [<- lift_in x r hx hr,<- Bool.not_eq_true,in_iff];simp only;omega
    rw [this,Bool.or_false]
theorem fold_places:∀ (l out:List (Int×Int)),PCanon out->(∀ x∈l,okB x=true)->PCanon (l.foldl pput out)/\∀ r,runeB r=true->memB (l.foldl pput out) (up r)=(memB out (up r) || memB l r)
  | [],out,h,_=>⟨h,fun r _=>by simp [memB]⟩
  | x::l,out,h,hl=>by
    have hx:=hl x (by simp)
    obtain ⟨h1,h2⟩:=fold_places l (pput out x) (pput_canon h hx) (fun y hy=>hl y (List.mem_cons_of_mem _ hy))
    exact ⟨h1,fun r hr=>by rw [List.foldl_cons,h2 r hr,pput_mem h hx hr,mem_cons,Bool.or_assoc]⟩
theorem places_canon {l:List (Int×Int)}(h:∀ x∈l,okB x=true):PCanon (places l):=(fold_places l [] pcanon_nil h).1
theorem places_mem {l:List (Int×Int)}(h:∀ x∈l,okB x=true){r:Int}(hr:runeB r=true):memB (places l) (up r)=memB l r:=by
  rw [places,(fold_places l [] pcanon_nil h).2 r hr];simp [memB]
def form (l:List (Int×Int)):List (Int×Int):=told (places l)
theorem form_is {l:List (Int×Int)}(h:∀ x∈l,okB x=true):IsForm l (form l) :=
  ⟨told_canon (places_canon h),fun r hr=>by rw [form,told_mem (places_canon h) r hr,places_mem h hr]⟩
theorem form_unique {l out:List (Int×Int)}(hl:∀ x∈l,okB x=true)(h:IsForm l out):out=form l :=
  canon_unique _ _ h.1 (form_is hl).1 (fun r hr=>by rw [h.2 r hr,(form_is hl).2 r hr])
theorem good_ok {x:Int×Int}(h:Good x):okB x=true:=by
  obtain ⟨h1,h2,h3⟩:=h
  rw [rune_iff] at h1 h2;simp [okB];omega
theorem canon_ok {l:List (Int×Int)}(h:Canon l):∀ x∈l,okB x=true:=fun x hx=>good_ok (h.1 x hx)
theorem form_canon {l:List (Int×Int)}(h:Canon l):form l=l:=(form_unique (canon_ok h) ⟨h,fun _ _=>rfl⟩).symm
def notFrom:Int->List (Int×Int)->List (Int×Int)
  | next,[]=>if next<=1114111 then [(next,1114111)] else []
  | next,x::l=>(if next<x.1 then [(next,before x.1)] else [])++notFrom (after x.2) l
def notC (l:List (Int×Int)):List (Int×Int):=notFrom 0 l
theorem notFrom_eq (l:List (Int×Int)):∀ (rest out:List (Int×Int)) (next:Int),NInv l rest out next->Canon (out++notFrom next rest)/\∀ r,runeB r=true->memB (out++notFrom next rest) r=!memB l r
  | [],out,next,h=>ninv_end h
  | x::rest,out,next,h=>by
    have:=notFrom_eq l rest _ _ (ninv_step h)
    unfold notFrom
    rw [<- List.append_assoc]
    exact this
theorem notC_is {l:List (Int×Int)}(h:Canon l):Canon (notC l)/\∀ r,runeB r=true->memB (notC l) r=!memB l r:=by
  have:=notFrom_eq l l [] 0 (ninv_start h)
  simpa [notC] using this
theorem notC_unique {l out:List (Int×Int)}(hl:Canon l)(h:Canon out)(hm:∀ r,runeB r=true->memB out r=!memB l r):out=notC l :=
  canon_unique _ _ h (notC_is hl).1 (fun r hr=>by rw [hm r hr,(notC_is hl).2 r hr])
end Brm
end Go.Proofs.YtpoibdhhcbelnaaGreatDoor
namespace Go.Proofs.YtpoibdhhcbelnaaGreatDoor
namespace Brm
inductive Pat where
  | set (s:List (Int×Int))
  | row (l:List Pat)
  | or (l:List Pat)
  | and (l:List Pat)
  | not (p:Pat)
  | many (p:Pat) (m n:Int)
  | group (p:Pat)
mutual
def Pat.deep:Pat->Nat
  | .set _=>0
  | .row l=>deepL l
  | .or l=>deepL l
  | .and l=>deepL l
  | .not p=>p.deep+1
  | .many p _ _=>p.deep
  | .group p=>p.deep+1
def deepL:List Pat->Nat
  | []=>0
  | p::l=>max p.deep (deepL l)
end
mutual
def Pat.groups:Pat->Nat
  | .set _=>0
  | .row l=>groupsL l
  | .or l=>groupsL l
  | .and l=>groupsL l
  | .not p=>p.groups
  | .many p _ _=>p.groups
  | .group p=>p.groups+1
def groupsL:List Pat->Nat
  | []=>0
  | p::l=>p.groups+groupsL l
end
theorem deepL_snoc (l:List Pat)(p:Pat):deepL (l++[p])=max (deepL l) p.deep:=by
  induction l with
  | nil=>simp [deepL]
  | cons q l ih=>simp only [List.cons_append,deepL,ih];omega
theorem groupsL_snoc (l:List Pat)(p:Pat):groupsL (l++[p])=groupsL l+p.groups:=by
  induction l with
  | nil=>simp [groupsL]
  | cons q l ih=>simp only [List.cons_append,groupsL,ih];omega
def special (c:Int):Bool:=[124,38,126,42,43,63,123,125,46,92,91,93,40,41].contains c
def inner (c:Int):Bool:=[91,93,92,45,94].contains c
def isSign (c:Int):Bool:=[124,38,126,42,43,63,123,125,46,92,91,93,40,41,45,94,110,116,114].contains c
def isClass (c:Int):Bool:=[100,119,115,68,87,83].contains c
def signOf (c:Int):Int:=if c=110 then 10 else if c=116 then 9 else if c=114 then 13 else c
def digits:List (Int×Int):=[(48,57)]
def words:List (Int×Int):=[(48,57),(65,90),(95,95),(97,122)]
def spaces:List (Int×Int):=[(9,10),(13,13),(32,32)]
def classOf (c:Int):List (Int×Int) :=
  if c=100 then digits else if c=119 then words else if c=115 then spaces else if c=68 then notC digits else if c=87 then notC words else notC spaces
def dot:List (Int×Int):=notC [(10,10)]
inductive Res (α:Type) where
  | ok (a:α) (s:List Int)
  | bad (s:List Int)
def Res.left {α:Type}:Res α->List Int
  | .ok _ s=>s
  | .bad s=>s
def Res.bind {α β:Type}(r:Res α)(f:α->List Int->Res β):Res β:=match r with | .ok a s=>f a s | .bad s=>.bad s
def Res.map {α β:Type}(f:α->β)(r:Res α):Res β:=match r with | .ok a s=>.ok (f a) s | .bad s=>.bad s
def signP (least:Int):List Int->Res Int
  | []=>.bad []
  | c::s=>if isSign c && decide (least<=signOf c) then .ok (signOf c) s else .bad (c::s)
def singleP (least:Int):List Int->Res Int
  | []=>.bad []
  | c::s=>if c=92 then (if least<=126 then signP least s else .bad (c::s)) else if !inner c && decide (least<=c) then .ok c s else .bad (c::s)
def rangeP (a:Int):List Int->Res (List (Int×Int))
  | []=>.ok [(a,a)] []
  | c::s=>if c=45 then (singleP a s).map fun b=>[(a,b)] else .ok [(a,a)] (c::s)
def escP (s:List Int):Res (Int ⊕ List (Int×Int)):=match s with
  | []=>.bad []
  | c::s=>if isSign c then .ok (.inl (signOf c)) s else if isClass c then .ok (.inr (classOf c)) s else .bad (c::s)
def itemP:List Int->Res (List (Int×Int))
  | []=>.bad []
  | c::s=>if c=92 then (escP s).bind fun e s'=>match e with | .inl a=>rangeP a s' | .inr l=>.ok l s'
    else if inner c then .bad (c::s) else rangeP c s
def itemsP:Nat->List (Int×Int)->List Int->Res (List (Int×Int))
  | 0,_,s=>.bad s
  | n+1,l,s=>if s.head?=some 93 then .ok l s.tail else (itemP s).bind fun x s'=>itemsP n (l++x) s'
def bracketP (s:List Int):Res (List (Int×Int)) :=
  if s.head?=some 94 then (itemsP (s.length+1) [] s.tail).map fun l=>notC (form l) else (itemsP (s.length+1) [] s).map form
def countP (least:Int):List Int->Res Int
  | []=>.bad []
  | c::s=>if 48+least<=c/\c<=53 then .ok (c-48) s else .bad (c::s)
def closeP {α:Type}(a:α)(c:Int)(s:List Int):Res α:=if s.head?=some c then .ok a s.tail else .bad s
def countsP (s:List Int):Res (Int×Int):=(countP 0 s).bind fun m s1 =>
  if s1.head?=some 44 then (if s1.tail.head?=some 125 then .ok (m,-1) s1.tail.tail else (countP m s1.tail).bind fun n s2=>closeP (m,n) 125 s2)
  else closeP (m,m) 125 s1
def isTimes (c:Int):Bool:=[42,43,63,123].contains c
def timesP:List Int->Res (Int×Int)
  | []=>.bad []
  | c::s=>if c=42 then .ok (0,-1) s else if c=43 then .ok (1,-1) s else if c=63 then .ok (0,1) s else if c=123 then countsP s else .bad (c::s)
def headIs (f:Int->Bool)(s:List Int):Bool:=match s with | []=>false | c::_=>f c
def manyLoop:Nat->Pat->List Int->Res Pat
  | 0,_,s=>.bad s
  | n+1,x,s=>if headIs isTimes s then (timesP s).bind fun mn s'=>manyLoop n (.many x mn.1 mn.2) s' else .ok x s
def atomP (rec:List Int->Res Pat):List Int->Res Pat
  | []=>.bad []
  | c::s =>
    if c=40 then (rec s).bind fun p s'=>closeP (.group p) 41 s'
    else if c=91 then (bracketP s).map .set
    else if c=46 then .ok (.set dot) s
    else if c=92 then (escP s).map fun e=>match e with | .inl a=>.set [(a,a)] | .inr l=>.set l
    else if special c then .bad (c::s) else .ok (.set [(c,c)]) s
def manyP (rec:List Int->Res Pat)(s:List Int):Res Pat:=(atomP rec s).bind fun x s'=>manyLoop (s'.length+1) x s'
def notP (rec:List Int->Res Pat):List Int->Res Pat
  | []=>manyP rec []
  | c::s=>if c=126 then (notP rec s).map .not else manyP rec (c::s)
def ends (c:Int):Bool:=[124,38,41].contains c
def loose (c:Int):Bool:=[42,43,63,123,125,93].contains c
def rowEnds (lax:Bool)(s:List Int):Bool:=match s with | []=>true | c::_=>ends c || (lax && loose c)
def rowLoop (lax:Bool)(rec:List Int->Res Pat):Nat->List Pat->List Int->Res Pat
  | 0,_,s=>.bad s
  | n+1,l,s=>if rowEnds lax s then .ok (.row l) s else (notP rec s).bind fun p s'=>rowLoop lax rec n (l++[p]) s'
def rowP (lax:Bool)(rec:List Int->Res Pat)(s:List Int):Res Pat:=rowLoop lax rec (s.length+1) [] s
def joinLoop (part:List Int->Res Pat)(sign:Int)(mk:List Pat->Pat):Nat->List Pat->List Int->Res Pat
  | 0,_,s=>.bad s
  | n+1,l,s=>(part s).bind fun p s'=>if s'.head?=some sign then joinLoop part sign mk n (l++[p]) s'.tail else .ok (mk (l++[p])) s'
def andP (lax:Bool)(rec:List Int->Res Pat)(s:List Int):Res Pat:=joinLoop (rowP lax rec) 38 .and (s.length+1) [] s
def orP (lax:Bool)(rec:List Int->Res Pat)(s:List Int):Res Pat:=joinLoop (andP lax rec) 124 .or (s.length+1) [] s
def orN (lax:Bool):Nat->List Int->Res Pat
  | 0,s=>.bad s
  | n+1,s=>orP lax (orN lax n) s
def Less (s' s:List Int):Prop:=s'.length<s.length/\s' <:+ s
theorem less_tail {c:Int}{s:List Int}:Less s (c::s):=⟨by simp,List.suffix_cons c s⟩
theorem less_suf {a b c:List Int}(h:Less a b)(k:b <:+ c):Less a c:=⟨Nat.lt_of_lt_of_le h.1 k.length_le,h.2.trans k⟩
theorem suf_less {a b c:List Int}(h:a <:+ b)(k:Less b c):Less a c:=⟨Nat.lt_of_le_of_lt h.length_le k.1,h.trans k.2⟩
theorem tail_suf (s:List Int):s.tail <:+ s:=List.tail_suffix s
theorem head_less {s:List Int}{c:Int}(h:s.head?=some c):Less s.tail s:=by
  cases s with
  | nil=>simp at h
  | cons d s=>exact less_tail
def Takes {α:Type}(r:Res α)(s:List Int):Prop:=match r with | .ok _ s'=>Less s' s | .bad s'=>s' <:+ s
def Goes {α:Type}(r:Res α)(s:List Int):Prop:=match r with | .ok _ s'=>s' <:+ s | .bad s'=>s' <:+ s
theorem Takes.goes {α:Type}{r:Res α}{s:List Int}(h:Takes r s):Goes r s:=by cases r with | ok a s'=>exact h.2 | bad s'=>exact h
theorem Goes.tail {α:Type}{r:Res α}{s t:List Int}(h:Goes r s)(k:Less s t):Takes r t:=by cases r with | ok a s'=>exact suf_less h k | bad s'=>exact List.IsSuffix.trans h k.2
theorem Takes.suf {α:Type}{r:Res α}{s t:List Int}(h:Takes r s)(k:s <:+ t):Takes r t:=by cases r with | ok a s'=>exact less_suf h k | bad s'=>exact List.IsSuffix.trans h k
theorem Goes.suf {α:Type}{r:Res α}{s t:List Int}(h:Goes r s)(k:s <:+ t):Goes r t:=by cases r with | ok a s'=>exact List.IsSuffix.trans h k | bad s'=>exact List.IsSuffix.trans h k
theorem Takes.map {α β:Type}{r:Res α}{s:List Int}(f:α->β)(h:Takes r s):Takes (r.map f) s:=by cases r<;>exact h
theorem Takes.bind {α β:Type}{r:Res α}{f:α->List Int->Res β}{s:List Int}(h:Takes r s)(k:∀ a s',Less s' s->Goes (f a s') s'):Takes (r.bind f) s:=by
  cases r with
  | ok a s'=>exact (k a s' h).tail h
  | bad s'=>exact h
theorem Goes.bind {α β:Type}{r:Res α}{f:α->List Int->Res β}{s:List Int}(h:Goes r s)(k:∀ a s',s' <:+ s->Goes (f a s') s'):Goes (r.bind f) s:=by
  cases r with
  | ok a s'=>exact (k a s' h).suf h
  | bad s'=>exact h
theorem Goes.bind_takes {α β:Type}{r:Res α}{f:α->List Int->Res β}{s:List Int}(h:Goes r s)(k:∀ a s',s' <:+ s->Takes (f a s') s'):Takes (r.bind f) s:=by
  cases r with
  | ok a s'=>exact (k a s' h).suf h
  | bad s'=>exact h
theorem goes_ok {α:Type}(a:α)(s:List Int):Goes (.ok a s) s:=List.suffix_refl s
theorem goes_bad {α:Type}(s:List Int):Goes (.bad s:Res α) s:=List.suffix_refl s
theorem takes_bad {α:Type}(s:List Int):Takes (.bad s:Res α) s:=List.suffix_refl s
theorem takes_ok {α:Type}(a:α)(c:Int)(s:List Int):Takes (.ok a s) (c::s):=less_tail
theorem signP_takes (least:Int)(s:List Int):Takes (signP least s) s:=by
  cases s with
  | nil=>exact takes_bad _
  | cons c s=>simp only [signP];split;exact takes_ok _ _ _;exact takes_bad _
theorem singleP_takes (least:Int)(s:List Int):Takes (singleP least s) s:=by
  cases s with
  | nil=>exact takes_bad _
  | cons c s =>
    simp only [singleP]
    split
    · split
      · exact (signP_takes _ _).suf (List.suffix_cons _ _)
      · exact takes_bad _
    · split
      · exact takes_ok _ _ _
      · exact takes_bad _
theorem rangeP_goes (a:Int)(s:List Int):Goes (rangeP a s) s:=by
  cases s with
  | nil=>exact goes_ok _ _
  | cons c s =>
    simp only [rangeP]
    split
    · exact ((singleP_takes _ _).map _).goes.suf (List.suffix_cons _ _)
    · exact goes_ok _ _
theorem escP_takes (s:List Int):Takes (escP s) s:=by
  cases s with
  | nil=>exact takes_bad _
  | cons c s=>simp only [escP];split;exact takes_ok _ _ _;split;exact takes_ok _ _ _;exact takes_bad _
theorem itemP_takes (s:List Int):Takes (itemP s) s:=by
  cases s with
  | nil=>exact takes_bad _
  | cons c s =>
    simp only [itemP]
    split
    · refine Takes.suf ((escP_takes s).bind fun e s' _=>?_) (List.suffix_cons _ _)
      cases e with
      | inl a=>exact rangeP_goes _ _
      | inr l=>exact goes_ok _ _
    · split
      · exact takes_bad _
      · exact (rangeP_goes _ _).tail less_tail
theorem itemsP_takes:∀ (n:Nat) (l:List (Int×Int)) (s:List Int),Takes (itemsP n l s) s
  | 0,_,s=>takes_bad s
  | n+1,l,s=>by
    unfold itemsP
    split
    · rename_i h;exact head_less h
    · exact (itemP_takes s).bind fun x s' _=>(itemsP_takes n _ s').goes
theorem bracketP_takes (s:List Int):Takes (bracketP s) s:=by
  unfold bracketP
  split
  · exact ((itemsP_takes _ _ _).map _).suf (tail_suf s)
  · exact (itemsP_takes _ _ _).map _
theorem countP_takes (least:Int)(s:List Int):Takes (countP least s) s:=by
  cases s with
  | nil=>exact takes_bad _
  | cons c s=>simp only [countP];split;exact takes_ok _ _ _;exact takes_bad _
theorem closeP_takes {α:Type}(a:α)(c:Int)(s:List Int):Takes (closeP a c s) s:=by
  unfold closeP;split
  · rename_i h;exact head_less h
  · exact takes_bad _
theorem countsP_takes (s:List Int):Takes (countsP s) s:=by
  unfold countsP
  refine (countP_takes 0 s).bind fun m s1 _=>?_
  split
  · rename_i h
    split
    · rename_i h2;exact ((head_less h2).2).trans (tail_suf s1)
    · exact ((countP_takes m s1.tail).bind fun n s2 _=>(closeP_takes _ _ _).goes).goes.suf (tail_suf s1)
  · exact (closeP_takes _ _ _).goes
theorem timesP_takes (s:List Int):Takes (timesP s) s:=by
  cases s with
  | nil=>exact takes_bad _
  | cons c s =>
    simp only [timesP]
    split;exact takes_ok _ _ _
    split;exact takes_ok _ _ _
    split;exact takes_ok _ _ _
    split;exact (countsP_takes s).suf (List.suffix_cons _ _)
    exact takes_bad _
theorem manyLoop_goes:∀ (n:Nat) (x:Pat) (s:List Int),Goes (manyLoop n x s) s
  | 0,_,s=>goes_bad s
  | n+1,x,s=>by
    unfold manyLoop
    split
    · exact ((timesP_takes s).bind fun mn s' _=>manyLoop_goes n _ s').goes
    · exact goes_ok _ _
theorem atomP_takes {rec:List Int->Res Pat}(hr:∀ s,Goes (rec s) s)(s:List Int):Takes (atomP rec s) s:=by
  cases s with
  | nil=>exact takes_bad _
  | cons c s =>
    simp only [atomP]
    split
    · exact Takes.suf (Goes.bind_takes (hr s) fun p s' _=>closeP_takes _ _ _) (List.suffix_cons _ _)
    split
    · exact ((bracketP_takes s).map _).suf (List.suffix_cons _ _)
    split
    · exact takes_ok _ _ _
    split
    · exact ((escP_takes s).map _).suf (List.suffix_cons _ _)
    split
    · exact takes_bad _
    · exact takes_ok _ _ _
theorem manyP_takes {rec:List Int->Res Pat}(hr:∀ s,Goes (rec s) s)(s:List Int):Takes (manyP rec s) s:=(atomP_takes hr s).bind fun x s' _=>manyLoop_goes _ x s'
theorem notP_takes {rec:List Int->Res Pat}(hr:∀ s,Goes (rec s) s):∀ (s:List Int),Takes (notP rec s) s
  | []=>manyP_takes hr []
  | c::s=>by
    simp only [notP]
    split
    · exact ((notP_takes hr s).map _).suf (List.suffix_cons _ _)
    · exact manyP_takes hr _
theorem rowLoop_goes {lax:Bool}{rec:List Int->Res Pat}(hr:∀ s,Goes (rec s) s):∀ (n:Nat) (l:List Pat) (s:List Int),Goes (rowLoop lax rec n l s) s
  | 0,_,s=>goes_bad s
  | n+1,l,s=>by
    unfold rowLoop
    split
    · exact goes_ok _ _
    · exact ((notP_takes hr s).bind fun p s' _=>rowLoop_goes hr n _ s').goes
theorem joinLoop_goes {part:List Int->Res Pat}{sign:Int}{mk:List Pat->Pat}(hp:∀ s,Goes (part s) s):∀ (n:Nat) (l:List Pat) (s:List Int),Goes (joinLoop part sign mk n l s) s
  | 0,_,s=>goes_bad s
  | n+1,l,s=>by
    unfold joinLoop
    refine (hp s).bind fun p s' _=>?_
    split
    · exact (joinLoop_goes hp n _ _).suf (tail_suf s')
    · exact goes_ok _ _
theorem rowP_goes {lax:Bool}{rec:List Int->Res Pat}(hr:∀ s,Goes (rec s) s)(s:List Int):Goes (rowP lax rec s) s:=rowLoop_goes hr _ _ _
theorem andP_goes {lax:Bool}{rec:List Int->Res Pat}(hr:∀ s,Goes (rec s) s)(s:List Int):Goes (andP lax rec s) s:=joinLoop_goes (rowP_goes hr) _ _ _
theorem orP_goes {lax:Bool}{rec:List Int->Res Pat}(hr:∀ s,Goes (rec s) s)(s:List Int):Goes (orP lax rec s) s:=joinLoop_goes (andP_goes hr) _ _ _
theorem orN_goes (lax:Bool):∀ (n:Nat) (s:List Int),Goes (orN lax n s) s
  | 0,s=>goes_bad s
  | n+1,s=>orP_goes (orN_goes lax n) s
end Brm
end Go.Proofs.YtpoibdhhcbelnaaGreatDoor
namespace Go.Proofs.YtpoibdhhcbelnaaGreatDoor
namespace Brm
def adj (r:Res Pat):Res Pat:=match r with | .ok p s=>if headIs loose s then .bad s else .ok p s | .bad s=>.bad s
theorem loose_cases {c:Int}(h:loose c=true):c=42\/c=43\/c=63\/c=123\/c=125\/c=93:=by simpa [loose] using h
theorem close_adj {r r':Res Pat}(f:Pat->Pat)(h:r=adj r'):(r.bind fun p s'=>closeP (f p) 41 s')=r'.bind fun p s'=>closeP (f p) 41 s':=by
  subst h
  cases r' with
  | bad s=>rfl
  | ok p s =>
    unfold adj
    simp only
    split
    · rename_i hl
      cases s with
      | nil=>simp [headIs] at hl
      | cons c s =>
        have:¬ c=41:=by rcases loose_cases hl with rfl | rfl | rfl | rfl | rfl | rfl<;>decide
        simp [Res.bind,closeP,this]
    · rfl
theorem atom_adj {f g:List Int->Res Pat}(h:∀ s,f s=adj (g s))(s:List Int):atomP f s=atomP g s:=by
  cases s with
  | nil=>rfl
  | cons c s =>
    simp only [atomP]
    split
    · exact close_adj .group (h s)
    · rfl
theorem many_adj {f g:List Int->Res Pat}(h:∀ s,f s=adj (g s))(s:List Int):manyP f s=manyP g s:=by unfold manyP;rw [atom_adj h]
theorem not_adj {f g:List Int->Res Pat}(h:∀ s,f s=adj (g s)):∀ (s:List Int),notP f s=notP g s
  | []=>many_adj h []
  | c::s=>by
    simp only [notP]
    split
    · rw [not_adj h s]
    · exact many_adj h _
theorem not_loose {f:List Int->Res Pat}{c:Int}{s:List Int}(h:loose c=true):notP f (c::s)=.bad (c::s):=by
  rcases loose_cases h with rfl | rfl | rfl | rfl | rfl | rfl<;>rfl
theorem ends_not_loose {c:Int}(h:ends c=true):loose c=false:=by
  have:c=124\/c=38\/c=41:=by simpa [ends] using h
  rcases this with rfl | rfl | rfl<;>rfl
theorem row_adj {f g:List Int->Res Pat}(h:∀ s,f s=adj (g s)):∀ (n:Nat) (l:List Pat) (s:List Int),rowLoop false f n l s=adj (rowLoop true g n l s)
  | 0,_,_=>rfl
  | n+1,l,s=>by
    unfold rowLoop
    cases s with
    | nil=>simp [rowEnds,adj,headIs]
    | cons c s =>
      simp only [rowEnds]
      by_cases he:ends c=true
      · simp [adj,headIs,ends_not_loose he,he]
      · by_cases hl:loose c=true
        · simp [not_loose hl,adj,headIs,hl,he,Res.bind]
        · simp only [he,hl,Bool.false_and,Bool.or_self,Bool.true_and,Bool.false_eq_true,if_false]
          rw [not_adj h]
          cases notP g (c::s) with
          | bad s'=>rfl
          | ok p s'=>exact row_adj h n _ s'
theorem join_adj {f g:List Int->Res Pat}{sign:Int}{mk:List Pat->Pat}(hs:loose sign=false)(h:∀ s,f s=adj (g s)):∀ (n:Nat) (l:List Pat) (s:List Int),joinLoop f sign mk n l s=adj (joinLoop g sign mk n l s)
  | 0,_,_=>rfl
  | n+1,l,s=>by
    unfold joinLoop
    rw [h s]
    cases hg:g s with
    | bad s'=>rfl
    | ok p s' =>
      unfold adj
      simp only
      cases hl:headIs loose s' with
      | true =>
        have:¬ s'.head?=some sign:=by
          intro e
          cases s' with
          | nil=>simp at e
          | cons c t=>simp at e;subst e;simp [headIs,hs] at hl
        simp [Res.bind,this,hl]
      | false =>
        simp only [Bool.false_eq_true,if_false,Res.bind]
        split
        · exact join_adj hs h n _ _
        · simp [hl]
theorem or_adj:∀ (n:Nat) (s:List Int),orN false n s=adj (orN true n s)
  | 0,_=>rfl
  | n+1,s=>join_adj rfl (fun s=>join_adj rfl (fun s=>row_adj (or_adj n) _ _ s) _ _ s) _ _ s
end Brm
end Go.Proofs.YtpoibdhhcbelnaaGreatDoor
