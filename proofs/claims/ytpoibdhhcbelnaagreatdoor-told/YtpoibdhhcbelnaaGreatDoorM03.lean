/- Walks and plain laws, some texts in one. -/
import Derived.Lib.RuneBytes
import Derived.Lib.Join
import Derived.Test.YtpoibdhhcbelnaaGreatDoorM02
namespace Go.Proofs.YtpoibdhhcbelnaaGreatDoor
namespace Brm
def written (must:Int->Bool)(c:Int):List UInt8 :=
  if c=10 then [92,110] else if c=9 then [92,116] else if c=13 then [92,114] else if must c then 92::Lib.encodeRune c else Lib.encodeRune c
def wrRange (x:Int×Int):List UInt8 :=
  if x.2=x.1 then written inner x.1 else if x.2=after x.1 then written inner x.1++written inner x.2 else written inner x.1++(45::written inner x.2)
def wrRanges (l:List (Int×Int)):List UInt8:=(l.map wrRange).flatten
def wrSet (s:List (Int×Int)):List UInt8 :=
  if s=dot then [46] else match s with
  | [x]=>if x.1=x.2 then written special x.1 else 91::(wrRanges s++[93])
  | _=>91::(wrRanges s++[93])
def dig (m:Int):UInt8:=(48+m).toNat.toUInt8
def wrTimes (m n:Int):List UInt8 :=
  if m=0/\n=-1 then [42] else if m=1/\n=-1 then [43] else if m=0/\n=1 then [63] else if n=-1 then [123,dig m,44,125] else if m=n then [123,dig m,125] else [123,dig m,44,dig n,125]
mutual
def Pat.wr:Pat->List UInt8
  | .set s=>wrSet s
  | .row l=>Lib.join (wrL l) []
  | .or l=>Lib.join (wrL l) [124]
  | .and l=>Lib.join (wrL l) [38]
  | .not p=>126::p.wr
  | .many p m n=>p.wr++wrTimes m n
  | .group p=>40::(p.wr++[41])
def wrL:List Pat->List (List UInt8)
  | []=>[]
  | p::l=>p.wr::wrL l
end
theorem wrL_map (l:List Pat):wrL l=l.map Pat.wr:=by
  induction l with
  | nil=>rfl
  | cons p l ih=>rw [wrL,ih];rfl
theorem join_snoc (l:List (List UInt8))(x sep:List UInt8):Lib.join (l++[x]) sep=if l=[] then x else Lib.join l sep++sep++x:=by
  cases l with
  | nil=>simp [Lib.join_one]
  | cons y l=>simp [Lib.join_cons,Lib.joinTail,List.append_assoc]
theorem written_len (must:Int->Bool)(c:Int):(written must c).length<=5:=by
  have:=(Lib.encodeRuneZ_length c).2
  have e:(Lib.encodeRune c).length<=4:=by simpa [Lib.encodeRune] using this
  unfold written
  repeat' split
  all_goals first | (simp;done) | (simp;omega) | omega
theorem wrRange_len (x:Int×Int):(wrRange x).length<=11:=by
  have:=written_len inner x.1
  have:=written_len inner x.2
  unfold wrRange
  repeat' split
  all_goals first | omega | (simp;omega)
theorem wrRanges_len:∀ (l:List (Int×Int)),(wrRanges l).length<=11*l.length
  | []=>by simp [wrRanges]
  | x::l=>by
    have:=wrRanges_len l
    have:=wrRange_len x
    unfold wrRanges at *
    simp only [List.map_cons,List.flatten_cons,List.length_append,List.length_cons];omega
theorem wrSet_len (s:List (Int×Int)):(wrSet s).length<=11*s.length+5:=by
  have:=wrRanges_len s
  unfold wrSet
  split
  · simp
  · split
    · rename_i x _
      split
      · have:=written_len special x.1;simp;omega
      · simp at this ⊢;omega
    · simp;omega
theorem wrTimes_len (m n:Int):(wrTimes m n).length<=5:=by
  unfold wrTimes;repeat' split
  all_goals simp
end Brm
end Go.Proofs.YtpoibdhhcbelnaaGreatDoor
namespace Go.Proofs.YtpoibdhhcbelnaaGreatDoor
namespace Brm
mutual
def Pat.Ok:Pat->Prop
  | .set s=>Canon s
  | .row l=>OkL l
  | .or l=>OkL l/\l≠[]
  | .and l=>OkL l/\l≠[]
  | .not p=>p.Ok
  | .many p m n=>p.Ok/\0<=m/\m<=5/\(n=-1\/(m<=n/\n<=5))
  | .group p=>p.Ok
def OkL:List Pat->Prop
  | []=>True
  | p::l=>p.Ok/\OkL l
end
theorem okL_iff (l:List Pat):OkL l↔∀ p∈l,p.Ok:=by
  induction l with
  | nil=>simp [OkL]
  | cons p l ih=>simp [OkL,ih]
theorem okL_snoc {l:List Pat}{p:Pat}(h:OkL l)(hp:p.Ok):OkL (l++[p]):=by
  rw [okL_iff] at *
  intro q hq
  rcases List.mem_append.1 hq with hq | hq
  · exact h q hq
  · simp at hq;exact hq▸hp
theorem pjoin_len:∀ (l:List (Int×Int)) (x:Int×Int),(pjoin l x).length<=l.length+1
  | [],_=>by simp [pjoin]
  | y::l,x=>by
    unfold pjoin
    have h1:=pjoin_len l x
    have h2:=pjoin_len l (min y.1 x.1,max y.2 x.2)
    repeat' split
    all_goals simp;try omega
theorem fold_len:∀ (l out:List (Int×Int)),(l.foldl pput out).length<=out.length+l.length
  | [],out=>by simp
  | x::l,out=>by
    have h1:=fold_len l (pput out x)
    have h2:(pput out x).length<=out.length+1:=by
      unfold pput;split
      · exact pjoin_len _ _
      · omega
    simp only [List.foldl_cons,List.length_cons];omega
theorem form_len (l:List (Int×Int)):(form l).length<=l.length:=by
  have:=fold_len l []
  simpa [form,told,places] using this
theorem notFrom_len:∀ (l:List (Int×Int)) (next:Int),(notFrom next l).length<=l.length+1
  | [],next=>by unfold notFrom;split<;>simp
  | x::l,next=>by
    have:=notFrom_len l (after x.2)
    unfold notFrom
    split<;>simp<;>omega
theorem notC_len (l:List (Int×Int)):(notC l).length<=l.length+1:=notFrom_len l 0
def AllR (s:List Int):Prop:=∀ c∈s,runeB c=true
theorem AllR.suf {s t:List Int}(h:AllR t)(k:s <:+ t):AllR s:=fun c hc=>h c (k.subset hc)
theorem AllR.tail {c:Int}{s:List Int}(h:AllR (c::s)):AllR s:=fun d hd=>h d (List.mem_cons_of_mem _ hd)
theorem AllR.head {c:Int}{s:List Int}(h:AllR (c::s)):runeB c=true:=h c (by simp)
theorem sign_cases {c:Int}(h:isSign c=true):c=124\/c=38\/c=126\/c=42\/c=43\/c=63\/c=123\/c=125\/c=46\/c=92\/c=91\/c=93\/c=40\/c=41\/c=45\/c=94\/c=110\/c=116\/c=114:=by simpa [isSign] using h
theorem sign_rune {c:Int}(h:isSign c=true):9<=signOf c/\signOf c<=126:=by
  rcases sign_cases h with rfl | rfl | rfl | rfl | rfl | rfl | rfl | rfl | rfl | rfl | rfl | rfl | rfl | rfl | rfl | rfl | rfl | rfl | rfl<;>decide
theorem class_cases {c:Int}(h:isClass c=true):c=100\/c=119\/c=115\/c=68\/c=87\/c=83:=by simpa [isClass] using h
instance (x:Int×Int):Decidable (Good x):=by unfold Good;infer_instance
instance (l:List (Int×Int)):Decidable (Canon l):=by unfold Canon;infer_instance
theorem canon_digits:Canon digits:=by decide
theorem canon_words:Canon words:=by decide
theorem canon_spaces:Canon spaces:=by decide
theorem class_ok {c:Int}(h:isClass c=true):Canon (classOf c)/\(classOf c).length<=5:=by
  rcases class_cases h with rfl | rfl | rfl | rfl | rfl | rfl
  · exact ⟨canon_digits,by decide⟩
  · exact ⟨canon_words,by decide⟩
  · exact ⟨canon_spaces,by decide⟩
  · exact ⟨(notC_is canon_digits).1,by decide⟩
  · exact ⟨(notC_is canon_words).1,by decide⟩
  · exact ⟨(notC_is canon_spaces).1,by decide⟩
theorem canon_one {c:Int}(h:runeB c=true):Canon [(c,c)]:=⟨fun x hx=>by simp at hx;subst hx;exact ⟨h,h,Int.le_refl _⟩,by simp⟩
theorem canon_dot:Canon dot:=(notC_is (canon_one (by decide))).1
theorem rune_of {c:Int}(h0:0<=c)(h1:c<=126):runeB c=true:=by rw [rune_iff];omega
def NumP (least:Int)(r:Res Int):Prop:=match r with | .ok b _=>least<=b/\runeB b=true | .bad _=>True
theorem signP_num (least:Int)(s:List Int):NumP least (signP least s):=by
  cases s with
  | nil=>trivial
  | cons c s =>
    simp only [signP]
    split
    · rename_i h
      simp at h
      have:=sign_rune h.1
      exact ⟨h.2,rune_of (by omega) this.2⟩
    · trivial
theorem singleP_num {least:Int}{s:List Int}(hs:AllR s):NumP least (singleP least s):=by
  cases s with
  | nil=>trivial
  | cons c s =>
    simp only [singleP]
    split
    · split
      · exact signP_num _ _
      · trivial
    · split
      · rename_i h
        simp at h
        exact ⟨h.2,hs.head⟩
      · trivial
def ListP (k:Nat)(r:Res (List (Int×Int)))(s:List Int):Prop:=match r with | .ok l s'=>(∀ x∈l,okB x=true)/\l.length+5*s'.length<=k+5*s.length | .bad _=>True
theorem ok_pair {a b:Int}(ha:runeB a=true)(hb:runeB b=true)(h:a<=b):∀ x∈[(a,b)],okB x=true:=by
  intro x hx;simp at hx;subst hx
  exact good_ok ⟨ha,hb,h⟩
theorem rangeP_list {a:Int}{s:List Int}(ha:runeB a=true)(hs:AllR s):ListP 1 (rangeP a s) s:=by
  cases s with
  | nil=>exact ⟨ok_pair ha ha (Int.le_refl _),by simp⟩
  | cons c s =>
    simp only [rangeP]
    split
    · have h1:=singleP_takes a s
      have h2:=singleP_num (least:=a) hs.tail
      cases hr:singleP a s with
      | bad s'=>trivial
      | ok b s' =>
        rw [hr] at h1 h2
        have:=h1.1
        exact ⟨ok_pair ha h2.2 h2.1,by simp;omega⟩
    · exact ⟨ok_pair ha ha (Int.le_refl _),by simp⟩
theorem itemP_list {s:List Int}(hs:AllR s):ListP 0 (itemP s) s:=by
  cases s with
  | nil=>trivial
  | cons c s =>
    simp only [itemP]
    split
    · cases s with
      | nil=>trivial
      | cons d s =>
        simp only [escP]
        split
        · rename_i h
          have:=rangeP_list (rune_of (by have:=sign_rune h;omega) (sign_rune h).2) hs.tail.tail
          show ListP 0 (rangeP (signOf d) s) _
          cases hr:rangeP (signOf d) s with
          | bad s'=>trivial
          | ok l s'=>rw [hr] at this;exact ⟨this.1,by have:=this.2;simp at this ⊢;omega⟩
        · split
          · rename_i h
            exact ⟨canon_ok (class_ok h).1,by have:=(class_ok h).2;simp;omega⟩
          · trivial
    · split
      · trivial
      · have:=rangeP_list hs.head hs.tail
        cases hr:rangeP c s with
        | bad s'=>trivial
        | ok l s'=>rw [hr] at this;exact ⟨this.1,by have:=this.2;simp at this ⊢;omega⟩
theorem itemsP_list:∀ (n:Nat) (l:List (Int×Int)) (s:List Int),AllR s->(∀ x∈l,okB x=true)->ListP l.length (itemsP n l s) s
  | 0,_,_,_,_=>trivial
  | n+1,l,s,hs,hl=>by
    unfold itemsP
    split
    · exact ⟨hl,by simp;omega⟩
    · have h1:=itemP_list hs
      have h2:=itemP_takes s
      cases hr:itemP s with
      | bad s'=>trivial
      | ok x s' =>
        rw [hr] at h1 h2
        have h3:=itemsP_list n (l++x) s' (hs.suf h2.2) (fun y hy=>by rcases List.mem_append.1 hy with hy | hy;exact hl y hy;exact h1.1 y hy)
        show ListP _ (itemsP n (l++x) s') _
        cases hr2:itemsP n (l++x) s' with
        | bad s2=>trivial
        | ok y s2=>rw [hr2] at h3;exact ⟨h3.1,by have:=h3.2;have:=h1.2;simp at *;omega⟩
def SetP (r:Res (List (Int×Int)))(s:List Int):Prop:=match r with | .ok l s'=>Canon l/\l.length+5*s'.length<=1+5*s.length | .bad _=>True
theorem bracketP_set {s:List Int}(hs:AllR s):SetP (bracketP s) s:=by
  unfold bracketP
  split
  · rename_i hh
    have h1:=itemsP_list (s.length+1) [] s.tail (hs.suf (tail_suf s)) (by simp)
    have h2:=(head_less hh).1
    cases hr:itemsP (s.length+1) [] s.tail with
    | bad s'=>trivial
    | ok l s' =>
      rw [hr] at h1
      have e1:=form_len l
      have e2:=notC_len (form l)
      exact ⟨(notC_is (form_is h1.1).1).1,by have:=h1.2;simp at this h2;show (notC (form l)).length+_<=_;omega⟩
  · have h1:=itemsP_list (s.length+1) [] s hs (by simp)
    cases hr:itemsP (s.length+1) [] s with
    | bad s'=>trivial
    | ok l s' =>
      rw [hr] at h1
      have e1:=form_len l
      exact ⟨(form_is h1.1).1,by have:=h1.2;simp at this;omega⟩
theorem countP_num (least:Int)(s:List Int):match countP least s with | .ok n _=>least<=n/\n<=5 | .bad _=>True:=by
  cases s with
  | nil=>trivial
  | cons c s =>
    simp only [countP]
    split
    · rename_i h
      split at h
      · cases h;omega
      · cases h
    · trivial
def TimesOk (mn:Int×Int):Prop:=0<=mn.1/\mn.1<=5/\(mn.2=-1\/(mn.1<=mn.2/\mn.2<=5))
def TimesP (r:Res (Int×Int)):Prop:=match r with | .ok mn _=>TimesOk mn | .bad _=>True
theorem closeP_times {mn:Int×Int}{c:Int}{s:List Int}(h:TimesOk mn):TimesP (closeP mn c s):=by
  unfold closeP;split
  · exact h
  · trivial
theorem countsP_times (s:List Int):TimesP (countsP s):=by
  unfold countsP
  have h1:=countP_num 0 s
  cases hr:countP 0 s with
  | bad s'=>trivial
  | ok m s1 =>
    rw [hr] at h1
    simp only at h1
    simp only [Res.bind]
    split
    · split
      · exact ⟨h1.1,h1.2,.inl rfl⟩
      · have h2:=countP_num m s1.tail
        cases hr2:countP m s1.tail with
        | bad s'=>trivial
        | ok n s2 =>
          rw [hr2] at h2
          exact closeP_times ⟨h1.1,h1.2,.inr h2⟩
    · exact closeP_times ⟨h1.1,h1.2,.inr ⟨Int.le_refl _,h1.2⟩⟩
theorem timesP_times (s:List Int):TimesP (timesP s):=by
  cases s with
  | nil=>trivial
  | cons c s =>
    simp only [timesP]
    split;exact ⟨by decide,by decide,.inl rfl⟩
    split;exact ⟨by decide,by decide,.inl rfl⟩
    split;exact ⟨by decide,by decide,.inr ⟨by decide,by decide⟩⟩
    split;exact countsP_times s
    trivial
def PatP (k:Nat)(r:Res Pat)(s:List Int):Prop:=match r with | .ok p s'=>p.Ok/\p.wr.length+60*s'.length<=k+60*s.length | .bad _=>True
theorem PatP.weak {k k':Nat}{r:Res Pat}{s s':List Int}(h:PatP k r s)(hk:k+60*s.length<=k'+60*s'.length):PatP k' r s':=by
  cases r with
  | bad s=>trivial
  | ok p t=>exact ⟨h.1,by have:=h.2;omega⟩
theorem manyLoop_pat:∀ (n:Nat) (x:Pat) (s:List Int),x.Ok->PatP x.wr.length (manyLoop n x s) s
  | 0,_,_,_=>trivial
  | n+1,x,s,hx=>by
    unfold manyLoop
    split
    · have h1:=timesP_times s
      have h2:=timesP_takes s
      cases hr:timesP s with
      | bad s'=>trivial
      | ok mn s' =>
        rw [hr] at h1 h2
        have:=h2.1
        have e:=wrTimes_len mn.1 mn.2
        refine (manyLoop_pat n (.many x mn.1 mn.2) s' ⟨hx,h1⟩).weak ?_
        simp only [Pat.wr,List.length_append];omega
    · exact ⟨hx,Nat.le_refl _⟩
theorem atomP_pat {rec:List Int->Res Pat}(hr:∀ s,AllR s->PatP 0 (rec s) s){s:List Int}(hs:AllR s):PatP 0 (atomP rec s) s:=by
  cases s with
  | nil=>trivial
  | cons c s =>
    simp only [atomP]
    split
    · have h1:=hr s hs.tail
      cases h:rec s with
      | bad s'=>trivial
      | ok p s' =>
        rw [h] at h1
        simp only [Res.bind,closeP]
        split
        · rename_i hh
          have:=(head_less hh).1
          exact ⟨h1.1,by have:=h1.2;simp [Pat.wr] at *;omega⟩
        · trivial
    split
    · have h1:=bracketP_set hs.tail
      cases h:bracketP s with
      | bad s'=>trivial
      | ok l s' =>
        rw [h] at h1
        have h3:=bracketP_takes s
        rw [h] at h3
        have h4:=h3.1
        have:=wrSet_len l
        exact ⟨h1.1,by have:=h1.2;simp [Pat.wr] at *;omega⟩
    split
    · exact ⟨canon_dot,by simp [Pat.wr,wrSet];omega⟩
    split
    · cases s with
      | nil=>trivial
      | cons d s =>
        simp only [escP]
        split
        · rename_i h
          have:=wrSet_len [(signOf d,signOf d)]
          exact ⟨canon_one (rune_of (by have:=sign_rune h;omega) (sign_rune h).2),by simp [Pat.wr] at *;omega⟩
        · split
          · rename_i h
            have:=wrSet_len (classOf d)
            have:=class_ok h
            exact ⟨this.1,by simp [Pat.wr] at *;omega⟩
          · trivial
    split
    · trivial
    · have:=wrSet_len [(c,c)]
      exact ⟨canon_one hs.head,by simp [Pat.wr] at *;omega⟩
theorem manyP_pat {rec:List Int->Res Pat}(hr:∀ s,AllR s->PatP 0 (rec s) s){s:List Int}(hs:AllR s):PatP 0 (manyP rec s) s:=by
  unfold manyP
  have h1:=atomP_pat hr hs
  cases h:atomP rec s with
  | bad s'=>trivial
  | ok p s' =>
    rw [h] at h1
    exact (manyLoop_pat _ p s' h1.1).weak (by have:=h1.2;omega)
theorem notP_pat {rec:List Int->Res Pat}(hr:∀ s,AllR s->PatP 0 (rec s) s):∀ {s:List Int},AllR s->PatP 0 (notP rec s) s
  | [],hs=>manyP_pat hr hs
  | c::s,hs=>by
    simp only [notP]
    split
    · have h1:=notP_pat hr hs.tail
      cases h:notP rec s with
      | bad s'=>trivial
      | ok p s'=>rw [h] at h1;exact ⟨h1.1,by have:=h1.2;simp [Pat.wr] at *;omega⟩
    · exact manyP_pat hr hs
theorem join_len_snoc (l:List Pat)(p:Pat)(sep:List UInt8):(Lib.join (wrL (l++[p])) sep).length<=(Lib.join (wrL l) sep).length+sep.length+p.wr.length:=by
  rw [wrL_map,wrL_map,List.map_append,List.map_singleton,join_snoc]
  split
  · omega
  · simp only [List.length_append];omega
theorem rowLoop_pat {lax:Bool}{rec:List Int->Res Pat}(hg:∀ s,Goes (rec s) s)(hr:∀ s,AllR s->PatP 0 (rec s) s):∀ (n:Nat) (l:List Pat) (s:List Int),AllR s->OkL l->PatP (Lib.join (wrL l) []).length (rowLoop lax rec n l s) s
  | 0,_,_,_,_=>trivial
  | n+1,l,s,hs,hl=>by
    unfold rowLoop
    split
    · exact ⟨hl,Nat.le_refl _⟩
    · have h1:=notP_pat hr hs
      have h2:=notP_takes hg s
      cases h:notP rec s with
      | bad s'=>trivial
      | ok p s' =>
        rw [h] at h1 h2
        refine (rowLoop_pat hg hr n (l++[p]) s' (hs.suf h2.2) (okL_snoc hl h1.1)).weak ?_
        have:=join_len_snoc l p []
        have:=h1.2
        simp at *;omega
theorem joinLoop_pat {part:List Int->Res Pat}{sign:Int}{mk:List Pat->Pat}{sep:List UInt8}(hsep:sep.length<=1)(hw:∀ l,(mk l).wr=Lib.join (wrL l) sep)(hk:∀ l,OkL l->l≠[]->(mk l).Ok)
    (hg:∀ s,Goes (part s) s) (hr:∀ s,AllR s->PatP 0 (part s) s):∀ (n:Nat) (l:List Pat) (s:List Int),AllR s->OkL l->PatP ((Lib.join (wrL l) sep).length+1) (joinLoop part sign mk n l s) s
  | 0,_,_,_,_=>trivial
  | n+1,l,s,hs,hl=>by
    unfold joinLoop
    have h1:=hr s hs
    have h2:=hg s
    cases h:part s with
    | bad s'=>trivial
    | ok p s' =>
      rw [h] at h1 h2
      have e:=join_len_snoc l p sep
      have e2:=h1.2
      simp only [Res.bind]
      split
      · rename_i hh
        have:=(head_less hh).1
        refine (joinLoop_pat hsep hw hk hg hr n (l++[p]) s'.tail ((hs.suf h2).suf (tail_suf _)) (okL_snoc hl h1.1)).weak ?_
        omega
      · exact ⟨hk _ (okL_snoc hl h1.1) (by simp),by rw [hw];omega⟩
theorem joinLoop_pat0 {part:List Int->Res Pat}{sign:Int}{mk:List Pat->Pat}{sep:List UInt8}(hsep:sep.length<=1)(hw:∀ l,(mk l).wr=Lib.join (wrL l) sep)(hk:∀ l,OkL l->l≠[]->(mk l).Ok)
    (hg:∀ s,Goes (part s) s) (hr:∀ s,AllR s->PatP 0 (part s) s) (n:Nat) (s:List Int) (hs:AllR s):PatP 0 (joinLoop part sign mk n [] s) s:=by
  cases n with
  | zero=>trivial
  | succ n =>
    unfold joinLoop
    have h1:=hr s hs
    have h2:=hg s
    cases h:part s with
    | bad s'=>trivial
    | ok p s' =>
      rw [h] at h1 h2
      have e2:=h1.2
      have e:Lib.join (wrL [p]) sep=p.wr:=by simp [wrL,Lib.join_one]
      simp only [Res.bind,List.nil_append]
      split
      · rename_i hh
        have:=(head_less hh).1
        refine (joinLoop_pat hsep hw hk hg hr n [p] s'.tail ((hs.suf h2).suf (tail_suf _)) ⟨h1.1,trivial⟩).weak ?_
        rw [e];omega
      · exact ⟨hk _ ⟨h1.1,trivial⟩ (by simp),by rw [hw,e];exact e2⟩
theorem orN_pat (lax:Bool):∀ (n:Nat) (s:List Int),AllR s->PatP 0 (orN lax n s) s
  | 0,_,_=>trivial
  | n+1,s,hs=>by
    have hrow:∀ s,AllR s->PatP 0 (rowP lax (orN lax n) s) s:=fun s hs=>(rowLoop_pat (lax:=lax) (orN_goes lax n) (orN_pat lax n) (s.length+1) [] s hs trivial).weak (by simp [wrL,Lib.join_nil])
    have hand:∀ s,AllR s->PatP 0 (andP lax (orN lax n) s) s:=fun s hs=>joinLoop_pat0 (mk:=.and) (sep:=[38]) (by simp) (fun l=>by simp [Pat.wr]) (fun l h k=>⟨h,k⟩) (rowP_goes (orN_goes lax n)) hrow _ s hs
    exact joinLoop_pat0 (mk:=.or) (sep:=[124]) (by simp) (fun l=>by simp [Pat.wr]) (fun l h k=>⟨h,k⟩) (andP_goes (orN_goes lax n)) hand _ s hs
end Brm
end Go.Proofs.YtpoibdhhcbelnaaGreatDoor
namespace Go.Proofs.YtpoibdhhcbelnaaGreatDoor
namespace Brm
def Rep (P:List Int->Prop):Nat->List Int->Prop
  | 0,t=>t=[]
  | k+1,t=>∃ a b,t=a++b/\P a/\Rep P k b
mutual
def Pat.Mt:Pat->List Int->Prop
  | .set s,t=>∃ c,t=[c]/\memB s c=true
  | .row l,t=>MtRow l t
  | .or l,t=>MtOr l t
  | .and l,t=>MtAnd l t
  | .not p,t=>¬ p.Mt t
  | .many p m n,t=>∃ r:Nat,m<=r/\(n<0\/(r:Int)<=n)/\Rep p.Mt r t
  | .group p,t=>p.Mt t
def MtRow:List Pat->List Int->Prop
  | [],t=>t=[]
  | p::l,t=>∃ a b,t=a++b/\p.Mt a/\MtRow l b
def MtOr:List Pat->List Int->Prop
  | [],_=>False
  | p::l,t=>p.Mt t\/MtOr l t
def MtAnd:List Pat->List Int->Prop
  | [],_=>True
  | p::l,t=>p.Mt t/\MtAnd l t
end
def sub (t:List Int)(i j:Nat):List Int:=(t.drop i).take (j-i)
theorem sub_self (t:List Int)(i:Nat):sub t i i=[]:=by simp [sub]
theorem sub_all (t:List Int):sub t 0 t.length=t:=by simp [sub]
theorem sub_len {t:List Int}{i j:Nat}(h:i<=j)(hj:j<=t.length):(sub t i j).length=j-i:=by simp [sub];omega
theorem sub_one {t:List Int}{i:Nat}{c:Int}(h:t[i]?=some c):sub t i (i+1)=[c]:=by
  unfold sub
  have hlt:i<t.length:=(List.getElem?_eq_some_iff.1 h).1
  rw [List.drop_eq_getElem_cons hlt]
  have:=(List.getElem?_eq_some_iff.1 h).2
  simp [this]
theorem sub_cat {t:List Int}{i k j:Nat}(h1:i<=k)(h2:k<=j):sub t i j=sub t i k++sub t k j:=by
  unfold sub
  have e:j-i=(k-i)+(j-k):=by omega
  rw [e,List.take_add,List.drop_drop]
  congr 2
  congr 1
  omega
theorem sub_split {t:List Int}{i j:Nat}{a b:List Int}(h1:i<=j)(h2:j<=t.length)(h:sub t i j=a++b):∃ k,i<=k/\k<=j/\a=sub t i k/\b=sub t k j:=by
  have hl:=sub_len h1 h2
  rw [h,List.length_append] at hl
  refine ⟨i+a.length,by omega,by omega,?_,?_⟩
  · have:a=(a++b).take a.length:=by simp
    rw [this,<- h]
    unfold sub
    rw [List.take_take]
    congr 1
    simp [List.length_take,List.length_drop]
    omega
  · have:b=(a++b).drop a.length:=by simp
    rw [this,<- h]
    unfold sub
    rw [List.drop_take,List.drop_drop]
    congr 1
    omega
theorem rep_add {P:List Int->Prop}:∀ (a b:Nat) (t:List Int),Rep P (a+b) t↔∃ u v,t=u++v/\Rep P a u/\Rep P b v
  | 0,b,t=>by
    rw [Nat.zero_add]
    constructor
    · intro h;exact ⟨[],t,rfl,rfl,h⟩
    · rintro ⟨u,v,rfl,hu,hv⟩
      have:u=[]:=hu
      subst this;exact hv
  | a+1,b,t=>by
    rw [Nat.succ_add]
    constructor
    · rintro ⟨x,y,rfl,hx,hy⟩
      obtain ⟨u,v,rfl,hu,hv⟩:=(rep_add a b y).1 hy
      exact ⟨x++u,v,by simp,⟨x,u,rfl,hx,hu⟩,hv⟩
    · rintro ⟨u,v,rfl,⟨x,y,rfl,hx,hy⟩,hv⟩
      exact ⟨x,y++v,by simp,hx,(rep_add a b _).2 ⟨y,v,rfl,hy,hv⟩⟩
theorem mtOr_iff {l:List Pat}{t:List Int}:MtOr l t↔∃ p∈l,p.Mt t:=by
  induction l with
  | nil=>simp [MtOr]
  | cons p l ih=>simp [MtOr,ih]
theorem mtAnd_iff {l:List Pat}{t:List Int}:MtAnd l t↔∀ p∈l,p.Mt t:=by
  induction l with
  | nil=>simp [MtAnd]
  | cons p l ih=>simp [MtAnd,ih]
end Brm
end Go.Proofs.YtpoibdhhcbelnaaGreatDoor
namespace Go.Proofs.YtpoibdhhcbelnaaGreatDoor
namespace Brm
mutual
def subs:Pat->List Pat
  | .set _=>[]
  | .row l=>subsL l++[.row l]
  | .or l=>subsL l++(if l.length=1 then [] else [.or l])
  | .and l=>subsL l++(if l.length=1 then [] else [.and l])
  | .not p=>subs p++[.not p]
  | .many p m n=>subs p++[.many p m n]
  | .group p=>subs p
def subsL:List Pat->List Pat
  | []=>[]
  | p::l=>subs p++subsL l
end
theorem subsL_snoc:∀ (l:List Pat) (p:Pat),subsL (l++[p])=subsL l++subs p
  | [],p=>by simp [subsL]
  | q::l,p=>by simp [subsL,subsL_snoc l p]
def CntP (k:Nat)(r:Res Pat)(s:List Int):Prop:=match r with | .ok p s'=>(subs p).length+3*s'.length<=k+3*s.length | .bad _=>True
theorem CntP.weak {k k':Nat}{r:Res Pat}{s s':List Int}(h:CntP k r s)(hk:k+3*s.length<=k'+3*s'.length):CntP k' r s':=by
  cases r with
  | bad s=>trivial
  | ok p t=>have h':(subs p).length+3*t.length<=k+3*s.length:=h;show (subs p).length+3*t.length<=_;omega
theorem manyLoop_cnt:∀ (n:Nat) (x:Pat) (s:List Int),CntP (subs x).length (manyLoop n x s) s
  | 0,_,_=>trivial
  | n+1,x,s=>by
    unfold manyLoop
    split
    · have h2:=timesP_takes s
      cases hr:timesP s with
      | bad s'=>trivial
      | ok mn s' =>
        rw [hr] at h2
        have:=h2.1
        refine (manyLoop_cnt n (.many x mn.1 mn.2) s').weak ?_
        simp only [subs,List.length_append,List.length_singleton];omega
    · exact Nat.le_refl _
theorem set_cnt {l:List (Int×Int)}{s s':List Int}(h:s'.length<=s.length):CntP 0 (.ok (.set l) s') s:=by
  show (subs (.set l)).length+3*s'.length<=0+3*s.length
  simp [subs];omega
theorem atomP_cnt {rec:List Int->Res Pat}(hr:∀ s,CntP 1 (rec s) s)(s:List Int):CntP 0 (atomP rec s) s:=by
  cases s with
  | nil=>trivial
  | cons c s =>
    simp only [atomP]
    split
    · have h1:=hr s
      cases h:rec s with
      | bad s'=>trivial
      | ok p s' =>
        rw [h] at h1
        simp only [Res.bind,closeP]
        split
        · rename_i hh
          have:=(head_less hh).1
          have h1':(subs p).length+3*s'.length<=1+3*s.length:=h1
          show (subs (.group p)).length+_<=_
          simp [subs] at *;omega
        · trivial
    split
    · have h3:=bracketP_takes s
      cases h:bracketP s with
      | bad s'=>trivial
      | ok l s' =>
        rw [h] at h3
        have h4:=h3.1
        exact set_cnt (by simp;omega)
    split
    · exact set_cnt (by simp)
    split
    · cases s with
      | nil=>trivial
      | cons d s =>
        simp only [escP]
        split
        · exact set_cnt (by simp;omega)
        · split
          · exact set_cnt (by simp;omega)
          · trivial
    split
    · trivial
    · exact set_cnt (by simp)
theorem manyP_cnt {rec:List Int->Res Pat}(hr:∀ s,CntP 1 (rec s) s)(s:List Int):CntP 0 (manyP rec s) s:=by
  unfold manyP
  have h1:=atomP_cnt hr s
  cases h:atomP rec s with
  | bad s'=>trivial
  | ok p s' =>
    rw [h] at h1
    have h1':(subs p).length+3*s'.length<=0+3*s.length:=h1
    exact (manyLoop_cnt _ p s').weak (by omega)
theorem notP_cnt {rec:List Int->Res Pat}(hr:∀ s,CntP 1 (rec s) s):∀ (s:List Int),CntP 0 (notP rec s) s
  | []=>manyP_cnt hr _
  | c::s=>by
    simp only [notP]
    split
    · have h1:=notP_cnt hr s
      cases h:notP rec s with
      | bad s'=>trivial
      | ok p s' =>
        rw [h] at h1
        have h1':(subs p).length+3*s'.length<=0+3*s.length:=h1
        show (subs (.not p)).length+_<=_
        simp [subs];omega
    · exact manyP_cnt hr _
theorem rowLoop_cnt {lax:Bool}{rec:List Int->Res Pat}(hr:∀ s,CntP 1 (rec s) s):∀ (n:Nat) (l:List Pat) (s:List Int),CntP ((subsL l).length+1) (rowLoop lax rec n l s) s
  | 0,_,_=>trivial
  | n+1,l,s=>by
    unfold rowLoop
    split
    · show (subs (.row l)).length+_<=_
      simp [subs]
    · have h1:=notP_cnt hr s
      cases h:notP rec s with
      | bad s'=>trivial
      | ok p s' =>
        rw [h] at h1
        have h1':(subs p).length+3*s'.length<=0+3*s.length:=h1
        refine (rowLoop_cnt hr n (l++[p]) s').weak ?_
        rw [subsL_snoc,List.length_append];omega
theorem joinLoop_cnt {part:List Int->Res Pat}{sign:Int}{mk:List Pat->Pat}(hw:∀ l,(subs (mk l)).length<=(subsL l).length+1)(hr:∀ s,CntP 1 (part s) s):∀ (n:Nat) (l:List Pat) (s:List Int),CntP ((subsL l).length+2) (joinLoop part sign mk n l s) s
  | 0,_,_=>trivial
  | n+1,l,s=>by
    unfold joinLoop
    have h1:=hr s
    cases h:part s with
    | bad s'=>trivial
    | ok p s' =>
      rw [h] at h1
      have h1':(subs p).length+3*s'.length<=1+3*s.length:=h1
      have e:(subsL (l++[p])).length=(subsL l).length+(subs p).length:=by rw [subsL_snoc,List.length_append]
      simp only [Res.bind]
      split
      · rename_i hh
        have:=(head_less hh).1
        refine (joinLoop_cnt hw hr n (l++[p]) s'.tail).weak ?_
        omega
      · have:=hw (l++[p])
        show (subs (mk (l++[p]))).length+_<=_
        omega
theorem joinLoop_cnt0 {part:List Int->Res Pat}{sign:Int}{mk:List Pat->Pat}(hw:∀ l,(subs (mk l)).length<=(subsL l).length+1)(hw1:∀ p,(subs (mk [p])).length=(subs p).length)(hr:∀ s,CntP 1 (part s) s)(n:Nat)(s:List Int):CntP 1 (joinLoop part sign mk n [] s) s:=by
  cases n with
  | zero=>trivial
  | succ n =>
    unfold joinLoop
    have h1:=hr s
    cases h:part s with
    | bad s'=>trivial
    | ok p s' =>
      rw [h] at h1
      have h1':(subs p).length+3*s'.length<=1+3*s.length:=h1
      simp only [Res.bind,List.nil_append]
      split
      · rename_i hh
        have:=(head_less hh).1
        refine (joinLoop_cnt hw hr n [p] s'.tail).weak ?_
        simp only [subsL,List.append_nil];omega
      · show (subs (mk [p])).length+_<=_
        rw [hw1];exact h1'
theorem or_subs_le (l:List Pat):(subs (.or l)).length<=(subsL l).length+1:=by simp only [subs,List.length_append];split<;>simp
theorem and_subs_le (l:List Pat):(subs (.and l)).length<=(subsL l).length+1:=by simp only [subs,List.length_append];split<;>simp
theorem orN_cnt (lax:Bool):∀ (n:Nat) (s:List Int),CntP 1 (orN lax n s) s
  | 0,_=>trivial
  | n+1,s=>by
    have hrow:∀ s,CntP 1 (rowP lax (orN lax n) s) s:=fun s=>(rowLoop_cnt (lax:=lax) (orN_cnt lax n) (s.length+1) [] s).weak (by simp [subsL])
    have hand:∀ s,CntP 1 (andP lax (orN lax n) s) s:=fun s=>joinLoop_cnt0 (mk:=.and) and_subs_le (fun p=>by simp [subs,subsL]) hrow _ s
    exact joinLoop_cnt0 (mk:=.or) or_subs_le (fun p=>by simp [subs,subsL]) hand _ s
end Brm
end Go.Proofs.YtpoibdhhcbelnaaGreatDoor
namespace Go.Proofs.YtpoibdhhcbelnaaGreatDoor
section
variable {α:Type}
def sw (f:Nat->α)(i j:Nat):Nat->α:=fun k=>if k=j then f i else if k=i then f j else f k
structure Ord (lt:α->α->Bool):Prop where
  tr:∀ a b c,lt b a=false->lt c b=false->lt c a=false
  as:∀ a b,lt a b=true->lt b a=false
def HeapF (lt:α->α->Bool)(f:Nat->α)(n:Nat):Prop:=∀ k,0<k->k<n->lt (f k) (f ((k-1) / 2))=false
def UpI (lt:α->α->Bool)(f:Nat->α)(n j:Nat):Prop:=j<n/\(∀ k,0<k->k<n->k≠j->lt (f k) (f ((k-1) / 2))=false)/\∀ k,0<k->k<n->(k-1) / 2=j->0<j->lt (f k) (f ((j-1) / 2))=false
def DownI (lt:α->α->Bool)(f:Nat->α)(n i:Nat):Prop:=(∀ k,0<k->k<n->(k-1) / 2≠i->lt (f k) (f ((k-1) / 2))=false)/\∀ k,0<k->k<n->(k-1) / 2=i->0<i->lt (f k) (f ((i-1) / 2))=false
variable {lt:α->α->Bool}
theorem Ord.irr (h:Ord lt)(a:α):lt a a=false:=by
  cases e:lt a a with
  | false=>rfl
  | true=>have:=h.as a a e;rw [e] at this;exact this
theorem up_done {f:Nat->α}{n j:Nat}(h:UpI lt f n j)(hd:j=0\/lt (f j) (f ((j-1) / 2))=false):HeapF lt f n:=fun k h1 h2=>by
  by_cases e:k=j
  · rcases hd with hd | hd
    · omega
    · rw [e];exact hd
  · exact h.2.1 k h1 h2 e
theorem up_step (ho:Ord lt){f:Nat->α}{n j:Nat}(h:UpI lt f n j)(hj:0<j)(hl:lt (f j) (f ((j-1) / 2))=true):UpI lt (sw f ((j-1) / 2) j) n ((j-1) / 2):=by
  obtain ⟨h1,h2,h3⟩:=h
  have hp:(j-1) / 2<j:=by omega
  obtain ⟨p,hpe⟩:∃ p,(j-1) / 2=p:=⟨_,rfl⟩
  rw [hpe] at hl hp ⊢
  have hb:=ho.as _ _ hl
  have fj:sw f p j j=f p:=by unfold sw;rw [if_pos rfl]
  have fp:sw f p j p=f j:=by unfold sw;rw [if_neg (by omega),if_pos rfl]
  have fo:∀ k,k≠j->k≠p->sw f p j k=f k:=fun k a b=>by unfold sw;rw [if_neg a,if_neg b]
  refine ⟨by omega,fun k k1 k2 k3=>?_,fun k k1 k2 k3 k4=>?_⟩
  · by_cases e:k=j
    · subst e
      rw [hpe,fj,fp];exact hb
    · rw [fo k e k3]
      by_cases e2:(k-1) / 2=j
      · rw [e2,fj,<- hpe];exact h3 k k1 k2 e2 hj
      · by_cases e3:(k-1) / 2=p
        · rw [e3,fp]
          have:=h2 k k1 k2 e
          rw [e3] at this
          exact ho.tr _ _ _ hb this
        · rw [fo _ e2 e3];exact h2 k k1 k2 e
  · have hpp:(p-1) / 2<p:=by omega
    have hq:sw f p j ((p-1) / 2)=f ((p-1) / 2):=fo _ (by omega) (by omega)
    rw [hq]
    have hpq:=h2 p k4 (by omega) (by omega)
    by_cases e:k=j
    · subst e
      rw [fj];exact hpq
    · rw [fo k e (by omega)]
      have:=h2 k k1 k2 e
      rw [k3] at this
      exact ho.tr _ _ _ hpq this
theorem down_done {f:Nat->α}{n i:Nat}(h:DownI lt f n i)(hd:∀ k,0<k->k<n->(k-1) / 2=i->lt (f k) (f i)=false):HeapF lt f n:=fun k h1 h2=>by
  by_cases e:(k-1) / 2=i
  · rw [e];exact hd k h1 h2 e
  · exact h.1 k h1 h2 e
theorem down_step (ho:Ord lt){f:Nat->α}{n i j:Nat}(h:DownI lt f n i)(hj:0<j)(hjn:j<n)(hp:(j-1) / 2=i)(hm:∀ k,0<k->k<n->(k-1) / 2=i->lt (f k) (f j)=false)(hl:lt (f j) (f i)=true):DownI lt (sw f i j) n j:=by
  obtain ⟨h1,h2⟩:=h
  have hb:=ho.as _ _ hl
  have hij:i<j:=by omega
  have fj:sw f i j j=f i:=by unfold sw;rw [if_pos rfl]
  have fi:sw f i j i=f j:=by unfold sw;rw [if_neg (by omega),if_pos rfl]
  have fo:∀ k,k≠j->k≠i->sw f i j k=f k:=fun k a b=>by unfold sw;rw [if_neg a,if_neg b]
  refine ⟨fun k k1 k2 k3=>?_,fun k k1 k2 k3 k4=>?_⟩
  · by_cases e:k=j
    · subst e
      rw [hp,fj,fi];exact hb
    · by_cases e2:(k-1) / 2=i
      · rw [e2,fi,fo k e (by omega)];exact hm k k1 k2 e2
      · rw [fo _ k3 e2]
        by_cases e3:k=i
        · subst e3
          rw [fi]
          exact h2 j hj hjn hp k1
        · rw [fo k e e3];exact h1 k k1 k2 e2
  · rw [hp,fi,fo k (by omega) (by omega)]
    have:=h1 k k1 k2 (by omega)
    rw [k3] at this
    exact this
theorem heap_min (ho:Ord lt){f:Nat->α}{n:Nat}(h:HeapF lt f n):∀ k,k<n->lt (f k) (f 0)=false:=by
  intro k
  induction k using Nat.strongRecOn with
  | ind k ih =>
    intro hk
    by_cases h0:k=0
    · subst h0;exact ho.irr _
    · exact ho.tr _ _ _ (ih ((k-1) / 2) (by omega) (by omega)) (h k (by omega) hk)
def gt (d:α)(l:List α):Nat->α:=fun k=>l[k]?.getD d
def swp (d:α)(l:List α)(i j:Nat):List α:=(l.set i (gt d l j)).set j (gt d l i)
theorem swp_len (d:α)(l:List α)(i j:Nat):(swp d l i j).length=l.length:=by simp [swp]
theorem gt_some {d:α}{l:List α}{k:Nat}(h:k<l.length):l[k]?=some (gt d l k):=by
  unfold gt;rw [List.getElem?_eq_getElem h];rfl
theorem swp_gt (d:α)(l:List α){i j:Nat}(hi:i<l.length)(hj:j<l.length):gt d (swp d l i j)=sw (gt d l) i j:=by
  funext k
  show ((l.set i (gt d l j)).set j (gt d l i))[k]?.getD d=sw (gt d l) i j k
  unfold sw
  rw [List.getElem?_set]
  by_cases e:j=k
  · subst e
    rw [if_pos rfl,if_pos rfl,if_pos (by simpa using hj)]
    rfl
  · rw [if_neg e,if_neg (fun h=>e h.symm),List.getElem?_set]
    by_cases e2:i=k
    · subst e2
      rw [if_pos rfl,if_pos rfl,if_pos hi]
      rfl
    · rw [if_neg e2,if_neg (fun h=>e2 h.symm)]
      rfl
theorem swp_perm (d:α)(l:List α){i j:Nat}(hi:i<l.length)(hj:j<l.length):(swp d l i j).Perm l:=by
  have h:=Array.perm_iff_toList_perm.1 (Array.swap_perm (xs:=l.toArray) (i:=i) (j:=j) (by simpa using hi) (by simpa using hj))
  rw [List.swap_toArray] at h
  have e:((l.set i l[j]).set j l[i])=swp d l i j:=by
    unfold swp
    have e1:gt d l i=l[i]:=by unfold gt;rw [List.getElem?_eq_getElem hi];rfl
    have e2:gt d l j=l[j]:=by unfold gt;rw [List.getElem?_eq_getElem hj];rfl
    rw [e1,e2]
  rw [e] at h
  exact h
theorem heap_congr {f g:Nat->α}{n:Nat}(h:HeapF lt f n)(he:∀ k,k<n->f k=g k):HeapF lt g n:=fun k h1 h2=>by
  rw [<- he k h2,<- he _ (by omega)];exact h k h1 h2
theorem up_start {f:Nat->α}{n:Nat}(h:HeapF lt f n):UpI lt f (n+1) n:=⟨by omega,fun k h1 h2 h3=>h k h1 (by omega),fun k h1 h2 h3 _=>by omega⟩
theorem down_start {f:Nat->α}{n:Nat}(h:HeapF lt f (n+1)):DownI lt (sw f 0 n) n 0:=by
  refine ⟨fun k h1 h2 h3=>?_,fun k h1 h2 h3 h4=>by omega⟩
  have fo:∀ k,k≠n->k≠0->sw f 0 n k=f k:=fun k a b=>by unfold sw;rw [if_neg a,if_neg b]
  rw [fo k (by omega) (by omega),fo _ (by omega) h3]
  exact h k h1 (by omega)
end
def lexB:List Int->List Int->Bool
  | [],[]=>false
  | [],_::_=>true
  | _::_,[]=>false
  | a::u,b::v=>decide (a<b) || (decide (a=b) && lexB u v)
def lessT (u v:List Int):Bool:=decide (u.length<v.length) || (decide (u.length=v.length) && lexB u v)
theorem lexB_irr:∀ u:List Int,lexB u u=false
  | []=>rfl
  | a::u=>by simp [lexB,lexB_irr u]
theorem lexB_as:∀ u v:List Int,lexB u v=true->lexB v u=false
  | [],[],h=>by simp [lexB] at h
  | [],_::_,_=>rfl
  | _::_,[],h=>by simp [lexB] at h
  | a::u,b::v,h=>by
    simp only [lexB,Bool.or_eq_true,Bool.and_eq_true,decide_eq_true_eq] at h
    simp only [lexB,Bool.or_eq_false_iff,Bool.and_eq_false_imp,decide_eq_false_iff_not,decide_eq_true_eq]
    rcases h with h | ⟨rfl,h⟩
    · exact ⟨by omega,fun e=>by omega⟩
    · exact ⟨by omega,fun _=>lexB_as u v h⟩
theorem lexB_tr:∀ u v x:List Int,lexB v u=false->lexB x v=false->lexB x u=false
  | u,v,[],h1,h2=>by
    cases u with
    | nil=>rfl
    | cons a u =>
      cases v with
      | nil=>simp [lexB] at h1
      | cons b v=>simp [lexB] at h2
  | [],v,c::x,_,_=>rfl
  | a::u,[],c::x,h1,_=>by simp [lexB] at h1
  | a::u,b::v,c::x,h1,h2=>by
    simp only [lexB,Bool.or_eq_false_iff,Bool.and_eq_false_imp,decide_eq_false_iff_not,decide_eq_true_eq] at h1 h2 ⊢
    refine ⟨by omega,fun e=>?_⟩
    have e1:b=a:=by omega
    have e2:c=b:=by omega
    exact lexB_tr u v x (h1.2 e1) (h2.2 e2)
theorem lexB_tot:∀ u v:List Int,u.length=v.length->lexB u v=false->lexB v u=false->u=v
  | [],[],_,_,_=>rfl
  | [],_::_,h,_,_=>by simp at h
  | _::_,[],h,_,_=>by simp at h
  | a::u,b::v,h,h1,h2=>by
    simp only [lexB,Bool.or_eq_false_iff,Bool.and_eq_false_imp,decide_eq_false_iff_not,decide_eq_true_eq] at h1 h2
    have e:a=b:=by omega
    subst e
    rw [lexB_tot u v (by simpa using h) (h1.2 rfl) (h2.2 rfl)]
theorem lessT_iff {u v:List Int}:lessT u v=true↔u.length<v.length\/(u.length=v.length/\lexB u v=true):=by simp [lessT]
theorem lessT_not {u v:List Int}:lessT u v=false↔v.length<=u.length/\(u.length=v.length->lexB u v=false):=by
  simp only [lessT,Bool.or_eq_false_iff,Bool.and_eq_false_imp,decide_eq_false_iff_not,decide_eq_true_eq]
  exact ⟨fun h=>⟨by omega,h.2⟩,fun h=>⟨by omega,h.2⟩⟩
theorem lessT_ord:Ord lessT where
  tr:=fun a b c h1 h2=>by
    rw [lessT_not] at h1 h2 ⊢
    refine ⟨by omega,fun e=>?_⟩
    exact lexB_tr a b c (h1.2 (by omega)) (h2.2 (by omega))
  as:=fun a b h=>by
    rw [lessT_iff] at h
    rw [lessT_not]
    rcases h with h | ⟨h,k⟩
    · exact ⟨by omega,fun e=>by omega⟩
    · exact ⟨by omega,fun _=>lexB_as _ _ k⟩
theorem lessT_tot {u v:List Int}(h1:lessT u v=false)(h2:lessT v u=false):u=v:=by
  rw [lessT_not] at h1 h2
  exact lexB_tot u v (by omega) (h1.2 (by omega)) (h2.2 (by omega))
theorem Ord.on {α β:Type}{lt:α->α->Bool}(h:Ord lt)(k:β->α):Ord (fun a b=>lt (k a) (k b)):=⟨fun _ _ _=>h.tr _ _ _,fun _ _=>h.as _ _⟩
end Go.Proofs.YtpoibdhhcbelnaaGreatDoor
namespace Go.Proofs.YtpoibdhhcbelnaaGreatDoor
open Brm
theorem turn1_first {P:List Int->Prop}:∀ (r:Nat) (t:List Int),Rep P r t->t≠[]->∃ a b,t=a++b/\a≠[]/\P a/\1<=r/\Rep P (r-1) b
  | 0,t,h,hn=>absurd h hn
  | r+1,t,h,hn=>by
    obtain ⟨a,b,e,ha,hb⟩:=h
    by_cases h0:a=[]
    · subst h0
      rw [List.nil_append] at e
      subst e
      obtain ⟨u,v,e2,hu,hp,hr,hv⟩:=turn1_first r t hb hn
      refine ⟨u,v,e2,hu,hp,by omega,?_⟩
      obtain ⟨q,rfl⟩:∃ q,r=q+1:=⟨r-1,by omega⟩
      exact ⟨[],v,rfl,ha,hv⟩
    · exact ⟨a,b,e,h0,ha,by omega,hb⟩
theorem turn1_empty {P:List Int->Prop}{r:Nat}(h:Rep P (r+1) []):P []:=by
  obtain ⟨a,b,e,ha,_⟩:=h
  have:=List.append_eq_nil_iff.1 e.symm
  rw [<- this.1];exact ha
inductive RE where
  | set (s:List (Int×Int))
  | empty
  | pair (a b:Nat)
  | or (l:List Nat)
  | not (a:Nat)
  | many (a:Nat) (m n:Int)
  deriving DecidableEq
def RE.parts:RE->List Nat
  | .set _=>[]
  | .empty=>[]
  | .pair a b=>[a,b]
  | .or l=>l
  | .not a=>[a]
  | .many a _ _=>[a]
abbrev Lg:=List Int->Prop
def RE.lang (L:Nat->Lg):RE->Lg
  | .set s,u=>∃ c,u=[c]/\memB s c=true
  | .empty,u=>u=[]
  | .pair a b,u=>∃ x y,u=x++y/\L a x/\L b y
  | .or l,u=>∃ a∈l,L a u
  | .not a,u=>¬ L a u
  | .many a m n,u=>∃ r:Nat,m<=r/\(n<0\/(r:Int)<=n)/\Rep (L a) r u
theorem RE.lang_congr {L L':Nat->Lg}(e:RE)(h:∀ a∈e.parts,L a=L' a):e.lang L=e.lang L':=by
  cases e with
  | set s=>rfl
  | empty=>rfl
  | pair a b =>
    funext u
    simp only [RE.lang,h a (by simp [RE.parts]),h b (by simp [RE.parts])]
  | or l =>
    funext u
    simp only [RE.lang,eq_iff_iff]
    constructor
    · rintro ⟨a,ha,hu⟩;exact ⟨a,ha,by rw [<- h a ha];exact hu⟩
    · rintro ⟨a,ha,hu⟩;exact ⟨a,ha,by rw [h a ha];exact hu⟩
  | not a =>
    funext u
    simp only [RE.lang,h a (by simp [RE.parts])]
  | many a m n =>
    funext u
    simp only [RE.lang,h a (by simp [RE.parts])]
def langs:List RE->List Lg
  | []=>[]
  | e::T=>langs T++[e.lang (fun a=>(langs T)[a]?.getD (fun _=>False))]
def lg (T:List RE)(i:Nat):Lg:=(langs T.reverse)[i]?.getD (fun _=>False)
theorem langs_len:∀ (T:List RE),(langs T).length=T.length
  | []=>rfl
  | e::T=>by simp [langs,langs_len T]
theorem langs_cons (e:RE)(T:List RE):langs (e::T)=langs T++[e.lang (fun a=>(langs T)[a]?.getD (fun _=>False))]:=rfl
theorem lg_old {T:List RE}{e:RE}{i:Nat}(h:i<T.length):lg (T++[e]) i=lg T i:=by
  unfold lg
  rw [List.reverse_append]
  show (langs (e::T.reverse))[i]?.getD _=_
  rw [langs_cons,List.getElem?_append_left (by rw [langs_len];simpa using h)]
theorem lg_new {T:List RE}{e:RE}:lg (T++[e]) T.length=e.lang (lg T):=by
  unfold lg
  rw [List.reverse_append]
  show (langs (e::T.reverse))[T.length]?.getD _=_
  rw [langs_cons,List.getElem?_append_right (by rw [langs_len];simp)]
  simp [langs_len]
theorem lg_more:∀ (Q T:List RE) {i:Nat},i<T.length->lg (T++Q) i=lg T i
  | [],T,i,_=>by rw [List.append_nil]
  | e::Q,T,i,h=>by
    have:=lg_more Q (T++[e]) (i:=i) (by simp;omega)
    rw [List.append_assoc,List.singleton_append] at this
    rw [this,lg_old h]
theorem lg_at {T:List RE}{i:Nat}{e:RE}(h:T[i]?=some e)(hp:∀ a∈e.parts,a<i):lg T i=e.lang (lg T):=by
  have hi:i<T.length:=(List.getElem?_eq_some_iff.1 h).1
  have e1:T=T.take i++[e]++T.drop (i+1):=by
    have:=(List.getElem?_eq_some_iff.1 h).2
    rw [List.append_assoc,List.singleton_append,<- this,<- List.drop_eq_getElem_cons hi,List.take_append_drop]
  have hl:(T.take i).length=i:=by simp;omega
  have e2:lg T i=e.lang (lg (T.take i)):=by
    conv=>lhs;rw [e1]
    rw [lg_more _ _ (by simp;omega)]
    have:=lg_new (T:=T.take i) (e:=e)
    rw [hl] at this
    exact this
  rw [e2]
  apply RE.lang_congr
  intro a ha
  have hai:=hp a ha
  conv=>rhs;rw [e1,List.append_assoc]
  rw [lg_more _ _ (by rw [hl];exact hai)]
def sumL (f:Nat->Nat):List Nat->Nat
  | []=>0
  | a::l=>f a+sumL f l
theorem sumL_congr {f g:Nat->Nat}:∀ {l:List Nat},(∀ a∈l,f a=g a)->sumL f l=sumL g l
  | [],_=>rfl
  | a::l,h=>by unfold sumL;rw [h a (by simp),sumL_congr (fun b hb=>h b (by simp [hb]))]
def maxL (f:Nat->Nat):List Nat->Nat
  | []=>0
  | a::l=>max (f a) (maxL f l)
theorem maxL_congr {f g:Nat->Nat}:∀ {l:List Nat},(∀ a∈l,f a=g a)->maxL f l=maxL g l
  | [],_=>rfl
  | a::l,h=>by unfold maxL;rw [h a (by simp),maxL_congr (fun b hb=>h b (by simp [hb]))]
structure Me where
  n:Nat
  p:Nat
  y:Nat
  z:Nat
instance:LE Me:=⟨fun A B=>A.n<=B.n/\A.p<=B.p/\A.y<=B.y/\A.z<=B.z⟩
theorem Me.le_def {A B:Me}:A<=B↔A.n<=B.n/\A.p<=B.p/\A.y<=B.y/\A.z<=B.z:=Iff.rfl
theorem Me.refl (A:Me):A<=A:=⟨Nat.le_refl _,Nat.le_refl _,Nat.le_refl _,Nat.le_refl _⟩
theorem Me.trans {A B C:Me}(h:A<=B)(k:B<=C):A<=C:=⟨Nat.le_trans h.1 k.1,Nat.le_trans h.2.1 k.2.1,Nat.le_trans h.2.2.1 k.2.2.1,Nat.le_trans h.2.2.2 k.2.2.2⟩
def oneM:Me:=⟨1,1,1,1⟩
def pairM (A B:Me):Me:=⟨A.n+B.n,max (A.p+B.n) B.p,A.y+B.y,A.z+B.z⟩
def orM (f:Nat->Me)(l:List Nat):Me:=⟨max 1 (maxL (fun a=>(f a).n) l),max 1 (maxL (fun a=>(f a).p) l),max 1 (sumL (fun a=>(f a).y) l),max 1 (sumL (fun a=>(f a).z) l)⟩
def notM (A:Me):Me:=⟨A.n,A.p,A.y+1,A.z⟩
def manyM (A:Me):Me:=⟨1,A.p+1,A.y+1,A.z+1⟩
def tri (n:Nat):Nat:=n*(n+1) / 2
def derM (A:Me):Me:=⟨A.p,A.p,tri A.y,tri A.z⟩
theorem tri_two (n:Nat):2*tri n=n*(n+1):=by
  unfold tri
  have:n*(n+1) % 2=0:=by
    rcases Nat.mod_two_eq_zero_or_one n with h | h
    · rw [Nat.mul_mod,h];simp
    · rw [Nat.mul_mod,Nat.add_mod,h]
  omega
theorem tri_succ (n:Nat):tri (n+1)=tri n+n+1:=by
  have h1:=tri_two n
  have h2:=tri_two (n+1)
  have:(n+1)*(n+1+1)=n*(n+1)+2*(n+1):=by rw [Nat.mul_add (n+1) (n+1) 1,Nat.mul_comm n (n+1),Nat.mul_add (n+1) n 1];omega
  omega
theorem tri_add (a b:Nat):tri (a+b)=tri a+tri b+a*b:=by
  induction b with
  | zero=>simp [tri]
  | succ b ih=>rw [<- Nat.add_assoc,tri_succ,ih,tri_succ,Nat.mul_succ];omega
theorem tri_mono {a b:Nat}(h:a<=b):tri a<=tri b:=by
  obtain ⟨k,rfl⟩:=Nat.exists_eq_add_of_le h
  rw [tri_add];omega
theorem tri_ge (n:Nat):n<=tri n:=by
  cases n with
  | zero=>exact Nat.zero_le _
  | succ n=>rw [tri_succ];omega
theorem derM_mono {A B:Me}(h:A<=B):derM A<=derM B:=⟨h.2.1,h.2.1,tri_mono h.2.2.1,tri_mono h.2.2.2⟩
theorem pairM_mono {A B A' B':Me}(h:A<=A')(k:B<=B'):pairM A B<=pairM A' B':=by
  obtain ⟨h1,h2,h3,h4⟩:=h
  obtain ⟨k1,k2,k3,k4⟩:=k
  refine ⟨?_,?_,?_,?_⟩<;>simp only [pairM]<;>omega
theorem pairM_assoc (A B C:Me):pairM (pairM A B) C=pairM A (pairM B C):=by
  simp only [pairM,Me.mk.injEq]
  refine ⟨?_,?_,?_,?_⟩<;>omega
theorem notM_mono {A B:Me}(h:A<=B):notM A<=notM B:=⟨h.1,h.2.1,Nat.succ_le_succ h.2.2.1,h.2.2.2⟩
theorem le_notM (A:Me):A<=notM A:=⟨Nat.le_refl _,Nat.le_refl _,Nat.le_succ _,Nat.le_refl _⟩
theorem manyM_mono {A B:Me}(h:A<=B):manyM A<=manyM B:=⟨Nat.le_refl _,Nat.succ_le_succ h.2.1,Nat.succ_le_succ h.2.2.1,Nat.succ_le_succ h.2.2.2⟩
def RE.size (f:Nat->Me):RE->Me
  | .set _=>oneM
  | .empty=>oneM
  | .pair a b=>pairM (f a) (f b)
  | .or l=>orM f l
  | .not a=>notM (f a)
  | .many a _ _=>manyM (f a)
theorem orM_congr {f g:Nat->Me}{l:List Nat}(h:∀ a∈l,f a=g a):orM f l=orM g l:=by
  unfold orM
  rw [maxL_congr (fun a ha=>congrArg Me.n (h a ha)),maxL_congr (fun a ha=>congrArg Me.p (h a ha)),sumL_congr (fun a ha=>congrArg Me.y (h a ha)),sumL_congr (fun a ha=>congrArg Me.z (h a ha))]
theorem RE.size_congr {f g:Nat->Me}(e:RE)(h:∀ a∈e.parts,f a=g a):e.size f=e.size g:=by
  cases e with
  | set s=>rfl
  | empty=>rfl
  | pair a b=>simp only [RE.size,h a (by simp [RE.parts]),h b (by simp [RE.parts])]
  | or l=>exact orM_congr h
  | not a=>simp only [RE.size,h a (by simp [RE.parts])]
  | many a m n=>simp only [RE.size,h a (by simp [RE.parts])]
def szs:List RE->List Me
  | []=>[]
  | e::T=>szs T++[e.size (fun a=>(szs T)[a]?.getD oneM)]
def sz (T:List RE)(i:Nat):Me:=(szs T.reverse)[i]?.getD oneM
theorem szs_len:∀ (T:List RE),(szs T).length=T.length
  | []=>rfl
  | e::T=>by simp [szs,szs_len T]
theorem szs_cons (e:RE)(T:List RE):szs (e::T)=szs T++[e.size (fun a=>(szs T)[a]?.getD oneM)]:=rfl
theorem sz_old {T:List RE}{e:RE}{i:Nat}(h:i<T.length):sz (T++[e]) i=sz T i:=by
  unfold sz
  rw [List.reverse_append]
  show (szs (e::T.reverse))[i]?.getD _=_
  rw [szs_cons,List.getElem?_append_left (by rw [szs_len];simpa using h)]
theorem sz_new {T:List RE}{e:RE}:sz (T++[e]) T.length=e.size (sz T):=by
  unfold sz
  rw [List.reverse_append]
  show (szs (e::T.reverse))[T.length]?.getD _=_
  rw [szs_cons,List.getElem?_append_right (by rw [szs_len];simp)]
  simp [szs_len]
theorem sz_more:∀ (Q T:List RE) {i:Nat},i<T.length->sz (T++Q) i=sz T i
  | [],T,i,_=>by rw [List.append_nil]
  | e::Q,T,i,h=>by
    have:=sz_more Q (T++[e]) (i:=i) (by simp;omega)
    rw [List.append_assoc,List.singleton_append] at this
    rw [this,sz_old h]
theorem sz_at {T:List RE}{i:Nat}{e:RE}(h:T[i]?=some e)(hp:∀ a∈e.parts,a<i):sz T i=e.size (sz T):=by
  have hi:i<T.length:=(List.getElem?_eq_some_iff.1 h).1
  have e1:T=T.take i++[e]++T.drop (i+1):=by
    have:=(List.getElem?_eq_some_iff.1 h).2
    rw [List.append_assoc,List.singleton_append,<- this,<- List.drop_eq_getElem_cons hi,List.take_append_drop]
  have hl:(T.take i).length=i:=by simp;omega
  have e2:sz T i=e.size (sz (T.take i)):=by
    conv=>lhs;rw [e1]
    rw [sz_more _ _ (by simp;omega)]
    have:=sz_new (T:=T.take i) (e:=e)
    rw [hl] at this
    exact this
  rw [e2]
  apply RE.size_congr
  intro a ha
  have hai:=hp a ha
  conv=>rhs;rw [e1,List.append_assoc]
  rw [sz_more _ _ (by rw [hl];exact hai)]
theorem sz_one {T:List RE}(hw:∀ (i:Nat) (e:RE),T[i]?=some e->∀ a∈e.parts,a<i):∀ i,i<T.length->oneM<=sz T i:=by
  intro i
  induction i using Nat.strongRecOn with
  | ind i ih =>
    intro hi
    obtain ⟨e,he⟩:∃ e,T[i]?=some e:=⟨_,List.getElem?_eq_getElem hi⟩
    have hp:=hw i e he
    rw [sz_at he hp]
    have go:∀ a∈e.parts,oneM<=sz T a:=fun a ha=>ih a (hp a ha) (by have:=hp a ha;omega)
    cases e with
    | set s=>exact Me.refl _
    | empty=>exact Me.refl _
    | pair a b =>
      obtain ⟨h1,h2,h3,h4⟩:=go a (by simp [RE.parts])
      obtain ⟨k1,k2,k3,k4⟩:=go b (by simp [RE.parts])
      refine ⟨?_,?_,?_,?_⟩<;>simp only [RE.size,pairM,oneM] at *<;>omega
    | or l=>refine ⟨?_,?_,?_,?_⟩<;>simp only [RE.size,orM,oneM]<;>omega
    | not a =>
      obtain ⟨h1,h2,h3,h4⟩:=go a (by simp [RE.parts])
      refine ⟨?_,?_,?_,?_⟩<;>simp only [RE.size,notM,oneM] at *<;>omega
    | many a m n =>
      refine ⟨?_,?_,?_,?_⟩<;>simp only [RE.size,manyM,oneM]<;>omega
theorem der_notM (A:Me):notM (derM A)<=derM (notM A):=by
  refine ⟨Nat.le_refl _,Nat.le_refl _,?_,Nat.le_refl _⟩
  show tri A.y+1<=tri (A.y+1)
  rw [tri_succ];omega
theorem der_manyM (A:Me):pairM (derM A) (manyM A)<=derM (manyM A):=by
  refine ⟨?_,?_,?_,?_⟩<;>simp only [pairM,derM,manyM]
  · omega
  · omega
  · rw [tri_succ];omega
  · rw [tri_succ];omega
theorem der_pairM {A B:Me}(hA:oneM<=A)(hB:oneM<=B){X Y:Me}(hX:X<=pairM (derM A) B)(hY:Y<=derM B):(⟨max 1 (max X.n Y.n),max 1 (max X.p Y.p),max 1 (X.y+Y.y),max 1 (X.z+Y.z)⟩:Me)<=derM (pairM A B):=by
  obtain ⟨a1,a2,a3,a4⟩:=hA
  obtain ⟨b1,b2,b3,b4⟩:=hB
  obtain ⟨x1,x2,x3,x4⟩:=hX
  obtain ⟨y1,y2,y3,y4⟩:=hY
  simp only [pairM,derM,oneM] at *
  have t1:=tri_add A.y B.y
  have t2:=tri_add A.z B.z
  have m1:B.y<=A.y*B.y:=Nat.le_mul_of_pos_left _ (by omega)
  have m2:B.z<=A.z*B.z:=Nat.le_mul_of_pos_left _ (by omega)
  have g1:=tri_ge A.y
  have g2:=tri_ge A.z
  refine ⟨?_,?_,?_,?_⟩<;>simp only<;>omega
theorem le_sumL {f:Nat->Nat}:∀ {l:List Nat} {a:Nat},a∈l->f a<=sumL f l
  | b::l,a,h=>by
    unfold sumL
    rcases List.mem_cons.1 h with rfl | h
    · omega
    · have:=le_sumL (f:=f) h;omega
theorem le_maxL {f:Nat->Nat}:∀ {l:List Nat} {a:Nat},a∈l->f a<=maxL f l
  | b::l,a,h=>by
    unfold maxL
    rcases List.mem_cons.1 h with rfl | h
    · omega
    · have:=le_maxL (f:=f) h;omega
theorem tri_sum {f:Nat->Nat}:∀ (l:List Nat),sumL (fun a=>tri (f a)) l<=tri (sumL f l)
  | []=>Nat.zero_le _
  | a::l=>by unfold sumL;rw [tri_add];have:=tri_sum (f:=f) l;omega
theorem der_orM (f:Nat->Me)(l:List Nat):orM (fun a=>derM (f a)) l<=derM (orM f l):=by
  have t1:=tri_sum (f:=fun a=>(f a).y) l
  have t2:=tri_sum (f:=fun a=>(f a).z) l
  have u1:=tri_mono (show sumL (fun a=>(f a).y) l<=max 1 (sumL (fun a=>(f a).y) l) by omega)
  have u2:=tri_mono (show sumL (fun a=>(f a).z) l<=max 1 (sumL (fun a=>(f a).z) l) by omega)
  have v1:=tri_ge (max 1 (sumL (fun a=>(f a).y) l))
  have v2:=tri_ge (max 1 (sumL (fun a=>(f a).z) l))
  refine ⟨?_,?_,?_,?_⟩<;>simp only [orM,derM]<;>omega
theorem le_orM {f:Nat->Me}{l:List Nat}{a:Nat}(h:a∈l):f a<=orM f l:=by
  have h1:=le_maxL (f:=fun a=>(f a).n) h
  have h2:=le_maxL (f:=fun a=>(f a).p) h
  have h3:=le_sumL (f:=fun a=>(f a).y) h
  have h4:=le_sumL (f:=fun a=>(f a).z) h
  refine ⟨?_,?_,?_,?_⟩<;>simp only [orM] at *<;>omega
def der (L:Lg)(r:Int):Lg:=fun u=>L (r::u)
def noneL:Lg:=fun _=>False
def emptyL:Lg:=fun u=>u=[]
def pairL (A B:Lg):Lg:=fun u=>∃ x y,u=x++y/\A x/\B y
def orL (A B:Lg):Lg:=fun u=>A u\/B u
def notL (A:Lg):Lg:=fun u=>¬ A u
def manyL (A:Lg)(m n:Int):Lg:=fun u=>∃ r:Nat,m<=r/\(n<0\/(r:Int)<=n)/\Rep A r u
theorem pair_none {B:Lg}:pairL noneL B=noneL:=by
  funext u;simp [pairL,noneL]
theorem none_pair {A:Lg}:pairL A noneL=noneL:=by
  funext u;simp [pairL,noneL]
theorem pair_empty {B:Lg}:pairL emptyL B=B:=by
  funext u
  simp only [pairL,emptyL,eq_iff_iff]
  constructor
  · rintro ⟨x,y,rfl,rfl,h⟩;exact h
  · intro h;exact ⟨[],u,rfl,rfl,h⟩
theorem empty_pair {A:Lg}:pairL A emptyL=A:=by
  funext u
  simp only [pairL,emptyL,eq_iff_iff]
  constructor
  · rintro ⟨x,y,rfl,h,rfl⟩;simpa using h
  · intro h;exact ⟨u,[],by simp,h,rfl⟩
theorem pair_assoc {A B C:Lg}:pairL (pairL A B) C=pairL A (pairL B C):=by
  funext u
  simp only [pairL,eq_iff_iff]
  constructor
  · rintro ⟨_,z,rfl,⟨x,y,rfl,hx,hy⟩,hz⟩;exact ⟨x,y++z,by simp,hx,y,z,rfl,hy,hz⟩
  · rintro ⟨x,_,rfl,hx,y,z,rfl,hy,hz⟩;exact ⟨x++y,z,by simp,⟨x,y,rfl,hx,hy⟩,hz⟩
open Classical in
theorem der_pair {A B:Lg}{r:Int}:der (pairL A B) r=if A [] then orL (pairL (der A r) B) (der B r) else pairL (der A r) B:=by
  funext u
  have key:der (pairL A B) r u↔(pairL (der A r) B u\/(A []/\der B r u)):=by
    constructor
    · rintro ⟨x,y,e,hx,hy⟩
      cases x with
      | nil=>rw [List.nil_append] at e;subst e;exact .inr ⟨hx,hy⟩
      | cons c x=>injection e with e1 e2;subst e1;exact .inl ⟨x,y,e2,hx,hy⟩
    · rintro (⟨x,y,rfl,hx,hy⟩ | ⟨ha,hb⟩)
      · exact ⟨r::x,y,rfl,hx,hy⟩
      · exact ⟨[],r::u,rfl,ha,hb⟩
  by_cases h:A []
  · rw [if_pos h,propext key];simp [orL,h]
  · rw [if_neg h,propext key];simp [h]
theorem not_not {A:Lg}:notL (notL A)=A:=by funext u;simp [notL]
def fewerI (n:Int):Int:=if 0<n then n-1 else n
theorem der_many {A:Lg}{m n:Int}{r:Int}(hm:0<=m)(hn:n=-1\/0<n):der (manyL A m n) r=pairL (der A r) (manyL A (fewerI m) (fewerI n)):=by
  funext u
  simp only [eq_iff_iff]
  constructor
  · rintro ⟨k,h1,h2,h3⟩
    obtain ⟨x,y,e,hx,hp,hk,hr⟩:=turn1_first k _ h3 (by simp)
    cases x with
    | nil=>exact absurd rfl hx
    | cons c x =>
      injection e with e1 e2
      subst e1
      refine ⟨x,y,e2,hp,k-1,?_,?_,hr⟩
      · unfold fewerI;split<;>omega
      · unfold fewerI;split<;>omega
  · rintro ⟨x,y,rfl,hx,k,h1,h2,h3⟩
    refine ⟨k+1,?_,?_,r::x,y,rfl,hx,h3⟩
    · unfold fewerI at h1;split at h1<;>omega
    · unfold fewerI at h2;split at h2<;>omega
theorem many_zero {A:Lg}{m:Int}(hm:m=0):manyL A m 0=emptyL:=by
  funext u
  simp only [manyL,emptyL,eq_iff_iff,hm]
  constructor
  · rintro ⟨r,_,h2,h3⟩
    have:r=0:=by omega
    subst this;exact h3
  · rintro rfl;exact ⟨0,by omega,by omega,rfl⟩
theorem many_ends {A:Lg}{m n:Int}(hm:0<=m)(hn:n=-1\/m<=n):manyL A m n []↔m=0\/A []:=by
  constructor
  · rintro ⟨r,h1,h2,h3⟩
    cases r with
    | zero=>left;omega
    | succ r=>exact .inr (turn1_empty h3)
  · rintro (rfl | h)
    · exact ⟨0,by omega,by omega,rfl⟩
    · have:∀ k,Rep A k []:=fun k=>by induction k with | zero=>rfl | succ k ih=>exact ⟨[],[],rfl,h,ih⟩
      exact ⟨m.toNat,by omega,by omega,this _⟩
theorem pair_ends {A B:Lg}:pairL A B []↔A []/\B []:=by
  constructor
  · rintro ⟨x,y,e,hx,hy⟩
    obtain ⟨rfl,rfl⟩:=List.append_eq_nil_iff.1 e.symm
    exact ⟨hx,hy⟩
  · rintro ⟨h1,h2⟩;exact ⟨[],[],rfl,h1,h2⟩
end Go.Proofs.YtpoibdhhcbelnaaGreatDoor
namespace Go.Proofs.YtpoibdhhcbelnaaGreatDoor
open Brm
def ValT (t:List Int):Prop:=∀ r∈t,runeB r=true
theorem ValT.rng {t:List Int}(h:ValT t):∀ r∈t,0<=r/\r<1114112:=fun r hr=>by
  have:=h r hr
  simp only [runeB,decide_eq_true_eq] at this
  omega
def code:List Int->Nat->Nat
  | [],n=>n
  | a::t,n=>code t (n*1114112+a.toNat)
theorem code_lt:∀ (s t:List Int) {m n:Nat},(∀ r∈s,0<=r/\r<1114112)->s.length=t.length->m<n->code s m<code t n
  | [],[],_,_,_,_,h=>h
  | [],_::_,_,_,_,h,_=>by simp at h
  | _::_,[],_,_,_,h,_=>by simp at h
  | a::s,b::t,m,n,hs,hl,h=>by
    have ha:=hs a (by simp)
    refine code_lt s t (fun r hr=>hs r (by simp [hr])) (by simpa using hl) ?_
    have h1:m*1114112+1114112<=n*1114112:=by
      have:=Nat.mul_le_mul_right 1114112 h
      rw [Nat.succ_mul] at this
      exact this
    omega
theorem code_lex:∀ (s t:List Int) (n:Nat),(∀ r∈s,0<=r/\r<1114112)->(∀ r∈t,0<=r/\r<1114112)->s.length=t.length->lexB s t=true->code s n<code t n
  | [],[],_,_,_,_,h=>by simp [lexB] at h
  | [],_::_,_,_,_,h,_=>by simp at h
  | _::_,[],_,_,_,h,_=>by simp at h
  | a::s,b::t,n,hs,ht,hl,h=>by
    have ha:=hs a (by simp)
    have hb:=ht b (by simp)
    simp only [lexB,Bool.or_eq_true,Bool.and_eq_true,decide_eq_true_eq] at h
    rcases h with h | ⟨rfl,h⟩
    · exact code_lt s t (fun r hr=>hs r (by simp [hr])) (by simpa using hl) (by omega)
    · exact code_lex s t _ (fun r hr=>hs r (by simp [hr])) (fun r hr=>ht r (by simp [hr])) (by simpa using hl) h
theorem code_len:∀ (s t:List Int) (m n:Nat),(∀ r∈s,0<=r/\r<1114112)->m<n*1114112->1<=n->t.length=s.length+1->code s m<code t n
  | [],[],_,_,_,_,_,h=>by simp at h
  | [],[b],m,n,_,h,_,_=>by
    have e:code [b] n=n*1114112+b.toNat:=rfl
    have e2:code [] m=m:=rfl
    rw [e,e2]
    exact Nat.lt_of_lt_of_le h (Nat.le_add_right _ _)
  | [],_::_::_,_,_,_,_,_,h=>by simp at h
  | _::_,[],_,_,_,_,_,h=>by simp at h
  | a::s,b::t,m,n,hs,h,hn,hl=>by
    have ha:=hs a (by simp)
    refine code_len s t _ _ (fun r hr=>hs r (by simp [hr])) ?_ (by omega) (by simpa using hl)
    have h1:m*1114112+1114112<=n*1114112*1114112:=by
      have:=Nat.mul_le_mul_right 1114112 h
      rw [Nat.succ_mul] at this
      exact this
    rw [Nat.add_mul]
    omega
theorem code_longer:∀ (k:Nat) (s t:List Int),(∀ r∈s,0<=r/\r<1114112)->(∀ r∈t,0<=r/\r<1114112)->t.length=s.length+1+k->code s 1<code t 1
  | 0,s,t,hs,_,hl=>code_len s t 1 1 hs (by omega) (by omega) (by omega)
  | k+1,s,t,hs,ht,hl=>by
    have hd:t.dropLast.length=s.length+1+k:=by simp;omega
    have ih:=code_longer k s t.dropLast hs (fun r hr=>ht r ((List.dropLast_sublist t).mem hr)) hd
    have h2:=code_len t.dropLast t 1 1 (fun r hr=>ht r ((List.dropLast_sublist t).mem hr)) (by omega) (by omega) (by simp;omega)
    omega
theorem code_less {s t:List Int}(hs:ValT s)(ht:ValT t)(h:lessT s t=true):code s 1<code t 1:=by
  rw [lessT_iff] at h
  rcases h with h | ⟨h,k⟩
  · exact code_longer (t.length-s.length-1) s t hs.rng ht.rng (by omega)
  · exact code_lex s t 1 hs.rng ht.rng h k
def LeastT (D:List Int->Prop)(n:Nat)(m:List Int):Prop:=ValT m/\D m/\m.length<=n/\∀ t,ValT t->D t->t.length<=n->lessT t m=false
theorem least_ex {D:List Int->Prop}{n:Nat}{s:List Int}(hs:ValT s)(hd:D s)(hl:s.length<=n):∃ m,LeastT D n m/\lessT s m=false:=by
  generalize hk:code s 1=k
  induction k using Nat.strongRecOn generalizing s with
  | ind k ih =>
    by_cases h:∃ t,ValT t/\D t/\t.length<=n/\lessT t s=true
    · obtain ⟨t,t1,t2,t3,t4⟩:=h
      have hc:=code_less t1 hs t4
      obtain ⟨m,m1,m2⟩:=ih (code t 1) (by omega) t1 t2 t3 rfl
      refine ⟨m,m1,?_⟩
      exact lessT_ord.tr _ _ _ m2 (lessT_ord.as _ _ t4)
    · refine ⟨s,⟨hs,hd,hl,fun t t1 t2 t3=>?_⟩,lessT_ord.irr _⟩
      cases e:lessT t s with
      | false=>rfl
      | true=>exact absurd ⟨t,t1,t2,t3,e⟩ h
theorem prefix_less {x z:List Int}:lessT (x++z) x=false:=by
  rw [lessT_not]
  refine ⟨by simp,fun e=>?_⟩
  have:z=[]:=by simp at e;exact e
  subst this
  rw [List.append_nil]
  exact lexB_irr x
theorem lexB_append:∀ (s t z:List Int),s.length=t.length->lexB s t=true->lexB (s++z) (t++z)=true
  | [],[],_,_,h=>by simp [lexB] at h
  | [],_::_,_,h,_=>by simp at h
  | _::_,[],_,h,_=>by simp at h
  | a::s,b::t,z,hl,h=>by
    simp only [lexB,List.cons_append,Bool.or_eq_true,Bool.and_eq_true,decide_eq_true_eq] at h ⊢
    rcases h with h | ⟨e,h⟩
    · exact .inl h
    · exact .inr ⟨e,lexB_append s t z (by simpa using hl) h⟩
theorem less_append {s t:List Int}(z:List Int)(h:lessT s t=true):lessT (s++z) (t++z)=true:=by
  rw [lessT_iff] at h ⊢
  rcases h with h | ⟨h,k⟩
  · exact .inl (by simp;omega)
  · exact .inr ⟨by simp [h],lexB_append s t z h k⟩
structure SrI (D:List Int->Prop)(Al:List Int)(n:Nat)(old wait:List (List Int)):Prop where
  len:∀ x∈wait,x.length<=n
  val:∀ x,x∈wait\/x∈old->ValT x
  ord:∀ x∈old,∀ y∈wait,lessT y x=false
  path:∀ m,LeastT D n m->∃ x∈wait,x ∉ old/\∃ z,m=x++z
variable {D:List Int->Prop} {Al:List Int} {n:Nat} {old wait rest:List (List Int)} {t:List Int}
theorem sr_start:SrI D Al n [] [[]]:=⟨fun x hx=>by simp at hx;subst hx;simp,fun x hx=>by simp at hx;subst hx;intro r hr;simp at hr,fun x hx=>by simp at hx,fun m _=>⟨[],by simp,by simp,m,rfl⟩⟩
theorem sr_found (h:SrI D Al n old wait)(ht:t∈wait)(hm:∀ x∈wait,lessT x t=false)(hd:D t):LeastT D n t:=by
  refine ⟨h.val t (.inl ht),hd,h.len t ht,fun s s1 s2 s3=>?_⟩
  obtain ⟨m,m1,m2⟩:=least_ex s1 s2 s3
  obtain ⟨x,x1,_,z,rfl⟩:=h.path m m1
  have:=hm x x1
  exact lessT_ord.tr _ _ _ this (lessT_ord.tr _ _ _ (prefix_less (x:=x) (z:=z)) m2)
theorem sr_none (h:SrI D Al n old []):∀ s,ValT s->s.length<=n->¬ D s:=fun s s1 s2 s3=>by
  obtain ⟨m,m1,_⟩:=least_ex s1 s3 s2
  obtain ⟨x,x1,_⟩:=h.path m m1
  simp at x1
theorem sr_drop (h:SrI D Al n old wait)(hp:wait.Perm (t::rest))(hm:∀ x∈wait,lessT x t=false)(hno:t ∉ old->∀ m z,LeastT D n m->m≠t++z):SrI D Al n (t::old) rest:=by
  have hsub:∀ x∈rest,x∈wait:=fun x hx=>hp.mem_iff.2 (by simp [hx])
  have htw:t∈wait:=hp.mem_iff.2 (by simp)
  refine ⟨fun x hx=>h.len x (hsub x hx),fun x hx=>?_,fun x hx y hy=>?_,fun m m1=>?_⟩
  · rcases hx with hx | hx
    · exact h.val x (.inl (hsub x hx))
    · rcases List.mem_cons.1 hx with rfl | hx
      · exact h.val x (.inl htw)
      · exact h.val x (.inr hx)
  · rcases List.mem_cons.1 hx with rfl | hx
    · exact hm y (hsub y hy)
    · exact h.ord x hx y (hsub y hy)
  · obtain ⟨x,x1,x2,z,e⟩:=h.path m m1
    by_cases hxt:x=t
    · subst hxt
      exact absurd e (hno x2 m z m1)
    · refine ⟨x,?_,?_,z,e⟩
      · rcases List.mem_cons.1 (hp.mem_iff.1 x1) with e | e
        · exact absurd e hxt
        · exact e
      · intro hx
        rcases List.mem_cons.1 hx with e | e
        · exact hxt e
        · exact x2 e
theorem sr_long (hd:¬ D t)(hl:t.length=n):∀ m z,LeastT D n m->m≠t++z:=fun m z m1 e=>by
  have h1:=m1.2.2.1
  rw [e,List.length_append] at h1
  have:z=[]:=List.length_eq_zero_iff.1 (by omega)
  subst this
  rw [List.append_nil] at e
  subst e
  exact hd m1.2.1
theorem sr_same (hs:∀ z,¬ D (t++z)):∀ m z,LeastT D n m->m≠t++z:=fun m z m1 e=>by
  subst e
  exact hs z m1.2.1
theorem sr_seen (h:SrI D Al n old wait)(ht:t∈wait){s:List Int}(hs:s∈old)(he:∀ z,ValT z->(D (s++z)↔D (t++z)))(hn:t ∉ old):∀ m z,LeastT D n m->m≠t++z:=fun m z m1 e=>by
  subst e
  have hne:s≠t:=fun e=>hn (by rw [<- e];exact hs)
  have ho:=h.ord s hs t ht
  have hlt:lessT s t=true:=by
    cases e:lessT s t with
    | true=>rfl
    | false=>exact absurd (lessT_tot e ho) hne
  have hz:ValT z:=fun r hr=>m1.1 r (by simp [hr])
  have hsv:ValT (s++z):=fun r hr=>by
    rcases List.mem_append.1 hr with hr | hr
    · exact h.val s (.inr hs) r hr
    · exact hz r hr
  have hll:=less_append z hlt
  have hlen:(s++z).length<=n:=by
    have h1:=m1.2.2.1
    rw [lessT_iff] at hlt
    simp only [List.length_append] at h1 ⊢
    omega
  have:=m1.2.2.2 (s++z) hsv ((he z hz).2 m1.2.1) hlen
  rw [hll] at this
  cases this
theorem sr_grow (h:SrI D Al n old wait)(hp:wait.Perm (t::rest))(hm:∀ x∈wait,lessT x t=false)(hd:¬ D t)(hl:t.length≠n)(hA:∀ r∈Al,runeB r=true)(hAl:∀ m,LeastT D n m->∀ r∈m,r∈Al){wait':List (List Int)}(hw:wait'.Perm (Al.map (fun r=>t++[r])++rest)):SrI D Al n (t::old) wait':=by
  have hsub:∀ x∈rest,x∈wait:=fun x hx=>hp.mem_iff.2 (by simp [hx])
  have htw:t∈wait:=hp.mem_iff.2 (by simp)
  have htl:=h.len t htw
  have htv:=h.val t (.inl htw)
  have hcase:∀ x∈wait',(∃ r∈Al,x=t++[r])\/x∈rest:=fun x hx=>by
    rcases List.mem_append.1 (hw.mem_iff.1 hx) with hx | hx
    · obtain ⟨r,hr,rfl⟩:=List.mem_map.1 hx
      exact .inl ⟨r,hr,rfl⟩
    · exact .inr hx
  refine ⟨fun x hx=>?_,fun x hx=>?_,fun x hx y hy=>?_,fun m m1=>?_⟩
  · rcases hcase x hx with ⟨r,_,rfl⟩ | hx
    · simp;omega
    · exact h.len x (hsub x hx)
  · rcases hx with hx | hx
    · rcases hcase x hx with ⟨r,hr,rfl⟩ | hx
      · intro q hq
        rcases List.mem_append.1 hq with hq | hq
        · exact htv q hq
        · simp at hq;subst hq;exact hA q hr
      · exact h.val x (.inl (hsub x hx))
    · rcases List.mem_cons.1 hx with rfl | hx
      · exact htv
      · exact h.val x (.inr hx)
  · have hty:lessT y t=false:=by
      rcases hcase y hy with ⟨r,_,rfl⟩ | hy
      · exact prefix_less
      · exact hm y (hsub y hy)
    rcases List.mem_cons.1 hx with rfl | hx
    · exact hty
    · exact lessT_ord.tr _ _ _ (h.ord x hx t htw) hty
  · obtain ⟨x,x1,x2,z,e⟩:=h.path m m1
    by_cases hxt:x=t
    · subst hxt
      cases z with
      | nil=>rw [List.append_nil] at e;subst e;exact absurd m1.2.1 hd
      | cons r z =>
        have hr:r∈Al:=hAl m m1 r (by rw [e];simp)
        refine ⟨x++[r],hw.mem_iff.2 (List.mem_append.2 (.inl (List.mem_map.2 ⟨r,hr,rfl⟩))),?_,z,by rw [e];simp⟩
        intro hx
        rcases List.mem_cons.1 hx with e' | e'
        · have:=congrArg List.length e'
          simp at this
        · have ho:=h.ord (x++[r]) e' x htw
          rw [lessT_not] at ho
          simp at ho
          omega
    · refine ⟨x,hw.mem_iff.2 (List.mem_append.2 (.inr ?_)),?_,z,e⟩
      · rcases List.mem_cons.1 (hp.mem_iff.1 x1) with e | e
        · exact absurd e hxt
        · exact e
      · intro hx
        rcases List.mem_cons.1 hx with e | e
        · exact hxt e
        · exact x2 e
end Go.Proofs.YtpoibdhhcbelnaaGreatDoor
namespace Go.Proofs.YtpoibdhhcbelnaaGreatDoor
namespace Brm
def Starts (l:List Int):Prop:=∃ c t,l=c::t/\isTimes c=false/\ends c=false
def Fresh (s:List Int):Prop:=headIs isTimes s=false
def Stops (s:List Int):Prop:=rowEnds false s=true
def Closes (s:List Int):Prop:=s=[]\/∃ t,s=41::t
theorem Closes.stops {s:List Int}(h:Closes s):Stops s:=by rcases h with rfl | ⟨t,rfl⟩<;>rfl
theorem ends_not_times {c:Int}(h:ends c=true):isTimes c=false:=by
  have:c=124\/c=38\/c=41:=by simpa [ends] using h
  rcases this with rfl | rfl | rfl<;>rfl
theorem Stops.fresh {s:List Int}(h:Stops s):Fresh s:=by
  cases s with
  | nil=>rfl
  | cons c t =>
    have:ends c=true:=by simpa [Stops,rowEnds] using h
    exact ends_not_times this
theorem Starts.fresh {l:List Int}(h:Starts l)(s:List Int):Fresh (l++s):=by
  obtain ⟨c,t,rfl,h1,_⟩:=h;exact h1
theorem Starts.row {l:List Int}(h:Starts l)(s:List Int):rowEnds false (l++s)=false:=by
  obtain ⟨c,t,rfl,_,h2⟩:=h;simp [rowEnds,h2]
theorem Starts.len {l:List Int}(h:Starts l):1<=l.length:=by obtain ⟨c,t,rfl,_⟩:=h;simp
def AtomW (l:List Int)(p:Pat):Prop:=(∃ c t,l=c::t/\c≠126/\isTimes c=false/\ends c=false)/\∀ n rest,l.length<=n->atomP (orN false n) (l++rest)=.ok p rest
def ItemW (l:List Int)(p:Pat):Prop:=Starts l/\∀ n rest,l.length<=n->Fresh rest->notP (orN false n) (l++rest)=.ok p rest
def TimesW (t:List Int)(mn:Int×Int):Prop:=(∃ c u,t=c::u/\isTimes c=true)/\∀ rest,timesP (t++rest)=.ok mn rest
inductive SfxW:Pat->List Int->Pat->Prop
  | nil {x:Pat}:SfxW x [] x
  | cons {x p:Pat} {t u:List Int} {mn:Int×Int}:TimesW t mn->SfxW (.many x mn.1 mn.2) u p->SfxW x (t++u) p
theorem SfxW.snoc {x p:Pat}{u t:List Int}{mn:Int×Int}(h:SfxW x u p)(k:TimesW t mn):SfxW x (u++t) (.many p mn.1 mn.2):=by
  induction h with
  | nil =>
    rename_i x
    have:=SfxW.cons (x:=x) k (SfxW.nil (x:=.many x mn.1 mn.2))
    simpa using this
  | cons ht _ ih=>rw [List.append_assoc];exact .cons ht ih
theorem sfx_read {x p:Pat}{u:List Int}(h:SfxW x u p):∀ (f:Nat) (rest:List Int),u.length<f->Fresh rest->manyLoop f x (u++rest)=.ok p rest:=by
  induction h with
  | nil =>
    intro f rest hf hr
    cases f with
    | zero=>omega
    | succ f=>rw [List.nil_append];unfold manyLoop;rw [if_neg (by rw [show headIs isTimes rest=false from hr];simp)]
  | cons ht _ ih =>
    rename_i x p t u mn _
    intro f rest hf hr
    obtain ⟨⟨c,v,rfl,hc⟩,hread⟩:=ht
    cases f with
    | zero=>omega
    | succ f =>
      rw [List.append_assoc]
      unfold manyLoop
      rw [if_pos (show headIs isTimes ((c::v)++(u++rest))=true from hc),hread]
      refine ih f rest ?_ hr
      simp only [List.length_append,List.length_cons] at hf;omega
def CoreW (l:List Int)(p:Pat):Prop:=∃ a x u,l=a++u/\AtomW a x/\SfxW x u p
theorem AtomW.core {l:List Int}{p:Pat}(h:AtomW l p):CoreW l p:=⟨l,p,[],by simp,h,.nil⟩
theorem CoreW.many {l t:List Int}{p:Pat}{mn:Int×Int}(h:CoreW l p)(k:TimesW t mn):CoreW (l++t) (.many p mn.1 mn.2):=by
  obtain ⟨a,x,u,rfl,ha,hs⟩:=h
  exact ⟨a,x,u++t,by simp,ha,hs.snoc k⟩
theorem CoreW.item {l:List Int}{p:Pat}(h:CoreW l p):ItemW l p:=by
  obtain ⟨a,x,u,rfl,⟨⟨c,t,rfl,h1,h2,h3⟩,hr⟩,hs⟩:=h
  refine ⟨⟨c,t++u,rfl,h2,h3⟩,fun n rest hn hf=>?_⟩
  have e:notP (orN false n) ((c::t)++u++rest)=manyP (orN false n) ((c::t)++(u++rest)):=by
    rw [List.append_assoc]
    show notP (orN false n) (c::(t++(u++rest)))=_
    unfold notP
    rw [if_neg h1]
    rfl
  rw [e]
  unfold manyP
  rw [hr n _ (by simp only [List.length_append] at hn;omega)]
  exact sfx_read hs _ _ (by simp only [List.length_append];omega) hf
theorem ItemW.not {l:List Int}{p:Pat}(h:ItemW l p):ItemW (126::l) (.not p):=by
  refine ⟨⟨126,l,rfl,rfl,rfl⟩,fun n rest hn hf=>?_⟩
  show notP (orN false n) (126::(l++rest))=_
  unfold notP
  rw [if_pos rfl,h.2 n rest (by simp only [List.length_cons] at hn;omega) hf]
  rfl
inductive RowW:List Int->List Pat->Prop
  | nil:RowW [] []
  | cons {l t:List Int} {p:Pat} {ps:List Pat}:ItemW l p->RowW t ps->RowW (l++t) (p::ps)
theorem RowW.fresh {l:List Int}{ps:List Pat}(h:RowW l ps){rest:List Int}(hr:Stops rest):Fresh (l++rest):=by
  cases h with
  | nil=>exact hr.fresh
  | cons hi _=>rw [List.append_assoc];exact hi.1.fresh _
theorem RowW.snoc {l t:List Int}{p:Pat}{ps:List Pat}(h:RowW l ps)(k:ItemW t p):RowW (l++t) (ps++[p]):=by
  induction h with
  | nil=>simpa using RowW.cons k .nil
  | cons hi _ ih=>rw [List.append_assoc];exact .cons hi ih
theorem RowW.one {l:List Int}{p:Pat}(k:ItemW l p):RowW l [p]:=by simpa using RowW.cons k .nil
theorem row_read {l:List Int}{ps:List Pat}(h:RowW l ps):∀ (n f:Nat) (acc:List Pat) (rest:List Int),l.length<=n->l.length<f->Stops rest->rowLoop false (orN false n) f acc (l++rest)=.ok (.row (acc++ps)) rest:=by
  induction h with
  | nil =>
    intro n f acc rest _ hf hr
    cases f with
    | zero=>omega
    | succ f=>rw [List.nil_append];unfold rowLoop;rw [if_pos (show rowEnds false rest=true from hr),List.append_nil]
  | cons hi ht ih =>
    rename_i l t p ps
    intro n f acc rest hn hf hr
    rw [List.length_append] at hn hf
    have:=hi.1.len
    cases f with
    | zero=>omega
    | succ f =>
      rw [List.append_assoc]
      unfold rowLoop
      rw [if_neg (by rw [hi.1.row];simp),hi.2 n _ (by omega) (ht.fresh hr)]
      show rowLoop false (orN false n) f (acc++[p]) (t++rest)=_
      rw [ih n f _ rest (by omega) (by omega) hr,List.append_assoc]
      rfl
inductive JoinW (P:List Int->Pat->Prop) (sign:Int):List Int->List Pat->Prop
  | one {l:List Int} {p:Pat}:P l p->JoinW P sign l [p]
  | cons {l t:List Int} {p:Pat} {ps:List Pat}:P l p->JoinW P sign t ps->JoinW P sign (l++sign::t) (p::ps)
theorem join_read {P:List Int->Pat->Prop}{sign:Int}{part:List Int->Res Pat}{mk:List Pat->Pat}{n:Nat}{S:List Int->Prop}(hP:∀ l p rest,P l p->l.length<=n->S rest->part (l++rest)=.ok p rest)(hS:∀ t,S (sign::t)){l:List Int}{ps:List Pat}(h:JoinW P sign l ps) :
    ∀ (f:Nat) (acc:List Pat) (rest:List Int),l.length<=n->l.length<f->S rest->rest.head?≠some sign->joinLoop part sign mk f acc (l++rest)=.ok (mk (acc++ps)) rest:=by
  induction h with
  | one hp =>
    intro f acc rest hn hf hr hh
    cases f with
    | zero=>omega
    | succ f =>
      unfold joinLoop
      rw [hP _ _ _ hp hn hr]
      show (if rest.head?=some sign then _ else _)=_
      rw [if_neg hh]
  | cons hp ht ih =>
    rename_i l t p ps
    intro f acc rest hn hf hr hh
    rw [List.length_append,List.length_cons] at hn hf
    cases f with
    | zero=>omega
    | succ f =>
      rw [List.append_assoc,List.cons_append]
      unfold joinLoop
      rw [hP _ _ _ hp (by omega) (hS _)]
      show (if (some sign:Option Int)=some sign then joinLoop part sign mk f (acc++[p]) (t++rest) else _)=_
      rw [if_pos rfl,ih f _ rest (by omega) (by omega) hr hh,List.append_assoc]
      rfl
def RowU (l:List Int)(p:Pat):Prop:=∃ ps,p=.row ps/\RowW l ps
def AndU (l:List Int)(p:Pat):Prop:=∃ ps,p=.and ps/\JoinW RowU 38 l ps
def OrU (l:List Int)(p:Pat):Prop:=∃ ps,p=.or ps/\JoinW AndU 124 l ps
theorem RowU.read {l:List Int}{p:Pat}(h:RowU l p){n:Nat}(hn:l.length<=n){rest:List Int}(hr:Stops rest):rowP false (orN false n) (l++rest)=.ok p rest:=by
  obtain ⟨ps,rfl,hw⟩:=h
  unfold rowP
  rw [row_read hw n _ [] rest hn (by simp only [List.length_append];omega) hr]
  rfl
theorem AndU.read {l:List Int}{p:Pat}(h:AndU l p){n:Nat}(hn:l.length<=n){rest:List Int}(hr:Stops rest)(hh:rest.head?≠some 38):andP false (orN false n) (l++rest)=.ok p rest:=by
  obtain ⟨ps,rfl,hw⟩:=h
  unfold andP
  rw [join_read (n:=n) (sign:=38) (mk:=Pat.and) (S:=Stops) (fun l p rest hp hl hs=>RowU.read hp hl hs) (fun t=>rfl) hw _ [] rest hn (by simp only [List.length_append];omega) hr hh]
  rfl
theorem OrU.read {l:List Int}{p:Pat}(h:OrU l p){n:Nat}(hn:l.length<=n){rest:List Int}(hr:Closes rest):orP false (orN false n) (l++rest)=.ok p rest:=by
  obtain ⟨ps,rfl,hw⟩:=h
  unfold orP
  rw [join_read (n:=n) (sign:=124) (mk:=Pat.or) (S:=fun s=>Stops s/\s.head?≠some 38) (fun l p rest hp hl hs=>AndU.read hp hl hs.1 hs.2) (fun t=>⟨rfl,by simp⟩) hw _ [] rest hn (by simp only [List.length_append];omega) ⟨hr.stops,by rcases hr with rfl | ⟨t,rfl⟩<;>simp⟩ (by rcases hr with rfl | ⟨t,rfl⟩<;>simp)]
  rfl
theorem OrU.top {l:List Int}{p:Pat}(h:OrU l p):orN false (l.length+1) l=.ok p []:=by
  have:=h.read (n:=l.length) (Nat.le_refl _) (rest:=[]) (.inl rfl)
  rw [List.append_nil] at this
  exact this
theorem OrU.group {l:List Int}{p:Pat}(h:OrU l p):AtomW (40::(l++[41])) (.group p):=by
  refine ⟨⟨40,_,rfl,by decide,rfl,rfl⟩,fun n rest hn=>?_⟩
  simp only [List.length_cons,List.length_append,List.length_nil] at hn
  obtain ⟨m,rfl⟩:∃ m,n=m+1:=⟨n-1,by omega⟩
  have e:(40::(l++[41]))++rest=40::(l++41::rest):=by simp
  rw [e]
  simp only [atomP,if_pos,orN]
  rw [h.read (n:=m) (by omega) (.inr ⟨rest,rfl⟩)]
  rfl
theorem atom_char {c:Int}(h:special c=false):AtomW [c] (.set [(c,c)]):=by
  have hs:¬ (c=124\/c=38\/c=126\/c=42\/c=43\/c=63\/c=123\/c=125\/c=46\/c=92\/c=91\/c=93\/c=40\/c=41):=by
    intro k;have:special c=true:=by simpa [special] using k
    rw [h] at this;cases this
  refine ⟨⟨c,[],rfl,by omega,?_,?_⟩,fun n rest _=>?_⟩
  · cases e:isTimes c with
    | false=>rfl
    | true => have:c=42\/c=43\/c=63\/c=123:=by simpa [isTimes] using e
              omega
  · cases e:ends c with
    | false=>rfl
    | true => have:c=124\/c=38\/c=41:=by simpa [ends] using e
              omega
  · show atomP (orN false n) (c::rest)=_
    simp only [atomP]
    rw [if_neg (by omega),if_neg (by omega),if_neg (by omega),if_neg (by omega),if_neg (by rw [h];simp)]
theorem atom_dot:AtomW [46] (.set dot):=⟨⟨46,[],rfl,by decide,rfl,rfl⟩,fun _ _ _=>rfl⟩
theorem atom_digit:AtomW [92,100] (.set digits):=⟨⟨92,[100],rfl,by decide,rfl,rfl⟩,fun _ _ _=>rfl⟩
theorem atom_ab:AtomW [91,97,98,93] (.set (form [(97,97),(98,98)])):=by
  refine ⟨⟨91,_,rfl,by decide,rfl,rfl⟩,fun n rest _=>?_⟩
  show (bracketP ([97,98,93]++rest)).map Pat.set=_
  rfl
theorem atom_nota:AtomW [91,94,97,93] (.set (notC (form [(97,97)]))):=by
  refine ⟨⟨91,_,rfl,by decide,rfl,rfl⟩,fun n rest _=>?_⟩
  show (bracketP ([94,97,93]++rest)).map Pat.set=_
  rfl
theorem times_star:TimesW [42] (0,-1):=⟨⟨42,[],rfl,rfl⟩,fun _=>rfl⟩
theorem times_plus:TimesW [43] (1,-1):=⟨⟨43,[],rfl,rfl⟩,fun _=>rfl⟩
theorem times_maybe:TimesW [63] (0,1):=⟨⟨63,[],rfl,rfl⟩,fun _=>rfl⟩
theorem times_two:TimesW [123,50,125] (2,2):=⟨⟨123,_,rfl,rfl⟩,fun _=>rfl⟩
theorem times_onetwo:TimesW [123,49,44,50,125] (1,2):=⟨⟨123,_,rfl,rfl⟩,fun _=>rfl⟩
def oneP (x:Pat):Pat:=.or [.and [.row [x]]]
theorem one_or {l:List Int}{x:Pat}(h:ItemW l x):OrU l (oneP x):=⟨_,rfl,.one ⟨_,rfl,.one ⟨_,rfl,.one h⟩⟩⟩
theorem whole_not {l:List Int}{p:Pat}(h:OrU l p):OrU (126::40::(l++[41])) (oneP (.not (.group p))):=one_or h.group.core.item.not
theorem mt_row1 {p:Pat}{t:List Int}:MtRow [p] t↔p.Mt t:=by
  constructor
  · rintro ⟨a,b,rfl,ha,hb⟩
    have:b=[]:=hb
    subst this;rw [List.append_nil];exact ha
  · intro h;exact ⟨t,[],by simp,h,rfl⟩
theorem mt_one {x:Pat}{t:List Int}:(oneP x).Mt t↔x.Mt t:=by simp [oneP,Pat.Mt,MtOr,MtAnd,mt_row1]
def starP (p:Pat):Pat:=oneP (.many (.group p) 0 (-1))
end Brm
end Go.Proofs.YtpoibdhhcbelnaaGreatDoor
