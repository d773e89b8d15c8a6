import Derived.Lib.RuneBytes
import Derived.Test.YtebnghmioamheaaGreatDoorM03
set_option linter.all false
namespace Go.Proofs.YtebnghmioamheaaGreatDoor
variable {c sign m:Int}{k i j n a:Nat}{P:List Int->Prop}{x:List UInt8}
namespace Brm
def fy (must:Int->Bool)(c:Int):List UInt8 :=
 if c=10 then[92,110]else if c=9 then[92,116]else if c=13 then[92,114]else if must c then 92::Lib.encodeRune c else Lib.encodeRune c
def BD (x:Int×Int):List UInt8 :=
 if x.2=x.1 then fy ej x.1 else if x.2=after x.1 then fy ej x.1++fy ej x.2 else fy ej x.1++(45::fy ej x.2)
def nU (l:List (Int×Int)):List UInt8:=(l.map BD).flatten
def DM (s:List (Int×Int)):List UInt8 :=
 if s=tm then[46]else match s with
 | [x]=>if x.1=x.2 then fy cI x.1 else 91::(nU s++[93])
 |_=>91::(nU s++[93])
def UH (m:Int):UInt8:=(48+m).toNat.toUInt8
def BE (m n:Int):List UInt8 :=
 if m=0/\n=-1 then[42]else if m=1/\n=-1 then[43]else if m=0/\n=1 then[63]else if n=-1 then[123,UH m,44,125]else if m=n then[123,UH m,125]else[123,UH m,44,UH n,125]
mutual
def Pat.wr:Pat->List UInt8
 |.set s=>DM s
 |.row l=>Lib.join (nV l) []
 |.or l=>Lib.join (nV l) [124]
 |.and l=>Lib.join (nV l) [38]
 |.not p=>126::p.wr
 |.many p m n=>p.wr++BE m n
 |.group p=>40::(p.wr++[41])
def nV:List Pat->List (List UInt8)
 | []=>[]
 |p::l=>p.wr::nV l
end
theorem JT (l:List Pat):nV l=l.map Pat.wr:=by
 induction l with
 |nil=>rfl
 |cons p l ih=>rw[nV,ih];rfl
theorem PG (l:List (List UInt8))(x sep:List UInt8):Lib.join (l++[x]) sep=if l=[]then x else Lib.join l sep++sep++x:=by
 cases l with
 |nil=>simp[Lib.join_one]
 |cons y l=>simp[Lib.join_cons,Lib.joinTail,zc]
theorem pF (must:Int->Bool)(c:Int):(fy must c).length<=5:=by
 have:=(Lib.encodeRuneZ_length c).2;have e:(Lib.encodeRune c).length<=4:=by simpa [Lib.encodeRune]using this
 unfold fy
 repeat' split
 all_goals first|(simp;done)|(simp;omega)|omega
theorem In (x:Int×Int):(BD x).length<=11:=by
 have:=pF ej x.1;have:=pF ej x.2;unfold BD
 repeat' split
 all_goals first|omega|(simp;omega)
theorem tE:∀(l:LQ),(nU l).length<=11*l.length
 | []=>by simp[nU]
 |x::l=>by
  have:=tE l;have:=In x;unfold nU at *;simp only[zp,List.flatten_cons,zH,zG];omega
theorem oU (s:LQ):(DM s).length<=11*s.length+5:=by
 have:=tE s;unfold DM
 split
 ·simp
 ·split
  ·rename_i x _
   split
   ·have:=pF cI x.1;simp;omega
   ·simp at this ⊢;omega
  ·simp;omega
theorem Io (m n:Int):(BE m n).length<=5:=by
 unfold BE;repeat' split
 all_goals simp
end Brm
namespace Brm
mutual
def Pat.Ok:Pat->Prop
 |.set s=>Canon s
 |.row l=>jr l
 |.or l=>jr l/\l≠[]
 |.and l=>jr l/\l≠[]
 |.not p=>p.Ok
 |.many p m n=>p.Ok/\0<=m/\m<=5/\(n=-1\/(m<=n/\n<=5))
 |.group p=>p.Ok
def jr:List Pat->Prop
 | []=>True
 |p::l=>p.Ok/\jr l
end
theorem lF (l:List Pat):jr l↔∀p∈l,p.Ok:=by
 induction l with
 |nil=>simp[jr]
 |cons p l ih=>simp[jr,ih]
theorem xc {l:List Pat}{p:Pat}(h:jr l)(hp:p.Ok):jr (l++[p]):=by
 rw[lF]at *;intro q a;rcases zM.1 a with a|a
 ·exact h q a
 ·simp at a;exact a▸hp
theorem tP:∀(l:LQ) (x:Int×Int),(iD l x).length<=l.length+1
 | [],_=>by simp[iD]
 |y::l,x=>by
  unfold iD;have b:=tP l x;have a:=tP l (min y.1 x.1,max y.2 x.2)
  repeat' split
  all_goals simp;try omega
theorem Gm:∀(l out:LQ),(l.foldl mv out).length<=out.length+l.length
 | [],out=>by simp
 |x::l,out=>by
  have b:=Gm l (mv out x);have a:(mv out x).length<=out.length+1:=by
   unfold mv;split
   ·exact tP _ _
   ·omega
  simp only[List.foldl_cons,zG];omega
theorem dr (l:LQ):(form l).length<=l.length:=by
 have:=Gm l [];simpa [form,told,gW]using this
theorem vA:∀(l:LQ) (next:Int),(km next l).length<=l.length+1
 | [],next=>by unfold km;split<;>simp
 |x::l,next=>by
  have:=vA l (after x.2);unfold km
  split<;>simp<;>omega
theorem xd (l:LQ):(dT l).length<=l.length+1:=vA l 0
def dh (s:List Int):Prop:=∀c∈s,runeB c=true
theorem dh.suf {s t:LZ}(h:dh t)(k:s <:+ t):dh s:=λc a=>h c (k.subset a)
theorem dh.tail {s:LZ}(h:dh (c::s)):dh s:=λd a=>h d (yj _ a)
theorem dh.head {s:LZ}(h:dh (c::s)):runeB c=true:=h c (by simp)
theorem MI (h:cQ c=true):c=124\/c=38\/c=126\/c=42\/c=43\/c=63\/c=123\/c=125\/c=46\/c=92\/c=91\/c=93\/c=40\/c=41\/c=45\/c=94\/c=110\/c=116\/c=114:=by simpa [cQ]using h
theorem fJ (h:cQ c=true):9<=bU c/\bU c<=126:=by
 rcases MI h with rfl|rfl|rfl|rfl|rfl|rfl|rfl|rfl|rfl|rfl|rfl|rfl|rfl|rfl|rfl|rfl|rfl|rfl|rfl<;>decide
theorem io (h:cF c=true):c=100\/c=119\/c=115\/c=68\/c=87\/c=83:=by simpa [cF]using h
instance (x:Int×Int):Decidable (Good x):=by unfold Good;infer_instance
instance (l:List (Int×Int)):Decidable (Canon l):=by unfold Canon;infer_instance
theorem kM:Canon jI:=by decide
theorem lU:Canon jT:=by decide
theorem kN:Canon jJ:=by decide
theorem og (h:cF c=true):Canon (eF c)/\(eF c).length<=5:=by
 rcases io h with rfl|rfl|rfl|rfl|rfl|rfl
 ·exact⟨kM,by decide⟩
 ·exact⟨lU,by decide⟩
 ·exact⟨kN,by decide⟩
 ·exact⟨(lj kM).1,by decide⟩
 ·exact⟨(lj lU).1,by decide⟩
 ·exact⟨(lj kN).1,by decide⟩
theorem mo (h:runeB c=true):Canon [(c,c)]:=⟨λx a=>by simp at a;subst a;exact⟨h,h,yv _⟩,by simp⟩
theorem Qc:Canon tm:=(lj (mo (by decide))).1
theorem uP (h0:0<=c)(h1:c<=126):runeB c=true:=by rw[rune_iff];omega
def XX (least:Int)(r:Res Int):Prop:=match r with|.ok b _=>least<=b/\runeB b=true|.bad _=>True
theorem CP (least:Int)(s:LZ):XX least (fu least s):=by
 cases s with
 |nil=>trivial
 |cons c s=>
  simp only[fu]
  split
  ·rename_i h
   simp at h;have:=fJ h.1;exact⟨h.2,uP (by omega) this.2⟩
  ·trivial
theorem jM {least:Int}{s:LZ}(hs:dh s):XX least (bM least s):=by
 cases s with
 |nil=>trivial
 |cons c s=>
  simp only[bM]
  split
  ·split
   ·exact CP _ _
   ·trivial
  ·split
   ·rename_i h
    simp at h;exact⟨h.2,hs.head⟩
   ·trivial
def AG (k:Nat)(r:Res (List (Int×Int)))(s:List Int):Prop:=match r with|.ok l s'=>(∀x∈l,okB x=true)/\l.length+5*s'.length<=k+5*s.length|.bad _=>True
theorem lG {a b:Int}(ha:runeB a=true)(hb:runeB b=true)(h:a<=b):∀x∈[(a,b)],okB x=true:=by
 intro x c;simp at c;subst c;exact Jd ⟨ha,hb,h⟩
theorem vB {a:Int}{s:LZ}(ha:runeB a=true)(hs:dh s):AG 1 (bS a s) s:=by
 cases s with
 |nil=>exact⟨lG ha ha (yv _),by simp⟩
 |cons c s=>
  simp only[bS]
  split
  ·have e:=jU a s;have d:=jM (least:=a) hs.tail;cases hr:bM a s with
   |bad s'=>trivial
   |ok b s'=>
    rw[hr]at e d;have:=e.1;exact⟨lG ha d.2 d.1,by simp;omega⟩
  ·exact⟨lG ha ha (yv _),by simp⟩
theorem kO {s:LZ}(hs:dh s):AG 0 (cq s) s:=by
 cases s with
 |nil=>trivial
 |cons c s=>
  simp only[cq]
  split
  ·cases s with
   |nil=>trivial
   |cons d s=>
    simp only[dx]
    split
    ·rename_i h
     have:=vB (uP (by have:=fJ h;omega) (fJ h).2) hs.tail.tail;show AG 0 (bS (bU d) s) _
     cases hr:bS (bU d) s with
     |bad s'=>trivial
     |ok l s'=>rw[hr]at this;exact⟨this.1,by have:=this.2;simp at this ⊢;omega⟩
    ·split
     ·rename_i h
      exact⟨gJ (og h).1,by have:=(og h).2;simp;omega⟩
     ·trivial
  ·split
   ·trivial
   ·have:=vB hs.head hs.tail;cases hr:bS c s with
    |bad s'=>trivial
    |ok l s'=>rw[hr]at this;exact⟨this.1,by have:=this.2;simp at this ⊢;omega⟩
theorem pJ:∀(n:Nat) (l:LQ) (s:LZ),dh s->(∀x∈l,okB x=true)->AG l.length (ba n l s) s
 |0,_,_,_,_=>trivial
 |n+1,l,s,hs,hl=>by
  unfold ba
  split
  ·exact⟨hl,by simp;omega⟩
  ·have c:=kO hs;have d:=fT s;cases hr:cq s with
   |bad s'=>trivial
   |ok x s'=>
    rw[hr]at c d;have b:=pJ n (l++x) s' (hs.suf d.2) (λy a=>by rcases zM.1 a with a|a;exact hl y a;exact c.1 y a);show AG _ (ba n (l++x) s') _
    cases hr2:ba n (l++x) s' with
    |bad s2=>trivial
    |ok y s2=>rw[hr2]at b;exact⟨b.1,by have:=b.2;have:=c.2;simp at *;omega⟩
def Zg (r:Res (List (Int×Int)))(s:List Int):Prop:=match r with|.ok l s'=>Canon l/\l.length+5*s'.length<=1+5*s.length|.bad _=>True
theorem Gn {s:LZ}(hs:dh s):Zg (cJ s) s:=by
 unfold cJ
 split
 ·rename_i hh
  have a:=pJ (s.length+1) [] s.tail (hs.suf (kg s)) (by simp);have b:=(cR hh).1;cases hr:ba (s.length+1) [] s.tail with
  |bad s'=>trivial
  |ok l s'=>
   rw[hr]at a;have c:=dr l;have d:=xd (form l);exact⟨(lj (gm a.1).1).1,by have:=a.2;simp at this b;show (dT (form l)).length+_<=_;omega⟩
 ·have a:=pJ (s.length+1) [] s hs (by simp);cases hr:ba (s.length+1) [] s with
  |bad s'=>trivial
  |ok l s'=>
   rw[hr]at a;have c:=dr l;exact⟨(gm a.1).1,by have:=a.2;simp at this;omega⟩
theorem rA (least:Int)(s:LZ):match ct least s with|.ok n _=>least<=n/\n<=5|.bad _=>True:=by
 cases s with
 |nil=>trivial
 |cons c s=>
  simp only[ct]
  split
  ·rename_i h
   split at h
   ·cases h;omega
   ·cases h
  ·trivial
def Kk (mn:Int×Int):Prop:=0<=mn.1/\mn.1<=5/\(mn.2=-1\/(mn.1<=mn.2/\mn.2<=5))
def Gp (r:Res (Int×Int)):Prop:=match r with|.ok mn _=>Kk mn|.bad _=>True
theorem tQ {mn:Int×Int}{s:LZ}(h:Kk mn):Gp (bV mn c s):=by
 unfold bV;split
 ·exact h
 ·trivial
theorem DD (s:LZ):Gp (bh s):=by
 unfold bh;have a:=rA 0 s;cases hr:ct 0 s with
 |bad s'=>trivial
 |ok m s1=>
  rw[hr]at a;simp only at a;simp only[Res.bind]
  split
  ·split
   ·exact⟨a.1,a.2,.inl rfl⟩
   ·have b:=rA m s1.tail;cases hr2:ct m s1.tail with
    |bad s'=>trivial
    |ok n s2=>
     rw[hr2]at b;exact tQ ⟨a.1,a.2,.inr b⟩
  ·exact tQ ⟨a.1,a.2,.inr ⟨yv _,a.2⟩⟩
theorem Gq (s:LZ):Gp (dn s):=by
 cases s with
 |nil=>trivial
 |cons c s=>
  simp only[dn]
  split;exact⟨by decide,by decide,.inl rfl⟩
  split;exact⟨by decide,by decide,.inl rfl⟩
  split;exact⟨by decide,by decide,.inr ⟨by decide,by decide⟩⟩
  split;exact DD s
  trivial
def gU (k:Nat)(r:Res Pat)(s:List Int):Prop:=match r with|.ok p s'=>p.Ok/\p.wr.length+60*s'.length<=k+60*s.length|.bad _=>True
theorem gU.weak {k':Nat}{r:Res Pat}{s s':LZ}(h:gU k r s)(hk:k+60*s.length<=k'+60*s'.length):gU k' r s':=by
 cases r with
 |bad s=>trivial
 |ok p t=>exact⟨h.1,by have:=h.2;omega⟩
theorem tR:∀(n:Nat) (x:Pat) (s:LZ),x.Ok->gU x.wr.length (aY n x s) s
 |0,_,_,_=>trivial
 |n+1,x,s,hx=>by
  unfold aY
  split
  ·have b:=Gq s;have a:=fq s;cases hr:dn s with
   |bad s'=>trivial
   |ok mn s'=>
    rw[hr]at b a;have:=a.1;have e:=Io mn.1 mn.2;refine (tR n (.many x mn.1 mn.2) s' ⟨hx,b⟩).weak ?_;simp only[Pat.wr,zH];omega
  ·exact⟨hx,zA _⟩
theorem Qd {rec:List Int->Res Pat}(hr:∀s,dh s->gU 0 (rec s) s){s:LZ}(hs:dh s):gU 0 (dy rec s) s:=by
 cases s with
 |nil=>trivial
 |cons c s=>
  simp only[dy]
  split
  ·have a:=hr s hs.tail;cases h:rec s with
   |bad s'=>trivial
   |ok p s'=>
    rw[h]at a;simp only[Res.bind,bV]
    split
    ·rename_i hh
     have:=(cR hh).1;exact⟨a.1,by have:=a.2;simp[Pat.wr]at *;omega⟩
    ·trivial
  split
  ·have a:=Gn hs.tail;cases h:cJ s with
   |bad s'=>trivial
   |ok l s'=>
    rw[h]at a;have b:=gw s;rw[h]at b;have e:=b.1;have:=oU l;exact⟨a.1,by have:=a.2;simp[Pat.wr]at *;omega⟩
  split
  ·exact⟨Qc,by simp[Pat.wr,DM];omega⟩
  split
  ·cases s with
   |nil=>trivial
   |cons d s=>
    simp only[dx]
    split
    ·rename_i h
     have:=oU [(bU d,bU d)];exact⟨mo (uP (by have:=fJ h;omega) (fJ h).2),by simp[Pat.wr]at *;omega⟩
    ·split
     ·rename_i h
      have:=oU (eF d);have:=og h;exact⟨this.1,by simp[Pat.wr]at *;omega⟩
     ·trivial
  split
  ·trivial
  ·have:=oU [(c,c)];exact⟨mo hs.head,by simp[Pat.wr]at *;omega⟩
theorem CQ {rec:List Int->Res Pat}(hr:∀s,dh s->gU 0 (rec s) s){s:LZ}(hs:dh s):gU 0 (dR rec s) s:=by
 unfold dR;have a:=Qd hr hs;cases h:dy rec s with
 |bad s'=>trivial
 |ok p s'=>
  rw[h]at a;exact (tR _ p s' a.1).weak (by have:=a.2;omega)
theorem Gr {rec:List Int->Res Pat}(hr:∀s,dh s->gU 0 (rec s) s):∀{s:LZ},dh s->gU 0 (dg rec s) s
 | [],hs=>CQ hr hs
 |c::s,hs=>by
  simp only[dg]
  split
  ·have a:=Gr hr hs.tail;cases h:dg rec s with
   |bad s'=>trivial
   |ok p s'=>rw[h]at a;exact⟨a.1,by have:=a.2;simp[Pat.wr]at *;omega⟩
  ·exact CQ hr hs
theorem rZ (l:List Pat)(p:Pat)(sep:List UInt8):(Lib.join (nV (l++[p])) sep).length<=(Lib.join (nV l) sep).length+sep.length+p.wr.length:=by
 rw[JT,JT,xH,List.map_singleton,PG]
 split
 ·omega
 ·simp only[zH];omega
theorem vC {lax:Bool}{rec:List Int->Res Pat}(hg:∀s,cN (rec s) s)(hr:∀s,dh s->gU 0 (rec s) s):∀(n:Nat) (l:List Pat) (s:LZ),dh s->jr l->gU (Lib.join (nV l) []).length (cG lax rec n l s) s
 |0,_,_,_,_=>trivial
 |n+1,l,s,hs,hl=>by
  unfold cG
  split
  ·exact⟨hl,zA _⟩
  ·have a:=Gr hr hs;have b:=kJ hg s;cases h:dg rec s with
   |bad s'=>trivial
   |ok p s'=>
    rw[h]at a b;refine (vC hg hr n (l++[p]) s' (hs.suf b.2) (xc hl a.1)).weak ?_;have:=rZ l p [];have:=a.2;simp at *;omega
theorem tT {part:List Int->Res Pat}{sign:Int}{mk:List Pat->Pat}{sep:List UInt8}(hsep:sep.length<=1)(hw:∀l,(mk l).wr=Lib.join (nV l) sep)(hk:∀l,jr l->l≠[]->(mk l).Ok)
  (hg:∀s,cN (part s) s) (hr:∀s,dh s->gU 0 (part s) s):∀(n:Nat) (l:List Pat) (s:LZ),dh s->jr l->gU ((Lib.join (nV l) sep).length+1) (bE part sign mk n l s) s
 |0,_,_,_,_=>trivial
 |n+1,l,s,hs,hl=>by
  unfold bE;have a:=hr s hs;have b:=hg s;cases h:part s with
  |bad s'=>trivial
  |ok p s'=>
   rw[h]at a b;have e:=rZ l p sep;have c:=a.2;simp only[Res.bind]
   split
   ·rename_i hh
    have:=(cR hh).1;refine (tT hsep hw hk hg hr n (l++[p]) s'.tail ((hs.suf b).suf (kg _)) (xc hl a.1)).weak ?_;omega
   ·exact⟨hk _ (xc hl a.1) (by simp),by rw[hw];omega⟩
theorem sd {part:List Int->Res Pat}{mk:List Pat->Pat}{sep:List UInt8}(hsep:sep.length<=1)(hw:∀l,(mk l).wr=Lib.join (nV l) sep)(hk:∀l,jr l->l≠[]->(mk l).Ok)
  (hg:∀s,cN (part s) s) (hr:∀s,dh s->gU 0 (part s) s) (n:Nat) (s:LZ) (hs:dh s):gU 0 (bE part sign mk n [] s) s:=by
 cases n with
 |zero=>trivial
 |succ n=>
  unfold bE;have a:=hr s hs;have b:=hg s;cases h:part s with
  |bad s'=>trivial
  |ok p s'=>
   rw[h]at a b;have c:=a.2;have e:Lib.join (nV [p]) sep=p.wr:=by simp[nV,Lib.join_one]
   simp only[Res.bind,zd]
   split
   ·rename_i hh
    have:=(cR hh).1;refine (tT hsep hw hk hg hr n [p] s'.tail ((hs.suf b).suf (kg _)) ⟨a.1,trivial⟩).weak ?_;rw[e];omega
   ·exact⟨hk _ ⟨a.1,trivial⟩ (by simp),by rw[hw,e];exact c⟩
theorem Kl (lax:Bool):∀(n:Nat) (s:LZ),dh s->gU 0 (aU lax n s) s
 |0,_,_=>trivial
 |n+1,s,c=>by
  have a:∀s,dh s->gU 0 (fR lax (aU lax n) s) s:=λs c=>(vC (lax:=lax) (fU lax n) (Kl lax n) (s.length+1) [] s c trivial).weak (by simp[nV,Lib.join_nil]);have b:∀s,dh s->gU 0 (gP lax (aU lax n) s) s:=λs c=>sd (mk:=.and) (sep:=[38]) (by simp) (λl=>by simp[Pat.wr]) (λl h k=>⟨h,k⟩) (oO (fU lax n)) a _ s c;exact sd (mk:=.or) (sep:=[124]) (by simp) (λl=>by simp[Pat.wr]) (λl h k=>⟨h,k⟩) (oP (fU lax n)) b _ s c
end Brm
namespace Brm
def jL (P:List Int->Prop):Nat->List Int->Prop
 |0,t=>t=[]
 |k+1,t=>∃a b,t=a++b/\P a/\jL P k b
mutual
def Pat.Mt:Pat->List Int->Prop
 |.set s,t=>∃c,t=[c]/\memB s c=true
 |.row l,t=>jl l t
 |.or l,t=>gy l t
 |.and l,t=>eG l t
 |.not p,t=>¬p.Mt t
 |.many p m n,t=>∃r:Nat,m<=r/\(n<0\/(r:Int)<=n)/\jL p.Mt r t
 |.group p,t=>p.Mt t
def jl:List Pat->List Int->Prop
 | [],t=>t=[]
 |p::l,t=>∃a b,t=a++b/\p.Mt a/\jl l b
def gy:List Pat->List Int->Prop
 | [],_=>False
 |p::l,t=>p.Mt t\/gy l t
def eG:List Pat->List Int->Prop
 | [],_=>True
 |p::l,t=>p.Mt t/\eG l t
end
def sub (t:List Int)(i j:Nat):List Int:=(t.drop i).take (j-i)
theorem sub_self (t:LZ)(i:Nat):sub t i i=[]:=by simp[sub]
theorem JL (t:LZ):sub t 0 t.length=t:=by simp[sub]
theorem uF {t:LZ}(h:i<=j)(hj:j<=t.length):(sub t i j).length=j-i:=by simp[sub];omega
theorem JM {t:LZ}(h:t[i]?=some c):sub t i (i+1)=[c]:=by
 unfold sub;have a:i<t.length:=(zC.1 h).1;rw[yC a];have:=(zC.1 h).2;simp[this]
theorem JN {t:LZ}(h1:i<=k)(h2:k<=j):sub t i j=sub t i k++sub t k j:=by
 unfold sub;have e:j-i=(k-i)+(j-k):=by omega
 rw[e,List.take_add,List.drop_drop];congr 2;congr 1;omega
theorem CH {t:LZ}{a b:LZ}(h1:i<=j)(h2:j<=t.length)(h:sub t i j=a++b):∃k,i<=k/\k<=j/\a=sub t i k/\b=sub t k j:=by
 have c:=uF h1 h2;rw[h,zH]at c;refine⟨i+a.length,by omega,by omega,?_,?_⟩
 ·have:a=(a++b).take a.length:=by simp
  rw[this,<-h];unfold sub;rw[List.take_take];congr 1;simp[yn,yO];omega
 ·have:b=(a++b).drop a.length:=by simp
  rw[this,<-h];unfold sub;rw[List.drop_take,List.drop_drop];congr 1;omega
theorem uG {P:List Int->Prop}:∀(a b:Nat) (t:LZ),jL P (a+b) t↔∃u v,t=u++v/\jL P a u/\jL P b v
 |0,b,t=>by
  rw[zf];constructor
  ·intro h;exact⟨[],t,rfl,rfl,h⟩
  ·rintro⟨u,v,rfl,d,c⟩;have:u=[]:=d;subst this;exact c
 |a+1,b,t=>by
  rw[Nat.succ_add];constructor
  ·rintro⟨x,y,rfl,f,e⟩;obtain⟨u,v,rfl,d,c⟩:=(uG a b y).1 e;exact⟨x++u,v,by simp,⟨x,u,rfl,f,d⟩,c⟩
  ·rintro⟨u,v,rfl,⟨x,y,rfl,f,e⟩,c⟩;exact⟨x,y++v,by simp,f,(uG a b _).2 ⟨y,v,rfl,e,c⟩⟩
theorem nO {l:List Pat}{t:LZ}:gy l t↔∃p∈l,p.Mt t:=by
 induction l with
 |nil=>simp[gy]
 |cons p l ih=>simp[gy,ih]
theorem mj {l:List Pat}{t:LZ}:eG l t↔∀p∈l,p.Mt t:=by
 induction l with
 |nil=>simp[eG]
 |cons p l ih=>simp[eG,ih]
end Brm
namespace Brm
mutual
def aH:Pat->List Pat
 |.set _=>[]
 |.row l=>aB l++[.row l]
 |.or l=>aB l++(if l.length=1 then[]else[.or l])
 |.and l=>aB l++(if l.length=1 then[]else[.and l])
 |.not p=>aH p++[.not p]
 |.many p m n=>aH p++[.many p m n]
 |.group p=>aH p
def aB:List Pat->List Pat
 | []=>[]
 |p::l=>aH p++aB l
end
theorem qX:∀(l:List Pat) (p:Pat),aB (l++[p])=aB l++aH p
 | [],p=>by simp[aB]
 |q::l,p=>by simp[aB,qX l p]
def gx (k:Nat)(r:Res Pat)(s:List Int):Prop:=match r with|.ok p s'=>(aH p).length+3*s'.length<=k+3*s.length|.bad _=>True
theorem gx.weak {k':Nat}{r:Res Pat}{s s':LZ}(h:gx k r s)(hk:k+3*s.length<=k'+3*s'.length):gx k' r s':=by
 cases r with
 |bad s=>trivial
 |ok p t=>have a:(aH p).length+3*t.length<=k+3*s.length:=h;show (aH p).length+3*t.length<=_;omega
theorem tw:∀(n:Nat) (x:Pat) (s:LZ),gx (aH x).length (aY n x s) s
 |0,_,_=>trivial
 |n+1,x,s=>by
  unfold aY
  split
  ·have a:=fq s;cases hr:dn s with
   |bad s'=>trivial
   |ok mn s'=>
    rw[hr]at a;have:=a.1;refine (tw n (.many x mn.1 mn.2) s').weak ?_;simp only[aH,zH,zo];omega
  ·exact zA _
theorem qd {l:LQ}{s s':LZ}(h:s'.length<=s.length):gx 0 (.ok (.set l) s') s:=by
 show (aH (.set l)).length+3*s'.length<=0+3*s.length
 simp[aH];omega
theorem Pk {rec:List Int->Res Pat}(hr:∀s,gx 1 (rec s) s)(s:LZ):gx 0 (dy rec s) s:=by
 cases s with
 |nil=>trivial
 |cons c s=>
  simp only[dy]
  split
  ·have a:=hr s;cases h:rec s with
   |bad s'=>trivial
   |ok p s'=>
    rw[h]at a;simp only[Res.bind,bV]
    split
    ·rename_i hh
     have:=(cR hh).1;have e:(aH p).length+3*s'.length<=1+3*s.length:=a;show (aH (.group p)).length+_<=_
     simp[aH]at *;omega
    ·trivial
  split
  ·have b:=gw s;cases h:cJ s with
   |bad s'=>trivial
   |ok l s'=>
    rw[h]at b;have f:=b.1;exact qd (by simp;omega)
  split
  ·exact qd (by simp)
  split
  ·cases s with
   |nil=>trivial
   |cons d s=>
    simp only[dx]
    split
    ·exact qd (by simp;omega)
    ·split
     ·exact qd (by simp;omega)
     ·trivial
  split
  ·trivial
  ·exact qd (by simp)
theorem CC {rec:List Int->Res Pat}(hr:∀s,gx 1 (rec s) s)(s:LZ):gx 0 (dR rec s) s:=by
 unfold dR;have a:=Pk hr s;cases h:dy rec s with
 |bad s'=>trivial
 |ok p s'=>
  rw[h]at a;have b:(aH p).length+3*s'.length<=0+3*s.length:=a;exact (tw _ p s').weak (by omega)
theorem Fs {rec:List Int->Res Pat}(hr:∀s,gx 1 (rec s) s):∀(s:LZ),gx 0 (dg rec s) s
 | []=>CC hr _
 |c::s=>by
  simp only[dg]
  split
  ·have a:=Fs hr s;cases h:dg rec s with
   |bad s'=>trivial
   |ok p s'=>
    rw[h]at a;have b:(aH p).length+3*s'.length<=0+3*s.length:=a;show (aH (.not p)).length+_<=_
    simp[aH];omega
  ·exact CC hr _
theorem vo {lax:Bool}{rec:List Int->Res Pat}(hr:∀s,gx 1 (rec s) s):∀(n:Nat) (l:List Pat) (s:LZ),gx ((aB l).length+1) (cG lax rec n l s) s
 |0,_,_=>trivial
 |n+1,l,s=>by
  unfold cG
  split
  ·show (aH (.row l)).length+_<=_
   simp[aH]
  ·have a:=Fs hr s;cases h:dg rec s with
   |bad s'=>trivial
   |ok p s'=>
    rw[h]at a;have b:(aH p).length+3*s'.length<=0+3*s.length:=a;refine (vo hr n (l++[p]) s').weak ?_;rw[qX,zH];omega
theorem tx {part:List Int->Res Pat}{sign:Int}{mk:List Pat->Pat}(hw:∀l,(aH (mk l)).length<=(aB l).length+1)(hr:∀s,gx 1 (part s) s):∀(n:Nat) (l:List Pat) (s:LZ),gx ((aB l).length+2) (bE part sign mk n l s) s
 |0,_,_=>trivial
 |n+1,l,s=>by
  unfold bE;have a:=hr s;cases h:part s with
  |bad s'=>trivial
  |ok p s'=>
   rw[h]at a;have b:(aH p).length+3*s'.length<=1+3*s.length:=a;have e:(aB (l++[p])).length=(aB l).length+(aH p).length:=by rw[qX,zH]
   simp only[Res.bind]
   split
   ·rename_i hh
    have:=(cR hh).1;refine (tx hw hr n (l++[p]) s'.tail).weak ?_;omega
   ·have:=hw (l++[p]);show (aH (mk (l++[p]))).length+_<=_
    omega
theorem rW {part:List Int->Res Pat}{mk:List Pat->Pat}(hw:∀l,(aH (mk l)).length<=(aB l).length+1)(hw1:∀p,(aH (mk [p])).length=(aH p).length)(hr:∀s,gx 1 (part s) s)(n:Nat)(s:LZ):gx 1 (bE part sign mk n [] s) s:=by
 cases n with
 |zero=>trivial
 |succ n=>
  unfold bE;have b:=hr s;cases h:part s with
  |bad s'=>trivial
  |ok p s'=>
   rw[h]at b;have a:(aH p).length+3*s'.length<=1+3*s.length:=b;simp only[Res.bind,zd]
   split
   ·rename_i hh
    have:=(cR hh).1;refine (tx hw hr n [p] s'.tail).weak ?_;simp only[aB,zx];omega
   ·show (aH (mk [p])).length+_<=_
    rw[hw1];exact a
theorem TA (l:List Pat):(aH (.or l)).length<=(aB l).length+1:=by simp only[aH,zH];split<;>simp
theorem Ib (l:List Pat):(aH (.and l)).length<=(aB l).length+1:=by simp only[aH,zH];split<;>simp
theorem JF (lax:Bool):∀(n:Nat) (s:LZ),gx 1 (aU lax n s) s
 |0,_=>trivial
 |n+1,s=>by
  have b:∀s,gx 1 (fR lax (aU lax n) s) s:=λs=>(vo (lax:=lax) (JF lax n) (s.length+1) [] s).weak (by simp[aB]);have a:∀s,gx 1 (gP lax (aU lax n) s) s:=λs=>rW (mk:=.and) Ib (λp=>by simp[aH,aB]) b _ s;exact rW (mk:=.or) TA (λp=>by simp[aH,aB]) a _ s
end Brm
section
variable {α:Type}
def sw (f:Nat->α)(i j:Nat):Nat->α:=λk=>if k=j then f i else if k=i then f j else f k
structure Ord (lt:α->α->Bool):Prop where
 tr:∀a b c,lt b a=false->lt c b=false->lt c a=false
 as:∀a b,lt a b=true->lt b a=false
def iH (lt:α->α->Bool)(f:Nat->α)(n:Nat):Prop:=∀k,0<k->k<n->lt (f k) (f ((k-1) / 2))=false
def CM (lt:α->α->Bool)(f:Nat->α)(n j:Nat):Prop:=j<n/\(∀k,0<k->k<n->k≠j->lt (f k) (f ((k-1) / 2))=false)/\∀k,0<k->k<n->(k-1) / 2=j->0<j->lt (f k) (f ((j-1) / 2))=false
def rm (lt:α->α->Bool)(f:Nat->α)(n i:Nat):Prop:=(∀k,0<k->k<n->(k-1) / 2≠i->lt (f k) (f ((k-1) / 2))=false)/\∀k,0<k->k<n->(k-1) / 2=i->0<i->lt (f k) (f ((i-1) / 2))=false
variable {lt:α->α->Bool}
theorem Ord.irr (h:Ord lt)(a:α):lt a a=false:=by
 cases e:lt a a with
 |false=>rfl
 |true=>have:=h.as a a e;rw[e]at this;exact this
theorem JU {f:Nat->α}(h:CM lt f n j)(hd:j=0\/lt (f j) (f ((j-1) / 2))=false):iH lt f n:=λk a b=>by
 by_cases e:k=j
 ·rcases hd with hd|hd
  ·omega
  ·rw[e];exact hd
 ·exact h.2.1 k a b e
theorem Wq (ho:Ord lt){f:Nat->α}(h:CM lt f n j)(hj:0<j)(hl:lt (f j) (f ((j-1) / 2))=true):CM lt (sw f ((j-1) / 2) j) n ((j-1) / 2):=by
 obtain⟨A,l,x⟩:=h;have w:(j-1) / 2<j:=by omega
 obtain⟨p,c⟩:∃p,(j-1) / 2=p:=⟨_,rfl⟩;rw[c]at hl w ⊢;have t:=ho.as _ _ hl;have r:sw f p j j=f p:=by unfold sw;rw[zX rfl]
 have u:sw f p j p=f j:=by unfold sw;rw[zR (by omega),zX rfl]
 have m:∀k,k≠j->k≠p->sw f p j k=f k:=λk a b=>by unfold sw;rw[zR a,zR b]
 refine⟨by omega,λk d i s=>?_,λk d i s z=>?_⟩
 ·by_cases e:k=j
  ·subst e;rw[c,r,u];exact t
  ·rw[m k e s];by_cases o:(k-1) / 2=j
   ·rw[o,r,<-c];exact x k d i o hj
   ·by_cases q:(k-1) / 2=p
    ·rw[q,u];have:=l k d i e;rw[q]at this;exact ho.tr _ _ _ t this
    ·rw[m _ o q];exact l k d i e
 ·have y:(p-1) / 2<p:=by omega
  have v:sw f p j ((p-1) / 2)=f ((p-1) / 2):=m _ (by omega) (by omega);rw[v];have g:=l p z (by omega) (by omega);by_cases e:k=j
  ·subst e;rw[r];exact g
  ·rw[m k e (by omega)];have:=l k d i e;rw[s]at this;exact ho.tr _ _ _ g this
theorem oV {f:Nat->α}(h:rm lt f n i)(hd:∀k,0<k->k<n->(k-1) / 2=i->lt (f k) (f i)=false):iH lt f n:=λk a b=>by
 by_cases e:(k-1) / 2=i
 ·rw[e];exact hd k a b e
 ·exact h.1 k a b e
theorem PH (ho:Ord lt){f:Nat->α}(h:rm lt f n i)(hj:0<j)(hjn:j<n)(hp:(j-1) / 2=i)(hm:∀k,0<k->k<n->(k-1) / 2=i->lt (f k) (f j)=false)(hl:lt (f j) (f i)=true):rm lt (sw f i j) n j:=by
 obtain⟨p,r⟩:=h;have t:=ho.as _ _ hl;have u:i<j:=by omega
 have s:sw f i j j=f i:=by unfold sw;rw[zX rfl]
 have g:sw f i j i=f j:=by unfold sw;rw[zR (by omega),zX rfl]
 have l:∀k,k≠j->k≠i->sw f i j k=f k:=λk a b=>by unfold sw;rw[zR a,zR b]
 refine⟨λk c d o=>?_,λk c d o v=>?_⟩
 ·by_cases e:k=j
  ·subst e;rw[hp,s,g];exact t
  ·by_cases m:(k-1) / 2=i
   ·rw[m,g,l k e (by omega)];exact hm k c d m
   ·rw[l _ o m];by_cases q:k=i
    ·subst q;rw[g];exact r j hj hjn hp c
    ·rw[l k e q];exact p k c d m
 ·rw[hp,g,l k (by omega) (by omega)];have:=p k c d (by omega);rw[o]at this;exact this
theorem Tn (ho:Ord lt){f:Nat->α}(h:iH lt f n):∀k,k<n->lt (f k) (f 0)=false:=by
 intro k
 induction k using Nat.strongRecOn with
 |ind k ih=>
  intro b;by_cases a:k=0
  ·subst a;exact ho.irr _
  ·exact ho.tr _ _ _ (ih ((k-1) / 2) (by omega) (by omega)) (h k (by omega) b)
def gt (d:α)(l:List α):Nat->α:=λk=>l[k]?.getD d
def qi (d:α)(l:List α)(i j:Nat):List α:=(l.set i (gt d l j)).set j (gt d l i)
theorem BF (d:α)(l:List α)(i j:Nat):(qi d l i j).length=l.length:=by simp[qi]
theorem nc {d:α}{l:List α}(h:k<l.length):l[k]?=some (gt d l k):=by
 unfold gt;rw[zB h];rfl
theorem Au (d:α)(l:List α)(hi:i<l.length)(hj:j<l.length):gt d (qi d l i j)=sw (gt d l) i j:=by
 funext k;show ((l.set i (gt d l j)).set j (gt d l i))[k]?.getD d=sw (gt d l) i j k
 unfold sw;rw[List.getElem?_set];by_cases e:j=k
 ·subst e;rw[zX rfl,zX rfl,zX (by simpa using hj)];rfl
 ·rw[zR e,zR (λh=>e h.symm),List.getElem?_set];by_cases a:i=k
  ·subst a;rw[zX rfl,zX rfl,zX hi];rfl
  ·rw[zR a,zR (λh=>a h.symm)];rfl
theorem wP (d:α)(l:List α)(hi:i<l.length)(hj:j<l.length):(qi d l i j).Perm l:=by
 have h:=Array.perm_iff_toList_perm.1 (Array.swap_perm (xs:=l.toArray) (i:=i) (j:=j) (by simpa using hi) (by simpa using hj));rw[List.swap_toArray]at h;have e:((l.set i l[j]).set j l[i])=qi d l i j:=by
  unfold qi;have b:gt d l i=l[i]:=by unfold gt;rw[zB hi];rfl
  have a:gt d l j=l[j]:=by unfold gt;rw[zB hj];rfl
  rw[b,a]
 rw[e]at h;exact h
theorem Av {f g:Nat->α}(h:iH lt f n)(he:∀k,k<n->f k=g k):iH lt g n:=λk b a=>by
 rw[<-he k a,<-he _ (by omega)];exact h k b a
theorem To {f:Nat->α}(h:iH lt f n):CM lt f (n+1) n:=⟨by omega,λk a c b=>h k a (by omega),λk a c b _=>by omega⟩
theorem Mu {f:Nat->α}(h:iH lt f (n+1)):rm lt (sw f 0 n) n 0:=by
 refine⟨λk d g e=>?_,λk d g e i=>by omega⟩;have c:∀k,k≠n->k≠0->sw f 0 n k=f k:=λk a b=>by unfold sw;rw[zR a,zR b]
 rw[c k (by omega) (by omega),c _ (by omega) e];exact h k d (by omega)
end
def cH:List Int->List Int->Bool
 | [],[]=>false
 | [],_::_=>true
 |_::_,[]=>false
 |a::u,b::v=>decide (a<b)||(decide (a=b)&&cH u v)
def bY (u v:List Int):Bool:=decide (u.length<v.length)||(decide (u.length=v.length)&&cH u v)
theorem FO:∀u:List Int,cH u u=false
 | []=>rfl
 |a::u=>by simp[cH,FO u]
theorem JV:∀u v:List Int,cH u v=true->cH v u=false
 | [],[],h=>by simp[cH]at h
 | [],_::_,_=>rfl
 |_::_,[],h=>by simp[cH]at h
 |a::u,b::v,h=>by
  simp only[cH,yZ,yP,zY]at h;simp only[cH,Bool.or_eq_false_iff,Bool.and_eq_false_imp,yr,zY];rcases h with h|⟨rfl,h⟩
  ·exact⟨by omega,λe=>by omega⟩
  ·exact⟨by omega,λ_=>JV u v h⟩
theorem JW:∀u v x:List Int,cH v u=false->cH x v=false->cH x u=false
 |u,v,[],h1,h2=>by
  cases u with
  |nil=>rfl
  |cons a u=>
   cases v with
   |nil=>simp[cH]at h1
   |cons b v=>simp[cH]at h2
 | [],v,c::x,_,_=>rfl
 |a::u,[],c::x,h1,_=>by simp[cH]at h1
 |a::u,b::v,c::x,h1,h2=>by
  simp only[cH,Bool.or_eq_false_iff,Bool.and_eq_false_imp,yr,zY]at h1 h2 ⊢;refine⟨by omega,λe=>?_⟩;have f:b=a:=by omega
  have d:c=b:=by omega
  exact JW u v x (h1.2 f) (h2.2 d)
theorem FP:∀u v:List Int,u.length=v.length->cH u v=false->cH v u=false->u=v
 | [],[],_,_,_=>rfl
 | [],_::_,h,_,_=>by simp at h
 |_::_,[],h,_,_=>by simp at h
 |a::u,b::v,h,h1,h2=>by
  simp only[cH,Bool.or_eq_false_iff,Bool.and_eq_false_imp,yr,zY]at h1 h2;have e:a=b:=by omega
  subst e;rw[FP u v (by simpa using h) (h1.2 rfl) (h2.2 rfl)]
theorem fI {u v:LZ}:bY u v=true↔u.length<v.length\/(u.length=v.length/\cH u v=true):=by simp[bY]
theorem gE {u v:LZ}:bY u v=false↔v.length<=u.length/\(u.length=v.length->cH u v=false):=by
 simp only[bY,Bool.or_eq_false_iff,Bool.and_eq_false_imp,yr,zY];exact⟨λh=>⟨by omega,h.2⟩,λh=>⟨by omega,h.2⟩⟩
theorem eC:Ord bY where
 tr:=λa b c d f=>by
  rw[gE]at d f ⊢;refine⟨by omega,λe=>?_⟩;exact JW a b c (d.2 (by omega)) (f.2 (by omega))
 as:=λa b h=>by
  rw[fI]at h;rw[gE];rcases h with h|⟨h,k⟩
  ·exact⟨by omega,λe=>by omega⟩
  ·exact⟨by omega,λ_=>JV _ _ k⟩
theorem oW {u v:LZ}(h1:bY u v=false)(h2:bY v u=false):u=v:=by
 rw[gE]at h1 h2;exact FP u v (by omega) (h1.2 (by omega)) (h2.2 (by omega))
theorem Ord.on {α β:Type}{lt:α->α->Bool}(h:Ord lt)(k:β->α):Ord (λa b=>lt (k a) (k b)):=⟨λ_ _ _=>h.tr _ _ _,λ_ _=>h.as _ _⟩
open Brm
theorem vJ {P:List Int->Prop}:∀(r:Nat) (t:LZ),jL P r t->t≠[]->∃a b,t=a++b/\a≠[]/\P a/\1<=r/\jL P (r-1) b
 |0,t,h,hn=>absurd h hn
 |r+1,t,h,hn=>by
  obtain⟨a,b,e,f,c⟩:=h;by_cases d:a=[]
  ·subst d;rw[zd]at e;subst e;obtain⟨u,v,g,i,k,l,j⟩:=vJ r t c hn;refine⟨u,v,g,i,k,by omega,?_⟩;obtain⟨q,rfl⟩:∃q,r=q+1:=⟨r-1,by omega⟩;exact⟨[],v,rfl,f,j⟩
  ·exact⟨a,b,e,d,f,by omega,c⟩
theorem IS {r:Nat}(h:jL P (r+1) []):P []:=by
 obtain⟨a,b,e,c,_⟩:=h;have:=List.append_eq_nil_iff.1 e.symm;rw[<-this.1];exact c
inductive RE where
 |set (s:List (Int×Int))
 |empty
 |pair (a b:Nat)
 |or (l:List Nat)
 |not (a:Nat)
 |many (a:Nat) (m n:Int)
 deriving DecidableEq
def RE.parts:RE->List Nat
 |.set _=>[]
 |.empty=>[]
 |.pair a b=>[a,b]
 |.or l=>l
 |.not a=>[a]
 |.many a _ _=>[a]
abbrev Lg:=List Int->Prop
def RE.lang (L:Nat->Lg):RE->Lg
 |.set s,u=>∃c,u=[c]/\memB s c=true
 |.empty,u=>u=[]
 |.pair a b,u=>∃x y,u=x++y/\L a x/\L b y
 |.or l,u=>∃a∈l,L a u
 |.not a,u=>¬L a u
 |.many a m n,u=>∃r:Nat,m<=r/\(n<0\/(r:Int)<=n)/\jL (L a) r u
theorem RE.lang_congr {L L':Nat->Lg}(e:RE)(h:∀a∈e.parts,L a=L' a):e.lang L=e.lang L':=by
 cases e with
 |set s=>rfl
 |empty=>rfl
 |pair a b=>
  funext u;simp only[RE.lang,h a (by simp[RE.parts]),h b (by simp[RE.parts])]
 |or l=>
  funext u;simp only[RE.lang,eq_iff_iff];constructor
  ·rintro⟨a,c,d⟩;exact⟨a,c,by rw[<-h a c];exact d⟩
  ·rintro⟨a,c,d⟩;exact⟨a,c,by rw[h a c];exact d⟩
 |not a=>
  funext u;simp only[RE.lang,h a (by simp[RE.parts])]
 |many a m n=>
  funext u;simp only[RE.lang,h a (by simp[RE.parts])]
def lW:List RE->List Lg
 | []=>[]
 |e::T=>lW T++[e.lang (λa=>(lW T)[a]?.getD (λ_=>False))]
def lg (T:List RE)(i:Nat):Lg:=(lW T.reverse)[i]?.getD (λ_=>False)
theorem pf:∀(T:List RE),(lW T).length=T.length
 | []=>rfl
 |e::T=>by simp[lW,pf T]
theorem AT (e:RE)(T:List RE):lW (e::T)=lW T++[e.lang (λa=>(lW T)[a]?.getD (λ_=>False))]:=rfl
theorem Yc {T:List RE}{e:RE}(h:i<T.length):lg (T++[e]) i=lg T i:=by
 unfold lg;rw[List.reverse_append];show (lW (e::T.reverse))[i]?.getD _=_
 rw[AT,yY (by rw[pf];simpa using h)]
theorem GH {T:List RE}{e:RE}:lg (T++[e]) T.length=e.lang (lg T):=by
 unfold lg;rw[List.reverse_append];show (lW (e::T.reverse))[T.length]?.getD _=_
 rw[AT,yk (by rw[pf];simp)];simp[pf]
theorem uQ:∀(Q T:List RE) {i:Nat},i<T.length->lg (T++Q) i=lg T i
 | [],T,i,_=>by rw[zx]
 |e::Q,T,i,h=>by
  have:=uQ Q (T++[e]) (i:=i) (by simp;omega);rw[zc,List.singleton_append]at this;rw[this,Yc h]
theorem Nb {T:List RE}{e:RE}(h:T[i]?=some e)(hp:∀a∈e.parts,a<i):lg T i=e.lang (lg T):=by
 have g:i<T.length:=(zC.1 h).1;have c:T=T.take i++[e]++T.drop (i+1):=by
  have:=(zC.1 h).2;rw[zc,List.singleton_append,<-this,<-yC g,zj]
 have d:(T.take i).length=i:=by simp;omega
 have f:lg T i=e.lang (lg (T.take i)):=by
  conv=>lhs;rw[c]
  rw[uQ _ _ (by simp;omega)];have:=GH (T:=T.take i) (e:=e);rw[d]at this;exact this
 rw[f];apply RE.lang_congr;intro a j;have b:=hp a j
 conv=>rhs;rw[c,zc]
 rw[uQ _ _ (by rw[d];exact b)]
def aG (f:Nat->Nat):List Nat->Nat
 | []=>0
 |a::l=>f a+aG f l
theorem rI {f g:Nat->Nat}:∀{l:List Nat},(∀a∈l,f a=g a)->aG f l=aG g l
 | [],_=>rfl
 |a::l,h=>by unfold aG;rw[h a (by simp),rI (λb c=>h b (by simp[c]))]
def dA (f:Nat->Nat):List Nat->Nat
 | []=>0
 |a::l=>max (f a) (dA f l)
theorem rJ {f g:Nat->Nat}:∀{l:List Nat},(∀a∈l,f a=g a)->dA f l=dA g l
 | [],_=>rfl
 |a::l,h=>by unfold dA;rw[h a (by simp),rJ (λb c=>h b (by simp[c]))]
structure Me where
 n:Nat
 p:Nat
 y:Nat
 z:Nat
instance:LE Me:=⟨λA B=>A.n<=B.n/\A.p<=B.p/\A.y<=B.y/\A.z<=B.z⟩
theorem Me.le_def {A B:Me}:A<=B↔A.n<=B.n/\A.p<=B.p/\A.y<=B.y/\A.z<=B.z:=Iff.rfl
theorem Me.refl (A:Me):A<=A:=⟨zA _,zA _,zA _,zA _⟩
theorem Me.trans {A B C:Me}(h:A<=B)(k:B<=C):A<=C:=⟨zJ h.1 k.1,zJ h.2.1 k.2.1,zJ h.2.2.1 k.2.2.1,zJ h.2.2.2 k.2.2.2⟩
def aV:Me:=⟨1,1,1,1⟩
def bf (A B:Me):Me:=⟨A.n+B.n,max (A.p+B.n) B.p,A.y+B.y,A.z+B.z⟩
def orM (f:Nat->Me)(l:List Nat):Me:=⟨max 1 (dA (λa=>(f a).n) l),max 1 (dA (λa=>(f a).p) l),max 1 (aG (λa=>(f a).y) l),max 1 (aG (λa=>(f a).z) l)⟩
def bB (A:Me):Me:=⟨A.n,A.p,A.y+1,A.z⟩
def cZ (A:Me):Me:=⟨1,A.p+1,A.y+1,A.z+1⟩
def bZ (n:Nat):Nat:=n*(n+1) / 2
def aN (A:Me):Me:=⟨A.p,A.p,bZ A.y,bZ A.z⟩
theorem Kt (n:Nat):2*bZ n=n*(n+1):=by
 unfold bZ;have:n*(n+1) % 2=0:=by
  rcases Nat.mod_two_eq_zero_or_one n with h|h
  ·rw[Nat.mul_mod,h];simp
  ·rw[Nat.mul_mod,Nat.add_mod,h]
 omega
theorem kj (n:Nat):bZ (n+1)=bZ n+n+1:=by
 have a:=Kt n;have b:=Kt (n+1);have:(n+1)*(n+1+1)=n*(n+1)+2*(n+1):=by rw[ye (n+1) (n+1) 1,Nat.mul_comm n (n+1),ye (n+1) n 1];omega
 omega
theorem lJ (a b:Nat):bZ (a+b)=bZ a+bZ b+a*b:=by
 induction b with
 |zero=>simp[bZ]
 |succ b ih=>rw[<-xG,kj,ih,kj,Nat.mul_succ];omega
theorem dY {b:Nat}(h:a<=b):bZ a<=bZ b:=by
 obtain⟨k,rfl⟩:=Nat.exists_eq_add_of_le h;rw[lJ];omega
theorem qr (n:Nat):n<=bZ n:=by
 cases n with
 |zero=>exact zW _
 |succ n=>rw[kj];omega
theorem mr {A B:Me}(h:A<=B):aN A<=aN B:=⟨h.2.1,h.2.1,dY h.2.2.1,dY h.2.2.2⟩
theorem kP {A B A' B':Me}(h:A<=A')(k:B<=B'):bf A B<=bf A' B':=by
 obtain⟨e,i,a,g⟩:=h;obtain⟨b,c,d,f⟩:=k;refine⟨?_,?_,?_,?_⟩<;>simp only[bf]<;>omega
theorem IT (A B C:Me):bf (bf A B) C=bf A (bf B C):=by
 simp only[bf,Me.mk.injEq];refine⟨?_,?_,?_,?_⟩<;>omega
theorem mt {A B:Me}(h:A<=B):bB A<=bB B:=⟨h.1,h.2.1,Nat.succ_le_succ h.2.2.1,h.2.2.2⟩
theorem BT (A:Me):A<=bB A:=⟨zA _,zA _,yN _,zA _⟩
theorem Nc {A B:Me}(h:A<=B):cZ A<=cZ B:=⟨zA _,Nat.succ_le_succ h.2.1,Nat.succ_le_succ h.2.2.1,Nat.succ_le_succ h.2.2.2⟩
def RE.size (f:Nat->Me):RE->Me
 |.set _=>aV
 |.empty=>aV
 |.pair a b=>bf (f a) (f b)
 |.or l=>orM f l
 |.not a=>bB (f a)
 |.many a _ _=>cZ (f a)
theorem Qr {f g:Nat->Me}{l:List Nat}(h:∀a∈l,f a=g a):orM f l=orM g l:=by
 unfold orM;rw[rJ (λa b=>congrArg Me.n (h a b)),rJ (λa b=>congrArg Me.p (h a b)),rI (λa b=>congrArg Me.y (h a b)),rI (λa b=>congrArg Me.z (h a b))]
theorem RE.size_congr {f g:Nat->Me}(e:RE)(h:∀a∈e.parts,f a=g a):e.size f=e.size g:=by
 cases e with
 |set s=>rfl
 |empty=>rfl
 |pair a b=>simp only[RE.size,h a (by simp[RE.parts]),h b (by simp[RE.parts])]
 |or l=>exact Qr h
 |not a=>simp only[RE.size,h a (by simp[RE.parts])]
 |many a m n=>simp only[RE.size,h a (by simp[RE.parts])]
def vK:List RE->List Me
 | []=>[]
 |e::T=>vK T++[e.size (λa=>(vK T)[a]?.getD aV)]
def sz (T:List RE)(i:Nat):Me:=(vK T.reverse)[i]?.getD aV
theorem uR:∀(T:List RE),(vK T).length=T.length
 | []=>rfl
 |e::T=>by simp[vK,uR T]
theorem GI (e:RE)(T:List RE):vK (e::T)=vK T++[e.size (λa=>(vK T)[a]?.getD aV)]:=rfl
theorem Yd {T:List RE}{e:RE}(h:i<T.length):sz (T++[e]) i=sz T i:=by
 unfold sz;rw[List.reverse_append];show (vK (e::T.reverse))[i]?.getD _=_
 rw[GI,yY (by rw[uR];simpa using h)]
theorem Ye {T:List RE}{e:RE}:sz (T++[e]) T.length=e.size (sz T):=by
 unfold sz;rw[List.reverse_append];show (vK (e::T.reverse))[T.length]?.getD _=_
 rw[GI,yk (by rw[uR];simp)];simp[uR]
theorem uS:∀(Q T:List RE) {i:Nat},i<T.length->sz (T++Q) i=sz T i
 | [],T,i,_=>by rw[zx]
 |e::Q,T,i,h=>by
  have:=uS Q (T++[e]) (i:=i) (by simp;omega);rw[zc,List.singleton_append]at this;rw[this,Yd h]
theorem pg {T:List RE}{e:RE}(h:T[i]?=some e)(hp:∀a∈e.parts,a<i):sz T i=e.size (sz T):=by
 have g:i<T.length:=(zC.1 h).1;have c:T=T.take i++[e]++T.drop (i+1):=by
  have:=(zC.1 h).2;rw[zc,List.singleton_append,<-this,<-yC g,zj]
 have d:(T.take i).length=i:=by simp;omega
 have f:sz T i=e.size (sz (T.take i)):=by
  conv=>lhs;rw[c]
  rw[uS _ _ (by simp;omega)];have:=Ye (T:=T.take i) (e:=e);rw[d]at this;exact this
 rw[f];apply RE.size_congr;intro a j;have b:=hp a j
 conv=>rhs;rw[c,zc]
 rw[uS _ _ (by rw[d];exact b)]
theorem sz_one {T:List RE}(hw:∀(i:Nat) (e:RE),T[i]?=some e->∀a∈e.parts,a<i):∀i,i<T.length->aV<=sz T i:=by
 intro i
 induction i using Nat.strongRecOn with
 |ind i ih=>
  intro j;obtain⟨e,f⟩:∃e,T[i]?=some e:=⟨_,zB j⟩;have d:=hw i e f;rw[pg f d];have c:∀a∈e.parts,aV<=sz T a:=λa g=>ih a (d a g) (by have:=d a g;omega);cases e with
  |set s=>exact Me.refl _
  |empty=>exact Me.refl _
  |pair a b=>
   obtain⟨k,p,h,o⟩:=c a (by simp[RE.parts]);obtain⟨t,q,r,u⟩:=c b (by simp[RE.parts]);refine⟨?_,?_,?_,?_⟩<;>simp only[RE.size,bf,aV]at *<;>omega
  |or l=>refine⟨?_,?_,?_,?_⟩<;>simp only[RE.size,orM,aV]<;>omega
  |not a=>
   obtain⟨k,p,h,o⟩:=c a (by simp[RE.parts]);refine⟨?_,?_,?_,?_⟩<;>simp only[RE.size,bB,aV]at *<;>omega
  |many a m n=>
   refine⟨?_,?_,?_,?_⟩<;>simp only[RE.size,cZ,aV]<;>omega
theorem Uk (A:Me):bB (aN A)<=aN (bB A):=by
 refine⟨zA _,zA _,?_,zA _⟩;show bZ A.y+1<=bZ (A.y+1)
 rw[kj];omega
theorem Qs (A:Me):bf (aN A) (cZ A)<=aN (cZ A):=by
 refine⟨?_,?_,?_,?_⟩<;>simp only[bf,aN,cZ]
 ·omega
 ·omega
 ·rw[kj];omega
 ·rw[kj];omega
theorem CY {A B:Me}(hA:aV<=A)(hB:aV<=B){X Y:Me}(hX:X<=bf (aN A) B)(hY:Y<=aN B):(⟨max 1 (max X.n Y.n),max 1 (max X.p Y.p),max 1 (X.y+Y.y),max 1 (X.z+Y.z)⟩:Me)<=aN (bf A B):=by
 obtain⟨q,t,k,c⟩:=hA;obtain⟨a,m,f,b⟩:=hB;obtain⟨s,i,j,o⟩:=hX;obtain⟨r,h,l,v⟩:=hY;simp only[bf,aN,aV]at *;have g:=lJ A.y B.y;have d:=lJ A.z B.z;have u:B.y<=A.y*B.y:=Nat.le_mul_of_pos_left _ (by omega);have n:B.z<=A.z*B.z:=Nat.le_mul_of_pos_left _ (by omega);have e:=qr A.y;have p:=qr A.z;refine⟨?_,?_,?_,?_⟩<;>simp only<;>omega
theorem uT {f:Nat->Nat}:∀{l:List Nat} {a:Nat},a∈l->f a<=aG f l
 |b::l,a,h=>by
  unfold aG;rcases zO.1 h with rfl|h
  ·omega
  ·have:=uT (f:=f) h;omega
theorem uU {f:Nat->Nat}:∀{l:List Nat} {a:Nat},a∈l->f a<=dA f l
 |b::l,a,h=>by
  unfold dA;rcases zO.1 h with rfl|h
  ·omega
  ·have:=uU (f:=f) h;omega
theorem uV {f:Nat->Nat}:∀(l:List Nat),aG (λa=>bZ (f a)) l<=bZ (aG f l)
 | []=>zW _
 |a::l=>by unfold aG;rw[lJ];have:=uV (f:=f) l;omega
theorem WN (f:Nat->Me)(l:List Nat):orM (λa=>aN (f a)) l<=aN (orM f l):=by
 have c:=uV (f:=λa=>(f a).y) l;have b:=uV (f:=λa=>(f a).z) l;have e:=dY (show aG (λa=>(f a).y) l<=max 1 (aG (λa=>(f a).y) l) by omega);have d:=dY (show aG (λa=>(f a).z) l<=max 1 (aG (λa=>(f a).z) l) by omega);have h:=qr (max 1 (aG (λa=>(f a).y) l));have g:=qr (max 1 (aG (λa=>(f a).z) l));refine⟨?_,?_,?_,?_⟩<;>simp only[orM,aN]<;>omega
theorem Yf {f:Nat->Me}{l:List Nat}(h:a∈l):f a<=orM f l:=by
 have d:=uU (f:=λa=>(f a).n) h;have c:=uU (f:=λa=>(f a).p) h;have e:=uT (f:=λa=>(f a).y) h;have b:=uT (f:=λa=>(f a).z) h;refine⟨?_,?_,?_,?_⟩<;>simp only[orM]at *<;>omega
def aX (L:Lg)(r:Int):Lg:=λu=>L (r::u)
def eA:Lg:=λ_=>False
def dZ:Lg:=λu=>u=[]
def aJ (A B:Lg):Lg:=λu=>∃x y,u=x++y/\A x/\B y
def Yg (A B:Lg):Lg:=λu=>A u\/B u
def fZ (A:Lg):Lg:=λu=>¬A u
def dB (A:Lg)(m n:Int):Lg:=λu=>∃r:Nat,m<=r/\(n<0\/(r:Int)<=n)/\jL A r u
theorem CZ {B:Lg}:aJ eA B=eA:=by
 funext u;simp[aJ,eA]
theorem uc {A:Lg}:aJ A eA=eA:=by
 funext u;simp[aJ,eA]
theorem AU {B:Lg}:aJ dZ B=B:=by
 funext u;simp only[aJ,dZ,eq_iff_iff];constructor
 ·rintro⟨x,y,rfl,rfl,h⟩;exact h
 ·intro h;exact⟨[],u,rfl,rfl,h⟩
theorem kQ {A:Lg}:aJ A dZ=A:=by
 funext u;simp only[aJ,dZ,eq_iff_iff];constructor
 ·rintro⟨x,y,rfl,h,rfl⟩;simpa using h
 ·intro h;exact⟨u,[],by simp,h,rfl⟩
theorem AV {A B C:Lg}:aJ (aJ A B) C=aJ A (aJ B C):=by
 funext u;simp only[aJ,eq_iff_iff];constructor
 ·rintro⟨_,z,rfl,⟨x,y,rfl,a,b⟩,c⟩;exact⟨x,y++z,by simp,a,y,z,rfl,b,c⟩
 ·rintro⟨x,_,rfl,a,y,z,rfl,b,c⟩;exact⟨x++y,z,by simp,⟨x,y,rfl,a,b⟩,c⟩
open Classical in
theorem rK {A B:Lg}{r:Int}:aX (aJ A B) r=if A []then Yg (aJ (aX A r) B) (aX B r)else aJ (aX A r) B:=by
 funext u;have a:aX (aJ A B) r u↔(aJ (aX A r) B u\/(A []/\aX B r u)):=by
  constructor
  ·rintro⟨x,y,e,b,d⟩;cases x with
   |nil=>rw[zd]at e;subst e;exact .inr ⟨b,d⟩
   |cons c x=>injection e with e1 e2;subst e1;exact .inl ⟨x,y,e2,b,d⟩
  ·rintro (⟨x,y,rfl,b,d⟩|⟨g,f⟩)
   ·exact⟨r::x,y,rfl,b,d⟩
   ·exact⟨[],r::u,rfl,g,f⟩
 by_cases h:A []
 ·rw[zX h,propext a];simp[Yg,h]
 ·rw[zR h,propext a];simp[h]
theorem not_not {A:Lg}:fZ (fZ A)=A:=by funext u;simp[fZ]
def bA (n:Int):Int:=if 0<n then n-1 else n
theorem GJ {A:Lg}{n:Int}{r:Int}(hm:0<=m)(hn:n=-1\/0<n):aX (dB A m n) r=aJ (aX A r) (dB A (bA m) (bA n)):=by
 funext u;simp only[eq_iff_iff];constructor
 ·rintro⟨k,d,f,b⟩;obtain⟨x,y,e,a,g,i,h⟩:=vJ k _ b (by simp);cases x with
  |nil=>exact absurd rfl a
  |cons c x=>
   injection e with e1 e2;subst e1;refine⟨x,y,e2,g,k-1,?_,?_,h⟩
   ·unfold bA;split<;>omega
   ·unfold bA;split<;>omega
 ·rintro⟨x,y,rfl,a,k,d,f,b⟩;refine⟨k+1,?_,?_,r::x,y,rfl,a,b⟩
  ·unfold bA at d;split at d<;>omega
  ·unfold bA at f;split at f<;>omega
theorem Da {A:Lg}(hm:m=0):dB A m 0=dZ:=by
 funext u;simp only[dB,dZ,eq_iff_iff,hm];constructor
 ·rintro⟨r,_,b,a⟩;have:r=0:=by omega
  subst this;exact a
 ·rintro rfl;exact⟨0,by omega,by omega,rfl⟩
theorem Db {A:Lg}{n:Int}(hm:0<=m)(hn:n=-1\/m<=n):dB A m n []↔m=0\/A []:=by
 constructor
 ·rintro⟨r,b,c,a⟩;cases r with
  |zero=>left;omega
  |succ r=>exact .inr (IS a)
 ·rintro (rfl|h)
  ·exact⟨0,by omega,by omega,rfl⟩
  ·have:∀k,jL A k []:=λk=>by induction k with|zero=>rfl|succ k ih=>exact⟨[],[],rfl,h,ih⟩
   exact⟨m.toNat,by omega,by omega,this _⟩
theorem Dc {A B:Lg}:aJ A B []↔A []/\B []:=by
 constructor
 ·rintro⟨x,y,e,a,b⟩;obtain⟨rfl,rfl⟩:=List.append_eq_nil_iff.1 e.symm;exact⟨a,b⟩
 ·rintro⟨c,d⟩;exact⟨[],[],rfl,c,d⟩
def ef (t:List Int):Prop:=∀r∈t,runeB r=true
theorem ef.rng {t:LZ}(h:ef t):∀r∈t,0<=r/\r<1114112:=λr a=>by
 have:=h r a;simp only[runeB,zY]at this;omega
def kh:List Int->Nat->Nat
 | [],n=>n
 |a::t,n=>kh t (n*1114112+a.toNat)
theorem JZ:∀(s t:LZ) {m n:Nat},(∀r∈s,0<=r/\r<1114112)->s.length=t.length->m<n->kh s m<kh t n
 | [],[],_,_,_,_,h=>h
 | [],_::_,_,_,_,h,_=>by simp at h
 |_::_,[],_,_,_,h,_=>by simp at h
 |a::s,b::t,m,n,hs,hl,h=>by
  have e:=hs a (by simp);refine JZ s t (λr c=>hs r (by simp[c])) (by simpa using hl) ?_;have d:m*1114112+1114112<=n*1114112:=by
   have:=zn 1114112 h;rw[Nat.succ_mul]at this;exact this
  omega
theorem FT:∀(s t:LZ) (n:Nat),(∀r∈s,0<=r/\r<1114112)->(∀r∈t,0<=r/\r<1114112)->s.length=t.length->cH s t=true->kh s n<kh t n
 | [],[],_,_,_,_,h=>by simp[cH]at h
 | [],_::_,_,_,_,h,_=>by simp at h
 |_::_,[],_,_,_,h,_=>by simp at h
 |a::s,b::t,n,hs,ht,hl,h=>by
  have e:=hs a (by simp);have d:=ht b (by simp);simp only[cH,yZ,yP,zY]at h;rcases h with h|⟨rfl,h⟩
  ·exact JZ s t (λr c=>hs r (by simp[c])) (by simpa using hl) (by omega)
  ·exact FT s t _ (λr c=>hs r (by simp[c])) (λr c=>ht r (by simp[c])) (by simpa using hl) h
theorem wQ:∀(s t:LZ) (m n:Nat),(∀r∈s,0<=r/\r<1114112)->m<n*1114112->1<=n->t.length=s.length+1->kh s m<kh t n
 | [],[],_,_,_,_,_,h=>by simp at h
 | [],[b],m,n,_,h,_,_=>by
  have e:kh [b] n=n*1114112+b.toNat:=rfl;have d:kh [] m=m:=rfl;rw[e,d];exact zF h (Nat.le_add_right _ _)
 | [],_::_::_,_,_,_,_,_,h=>by simp at h
 |_::_,[],_,_,_,_,_,h=>by simp at h
 |a::s,b::t,m,n,hs,h,hn,hl=>by
  have f:=hs a (by simp);refine wQ s t _ _ (λr c=>hs r (by simp[c])) ?_ (by omega) (by simpa using hl);have g:m*1114112+1114112<=n*1114112*1114112:=by
   have:=zn 1114112 h;rw[Nat.succ_mul]at this;exact this
  rw[Nat.add_mul];omega
theorem vt:∀(k:Nat) (s t:LZ),(∀r∈s,0<=r/\r<1114112)->(∀r∈t,0<=r/\r<1114112)->t.length=s.length+1+k->kh s 1<kh t 1
 |0,s,t,hs,_,hl=>wQ s t 1 1 hs (by omega) (by omega) (by omega)
 |k+1,s,t,hs,ht,hl=>by
  have b:t.dropLast.length=s.length+1+k:=by simp;omega
  have d:=vt k s t.dropLast hs (λr a=>ht r ((List.dropLast_sublist t).mem a)) b;have c:=wQ t.dropLast t 1 1 (λr a=>ht r ((List.dropLast_sublist t).mem a)) (by omega) (by omega) (by simp;omega);omega
theorem PJ {s t:LZ}(hs:ef s)(ht:ef t)(h:bY s t=true):kh s 1<kh t 1:=by
 rw[fI]at h;rcases h with h|⟨h,k⟩
 ·exact vt (t.length-s.length-1) s t hs.rng ht.rng (by omega)
 ·exact FT s t 1 hs.rng ht.rng h k
def cX (D:List Int->Prop)(n:Nat)(m:List Int):Prop:=ef m/\D m/\m.length<=n/\∀t,ef t->D t->t.length<=n->bY t m=false
theorem rn {D:List Int->Prop}{s:LZ}(hs:ef s)(hd:D s)(hl:s.length<=n):∃m,cX D n m/\bY s m=false:=by
 generalize hk:kh s 1=k
 induction k using Nat.strongRecOn generalizing s with
 |ind k ih=>
  by_cases h:∃t,ef t/\D t/\t.length<=n/\bY t s=true
  ·obtain⟨t,a,b,c,d⟩:=h;have i:=PJ a hs d;obtain⟨m,g,f⟩:=ih (kh t 1) (by omega) a b c rfl;refine⟨m,g,?_⟩;exact eC.tr _ _ _ f (eC.as _ _ d)
  ·refine⟨s,⟨hs,hd,hl,λt a b c=>?_⟩,eC.irr _⟩;cases e:bY t s with
   |false=>rfl
   |true=>exact absurd ⟨t,a,b,c,e⟩ h
theorem pH {x z:LZ}:bY (x++z) x=false:=by
 rw[gE];refine⟨by simp,λe=>?_⟩;have:z=[]:=by simp at e;exact e
 subst this;rw[zx];exact FO x
theorem vu:∀(s t z:LZ),s.length=t.length->cH s t=true->cH (s++z) (t++z)=true
 | [],[],_,_,h=>by simp[cH]at h
 | [],_::_,_,h,_=>by simp at h
 |_::_,[],_,h,_=>by simp at h
 |a::s,b::t,z,hl,h=>by
  simp only[cH,zV,yZ,yP,zY]at h ⊢;rcases h with h|⟨e,h⟩
  ·exact .inl h
  ·exact .inr ⟨e,vu s t z (by simpa using hl) h⟩
theorem vv {s t:LZ}(z:LZ)(h:bY s t=true):bY (s++z) (t++z)=true:=by
 rw[fI]at h ⊢;rcases h with h|⟨h,k⟩
 ·exact .inl (by simp;omega)
 ·exact .inr ⟨by simp[h],vu s t z h k⟩
structure SrI (D:List Int->Prop)(Al:List Int)(n:Nat)(old wait:List (List Int)):Prop where
 len:∀x∈wait,x.length<=n
 val:∀x,x∈wait\/x∈old->ef x
 ord:∀x∈old,∀y∈wait,bY y x=false
 path:∀m,cX D n m->∃x∈wait,x∉old/\∃z,m=x++z
variable {D:List Int->Prop} {Al:List Int} {n:Nat} {old wait rest:List (List Int)} {t:List Int}
theorem Tq:SrI D Al n [] [[]]:=⟨λx a=>by simp at a;subst a;simp,λx a=>by simp at a;subst a;intro r b;simp at b,λx a=>by simp at a,λm _=>⟨[],by simp,by simp,m,rfl⟩⟩
theorem Tr (h:SrI D Al n old wait)(ht:t∈wait)(hm:∀x∈wait,bY x t=false)(hd:D t):cX D n t:=by
 refine⟨h.val t (.inl ht),hd,h.len t ht,λs d c e=>?_⟩;obtain⟨m,f,b⟩:=rn d c e;obtain⟨x,a,_,z,rfl⟩:=h.path m f;have:=hm x a;exact eC.tr _ _ _ this (eC.tr _ _ _ (pH (x:=x) (z:=z)) b)
theorem Wr (h:SrI D Al n old []):∀s,ef s->s.length<=n->¬D s:=λs c b d=>by
 obtain⟨m,e,_⟩:=rn c d b;obtain⟨x,a,_⟩:=h.path m e;simp at a
theorem Ws (h:SrI D Al n old wait)(hp:wait.Perm (t::rest))(hm:∀x∈wait,bY x t=false)(hno:t∉old->∀m z,cX D n m->m≠t++z):SrI D Al n (t::old) rest:=by
 have b:∀x∈rest,x∈wait:=λx a=>hp.mem_iff.2 (by simp[a]);have d:t∈wait:=hp.mem_iff.2 (by simp);refine⟨λx a=>h.len x (b x a),λx a=>?_,λx a y f=>?_,λm g=>?_⟩
 ·rcases a with a|a
  ·exact h.val x (.inl (b x a))
  ·rcases zO.1 a with rfl|a
   ·exact h.val x (.inl d)
   ·exact h.val x (.inr a)
 ·rcases zO.1 a with rfl|a
  ·exact hm y (b y f)
  ·exact h.ord x a y (b y f)
 ·obtain⟨x,j,i,z,e⟩:=h.path m g;by_cases c:x=t
  ·subst c;exact absurd e (hno i m z g)
  ·refine⟨x,?_,?_,z,e⟩
   ·rcases zO.1 (hp.mem_iff.1 j)with e|e
    ·exact absurd e c
    ·exact e
   ·intro a;rcases zO.1 a with e|e
    ·exact c e
    ·exact i e
theorem Wu (hd:¬D t)(hl:t.length=n):∀m z,cX D n m->m≠t++z:=λm z a e=>by
 have b:=a.2.2.1;rw[e,zH]at b;have:z=[]:=zq.1 (by omega);subst this;rw[zx]at e;subst e;exact hd a.2.1
theorem Wv (hs:∀z,¬D (t++z)):∀m z,cX D n m->m≠t++z:=λm z a e=>by
 subst e;exact hs z a.2.1
theorem Ww (h:SrI D Al n old wait)(ht:t∈wait){s:LZ}(hs:s∈old)(he:∀z,ef z->(D (s++z)↔D (t++z)))(hn:t∉old):∀m z,cX D n m->m≠t++z:=λm z d e=>by
 subst e;have f:s≠t:=λe=>hn (by rw[<-e];exact hs);have k:=h.ord s hs t ht;have b:bY s t=true:=by
  cases e:bY s t with
  |true=>rfl
  |false=>exact absurd (oW e k) f
 have j:ef z:=λr a=>d.1 r (by simp[a]);have g:ef (s++z):=λr a=>by
  rcases zM.1 a with a|a
  ·exact h.val s (.inr hs) r a
  ·exact j r a
 have i:=vv z b;have c:(s++z).length<=n:=by
  have l:=d.2.2.1;rw[fI]at b;simp only[zH]at l ⊢;omega
 have:=d.2.2.2 (s++z) g ((he z j).2 d.2.1) c;rw[i]at this;cases this
theorem Wx (h:SrI D Al n old wait)(hp:wait.Perm (t::rest))(hm:∀x∈wait,bY x t=false)(hd:¬D t)(hl:t.length≠n)(hA:∀r∈Al,runeB r=true)(hAl:∀m,cX D n m->∀r∈m,r∈Al){wait':List (List Int)}(hw:wait'.Perm (Al.map (λr=>t++[r])++rest)):SrI D Al n (t::old) wait':=by
 have c:∀x∈rest,x∈wait:=λx a=>hp.mem_iff.2 (by simp[a]);have d:t∈wait:=hp.mem_iff.2 (by simp);have v:=h.len t d;have k:=h.val t (.inl d);have b:∀x∈wait',(∃r∈Al,x=t++[r])\/x∈rest:=λx a=>by
  rcases zM.1 (hw.mem_iff.1 a)with a|a
  ·obtain⟨r,i,rfl⟩:=yH.1 a;exact .inl ⟨r,i,rfl⟩
  ·exact .inr a
 refine⟨λx a=>?_,λx a=>?_,λx a y o=>?_,λm p=>?_⟩
 ·rcases b x a with⟨r,_,rfl⟩|a
  ·simp;omega
  ·exact h.len x (c x a)
 ·rcases a with a|a
  ·rcases b x a with⟨r,i,rfl⟩|a
   ·intro q g;rcases zM.1 g with g|g
    ·exact k q g
    ·simp at g;subst g;exact hA q i
   ·exact h.val x (.inl (c x a))
  ·rcases zO.1 a with rfl|a
   ·exact k
   ·exact h.val x (.inr a)
 ·have j:bY y t=false:=by
   rcases b y o with⟨r,_,rfl⟩|o
   ·exact pH
   ·exact hm y (c y o)
  rcases zO.1 a with rfl|a
  ·exact j
  ·exact eC.tr _ _ _ (h.ord x a t d) j
 ·obtain⟨x,u,w,z,e⟩:=h.path m p;by_cases f:x=t
  ·subst f;cases z with
   |nil=>rw[zx]at e;subst e;exact absurd p.2.1 hd
   |cons r z=>
    have i:r∈Al:=hAl m p r (by rw[e];simp);refine⟨x++[r],hw.mem_iff.2 (zM.2 (.inl (yH.2 ⟨r,i,rfl⟩))),?_,z,by rw[e];simp⟩;intro a;rcases zO.1 a with l|l
    ·have:=congrArg List.length l;simp at this
    ·have s:=h.ord (x++[r]) l x d;rw[gE]at s;simp at s;omega
  ·refine⟨x,hw.mem_iff.2 (zM.2 (.inr ?_)),?_,z,e⟩
   ·rcases zO.1 (hp.mem_iff.1 u)with e|e
    ·exact absurd e f
    ·exact e
   ·intro a;rcases zO.1 a with e|e
    ·exact f e
    ·exact w e
namespace Brm
def XZ (l:List Int):Prop:=∃c t,l=c::t/\da c=false/\mw c=false
def YK (s:List Int):Prop:=df da s=false
def ZO (s:List Int):Prop:=il false s=true
def ZC (s:List Int):Prop:=s=[]\/∃t,s=41::t
def UI (l:List Int)(p:Pat):Prop:=(∃c t,l=c::t/\c≠126/\da c=false/\mw c=false)/\∀n rest,l.length<=n->dy (aU false n) (l++rest)=.ok p rest
def YL (l:List Int)(p:Pat):Prop:=XZ l/\∀n rest,l.length<=n->YK rest->dg (aU false n) (l++rest)=.ok p rest
def Ya (t:List Int)(mn:Int×Int):Prop:=(∃c u,t=c::u/\da c=true)/\∀rest,dn (t++rest)=.ok mn rest
inductive SfxW:Pat->List Int->Pat->Prop
 |nil {x:Pat}:SfxW x [] x
 |cons {x p:Pat} {t u:List Int} {mn:Int×Int}:Ya t mn->SfxW (.many x mn.1 mn.2) u p->SfxW x (t++u) p
def ZP (l:List Int)(p:Pat):Prop:=∃a x u,l=a++u/\UI a x/\SfxW x u p
inductive RowW:List Int->List Pat->Prop
 |nil:RowW [] []
 |cons {l t:List Int} {p:Pat} {ps:List Pat}:YL l p->RowW t ps->RowW (l++t) (p::ps)
inductive JoinW (P:List Int->Pat->Prop) (sign:Int):List Int->List Pat->Prop
 |one {l:List Int} {p:Pat}:P l p->JoinW P sign l [p]
 |cons {l t:List Int} {p:Pat} {ps:List Pat}:P l p->JoinW P sign t ps->JoinW P sign (l++sign::t) (p::ps)
def Zh (l:List Int)(p:Pat):Prop:=∃ps,p=.row ps/\RowW l ps
def Zi (l:List Int)(p:Pat):Prop:=∃ps,p=.and ps/\JoinW Zh 38 l ps
def ZD (l:List Int)(p:Pat):Prop:=∃ps,p=.or ps/\JoinW Zi 124 l ps
def Zj (x:Pat):Pat:=.or [.and [.row [x]]]
def ZQ (p:Pat):Pat:=Zj (.many (.group p) 0 (-1))
end Brm
inductive Tm where
 |none
 |empty
 |set (q:List (Int×Int))
 |row (a b:Tm)
 |or (l:List Tm)
 |and (l:List Tm)
 |not (t:Tm)
 |many (t:Tm) (m n:Int)
def eI (n:Nat):List UInt8:=if n<10 then[(48+n).toUInt8]else eI (n / 10)++[(48+n % 10).toUInt8]
def dN (n:Int):List UInt8:=if n<0 then[126]else eI n.toNat
def eJ (x:Int×Int):List UInt8:=44::(dN x.1++45::dN x.2)
def cU (k:List UInt8):List UInt8:=40::(k++[41])
mutual
def Tm.key:Tm->List UInt8
 |.none=>[49]
 |.empty=>[50]
 |.set q=>51::q.flatMap eJ
 |.row a b=>52::(cU a.key++cU b.key)
 |.or l=>53::ju l
 |.and l=>54::ju l
 |.not t=>55::cU t.key
 |.many t m n=>56::(dN m++58::(dN n++cU t.key))
def ju:List Tm->List UInt8
 | []=>[]
 |t::l=>cU t.key++ju l
end
def sL (b:UInt8):Prop:=48<=b.toNat/\b.toNat<=57
theorem UD (h:k<10):((48+k).toUInt8).toNat=48+k:=by
 simp[Nat.toUInt8];omega
theorem wg:∀(n:Nat),∀b∈eI n,sL b:=by
 intro n
 induction n using Nat.strongRecOn with
 |_ n ih=>
  intro b a;unfold eI at a
  split at a
  ·rename_i h
   rw[yQ]at a;subst a;unfold sL;rw[UD h];omega
  ·rename_i h
   rcases zM.1 a with a|a
   ·exact ih (n / 10) (by omega) b a
   ·simp only[yQ]at a;subst a;unfold sL;rw[UD (by omega)];omega
theorem ui (n:Nat):eI n≠[]:=by
 unfold eI
 split<;>simp
theorem Oq {b:Nat}(ha:a<10)(hb:b<10)(h:(48+a).toUInt8=(48+b).toUInt8):a=b:=by
 have:=congrArg UInt8.toNat h;rw[UD ha,UD hb]at this;omega
theorem RG:∀(m n:Nat),eI m=eI n->m=n:=by
 intro m
 induction m using Nat.strongRecOn with
 |_ m ih=>
  intro n h;rw[eI.eq_def m,eI.eq_def n]at h
  split at h<;>split at h
  ·rename_i h1 h2
   exact Oq h1 h2 (by simpa using h)
  ·rename_i h1 h2
   have:=congrArg List.length h;have g:=List.length_pos_iff.2 (ui (n / 10));simp at this;exact absurd this (ui _)
  ·rename_i h1 h2
   have:=congrArg List.length h;simp at this;exact absurd this (ui _)
  ·rename_i h1 h2
   obtain⟨c,d⟩:=List.append_inj' h rfl;have f:=ih (m / 10) (by omega) (n / 10) c;have e:=Oq (a:=m % 10) (b:=n % 10) (by omega) (by omega) (by simpa using d);omega
def iP (n:Int):Prop:=-1<=n
theorem wh {n:Int}:∀b∈dN n,sL b\/b=126:=by
 intro b a;unfold dN at a
 split at a
 ·simp at a;exact .inr a
 ·exact .inl (wg _ b a)
theorem Vn {n:Int}(hm:iP m)(hn:iP n)(h:dN m=dN n):m=n:=by
 unfold iP at hm hn;unfold dN at h
 split at h<;>split at h
 ·omega
 ·have a:=wg n.toNat 126 (by rw[<-h];simp);unfold sL at a;exact absurd a.2 (by decide)
 ·have a:=wg m.toNat 126 (by rw[h];simp);unfold sL at a;exact absurd a.2 (by decide)
 ·have:=RG _ _ h;omega
theorem Jh {u v y:List UInt8}{P:UInt8->Prop}(hu:∀b∈u,P b)(hv:∀b∈v,P b)(hx:∀b t,x=b::t->¬P b)(hy:∀b t,y=b::t->¬P b)(h:u++x=v++y):u=v/\x=y:=by
 induction u generalizing v with
 |nil=>
  cases v with
  |nil=>exact⟨rfl,h⟩
  |cons b v=>exact absurd (hv b (by simp)) (hx b (v++y) h)
 |cons a u ih=>
  cases v with
  |nil=>exact absurd (hu a (by simp)) (hy a (u++x) h.symm)
  |cons b v=>
   simp only[zV,zT]at h;obtain⟨f,e⟩:=ih (λc d=>hu c (by simp[d])) (λc d=>hv c (by simp[d])) h.2;exact⟨by rw[h.1,f],e⟩
def Bg (b:UInt8):Prop:=sL b\/b=126
theorem uj {n:Int}{y:List UInt8}(hm:iP m)(hn:iP n)(hx:∀b t,x=b::t->¬Bg b)(hy:∀b t,y=b::t->¬Bg b)(h:dN m++x=dN n++y):m=n/\x=y:=by
 obtain⟨a,c⟩:=Jh (P:=Bg) wh wh hx hy h;exact⟨Vn hm hn a,c⟩
theorem notNum {c:UInt8}(h:c.toNat<48\/c.toNat=58):∀b t,∀(s:List UInt8),c::s=b::t->¬Bg b:=by
 intro b t s e;injection e with e1 e2;subst e1;rintro (⟨a,d⟩|a)
 ·omega
 ·rw[a]at h;exact absurd h (by decide)
def lO (x:List UInt8):Prop:=x=[]\/∃t,x=41::t
theorem lO.notNum {x:List UInt8}(h:lO x):∀b t,x=b::t->¬Bg b:=by
 intro b t e;rcases h with rfl|⟨s,rfl⟩
 ·cases e
 ·exact Go.Proofs.YtebnghmioamheaaGreatDoor.notNum (c:=41) (.inl (by decide)) b t s e
mutual
def Tm.Fit:Tm->Prop
 |.none=>True
 |.empty=>True
 |.set q=>∀x∈q,iP x.1/\iP x.2
 |.row a b=>a.Fit/\b.Fit
 |.or l=>Bh l
 |.and l=>Bh l
 |.not t=>t.Fit
 |.many t m n=>t.Fit/\iP m/\iP n
def Bh:List Tm->Prop
 | []=>True
 |t::l=>t.Fit/\Bh l
end
theorem EJ:∀(q r:LQ) (x y:List UInt8),(∀z∈q,iP z.1/\iP z.2)->(∀z∈r,iP z.1/\iP z.2)->lO x->lO y->q.flatMap eJ++x=r.flatMap eJ++y->q=r/\x=y
 | [],[],x,y,_,_,_,_,h=>⟨rfl,h⟩
 | [],z::r,x,y,_,_,g,_,h=>by
  simp only[List.flatMap_nil,zd,yE,eJ,zV]at h;rcases g with rfl|⟨t,rfl⟩
  ·cases h
  ·injection h with h1 _;exact absurd h1 (by decide)
 |z::q,[],x,y,_,_,_,hy,h=>by
  simp only[List.flatMap_nil,zd,yE,eJ,zV]at h;rcases hy with rfl|⟨t,rfl⟩
  ·cases h
  ·injection h with h1 _;exact absurd h1 (by decide)
 |(a,b)::q,(c,d)::r,x,y,hq,hr,g,hy,h=>by
  obtain⟨m,n⟩:=hq (a,b) (by simp);obtain⟨l,o⟩:=hr (c,d) (by simp);simp only[yE,eJ,zV,zc,zT,yB]at h;obtain⟨rfl,f⟩:=uj m l (λi t e=>notNum (c:=45) (.inl (by decide)) i t _ e) (λi t e=>notNum (c:=45) (.inl (by decide)) i t _ e) h;clear h;have h:=f;clear f;replace h:=(List.cons.inj h).2;have k:∀(q:List (Int×Int)) (x:List UInt8),lO x->∀b t,q.flatMap eJ++x=b::t->¬Bg b:=λq x g i t e=>by
   cases q with
   |nil=>exact g.notNum i t e
   |cons z q=>
    simp only[yE,eJ,zV]at e;exact notNum (c:=44) (.inl (by decide)) i t _ e
  obtain⟨rfl,f⟩:=uj n o (k q x g) (k r y hy) h;clear h;have h:=f;clear f;obtain⟨rfl,f⟩:=EJ q r x y (λz j=>hq z (by simp[j])) (λz j=>hr z (by simp[j])) g hy h;clear h;have h:=f;clear f;exact⟨rfl,h⟩
theorem fO (t:List UInt8):lO (41::t):=.inr ⟨t,rfl⟩
mutual
theorem lk:∀(a b:Tm) (x y:List UInt8),a.Fit->b.Fit->lO x->lO y->a.key++x=b.key++y->a=b/\x=y
 |.none,b,x,y,ha,hb,hx,hy,h=>by
  cases b<;>simp only[Tm.key,zV,zd,zT,yB]at h<;>first|exact⟨rfl,h⟩|exact absurd h.1 (by decide)
 |.empty,b,x,y,ha,hb,hx,hy,h=>by
  cases b<;>simp only[Tm.key,zV,zd,zT,yB]at h<;>first|exact⟨rfl,h⟩|exact absurd h.1 (by decide)
 |.set q,b,x,y,ha,hb,hx,hy,h=>by
  cases b with
  |set r=>
   simp only[Tm.key,zV,zT,yB]at h;obtain⟨rfl,d⟩:=EJ q r x y ha hb hx hy h;clear h;have h:=d;clear d;exact⟨rfl,h⟩
  |_=>simp only[Tm.key,zV,zd,zT]at h;exact absurd h.1 (by decide)
 |.row a1 a2,b,x,y,ha,hb,hx,hy,h=>by
  cases b with
  |row b1 b2=>
   simp only[Tm.key,cU,zV,zc,zd,zT,yB]at h;obtain⟨rfl,d⟩:=lk a1 b1 _ _ ha.1 hb.1 (fO _) (fO _) h;clear h;have h:=d;clear d;simp only[zT,yB]at h;obtain⟨rfl,d⟩:=lk a2 b2 _ _ ha.2 hb.2 (fO _) (fO _) h;clear h;have h:=d;clear d;simp only[zT,yB]at h;exact⟨rfl,h⟩
  |_=>simp only[Tm.key,zV,zd,zT]at h;exact absurd h.1 (by decide)
 |.or l,b,x,y,ha,hb,hx,hy,h=>by
  cases b with
  |or m=>
   simp only[Tm.key,zV,zT,yB]at h;obtain⟨rfl,d⟩:=sM l m x y ha hb hx hy h;clear h;have h:=d;clear d;exact⟨rfl,h⟩
  |_=>simp only[Tm.key,zV,zd,zT]at h;exact absurd h.1 (by decide)
 |.and l,b,x,y,ha,hb,hx,hy,h=>by
  cases b with
  |and m=>
   simp only[Tm.key,zV,zT,yB]at h;obtain⟨rfl,d⟩:=sM l m x y ha hb hx hy h;clear h;have h:=d;clear d;exact⟨rfl,h⟩
  |_=>simp only[Tm.key,zV,zd,zT]at h;exact absurd h.1 (by decide)
 |.not t,b,x,y,ha,hb,hx,hy,h=>by
  cases b with
  |not s=>
   simp only[Tm.key,cU,zV,zc,zd,zT,yB]at h;obtain⟨rfl,d⟩:=lk t s _ _ ha hb (fO _) (fO _) h;clear h;have h:=d;clear d;simp only[zT,yB]at h;exact⟨rfl,h⟩
  |_=>simp only[Tm.key,zV,zd,zT]at h;exact absurd h.1 (by decide)
 |.many t m n,b,x,y,ha,hb,hx,hy,h=>by
  cases b with
  |many s m' n'=>
   simp only[Tm.key,cU,zV,zc,zd,zT,yB]at h;obtain⟨rfl,d⟩:=uj ha.2.1 hb.2.1 (λf t e=>notNum (c:=58) (.inr (by decide)) f t _ e) (λf t e=>notNum (c:=58) (.inr (by decide)) f t _ e) h;clear h;have h:=d;clear d;simp only[zT,yB]at h;obtain⟨rfl,d⟩:=uj ha.2.2 hb.2.2 (λf t e=>notNum (c:=40) (.inl (by decide)) f t _ e) (λf t e=>notNum (c:=40) (.inl (by decide)) f t _ e) h;clear h;have h:=d;clear d;simp only[zT,yB]at h;obtain⟨rfl,d⟩:=lk t s _ _ ha.1 hb.1 (fO _) (fO _) h;clear h;have h:=d;clear d;simp only[zT,yB]at h;exact⟨rfl,h⟩
  |_=>simp only[Tm.key,zV,zd,zT]at h;exact absurd h.1 (by decide)
theorem sM:∀(l m:List Tm) (x y:List UInt8),Bh l->Bh m->lO x->lO y->ju l++x=ju m++y->l=m/\x=y
 | [],[],x,y,_,_,_,_,h=>⟨rfl,h⟩
 | [],t::m,x,y,_,_,hx,_,h=>by
  simp only[ju,cU,zd,zV]at h;rcases hx with rfl|⟨s,rfl⟩
  ·cases h
  ·injection h with h1 _;exact absurd h1 (by decide)
 |t::l,[],x,y,_,_,_,hy,h=>by
  simp only[ju,cU,zd,zV]at h;rcases hy with rfl|⟨s,rfl⟩
  ·cases h
  ·injection h with h1 _;exact absurd h1 (by decide)
 |t::l,s::m,x,y,ha,hb,hx,hy,h=>by
  simp only[ju,cU,zV,zc,zd,zT,yB]at h;obtain⟨rfl,a⟩:=lk t s _ _ ha.1 hb.1 (fO _) (fO _) h;clear h;have h:=a;clear a;simp only[zT,yB]at h;obtain⟨rfl,a⟩:=sM l m x y ha.2 hb.2 hx hy h;clear h;have h:=a;clear a;exact⟨rfl,h⟩
end
theorem Vo {a b:Tm}(ha:a.Fit)(hb:b.Fit)(h:a.key=b.key):a=b:=(lk a b [] [] ha hb (.inl rfl) (.inl rfl) (by rw[h])).1
