import Derived.Test.YtebnghmioamheaaGreatDoorM16
import Derived.Test.YtebnghmioamheaaGreatDoorM18
set_option maxHeartbeats 400000
set_option maxRecDepth 100000
set_option linter.all false
namespace Go.Proofs.YtebnghmioamheaaGreatDoor
open Go.RowKit Brm Tryz
variable {r l t q:LZ}{s:ByteArray}{c d m least:Int}{w w' wr w0:World}{b B n X:Nat}{A:NP}{v:Value}{xs:LV}{L:List Pat}{p:Pat}{x:LQ}
def YQ (w:World)(b:Nat)(s:ByteArray)(pos d m:Int):Prop:=ag w b [.string s,Vi pos,Vi d,Vi m] 120
def aP (w:World)(b:Nat)(s:ByteArray)(l r:List Int)(d m:Int):Prop :=
 YQ w b s (aC (l.length-r.length) (af s)) d m/\r <:+ l/\Runes (af s) l/\s.size<=60/\jz w/\7<=b/\0<=d/\d<=((l.length-r.length:Nat):Int)/\0<=m/\m<=((l.length-r.length:Nat):Int)/\d<=m
theorem Sq (h:r <:+ l):l.drop (l.length-r.length)=r:=by
 obtain⟨p,rfl⟩:=h;rw[zH,Nat.add_sub_cancel,List.drop_left]
theorem DJ (hr:Runes (af s) l)(h:r <:+ l):Runes ((af s).drop (aC (l.length-r.length) (af s))) r/\aC (l.length-r.length) (af s)<=s.size:=by
 have:=Brm.runes_drop hr (l.length-r.length) (Nat.sub_le _ _);rw[Sq h,aL]at this;exact this
theorem OU (hr:Runes (af s) l):aC (l.length-([]:LZ).length) (af s)=s.size:=by
 rw[zh,Nat.sub_zero,NQ hr,aL]
theorem qP (hr:Runes (af s) l)(h:(c::t) <:+ l) :
  aC (l.length-(c::t).length) (af s)<s.size/\((aS (af (s.extract (aC (l.length-(c::t).length) (af s)) s.size))).1:Int)=c/\aC (l.length-t.length) (af s)=aC (l.length-(c::t).length) (af s)+(aS (af (s.extract (aC (l.length-(c::t).length) (af s)) s.size))).2:=by
 obtain⟨b,g⟩:=DJ hr h;obtain⟨f,a,j,i⟩:=KP b;have d:=h.length_le;simp only[zG]at d;rw[mN];refine⟨?_,a,?_⟩
 ·rcases Nat.lt_or_ge (aC (l.length-(c::t).length) (af s)) s.size with h|h
  ·exact h
  ·exact absurd (List.drop_eq_nil_iff.2 (by rw[aL];exact h)) f
 ·have e:l.length-t.length=(l.length-(c::t).length)+1:=by simp only[zG];omega
  rw[e,mI]
theorem aP.cells (h:aP w b s l r d m) :
  w.cell? (aD b 0)=some (.string s)/\w.cell? (aD b 1)=some (Vi (aC (l.length-r.length) (af s)))/\w.cell? (aD b 2)=some (Vi d)/\w.cell? (aD b 3)=some (Vi m)/\b<w.heap.size :=
 ⟨h.1.cell 0,h.1.cell 1,h.1.cell 2,h.1.cell 3,h.1.lt⟩
theorem aP.below {w w':World}{b:Nat}{s:ByteArray}{l r:LZ}{d m:Int}(h:aP w b s l r d m)(k:Bw w w'):aP w' b s l r d m :=
 ⟨ag.below h.1 k,h.2.1,h.2.2.1,h.2.2.2.1,h.2.2.2.2.1.below k,h.2.2.2.2.2⟩
def ay (s:List Int):Int:=match s with|[]=>-1|c::_=>c
theorem LH (s:ByteArray)(p:Int)(w:World)(hp:(s.size:Int)<=p):Calls prog 80 #[.string s,Vi p] w λe w'=>e=.returned (.int .i32 (-1))/\Bw w w':=by
 have a:decide ((s.size:Int)<=p)=true:=zv hp;go_enter func80,ntmps80;go_wp2;go_ret;exact⟨rfl,zE _ _⟩
theorem OV (s:ByteArray)(p:Nat)(hT:jz w)(hp:p<s.size):Calls prog 80 #[.string s,Vi p] w λe w'=>e=.returned (.int .i32 (aS (af (s.extract p s.size))).1)/\Bw w w':=by
 have g:decide (s.size<=p)=false:=zI (by omega);have d:=aa hT;have h:(0:Int)<=(p:Int):=zK _;have f:(p:Int)<=(s.size:Int):=by omega
 have a:Hid (1<=(s.extract p s.size).size):=by show _<=_;simp;omega
 go_enter func80,ntmps80;go_wp2_with (go_at_call 77;refine (BQ _ d a).mono ?_;rintro e i ⟨rfl,b⟩;have c:=aa b);go_ret;exact⟨rfl,c⟩
theorem qQ (s:ByteArray)(r:LZ)(hT:jz w)(hr:Runes (af s) l)(h:r <:+ l):Calls prog 80 #[.string s,Vi (aC (l.length-r.length) (af s))] w λe w'=>e=.returned (.int .i32 (ay r))/\Bw w w':=by
 cases r with
 |nil=>
  rw[OU hr];exact LH s _ w (yv _)
 |cons c t=>
  obtain⟨a,b,d⟩:=qP hr h;have:=OV s _ hT a;rw[b]at this;exact this
theorem bD (h:aP w b s l r d m):Calls prog 50 #[Vp b] w λe w'=>e=.returned (.int .i32 (ay r))/\Bw w w':=by
 obtain⟨i,c,k,o,j⟩:=h.cells;have f:=aa (λw' (hw:Bw w w')=>qQ s r (h.below hw).2.2.2.2.1 h.2.2.1 h.2.1);generalize hP:aC (l.length-r.length) (af s)=P at c f;generalize ay r=N at f;go_enter func50,ntmps50;go_wp2_with fail
 go_region_held3 (λw'=>Bw w w'/\w'.cell? (aD b 0)=some (.string s)/\w'.cell? (aD b 1)=some (Vi P))
  (first|exact⟨(zE _ _).drew,i,c⟩|exact⟨by assumption,(Below.cell (by assumption) j).trans i,(Below.cell (by assumption) j).trans c⟩)
  ((first
   |(go_at_call 80;refine (f _ (‹Bw w _/\_›.1)).mono ?_;rintro e n ⟨rfl,a⟩;have g:Bw w n:=(‹Bw w _/\_›.1).trans (a.mono (‹Bw w _/\_›.1).size))))
 go_wp2;go_ret;exact⟨rfl,g⟩
theorem vX (s:ByteArray)(p:Nat):(s.extract p s.size).size=s.size-p:=by simp
theorem aP.stepped (h:aP w b s l (c::t) d m)(q:Int)(hq:q=(aC (l.length-t.length) (af s):Int)):aP (w.setCell (aD b 1) (Vi q)) b s l t d m/\Off b w (w.setCell (aD b 1) (Vi q)):=by
 have a:Off b w (w.setCell (aD b 1) (Vi q)):=(Off.refl _ _).setCell 1 _;have e:=h.2.2.2.2.2;simp only[zG]at e;refine⟨⟨?_,(yS c t).trans h.2.1,h.2.2.1,h.2.2.2.1,h.2.2.2.2.1.off a e.1,by omega⟩,a⟩;subst hq;exact ag.set h.1 1 _
theorem gH (h:aP w b s l (c::t) d m):Calls prog 160 #[Vp b] w λe w'=>e=.returned (.tuple #[])/\aP w' b s l t d m/\Off b w w':=by
 have F:=aa h;obtain⟨u,k,D,H,r⟩:=h.cells;obtain⟨C,G,y⟩:=qP h.2.2.1 h.2.1;have A:=h.2.2.2.1;have f:=fj (bs:=af (s.extract (aC (l.length-(c::t).length) (af s)) s.size)) (by intro e;have:=congrArg List.length e;rw[aL,vX,zh]at this;omega);have o:=aa (λw' (hw:Bw w w')=>BQ (s.extract (aC (l.length-(c::t).length) (af s)) s.size) (h.below hw).2.2.2.2.1 (by rw[vX];omega));have v:=aa (λ(w':World) (hw:Bw w w') (q:Int) hq=>(h.below hw).stepped q hq);have i:=aa y;have z:=f.2.2.1;generalize hP:aC (l.length-(c::t).length) (af s)=P at k o i C z;generalize (aS (af (s.extract P s.size))).2=Z at o i z;generalize (aS (af (s.extract P s.size))).1=R at o;have L:(0:Int)<=(P:Int):=zK _;have K:(P:Int)<=(s.size:Int):=by omega
 go_enter func160,ntmps160;go_wp2_with fail
 go_region_held3 (λw'=>Bw w w'/\w'.cell? (aD b 0)=some (.string s)/\w'.cell? (aD b 1)=some (Vi P))
  (first|exact⟨(zE _ _).drew,u,k⟩|exact⟨by assumption,(Below.cell (by assumption) r).trans u,(Below.cell (by assumption) r).trans k⟩)
  ((first
   |(go_at_call 77;refine (o _ (‹Bw w _/\_›.1)).mono ?_;rintro e n ⟨rfl,j⟩;have a:Bw w n:=(‹Bw w _/\_›.1).trans (j.mono (‹Bw w _/\_›.1).size))))
 have J:=(a.cell (p:=(aD b 1)) r).trans k;have I:b<n.heap.size:=zF r a.size;have B:n.frozen? (aD b 1)=false:=(F.below a).1.frozen 1;have E:=aa a;have g:=aa (v n a ((P:Int)+(Z:Int)) (by rw[i.out];simp));have x:Hid (Off b w n):=Off.below a;go_wp2
 go_end0
 exact⟨rfl,g.1,x.trans g.2⟩
theorem cT (h:aP w b s l (c::t) d m):Calls prog 119 #[Vp b,.int .i32 c] w λe w'=>e=.returned (.bool true)/\aP w' b s l t d m/\Off b w w':=by
 have n:=aa h;go_enter func119,ntmps119;go_wp2_with fail;refine (bD n).mono ?_;rintro e o ⟨rfl,g⟩;have f:=aa g;simp only[ay];go_wp2_with fail;refine (gH (n.below f)).mono ?_;rintro e p ⟨rfl,i,a⟩;have j:=aa i;have k:=aa ((Off.below (b:=b) f).trans a);go_wp2;go_ret;exact⟨rfl,j,k⟩
theorem Rg (h:r.head?≠some c)(hc:0<=c):ay r≠c:=by
 cases r with
 |nil=>simp only[ay];omega
 |cons d t=>simpa [ay]using h
theorem dv (c:Int)(h:aP w b s l r d m)(hc:0<=c)(hn:r.head?≠some c):Calls prog 119 #[Vp b,.int .i32 c] w λe w'=>e=.returned (.bool false)/\Bw w w':=by
 have k:=aa h;have i:(ay r==c)=false:=zD.2 (Rg hn hc);have g:=aa (bD h);generalize ay r=N at g i;go_enter func119,ntmps119;go_wp2_with fail;refine g.mono ?_;rintro e j ⟨rfl,a⟩;have f:=aa a;go_wp2;go_ret;exact⟨rfl,f⟩
def Rn (r:Int):Prop:=r=-1\/runeB r=true
theorem nC (hr:Runes (af s) l)(h:r <:+ l):Rn (ay r):=by
 cases r with
 |nil=>exact .inl rfl
 |cons c t=>exact .inr ((db hr).suf h c (by simp))
theorem Hp:∀x∈af { data:=#[124,38,126,42,43,63,123,125,46,92,91,93,40,41] },x.toNat<128:=by decide
theorem OJ:∀x∈af { data:=#[91,93,92,45,94] },x.toNat<128:=by decide
theorem OK:∀x∈af { data:=#[124,38,126,42,43,63,123,125,46,92,91,93,40,41,45,94] },x.toNat<128:=by decide
def mS (c:Int):Bool:=[124,38,126,42,43,63,123,125,46,92,91,93,40,41,45,94].contains c
theorem Ds (c:Int):el c { data:=#[124,38,126,42,43,63,123,125,46,92,91,93,40,41,45,94] }=mS c:=by
 rw[ze];simp[el,mS];omega
theorem Hq (r:Int)(w:World)(hr:runeB r=true):Calls prog 194 #[.string { data:=#[124,38,126,42,43,63,123,125,46,92,91,93,40,41] },.int .i32 r] w λe w'=>e=.returned (.bool (cI r))/\Bw w w':=by
 have:=oi { data:=#[124,38,126,42,43,63,123,125,46,92,91,93,40,41] } r w (by decide) (by decide) Hp hr;rw[lm]at this;exact this
theorem OL (r:Int)(w:World)(hr:runeB r=true):Calls prog 194 #[.string { data:=#[91,93,92,45,94] },.int .i32 r] w λe w'=>e=.returned (.bool (ej r))/\Bw w w':=by
 have:=oi { data:=#[91,93,92,45,94] } r w (by decide) (by decide) OJ hr;rw[gn]at this;exact this
theorem OM (r:Int)(w:World)(hr:runeB r=true):Calls prog 194 #[.string { data:=#[124,38,126,42,43,63,123,125,46,92,91,93,40,41,45,94] },.int .i32 r] w λe w'=>e=.returned (.bool (mS r))/\Bw w w':=by
 have:=oi { data:=#[124,38,126,42,43,63,123,125,46,92,91,93,40,41,45,94] } r w (by decide) (by decide) OK hr;rw[Ds]at this;exact this
def jQ (r:Int):Bool:=r != -1&&!cI r
def lQ (r:Int):Bool:=r != -1&&!ej r
theorem mU {r:Int}(h:runeB r=true):(r==-1)=false:=by
 have:=(rune_iff r).1 h;exact zD.2 (by omega)
theorem nD {r:Int}(w:World)(hr:Rn r):Calls prog 181 #[.int .i32 r] w λe w'=>e=.returned (.bool (jQ r))/\Bw w w':=by
 rcases hr with rfl|hr
 ·go_enter func181,ntmps181;go_wp2;go_ret;exact⟨rfl,zE _ _⟩
 ·have c:=aa (Hq r w hr);have a:=mU hr;have f:(r=-1)=False:=eq_false (zD.1 a);have g:(r != -1)=true:=by rw[bne,a];rfl
  have d:Hid (jQ r=!cI r):=by show _=_;unfold jQ;rw[bne,a];rfl
  generalize cI r=B at c d;go_enter func181,ntmps181;go_wp2_with fail;refine c.mono ?_;rintro e i ⟨rfl,b⟩;have h:=aa b;go_wp2;go_ret;exact⟨eM d.symm,h⟩
theorem nE {r:Int}(w:World)(hr:Rn r):Calls prog 250 #[.int .i32 r] w λe w'=>e=.returned (.bool (lQ r))/\Bw w w':=by
 rcases hr with rfl|hr
 ·go_enter func250,ntmps250;go_wp2;go_ret;exact⟨rfl,zE _ _⟩
 ·have c:=aa (OL r w hr);have a:=mU hr;have f:(r=-1)=False:=eq_false (zD.1 a);have g:(r != -1)=true:=by rw[bne,a];rfl
  have d:Hid (lQ r=!ej r):=by show _=_;unfold lQ;rw[bne,a];rfl
  generalize ej r=B at c d;go_enter func250,ntmps250;go_wp2_with fail;refine c.mono ?_;rintro e i ⟨rfl,b⟩;have h:=aa b;go_wp2;go_ret;exact⟨eM d.symm,h⟩
theorem qK {r:Int}(w:World)(hr:Rn r):Calls prog 241 #[.int .i32 r] w λe w'=>∃v,e=.returned (.tuple #[.int .i32 v,.bool (cQ r)])/\(cQ r=true->v=bU r)/\Bw w w':=by
 by_cases a:r=110
 ·subst a;go_enter func241,ntmps241;go_wp2;go_ret2;exact⟨_,rfl,λ_=>rfl,zE _ _⟩
 by_cases c:r=116
 ·subst c;go_enter func241,ntmps241;go_wp2;go_ret2;exact⟨_,rfl,λ_=>rfl,zE _ _⟩
 by_cases b:r=114
 ·subst b;go_enter func241,ntmps241;go_wp2;go_ret2;exact⟨_,rfl,λ_=>rfl,zE _ _⟩
 have n:(r==110)=false:=zD.2 a;have o:(r==116)=false:=zD.2 c;have p:(r==114)=false:=zD.2 b;have d:Hid (cQ r=mS r/\bU r=r):=by
  refine⟨?_,?_⟩
  ·rw[ze];simp[cQ,mS];omega
  ·unfold bU;rw[zR a,zR c,zR b]
 rcases hr with rfl|hr
 ·go_enter func241,ntmps241;go_wp2
  go_ret2
  exact⟨_,rfl,λh=>by simp[cQ]at h,zE _ _⟩
 ·have g:=aa (OM r w hr);have i:=mU hr;have j:(r=-1)=False:=eq_false (zD.1 i);have k:(r != -1)=true:=by rw[bne,i];rfl
  rw[d.out.1];generalize mS r=B at g d;go_enter func241,ntmps241;go_wp2_with fail;refine g.mono ?_;rintro e m ⟨rfl,f⟩;have l:=aa f;go_wp2
  go_ret2
  exact⟨_,rfl,λ_=>d.2.symm,l⟩
def eW {α:Type}(b:Nat)(s:ByteArray)(l:List Int)(d m:Int)(R:Res α)(w':World)(e:Ending)(ok:α->Ending->Prop)(bad:Ending->Prop):Prop:=match R with|.ok a r=>aP w' b s l r d m/\ok a e|.bad r=>aP w' b s l r d m/\bad e
def vH (c:Int)(e:Ending):Prop:=e=.returned (.tuple #[.int .i32 c,.bool true])
def pM (e:Ending):Prop:=∃v,e=.returned (.tuple #[.int .i32 v,.bool false])
def gV (least:Int)(r:List Int):Res Int:=if least<=126 then fu least r else .bad (92::r)
theorem Uh (h1:cQ c=true)(h2:least<=bU c):fu least (c::t)=.ok (bU c) t:=by simp[fu,h1,h2]
theorem Na (h2:¬least<=bU c):fu least (c::t)=.bad (c::t):=by simp[fu,h2]
theorem Ui (h1:cQ (ay r)=false):fu least r=.bad r:=by
 cases r with
 |nil=>rfl
 |cons c t=>simp only[ay]at h1;simp[fu,h1]
theorem Uj (least:Int)(h:aP w b s l (92::r) d m)(h1:¬least<=126):Calls prog 231 #[Vp b,.int .i32 least] w λe w'=>Off b w w'/\eW b s l d m (gV least r) w' e vH pM:=by
 have f:decide (126<least)=true:=zv (by omega);have c:Hid (gV least r=.bad (92::r)):=zR h1;have a:=aa h;go_enter func231,ntmps231;go_wp2
 go_ret2
 exact⟨Off.refl _ _,by rw[c.out];exact⟨a,_,rfl⟩⟩
theorem WM (least:Int)(h:aP w b s l (92::c::t) d m)(h1:cQ c=true)(h2:least<=bU c)(h9:least<=126):Calls prog 231 #[Vp b,.int .i32 least] w λe w'=>Off b w w'/\eW b s l d m (gV least (c::t)) w' e vH pM:=by
 have x:decide (126<least)=false:=zI (by omega);have u:Hid (gV least (c::t)=.ok (bU c) t):=(zX h9).trans (Uh h1 h2);have r:decide (bU c<least)=false:=zI (by omega);have p:=aa h1;have n:Hid (Rn c):=.inr ((db h.2.2.1).suf h.2.1 c (by simp));have i:=aa h;have j:Hid (Off b w w):=Off.refl _ _;go_enter func231,ntmps231;go_wp2_with fail;refine (cT i).mono ?_;rintro e o ⟨rfl,f,g⟩;replace i:=aa f;replace j:=aa (j.trans g);go_wp2_with fail;refine (bD i).mono ?_;rintro e o ⟨rfl,a⟩;replace i:=aa (i.below a);replace j:=aa (j.trans (Off.below a));simp only[ay];go_wp2_with fail;refine (qK _ n).mono ?_;rintro e o ⟨v,rfl,q,a⟩;replace i:=aa (i.below a);replace j:=aa (j.trans (Off.below a));rw[p.out];have k:=q p;subst k;go_wp2_with fail;refine (gH i).mono ?_;rintro e o ⟨rfl,f,g⟩;replace i:=aa f;replace j:=aa (j.trans g);go_wp2
 go_ret2
 exact⟨j,by rw[u.out];exact⟨i,rfl⟩⟩
theorem Qn (least:Int)(h:aP w b s l (92::c::t) d m)(h1:cQ c=true)(h2:¬least<=bU c)(h9:least<=126):Calls prog 231 #[Vp b,.int .i32 least] w λe w'=>Off b w w'/\eW b s l d m (gV least (c::t)) w' e vH pM:=by
 have x:decide (126<least)=false:=zI (by omega);have u:Hid (gV least (c::t)=.bad (c::t)):=(zX h9).trans (Na h2);have r:decide (bU c<least)=true:=zv (by omega);have o:=aa h1;have n:Hid (Rn c):=.inr ((db h.2.2.1).suf h.2.1 c (by simp));have f:=aa h;have g:Hid (Off b w w):=Off.refl _ _;go_enter func231,ntmps231;go_wp2_with fail;refine (cT f).mono ?_;rintro e q ⟨rfl,i,j⟩;replace f:=aa i;replace g:=aa (g.trans j);go_wp2_with fail;refine (bD f).mono ?_;rintro e q ⟨rfl,a⟩;replace f:=aa (f.below a);replace g:=aa (g.trans (Off.below a));simp only[ay];go_wp2_with fail;refine (qK _ n).mono ?_;rintro e q ⟨v,rfl,p,a⟩;replace f:=aa (f.below a);replace g:=aa (g.trans (Off.below a));rw[o.out];have k:=p o;subst k;go_wp2
 go_ret2
 exact⟨g,by rw[u.out];exact⟨f,_,rfl⟩⟩
theorem Qo (least:Int)(h:aP w b s l (92::r) d m)(h1:cQ (ay r)=false)(h9:least<=126):Calls prog 231 #[Vp b,.int .i32 least] w λe w'=>Off b w w'/\eW b s l d m (gV least r) w' e vH pM:=by
 have q:decide (126<least)=false:=zI (by omega);have p:Hid (gV least r=.bad r):=(zX h9).trans (Ui h1);have k:=aa h1;have i:Hid (Rn (ay r)):=nC h.2.2.1 ((yS 92 r).trans h.2.1);have c:=aa h;have f:Hid (Off b w w):=Off.refl _ _;go_enter func231,ntmps231;go_wp2_with fail;refine (cT c).mono ?_;rintro e n ⟨rfl,g,j⟩;replace c:=aa g;replace f:=aa (f.trans j);go_wp2_with fail;refine (bD c).mono ?_;rintro e n ⟨rfl,a⟩;replace c:=aa (c.below a);replace f:=aa (f.trans (Off.below a));generalize ay r=N at i k;go_wp2_with fail;refine (qK _ i).mono ?_;rintro e n ⟨v,rfl,o,a⟩;replace c:=aa (c.below a);replace f:=aa (f.trans (Off.below a));rw[k.out];go_wp2
 go_ret2
 exact⟨f,by rw[p.out];exact⟨c,_,rfl⟩⟩
theorem CX (b:Nat)(s:ByteArray)(l:LZ)(d m:Int)(w:World)(r:LZ)(least:Int)(h:aP w b s l (92::r) d m):Calls prog 231 #[Vp b,.int .i32 least] w λe w'=>Off b w w'/\eW b s l d m (gV least r) w' e vH pM:=by
 by_cases a:least<=126
 ·cases h1:cQ (ay r)with
  |false=>exact Qo least h h1 a
  |true=>
   cases r with
   |nil=>simp[ay,cQ]at h1
   |cons c t=>
    simp only[ay]at h1;by_cases f:least<=bU c
    ·exact WM least h h1 f a
    ·exact Qn least h h1 f a
 ·exact Uj least h a
theorem IQ (least:Int)(h:aP w b s l (92::r) d m):Calls prog 242 #[Vp b,.int .i32 least] w λe w'=>Off b w w'/\eW b s l d m (bM least (92::r)) w' e vH pM:=by
 have o:Hid (bM least (92::r)=gV least r):=by show _=_;simp only[bM,gV];rfl
 have n:=aa h;have j:Hid (Off b w w):=Off.refl _ _;go_enter func242,ntmps242;go_wp2_with fail;refine (bD n).mono ?_;rintro e t ⟨rfl,g⟩;replace n:=aa (n.below g);replace j:=aa (j.trans (Off.below g));simp only[ay];go_wp2_with fail;refine (CX b s l d m _ r least n).mono ?_;rintro e p ⟨k,i⟩;replace j:=aa (j.trans k);generalize gV least r=RR at o i;cases RR with
 |ok a q=>
  obtain⟨c,rfl⟩:=i;have f:=aa c;go_wp2
  go_ret2
  exact⟨j,by rw[o.out];exact⟨f,rfl⟩⟩
 |bad q=>
  obtain⟨c,v,rfl⟩:=i;have f:=aa c;go_wp2
  go_ret2
  exact⟨j,by rw[o.out];exact⟨f,_,rfl⟩⟩
theorem Qp (least:Int)(h:aP w b s l r d m)(h92:ay r≠92)(h1:lQ (ay r)=false):Calls prog 242 #[Vp b,.int .i32 least] w λe w'=>Off b w w'/\eW b s l d m (bM least r) w' e vH pM:=by
 have n:Hid (bM least r=.bad r):=by
  show _=_
  cases r with
  |nil=>rfl
  |cons c t=>
   have o:=mU ((db h.2.2.1).suf h.2.1 c (by simp));simp only[ay]at h92 h1;have:ej c=true:=by simpa [lQ,bne,o]using h1
   simp[bM,h92,this]
 have j:=aa h1;have k:(ay r==92)=false:=zD.2 h92;have i:Hid (Rn (ay r)):=nC h.2.2.1 h.2.1;have f:=aa h;have g:Hid (Off b w w):=Off.refl _ _;go_enter func242,ntmps242;go_wp2_with fail;refine (bD f).mono ?_;rintro e p ⟨rfl,a⟩;replace f:=aa (f.below a);replace g:=aa (g.trans (Off.below a));generalize ay r=N at i j k;go_wp2_with fail;refine (nE _ i).mono ?_;rintro e p ⟨rfl,a⟩;rw[j.out];replace f:=aa (f.below a);replace g:=aa (g.trans (Off.below a));go_wp2
 go_ret2
 exact⟨g,by rw[n.out];exact⟨f,_,rfl⟩⟩
theorem IR (least:Int)(h:aP w b s l (c::t) d m)(h92:c≠92)(h1:lQ c=true)(h2:¬least<=c):Calls prog 242 #[Vp b,.int .i32 least] w λe w'=>Off b w w'/\eW b s l d m (bM least (c::t)) w' e vH pM:=by
 have k:Hid (bM least (c::t)=.bad (c::t)):=by show _=_;simp[bM,h92,h2]
 have o:=aa h1;have p:(c==92)=false:=zD.2 h92;have j:decide (c<least)=true:=zv (by omega);have i:Hid (Rn c):=.inr ((db h.2.2.1).suf h.2.1 c (by simp));have f:=aa h;have g:Hid (Off b w w):=Off.refl _ _;go_enter func242,ntmps242;go_wp2_with fail;refine (bD f).mono ?_;rintro e n ⟨rfl,a⟩;replace f:=aa (f.below a);replace g:=aa (g.trans (Off.below a));simp only[ay];go_wp2_with fail;refine (nE _ i).mono ?_;rintro e n ⟨rfl,a⟩;rw[o.out];replace f:=aa (f.below a);replace g:=aa (g.trans (Off.below a));go_wp2
 go_ret2
 exact⟨g,by rw[k.out];exact⟨f,_,rfl⟩⟩
theorem Qq (least:Int)(h:aP w b s l (c::t) d m)(h92:c≠92)(h1:lQ c=true)(h2:least<=c):Calls prog 242 #[Vp b,.int .i32 least] w λe w'=>Off b w w'/\eW b s l d m (bM least (c::t)) w' e vH pM:=by
 have p:Hid (bM least (c::t)=.ok c t):=by
  show _=_
  have:ej c=false:=by simp[lQ]at h1;exact h1.2
  simp[bM,h92,h2,this]
 have q:=aa h1;have r:(c==92)=false:=zD.2 h92;have o:decide (c<least)=false:=zI (by omega);have k:Hid (Rn c):=.inr ((db h.2.2.1).suf h.2.1 c (by simp));have f:=aa h;have g:Hid (Off b w w):=Off.refl _ _;go_enter func242,ntmps242;go_wp2_with fail;refine (bD f).mono ?_;rintro e n ⟨rfl,a⟩;replace f:=aa (f.below a);replace g:=aa (g.trans (Off.below a));simp only[ay];go_wp2_with fail;refine (nE _ k).mono ?_;rintro e n ⟨rfl,a⟩;rw[q.out];replace f:=aa (f.below a);replace g:=aa (g.trans (Off.below a));go_wp2_with fail;refine (gH f).mono ?_;rintro e n ⟨rfl,i,j⟩;replace f:=aa i;replace g:=aa (g.trans j);go_wp2
 go_ret2
 exact⟨g,by rw[p.out];exact⟨f,rfl⟩⟩
theorem vI (least:Int)(h:aP w b s l r d m):Calls prog 242 #[Vp b,.int .i32 least] w λe w'=>Off b w w'/\eW b s l d m (bM least r) w' e vH pM:=by
 by_cases a:ay r=92
 ·cases r with
  |nil=>simp[ay]at a
  |cons c t=>simp only[ay]at a;subst a;exact IQ least h
 ·cases h1:lQ (ay r)with
  |false=>exact Qp least h a h1
  |true=>
   cases r with
   |nil=>simp[ay,lQ]at h1
   |cons c t=>
    simp only[ay]at a h1;by_cases f:least<=c
    ·exact Qq least h a h1 f
    ·exact IR least h a h1 f
set_option linter.unusedSimpArgs false
set_option maxHeartbeats 1000000
def UG (n:Int)(e:Ending):Prop:=e=.returned (.tuple #[Vi n,.bool true])
def Ml (e:Ending):Prop:=∃v,e=.returned (.tuple #[Vi v,.bool false])
def YT (x:Int×Int)(e:Ending):Prop:=e=.returned (.tuple #[Vi x.1,Vi x.2,.bool true])
def XP (e:Ending):Prop:=∃v u,e=.returned (.tuple #[Vi v,Vi u,.bool false])
theorem FD (hr:Runes (af s) l)(h:r <:+ l):-1<=ay r/\ay r<=1114111:=by
 rcases nC hr h with h|h
 ·omega
 ·have:=(rune_iff _).1 h;omega
theorem SX (least:Int)(h:aP w b s l (c::t) d m)(h1:48+least<=c)(h2:c<=53)(g0:0<=least)(g1:least<=5):Calls prog 246 #[Vp b,Vi least] w λe w'=>Off b w w'/\eW b s l d m (ct least (c::t)) w' e UG Ml:=by
 have k:Hid (ct least (c::t)=.ok (c-48) t):=by show _=_;simp only[ct];rw[zX ⟨h1,h2⟩]
 have p:decide (c-48<least)=false:=zI (by omega);have o:decide (5<c-48)=false:=zI (by omega);have f:=aa h;have i:Hid (Off b w w):=Off.refl _ _;go_enter func246,ntmps246;go_wp2_with fail;refine (bD f).mono ?_;rintro e n ⟨rfl,a⟩;replace f:=aa (f.below a);replace i:=aa (i.trans (Off.below a));simp only[ay];go_wp2_with fail;refine (gH f).mono ?_;rintro e n ⟨rfl,j,g⟩;replace f:=aa j;replace i:=aa (i.trans g);go_wp2
 go_ret2
 exact⟨i,by rw[k.out];exact⟨f,rfl⟩⟩
theorem Pw (least:Int)(h:aP w b s l r d m)(h1:¬48+least<=ay r):Calls prog 246 #[Vp b,Vi least] w λe w'=>Off b w w'/\eW b s l d m (ct least r) w' e UG Ml:=by
 have k:Hid (ct least r=.bad r):=by
  show _=_
  cases r with
  |nil=>rfl
  |cons c t=>simp only[ay]at h1;simp only[ct];rw[zR (λp=>h1 p.1)]
 have f:=FD h.2.2.1 h.2.1;have g:=aa h;have i:Hid (Off b w w):=Off.refl _ _;go_enter func246,ntmps246;go_wp2_with fail;refine (bD g).mono ?_;rintro e q ⟨rfl,a⟩;replace g:=aa (g.below a);replace i:=aa (i.trans (Off.below a));generalize ay r=N at h1 f;obtain⟨n,j⟩:=f;have o:decide (N-48<least)=true:=zv (by omega);go_wp2
 go_ret2
 exact⟨i,by rw[k.out];exact⟨g,_,rfl⟩⟩
theorem Mm (least:Int)(h:aP w b s l r d m)(h1:48+least<=ay r)(h2:¬ay r<=53):Calls prog 246 #[Vp b,Vi least] w λe w'=>Off b w w'/\eW b s l d m (ct least r) w' e UG Ml:=by
 have k:Hid (ct least r=.bad r):=by
  show _=_
  cases r with
  |nil=>rfl
  |cons c t=>simp only[ay]at h2;simp only[ct];rw[zR (λp=>h2 p.2)]
 have f:=FD h.2.2.1 h.2.1;have g:=aa h;have i:Hid (Off b w w):=Off.refl _ _;go_enter func246,ntmps246;go_wp2_with fail;refine (bD g).mono ?_;rintro e u ⟨rfl,a⟩;replace g:=aa (g.below a);replace i:=aa (i.trans (Off.below a));generalize ay r=N at h1 h2 f;obtain⟨n,j⟩:=f;have o:decide (N-48<least)=false:=zI (by omega);have q:decide (5<N-48)=true:=zv (by omega);go_wp2
 go_ret2
 exact⟨i,by rw[k.out];exact⟨g,_,rfl⟩⟩
theorem Aq (least:Int)(h:aP w b s l r d m)(g0:0<=least)(g1:least<=5):Calls prog 246 #[Vp b,Vi least] w λe w'=>Off b w w'/\eW b s l d m (ct least r) w' e UG Ml:=by
 by_cases a:48+least<=ay r
 ·by_cases f:ay r<=53
  ·cases r with
   |nil=>simp[ay]at a;omega
   |cons c t=>exact SX least h a f g0 g1
  ·exact Mm least h a f
 ·exact Pw least h a
theorem Px {n:Int}(h:ct least r=.ok n q):least<=n/\n<=5/\q <:+ r:=by
 cases r with
 |nil=>simp[ct]at h
 |cons c t=>
  simp only[ct]at h
  split at h
  ·rename_i hh
   cases h;exact⟨by omega,by omega,yS _ _⟩
  ·cases h
theorem Mn (h:aP w b s l (123::r) d m):Calls prog 234 #[Vp b] w λe w'=>Off b w w'/\eW b s l d m (bh r) w' e YT XP:=by
 have k:=aa h;have o:Hid (Off b w w):=Off.refl _ _;go_enter func234,ntmps234;go_wp2_with fail;refine (cT k).mono ?_;rintro e B ⟨rfl,i,j⟩;replace k:=aa i;replace o:=aa (o.trans j);go_wp2_with fail;refine (Aq 0 k (by decide) (by decide)).mono ?_;rintro e B ⟨j,p⟩;replace o:=aa (o.trans j);cases A:ct 0 r with
 |bad q=>
  rw[A]at p;obtain⟨i,v,rfl⟩:=p;replace k:=aa i;replace A:=aa A;go_wp2;refine zN (v:=.tuple #[Vi 0,Vi 0,.bool false]) (by simp[results,results234,go_sem]) rfl ?_;exact⟨o,by rw[show bh r=.bad q by simp[bh,Res.bind,bV,A.out]];exact⟨k,_,_,rfl⟩⟩
 |ok x q=>
  rw[A]at p;obtain⟨i,rfl⟩:=p;replace k:=aa i;obtain⟨D,C,_⟩:=Px A;replace A:=aa A;by_cases a:q.head?=some 125
  ·obtain⟨t,rfl⟩:∃t,q=125::t:=⟨_,eZ a⟩;go_wp2_with fail;refine (cT k).mono ?_;rintro e B ⟨rfl,i,j⟩;replace k:=aa i;replace o:=aa (o.trans j);go_wp2;refine zN (v:=.tuple #[Vi x,Vi x,.bool true]) (by simp[results,results234,go_sem]) rfl ?_;exact⟨o,by rw[show bh r=.ok (x,x) t by simp[bh,Res.bind,bV,A.out]];exact⟨k,rfl⟩⟩
  ·replace a:=aa a;go_wp2_with fail;refine (dv _ k (by decide) a).mono ?_;rintro e B ⟨rfl,n⟩;replace k:=aa (k.below n);replace o:=aa (o.trans (Off.below n));by_cases c:q.head?=some 44
   ·obtain⟨t,rfl⟩:∃t,q=44::t:=⟨_,eZ c⟩;go_wp2_with fail;refine (cT k).mono ?_;rintro e B ⟨rfl,i,j⟩;replace k:=aa i;replace o:=aa (o.trans j);by_cases f:t.head?=some 125
    ·obtain⟨u,rfl⟩:∃u,t=125::u:=⟨_,eZ f⟩;go_wp2_with fail;refine (cT k).mono ?_;rintro e B ⟨rfl,i,j⟩;replace k:=aa i;replace o:=aa (o.trans j);go_wp2;refine zN (v:=.tuple #[Vi x,Vi (-1),.bool true]) (by simp[results,results234,go_sem]) rfl ?_;exact⟨o,by rw[show bh r=.ok (x,-1) u by simp[bh,Res.bind,bV,A.out]];exact⟨k,rfl⟩⟩
    ·replace f:=aa f;go_wp2_with fail;refine (dv _ k (by decide) f).mono ?_;rintro e B ⟨rfl,n⟩;replace k:=aa (k.below n);replace o:=aa (o.trans (Off.below n));go_wp2_with fail;refine (Aq x k D C).mono ?_;rintro e B ⟨j,p⟩;replace o:=aa (o.trans j);cases z:ct x t with
     |bad q2=>
      rw[z]at p;obtain⟨i,v,rfl⟩:=p;replace k:=aa i;replace z:=aa z;go_wp2;refine zN (v:=.tuple #[Vi x,Vi v,.bool false]) (by simp[results,results234,go_sem]) rfl ?_;exact⟨o,by rw[show bh r=.bad q2 by simp[bh,Res.bind,bV,A.out,z.out,f.out]];exact⟨k,_,_,rfl⟩⟩
     |ok y q2=>
      rw[z]at p;obtain⟨i,rfl⟩:=p;replace k:=aa i;replace z:=aa z;by_cases g:q2.head?=some 125
      ·obtain⟨u,rfl⟩:∃u,q2=125::u:=⟨_,eZ g⟩;go_wp2_with fail;refine (cT k).mono ?_;rintro e B ⟨rfl,i,j⟩;replace k:=aa i;replace o:=aa (o.trans j);go_wp2;refine zN (v:=.tuple #[Vi x,Vi y,.bool true]) (by simp[results,results234,go_sem]) rfl ?_;exact⟨o,by rw[show bh r=.ok (x,y) u by simp[bh,Res.bind,bV,A.out,z.out,f.out]];exact⟨k,rfl⟩⟩
      ·replace g:=aa g;go_wp2_with fail;refine (dv _ k (by decide) g).mono ?_;rintro e B ⟨rfl,n⟩;replace k:=aa (k.below n);replace o:=aa (o.trans (Off.below n));go_wp2;refine zN (v:=.tuple #[Vi x,Vi y,.bool false]) (by simp[results,results234,go_sem]) rfl ?_;exact⟨o,by rw[show bh r=.bad q2 by simp[bh,Res.bind,bV,A.out,z.out,f.out,g.out]];exact⟨k,_,_,rfl⟩⟩
   ·replace c:=aa c;go_wp2_with fail;refine (dv _ k (by decide) c).mono ?_;rintro e B ⟨rfl,n⟩;replace k:=aa (k.below n);replace o:=aa (o.trans (Off.below n));go_wp2;refine zN (v:=.tuple #[Vi 0,Vi 0,.bool false]) (by simp[results,results234,go_sem]) rfl ?_;exact⟨o,by rw[show bh r=.bad q by simp[bh,Res.bind,bV,A.out,a.out,c.out]];exact⟨k,_,_,rfl⟩⟩
theorem Py (h:aP w b s l r d m)(ht:df da r=true):Calls prog 217 #[Vp b] w λe w'=>Off b w w'/\eW b s l d m (dn r) w' e YT XP:=by
 cases r with
 |nil=>simp[df]at ht
 |cons c t=>
  have x:c=42\/c=43\/c=63\/c=123:=by simpa [df,da]using ht
  have g:=aa h;have i:Hid (Off b w w):=Off.refl _ _;go_enter func217,ntmps217;rcases x with rfl|x
  ·go_wp2_with fail;refine (cT g).mono ?_;rintro e y ⟨rfl,j,k⟩;replace g:=aa j;replace i:=aa (i.trans k);go_wp2;refine zN (v:=.tuple #[Vi 0,Vi (-1),.bool true]) (by simp[results,results217,go_sem]) rfl ?_;exact⟨i,g,rfl⟩
  ·go_wp2_with fail;refine (dv _ g (by decide) (by simp;omega)).mono ?_;rintro e y ⟨rfl,f⟩;replace g:=aa (g.below f);replace i:=aa (i.trans (Off.below f));rcases x with rfl|x
   ·go_wp2_with fail;refine (cT g).mono ?_;rintro e y ⟨rfl,j,k⟩;replace g:=aa j;replace i:=aa (i.trans k);go_wp2;refine zN (v:=.tuple #[Vi 1,Vi (-1),.bool true]) (by simp[results,results217,go_sem]) rfl ?_;exact⟨i,g,rfl⟩
   ·go_wp2_with fail;refine (dv _ g (by decide) (by simp;omega)).mono ?_;rintro e y ⟨rfl,f⟩;replace g:=aa (g.below f);replace i:=aa (i.trans (Off.below f));rcases x with rfl|rfl
    ·go_wp2_with fail;refine (cT g).mono ?_;rintro e y ⟨rfl,j,k⟩;replace g:=aa j;replace i:=aa (i.trans k);go_wp2;refine zN (v:=.tuple #[Vi 0,Vi 1,.bool true]) (by simp[results,results217,go_sem]) rfl ?_;exact⟨i,g,rfl⟩
    ·go_wp2_with fail;refine (dv _ g (by decide) (by simp)).mono ?_;rintro e y ⟨rfl,f⟩;replace g:=aa (g.below f);replace i:=aa (i.trans (Off.below f));go_wp2_with fail;refine (Mn g).mono ?_;rintro e A ⟨z,p⟩;replace i:=aa (i.trans z);generalize o:bh t=RR at p;replace o:=aa o;cases RR with
     |ok a q=>
      obtain⟨n,rfl⟩:=p;replace n:=aa n;go_wp2;refine zN (v:=.tuple #[Vi a.1,Vi a.2,.bool true]) (by simp[results,results217,go_sem]) rfl ?_;exact⟨i,by rw[show dn (123::t)=_ from o.out];exact⟨n,rfl⟩⟩
     |bad q=>
      obtain⟨n,v,u,rfl⟩:=p;replace n:=aa n;go_wp2;refine zN (v:=.tuple #[Vi v,Vi u,.bool false]) (by simp[results,results217,go_sem]) rfl ?_;exact⟨i,by rw[show dn (123::t)=_ from o.out];exact⟨n,_,_,rfl⟩⟩
abbrev dp (w:World):Nat->Prop:=λk=>w.heap.size<=k
theorem SY {ao:OA}{l:LQ}(cap:Nat)(hr:Rd w ao l)(hlen:l.length<=1000000)(hok:∀x∈l,okB x=true):Calls prog 233 #[.slice ao l.length cap] w λe w'=>∃v,e=.returned v/\dL w' (dp w) v (form l)/\Bw w w':=by
 refine (CV ao l cap w hr hlen hok).mono ?_;rintro e w' ⟨v,rfl,c,⟨a,g⟩,f,b⟩;have:=jC hok a;subst this;exact⟨v,rfl,sm f (λk d=>d),b⟩
theorem nS {ao:OA}{l:LQ}(cap:Nat)(hr:Rd w ao l)(hlen:l.length<=1000000)(hok:∀x∈l,okB x=true):Calls prog 229 #[.slice ao l.length cap] w λe w'=>∃v,e=.returned v/\dL w' (dp w) v (dT (form l))/\Bw w w':=by
 refine (VP CV cap hr hlen hok).mono ?_;rintro e w' ⟨v,rfl,d,⟨b,h,i⟩,g,c⟩;have a:=gm hok;have:=ve a.1 b (λr hr=>by rw[h r hr,a.2 r hr]);subst this;exact⟨v,rfl,sm g (λk f=>f),c⟩
theorem qg (w:World)(l:LQ):dL (w.alloc (.cells (aE l).toArray 92)) (dp w) (Vs w.heap.size l.length l.length) l :=
 .inr ⟨_,0,l.length,rfl,zA _,zA _,by simp,xp w l⟩
theorem rk (c:Int)(w:World)(h0:0<=c)(h1:c<=1114111):Calls prog 216 #[.int .i32 c] w λe w'=>∃v,e=.returned v/\dL w' (dp w) v [(c,c)]/\Bw w w':=by
 have a:=aa (qg w [(c,c)]);have b:=aa ((zE w.heap.size w).alloc (zA _) (.cells (aE [(c,c)]).toArray 92));go_enter func216,ntmps216;go_wp2;go_ret;exact⟨_,rfl,a,b⟩
theorem SZ (w:World):Calls prog 212 #[] w λe w'=>∃v,e=.returned v/\dL w' (dp w) v tm/\Bw w w':=by
 have g:Hid (∀x∈[((10:Int),(10:Int))],okB x=true):=by show ∀x∈_,_;decide
 go_enter func212,ntmps212;go_wp2_with fail;refine (rk 10 w (by decide) (by decide)).mono ?_;rintro e m ⟨s,rfl,h,b⟩;obtain⟨l,f,rfl,i,_⟩:=h.sl.rd;have o:=aa i;have a:=aa b;go_wp2_with fail;refine (nS f o (by decide) g).mono ?_;rintro e r ⟨q,rfl,j,c⟩;have p:=aa (dL.mono j (A':=dp w) (λk _ n=>zJ a.size n));have d:=aa (a.trans (c.mono a.size));go_wp2;go_ret;refine⟨_,rfl,?_,d⟩;have e:tm=dT (form [(10,10)]):=by rw[jf (mo (by decide))];rfl
 rw[e];exact p
def DL (c:Int):Int:=if c=68 then 100 else if c=87 then 119 else 115
theorem tB (c:Int)(w:World)(hc:c=68\/c=87\/c=83):Calls prog 249 #[.int .i32 c] w λe w'=>e=.returned (.int .i32 (DL c))/\w'=w:=by
 rcases hc with rfl|rfl|rfl <;>
 ·go_enter func249,ntmps249;go_wp2;go_ret;exact⟨rfl,rfl⟩
def tC (w0:World)(w':World)(x:List (Int×Int))(e:Ending):Prop:=∃v,e=.returned (.tuple #[v,.bool true])/\dL w' (dp w0) v x
def wN (e:Ending):Prop:=e=.returned (.tuple #[Vz,.bool false])
-- GENERATED
theorem FE (w:World):Calls prog 240 #[.int .i32 100] w λe w'=>tC w w' jI e/\Bw w w':=by
 have a:=aa (qg w jI);have b:=aa ((zE w.heap.size w).alloc (zA _) (.cells (aE jI).toArray 92));go_enter func240,ntmps240;go_wp2
 go_ret2
 exact⟨⟨_,rfl,a⟩,b⟩
theorem FF (w:World):Calls prog 240 #[.int .i32 119] w λe w'=>tC w w' jT e/\Bw w w':=by
 have a:=aa (qg w jT);have b:=aa ((zE w.heap.size w).alloc (zA _) (.cells (aE jT).toArray 92));go_enter func240,ntmps240;go_wp2
 go_ret2
 exact⟨⟨_,rfl,a⟩,b⟩
theorem FG (w:World):Calls prog 240 #[.int .i32 115] w λe w'=>tC w w' jJ e/\Bw w w':=by
 have a:=aa (qg w jJ);have b:=aa ((zE w.heap.size w).alloc (zA _) (.cells (aE jJ).toArray 92));go_enter func240,ntmps240;go_wp2
 go_ret2
 exact⟨⟨_,rfl,a⟩,b⟩
theorem Ta (w:World):Calls prog 240 #[.int .i32 68] w λe w'=>tC w w' (dT jI) e/\Bw w w':=by
 have n:=aa (tB 68 w (by decide));go_enter func240,ntmps240;go_wp2_with fail;refine n.mono ?_;rintro e t ⟨rfl,d⟩;have i:=d.symm;subst i;rw[show DL 68=100 from rfl];go_wp2_with fail;refine (FE w).mono ?_;rintro e q ⟨⟨v,rfl,j⟩,b⟩;obtain⟨o,f,rfl,l,_⟩:=j.sl.rd;have r:=aa l;have a:=aa b;go_wp2_with fail;refine (nS f r (by decide) (gJ kM)).mono ?_;rintro e u ⟨s,rfl,g,c⟩;rw[jf kM]at g;have m:=aa (dL.mono g (A':=dp w) (λk _ p=>zJ a.size p));have h:=aa (a.trans (c.mono a.size));go_wp2
 go_ret2
 exact⟨⟨_,rfl,m⟩,h⟩
theorem Tc (w:World):Calls prog 240 #[.int .i32 87] w λe w'=>tC w w' (dT jT) e/\Bw w w':=by
 have n:=aa (tB 87 w (by decide));go_enter func240,ntmps240;go_wp2_with fail;refine n.mono ?_;rintro e t ⟨rfl,d⟩;have i:=d.symm;subst i;rw[show DL 87=119 from rfl];go_wp2_with fail;refine (FF w).mono ?_;rintro e q ⟨⟨v,rfl,j⟩,b⟩;obtain⟨o,f,rfl,l,_⟩:=j.sl.rd;have r:=aa l;have a:=aa b;go_wp2_with fail;refine (nS f r (by decide) (gJ lU)).mono ?_;rintro e u ⟨s,rfl,g,c⟩;rw[jf lU]at g;have m:=aa (dL.mono g (A':=dp w) (λk _ p=>zJ a.size p));have h:=aa (a.trans (c.mono a.size));go_wp2
 go_ret2
 exact⟨⟨_,rfl,m⟩,h⟩
theorem Td (w:World):Calls prog 240 #[.int .i32 83] w λe w'=>tC w w' (dT jJ) e/\Bw w w':=by
 have n:=aa (tB 83 w (by decide));go_enter func240,ntmps240;go_wp2_with fail;refine n.mono ?_;rintro e t ⟨rfl,d⟩;have i:=d.symm;subst i;rw[show DL 83=115 from rfl];go_wp2_with fail;refine (FG w).mono ?_;rintro e q ⟨⟨v,rfl,j⟩,b⟩;obtain⟨o,f,rfl,l,_⟩:=j.sl.rd;have r:=aa l;have a:=aa b;go_wp2_with fail;refine (nS f r (by decide) (gJ kN)).mono ?_;rintro e u ⟨s,rfl,g,c⟩;rw[jf kN]at g;have m:=aa (dL.mono g (A':=dp w) (λk _ p=>zJ a.size p));have h:=aa (a.trans (c.mono a.size));go_wp2
 go_ret2
 exact⟨⟨_,rfl,m⟩,h⟩
theorem PB (c:Int)(w:World)(h:cF c=false):Calls prog 240 #[.int .i32 c] w λe w'=>wN e/\w'=w:=by
 have a:¬(c=100\/c=119\/c=115\/c=68\/c=87\/c=83):=by
  intro b;have:cF c=true:=by simpa [cF]using b
  rw[h]at this;cases this
 have f:(c==100)=false:=zD.2 (by omega);have d:(c==119)=false:=zD.2 (by omega);have k:(c==115)=false:=zD.2 (by omega);have i:(c==68)=false:=zD.2 (by omega);have g:(c==87)=false:=zD.2 (by omega);have j:(c==83)=false:=zD.2 (by omega);go_enter func240,ntmps240;go_wp2
 go_ret2
 exact⟨rfl,rfl⟩
theorem Mq (c:Int)(w:World)(h:cF c=true):Calls prog 240 #[.int .i32 c] w λe w'=>tC w w' (eF c) e/\Bw w w':=by
 rcases io h with rfl|rfl|rfl|rfl|rfl|rfl
 ·exact FE w
 ·exact FF w
 ·exact FG w
 ·exact Ta w
 ·exact Tc w
 ·exact Td w
theorem tM (hr:Runes (af s) l)(h:(c::t) <:+ l)(hc:c<128):aC (l.length-t.length) (af s)=aC (l.length-(c::t).length) (af s)+1:=by
 obtain⟨b,d,a⟩:=qP hr h;rw[a];have:=KO (bs:=af (s.extract (aC (l.length-(c::t).length) (af s)) s.size)) (by omega);rw[this.2]
theorem MG (h:aP w b s l r d m)(h1:ay r≠92):Calls prog 230 #[Vp b] w λe w'=>wN e/\Bw w w':=by
 have f:=aa (bD h);have g:(ay r==92)=false:=zD.2 h1;generalize ay r=N at f g;go_enter func230,ntmps230;go_wp2_with fail;refine f.mono ?_;rintro e i ⟨rfl,a⟩;have c:=aa a;go_wp2
 go_ret2
 exact⟨rfl,c⟩
theorem IH (h:aP w b s l (92::r) d m)(h1:cF (ay r)=false):Calls prog 230 #[Vp b] w λe w'=>wN e/\Bw w w':=by
 have D:=aa (bD h);obtain⟨B,x,E,F,C⟩:=h.cells;have i:r <:+ l:=(yS 92 r).trans h.2.1;have j:=tM h.2.2.1 h.2.1 (by decide);have a:=aa (λw' (hw:Bw w w')=>qQ s r (h.below hw).2.2.2.2.1 h.2.2.1 i);rw[j]at a;have u:=(DJ h.2.2.1 i).2;have H:=h.2.2.2.1;rw[j]at u;have J:=aa h;generalize aC (l.length-(92::r).length) (af s)=P at x a u;have v:=aa (λw=>PB (ay r) w h1);generalize ay r=N at a v;have g:((P+1:Nat):Int)=(P:Int)+1:=by omega
 rw[g]at a;have L:(0:Int)<=(P:Int):=zK _;have I:(P:Int)<=60:=by omega
 have y:IntKind.i64.wrap ((P:Int)+1)=(P:Int)+1:=by simp[IntKind.wrap,IntKind.bits,IntKind.signed];omega
 go_enter func230,ntmps230;go_wp2_with fail;refine D.mono ?_;rintro e c ⟨rfl,f⟩;have t:=aa f;have q:b<c.heap.size:=zF C f.size;rw[<-f.cell (p:=⟨b,_,none⟩) C]at B x;replace a:=aa (λw' (hw:Bw c w')=>a w' (f.trans (hw.mono f.size)));simp only[ay];go_wp2_with fail
 go_region_held3 (λw'=>Bw c w'/\w'.cell? (aD b 0)=some (.string s)/\w'.cell? (aD b 1)=some (Vi P))
  (first|exact⟨(zE _ _).drew,B,x⟩|exact⟨by assumption,(Below.cell (by assumption) q).trans B,(Below.cell (by assumption) q).trans x⟩)
  ((first
   |(go_at_call 80;refine (a _ (‹Bw c _/\_›.1)).mono ?_;rintro e G ⟨rfl,k⟩;have A:Bw c G:=(‹Bw c _/\_›.1).trans (k.mono (‹Bw c _/\_›.1).size))
   |(go_at_call 240;refine (v _).mono ?_;rintro e K ⟨rfl,o⟩;have n:=o.symm;subst n)))
 have z:=aa (t.trans (A.mono t.size));go_wp2
 go_ret2
 exact⟨rfl,z⟩
theorem CO (h:aP w b s l (92::c::t) d m)(h1:cF c=true):Calls prog 230 #[Vp b] w λe w'=>tC w w' (eF c) e/\aP w' b s l t d m/\Off b w w':=by
 have HL:=aa (bD h);obtain⟨Q,C,c2,c3,R⟩:=h.cells;have n:(c::t) <:+ l:=(yS 92 (c::t)).trans h.2.1;have v:=tM h.2.2.1 h.2.1 (by decide);have j:=aa (λw' (H:Bw w w')=>qQ s (c::t) (h.below H).2.2.2.2.1 h.2.2.1 n);rw[v]at j;have L:=(DJ h.2.2.1 n).2;have a5:=h.2.2.2.1;rw[v]at L;have HS:=aa h;have J:c<128:=by rcases io h1 with rfl|rfl|rfl|rfl|rfl|rfl<;>decide
 have A:=tM h.2.2.1 n J;rw[v]at A;have V:Hid (∀w',Bw w w'->∀q:Int,q=(aC (l.length-t.length) (af s):Int)->aP (w'.setCell (aD b 1) (Vi q)) b s l t d m/\Off b w' (w'.setCell (aD b 1) (Vi q))):=by
  intro w' H q hq;have E:=h.below H;have ho:Off b w' (w'.setCell (aD b 1) (Vi q)):=(Off.refl _ _).setCell 1 _;have O:=E.2.2.2.2.2;simp only[zG]at O;refine⟨⟨?_,(yS c t).trans n,E.2.2.1,E.2.2.2.1,E.2.2.2.2.1.off ho O.1,by omega⟩,ho⟩;subst hq;exact ag.set E.1 1 _
 have I:=aa A;generalize aC (l.length-(92::c::t).length) (af s)=P at C j L I;have a0:=aa (λw=>Mq c w h1);have k:((P+1:Nat):Int)=(P:Int)+1:=by omega
 rw[k]at j;have p0:(0:Int)<=(P:Int):=zK _;have p1:(P:Int)<=60:=by omega
 have Y:IntKind.i64.wrap ((P:Int)+1)=(P:Int)+1:=by simp[IntKind.wrap,IntKind.bits,IntKind.signed];omega
 go_enter func230,ntmps230;go_wp2_with fail;refine HL.mono ?_;rintro e a ⟨rfl,g⟩;have B:=aa g;have u:b<a.heap.size:=zF R g.size;rw[<-g.cell (p:=⟨b,_,none⟩) R]at Q C;replace j:=aa (λw' (H:Bw a w')=>j w' (g.trans (H.mono g.size)));simp only[ay];go_wp2_with fail
 go_region_held3 (λw'=>Bw a w'/\w'.cell? (aD b 0)=some (.string s)/\w'.cell? (aD b 1)=some (Vi P))
  (first|exact⟨(zE _ _).drew,Q,C⟩|exact⟨by assumption,(Below.cell (by assumption) u).trans Q,(Below.cell (by assumption) u).trans C⟩)
  ((first
   |(go_at_call 80;refine (j _ (‹Bw a _/\_›.1)).mono ?_;rintro e w5 ⟨rfl,F⟩;have r:Bw a w5:=(‹Bw a _/\_›.1).trans (F.mono (‹Bw a _/\_›.1).size))
   |(go_at_call 240;refine (a0 _).mono ?_;rintro e D ⟨⟨v7,rfl,K⟩,G⟩;have o:Bw a D:=r.trans (G.mono r.size);have N:=aa K;have X:=r.size)))
 obtain⟨ao,U,rfl,Z,_⟩:=(dL.sl N.out).rd;have d1:=(o.cell (p:=(aD b 1)) u).trans C;have a1:b<D.heap.size:=zF u o.size;have z:=aa (B.trans (o.mono B.size));have a3:D.frozen? (aD b 1)=false:=(HS.below z).1.frozen 1;have f:=aa (V D z ((P:Int)+2) (by rw[I.out];omega));have S:Hid (Off b w D):=Off.below z;have a4:b<w.heap.size:=R;have W:Hid (dL (D.setCell (aD b 1) (Vi ((P:Int)+2))) (dp w) (.slice ao (eF c).length U) (eF c)):=by
  have hm:=N.out;have a2:=B.size;rcases hm with⟨T,e2⟩|⟨y,oo,cc,T,e2,e3,e4,e5⟩
  ·exact .inl ⟨T,e2⟩
  ·refine .inr ⟨y,oo,cc,T,e2,by show w.heap.size<=y;have:w5.heap.size<=y:=e3;omega,by simpa [World.setCell]using e4,?_⟩;intro i x hx;obtain⟨b3,o3,e6,e7,e8,e9⟩:=e5 i x hx;cases e6;have:w5.heap.size<=y:=e3;have M:y≠b:=by omega
   exact⟨y,oo,rfl,by simpa [World.setCell]using e7,(f.2.cell (p:=⟨y,_,none⟩) e4 M).trans e8,(f.2.cell (p:=⟨y,_,none⟩) e4 M).trans e9⟩
 go_wp2
 go_ret2
 exact⟨⟨_,rfl,W⟩,f.1,S.trans f.2⟩
abbrev ar (b:Nat):Value:=Vp b
mutual
def PN (w:World)(A:Nat->Prop):Pat->Nat->Prop
 |.set s,b=>A b/\∃sv,ag w b [Vi 0,sv,Vz,Vi 0,Vi 0] 51/\dL w A sv s
 |.row l,b=>A b/\l.length<=100/\∃lv xs,ag w b [Vi 1,Vz,lv,Vi 0,Vi 0] 51/\cB w A 47 1 lv l.length (xs.map ar)/\PL w A l xs
 |.or l,b=>l.length<=100/\∃xs,PL w A l xs/\((l.length=1/\xs=[b])\/(l.length≠1/\A b/\∃lv,ag w b [Vi 2,Vz,lv,Vi 0,Vi 0] 51/\cB w A 47 1 lv l.length (xs.map ar)))
 |.and l,b=>l.length<=100/\∃xs,PL w A l xs/\((l.length=1/\xs=[b])\/(l.length≠1/\A b/\∃lv,ag w b [Vi 3,Vz,lv,Vi 0,Vi 0] 51/\cB w A 47 1 lv l.length (xs.map ar)))
 |.not p,b=>A b/\∃lv x,ag w b [Vi 4,Vz,lv,Vi 0,Vi 0] 51/\cB w A 47 1 lv 1 [ar x]/\PN w A p x
 |.many p m n,b=>A b/\∃lv x,ag w b [Vi 5,Vz,lv,Vi m,Vi n] 51/\cB w A 47 1 lv 1 [ar x]/\PN w A p x
 |.group p,b=>A b/\∃lv x,ag w b [Vi 6,Vz,lv,Vi 0,Vi 0] 51/\cB w A 47 1 lv 1 [ar x]/\PN w A p x
def PL (w:World)(A:Nat->Prop):List Pat->List Nat->Prop
 | [],xs=>xs=[]
 |p::l,xs=>∃x r,xs=x::r/\PN w A p x/\PL w A l r
end
theorem dL.keep {l:LQ}(h:dL w A v l)(k:ah A w w'):dL w' A v l:=by
 rcases h with h|⟨b,a,d,e,p,j,c,r⟩
 ·exact .inl h
 ·refine .inr ⟨b,a,d,e,p,j,zF c k.1,?_⟩;intro i x n;obtain⟨t,f,m,o,s,q⟩:=r i x n;cases m;have g:=k.2 b c j;exact⟨b,a,rfl,zF c k.1,by rw[zP (w:=w) g];exact s,by rw[zP (w:=w) g];exact q⟩
theorem ag.keep {cs:LV}{T:TypeId}(h:ag w b cs T)(k:ah A w w')(ha:A b):ag w' b cs T:=(k.2 b h.lt ha).trans h
mutual
theorem PN.keep {A:NP}{w w':World}(k:ah A w w'):∀(p:Pat) (b:Nat),PN w A p b->PN w' A p b
 |.set s,b,h=>by obtain⟨a,r,c,q⟩:=h;exact⟨a,r,c.keep k a,q.keep k⟩
 |.row l,b,h=>by obtain⟨a,j,d,g,c,f,e⟩:=h;exact⟨a,j,d,g,c.keep k a,f.keep k,PL.keep k l g e⟩
 |.or l,b,h=>by
  obtain⟨j,g,e,i⟩:=h;refine⟨j,g,PL.keep k l g e,?_⟩;rcases i with i|⟨o,a,d,c,f⟩
  ·exact .inl i
  ·exact .inr ⟨o,a,d,c.keep k a,f.keep k⟩
 |.and l,b,h=>by
  obtain⟨j,g,e,i⟩:=h;refine⟨j,g,PL.keep k l g e,?_⟩;rcases i with i|⟨o,a,d,c,f⟩
  ·exact .inl i
  ·exact .inr ⟨o,a,d,c.keep k a,f.keep k⟩
 |.not p,b,h=>by obtain⟨a,d,x,c,f,e⟩:=h;exact⟨a,d,x,c.keep k a,f.keep k,PN.keep k p x e⟩
 |.many p m n,b,h=>by obtain⟨a,d,x,c,f,e⟩:=h;exact⟨a,d,x,c.keep k a,f.keep k,PN.keep k p x e⟩
 |.group p,b,h=>by obtain⟨a,d,x,c,f,e⟩:=h;exact⟨a,d,x,c.keep k a,f.keep k,PN.keep k p x e⟩
theorem PL.keep {A:NP}{w w':World}(k:ah A w w'):∀(l:List Pat) (xs:List Nat),PL w A l xs->PL w' A l xs
 | [],xs,h=>h
 |p::l,xs,h=>by obtain⟨x,r,e,a,b⟩:=h;exact⟨x,r,e,PN.keep k p x a,PL.keep k l r b⟩
end
mutual
theorem PN.mono {A A':NP}{w:World}(k:∀g,g<w.heap.size->A g->A' g):∀(p:Pat) (b:Nat),PN w A p b->PN w A' p b
 |.set s,b,h=>by obtain⟨c,t,a,r⟩:=h;exact⟨k _ a.lt c,t,a,r.mono k⟩
 |.row l,b,h=>by obtain⟨c,o,d,i,a,f,e⟩:=h;exact⟨k _ a.lt c,o,d,i,a,f.mono k,PL.mono k l i e⟩
 |.or l,b,h=>by
  obtain⟨o,i,e,j⟩:=h;refine⟨o,i,PL.mono k l i e,?_⟩;rcases j with j|⟨q,c,d,a,f⟩
  ·exact .inl j
  ·exact .inr ⟨q,k _ a.lt c,d,a,f.mono k⟩
 |.and l,b,h=>by
  obtain⟨o,i,e,j⟩:=h;refine⟨o,i,PL.mono k l i e,?_⟩;rcases j with j|⟨q,c,d,a,f⟩
  ·exact .inl j
  ·exact .inr ⟨q,k _ a.lt c,d,a,f.mono k⟩
 |.not p,b,h=>by obtain⟨c,d,x,a,f,e⟩:=h;exact⟨k _ a.lt c,d,x,a,f.mono k,PN.mono k p x e⟩
 |.many p m n,b,h=>by obtain⟨c,d,x,a,f,e⟩:=h;exact⟨k _ a.lt c,d,x,a,f.mono k,PN.mono k p x e⟩
 |.group p,b,h=>by obtain⟨c,d,x,a,f,e⟩:=h;exact⟨k _ a.lt c,d,x,a,f.mono k,PN.mono k p x e⟩
theorem PL.mono {A A':NP}{w:World}(k:∀g,g<w.heap.size->A g->A' g):∀(l:List Pat) (xs:List Nat),PL w A l xs->PL w A' l xs
 | [],xs,h=>h
 |p::l,xs,h=>by obtain⟨x,r,e,a,b⟩:=h;exact⟨x,r,e,PN.mono k p x a,PL.mono k l r b⟩
end
theorem PL.len {w:World}{A:NP}:∀(l:List Pat) (xs:List Nat),PL w A l xs->xs.length=l.length
 | [],xs,h=>by rw[show xs=[]from h];rfl
 |p::l,xs,h=>by obtain⟨x,r,rfl,b,a⟩:=h;simp[PL.len l r a]
theorem PL.snoc {w:World}{A:NP}:∀(l:List Pat) (xs:List Nat) (p:Pat) (x:Nat),PL w A l xs->PN w A p x->PL w A (l++[p]) (xs++[x])
 | [],xs,p,x,h,hp=>by rw[show xs=[]from h];exact⟨x,[],rfl,hp,rfl⟩
 |q::l,xs,p,x,h,hp=>by
  obtain⟨y,r,rfl,a,b⟩:=h;exact⟨y,r++[x],by simp,a,PL.snoc l r p x b hp⟩
theorem PL.at {w:World}{A:NP}:∀(l:List Pat) (xs:List Nat),PL w A l xs->∀(i:Nat) (p:Pat),l[i]?=some p->∃x,xs[i]?=some x/\PN w A p x
 | [],_,_,i,p,hi=>by simp at hi
 |q::l,xs,h,0,p,hi=>by obtain⟨y,r,rfl,a,b⟩:=h;simp at hi;subst hi;exact⟨y,rfl,a⟩
 |q::l,xs,h,i+1,p,hi=>by
  obtain⟨y,r,rfl,a,b⟩:=h;obtain⟨x,d,c⟩:=PL.at l r b i p (by simpa using hi);exact⟨x,by simpa using d,c⟩
theorem PN.lt {w:World}{A:NP}:∀(p:Pat) (b:Nat),PN w A p b->p.Ok->A b/\b<w.heap.size
 |.set s,b,h,_=>by obtain⟨c,t,a,u⟩:=h;exact⟨c,a.lt⟩
 |.row l,b,h,_=>by obtain⟨c,_,i,k,a,j,f⟩:=h;exact⟨c,a.lt⟩
 |.or [],b,h,hk=>absurd rfl hk.2
 |.or [p],b,h,hk=>by
  obtain⟨_,k,f,g⟩:=h;rcases g with⟨_,rfl⟩|⟨d,_⟩
  ·obtain⟨x,r,e,o,_⟩:=f;cases e;exact PN.lt p b o hk.1.1
  ·exact absurd rfl d
 |.or (p::q::l),b,h,hk=>by
  obtain⟨_,k,f,g⟩:=h;rcases g with⟨d,_⟩|⟨d,c,i,a,j⟩
  ·simp at d
  ·exact⟨c,a.lt⟩
 |.and [],b,h,hk=>absurd rfl hk.2
 |.and [p],b,h,hk=>by
  obtain⟨_,k,f,g⟩:=h;rcases g with⟨_,rfl⟩|⟨d,_⟩
  ·obtain⟨x,r,e,o,_⟩:=f;cases e;exact PN.lt p b o hk.1.1
  ·exact absurd rfl d
 |.and (p::q::l),b,h,hk=>by
  obtain⟨_,k,f,g⟩:=h;rcases g with⟨d,_⟩|⟨d,c,i,a,j⟩
  ·simp at d
  ·exact⟨c,a.lt⟩
 |.not p,b,h,_=>by obtain⟨c,i,x,a,j,f⟩:=h;exact⟨c,a.lt⟩
 |.many p m n,b,h,_=>by obtain⟨c,i,x,a,j,f⟩:=h;exact⟨c,a.lt⟩
 |.group p,b,h,_=>by obtain⟨c,i,x,a,j,f⟩:=h;exact⟨c,a.lt⟩
theorem VE (w:World)(x:Nat):cB (w.alloc (.cells #[ar x] 47)) (dp w) 47 1 (Vs w.heap.size 1 1) 1 [ar x] :=
 ⟨⟨rfl,.inr ⟨w.heap.size,1,#[ar x],rfl,zW _,ag.new w [ar x] 47,zA _,by unfold maxLen;omega,rfl,rfl⟩⟩,λg a=>by simp[Value.ownBlock]at a;subst a;exact zA _⟩
theorem aP.alloc {w:World}{b:Nat}{s:ByteArray}{l r:LZ}{d m:Int}(h:aP w b s l r d m)(o:Obj):aP (w.alloc o) b s l r d m:=h.below ((zE _ _).alloc (zA _) _)
theorem aP.lt {w:World}{b:Nat}{s:ByteArray}{l r:LZ}{d m:Int}(h:aP w b s l r d m):b<w.heap.size:=h.1.lt
def sS (b:Nat)(s:ByteArray)(l:List Int)(d m:Int)(R:Res Pat)(w w':World)(e:Ending):Prop:=match R with
 |.ok p r=>∃x,e=.returned (.tuple #[ar x,.bool true])/\PN w' (dp w) p x/\aP w' b s l r d (max m (d+p.deep))
 |.bad r=>e=.returned (.tuple #[.pointer none,.bool false])/\∃m',aP w' b s l r d m'
def bk (F:Nat)(b:Nat)(s:ByteArray)(l:List Int)(d m:Int)(R:Res Pat)(w:World):Prop :=
 Calls prog F #[Vp b] w λe w'=>Off b w w'/\sS b s l d m R w w' e
def lP (n:Nat):Prop:=∀(b:Nat) (s:ByteArray) (l r:List Int) (d m:Int) (w:World),aP w b s l r d m->r.length<n->bk 49 b s l d m (aU true n r) w
theorem Hn:(prog.info? 47).map (λi=>(i.zero,i.size,i.bytes))=some (some (.pointer none),1,8):=by kernel_rfl
theorem wB {B':Nat}(h:w.ownsRow B 47 1 v n xs)(hb:B'<=B):w.ownsRow B' 47 1 v n xs:=by
 refine⟨h.1,?_⟩;rcases h.2 with d|⟨g,b,a,e,c,r⟩
 ·exact .inl d
 ·exact .inr ⟨g,b,a,e,zJ hb c,r⟩
theorem ew (h:w.ownsRow B 47 1 v n xs):∃ao cap,v=.slice ao n cap:=by
 rcases h.2 with⟨rfl,rfl⟩|⟨g,cap,a,rfl,_⟩<;>exact⟨_,_,rfl⟩
theorem gM {w:World}{ops:Array Oper}{rest:List Oper}{o:Oper}{a:Act}{Q:Exit->Act->World->Prop}(hgd:o.guard=none)(s x:Operand)
  (ho:o.op=.call { callee:=.builtin .append,args:=#[s,x],argTypes:=#[49,49] }) (B n:Nat) (v:Value) (xs:LV) (hs:a.eval s=v) (hown:w.ownsRow B 47 1 v n xs)
  (ad:Addr) (news:LV) (hx:a.eval x=.slice (some ad) 1 1) (hl:news.length=1) (hnews:∀j u,news[j]?=some u->w.cell? (ad.add j)=some u) (h1:∀u∈news,u.oneCell'=true)
  (hn:n<=100000) (hB:B<=w.heap.size)
  (h:∀v' w',w'.ownsRow B 47 1 v' (n+1) (xs++news)->w.grownBy w' v.ownBlock->(v'.ownBlock=v.ownBlock\/∀g,v'.ownBlock=some g->w.heap.size<=g) ->
   wpList prog ops Q rest (a.put o.dst v') w'):wpList prog ops Q (o::rest) a w:=by
 obtain⟨y,t,q,m,p⟩:=zz Hn;have f:=hown;rcases hown.2 with⟨rfl,rfl⟩|⟨g,i,z,rfl,C,G,E,F,D,H⟩
 ·refine yo w hgd s x 49 ho 47 y (.pointer none) 1 8 underlying49 t q m p rfl (by decide) none 0 0 xs hs (λ_=>⟨rfl,rfl⟩) f.1 (λb e=>by cases e) ad 1 1 news hx hl hnews h1 (by omega) (by unfold maxLen;omega) (by omega) ?_;intro v' w' d c;exact h v' w' (wB d hB) ⟨c.os,c.tape,c.output,c.size,λk r _=>c.block k r (by simp)⟩ (.inr λg e=>(d.lt g e).1)
 ·by_cases l:n+1<=i
  ·refine wpList_append_fits w hgd s x 49 ho B 47 y 1 underlying49 t m g n i xs hs f ad 1 1 news hx hl hnews h1 l ?_;intro w' d c;exact h _ w' d c (.inl rfl)
  ·refine yo w hgd s x 49 ho 47 y (.pointer none) 1 8 underlying49 t q m p rfl (by decide) (some (aD g 0)) n i xs hs (λe=>by cases e) f.1 (λb e j u A=>by cases e;exact f.cells rfl j u A) ad 1 1 news hx hl hnews h1 (by omega) (by unfold maxLen;omega) (by omega) ?_;intro v' w' d c;exact h v' w' (wB d hB) ⟨c.os,c.tape,c.output,c.size,λk r _=>c.block k r (by simp)⟩ (.inr λg e=>(d.lt g e).1)
theorem lw (w:World)(x:Nat):∀j u,[ar x][j]?=some u->(w.alloc (.cells #[ar x] 47)).cell? (((aD w.heap.size 0):Addr).add j)=some u:=by
 intro j u a
 match j,a with
 |0,a=>simp at a;subst a;simp[Addr.add]
theorem lx (x:Nat):∀u∈[ar x],u.oneCell'=true:=by
 intro u a;simp at a;subst a;rfl
def LP (w:World)(X:Nat)(v:Value)(L:List Pat)(wr:World):Prop:=∃xs,wr.ownsRow w.heap.size 47 1 v L.length (xs.map ar)/\v.ownBlock≠some X/\PL wr (λq=>w.heap.size<=q/\q≠X/\some q≠v.ownBlock) L xs
theorem LP.nil (w wr:World)(X:Nat):LP w X (Vz) [] wr:=⟨[],zZ _ _ _ _,by simp[Value.ownBlock],rfl⟩
theorem LP.keep {w wr w':World}{X:Nat}{v:Value}{L:List Pat}{b:Nat}(h:LP w X v L wr)(k:Off b wr w')(hb:b<w.heap.size\/b=X):LP w X v L w':=by
 obtain⟨d,c,g,i⟩:=h;refine⟨d,bP c (λq a=>k.block q (c.lt q a).2 (λe=>?_)),g,PL.keep (ah.off k (λf=>?_)) L d i⟩
 ·rcases hb with hb|rfl
  ·have:=(c.lt q a).1;omega
  ·exact g (e▸a)
 ·rcases hb with hb|rfl
  ·have:=f.1;omega
  ·exact f.2.1 rfl
theorem LP.own (h:LP w X v L wr):∃xs,cB wr (dp w) 47 1 v L.length (xs.map ar)/\PL wr (dp w) L xs:=by
 obtain⟨xs,a,e,b⟩:=h;exact⟨xs,⟨wB a (zW _),λq d=>(a.lt q d).1⟩,PL.mono (λq _ c=>c.1) L xs b⟩
theorem LP.push {w1 w3:World}{v':Value}{x:Nat}{xs:List Nat}{o:Obj}
  (h1:wr.ownsRow w.heap.size 47 1 v L.length (xs.map ar)) (h2:v.ownBlock≠some X) (h3:PL wr (λq=>w.heap.size<=q/\q≠X/\some q≠v.ownBlock) L xs) (hb:b<w.heap.size) (hX:X<wr.heap.size) (hw:w.heap.size<=wr.heap.size)
  (hoff:Off b wr w1) (hp:PN w1 (dp wr) p x)
  (ho3:w3.ownsRow w.heap.size 47 1 v' (L.length+1) (xs.map ar++[ar x])) (hg:(w1.alloc o).grownBy w3 v.ownBlock) (hloc:v'.ownBlock=v.ownBlock\/∀q,v'.ownBlock=some q->(w1.alloc o).heap.size<=q) :
  LP w X v' (L++[p]) w3:=by
 have s:=hoff.size;have i:v'.ownBlock≠some X:=by
  intro e;rcases hloc with h|h
  ·exact h2 (h▸e)
  ·have r:=h X e;simp at r;omega
 have j:∀q,v.ownBlock=some q->q<wr.heap.size:=λq c=>(h1.lt q c).2;have f:∀q,q<w1.heap.size->some q≠v.ownBlock->some q≠v'.ownBlock:=by
  intro q c d e;rcases hloc with h|h
  ·exact d (e.trans h)
  ·have:=h q e.symm;simp at this;omega
 have g:ah (λq=>w.heap.size<=q/\q≠X/\some q≠v.ownBlock) w1 w3 :=
  (ah.alloc _ w1 o).trans (ah.grown hg (λq e a=>a.2.2 e.symm))
 refine⟨xs++[x],?_,i,?_⟩
 ·rw[zH,xH];exact ho3
 ·refine PL.snoc L xs p x ?_ ?_
  ·have n:=PL.keep (ah.off hoff (λa=>by have:=a.1;omega)) L xs h3;have l:=PL.mono (A':=λq=>(w.heap.size<=q/\q≠X/\some q≠v.ownBlock)/\some q≠v'.ownBlock) (λq c a=>⟨a,f q c a.2.2⟩) L xs n;have k:=PL.keep (w':=w3) ⟨g.1,λq c a=>g.2 q c a.1⟩ L xs l;exact PL.mono (λq _ a=>⟨a.1.1,a.1.2.1,a.2⟩) L xs k
  ·have l:=PN.mono (A':=λq=>(w.heap.size<=q/\q≠X/\some q≠v.ownBlock)/\some q≠v'.ownBlock) (λq c a=>by
    have m:wr.heap.size<=q:=a;have d:some q≠v.ownBlock:=λe=>by have:=j q e.symm;omega
    exact⟨⟨by omega,by omega,d⟩,f q c d⟩) p x hp
   have k:=PN.keep (w':=w3) ⟨g.1,λq c a=>g.2 q c a.1⟩ p x l;exact PN.mono (λq _ a=>⟨a.1.1,a.1.2.1,a.2⟩) p x k
theorem Pn (hc:runeB c=true):af (Utf8.encode c)=Lib.encodeRune c:=by
 have h:=(rune_iff c).1 hc;obtain⟨n,rfl⟩:∃n:Nat,c=(n:Int):=⟨c.toNat,by omega⟩;have j:Utf8.valid (n:Int)=true:=by simp[Utf8.valid];omega
 unfold Utf8.encode Lib.encodeRune;simp only[j,yd,Int.toNat_natCast];by_cases e:n<128
 ·rw[zX e,Lib.encodeRuneZ_one (by omega) (by omega)];simp[af]
 ·rw[zR e];by_cases f:n<2048
  ·rw[zX f,Lib.encodeRuneZ_two (by omega) (by omega)];simp only[af,zp,yU];have b:(192+(n:Int) / 64).toNat=192+n / 64:=by omega
   have a:(128+(n:Int) % 64).toNat=128+n % 64:=by omega
   rw[b,a]
  ·rw[zR f];by_cases g:n<65536
   ·rw[zX g,Lib.encodeRuneZ_three (by omega)];simp only[af,zp,yU];have b:(224+(n:Int) / 4096).toNat=224+n / 4096:=by omega
    have a:(128+(n:Int) / 64 % 64).toNat=128+n / 64 % 64:=by omega
    have d:(128+(n:Int) % 64).toNat=128+n % 64:=by omega
    rw[b,a,d]
   ·rw[zR g,Lib.encodeRuneZ_four (by omega) (by omega)];simp only[af,zp,yU];have b:(240+(n:Int) / 262144).toNat=240+n / 262144:=by omega
    have a:(128+(n:Int) / 4096 % 64).toNat=128+n / 4096 % 64:=by omega
    have d:(128+(n:Int) / 64 % 64).toNat=128+n / 64 % 64:=by omega
    have i:(128+(n:Int) % 64).toNat=128+n % 64:=by omega
    rw[b,a,d,i]
def Str (bs:List UInt8)(w:World)(e:Ending)(w':World):Prop:=∃t,e=.returned (.string t)/\af t=bs/\Below w.heap.size w w'
def ll (r:List Int):Prop:=∃c t,r=92::c::t/\cF c=true
theorem ER (h:aP w b s l r d m)(h1:¬ll r):Calls prog 230 #[Vp b] w λe w'=>wN e/\Bw w w':=by
 by_cases a:ay r=92
 ·cases r with
  |nil=>simp[ay]at a
  |cons c t=>
   simp only[ay]at a;subst a;refine IH h ?_;cases t with
   |nil=>rfl
   |cons c t=>
    cases hc:cF c with
    |false=>exact hc
    |true=>exact absurd ⟨c,t,rfl,hc⟩ h1
 ·exact MG h a
theorem xQ (h:cF c=true):cQ c=false:=by
 rcases io h with rfl|rfl|rfl|rfl|rfl|rfl<;>rfl
theorem Ln (h:cF c=true):cq (92::c::t)=.ok (eF c) t:=by
 simp[cq,dx,xQ h,h,Res.bind]
theorem Ou (hr:dh r)(h:¬ll r):cq r=(bM 0 r).bind λa q=>bS a q:=by
 cases r with
 |nil=>rfl
 |cons c t=>
  simp only[cq,bM];by_cases b:c=92
  ·subst b;simp only[yd];rw[zX (by decide)];cases t with
   |nil=>rfl
   |cons x t=>
    simp only[dx,fu];cases hs:cQ x with
    |true=>
     have:=fJ hs;have d:(0:Int)<=bU x:=by omega
     simp[Res.bind,d]
    |false=>
     cases hc:cF x with
     |true=>exact absurd ⟨x,t,rfl,hc⟩ h
     |false=>simp[Res.bind]
  ·have e:=(rune_iff c).1 hr.head;have d:(0:Int)<=c:=by omega
   simp only[zR b];cases hi:ej c with
   |true=>simp[Res.bind]
   |false=>simp[d,Res.bind]
theorem RL (h:aP w b s l (92::c::t) d m)(hc:cF c=true):Calls prog 232 #[Vp b] w λe w'=>Off b w w'/\eW b s l d m (cq (92::c::t)) w' e (λx e=>tC w w' x e) wN:=by
 have n:=aa (CO h hc);have i:=aa (Ln (t:=t) hc);go_enter func232,ntmps232;go_wp2_with fail;refine n.mono ?_;rintro e u ⟨⟨r,rfl,a⟩,g,f⟩;obtain⟨q,o,rfl,_,_⟩:=a.sl.rd;have p:=aa a;have k:=aa g;have j:=aa f;go_wp2
 go_ret2
 exact⟨j,by rw[i.out];exact⟨k,_,rfl,p⟩⟩
theorem Vx (h:aP w b s l r d m)(hc:¬ll r):Calls prog 232 #[Vp b] w λe w'=>Off b w w'/\eW b s l d m (cq r) w' e (λx e=>tC w w' x e) wN:=by
 have W:=aa (ER h hc);have i:=(db h.2.2.1).suf h.2.1;have Y:=aa i;have N:=aa (Ou i hc);have K:=aa (jM (least:=0) i);have G:=aa (jU 0 r);have j:=aa h;have a:Hid (Off b w w):=Off.refl _ _;go_enter func232,ntmps232;go_wp2_with fail;refine W.mono ?_;rintro e X ⟨rfl,g⟩;replace j:=aa (j.below g);replace a:=aa (a.trans (Off.below g));go_wp2_with fail;refine (vI 0 j).mono ?_;rintro e w2 ⟨I,A⟩;replace a:=aa (a.trans I);generalize bM 0 r=RR at N A K G;cases RR with
 |bad q=>
  obtain⟨n,v,rfl⟩:=A;have V:=aa n;go_wp2
  go_ret2
  exact⟨a,by rw[N.out];exact⟨V,rfl⟩⟩
 |ok low q=>
  obtain⟨n,rfl⟩:=A;replace j:=aa n;obtain⟨y,f⟩:=K.out;have E:low<=1114111:=by have:=(rune_iff low).1 f;omega
  have a0:=aa f;have P:=aa ((Y).suf (G).2);by_cases F:q.head?=some 45
  ·cases q with
   |nil=>simp at F
   |cons c q=>
    simp only[yx,yG]at F;subst F;go_wp2_with fail;refine (cT j).mono ?_;rintro e X ⟨rfl,L,M⟩;replace j:=aa L;replace a:=aa (a.trans M);have p:Hid (cq r=(bM low q).map λb=>[(low,b)]):=by show _=_;rw[N.out];simp[Res.bind,bS]
    have t:=aa (jM (least:=low) P.tail);go_wp2_with fail;refine (vI low j).mono ?_;rintro e w3 ⟨J,B⟩;replace a:=aa (a.trans J);generalize bM low q=R3 at p B t;cases R3 with
    |bad q3=>
     obtain⟨o,v,rfl⟩:=B;have u:=aa o;go_wp2
     go_ret2
     exact⟨a,by rw[p.out];exact⟨u,rfl⟩⟩
    |ok high q3=>
     obtain⟨o,rfl⟩:=B;obtain⟨T,H⟩:=t.out;have a1:high<=1114111:=by have:=(rune_iff high).1 H;omega
     have Z:0<=high:=by omega
     have u:=aa (o.alloc (.cells (aE [(low,high)]).toArray 92));have HN:=aa (qg w3 [(low,high)]);have S:=aa (a.alloc (.cells (aE [(low,high)]).toArray 92));have z:=aa a.size;go_wp2
     go_ret2
     refine⟨S,by rw[p.out];exact⟨u,_,rfl,dL.mono HN (λk _ O=>zJ z O)⟩⟩
  ·have p:Hid (cq r=.ok [(low,low)] q):=by
    show _=_
    rw[N.out];cases q with
    |nil=>rfl
    |cons c q=>
     have:¬c=45:=by simpa using F
     simp[Res.bind,bS,this]
   have HQ:=aa F;go_wp2_with fail;refine (dv _ j (by decide) HQ).mono ?_;rintro e X ⟨rfl,g⟩;replace j:=aa (j.below g);replace a:=aa (a.trans (Off.below g));go_wp2_with fail
   rename_i w5
   refine (rk low _ y E).mono ?_;rintro e w6 ⟨v6,rfl,C,D⟩;obtain⟨ao,a2,rfl,_,_⟩:=C.sl.rd;have z:=aa a.size;have R:Hid (dL w6 (dp w) _ [(low,low)]):=C.mono (λk _ O=>zJ z O);have U:=aa (j.below D);have Q:=aa (a.trans (Off.below D));go_wp2
   go_ret2
   exact⟨Q,by rw[p.out];exact⟨U,_,rfl,R⟩⟩
theorem oF (h:aP w b s l r d m):Calls prog 232 #[Vp b] w λe w'=>Off b w w'/\eW b s l d m (cq r) w' e (λx e=>tC w w' x e) wN:=by
 by_cases a:ll r
 ·obtain⟨c,t,rfl,a⟩:=a;exact RL h a
 ·exact Vx h a
def jA (e:Int ⊕ List (Int×Int)):Pat:=match e with|.inl a=>.set [(a,a)]|.inr l=>.set l
theorem NZ (h:cF c=true):(dx (c::t)).map jA=.ok (.set (eF c)) t:=by
 simp[dx,xQ h,h,Res.map,jA]
theorem Rp (h:¬ll (92::r)):(dx r).map jA=(gV 0 r).map λa=>.set [(a,a)]:=by
 unfold gV;rw[zX (by decide)];cases r with
 |nil=>rfl
 |cons x t=>
  simp only[dx,fu];cases hs:cQ x with
  |true=>
   have:=fJ hs;have b:(0:Int)<=bU x:=by omega
   simp[Res.map,b,jA]
  |false=>
   cases hc:cF x with
   |true=>exact absurd ⟨x,t,rfl,hc⟩ h
   |false=>simp[Res.map]
theorem Rq (h:d<=m):max m (d+((0:Nat):Int))=m:=by omega
theorem Xl {sv:Value}(hs:dL w (dp w0) sv x)(hw:w0.heap.size<=w.heap.size):PN (w.alloc (.cells #[Vi 0,sv,Vz,Vi 0,Vi 0] 51)) (dp w0) (.set x) w.heap.size :=
 ⟨hw,sv,ag.new w [Vi 0,sv,Vz,Vi 0,Vi 0] 51,hs.keep (ah.alloc _ _ _)⟩
theorem mQ {sv:Value}(ho:Off b w0 w)(hs:dL w (dp w0) sv x)(hp:aP w b s l r d m) :
  Off b w0 (w.alloc (.cells #[Vi 0,sv,Vz,Vi 0,Vi 0] 51))/\sS b s l d m (.ok (.set x) r) w0 (w.alloc (.cells #[Vi 0,sv,Vz,Vi 0,Vi 0] 51)) (.returned (.tuple #[ar w.heap.size,.bool true])):=by
 refine⟨ho.alloc _,w.heap.size,rfl,Xl hs ho.size,?_⟩;have h:=hp.alloc (.cells #[Vi 0,sv,Vz,Vi 0,Vi 0] 51);have a:d<=m:=hp.2.2.2.2.2.2.2.2.2.2;show aP _ b s l r d (max m (d+((0:Nat):Int)))
 rw[Rq a];exact h
theorem KU (h:aP w b s l (92::c::t) d m)(hc:cF c=true):bk 213 b s l d m ((dx (c::t)).map jA) w:=by
 have j:=aa (CO h hc);have k:=aa (NZ (t:=t) hc);unfold bk;rw[k.out];go_enter func213,ntmps213;go_wp2_with fail;refine j.mono ?_;rintro e q ⟨⟨p,rfl,a⟩,f,g⟩;obtain⟨o,n,rfl,_,_⟩:=a.sl.rd;have i:=aa (mQ g a f);go_wp2
 go_ret2
 exact i
theorem Oa (h:aP w b s l (92::r) d m)(hc:¬ll (92::r)):bk 213 b s l d m ((dx r).map jA) w:=by
 have C:=aa (ER h hc);have A:=aa (Rp hc);have z:=aa (CP 0 r);have x:=aa h;have o:Hid (Off b w w):=Off.refl _ _;have p:=aa (λD H=>CX b s l d m D r 0 H);have u:gV 0 r=fu 0 r:=zX (by decide);rw[u]at p A;generalize fu 0 r=RR at p z A;generalize (dx r).map jA=R at A ⊢;unfold bk;go_enter func213,ntmps213;go_wp2_with fail;refine C.mono ?_;rintro e L ⟨rfl,j⟩;replace x:=aa (x.below j);replace o:=aa (o.trans (Off.below j));go_wp2_with fail;refine (p _ x).mono ?_;rintro e I ⟨t,y⟩;replace o:=aa (o.trans t);cases RR with
 |bad q=>
  obtain⟨c,v,rfl⟩:=y;have B:=aa c;go_wp2
  go_ret2
  exact⟨o,by rw[A.out];exact⟨rfl,_,B⟩⟩
 |ok low q=>
  obtain⟨c,rfl⟩:=y;replace x:=aa c;obtain⟨i,a⟩:=z.out;have f:low<=1114111:=by have:=(rune_iff low).1 a;omega
  go_wp2_with fail;refine (rk low _ i f).mono ?_;rintro e K ⟨J,rfl,n,g⟩;obtain⟨M,F,rfl,_,_⟩:=n.sl.rd;have G:=aa (mQ (o.trans (Off.below g)) (n.mono (A':=dp w) (λk _ E=>zJ o.size E)) (x.below g));go_wp2
  go_ret2
  rw[A.out];exact G
theorem KV (b:Nat)(s:ByteArray)(l:LZ)(d m:Int)(w:World)(r:LZ)(h:aP w b s l (92::r) d m):bk 213 b s l d m ((dx r).map jA) w:=by
 by_cases a:ll (92::r)
 ·obtain⟨c,t,e,a⟩:=a;cases e;exact KU h a
 ·exact Oa h a
set_option maxHeartbeats 4000000
def YP (w:World)(b:Nat)(s:ByteArray)(l:List Int)(d m:Int)(R:Res (List (Int×Int)))(k:Nat)(v:Value)(wr:World):Prop :=
 Off b w wr/\∃l0 s0,aP wr b s l s0 d m/\wr.ownsRow w.heap.size 92 2 v l0.length (aE l0)/\ba k l0 s0=R/\(∀x∈l0,okB x=true)/\l0.length+5*s0.length<=400/\s0.length<k
theorem Ei {a:Int}(h:bS a t=.ok x q):x≠[]:=by
 cases t with
 |nil=>simp[bS]at h;rw[<-h.1];simp
 |cons e t=>
  simp only[bS]at h
  split at h
  ·cases hs:bM a t with
   |bad q=>rw[hs]at h;simp[Res.map]at h
   |ok y q=>rw[hs]at h;simp[Res.map]at h;rw[<-h.1];simp
  ·simp at h;rw[<-h.1];simp
theorem QV (h:cF c=true):eF c≠[]:=by
 rcases io h with rfl|rfl|rfl|rfl|rfl|rfl<;>decide
theorem Jb (h:cq r=.ok x q):x≠[]:=by
 cases r with
 |nil=>simp[cq]at h
 |cons c t=>
  simp only[cq]at h
  split at h
  ·cases t with
   |nil=>simp[dx,Res.bind]at h
   |cons y t=>
    simp only[dx]at h
    split at h
    ·exact Ei h
    ·split at h
     ·rename_i hc
      simp[Res.bind]at h;rw[<-h.1];exact QV hc
     ·simp[Res.bind]at h
  ·split at h
   ·simp at h
   ·exact Ei h
theorem Ej {a c:LQ}(h:w.ownsRow B 92 2 v (a.length+c.length) (aE a++aE c)):w.ownsRow B 92 2 v (a++c).length (aE (a++c)):=by
 rw[zH,fz];exact h
theorem aP.grown {w w':World}{b:Nat}{s:ByteArray}{l r:LZ}{d m:Int}{row:Option Nat}(h:aP w b s l r d m)(hg:w.grownBy w' row)(hr:∀k,row=some k->b<k):aP w' b s l r d m:=by
 have g:=h.2.2.2.2.2.1;refine⟨ag.grown h.1 hg (λe=>by have:=hr b e.symm;omega),h.2.1,h.2.2.1,h.2.2.2.1,?_,h.2.2.2.2.2⟩;have a:=h.2.2.2.2.1;exact⟨zJ a.1 hg.size,λW f=>a.2 W (λk c=>(f k c).trans (hg.block k (by have:=a.1;omega) (λe=>by have:=hr k e.symm;omega)))⟩
theorem IB {s1:LZ}{f:List (Int×Int)->List (Int×Int)}(h:aP w b s l (91::r) d m)(hk:(94::s1=r/\f=λx=>dT (form x))\/(s1=r/\s1.head?≠some 94/\f=form)):bk 214 b s l d m (((ba (s1.length+2) [] s1).map f).map .set) w:=by
 have i:=aa (Off.refl b w);have E:=aa h.1.lt;have b9:=h.2.2.2.1;have c0:l.length<=60:=by have:=eB h.2.2.1;rw[aL]at this;omega
 have a7:=h.2.1.length_le;obtain⟨i0,hi,b1,b2,b5⟩:=zz fe;generalize hR:ba (s1.length+2) [] s1=R;have a1:=aa hR;unfold bk;rcases hk with⟨rfl,hf⟩|⟨rfl,hn,hf⟩
 all_goals
  try (have HN:=aa hn)
  have g:=aa h;have HF:=aa hf;go_enter func214,ntmps214;go_wp2_with (first
   |(go_at_call 160;refine (gH g).mono ?_;rintro e wt ⟨rfl,c,j⟩;replace g:=aa c;replace i:=aa (i.trans j))
   |(go_at_call 119;refine (cT g).mono ?_;rintro e wt ⟨rfl,c,j⟩;replace g:=aa c;replace i:=aa (i.trans j))
   |(go_at_call 119;refine (dv _ g (by decide) HN).mono ?_;rintro e wt ⟨rfl,n⟩;replace g:=aa (g.below n);replace i:=aa (i.trans (Off.below n))))
  go_loopg [5] (s1.length+2) (λk v wr=>YP w b s l d m R k v wr)
  case atStart=>exact⟨i,[],s1,g,zZ _ _ _ _,a1,by simp,by simp at a7 ⊢;omega,by omega⟩
  case round=>
   obtain⟨ho,K,s0,c,C,o,X,b4,hk⟩:=hrel;have z:=(db c.2.2.1).suf c.2.1;have i:=aa ho;have g:=aa c;have a:=aa C;have F:=aa X;have b3:=aa b4;obtain⟨k',rfl⟩:∃k',gk=k'+1:=⟨gk-1,by omega⟩;rw[ba]at o
   split at o<;>rename_i h93
   ·obtain⟨u,rfl⟩:∃u,s0=93::u:=⟨_,eZ h93⟩;have HR:Hid ((R.map f).map Pat.set=.ok (.set (f K)) u):=by
     show _=_
     rw[<-o];rfl
    have a0:Hid (K.length<=1000000):=by show _<=_;omega
    go_wp2_with fail;refine (cT g).mono ?_;rintro e wt ⟨rfl,c,j⟩;have L:=aa (bP a (λq J=>j.block q (a.lt q J).2 (by have:=(a.lt q J).1;have:=E.out;omega)));replace g:=aa c;replace i:=aa (i.trans j);obtain⟨ao,Z,rfl,_,t⟩:=nG L.out;have N:=aa t;go_wp2_with fail
    first|refine (nS Z N a0 F).mono ?_|refine (SY Z N a0 F).mono ?_
    rintro e w6 ⟨v6,rfl,D,I⟩;obtain⟨c1,b8,rfl,_,_⟩:=D.sl.rd;have a9:=aa (mQ (i.trans (Off.below I)) (D.mono (A':=dp w) (λk _ hk=>zJ i.size hk)) (g.below I));go_wp2
    go_ret2
    rw[HR.out,HF.out];exact a9
   ·have a2:=aa h93;have p:=kO z;have A:=fT s0;have Q:K.length<=400:=by omega
    have O:=aa Q;cases hit:cq s0 with
     |ok x s2=>?_
     |bad s2=>?_
    all_goals
     have a4:=aa hit;rw[hit]at p A o;have HE:=aa o;go_wp2_with fail;refine (dv _ g (by decide) a2).mono ?_;rintro e wt ⟨rfl,n⟩;replace a:=aa (bP a (λq J=>n.block q (a.lt q J).2));replace g:=aa (g.below n);replace i:=aa (i.trans (Off.below n));go_wp2_with fail;refine (oF g).mono ?_;rintro e wi ⟨G,B⟩;rw[a4.out]at B;replace a:=aa (bP a (λq J=>G.block q (a.lt q J).2 (by have:=(a.lt q J).1;have:=E.out;omega)));replace i:=aa (i.trans G);replace g:=aa B.1
    ·have a3:=Jb hit;have V:=aa p;have a6:=aa A.1;have W:Hid (x.length<=400):=by have:=p.2;simp at this;show _<=_;omega
     obtain⟨_,vx,rfl,b6⟩:=B;rcases b6 with⟨_,e0⟩|⟨bb,oo,cc,rfl,a8,S,Y,t⟩
     ·exact absurd e0 a3
     have b0:=aa (oJ t (zE _ _) rfl);have a5:=i.size;go_wp2_with (at_builtin;refine yD _ rfl _ _ 24 rfl w.heap.size 92 i0 (.agg #[Vi 0,Vi 0]) 2 16 underlying24 hi b1 b2 b5 rfl (by decide) _ _ _ rfl a ⟨bb,oo,none⟩ x.length cc (aE x) rfl (dK x) b0 (uw x) (by unfold maxLen;have:=W.out;have:=O.out;omega) (by have:=W.out;have:=O.out;omega) a5 ?_;intro v3 w3 U T H;have b7:=aa (Ej U);have P:=aa T)
     go_roundg k'
     case measure=>omega
     case rel=>
      refine⟨i.grown P (λq e=>(a.lt q e).1),K++x,s2,?_,b7,HE,?_,?_,?_⟩
      ·exact g.grown P (λq e=>by have:=(a.lt q e).1;have:=E.out;omega)
      ·intro y M;rcases zM.1 M with M|M
       ·exact F y M
       ·exact V.1 y M
      ·have:=b3.out;have:=V.2;rw[zH];omega
      ·have:=a6.out;omega
    ·obtain⟨_,rfl⟩:=B;go_wp2
     go_ret2
     exact⟨i,by rw[<-HE.out];exact⟨rfl,_,g⟩⟩
theorem Hc (b:Nat)(s:ByteArray)(l:LZ)(d m:Int)(w:World)(r:LZ)(h:aP w b s l (91::r) d m):bk 214 b s l d m ((cJ r).map .set) w:=by
 unfold cJ;by_cases a:r.head?=some 94
 ·obtain⟨u,rfl⟩:∃u,r=94::u:=⟨_,eZ a⟩;simp only[yx,yd,yt,zG];exact IB h (.inl ⟨rfl,rfl⟩)
 ·rw[zR a,pC (r.length+1) [] r (xC _)];exact IB h (.inr ⟨rfl,a,rfl⟩)
theorem aP.deeper (h:aP w b s l r d m)(h1:d+1<=((l.length-r.length:Nat):Int)):aP ((w.setCell (aD b 2) (Vi (d+1))).setCell (aD b 3) (Vi (max m (d+1)))) b s l r (d+1) (max m (d+1)):=by
 have a:=h.2.2.2.2.2;exact⟨(ag.set h.1 2 _).set 3 _,h.2.1,h.2.2.1,h.2.2.2.1,h.2.2.2.2.1.off (((Off.refl b w).setCell 2 _).setCell 3 _) a.1,by omega⟩
theorem aP.setD (h:aP w b s l r d m)(x:Int)(h0:0<=x)(h1:x<=d):aP (w.setCell (aD b 2) (Vi x)) b s l r x m:=by
 have a:=h.2.2.2.2.2;exact⟨ag.set h.1 2 _,h.2.1,h.2.2.1,h.2.2.2.1,h.2.2.2.2.1.off ((Off.refl b w).setCell 2 _) a.1,by omega⟩
theorem aP.facts (h:aP w b s l r d m):0<=d/\d<=60/\0<=m/\m<=60:=by
 have:=h.2.2.2.2.2;have a:=eB h.2.2.1;rw[aL]at a;have:=h.2.2.2.1;omega
theorem aP.drew {w:World}{b:Nat}{s:ByteArray}{l r:LZ}{d m:Int}(h:aP w b s l r d m):aP w.drew b s l r d m:=h
theorem wJ {x:Nat}{M:Int}{q:Pat}{K mm nn:Int}(ho:Off b w0 w)(hp:PN w (dp w0) p x)(hs:aP w b s l r d M)
  (hq:∀(w':World) (y:Nat) (lv:Value),dp w0 y->ag w' y [Vi K,Vz,lv,Vi mm,Vi nn] 51->cB w' (dp w0) 47 1 lv 1 [ar x]->PN w' (dp w0) p x->PN w' (dp w0) q y) (hM:M=max m (d+q.deep)) :
  Off b w0 ((w.alloc (.cells #[ar x] 47)).alloc (.cells #[Vi K,Vz,Vs w.heap.size 1 1,Vi mm,Vi nn] 51)) /\
  sS b s l d m (.ok q r) w0 ((w.alloc (.cells #[ar x] 47)).alloc (.cells #[Vi K,Vz,Vs w.heap.size 1 1,Vi mm,Vi nn] 51)) (.returned (.tuple #[ar (w.heap.size+1),.bool true])):=by
 refine⟨(ho.alloc _).alloc _,w.heap.size+1,rfl,?_,?_⟩
 ·have e:(w.alloc (.cells #[ar x] 47)).heap.size=w.heap.size+1:=by simp
  have a:=ag.new (w.alloc (.cells #[ar x] 47)) [Vi K,Vz,Vs w.heap.size 1 1,Vi mm,Vi nn] 51;rw[e]at a;have f:=ho.size;refine hq _ _ (Vs w.heap.size 1 1) (by show w0.heap.size<=w.heap.size+1;omega) a ?_ ?_
  ·exact ((VE w x).mono (A':=dp w0) (λg _ c=>zJ f c)).keep (ah.alloc _ _ _)
  ·exact PN.keep ((ah.alloc _ _ _).trans (ah.alloc _ _ _)) p x hp
 ·rw[<-hM];exact (hs.alloc _).alloc _
theorem LM (R:Res Pat)(h:aP w b s l r d m)(hd:d+1<=((l.length-r.length:Nat):Int))
  (hc:∀w',aP w' b s l r (d+1) (max m (d+1))->bk 162 b s l (d+1) (max m (d+1)) R w'):Calls prog 183 #[Vp b,Vi 4,.func (.func 162) #[Vp b] #[]] w λe w'=>Off b w w'/\sS b s l d m (R.map Pat.not) w w' e:=by
 have Z:=aa h;have U:=aa hd;obtain⟨M,X,V,Y⟩:=h.facts;obtain⟨j,A,D,u,I⟩:=h.cells;have f:=h.1.frozen 2;have G:=h.1.frozen 3;have L:=aa (hc ((w.setCell (aD b 2) (Vi (d+1))).setCell (aD b 3) (Vi (max m (d+1)))).drew (h.deeper hd).drew);have c:Hid (Off b w ((w.setCell (aD b 2) (Vi (d+1))).setCell (aD b 3) (Vi (max m (d+1)))).drew):=(((Off.refl b w).setCell 2 _).setCell 3 _).drew;go_enter func183,ntmps183;go_wp2_with fail
 go_region
 go_wp2_with fail;refine L.mono ?_;rintro e B ⟨i,g⟩;have J:=aa (c.trans i);generalize hW:((w.setCell (aD b 2) (Vi (d+1))).setCell (aD b 3) (Vi (max m (d+1)))).drew=W1 at L c g;have H:Hid (w.heap.size<=W1.heap.size):=c.size;cases R with
 |bad q=>
  obtain⟨rfl,W,a⟩:=g;obtain⟨j,A,D,u,E⟩:=a.cells;have f:=a.1.frozen 2;have F:=aa (a.setD d M (by omega));have C:=aa (J.setCell 2 (Vi d));have T:d+1-1=d:=by omega
  go_wp2
  go_ret2
  exact⟨C,rfl,_,F⟩
 |ok p q=>
  obtain⟨x,rfl,n,a⟩:=g;obtain⟨j,A,D,u,E⟩:=a.cells;have f:=a.1.frozen 2;have t:=a.setD d M (by omega);have o:PN (B.setCell (aD b 2) (Vi d)) (dp w) p x:=PN.keep (ah.set _ (by show ¬w.heap.size<=b;omega)) p x (PN.mono (λk _ P=>zJ H P) p x n);have v:=aa (wJ (m:=m) (q:=Pat.not p) (K:=4) (mm:=0) (nn:=0) (J.setCell 2 (Vi d)) o t (λw' y N Q I O S=>⟨Q,N,x,I,O,S⟩) (by simp only[Pat.deep];omega));have z:(B.setCell (aD b 2) (Vi d)).heap.size=B.heap.size:=by simp[World.setCell]
  rw[z]at v;have T:d+1-1=d:=by omega
  go_wp2
  go_ret2
  exact v
theorem Pa (R:Res Pat)(h:aP w b s l r d m)(hd:d+1<=((l.length-r.length:Nat):Int))
  (hc:∀w',aP w' b s l r (d+1) (max m (d+1))->bk 49 b s l (d+1) (max m (d+1)) R w'):Calls prog 183 #[Vp b,Vi 6,.func (.func 49) #[Vp b] #[]] w λe w'=>Off b w w'/\sS b s l d m (R.map Pat.group) w w' e:=by
 have Z:=aa h;have U:=aa hd;obtain⟨M,X,V,Y⟩:=h.facts;obtain⟨j,A,D,u,I⟩:=h.cells;have f:=h.1.frozen 2;have G:=h.1.frozen 3;have L:=aa (hc ((w.setCell (aD b 2) (Vi (d+1))).setCell (aD b 3) (Vi (max m (d+1)))).drew (h.deeper hd).drew);have c:Hid (Off b w ((w.setCell (aD b 2) (Vi (d+1))).setCell (aD b 3) (Vi (max m (d+1)))).drew):=(((Off.refl b w).setCell 2 _).setCell 3 _).drew;go_enter func183,ntmps183;go_wp2_with fail
 go_region
 go_wp2_with fail;refine L.mono ?_;rintro e B ⟨i,g⟩;have J:=aa (c.trans i);generalize hW:((w.setCell (aD b 2) (Vi (d+1))).setCell (aD b 3) (Vi (max m (d+1)))).drew=W1 at L c g;have H:Hid (w.heap.size<=W1.heap.size):=c.size;cases R with
 |bad q=>
  obtain⟨rfl,W,a⟩:=g;obtain⟨j,A,D,u,E⟩:=a.cells;have f:=a.1.frozen 2;have F:=aa (a.setD d M (by omega));have C:=aa (J.setCell 2 (Vi d));have T:d+1-1=d:=by omega
  go_wp2
  go_ret2
  exact⟨C,rfl,_,F⟩
 |ok p q=>
  obtain⟨x,rfl,n,a⟩:=g;obtain⟨j,A,D,u,E⟩:=a.cells;have f:=a.1.frozen 2;have t:=a.setD d M (by omega);have o:PN (B.setCell (aD b 2) (Vi d)) (dp w) p x:=PN.keep (ah.set _ (by show ¬w.heap.size<=b;omega)) p x (PN.mono (λk _ P=>zJ H P) p x n);have v:=aa (wJ (m:=m) (q:=Pat.group p) (K:=6) (mm:=0) (nn:=0) (J.setCell 2 (Vi d)) o t (λw' y N Q I O S=>⟨Q,N,x,I,O,S⟩) (by simp only[Pat.deep];omega));have z:(B.setCell (aD b 2) (Vi d)).heap.size=B.heap.size:=by simp[World.setCell]
  rw[z]at v;have T:d+1-1=d:=by omega
  go_wp2
  go_ret2
  exact v
theorem Nu (ih:lP n)(h:aP w b s l (40::r) d m)(hn:r.length<n):bk 215 b s l d m ((aU true n r).bind λp q=>bV (.group p) 41 q) w:=by
 have K:=aa h;have f:Hid (Off b w w):=Off.refl _ _;have M:d+1<=((l.length-r.length:Nat):Int):=by have O:=h.2.2.2.2.2;have P:=h.2.1.length_le;simp only[zG]at O P;omega
 have J:=aa h.lt;have L:=aa (λ(w':World) (hw:aP w' b s l r d m)=>Pa (aU true n r) hw M (λN I=>ih b s l r (d+1) (max m (d+1)) N I hn));generalize aU true n r=RR at L ⊢;obtain⟨R,D⟩:∃R:Res Pat,Hid (R=RR.bind λp q=>bV (Pat.group p) 41 q):=⟨_,rfl⟩;rw[<-D.out];unfold bk;go_enter func215,ntmps215;go_wp2_with fail;refine (gH K).mono ?_;rintro e U ⟨rfl,t,v⟩;replace K:=aa t;replace f:=aa (f.trans v);go_wp2_with fail;refine (L _ K).mono ?_;rintro e N ⟨A,z⟩;have F:=aa f.size;replace f:=aa (f.trans A);cases RR with
 |bad q=>
  obtain⟨rfl,V,a⟩:=z;have c:=aa a;go_wp2
  go_ret2
  exact⟨f,by rw[D.out];exact⟨rfl,_,c⟩⟩
 |ok p q=>
  obtain⟨x,rfl,C,a⟩:=z;have c:=aa a;have H:=aa (PN.mono (A':=dp w) (λk _ T=>zJ F T) (.group p) x C);by_cases y:q.head?=some 41
  ·obtain⟨u,rfl⟩:∃u,q=41::u:=⟨_,eZ y⟩;have G:Hid ((Res.ok p (41::u)).bind (λp q=>bV (Pat.group p) 41 q)=.ok (Pat.group p) u):=by show _=_;simp[Res.bind,bV]
   go_wp2_with fail;refine (cT c).mono ?_;rintro e S ⟨rfl,B,i⟩;have o:=aa B;have E:=aa (PN.keep (ah.off i (yz J)) (.group p) x H);have g:=aa (f.trans i);go_wp2
   go_ret2
   exact⟨g,by rw[D.out,G.out];exact⟨x,rfl,E,o⟩⟩
  ·have G:Hid ((Res.ok p q).bind (λp q=>bV (Pat.group p) 41 q)=.bad q):=by show _=_;simp[Res.bind,bV,y]
   have Q:=aa y;go_wp2_with fail;refine (dv _ c (by decide) Q).mono ?_;rintro e S ⟨rfl,j⟩;have o:=aa (c.below j);have g:=aa (f.trans (Off.below j));go_wp2
   go_ret2
   exact⟨g,by rw[D.out,G.out];exact⟨rfl,_,o⟩⟩
theorem Nv (h:aP w b s l (46::t) d m):bk 195 b s l d m (.ok (.set tm) t) w:=by
 have g:=aa h;have i:Hid (Off b w w):=Off.refl _ _;unfold bk;go_enter func195,ntmps195;go_wp2_with fail;refine (bD g).mono ?_;rintro e p ⟨rfl,c⟩;replace g:=aa (g.below c);replace i:=aa (i.trans (Off.below c));simp only[ay];go_wp2_with fail;refine (gH g).mono ?_;rintro e p ⟨rfl,n,j⟩;replace g:=aa n;replace i:=aa (i.trans j);go_wp2_with fail;refine (SZ _).mono ?_;rintro e u ⟨x,rfl,a,f⟩;obtain⟨v,r,rfl,_,_⟩:=a.sl.rd;have o:=aa (mQ (i.trans (Off.below f)) (a.mono (A':=dp w) (λk _ q=>zJ i.size q)) (g.below f));go_wp2
 go_ret2
 exact o
theorem Nw (hc:jQ c=true)(h:aP w b s l (c::t) d m):bk 195 b s l d m (.ok (.set [(c,c)]) t) w:=by
 have g:=(db h.2.2.1).suf h.2.1 c (by simp);have u:Hid (Rn c):=.inr g;have r:0<=c:=by have:=(rune_iff c).1 g;omega
 have v:c<=1114111:=by have:=(rune_iff c).1 g;omega
 have f:cI c=false:=by simp[jQ]at hc;exact hc.2
 have F:(c==46)=false:=zD.2 (λe=>by subst e;simp[cI]at f);have H:(c==92)=false:=zD.2 (λe=>by subst e;simp[cI]at f);have C:(c==91)=false:=zD.2 (λe=>by subst e;simp[cI]at f);have G:(c==40)=false:=zD.2 (λe=>by subst e;simp[cI]at f);have z:=aa hc;have j:=aa h;have i:Hid (Off b w w):=Off.refl _ _;unfold bk;go_enter func195,ntmps195;go_wp2_with fail;refine (bD j).mono ?_;rintro e x ⟨rfl,a⟩;replace j:=aa (j.below a);replace i:=aa (i.trans (Off.below a));simp only[ay];go_wp2_with fail;refine (nD _ u).mono ?_;rintro e x ⟨rfl,a⟩;rw[z.out];replace j:=aa (j.below a);replace i:=aa (i.trans (Off.below a));go_wp2_with fail;refine (gH j).mono ?_;rintro e x ⟨rfl,p,q⟩;replace j:=aa p;replace i:=aa (i.trans q);go_wp2_with fail;refine (rk c _ r v).mono ?_;rintro e E ⟨D,rfl,n,o⟩;obtain⟨I,B,rfl,_,_⟩:=n.sl.rd;have y:=aa (mQ (i.trans (Off.below o)) (n.mono (A':=dp w) (λk _ A=>zJ i.size A)) (j.below o));go_wp2
 go_ret2
 exact y
theorem xq (hc:jQ (ay r)=false)(h1:ay r≠46)(h2:ay r≠92)(h3:ay r≠91)(h4:ay r≠40)(h:aP w b s l r d m):bk 195 b s l d m (.bad r) w:=by
 have g:Hid (Rn (ay r)):=nC h.2.2.1 h.2.1;have n:(ay r==46)=false:=zD.2 h1;have o:(ay r==92)=false:=zD.2 h2;have j:(ay r==91)=false:=zD.2 h3;have p:(ay r==40)=false:=zD.2 h4;have i:=aa hc;have c:=aa h;have f:Hid (Off b w w):=Off.refl _ _;unfold bk;go_enter func195,ntmps195;go_wp2_with fail;refine (bD c).mono ?_;rintro e k ⟨rfl,a⟩;replace c:=aa (c.below a);replace f:=aa (f.trans (Off.below a));generalize ay r=N at g i n o j p;go_wp2_with fail;refine (nD _ g).mono ?_;rintro e k ⟨rfl,a⟩;rw[i.out];replace c:=aa (c.below a);replace f:=aa (f.trans (Off.below a));go_wp2
 go_ret2
 exact⟨f,rfl,_,c⟩
theorem Ny (h:aP w b s l (92::t) d m):bk 195 b s l d m ((dx t).map jA) w:=by
 have y:=aa (λ(w9:World) (hw:aP w9 b s l _ d m)=>KV b s l d m w9 t hw);generalize (dx t).map jA=RR at y ⊢;obtain⟨R,v⟩:∃R:Res Pat,Hid (R=RR):=⟨_,rfl⟩;rw[<-v.out];have r:=aa h;have o:Hid (Off b w w):=Off.refl _ _;unfold bk;go_enter func195,ntmps195;go_wp2_with fail;refine (bD r).mono ?_;rintro e C ⟨rfl,c⟩;replace r:=aa (r.below c);replace o:=aa (o.trans (Off.below c));simp only[ay];go_wp2_with fail;refine (y _ r).mono ?_;rintro e D ⟨n,i⟩;have g:=aa (o.trans n);have A:=aa o.size;cases RR with
 |bad q=>
  obtain⟨rfl,B,a⟩:=i;have f:=aa a;go_wp2
  go_ret2
  exact⟨g,by rw[v.out];exact⟨rfl,_,f⟩⟩
 |ok p q=>
  obtain⟨x,rfl,j,a⟩:=i;have f:=aa a;have u:=aa (PN.mono (A':=dp w) (λk _ z=>zJ A z) p x j);go_wp2
  go_ret2
  exact⟨g,by rw[v.out];exact⟨x,rfl,u,f⟩⟩
theorem Nz (h:aP w b s l (91::t) d m):bk 195 b s l d m ((cJ t).map .set) w:=by
 have y:=aa (λ(w9:World) (hw:aP w9 b s l _ d m)=>Hc b s l d m w9 t hw);generalize (cJ t).map Pat.set=RR at y ⊢;obtain⟨R,v⟩:∃R:Res Pat,Hid (R=RR):=⟨_,rfl⟩;rw[<-v.out];have r:=aa h;have o:Hid (Off b w w):=Off.refl _ _;unfold bk;go_enter func195,ntmps195;go_wp2_with fail;refine (bD r).mono ?_;rintro e C ⟨rfl,c⟩;replace r:=aa (r.below c);replace o:=aa (o.trans (Off.below c));simp only[ay];go_wp2_with fail;refine (y _ r).mono ?_;rintro e D ⟨n,i⟩;have g:=aa (o.trans n);have A:=aa o.size;cases RR with
 |bad q=>
  obtain⟨rfl,B,a⟩:=i;have f:=aa a;go_wp2
  go_ret2
  exact⟨g,by rw[v.out];exact⟨rfl,_,f⟩⟩
 |ok p q=>
  obtain⟨x,rfl,j,a⟩:=i;have f:=aa a;have u:=aa (PN.mono (A':=dp w) (λk _ z=>zJ A z) p x j);go_wp2
  go_ret2
  exact⟨g,by rw[v.out];exact⟨x,rfl,u,f⟩⟩
theorem NA (ih:lP n)(hn:t.length<n)(h:aP w b s l (40::t) d m):bk 195 b s l d m ((aU true n t).bind λp q=>bV (.group p) 41 q) w:=by
 have z:=aa (λ(w9:World) (hw:aP w9 b s l _ d m)=>Nu ih hw hn);generalize ((aU true n t).bind λp q=>bV (Pat.group p) 41 q)=RR at z ⊢;obtain⟨R,y⟩:∃R:Res Pat,Hid (R=RR):=⟨_,rfl⟩;rw[<-y.out];have u:=aa h;have r:Hid (Off b w w):=Off.refl _ _;unfold bk;go_enter func195,ntmps195;go_wp2_with fail;refine (bD u).mono ?_;rintro e D ⟨rfl,c⟩;replace u:=aa (u.below c);replace r:=aa (r.trans (Off.below c));simp only[ay];go_wp2_with fail;refine (z _ u).mono ?_;rintro e E ⟨o,i⟩;have g:=aa (r.trans o);have B:=aa r.size;cases RR with
 |bad q=>
  obtain⟨rfl,C,a⟩:=i;have f:=aa a;go_wp2
  go_ret2
  exact⟨g,by rw[y.out];exact⟨rfl,_,f⟩⟩
 |ok p q=>
  obtain⟨x,rfl,j,a⟩:=i;have f:=aa a;have v:=aa (PN.mono (A':=dp w) (λk _ A=>zJ B A) p x j);go_wp2
  go_ret2
  exact⟨g,by rw[y.out];exact⟨x,rfl,v,f⟩⟩
theorem NB (ih:lP n)(h:aP w b s l r d m)(hn:r.length<=n):bk 195 b s l d m (dy (aU true n) r) w:=by
 cases r with
 |nil=>exact xq rfl (by decide) (by decide) (by decide) (by decide) h
 |cons c t=>
  have i:=(db h.2.2.1).suf h.2.1 c (by simp);simp only[zG]at hn;simp only[dy];by_cases g:c=40
  ·subst g;rw[zX rfl];exact NA ih (by omega) h
  rw[zR g];by_cases f:c=91
  ·subst f;rw[zX rfl];exact Nz h
  rw[zR f];by_cases a:c=46
  ·subst a;rw[zX rfl];exact Nv h
  rw[zR a];by_cases e:c=92
  ·subst e;rw[zX rfl];exact Ny h
  rw[zR e];cases hs:cI c with
  |true=>
   rw[zX rfl];exact xq (by simp[ay,jQ,hs]) a e f g h
  |false=>
   rw[zR (by decide)];exact Nw (by simp only[jQ,bne,mU i,hs];rfl) h
theorem iK (c:Int)(w:World):Calls prog 196 #[.int .i32 c] w λe w'=>e=.returned (.bool (da c))/\w'=w:=by
 go_enter func196,ntmps196;go_wp2
 all_goals (go_ret;exact⟨eM (by rw[ze];simp[da];omega),rfl⟩)
theorem AX (r:LZ):da (ay r)=df da r:=by
 cases r with
 |nil=>rfl
 |cons c t=>rfl
theorem vL (m:Int){x:Nat}(h:aP w b s l r d (max m (d+p.deep)))(ho:Off b w0 w)(hb0:b<w0.heap.size)(hp:PN w (dp w0) p x)(ht:df da r=true):Calls prog 197 #[Vp b,ar x] w λe w'=>Off b w0 w'/\sS b s l d m ((dn r).map λmn=>Pat.many p mn.1 mn.2) w0 w' e:=by
 have j:=aa (Py h ht);have g:=aa ho;have t:=aa hp;have o:=aa hb0;generalize dn r=RR at j ⊢;obtain⟨R,n⟩:∃R:Res Pat,Hid (R=RR.map λmn=>Pat.many p mn.1 mn.2):=⟨_,rfl⟩;rw[<-n.out];go_enter func197,ntmps197;go_wp2_with fail;refine j.mono ?_;rintro e C ⟨c,f⟩;replace t:=aa (PN.keep (ah.off c (yz o)) p x t);replace g:=aa (g.trans c);cases RR with
 |bad q=>
  obtain⟨a,v,u,rfl⟩:=f;have i:=aa a;go_wp2
  go_ret2
  exact⟨g,by rw[n.out];exact⟨rfl,_,i⟩⟩
 |ok mn q=>
  obtain⟨a,rfl⟩:=f;obtain⟨mm,nn⟩:=mn;have k:=aa (wJ (m:=m) (q:=.many p mm nn) (K:=5) (mm:=mm) (nn:=nn) g t a (λw' y A B z ho hp=>⟨B,A,x,z,ho,hp⟩) rfl);go_wp2
  go_ret2
  rw[n.out];exact k
def UK (w:World)(b:Nat)(s:ByteArray)(l:List Int)(d m:Int)(R:Res Pat)(k:Nat)(nv ov:Value)(wr:World):Prop:=Off b w wr /\
 ((∃p x s0,nv=ar x/\ov=.bool true/\PN wr (dp w) p x/\aP wr b s l s0 d (max m (d+p.deep))/\aY k p s0=R/\s0.length<k)\/(∃q m',nv=.pointer none/\ov=.bool false/\R=.bad q/\aP wr b s l q d m'))
theorem Qw (ih:lP n)(h:aP w b s l r d m)(hn:r.length<=n):bk 182 b s l d m (dR (aU true n) r) w:=by
 have HC:=aa (NB ih h hn);have T:=aa h.lt;have Q:Hid (dR (aU true n) r=(dy (aU true n) r).bind λx S=>aY (S.length+1) x S):=rfl;generalize dy (aU true n) r=R1 at HC Q;generalize dR (aU true n) r=R at Q ⊢;unfold bk;go_enter func182,ntmps182;go_wp2_with fail;refine HC.mono ?_;rintro e w1 ⟨X,a1⟩;have Z:=aa X;cases R1 with
 |bad q=>
  obtain⟨rfl,M,H⟩:=a1;have N:=aa H;have O:Hid (R=.bad q):=Q.out;go_wp2_with fail
  go_loopg [4,5] 1 (λk nv ov wr=>UK w b s l d m R k nv ov wr)
  case atStart=>exact⟨Z,.inr ⟨q,M,rfl,rfl,O,N⟩⟩
  case round=>
   obtain⟨V,v⟩:=hrel;have u:=aa V;rcases v with⟨p,x,i,rfl,rfl,W,G,I,U⟩|⟨q,M,rfl,rfl,K,G⟩
   ·have j:=aa G;have B:=aa W;have Y:=aa I;have c:=aa (AX i);obtain⟨E,rfl⟩:∃E,gk=E+1:=⟨gk-1,by omega⟩;have HK:=aa U;cases ht:df da i with
    |false=>
     have z:Hid (R=.ok p i):=by have:=Y.out;simp only[aY,ht,yR,if_false]at this;exact this.symm
     rw[ht]at c;go_wp2_with fail;refine (bD j).mono ?_;rintro e wi ⟨rfl,a⟩;replace j:=aa (j.below a);replace u:=aa (u.trans (Off.below a));replace B:=aa (PN.keep (ah.below a) p x B);generalize ay i=NN at c;go_wp2_with fail;refine (iK NN _).mono ?_;rintro e wj ⟨rfl,g⟩;have t:=g.symm;subst t;rw[c.out];go_wp2
     go_ret2
     exact⟨u,by rw[z.out];exact⟨x,rfl,B,j⟩⟩
    |true=>
     have HT:=aa ht;have D:=aa (fq i);have z:Hid ((dn i).bind (λL S=>aY E (.many p L.1 L.2) S)=R):=by have:=Y.out;simp only[aY,ht,yd]at this;exact this
     rw[ht]at c;go_wp2_with fail;refine (bD j).mono ?_;rintro e wi ⟨rfl,a⟩;replace j:=aa (j.below a);replace u:=aa (u.trans (Off.below a));replace B:=aa (PN.keep (ah.below a) p x B);generalize ay i=NN at c;go_wp2_with fail;refine (iK NN _).mono ?_;rintro e wj ⟨rfl,g⟩;have t:=g.symm;subst t;rw[c.out];go_wp2_with fail;refine (vL m j u T B HT).mono ?_;rintro e w5 ⟨C,A⟩;have F:=aa C;generalize dn i=RR at A z D;cases RR with
     |bad q=>
      obtain⟨rfl,M,f⟩:=A;have o:=aa f;go_wp2_with fail
      go_roundg E
      case measure=>omega
      case rel=>exact⟨F,.inr ⟨q,M,rfl,rfl,z.symm,o⟩⟩
     |ok L q=>
      obtain⟨y,rfl,J,f⟩:=A;have o:=aa f;have P:=aa J;go_wp2_with fail
      go_roundg E
      case measure=>omega
      case rel=>exact⟨F,.inl ⟨.many p L.1 L.2,y,q,rfl,rfl,P,o,z,by have:=D.1;have:=HK.out;omega⟩⟩
   ·have j:=aa G;have z:=aa K;go_wp2
    go_ret2
    exact⟨u,by rw[z.out];exact⟨rfl,_,j⟩⟩
 |ok p0 q0=>
  obtain⟨x0,rfl,a0,H⟩:=a1;have N:=aa H;have a2:=aa a0;have O:Hid (aY (q0.length+1) p0 q0=R):=Q.symm;go_wp2_with fail
  go_loopg [4,5] (q0.length+1) (λk nv ov wr=>UK w b s l d m R k nv ov wr)
  case atStart=>exact⟨Z,.inl ⟨p0,x0,q0,rfl,rfl,a2,N,O,xC _⟩⟩
  case round=>
   obtain⟨V,v⟩:=hrel;have u:=aa V;rcases v with⟨p,x,i,rfl,rfl,W,G,I,U⟩|⟨q,M,rfl,rfl,K,G⟩
   ·have j:=aa G;have B:=aa W;have Y:=aa I;have c:=aa (AX i);obtain⟨E,rfl⟩:∃E,gk=E+1:=⟨gk-1,by omega⟩;have HK:=aa U;cases ht:df da i with
    |false=>
     have z:Hid (R=.ok p i):=by have:=Y.out;simp only[aY,ht,yR,if_false]at this;exact this.symm
     rw[ht]at c;go_wp2_with fail;refine (bD j).mono ?_;rintro e wi ⟨rfl,a⟩;replace j:=aa (j.below a);replace u:=aa (u.trans (Off.below a));replace B:=aa (PN.keep (ah.below a) p x B);generalize ay i=NN at c;go_wp2_with fail;refine (iK NN _).mono ?_;rintro e wj ⟨rfl,g⟩;have t:=g.symm;subst t;rw[c.out];go_wp2
     go_ret2
     exact⟨u,by rw[z.out];exact⟨x,rfl,B,j⟩⟩
    |true=>
     have HT:=aa ht;have D:=aa (fq i);have z:Hid ((dn i).bind (λL S=>aY E (.many p L.1 L.2) S)=R):=by have:=Y.out;simp only[aY,ht,yd]at this;exact this
     rw[ht]at c;go_wp2_with fail;refine (bD j).mono ?_;rintro e wi ⟨rfl,a⟩;replace j:=aa (j.below a);replace u:=aa (u.trans (Off.below a));replace B:=aa (PN.keep (ah.below a) p x B);generalize ay i=NN at c;go_wp2_with fail;refine (iK NN _).mono ?_;rintro e wj ⟨rfl,g⟩;have t:=g.symm;subst t;rw[c.out];go_wp2_with fail;refine (vL m j u T B HT).mono ?_;rintro e w5 ⟨C,A⟩;have F:=aa C;generalize dn i=RR at A z D;cases RR with
     |bad q=>
      obtain⟨rfl,M,f⟩:=A;have o:=aa f;go_wp2_with fail
      go_roundg E
      case measure=>omega
      case rel=>exact⟨F,.inr ⟨q,M,rfl,rfl,z.symm,o⟩⟩
     |ok L q=>
      obtain⟨y,rfl,J,f⟩:=A;have o:=aa f;have P:=aa J;go_wp2_with fail
      go_roundg E
      case measure=>omega
      case rel=>exact⟨F,.inl ⟨.many p L.1 L.2,y,q,rfl,rfl,P,o,z,by have:=D.1;have:=HK.out;omega⟩⟩
   ·have j:=aa G;have z:=aa K;go_wp2
    go_ret2
    exact⟨u,by rw[z.out];exact⟨rfl,_,j⟩⟩
theorem Ma (R:Res Pat)(h:aP w b s l (126::t) d m)(ih:∀(d m:Int) (w:World),aP w b s l t d m->bk 162 b s l d m R w):bk 162 b s l d m (R.map .not) w:=by
 have u:=aa h;have r:Hid (Off b w w):=Off.refl _ _;have D:d+1<=((l.length-t.length:Nat):Int):=by have E:=h.2.2.2.2.2;have G:=h.2.1.length_le;simp only[zG]at E G;omega
 have A:=aa (λ(w':World) (hw:aP w' b s l t d m)=>LM R hw D (λC z=>ih (d+1) (max m (d+1)) C z));obtain⟨B,y⟩:∃B:Res Pat,Hid (B=R.map Pat.not):=⟨_,rfl⟩;rw[<-y.out];unfold bk;go_enter func162,ntmps162;go_wp2_with fail;refine (cT u).mono ?_;rintro e I ⟨rfl,g,j⟩;replace u:=aa g;replace r:=aa (r.trans j);go_wp2_with fail;refine (A _ u).mono ?_;rintro e C ⟨n,i⟩;have o:=aa (r.trans n);have H:=aa r.size;cases R with
 |bad q=>
  obtain⟨rfl,J,a⟩:=i;have c:=aa a;go_wp2
  go_ret2
  exact⟨o,by rw[y.out];exact⟨rfl,_,c⟩⟩
 |ok p q=>
  obtain⟨x,rfl,f,a⟩:=i;have c:=aa a;have v:=aa (PN.mono (A':=dp w) (λk _ F=>zJ H F) (.not p) x f);go_wp2
  go_ret2
  exact⟨o,by rw[y.out];exact⟨x,rfl,v,c⟩⟩
theorem CD (ih:lP n)(h:aP w b s l r d m)(hn:r.length<=n)(h1:r.head?≠some 126):bk 162 b s l d m (dR (aU true n) r) w:=by
 have u:=aa h;have t:Hid (Off b w w):=Off.refl _ _;have v:=aa (λ(w':World) (hw:aP w' b s l r d m)=>Qw ih hw hn);have C:=aa h1;generalize dR (aU true n) r=R at v ⊢;obtain⟨A,z⟩:∃A:Res Pat,Hid (A=R):=⟨_,rfl⟩;rw[<-z.out];unfold bk;go_enter func162,ntmps162;go_wp2_with fail;refine (dv _ u (by decide) C).mono ?_;rintro e E ⟨rfl,f⟩;replace u:=aa (u.below f);replace t:=aa (t.trans (Off.below f));go_wp2_with fail;refine (v _ u).mono ?_;rintro e F ⟨j,i⟩;have o:=aa (t.trans j);have D:=aa t.size;cases R with
 |bad q=>
  obtain⟨rfl,G,a⟩:=i;have c:=aa a;go_wp2
  go_ret2
  exact⟨o,by rw[z.out];exact⟨rfl,_,c⟩⟩
 |ok p q=>
  obtain⟨x,rfl,g,a⟩:=i;have c:=aa a;have y:=aa (PN.mono (A':=dp w) (λk _ B=>zJ D B) p x g);go_wp2
  go_ret2
  exact⟨o,by rw[z.out];exact⟨x,rfl,y,c⟩⟩
theorem Fv (n:Nat)(ih:lP n):∀(r:LZ) (b:Nat) (s:ByteArray) (l:LZ) (d m:Int) (w:World),aP w b s l r d m->r.length<=n->bk 162 b s l d m (dg (aU true n) r) w
 | [],b,s,l,d,m,w,h,hn=>CD ih h hn (by simp)
 |c::t,b,s,l,d,m,w,h,hn=>by
  simp only[dg];by_cases a:c=126
  ·subst a;rw[zX rfl];exact Ma _ h (λd m w e=>Fv n ih t b s l d m w e (by simp only[zG]at hn;omega))
  ·rw[zR a];exact CD ih h hn (by simpa using a)
theorem aP.setOther {w:World}{b:Nat}{s:ByteArray}{l r:LZ}{d m:Int}(h:aP w b s l r d m){p:Addr}(hp:b≠p.block)(h7:7<=p.block)(u:Value):aP (w.setCell p u) b s l r d m:=by
 have c:=h.2.2.2.2.2;refine⟨ag.setOther h.1 hp _,h.2.1,h.2.2.1,h.2.2.2.1,?_,c⟩;have a:=h.2.2.2.2.1;exact⟨by have:=a.1;simpa [World.setCell]using this,λW e=>a.2 W (λk f=>(e k f).trans (zk _ _ _ _ (by omega)))⟩
def pO (c:Int):Bool:=[126,46,92,91,40].contains c||jQ c
theorem KT {s:LZ}(h:dh s):pO (ay s)=!il true s:=by
 cases s with
 |nil=>rfl
 |cons c t=>
  have a:=(rune_iff c).1 h.head;simp only[ay,il,pO,jQ,Bool.true_and];rw[ze];simp[cI,mw,lR];omega
theorem pP (w:World)(hr:Rn c):Calls prog 161 #[.int .i32 c] w λe w'=>e=.returned (.bool (pO c))/\Bw w w':=by
 by_cases d:c=126
 ·subst d;go_enter func161,ntmps161;go_wp2;go_ret;exact⟨rfl,zE _ _⟩
 by_cases b:c=46
 ·subst b;go_enter func161,ntmps161;go_wp2;go_ret;exact⟨rfl,zE _ _⟩
 by_cases h:c=92
 ·subst h;go_enter func161,ntmps161;go_wp2;go_ret;exact⟨rfl,zE _ _⟩
 by_cases g:c=91
 ·subst g;go_enter func161,ntmps161;go_wp2;go_ret;exact⟨rfl,zE _ _⟩
 by_cases f:c=40
 ·subst f;go_enter func161,ntmps161;go_wp2;go_ret;exact⟨rfl,zE _ _⟩
 have p:(c==126)=false:=zD.2 d;have m:(c==46)=false:=zD.2 b;have n:(c==92)=false:=zD.2 h;have l:(c==91)=false:=zD.2 g;have q:(c==40)=false:=zD.2 f;have j:Hid (pO c=jQ c):=by show _=_;simp[pO,d,b,h,g,f]
 have k:=aa (nD w hr);generalize jQ c=B at j k;go_enter func161,ntmps161;go_wp2_with fail;refine k.mono ?_;rintro e o ⟨rfl,a⟩;have i:=aa a;go_wp2;go_ret;exact⟨eM j.symm,i⟩
def Xj (w:World)(b:Nat)(s:ByteArray)(l:List Int)(d m:Int)(n:Nat)(R:Res Pat)(k:Nat)(wr:World):Prop:=Off b w wr /\
 ∃L s0 v,aP wr b s l s0 d (max m (d+ce L))/\ag wr w.heap.size [Vi 1,Vz,v,Vi 0,Vi 0] 51/\LP w w.heap.size v L wr/\cG true (aU true n) k L s0=R/\s0.length<k/\L.length+s0.length<=60/\s0.length<=n
theorem jZ :max (max m (d+(ce L:Int))) (d+(p.deep:Int))=max m (d+(ce (L++[p]):Int)):=by rw[mK];omega
theorem Rj (ih:lP n)(b:Nat)(s:ByteArray)(l:LZ)(d m:Int)(w:World)(r:LZ)(h:aP w b s l r d m)(hn:r.length<=n):bk 120 b s l d m (fR true (aU true n) r) w:=by
 have y:=h.lt;have h7:=h.2.2.2.2.2.1;have b0:l.length<=60:=by have:=eB h.2.2.1;rw[aL]at this;have:=h.2.2.2.1;omega
 have b8:=h.2.1.length_le;have E:=aa (show Xj w b s l d m n (fR true (aU true n) r) (r.length+1) (w.alloc (.cells #[Vi 1,Vz,Vz,Vi 0,Vi 0] 51))from by
  refine⟨(Off.refl b w).alloc _,[],r,Vz,?_,ag.new w [Vi 1,Vz,Vz,Vi 0,Vi 0] 51,LP.nil _ _ _,rfl,by omega,by simp;omega,hn⟩;have e:max m (d+((ce []:Nat):Int))=m:=by have:=h.2.2.2.2.2;simp[ce];omega
  rw[e];exact h.alloc _)
 have a7:=aa ih;generalize hR:fR true (aU true n) r=R at E ⊢;unfold bk;go_enter func120,ntmps120;go_wp2_with fail
 go_loopg [] (r.length+1) (λk wr=>Xj w b s l d m n R k wr)
 case atStart=>exact E
 case round=>
  obtain⟨ho,L,o,v,N,hx,T,Q,hk,b7,a2⟩:=hrel;have D:=(db N.2.2.1).suf N.2.1;have i:=aa (KT D);have A:Hid (Rn (ay o)):=nC N.2.2.1 N.2.1;have g:=aa ho;have j:=aa N;have u:=aa hx;have c:=aa T;have HE:=aa Q;obtain⟨X,rfl⟩:∃X,gk=X+1:=⟨gk-1,by omega⟩;cases hre:il true o with
  |true=>
   have V:Hid (R=.ok (.row L) o):=by have:=HE.out;simp only[cG,hre,yd]at this;exact this.symm
   rw[hre]at i;go_wp2_with fail;refine (bD j).mono ?_;rintro e wi ⟨rfl,a⟩;replace j:=aa (j.below a);replace g:=aa (g.trans (Off.below a));replace u:=aa (u.below a);replace c:=aa (c.keep (Off.below a) (.inl y));generalize ay o=NN at i A;go_wp2_with fail;refine (pP _ A).mono ?_;rintro e wj ⟨rfl,a⟩;replace j:=aa (j.below a);replace g:=aa (g.trans (Off.below a));replace u:=aa (u.below a);replace c:=aa (c.keep (Off.below a) (.inl y));rw[i.out];go_wp2
   go_ret2
   obtain⟨xs,o1,o2⟩:=c.out.own;exact⟨g,by rw[V.out];exact⟨w.heap.size,rfl,⟨zA _,by omega,v,xs,u,o1,o2⟩,j⟩⟩
  |false=>
   have V:Hid ((dg (aU true n) o).bind (λp s'=>cG true (aU true n) X (L++[p]) s')=R):=by have:=HE.out;simp only[cG,hre,yR,if_false]at this;exact this
   have C:=aa (kJ (fU true n) o);rw[hre]at i;go_wp2_with fail;refine (bD j).mono ?_;rintro e wi ⟨rfl,a⟩;replace j:=aa (j.below a);replace g:=aa (g.trans (Off.below a));replace u:=aa (u.below a);replace c:=aa (c.keep (Off.below a) (.inl y));generalize ay o=NN at i A;go_wp2_with fail;refine (pP _ A).mono ?_;rintro e wj ⟨rfl,a⟩;replace j:=aa (j.below a);replace g:=aa (g.trans (Off.below a));replace u:=aa (u.below a);replace c:=aa (c.keep (Off.below a) (.inl y));rw[i.out];go_wp2_with fail;refine (Fv n a7 o b s l d _ _ j a2).mono ?_;rintro e w1 ⟨f,J⟩;generalize dg (aU true n) o=RR at J V C;cases RR with
   |bad q=>
    obtain⟨rfl,m',z⟩:=J;have I:=aa z;have a1:Hid (R=.bad q):=V.symm;replace g:=aa (g.trans f);go_wp2
    go_ret2
    exact⟨g,by rw[a1.out];exact⟨rfl,_,I⟩⟩
   |ok p q=>
    obtain⟨x,rfl,S,z⟩:=J;obtain⟨xs,M,l2,l3⟩:=c.out;obtain⟨ao,b9,rfl⟩:=ew M;have b1:=f.size;have O:=g.size;have B:=u.off f (by omega);have x2:=B.cell 2;simp only[List.getElem?_cons_succ,List.getElem?_cons_zero]at x2;have b6:=B.lt;have W:=bP M (λq hq=>f.block q (M.lt q hq).2 (by have:=(M.lt q hq).1;omega));have a6:=aa W;have U:=aa B;have I:=aa z;have Z:=aa S;have Y:=aa f;have a8:=aa (g.trans f);have H1:=aa M;have H2:=aa l2;have H3:=aa l3;have b5:L.length<=60:=by omega
    go_wp2_with (at_builtin;refine gM rfl (.tmp 23) (.tmp 25) rfl w.heap.size L.length _ _ rfl (a6.alloc _) (aD w1.heap.size 0) [ar x] rfl rfl (lw _ _) (lx _) (by omega) (by simp;omega) ?_;intro v3 w3 F G P;obtain⟨b3,a9,rfl⟩:=ew F;have t:=(U.alloc (.cells #[ar x] 47)).grown G (λe=>H2 e.symm);have b4:=t.frozen 2;have a0:=t.cell 2;simp only[List.getElem?_cons_succ,List.getElem?_cons_zero]at a0;have b2:=t.lt;have a3:=aa t;have a5:=aa F;have K:=aa G;have a4:=aa P)
    go_roundg X
    case measure=>omega
    case rel=>
     have H:=LP.push (b:=b) H1 H2 H3 y (by have:=U.lt;have:=u.lt;omega) O Y Z a5 K a4;refine⟨((a8.alloc _).grown K (λq e=>(H1.lt q e).1)).setNew (zA _) _,L++[p],q,_,?_,a3.set 2 _,H.keep ((Off.refl w.heap.size w3).setCell 2 _) (.inr rfl),V,?_,?_,?_⟩
     ·rw[<-jZ];exact ((I.alloc _).grown K (λq e=>by have:=(H1.lt q e).1;omega)).setOther (p:=(aD w.heap.size 2)) (by show b≠w.heap.size;omega) (by show 7<=w.heap.size;omega) _
     ·have:=C.1;omega
     ·have:=C.1;rw[zH];simp only[zG,zh];omega
     ·have:=C.1;omega
def DP (w:World)(b:Nat)(s:ByteArray)(l:List Int)(d m:Int)(n:Nat)(part:List Int->Res Pat)(sign:Int)(mk:List Pat->Pat)(R:Res Pat)(k:Nat)(v:Value)(wr:World):Prop:=Off b w wr /\
 ∃L s0,aP wr b s l s0 d (max m (d+ce L))/\LP w b v L wr/\bE part sign mk k L s0=R/\s0.length<k/\L.length+s0.length<=60/\s0.length<=n
theorem rE (h:w.ownsRow B 47 1 v (n+1) xs):∃g cap,v=Vs g (n+1) cap/\B<=g/\g<w.heap.size:=by
 rcases h.2 with⟨_,c⟩|⟨g,cap,b,rfl,a,_⟩
 ·omega
 ·exact⟨g,cap,rfl,a,(h.lt g rfl).2⟩
theorem CU {g cap:Nat}{x:Value}(h:w.ownsRow B 47 1 (Vs g n cap) n (x::xs)):w.cell? (aD g 0)=some x:=by
 have:=h.cells rfl 0 x rfl;rw[zl]at this;simpa using this
theorem aaM {part:List Int->Res Pat}{F:Nat}{sg kd:Int}{mk:List Pat->Pat}(hk:(F=79/\sg=124/\kd=2/\mk=Pat.or)\/(F=120/\sg=38/\kd=3/\mk=Pat.and))(h:aP w b s l r d m)(hn:r.length<=n)
  (hc:∀(r:LZ) (d m:Int) (w:World),aP w b s l r d m->r.length<=n->bk F b s l d m (part r) w) (hgo:∀s,cN (part s) s):Calls prog 78 #[Vp b,.int .i32 sg,Vi kd,.func (.func F) #[Vp b] #[]] w λe w'=>Off b w w'/\sS b s l d m (bE part sg mk (r.length+1) [] r) w w' e:=by
 have z:=h.lt;have c0:l.length<=60:=by have:=eB h.2.2.1;rw[aL]at this;have:=h.2.2.2.1;omega
 have c4:=h.2.1.length_le;have G:=aa (show DP w b s l d m n part sg mk (bE part sg mk (r.length+1) [] r) (r.length+1) (Vz) w from by
  refine⟨Off.refl b w,[],r,?_,LP.nil _ _ _,rfl,by omega,by simp;omega,hn⟩;have e:max m (d+((ce []:Nat):Int))=m:=by have:=h.2.2.2.2.2;simp[ce];omega
  rw[e];exact h)
 have HC:=aa hc;have b7:=aa hgo;generalize bE part sg mk (r.length+1) [] r=R at G ⊢;generalize hJ:DP w b s l d m n part sg mk R=J at G;have HJ:=aa hJ;clear h hc hn hgo hJ;rcases hk with⟨rfl,rfl,rfl,rfl⟩|⟨rfl,rfl,rfl,rfl⟩
 all_goals
  go_enter func78,ntmps78;go_wp2_with fail
  go_loopg [10] (r.length+1) (λk v wr=>J k v wr)
  case atStart=>exact G
  case round=>
   clear G;rw[<-HJ.out]at hrel;obtain⟨ho,L,s0,hs,b5,S,hk,c3,b4⟩:=hrel;have HO:=aa ho;have HS:=aa hs;obtain⟨k',rfl⟩:∃k',gk=k'+1:=⟨gk-1,by omega⟩;have a1:=aa (b7 s0);simp only[bE]at S;have HR:=aa S;obtain⟨xs,l1,l2,l3⟩:=b5;obtain⟨ao,c5,rfl⟩:=ew l1;have H:=aa l1;have H2:=aa l2;have H3:=aa l3;clear ho hs S l1 l2 l3;go_wp2_with fail;refine (HC s0 d _ _ HS b4).mono ?_;rintro e w1 ⟨f,Z⟩;generalize part s0=RR at Z HR a1;cases RR with
   |bad q=>
    obtain⟨rfl,m',C⟩:=Z;have I:=aa C;have B:Hid (R=.bad q):=HR.symm;replace HO:=aa (HO.trans f);clear C f;go_wp2
    go_ret2
    exact⟨HO,by rw[B.out];exact⟨rfl,_,I⟩⟩
   |ok p q=>
    obtain⟨x,rfl,a0,C⟩:=Z;have b9:=f.size;have j:=HO.size;have a8:=aa (bP H (λq P=>f.block q (H.lt q P).2 (by have:=(H.lt q P).1;omega)));have I:=aa C;have a5:=aa a0;have a7:=aa f;have a9:=aa (HO.trans f);have c7:L.length<=60:=by omega
    have b8:q.length<=s0.length:=(show q <:+ s0 from a1).length_le;have M:=HR.out;simp only[Res.bind]at M;clear C a0 f
    split at M
    ·rename_i P
     obtain⟨u,rfl⟩:∃u,q=_::u:=⟨_,eZ P⟩;have B:=aa M;simp only[zG]at b8;clear P M;go_wp2_with (first
      |(at_builtin;refine gM rfl (.tmp 20) (.tmp 22) rfl w.heap.size L.length _ _ rfl (a8.alloc _) (aD w1.heap.size 0) [ar x] rfl rfl (lw _ _) (lx _) (by omega) (by simp;omega) ?_;intro v3 w3 c i A;have K:=aa ((I.alloc (.cells #[ar x] 47)).grown i (λq e=>by have:=(H.lt q e).1;omega));have W:=aa c;have E:=aa i;have X:=aa A;clear c i A)
      |(go_at_call 119;refine (cT K).mono ?_;rintro e w4 ⟨rfl,a4,a2⟩;have U:=aa a4;have b0:=aa a2;clear a4 a2))
     go_roundg k'
     case measure=>omega
     case rel=>
      have g:=LP.push (b:=b) H H2 H3 z (zF z j) j a7 a5 W E X;rw[<-HJ.out];refine⟨((a9.alloc _).grown E (λq e=>(H.lt q e).1)).trans b0,L++[p],u,?_,g.keep b0 (.inl z),B,?_,?_,?_⟩
      ·rw[<-jZ];exact U
      ·omega
      ·rw[zH];simp only[zG,zh];omega
      ·omega
    ·rename_i P
     have HQ:=aa P;have B:=aa M.symm;clear P M;obtain⟨b1,b6,Q⟩|⟨b1,b6,hL,Q⟩:((((L.length:Nat):Int)+1==1)=false/\((((L.length+1:Nat)):Int)==1)=false/\L≠[])\/((((L.length:Nat):Int)+1==1)=true/\((((L.length+1:Nat)):Int)==1)=true/\L=[]/\xs=[]):=by
      cases L with
      |nil=>exact .inr ⟨rfl,rfl,rfl,zq.1 (PL.len [] xs H3)⟩
      |cons a t=>exact .inl ⟨by simp;omega,by simp;omega,by simp⟩
     all_goals
      try (subst Q;have b2:=aa hL;clear hL)
      go_wp2_with (first
       |(at_builtin;refine gM rfl (.tmp 20) (.tmp 22) rfl w.heap.size L.length _ _ rfl (a8.alloc _) (aD w1.heap.size 0) [ar x] rfl rfl (lw _ _) (lx _) (by omega) (by simp;omega) ?_;intro v3 w3 c i A;have K:=aa ((I.alloc (.cells #[ar x] 47)).grown i (λq e=>by have:=(H.lt q e).1;omega));have W:=aa c;have E:=aa i;have X:=aa A;obtain⟨g3,a3,rfl,c1,O⟩:=rE c;try have o:=CU c;clear c i A)
       |(go_at_call 119;refine (dv _ K (by decide) HQ).mono ?_;rintro e w4 ⟨rfl,D⟩;have U:=aa (K.below D);have a6:=aa D;try rw[<-D.cell (p:=(aD g3 0)) O]at o;have c6:=zF O D.size;clear D))
      go_ret2
      have g:=LP.push (b:=b) H H2 H3 z (zF z j) j a7 a5 W E X;obtain⟨ys,o1,o2⟩:=(g.keep (Off.below a6.out) (.inl z)).own;have T:=((a9.alloc (.cells #[ar x] 47)).grown E (λq e=>(H.lt q e).1)).trans (Off.below (b:=b) a6);have Y:=U.out;rw[jZ]at Y;rw[B.out]
     ·have c2:1<=L.length:=by cases L with|nil=>exact absurd rfl Q|cons a t=>simp
      have N:(L++[p]).length=L.length+1:=by simp
      exact⟨T.alloc _,w4.heap.size,rfl,⟨by rw[N];omega,ys,PL.keep (ah.alloc _ _ _) _ ys o2,.inr ⟨by rw[N];omega,T.size,_,ag.new w4 [Vi _,Vz,Vs g3 (L.length+1) a3,Vi 0,Vi 0] 51,o1.keep (ah.alloc _ _ _)⟩⟩,Y.alloc _⟩
     ·obtain rfl:=b2.out;refine⟨T,x,rfl,⟨by simp,ys,o2,.inl ⟨rfl,?_⟩⟩,Y⟩;obtain⟨y,r,rfl,_,M⟩:=o2;have b3:r=[]:=M;subst b3;have hy:=o1.1.cells rfl 0 (ar y) rfl;rw[zl]at hy;have V:w4.cell? (aD g3 0)=some (ar y):=by simpa using hy
      rw[o]at V;simp only[yG,Value.pointer.injEq,xK,yK]at V;rw[V]
theorem aaN {F:Nat}{RR:Res Pat}{vs:Array Value}(hF:(F=79/\vs=#[Vp b,.int .i32 38,Vi 3,.func (.func 120) #[Vp b] #[]])\/(F=49/\vs=#[Vp b,.int .i32 124,Vi 2,.func (.func 79) #[Vp b] #[]]))
  (h:Calls prog 78 vs w λe w'=>Off b w w'/\sS b s l d m RR w w' e):bk F b s l d m RR w:=by
 have o:=aa h;obtain⟨R,n⟩:∃R:Res Pat,Hid (R=RR):=⟨_,rfl⟩;rw[<-n.out];unfold bk;rcases hF with⟨rfl,rfl⟩|⟨rfl,rfl⟩
 all_goals
  first|go_enter func79,ntmps79|go_enter func49,ntmps49
  go_wp2_with fail;refine o.mono ?_;rintro e r ⟨i,g⟩;have j:=aa i;cases RR with
  |bad q=>
   obtain⟨rfl,t,a⟩:=g;have c:=aa a;go_wp2
   go_ret2
   exact⟨j,by rw[n.out];exact⟨rfl,_,c⟩⟩
  |ok p q=>
   obtain⟨x,rfl,f,a⟩:=g;have c:=aa a;have k:=aa f;go_wp2
   go_ret2
   exact⟨j,by rw[n.out];exact⟨x,rfl,k,c⟩⟩
theorem WK (ih:lP n)(h:aP w b s l r d m)(hn:r.length<=n):bk 49 b s l d m (JE true (aU true n) r) w :=
 aaN (.inr ⟨rfl,rfl⟩) (aaM (.inl ⟨rfl,rfl,rfl,rfl⟩) h hn (λ_ _ _ _ h hn=>aaN (.inl ⟨rfl,rfl⟩) (aaM (.inr ⟨rfl,rfl,rfl,rfl⟩) h hn (λr d m w h hn=>Rj ih b s l d m w r h hn) (oO (fU true n)))) (oP (fU true n)))
theorem Kq:∀n,lP n
 |0=>λ_ _ _ _ _ _ _ _ a=>absurd a (Nat.not_lt_zero _)
 |n+1=>λb s l r d m w h a=>WK (Kq n) h (Nat.le_of_lt_succ a)
def Yk (w:World)(bs:List UInt8)(k:Nat)(iv:Value)(wr:World):Prop:=∃pre:List Int,uM bs pre/\iv=Vi (aC pre.length bs)/\Below w.heap.size w wr/\bs.length-aC pre.length bs<=k
theorem KH (s:ByteArray)(hT:jz w)(hs:s.size<=1000):Calls prog 48 #[.string s] w λe w'=>Bw w w' /\
  ((∃l,Runes (af s) l/\e=.returned (.tuple #[Vi 0,.bool false]))\/(∃k:Nat,Broken (af s) k/\e=.returned (.tuple #[Vi k,.bool true]))):=by
 have L:=aa hT;have a:=aa (aL s);go_enter func48,ntmps48;go_wp2_with fail
 go_loopg [4] s.size (λk iv wr=>Yk w (af s) k iv wr)
 case atStart=>exact⟨[],CN _,rfl,zE _ _,by rw[a.out];simp⟩
 case round=>
  obtain⟨i,p,rfl,j,B⟩:=hrel;have u:=p.1;rw[a.out]at u B;have q:=aa p;have m:=aa j;have t:=aa (mN s (aC i.length (af s)));generalize hP:aC i.length (af s)=P at u B t;have r:=aa hP;have O:(0:Int)<=(P:Int):=zK _;have Q:(P:Int)<=(s.size:Int):=by omega
  by_cases G:P<s.size
  ·have J:(P:Int)<(s.size:Int):=by omega
   have g:(af s).drop P≠[]:=by intro e;have:=congrArg List.length e;rw[yO,a.out,zh]at this;omega
   have f:=fj g;have n:=aa (λ(w':World) (hw:jz w')=>BQ (s.extract P s.size) hw (by rw[vX];omega));rw[t.out]at n;have o:=aa (L.below m);by_cases d:aS ((af s).drop P)=cx
   ·have y:Hid (Broken (af s) P):=by
     have:=q.2.2 0 (by rw[r.out];exact .here g d);rw[r.out]at this;exact this
    rw[d]at n;simp only[cx]at n;go_wp2_with (go_at_call 77;refine (n _ o).mono ?_;rintro e z ⟨rfl,c⟩;have h:=aa c)
    go_ret2
    exact⟨m.trans (h.mono m.size),.inr ⟨P,y,rfl⟩⟩
   ·have b:=aa (AD q (by rw[r.out];exact g) (by rw[r.out];exact d));rw[r.out]at b;rw[yO,a.out]at f;generalize hD:aS ((af s).drop P)=D at n d b f;obtain⟨C,Z⟩:=D;obtain⟨K,N,I,E⟩:=f;simp only at K N I E n b;by_cases v:C=65533
    ·have M:¬Z=1:=λe=>d (by rw[v,e];rfl);subst v;have H:((Z:Int)==1)=false:=zD.2 (by omega);have F:(Z==1)=false:=zD.2 M;go_wp2_with (go_at_call 77;refine (n _ o).mono ?_;rintro e z ⟨rfl,c⟩;have h:=aa c)
     go_roundg (gk-1)
     case measure=>omega
     case rel=>
      refine⟨_,b.1,?_,m.trans (h.mono m.size),?_⟩
      ·rw[zH,zo,b.out.2];go_num
      ·rw[a.out,zH,zo,b.out.2];omega
    ·have H:((C:Int)==65533)=false:=zD.2 (by omega);have F:(C==65533)=false:=zD.2 v;go_wp2_with (go_at_call 77;refine (n _ o).mono ?_;rintro e z ⟨rfl,c⟩;have h:=aa c)
     go_roundg (gk-1)
     case measure=>omega
     case rel=>
      refine⟨_,b.1,?_,m.trans (h.mono m.size),?_⟩
      ·rw[zH,zo,b.out.2];go_num
      ·rw[a.out,zH,zo,b.out.2];omega
  ·have J:decide ((P:Int)<(s.size:Int))=false:=zI (by omega);have x:Hid (Runes (af s) i):=by
    have A:=q.2.1 [] (by rw[r.out,List.drop_eq_nil_of_le (by rw[a.out];omega)];exact .nil);rw[zx]at A;exact A
   go_wp2
   go_ret2
   exact⟨m,.inl ⟨i,x,rfl⟩⟩
def KI (s:ByteArray)(w:World)(e:Ending)(w':World):Prop:=Below w.heap.size w w'/\∃nv er place op,jW (af s) (er,place,op)/\e=.returned (.tuple #[nv,Vi er,Vi place]) /\
 match op with|some p=>∃x,nv=ar x/\PN w' (dp w) p x|none=>nv=.pointer none
theorem KJ (s:ByteArray)(w:World)(hs:60<s.size)(hm:s.size<=9223372036854775807):Calls prog 22 #[.string s] w λe w'=>KI s w e w':=by
 have a:=aa hs;have b:decide ((60:Int)<(s.size:Int))=true:=zv (by omega);go_enter func22,ntmps22;go_wp2;refine zN (v:=.tuple #[.pointer none,Vi 2,Vi 0]) (by simp[results,results22,go_sem]) rfl ?_;exact⟨zE _ _,_,2,0,none,.inl ⟨by rw[aL];exact a,rfl⟩,rfl,rfl⟩
theorem UW (h:aU true (l.length+1) l=.bad q)(bs:List UInt8):dz bs l=(4,(aC (l.length-q.length) bs:Int),none):=by
 unfold dz;rw[Ba,h];rfl
theorem QT (h:aU true (l.length+1) l=.ok p (c::t))(bs:List UInt8):dz bs l=(4,(aC (l.length-(c::t).length) bs:Int),none):=by
 unfold dz;rw[Ba,h];simp only[oq]
 split
 ·rename_i h1;split at h1
  ·cases h1;rfl
  ·cases h1
 ·rename_i h1;split at h1
  ·cases h1
  ·cases h1;rfl
 ·rename_i h1;split at h1
  ·cases h1
  ·cases h1
theorem UX (h:aU true (l.length+1) l=.ok p [])(bs:List UInt8):dz bs l=if 8<p.deep then (5,0,none)else (0,0,some p):=by
 unfold dz;rw[Ba,h];rfl
theorem GZ (s:ByteArray)(hT:jz w)(hs:s.size<=60):Calls prog 22 #[.string s] w λe w'=>KI s w e w':=by
 have HS:=aa hs;have D:Hid ((af s).length<=60):=by show _<=_;rw[aL];exact hs
 have HC:=aa (KH s hT (by omega));have Y:=aa hT;have hd:decide ((60:Int)<(s.size:Int))=false:=zI (by omega);go_enter func22,ntmps22;go_wp2_with fail;refine HC.mono ?_;rintro e n ⟨u,r⟩;have h:=aa u;have E:=aa (Y.below u);rcases r with⟨l,o,rfl⟩|⟨k,G,rfl⟩
 ·have i:=aa o;have K:aP (n.alloc (.cells #[.string s,Vi 0,Vi 0,Vi 0] 120)) n.heap.size s l l 0 0:=by
   refine⟨?_,List.suffix_refl l,o,hs,E.below ((zE _ _).alloc (zA _) _),E.1,by simp⟩;have:=ag.new n [.string s,Vi 0,Vi 0,Vi 0] 120;simpa [YQ,aC]using this
  have S:=aa (Kq (l.length+1) n.heap.size s l l 0 0 _ K (xC _));go_wp2_with fail;refine S.mono ?_;rintro e N ⟨L,j⟩;have g:Hid (Bw w N):=h.trans ((((zE _ n).alloc (zA _) _).trans (L.toBelow (zA _) (by simp))).mono h.size);cases hr:aU true (l.length+1) l with
  |bad q=>
   rw[hr]at j;obtain⟨rfl,m',a⟩:=j;have b:=aa (UW hr (af s));obtain⟨B,J,z,M,H⟩:=a.cells;generalize aC (l.length-q.length) (af s)=PO at J b;go_wp2_with fail
   go_region
   go_wp2_with fail;refine zN (v:=.tuple #[.pointer none,Vi 4,Vi PO]) (by simp[results,results22,go_sem]) rfl ?_;exact⟨aR g,_,4,PO,none,.inr (.inr ⟨D,l,i,b.symm⟩),rfl,rfl⟩
  |ok p q=>
   rw[hr]at j;obtain⟨x,rfl,I,a⟩:=j;have Q:Hid (PN N (dp w) p x):=PN.mono (λk _ X=>by have U:(n.alloc (.cells #[.string s,Vi 0,Vi 0,Vi 0] 120)).heap.size<=k:=X;have:=h.size;simp at U;show w.heap.size<=k;omega) p x I;cases q with
   |cons c t=>
    have b:=aa (QT hr (af s));have f:=aa (bD a);have C:=(db a.2.2.1).suf a.2.1 c (by simp);have O:(c==-1)=false:=mU C;have V:(c != -1)=true:=by rw[bne,O];rfl
    have y:=aa a;simp only[ay]at f;go_wp2_with fail;refine f.mono ?_;rintro e W ⟨rfl,d⟩;obtain⟨B,J,z,M,H⟩:=(y.out.below d).cells;have m:=aa (g.trans (d.mono g.size));generalize aC (l.length-(c::t).length) (af s)=PO at J b;go_wp2_with fail
    go_region
    go_wp2_with fail;refine zN (v:=.tuple #[.pointer none,Vi 4,Vi PO]) (by simp[results,results22,go_sem]) rfl ?_;exact⟨aR m,_,4,PO,none,.inr (.inr ⟨D,l,i,b.symm⟩),rfl,rfl⟩
   |nil=>
    have b:=aa (UX hr (af s));have f:=aa (bD a);have y:=aa a;simp only[ay]at f;go_wp2_with fail;refine f.mono ?_;rintro e W ⟨rfl,d⟩;have F:=y.below d;obtain⟨B,J,z,M,H⟩:=F.cells;have m:=aa (g.trans (d.mono g.size));have P:=aa (PN.keep (ah.below d) p x Q);have Z:max 0 (0+(p.deep:Int))=(p.deep:Int):=by omega
    rw[Z]at M;by_cases A:8<p.deep
    ·have R:(8:Int)<(p.deep:Int):=by omega
     rw[zX A]at b;go_wp2;refine zN (v:=.tuple #[.pointer none,Vi 5,Vi 0]) (by simp[results,results22,go_sem]) rfl ?_;exact⟨m,_,5,0,none,.inr (.inr ⟨D,l,i,b.symm⟩),rfl,rfl⟩
    ·have R:decide ((8:Int)<(p.deep:Int))=false:=zI (by omega);rw[zR A]at b;go_wp2;refine zN (v:=.tuple #[ar x,Vi 0,Vi 0]) (by simp[results,results22,go_sem]) rfl ?_;exact⟨m,_,0,0,some p,.inr (.inr ⟨D,l,i,b.symm⟩),rfl,x,rfl,P⟩
 ·have T:=aa G;go_wp2;refine zN (v:=.tuple #[.pointer none,Vi 3,Vi k]) (by simp[results,results22,go_sem]) rfl ?_;exact⟨h,_,3,k,none,.inr (.inl ⟨D,k,T,rfl⟩),rfl,rfl⟩
theorem NC (s:ByteArray)(hT:jz w)(hm:s.size<=9223372036854775807):Calls prog 22 #[.string s] w λe w'=>KI s w e w':=by
 by_cases h:s.size<=60
 ·exact GZ s hT h
 ·exact KJ s w (by omega) hm
def YY:List Nat->List Nat->Bool
 |_,[]=>false
 | [],_::_=>true
 |a::x,b::y=>decide (a<b)||(decide (a=b)&&YY x y)
def ZZ (n:Nat):List Nat:=if n<128 then[n]else if n<2048 then[192+n / 64,128+n % 64]else if n<65536 then[224+n / 4096,128+n / 64 % 64,128+n % 64]else[240+n / 262144,128+n / 4096 % 64,128+n / 64 % 64,128+n % 64]
def Zs:List Nat->Nat
 | []=>0
 |x::t=>(if x<128\/191<x then 1 else 0)+Zs t
theorem xS:∀(t:LZ) (z:ByteArray),(∀r∈t,runeB r=true)->af (t.foldl (λr n=>r++Utf8.encode n) z)=af z++t.flatMap Lib.encodeRune
 | [],z,_=>by simp
 |c::t,z,h=>by
  rw[List.foldl_cons,xS t _ (λr a=>h r (by simp[a])),yE,<-zc];congr 1;have e:af (z++Utf8.encode c)=af z++af (Utf8.encode c):=by simp[af,ByteArray.data_append]
  rw[e,Pn (h c (by simp))]
