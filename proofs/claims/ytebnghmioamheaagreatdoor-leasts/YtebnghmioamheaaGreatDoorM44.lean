import Derived.Test.YtebnghmioamheaaGreatDoorM43
import Derived.Test.YtebnghmioamheaaGreatDoorM26
set_option maxHeartbeats 4000000
set_option maxRecDepth 100000
set_option linter.all false
namespace Go.Proofs.YtebnghmioamheaaGreatDoor
open Go.Shelf Go.RowKit Go.Lib Brm Tryz
variable {n bx:Nat}{p:Pat}{w:World}{A:NP}
mutual
theorem qe:∀p:Pat,p.cl.length<=2*p.rg+p.nd+p.groups
 |.set s=>by
  show (dX s++[0]).length<=2*s.length+1+0
  rw[zH,kw];simp
 |.row l=>by
  have:=uH l;show (0::cP l).length<=2*cr l+(bH l+1)+groupsL l
  rw[zG];omega
 |.or l=>by
  have:=uH l;show (0::cP l).length<=2*cr l+(bH l+1)+groupsL l
  rw[zG];omega
 |.and l=>by
  have:=uH l;show (0::cP l).length<=2*cr l+(bH l+l.length+2)+groupsL l
  rw[zG];omega
 |.not p=>by
  have:=qe p;show (0::p.cl).length<=2*p.rg+(p.nd+1)+p.groups
  rw[zG];omega
 |.many p _ _=>by
  have:=qe p;show (0::p.cl).length<=2*p.rg+(p.nd+1)+p.groups
  rw[zG];omega
 |.group p=>by
  have:=qe p;show (0::p.cl).length<=2*p.rg+p.nd+(p.groups+1)
  rw[zG];omega
theorem uH:∀l:List Pat,(cP l).length<=2*cr l+bH l+groupsL l
 | []=>zA _
 |p::l=>by
  have b:=qe p;have a:=uH l;show (p.cl++cP l).length<=2*(p.rg+cr l)+(p.nd+bH l)+(p.groups+groupsL l)
  rw[zH];omega
end
def gZ (L:Lg)(n:Nat)(s:ByteArray)(ok:Bool):Prop:=(∃t,cX L n t/\s=runesBytes t/\ok=true)\/((∀u,ef u->u.length<=n->¬L u)/\s=⟨#[]⟩/\ok=false)
theorem DQ.least {LA LB:Lg}{e:Ending}(h:DQ LA LB n e):∃s ok,e=.returned (.tuple #[.string s,.bool ok])/\gZ (dG LA LB) n s ok:=by
 rcases h with⟨t,a,rfl⟩|⟨a,rfl⟩
 ·exact⟨_,_,rfl,.inl ⟨t,a,rfl,rfl⟩⟩
 ·exact⟨_,_,rfl,.inr ⟨a,rfl,rfl⟩⟩
theorem FC {q:Pat}(hp:p.Ok)(hq:q.Ok)(sp:Small p)(sq:Small q)(gp:p.groups<=1000)(gq:q.groups<=1000){a b:Nat}(hNa:je w (λg=>g<w.heap.size) p a)(hNb:je w (λg=>g<w.heap.size) q b)(hP:aZ w)(h7:7<=w.heap.size)(hn:n<=3):Calls prog 21 #[Vp a,Vp b,Vi n] w λe w'=>Bw w w'/\∃s ok,e=.returned (.tuple #[.string s,.bool ok])/\gZ (dG p.Mt q.Mt) n s ok:=by
 obtain⟨c,h⟩:=Hx sp sq hn;have j:=qe p;have k:=qe q;have:=sp.rg;have:=sq.rg;have:=sp.nd;have:=sq.nd;refine (Lq hp hq (λg i=>i) hNa hNb hP h7 (by omega) (by omega) (by omega) n (by omega) c h).mono ?_;rintro e w' ⟨f,d⟩;exact⟨f,d.least⟩
theorem JP {t:LZ}:¬(Pat.set []).Mt t:=by
 rintro⟨c,_,h⟩;simp[memB]at h
theorem Ih {L:Lg}{s:ByteArray}{ok:Bool}(h:gZ (dG L (Pat.set []).Mt) n s ok):gZ L n s ok:=by
 have e:dG L (Pat.set []).Mt=L:=by
  funext t;refine propext ⟨λh=>Classical.byContradiction λa=>h ⟨λh=>absurd h a,λh=>absurd h JP⟩,λh a=>JP (a.1 h)⟩
 rw[e]at h;exact h
theorem Mi (hp:p.Ok)(sp:Small p)(gp:p.groups<=1000){a:Nat}(hNa:je w (λg=>g<w.heap.size) p a)(hP:aZ w)(h7:7<=w.heap.size)(hn:n<=3):Calls prog 15 #[Vp a,Vi n] w λe w'=>Bw w w'/\∃s ok,e=.returned (.tuple #[.string s,.bool ok])/\gZ p.Mt n s ok:=by
 obtain⟨W,j,b,h,-⟩:=dS (rfl:w.heap.size=_) [Vi 0,Vz,Vz,Vi 0,Vi 0] 51;replace b:Below _ _ W:=b;have d:je W (λg=>g<W.heap.size) p a:=(hNa.keep (ah.below b)).mono λg r _=>r;have f:je W (λg=>g<W.heap.size) (.set []) w.heap.size:=je.of (p:=.set []) ⟨h.lt,_,h,.inl ⟨rfl,rfl⟩⟩ h.lt h;have m:=aa (FC hp (q:=.set []) ⟨by simp,by simp⟩ sp LT gp (by decide) d f (hP.below b) (zJ h7 b.size) hn);have t:=aa j;have l:=aa b;clear j b h d f hNa hP;go_enter func15,ntmps15;go_wp2_with fail;rw[t.out];refine m.mono ?_;rintro e u ⟨c,s,ok,rfl,k⟩;have o:=aa (Ih k);have i:=aa (l.trans (c.mono l.size));clear c k m;go_wp2_with fail;refine zN (v:=.tuple #[.string s,.bool ok]) (by simp[results,results15,go_sem]) rfl ?_;exact⟨i,s,ok,rfl,o⟩
theorem CL (m:Int)(w:World):Calls prog 14 #[Vi m] w λe w'=>e=.returned (.bool (decide (0<=m/\m<=3)))/\w'=w:=by
 by_cases b:0<=m
 ·by_cases c:m<=3
  ·have a:decide (0<=m/\m<=3)=true:=zv ⟨b,c⟩;rw[a];have d:decide (0<=m)=true:=zv b;have f:decide (m<=3)=true:=zv c;go_enter func14,ntmps14;go_wp2;go_ret;exact⟨rfl,rfl⟩
  ·have a:decide (0<=m/\m<=3)=false:=zI (λh=>c h.2);rw[a];have d:decide (0<=m)=true:=zv b;have f:decide (m<=3)=false:=zI c;go_enter func14,ntmps14;go_wp2;go_ret;exact⟨rfl,rfl⟩
 ·have a:decide (0<=m/\m<=3)=false:=zI (λh=>b h.1);rw[a];have d:decide (0<=m)=false:=zI b;go_enter func14,ntmps14;go_wp2;go_ret;exact⟨rfl,rfl⟩
theorem RX.pnx (h:RX w A p bx):je w (λg=>g<w.heap.size) p bx:=by
 obtain⟨m,l,c,n,b,e,a,x,d,⟨k,f⟩,j,_⟩:=h;exact je.mono (A:=A) ⟨m,x,l,c,n,b,e,[ar a],54,d,k,f,j⟩ λg i _=>i
theorem RX.grp (h:RX w A p bx):p.groups<=1000:=by
 obtain⟨_,_,_,_,_,_,_,_,_,_,_,_,_,_,_,_,_,_,_,_,a⟩:=h;exact a
theorem RX.ltx (h:RX w A p bx):bx<w.heap.size:=h.pnx.1
def qf (L:Lg)(m:Int)(e:Ending):Prop:=(¬(0<=m/\m<=3)/\e=.returned (.tuple #[.string ⟨#[]⟩,.bool false,Vi 9]))\/∃(n:Nat) (s:ByteArray) (ok:Bool),m=n/\n<=3/\e=.returned (.tuple #[.string s,.bool ok,Vi 0])/\gZ L n s ok
theorem Ii (hp:p.Ok)(sp:Small p)(hX:RX w A p bx)(hP:aZ w)(h7:7<=w.heap.size)(m:Int):Calls prog 7 #[Vp bx,Vi m] w λe w'=>Bw w w'/\qf p.Mt m e:=by
 have l:=hX.ltx;by_cases d:0<=m/\m<=3
 ·obtain⟨n,rfl⟩:∃n:Nat,m=n:=⟨m.toNat,by omega⟩;have j:=aa (Mi hp sp hX.grp hX.pnx hP h7 (n:=n) (by omega));have o:Hid (n<=3):=by show n<=3;omega
  have f:decide (0<=(n:Int)/\(n:Int)<=3)=true:=zv d;go_enter func7,ntmps7;go_wp2_with (go_at_call 14;refine (CL _ _).mono ?_;rintro e w' ⟨rfl,c⟩;have a:=c.symm;subst a;rw[f]);refine j.mono ?_;rintro e q ⟨b,s,h,rfl,i⟩;have k:=aa i;have g:=aa b;go_wp2_with fail;refine zN (v:=.tuple #[.string s,.bool h,Vi 0]) (by simp[results,results7,go_sem]) rfl ?_;exact⟨g,.inr ⟨n,s,h,rfl,o,rfl,k⟩⟩
 ·have f:decide (0<=m/\m<=3)=false:=zI d;go_enter func7,ntmps7;go_wp2_with (go_at_call 14;refine (CL _ _).mono ?_;rintro e w' ⟨rfl,c⟩;have a:=c.symm;subst a;rw[f]);refine zN (v:=.tuple #[.string ⟨#[]⟩,.bool false,Vi 9]) (by simp[results,results7,go_sem]) rfl ?_;exact⟨zE _ _,.inl ⟨d,rfl⟩⟩
theorem PZ {q:Pat}(hp:p.Ok)(hq:q.Ok)(sp:Small p)(sq:Small q){A':NP}{bz:Nat}(hX:RX w A p bx)(hY:RX w A' q bz)(hP:aZ w)(h7:7<=w.heap.size)(m:Int):Calls prog 9 #[Vp bx,Vp bz,Vi m] w λe w'=>Bw w w'/\qf (dG p.Mt q.Mt) m e:=by
 have y:=hX.ltx;have u:=hY.ltx;by_cases o:0<=m/\m<=3
 ·obtain⟨n,rfl⟩:∃n:Nat,m=n:=⟨m.toNat,by omega⟩;have b:n<=3:=by omega
  have B:Hid (∀w',Bw w w'->Calls prog 21 #[Vp bx,Vp bz,Vi n] w' λe t=>Bw w t/\∃s d,e=.returned (.tuple #[.string s,.bool d])/\gZ (dG p.Mt q.Mt) n s d):=λw' c=>
   (FC hp hq sp sq hX.grp hY.grp ((hX.pnx.keep (ah.below c)).mono λg k _=>k) ((hY.pnx.keep (ah.below c)).mono λg k _=>k) (hP.below c) (zJ h7 c.size) b).mono (λe t h=>⟨c.trans (h.1.mono c.size),h.2⟩)
  have z:=aa b;have l:decide (0<=(n:Int)/\(n:Int)<=3)=true:=zv o;go_enter func9,ntmps9;go_wp2_with (go_at_call 14;refine (CL _ _).mono ?_;rintro e w' ⟨rfl,f⟩;have a:=f.symm;subst a;rw[l])
  go_region_held3 (λw'=>Bw w w')
   (first|exact (zE _ _).drew|exact i)
   ((go_at_call 21;with_reducible refine (B.out _ ‹Bw w _›).mono ?_;rintro e C ⟨j,s,d,rfl,r⟩;have i:=aa j;have x:=aa r))
  all_goals go_wp2_with fail
  refine zN (v:=.tuple #[.string s,.bool d,Vi 0]) (by simp[results,results9,go_sem]) rfl ?_;exact⟨i,.inr ⟨n,s,d,rfl,z,rfl,x⟩⟩
 ·have l:decide (0<=m/\m<=3)=false:=zI o;go_enter func9,ntmps9;go_wp2_with (go_at_call 14;refine (CL _ _).mono ?_;rintro e w' ⟨rfl,f⟩;have a:=f.symm;subst a;rw[l]);refine zN (v:=.tuple #[.string ⟨#[]⟩,.bool false,Vi 9]) (by simp[results,results9,go_sem]) rfl ?_;exact⟨zE _ _,.inl ⟨o,rfl⟩⟩
def Zz:List UInt8:=[97,42]
def Zn:Pat:=.or [.and [.row [.many (.set [(97,97)]) 0 (-1)]]]
def Bc (w:World):Prop:=rH w/\aZ w/\7<=w.heap.size
theorem Bc.below {w w':World}(h:Bc w)(k:Bw w w'):Bc w':=⟨h.1.below k,h.2.1.below k,zJ h.2.2 k.size⟩
def Bt (P:Prop)(v:Int):Prop:=(P/\v=1)\/(¬P/\v=0)
section
variable {w:World} {s1 s2 t:ByteArray} {p q:Pat} {l:List Int} (hl:Runes (af t) l) (hT:Bc w) (h1:DF 2 (af s1) p) (h2:DF 2 (af s2) q) (z1:s1.size<=24) (z2:s2.size<=24) (zt:t.size<=16)
include hl hT h1 z1 zt
include h2 z2
end
theorem IV {bs:List UInt8}{er place:Int}(h:jW bs (er,place,some p)):Small p:=by
 rcases h with⟨_,h⟩|⟨_,k,_,h⟩|⟨e,l,d,h⟩
 ·simp at h
 ·simp at h
 ·have a:=eB d;unfold dz at h;cases ho:aU false (l.length+1) l with
  |bad s=>rw[ho]at h;simp at h
  |ok q s=>
   have b:=LU ho (by omega);rw[ho]at h;cases s with
   |cons c t=>simp at h
   |nil=>
    simp only at h
    split at h
    ·simp at h
    ·simp only[Prod.mk.injEq,yG]at h;obtain⟨rfl,rfl,rfl⟩:=h;exact b
def YI (w:World)(e:Ending)(w':World):Prop:=Below w.heap.size w w'/\∃(nv:Value) (k:Int) (so:Option Addr) (sn sc:Nat) (lo:Option Addr) (ln lc:Nat) (mm nn rr gr:Int) (op:Option Pat),e=.returned (.tuple #[nv,.agg #[Vi k,.slice so sn sc,.slice lo ln lc,Vi mm,Vi nn,Vi rr],Vi gr,.bool true]) /\
 match op with|some p=>p.Ok/\Small p/\p.wr.length<=4000/\(∃bx A,nv=ar bx/\RX w' A p bx)/\NV w' (λ_=>True) p (bT k so sn sc lo ln lc mm nn rr) 0/\gr=(p.groups:Int)|none=>nv=.pointer none
theorem LY (s:ByteArray)(hT:rH w)(hm:s.size<=9223372036854775807):Calls prog 6 #[.string s] w (YI w):=by
 have K:Bw w (w.alloc Zo):=(zE _ _).alloc (zA _) _;have I:=aa (ag.new w Z6 27);have HC:=aa (CW s (hT.below K) hm);have b:=aa K;have HM:=aa hm;clear hT hm K;go_enter func6,ntmps6;go_wp2_with fail;generalize hW:w.alloc Zo=W1 at HC b I ⊢;clear hW;refine HC.mono ?_;rintro e w2 ⟨H,nv,er,X,op,F,rfl,M⟩;have x:=aa H;have a4:=aa F;have N:=aa (I.below H);clear H;go_wp2_with fail;refine (Ub s _ HM).mono ?_;rintro e C ⟨z,k,g,n,l,i,r,f,j,m,o,gr,R,V,a2,J,rfl,G⟩;have hu:=tY F J;simp only[Prod.mk.injEq]at hu;obtain⟨rfl,rfl,rfl⟩:=hu;have t:=N.below z;have D:=aa z;cases a2 with
 |none=>
  have a3:(R==0)=false:=zD.2 (qM F);have P:Hid ((R != 0)=true):=bne_iff_ne.2 (qM F);have T:nv=.pointer none:=M;subst T;clear F J M G z;have c:Bw C (C.alloc (.cells #[Vi k,.slice g n l,.slice i r f,Vi j,Vi m,Vi o] 27)):=(zE _ _).alloc (zA _) _;have B:=t.below c;have A:=ag.new C [Vi k,.slice g n l,.slice i r f,Vi j,Vi m,Vi o] 27;have d:=aa c;have a:=aa B;have y:=aa A;have a0:=t.lt;clear c B A t;go_wp2_with fail;generalize hW:C.alloc (.cells #[Vi k,.slice g n l,.slice i r f,Vi j,Vi m,Vi o] 27)=W4 at d a y ⊢;clear hW;obtain⟨x0,x1,x2,x3,x4,x5⟩:=y.out.six;obtain⟨y0,y1,y2,y3,y4,y5⟩:=a.out.six;have f0:=a.frozen 0;have f1:=a.frozen 1;have f2:=a.frozen 2;have f3:=a.frozen 3;have f4:=a.frozen 4;have f5:=a.frozen 5
  go_region
  try go_wp2_with fail
  have u:=(xv (c0:=Vi k) (c1:=.slice g n l) (c2:=.slice i r f) (c3:=Vi j) (c4:=Vi m) (c5:=Vi o) a).six;have L:=(xw (b.trans ((x.mono b.size).trans ((D.mono (zJ b.size x.size)).trans (d.mono (zJ (zJ b.size x.size) D.size))))) (zA _) (Vi k) (.slice g n l) (.slice i r f) (Vi j) (Vi m) (Vi o)).drew;refine zN (v:=.tuple #[.pointer none,.agg #[Vi k,.slice g n l,.slice i r f,Vi j,Vi m,Vi o],Vi gr,.bool true]) (by simp[results,results6,go_sem,u.1,u.2.1,u.2.2.1,u.2.2.2.1,u.2.2.2.2.1,u.2.2.2.2.2,P.out]) rfl ?_;exact⟨L,_,k,g,n,l,i,r,f,j,m,o,gr,none,rfl,rfl⟩
 |some p=>
  obtain⟨rfl,rfl,Q,E⟩:=qL F;obtain⟨bx,rfl,hX⟩:=M;obtain⟨U,rfl⟩:=G;have HX:=aa (hX.below z);have Y:=aa U;have Z:=aa Q;have a1:=aa (IV F);have S:=aa E;clear F J z hX U Q E;have c:Bw C (C.alloc (.cells #[Vi k,.slice g n l,.slice i r f,Vi j,Vi m,Vi o] 27)):=(zE _ _).alloc (zA _) _;have B:=t.below c;have A:=ag.new C [Vi k,.slice g n l,.slice i r f,Vi j,Vi m,Vi o] 27;have d:=aa c;have a:=aa B;have y:=aa A;have a0:=t.lt;clear c B A t;go_wp2_with fail;generalize hW:C.alloc (.cells #[Vi k,.slice g n l,.slice i r f,Vi j,Vi m,Vi o] 27)=W4 at d a y ⊢;clear hW;obtain⟨x0,x1,x2,x3,x4,x5⟩:=y.out.six;obtain⟨y0,y1,y2,y3,y4,y5⟩:=a.out.six;have f0:=a.frozen 0;have f1:=a.frozen 1;have f2:=a.frozen 2;have f3:=a.frozen 3;have f4:=a.frozen 4;have f5:=a.frozen 5
  go_region
  try go_wp2_with fail
  have u:=(xv (c0:=Vi k) (c1:=.slice g n l) (c2:=.slice i r f) (c3:=Vi j) (c4:=Vi m) (c5:=Vi o) a).six;have L:=(xw (b.trans ((x.mono b.size).trans ((D.mono (zJ b.size x.size)).trans (d.mono (zJ (zJ b.size x.size) D.size))))) (zA _) (Vi k) (.slice g n l) (.slice i r f) (Vi j) (Vi m) (Vi o)).drew;refine zN (v:=.tuple #[ar bx,.agg #[Vi k,.slice g n l,.slice i r f,Vi j,Vi m,Vi o],Vi p.groups,.bool true]) (by simp[results,results6,go_sem,u.1,u.2.1,u.2.2.1,u.2.2.2.1,u.2.2.2.2.1,u.2.2.2.2.2]) rfl ?_;have W:¬dp W1 w.heap.size:=λh=>by have h9:W1.heap.size<=w.heap.size:=h;have:=I.lt;omega
  have O:¬w2.heap.size<=w.heap.size:=λh=>by have:=N.lt;omega
  exact⟨L,_,k,g,n,l,i,r,f,j,m,o,p.groups,some p,rfl,Z,a1,by have:=S.out;omega,⟨bx,dp W1,rfl,(HX.below d).keep ((ah.refl _ _).put6 W _ _ _ _ _ _).drew⟩,NV.mono (λ_ _ _=>trivial) p _ 0 (NV.keep ((ah.refl (λq=>w2.heap.size<=q) W4).put6 O _ _ _ _ _ _).drew p _ 0 (NV.keep (ah.below d) p _ 0 Y)),rfl⟩
