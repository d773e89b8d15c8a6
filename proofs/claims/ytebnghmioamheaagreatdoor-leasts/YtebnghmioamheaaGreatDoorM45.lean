import Derived.Test.YtebnghmioamheaaGreatDoorM44
import Derived.Test.YtebnghmioamheaaGreatDoorM27
set_option maxHeartbeats 4000000
set_option maxRecDepth 100000
set_option linter.all false
namespace Go.Proofs.YtebnghmioamheaaGreatDoor
open Go.Shelf Go.RowKit Go.Lib Brm Tryz
variable {n bx:Nat}{p:Pat}{w:World}{A:NP}
mutual
theorem qe:∀p:Pat,p.cl.length<=2*p.rg+p.nd+p.groups
 |.set s=>by
  show (dX s++[0]).length<=2*s.length+1+0
  rw[zH,kw];simp
 |.row l=>by
  have:=uH l;show (0::cP l).length<=2*cr l+(bH l+1)+groupsL l
  rw[zG];omega
 |.or l=>by
  have:=uH l;show (0::cP l).length<=2*cr l+(bH l+1)+groupsL l
  rw[zG];omega
 |.and l=>by
  have:=uH l;show (0::cP l).length<=2*cr l+(bH l+l.length+2)+groupsL l
  rw[zG];omega
 |.not p=>by
  have:=qe p;show (0::p.cl).length<=2*p.rg+(p.nd+1)+p.groups
  rw[zG];omega
 |.many p _ _=>by
  have:=qe p;show (0::p.cl).length<=2*p.rg+(p.nd+1)+p.groups
  rw[zG];omega
 |.group p=>by
  have:=qe p;show (0::p.cl).length<=2*p.rg+p.nd+(p.groups+1)
  rw[zG];omega
theorem uH:∀l:List Pat,(cP l).length<=2*cr l+bH l+groupsL l
 | []=>zA _
 |p::l=>by
  have a:=qe p;have b:=uH l;show (p.cl++cP l).length<=2*(p.rg+cr l)+(p.nd+bH l)+(p.groups+groupsL l)
  rw[zH];omega
end
def gZ (L:Lg)(n:Nat)(s:ByteArray)(ok:Bool):Prop:=(∃t,cX L n t/\s=runesBytes t/\ok=true)\/((∀u,ef u->u.length<=n->¬L u)/\s=⟨#[]⟩/\ok=false)
theorem DQ.least {LA LB:Lg}{e:Ending}(h:DQ LA LB n e):∃s ok,e=.returned (.tuple #[.string s,.bool ok])/\gZ (dG LA LB) n s ok:=by
 rcases h with⟨t,a,rfl⟩|⟨a,rfl⟩
 ·exact⟨_,_,rfl,.inl ⟨t,a,rfl,rfl⟩⟩
 ·exact⟨_,_,rfl,.inr ⟨a,rfl,rfl⟩⟩
theorem FC {q:Pat}(hp:p.Ok)(hq:q.Ok)(sp:Small p)(sq:Small q)(gp:p.groups<=1000)(gq:q.groups<=1000){a b:Nat}(hNa:je w (λg=>g<w.heap.size) p a)(hNb:je w (λg=>g<w.heap.size) q b)(hP:aZ w)(h7:7<=w.heap.size)(hn:n<=3):Calls prog 21 #[Vp a,Vp b,Vi n] w λe w'=>Bw w w'/\∃s ok,e=.returned (.tuple #[.string s,.bool ok])/\gZ (dG p.Mt q.Mt) n s ok:=by
 obtain⟨d,f⟩:=Hx sp sq hn;have j:=qe p;have k:=qe q;have:=sp.rg;have:=sq.rg;have:=sp.nd;have:=sq.nd;refine (Lq hp hq (λg c=>c) hNa hNb hP h7 (by omega) (by omega) (by omega) n (by omega) d f).mono ?_;rintro e w' ⟨h,i⟩;exact⟨h,i.least⟩
theorem JP {t:LZ}:¬(Pat.set []).Mt t:=by
 rintro⟨c,_,h⟩;simp[memB]at h
theorem Ih {L:Lg}{s:ByteArray}{ok:Bool}(h:gZ (dG L (Pat.set []).Mt) n s ok):gZ L n s ok:=by
 have e:dG L (Pat.set []).Mt=L:=by
  funext t;refine propext ⟨λh=>Classical.byContradiction λa=>h ⟨λh=>absurd h a,λh=>absurd h JP⟩,λh a=>JP (a.1 h)⟩
 rw[e]at h;exact h
theorem Mi (hp:p.Ok)(sp:Small p)(gp:p.groups<=1000){a:Nat}(hNa:je w (λg=>g<w.heap.size) p a)(hP:aZ w)(h7:7<=w.heap.size)(hn:n<=3):Calls prog 15 #[Vp a,Vi n] w λe w'=>Bw w w'/\∃s ok,e=.returned (.tuple #[.string s,.bool ok])/\gZ p.Mt n s ok:=by
 obtain⟨W,l,c,h,-⟩:=dS (rfl:w.heap.size=_) [Vi 0,Vz,Vz,Vi 0,Vi 0] 51;have f:je W (λg=>g<W.heap.size) p a:=(hNa.keep (ah.below c)).mono λg o _=>o;have d:je W (λg=>g<W.heap.size) (.set []) w.heap.size:=je.of (p:=.set []) ⟨h.lt,_,h,.inl ⟨rfl,rfl⟩⟩ h.lt h;have j:=aa (FC hp (q:=.set []) ⟨by simp,by simp⟩ sp LT gp (by decide) f d (hP.below c) (zJ h7 c.size) hn);have t:=aa l;have k:=aa c;clear l c h f d hNa hP;go_enter func15,ntmps15;go_wp2_with fail;rw[t.out];refine j.mono ?_;rintro e u ⟨b,s,ok,rfl,m⟩;have r:=aa (Ih m);have i:=aa (k.trans (b.mono k.size));clear b m j;go_wp2_with fail;refine zN (v:=.tuple #[.string s,.bool ok]) (by simp[results,results15,go_sem]) rfl ?_;exact⟨i,s,ok,rfl,r⟩
theorem CL (m:Int)(w:World):Calls prog 14 #[Vi m] w λe w'=>e=.returned (.bool (decide (0<=m/\m<=3)))/\w'=w:=by
 by_cases a:0<=m
 ·by_cases c:m<=3
  ·have b:decide (0<=m/\m<=3)=true:=zv ⟨a,c⟩;rw[b];have d:decide (0<=m)=true:=zv a;have f:decide (m<=3)=true:=zv c;go_enter func14,ntmps14;go_wp2;go_ret;exact⟨rfl,rfl⟩
  ·have b:decide (0<=m/\m<=3)=false:=zI (λh=>c h.2);rw[b];have d:decide (0<=m)=true:=zv a;have f:decide (m<=3)=false:=zI c;go_enter func14,ntmps14;go_wp2;go_ret;exact⟨rfl,rfl⟩
 ·have b:decide (0<=m/\m<=3)=false:=zI (λh=>a h.1);rw[b];have d:decide (0<=m)=false:=zI a;go_enter func14,ntmps14;go_wp2;go_ret;exact⟨rfl,rfl⟩
theorem RX.pnx (h:RX w A p bx):je w (λg=>g<w.heap.size) p bx:=by
 obtain⟨l,k,n,i,d,j,a,x,f,⟨e,m⟩,c,_⟩:=h;exact je.mono (A:=A) ⟨l,x,k,n,i,d,j,[ar a],54,f,e,m,c⟩ λg b _=>b
theorem RX.grp (h:RX w A p bx):p.groups<=1000:=by
 obtain⟨_,_,_,_,_,_,_,_,_,_,_,_,_,_,_,_,_,_,_,_,a⟩:=h;exact a
theorem RX.ltx (h:RX w A p bx):bx<w.heap.size:=h.pnx.1
def qf (L:Lg)(m:Int)(e:Ending):Prop:=(¬(0<=m/\m<=3)/\e=.returned (.tuple #[.string ⟨#[]⟩,.bool false,Vi 9]))\/∃(n:Nat) (s:ByteArray) (ok:Bool),m=n/\n<=3/\e=.returned (.tuple #[.string s,.bool ok,Vi 0])/\gZ L n s ok
theorem Ii (hp:p.Ok)(sp:Small p)(hX:RX w A p bx)(hP:aZ w)(h7:7<=w.heap.size)(m:Int):Calls prog 7 #[Vp bx,Vi m] w λe w'=>Bw w w'/\qf p.Mt m e:=by
 have k:=hX.ltx;by_cases f:0<=m/\m<=3
 ·obtain⟨n,rfl⟩:∃n:Nat,m=n:=⟨m.toNat,by omega⟩;have h:=aa (Mi hp sp hX.grp hX.pnx hP h7 (n:=n) (by omega));have o:Hid (n<=3):=by show n<=3;omega
  have d:decide (0<=(n:Int)/\(n:Int)<=3)=true:=zv f;go_enter func7,ntmps7;go_wp2_with (go_at_call 14;refine (CL _ _).mono ?_;rintro e w' ⟨rfl,c⟩;have a:=c.symm;subst a;rw[d]);refine h.mono ?_;rintro e q ⟨b,s,j,rfl,i⟩;have l:=aa i;have g:=aa b;go_wp2_with fail;refine zN (v:=.tuple #[.string s,.bool j,Vi 0]) (by simp[results,results7,go_sem]) rfl ?_;exact⟨g,.inr ⟨n,s,j,rfl,o,rfl,l⟩⟩
 ·have d:decide (0<=m/\m<=3)=false:=zI f;go_enter func7,ntmps7;go_wp2_with (go_at_call 14;refine (CL _ _).mono ?_;rintro e w' ⟨rfl,c⟩;have a:=c.symm;subst a;rw[d]);refine zN (v:=.tuple #[.string ⟨#[]⟩,.bool false,Vi 9]) (by simp[results,results7,go_sem]) rfl ?_;exact⟨zE _ _,.inl ⟨f,rfl⟩⟩
def Zz:List UInt8:=[97,42]
def Zn:Pat:=.or [.and [.row [.many (.set [(97,97)]) 0 (-1)]]]
def Bc (w:World):Prop:=rH w/\aZ w/\7<=w.heap.size
theorem Bc.below {w w':World}(h:Bc w)(k:Bw w w'):Bc w':=⟨h.1.below k,h.2.1.below k,zJ h.2.2 k.size⟩
def Bt (P:Prop)(v:Int):Prop:=(P/\v=1)\/(¬P/\v=0)
section
variable {w:World} {s1 s2 t:ByteArray} {p q:Pat} {l:List Int} (hl:Runes (af t) l) (hT:Bc w) (h1:DF 2 (af s1) p) (h2:DF 2 (af s2) q) (z1:s1.size<=24) (z2:s2.size<=24) (zt:t.size<=16)
include hl hT h1 z1 zt
include h2 z2
end
theorem IV {bs:List UInt8}{er place:Int}(h:jW bs (er,place,some p)):Small p:=by
 rcases h with⟨_,h⟩|⟨_,k,_,h⟩|⟨e,l,b,h⟩
 ·simp at h
 ·simp at h
 ·have a:=eB b;unfold dz at h;cases ho:aU false (l.length+1) l with
  |bad s=>rw[ho]at h;simp at h
  |ok q s=>
   have d:=LU ho (by omega);rw[ho]at h;cases s with
   |cons c t=>simp at h
   |nil=>
    simp only at h
    split at h
    ·simp at h
    ·simp only[Prod.mk.injEq,yG]at h;obtain⟨rfl,rfl,rfl⟩:=h;exact d
def YI (w:World)(e:Ending)(w':World):Prop:=Below w.heap.size w w'/\∃(nv:Value) (k:Int) (so:Option Addr) (sn sc:Nat) (lo:Option Addr) (ln lc:Nat) (mm nn rr gr:Int) (op:Option Pat),e=.returned (.tuple #[nv,.agg #[Vi k,.slice so sn sc,.slice lo ln lc,Vi mm,Vi nn,Vi rr],Vi gr,.bool true]) /\
 match op with|some p=>p.Ok/\Small p/\p.wr.length<=4000/\(∃bx A,nv=ar bx/\RX w' A p bx)/\NV w' (λ_=>True) p (bT k so sn sc lo ln lc mm nn rr) 0/\gr=(p.groups:Int)|none=>nv=.pointer none
theorem LY (s:ByteArray)(hT:rH w)(hm:s.size<=9223372036854775807):Calls prog 6 #[.string s] w (YI w):=by
 have M:Bw w (w.alloc Zo):=(zE _ _).alloc (zA _) _;have H:=aa (ag.new w Z6 27);have HC:=aa (CW s (hT.below M) hm);have b:=aa M;have HM:=aa hm;clear hT hm M;go_enter func6,ntmps6;go_wp2_with fail;generalize hW:w.alloc Zo=W1 at HC b H ⊢;clear hW;refine HC.mono ?_;rintro e w2 ⟨L,nv,er,a0,op,F,rfl,I⟩;have x:=aa L;have a3:=aa F;have Q:=aa (H.below L);clear L;go_wp2_with fail;refine (Ub s _ HM).mono ?_;rintro e C ⟨z,k,f,o,l,i,g,r,j,m,n,gr,U,V,a1,K,rfl,G⟩;have hu:=tY F K;simp only[Prod.mk.injEq]at hu;obtain⟨rfl,rfl,rfl⟩:=hu;have u:=Q.below z;have D:=aa z;cases a1 with
 |none=>
  have a4:(U==0)=false:=zD.2 (qM F);have R:Hid ((U != 0)=true):=bne_iff_ne.2 (qM F);have T:nv=.pointer none:=I;subst T;clear F K I G z;have d:Bw C (C.alloc (.cells #[Vi k,.slice f o l,.slice i g r,Vi j,Vi m,Vi n] 27)):=(zE _ _).alloc (zA _) _;have A:=u.below d;have B:=ag.new C [Vi k,.slice f o l,.slice i g r,Vi j,Vi m,Vi n] 27;have c:=aa d;have a:=aa A;have y:=aa B;have Z:=u.lt;clear d A B u;go_wp2_with fail;generalize hW:C.alloc (.cells #[Vi k,.slice f o l,.slice i g r,Vi j,Vi m,Vi n] 27)=W4 at c a y ⊢;clear hW;obtain⟨x0,x1,x2,x3,x4,x5⟩:=y.out.six;obtain⟨y0,y1,y2,y3,y4,y5⟩:=a.out.six;have f0:=a.frozen 0;have f1:=a.frozen 1;have f2:=a.frozen 2;have f3:=a.frozen 3;have f4:=a.frozen 4;have f5:=a.frozen 5
  go_region
  try go_wp2_with fail
  have t:=(xv (c0:=Vi k) (c1:=.slice f o l) (c2:=.slice i g r) (c3:=Vi j) (c4:=Vi m) (c5:=Vi n) a).six;have J:=(xw (b.trans ((x.mono b.size).trans ((D.mono (zJ b.size x.size)).trans (c.mono (zJ (zJ b.size x.size) D.size))))) (zA _) (Vi k) (.slice f o l) (.slice i g r) (Vi j) (Vi m) (Vi n)).drew;refine zN (v:=.tuple #[.pointer none,.agg #[Vi k,.slice f o l,.slice i g r,Vi j,Vi m,Vi n],Vi gr,.bool true]) (by simp[results,results6,go_sem,t.1,t.2.1,t.2.2.1,t.2.2.2.1,t.2.2.2.2.1,t.2.2.2.2.2,R.out]) rfl ?_;exact⟨J,_,k,f,o,l,i,g,r,j,m,n,gr,none,rfl,rfl⟩
 |some p=>
  obtain⟨rfl,rfl,P,E⟩:=qL F;obtain⟨bx,rfl,hX⟩:=I;obtain⟨S,rfl⟩:=G;have HX:=aa (hX.below z);have W:=aa S;have X:=aa P;have a2:=aa (IV F);have O:=aa E;clear F K z hX S P E;have d:Bw C (C.alloc (.cells #[Vi k,.slice f o l,.slice i g r,Vi j,Vi m,Vi n] 27)):=(zE _ _).alloc (zA _) _;have A:=u.below d;have B:=ag.new C [Vi k,.slice f o l,.slice i g r,Vi j,Vi m,Vi n] 27;have c:=aa d;have a:=aa A;have y:=aa B;have Z:=u.lt;clear d A B u;go_wp2_with fail;generalize hW:C.alloc (.cells #[Vi k,.slice f o l,.slice i g r,Vi j,Vi m,Vi n] 27)=W4 at c a y ⊢;clear hW;obtain⟨x0,x1,x2,x3,x4,x5⟩:=y.out.six;obtain⟨y0,y1,y2,y3,y4,y5⟩:=a.out.six;have f0:=a.frozen 0;have f1:=a.frozen 1;have f2:=a.frozen 2;have f3:=a.frozen 3;have f4:=a.frozen 4;have f5:=a.frozen 5
  go_region
  try go_wp2_with fail
  have t:=(xv (c0:=Vi k) (c1:=.slice f o l) (c2:=.slice i g r) (c3:=Vi j) (c4:=Vi m) (c5:=Vi n) a).six;have J:=(xw (b.trans ((x.mono b.size).trans ((D.mono (zJ b.size x.size)).trans (c.mono (zJ (zJ b.size x.size) D.size))))) (zA _) (Vi k) (.slice f o l) (.slice i g r) (Vi j) (Vi m) (Vi n)).drew;refine zN (v:=.tuple #[ar bx,.agg #[Vi k,.slice f o l,.slice i g r,Vi j,Vi m,Vi n],Vi p.groups,.bool true]) (by simp[results,results6,go_sem,t.1,t.2.1,t.2.2.1,t.2.2.2.1,t.2.2.2.2.1,t.2.2.2.2.2]) rfl ?_;have Y:¬dp W1 w.heap.size:=λh=>by have h9:W1.heap.size<=w.heap.size:=h;have:=H.lt;omega
  have N:¬w2.heap.size<=w.heap.size:=λh=>by have:=Q.lt;omega
  exact⟨J,_,k,f,o,l,i,g,r,j,m,n,p.groups,some p,rfl,X,a2,by have:=O.out;omega,⟨bx,dp W1,rfl,(HX.below c).keep ((ah.refl _ _).put6 Y _ _ _ _ _ _).drew⟩,NV.mono (λ_ _ _=>trivial) p _ 0 (NV.keep ((ah.refl (λq=>w2.heap.size<=q) W4).put6 N _ _ _ _ _ _).drew p _ 0 (NV.keep (ah.below c) p _ 0 W)),rfl⟩
