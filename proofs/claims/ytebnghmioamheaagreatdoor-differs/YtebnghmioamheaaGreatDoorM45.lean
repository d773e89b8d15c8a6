import Derived.Test.YtebnghmioamheaaGreatDoorM44
import Derived.Test.YtebnghmioamheaaGreatDoorM27
set_option maxHeartbeats 4000000
set_option maxRecDepth 100000
set_option linter.all false
namespace Go.Proofs.YtebnghmioamheaaGreatDoor
open Go.Shelf Go.RowKit Go.Lib Brm Tryz
variable {p:Pat}{w:World}{A:NP}{bx:Nat}
mutual
theorem qe:∀p:Pat,p.cl.length<=2*p.rg+p.nd+p.groups
 |.set s=>by
  show (dX s++[0]).length<=2*s.length+1+0
  rw[zH,kw];simp
 |.row l=>by
  have:=uH l;show (0::cP l).length<=2*cr l+(bH l+1)+groupsL l
  rw[zG];omega
 |.or l=>by
  have:=uH l;show (0::cP l).length<=2*cr l+(bH l+1)+groupsL l
  rw[zG];omega
 |.and l=>by
  have:=uH l;show (0::cP l).length<=2*cr l+(bH l+l.length+2)+groupsL l
  rw[zG];omega
 |.not p=>by
  have:=qe p;show (0::p.cl).length<=2*p.rg+(p.nd+1)+p.groups
  rw[zG];omega
 |.many p _ _=>by
  have:=qe p;show (0::p.cl).length<=2*p.rg+(p.nd+1)+p.groups
  rw[zG];omega
 |.group p=>by
  have:=qe p;show (0::p.cl).length<=2*p.rg+p.nd+(p.groups+1)
  rw[zG];omega
theorem uH:∀l:List Pat,(cP l).length<=2*cr l+bH l+groupsL l
 | []=>zA _
 |p::l=>by
  have a:=qe p;have b:=uH l;show (p.cl++cP l).length<=2*(p.rg+cr l)+(p.nd+bH l)+(p.groups+groupsL l)
  rw[zH];omega
end
def gZ (L:Lg)(n:Nat)(s:ByteArray)(ok:Bool):Prop:=(∃t,cX L n t/\s=runesBytes t/\ok=true)\/((∀u,ef u->u.length<=n->¬L u)/\s=⟨#[]⟩/\ok=false)
theorem DQ.least {LA LB:Lg}{n:Nat}{e:Ending}(h:DQ LA LB n e):∃s ok,e=.returned (.tuple #[.string s,.bool ok])/\gZ (dG LA LB) n s ok:=by
 rcases h with⟨t,a,rfl⟩|⟨a,rfl⟩
 ·exact⟨_,_,rfl,.inl ⟨t,a,rfl,rfl⟩⟩
 ·exact⟨_,_,rfl,.inr ⟨a,rfl,rfl⟩⟩
theorem FC {q:Pat}(hp:p.Ok)(hq:q.Ok)(sp:Small p)(sq:Small q)(gp:p.groups<=1000)(gq:q.groups<=1000){a b:Nat}(hNa:je w (λg=>g<w.heap.size) p a)(hNb:je w (λg=>g<w.heap.size) q b)(hP:aZ w)(h7:7<=w.heap.size){n:Nat}(hn:n<=3):Calls prog 21 #[Vp a,Vp b,Vi n] w λe w'=>Bw w w'/\∃s ok,e=.returned (.tuple #[.string s,.bool ok])/\gZ (dG p.Mt q.Mt) n s ok:=by
 obtain⟨h,c⟩:=Hx sp sq hn;have k:=qe p;have j:=qe q;have:=sp.rg;have:=sq.rg;have:=sp.nd;have:=sq.nd;refine (Lq hp hq (λg f=>f) hNa hNb hP h7 (by omega) (by omega) (by omega) n (by omega) h c).mono ?_;rintro e w' ⟨i,d⟩;exact⟨i,d.least⟩
theorem CL (m:Int)(w:World):Calls prog 14 #[Vi m] w λe w'=>e=.returned (.bool (decide (0<=m/\m<=3)))/\w'=w:=by
 by_cases b:0<=m
 ·by_cases c:m<=3
  ·have a:decide (0<=m/\m<=3)=true:=zv ⟨b,c⟩;rw[a];have d:decide (0<=m)=true:=zv b;have f:decide (m<=3)=true:=zv c;go_enter func14,ntmps14;go_wp2;go_ret;exact⟨rfl,rfl⟩
  ·have a:decide (0<=m/\m<=3)=false:=zI (λh=>c h.2);rw[a];have d:decide (0<=m)=true:=zv b;have f:decide (m<=3)=false:=zI c;go_enter func14,ntmps14;go_wp2;go_ret;exact⟨rfl,rfl⟩
 ·have a:decide (0<=m/\m<=3)=false:=zI (λh=>b h.1);rw[a];have d:decide (0<=m)=false:=zI b;go_enter func14,ntmps14;go_wp2;go_ret;exact⟨rfl,rfl⟩
theorem RX.pnx (h:RX w A p bx):je w (λg=>g<w.heap.size) p bx:=by
 obtain⟨c,j,m,l,d,a,e,x,f,⟨b,n⟩,k,_⟩:=h;exact je.mono (A:=A) ⟨c,x,j,m,l,d,a,[ar e],54,f,b,n,k⟩ λg i _=>i
theorem RX.grp (h:RX w A p bx):p.groups<=1000:=by
 obtain⟨_,_,_,_,_,_,_,_,_,_,_,_,_,_,_,_,_,_,_,_,a⟩:=h;exact a
theorem RX.ltx (h:RX w A p bx):bx<w.heap.size:=h.pnx.1
def qf (L:Lg)(m:Int)(e:Ending):Prop:=(¬(0<=m/\m<=3)/\e=.returned (.tuple #[.string ⟨#[]⟩,.bool false,Vi 9]))\/∃(n:Nat) (s:ByteArray) (ok:Bool),m=n/\n<=3/\e=.returned (.tuple #[.string s,.bool ok,Vi 0])/\gZ L n s ok
theorem PZ {q:Pat}(hp:p.Ok)(hq:q.Ok)(sp:Small p)(sq:Small q){A':NP}{bz:Nat}(hX:RX w A p bx)(hY:RX w A' q bz)(hP:aZ w)(h7:7<=w.heap.size)(m:Int):Calls prog 9 #[Vp bx,Vp bz,Vi m] w λe w'=>Bw w w'/\qf (dG p.Mt q.Mt) m e:=by
 have x:=hX.ltx;have u:=hY.ltx;by_cases o:0<=m/\m<=3
 ·obtain⟨n,rfl⟩:∃n:Nat,m=n:=⟨m.toNat,by omega⟩;have a:n<=3:=by omega
  have y:Hid (∀w',Bw w w'->Calls prog 21 #[Vp bx,Vp bz,Vi n] w' λe r=>Bw w r/\∃s j,e=.returned (.tuple #[.string s,.bool j])/\gZ (dG p.Mt q.Mt) n s j):=λw' c=>
   (FC hp hq sp sq hX.grp hY.grp ((hX.pnx.keep (ah.below c)).mono λg l _=>l) ((hY.pnx.keep (ah.below c)).mono λg l _=>l) (hP.below c) (zJ h7 c.size) a).mono (λe r h=>⟨c.trans (h.1.mono c.size),h.2⟩)
  have B:=aa a;have k:decide (0<=(n:Int)/\(n:Int)<=3)=true:=zv o;go_enter func9,ntmps9;go_wp2_with (go_at_call 14;refine (CL _ _).mono ?_;rintro e w' ⟨rfl,f⟩;have b:=f.symm;subst b;rw[k])
  go_region_held3 (λw'=>Bw w w')
   (first|exact (zE _ _).drew|exact d)
   ((go_at_call 21;with_reducible refine (y.out _ ‹Bw w _›).mono ?_;rintro e C ⟨i,s,j,rfl,t⟩;have d:=aa i;have z:=aa t))
  all_goals go_wp2_with fail
  refine zN (v:=.tuple #[.string s,.bool j,Vi 0]) (by simp[results,results9,go_sem]) rfl ?_;exact⟨d,.inr ⟨n,s,j,rfl,B,rfl,z⟩⟩
 ·have k:decide (0<=m/\m<=3)=false:=zI o;go_enter func9,ntmps9;go_wp2_with (go_at_call 14;refine (CL _ _).mono ?_;rintro e w' ⟨rfl,f⟩;have b:=f.symm;subst b;rw[k]);refine zN (v:=.tuple #[.string ⟨#[]⟩,.bool false,Vi 9]) (by simp[results,results9,go_sem]) rfl ?_;exact⟨zE _ _,.inl ⟨o,rfl⟩⟩
def Zz:List UInt8:=[97,42]
def Zn:Pat:=.or [.and [.row [.many (.set [(97,97)]) 0 (-1)]]]
def Bc (w:World):Prop:=rH w/\aZ w/\7<=w.heap.size
theorem Bc.below {w w':World}(h:Bc w)(k:Bw w w'):Bc w':=⟨h.1.below k,h.2.1.below k,zJ h.2.2 k.size⟩
def Bt (P:Prop)(v:Int):Prop:=(P/\v=1)\/(¬P/\v=0)
section
variable {w:World} {s1 s2 t:ByteArray} {p q:Pat} {l:List Int} (hl:Runes (af t) l) (hT:Bc w) (h1:DF 2 (af s1) p) (h2:DF 2 (af s2) q) (z1:s1.size<=24) (z2:s2.size<=24) (zt:t.size<=16)
include hl hT h1 z1 zt
include h2 z2
end
theorem IV {bs:List UInt8}{er place:Int}(h:jW bs (er,place,some p)):Small p:=by
 rcases h with⟨_,h⟩|⟨_,k,_,h⟩|⟨e,l,d,h⟩
 ·simp at h
 ·simp at h
 ·have a:=eB d;unfold dz at h;cases ho:aU false (l.length+1) l with
  |bad s=>rw[ho]at h;simp at h
  |ok q s=>
   have b:=LU ho (by omega);rw[ho]at h;cases s with
   |cons c t=>simp at h
   |nil=>
    simp only at h
    split at h
    ·simp at h
    ·simp only[Prod.mk.injEq,yG]at h;obtain⟨rfl,rfl,rfl⟩:=h;exact b
def YI (w:World)(e:Ending)(w':World):Prop:=Bw w w'/\∃(nv:Value) (k:Int) (so:Option Addr) (sn sc:Nat) (lo:Option Addr) (ln lc:Nat) (mm nn rr gr:Int) (op:Option Pat),e=.returned (.tuple #[nv,.agg #[Vi k,.slice so sn sc,.slice lo ln lc,Vi mm,Vi nn,Vi rr],Vi gr,.bool true]) /\
 match op with|some p=>p.Ok/\Small p/\p.wr.length<=4000/\(∃bx A,nv=ar bx/\RX w' A p bx)/\NV w' (λ_=>True) p (bT k so sn sc lo ln lc mm nn rr) 0/\gr=(p.groups:Int)|none=>nv=.pointer none
theorem LY (s:ByteArray)(hT:rH w)(hm:s.size<=9223372036854775807):Calls prog 6 #[.string s] w (YI w):=by
 have K:Bw w (w.alloc Zo):=(zE _ _).alloc (zA _) _;have L:=aa (ag.new w Z6 27);have HC:=aa (CW s (hT.below K) hm);have b:=aa K;have HM:=aa hm;clear hT hm K;go_enter func6,ntmps6;go_wp2_with fail;generalize hW:w.alloc Zo=W1 at HC b L ⊢;clear hW;refine HC.mono ?_;rintro e w2 ⟨H,nv,er,Z,op,G,rfl,M⟩;have x:=aa H;have a3:=aa G;have S:=aa (L.below H);clear H;go_wp2_with fail;refine (Ub s _ HM).mono ?_;rintro e C ⟨y,k,o,m,n,l,j,r,f,i,g,gr,T,V,Y,I,rfl,F⟩;have hu:=tY G I;simp only[Prod.mk.injEq]at hu;obtain⟨rfl,rfl,rfl⟩:=hu;have u:=S.below y;have D:=aa y;cases Y with
 |none=>
  have a4:(T==0)=false:=zD.2 (qM G);have U:Hid ((T != 0)=true):=bne_iff_ne.2 (qM G);have Q:nv=.pointer none:=M;subst Q;clear G I M F y;have d:Bw C (C.alloc (.cells #[Vi k,.slice o m n,.slice l j r,Vi f,Vi i,Vi g] 27)):=(zE _ _).alloc (zA _) _;have z:=u.below d;have B:=ag.new C [Vi k,.slice o m n,.slice l j r,Vi f,Vi i,Vi g] 27;have c:=aa d;have a:=aa z;have A:=aa B;have X:=u.lt;clear d z B u;go_wp2_with fail;generalize hW:C.alloc (.cells #[Vi k,.slice o m n,.slice l j r,Vi f,Vi i,Vi g] 27)=W4 at c a A ⊢;clear hW;obtain⟨x0,x1,x2,x3,x4,x5⟩:=A.out.six;obtain⟨y0,y1,y2,y3,y4,y5⟩:=a.out.six;have f0:=a.frozen 0;have f1:=a.frozen 1;have f2:=a.frozen 2;have f3:=a.frozen 3;have f4:=a.frozen 4;have f5:=a.frozen 5
  go_region
  try go_wp2_with fail
  have t:=(xv (c0:=Vi k) (c1:=.slice o m n) (c2:=.slice l j r) (c3:=Vi f) (c4:=Vi i) (c5:=Vi g) a).six;have J:=(xw (b.trans ((x.mono b.size).trans ((D.mono (zJ b.size x.size)).trans (c.mono (zJ (zJ b.size x.size) D.size))))) (zA _) (Vi k) (.slice o m n) (.slice l j r) (Vi f) (Vi i) (Vi g)).drew;refine zN (v:=.tuple #[.pointer none,.agg #[Vi k,.slice o m n,.slice l j r,Vi f,Vi i,Vi g],Vi gr,.bool true]) (by simp[results,results6,go_sem,t.1,t.2.1,t.2.2.1,t.2.2.2.1,t.2.2.2.2.1,t.2.2.2.2.2,U.out]) rfl ?_;exact⟨J,_,k,o,m,n,l,j,r,f,i,g,gr,none,rfl,rfl⟩
 |some p=>
  obtain⟨rfl,rfl,P,E⟩:=qL G;obtain⟨bx,rfl,hX⟩:=M;obtain⟨O,rfl⟩:=F;have HX:=aa (hX.below y);have a1:=aa O;have W:=aa P;have a2:=aa (IV G);have R:=aa E;clear G I y hX O P E;have d:Bw C (C.alloc (.cells #[Vi k,.slice o m n,.slice l j r,Vi f,Vi i,Vi g] 27)):=(zE _ _).alloc (zA _) _;have z:=u.below d;have B:=ag.new C [Vi k,.slice o m n,.slice l j r,Vi f,Vi i,Vi g] 27;have c:=aa d;have a:=aa z;have A:=aa B;have X:=u.lt;clear d z B u;go_wp2_with fail;generalize hW:C.alloc (.cells #[Vi k,.slice o m n,.slice l j r,Vi f,Vi i,Vi g] 27)=W4 at c a A ⊢;clear hW;obtain⟨x0,x1,x2,x3,x4,x5⟩:=A.out.six;obtain⟨y0,y1,y2,y3,y4,y5⟩:=a.out.six;have f0:=a.frozen 0;have f1:=a.frozen 1;have f2:=a.frozen 2;have f3:=a.frozen 3;have f4:=a.frozen 4;have f5:=a.frozen 5
  go_region
  try go_wp2_with fail
  have t:=(xv (c0:=Vi k) (c1:=.slice o m n) (c2:=.slice l j r) (c3:=Vi f) (c4:=Vi i) (c5:=Vi g) a).six;have J:=(xw (b.trans ((x.mono b.size).trans ((D.mono (zJ b.size x.size)).trans (c.mono (zJ (zJ b.size x.size) D.size))))) (zA _) (Vi k) (.slice o m n) (.slice l j r) (Vi f) (Vi i) (Vi g)).drew;refine zN (v:=.tuple #[ar bx,.agg #[Vi k,.slice o m n,.slice l j r,Vi f,Vi i,Vi g],Vi p.groups,.bool true]) (by simp[results,results6,go_sem,t.1,t.2.1,t.2.2.1,t.2.2.2.1,t.2.2.2.2.1,t.2.2.2.2.2]) rfl ?_;have a0:¬dp W1 w.heap.size:=λh=>by have h9:W1.heap.size<=w.heap.size:=h;have:=L.lt;omega
  have N:¬w2.heap.size<=w.heap.size:=λh=>by have:=S.lt;omega
  exact⟨J,_,k,o,m,n,l,j,r,f,i,g,p.groups,some p,rfl,W,a2,by have:=R.out;omega,⟨bx,dp W1,rfl,(HX.below c).keep ((ah.refl _ _).put6 a0 _ _ _ _ _ _).drew⟩,NV.mono (λ_ _ _=>trivial) p _ 0 (NV.keep ((ah.refl (λq=>w2.heap.size<=q) W4).put6 N _ _ _ _ _ _).drew p _ 0 (NV.keep (ah.below c) p _ 0 a1)),rfl⟩
