import Derived.Lib.IndexBytes
import Derived.Test.YtebnghmioamheaaGreatDoorM17
set_option linter.all false
namespace Go.Proofs.YtebnghmioamheaaGreatDoor
open Go.RowKit Brm Tryz
variable {w w2:World}{B n:Nat}{xs:LV}{bs:List UInt8}{e:Int}
theorem jo:(prog.info? 3).map (λi=>(i.zero,i.size,i.bytes))=some (some (Vi 0),1,8):=by kernel_rfl
theorem BL {B':Nat}{v:Value}(h:w.ownsRow B 3 1 v n xs)(hb:B'<=B):w.ownsRow B' 3 1 v n xs:=by
 refine⟨h.1,?_⟩;rcases h.2 with d|⟨g,b,a,e,c,r⟩
 ·exact .inl d
 ·exact .inr ⟨g,b,a,e,zJ hb c,r⟩
theorem ry {w:World}{ops:Array Oper}{rest:List Oper}{o:Oper}{a:Act}{Q:Exit->Act->World->Prop}(hgd:o.guard=none)(s x:Operand)
  (ho:o.op=.call { callee:=.builtin .append,args:=#[s,x],argTypes:=#[61,61] }) (B n:Nat) (v:Value) (xs:LV) (hs:a.eval s=v) (hown:w.ownsRow B 3 1 v n xs)
  (ad:Addr) (news:LV) (hx:a.eval x=.slice (some ad) 1 1) (hl:news.length=1) (hnews:∀j u,news[j]?=some u->w.cell? (ad.add j)=some u) (h1:∀u∈news,u.oneCell'=true)
  (hn:n<=100000) (hB:B<=w.heap.size)
  (h:∀v' w',w'.ownsRow B 3 1 v' (n+1) (xs++news)->w.grownBy w' v.ownBlock->(v'.ownBlock=v.ownBlock\/∀g,v'.ownBlock=some g->w.heap.size<=g) ->
   wpList prog ops Q rest (a.put o.dst v') w'):wpList prog ops Q (o::rest) a w:=by
 obtain⟨t,r,p,m,q⟩:=zz jo;have f:=hown;rcases hown.2 with⟨rfl,rfl⟩|⟨g,l,D,rfl,F,G,A,E,C,H⟩
 ·refine yo w hgd s x 61 ho 3 t (Vi 0) 1 8 underlying61 r p m q rfl (by decide) none 0 0 xs hs (λ_=>⟨rfl,rfl⟩) f.1 (λb e=>by cases e) ad 1 1 news hx hl hnews h1 (by omega) (by unfold maxLen;omega) (by omega) ?_;intro v' w' d c;exact h v' w' (BL d hB) ⟨c.os,c.tape,c.output,c.size,λk y _=>c.block k y (by simp)⟩ (.inr λg e=>(d.lt g e).1)
 ·by_cases i:n+1<=l
  ·refine wpList_append_fits w hgd s x 61 ho B 3 t 1 underlying61 r m g n l xs hs f ad 1 1 news hx hl hnews h1 i ?_;intro w' d c;exact h _ w' d c (.inl rfl)
  ·refine yo w hgd s x 61 ho 3 t (Vi 0) 1 8 underlying61 r p m q rfl (by decide) (some (aD g 0)) n l xs hs (λe=>by cases e) f.1 (λb e j u z=>by cases e;exact f.cells rfl j u z) ad 1 1 news hx hl hnews h1 (by omega) (by unfold maxLen;omega) (by omega) ?_;intro v' w' d c;exact h v' w' (BL d hB) ⟨c.os,c.tape,c.output,c.size,λk y _=>c.block k y (by simp)⟩ (.inr λg e=>(d.lt g e).1)
theorem BM (w:World)(c:Int):∀j u,[Vi c][j]?=some u->(w.alloc (.cells #[Vi c] 3)).cell? (((aD w.heap.size 0):Addr).add j)=some u:=by
 intro j u a
 match j,a with
 |0,a=>simp at a;subst a;simp[Addr.add]
theorem BN (c:Int):∀u∈[Vi c],u.oneCell'=true:=by
 intro u a;simp at a;subst a;rfl
theorem oX {v:Value}(h:w.ownsRow B 3 1 v n xs):∃ao cap,v=.slice ao n cap:=by
 rcases h.2 with⟨rfl,rfl⟩|⟨g,cap,a,rfl,_⟩<;>exact⟨_,_,rfl⟩
theorem mN (s:ByteArray)(i:Nat):af (s.extract i s.size)=(af s).drop i:=by
 unfold af;rw[ByteArray.data_extract];simp[Array.toList_extract,List.extract_eq_take_drop];rw[yF];simp
def uM (bs:List UInt8)(pre:List Int):Prop:=aC pre.length bs<=bs.length/\(∀l,Runes (bs.drop (aC pre.length bs)) l->Runes bs (pre++l))/\∀k,Broken (bs.drop (aC pre.length bs)) k->Broken bs (aC pre.length bs+k)
theorem CN (bs:List UInt8):uM bs []:=⟨by simp[aC],λl h=>by simpa [aC]using h,λk h=>by simpa [aC]using h⟩
theorem AD {pre:LZ}(h:uM bs pre)(hne:bs.drop (aC pre.length bs)≠[])(hn:aS (bs.drop (aC pre.length bs))≠cx) :
  uM bs (pre++[((aS (bs.drop (aC pre.length bs))).1:Int)])/\aC (pre.length+1) bs=aC pre.length bs+(aS (bs.drop (aC pre.length bs))).2:=by
 have d:=fj hne;have e:aC (pre++[((aS (bs.drop (aC pre.length bs))).1:Int)]).length bs=aC pre.length bs+(aS (bs.drop (aC pre.length bs))).2:=by
  rw[zH,zo,mI]
 refine⟨⟨?_,?_,?_⟩,mI _ _⟩
 ·rw[e];have:=d.2.1;rw[yO]at this;have:=h.1;omega
 ·intro l a;rw[e,<-List.drop_drop]at a;rw[zc];exact h.2.1 _ (.cons hne (c:=(aS (bs.drop (aC pre.length bs))).1) (n:=(aS (bs.drop (aC pre.length bs))).2) rfl hn a)
 ·intro k b;rw[e,<-List.drop_drop]at b;have:=h.2.2 _ (.later hne (c:=(aS (bs.drop (aC pre.length bs))).1) (n:=(aS (bs.drop (aC pre.length bs))).2) rfl hn b);rw[e,xG];exact this
def iI (bs:List UInt8)(n:Nat):List Int:=(List.range n).map λt=>(aC t bs:Int)
theorem AE (bs:List UInt8)(n:Nat):iI bs (n+1)=iI bs n++[(aC n bs:Int)]:=by simp[iI,List.range_succ]
def bj (l:List Int):List Value:=l.map λc=>Vi c
def XU (w:World)(bs:List UInt8)(j:Nat)(ov av iv:Value)(wr:World):Prop:=∃pre:List Int,uM bs pre/\iv=Vi (aC pre.length bs)/\wr.ownsRow w.heap.size 3 1 ov pre.length (bj pre)/\wr.ownsRow w.heap.size 3 1 av pre.length (bj (iI bs pre.length))/\(ov.ownBlock=none\/ov.ownBlock≠av.ownBlock)/\Below w.heap.size w wr/\bs.length-aC pre.length bs<=j/\pre.length<=aC pre.length bs
set_option maxHeartbeats 1000000
set_option maxRecDepth 100000
theorem KZ (h:aS bs≠cx):dm bs=(((aS bs).2:Int),((aS bs).1:Int)):=by unfold dm;rw[zR h]
theorem La {wr w1:World}{ov av:Value}{o:Obj}(ha:wr.ownsRow B 3 1 av n xs)(hne:ov.ownBlock=none\/ov.ownBlock≠av.ownBlock)(hg:(wr.alloc o).grownBy w1 ov.ownBlock):w1.ownsRow B 3 1 av n xs:=by
 refine (ha.alloc o).kept hg ?_;rcases hne with h|h
 ·cases hb:av.ownBlock with
  |none=>exact .inl rfl
  |some q=>exact .inr (by rw[h];simp)
 ·exact .inr (λe=>h e.symm)
theorem Lb {wr w1:World}{pre:LZ}{ov av ov' av':Value}{c:Int}{p:Nat}{o1 o2:Obj}(hp:aC pre.length bs=p)
  (h2:wr.ownsRow w.heap.size 3 1 av pre.length (bj (iI bs pre.length))) (hne:ov.ownBlock=none\/ov.ownBlock≠av.ownBlock)
  (a1:w1.ownsRow w.heap.size 3 1 ov' (pre.length+1) (bj pre++[Vi c])) (g1:(wr.alloc o1).grownBy w1 ov.ownBlock) (l1:ov'.ownBlock=ov.ownBlock\/∀g,ov'.ownBlock=some g->(wr.alloc o1).heap.size<=g)
  (a2:w2.ownsRow w.heap.size 3 1 av' (pre.length+1) (bj (iI bs pre.length)++[Vi p])) (g2:(w1.alloc o2).grownBy w2 av.ownBlock) (l2:av'.ownBlock=av.ownBlock\/∀g,av'.ownBlock=some g->(w1.alloc o2).heap.size<=g) :
  w2.ownsRow w.heap.size 3 1 ov' (pre++[c]).length (bj (pre++[c]))/\w2.ownsRow w.heap.size 3 1 av' (pre++[c]).length (bj (iI bs (pre++[c]).length))/\(ov'.ownBlock=none\/ov'.ownBlock≠av'.ownBlock):=by
 have i:bj (pre++[c])=bj pre++[Vi c]:=by simp[bj]
 have k:bj (iI bs (pre.length+1))=bj (iI bs pre.length)++[Vi p]:=by rw[AE,hp];simp[bj]
 have j:=g1.size;simp at j;have h:∀g,av.ownBlock=some g->g<wr.heap.size:=λg b=>(h2.lt g b).2;have a:∀g,ov'.ownBlock=some g->some g≠av.ownBlock:=by
  intro g b e;rcases l1 with l|l
  ·rcases hne with f|f
   ·rw[l,f]at b;cases b
   ·exact f (l▸b.trans e)
  ·have:=l g b;have:=h g e.symm;simp at *;omega
 have d:ov'.ownBlock=none\/ov'.ownBlock≠av'.ownBlock:=by
  cases hb:ov'.ownBlock with
  |none=>exact .inl rfl
  |some g=>
   right
   intro e;rcases l2 with l|l
   ·exact a g hb (e.trans l)
   ·have:=l g e.symm;have:=(a1.lt g hb).2;simp at *;omega
 rw[zH,zo,i,k];refine⟨(a1.alloc o2).kept g2 ?_,a2,d⟩;cases hb:ov'.ownBlock with
 |none=>exact .inl rfl
 |some g=>exact .inr (a g hb)
theorem Lc (s:ByteArray)(w:World)(hs:s.size<=1000):Calls prog 26 #[.string s] w λe w'=>Bw w w' /\
  ((∃l v1 v2,Runes (af s) l/\e=.returned (.tuple #[v1,v2,Vi (-1)])/\w'.ownsRow w.heap.size 3 1 v1 l.length (bj l)/\w'.ownsRow w.heap.size 3 1 v2 (l.length+1) (bj (iI (af s) (l.length+1)))) \/
   (∃k:Nat,Broken (af s) k/\e=.returned (.tuple #[Vz,Vz,Vi k]))):=by
 have d:=aa (aL s);go_enter func26,ntmps26;go_wp2
 go_loopg [5,6,7] s.size (λk ov av iv wr=>XU w (af s) k ov av iv wr)
 case atStart=>exact⟨[],CN _,rfl,zZ _ _ _ _,zZ _ _ _ _,.inl rfl,zE _ _,by rw[d.out];simp[aC],by simp⟩
 case round=>
  obtain⟨a,t,rfl,O,L,I,g,V,U⟩:=hrel;have E:=t.1;rw[d.out]at E V;have y:=aa t;have S:=aa O;have H:=aa L;have x:=aa I;have r:=aa g;have D:=g.size;obtain⟨oo,oc,rfl⟩:=oX O;obtain⟨ao,ac,rfl⟩:=oX L;generalize hp:aC a.length (af s)=p at E V U;have u:=aa hp;by_cases a0:p<s.size
  ·have c:(af s).drop p≠[]:=by
    intro e;have:=List.drop_eq_nil_iff.1 e;rw[d.out]at this;omega
   have G:=aa c;have b:=fj c;have i0:(0:Int)<=(p:Int):=zK _;have i1:(p:Int)<=(s.size:Int):=by omega
   have i2:(p:Int)<(s.size:Int):=by omega
   have m:Hid ((s.extract p s.size).size=s.size-p):=by show _=_;simp
   by_cases z:aS ((af s).drop p)=cx
   ·have F:Hid (dm (af (s.extract p s.size))=(0,0)):=by show _=_;rw[mN];exact mg z
    have HD:=aa z;go_wp2_with (go_at_call 55;refine (Cf _ _ (by rw[m.out];omega) (by rw[m.out];omega)).mono ?_;rintro e w' ⟨rfl,rfl⟩;rw[F.out]);refine zN (v:=.tuple #[Vz,Vz,Vi p]) (by simp[results,results26,go_sem]) rfl ⟨r,.inr ⟨p,?_,rfl⟩⟩;have:=y.2.2 0;rw[u.out]at this;exact this (.here G HD)
   ·have F:Hid (dm (af (s.extract p s.size))=(((aS ((af s).drop p)).2:Int),((aS ((af s).drop p)).1:Int))):=by show _=_;rw[mN];exact KZ z
    have o:=y.out;have f:Hid (uM (af s) (a++[((aS ((af s).drop p)).1:Int)])/\aC (a.length+1) (af s)=p+(aS ((af s).drop p)).2):=by
     have:=AD o (by rw[u.out];exact c) (by rw[u.out];exact z);rw[u.out]at this;exact this
    generalize hc9:(aS ((af s).drop p)).1=c9 at F f b;generalize hn9:(aS ((af s).drop p)).2=n9 at F f b;have n1:=b.1;have n4:=b.2.2.1;have nb:(n9==0)=false:=zD.2 (by omega);have nz:((n9:Int)==0)=false:=zD.2 (by omega);have Q:a.length<=1000:=by omega
    go_wp2_with (first
     |(go_at_call 55;refine (Cf _ _ (by rw[m.out];omega) (by rw[m.out];omega)).mono ?_;rintro e w' ⟨rfl,R⟩;have C:=R.symm;subst C;rw[F.out])
     |(at_builtin;refine ry rfl (.tmp 24) (.tmp 26) rfl w.heap.size a.length _ _ rfl (S.alloc _) (aD wr.heap.size 0) [Vi c9] rfl rfl (BM _ _) (BN _) (by omega) (by simp;omega) ?_;intro v1 w1 A j J;have H1:=aa A;have X:=aa j;have L1:=aa J;have T:=j.size;simp at T;have N:=aa (La H x j))
     |(at_builtin;refine ry rfl (.tmp 28) (.tmp 30) rfl w.heap.size a.length _ _ rfl (N.alloc _) (aD w1.heap.size 0) [Vi p] rfl rfl (BM _ _) (BN _) (by omega) (by simp;omega) ?_;intro v2 W h i n;have P:=aa h;have B:=aa i;have Z:=aa n))
    obtain⟨Y,R2,R3⟩:=Lb u.out H.out x.out H1.out X.out L1.out P.out B.out Z.out;have RB:Bw w W:=((r.alloc D _).grown X (by simp;omega) (λq e=>(S.lt q e).1)).alloc (by omega) _ |>.grown B (by simp;omega) (λq e=>(H.lt q e).1)
    go_roundg (gk-1)
    case measure=>omega
    case rel=>
     refine⟨a++[(c9:Int)],f.1,?_,Y,R2,R3,RB,?_,?_⟩
     ·rw[zH,zo,f.out.2];go_num
     ·rw[zH,zo,f.out.2,d.out];omega
     ·rw[zH,zo,f.out.2];omega
  ·have K:p=s.size:=by omega
   subst K;have M:Hid (Runes (af s) a):=by
    have:=y.2.1 [];rw[u.out,<-d.out,List.drop_length,zx]at this;exact this .nil
   have Q:a.length<=1000:=by omega
   go_wp2_with (at_builtin;refine ry rfl (.tmp 36) (.tmp 39) rfl w.heap.size a.length _ _ rfl (H.alloc _) (aD wr.heap.size 0) [Vi s.size] rfl rfl (BM _ _) (BN _) (by omega) (by simp;omega) ?_;intro v2 W h i n;have P:=aa h;have B:=aa i);refine zN (v:=.tuple #[.slice oo a.length oc,v2,Vi (-1)]) (by simp[results,results26,go_sem]) rfl ⟨(r.alloc D _).grown B (by simp;omega) (λq e=>(H.lt q e).1),.inl ⟨a,_,_,M,rfl,(S.alloc _).kept B x,?_⟩⟩;rw[AE,u.out];have:=P.out;simpa [bj]using this
set_option maxHeartbeats 2000000
def dz (bs:List UInt8)(l:List Int):Int×Int×Option Pat:=match aU false (l.length+1) l with
 |.bad s=>(4,(aC (l.length-s.length) bs:Int),none)
 |.ok _ (_::t)=>(4,(aC (l.length-(t.length+1)) bs:Int),none)
 |.ok p []=>if 8<p.deep then (5,0,none)else (0,0,some p)
def jW (bs:List UInt8)(r:Int×Int×Option Pat):Prop :=
 (60<bs.length/\r=(2,0,none))\/(bs.length<=60/\∃k:Nat,Broken bs k/\r=(3,(k:Int),none))\/(bs.length<=60/\∃l,Runes bs l/\r=dz bs l)
theorem tY {r r':Int×Int×Option Pat}(h:jW bs r)(h':jW bs r'):r'=r:=by
 rcases h with⟨a,rfl⟩|⟨a,k,f,rfl⟩|⟨a,l,d,rfl⟩<;>rcases h' with⟨e,rfl⟩|⟨e,g,b,rfl⟩|⟨e,i,c,rfl⟩
 ·rfl
 ·omega
 ·omega
 ·omega
 ·rw[Do f b]
 ·exact absurd f (gG c k)
 ·omega
 ·exact absurd b (gG d g)
 ·rw[sF d c]
def MR (s:ByteArray)(w:World)(e:Ending)(w':World):Prop:=Below w.heap.size w w'/\∃k so sn sc lo ln lc mm nn rr gr er place op,jW (af s) (er,place,op) /\
 e=.returned (.tuple #[.agg #[Vi k,.slice so sn sc,.slice lo ln lc,Vi mm,Vi nn,Vi rr],Vi gr,Vi er,Vi place]) /\
 match op with|some p=>NV w' (λq=>w.heap.size<=q) p (bT k so sn sc lo ln lc mm nn rr) 0/\gr=(p.groups:Int)|none=>gr=0
theorem Qk (s:ByteArray)(w:World)(hs:60<s.size)(hm:s.size<=9223372036854775807):Calls prog 13 #[.string s] w λe w'=>MR s w e w':=by
 have a:=aa hs;have b:(60:Int)<(s.size:Int):=by omega
 go_enter func13,ntmps13;go_wp2_with fail;refine zN (v:=.tuple #[.agg #[Vi 0,Vz,Vz,Vi 0,Vi 0,Vi 0],Vi 0,Vi 2,Vi 0]) (by simp[results,results13,go_sem]) rfl ?_;exact⟨(zE _ _).alloc (zA _) _,0,none,0,0,none,0,0,0,0,0,0,2,0,none,.inl ⟨by rw[aL];exact a,rfl⟩,rfl,rfl⟩
theorem GA {a:World}(h:Below B a w)(c0 c1 c2 c3 c4 c5:Value):Below B a (put6 w B c0 c1 c2 c3 c4 c5) :=
 (((((h.setCell (zA _) _).setCell (zA _) _).setCell (zA _) _).setCell (zA _) _).setCell (zA _) _).setCell (zA _) _
theorem Ks (h:Bw w w2)(o:Obj)(c0 c1 c2 c3 c4 c5:Value) :
  Bw w (((((((w2.alloc o).setCell (aD w.heap.size 0) c0).setCell (aD w.heap.size 1) c1).setCell (aD w.heap.size 2) c2).setCell (aD w.heap.size 3) c3).setCell (aD w.heap.size 4) c4).setCell (aD w.heap.size 5) c5).drew :=
 (GA (h.alloc h.size o) c0 c1 c2 c3 c4 c5).drew
theorem TY (h:Bw w w2)(c0 c1 c2 c3 c4 c5:Value) :
  Bw w ((((((w2.setCell (aD w.heap.size 0) c0).setCell (aD w.heap.size 1) c1).setCell (aD w.heap.size 2) c2).setCell (aD w.heap.size 3) c3).setCell (aD w.heap.size 4) c4).setCell (aD w.heap.size 5) c5).drew :=
 (GA h c0 c1 c2 c3 c4 c5).drew
theorem Ua (h:Bw w w2)(o:Obj)(c0 c1 c2 c3 c4 c5:Value) :
  Bw w (((((((w2.alloc o).setCell (aD w.heap.size 0) c0).setCell (aD w.heap.size 1) c1).setCell (aD w.heap.size 2) c2).setCell (aD w.heap.size 3) c3).setCell (aD w.heap.size 4) c4).setCell (aD w.heap.size 5) c5) :=
 GA (h.alloc h.size o) c0 c1 c2 c3 c4 c5
theorem Yb {A:NP}{p:Pat}{c:LV}{g:Nat}(h:NV w2 A p c g)(hA:∀q,A q->w.heap.size<q)(o:Obj)(c0 c1 c2 c3 c4 c5:Value) :
  NV (((((((w2.alloc o).setCell (aD w.heap.size 0) c0).setCell (aD w.heap.size 1) c1).setCell (aD w.heap.size 2) c2).setCell (aD w.heap.size 3) c3).setCell (aD w.heap.size 4) c4).setCell (aD w.heap.size 5) c5).drew (λq=>w.heap.size<=q) p c g :=
 NV.mono (λq _ a=>yJ (hA q a)) p c g (NV.keep ((ah.alloc A w2 o).put6 (r:=w.heap.size) (λh=>Nat.lt_irrefl _ (hA _ h)) c0 c1 c2 c3 c4 c5).drew p c g h)
theorem tZ {t:Nat}{pa:OA}{pc:Nat}{xs:LZ}(h:w.ownsRow B 3 1 (.slice pa n pc) n (bj xs))(x:Int)(ht:xs[t]?=some x):∃bp,pa=some (aD bp 0)/\w.cell? (aD bp t)=some (Vi x)/\bp<w.heap.size/\B<=bp/\t<n:=by
 have a:=h.1;have f:t<xs.length:=(zC.1 ht).1;simp[bj]at a;rcases h.2 with⟨_,i⟩|⟨g,c,b,e,d,j,r⟩
 ·omega
 ·cases e;have:=h.cells rfl t (Vi x) (by simp[bj,ht]);rw[zl]at this;exact⟨g,rfl,by simpa using this,(h.lt g rfl).2,d,by omega⟩
theorem GB (bs:List UInt8){t:Nat}(h:t<n):(iI bs n)[t]?=some (aC t bs:Int):=by simp[iI,h]
theorem MT (s:ByteArray)(w:World)(hs:s.size<=60):Calls prog 13 #[.string s] w λe w'=>MR s w e w':=by
 have HS:=aa hs;have hi:decide ((60:Int)<(s.size:Int))=false:=zI (by omega);go_enter func13,ntmps13;go_wp2_with fail;refine (Lc s _ (by omega)).mono ?_;rintro e o ⟨B,K⟩;have a2:=aa B;have a7:=aa ((ag.new w Zq 27).below B);have b9:w.heap.size+1<=o.heap.size:=by have:=B.size;simp at this;omega
 rcases K with⟨l,v1,v2,O,rfl,J,I⟩|⟨k,Z,rfl⟩
 ·have i:=aa O;have a1:=aa J;have Y:=aa I;have a9:l.length<=60:=by have:=eB O;rw[aL]at this;omega
  obtain⟨u,z,rfl⟩:=oX J;obtain⟨pa,pc,rfl⟩:=oX I;go_wp2_with fail;have HT:Hid (te (o.alloc (.cells #[.slice u l.length z,Vi 0,Vi (-1),Vi 0,Vi 0,Vi 0] 76)) o.heap.size (.slice u l.length z) l):=⟨BL (a1.alloc _) (zW _),λq m=>by have:=(a1.lt q m).2;simp;omega⟩;have a4:St (o.alloc (.cells #[.slice u l.length z,Vi 0,Vi (-1),Vi 0,Vi 0,Vi 0] 76)) o.heap.size (.slice u l.length z) l l ((0:Nat):Int) 0 0:=by
   refine⟨?_,List.suffix_refl l,HT,a9,db i,by simp⟩;have:=ag.new o [.slice u l.length z,Vi 0,Vi (-1),Vi 0,Vi 0,Vi 0] 76;simpa [UF]using this
  refine (NX (l.length+1) o.heap.size (.slice u l.length z) l l 0 0 0 _ a4 (xC _)).mono ?_;rintro e w2 ⟨k,X,R,T,U,W,Q,P,S,V,rfl,d,x⟩;have c9:=aa d;have h:=aa (((a7.alloc (.cells #[.slice u l.length z,Vi 0,Vi (-1),Vi 0,Vi 0,Vi 0] 76)).off d (by omega)).alloc (.cells #[Vi k,.slice X R T,.slice U W Q,Vi P,Vi S,Vi V] 27));have y:Hid (Bw w w2):=((zE _ w).alloc (zA _) _).trans ((a2.mono (by simp)).trans (((zE _ o).alloc (zA _) (.cells #[.slice u l.length z,Vi 0,Vi (-1),Vi 0,Vi 0,Vi 0] 76)).mono (by omega) |>.trans (d.toBelow (by omega) (by simp;omega))));have L:Hid (w2.ownsRow (w.heap.size+1) 3 1 (.slice pa (l.length+1) pc) (l.length+1) (bj (iI (af s) (l.length+1)))):=by
   have h9:=Y.out;have e9:(w.alloc Zo).heap.size=w.heap.size+1:=by simp
   rw[e9]at h9;exact bP (h9.alloc (.cells #[.slice u l.length z,Vi 0,Vi (-1),Vi 0,Vi 0,Vi 0] 76)) (λq m=>d.block q (by have:=(h9.lt q m).2;simp;omega) (by have:=(h9.lt q m).2;omega))
  have b5:Hid (∀q,(Value.slice pa (l.length+1) pc).ownBlock=some q->q<o.heap.size):=λq m=>(Y.lt q m).2;have c7:o.heap.size<w2.heap.size:=by have:=d.size;simp at this;omega
  cases hr:aU false (l.length+1) l with
  |bad s2=>
   rw[hr]at x;have b:Hid (dz (af s) l=(4,(aC (l.length-s2.length) (af s):Int),none)):=by show _=_;unfold dz;rw[hr]
   obtain⟨i1,g1,m1,g⟩:=x;have ht:=GB (af s) (n:=l.length+1) (t:=l.length-s2.length) (by omega);obtain⟨bp,rfl,j,b3,b1,M⟩:=tZ L.out _ ht;have A:=g.cell 2;simp at A;have r:=g.lt;generalize hti:l.length-s2.length=ti at A j M b;generalize hpo:aC ti (af s)=po at j b;have i0:(0:Int)<=(ti:Int):=zK _;have i1:(ti:Int)<(l.length:Int)+1:=by omega
   have d1:decide ((ti:Int)<0)=false:=zI (by omega);obtain⟨⟨D,G,F,E,C,H⟩,⟨y0,y1,y2,y3,y4,y5⟩,a3⟩:=aQ h.out;go_wp2_with fail
   go_region
   go_wp2_with fail;refine zN (v:=.tuple #[.agg #[Vi 0,Vz,Vz,Vi 0,Vi 0,Vi 0],Vi 0,Vi 4,Vi po]) (by simp[results,results13,go_sem,D,G,F,E,C,H]) rfl ?_;refine⟨?_,0,none,0,0,none,0,0,0,0,0,0,4,po,none,.inr (.inr ⟨by rw[aL];exact HS,l,i,b.symm⟩),rfl,rfl⟩;exact Ks y _ _ _ _ _ _ _
  |ok p s2=>
   rw[hr]at x;obtain⟨N,a⟩:=x;cases s2 with
   |cons c t=>
    have b:Hid (dz (af s) l=(4,(aC (l.length-(t.length+1)) (af s):Int),none)):=by show _=_;unfold dz;rw[hr]
    have a6:=a.2.1.length_le;obtain⟨c0,c1,A,c3,c4,c5,r⟩:=a.cells;have i2:((l.length-(c::t).length:Nat):Int)<(l.length:Int):=by simp only[zG]at a6 ⊢;omega
    generalize hti0:l.length-(c::t).length=ti0 at c1 i2;have a8:=aa a;go_wp2_with fail;refine (fQ (a8.new (.cells #[Vi k,.slice X R T,.slice U W Q,Vi P,Vi S,Vi V] 27))).mono ?_;rintro e w3 ⟨rfl,a0,f⟩;have b7:Hid (Bw w w3):=(y.alloc (by omega) (.cells #[Vi k,.slice X R T,.slice U W Q,Vi P,Vi S,Vi V] 27)).trans (f.toBelow (by omega) (by simp;omega));replace h:=aa (h.off f (by omega));have b2:Hid (w3.ownsRow (w.heap.size+1) 3 1 (.slice pa (l.length+1) pc) (l.length+1) (bj (iI (af s) (l.length+1)))) :=
     bP (L.alloc (.cells #[Vi k,.slice X R T,.slice U W Q,Vi P,Vi S,Vi V] 27)) (λq m=>f.block q (by have:=(L.lt q m).2;simp;omega) (by have:=b5.out q m;omega))
    have b8:w2.heap.size<w3.heap.size:=by have:=f.size;simp at this;omega
    obtain⟨i1,g1,m1,g⟩:=a0;have ht:=GB (af s) (n:=l.length+1) (t:=l.length-(t.length+1)) (by omega);obtain⟨bp,rfl,j,b3,b1,M⟩:=tZ b2.out _ ht;have A:=g.cell 2;simp only[zG]at A;simp at A;have r:=g.lt;generalize hti:l.length-(t.length+1)=ti at A j M b;generalize hpo:aC ti (af s)=po at j b;have i0:(0:Int)<=(ti:Int):=zK _;have i1:(ti:Int)<(l.length:Int)+1:=by omega
    have d1:decide ((ti:Int)<0)=false:=zI (by omega);obtain⟨⟨D,G,F,E,C,H⟩,⟨y0,y1,y2,y3,y4,y5⟩,a3⟩:=aQ h.out;go_wp2_with fail
    go_region
    go_wp2_with fail;refine zN (v:=.tuple #[.agg #[Vi 0,Vz,Vz,Vi 0,Vi 0,Vi 0],Vi 0,Vi 4,Vi po]) (by simp[results,results13,go_sem,D,G,F,E,C,H]) rfl ?_;refine⟨?_,0,none,0,0,none,0,0,0,0,0,0,4,po,none,.inr (.inr ⟨by rw[aL];exact HS,l,i,b.symm⟩),rfl,rfl⟩;exact TY b7 _ _ _ _ _ _
   |nil=>
    obtain⟨c0,c1,A,c3,c4,c5,r⟩:=a.cells;simp only[zh,Nat.sub_zero]at c1;have em:max 0 (0+(p.deep:Int))=(p.deep:Int):=by omega
    rw[em]at c5;have eg:((0+p.groups:Nat):Int)=(p.groups:Int):=by simp
    rw[eg]at c3;have d2:decide ((l.length:Int)<(l.length:Int))=false:=zI (by omega);obtain⟨⟨D,G,F,E,C,H⟩,⟨y0,y1,y2,y3,y4,y5⟩,a3⟩:=aQ h.out;have b4:=aa N;have d0:=aa (a.facts);by_cases a5:8<p.deep
    ·have b:Hid (dz (af s) l=(5,0,none)):=by show _=_;unfold dz;rw[hr];simp only[zX a5]
     have b0:(8:Int)<(p.deep:Int):=by omega
     go_wp2_with fail;refine zN (v:=.tuple #[.agg #[Vi 0,Vz,Vz,Vi 0,Vi 0,Vi 0],Vi 0,Vi 5,Vi 0]) (by simp[results,results13,go_sem,D,G,F,E,C,H]) rfl ?_;refine⟨?_,0,none,0,0,none,0,0,0,0,0,0,5,0,none,.inr (.inr ⟨by rw[aL];exact HS,l,i,b.symm⟩),rfl,rfl⟩;exact Ua y _ _ _ _ _ _ _
    ·have b:Hid (dz (af s) l=(0,0,some p)):=by show _=_;unfold dz;rw[hr];simp only[zR a5]
     have b0:decide ((8:Int)<(p.deep:Int))=false:=zI (by omega);go_wp2_with fail
     go_region
     go_wp2_with fail;refine zN (v:=.tuple #[.agg #[Vi k,.slice X R T,.slice U W Q,Vi P,Vi S,Vi V],Vi p.groups,Vi 0,Vi 0]) (by simp[results,results13,go_sem,D,G,F,E,C,H]) rfl ?_;exact⟨Ks y _ _ _ _ _ _ _,k,X,R,T,U,W,Q,P,S,V,p.groups,0,0,some p,.inr (.inr ⟨by rw[aL];exact HS,l,i,b.symm⟩),rfl,Yb b4 (λq m=>by simp at m;omega) _ _ _ _ _ _ _,rfl⟩
 ·have b6:=aa Z;obtain⟨⟨D,G,F,E,C,H⟩,⟨y0,y1,y2,y3,y4,y5⟩,c6⟩:=aQ a7.out;have c8:(0:Int)<=(k:Int):=zK _;go_wp2_with fail;refine zN (v:=.tuple #[.agg #[Vi 0,Vz,Vz,Vi 0,Vi 0,Vi 0],Vi 0,Vi 3,Vi k]) (by simp[results,results13,go_sem,D,G,F,E,C,H]) rfl ?_;refine⟨?_,0,none,0,0,none,0,0,0,0,0,0,3,k,none,.inr (.inl ⟨by rw[aL];exact HS,k,b6,rfl⟩),rfl,rfl⟩;have hb:=((zE _ w).alloc (zA _) Zo).trans (a2.mono (by simp));exact (((((hb.setCell (zA _) _).setCell (zA _) _).setCell (zA _) _).setCell (zA _) _).setCell (zA _) _).setCell (zA _) _
theorem Ub (s:ByteArray)(w:World)(hm:s.size<=9223372036854775807):Calls prog 13 #[.string s] w λe w'=>MR s w e w':=by
 by_cases h:s.size<=60
 ·exact MT s w h
 ·exact Qk s w (by omega) hm
def Za (op:Option Pat):List UInt8:=match op with|some p=>p.wr|none=>[]
def Zt (bs:List UInt8)(t:List UInt8)(er place:Int):Prop:=∃op,jW bs (er,place,op)/\t=Za op
theorem qL {er place:Int}{p:Pat}(h:jW bs (er,place,some p)):er=0/\place=0/\p.Ok/\p.wr.length<=3600:=by
 rcases h with⟨_,h⟩|⟨_,k,_,h⟩|⟨g,l,d,h⟩
 ·simp at h
 ·simp at h
 ·have a:=Kl false (l.length+1) l (db d);have b:=eB d;unfold dz at h;cases ho:aU false (l.length+1) l with
  |bad s=>rw[ho]at h;simp at h
  |ok q s=>
   rw[ho]at h a;cases s with
   |cons c t=>simp at h
   |nil=>
    simp only at h
    split at h
    ·simp at h
    ·simp only[Prod.mk.injEq,yG]at h;obtain⟨rfl,rfl,rfl⟩:=h;obtain⟨f,e⟩:=a;simp only[zh,Nat.mul_zero,xF,zf]at e;exact⟨rfl,rfl,f,by omega⟩
theorem qM {er place:Int}(h:jW bs (er,place,none)):er≠0:=by
 rcases h with⟨_,h⟩|⟨_,k,_,h⟩|⟨a,l,b,h⟩
 ·simp at h;omega
 ·simp at h;omega
 ·unfold dz at h;cases ho:aU false (l.length+1) l with
  |bad s=>rw[ho]at h;simp at h;omega
  |ok q s=>
   rw[ho]at h;cases s with
   |cons c t=>simp at h;omega
   |nil=>
    simp only at h
    split at h
    ·simp at h;omega
    ·simp at h
def Il (w:World)(v:Value)(l:List Int):Prop:=∃B,w.ownsRow B 3 1 v l.length (bj l)
def aaa (q:List (Int×Int))(l:List Int)(k:Nat)(i j:Nat):Bool:=decide (i<k)&&(match l[i]? with|some c=>decide (j=i+1)&&memB q (up c)|none=>false)
def Low (w:World)(ob n U:Nat):Prop:=ob<w.heap.size/\∀i rb,i<=n->w.cell? (aD ob i)=some (XN n rb)->rb<U
def lT (bs:List UInt8)(e:Int)(ol:Option (List Int)):Prop:=(40<bs.length/\e=2/\ol=none)\/(bs.length<=40/\(∃k,Broken bs k)/\e=3/\ol=none)\/(bs.length<=40/\∃l,Runes bs l/\e=0/\ol=some l)
theorem tF {e':Int}{o o':Option (List Int)}(h:lT bs e o)(h':lT bs e' o'):e'=e/\o'=o:=by
 rcases h with⟨a,rfl,rfl⟩|⟨a,⟨k,g⟩,rfl,rfl⟩|⟨a,l,f,rfl,rfl⟩<;>rcases h' with⟨d,rfl,rfl⟩|⟨d,⟨i,c⟩,rfl,rfl⟩|⟨d,j,b,rfl,rfl⟩
 ·exact⟨rfl,rfl⟩
 ·omega
 ·omega
 ·omega
 ·exact⟨rfl,rfl⟩
 ·exact absurd g (gG b k)
 ·omega
 ·exact absurd c (gG f i)
 ·exact⟨rfl,by rw[sF f b]⟩
noncomputable def Aw (p:Pat)(ol:Option (List Int)):Bool:=match ol with|some l=>mT p l 0 l.length|none=>false
theorem Mv (h:lT bs e none):e≠0:=by
 rcases h with⟨_,rfl,_⟩|⟨_,_,rfl,_⟩|⟨_,l,_,_,h⟩
 ·decide
 ·decide
 ·cases h
theorem Mw {l:LZ}(h:lT bs e (some l)):e=0:=by
 rcases h with⟨_,_,h⟩|⟨_,_,_,h⟩|⟨_,l,_,h,_⟩
 ·cases h
 ·cases h
 ·exact h
