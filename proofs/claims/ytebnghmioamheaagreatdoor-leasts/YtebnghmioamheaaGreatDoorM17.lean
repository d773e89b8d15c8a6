import Derived.Test.YtebnghmioamheaaGreatDoorM10
set_option maxHeartbeats 1000000
set_option maxRecDepth 100000
set_option linter.all false
namespace Go.Proofs.YtebnghmioamheaaGreatDoor
open Go.RowKit Brm Tryz
variable {n g:Nat}{lv:Value}{w:World}{A:NP}
theorem Fy (ih:ld n){b:Nat}{l s:LZ}{d m:Int}(h:St w b lv l s g d m)(hn:s.length<=n):bJ 56 b lv l g d m (gP false (aU false n) s) w:=by
 unfold bJ;have c1:=aa h;have a8:=aa h.1.lt;have G:=h.1.lt;have HT:=aa h.2.2.1;have d7:=h.2.1.length_le;have d4:=h.2.2.2.1;have b5:Hid (∀s,cN (fR false (aU false n) s) s):=oO (fU false n);generalize hR:gP false (aU false n) s=R;have HR:Hid (bE (fR false (aU false n)) 38 Pat.and (s.length+1) [] s=R):=hR;go_enter func56,ntmps56;go_wp2_with fail;refine (JS ih (c1.new Zo) hn).mono ?_;rintro e w1 ⟨k,so,sn,sc,y,B,x,mm,nn,rr,rfl,z⟩;have Z:=AM (kind:=4) (sign:=38) (mk:=Pat.and) z b5 G hn (by omega);rw[HR.out]at Z;have Q:=aa Z;have d6:w.heap.size+1<=w1.heap.size:=by have:=z.1.size;simp at this;omega
 generalize hXe:w1.heap.size+1=X at Q;have a4:w.heap.size<X:=by omega
 go_wp2_with fail
 go_loopg [4,5] s.length (λj _ _ wr=>MQ w X b lv l g d m n 4 (fR false (aU false n)) 38 Pat.and R j wr)
 case atStart=>exact Q
 case round=>
  obtain⟨ho,b7,S,P,lc,hx,T⟩:=hrel;have H:=aa ho;have F:=aa b7;have D:=aa hx;rcases T with⟨L,s0,a2,i,c3,b6,o,b0⟩|⟨s',J,c0⟩
  ·have V:=aa i;have A:=aa a2;have c7:=aa b0;by_cases f:s0.head?=some 38
   ·rw[zX f]at o;obtain⟨t,rfl⟩:∃t,s0=38::t:=by cases s0 with|nil=>simp at f|cons c t=>simp at f;exact⟨t,by rw[f]⟩
    obtain⟨j',rfl⟩:∃j',gk=j'+1:=⟨gk-1,by simp only[zG]at b0;omega⟩;have c8:Hid ((fR false (aU false n) t).bind (λp s'=>if s'.head?=some 38 then bE (fR false (aU false n)) 38 Pat.and j' (L++[p]) s'.tail else .ok (Pat.and (L++[p])) s')=R):=by
     simp only[yt,bE]at o;exact o
    have c4:Hid (t.length<=n):=by simp only[zG]at b6;show _<=_;omega
    go_wp2_with fail;refine (dc V (by decide) (by decide)).mono ?_;rintro e wt ⟨rfl,M,K⟩;have a:Off b wr wt:=K;replace H:=aa (H.trans a);replace F:=aa (F.off a (by omega));replace D:=aa (D.off a (by omega));replace V:=aa M;replace A:=aa (A.keep a G);go_wp2_with fail;refine (JS ih V c4).mono ?_;rintro e w1 ⟨k,so,sn,sc,y,B,x,mm,nn,rr,rfl,u,z⟩;have E:=aa u;have a0:=aa ((D.off u (by omega)).alloc (.cells #[Vi k,.slice so sn sc,.slice y B x,Vi mm,Vi nn,Vi rr] 27));have HP:=aa z;have U:Hid (X<wt.heap.size):=D.lt;have d0:Hid (wt.heap.size<=w1.heap.size):=u.size;obtain⟨⟨x0,x1,x2,x3,x4,x5⟩,b2⟩:=bK a0.out;have d9:=a0.frozen 2;obtain⟨xs,q1,q2,q3⟩:=A.out;have a9:=aa q1;have c6:=aa q3;have b1:=aa q2;have N:=bP q1 (λq hq=>E.block q (q1.lt q hq).2 (by have:=(q1.lt q hq).1;omega));have c5:=aa ((N.alloc (.cells #[Vi k,.slice so sn sc,.slice y B x,Vi mm,Vi nn,Vi rr] 27)).alloc (.cells #[Vi k,.slice so sn sc,.slice y B x,Vi mm,Vi nn,Vi rr] 27));have a3:Hid (∀q,(Value.slice S P lc).ownBlock=some q->w.heap.size+1<=q):=λq hq=>(q1.lt q hq).1;go_wp2_with (at_builtin;refine pD rfl (.tmp 18) (.tmp 20) rfl (w.heap.size+1) L.length _ _ rfl c5 (aD (w1.heap.size+1) 0) (bT k so sn sc y B x mm nn rr) rfl rfl (wO _ _ _ _ _ _ _ _ _ _ _ _) (BB _ _ _ _ _ _ _ _ _ _) (by omega) (by have:=U.out;have:=d0.out;simp;omega) ?_;intro v' w3 a7 b4 C;have b9:=aa a7;have W:=aa b4;have d1:=aa C;obtain⟨a6,I,rfl⟩:=tD b9.out;have a1:=aa (((a0).alloc (.cells #[Vi k,.slice so sn sc,.slice y B x,Vi mm,Vi nn,Vi rr] 27)).grown W (λe=>b1 e.symm));obtain⟨⟨_,_,d8,_,_,_⟩,d3⟩:=bK a1.out;have d5:=a1.frozen 2)
    go_roundg j'
    case measure=>omega
    case rel=>
     obtain⟨F1,F2⟩:=re (v':=.slice a6 (L.length+1) I) a9.out a4 H.out E.out W.out;have a5:some b≠(Value.slice S P lc).ownBlock:=λe=>by have:=a3.out b e.symm;omega
     have c2:some w.heap.size≠(Value.slice S P lc).ownBlock:=λe=>by have:=a3.out _ e.symm;omega
     refine⟨F1,F2 _ _ _ (F.off E (by omega)) (by omega) c2,a6,L.length+1,I,a1.set 2 _,?_⟩;have hp:=HP.out;have b3:=b5.out t;have he:=c8.out;cases hr:fR false (aU false n) t with
     |bad s2=>
      rw[hr]at hp he;obtain⟨i1,g1,m1,c9⟩:=hp;exact .inr ⟨s2,⟨i1,g1,m1,F2 _ _ _ c9 (by omega) a5⟩,he.symm⟩
     |ok p s2=>
      rw[hr]at hp he b3;obtain⟨d2,i⟩:=hp;have hl:=List.IsSuffix.length_le b3;have b8:=c7.out;simp only[zG]at c3 b6 b8;have e1:(g+groupsL L)+p.groups=g+groupsL (L++[p]):=by rw[iU];omega
      have e2:max (max m (d+(ce L:Int))) (d+(p.deep:Int))=max m (d+(ce (L++[p]):Int)):=by rw[mK];omega
      rw[e1,e2]at i;refine .inl ⟨L++[p],s2,LI.push a9 b1 c6 G U (Nat.lt_trans a4 U) E d2 b9 W d1,St.move HT F1 i (F2 _ _ _ i.1 (by omega) a5),?_,by omega,he,by omega⟩;rw[zH];simp;omega
   ·rw[zR f]at o;have HN:=aa f;have O:Hid (R=.ok (Pat.and L) s0):=o.symm;go_wp2_with fail;refine (ep _ V (by decide) (by decide) HN).mono ?_;rintro e wt ⟨rfl,r⟩;have a:Off b wr wt:=Off.drn r;replace H:=aa (H.trans a);replace F:=aa (F.off a (by omega));replace D:=aa (D.off a (by omega));replace V:=aa (V.drn r);replace A:=aa (A.keep a G);obtain⟨⟨x0,x1,x2,x3,x4,x5⟩,b2⟩:=bK D.out;obtain⟨⟨z0,z1,z2,z3,z4,z5⟩,⟨y0,y1,y2,y3,y4,y5⟩,Y⟩:=aQ F.out
    try simp at z0 z1 z2 z3 z4 z5 y0 y1 y2 y3 y4 y5 Y
    go_wp2_with fail;refine zN (v:=.agg #[Vi 4,Vz,.slice S P lc,Vi 0,Vi 0,Vi 0]) (by simp[results,results56,go_sem,z0,z1,z2,z3,z4,z5]) rfl ⟨4,none,0,0,S,P,lc,0,0,0,rfl,?_⟩;rw[O.out];exact mZ (λ_ _ xs o1 o2=>⟨_,xs,rfl,o1,o2⟩) (by simp[Pat.groups]) (by simp[Pat.deep]) A V H a8 HT rfl
  ·have HB:=aa J;have O:=aa c0;go_wp2_with fail;refine (takes_bad _ _ _ _ _ _ HB (by decide) (by decide)).mono ?_;rintro e wt ⟨rfl,r⟩;have a:Off b wr wt:=Off.drn r;replace H:=aa (H.trans a);replace F:=aa (F.off a (by omega));replace D:=aa (D.off a (by omega));replace HB:=aa (HB.off r);obtain⟨⟨x0,x1,x2,x3,x4,x5⟩,b2⟩:=bK D.out;obtain⟨⟨z0,z1,z2,z3,z4,z5⟩,⟨y0,y1,y2,y3,y4,y5⟩,Y⟩:=aQ F.out
   try simp at z0 z1 z2 z3 z4 z5 y0 y1 y2 y3 y4 y5 Y
   go_wp2_with fail;refine zN (v:=.agg #[Vi 4,Vz,.slice S P lc,Vi 0,Vi 0,Vi 0]) (by simp[results,results56,go_sem,z0,z1,z2,z3,z4,z5]) rfl ⟨4,none,0,0,S,P,lc,0,0,0,rfl,?_⟩;rw[O.out];exact pE HB a8 H rfl
theorem Ve (ih:ld n){b:Nat}{l s:LZ}{d m:Int}(h:St w b lv l s g d m)(hn:s.length<=n):bJ 27 b lv l g d m (JE false (aU false n) s) w:=by
 unfold bJ;have c6:=aa h;have c1:=aa h.1.lt;have F:=h.1.lt;have HT:=aa h.2.2.1;have d8:=h.2.1.length_le;have d6:=h.2.2.2.1;have b1:Hid (∀s,cN (gP false (aU false n) s) s):=oP (fU false n);generalize hR:JE false (aU false n) s=R;have HR:Hid (bE (gP false (aU false n)) 124 Pat.or (s.length+1) [] s=R):=hR;go_enter func27,ntmps27;go_wp2_with fail;refine (Fy ih (c6.new Zo) hn).mono ?_;rintro e w1 ⟨k,so,sn,sc,A,B,y,mm,nn,rr,rfl,z⟩;have Q:=AM (kind:=3) (sign:=124) (mk:=Pat.or) z b1 F hn (by omega);rw[HR.out]at Q;have a2:=aa Q;have d9:w.heap.size+1<=w1.heap.size:=by have:=z.1.size;simp at this;omega
 generalize hXe:w1.heap.size+1=X at a2;have b6:w.heap.size<X:=by omega
 go_wp2_with fail
 go_loopg [4,5] s.length (λj _ _ wr=>MQ w X b lv l g d m n 3 (gP false (aU false n)) 124 Pat.or R j wr)
 case atStart=>exact a2
 case round=>
  obtain⟨ho,b4,O,T,Y,hx,a1⟩:=hrel;have G:=aa ho;have H:=aa b4;have D:=aa hx;rcases a1 with⟨L,s0,S,r,d3,b7,i,b0⟩|⟨s',J,c0⟩
  ·have W:=aa r;have x:=aa S;have c7:=aa b0;by_cases f:s0.head?=some 124
   ·rw[zX f]at i;obtain⟨t,rfl⟩:∃t,s0=124::t:=by cases s0 with|nil=>simp at f|cons c t=>simp at f;exact⟨t,by rw[f]⟩
    obtain⟨j',rfl⟩:∃j',gk=j'+1:=⟨gk-1,by simp only[zG]at b0;omega⟩;have c8:Hid ((gP false (aU false n) t).bind (λp s'=>if s'.head?=some 124 then bE (gP false (aU false n)) 124 Pat.or j' (L++[p]) s'.tail else .ok (Pat.or (L++[p])) s')=R):=by
     simp only[yt,bE]at i;exact i
    have d1:Hid (t.length<=n):=by simp only[zG]at b7;show _<=_;omega
    go_wp2_with fail;refine (dc W (by decide) (by decide)).mono ?_;rintro e wt ⟨rfl,K,M⟩;have a:Off b wr wt:=M;replace G:=aa (G.trans a);replace H:=aa (H.off a (by omega));replace D:=aa (D.off a (by omega));replace W:=aa K;replace x:=aa (x.keep a F);go_wp2_with fail;refine (Fy ih W d1).mono ?_;rintro e w1 ⟨k,so,sn,sc,A,B,y,mm,nn,rr,rfl,u,z⟩;have E:=aa u;have a0:=aa ((D.off u (by omega)).alloc (.cells #[Vi k,.slice so sn sc,.slice A B y,Vi mm,Vi nn,Vi rr] 27));have HP:=aa z;have Z:Hid (X<wt.heap.size):=D.lt;have c5:Hid (wt.heap.size<=w1.heap.size):=u.size;obtain⟨⟨x0,x1,x2,x3,x4,x5⟩,a4⟩:=bK a0.out;have d7:=a0.frozen 2;obtain⟨xs,q1,q2,q3⟩:=x.out;have a6:=aa q1;have c3:=aa q3;have b5:=aa q2;have N:=bP q1 (λq hq=>E.block q (q1.lt q hq).2 (by have:=(q1.lt q hq).1;omega));have c4:=aa ((N.alloc (.cells #[Vi k,.slice so sn sc,.slice A B y,Vi mm,Vi nn,Vi rr] 27)).alloc (.cells #[Vi k,.slice so sn sc,.slice A B y,Vi mm,Vi nn,Vi rr] 27));have a7:Hid (∀q,(Value.slice O T Y).ownBlock=some q->w.heap.size+1<=q):=λq hq=>(q1.lt q hq).1;go_wp2_with (at_builtin;refine pD rfl (.tmp 18) (.tmp 20) rfl (w.heap.size+1) L.length _ _ rfl c4 (aD (w1.heap.size+1) 0) (bT k so sn sc A B y mm nn rr) rfl rfl (wO _ _ _ _ _ _ _ _ _ _ _ _) (BB _ _ _ _ _ _ _ _ _ _) (by omega) (by have:=Z.out;have:=c5.out;simp;omega) ?_;intro v' w3 a9 b9 C;have b2:=aa a9;have P:=aa b9;have d0:=aa C;obtain⟨a5,I,rfl⟩:=tD b2.out;have V:=aa (((a0).alloc (.cells #[Vi k,.slice so sn sc,.slice A B y,Vi mm,Vi nn,Vi rr] 27)).grown P (λe=>b5 e.symm));obtain⟨⟨_,_,e0,_,_,_⟩,d4⟩:=bK V.out;have d5:=V.frozen 2)
    go_roundg j'
    case measure=>omega
    case rel=>
     obtain⟨F1,F2⟩:=re (v':=.slice a5 (L.length+1) I) a6.out b6 G.out E.out P.out;have b3:some b≠(Value.slice O T Y).ownBlock:=λe=>by have:=a7.out b e.symm;omega
     have c2:some w.heap.size≠(Value.slice O T Y).ownBlock:=λe=>by have:=a7.out _ e.symm;omega
     refine⟨F1,F2 _ _ _ (H.off E (by omega)) (by omega) c2,a5,L.length+1,I,V.set 2 _,?_⟩;have hp:=HP.out;have b8:=b1.out t;have he:=c8.out;cases hr:gP false (aU false n) t with
     |bad s2=>
      rw[hr]at hp he;obtain⟨i1,g1,m1,c9⟩:=hp;exact .inr ⟨s2,⟨i1,g1,m1,F2 _ _ _ c9 (by omega) b3⟩,he.symm⟩
     |ok p s2=>
      rw[hr]at hp he b8;obtain⟨d2,r⟩:=hp;have hl:=List.IsSuffix.length_le b8;have a8:=c7.out;simp only[zG]at d3 b7 a8;have e1:(g+groupsL L)+p.groups=g+groupsL (L++[p]):=by rw[iU];omega
      have e2:max (max m (d+(ce L:Int))) (d+(p.deep:Int))=max m (d+(ce (L++[p]):Int)):=by rw[mK];omega
      rw[e1,e2]at r;refine .inl ⟨L++[p],s2,LI.push a6 b5 c3 F Z (Nat.lt_trans b6 Z) E d2 b2 P d0,St.move HT F1 r (F2 _ _ _ r.1 (by omega) b3),?_,by omega,he,by omega⟩;rw[zH];simp;omega
   ·rw[zR f]at i;have HN:=aa f;have a3:Hid (R=.ok (Pat.or L) s0):=i.symm;go_wp2_with fail;refine (ep _ W (by decide) (by decide) HN).mono ?_;rintro e wt ⟨rfl,o⟩;have a:Off b wr wt:=Off.drn o;replace G:=aa (G.trans a);replace H:=aa (H.off a (by omega));replace D:=aa (D.off a (by omega));replace W:=aa (W.drn o);replace x:=aa (x.keep a F);obtain⟨⟨x0,x1,x2,x3,x4,x5⟩,a4⟩:=bK D.out;obtain⟨⟨z0,z1,z2,z3,z4,z5⟩,⟨y0,y1,y2,y3,y4,y5⟩,U⟩:=aQ H.out
    try simp at z0 z1 z2 z3 z4 z5 y0 y1 y2 y3 y4 y5 U
    go_wp2_with fail;refine zN (v:=.agg #[Vi 3,Vz,.slice O T Y,Vi 0,Vi 0,Vi 0]) (by simp[results,results27,go_sem,z0,z1,z2,z3,z4,z5]) rfl ⟨3,none,0,0,O,T,Y,0,0,0,rfl,?_⟩;rw[a3.out];exact mZ (λ_ _ xs o1 o2=>⟨_,xs,rfl,o1,o2⟩) (by simp[Pat.groups]) (by simp[Pat.deep]) x W G c1 HT rfl
  ·have HB:=aa J;have a3:=aa c0;go_wp2_with fail;refine (takes_bad _ _ _ _ _ _ HB (by decide) (by decide)).mono ?_;rintro e wt ⟨rfl,o⟩;have a:Off b wr wt:=Off.drn o;replace G:=aa (G.trans a);replace H:=aa (H.off a (by omega));replace D:=aa (D.off a (by omega));replace HB:=aa (HB.off o);obtain⟨⟨x0,x1,x2,x3,x4,x5⟩,a4⟩:=bK D.out;obtain⟨⟨z0,z1,z2,z3,z4,z5⟩,⟨y0,y1,y2,y3,y4,y5⟩,U⟩:=aQ H.out
   try simp at z0 z1 z2 z3 z4 z5 y0 y1 y2 y3 y4 y5 U
   go_wp2_with fail;refine zN (v:=.agg #[Vi 3,Vz,.slice O T Y,Vi 0,Vi 0,Vi 0]) (by simp[results,results27,go_sem,z0,z1,z2,z3,z4,z5]) rfl ⟨3,none,0,0,O,T,Y,0,0,0,rfl,?_⟩;rw[a3.out];exact pE HB c1 G rfl
theorem NX:∀n,ld n
 |0,_,_,_,s,_,_,_,_,_,hn=>by omega
 |n+1,b,lv,l,s,g,d,m,w,h,hn=>Ve (NX n) h (by omega)
theorem lf (w:World)(zs:LZ)(hz:∀x∈zs,0<=x/\x<256):(convert 93 9 (Vs w.heap.size zs.length zs.length)).run prog (w.alloc (.cells (zs.map (Value.int .u8)).toArray 5))=.ok (.string ⟨(zs.map λx=>x.toNat.toUInt8).toArray⟩) (w.alloc (.cells (zs.map (Value.int .u8)).toArray 5)):=by
 have h:=run_convert_bytes_back (P:=prog) (w.alloc (.cells (zs.map (Value.int .u8)).toArray 5)) 93 9 5 (aD w.heap.size 0) zs.length (zs.map λx=>x.toNat.toUInt8) underlying93 underlying5 underlying9 (λj b=>by
  rw[zl,zf,(ag.new w (zs.map (Value.int .u8)) 5).cell];have a:j<zs.length:=by simpa using b
  rw[zg,zB a,List.getElem_map];have:=hz zs[j] (xE a);simp only[yw];congr 2;rw[UInt8.toNat_ofNat_of_lt' (by show _<256;omega)];omega)
 simpa using h
theorem QQ (c:Int)(w:World)(h0:0<=c)(h1:c<128):Calls prog 31 #[Vi c] w λe w'=>∃s,e=.returned (.string s)/\af s=Lib.encodeRune c/\Bw w w':=by
 have a:=lf w [c] (by simp;omega);have b:Hid (Lib.encodeRune c=[c.toNat.toUInt8]):=by show _=_;unfold Lib.encodeRune;rw[Lib.encodeRuneZ_one h0 (by omega)];rfl
 simp only[zG,zh,zp,yU]at a;go_enter func31,ntmps31;go_wp2;go_ret;exact⟨_,rfl,by rw[b.out];rfl,(zE _ _).alloc (zA _) _⟩
theorem QR (c:Int)(w:World)(h0:128<=c)(h1:c<2048):Calls prog 31 #[Vi c] w λe w'=>∃s,e=.returned (.string s)/\af s=Lib.encodeRune c/\Bw w w':=by
 have b:=lf w [192+c / 64,128+c % 64] (by simp only[zO,xD,or_false];rintro x a;(repeat' (rcases a with rfl|a))<;>(try subst a)<;>omega);have d:Hid (Lib.encodeRune c=[(192+c / 64).toNat.toUInt8,(128+c % 64).toNat.toUInt8]):=by show _=_;unfold Lib.encodeRune;rw[Lib.encodeRuneZ_two h0 (by omega)];rfl
 simp only[zG,zh,zp,yU]at b;have f:decide (c<128)=false:=zI (by omega);go_enter func31,ntmps31;go_wp2;go_ret;exact⟨_,rfl,by rw[d.out];rfl,(zE _ _).alloc (zA _) _⟩
theorem KD (c:Int)(w:World)(h0:2048<=c)(h1:c<65536)(hr:c<55296\/57343<c):Calls prog 31 #[Vi c] w λe w'=>∃s,e=.returned (.string s)/\af s=Lib.encodeRune c/\Bw w w':=by
 have b:=lf w [224+c / 4096,128+c / 64 % 64,128+c % 64] (by simp only[zO,xD,or_false];rintro x a;(repeat' (rcases a with rfl|a))<;>(try subst a)<;>omega);have d:Hid (Lib.encodeRune c=[(224+c / 4096).toNat.toUInt8,(128+c / 64 % 64).toNat.toUInt8,(128+c % 64).toNat.toUInt8]):=by show _=_;unfold Lib.encodeRune;rw[Lib.encodeRuneZ_three (by omega)];rfl
 simp only[zG,zh,zp,yU]at b;have g:decide (c<128)=false:=zI (by omega);have f:decide (c<2048)=false:=zI (by omega);go_enter func31,ntmps31;go_wp2;go_ret;exact⟨_,rfl,by rw[d.out];rfl,(zE _ _).alloc (zA _) _⟩
theorem Nl (c:Int)(w:World)(h0:65536<=c)(h1:c<=1114111):Calls prog 31 #[Vi c] w λe w'=>∃s,e=.returned (.string s)/\af s=Lib.encodeRune c/\Bw w w':=by
 have b:=lf w [240+c / 262144,128+c / 4096 % 64,128+c / 64 % 64,128+c % 64] (by simp only[zO,xD,or_false];rintro x a;(repeat' (rcases a with rfl|a))<;>(try subst a)<;>omega);have d:Hid (Lib.encodeRune c=[(240+c / 262144).toNat.toUInt8,(128+c / 4096 % 64).toNat.toUInt8,(128+c / 64 % 64).toNat.toUInt8,(128+c % 64).toNat.toUInt8]):=by show _=_;unfold Lib.encodeRune;rw[Lib.encodeRuneZ_four h0 h1];rfl
 simp only[zG,zh,zp,yU]at b;have g:decide (c<128)=false:=zI (by omega);have f:decide (c<2048)=false:=zI (by omega);have h:decide (c<65536)=false:=zI (by omega);go_enter func31,ntmps31;go_wp2;go_ret;exact⟨_,rfl,by rw[d.out];rfl,(zE _ _).alloc (zA _) _⟩
theorem QS (c:Int)(w:World)(hc:runeB c=true):Calls prog 31 #[Vi c] w λe w'=>∃s,e=.returned (.string s)/\af s=Lib.encodeRune c/\Bw w w':=by
 have h:=(rune_iff c).1 hc;by_cases d:c<128
 ·exact QQ c w (by omega) d
 ·by_cases a:c<2048
  ·exact QR c w (by omega) a
  ·by_cases b:c<65536
   ·exact KD c w (by omega) b (by omega)
   ·exact Nl c w (by omega) (by omega)
theorem NV.below {w w':World}{A:NP}{p:Pat}{c:LV}{g:Nat}(h:NV w A p c g)(hb:Bw w w'):NV w' A p c g:=NV.keep (ah.below hb) p c g h
theorem cB.below {w w':World}{A:NP}{e:TypeId}{size:Nat}{v:Value}{n:Nat}{xs:LV}(h:cB w A e size v n xs)(hb:Bw w w'):cB w' A e size v n xs:=h.keep (ah.below hb)
theorem IX {xs:LV}(h:cB w A 27 6 lv n xs){i:Nat}(hi:i<n){k:Int}{so:OA}{sn sc:Nat}{lo:OA}{ln lc:Nat}{mm nn rr:Int}(hc:bT k so sn sc lo ln lc mm nn rr=(xs.drop (i*6)).take 6):∃b cap,lv=Vs b n cap/\b<w.heap.size/\w.cell? ⟨b,i*6,none⟩=some (Vi k)/\w.cell? ⟨b,i*6+1,none⟩=some (.slice so sn sc)/\w.cell? ⟨b,i*6+2,none⟩=some (.slice lo ln lc)/\w.cell? ⟨b,i*6+3,none⟩=some (Vi mm)/\w.cell? ⟨b,i*6+4,none⟩=some (Vi nn)/\w.cell? ⟨b,i*6+5,none⟩=some (Vi rr):=by
 rcases h.1.2 with⟨rfl,g⟩|⟨b,cap,e,rfl,l,o,m⟩
 ·omega
 ·refine⟨b,cap,rfl,(h.1.lt b rfl).2,?_⟩;have a:∀j u,(bT k so sn sc lo ln lc mm nn rr)[j]?=some u->w.cell? ⟨b,i*6+j,none⟩=some u:=by
   intro j u d;have c:j<6:=(zC.1 d).1;have f:xs[i*6+j]?=some u:=by
    rw[hc,List.getElem?_take,zX c,List.getElem?_drop]at d;exact d
   have:=h.1.cells rfl (i*6+j) u f;rw[zl]at this;simpa using this
  exact⟨a 0 _ rfl,a 1 _ rfl,a 2 _ rfl,a 3 _ rfl,a 4 _ rfl,a 5 _ rfl⟩
