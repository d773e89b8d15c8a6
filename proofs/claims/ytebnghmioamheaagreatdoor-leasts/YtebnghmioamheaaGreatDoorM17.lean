import Derived.Test.YtebnghmioamheaaGreatDoorM10
set_option maxHeartbeats 1000000
set_option maxRecDepth 100000
set_option linter.all false
namespace Go.Proofs.YtebnghmioamheaaGreatDoor
open Go.RowKit Brm Tryz
variable {n g:Nat}{lv:Value}{w:World}{A:NP}
theorem Fy (ih:ld n){b:Nat}{l s:LZ}{d m:Int}(h:St w b lv l s g d m)(hn:s.length<=n):bJ 56 b lv l g d m (gP false (aU false n) s) w:=by
 unfold bJ;have d1:=aa h;have a8:=aa h.1.lt;have F:=h.1.lt;have HT:=aa h.2.2.1;have d7:=h.2.1.length_le;have d5:=h.2.2.2.1;have c0:Hid (∀s,cN (fR false (aU false n) s) s):=oO (fU false n);generalize hR:gP false (aU false n) s=R;have HR:Hid (bE (fR false (aU false n)) 38 Pat.and (s.length+1) [] s=R):=hR;go_enter func56,ntmps56;go_wp2_with fail;refine (JS ih (d1.new Zo) hn).mono ?_;rintro e w1 ⟨k,so,sn,sc,z,x,A,mm,nn,rr,rfl,B⟩;have a2:=AM (kind:=4) (sign:=38) (mk:=Pat.and) B c0 F hn (by omega);rw[HR.out]at a2;have W:=aa a2;have d8:w.heap.size+1<=w1.heap.size:=by have:=B.1.size;simp at this;omega
 generalize hXe:w1.heap.size+1=X at W;have b8:w.heap.size<X:=by omega
 go_wp2_with fail
 go_loopg [4,5] s.length (λj _ _ wr=>MQ w X b lv l g d m n 4 (fR false (aU false n)) 38 Pat.and R j wr)
 case atStart=>exact W
 case round=>
  obtain⟨ho,b9,lo,ln,Y,hx,S⟩:=hrel;have H:=aa ho;have G:=aa b9;have D:=aa hx;rcases S with⟨L,s0,T,o,c5,b4,r,b0⟩|⟨s',N,a9⟩
  ·have Q:=aa o;have y:=aa T;have c4:=aa b0;by_cases f:s0.head?=some 38
   ·rw[zX f]at r;obtain⟨t,rfl⟩:∃t,s0=38::t:=by cases s0 with|nil=>simp at f|cons c t=>simp at f;exact⟨t,by rw[f]⟩
    obtain⟨j',rfl⟩:∃j',gk=j'+1:=⟨gk-1,by simp only[zG]at b0;omega⟩;have c1:Hid ((fR false (aU false n) t).bind (λp s'=>if s'.head?=some 38 then bE (fR false (aU false n)) 38 Pat.and j' (L++[p]) s'.tail else .ok (Pat.and (L++[p])) s')=R):=by
     simp only[yt,bE]at r;exact r
    have c9:Hid (t.length<=n):=by simp only[zG]at b4;show _<=_;omega
    go_wp2_with fail;refine (dc Q (by decide) (by decide)).mono ?_;rintro e Z ⟨rfl,M,K⟩;have a:Off b wr Z:=K;replace H:=aa (H.trans a);replace G:=aa (G.off a (by omega));replace D:=aa (D.off a (by omega));replace Q:=aa M;replace y:=aa (y.keep a F);go_wp2_with fail;refine (JS ih Q c9).mono ?_;rintro e w1 ⟨k,so,sn,sc,z,x,A,mm,nn,rr,rfl,u,B⟩;have E:=aa u;have a1:=aa ((D.off u (by omega)).alloc (.cells #[Vi k,.slice so sn sc,.slice z x A,Vi mm,Vi nn,Vi rr] 27));have HP:=aa B;have P:Hid (X<Z.heap.size):=D.lt;have c7:Hid (Z.heap.size<=w1.heap.size):=u.size;obtain⟨⟨x0,x1,x2,x3,x4,x5⟩,b5⟩:=bK a1.out;have d6:=a1.frozen 2;obtain⟨xs,q1,q2,q3⟩:=y.out;have a3:=aa q1;have d2:=aa q3;have b6:=aa q2;have I:=bP q1 (λq hq=>E.block q (q1.lt q hq).2 (by have:=(q1.lt q hq).1;omega));have c6:=aa ((I.alloc (.cells #[Vi k,.slice so sn sc,.slice z x A,Vi mm,Vi nn,Vi rr] 27)).alloc (.cells #[Vi k,.slice so sn sc,.slice z x A,Vi mm,Vi nn,Vi rr] 27));have a4:Hid (∀q,(Value.slice lo ln Y).ownBlock=some q->w.heap.size+1<=q):=λq hq=>(q1.lt q hq).1;go_wp2_with (at_builtin;refine pD rfl (.tmp 18) (.tmp 20) rfl (w.heap.size+1) L.length _ _ rfl c6 (aD (w1.heap.size+1) 0) (bT k so sn sc z x A mm nn rr) rfl rfl (wO _ _ _ _ _ _ _ _ _ _ _ _) (BB _ _ _ _ _ _ _ _ _ _) (by omega) (by have:=P.out;have:=c7.out;simp;omega) ?_;intro v' w3 b2 b1 C;have b3:=aa b2;have a0:=aa b1;have c2:=aa C;obtain⟨b7,J,rfl⟩:=tD b3.out;have V:=aa (((a1).alloc (.cells #[Vi k,.slice so sn sc,.slice z x A,Vi mm,Vi nn,Vi rr] 27)).grown a0 (λe=>b6 e.symm));obtain⟨⟨_,_,d9,_,_,_⟩,d4⟩:=bK V.out;have d3:=V.frozen 2)
    go_roundg j'
    case measure=>omega
    case rel=>
     obtain⟨F1,F2⟩:=re (v':=.slice b7 (L.length+1) J) a3.out b8 H.out E.out a0.out;have a7:some b≠(Value.slice lo ln Y).ownBlock:=λe=>by have:=a4.out b e.symm;omega
     have c8:some w.heap.size≠(Value.slice lo ln Y).ownBlock:=λe=>by have:=a4.out _ e.symm;omega
     refine⟨F1,F2 _ _ _ (G.off E (by omega)) (by omega) c8,b7,L.length+1,J,V.set 2 _,?_⟩;have hp:=HP.out;have a5:=c0.out t;have he:=c1.out;cases hr:fR false (aU false n) t with
     |bad s2=>
      rw[hr]at hp he;obtain⟨i1,g1,m1,c3⟩:=hp;exact .inr ⟨s2,⟨i1,g1,m1,F2 _ _ _ c3 (by omega) a7⟩,he.symm⟩
     |ok p s2=>
      rw[hr]at hp he a5;obtain⟨d0,o⟩:=hp;have hl:=List.IsSuffix.length_le a5;have a6:=c4.out;simp only[zG]at c5 b4 a6;have e1:(g+groupsL L)+p.groups=g+groupsL (L++[p]):=by rw[iU];omega
      have e2:max (max m (d+(ce L:Int))) (d+(p.deep:Int))=max m (d+(ce (L++[p]):Int)):=by rw[mK];omega
      rw[e1,e2]at o;refine .inl ⟨L++[p],s2,LI.push a3 b6 d2 F P (Nat.lt_trans b8 P) E d0 b3 a0 c2,St.move HT F1 o (F2 _ _ _ o.1 (by omega) a7),?_,by omega,he,by omega⟩;rw[zH];simp;omega
   ·rw[zR f]at r;have HN:=aa f;have U:Hid (R=.ok (Pat.and L) s0):=r.symm;go_wp2_with fail;refine (ep _ Q (by decide) (by decide) HN).mono ?_;rintro e Z ⟨rfl,i⟩;have a:Off b wr Z:=Off.drn i;replace H:=aa (H.trans a);replace G:=aa (G.off a (by omega));replace D:=aa (D.off a (by omega));replace Q:=aa (Q.drn i);replace y:=aa (y.keep a F);obtain⟨⟨x0,x1,x2,x3,x4,x5⟩,b5⟩:=bK D.out;obtain⟨⟨z0,z1,z2,z3,z4,z5⟩,⟨y0,y1,y2,y3,y4,y5⟩,O⟩:=aQ G.out
    try simp at z0 z1 z2 z3 z4 z5 y0 y1 y2 y3 y4 y5 O
    go_wp2_with fail;refine zN (v:=.agg #[Vi 4,Vz,.slice lo ln Y,Vi 0,Vi 0,Vi 0]) (by simp[results,results56,go_sem,z0,z1,z2,z3,z4,z5]) rfl ⟨4,none,0,0,lo,ln,Y,0,0,0,rfl,?_⟩;rw[U.out];exact mZ (λ_ _ xs o1 o2=>⟨_,xs,rfl,o1,o2⟩) (by simp[Pat.groups]) (by simp[Pat.deep]) y Q H a8 HT rfl
  ·have HB:=aa N;have U:=aa a9;go_wp2_with fail;refine (takes_bad _ _ _ _ _ _ HB (by decide) (by decide)).mono ?_;rintro e Z ⟨rfl,i⟩;have a:Off b wr Z:=Off.drn i;replace H:=aa (H.trans a);replace G:=aa (G.off a (by omega));replace D:=aa (D.off a (by omega));replace HB:=aa (HB.off i);obtain⟨⟨x0,x1,x2,x3,x4,x5⟩,b5⟩:=bK D.out;obtain⟨⟨z0,z1,z2,z3,z4,z5⟩,⟨y0,y1,y2,y3,y4,y5⟩,O⟩:=aQ G.out
   try simp at z0 z1 z2 z3 z4 z5 y0 y1 y2 y3 y4 y5 O
   go_wp2_with fail;refine zN (v:=.agg #[Vi 4,Vz,.slice lo ln Y,Vi 0,Vi 0,Vi 0]) (by simp[results,results56,go_sem,z0,z1,z2,z3,z4,z5]) rfl ⟨4,none,0,0,lo,ln,Y,0,0,0,rfl,?_⟩;rw[U.out];exact pE HB a8 H rfl
theorem Ve (ih:ld n){b:Nat}{l s:LZ}{d m:Int}(h:St w b lv l s g d m)(hn:s.length<=n):bJ 27 b lv l g d m (JE false (aU false n) s) w:=by
 unfold bJ;have c3:=aa h;have b9:=aa h.1.lt;have F:=h.1.lt;have HT:=aa h.2.2.1;have d7:=h.2.1.length_le;have d3:=h.2.2.2.1;have b0:Hid (∀s,cN (gP false (aU false n) s) s):=oP (fU false n);generalize hR:JE false (aU false n) s=R;have HR:Hid (bE (gP false (aU false n)) 124 Pat.or (s.length+1) [] s=R):=hR;go_enter func27,ntmps27;go_wp2_with fail;refine (Fy ih (c3.new Zo) hn).mono ?_;rintro e w1 ⟨k,so,sn,sc,z,x,y,mm,nn,rr,rfl,B⟩;have V:=AM (kind:=3) (sign:=124) (mk:=Pat.or) B b0 F hn (by omega);rw[HR.out]at V;have Y:=aa V;have d9:w.heap.size+1<=w1.heap.size:=by have:=B.1.size;simp at this;omega
 generalize hXe:w1.heap.size+1=X at Y;have a3:w.heap.size<X:=by omega
 go_wp2_with fail
 go_loopg [4,5] s.length (λj _ _ wr=>MQ w X b lv l g d m n 3 (gP false (aU false n)) 124 Pat.or R j wr)
 case atStart=>exact Y
 case round=>
  obtain⟨ho,a5,W,ln,T,hx,S⟩:=hrel;have H:=aa ho;have E:=aa a5;have D:=aa hx;rcases S with⟨L,s0,a0,i,c2,b5,o,b3⟩|⟨s',J,a7⟩
  ·have HS:=aa i;have A:=aa a0;have c5:=aa b3;by_cases f:s0.head?=some 124
   ·rw[zX f]at o;obtain⟨t,rfl⟩:∃t,s0=124::t:=by cases s0 with|nil=>simp at f|cons c t=>simp at f;exact⟨t,by rw[f]⟩
    obtain⟨j',rfl⟩:∃j',gk=j'+1:=⟨gk-1,by simp only[zG]at b3;omega⟩;have d0:Hid ((gP false (aU false n) t).bind (λp s'=>if s'.head?=some 124 then bE (gP false (aU false n)) 124 Pat.or j' (L++[p]) s'.tail else .ok (Pat.or (L++[p])) s')=R):=by
     simp only[yt,bE]at o;exact o
    have d1:Hid (t.length<=n):=by simp only[zG]at b5;show _<=_;omega
    go_wp2_with fail;refine (dc HS (by decide) (by decide)).mono ?_;rintro e U ⟨rfl,N,I⟩;have a:Off b wr U:=I;replace H:=aa (H.trans a);replace E:=aa (E.off a (by omega));replace D:=aa (D.off a (by omega));replace HS:=aa N;replace A:=aa (A.keep a F);go_wp2_with fail;refine (Fy ih HS d1).mono ?_;rintro e w1 ⟨k,so,sn,sc,z,x,y,mm,nn,rr,rfl,u,B⟩;have G:=aa u;have Q:=aa ((D.off u (by omega)).alloc (.cells #[Vi k,.slice so sn sc,.slice z x y,Vi mm,Vi nn,Vi rr] 27));have HP:=aa B;have P:Hid (X<U.heap.size):=D.lt;have c9:Hid (U.heap.size<=w1.heap.size):=u.size;obtain⟨⟨x0,x1,x2,x3,x4,x5⟩,c0⟩:=bK Q.out;have d6:=Q.frozen 2;obtain⟨xs,q1,q2,q3⟩:=A.out;have b4:=aa q1;have c8:=aa q3;have a6:=aa q2;have K:=bP q1 (λq hq=>G.block q (q1.lt q hq).2 (by have:=(q1.lt q hq).1;omega));have c1:=aa ((K.alloc (.cells #[Vi k,.slice so sn sc,.slice z x y,Vi mm,Vi nn,Vi rr] 27)).alloc (.cells #[Vi k,.slice so sn sc,.slice z x y,Vi mm,Vi nn,Vi rr] 27));have b1:Hid (∀q,(Value.slice W ln T).ownBlock=some q->w.heap.size+1<=q):=λq hq=>(q1.lt q hq).1;go_wp2_with (at_builtin;refine pD rfl (.tmp 18) (.tmp 20) rfl (w.heap.size+1) L.length _ _ rfl c1 (aD (w1.heap.size+1) 0) (bT k so sn sc z x y mm nn rr) rfl rfl (wO _ _ _ _ _ _ _ _ _ _ _ _) (BB _ _ _ _ _ _ _ _ _ _) (by omega) (by have:=P.out;have:=c9.out;simp;omega) ?_;intro v' w3 b6 b2 C;have a4:=aa b6;have a1:=aa b2;have c4:=aa C;obtain⟨b8,M,rfl⟩:=tD a4.out;have a2:=aa (((Q).alloc (.cells #[Vi k,.slice so sn sc,.slice z x y,Vi mm,Vi nn,Vi rr] 27)).grown a1 (λe=>a6 e.symm));obtain⟨⟨_,_,d8,_,_,_⟩,d4⟩:=bK a2.out;have d5:=a2.frozen 2)
    go_roundg j'
    case measure=>omega
    case rel=>
     obtain⟨F1,F2⟩:=re (v':=.slice b8 (L.length+1) M) b4.out a3 H.out G.out a1.out;have b7:some b≠(Value.slice W ln T).ownBlock:=λe=>by have:=b1.out b e.symm;omega
     have c6:some w.heap.size≠(Value.slice W ln T).ownBlock:=λe=>by have:=b1.out _ e.symm;omega
     refine⟨F1,F2 _ _ _ (E.off G (by omega)) (by omega) c6,b8,L.length+1,M,a2.set 2 _,?_⟩;have hp:=HP.out;have a8:=b0.out t;have he:=d0.out;cases hr:gP false (aU false n) t with
     |bad s2=>
      rw[hr]at hp he;obtain⟨i1,g1,m1,c7⟩:=hp;exact .inr ⟨s2,⟨i1,g1,m1,F2 _ _ _ c7 (by omega) b7⟩,he.symm⟩
     |ok p s2=>
      rw[hr]at hp he a8;obtain⟨d2,i⟩:=hp;have hl:=List.IsSuffix.length_le a8;have a9:=c5.out;simp only[zG]at c2 b5 a9;have e1:(g+groupsL L)+p.groups=g+groupsL (L++[p]):=by rw[iU];omega
      have e2:max (max m (d+(ce L:Int))) (d+(p.deep:Int))=max m (d+(ce (L++[p]):Int)):=by rw[mK];omega
      rw[e1,e2]at i;refine .inl ⟨L++[p],s2,LI.push b4 a6 c8 F P (Nat.lt_trans a3 P) G d2 a4 a1 c4,St.move HT F1 i (F2 _ _ _ i.1 (by omega) b7),?_,by omega,he,by omega⟩;rw[zH];simp;omega
   ·rw[zR f]at o;have HN:=aa f;have O:Hid (R=.ok (Pat.or L) s0):=o.symm;go_wp2_with fail;refine (ep _ HS (by decide) (by decide) HN).mono ?_;rintro e U ⟨rfl,r⟩;have a:Off b wr U:=Off.drn r;replace H:=aa (H.trans a);replace E:=aa (E.off a (by omega));replace D:=aa (D.off a (by omega));replace HS:=aa (HS.drn r);replace A:=aa (A.keep a F);obtain⟨⟨x0,x1,x2,x3,x4,x5⟩,c0⟩:=bK D.out;obtain⟨⟨z0,z1,z2,z3,z4,z5⟩,⟨y0,y1,y2,y3,y4,y5⟩,Z⟩:=aQ E.out
    try simp at z0 z1 z2 z3 z4 z5 y0 y1 y2 y3 y4 y5 Z
    go_wp2_with fail;refine zN (v:=.agg #[Vi 3,Vz,.slice W ln T,Vi 0,Vi 0,Vi 0]) (by simp[results,results27,go_sem,z0,z1,z2,z3,z4,z5]) rfl ⟨3,none,0,0,W,ln,T,0,0,0,rfl,?_⟩;rw[O.out];exact mZ (λ_ _ xs o1 o2=>⟨_,xs,rfl,o1,o2⟩) (by simp[Pat.groups]) (by simp[Pat.deep]) A HS H b9 HT rfl
  ·have HB:=aa J;have O:=aa a7;go_wp2_with fail;refine (takes_bad _ _ _ _ _ _ HB (by decide) (by decide)).mono ?_;rintro e U ⟨rfl,r⟩;have a:Off b wr U:=Off.drn r;replace H:=aa (H.trans a);replace E:=aa (E.off a (by omega));replace D:=aa (D.off a (by omega));replace HB:=aa (HB.off r);obtain⟨⟨x0,x1,x2,x3,x4,x5⟩,c0⟩:=bK D.out;obtain⟨⟨z0,z1,z2,z3,z4,z5⟩,⟨y0,y1,y2,y3,y4,y5⟩,Z⟩:=aQ E.out
   try simp at z0 z1 z2 z3 z4 z5 y0 y1 y2 y3 y4 y5 Z
   go_wp2_with fail;refine zN (v:=.agg #[Vi 3,Vz,.slice W ln T,Vi 0,Vi 0,Vi 0]) (by simp[results,results27,go_sem,z0,z1,z2,z3,z4,z5]) rfl ⟨3,none,0,0,W,ln,T,0,0,0,rfl,?_⟩;rw[O.out];exact pE HB b9 H rfl
theorem NX:∀n,ld n
 |0,_,_,_,s,_,_,_,_,_,hn=>by omega
 |n+1,b,lv,l,s,g,d,m,w,h,hn=>Ve (NX n) h (by omega)
theorem lf (w:World)(zs:LZ)(hz:∀x∈zs,0<=x/\x<256):(convert 93 9 (Vs w.heap.size zs.length zs.length)).run prog (w.alloc (.cells (zs.map (Value.int .u8)).toArray 5))=.ok (.string ⟨(zs.map λx=>x.toNat.toUInt8).toArray⟩) (w.alloc (.cells (zs.map (Value.int .u8)).toArray 5)):=by
 have h:=run_convert_bytes_back (P:=prog) (w.alloc (.cells (zs.map (Value.int .u8)).toArray 5)) 93 9 5 (aD w.heap.size 0) zs.length (zs.map λx=>x.toNat.toUInt8) underlying93 underlying5 underlying9 (λj b=>by
  rw[zl,zf,(ag.new w (zs.map (Value.int .u8)) 5).cell];have a:j<zs.length:=by simpa using b
  rw[zg,zB a,List.getElem_map];have:=hz zs[j] (xE a);simp only[yw];congr 2;rw[UInt8.toNat_ofNat_of_lt' (by show _<256;omega)];omega)
 simpa using h
theorem QQ (c:Int)(w:World)(h0:0<=c)(h1:c<128):Calls prog 31 #[Vi c] w λe w'=>∃s,e=.returned (.string s)/\af s=Lib.encodeRune c/\Bw w w':=by
 have a:=lf w [c] (by simp;omega);have b:Hid (Lib.encodeRune c=[c.toNat.toUInt8]):=by show _=_;unfold Lib.encodeRune;rw[Lib.encodeRuneZ_one h0 (by omega)];rfl
 simp only[zG,zh,zp,yU]at a;go_enter func31,ntmps31;go_wp2;go_ret;exact⟨_,rfl,by rw[b.out];rfl,(zE _ _).alloc (zA _) _⟩
theorem QR (c:Int)(w:World)(h0:128<=c)(h1:c<2048):Calls prog 31 #[Vi c] w λe w'=>∃s,e=.returned (.string s)/\af s=Lib.encodeRune c/\Bw w w':=by
 have b:=lf w [192+c / 64,128+c % 64] (by simp only[zO,xD,or_false];rintro x a;(repeat' (rcases a with rfl|a))<;>(try subst a)<;>omega);have d:Hid (Lib.encodeRune c=[(192+c / 64).toNat.toUInt8,(128+c % 64).toNat.toUInt8]):=by show _=_;unfold Lib.encodeRune;rw[Lib.encodeRuneZ_two h0 (by omega)];rfl
 simp only[zG,zh,zp,yU]at b;have f:decide (c<128)=false:=zI (by omega);go_enter func31,ntmps31;go_wp2;go_ret;exact⟨_,rfl,by rw[d.out];rfl,(zE _ _).alloc (zA _) _⟩
theorem KD (c:Int)(w:World)(h0:2048<=c)(h1:c<65536)(hr:c<55296\/57343<c):Calls prog 31 #[Vi c] w λe w'=>∃s,e=.returned (.string s)/\af s=Lib.encodeRune c/\Bw w w':=by
 have b:=lf w [224+c / 4096,128+c / 64 % 64,128+c % 64] (by simp only[zO,xD,or_false];rintro x a;(repeat' (rcases a with rfl|a))<;>(try subst a)<;>omega);have d:Hid (Lib.encodeRune c=[(224+c / 4096).toNat.toUInt8,(128+c / 64 % 64).toNat.toUInt8,(128+c % 64).toNat.toUInt8]):=by show _=_;unfold Lib.encodeRune;rw[Lib.encodeRuneZ_three (by omega)];rfl
 simp only[zG,zh,zp,yU]at b;have f:decide (c<128)=false:=zI (by omega);have g:decide (c<2048)=false:=zI (by omega);go_enter func31,ntmps31;go_wp2;go_ret;exact⟨_,rfl,by rw[d.out];rfl,(zE _ _).alloc (zA _) _⟩
theorem Nl (c:Int)(w:World)(h0:65536<=c)(h1:c<=1114111):Calls prog 31 #[Vi c] w λe w'=>∃s,e=.returned (.string s)/\af s=Lib.encodeRune c/\Bw w w':=by
 have b:=lf w [240+c / 262144,128+c / 4096 % 64,128+c / 64 % 64,128+c % 64] (by simp only[zO,xD,or_false];rintro x a;(repeat' (rcases a with rfl|a))<;>(try subst a)<;>omega);have d:Hid (Lib.encodeRune c=[(240+c / 262144).toNat.toUInt8,(128+c / 4096 % 64).toNat.toUInt8,(128+c / 64 % 64).toNat.toUInt8,(128+c % 64).toNat.toUInt8]):=by show _=_;unfold Lib.encodeRune;rw[Lib.encodeRuneZ_four h0 h1];rfl
 simp only[zG,zh,zp,yU]at b;have g:decide (c<128)=false:=zI (by omega);have h:decide (c<2048)=false:=zI (by omega);have f:decide (c<65536)=false:=zI (by omega);go_enter func31,ntmps31;go_wp2;go_ret;exact⟨_,rfl,by rw[d.out];rfl,(zE _ _).alloc (zA _) _⟩
theorem QS (c:Int)(w:World)(hc:runeB c=true):Calls prog 31 #[Vi c] w λe w'=>∃s,e=.returned (.string s)/\af s=Lib.encodeRune c/\Bw w w':=by
 have h:=(rune_iff c).1 hc;by_cases a:c<128
 ·exact QQ c w (by omega) a
 ·by_cases b:c<2048
  ·exact QR c w (by omega) b
  ·by_cases d:c<65536
   ·exact KD c w (by omega) d (by omega)
   ·exact Nl c w (by omega) (by omega)
theorem NV.below {w w':World}{A:NP}{p:Pat}{c:LV}{g:Nat}(h:NV w A p c g)(hb:Bw w w'):NV w' A p c g:=NV.keep (ah.below hb) p c g h
theorem cB.below {w w':World}{A:NP}{e:TypeId}{size:Nat}{v:Value}{n:Nat}{xs:LV}(h:cB w A e size v n xs)(hb:Bw w w'):cB w' A e size v n xs:=h.keep (ah.below hb)
theorem IX {xs:LV}(h:cB w A 27 6 lv n xs){i:Nat}(hi:i<n){k:Int}{so:OA}{sn sc:Nat}{lo:OA}{ln lc:Nat}{mm nn rr:Int}(hc:bT k so sn sc lo ln lc mm nn rr=(xs.drop (i*6)).take 6):∃b cap,lv=Vs b n cap/\b<w.heap.size/\w.cell? ⟨b,i*6,none⟩=some (Vi k)/\w.cell? ⟨b,i*6+1,none⟩=some (.slice so sn sc)/\w.cell? ⟨b,i*6+2,none⟩=some (.slice lo ln lc)/\w.cell? ⟨b,i*6+3,none⟩=some (Vi mm)/\w.cell? ⟨b,i*6+4,none⟩=some (Vi nn)/\w.cell? ⟨b,i*6+5,none⟩=some (Vi rr):=by
 rcases h.1.2 with⟨rfl,g⟩|⟨b,cap,f,rfl,l,o,m⟩
 ·omega
 ·refine⟨b,cap,rfl,(h.1.lt b rfl).2,?_⟩;have a:∀j u,(bT k so sn sc lo ln lc mm nn rr)[j]?=some u->w.cell? ⟨b,i*6+j,none⟩=some u:=by
   intro j u c;have d:j<6:=(zC.1 c).1;have e:xs[i*6+j]?=some u:=by
    rw[hc,List.getElem?_take,zX d,List.getElem?_drop]at c;exact c
   have:=h.1.cells rfl (i*6+j) u e;rw[zl]at this;simpa using this
  exact⟨a 0 _ rfl,a 1 _ rfl,a 2 _ rfl,a 3 _ rfl,a 4 _ rfl,a 5 _ rfl⟩
