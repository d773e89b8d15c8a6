import Derived.Test.YtebnghmioamheaaGreatDoorM10
set_option maxHeartbeats 1000000
set_option maxRecDepth 100000
set_option linter.all false
namespace Go.Proofs.YtebnghmioamheaaGreatDoor
open Go.RowKit Brm Tryz
variable {n g:Nat}{lv:Value}{w:World}{A:NP}
theorem Fy (ih:ld n){b:Nat}{l s:LZ}{d m:Int}(h:St w b lv l s g d m)(hn:s.length<=n):bJ 56 b lv l g d m (gP false (aU false n) s) w:=by
 unfold bJ;have c9:=aa h;have a3:=aa h.1.lt;have H:=h.1.lt;have HT:=aa h.2.2.1;have d8:=h.2.1.length_le;have d3:=h.2.2.2.1;have b8:Hid (∀s,cN (fR false (aU false n) s) s):=oO (fU false n);generalize hR:gP false (aU false n) s=R;have HR:Hid (bE (fR false (aU false n)) 38 Pat.and (s.length+1) [] s=R):=hR;go_enter func56,ntmps56;go_wp2_with fail;refine (JS ih (c9.new Zo) hn).mono ?_;rintro e w1 ⟨k,so,sn,sc,A,z,B,mm,nn,rr,rfl,x⟩;have Y:=AM (kind:=4) (sign:=38) (mk:=Pat.and) x b8 H hn (by omega);rw[HR.out]at Y;have S:=aa Y;have d7:w.heap.size+1<=w1.heap.size:=by have:=x.1.size;simp at this;omega
 generalize hXe:w1.heap.size+1=X at S;have b9:w.heap.size<X:=by omega
 go_wp2_with fail
 go_loopg [4,5] s.length (λj _ _ wr=>MQ w X b lv l g d m n 4 (fR false (aU false n)) 38 Pat.and R j wr)
 case atStart=>exact S
 case round=>
  obtain⟨ho,b7,lo,O,Z,hx,a0⟩:=hrel;have G:=aa ho;have E:=aa b7;have D:=aa hx;rcases a0 with⟨L,s0,P,i,c1,a8,r,a2⟩|⟨s',N,b3⟩
  ·have HS:=aa i;have y:=aa P;have c4:=aa a2;by_cases f:s0.head?=some 38
   ·rw[zX f]at r;obtain⟨t,rfl⟩:∃t,s0=38::t:=by cases s0 with|nil=>simp at f|cons c t=>simp at f;exact⟨t,by rw[f]⟩
    obtain⟨j',rfl⟩:∃j',gk=j'+1:=⟨gk-1,by simp only[zG]at a2;omega⟩;have c0:Hid ((fR false (aU false n) t).bind (λp s'=>if s'.head?=some 38 then bE (fR false (aU false n)) 38 Pat.and j' (L++[p]) s'.tail else .ok (Pat.and (L++[p])) s')=R):=by
     simp only[yt,bE]at r;exact r
    have c8:Hid (t.length<=n):=by simp only[zG]at a8;show _<=_;omega
    go_wp2_with fail;refine (dc HS (by decide) (by decide)).mono ?_;rintro e wt ⟨rfl,M,I⟩;have a:Off b wr wt:=I;replace G:=aa (G.trans a);replace E:=aa (E.off a (by omega));replace D:=aa (D.off a (by omega));replace HS:=aa M;replace y:=aa (y.keep a H);go_wp2_with fail;refine (JS ih HS c8).mono ?_;rintro e w1 ⟨k,so,sn,sc,A,z,B,mm,nn,rr,rfl,u,x⟩;have F:=aa u;have W:=aa ((D.off u (by omega)).alloc (.cells #[Vi k,.slice so sn sc,.slice A z B,Vi mm,Vi nn,Vi rr] 27));have HP:=aa x;have Q:Hid (X<wt.heap.size):=D.lt;have c7:Hid (wt.heap.size<=w1.heap.size):=u.size;obtain⟨⟨x0,x1,x2,x3,x4,x5⟩,a7⟩:=bK W.out;have d5:=W.frozen 2;obtain⟨xs,q1,q2,q3⟩:=y.out;have b1:=aa q1;have d0:=aa q3;have b5:=aa q2;have K:=bP q1 (λq hq=>F.block q (q1.lt q hq).2 (by have:=(q1.lt q hq).1;omega));have d1:=aa ((K.alloc (.cells #[Vi k,.slice so sn sc,.slice A z B,Vi mm,Vi nn,Vi rr] 27)).alloc (.cells #[Vi k,.slice so sn sc,.slice A z B,Vi mm,Vi nn,Vi rr] 27));have a6:Hid (∀q,(Value.slice lo O Z).ownBlock=some q->w.heap.size+1<=q):=λq hq=>(q1.lt q hq).1;go_wp2_with (at_builtin;refine pD rfl (.tmp 18) (.tmp 20) rfl (w.heap.size+1) L.length _ _ rfl d1 (aD (w1.heap.size+1) 0) (bT k so sn sc A z B mm nn rr) rfl rfl (wO _ _ _ _ _ _ _ _ _ _ _ _) (BB _ _ _ _ _ _ _ _ _ _) (by omega) (by have:=Q.out;have:=c7.out;simp;omega) ?_;intro v' w3 a5 a9 C;have a4:=aa a5;have a1:=aa a9;have c3:=aa C;obtain⟨b2,J,rfl⟩:=tD a4.out;have T:=aa (((W).alloc (.cells #[Vi k,.slice so sn sc,.slice A z B,Vi mm,Vi nn,Vi rr] 27)).grown a1 (λe=>b5 e.symm));obtain⟨⟨_,_,d6,_,_,_⟩,d4⟩:=bK T.out;have d2:=T.frozen 2)
    go_roundg j'
    case measure=>omega
    case rel=>
     obtain⟨F1,F2⟩:=re (v':=.slice b2 (L.length+1) J) b1.out b9 G.out F.out a1.out;have b4:some b≠(Value.slice lo O Z).ownBlock:=λe=>by have:=a6.out b e.symm;omega
     have c6:some w.heap.size≠(Value.slice lo O Z).ownBlock:=λe=>by have:=a6.out _ e.symm;omega
     refine⟨F1,F2 _ _ _ (E.off F (by omega)) (by omega) c6,b2,L.length+1,J,T.set 2 _,?_⟩;have hp:=HP.out;have b6:=b8.out t;have he:=c0.out;cases hr:fR false (aU false n) t with
     |bad s2=>
      rw[hr]at hp he;obtain⟨i1,g1,m1,c2⟩:=hp;exact .inr ⟨s2,⟨i1,g1,m1,F2 _ _ _ c2 (by omega) b4⟩,he.symm⟩
     |ok p s2=>
      rw[hr]at hp he b6;obtain⟨c5,i⟩:=hp;have hl:=List.IsSuffix.length_le b6;have b0:=c4.out;simp only[zG]at c1 a8 b0;have e1:(g+groupsL L)+p.groups=g+groupsL (L++[p]):=by rw[iU];omega
      have e2:max (max m (d+(ce L:Int))) (d+(p.deep:Int))=max m (d+(ce (L++[p]):Int)):=by rw[mK];omega
      rw[e1,e2]at i;refine .inl ⟨L++[p],s2,LI.push b1 b5 d0 H Q (Nat.lt_trans b9 Q) F c5 a4 a1 c3,St.move HT F1 i (F2 _ _ _ i.1 (by omega) b4),?_,by omega,he,by omega⟩;rw[zH];simp;omega
   ·rw[zR f]at r;have HN:=aa f;have V:Hid (R=.ok (Pat.and L) s0):=r.symm;go_wp2_with fail;refine (ep _ HS (by decide) (by decide) HN).mono ?_;rintro e wt ⟨rfl,o⟩;have a:Off b wr wt:=Off.drn o;replace G:=aa (G.trans a);replace E:=aa (E.off a (by omega));replace D:=aa (D.off a (by omega));replace HS:=aa (HS.drn o);replace y:=aa (y.keep a H);obtain⟨⟨x0,x1,x2,x3,x4,x5⟩,a7⟩:=bK D.out;obtain⟨⟨z0,z1,z2,z3,z4,z5⟩,⟨y0,y1,y2,y3,y4,y5⟩,U⟩:=aQ E.out
    try simp at z0 z1 z2 z3 z4 z5 y0 y1 y2 y3 y4 y5 U
    go_wp2_with fail;refine zN (v:=.agg #[Vi 4,Vz,.slice lo O Z,Vi 0,Vi 0,Vi 0]) (by simp[results,results56,go_sem,z0,z1,z2,z3,z4,z5]) rfl ⟨4,none,0,0,lo,O,Z,0,0,0,rfl,?_⟩;rw[V.out];exact mZ (λ_ _ xs o1 o2=>⟨_,xs,rfl,o1,o2⟩) (by simp[Pat.groups]) (by simp[Pat.deep]) y HS G a3 HT rfl
  ·have HB:=aa N;have V:=aa b3;go_wp2_with fail;refine (takes_bad _ _ _ _ _ _ HB (by decide) (by decide)).mono ?_;rintro e wt ⟨rfl,o⟩;have a:Off b wr wt:=Off.drn o;replace G:=aa (G.trans a);replace E:=aa (E.off a (by omega));replace D:=aa (D.off a (by omega));replace HB:=aa (HB.off o);obtain⟨⟨x0,x1,x2,x3,x4,x5⟩,a7⟩:=bK D.out;obtain⟨⟨z0,z1,z2,z3,z4,z5⟩,⟨y0,y1,y2,y3,y4,y5⟩,U⟩:=aQ E.out
   try simp at z0 z1 z2 z3 z4 z5 y0 y1 y2 y3 y4 y5 U
   go_wp2_with fail;refine zN (v:=.agg #[Vi 4,Vz,.slice lo O Z,Vi 0,Vi 0,Vi 0]) (by simp[results,results56,go_sem,z0,z1,z2,z3,z4,z5]) rfl ⟨4,none,0,0,lo,O,Z,0,0,0,rfl,?_⟩;rw[V.out];exact pE HB a3 G rfl
theorem Ve (ih:ld n){b:Nat}{l s:LZ}{d m:Int}(h:St w b lv l s g d m)(hn:s.length<=n):bJ 27 b lv l g d m (JE false (aU false n) s) w:=by
 unfold bJ;have c7:=aa h;have a9:=aa h.1.lt;have E:=h.1.lt;have HT:=aa h.2.2.1;have d6:=h.2.1.length_le;have d5:=h.2.2.2.1;have a6:Hid (∀s,cN (gP false (aU false n) s) s):=oP (fU false n);generalize hR:JE false (aU false n) s=R;have HR:Hid (bE (gP false (aU false n)) 124 Pat.or (s.length+1) [] s=R):=hR;go_enter func27,ntmps27;go_wp2_with fail;refine (Fy ih (c7.new Zo) hn).mono ?_;rintro e w1 ⟨k,so,sn,sc,B,y,A,mm,nn,rr,rfl,z⟩;have O:=AM (kind:=3) (sign:=124) (mk:=Pat.or) z a6 E hn (by omega);rw[HR.out]at O;have W:=aa O;have d8:w.heap.size+1<=w1.heap.size:=by have:=z.1.size;simp at this;omega
 generalize hXe:w1.heap.size+1=X at W;have b3:w.heap.size<X:=by omega
 go_wp2_with fail
 go_loopg [4,5] s.length (λj _ _ wr=>MQ w X b lv l g d m n 3 (gP false (aU false n)) 124 Pat.or R j wr)
 case atStart=>exact W
 case round=>
  obtain⟨ho,a5,Q,T,S,hx,U⟩:=hrel;have G:=aa ho;have F:=aa a5;have D:=aa hx;rcases U with⟨L,s0,Z,i,c2,b8,r,a8⟩|⟨s',N,b7⟩
  ·have HS:=aa i;have x:=aa Z;have c3:=aa a8;by_cases f:s0.head?=some 124
   ·rw[zX f]at r;obtain⟨t,rfl⟩:∃t,s0=124::t:=by cases s0 with|nil=>simp at f|cons c t=>simp at f;exact⟨t,by rw[f]⟩
    obtain⟨j',rfl⟩:∃j',gk=j'+1:=⟨gk-1,by simp only[zG]at a8;omega⟩;have d0:Hid ((gP false (aU false n) t).bind (λp s'=>if s'.head?=some 124 then bE (gP false (aU false n)) 124 Pat.or j' (L++[p]) s'.tail else .ok (Pat.or (L++[p])) s')=R):=by
     simp only[yt,bE]at r;exact r
    have d1:Hid (t.length<=n):=by simp only[zG]at b8;show _<=_;omega
    go_wp2_with fail;refine (dc HS (by decide) (by decide)).mono ?_;rintro e wt ⟨rfl,I,M⟩;have a:Off b wr wt:=M;replace G:=aa (G.trans a);replace F:=aa (F.off a (by omega));replace D:=aa (D.off a (by omega));replace HS:=aa I;replace x:=aa (x.keep a E);go_wp2_with fail;refine (Fy ih HS d1).mono ?_;rintro e w1 ⟨k,so,sn,sc,B,y,A,mm,nn,rr,rfl,u,z⟩;have H:=aa u;have a1:=aa ((D.off u (by omega)).alloc (.cells #[Vi k,.slice so sn sc,.slice B y A,Vi mm,Vi nn,Vi rr] 27));have HP:=aa z;have a0:Hid (X<wt.heap.size):=D.lt;have c9:Hid (wt.heap.size<=w1.heap.size):=u.size;obtain⟨⟨x0,x1,x2,x3,x4,x5⟩,a3⟩:=bK a1.out;have d7:=a1.frozen 2;obtain⟨xs,q1,q2,q3⟩:=x.out;have b6:=aa q1;have c5:=aa q3;have b2:=aa q2;have K:=bP q1 (λq hq=>H.block q (q1.lt q hq).2 (by have:=(q1.lt q hq).1;omega));have c8:=aa ((K.alloc (.cells #[Vi k,.slice so sn sc,.slice B y A,Vi mm,Vi nn,Vi rr] 27)).alloc (.cells #[Vi k,.slice so sn sc,.slice B y A,Vi mm,Vi nn,Vi rr] 27));have b4:Hid (∀q,(Value.slice Q T S).ownBlock=some q->w.heap.size+1<=q):=λq hq=>(q1.lt q hq).1;go_wp2_with (at_builtin;refine pD rfl (.tmp 18) (.tmp 20) rfl (w.heap.size+1) L.length _ _ rfl c8 (aD (w1.heap.size+1) 0) (bT k so sn sc B y A mm nn rr) rfl rfl (wO _ _ _ _ _ _ _ _ _ _ _ _) (BB _ _ _ _ _ _ _ _ _ _) (by omega) (by have:=a0.out;have:=c9.out;simp;omega) ?_;intro v' w3 b0 b9 C;have a4:=aa b0;have Y:=aa b9;have d2:=aa C;obtain⟨c0,J,rfl⟩:=tD a4.out;have V:=aa (((a1).alloc (.cells #[Vi k,.slice so sn sc,.slice B y A,Vi mm,Vi nn,Vi rr] 27)).grown Y (λe=>b2 e.symm));obtain⟨⟨_,_,d9,_,_,_⟩,d4⟩:=bK V.out;have d3:=V.frozen 2)
    go_roundg j'
    case measure=>omega
    case rel=>
     obtain⟨F1,F2⟩:=re (v':=.slice c0 (L.length+1) J) b6.out b3 G.out H.out Y.out;have b5:some b≠(Value.slice Q T S).ownBlock:=λe=>by have:=b4.out b e.symm;omega
     have c4:some w.heap.size≠(Value.slice Q T S).ownBlock:=λe=>by have:=b4.out _ e.symm;omega
     refine⟨F1,F2 _ _ _ (F.off H (by omega)) (by omega) c4,c0,L.length+1,J,V.set 2 _,?_⟩;have hp:=HP.out;have b1:=a6.out t;have he:=d0.out;cases hr:gP false (aU false n) t with
     |bad s2=>
      rw[hr]at hp he;obtain⟨i1,g1,m1,c6⟩:=hp;exact .inr ⟨s2,⟨i1,g1,m1,F2 _ _ _ c6 (by omega) b5⟩,he.symm⟩
     |ok p s2=>
      rw[hr]at hp he b1;obtain⟨c1,i⟩:=hp;have hl:=List.IsSuffix.length_le b1;have a7:=c3.out;simp only[zG]at c2 b8 a7;have e1:(g+groupsL L)+p.groups=g+groupsL (L++[p]):=by rw[iU];omega
      have e2:max (max m (d+(ce L:Int))) (d+(p.deep:Int))=max m (d+(ce (L++[p]):Int)):=by rw[mK];omega
      rw[e1,e2]at i;refine .inl ⟨L++[p],s2,LI.push b6 b2 c5 E a0 (Nat.lt_trans b3 a0) H c1 a4 Y d2,St.move HT F1 i (F2 _ _ _ i.1 (by omega) b5),?_,by omega,he,by omega⟩;rw[zH];simp;omega
   ·rw[zR f]at r;have HN:=aa f;have a2:Hid (R=.ok (Pat.or L) s0):=r.symm;go_wp2_with fail;refine (ep _ HS (by decide) (by decide) HN).mono ?_;rintro e wt ⟨rfl,o⟩;have a:Off b wr wt:=Off.drn o;replace G:=aa (G.trans a);replace F:=aa (F.off a (by omega));replace D:=aa (D.off a (by omega));replace HS:=aa (HS.drn o);replace x:=aa (x.keep a E);obtain⟨⟨x0,x1,x2,x3,x4,x5⟩,a3⟩:=bK D.out;obtain⟨⟨z0,z1,z2,z3,z4,z5⟩,⟨y0,y1,y2,y3,y4,y5⟩,P⟩:=aQ F.out
    try simp at z0 z1 z2 z3 z4 z5 y0 y1 y2 y3 y4 y5 P
    go_wp2_with fail;refine zN (v:=.agg #[Vi 3,Vz,.slice Q T S,Vi 0,Vi 0,Vi 0]) (by simp[results,results27,go_sem,z0,z1,z2,z3,z4,z5]) rfl ⟨3,none,0,0,Q,T,S,0,0,0,rfl,?_⟩;rw[a2.out];exact mZ (λ_ _ xs o1 o2=>⟨_,xs,rfl,o1,o2⟩) (by simp[Pat.groups]) (by simp[Pat.deep]) x HS G a9 HT rfl
  ·have HB:=aa N;have a2:=aa b7;go_wp2_with fail;refine (takes_bad _ _ _ _ _ _ HB (by decide) (by decide)).mono ?_;rintro e wt ⟨rfl,o⟩;have a:Off b wr wt:=Off.drn o;replace G:=aa (G.trans a);replace F:=aa (F.off a (by omega));replace D:=aa (D.off a (by omega));replace HB:=aa (HB.off o);obtain⟨⟨x0,x1,x2,x3,x4,x5⟩,a3⟩:=bK D.out;obtain⟨⟨z0,z1,z2,z3,z4,z5⟩,⟨y0,y1,y2,y3,y4,y5⟩,P⟩:=aQ F.out
   try simp at z0 z1 z2 z3 z4 z5 y0 y1 y2 y3 y4 y5 P
   go_wp2_with fail;refine zN (v:=.agg #[Vi 3,Vz,.slice Q T S,Vi 0,Vi 0,Vi 0]) (by simp[results,results27,go_sem,z0,z1,z2,z3,z4,z5]) rfl ⟨3,none,0,0,Q,T,S,0,0,0,rfl,?_⟩;rw[a2.out];exact pE HB a9 G rfl
theorem NX:∀n,ld n
 |0,_,_,_,s,_,_,_,_,_,hn=>by omega
 |n+1,b,lv,l,s,g,d,m,w,h,hn=>Ve (NX n) h (by omega)
theorem lf (w:World)(zs:LZ)(hz:∀x∈zs,0<=x/\x<256):(convert 93 9 (Vs w.heap.size zs.length zs.length)).run prog (w.alloc (.cells (zs.map (Value.int .u8)).toArray 5))=.ok (.string ⟨(zs.map λx=>x.toNat.toUInt8).toArray⟩) (w.alloc (.cells (zs.map (Value.int .u8)).toArray 5)):=by
 have h:=run_convert_bytes_back (P:=prog) (w.alloc (.cells (zs.map (Value.int .u8)).toArray 5)) 93 9 5 (aD w.heap.size 0) zs.length (zs.map λx=>x.toNat.toUInt8) underlying93 underlying5 underlying9 (λj b=>by
  rw[zl,zf,(ag.new w (zs.map (Value.int .u8)) 5).cell];have a:j<zs.length:=by simpa using b
  rw[zg,zB a,List.getElem_map];have:=hz zs[j] (xE a);simp only[yw];congr 2;rw[UInt8.toNat_ofNat_of_lt' (by show _<256;omega)];omega)
 simpa using h
theorem QQ (c:Int)(w:World)(h0:0<=c)(h1:c<128):Calls prog 31 #[Vi c] w λe w'=>∃s,e=.returned (.string s)/\af s=Lib.encodeRune c/\Bw w w':=by
 have a:=lf w [c] (by simp;omega);have b:Hid (Lib.encodeRune c=[c.toNat.toUInt8]):=by show _=_;unfold Lib.encodeRune;rw[Lib.encodeRuneZ_one h0 (by omega)];rfl
 simp only[zG,zh,zp,yU]at a;go_enter func31,ntmps31;go_wp2;go_ret;exact⟨_,rfl,by rw[b.out];rfl,(zE _ _).alloc (zA _) _⟩
theorem QR (c:Int)(w:World)(h0:128<=c)(h1:c<2048):Calls prog 31 #[Vi c] w λe w'=>∃s,e=.returned (.string s)/\af s=Lib.encodeRune c/\Bw w w':=by
 have a:=lf w [192+c / 64,128+c % 64] (by simp only[zO,xD,or_false];rintro x b;(repeat' (rcases b with rfl|b))<;>(try subst b)<;>omega);have d:Hid (Lib.encodeRune c=[(192+c / 64).toNat.toUInt8,(128+c % 64).toNat.toUInt8]):=by show _=_;unfold Lib.encodeRune;rw[Lib.encodeRuneZ_two h0 (by omega)];rfl
 simp only[zG,zh,zp,yU]at a;have f:decide (c<128)=false:=zI (by omega);go_enter func31,ntmps31;go_wp2;go_ret;exact⟨_,rfl,by rw[d.out];rfl,(zE _ _).alloc (zA _) _⟩
theorem KD (c:Int)(w:World)(h0:2048<=c)(h1:c<65536)(hr:c<55296\/57343<c):Calls prog 31 #[Vi c] w λe w'=>∃s,e=.returned (.string s)/\af s=Lib.encodeRune c/\Bw w w':=by
 have a:=lf w [224+c / 4096,128+c / 64 % 64,128+c % 64] (by simp only[zO,xD,or_false];rintro x b;(repeat' (rcases b with rfl|b))<;>(try subst b)<;>omega);have d:Hid (Lib.encodeRune c=[(224+c / 4096).toNat.toUInt8,(128+c / 64 % 64).toNat.toUInt8,(128+c % 64).toNat.toUInt8]):=by show _=_;unfold Lib.encodeRune;rw[Lib.encodeRuneZ_three (by omega)];rfl
 simp only[zG,zh,zp,yU]at a;have g:decide (c<128)=false:=zI (by omega);have f:decide (c<2048)=false:=zI (by omega);go_enter func31,ntmps31;go_wp2;go_ret;exact⟨_,rfl,by rw[d.out];rfl,(zE _ _).alloc (zA _) _⟩
theorem Nl (c:Int)(w:World)(h0:65536<=c)(h1:c<=1114111):Calls prog 31 #[Vi c] w λe w'=>∃s,e=.returned (.string s)/\af s=Lib.encodeRune c/\Bw w w':=by
 have a:=lf w [240+c / 262144,128+c / 4096 % 64,128+c / 64 % 64,128+c % 64] (by simp only[zO,xD,or_false];rintro x b;(repeat' (rcases b with rfl|b))<;>(try subst b)<;>omega);have d:Hid (Lib.encodeRune c=[(240+c / 262144).toNat.toUInt8,(128+c / 4096 % 64).toNat.toUInt8,(128+c / 64 % 64).toNat.toUInt8,(128+c % 64).toNat.toUInt8]):=by show _=_;unfold Lib.encodeRune;rw[Lib.encodeRuneZ_four h0 h1];rfl
 simp only[zG,zh,zp,yU]at a;have h:decide (c<128)=false:=zI (by omega);have g:decide (c<2048)=false:=zI (by omega);have f:decide (c<65536)=false:=zI (by omega);go_enter func31,ntmps31;go_wp2;go_ret;exact⟨_,rfl,by rw[d.out];rfl,(zE _ _).alloc (zA _) _⟩
theorem QS (c:Int)(w:World)(hc:runeB c=true):Calls prog 31 #[Vi c] w λe w'=>∃s,e=.returned (.string s)/\af s=Lib.encodeRune c/\Bw w w':=by
 have h:=(rune_iff c).1 hc;by_cases b:c<128
 ·exact QQ c w (by omega) b
 ·by_cases a:c<2048
  ·exact QR c w (by omega) a
  ·by_cases d:c<65536
   ·exact KD c w (by omega) d (by omega)
   ·exact Nl c w (by omega) (by omega)
theorem NV.below {w w':World}{A:NP}{p:Pat}{c:LV}{g:Nat}(h:NV w A p c g)(hb:Bw w w'):NV w' A p c g:=NV.keep (ah.below hb) p c g h
theorem cB.below {w w':World}{A:NP}{e:TypeId}{size:Nat}{v:Value}{n:Nat}{xs:LV}(h:cB w A e size v n xs)(hb:Bw w w'):cB w' A e size v n xs:=h.keep (ah.below hb)
theorem IX {xs:LV}(h:cB w A 27 6 lv n xs){i:Nat}(hi:i<n){k:Int}{so:OA}{sn sc:Nat}{lo:OA}{ln lc:Nat}{mm nn rr:Int}(hc:bT k so sn sc lo ln lc mm nn rr=(xs.drop (i*6)).take 6):∃b cap,lv=Vs b n cap/\b<w.heap.size/\w.cell? ⟨b,i*6,none⟩=some (Vi k)/\w.cell? ⟨b,i*6+1,none⟩=some (.slice so sn sc)/\w.cell? ⟨b,i*6+2,none⟩=some (.slice lo ln lc)/\w.cell? ⟨b,i*6+3,none⟩=some (Vi mm)/\w.cell? ⟨b,i*6+4,none⟩=some (Vi nn)/\w.cell? ⟨b,i*6+5,none⟩=some (Vi rr):=by
 rcases h.1.2 with⟨rfl,m⟩|⟨b,cap,e,rfl,l,o,g⟩
 ·omega
 ·refine⟨b,cap,rfl,(h.1.lt b rfl).2,?_⟩;have a:∀j u,(bT k so sn sc lo ln lc mm nn rr)[j]?=some u->w.cell? ⟨b,i*6+j,none⟩=some u:=by
   intro j u d;have c:j<6:=(zC.1 d).1;have f:xs[i*6+j]?=some u:=by
    rw[hc,List.getElem?_take,zX c,List.getElem?_drop]at d;exact d
   have:=h.1.cells rfl (i*6+j) u f;rw[zl]at this;simpa using this
  exact⟨a 0 _ rfl,a 1 _ rfl,a 2 _ rfl,a 3 _ rfl,a 4 _ rfl,a 5 _ rfl⟩
