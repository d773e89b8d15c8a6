import Derived.Test.YtebnghmioamheaaGreatDoorM47
set_option maxHeartbeats 8000000
set_option maxRecDepth 100000
set_option linter.all false
namespace Go.Proofs.YtebnghmioamheaaGreatDoor
open Go.RowKit Brm Tryz
variable {w:World}{A:NP}{lo:OA}{xs:LV}{n B cap:Nat}{l:LZ}{x:Int}
theorem ag.belowU {w':World}{U b:Nat}{cs:LV}{T:TypeId}(h:ag w b cs T)(k:Below U w w')(hb:b<U):ag w' b cs T:=(k.block b hb).trans h
theorem JD:∀(l:List Pat) (k:Nat),bH (l.drop k)<=bH l/\cr (l.drop k)<=cr l
 |l,0=>by simp
 | [],k+1=>by simp
 |p::l,k+1=>by
  have:=JD l k;simp only[List.drop_succ_cons,bH,cr];omega
def Zb (w:World)(A:Nat->Prop)(l:List Pat)(K:Int)(so:Option Addr)(sn:Nat)(m n:Int)(P:Pat):Prop :=
 (∃K',(K'=5/\K=3\/K'=6/\K=4)/\l≠[]/\∀us t,cL l us->SomeG K' us t->fA P t)\/(K=5/\∃p,P=.not p/\l=[p])\/(K=7/\∃p,P=.group p/\l=[p]) \/
 (K=6/\∃p,P=.many p m n/\l=[p]/\0<=m/\m<=5/\(n=-1\/(m<=n/\n<=5))) \/
 (K=1/\∃bs os q,so=some ⟨bs,os,none⟩/\sn=q.length/\P=.set (told q)/\PCanon q/\q≠[]/\q.length<=100000/\A bs/\Rd w (some ⟨bs,os,none⟩) q)\/(K=1/\sn=0/\P=.set [])\/(K=2/\P=.row l)
abbrev XG (A:Nat->Prop)(N:Nat)(G:Tm->Prop)(wr:World)(e:Ending)(w6:World):Prop :=
 ∃t so sn sc lo ln lc m n s,e=.returned (.agg #[Vi (Tm.kind t),.slice so sn sc,.slice lo ln lc,Vi m,Vi n,.string s])/\Hid (aj w6 (λg=>A g\/N<g) t (TC t.kind so sn sc lo ln lc m n s))/\Hid (G t)/\Bw wr w6
theorem gO {lc g:Nat}{l:List Pat}{K m n r:Int}{so:OA}{sn sc:Nat}{P:Pat}(hpat:Zb w A l K so sn m n P)(hA:∀g,A g->g<w.heap.size)(ho:cB w A 27 6 (.slice lo l.length lc) l.length xs)(hnl:NL w A l xs g)(ih:∀p∈l,Lt p)(hok:∀p∈l,p.Ok)(hnd:bH l<=1000000)(hrg:cr l<=100000):Calls prog 17 #[.agg #[Vi K,.slice so sn sc,.slice lo l.length lc,Vi m,Vi n,Vi r]] w (eH w A (fA P)):=by
 obtain⟨H,q3,a5,p3,m8,q5⟩:=jK (rfl:w.heap.size=_) [Vi K,.slice so sn sc,.slice lo l.length lc,Vi m,Vi n,Vi r] 27 TZ 58;have r6:Hid (∀(i:Nat) (p:Pat) (wr:World),l[i]?=some p->Bw H wr->∃k9 c9 d3 d1 b8 c8 d4 m9 n9 r9 b,lo=some (aD b 0)/\b<wr.heap.size/\wr.cell? ⟨b,i*6,none⟩=some (Vi k9)/\wr.cell? ⟨b,i*6+1,none⟩=some (.slice c9 d3 d1)/\wr.cell? ⟨b,i*6+2,none⟩=some (.slice b8 c8 d4)/\wr.cell? ⟨b,i*6+3,none⟩=some (Vi m9)/\wr.cell? ⟨b,i*6+4,none⟩=some (Vi n9)/\wr.cell? ⟨b,i*6+5,none⟩=some (Vi r9)/\Hid (Calls prog 17 #[.agg #[Vi k9,.slice c9 d3 d1,.slice b8 c8 d4,Vi m9,Vi n9,Vi r9]] wr (eH wr A (fA p)))):=λi p wr hi hb=>by
  have hm:=zU hi;have p2:=(zC.1 hi).1;have h1:=ur hm;have h2:=Bp hm;obtain⟨cc,gg,q6,u0⟩:=NL.at l xs g hnl i p hi;obtain⟨k9,c9,d3,d1,b8,c8,d4,m9,n9,r9,rfl⟩:=q6.len;obtain⟨b,a6,q8,r7,c0,c1,c2,c3,c4,c5⟩:=IX ((ho.below a5).below hb) p2 u0;injection q8 with e1 e2 e3;exact⟨k9,c9,d3,d1,b8,c8,d4,m9,n9,r9,b,e1,r7,c0,c1,c2,c3,c4,c5,ih p hm wr A gg k9 c9 d3 d1 b8 c8 d4 m9 n9 r9 ((q6.below a5).below hb) (λg a=>zF (hA g a) (zJ a5.size hb.size)) (hok p hm) (by omega) (by omega)⟩
 have v6:l.length<=1000000:=zJ (Bq l) hnd;have p9:=aa hnd;have n8:=aa hrg;have b1:=aa p3;have b3:=aa m8;have b5:=aa a5;have s2:=aa q3;have HA:=aa hA;have G:=aa q5;have o1:=aa hpat;have q9:Hid (∀K' wr f8 a6 M ys,(K'=5/\K=3\/K'=6/\K=4)->l≠[]->Bw H wr->wr.ownsRow H.heap.size 58 6 (.slice f8 M.length a6) M.length ys->aO wr (λg=>A g\/H.heap.size<=g) M ys->cL l M->Calls prog 34 #[.slice f8 M.length a6,Vi K'] wr (XG A (w.heap.size+1) (SomeG K' M) wr)):=λK' wr f8 a6 M ys hK h6 hb a8 h7 d2=>by
  have h1:=d2.tl;have h2:=mJ M;have h3:=hb.size;have o7:M≠[]:=λe=>h6 (by have:=d2.len;rw[e]at this;exact yf this.symm);refine (sT (hK.imp l0.left l0.left) (A:=λg=>(A g\/H.heap.size<=g)/\g<wr.heap.size) (λg a=>a.2) ((fN a8).mono (λg a h=>⟨.inr h,a⟩)) (aO.mono (λg a h=>⟨h,a⟩) _ _ h7) d2.ok o7 (by omega) (by omega)).mono ?_;rintro e w6 ⟨t,so,sn,sc,lo,ln,lc,m,n,s,rfl,g1,g2,g3⟩;exact⟨t,so,sn,sc,lo,ln,lc,m,n,s,rfl,aj.mono (λg _ a=>by rcases a with⟨a|a,_⟩|a;exact .inl a;exact .inr (by omega);exact .inr (by omega)) _ _ g1,g2,g3⟩
 have u4:Hid (∀p wr t y E C B D z Z nx sx,Bw H wr->aj wr (λg=>A g\/H.heap.size<=g) t (TC t.kind y E C B D z Z nx sx)->fA p t->t.tl<=80000000->Calls prog 35 #[.agg #[Vi t.kind,.slice y E C,.slice B D z,Vi Z,Vi nx,.string sx]] wr (XG A (w.heap.size+1) (fA (.not p)) wr)):=λp wr t y E C B D z Z nx sx hb hv a ht=>by
  have h3:=hb.size;refine (Ki (A:=λg=>(A g\/H.heap.size<=g)/\g<wr.heap.size) (λg a=>a.2) (aj.mono (λg a h=>⟨h,a⟩) _ _ hv) a.ok (by omega)).mono ?_;rintro e w6 ⟨t',so,sn,sc,lo,ln,lc,m,n,s,rfl,g1,g2,g3⟩;exact⟨t',so,sn,sc,lo,ln,lc,m,n,s,rfl,aj.mono (λg _ a=>by rcases a with⟨a|a,_⟩|a;exact .inl a;exact .inr (by omega);exact .inr (by omega)) _ _ g1,VB a g2,g3⟩
 have t8:Hid (∀p wr t y E C B D z Z nx sx,(0<=m/\m<=5/\(n=-1\/(m<=n/\n<=5)))->Bw H wr->aj wr (λg=>A g\/H.heap.size<=g) t (TC t.kind y E C B D z Z nx sx)->fA p t->t.tl<=80000000->Calls prog 36 #[.agg #[Vi t.kind,.slice y E C,.slice B D z,Vi Z,Vi nx,.string sx],Vi m,Vi n] wr (XG A (w.heap.size+1) (fA (.many p m n)) wr)):=λp wr t y E C B D z Z nx sx hm hb hv a ht=>by
  have h3:=hb.size;refine (Cy (A:=λg=>(A g\/H.heap.size<=g)/\g<wr.heap.size) m n (λg a=>a.2) hm.1 hm.2.1 hm.2.2 (aj.mono (λg a h=>⟨h,a⟩) _ _ hv) a.ok (by omega)).mono ?_;rintro e w6 ⟨t',so,sn,sc,lo,ln,lc,m',n',s,rfl,g1,g2,g3⟩;exact⟨t',so,sn,sc,lo,ln,lc,m',n',s,rfl,aj.mono (λg _ a=>by rcases a with⟨a|a,_⟩|a;exact .inl a;exact .inr (by omega);exact .inr (by omega)) _ _ g1,RT a g2,g3⟩
 have t6:Hid (∀bs os q cs wr,PCanon q->q.length<=100000->A bs->Rd w (some ⟨bs,os,none⟩) q->Bw H wr->Calls prog 33 #[.agg #[Vi 3,.slice (some ⟨bs,os,none⟩) q.length cs,Vz,Vi 0,Vi 0,.string ⟨#[]⟩]] wr λe N=>∃s,e=.returned (.agg #[Vi 3,.slice (some ⟨bs,os,none⟩) q.length cs,Vz,Vi 0,Vi 0,.string s])/\aj N A (.set q) (TC 3 (some ⟨bs,os,none⟩) q.length cs none 0 0 0 0 s)/\Bw wr N):=λbs os q cs wr hq h0 i3 g7 hb=>Pt _ (λi x hx=>by
   obtain⟨b',v3,e,f9,c1,c2⟩:=g7 i x hx;injection e with e;injection e with e1 e2;subst e1 e2;exact⟨bs,os,rfl,i3,zF f9 (zJ a5.size hb.size),(hb.cell (p:=⟨bs,_,none⟩) (zF f9 a5.size)).trans ((a5.cell (p:=⟨bs,_,none⟩) f9).trans c1),(hb.cell (p:=⟨bs,_,none⟩) (zF f9 a5.size)).trans ((a5.cell (p:=⟨bs,_,none⟩) f9).trans c2)⟩) hq h0
 have s0:Hid (∀(k U:Nat) (p:Pat) (t u:Tm) (wr:World) (y:Option Addr) (E C:Nat) (B:Option Addr) (D z:Nat) (Z nx:Int) (sx:ByteArray) (m2:Option Addr) (l3 i8:Nat) (l8:Option Addr) (j7 l1:Nat) (my ny:Int) (sy:ByteArray),l[k]?=some p->fA p t->RowG (l.drop (k+1)) u->aj wr (λg=>(A g\/H.heap.size<=g)/\g≠U) t (TC t.kind y E C B D z Z nx sx)->aj wr (λg=>(A g\/H.heap.size<=g)/\g≠U) u (TC u.kind m2 l3 i8 l8 j7 l1 my ny sy)->U<wr.heap.size->Calls prog 38 #[.agg #[Vi t.kind,.slice y E C,.slice B D z,Vi Z,Vi nx,.string sx],.agg #[Vi u.kind,.slice m2 l3 i8,.slice l8 j7 l1,Vi my,Vi ny,.string sy]] wr λe w6=>∃v so sn sc lo ln lc mm nn s,e=.returned (.agg #[Vi (Tm.kind v),.slice so sn sc,.slice lo ln lc,Vi mm,Vi nn,.string s])/\Hid (aj w6 (λg=>((A g\/H.heap.size<=g)/\g≠U)\/wr.heap.size<g) v (TC v.kind so sn sc lo ln lc mm nn s))/\Hid (RowG (l.drop k) v)/\Bw wr w6):=λk U p t u wr y E C B D z Z nx sx m2 l3 i8 l8 j7 l1 my ny sy hk a hr hv hu hU=>by
  have hd:l.drop k=p::l.drop (k+1):=by
   have j1:=(zC.1 hk).1;rw[yC j1];congr 1;exact yT ((zB j1).symm.trans hk)
  have h1:=a.tl;have h2:=hr.tl;have h3:=ur (zU hk);have h4:=Bp (zU hk);have h5:bH (l.drop (k+1))<=bH l/\cr (l.drop (k+1))<=cr l:=JD l (k+1);rw[hd];refine (Xv (A:=λg=>((A g\/H.heap.size<=g)/\g≠U)/\g<wr.heap.size) a hr (λg a=>a.2) (aj.mono (λg a h=>⟨h,a⟩) _ _ hv) (aj.mono (λg a h=>⟨h,a⟩) _ _ hu) (by omega)).mono ?_;rintro e w6 ⟨v,so,sn,sc,lo,ln,lc,m,n,s,rfl,g1,g2,g3⟩;exact⟨v,so,sn,sc,lo,ln,lc,m,n,s,rfl,aj.mono (λg _ a=>by rcases a with a|a;exact .inl a.1;exact .inr a) _ _ g1,g2,g3⟩
 obtain⟨i0,hi,p0,q2,n4⟩:=zz lM;go_enter func17,ntmps17;go_upto_region 1 with fail;rw[s2.out];generalize hS:w.heap.size=S at *;go_wp2_with fail
 go_loopw [3,4] (λov iv wr=>∃(i:Nat) (M:List Tm) (ys:List Value),iv=Vi i/\i<=l.length/\wr.ownsRow H.heap.size 58 6 ov M.length ys/\aO wr (λg=>(A g\/H.heap.size<=g)/\ov.ownBlock≠some g) M ys/\cL (l.take i) M/\Bw H wr) (λ_ iv _=>l.length-(intOf iv).toNat)
 case atStart=>exact⟨0,[],[],rfl,zW _,zZ _ _ _ _,rfl,trivial,zE _ _⟩
 case round=>
  obtain⟨i,M,ys,rfl,p2,a8,h7,d2,b0⟩:=hrel;obtain⟨f8,a6,rfl⟩:=cd a8;have HO:=aa a8;have HU:=aa h7;have j6:=aa d2;have f:=aa b0;have i9:H.heap.size<=wr.heap.size:=b0.size;have i1:(0:Int)<=(i:Int):=zK _;have a2:wr.cell? (aD S 2)=some (.slice lo l.length lc):=(b1.below b0).cell 2;have o2:S<wr.heap.size:=(b1.below b0).lt;by_cases t4:i<l.length
  ·have i2:(i:Int)<(l.length:Int):=by omega
   obtain⟨p',j8⟩:∃p',l[i]?=some p':=⟨_,zB t4⟩;have u3:Hid (l.take (i+1)=l.take i++[p']):=by show _=_;rw[zi,j8];rfl
   obtain⟨k9,c9,d3,d1,b8,c8,d4,m9,n9,r9,b,rfl,v7,y0,y1,y2,y3,y4,y5,HC⟩:=r6.out i p' wr j8 f.out;go_wp2_with fail;refine HC.mono ?_;rintro e w5 ⟨t5,d9,d7,e7,g0,d8,f6,m5,n5,s5,rfl,n0,p6,b4⟩;obtain⟨U3,o6,o,m4,-⟩:=dS (rfl:w5.heap.size=_) (TC t5.kind d9 d7 e7 g0 d8 f6 m5 n5 s5) 58;replace m4:=aa m4;have s8:=aa o6;have n2:=aa (bg (bg HO b4) o);have i7:Hid (Bw wr U3):=b4.trans (o.mono b4.size);have m7:Hid (Bw H U3):=f.trans (i7.mono i9);have l7:=aa (aj.below o _ _ n0);have m0:=aa p6;have o0:M.length<=1000000:=by have:=j6.len;rw[yn]at this;omega
   go_wp2_with (at_builtin;rw[s8.out];refine jg rfl (.tmp 14) (.tmp 21) 56 58 i0 _ 6 88 rfl underlying56 hi p0 q2 n4 rfl (by decide) H.heap.size M.length _ _ rfl n2 _ 1 _ (TC t5.kind d9 d7 e7 g0 d8 f6 m5 n5 s5) rfl rfl (by decide) (λj u hj=>by rw[zl,zf,m4.out.cell];exact hj) (sD _ _ _ _ _ _ _ _ _ _) (by unfold maxLen;omega) (by omega) m7.size ?_;intro v4 w4 d5 i4 i5;have HF:=aa (l0.intro d5 (l0.intro i4 i5)))
   go_roundw
   case rel=>
    refine⟨i+1,M++[t5],ys++TC t5.kind d9 d7 e7 g0 d8 f6 m5 n5 s5,by go_num,by omega,by simpa using HF.1,?_,by rw[u3.out];exact j6.snoc m0,cD m7 m7.size n2 HF.2.1⟩;exact CK HF.2.1 HF.2.2 i7 HU l7 (λg e=>HO.lt g e) (λg h=>by have:=HA.out g h;have:=G.out;omega) i9
   case measure=>simp[intOf];omega
  ·have i2:decide ((i:Int)<(l.length:Int))=false:=zI (by omega);obtain rfl:i=l.length:=by omega
   have F:Hid (cL l M):=by have:=j6.out;rwa [zQ]at this
   have o0:M.length<=1000000:=by have:=F.len;omega
   have a0:wr.cell? (aD S 0)=some (Vi K):=(b1.below f).cell 0;rcases o1.out with⟨K',o8,h6,n7⟩|⟨rfl,p,rfl,J⟩|⟨rfl,p,rfl,J⟩|⟨rfl,p,rfl,J,hm⟩|⟨rfl,bs,os,q,rfl,rfl,rfl,hq,p8,h0,i3,g7⟩|⟨rfl,rfl,rfl⟩|⟨rfl,rfl⟩
   ·have O:=aa (q9 K' wr f8 a6 M ys o8 h6 f HO (aO.mono (λg _ h=>h.1) _ _ HU) F);have u6:=aa (n7 M);rcases o8 with⟨rfl,rfl⟩|⟨rfl,rfl⟩
    all_goals
     go_wp2_with fail;refine O.mono ?_;rintro e w3 ⟨t3,Y,V,X,R,Q,T,m3,n3,s3,rfl,a7,d6,o⟩;have c:=(b3.below f).below o;obtain⟨r0,r1,r2,r3,r4,r5⟩:=c.six;obtain⟨f0,f1,f2,f3,f4,f5,b2⟩:=c.ice;have b6:Hid (Below S w w3):=(b5.trans (f.mono (by have:=G.out;omega))).trans (o.mono (by have:=G.out;omega));go_wp2_with fail;refine zN (v:=.agg #[Vi (Tm.kind t3),.slice Y V X,.slice R Q T,Vi m3,Vi n3,.string s3]) (by simp[results,results17,go_sem,r0,r1,r2,r3,r4,r5]) rfl ⟨t3,Y,V,X,R,Q,T,m3,n3,s3,rfl,?_,u6 t3 F d6,?_⟩
     ·rw[hS];exact aj.mono (λg _ a=>by rcases a with a|a;exact .inl a;exact .inr (by omega)) _ _ (dP a7 (λg h=>by have:=HA.out g h;omega) _ _ _ _ _ _)
     ·rw[hS];exact bC b6 _ _ _ _ _ _
   ·have a9:M.length=1:=by have:=F.len;rw[J]at this;simpa using this
    obtain⟨t,ht⟩:=zy.1 a9;subst ht;have e0:Hid (fA p t):=by have:=F.out;rw[J]at this;exact this.1
    obtain⟨b9,W,d,rfl,c6,I,L⟩:=(fN HO.out).get HU.out (i:=0) (t:=t) rfl;obtain⟨y,E,C,B,D,z,Z,nx,sx,rfl,_⟩:=I.form;simp only[Nat.zero_mul,xF]at L;obtain⟨y0,y1,y2,y3,y4,y5⟩:=JJ L;have g5:=aa I;replace J:=aa J;simp only[zo];have j9:t.tl<=80000000:=by have h1:=F.tl;have h2:=p9.out;have h3:=n8.out;simp only[bw]at h1;omega
    have O:=aa (u4 p wr t _ _ _ _ _ _ _ _ _ f (aj.mono (λg _ h=>h.1) _ _ g5) e0 j9);go_wp2_with fail;refine O.mono ?_;rintro e w3 ⟨t3,Y,V,X,R,Q,T,m3,n3,s3,rfl,a7,d6,o⟩;have c:=(b3.below f).below o;obtain⟨r0,r1,r2,r3,r4,r5⟩:=c.six;obtain⟨f0,f1,f2,f3,f4,f5,b2⟩:=c.ice;have b6:Hid (Below S w w3):=(b5.trans (f.mono (by have:=G.out;omega))).trans (o.mono (by have:=G.out;omega));go_wp2_with fail;refine zN (v:=.agg #[Vi (Tm.kind t3),.slice Y V X,.slice R Q T,Vi m3,Vi n3,.string s3]) (by simp[results,results17,go_sem,r0,r1,r2,r3,r4,r5]) rfl ⟨t3,Y,V,X,R,Q,T,m3,n3,s3,rfl,?_,d6,?_⟩
    ·rw[hS];exact aj.mono (λg _ a=>by rcases a with a|a;exact .inl a;exact .inr (by omega)) _ _ (dP a7 (λg h=>by have:=HA.out g h;omega) _ _ _ _ _ _)
    ·rw[hS];exact bC b6 _ _ _ _ _ _
   ·have a9:M.length=1:=by have:=F.len;rw[J]at this;simpa using this
    obtain⟨t,ht⟩:=zy.1 a9;subst ht;have e0:Hid (fA p t):=by have:=F.out;rw[J]at this;exact this.1
    obtain⟨b9,W,d,rfl,c6,I,L⟩:=(fN HO.out).get HU.out (i:=0) (t:=t) rfl;obtain⟨y,E,C,B,D,z,Z,nx,sx,rfl,_⟩:=I.form;simp only[Nat.zero_mul,xF]at L;obtain⟨y0,y1,y2,y3,y4,y5⟩:=JJ L;have g5:=aa I;replace J:=aa J;simp only[zo];have c:=b3.below f;obtain⟨r0,r1,r2,r3,r4,r5⟩:=c.six;obtain⟨f0,f1,f2,f3,f4,f5,b2⟩:=c.ice;go_wp2_with fail;refine zN (v:=.agg #[Vi (Tm.kind t),.slice y E C,.slice B D z,Vi Z,Vi nx,.string sx]) (by simp[results,results17,go_sem,r0,r1,r2,r3,r4,r5]) rfl ⟨t,y,E,C,B,D,z,Z,nx,sx,rfl,?_,e0,?_⟩
    ·rw[hS];exact aj.mono (λg _ a=>by rcases a with⟨a|a,_⟩;exact .inl a;exact .inr (by have:=G.out;omega)) _ _ (gR g5 (λh=>by rcases h with⟨h|h,_⟩;have:=HA.out _ h;omega;have:=G.out;omega) _ _ _ _ _ _)
    ·rw[hS];exact bC (b5.trans (f.mono (by have:=G.out;omega))) _ _ _ _ _ _
   ·have a9:M.length=1:=by have:=F.len;rw[J]at this;simpa using this
    obtain⟨t,ht⟩:=zy.1 a9;subst ht;have e0:Hid (fA p t):=by have:=F.out;rw[J]at this;exact this.1
    obtain⟨b9,W,d,rfl,c6,I,L⟩:=(fN HO.out).get HU.out (i:=0) (t:=t) rfl;obtain⟨y,E,C,B,D,z,Z,nx,sx,rfl,_⟩:=I.form;simp only[Nat.zero_mul,xF]at L;obtain⟨y0,y1,y2,y3,y4,y5⟩:=JJ L;have g5:=aa I;replace J:=aa J;simp only[zo];have j9:t.tl<=80000000:=by have h1:=F.tl;have h2:=p9.out;have h3:=n8.out;simp only[bw]at h1;omega
    have a3:wr.cell? (aD S 3)=some (Vi m):=(b1.below f).cell 3;have a4:wr.cell? (aD S 4)=some (Vi n):=(b1.below f).cell 4;have v2:S+1<b9:=by have:=(HO.lt b9 rfl).1;have:=G.out;omega
    have O:=aa (t8 p wr.drew t _ _ _ _ _ _ _ _ _ hm (bL f (jw wr)) (aj.below (jw wr) _ _ (aj.mono (λg _ h=>h.1) _ _ g5)) e0 j9);have e5:Hid (∀N,Bw wr N->(N.cell? (aD S 3)=some (Vi m)/\N.cell? (aD S 4)=some (Vi n)/\CT N b9 W t.kind y E C B D z Z nx sx)):=λN h=>⟨(h.cell (p:=(aD S 3)) o2).trans a3,(h.cell (p:=(aD S 4)) o2).trans a4,CT.below h c6 ⟨y0,y1,y2,y3,y4,y5⟩⟩;have o4:S+1≠S:=by omega
    have t9:S+1≠b9:=by omega
    have s7:=aa (e5 wr.drew (jw wr));have u8:Hid (∀N,Bw wr N->ag N (S+1) TZ 58):=λN h=>b3.below (bL f h);go_wp2_with fail
    go_region_held3 (λN=>N.cell? (aD S 3)=some (Vi m)/\N.cell? (aD S 4)=some (Vi n)/\CT N b9 W t.kind y E C B D z Z nx sx)
     (first|with_reducible exact s7.out|with_reducible exact e5.out _ d0.out|with_reducible exact⟨JK o4 (e5.out _ d0.out).1,JK o4 (e5.out _ d0.out).2.1,CT.far t9 (e5.out _ d0.out).2.2⟩|fail)
     (first
      |(go_at_call 36;with_reducible refine O.out.mono ?_;rintro e w3 ⟨t3,Y,V,X,R,Q,T,m3,n3,s3,rfl,a7,d6,o⟩;have d0:=aa (ku o);have c:=u8.out _ d0;obtain⟨r0,r1,r2,r3,r4,r5⟩:=c.six;obtain⟨f0,f1,f2,f3,f4,f5,b2⟩:=c.ice)
      |fail)
    go_wp2_with fail;refine zN (v:=.agg #[Vi (Tm.kind t3),.slice Y V X,.slice R Q T,Vi m3,Vi n3,.string s3]) (by simp[results,results17,go_sem,r0,r1,r2,r3,r4,r5]) rfl ⟨t3,Y,V,X,R,Q,T,m3,n3,s3,rfl,?_,d6,?_⟩
    ·rw[hS];exact aj.mono (λg _ a=>by rcases a with a|a;exact .inl a;exact .inr (by omega)) _ _ (dP a7 (λg h=>by have:=HA.out g h;omega) _ _ _ _ _ _)
    ·rw[hS];exact bC (b5.trans ((bL f d0).mono (by have:=G.out;omega))) _ _ _ _ _ _
   ·have j3:Hid (fA (.set (told q)) (.set q)):=⟨hq,by funext u;rfl,zA _,by have e:=nu q;simp only[Tm.tl,Pat.nd,Pat.rg];omega⟩;have v5:0<q.length:=List.length_pos_iff.2 p8;have a1:wr.cell? (aD S 1)=some (.slice (some ⟨bs,os,none⟩) q.length sc):=(b1.below f).cell 1;have q0:((q.length:Int)==0)=false:=zD.2 (by omega);have O:=aa (t6 bs os q sc wr hq h0 i3 g7 f);go_wp2_with fail;refine O.mono ?_;rintro e w3 ⟨s3,rfl,c7,o⟩;have a7:=aa c7;have c:=(b3.below f).below o;obtain⟨r0,r1,r2,r3,r4,r5⟩:=c.six;obtain⟨f0,f1,f2,f3,f4,f5,b2⟩:=c.ice;have b6:Hid (Below S w w3):=(b5.trans (f.mono (by have:=G.out;omega))).trans (o.mono (by have:=G.out;omega));go_wp2_with fail;refine zN (v:=.agg #[Vi 3,.slice (some ⟨bs,os,none⟩) q.length sc,Vz,Vi 0,Vi 0,.string s3]) (by simp[results,results17,go_sem,r0,r1,r2,r3,r4,r5]) rfl ⟨.set q,_,_,_,_,_,_,_,_,s3,rfl,?_,j3,?_⟩
    ·rw[hS];exact aj.mono (λg _ a=>.inl a) _ _ (gR a7 (λh=>by have:=HA.out _ h;omega) _ _ _ _ _ _)
    ·rw[hS];exact bC b6 _ _ _ _ _ _
   ·have j3:Hid (fA (.set []) .none):=⟨trivial,by rw[Tm.L_none];funext u;simp[eA,Pat.Mt,memB],zA _,by simp[Tm.tl,Pat.nd,Pat.rg]⟩;have a1:wr.cell? (aD S 1)=some (.slice so 0 sc):=(b1.below f).cell 1;have O:=aa (fG wr);go_wp2_with fail;refine O.mono ?_;rintro e w3 ⟨t3,Y,V,X,R,Q,T,m3,n3,s3,rfl,c7,rfl,o⟩;simp only[Tm.kind]at c7 ⊢;have a7:=aa c7;have c:=(b3.below f).below o;obtain⟨r0,r1,r2,r3,r4,r5⟩:=c.six;obtain⟨f0,f1,f2,f3,f4,f5,b2⟩:=c.ice;have b6:Hid (Below S w w3):=(b5.trans (f.mono (by have:=G.out;omega))).trans (o.mono (by have:=G.out;omega));go_wp2_with fail;refine zN (v:=.agg #[Vi 1,.slice Y V X,.slice R Q T,Vi m3,Vi n3,.string s3]) (by simp[results,results17,go_sem,r0,r1,r2,r3,r4,r5]) rfl ⟨.none,Y,V,X,R,Q,T,m3,n3,s3,rfl,?_,j3,?_⟩
    ·rw[hS];exact kc a7
    ·rw[hS];exact bC b6 _ _ _ _ _ _
   ·have O:=aa (rh wr);have u9:=aa (fN HO);go_wp2_with fail;refine O.mono ?_;rintro e w1 ⟨t1,k7,l4,j4,j5,j0,k6,m1,n1,s1,rfl,k8,rfl,j2⟩;simp only[Tm.kind]at k8 ⊢;obtain⟨V0,l6,o9,p5,-⟩:=dS (rfl:w1.heap.size=_) (TC 2 k7 l4 j4 j5 j0 k6 m1 n1 s1) 58;have g9:wr.heap.size<=w1.heap.size:=j2.size;generalize hU:w1.heap.size=U at *;have u5:=aa l6;have v1:=aa p5;have s9:Hid (aj V0 (λg=>(A g\/H.heap.size<=g)/\g≠U) .empty (TC 2 k7 l4 j4 j5 j0 k6 m1 n1 s1)):=sZ k8;have g8:Hid (Bw wr V0):=j2.trans (o9.mono g9);have s4:Hid (RowG (l.drop M.length) .empty):=by
     show RowG _ _
     rw[F.out.len,List.drop_length];exact RS
    have v0:Hid (∀N,Below U V0 N->ag N (S+1) TZ 58):=λN h=>by
     have h1:=b3.below (bL f g8);have h2:S+1<U:=by have:=G.out;omega
     exact h1.belowU h h2
    have r8:Hid (Below S w V0):=(b5.trans (f.mono (by have:=G.out;omega))).trans (g8.mono (by have:=G.out;omega));have u1:Hid (V0.heap.size=U+1):=by show _=_;rw[<-l6,<-hU];simp
    have t0:Hid (H.heap.size<=U):=zJ i9 g9;go_wp2_with fail;rw[u5.out]
    go_loopw [6] (λiv wx=>∃(k:Nat) (u:Tm) (g4:Option Addr) (f7 e4:Nat) (g6:Option Addr) (e8 e6:Nat) (m6 n6:Int) (s6:ByteArray),iv=Vi ((k:Int)-1)/\k<=M.length/\ag wx U (TC u.kind g4 f7 e4 g6 e8 e6 m6 n6 s6) 58/\aj wx (λg=>(A g\/H.heap.size<=g)/\g≠U) u (TC u.kind g4 f7 e4 g6 e8 e6 m6 n6 s6)/\RowG (l.drop k) u/\Below U V0 wx) (λiv _=>(intOf iv+1).toNat)
    case atStart=>exact⟨M.length,.empty,k7,l4,j4,j5,j0,k6,m1,n1,s1,by first|rfl|go_num,zA _,v1,s9,s4,zE _ _⟩
    case round=>
     obtain⟨k,u,g4,f7,e4,g6,e8,e6,m6,n6,s6,rfl,j1,l2,q4,hrg,o5⟩:=hrel;have l9:=aa l2;have q7:=aa q4;have i6:=aa hrg;have b7:=aa o5;have o3:U<wr.heap.size:=l2.lt;cases k with
     |zero=>
      have e9:(((0:Nat):Int)-1)=-1:=by decide
      rw[e9];obtain⟨k0,k1,k2,k3,k4,k5⟩:=l9.out.six;have c:=v0.out wr b7;obtain⟨r0,r1,r2,r3,r4,r5⟩:=c.six;obtain⟨f0,f1,f2,f3,f4,f5,b2⟩:=c.ice;go_wp2_with fail;refine zN (v:=.agg #[Vi (Tm.kind u),.slice g4 f7 e4,.slice g6 e8 e6,Vi m6,Vi n6,.string s6]) (by simp[results,results17,go_sem,r0,r1,r2,r3,r4,r5]) rfl ⟨u,g4,f7,e4,g6,e8,e6,m6,n6,s6,rfl,?_,VA (by have:=i6.out;rwa [List.drop_zero]at this),?_⟩
      ·rw[hS];exact aj.mono (λg _ a=>by rcases a with⟨a|a,_⟩;exact .inl a;exact .inr (by have:=G.out;omega)) _ _ (gR q7 (λh=>by rcases h with⟨h|h,_⟩;have:=HA.out _ h;omega;have:=G.out;omega) _ _ _ _ _ _)
      ·rw[hS];exact bC (r8.trans (b7.mono (by have:=G.out;omega))) _ _ _ _ _ _
     |succ i=>
      have e9:(((i+1:Nat):Int)-1)=(i:Int):=by omega
      rw[e9];have i2:(i:Int)<(M.length:Int):=by omega
      have i1:(0:Int)<=(i:Int):=zK _;obtain⟨t,ht⟩:∃t,M[i]?=some t:=⟨_,zB (by omega)⟩;obtain⟨p,hp⟩:∃p,l[i]?=some p:=⟨_,zB (by have:=F.out.len;omega)⟩;obtain⟨b9,W,d,rfl,c6,I,L⟩:=u9.out.get HU.out ht;obtain⟨y,E,C,B,D,z,Z,nx,sx,rfl,_⟩:=I.form;have p7:b9<U:=zF c6 g9;have q1:Hid (∀N,Below U V0 N->(CT N b9 (W+i*6) t.kind y E C B D z Z nx sx)):=λN h=>CT.below h p7 (oT g8 c6 L);have t2:Hid (aj wr (λg=>(A g\/H.heap.size<=g)/\g≠U) t (TC t.kind y E C B D z Z nx sx)):=aj.keep (w:=V0) ⟨b7.size,λg a ha=>b7.block g (by have:=u1.out;have h9:=ha.2;omega)⟩ _ _ (aj.mono (λg a h=>⟨h.1.1,by omega⟩) _ _ (aj.mono (A':=λg=>((A g\/H.heap.size<=g)/\True)/\g<U) (λg a h=>⟨⟨h.1.1,trivial⟩,h.2⟩) _ _ (aj.below g8 _ _ (aj.mono (A':=λg=>((A g\/H.heap.size<=g)/\True)/\g<U) (λg a h=>⟨⟨h.1,trivial⟩,zF a g9⟩) _ _ I))));have t7:=aa (s0 i U p t u wr.drew _ _ _ _ _ _ _ _ _ _ _ _ _ _ _ _ _ _ hp (F.at hp ht) i6 (aj.below (jw wr) _ _ t2) (aj.below (jw wr) _ _ q7) o3);obtain⟨k0,k1,k2,k3,k4,k5⟩:=l9.out.six;obtain⟨c0,c1,c2,c3,c4,c5⟩:=q1.out wr b7.out;go_upto_region 25 with fail;refine yW (S:=λN:World=>CT N b9 (W+i*6) t.kind y E C B D z Z nx sx) (by kernel_rfl) ⟨c0,c1,c2,c3,c4,c5⟩ (λhHeld=>?_);refine tk 0 ?_;simp only[tS];refine tk 1 ?_;simp only[tS];refine tk 2 ?_;simp only[tS];refine tk 3 ?_;simp only[tS];refine di 4 (λKc hK=>?_);go_simp;refine hK _ _ ⟨c0,c1,c2,c3,c4,c5⟩ (λhHeld=>?_)
      try simp only[tS]
      refine di 5 (λKc hK=>?_);go_simp;go_at_call 38;with_reducible refine t7.out.mono ?_
      rintro e w5 ⟨t5,d9,d7,e7,g0,d8,f6,m5,n5,s5,rfl,l7,m0,b4⟩;have p4:Hid (Bw wr w5):=ku b4;have l5:Below U V0 w5:=b7.trans (p4.mono (yJ o3));have p1:=aa (q1 w5 l5);have u2:=aa l5;have c:=l9.below p4;have u7:=aa c;obtain⟨r0,r1,r2,r3,r4,r5⟩:=c.six;obtain⟨f0,f1,f2,f3,f4,f5,b2⟩:=c.ice;refine hK _ _ p1 (λhHeld=>?_)
      try simp only[tS]
      refine di 6 (λKc hK=>?_);go_simp;refine hK _ _ (CT.far (show U≠b9 by omega) p1) (λhHeld=>?_)
      try simp only[tS]
      refine yV (by kernel_rfl) ?_ _;go_wp2_with fail
      go_roundw
      case rel=>exact⟨i,t5,d9,d7,e7,g0,d8,f6,m5,n5,s5,by go_num,by omega,u7.sixS _ _ _ _ _ _,gR (aj.mono (λg a h=>by rcases h with h|h;exact h;exact⟨.inr (by have:=t0.out;have h8:wr.heap.size<g:=h;omega),by have h8:wr.heap.size<g:=h;omega⟩) _ _ l7) (λh=>h.2 rfl) _ _ _ _ _ _,m0,fV u2 (zA _) _ _ _ _ _ _⟩
      case measure=>simp[intOf]
theorem pR {p:Pat}{g:Nat}(h:NV w A p xs g):NL w A [p] xs g:=⟨xs,[],by simp,h,rfl⟩
theorem ed {v:Value}(h:cB w A 27 6 v n xs):∃lo lc,v=.slice lo n lc:=by
 rcases h.1.2 with⟨rfl,b⟩|⟨g,c,a,rfl,_⟩
 ·exact⟨none,0,by rw[b]⟩
 ·exact⟨_,_,rfl⟩
mutual
theorem nr:∀p:Pat,Lt p
 |.set st=>by
  intro w A g k C B D z y E m n r j i c d a;obtain⟨R,e,q,O,G,H⟩:=j;simp only[bT,zT,zu,yB,yK]at e;obtain⟨rfl,rfl,I,rfl,rfl,rfl⟩:=e;injection I with e1 e2 e3;subst e1 e2 e3;subst G;have o:q.length<=100000:=by have e:=nu q;simp only[Pat.rg]at a;omega
  have x:cB w A 27 6 (Vz) ([]:List Pat).length []:=⟨zZ _ _ _ _,λg h=>by cases h⟩;rcases H with⟨K,v⟩|⟨b,J,M,K,P,L,Q,N⟩
  ·injection K with e1 e2 e3;subst e1 e2 e3 v;exact gO (l:=[]) (xs:=[]) (g:=0) (.inr (.inr (.inr (.inr (.inr (.inl ⟨rfl,rfl,rfl⟩)))))) i x rfl (λp h=>by simp at h) (λp h=>by simp at h) (by simp[bH]) (by simp[cr])
  ·injection K with e1 e2 e3;subst e1 e2 e3;by_cases v:q=[]
   ·subst v;exact gO (l:=[]) (xs:=[]) (g:=0) (.inr (.inr (.inr (.inr (.inr (.inl ⟨rfl,rfl,rfl⟩)))))) i x rfl (λp h=>by simp at h) (λp h=>by simp at h) (by simp[bH]) (by simp[cr])
   ·exact gO (l:=[]) (xs:=[]) (g:=0) (.inr (.inr (.inr (.inr (.inl ⟨rfl,b,J,q,rfl,rfl,rfl,O,v,o,L,N⟩))))) i x rfl (λp h=>by simp at h) (λp h=>by simp at h) (by simp[bH]) (by simp[cr])
 |.row l=>by
  have u:=oC l;intro w A g k C B D z y E m n r j i c d a;obtain⟨F,xs,e,f,o⟩:=j;obtain⟨s,t,rfl⟩:=ed f;simp only[bT,zT,zu,zm,yB,yK]at e;obtain⟨rfl,⟨rfl,rfl,rfl⟩,⟨rfl,rfl,rfl⟩,rfl,rfl,rfl⟩:=e;simp only[Pat.nd,Pat.rg]at d a;exact gO (.inr (.inr (.inr (.inr (.inr (.inr ⟨rfl,rfl⟩)))))) i f o u ((lF l).1 c) (by omega) a
 |.or l=>by
  have u:=oC l;intro w A g k C B D z y E m n r j i c d a;obtain⟨F,xs,e,f,o⟩:=j;obtain⟨s,t,rfl⟩:=ed f;simp only[bT,zT,zu,zm,yB,yK]at e;obtain⟨rfl,⟨rfl,rfl,rfl⟩,⟨rfl,rfl,rfl⟩,rfl,rfl,rfl⟩:=e;simp only[Pat.nd,Pat.rg]at d a;exact gO (.inl ⟨5,.inl ⟨rfl,rfl⟩,c.2,λ_ _=>Xr⟩) i f o u ((lF l).1 c.1) (by omega) a
 |.and l=>by
  have u:=oC l;intro w A g k C B D z y E m n r j i c d a;obtain⟨F,xs,e,f,o⟩:=j;obtain⟨s,t,rfl⟩:=ed f;simp only[bT,zT,zu,zm,yB,yK]at e;obtain⟨rfl,⟨rfl,rfl,rfl⟩,⟨rfl,rfl,rfl⟩,rfl,rfl,rfl⟩:=e;simp only[Pat.nd,Pat.rg]at d a;exact gO (.inl ⟨6,.inr ⟨rfl,rfl⟩,c.2,λ_ _=>Vy⟩) i f o u ((lF l).1 c.1) (by omega) a
 |.not p=>by
  have u:=nr p;intro w A g k C B D z y E m n r j i c d a;obtain⟨F,xs,e,f,o⟩:=j;obtain⟨s,t,rfl⟩:=ed f;simp only[bT,zT,zu,zm,yB,yK]at e;obtain⟨rfl,⟨rfl,rfl,rfl⟩,⟨rfl,rfl,rfl⟩,rfl,rfl,rfl⟩:=e;simp only[Pat.nd,Pat.rg]at d a;exact gO (l:=[p]) (.inr (.inl ⟨rfl,p,rfl,rfl⟩)) i f (pR o) (λq h=>by simp at h;subst h;exact u) (λq h=>by simp at h;subst h;exact c) (by simp only[bH];omega) (by simp only[cr];omega)
 |.many p m' n'=>by
  have u:=nr p;intro w A g k C B D z y E m n r j i c d a;obtain⟨F,xs,e,f,o⟩:=j;obtain⟨s,t,rfl⟩:=ed f;simp only[bT,zT,zu,zm,yB,yK]at e;obtain⟨rfl,⟨rfl,rfl,rfl⟩,⟨rfl,rfl,rfl⟩,rfl,rfl,rfl⟩:=e;simp only[Pat.nd,Pat.rg]at d a;exact gO (l:=[p]) (.inr (.inr (.inr (.inl ⟨rfl,p,rfl,rfl,c.2⟩)))) i f (pR o) (λq h=>by simp at h;subst h;exact u) (λq h=>by simp at h;subst h;exact c.1) (by simp only[bH];omega) (by simp only[cr];omega)
 |.group p=>by
  have u:=nr p;intro w A g k C B D z y E m n r j i c d a;obtain⟨F,xs,e,f,o⟩:=j;obtain⟨s,t,rfl⟩:=ed f;simp only[bT,zT,zu,zm,yB,yK]at e;obtain⟨rfl,⟨rfl,rfl,rfl⟩,⟨rfl,rfl,rfl⟩,rfl,rfl,rfl⟩:=e;simp only[Pat.nd,Pat.rg]at d a;exact gO (l:=[p]) (.inr (.inr (.inl ⟨rfl,p,rfl,rfl⟩))) i f (pR o) (λq h=>by simp at h;subst h;exact u) (λq h=>by simp at h;subst h;exact c) (by simp only[bH];omega) (by simp only[cr];omega)
theorem oC:∀l:List Pat,∀p∈l,Lt p
 | [],p,h=>by simp at h
 |q::l,p,h=>by
  have b:=nr q;have a:=oC l;rcases zO.1 h with rfl|h
  ·exact b
  ·exact a p h
end
theorem iQ {e size:Nat}(h:w.ownsRow B e size (.slice lo n cap) n xs):cg w (λg=>B<=g) lo xs:=λj u a=>by
 rcases h.2 with⟨k,i⟩|⟨g,b,d,e,f,l,r⟩
 ·have:=h.1;rw[i,Nat.zero_mul]at this;rw[yf this]at a;simp at a
 ·injection e with e1 e2 e3;subst e1 e3;have c:=h.cells (g:=g) rfl j u a;rw[zl]at c;exact⟨g,0,rfl,f,(h.lt g rfl).2,c⟩
theorem kf {e size:Nat}(h:w.ownsRow B e size (.slice lo n cap) n xs):n<=cap/\(lo=none->n=0/\cap=0)/\∀ad,lo=some ad->∃g,ad=(aD g 0):=by
 rcases h.2 with⟨b,d⟩|⟨g,a,c,e,f,i,r,_⟩
 ·injection b with e1 e2 e3;subst e1 e3;exact⟨by omega,λ_=>⟨d,rfl⟩,λ_ e=>by cases e⟩
 ·injection e with e1 e2 e3;subst e1 e3;exact⟨r,λe=>(by cases e),λad e=>by injection e with e;exact⟨g,e.symm⟩⟩
theorem EZ :∀u∈bj l,u.oneCell'=true:=by
 intro u a;obtain⟨c,_,rfl⟩:=yH.1 a;rfl
theorem qJ {i:Nat}{c:Int}(h:l[i]?=some c):(bj l)[i]?=some (Vi c):=by
 unfold bj;rw[zg,h];rfl
theorem OE (hr:cg w A lo xs){k:Nat}(hn:xs.length=n)(hc:n<=cap){ao:OA}(hao:¬cap=k->∀b off,lo=some (aD b off)->ao=some ⟨b,off+k,none⟩):∀ad,ao=some ad->∀j u,(xs.drop k)[j]?=some u->w.cell? (ad.add j)=some u:=λad e j u a=>by
 rw[List.getElem?_drop]at a;have d:=(zC.1 a).1;obtain⟨b,off,c,_,_,hc⟩:=hr _ u a;rw[hao (by omega) b off c]at e;injection e with e;subst e;rw[zl,show off+k+j=off+(k+j) by omega];exact hc
theorem Lw {k:Nat}(hs:l.Pairwise (·<·))(h1:∀y∈l.take k,y<x)(h2:∀y,l[k]?=some y->x<y):(l.take k++x::l.drop k).Pairwise (·<·):=by
 rw[yA];have e:∀y∈l.drop k,x<y:=by
  intro y c;cases hdk:l.drop k with
  |nil=>rw[hdk]at c;simp at c
  |cons z t=>
   have j:l[k]?=some z:=by
    have:(l.drop k)[0]?=some z:=by rw[hdk];rfl
    rw[List.getElem?_drop]at this;simpa using this
   have g:=h2 z j;rw[hdk]at c;have f:=hs.sublist (List.drop_sublist k l);rw[hdk,yg]at f;rcases zO.1 c with rfl|c
   ·exact g
   ·have:=f.1 y c;omega
 refine⟨hs.sublist (List.take_sublist k l),?_,?_⟩
 ·rw[yg];exact⟨e,hs.sublist (List.drop_sublist k l)⟩
 ·intro a h b d;have i:=h1 a h;rcases zO.1 d with rfl|d
  ·exact i
  ·have:=e b d;omega
theorem RY (k:Nat)(y:Int):y∈l.take k++x::l.drop k↔y∈l\/y=x:=by
 have h:y∈l↔y∈l.take k\/y∈l.drop k:=by
  rw[<-zM,zj]
 rw[zM,zO,h];constructor
 ·rintro (h|h|h)
  ·exact .inl (.inl h)
  ·exact .inr h
  ·exact .inl (.inr h)
 ·rintro ((h|h)|h)
  ·exact .inl h
  ·exact .inr (.inr h)
  ·exact .inr (.inl h)
def YZ (w:World)(B:Nat)(l:List Int)(x:Int)(e:Ending)(w':World):Prop:=∃v' l',e=.returned v'/\w'.ownsRow B 3 1 v' l'.length (bj l')/\l'.Pairwise (·<·)/\(∀y,y∈l'↔y∈l\/y=x)/\l'.length<=l.length+1/\Bw w w'
theorem xT {lo0:OA}{cap0:Nat}(hB:B<=w.heap.size)(hown:w.ownsRow B 3 1 (.slice lo0 l.length cap0) l.length (bj l))(hlen:l.length<=1000000)(hs:l.Pairwise (·<·)):Calls prog 39 #[.slice lo0 l.length cap0,Vi x] w (YZ w B l x):=by
 obtain⟨b0,p,E⟩:=kf hown;have HR:=aa ((iQ hown).mono (A':=λg=>B<=g/\g<w.heap.size) (λg a s=>⟨s,a⟩));have HO:=aa hown;have HS:=aa hs;have b2:=aa p;have W:=aa E;have HB:=aa hB;have a4:=aa b0;obtain⟨i0,hi,Q,K,O⟩:=zz jo;go_enter func39,ntmps39;go_upto_region 1 with fail;generalize hS:w.heap.size=S at *;go_wp2_with fail
 go_loopw [5] (λi wr=>∃k:Nat,k<=l.length/\i=Vi k/\(∀y∈l.take k,y<x)/\Bw w wr) (λi _=>l.length-(intOf i).toNat)
 case atStart=>exact⟨0,zW _,rfl,λy h=>by simp at h,zE _ _⟩
 case round=>
  obtain⟨k,hk,rfl,a2,f⟩:=hrel;go_upto_region 2 with fail;have r:=aa f;have a8:=aa a2
  go_cut [18] (λv wx=>∃b:Bool,v=.bool b/\(b=true↔∃y,l[k]?=some y/\y<x)/\wx=wr)
  case first=>
   have i1:(0:Int)<=(k:Int):=zK _;by_cases A:k<l.length
   ·obtain⟨y,q⟩:∃y,l[k]?=some y:=⟨_,zB A⟩;obtain⟨b,a6,rfl,_,hb,hc⟩:=(HR.out.below f) k _ (qJ q);obtain⟨g,hg⟩:=W.out _ rfl;injection hg with e1 e2 e3;subst e1 e2;have y5:wr.cell? (aD b k)=some (Vi y):=by simpa using hc
    have i2:(k:Int)<(l.length:Int):=by omega
    have HY:=aa q;go_wp2_with fail
    go_meet
    case rel=>exact⟨_,rfl,⟨λh=>⟨y,HY,by simpa using h⟩,λ⟨z,a,s⟩=>by rw[HY.out]at a;injection a with a;subst a;simpa using s⟩,rfl⟩
   ·have hd:decide ((k:Int)<(l.length:Int))=false:=by simp;omega
    go_wp2_with fail
    go_meet
    case rel=>exact⟨false,rfl,⟨λh=>(by cases h),λ⟨z,a,_⟩=>by have:=(zC.1 a).1;omega⟩,rfl⟩
  case rest=>
   obtain⟨b,rfl,c,o⟩:=hcut;replace o:=o.symm;subst o;cases b with
   |true=>
    obtain⟨y,q,X⟩:=c.1 rfl;have A:=(zC.1 q).1;have T:Hid (∀z∈l.take (k+1),z<x):=λz hz=>by
     rw[zi,q]at hz;rcases zM.1 hz with h|h
     ·exact a8 z h
     ·simp at h;subst h;exact X
    have i1:(0:Int)<=(k:Int):=zK _;go_wp2_with fail
    go_roundw
    case rel=>exact⟨k+1,by omega,by go_num,T,r⟩
    case measure=>simp[intOf];omega
   |false=>
    have b7:Hid (∀y,l[k]?=some y->¬y<x):=λy a s=>by have:=c.2 ⟨y,a,s⟩;cases this
    have t:=r.out;go_upto_region 4 with fail
    go_cut [32] (λv wx=>∃b:Bool,v=.bool b/\(b=true↔l[k]?=some x)/\wx=wr)
    case first=>
     have i1:(0:Int)<=(k:Int):=zK _;by_cases A:k<l.length
     ·obtain⟨y,q⟩:∃y,l[k]?=some y:=⟨_,zB A⟩;obtain⟨b,a6,rfl,_,hb,hc⟩:=(HR.out.below t) k _ (qJ q);obtain⟨g,hg⟩:=W.out _ rfl;injection hg with e1 e2 e3;subst e1 e2;have y5:wr.cell? (aD b k)=some (Vi y):=by simpa using hc
      have i2:(k:Int)<(l.length:Int):=by omega
      have HY:=aa q;go_wp2_with fail
      go_meet
      case rel=>exact⟨_,rfl,⟨λh=>by rw[HY.out];simpa using h,λa=>by rw[HY.out]at a;injection a with a;subst a;simp⟩,rfl⟩
     ·have hd:decide ((k:Int)<(l.length:Int))=false:=by simp;omega
      go_wp2_with fail
      go_meet
      case rel=>exact⟨false,rfl,⟨λh=>(by cases h),λa=>by have:=(zC.1 a).1;omega⟩,rfl⟩
    case rest=>
     obtain⟨b,rfl,c,o⟩:=hcut;replace o:=o.symm;subst o;cases b with
     |true=>
      have U:=aa (zU (c.1 rfl));go_wp2_with fail;go_ret;have a5:=r.out;exact⟨_,l,rfl,bg HO a5,HS,λy=>⟨.inl,λh=>h.elim id (λe=>e▸U.out)⟩,yN _,a5⟩
     |false=>
      have b6:Hid (∀y,l[k]?=some y->x<y):=λy h=>by
       have a:=b7.out y h;have s:y≠x:=λe=>by have:=c.2 (e▸h);cases this
       omega
      obtain⟨L,M⟩:∃L,wr=L:=⟨_,rfl⟩;have D:Bw w L:=by rw[<-M];exact r
      have b8:=aa D;have Y:=aa (HR.below D);have I:Hid ((bj l).length=l.length):=by show _=_;simp[bj]
      have H:S<=L.heap.size:=by rw[<-hS];exact D.size
      rw[M];have i1:(0:Int)<=(k:Int):=zK _;have i2:(k:Int)<=(l.length:Int):=by omega
      have i3:(l.length:Int)<=(cap0:Int):=by omega
      go_upto_region 7 with fail;go_upto_region 8 with (at_builtin;refine eO rfl (.tmp 34) (.tmp 37) 61 3 i0 _ 1 8 rfl underlying61 hi Q K O rfl (by decide) S 0 _ [] rfl (zZ _ _ _ _) _ k _ ((bj l).take k) rfl (λe=>by obtain⟨a,s⟩:=b2.out e;exact⟨by omega,by omega⟩) (by rw[yn,I.out];omega) (El Y _) (λu R=>EZ u (yi R)) (by unfold maxLen;omega) (by omega) H ?_;intro v2 w2 d F);have a7:Below S L w2:=cD (v:=Vz) (n:=0) (xs:=[]) (zE _ _) H (zZ _ _ 3 1) F;rw[zd,zf]at d;obtain⟨d0,c6,rfl⟩:=cd d;have c0:=aa d;have a3:=aa a7;obtain⟨W3,b1,C,Z,-⟩:=dS (rfl:w2.heap.size=_) [Vi x] 3;have a0:=aa (bg c0 C);have c1:=aa Z;have b3:=aa b1;have b5:=aa C;have c8:S<=w2.heap.size:=zJ H a3.size;have d1:w2.heap.size<=W3.heap.size:=C.size;go_upto_region 9 with (at_builtin;rw[b3.out];refine eO rfl (.tmp 39) (.tmp 41) 61 3 i0 _ 1 8 rfl underlying61 hi Q K O rfl (by decide) S k _ _ rfl a0 _ 1 _ [Vi x] rfl (λe=>by cases e) rfl (λad e j u hj=>by injection e with e;subst e;rw[zl,zf,c1.out.cell];exact hj) (λu R=>by simp at R;subst R;rfl) (by unfold maxLen;omega) (by omega) (by omega) ?_;intro v4 w4 m G);have V:S<=W3.heap.size:=by omega
      have J:Below S W3 w4:=cD (zE _ _) V a0 G;obtain⟨c9,c7,rfl⟩:=cd m;have N:Hid (Below S L w4):=(a3.trans (b5.mono (by omega))).trans J;have a1:=aa m;have b4:S<=w4.heap.size:=zJ V J.size;have c4:Hid (cg w4 (λg=>B<=g/\g<S) lo0 (bj l)):=by
       exact Y.keep ⟨N.size,λg a s=>N.block g s.2⟩
      go_wp2_with (at_builtin;refine eO rfl (.tmp 43) (.tmp 46) 61 3 i0 _ 1 8 rfl underlying61 hi Q K O rfl (by decide) S (k+1) _ _ rfl a1 _ (l.length-k) _ ((bj l).drop k) rfl (λe=>by have a:=b2.out (by first|exact e|(split at e;exact e;simpa using e)|simpa using e);obtain⟨s,h3⟩:=a;exact⟨by omega,by omega⟩) (by rw[yO,I.out];omega) (OE c4 (n:=l.length) (cap:=cap0) I a4 (by intro c5 b a6 e;simp[c5,e,Addr.add])) (λu R=>EZ u (List.mem_of_mem_drop R)) (by unfold maxLen;omega) (by omega) (by omega) ?_;intro v5 w5 P a9)
      all_goals
       go_ret;have c3:Below S w4 w5:=cD (zE _ _) b4 a1 a9;have c2:Below S L w5:=N.trans c3;have b9:Bw w w5:=b8.trans (by rw[hS];exact c2);refine⟨v5,l.take k++x::l.drop k,rfl,?_,Lw HS a8 b6,RY k,by simp;omega,b9⟩;have e:(l.take k++x::l.drop k).length=k+1+(l.length-k):=by simp;omega
       rw[e];exact ij (by simpa [zc,bj]using P) (by have:=HB.out;omega)
