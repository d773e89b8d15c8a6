import Derived.Test.YtebnghmioamheaaGreatDoorM24
import Derived.Test.YtebnghmioamheaaGreatDoorM26
set_option maxHeartbeats 4000000
set_option maxRecDepth 100000
set_option linter.all false
namespace Go.Proofs.YtebnghmioamheaaGreatDoor
open Go.Shelf Go.RowKit Go.Lib Brm Tryz
variable {w w':World}{r lo B bm b k g bx:Nat}{L:List Pat}{p:Pat}{A:NP}
abbrev NN:List Value:=[.nilFunc,.nilFunc]
abbrev put2 (w:World)(r:Nat)(f t:Value):World:=(w.setCell (aD r 0) f).setCell (aD r 1) t
theorem Off.put2 {b r:Nat}{a w:World}(h:Off b a w)(hr:a.heap.size<=r)(f t:Value):Off b a (put2 w r f t):=(h.setNew hr _).setNew hr _
theorem ah.put2 {A:NP}{w:World}{r:Nat}(hr:¬A r)(f t:Value):ah A w (put2 w r f t):=(ah.set _ hr).trans (ah.set _ hr)
theorem ag.put2 {w:World}{b r:Nat}{cs:LV}{T:TypeId}(h:ag w b cs T)(hr:b≠r)(f t:Value):ag (put2 w r f t) b cs T:=(h.setOther hr _).setOther hr _
theorem fC {f t:Value}(h:ag w r NN 132):(put2 w r f t).cell? (aD r 0)=some f/\(put2 w r f t).cell? (aD r 1)=some t:=iJ ((h.set 0 f).set 1 t)
theorem mf {W1 w2 w3 w4 w5:World}{num:Nat}{e f t:Value}{Q:Value->Prop}(hB:B<=bm)(hbm:bm<W1.heap.size)(hr1:B<=r)(hr2:r<W1.heap.size)(h23:Bw w2 w3)(hs:W1.heap.size<=w2.heap.size)(hO:Off bm w3 w4)
  (hbe:ag w4 w3.heap.size [e] 128) (hbn:ag w4 (w3.heap.size+1) [Vi num] 3) (h45:Bw w4 w5) (hL:L[num]?=some p) (hn:num<1000000) (hf:f=Vf 122 #[ar (w3.heap.size+1),ar w3.heap.size])
  (hQ:ah (AB lo B W1) w2 (put2 w5 r f t)->ah (AB lo B W1) w3 (put2 w5 r f t)->Q e):kU (put2 w5 r f t) (AB lo B W1) L p f Q/\ah (AB lo B W1) w2 (put2 w5 r f t):=by
 have k:¬AB lo B W1 r:=λh=>by rcases h with h|h<;>omega
 have i:¬AB lo B W1 bm:=λh=>by rcases h with h|h<;>omega
 have a:ah (AB lo B W1) w4 (put2 w5 r f t):=(ah.below h45).trans (ah.put2 k f t);have c:ah (AB lo B W1) w3 (put2 w5 r f t):=(ah.off hO i).trans a;have b:ah (AB lo B W1) w2 (put2 w5 r f t):=(ah.below h23).trans c;have j:=h23.size;have d:AB lo B W1 (w3.heap.size+1):=.inr (by omega);have g:AB lo B W1 w3.heap.size:=.inr (by omega);exact⟨⟨_,_,e,num,hf,d,g,hbn.keep a d,hbe.keep a g,hL,hn,hQ b c⟩,b⟩
theorem AB.up {W1:World}(h:w.heap.size<=W1.heap.size)(g:Nat)(ha:AB lo B W1 g):AB lo B w g:=by rcases ha with ha|ha;exact .inl ha;exact .inr (zJ h ha)
theorem RV (l:List Pat)(ih:∀p∈l,fH p)(lo B:Nat)(hB:B<=bm)(hb:lo<=b/\b<B)(lv:Value)(xs:List Nat)(hnb:ag w b [Vi 1,Vz,lv,Vi 0,Vi 0] 51)(ho:cB w (λx=>lo<=x/\x<B) 47 1 lv l.length (xs.map ar))(hP:PL w (λx=>lo<=x/\x<B) l xs)(h100:l.length<=100)(hm:mF w bm k g)(hL:kF L k (aB l++[.row l]))(hk:k+(aB l).length+1<=1000)(hg:g+groupsL l<=1000):Calls prog 51 #[Vp bm,Vp b] w λe w'=>∃F cp G tc,e=.returned (.agg #[Vf F cp,Vf G tc])/\(∃ys,cM w' (AB lo B w) L l ys/\kU w' (AB lo B w) L (.row l) (Vf F cp) (Bx w' (AB lo B w) 123 l.length ys)/\dI w' (AB lo B w) L l g ys/\Bx w' (AB lo B w) 126 l.length ys (Vf G tc))/\Off bm w w'/\mF w' bm (k+(aB l).length+1) (g+groupsL l):=by
 have c6:=hm.lt;have b7:=hnb.lt;obtain⟨c5,lc,rfl⟩:=ew ho.1;have a:Bw w (w.alloc (.cells #[.nilFunc,.nilFunc] 132)):=(zE _ _).alloc (zA _) _;have U:=aa a;have R:=aa (ag.new w NN 132);have b2:(w.alloc (.cells #[.nilFunc,.nilFunc] 132)).heap.size=w.heap.size+1:=by simp
 have HC:=aa (mX l ih lo B L _ xs hB (ho.below a) (PL.keep (ah.below a) l xs hP) (hm.below a) hL.left (by omega) hg h100);obtain⟨c0,c1,c2,c3,c4,_⟩:=hnb.five;have P:=aa (hnb.below a);have HL:=aa hL;have HB:=aa hB;have HK:=aa hk;have b8:b≠w.heap.size:=by omega
 clear hnb ho hP hm hL a ih;go_enter func51,ntmps51;go_wp2_with fail;generalize hW:w.alloc (.cells #[.nilFunc,.nilFunc] 132)=W1 at U R b2 HC P ⊢;clear hW c0 c1 c2 c3 c4;refine HC.mono ?_;rintro e w2 ⟨o,n,ys,rfl,a0,T,S,h,M⟩;have a9:=aa S;have H:=R.off h (by omega);have N:=P.off h (by omega);obtain⟨c0,c1,c2,c3,c4,_⟩:=N.five;have Z:=aa a0;have b0:=aa T;have a5:=aa h;have a1:=aa M;have b1:=aa H;have E:=h.size;have b6:=H.lt;clear a0 T S h M H N;go_wp2_with (first
  |(go_at_call 84;refine (Yn _ _ _ _).mono ?_;rintro e A ⟨rfl,J⟩;have i:Bw w2 A:=(by rw[J];exact (zE _ _).alloc (zA _) _);have u:ag A w2.heap.size [.slice o l.length n] 168:=(by rw[J];exact ag.new w2 [.slice o l.length n] 168);have X:=aa i;have a3:=aa u;have a2:=aa (a1.below i);have b3:=aa (b1.below i);have c7:=i.size;clear J i u)
  |(go_at_call 83;refine (xx (k+(aB l).length) (g+groupsL l:Nat) _ _ (by omega) a2).mono ?_;rintro e m ⟨rfl,s,W,y,z⟩;have V:=aa s;have a7:=aa W;have b5:=aa y;have a4:=aa z;have c:=b3.off s (by omega);obtain⟨p0,p1⟩:=iJ c;have p2:=c.frozen 0;have p3:=c.frozen 1;have a6:=aa c;have b9:=s.size;clear s W y z c)
  |(go_at_call 85;refine (Yo _ _ _ _).mono ?_;rintro e w5 ⟨rfl,C⟩;have D:Bw m w5:=(by rw[C];exact (zE _ _).alloc (zA _) _);have Y:ag w5 m.heap.size [.slice o l.length n] 168:=(by rw[C];exact ag.new m [.slice o l.length n] 168);have a8:=aa Y;have d:=a6.below D;obtain⟨q0,q1⟩:=iJ d;have q2:=d.frozen 0;have q3:=d.frozen 1;have b4:=aa d;have K:=aa D;clear C D d Y))
 have hz:=fC (f:=Vf 122 #[ar (A.heap.size+1),ar A.heap.size]) (t:=Vf 126 #[ar m.heap.size]) b4;obtain⟨O,I⟩:=mf (W1:=W1) (w2:=w2) (r:=w.heap.size) (t:=Vf 126 #[ar m.heap.size]) (Q:=Bx (put2 w5 w.heap.size (Vf 122 #[ar (A.heap.size+1),ar A.heap.size]) (Vf 126 #[ar m.heap.size])) (AB lo B W1) 123 l.length ys) HB.out (by omega) (by omega) (by omega) X.out E V.out b5.out a4.out K.out HL.out.one (by omega) rfl (λk2 k3=>⟨w2.heap.size,_,rfl,.inr E,a3.out.keep k3 (.inr E),Z.out.keep k2⟩);refine zN (v:=.agg #[Vf 122 #[ar (A.heap.size+1),ar A.heap.size],Vf 126 #[ar m.heap.size]]) (by simp[results,results51,go_sem,hz.1,hz.2]) rfl ?_;exact⟨_,_,_,_,rfl,⟨ys,cM.mono (λq _ j=>AB.up (by omega) q j) l ys (cM.keep I l ys b0),kU.mono (λq _ j=>AB.up (by omega) q j) (Bx.mono (λq _ j=>AB.up (by omega) q j)) O,dI.mono (λq _ j=>AB.up (by omega) q j) l g ys (dI.keep I l g ys a9),⟨m.heap.size,_,rfl,.inr (by omega),a8.put2 (by omega) _ _,(Z.keep I).mono (λq _ j=>AB.up (by omega) q j)⟩⟩,((((Off.below U).trans a5).trans ((Off.below X).trans V)).trans (Off.below K)).put2 (zA _) _ _,(a7.below K).put2 (by omega) _ _⟩
theorem VD (l:List Pat)(ih:∀p∈l,fH p)(lo B:Nat)(L:List Pat)(hB:B<=bm)(hb:lo<=b/\b<B)(lv:Value)(xs:List Nat)(hnb:ag w b [Vi 2,Vz,lv,Vi 0,Vi 0] 51)(ho:cB w (λx=>lo<=x/\x<B) 47 1 lv l.length (xs.map ar))(hP:PL w (λx=>lo<=x/\x<B) l xs)(h100:l.length<=100)(hm:mF w bm k g)(hL:kF L k (aB l++[.or l]))(hk:k+(aB l).length+1<=1000)(hg:g+groupsL l<=1000):Calls prog 51 #[Vp bm,Vp b] w λe w'=>∃F cp G tc,e=.returned (.agg #[Vf F cp,Vf G tc])/\(∃ys,cM w' (AB lo B w) L l ys/\kU w' (AB lo B w) L (.or l) (Vf F cp) (Bx w' (AB lo B w) 129 l.length ys)/\dI w' (AB lo B w) L l g ys/\Bx w' (AB lo B w) 130 l.length ys (Vf G tc))/\Off bm w w'/\mF w' bm (k+(aB l).length+1) (g+groupsL l):=by
 have c6:=hm.lt;have b7:=hnb.lt;obtain⟨c5,lc,rfl⟩:=ew ho.1;have a:Bw w (w.alloc (.cells #[.nilFunc,.nilFunc] 132)):=(zE _ _).alloc (zA _) _;have U:=aa a;have R:=aa (ag.new w NN 132);have b2:(w.alloc (.cells #[.nilFunc,.nilFunc] 132)).heap.size=w.heap.size+1:=by simp
 have HC:=aa (mX l ih lo B L _ xs hB (ho.below a) (PL.keep (ah.below a) l xs hP) (hm.below a) hL.left (by omega) hg h100);obtain⟨c0,c1,c2,c3,c4,_⟩:=hnb.five;have P:=aa (hnb.below a);have HL:=aa hL;have HB:=aa hB;have HK:=aa hk;have b8:b≠w.heap.size:=by omega
 clear hnb ho hP hm hL a ih;go_enter func51,ntmps51;go_wp2_with fail;generalize hW:w.alloc (.cells #[.nilFunc,.nilFunc] 132)=W1 at U R b2 HC P ⊢;clear hW c0 c1 c2 c3 c4;refine HC.mono ?_;rintro e w2 ⟨o,n,ys,rfl,a0,T,S,h,M⟩;have a9:=aa S;have H:=R.off h (by omega);have N:=P.off h (by omega);obtain⟨c0,c1,c2,c3,c4,_⟩:=N.five;have Z:=aa a0;have b0:=aa T;have a5:=aa h;have a1:=aa M;have b1:=aa H;have E:=h.size;have b6:=H.lt;clear a0 T S h M H N;go_wp2_with (first
  |(go_at_call 86;refine (Yp _ _ _ _).mono ?_;rintro e A ⟨rfl,J⟩;have i:Bw w2 A:=(by rw[J];exact (zE _ _).alloc (zA _) _);have u:ag A w2.heap.size [.slice o l.length n] 168:=(by rw[J];exact ag.new w2 [.slice o l.length n] 168);have X:=aa i;have a3:=aa u;have a2:=aa (a1.below i);have b3:=aa (b1.below i);have c7:=i.size;clear J i u)
  |(go_at_call 83;refine (xx (k+(aB l).length) (g+groupsL l:Nat) _ _ (by omega) a2).mono ?_;rintro e m ⟨rfl,s,W,y,z⟩;have V:=aa s;have a7:=aa W;have b5:=aa y;have a4:=aa z;have c:=b3.off s (by omega);obtain⟨p0,p1⟩:=iJ c;have p2:=c.frozen 0;have p3:=c.frozen 1;have a6:=aa c;have b9:=s.size;clear s W y z c)
  |(go_at_call 87;refine (Yq _ _ _ _).mono ?_;rintro e w5 ⟨rfl,C⟩;have D:Bw m w5:=(by rw[C];exact (zE _ _).alloc (zA _) _);have Y:ag w5 m.heap.size [.slice o l.length n] 168:=(by rw[C];exact ag.new m [.slice o l.length n] 168);have a8:=aa Y;have d:=a6.below D;obtain⟨q0,q1⟩:=iJ d;have q2:=d.frozen 0;have q3:=d.frozen 1;have b4:=aa d;have K:=aa D;clear C D d Y))
 have hz:=fC (f:=Vf 122 #[ar (A.heap.size+1),ar A.heap.size]) (t:=Vf 130 #[ar m.heap.size]) b4;obtain⟨O,I⟩:=mf (W1:=W1) (w2:=w2) (r:=w.heap.size) (t:=Vf 130 #[ar m.heap.size]) (Q:=Bx (put2 w5 w.heap.size (Vf 122 #[ar (A.heap.size+1),ar A.heap.size]) (Vf 130 #[ar m.heap.size])) (AB lo B W1) 129 l.length ys) HB.out (by omega) (by omega) (by omega) X.out E V.out b5.out a4.out K.out HL.out.one (by omega) rfl (λk2 k3=>⟨w2.heap.size,_,rfl,.inr E,a3.out.keep k3 (.inr E),Z.out.keep k2⟩);refine zN (v:=.agg #[Vf 122 #[ar (A.heap.size+1),ar A.heap.size],Vf 130 #[ar m.heap.size]]) (by simp[results,results51,go_sem,hz.1,hz.2]) rfl ?_;exact⟨_,_,_,_,rfl,⟨ys,cM.mono (λq _ j=>AB.up (by omega) q j) l ys (cM.keep I l ys b0),kU.mono (λq _ j=>AB.up (by omega) q j) (Bx.mono (λq _ j=>AB.up (by omega) q j)) O,dI.mono (λq _ j=>AB.up (by omega) q j) l g ys (dI.keep I l g ys a9),⟨m.heap.size,_,rfl,.inr (by omega),a8.put2 (by omega) _ _,(Z.keep I).mono (λq _ j=>AB.up (by omega) q j)⟩⟩,((((Off.below U).trans a5).trans ((Off.below X).trans V)).trans (Off.below K)).put2 (zA _) _ _,(a7.below K).put2 (by omega) _ _⟩
theorem RW (l:List Pat)(ih:∀p∈l,fH p)(lo B:Nat)(L:List Pat)(hB:B<=bm)(hb:lo<=b/\b<B)(lv:Value)(xs:List Nat)(hnb:ag w b [Vi 3,Vz,lv,Vi 0,Vi 0] 51)(ho:cB w (λx=>lo<=x/\x<B) 47 1 lv l.length (xs.map ar))(hP:PL w (λx=>lo<=x/\x<B) l xs)(h100:l.length<=100)(hm:mF w bm k g)(hL:kF L k (aB l++[.and l]))(hk:k+(aB l).length+1<=1000)(hg:g+groupsL l<=1000):Calls prog 51 #[Vp bm,Vp b] w λe w'=>∃F cp G tc,e=.returned (.agg #[Vf F cp,Vf G tc])/\(∃ys,cM w' (AB lo B w) L l ys/\kU w' (AB lo B w) L (.and l) (Vf F cp) (Bx w' (AB lo B w) 131 l.length ys)/\dI w' (AB lo B w) L l g ys/\(Vf G tc:Value)=Vf 89 #[])/\Off bm w w'/\mF w' bm (k+(aB l).length+1) (g+groupsL l):=by
 have a8:=hm.lt;have b0:=hnb.lt;obtain⟨b1,lc,rfl⟩:=ew ho.1;have a:Bw w (w.alloc (.cells #[.nilFunc,.nilFunc] 132)):=(zE _ _).alloc (zA _) _;have K:=aa a;have M:=aa (ag.new w NN 132);have a4:(w.alloc (.cells #[.nilFunc,.nilFunc] 132)).heap.size=w.heap.size+1:=by simp
 have HC:=aa (mX l ih lo B L _ xs hB (ho.below a) (PL.keep (ah.below a) l xs hP) (hm.below a) hL.left (by omega) hg h100);obtain⟨c0,c1,c2,c3,c4,_⟩:=hnb.five;have J:=aa (hnb.below a);have HL:=aa hL;have HB:=aa hB;have HK:=aa hk;have b3:b≠w.heap.size:=by omega
 clear hnb ho hP hm hL a ih;go_enter func51,ntmps51;go_wp2_with fail;generalize hW:w.alloc (.cells #[.nilFunc,.nilFunc] 132)=W1 at K M a4 HC J ⊢;clear hW c0 c1 c2 c3 c4;refine HC.mono ?_;rintro e w2 ⟨A,N,ys,rfl,C,D,T,h,E⟩;have W:=aa T;have s:=M.off h (by omega);have H:=J.off h (by omega);obtain⟨c0,c1,c2,c3,c4,_⟩:=H.five;have U:=aa C;have Z:=aa D;have X:=aa h;have Y:=aa E;have a1:=aa s;have u:=h.size;have a9:=s.lt;clear C D T h E s H;go_wp2_with (first
  |(go_at_call 88;refine (Yr _ _ _ _).mono ?_;rintro e j ⟨rfl,z⟩;have d:Bw w2 j:=(by rw[z];exact (zE _ _).alloc (zA _) _);have o:ag j w2.heap.size [.slice A l.length N] 168:=(by rw[z];exact ag.new w2 [.slice A l.length N] 168);have S:=aa d;have a2:=aa o;have a0:=aa (Y.below d);have a6:=aa (a1.below d);have b2:=d.size;clear z d o)
  |(go_at_call 83;refine (xx (k+(aB l).length) (g+groupsL l:Nat) _ _ (by omega) a0).mono ?_;rintro e w4 ⟨rfl,i,P,m,n⟩;have O:=aa i;have V:=aa P;have a3:=aa m;have a5:=aa n;have c:=a6.off i (by omega);obtain⟨p0,p1⟩:=iJ c;have p2:=c.frozen 0;have p3:=c.frozen 1;have a7:=aa c;have b4:=i.size;clear i P m n c))
 have hz:=fC (f:=Vf 122 #[ar (j.heap.size+1),ar j.heap.size]) (t:=Vf 89 #[]) a7;obtain⟨I,R⟩:=mf (W1:=W1) (w2:=w2) (r:=w.heap.size) (t:=Vf 89 #[]) (Q:=Bx (put2 w4 w.heap.size (Vf 122 #[ar (j.heap.size+1),ar j.heap.size]) (Vf 89 #[])) (AB lo B W1) 131 l.length ys) HB.out (by omega) (by omega) (by omega) S.out u O.out a3.out a5.out (zE _ _) HL.out.one (by omega) rfl (λk2 k3=>⟨w2.heap.size,_,rfl,.inr u,a2.out.keep k3 (.inr u),U.out.keep k2⟩);refine zN (v:=.agg #[Vf 122 #[ar (j.heap.size+1),ar j.heap.size],Vf 89 #[]]) (by simp[results,results51,go_sem,hz.1,hz.2]) rfl ?_;exact⟨_,_,_,_,rfl,⟨ys,cM.mono (λq _ y=>AB.up (by omega) q y) l ys (cM.keep R l ys Z),kU.mono (λq _ y=>AB.up (by omega) q y) (Bx.mono (λq _ y=>AB.up (by omega) q y)) I,dI.mono (λq _ y=>AB.up (by omega) q y) l g ys (dI.keep R l g ys W),rfl⟩,((((Off.below K).trans X).trans ((Off.below S).trans O)).trans (Off.below (zE _ _))).put2 (zA _) _ _,(V.below (zE _ _)).put2 (by omega) _ _⟩
theorem dL.form {v:Value}{l:LQ}(h:dL w A v l):∃so sc,v=.slice so l.length sc:=by
 rcases h with⟨rfl,rfl⟩|⟨b,c,a,rfl,_⟩
 ·exact⟨none,0,rfl⟩
 ·exact⟨_,_,rfl⟩
theorem RA (w:World)(A:NP):cB w A 47 1 (Vz) 0 (([]:List Nat).map ar):=⟨zZ _ _ _ _,λg h=>by simp[Value.ownBlock]at h⟩
theorem RC (s:LQ):fH (.set s):=by
 intro u B M b k g L w hB hN Q X hk hg;obtain⟨hb,sv,l,R⟩:=hN;obtain⟨V,Y,rfl⟩:=R.form;have a4:=Q.lt;have a8:=l.lt;have d:Bw w (w.alloc (.cells #[.nilFunc,.nilFunc] 132)):=(zE _ _).alloc (zA _) _;have y:=aa d;have I:=aa (ag.new w NN 132);have O:(w.alloc (.cells #[.nilFunc,.nilFunc] 132)).heap.size=w.heap.size+1:=by simp
 have Z:=aa (mX [] (λp hp=>by cases hp) u B L _ [] hB (RA _ _) (show PL _ _ [] []from rfl) (Q.below d) (λi q hi=>by simp[aB]at hi) (by simp[aB,aH]at *;omega) (by simp[groupsL,Pat.groups]at *;omega) (by simp));obtain⟨c0,c1,c2,W,c4,_⟩:=l.five;have D:=aa (l.below d);have HL:=aa X;have HB:=aa hB;have HK:=aa hk;have a1:b≠w.heap.size:=by omega
 have J:=aa (R.keep (ah.below d));clear l Q X d R;go_enter func51,ntmps51;go_wp2_with fail;generalize hW:w.alloc (.cells #[.nilFunc,.nilFunc] 132)=W1 at y I O Z D J ⊢;clear hW c0 c1 c2 W c4;refine Z.mono ?_;rintro e n ⟨a5,a6,ys,rfl,H,x,_,c,z⟩;have o:=I.off c (by omega);have F:=D.off c (by omega);obtain⟨c0,c1,c2,W,c4,_⟩:=F.five;have a7:=aa H;have a2:=aa x;have E:=aa c;have T:=aa z;have P:=aa o;have G:=c.size;have a0:=o.lt;clear H x c z o F;replace J:=aa (J.keep (ah.off E (show ¬(u<=M/\M<B) by omega)));go_wp2_with (go_at_call 93;refine (Ys _ _ _ _).mono ?_;rintro e K ⟨rfl,r⟩;have a:Bw n K:=(by rw[r];exact (zE _ _).alloc (zA _) _);have m:ag K n.heap.size [.slice V s.length Y] 24:=(by rw[r];exact ag.new n [.slice V s.length Y] 24);have j:=P.below a;obtain⟨p0,p1⟩:=iJ j;have p2:=j.frozen 0;have p3:=j.frozen 1;have N:=aa j;have C:=aa a;have U:=aa m;have S:=aa (T.below a);have a3:=a.size;clear r a m j);have hz:=fC (f:=Vf 137 #[ar n.heap.size]) (t:=Vf 89 #[]) N;have hr:¬AB u B W1 w.heap.size:=λh=>by rcases h with h|h<;>omega
 have k3:ah (AB u B W1) K (put2 K w.heap.size (Vf 137 #[ar n.heap.size]) (Vf 89 #[])):=ah.put2 hr _ _;refine zN (v:=.agg #[Vf 137 #[ar n.heap.size],Vf 89 #[]]) (by simp[results,results51,go_sem,hz.1,hz.2]) rfl ?_;refine⟨_,_,_,_,rfl,EV.mono (A:=AB u B W1) (λq _ ha=>AB.up (by omega) q ha) (.set s) _ ⟨_,_,rfl,.inr G,U.keep k3 (.inr G),((J.keep (ah.below C)).mono (λq _ hq=>(.inl hq:AB u B W1 q))).keep k3⟩,rfl,(((Off.below y).trans E).trans (Off.below C)).put2 (zA _) _ _,?_⟩;have:=S.put2 (show M≠w.heap.size by omega) (Vf 137 #[ar n.heap.size]) (Vf 89 #[]);have e8:k+(aH (.set s)).length=k+(aB []).length:=by simp[aH,aB]
 have e9:g+(Pat.set s).groups=g+groupsL []:=by simp[groupsL,Pat.groups]
 rw[e8,e9];exact this
theorem RD (hok:p.Ok)(ih:fH p):fH (.not p):=by
 intro W B bm b k g L w hB hN hm U hk hg;obtain⟨hb,lv,x,l,ho,hp⟩:=hN;obtain⟨b9,lc,rfl⟩:=ew ho.1;have c8:k+(aH p).length+1<=1000:=by simp[aH]at hk;omega
 have c5:=hm.lt;have c9:=l.lt;have a:Bw w (w.alloc (.cells #[.nilFunc,.nilFunc] 132)):=(zE _ _).alloc (zA _) _;have E:=aa a;have P:=aa (ag.new w NN 132);have a1:(w.alloc (.cells #[.nilFunc,.nilFunc] 132)).heap.size=w.heap.size+1:=by simp
 have HC:=aa (mX [p] (λq hq=>by rw[yQ.1 hq];exact ih) W B L _ [x] hB (ho.below a) (⟨x,[],rfl,PN.keep (ah.below a) p x hp,rfl⟩) (hm.below a) (show kF L k (aB [p]) by simpa [aB]using U.left) (by simp[aB];omega) (by simpa [groupsL,Pat.groups]using hg) (by simp));obtain⟨c0,c1,c2,c3,c4,_⟩:=l.five;have J:=aa (l.below a);have HL:=aa U;have HB:=aa hB;have HK:=aa hk;have b5:b≠w.heap.size:=by omega
 clear l hm U a ih ho hp;go_enter func51,ntmps51;go_wp2_with fail;generalize hW:w.alloc (.cells #[.nilFunc,.nilFunc] 132)=W1 at E P a1 HC J ⊢;clear hW c0 c1 c2 c3 c4;refine HC.mono ?_;rintro e w2 ⟨c6,c7,ys,rfl,O,V,_,h,H⟩;have u:=P.off h (by omega);have M:=J.off h (by omega);obtain⟨c0,c1,c2,c3,c4,_⟩:=M.five;obtain⟨f',t',r',rfl,⟨G,R,rfl⟩,C,a4⟩:=V;obtain rfl:r'=[]:=a4;obtain⟨F,S,rfl,eg⟩:=EV.form p f' hok C;obtain⟨pb,b2,a6,b3,b7,e0,e1⟩:=BU O (i:=0) (by simp) (f:=Vf F S) (t:=Vf G R) rfl;cases a6;simp only[Nat.zero_mul,zf]at e0 e1;have a9:=aa C;have a3:=aa h;have a8:=aa H;have a2:=aa u;have y:=h.size;have b4:=u.lt;clear O h H u M C;go_wp2_with (first
  |(go_at_call 90;refine (Yt _ _ _ _ _).mono ?_;rintro e j ⟨rfl,z⟩;have c:Bw w2 j:=(by rw[z];exact (zE _ _).alloc (zA _) _);have o:ag j w2.heap.size [Vf F S,Vf G R] 132:=(by rw[z];exact ag.new w2 [Vf F S,Vf G R] 132);have I:=aa c;have b1:=aa o;have a7:=aa (a8.below c);have Z:=aa (a2.below c);have b8:=c.size;clear z c o)
  |(go_at_call 83;refine (xx (k+(aB [p]).length) (g+groupsL [p]:Nat) _ _ (by simp[aB];omega) a7).mono ?_;rintro e w4 ⟨rfl,m,D,n,s⟩;have K:=aa m;have T:=aa D;have a0:=aa n;have b0:=aa s;have d:=Z.off m (by omega);obtain⟨p0,p1⟩:=iJ d;have p2:=d.frozen 0;have p3:=d.frozen 1;have X:=aa d;have b6:=m.size;clear m D n s d))
 have hz:=fC (f:=Vf 122 #[ar (j.heap.size+1),ar j.heap.size]) (t:=Vf 89 #[]) X;have Y:L[k+(aB [p]).length]?=some (.not p):=by
  have h9:kF L k (aH p++[.not p]):=HL.out;simpa [aB]using h9.one
 obtain⟨N,a5⟩:=mf (W1:=W1) (w2:=w2) (r:=w.heap.size) (t:=Vf 89 #[]) (Q:=λe=>∃bi,e=Vf 133 #[ar bi]/\AB W B W1 bi/\ag (put2 w4 w.heap.size (Vf 122 #[ar (j.heap.size+1),ar j.heap.size]) (Vf 89 #[])) bi [Vf F S,Vf G R] 132) HB.out (by omega) (by omega) (by omega) I.out y K.out a0.out b0.out (zE _ _) Y (by simp[aB];omega) rfl (λk2 k3=>⟨w2.heap.size,rfl,.inr y,b1.keep k3 (.inr y)⟩);refine zN (v:=.agg #[Vf 122 #[ar (j.heap.size+1),ar j.heap.size],Vf 89 #[]]) (by simp[results,results51,go_sem,hz.1,hz.2]) rfl ?_;refine⟨_,_,_,_,rfl,EV.mono (A:=AB W B W1) (λq _ ha=>AB.up (by omega) q ha) (.not p) _ ⟨_,_,EV.keep a5 p _ a9,N⟩,rfl,(((Off.below E).trans a3).trans ((Off.below I).trans K)).put2 (zA _) _ _,?_⟩;have:=T.put2 (show bm≠w.heap.size by omega) (Vf 122 #[ar (j.heap.size+1),ar j.heap.size]) (Vf 89 #[]);have e8:k+(aH (.not p)).length=k+(aB [p]).length+1:=by simp[aH,aB];omega
 have e9:g+(Pat.not p).groups=g+groupsL [p]:=by simp[groupsL,Pat.groups]
 rw[e8,e9];exact this
theorem Ll (ih:fH p)(lo B:Nat)(x:Nat)(hB:B<=bm)(hp:PN w (λx=>lo<=x/\x<B) p x)(hm:mF w bm k g)(hL:kF L k (aH p))(hk:k+(aH p).length<=1000)(hg:g+1+p.groups<=1000):Calls prog 81 #[Vp bm,Vp x] w λe w'=>∃F cp G tc,e=.returned (.agg #[Vf F cp,Vf G tc])/\EV w' (AB lo B w) L p (Vf F cp)/\TV w' (AB lo B w) L (.group p) g (Vf G tc)/\Off bm w w'/\mF w' bm (k+(aH p).length) (g+1+p.groups):=by
 have a4:=hm.lt;obtain⟨m0,m1⟩:=iJ hm;have z1:=hm.frozen 1;have a2:bm≠w.heap.size:=by omega
 have e9:(g:Int)+1=((g+1:Nat):Int):=by omega
 have J:mF ((w.setCell (aD bm 1) (Vi ((g:Int)+1))).alloc (.cells #[.nilFunc,.nilFunc] 132)) bm k (g+1):=by rw[e9];exact (hm.set 1 _).alloc _
 have n:Off bm w ((w.setCell (aD bm 1) (Vi ((g:Int)+1))).alloc (.cells #[.nilFunc,.nilFunc] 132)):=((Off.refl _ _).setCell 1 _).alloc _;have U:((w.setCell (aD bm 1) (Vi ((g:Int)+1))).alloc (.cells #[.nilFunc,.nilFunc] 132)).heap.size=w.heap.size+1:=by simp[World.setCell]
 have N:Hid (ag ((w.setCell (aD bm 1) (Vi ((g:Int)+1))).alloc (.cells #[.nilFunc,.nilFunc] 132)) w.heap.size NN 132):=by
  have O:=ag.new (w.setCell (aD bm 1) (Vi ((g:Int)+1))) NN 132;have e:(w.setCell (aD bm 1) (Vi ((g:Int)+1))).heap.size=w.heap.size:=by simp[World.setCell]
  rw[e]at O;exact O
 have HC:=aa (ih lo B bm x k (g+1) L _ hB (PN.keep (ah.off n (show ¬(lo<=bm/\bm<B) by omega)) p x hp) J hL hk hg);have z:=aa n;clear J n hp hm ih e9;go_enter func81,ntmps81;go_wp2_with fail;generalize hW:(w.setCell (aD bm 1) (Vi ((g:Int)+1))).alloc (.cells #[.nilFunc,.nilFunc] 132)=W1 at N U HC z ⊢;clear hW m0 m1 z1;refine HC.mono ?_;rintro e c ⟨F,cp,G,tc,rfl,I,K,l,M⟩;have X:=aa K;have o:=N.off l (by omega);have a3:=l.size;have s:Bw c (c.alloc (.cells #[Vf F cp,Vf G tc] 132)):=(zE _ _).alloc (zA _) _;have y:=aa (o.below s);have b:=aa s;have C:=ag.new c [Vf F cp,Vf G tc] 132;have i:=aa C;have E:=aa I;have W:=aa l;have V:=aa M;have a0:=o.lt;clear I K l M o C s;go_wp2_with fail;generalize hW:c.alloc (.cells #[Vf F cp,Vf G tc] 132)=W4 at y b i ⊢;clear hW;obtain⟨x0,x1⟩:=iJ i.out;have a1:=b.size;have a5:=i.lt
 go_region_held3 (λw'=>w'.cell? (aD c.heap.size 0)=some (Vf F cp)/\w'.cell? (aD c.heap.size 1)=some (Vf G tc))
  (first|exact⟨x0,x1⟩|exact T|exact Z _ _)
  ((go_at_call 121;refine (Yw _ _ _ _ _ _).mono ?_;rintro e u ⟨rfl,j⟩;have d:Bw W4 u:=(by rw[j];exact ((zE _ W4).drew.alloc (zA _) _).alloc (by simp) _);have D:ag u W4.heap.size [Vf F cp,Vf G tc] 132:=(by rw[j];exact (ag.new W4.drew [Vf F cp,Vf G tc] 132).alloc _);have H:ag u (W4.heap.size+1) [Vi (g:Int)] 3:=(by rw[j];have O:=ag.new (W4.drew.alloc (.cells #[Vf F cp,Vf G tc] 132)) [Vi (g:Int)] 3;simpa using O);have Y:=aa D;have Q:=aa H;clear D H;have a:=y.below d;obtain⟨q0,q1⟩:=iJ a;have q2:=a.frozen 0;have q3:=a.frozen 1;have S:=aa a;have r:=aa d;have m:=i.below d;have T:=aa (iJ m);have Z:Hid (∀f t,(put2 u w.heap.size f t).cell? (aD c.heap.size 0)=some (Vf F cp)/\(put2 u w.heap.size f t).cell? (aD c.heap.size 1)=some (Vf G tc)):=(λf t=>iJ (m.put2 (by omega) f t));clear j d a m))
 go_wp2_with fail;have hz:=fC (f:=Vf F cp) (t:=Vf 163 #[ar W4.heap.size,ar (W4.heap.size+1)]) S;have hr:¬AB lo B W1 w.heap.size:=λh=>by rcases h with h|h<;>omega
 have R:ah (AB lo B W1) c (put2 u w.heap.size (Vf F cp) (Vf 163 #[ar W4.heap.size,ar (W4.heap.size+1)])):=((ah.below b).trans (ah.below r)).trans (ah.put2 hr _ _);refine zN (v:=.agg #[Vf F cp,Vf 163 #[ar W4.heap.size,ar (W4.heap.size+1)]]) (by simp[results,results81,go_sem,hz.1,hz.2]) rfl ?_;exact⟨_,_,_,_,rfl,EV.mono (A:=AB lo B W1) (λq _ P=>AB.up (by omega) q P) p _ (EV.keep R p _ E),TV.mono (A:=AB lo B W1) (λq _ P=>AB.up (by omega) q P) (.group p) g _ ⟨_,_,_,_,rfl,.inr (by omega),.inr (by omega),Y.put2 (by omega) _ _,Q.put2 (by omega) _ _,⟨_,_,rfl⟩,EV.keep R p _ E,TV.keep R p (g+1) _ X⟩,((z.trans W).trans ((Off.below b).trans (Off.below r))).put2 (zA _) _ _,((V.below b).below r).put2 (by omega) _ _⟩
theorem Lm (ih:fH p):fH (.group p):=by
 intro s B bm b k g L w M U y S hk hg;obtain⟨hb,lv,x,j,N,P⟩:=U;obtain⟨pb,a3,rfl,a0,V,y0⟩:=As (xs:=[x]) N (i:=0) (x:=x) (by omega) rfl;have a2:=y.lt;have W:=j.lt;have c:Bw w (w.alloc (.cells #[.nilFunc,.nilFunc] 132)):=(zE _ _).alloc (zA _) _;have l:=aa c;have r:=aa (ag.new w NN 132);have D:(w.alloc (.cells #[.nilFunc,.nilFunc] 132)).heap.size=w.heap.size+1:=by simp
 have O:=aa (Ll ih s B x M (PN.keep (ah.below c) p x P) (y.below c) S hk (by simp only[Pat.groups]at hg;omega));obtain⟨Y,c1,c2,T,c4,_⟩:=j.five;have HB:=aa M;have X:b≠w.heap.size:=by omega
 have Z:pb≠w.heap.size:=by omega
 go_enter func51,ntmps51;go_wp2_with fail;generalize hW:w.alloc (.cells #[.nilFunc,.nilFunc] 132)=W1 at l r D O ⊢;refine O.mono ?_;rintro e w3 ⟨F,Q,G,J,rfl,m,n,d,o⟩;have H:=aa n;have a:=r.off d (by omega);have a1:=d.size;obtain⟨q0,q1⟩:=iJ a;have q2:=a.frozen 0;have q3:=a.frozen 1;have z:=aa a;have C:=aa m;have E:=aa d;have I:=aa o;go_wp2_with fail;have K:=fC (f:=Vf F Q) (t:=Vf G J) z;have R:¬AB s B W1 w.heap.size:=λh=>by rcases h with h|h<;>omega
 refine zN (v:=.agg #[Vf F Q,Vf G J]) (by simp[results,results51,go_sem,K.1,K.2]) rfl ?_;refine⟨_,_,_,_,rfl,EV.mono (A:=AB s B W1) (λq _ u=>AB.up (by omega) q u) p _ (EV.keep (ah.put2 R _ _) p _ C),TV.mono (A:=AB s B W1) (λq _ u=>AB.up (by omega) q u) (.group p) g _ (TV.keep (ah.put2 R _ _) (.group p) g _ H),((Off.below l).trans E).put2 (zA _) _ _,?_⟩;have e9:g+(Pat.group p).groups=g+1+p.groups:=by simp only[Pat.groups];omega
 rw[e9];exact I.put2 (by omega) _ _
theorem OI (m n:Int)(hok:p.Ok)(ih:fH p):fH (.many p m n):=by
 intro lo B S b k g L w hB hN hm hL hk hg;obtain⟨hb,lv,x,I,ho,hp⟩:=hN;obtain⟨g8,lc,rfl⟩:=ew ho.1;have h3:k+(aH p).length+1<=1000:=by simp[aH]at hk;omega
 have i0:=hm.lt;have h6:=I.lt;have s:Bw w (w.alloc (.cells #[.nilFunc,.nilFunc] 132)):=(zE _ _).alloc (zA _) _;have d3:=aa s;have b7:=aa (ag.new w NN 132);have f0:(w.alloc (.cells #[.nilFunc,.nilFunc] 132)).heap.size=w.heap.size+1:=by simp
 have HC:=aa (mX [p] (λq hq=>by rw[yQ.1 hq];exact ih) lo B L _ [x] hB (ho.below s) (⟨x,[],rfl,PN.keep (ah.below s) p x hp,rfl⟩) (hm.below s) (show kF L k (aB [p]) by simpa [aB]using hL.left) (by simp[aB];omega) (by simpa [groupsL,Pat.groups]using hg) (by simp));obtain⟨c0,c1,c2,c3,c4,_⟩:=I.five;have d1:=aa (I.below s);have HL:=aa hL;have HB:=aa hB;have HK:=aa hk;have g9:b≠w.heap.size:=by omega
 clear I hm hL s ih ho hp;go_enter func51,ntmps51;go_wp2_with fail;generalize hW:w.alloc (.cells #[.nilFunc,.nilFunc] 132)=W1 at d3 b7 f0 HC d1 ⊢;clear hW c0 c1 c2 c3 c4;refine HC.mono ?_;rintro e w2 ⟨h4,h0,ys,rfl,b6,g6,f1,C,b4⟩;have V:=b7.off C (by omega);have W:=d1.off C (by omega);obtain⟨c0,c1,c2,c3,c4,_⟩:=W.five;obtain⟨f',t',r',rfl,⟨G,u,rfl⟩,a4,e6⟩:=g6;obtain rfl:r'=[]:=e6;obtain⟨f9,t9,r9,e9,_,_,a7,_⟩:=f1;cases e9;have g4:=aa a7;clear a7;obtain⟨F,o,rfl,eg⟩:=EV.form p f' hok a4;obtain⟨H,g7,d8,a8,a9,e0,e1⟩:=BU b6 (i:=0) (by simp) (f:=Vf F o) (t:=Vf G u) rfl;cases d8;simp only[Nat.zero_mul,zf]at e0 e1;have d0:=aa a4;have f7:=aa C;have f8:=aa b4;have e7:=aa V;have Y:=C.size;have h1:=V.lt;have T:=W.lt;have h8:H≠w.heap.size:=λe=>by rcases a9 with h|h<;>omega
 have a5:H≠S:=λe=>by rcases a9 with h|h<;>omega
 have h7:b≠w.heap.size:=by omega
 have O:b≠S:=by omega
 have j:Hid (∀c,Off S w2 c->c.cell? (aD b 3)=some (Vi m)/\c.cell? (aD b 4)=some (Vi n)/\c.cell? (aD H 0)=some (Vf F o)/\c.cell? (aD H 1)=some (Vf G u)):=λc h=>⟨(h.cell (p:=(aD b 3)) T O).trans c3,(h.cell (p:=(aD b 4)) T O).trans c4,(h.cell (p:=(aD H 0)) a8 a5).trans e0,(h.cell (p:=(aD H 1)) a8 a5).trans e1⟩;have d2:Hid (∀c f t,Off S w2 c->(put2 c w.heap.size f t).cell? (aD b 3)=some (Vi m)/\(put2 c w.heap.size f t).cell? (aD b 4)=some (Vi n)/\(put2 c w.heap.size f t).cell? (aD H 0)=some (Vf F o)/\(put2 c w.heap.size f t).cell? (aD H 1)=some (Vf G u)):=λc f t h=>by
  obtain⟨a0,a1,a2,a3⟩:=j.out c h;refine⟨?_,?_,?_,?_⟩
  ·rw[zw _ _ _ _ (by simp;omega),zw _ _ _ _ (by simp;omega)];exact a0
  ·rw[zw _ _ _ _ (by simp;omega),zw _ _ _ _ (by simp;omega)];exact a1
  ·rw[zw _ _ _ _ (by simp;omega),zw _ _ _ _ (by simp;omega)];exact a2
  ·rw[zw _ _ _ _ (by simp;omega),zw _ _ _ _ (by simp;omega)];exact a3
 clear b6 C b4 V W a4;go_wp2_with fail
 go_region_held3 (λc=>c.cell? (aD b 3)=some (Vi m)/\c.cell? (aD b 4)=some (Vi n)/\c.cell? (aD H 0)=some (Vf F o)/\c.cell? (aD H 1)=some (Vf G u))
  (first|exact⟨c3,c4,e0,e1⟩|exact g5|exact e3|exact d6|exact f4 _ _)
  (first
  |(go_at_call 91;refine (Yu _ _ _ _ _ _ _).mono ?_;rintro e d ⟨rfl,y⟩;have l:Bw w2 d:=(by rw[y];exact (((zE _ w2).drew.alloc (zA _) _).alloc (by simp) _).alloc (by simp;omega) _);have d4:ag d w2.heap.size [Vf F o,Vf G u] 132:=(by rw[y];exact ((ag.new w2.drew [Vf F o,Vf G u] 132).alloc _).alloc _);have b9:ag d (w2.heap.size+1) [Vi m] 3:=(by rw[y];have K:=(ag.new (w2.drew.alloc (.cells #[Vf F o,Vf G u] 132)) [Vi m] 3).alloc (.cells #[Vi n] 3);simpa using K);have c6:ag d (w2.heap.size+2) [Vi n] 3:=(by rw[y];have K:=ag.new ((w2.drew.alloc (.cells #[Vf F o,Vf G u] 132)).alloc (.cells #[Vi m] 3)) [Vi n] 3;simpa using K);have b3:=aa l;have g3:=aa d4;have g2:=aa b9;have e2:=aa c6;have g1:=aa (f8.below l);have d5:=aa (e7.below l);have b8:Hid (Off S w2 d):=Off.below l;have g5:=aa (j d b8);have h5:=l.size;clear y l d4 b9 c6)
  |(go_at_call 83;refine (xx (k+(aB [p]).length) (g+groupsL [p]:Nat) _ _ (by simp[aB];omega) g1).mono ?_;rintro e a ⟨rfl,D,a6,P,N⟩;have b5:=aa D;have g0:=aa a6;have d9:=aa P;have d7:=aa N;have e5:=aa (d5.off D (by omega));have R:=aa (b8.trans D);have e3:=aa (j a R);have h2:=D.size;clear D a6 P N)
  |(go_at_call 92;refine (Yv _ _ _ _ _ _ _).mono ?_;rintro e M ⟨rfl,z⟩;have J:Bw a M:=(by rw[z];exact (((zE _ a).alloc (zA _) _).alloc (by simp) _).alloc (by simp;omega) _);have c9:ag M a.heap.size [Vf F o,Vf G u] 132:=(by rw[z];exact ((ag.new a [Vf F o,Vf G u] 132).alloc _).alloc _);have c8:ag M (a.heap.size+1) [Vi m] 3:=(by rw[z];have K:=(ag.new (a.alloc (.cells #[Vf F o,Vf G u] 132)) [Vi m] 3).alloc (.cells #[Vi n] 3);simpa using K);have c5:ag M (a.heap.size+2) [Vi n] 3:=(by rw[z];have K:=ag.new ((a.alloc (.cells #[Vf F o,Vf G u] 132)).alloc (.cells #[Vi m] 3)) [Vi n] 3;simpa using K);have f6:=aa c9;have e4:=aa c8;have f5:=aa c5;clear c9 c8 c5;have E:=e5.below J;obtain⟨q0,q1⟩:=iJ E;have q2:=E.frozen 0;have q3:=E.frozen 1;have f3:=aa E;have Z:=aa J;have U:=aa (R.trans (Off.below J));have d6:=aa (j M U);have f4:=aa (λf t=>d2 M f t U);clear z J E))
 all_goals go_wp2_with fail
 have hz:=fC (f:=Vf 122 #[ar (d.heap.size+1),ar d.heap.size]) (t:=Vf 135 #[ar a.heap.size,ar (a.heap.size+1),ar (a.heap.size+2)]) f3;have f2:L[k+(aB [p]).length]?=some (.many p m n):=by
  have K:kF L k (aH p++[.many p m n]):=HL.out;simpa [aB]using K.one
 obtain⟨c7,X⟩:=mf (W1:=W1) (w2:=w2) (r:=w.heap.size) (t:=Vf 135 #[ar a.heap.size,ar (a.heap.size+1),ar (a.heap.size+2)]) (Q:=λe=>∃b0 b1 b2,e=Vf 134 #[ar b0,ar b1,ar b2]/\AB lo B W1 b0/\AB lo B W1 b1/\AB lo B W1 b2/\ag (put2 M w.heap.size (Vf 122 #[ar (d.heap.size+1),ar d.heap.size]) (Vf 135 #[ar a.heap.size,ar (a.heap.size+1),ar (a.heap.size+2)])) b0 [Vi m] 3/\ag (put2 M w.heap.size (Vf 122 #[ar (d.heap.size+1),ar d.heap.size]) (Vf 135 #[ar a.heap.size,ar (a.heap.size+1),ar (a.heap.size+2)])) b1 [Vf F o,Vf G u] 132/\ag (put2 M w.heap.size (Vf 122 #[ar (d.heap.size+1),ar d.heap.size]) (Vf 135 #[ar a.heap.size,ar (a.heap.size+1),ar (a.heap.size+2)])) b2 [Vi n] 3) HB.out (by omega) (by omega) (by omega) b3.out Y b5.out d9.out d7.out Z.out f2 (by simp[aB];omega) rfl
  (λ_ k3=>⟨w2.heap.size+1,w2.heap.size,w2.heap.size+2,rfl,.inr (by omega),.inr Y,.inr (by omega),g2.keep k3 (.inr (by omega)),g3.keep k3 (.inr Y),e2.keep k3 (.inr (by omega))⟩)
 refine zN (v:=.agg #[Vf 122 #[ar (d.heap.size+1),ar d.heap.size],Vf 135 #[ar a.heap.size,ar (a.heap.size+1),ar (a.heap.size+2)]]) (by simp[results,results51,go_sem,hz.1,hz.2]) rfl ?_;refine⟨_,_,_,_,rfl,EV.mono (A:=AB lo B W1) (λq _ ha=>AB.up (by omega) q ha) (.many p m n) _ ⟨_,_,EV.keep X p _ d0,c7⟩,TV.mono (A:=AB lo B W1) (λq _ ha=>AB.up (by omega) q ha) (.many p m n) g _ ⟨_,_,_,_,_,rfl,.inr (by omega),.inr (by omega),.inr (by omega),f6.put2 (by omega) _ _,e4.put2 (by omega) _ _,f5.put2 (by omega) _ _,⟨_,_,rfl⟩,EV.keep X p _ d0,TV.keep X p g _ g4⟩,(((Off.below d3).trans f7).trans (((Off.below b3).trans b5).trans (Off.below Z))).put2 (zA _) _ _,?_⟩;have:=(g0.below Z).put2 (show S≠w.heap.size by omega) (Vf 122 #[ar (d.heap.size+1),ar d.heap.size]) (Vf 135 #[ar a.heap.size,ar (a.heap.size+1),ar (a.heap.size+2)]);have e8:k+(aH (.many p m n)).length=k+(aB [p]).length+1:=by simp[aH,aB];omega
 have e9:g+(Pat.many p m n).groups=g+groupsL [p]:=by simp[groupsL,Pat.groups]
 rw[e8,e9];exact this
theorem NJ {e:Ending}(h:Ar p lo B bm k g L w e w'):Ar (.or [p]) lo B bm k g L w e w':=by
 obtain⟨F,c,G,a,rfl,b,i,d,f⟩:=h;exact⟨F,c,G,a,rfl,⟨by simp,_,⟨_,_,[],rfl,⟨G,a,rfl⟩,b,rfl⟩,.inl ⟨rfl,_,rfl⟩⟩,⟨_,⟨_,_,[],rfl,⟨G,a,rfl⟩,b,i,rfl⟩,.inl ⟨rfl,_,rfl⟩⟩,d,by simpa [aH,aB,Pat.groups,groupsL]using f⟩
theorem KN {e:Ending}(h:Ar p lo B bm k g L w e w'):Ar (.and [p]) lo B bm k g L w e w':=by
 obtain⟨F,c,G,a,rfl,b,i,d,f⟩:=h;exact⟨F,c,G,a,rfl,⟨by simp,_,⟨_,_,[],rfl,⟨G,a,rfl⟩,b,rfl⟩,.inl ⟨rfl,_,rfl⟩⟩,⟨_,⟨_,_,[],rfl,⟨G,a,rfl⟩,b,i,rfl⟩,.inl ⟨rfl,_,rfl⟩⟩,d,by simpa [aH,aB,Pat.groups,groupsL]using f⟩
mutual
theorem nl:∀(p:Pat),p.Ok->fH p
 |.set s,_=>RC s
 |.row l,h=>by
  have A:=oA l h;intro C B q b k g L w u R y c D z;obtain⟨P,a,K,E,f,Q,t⟩:=R;have j:(aH (.row l)).length=(aB l).length+1:=by simp[aH]
  refine (RV l A C B u P K E f Q t a y c (by omega) z).mono ?_;rintro e V ⟨F,M,G,I,rfl,⟨o,S,O,d,i⟩,N,H⟩;exact⟨F,M,G,I,rfl,⟨a,o,S,O⟩,⟨o,d,i⟩,N,by rw[j];exact H⟩
 |.or l,h=>by
  have A:=oA l h.1;intro C B q b k g L w u R y c D z;obtain⟨a,E,t,⟨U,rfl⟩|⟨v,P,K,f,Q⟩⟩:=R
  ·obtain⟨p,rfl⟩:=zy.1 U;obtain⟨x,r,e,T,_⟩:=t;cases e;have j:aH (.or [p])=aH p:=by simp[aH,aB]
   rw[j]at c D;exact (A p (by simp) C B q b k g L w u T y c D (by simpa [Pat.groups,groupsL]using z)).mono (λ_ _ h=>NJ h)
  ·have J:aH (.or l)=aB l++[.or l]:=by simp only[aH,zR v]
   have j:(aH (.or l)).length=(aB l).length+1:=by rw[J];simp
   refine (VD l A C B L u P K E f Q t a y (by rw[J]at c;exact c) (by omega) z).mono ?_;rintro e V ⟨F,M,G,I,rfl,⟨o,S,O,d,i⟩,N,H⟩;exact⟨F,M,G,I,rfl,⟨a,o,S,.inr ⟨v,O⟩⟩,⟨o,d,.inr ⟨v,i⟩⟩,N,by rw[j];exact H⟩
 |.and l,h=>by
  have A:=oA l h.1;intro C B q b k g L w u R y c D z;obtain⟨a,E,t,⟨U,rfl⟩|⟨v,P,K,f,Q⟩⟩:=R
  ·obtain⟨p,rfl⟩:=zy.1 U;obtain⟨x,r,e,T,_⟩:=t;cases e;have j:aH (.and [p])=aH p:=by simp[aH,aB]
   rw[j]at c D;exact (A p (by simp) C B q b k g L w u T y c D (by simpa [Pat.groups,groupsL]using z)).mono (λ_ _ h=>KN h)
  ·have J:aH (.and l)=aB l++[.and l]:=by simp only[aH,zR v]
   have j:(aH (.and l)).length=(aB l).length+1:=by rw[J];simp
   refine (RW l A C B L u P K E f Q t a y (by rw[J]at c;exact c) (by omega) z).mono ?_;rintro e V ⟨F,M,G,I,rfl,⟨o,S,O,d,i⟩,N,H⟩;exact⟨F,M,G,I,rfl,⟨a,o,S,.inr ⟨v,O⟩⟩,⟨o,d,.inr ⟨v,i⟩⟩,N,by rw[j];exact H⟩
 |.not p,h=>RD h (nl p h)
 |.many p m n,h=>OI m n h.1 (nl p h.1)
 |.group p,h=>Lm (nl p h)
theorem oA:∀(l:List Pat),jr l->∀p∈l,fH p
 | [],_=>λp h=>by cases h
 |q::l,hk=>by
  have b:=nl q hk.1;have a:=oA l hk.2;intro p h;rcases zO.1 h with rfl|h
  ·exact b
  ·exact a p h
end
theorem NK {bs:List UInt8}{er place:Int}(h:jW bs (er,place,some p)):(aH p).length<=1000/\p.groups<=1000:=by
 rcases h with⟨_,h⟩|⟨_,_,_,h⟩|⟨f,l,e,h⟩
 ·cases h
 ·cases h
 ·have b:=eB e;unfold dz at h;have a:=JF false (l.length+1) l;have c:=Km false (l.length+1) l
  split at h
  ·cases h
  ·cases h
  ·rename_i q heq
   rw[heq]at a c
   split at h
   ·cases h
   ·cases h;have g:(aH p).length+3*0<=1+3*l.length:=a;have d:p.groups+3*0<=1+3*l.length:=c;omega
theorem Ra (p:Pat)(hok:p.Ok)(lo b:Nat)(w:World)(hlo:lo<=w.heap.size)(hN:PN w (λx=>lo<=x) p b)(hc:(aH p).length<=1000)(hg:p.groups<=1000):Calls prog 23 #[Vp b] w λe w'=>∃bp,e=.returned (ar bp)/\PT w' (λx=>lo<=x) p bp/\Bw w w'/\w.heap.size<=bp/\PK w' (λx=>lo<=x) p bp:=by
 have m:Bw w (w.alloc (.cells #[Vi 0,Vi 0] 126)):=(zE _ _).alloc (zA _) _;have s:mF (w.alloc (.cells #[Vi 0,Vi 0] 126)) w.heap.size 0 0:=ag.new w [Vi 0,Vi 0] 126;have J:=aa (nl p hok lo w.heap.size w.heap.size b 0 0 (aH p) (w.alloc (.cells #[Vi 0,Vi 0] 126)) (zA _) (PN.keep (ah.below m) p b (PN.mono (λq K h=>⟨h,K⟩) p b hN)) s (λi q S=>by simpa using S) (by omega) (by omega));have n:=aa m;have y:=aa hc;have C:=aa hg;go_enter func23,ntmps23;go_wp2_with fail;generalize hW:w.alloc (.cells #[Vi 0,Vi 0] 126)=W1 at J n ⊢;refine J.mono ?_;rintro e f ⟨F,c,G,a,rfl,u,r,o,g⟩;have D:=aa r;simp only[zf]at g;obtain⟨H,I⟩:=iJ g;have t:=g.lt;have O:w.heap.size≠f.heap.size:=by omega
 have B:=aa u;have z:=aa o;have L:=o.size;have A:=n.size;have Q:(f.alloc (.cells #[Vf F c,Vf G a] 132)).cell? (aD f.heap.size 0)=some (Vf F c):=(iJ (ag.new f [Vf F c,Vf G a] 132)).1;have P:(f.alloc (.cells #[Vf F c,Vf G a] 132)).cell? (aD f.heap.size 1)=some (Vf G a):=(iJ (ag.new f [Vf F c,Vf G a] 132)).2;have k:Bw f (f.alloc (.cells #[Vf F c,Vf G a] 132)):=(zE _ _).alloc (zA _) _;have N:=(k.cell (p:=(aD w.heap.size 0)) t).trans H;have M:=(k.cell (p:=(aD w.heap.size 1)) t).trans I;have d:=aa k;go_wp2_with fail;generalize hW:f.alloc (.cells #[Vf F c,Vf G a] 132)=W4 at Q P N M d ⊢;have R:=d.size
 try go_region
 try go_wp2_with fail
 go_ret;have l:Bw W4 (W4.drew.alloc (.cells #[Vf F c,Vf G a,Vi (aH p).length,Vi p.groups] 135)):=(zE _ W4).drew.alloc (zA _) _;have v:EV (W4.drew.alloc (.cells #[Vf F c,Vf G a,Vi (aH p).length,Vi p.groups] 135)) (λx=>lo<=x) (aH p) p (Vf F c):=EV.mono (λq _ j=>by rcases j with j|j;exact j.1;show lo<=q;omega) p _ (EV.keep ((ah.below d).trans (ah.below l)) p _ B);have E:TV (W4.drew.alloc (.cells #[Vf F c,Vf G a,Vi (aH p).length,Vi p.groups] 135)) (λx=>lo<=x) (aH p) p 0 (Vf G a):=TV.mono (λq _ j=>by rcases j with j|j;exact j.1;show lo<=q;omega) p _ _ (TV.keep ((ah.below d).trans (ah.below l)) p _ _ D);exact⟨W4.heap.size,rfl,⟨by show lo<=_;omega,_,_,_,ag.new W4.drew [Vf F c,Vf G a,Vi (aH p).length,Vi p.groups] 135,v,y⟩,(n.trans (z.toBelow (zA _) A)).trans ((d.mono (by omega)).trans (l.mono (by omega))),by omega,⟨by show lo<=_;omega,_,_,ag.new W4.drew [Vf F c,Vf G a,Vi (aH p).length,Vi p.groups] 135,⟨_,_,rfl⟩,v,E,y,C⟩⟩
def rH (w:World):Prop:=jz w/\TabAt 2 Lib.deBruijn64tab w
theorem rH.below {w w':World}(h:rH w)(k:Bw w w'):rH w':=⟨h.1.below k,λj a=>(k.cell (nh (h.2 j a))).trans (h.2 j a)⟩
theorem PT.below {w w':World}{A:NP}{p:Pat}{bp:Nat}(h:PT w A p bp)(k:Bw w w'):PT w' A p bp:=by
 obtain⟨d,f,t,g,c,a,b⟩:=h;exact⟨d,f,t,g,c.below k,EV.keep (ah.below k) p f a,b⟩
def RX (w:World)(A:Nat->Prop)(p:Pat)(bx:Nat):Prop:=A bx/\∃v0 v1 v2 v3 v4 bp x,ag w bx [v0,v1,v2,v3,v4,ar bp] 54/\(A x/\ag w x [v0,v1,v2,v3,v4] 51)/\PN w A p x/\PT w A p bp/\PK w A p bp
theorem RX.keep {w w':World}{A:NP}{p:Pat}{bx:Nat}(h:RX w A p bx)(k:ah A w w'):RX w' A p bx:=by
 obtain⟨c,r,i,l,m,j,u,x,e,a,o,d,n⟩:=h;obtain⟨b,f,t,g,v,q,s⟩:=d;exact⟨c,r,i,l,m,j,u,x,e.keep k c,⟨a.1,a.2.keep k a.1⟩,PN.keep k p x o,⟨b,f,t,g,v.keep k b,EV.keep k p f q,s⟩,n.keep k⟩
theorem RX.below {w w':World}{A:NP}{p:Pat}{bx:Nat}(h:RX w A p bx)(k:Bw w w'):RX w' A p bx:=h.keep (ah.below k)
theorem PN.five {w:World}{A:NP}:∀(p:Pat) (b:Nat),PN w A p b->p.Ok->∃v0 v1 v2 v3 v4,ag w b [v0,v1,v2,v3,v4] 51
 |.set s,b,h,_=>by obtain⟨g,u,a,t⟩:=h;exact⟨_,_,_,_,_,a⟩
 |.row l,b,h,_=>by obtain⟨g,_,i,k,a,j,d⟩:=h;exact⟨_,_,_,_,_,a⟩
 |.or [],b,h,hk=>absurd rfl hk.2
 |.or [p],b,h,hk=>by
  obtain⟨_,k,d,f⟩:=h;rcases f with⟨_,rfl⟩|⟨c,_⟩
  ·obtain⟨x,r,e,o,_⟩:=d;cases e;exact PN.five p b o hk.1.1
  ·exact absurd rfl c
 |.or (p::q::l),b,h,hk=>by
  obtain⟨_,k,d,f⟩:=h;rcases f with⟨c,_⟩|⟨c,g,i,a,j⟩
  ·simp at c
  ·exact⟨_,_,_,_,_,a⟩
 |.and [],b,h,hk=>absurd rfl hk.2
 |.and [p],b,h,hk=>by
  obtain⟨_,k,d,f⟩:=h;rcases f with⟨_,rfl⟩|⟨c,_⟩
  ·obtain⟨x,r,e,o,_⟩:=d;cases e;exact PN.five p b o hk.1.1
  ·exact absurd rfl c
 |.and (p::q::l),b,h,hk=>by
  obtain⟨_,k,d,f⟩:=h;rcases f with⟨c,_⟩|⟨c,g,i,a,j⟩
  ·simp at c
  ·exact⟨_,_,_,_,_,a⟩
 |.not p,b,h,_=>by obtain⟨g,i,x,a,j,d⟩:=h;exact⟨_,_,_,_,_,a⟩
 |.many p m n,b,h,_=>by obtain⟨g,i,x,a,j,d⟩:=h;exact⟨_,_,_,_,_,a⟩
 |.group p,b,h,_=>by obtain⟨g,i,x,a,j,d⟩:=h;exact⟨_,_,_,_,_,a⟩
theorem IP (s:ByteArray)(hT:rH w)(hm:s.size<=9223372036854775807):Calls prog 24 #[.string s] w λe w'=>Bw w w'/\∃er ol,e=.returned (Vi er)/\lT (af s) er ol:=by
 have n:=aa (aL s);by_cases h:s.size<=40
 ·have o:decide ((40:Int)<(s.size:Int))=false:=zI (by omega);have c:Hid ((af s).length<=40):=by show _<=_;rw[n.out];exact h
  have m:=aa (Nr s w hm (hT.1.2 w (λ_ _=>rfl)));have i:Hid ((Lib.validD s.data.toList=true/\∃l,Runes (af s) l)\/(Lib.validD s.data.toList=false/\∃k,Broken (af s) k)):=by
   rcases Eo (af s).length (af s) (zA _)with⟨l,f⟩|⟨k,g⟩
   ·exact .inl ⟨IK f _ (zA _),l,f⟩
   ·exact .inr ⟨Gy g _ (zA _),k,g⟩
  generalize Lib.validD s.data.toList=b at m i;rcases i.out with⟨rfl,l,f⟩|⟨rfl,k,g⟩
  ·have j:=aa f;go_enter func24,ntmps24;go_wp2_with (go_at_call 52;refine m.mono ?_;rintro e p ⟨rfl,a⟩;have d:=aa a);go_ret;exact⟨d,0,some l,rfl,.inr (.inr ⟨c,l,j,rfl,rfl⟩)⟩
  ·have j:=aa g;go_enter func24,ntmps24;go_wp2_with (go_at_call 52;refine m.mono ?_;rintro e p ⟨rfl,a⟩;have d:=aa a);go_ret;exact⟨d,3,none,rfl,.inr (.inl ⟨c,⟨k,j⟩,rfl,rfl⟩)⟩
 ·have o:decide ((40:Int)<(s.size:Int))=true:=zv (by omega);have c:Hid (40<(af s).length):=by show _<_;rw[n.out];omega
  go_enter func24,ntmps24;go_wp2;go_ret;exact⟨zE _ _,2,none,rfl,.inl ⟨c,rfl,rfl⟩⟩
theorem Ug (s:ByteArray)(w:World){l:LZ}(h:Runes (af s) l)(hl:l.length<=40):∃rc W2,(convert 9 71 (.string s)).run prog w=.ok (Vs w.heap.size l.length rc) W2/\ud W2 (λ_=>False) (some (aD w.heap.size 0)) l/\Bw w W2:=by
 have e:=MP s h;have b:=run_runes_of_string (P:=prog) w 9 71 21 s underlying9 underlying71 underlying21 (by rw[e];simp;omega);rw[e]at b;have a:((l.map (Value.int .i32)).toArray).size=l.length:=by simp
 rw[a]at b;refine⟨_,_,b,λi x c=>⟨w.heap.size,0,rfl,λh=>h,by simp,?_⟩,(zE _ w).drew.alloc (zA _) _⟩;have f:i<l.length:=(zC.1 c).1;have d:ag (w.drew.alloc (.cells ((l.map (Value.int .i32)).toArray++Array.replicate (grownCap w l.length 0 21-l.length) (.int .i32 0)) 21)) w.heap.size (l.map (Value.int .i32)++List.replicate (grownCap w l.length 0 21-l.length) (.int .i32 0)) 21:=by
  have:=ag.new w.drew (l.map (Value.int .i32)++List.replicate (grownCap w l.length 0 21-l.length) (.int .i32 0)) 21;rw[<-List.append_toArray,List.toArray_replicate]at this;exact this
 rw[d.cell,zf,yY (by simpa using f),zg,c];rfl
theorem CW (s:ByteArray)(hT:rH w)(hm:s.size<=9223372036854775807):Calls prog 11 #[.string s] w λe w'=>Bw w w'/\∃nv er place op,jW (af s) (er,place,op)/\e=.returned (.tuple #[nv,Vi er,Vi place])/\match op with|some p=>∃bx,nv=ar bx/\RX w' (dp w) p bx|none=>nv=.pointer none:=by
 have X:=aa (NC s hT.1 hm);go_enter func11,ntmps11;go_wp2_with fail;refine X.mono ?_;rintro e b ⟨A,nv,er,place,op,n,rfl,l⟩;have d:=aa A;have y:=aa n;cases op with
 |none=>
  have a5:(er==0)=false:=zD.2 (qM n);have z:nv=.pointer none:=l;subst z;go_wp2;refine zN (v:=.tuple #[.pointer none,Vi er,Vi place]) (by simp[results,results11,go_sem]) rfl ?_;exact⟨d,_,_,_,none,y,rfl,rfl⟩
 |some p=>
  obtain⟨rfl,rfl,f,t⟩:=qL n;obtain⟨R,S⟩:=NK n;obtain⟨x,rfl,r⟩:=l;obtain⟨k,g,i,j,h,N⟩:∃k g i j h,ag b x [k,g,i,j,h] 51:=PN.five p x r f;obtain⟨W,Y,T,c3,V,a6⟩:=N.five;have O:=aa N;have F:=aa (PN.lt p x r f).1;have U:=aa (λ(w':World) (hb:Bw b w')=>Ra p f w.heap.size x w' (zJ d.size hb.size) (PN.keep (ah.below hb) p x r) R S);have Z:=aa r;go_wp2_with fail
  go_region_held3 (λw'=>Bw b w'/\w'.cell? (aD x 0)=some k/\w'.cell? (aD x 1)=some g/\w'.cell? (aD x 2)=some i/\w'.cell? (aD x 3)=some j/\w'.cell? (aD x 4)=some h)
   (first|exact⟨(zE _ _).drew,W,Y,T,c3,V⟩|exact K|exact I _)
   ((go_at_call 23;refine (U _ (‹Bw b _/\_›.1)).mono ?_;rintro e a ⟨L,rfl,u,C,Q,B⟩;have H:=aa B;have c:Bw b a:=(‹Bw b _/\_›.1).trans (C.mono (‹Bw b _/\_›.1).size);have I:Hid (∀o,Bw b (a.alloc o)/\(a.alloc o).cell? (aD x 0)=some k/\(a.alloc o).cell? (aD x 1)=some g/\(a.alloc o).cell? (aD x 2)=some i/\(a.alloc o).cell? (aD x 3)=some j/\(a.alloc o).cell? (aD x 4)=some h):=(λo=>by have q:=c.alloc c.size o;obtain⟨G,E,J,M,P,_⟩:=(O.out.below q).five;exact⟨q,G,E,J,M,P⟩);have K:Hid (Bw b a/\a.cell? (aD x 0)=some k/\a.cell? (aD x 1)=some g/\a.cell? (aD x 2)=some i/\a.cell? (aD x 3)=some j/\a.cell? (aD x 4)=some h):=(by obtain⟨G,E,J,M,P,_⟩:=(O.out.below c).five;exact⟨c,G,E,J,M,P⟩);have D:=aa u;have m:=aa c))
  all_goals go_wp2_with fail
  have q:=m.alloc m.size (.cells #[k,g,i,j,h,ar L] 54);refine zN (v:=.tuple #[ar a.heap.size,Vi 0,Vi 0]) (by simp[results,results11,go_sem]) rfl ?_;exact⟨d.trans (q.mono d.size),_,0,0,some p,y,rfl,a.heap.size,rfl,zJ d.size m.size,k,g,i,j,h,L,x,ag.new a [k,g,i,j,h,ar L] 54,⟨F,O.below q⟩,PN.keep (ah.below q) p x Z,D.below ((zE _ a).alloc (zA _) _),H.keep (ah.below ((zE _ a).alloc (zA _) _))⟩
theorem vG (hok:p.Ok)(s:ByteArray)(hX:RX w A p bx)(hT:rH w)(hm:s.size<=9223372036854775807):Calls prog 12 #[Vp bx,.string s] w λe w'=>Bw w w'/\∃er ol,e=.returned (.tuple #[.bool (Aw p ol),Vi er])/\lT (af s) er ol:=by
 have D:=aa (IP s hT hm);have J:=aa hX;have H:=aa hT;go_enter func12,ntmps12;go_wp2_with fail;refine D.mono ?_;rintro e q ⟨b,er,ol,rfl,a⟩;have f:=aa b;have i:=aa a;cases ol with
 |none=>
  have I:(er==0)=false:=zD.2 (Mv a);go_wp2;refine zN (v:=.tuple #[.bool false,Vi er]) (by simp[results,results12,go_sem]) rfl ?_;exact⟨f,er,none,rfl,i⟩
 |some l=>
  have E:=Mw a;subst E;obtain⟨o,d⟩:l.length<=40/\Runes (af s) l:=by
   rcases a with⟨_,_,h⟩|⟨_,_,_,h⟩|⟨C,O,y,_,h⟩
   ·cases h
   ·cases h
   ·cases h;exact⟨zJ (eB y) C,y⟩
  obtain⟨G,F,r,g,c⟩:=Ug s q d o;obtain⟨_,P,K,M,N,L,u,x,z,_,_,j,_⟩:=J.out.below b;have Q:q.cell? (aD bx 5)=some (Vp u):=by rw[z.cell];rfl
  have B:=aa (Pr hok G (j.below c) o (db d) ((H.below b).below c).2 g);have m:=aa c;have k:Hid (mT p l 0 l.length=Aw p (some l)):=rfl;generalize mT p l 0 l.length=MB at B k;go_wp2_with (go_at_call 25;refine B.mono ?_;rintro e R ⟨rfl,n⟩;have t:=aa n);refine zN (v:=.tuple #[.bool MB,Vi 0]) (by simp[results,results12,go_sem]) rfl ?_;exact⟨f.trans ((m.trans (t.mono m.size)).mono f.size),0,some l,by rw[k.out],i⟩
def uK:List UInt8:=[126,40,46,42,97,97,46,42,41,38,97,46,42,98]
def lB:Pat:=match aU false 15 (uK.map λx=>(x.toNat:Int))with|.ok p _=>p|.bad _=>.row []
def Ts:Pat:=.many (.set tm) 0 (-1)
def Kd (c:Int):Pat:=.set [(c,c)]
theorem vw:lB=.or [.and [.row [.not (.group (.or [.and [.row [Ts,Kd 97,Kd 97,Ts]]]))],.row [Kd 97,Ts,Kd 98]]]:=by rfl
theorem Ay:jW uK (0,0,some lB):=.inr (.inr ⟨by decide,_,lN uK (by decide),by kernel_rfl⟩)
theorem uL (c:Int):(Kd c).Mt [c]:=⟨c,rfl,by simp[memB,inB]⟩
theorem PP {c:Int}{t:LZ}(h:(Kd c).Mt t):t=[c]:=by
 obtain⟨d,rfl,a⟩:=h;simp[memB,inB]at a;rw[show d=c by omega]
theorem PQ:lB.Mt [97,98,97,98]:=by
 rw[vw];refine .inl ⟨⟨[97,98,97,98],[],by simp,?_,rfl⟩,⟨[97],[98,97,98],rfl,uL 97,[98,97],[98],rfl,?_,[98],[],rfl,uL 98,rfl⟩,trivial⟩
 ·rintro (⟨⟨a,b,e,_,c,d,j,m,f,g,i,k,_⟩,_⟩|h)
  ·rw[PP m]at j;rw[PP k]at i;rw[j,i]at e;have l:=congrArg List.length e;rcases a with _|⟨x,_|⟨y,_|⟨z,a⟩⟩⟩
   ·simp at e
   ·simp at e
   ·simp at e
   ·simp at l;omega
  ·exact h
 ·exact⟨2,by decide,.inl (by decide),[98],[97],rfl,⟨98,rfl,by decide⟩,[97],[],rfl,⟨97,rfl,by decide⟩,rfl⟩
theorem Tt:¬lB.Mt [97,97,98]:=by
 rw[vw];rintro (⟨⟨a,b,e,c,d⟩,_⟩|h)
 ·rw[show b=[]from d,zx]at e;apply c;rw[<-e];exact .inl ⟨⟨[],[97,97,98],rfl,⟨0,by decide,.inl (by decide),rfl⟩,[97],[97,98],rfl,uL 97,[97],[98],rfl,uL 97,[98],[],rfl,⟨1,by decide,.inl (by decide),[98],[],rfl,⟨98,rfl,by decide⟩,rfl⟩,rfl⟩,trivial⟩
 ·exact h
theorem My:Aw lB (some [97,98,97,98])=true:=kD.2 ⟨zW _,by rw[JL];exact PQ⟩
theorem PR:Aw lB (some [97,97,98])=false:=by
 apply Bool.eq_false_iff.2;intro h;have:=(kD.1 h).2;rw[JL]at this;exact Tt this
theorem PS:lT [97,98,97,98] 0 (some [97,98,97,98]):=.inr (.inr ⟨by decide,_,lN [97,98,97,98] (by decide),rfl,rfl⟩)
theorem Tu:lT [97,97,98] 0 (some [97,97,98]):=.inr (.inr ⟨by decide,_,lN [97,97,98] (by decide),rfl,rfl⟩)
theorem Mz (hT:rH w):Calls prog 5 #[] w λe w'=>e=.returned (.bool true)/\Bw w w':=by
 have D:=aa (CW ⟨#[126,40,46,42,97,97,46,42,41,38,97,46,42,98]⟩ hT (by decide));have x:=aa hT;go_enter func5,ntmps5;go_wp2_with fail;refine D.mono ?_;rintro e m ⟨a,G,B,d,C,A,rfl,t⟩;have z:=tY Ay (show jW uK (B,d,C)from A);simp only[Prod.mk.injEq]at z;obtain⟨rfl,rfl,rfl⟩:=z;obtain⟨y,rfl,v⟩:=t;have c:=(qL Ay).2.2.1;have h:=aa (λ(w':World) (hb:Bw m w')=>vG c ⟨#[97,98,97,98]⟩ (v.below hb) ((x.below a).below hb) (by decide));have g:=aa (λ(w':World) (hb:Bw m w')=>vG c ⟨#[97,97,98]⟩ (v.below hb) ((x.below a).below hb) (by decide));have j:=aa a;go_wp2_with fail;refine (h _ (zE _ _)).mono ?_;rintro e F ⟨i,u,q,rfl,k⟩;have s:=tF PS (show lT [97,98,97,98] u q from k);obtain⟨rfl,rfl⟩:=s;rw[My];have b:=aa i;go_wp2_with fail;refine (g _ b).mono ?_;rintro e E ⟨l,p,o,rfl,f⟩;have n:=tF Tu (show lT [97,97,98] p o from f);obtain⟨rfl,rfl⟩:=n;rw[PR];have r:=aa l;go_wp2_with fail;go_ret;exact⟨rfl,j.trans ((b.trans (r.mono b.size)).mono j.size)⟩
abbrev Z6:List Value:=Zq
def ZI (w:World)(e:Ending)(w':World):Prop:=Bw w w'/\∃(nv:Value) (k:Int) (so:Option Addr) (sn sc:Nat) (lo:Option Addr) (ln lc:Nat) (mm nn rr gr:Int) (op:Option Pat),e=.returned (.tuple #[nv,.agg #[Vi k,.slice so sn sc,.slice lo ln lc,Vi mm,Vi nn,Vi rr],Vi gr,.bool true]) /\
 match op with|some p=>p.Ok/\p.wr.length<=4000/\(∃bx A,nv=ar bx/\RX w' A p bx)/\NV w' (λ_=>True) p (bT k so sn sc lo ln lc mm nn rr) 0/\gr=(p.groups:Int)|none=>nv=.pointer none
theorem xv {c0 c1 c2 c3 c4 c5:Value}(h:ag w r Z6 27):ag (put6 w r c0 c1 c2 c3 c4 c5) r [c0,c1,c2,c3,c4,c5] 27:=(((((h.set 0 c0).set 1 c1).set 2 c2).set 3 c3).set 4 c4).set 5 c5
theorem xw {a:World}(h:Below B a w)(hr:B<=r)(c0 c1 c2 c3 c4 c5:Value):Below B a (put6 w r c0 c1 c2 c3 c4 c5):=(((((h.setCell hr _).setCell hr _).setCell hr _).setCell hr _).setCell hr _).setCell hr _
