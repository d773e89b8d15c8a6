import Derived.Test.YtebnghmioamheaaGreatDoorM24
import Derived.Test.YtebnghmioamheaaGreatDoorM26
set_option maxHeartbeats 4000000
set_option maxRecDepth 100000
set_option linter.all false
namespace Go.Proofs.YtebnghmioamheaaGreatDoor
open Go.Shelf Go.RowKit Go.Lib Brm Tryz
variable {w w':World}{r lo B bm b k g bx:Nat}{L:List Pat}{p:Pat}{A:NP}
abbrev NN:List Value:=[.nilFunc,.nilFunc]
abbrev put2 (w:World)(r:Nat)(f t:Value):World:=(w.setCell (aD r 0) f).setCell (aD r 1) t
theorem Off.put2 {b r:Nat}{a w:World}(h:Off b a w)(hr:a.heap.size<=r)(f t:Value):Off b a (put2 w r f t):=(h.setNew hr _).setNew hr _
theorem ah.put2 {A:NP}{w:World}{r:Nat}(hr:¬A r)(f t:Value):ah A w (put2 w r f t):=(ah.set _ hr).trans (ah.set _ hr)
theorem ag.put2 {w:World}{b r:Nat}{cs:LV}{T:TypeId}(h:ag w b cs T)(hr:b≠r)(f t:Value):ag (put2 w r f t) b cs T:=(h.setOther hr _).setOther hr _
theorem fC {f t:Value}(h:ag w r NN 132):(put2 w r f t).cell? (aD r 0)=some f/\(put2 w r f t).cell? (aD r 1)=some t:=iJ ((h.set 0 f).set 1 t)
theorem mf {W1 w2 w3 w4 w5:World}{num:Nat}{e f t:Value}{Q:Value->Prop}(hB:B<=bm)(hbm:bm<W1.heap.size)(hr1:B<=r)(hr2:r<W1.heap.size)(h23:Bw w2 w3)(hs:W1.heap.size<=w2.heap.size)(hO:Off bm w3 w4)
  (hbe:ag w4 w3.heap.size [e] 128) (hbn:ag w4 (w3.heap.size+1) [Vi num] 3) (h45:Bw w4 w5) (hL:L[num]?=some p) (hn:num<1000000) (hf:f=Vf 122 #[ar (w3.heap.size+1),ar w3.heap.size])
  (hQ:ah (AB lo B W1) w2 (put2 w5 r f t)->ah (AB lo B W1) w3 (put2 w5 r f t)->Q e):kU (put2 w5 r f t) (AB lo B W1) L p f Q/\ah (AB lo B W1) w2 (put2 w5 r f t):=by
 have i:¬AB lo B W1 r:=λh=>by rcases h with h|h<;>omega
 have j:¬AB lo B W1 bm:=λh=>by rcases h with h|h<;>omega
 have a:ah (AB lo B W1) w4 (put2 w5 r f t):=(ah.below h45).trans (ah.put2 i f t);have c:ah (AB lo B W1) w3 (put2 w5 r f t):=(ah.off hO j).trans a;have g:ah (AB lo B W1) w2 (put2 w5 r f t):=(ah.below h23).trans c;have k:=h23.size;have d:AB lo B W1 (w3.heap.size+1):=.inr (by omega);have b:AB lo B W1 w3.heap.size:=.inr (by omega);exact⟨⟨_,_,e,num,hf,d,b,hbn.keep a d,hbe.keep a b,hL,hn,hQ g c⟩,g⟩
theorem AB.up {W1:World}(h:w.heap.size<=W1.heap.size)(g:Nat)(ha:AB lo B W1 g):AB lo B w g:=by rcases ha with ha|ha;exact .inl ha;exact .inr (zJ h ha)
theorem RV (l:List Pat)(ih:∀p∈l,fH p)(lo B:Nat)(hB:B<=bm)(hb:lo<=b/\b<B)(lv:Value)(xs:List Nat)(hnb:ag w b [Vi 1,Vz,lv,Vi 0,Vi 0] 51)(ho:cB w (λx=>lo<=x/\x<B) 47 1 lv l.length (xs.map ar))(hP:PL w (λx=>lo<=x/\x<B) l xs)(h100:l.length<=100)(hm:mF w bm k g)(hL:kF L k (aB l++[.row l]))(hk:k+(aB l).length+1<=1000)(hg:g+groupsL l<=1000):Calls prog 51 #[Vp bm,Vp b] w λe w'=>∃F cp G tc,e=.returned (.agg #[Vf F cp,Vf G tc])/\(∃ys,cM w' (AB lo B w) L l ys/\kU w' (AB lo B w) L (.row l) (Vf F cp) (Bx w' (AB lo B w) 123 l.length ys)/\dI w' (AB lo B w) L l g ys/\Bx w' (AB lo B w) 126 l.length ys (Vf G tc))/\Off bm w w'/\mF w' bm (k+(aB l).length+1) (g+groupsL l):=by
 have b9:=hm.lt;have c5:=hnb.lt;obtain⟨b7,lc,rfl⟩:=ew ho.1;have a:Bw w (w.alloc (.cells #[.nilFunc,.nilFunc] 132)):=(zE _ _).alloc (zA _) _;have a0:=aa a;have P:=aa (ag.new w NN 132);have a7:(w.alloc (.cells #[.nilFunc,.nilFunc] 132)).heap.size=w.heap.size+1:=by simp
 have HC:=aa (mX l ih lo B L _ xs hB (ho.below a) (PL.keep (ah.below a) l xs hP) (hm.below a) hL.left (by omega) hg h100);obtain⟨c0,c1,c2,c3,c4,_⟩:=hnb.five;have T:=aa (hnb.below a);have HL:=aa hL;have HB:=aa hB;have HK:=aa hk;have b8:b≠w.heap.size:=by omega
 clear hnb ho hP hm hL a ih;go_enter func51,ntmps51;go_wp2_with fail;generalize hW:w.alloc (.cells #[.nilFunc,.nilFunc] 132)=W1 at a0 P a7 HC T ⊢;clear hW c0 c1 c2 c3 c4;refine HC.mono ?_;rintro e w2 ⟨m,n,ys,rfl,R,W,Y,d,U⟩;have a4:=aa Y;have I:=P.off d (by omega);have M:=T.off d (by omega);obtain⟨c0,c1,c2,c3,c4,_⟩:=M.five;have N:=aa R;have a6:=aa W;have b3:=aa d;have a5:=aa U;have b2:=aa I;have C:=d.size;have c6:=I.lt;clear R W Y d U I M;go_wp2_with (first
  |(go_at_call 84;refine (Yn _ _ _ _).mono ?_;rintro e z ⟨rfl,E⟩;have c:Bw w2 z:=(by rw[E];exact (zE _ _).alloc (zA _) _);have A:ag z w2.heap.size [.slice m l.length n] 168:=(by rw[E];exact ag.new w2 [.slice m l.length n] 168);have V:=aa c;have a9:=aa A;have b5:=aa (a5.below c);have b4:=aa (b2.below c);have c7:=c.size;clear E c A)
  |(go_at_call 83;refine (xx (k+(aB l).length) (g+groupsL l:Nat) _ _ (by omega) b5).mono ?_;rintro e s ⟨rfl,j,O,u,y⟩;have X:=aa j;have b1:=aa O;have a3:=aa u;have a1:=aa y;have h:=b4.off j (by omega);obtain⟨p0,p1⟩:=iJ h;have p2:=h.frozen 0;have p3:=h.frozen 1;have b0:=aa h;have b6:=j.size;clear j O u y h)
  |(go_at_call 85;refine (Yo _ _ _ _).mono ?_;rintro e w5 ⟨rfl,H⟩;have D:Bw s w5:=(by rw[H];exact (zE _ _).alloc (zA _) _);have Z:ag w5 s.heap.size [.slice m l.length n] 168:=(by rw[H];exact ag.new s [.slice m l.length n] 168);have a2:=aa Z;have i:=b0.below D;obtain⟨q0,q1⟩:=iJ i;have q2:=i.frozen 0;have q3:=i.frozen 1;have a8:=aa i;have J:=aa D;clear H D i Z))
 have hz:=fC (f:=Vf 122 #[ar (z.heap.size+1),ar z.heap.size]) (t:=Vf 126 #[ar s.heap.size]) a8;obtain⟨S,K⟩:=mf (W1:=W1) (w2:=w2) (r:=w.heap.size) (t:=Vf 126 #[ar s.heap.size]) (Q:=Bx (put2 w5 w.heap.size (Vf 122 #[ar (z.heap.size+1),ar z.heap.size]) (Vf 126 #[ar s.heap.size])) (AB lo B W1) 123 l.length ys) HB.out (by omega) (by omega) (by omega) V.out C X.out a3.out a1.out J.out HL.out.one (by omega) rfl (λk2 k3=>⟨w2.heap.size,_,rfl,.inr C,a9.out.keep k3 (.inr C),N.out.keep k2⟩);refine zN (v:=.agg #[Vf 122 #[ar (z.heap.size+1),ar z.heap.size],Vf 126 #[ar s.heap.size]]) (by simp[results,results51,go_sem,hz.1,hz.2]) rfl ?_;exact⟨_,_,_,_,rfl,⟨ys,cM.mono (λq _ o=>AB.up (by omega) q o) l ys (cM.keep K l ys a6),kU.mono (λq _ o=>AB.up (by omega) q o) (Bx.mono (λq _ o=>AB.up (by omega) q o)) S,dI.mono (λq _ o=>AB.up (by omega) q o) l g ys (dI.keep K l g ys a4),⟨s.heap.size,_,rfl,.inr (by omega),a2.put2 (by omega) _ _,(N.keep K).mono (λq _ o=>AB.up (by omega) q o)⟩⟩,((((Off.below a0).trans b3).trans ((Off.below V).trans X)).trans (Off.below J)).put2 (zA _) _ _,(b1.below J).put2 (by omega) _ _⟩
theorem VD (l:List Pat)(ih:∀p∈l,fH p)(lo B:Nat)(L:List Pat)(hB:B<=bm)(hb:lo<=b/\b<B)(lv:Value)(xs:List Nat)(hnb:ag w b [Vi 2,Vz,lv,Vi 0,Vi 0] 51)(ho:cB w (λx=>lo<=x/\x<B) 47 1 lv l.length (xs.map ar))(hP:PL w (λx=>lo<=x/\x<B) l xs)(h100:l.length<=100)(hm:mF w bm k g)(hL:kF L k (aB l++[.or l]))(hk:k+(aB l).length+1<=1000)(hg:g+groupsL l<=1000):Calls prog 51 #[Vp bm,Vp b] w λe w'=>∃F cp G tc,e=.returned (.agg #[Vf F cp,Vf G tc])/\(∃ys,cM w' (AB lo B w) L l ys/\kU w' (AB lo B w) L (.or l) (Vf F cp) (Bx w' (AB lo B w) 129 l.length ys)/\dI w' (AB lo B w) L l g ys/\Bx w' (AB lo B w) 130 l.length ys (Vf G tc))/\Off bm w w'/\mF w' bm (k+(aB l).length+1) (g+groupsL l):=by
 have b9:=hm.lt;have c5:=hnb.lt;obtain⟨b7,lc,rfl⟩:=ew ho.1;have a:Bw w (w.alloc (.cells #[.nilFunc,.nilFunc] 132)):=(zE _ _).alloc (zA _) _;have a0:=aa a;have P:=aa (ag.new w NN 132);have a7:(w.alloc (.cells #[.nilFunc,.nilFunc] 132)).heap.size=w.heap.size+1:=by simp
 have HC:=aa (mX l ih lo B L _ xs hB (ho.below a) (PL.keep (ah.below a) l xs hP) (hm.below a) hL.left (by omega) hg h100);obtain⟨c0,c1,c2,c3,c4,_⟩:=hnb.five;have T:=aa (hnb.below a);have HL:=aa hL;have HB:=aa hB;have HK:=aa hk;have b8:b≠w.heap.size:=by omega
 clear hnb ho hP hm hL a ih;go_enter func51,ntmps51;go_wp2_with fail;generalize hW:w.alloc (.cells #[.nilFunc,.nilFunc] 132)=W1 at a0 P a7 HC T ⊢;clear hW c0 c1 c2 c3 c4;refine HC.mono ?_;rintro e w2 ⟨m,n,ys,rfl,R,W,Y,d,U⟩;have a4:=aa Y;have I:=P.off d (by omega);have M:=T.off d (by omega);obtain⟨c0,c1,c2,c3,c4,_⟩:=M.five;have N:=aa R;have a6:=aa W;have b3:=aa d;have a5:=aa U;have b2:=aa I;have C:=d.size;have c6:=I.lt;clear R W Y d U I M;go_wp2_with (first
  |(go_at_call 86;refine (Yp _ _ _ _).mono ?_;rintro e z ⟨rfl,E⟩;have c:Bw w2 z:=(by rw[E];exact (zE _ _).alloc (zA _) _);have A:ag z w2.heap.size [.slice m l.length n] 168:=(by rw[E];exact ag.new w2 [.slice m l.length n] 168);have V:=aa c;have a9:=aa A;have b5:=aa (a5.below c);have b4:=aa (b2.below c);have c7:=c.size;clear E c A)
  |(go_at_call 83;refine (xx (k+(aB l).length) (g+groupsL l:Nat) _ _ (by omega) b5).mono ?_;rintro e s ⟨rfl,j,O,u,y⟩;have X:=aa j;have b1:=aa O;have a3:=aa u;have a1:=aa y;have h:=b4.off j (by omega);obtain⟨p0,p1⟩:=iJ h;have p2:=h.frozen 0;have p3:=h.frozen 1;have b0:=aa h;have b6:=j.size;clear j O u y h)
  |(go_at_call 87;refine (Yq _ _ _ _).mono ?_;rintro e w5 ⟨rfl,H⟩;have D:Bw s w5:=(by rw[H];exact (zE _ _).alloc (zA _) _);have Z:ag w5 s.heap.size [.slice m l.length n] 168:=(by rw[H];exact ag.new s [.slice m l.length n] 168);have a2:=aa Z;have i:=b0.below D;obtain⟨q0,q1⟩:=iJ i;have q2:=i.frozen 0;have q3:=i.frozen 1;have a8:=aa i;have J:=aa D;clear H D i Z))
 have hz:=fC (f:=Vf 122 #[ar (z.heap.size+1),ar z.heap.size]) (t:=Vf 130 #[ar s.heap.size]) a8;obtain⟨S,K⟩:=mf (W1:=W1) (w2:=w2) (r:=w.heap.size) (t:=Vf 130 #[ar s.heap.size]) (Q:=Bx (put2 w5 w.heap.size (Vf 122 #[ar (z.heap.size+1),ar z.heap.size]) (Vf 130 #[ar s.heap.size])) (AB lo B W1) 129 l.length ys) HB.out (by omega) (by omega) (by omega) V.out C X.out a3.out a1.out J.out HL.out.one (by omega) rfl (λk2 k3=>⟨w2.heap.size,_,rfl,.inr C,a9.out.keep k3 (.inr C),N.out.keep k2⟩);refine zN (v:=.agg #[Vf 122 #[ar (z.heap.size+1),ar z.heap.size],Vf 130 #[ar s.heap.size]]) (by simp[results,results51,go_sem,hz.1,hz.2]) rfl ?_;exact⟨_,_,_,_,rfl,⟨ys,cM.mono (λq _ o=>AB.up (by omega) q o) l ys (cM.keep K l ys a6),kU.mono (λq _ o=>AB.up (by omega) q o) (Bx.mono (λq _ o=>AB.up (by omega) q o)) S,dI.mono (λq _ o=>AB.up (by omega) q o) l g ys (dI.keep K l g ys a4),⟨s.heap.size,_,rfl,.inr (by omega),a2.put2 (by omega) _ _,(N.keep K).mono (λq _ o=>AB.up (by omega) q o)⟩⟩,((((Off.below a0).trans b3).trans ((Off.below V).trans X)).trans (Off.below J)).put2 (zA _) _ _,(b1.below J).put2 (by omega) _ _⟩
theorem RW (l:List Pat)(ih:∀p∈l,fH p)(lo B:Nat)(L:List Pat)(hB:B<=bm)(hb:lo<=b/\b<B)(lv:Value)(xs:List Nat)(hnb:ag w b [Vi 3,Vz,lv,Vi 0,Vi 0] 51)(ho:cB w (λx=>lo<=x/\x<B) 47 1 lv l.length (xs.map ar))(hP:PL w (λx=>lo<=x/\x<B) l xs)(h100:l.length<=100)(hm:mF w bm k g)(hL:kF L k (aB l++[.and l]))(hk:k+(aB l).length+1<=1000)(hg:g+groupsL l<=1000):Calls prog 51 #[Vp bm,Vp b] w λe w'=>∃F cp G tc,e=.returned (.agg #[Vf F cp,Vf G tc])/\(∃ys,cM w' (AB lo B w) L l ys/\kU w' (AB lo B w) L (.and l) (Vf F cp) (Bx w' (AB lo B w) 131 l.length ys)/\dI w' (AB lo B w) L l g ys/\(Vf G tc:Value)=Vf 89 #[])/\Off bm w w'/\mF w' bm (k+(aB l).length+1) (g+groupsL l):=by
 have b4:=hm.lt;have a8:=hnb.lt;obtain⟨b1,lc,rfl⟩:=ew ho.1;have a:Bw w (w.alloc (.cells #[.nilFunc,.nilFunc] 132)):=(zE _ _).alloc (zA _) _;have P:=aa a;have E:=aa (ag.new w NN 132);have W:(w.alloc (.cells #[.nilFunc,.nilFunc] 132)).heap.size=w.heap.size+1:=by simp
 have HC:=aa (mX l ih lo B L _ xs hB (ho.below a) (PL.keep (ah.below a) l xs hP) (hm.below a) hL.left (by omega) hg h100);obtain⟨c0,c1,c2,c3,c4,_⟩:=hnb.five;have C:=aa (hnb.below a);have HL:=aa hL;have HB:=aa hB;have HK:=aa hk;have b2:b≠w.heap.size:=by omega
 clear hnb ho hP hm hL a ih;go_enter func51,ntmps51;go_wp2_with fail;generalize hW:w.alloc (.cells #[.nilFunc,.nilFunc] 132)=W1 at P E W HC C ⊢;clear hW c0 c1 c2 c3 c4;refine HC.mono ?_;rintro e w2 ⟨O,R,ys,rfl,J,T,I,d,M⟩;have V:=aa I;have z:=E.off d (by omega);have K:=C.off d (by omega);obtain⟨c0,c1,c2,c3,c4,_⟩:=K.five;have a4:=aa J;have Y:=aa T;have a7:=aa d;have X:=aa M;have a6:=aa z;have u:=d.size;have a9:=z.lt;clear J T I d M z K;go_wp2_with (first
  |(go_at_call 88;refine (Yr _ _ _ _).mono ?_;rintro e m ⟨rfl,s⟩;have h:Bw w2 m:=(by rw[s];exact (zE _ _).alloc (zA _) _);have o:ag m w2.heap.size [.slice O l.length R] 168:=(by rw[s];exact ag.new w2 [.slice O l.length R] 168);have N:=aa h;have Z:=aa o;have a5:=aa (X.below h);have a0:=aa (a6.below h);have b0:=h.size;clear s h o)
  |(go_at_call 83;refine (xx (k+(aB l).length) (g+groupsL l:Nat) _ _ (by omega) a5).mono ?_;rintro e w4 ⟨rfl,i,D,n,j⟩;have H:=aa i;have a2:=aa D;have a3:=aa n;have U:=aa j;have c:=a0.off i (by omega);obtain⟨p0,p1⟩:=iJ c;have p2:=c.frozen 0;have p3:=c.frozen 1;have a1:=aa c;have b3:=i.size;clear i D n j c))
 have hz:=fC (f:=Vf 122 #[ar (m.heap.size+1),ar m.heap.size]) (t:=Vf 89 #[]) a1;obtain⟨A,S⟩:=mf (W1:=W1) (w2:=w2) (r:=w.heap.size) (t:=Vf 89 #[]) (Q:=Bx (put2 w4 w.heap.size (Vf 122 #[ar (m.heap.size+1),ar m.heap.size]) (Vf 89 #[])) (AB lo B W1) 131 l.length ys) HB.out (by omega) (by omega) (by omega) N.out u H.out a3.out U.out (zE _ _) HL.out.one (by omega) rfl (λk2 k3=>⟨w2.heap.size,_,rfl,.inr u,Z.out.keep k3 (.inr u),a4.out.keep k2⟩);refine zN (v:=.agg #[Vf 122 #[ar (m.heap.size+1),ar m.heap.size],Vf 89 #[]]) (by simp[results,results51,go_sem,hz.1,hz.2]) rfl ?_;exact⟨_,_,_,_,rfl,⟨ys,cM.mono (λq _ y=>AB.up (by omega) q y) l ys (cM.keep S l ys Y),kU.mono (λq _ y=>AB.up (by omega) q y) (Bx.mono (λq _ y=>AB.up (by omega) q y)) A,dI.mono (λq _ y=>AB.up (by omega) q y) l g ys (dI.keep S l g ys V),rfl⟩,((((Off.below P).trans a7).trans ((Off.below N).trans H)).trans (Off.below (zE _ _))).put2 (zA _) _ _,(a2.below (zE _ _)).put2 (by omega) _ _⟩
theorem dL.form {v:Value}{l:LQ}(h:dL w A v l):∃so sc,v=.slice so l.length sc:=by
 rcases h with⟨rfl,rfl⟩|⟨b,c,a,rfl,_⟩
 ·exact⟨none,0,rfl⟩
 ·exact⟨_,_,rfl⟩
theorem RA (w:World)(A:NP):cB w A 47 1 (Vz) 0 (([]:List Nat).map ar):=⟨zZ _ _ _ _,λg h=>by simp[Value.ownBlock]at h⟩
theorem RC (s:LQ):fH (.set s):=by
 intro u B K b k g L w hB hN R V hk hg;obtain⟨hb,sv,l,O⟩:=hN;obtain⟨W,sc,rfl⟩:=O.form;have a3:=R.lt;have a4:=l.lt;have j:Bw w (w.alloc (.cells #[.nilFunc,.nilFunc] 132)):=(zE _ _).alloc (zA _) _;have G:=aa j;have I:=aa (ag.new w NN 132);have S:(w.alloc (.cells #[.nilFunc,.nilFunc] 132)).heap.size=w.heap.size+1:=by simp
 have HC:=aa (mX [] (λp hp=>by cases hp) u B L _ [] hB (RA _ _) (show PL _ _ [] []from rfl) (R.below j) (λi q hi=>by simp[aB]at hi) (by simp[aB,aH]at *;omega) (by simp[groupsL,Pat.groups]at *;omega) (by simp));obtain⟨c0,Y,c2,c3,X,_⟩:=l.five;have E:=aa (l.below j);have HL:=aa V;have HB:=aa hB;have HK:=aa hk;have a8:b≠w.heap.size:=by omega
 have J:=aa (O.keep (ah.below j));clear l R V j O;go_enter func51,ntmps51;go_wp2_with fail;generalize hW:w.alloc (.cells #[.nilFunc,.nilFunc] 132)=W1 at G I S HC E J ⊢;clear hW c0 Y c2 c3 X;refine HC.mono ?_;rintro e n ⟨a2,a6,ys,rfl,x,z,_,a,C⟩;have o:=I.off a (by omega);have H:=E.off a (by omega);obtain⟨c0,Y,c2,c3,X,_⟩:=H.five;have a1:=aa x;have a7:=aa z;have F:=aa a;have T:=aa C;have N:=aa o;have y:=a.size;have a0:=o.lt;clear x z a C o H;replace J:=aa (J.keep (ah.off F (show ¬(u<=K/\K<B) by omega)));go_wp2_with (go_at_call 93;refine (Ys _ _ _ _).mono ?_;rintro e M ⟨rfl,r⟩;have c:Bw n M:=(by rw[r];exact (zE _ _).alloc (zA _) _);have m:ag M n.heap.size [.slice W s.length sc] 24:=(by rw[r];exact ag.new n [.slice W s.length sc] 24);have d:=N.below c;obtain⟨p0,p1⟩:=iJ d;have p2:=d.frozen 0;have p3:=d.frozen 1;have Q:=aa d;have D:=aa c;have P:=aa m;have U:=aa (T.below c);have a5:=c.size;clear r c m d);have Z:=fC (f:=Vf 137 #[ar n.heap.size]) (t:=Vf 89 #[]) Q;have hr:¬AB u B W1 w.heap.size:=λh=>by rcases h with h|h<;>omega
 have k3:ah (AB u B W1) M (put2 M w.heap.size (Vf 137 #[ar n.heap.size]) (Vf 89 #[])):=ah.put2 hr _ _;refine zN (v:=.agg #[Vf 137 #[ar n.heap.size],Vf 89 #[]]) (by simp[results,results51,go_sem,Z.1,Z.2]) rfl ?_;refine⟨_,_,_,_,rfl,EV.mono (A:=AB u B W1) (λq _ ha=>AB.up (by omega) q ha) (.set s) _ ⟨_,_,rfl,.inr y,P.keep k3 (.inr y),((J.keep (ah.below D)).mono (λq _ hq=>(.inl hq:AB u B W1 q))).keep k3⟩,rfl,(((Off.below G).trans F).trans (Off.below D)).put2 (zA _) _ _,?_⟩;have:=U.put2 (show K≠w.heap.size by omega) (Vf 137 #[ar n.heap.size]) (Vf 89 #[]);have e8:k+(aH (.set s)).length=k+(aB []).length:=by simp[aH,aB]
 have e9:g+(Pat.set s).groups=g+groupsL []:=by simp[groupsL,Pat.groups]
 rw[e8,e9];exact this
theorem RD (hok:p.Ok)(ih:fH p):fH (.not p):=by
 intro T B W b k g L w hB hN hm hL hk hg;obtain⟨hb,lv,x,l,ho,hp⟩:=hN;obtain⟨c7,lc,rfl⟩:=ew ho.1;have b8:k+(aH p).length+1<=1000:=by simp[aH]at hk;omega
 have b6:=hm.lt;have b7:=l.lt;have a:Bw w (w.alloc (.cells #[.nilFunc,.nilFunc] 132)):=(zE _ _).alloc (zA _) _;have N:=aa a;have P:=aa (ag.new w NN 132);have a5:(w.alloc (.cells #[.nilFunc,.nilFunc] 132)).heap.size=w.heap.size+1:=by simp
 have HC:=aa (mX [p] (λq hq=>by rw[yQ.1 hq];exact ih) T B L _ [x] hB (ho.below a) (⟨x,[],rfl,PN.keep (ah.below a) p x hp,rfl⟩) (hm.below a) (show kF L k (aB [p]) by simpa [aB]using hL.left) (by simp[aB];omega) (by simpa [groupsL,Pat.groups]using hg) (by simp));obtain⟨c0,c1,c2,c3,c4,_⟩:=l.five;have K:=aa (l.below a);have HL:=aa hL;have HB:=aa hB;have HK:=aa hk;have c8:b≠w.heap.size:=by omega
 clear l hm hL a ih ho hp;go_enter func51,ntmps51;go_wp2_with fail;generalize hW:w.alloc (.cells #[.nilFunc,.nilFunc] 132)=W1 at N P a5 HC K ⊢;clear hW c0 c1 c2 c3 c4;refine HC.mono ?_;rintro e w2 ⟨b5,c5,ys,rfl,D,a1,_,c,H⟩;have y:=P.off c (by omega);have O:=K.off c (by omega);obtain⟨c0,c1,c2,c3,c4,_⟩:=O.five;obtain⟨f',t',r',rfl,⟨G,R,rfl⟩,u,a0⟩:=a1;obtain rfl:r'=[]:=a0;obtain⟨F,S,rfl,eg⟩:=EV.form p f' hok u;obtain⟨pb,b2,b0,c6,b3,e0,e1⟩:=BU D (i:=0) (by simp) (f:=Vf F S) (t:=Vf G R) rfl;cases b0;simp only[Nat.zero_mul,zf]at e0 e1;have a7:=aa u;have a4:=aa c;have a8:=aa H;have U:=aa y;have z:=c.size;have b4:=y.lt;clear D c H y O u;go_wp2_with (first
  |(go_at_call 90;refine (Yt _ _ _ _ _).mono ?_;rintro e j ⟨rfl,C⟩;have d:Bw w2 j:=(by rw[C];exact (zE _ _).alloc (zA _) _);have n:ag j w2.heap.size [Vf F S,Vf G R] 132:=(by rw[C];exact ag.new w2 [Vf F S,Vf G R] 132);have I:=aa d;have X:=aa n;have b1:=aa (a8.below d);have Z:=aa (U.below d);have b9:=d.size;clear C d n)
  |(go_at_call 83;refine (xx (k+(aB [p]).length) (g+groupsL [p]:Nat) _ _ (by simp[aB];omega) b1).mono ?_;rintro e w4 ⟨rfl,m,M,s,o⟩;have J:=aa m;have a6:=aa M;have V:=aa s;have a2:=aa o;have h:=Z.off m (by omega);obtain⟨p0,p1⟩:=iJ h;have p2:=h.frozen 0;have p3:=h.frozen 1;have a9:=aa h;have c9:=m.size;clear m M s o h))
 have hz:=fC (f:=Vf 122 #[ar (j.heap.size+1),ar j.heap.size]) (t:=Vf 89 #[]) a9;have Y:L[k+(aB [p]).length]?=some (.not p):=by
  have h9:kF L k (aH p++[.not p]):=HL.out;simpa [aB]using h9.one
 obtain⟨E,a3⟩:=mf (W1:=W1) (w2:=w2) (r:=w.heap.size) (t:=Vf 89 #[]) (Q:=λe=>∃bi,e=Vf 133 #[ar bi]/\AB T B W1 bi/\ag (put2 w4 w.heap.size (Vf 122 #[ar (j.heap.size+1),ar j.heap.size]) (Vf 89 #[])) bi [Vf F S,Vf G R] 132) HB.out (by omega) (by omega) (by omega) I.out z J.out V.out a2.out (zE _ _) Y (by simp[aB];omega) rfl (λk2 k3=>⟨w2.heap.size,rfl,.inr z,X.keep k3 (.inr z)⟩);refine zN (v:=.agg #[Vf 122 #[ar (j.heap.size+1),ar j.heap.size],Vf 89 #[]]) (by simp[results,results51,go_sem,hz.1,hz.2]) rfl ?_;refine⟨_,_,_,_,rfl,EV.mono (A:=AB T B W1) (λq _ ha=>AB.up (by omega) q ha) (.not p) _ ⟨_,_,EV.keep a3 p _ a7,E⟩,rfl,(((Off.below N).trans a4).trans ((Off.below I).trans J)).put2 (zA _) _ _,?_⟩;have:=a6.put2 (show W≠w.heap.size by omega) (Vf 122 #[ar (j.heap.size+1),ar j.heap.size]) (Vf 89 #[]);have e8:k+(aH (.not p)).length=k+(aB [p]).length+1:=by simp[aH,aB];omega
 have e9:g+(Pat.not p).groups=g+groupsL [p]:=by simp[groupsL,Pat.groups]
 rw[e8,e9];exact this
theorem Ll (ih:fH p)(lo B:Nat)(x:Nat)(hB:B<=bm)(hp:PN w (λx=>lo<=x/\x<B) p x)(hm:mF w bm k g)(hL:kF L k (aH p))(hk:k+(aH p).length<=1000)(hg:g+1+p.groups<=1000):Calls prog 81 #[Vp bm,Vp x] w λe w'=>∃F cp G tc,e=.returned (.agg #[Vf F cp,Vf G tc])/\EV w' (AB lo B w) L p (Vf F cp)/\TV w' (AB lo B w) L (.group p) g (Vf G tc)/\Off bm w w'/\mF w' bm (k+(aH p).length) (g+1+p.groups):=by
 have a1:=hm.lt;obtain⟨m0,m1⟩:=iJ hm;have z1:=hm.frozen 1;have a0:bm≠w.heap.size:=by omega
 have e9:(g:Int)+1=((g+1:Nat):Int):=by omega
 have y:mF ((w.setCell (aD bm 1) (Vi ((g:Int)+1))).alloc (.cells #[.nilFunc,.nilFunc] 132)) bm k (g+1):=by rw[e9];exact (hm.set 1 _).alloc _
 have m:Off bm w ((w.setCell (aD bm 1) (Vi ((g:Int)+1))).alloc (.cells #[.nilFunc,.nilFunc] 132)):=((Off.refl _ _).setCell 1 _).alloc _;have R:((w.setCell (aD bm 1) (Vi ((g:Int)+1))).alloc (.cells #[.nilFunc,.nilFunc] 132)).heap.size=w.heap.size+1:=by simp[World.setCell]
 have D:Hid (ag ((w.setCell (aD bm 1) (Vi ((g:Int)+1))).alloc (.cells #[.nilFunc,.nilFunc] 132)) w.heap.size NN 132):=by
  have O:=ag.new (w.setCell (aD bm 1) (Vi ((g:Int)+1))) NN 132;have e:(w.setCell (aD bm 1) (Vi ((g:Int)+1))).heap.size=w.heap.size:=by simp[World.setCell]
  rw[e]at O;exact O
 have HC:=aa (ih lo B bm x k (g+1) L _ hB (PN.keep (ah.off m (show ¬(lo<=bm/\bm<B) by omega)) p x hp) y hL hk hg);have H:=aa m;clear y m hp hm ih e9;go_enter func81,ntmps81;go_wp2_with fail;generalize hW:(w.setCell (aD bm 1) (Vi ((g:Int)+1))).alloc (.cells #[.nilFunc,.nilFunc] 132)=W1 at D R HC H ⊢;clear hW m0 m1 z1;refine HC.mono ?_;rintro e c ⟨F,cp,G,tc,rfl,M,C,i,N⟩;have P:=aa C;have s:=D.off i (by omega);have a3:=i.size;have n:Bw c (c.alloc (.cells #[Vf F cp,Vf G tc] 132)):=(zE _ _).alloc (zA _) _;have z:=aa (s.below n);have a:=aa n;have E:=ag.new c [Vf F cp,Vf G tc] 132;have d:=aa E;have I:=aa M;have S:=aa i;have X:=aa N;have a4:=s.lt;clear M C i N s E n;go_wp2_with fail;generalize hW:c.alloc (.cells #[Vf F cp,Vf G tc] 132)=W4 at z a d ⊢;clear hW;obtain⟨x0,x1⟩:=iJ d.out;have a5:=a.size;have a2:=d.lt
 go_region_held3 (λw'=>w'.cell? (aD c.heap.size 0)=some (Vf F cp)/\w'.cell? (aD c.heap.size 1)=some (Vf G tc))
  (first|exact⟨x0,x1⟩|exact W|exact Y _ _)
  ((go_at_call 121;refine (Yw _ _ _ _ _ _).mono ?_;rintro e u ⟨rfl,l⟩;have j:Bw W4 u:=(by rw[l];exact ((zE _ W4).drew.alloc (zA _) _).alloc (by simp) _);have J:ag u W4.heap.size [Vf F cp,Vf G tc] 132:=(by rw[l];exact (ag.new W4.drew [Vf F cp,Vf G tc] 132).alloc _);have K:ag u (W4.heap.size+1) [Vi (g:Int)] 3:=(by rw[l];have O:=ag.new (W4.drew.alloc (.cells #[Vf F cp,Vf G tc] 132)) [Vi (g:Int)] 3;simpa using O);have V:=aa J;have T:=aa K;clear J K;have b:=z.below j;obtain⟨q0,q1⟩:=iJ b;have q2:=b.frozen 0;have q3:=b.frozen 1;have Z:=aa b;have r:=aa j;have o:=d.below j;have W:=aa (iJ o);have Y:Hid (∀f t,(put2 u w.heap.size f t).cell? (aD c.heap.size 0)=some (Vf F cp)/\(put2 u w.heap.size f t).cell? (aD c.heap.size 1)=some (Vf G tc)):=(λf t=>iJ (o.put2 (by omega) f t));clear l j b o))
 go_wp2_with fail;have hz:=fC (f:=Vf F cp) (t:=Vf 163 #[ar W4.heap.size,ar (W4.heap.size+1)]) Z;have hr:¬AB lo B W1 w.heap.size:=λh=>by rcases h with h|h<;>omega
 have Q:ah (AB lo B W1) c (put2 u w.heap.size (Vf F cp) (Vf 163 #[ar W4.heap.size,ar (W4.heap.size+1)])):=((ah.below a).trans (ah.below r)).trans (ah.put2 hr _ _);refine zN (v:=.agg #[Vf F cp,Vf 163 #[ar W4.heap.size,ar (W4.heap.size+1)]]) (by simp[results,results81,go_sem,hz.1,hz.2]) rfl ?_;exact⟨_,_,_,_,rfl,EV.mono (A:=AB lo B W1) (λq _ U=>AB.up (by omega) q U) p _ (EV.keep Q p _ I),TV.mono (A:=AB lo B W1) (λq _ U=>AB.up (by omega) q U) (.group p) g _ ⟨_,_,_,_,rfl,.inr (by omega),.inr (by omega),V.put2 (by omega) _ _,T.put2 (by omega) _ _,⟨_,_,rfl⟩,EV.keep Q p _ I,TV.keep Q p (g+1) _ P⟩,((H.trans S).trans ((Off.below a).trans (Off.below r))).put2 (zA _) _ _,((X.below a).below r).put2 (by omega) _ _⟩
theorem Lm (ih:fH p):fH (.group p):=by
 intro s B U b k g L w K hN I N hk hg;obtain⟨hb,lv,x,j,S,J⟩:=hN;obtain⟨W,a2,rfl,a4,V,X⟩:=As (xs:=[x]) S (i:=0) (x:=x) (by omega) rfl;have Y:=I.lt;have a1:=j.lt;have c:Bw w (w.alloc (.cells #[.nilFunc,.nilFunc] 132)):=(zE _ _).alloc (zA _) _;have n:=aa c;have m:=aa (ag.new w NN 132);have y:(w.alloc (.cells #[.nilFunc,.nilFunc] 132)).heap.size=w.heap.size+1:=by simp
 have Q:=aa (Ll ih s B x K (PN.keep (ah.below c) p x J) (I.below c) N hk (by simp only[Pat.groups]at hg;omega));obtain⟨c0,c1,c2,c3,T,_⟩:=j.five;have HB:=aa K;have Z:b≠w.heap.size:=by omega
 have a3:W≠w.heap.size:=by omega
 go_enter func51,ntmps51;go_wp2_with fail;generalize hW:w.alloc (.cells #[.nilFunc,.nilFunc] 132)=W1 at n m y Q ⊢;refine Q.mono ?_;rintro e w3 ⟨F,P,G,R,rfl,o,l,d,r⟩;have u:=aa l;have a:=m.off d (by omega);have a0:=d.size;obtain⟨q0,q1⟩:=iJ a;have q2:=a.frozen 0;have q3:=a.frozen 1;have D:=aa a;have E:=aa o;have z:=aa d;have H:=aa r;go_wp2_with fail;have M:=fC (f:=Vf F P) (t:=Vf G R) D;have O:¬AB s B W1 w.heap.size:=λh=>by rcases h with h|h<;>omega
 refine zN (v:=.agg #[Vf F P,Vf G R]) (by simp[results,results51,go_sem,M.1,M.2]) rfl ?_;refine⟨_,_,_,_,rfl,EV.mono (A:=AB s B W1) (λq _ C=>AB.up (by omega) q C) p _ (EV.keep (ah.put2 O _ _) p _ E),TV.mono (A:=AB s B W1) (λq _ C=>AB.up (by omega) q C) (.group p) g _ (TV.keep (ah.put2 O _ _) (.group p) g _ u),((Off.below n).trans z).put2 (zA _) _ _,?_⟩;have e9:g+(Pat.group p).groups=g+1+p.groups:=by simp only[Pat.groups];omega
 rw[e9];exact H.put2 (by omega) _ _
theorem OI (m n:Int)(hok:p.Ok)(ih:fH p):fH (.many p m n):=by
 intro lo B S b k g L w hB hN hm hL hk hg;obtain⟨hb,lv,x,J,ho,hp⟩:=hN;obtain⟨h4,lc,rfl⟩:=ew ho.1;have h5:k+(aH p).length+1<=1000:=by simp[aH]at hk;omega
 have i0:=hm.lt;have g8:=J.lt;have l:Bw w (w.alloc (.cells #[.nilFunc,.nilFunc] 132)):=(zE _ _).alloc (zA _) _;have b7:=aa l;have d0:=aa (ag.new w NN 132);have e2:(w.alloc (.cells #[.nilFunc,.nilFunc] 132)).heap.size=w.heap.size+1:=by simp
 have HC:=aa (mX [p] (λq hq=>by rw[yQ.1 hq];exact ih) lo B L _ [x] hB (ho.below l) (⟨x,[],rfl,PN.keep (ah.below l) p x hp,rfl⟩) (hm.below l) (show kF L k (aB [p]) by simpa [aB]using hL.left) (by simp[aB];omega) (by simpa [groupsL,Pat.groups]using hg) (by simp));obtain⟨c0,c1,c2,c3,c4,_⟩:=J.five;have d3:=aa (J.below l);have HL:=aa hL;have HB:=aa hB;have HK:=aa hk;have h6:b≠w.heap.size:=by omega
 clear J hm hL l ih ho hp;go_enter func51,ntmps51;go_wp2_with fail;generalize hW:w.alloc (.cells #[.nilFunc,.nilFunc] 132)=W1 at b7 d0 e2 HC d3 ⊢;clear hW c0 c1 c2 c3 c4;refine HC.mono ?_;rintro e w2 ⟨g9,h3,ys,rfl,c6,g2,f7,E,a8⟩;have a4:=d0.off E (by omega);have X:=d3.off E (by omega);obtain⟨c0,c1,c2,c3,c4,_⟩:=X.five;obtain⟨f',t',r',rfl,⟨G,o,rfl⟩,Z,e3⟩:=g2;obtain rfl:r'=[]:=e3;obtain⟨f9,t9,r9,e9,_,_,c5,_⟩:=f7;cases e9;have d7:=aa c5;clear c5;obtain⟨F,s,rfl,eg⟩:=EV.form p f' hok Z;obtain⟨H,g7,d5,a6,b4,e0,e1⟩:=BU c6 (i:=0) (by simp) (f:=Vf F s) (t:=Vf G o) rfl;cases d5;simp only[Nat.zero_mul,zf]at e0 e1;have c7:=aa Z;have g4:=aa E;have f2:=aa a8;have e4:=aa a4;have Y:=E.size;have h0:=a4.lt;have U:=X.lt;have h7:H≠w.heap.size:=λe=>by rcases b4 with h|h<;>omega
 have b9:H≠S:=λe=>by rcases b4 with h|h<;>omega
 have h2:b≠w.heap.size:=by omega
 have P:b≠S:=by omega
 have j:Hid (∀c,Off S w2 c->c.cell? (aD b 3)=some (Vi m)/\c.cell? (aD b 4)=some (Vi n)/\c.cell? (aD H 0)=some (Vf F s)/\c.cell? (aD H 1)=some (Vf G o)):=λc h=>⟨(h.cell (p:=(aD b 3)) U P).trans c3,(h.cell (p:=(aD b 4)) U P).trans c4,(h.cell (p:=(aD H 0)) a6 b9).trans e0,(h.cell (p:=(aD H 1)) a6 b9).trans e1⟩;have c9:Hid (∀c f t,Off S w2 c->(put2 c w.heap.size f t).cell? (aD b 3)=some (Vi m)/\(put2 c w.heap.size f t).cell? (aD b 4)=some (Vi n)/\(put2 c w.heap.size f t).cell? (aD H 0)=some (Vf F s)/\(put2 c w.heap.size f t).cell? (aD H 1)=some (Vf G o)):=λc f t h=>by
  obtain⟨a0,a1,a2,a3⟩:=j.out c h;refine⟨?_,?_,?_,?_⟩
  ·rw[zw _ _ _ _ (by simp;omega),zw _ _ _ _ (by simp;omega)];exact a0
  ·rw[zw _ _ _ _ (by simp;omega),zw _ _ _ _ (by simp;omega)];exact a1
  ·rw[zw _ _ _ _ (by simp;omega),zw _ _ _ _ (by simp;omega)];exact a2
  ·rw[zw _ _ _ _ (by simp;omega),zw _ _ _ _ (by simp;omega)];exact a3
 clear c6 E a8 a4 X Z;go_wp2_with fail
 go_region_held3 (λc=>c.cell? (aD b 3)=some (Vi m)/\c.cell? (aD b 4)=some (Vi n)/\c.cell? (aD H 0)=some (Vf F s)/\c.cell? (aD H 1)=some (Vf G o))
  (first|exact⟨c3,c4,e0,e1⟩|exact e5|exact g3|exact f3|exact e7 _ _)
  (first
  |(go_at_call 91;refine (Yu _ _ _ _ _ _ _).mono ?_;rintro e d ⟨rfl,C⟩;have u:Bw w2 d:=(by rw[C];exact (((zE _ w2).drew.alloc (zA _) _).alloc (by simp) _).alloc (by simp;omega) _);have b3:ag d w2.heap.size [Vf F s,Vf G o] 132:=(by rw[C];exact ((ag.new w2.drew [Vf F s,Vf G o] 132).alloc _).alloc _);have b8:ag d (w2.heap.size+1) [Vi m] 3:=(by rw[C];have M:=(ag.new (w2.drew.alloc (.cells #[Vf F s,Vf G o] 132)) [Vi m] 3).alloc (.cells #[Vi n] 3);simpa using M);have a5:ag d (w2.heap.size+2) [Vi n] 3:=(by rw[C];have M:=ag.new ((w2.drew.alloc (.cells #[Vf F s,Vf G o] 132)).alloc (.cells #[Vi m] 3)) [Vi n] 3;simpa using M);have c8:=aa u;have g6:=aa b3;have e6:=aa b8;have f1:=aa a5;have d6:=aa (f2.below u);have g0:=aa (e4.below u);have b5:Hid (Off S w2 d):=Off.below u;have e5:=aa (j d b5);have h8:=u.size;clear C u b3 b8 a5)
  |(go_at_call 83;refine (xx (k+(aB [p]).length) (g+groupsL [p]:Nat) _ _ (by simp[aB];omega) d6).mono ?_;rintro e a ⟨rfl,z,a7,R,T⟩;have d1:=aa z;have g5:=aa a7;have f5:=aa R;have f6:=aa T;have d8:=aa (g0.off z (by omega));have O:=aa (b5.trans z);have g3:=aa (j a O);have h1:=z.size;clear z a7 R T)
  |(go_at_call 92;refine (Yv _ _ _ _ _ _ _).mono ?_;rintro e I ⟨rfl,D⟩;have K:Bw a I:=(by rw[D];exact (((zE _ a).alloc (zA _) _).alloc (by simp) _).alloc (by simp;omega) _);have a9:ag I a.heap.size [Vf F s,Vf G o] 132:=(by rw[D];exact ((ag.new a [Vf F s,Vf G o] 132).alloc _).alloc _);have b6:ag I (a.heap.size+1) [Vi m] 3:=(by rw[D];have M:=(ag.new (a.alloc (.cells #[Vf F s,Vf G o] 132)) [Vi m] 3).alloc (.cells #[Vi n] 3);simpa using M);have d2:ag I (a.heap.size+2) [Vi n] 3:=(by rw[D];have M:=ag.new ((a.alloc (.cells #[Vf F s,Vf G o] 132)).alloc (.cells #[Vi m] 3)) [Vi n] 3;simpa using M);have d9:=aa a9;have f4:=aa b6;have f8:=aa d2;clear a9 b6 d2;have y:=d8.below K;obtain⟨q0,q1⟩:=iJ y;have q2:=y.frozen 0;have q3:=y.frozen 1;have f0:=aa y;have W:=aa K;have N:=aa (O.trans (Off.below K));have f3:=aa (j I N);have e7:=aa (λf t=>c9 I f t N);clear D K y))
 all_goals go_wp2_with fail
 have hz:=fC (f:=Vf 122 #[ar (d.heap.size+1),ar d.heap.size]) (t:=Vf 135 #[ar a.heap.size,ar (a.heap.size+1),ar (a.heap.size+2)]) f0;have g1:L[k+(aB [p]).length]?=some (.many p m n):=by
  have M:kF L k (aH p++[.many p m n]):=HL.out;simpa [aB]using M.one
 obtain⟨d4,V⟩:=mf (W1:=W1) (w2:=w2) (r:=w.heap.size) (t:=Vf 135 #[ar a.heap.size,ar (a.heap.size+1),ar (a.heap.size+2)]) (Q:=λe=>∃b0 b1 b2,e=Vf 134 #[ar b0,ar b1,ar b2]/\AB lo B W1 b0/\AB lo B W1 b1/\AB lo B W1 b2/\ag (put2 I w.heap.size (Vf 122 #[ar (d.heap.size+1),ar d.heap.size]) (Vf 135 #[ar a.heap.size,ar (a.heap.size+1),ar (a.heap.size+2)])) b0 [Vi m] 3/\ag (put2 I w.heap.size (Vf 122 #[ar (d.heap.size+1),ar d.heap.size]) (Vf 135 #[ar a.heap.size,ar (a.heap.size+1),ar (a.heap.size+2)])) b1 [Vf F s,Vf G o] 132/\ag (put2 I w.heap.size (Vf 122 #[ar (d.heap.size+1),ar d.heap.size]) (Vf 135 #[ar a.heap.size,ar (a.heap.size+1),ar (a.heap.size+2)])) b2 [Vi n] 3) HB.out (by omega) (by omega) (by omega) c8.out Y d1.out f5.out f6.out W.out g1 (by simp[aB];omega) rfl
  (λ_ k3=>⟨w2.heap.size+1,w2.heap.size,w2.heap.size+2,rfl,.inr (by omega),.inr Y,.inr (by omega),e6.keep k3 (.inr (by omega)),g6.keep k3 (.inr Y),f1.keep k3 (.inr (by omega))⟩)
 refine zN (v:=.agg #[Vf 122 #[ar (d.heap.size+1),ar d.heap.size],Vf 135 #[ar a.heap.size,ar (a.heap.size+1),ar (a.heap.size+2)]]) (by simp[results,results51,go_sem,hz.1,hz.2]) rfl ?_;refine⟨_,_,_,_,rfl,EV.mono (A:=AB lo B W1) (λq _ ha=>AB.up (by omega) q ha) (.many p m n) _ ⟨_,_,EV.keep V p _ c7,d4⟩,TV.mono (A:=AB lo B W1) (λq _ ha=>AB.up (by omega) q ha) (.many p m n) g _ ⟨_,_,_,_,_,rfl,.inr (by omega),.inr (by omega),.inr (by omega),d9.put2 (by omega) _ _,f4.put2 (by omega) _ _,f8.put2 (by omega) _ _,⟨_,_,rfl⟩,EV.keep V p _ c7,TV.keep V p g _ d7⟩,(((Off.below b7).trans g4).trans (((Off.below c8).trans d1).trans (Off.below W))).put2 (zA _) _ _,?_⟩;have:=(g5.below W).put2 (show S≠w.heap.size by omega) (Vf 122 #[ar (d.heap.size+1),ar d.heap.size]) (Vf 135 #[ar a.heap.size,ar (a.heap.size+1),ar (a.heap.size+2)]);have e8:k+(aH (.many p m n)).length=k+(aB [p]).length+1:=by simp[aH,aB];omega
 have e9:g+(Pat.many p m n).groups=g+groupsL [p]:=by simp[groupsL,Pat.groups]
 rw[e8,e9];exact this
theorem NJ {e:Ending}(h:Ar p lo B bm k g L w e w'):Ar (.or [p]) lo B bm k g L w e w':=by
 obtain⟨F,f,G,a,rfl,b,i,c,d⟩:=h;exact⟨F,f,G,a,rfl,⟨by simp,_,⟨_,_,[],rfl,⟨G,a,rfl⟩,b,rfl⟩,.inl ⟨rfl,_,rfl⟩⟩,⟨_,⟨_,_,[],rfl,⟨G,a,rfl⟩,b,i,rfl⟩,.inl ⟨rfl,_,rfl⟩⟩,c,by simpa [aH,aB,Pat.groups,groupsL]using d⟩
theorem KN {e:Ending}(h:Ar p lo B bm k g L w e w'):Ar (.and [p]) lo B bm k g L w e w':=by
 obtain⟨F,f,G,a,rfl,b,i,c,d⟩:=h;exact⟨F,f,G,a,rfl,⟨by simp,_,⟨_,_,[],rfl,⟨G,a,rfl⟩,b,rfl⟩,.inl ⟨rfl,_,rfl⟩⟩,⟨_,⟨_,_,[],rfl,⟨G,a,rfl⟩,b,i,rfl⟩,.inl ⟨rfl,_,rfl⟩⟩,c,by simpa [aH,aB,Pat.groups,groupsL]using d⟩
mutual
theorem nl:∀(p:Pat),p.Ok->fH p
 |.set s,_=>RC s
 |.row l,h=>by
  have u:=oA l h;intro C B A b k g L w v H t c D z;obtain⟨O,a,P,I,d,Q,q⟩:=H;have j:(aH (.row l)).length=(aB l).length+1:=by simp[aH]
  refine (RV l u C B v O P I d Q q a t c (by omega) z).mono ?_;rintro e V ⟨F,R,G,N,rfl,⟨o,J,S,i,f⟩,E,K⟩;exact⟨F,R,G,N,rfl,⟨a,o,J,S⟩,⟨o,i,f⟩,E,by rw[j];exact K⟩
 |.or l,h=>by
  have u:=oA l h.1;intro C B A b k g L w v H t c D z;obtain⟨a,I,q,⟨U,rfl⟩|⟨y,O,P,d,Q⟩⟩:=H
  ·obtain⟨p,rfl⟩:=zy.1 U;obtain⟨x,r,e,T,_⟩:=q;cases e;have j:aH (.or [p])=aH p:=by simp[aH,aB]
   rw[j]at c D;exact (u p (by simp) C B A b k g L w v T t c D (by simpa [Pat.groups,groupsL]using z)).mono (λ_ _ h=>NJ h)
  ·have M:aH (.or l)=aB l++[.or l]:=by simp only[aH,zR y]
   have j:(aH (.or l)).length=(aB l).length+1:=by rw[M];simp
   refine (VD l u C B L v O P I d Q q a t (by rw[M]at c;exact c) (by omega) z).mono ?_;rintro e V ⟨F,R,G,N,rfl,⟨o,J,S,i,f⟩,E,K⟩;exact⟨F,R,G,N,rfl,⟨a,o,J,.inr ⟨y,S⟩⟩,⟨o,i,.inr ⟨y,f⟩⟩,E,by rw[j];exact K⟩
 |.and l,h=>by
  have u:=oA l h.1;intro C B A b k g L w v H t c D z;obtain⟨a,I,q,⟨U,rfl⟩|⟨y,O,P,d,Q⟩⟩:=H
  ·obtain⟨p,rfl⟩:=zy.1 U;obtain⟨x,r,e,T,_⟩:=q;cases e;have j:aH (.and [p])=aH p:=by simp[aH,aB]
   rw[j]at c D;exact (u p (by simp) C B A b k g L w v T t c D (by simpa [Pat.groups,groupsL]using z)).mono (λ_ _ h=>KN h)
  ·have M:aH (.and l)=aB l++[.and l]:=by simp only[aH,zR y]
   have j:(aH (.and l)).length=(aB l).length+1:=by rw[M];simp
   refine (RW l u C B L v O P I d Q q a t (by rw[M]at c;exact c) (by omega) z).mono ?_;rintro e V ⟨F,R,G,N,rfl,⟨o,J,S,i,f⟩,E,K⟩;exact⟨F,R,G,N,rfl,⟨a,o,J,.inr ⟨y,S⟩⟩,⟨o,i,.inr ⟨y,f⟩⟩,E,by rw[j];exact K⟩
 |.not p,h=>RD h (nl p h)
 |.many p m n,h=>OI m n h.1 (nl p h.1)
 |.group p,h=>Lm (nl p h)
theorem oA:∀(l:List Pat),jr l->∀p∈l,fH p
 | [],_=>λp h=>by cases h
 |q::l,hk=>by
  have b:=nl q hk.1;have a:=oA l hk.2;intro p h;rcases zO.1 h with rfl|h
  ·exact b
  ·exact a p h
end
theorem NK {bs:List UInt8}{er place:Int}(h:jW bs (er,place,some p)):(aH p).length<=1000/\p.groups<=1000:=by
 rcases h with⟨_,h⟩|⟨_,_,_,h⟩|⟨e,l,g,h⟩
 ·cases h
 ·cases h
 ·have c:=eB g;unfold dz at h;have b:=JF false (l.length+1) l;have a:=Km false (l.length+1) l
  split at h
  ·cases h
  ·cases h
  ·rename_i q heq
   rw[heq]at b a
   split at h
   ·cases h
   ·cases h;have d:(aH p).length+3*0<=1+3*l.length:=b;have f:p.groups+3*0<=1+3*l.length:=a;omega
theorem Ra (p:Pat)(hok:p.Ok)(lo b:Nat)(w:World)(hlo:lo<=w.heap.size)(hN:PN w (λx=>lo<=x) p b)(hc:(aH p).length<=1000)(hg:p.groups<=1000):Calls prog 23 #[Vp b] w λe w'=>∃bp,e=.returned (ar bp)/\PT w' (λx=>lo<=x) p bp/\Bw w w'/\w.heap.size<=bp/\PK w' (λx=>lo<=x) p bp:=by
 have n:Bw w (w.alloc (.cells #[Vi 0,Vi 0] 126)):=(zE _ _).alloc (zA _) _;have v:mF (w.alloc (.cells #[Vi 0,Vi 0] 126)) w.heap.size 0 0:=ag.new w [Vi 0,Vi 0] 126;have H:=aa (nl p hok lo w.heap.size w.heap.size b 0 0 (aH p) (w.alloc (.cells #[Vi 0,Vi 0] 126)) (zA _) (PN.keep (ah.below n) p b (PN.mono (λq M h=>⟨h,M⟩) p b hN)) v (λi q N=>by simpa using N) (by omega) (by omega));have o:=aa n;have s:=aa hc;have C:=aa hg;go_enter func23,ntmps23;go_wp2_with fail;generalize hW:w.alloc (.cells #[Vi 0,Vi 0] 126)=W1 at H o ⊢;refine H.mono ?_;rintro e f ⟨F,c,G,a,rfl,u,r,l,k⟩;have E:=aa r;simp only[zf]at k;obtain⟨J,I⟩:=iJ k;have t:=k.lt;have S:w.heap.size≠f.heap.size:=by omega
 have B:=aa u;have A:=aa l;have L:=l.size;have z:=o.size;have P:(f.alloc (.cells #[Vf F c,Vf G a] 132)).cell? (aD f.heap.size 0)=some (Vf F c):=(iJ (ag.new f [Vf F c,Vf G a] 132)).1;have O:(f.alloc (.cells #[Vf F c,Vf G a] 132)).cell? (aD f.heap.size 1)=some (Vf G a):=(iJ (ag.new f [Vf F c,Vf G a] 132)).2;have g:Bw f (f.alloc (.cells #[Vf F c,Vf G a] 132)):=(zE _ _).alloc (zA _) _;have R:=(g.cell (p:=(aD w.heap.size 0)) t).trans J;have Q:=(g.cell (p:=(aD w.heap.size 1)) t).trans I;have d:=aa g;go_wp2_with fail;generalize hW:f.alloc (.cells #[Vf F c,Vf G a] 132)=W4 at P O R Q d ⊢;have K:=d.size
 try go_region
 try go_wp2_with fail
 go_ret;have m:Bw W4 (W4.drew.alloc (.cells #[Vf F c,Vf G a,Vi (aH p).length,Vi p.groups] 135)):=(zE _ W4).drew.alloc (zA _) _;have y:EV (W4.drew.alloc (.cells #[Vf F c,Vf G a,Vi (aH p).length,Vi p.groups] 135)) (λx=>lo<=x) (aH p) p (Vf F c):=EV.mono (λq _ j=>by rcases j with j|j;exact j.1;show lo<=q;omega) p _ (EV.keep ((ah.below d).trans (ah.below m)) p _ B);have D:TV (W4.drew.alloc (.cells #[Vf F c,Vf G a,Vi (aH p).length,Vi p.groups] 135)) (λx=>lo<=x) (aH p) p 0 (Vf G a):=TV.mono (λq _ j=>by rcases j with j|j;exact j.1;show lo<=q;omega) p _ _ (TV.keep ((ah.below d).trans (ah.below m)) p _ _ E);exact⟨W4.heap.size,rfl,⟨by show lo<=_;omega,_,_,_,ag.new W4.drew [Vf F c,Vf G a,Vi (aH p).length,Vi p.groups] 135,y,s⟩,(o.trans (A.toBelow (zA _) z)).trans ((d.mono (by omega)).trans (m.mono (by omega))),by omega,⟨by show lo<=_;omega,_,_,ag.new W4.drew [Vf F c,Vf G a,Vi (aH p).length,Vi p.groups] 135,⟨_,_,rfl⟩,y,D,s,C⟩⟩
def rH (w:World):Prop:=jz w/\TabAt 2 Lib.deBruijn64tab w
theorem rH.below {w w':World}(h:rH w)(k:Bw w w'):rH w':=⟨h.1.below k,λj a=>(k.cell (nh (h.2 j a))).trans (h.2 j a)⟩
theorem PT.below {w w':World}{A:NP}{p:Pat}{bp:Nat}(h:PT w A p bp)(k:Bw w w'):PT w' A p bp:=by
 obtain⟨d,f,t,g,a,c,b⟩:=h;exact⟨d,f,t,g,a.below k,EV.keep (ah.below k) p f c,b⟩
def RX (w:World)(A:Nat->Prop)(p:Pat)(bx:Nat):Prop:=A bx/\∃v0 v1 v2 v3 v4 bp x,ag w bx [v0,v1,v2,v3,v4,ar bp] 54/\(A x/\ag w x [v0,v1,v2,v3,v4] 51)/\PN w A p x/\PT w A p bp/\PK w A p bp
theorem RX.keep {w w':World}{A:NP}{p:Pat}{bx:Nat}(h:RX w A p bx)(k:ah A w w'):RX w' A p bx:=by
 obtain⟨c,d,e,i,l,n,u,x,o,a,r,q,s⟩:=h;obtain⟨b,f,t,g,v,m,j⟩:=q;exact⟨c,d,e,i,l,n,u,x,o.keep k c,⟨a.1,a.2.keep k a.1⟩,PN.keep k p x r,⟨b,f,t,g,v.keep k b,EV.keep k p f m,j⟩,s.keep k⟩
theorem RX.below {w w':World}{A:NP}{p:Pat}{bx:Nat}(h:RX w A p bx)(k:Bw w w'):RX w' A p bx:=h.keep (ah.below k)
theorem PN.five {w:World}{A:NP}:∀(p:Pat) (b:Nat),PN w A p b->p.Ok->∃v0 v1 v2 v3 v4,ag w b [v0,v1,v2,v3,v4] 51
 |.set s,b,h,_=>by obtain⟨g,t,a,u⟩:=h;exact⟨_,_,_,_,_,a⟩
 |.row l,b,h,_=>by obtain⟨g,_,i,k,a,j,d⟩:=h;exact⟨_,_,_,_,_,a⟩
 |.or [],b,h,hk=>absurd rfl hk.2
 |.or [p],b,h,hk=>by
  obtain⟨_,k,d,f⟩:=h;rcases f with⟨_,rfl⟩|⟨c,_⟩
  ·obtain⟨x,r,e,o,_⟩:=d;cases e;exact PN.five p b o hk.1.1
  ·exact absurd rfl c
 |.or (p::q::l),b,h,hk=>by
  obtain⟨_,k,d,f⟩:=h;rcases f with⟨c,_⟩|⟨c,g,i,a,j⟩
  ·simp at c
  ·exact⟨_,_,_,_,_,a⟩
 |.and [],b,h,hk=>absurd rfl hk.2
 |.and [p],b,h,hk=>by
  obtain⟨_,k,d,f⟩:=h;rcases f with⟨_,rfl⟩|⟨c,_⟩
  ·obtain⟨x,r,e,o,_⟩:=d;cases e;exact PN.five p b o hk.1.1
  ·exact absurd rfl c
 |.and (p::q::l),b,h,hk=>by
  obtain⟨_,k,d,f⟩:=h;rcases f with⟨c,_⟩|⟨c,g,i,a,j⟩
  ·simp at c
  ·exact⟨_,_,_,_,_,a⟩
 |.not p,b,h,_=>by obtain⟨g,i,x,a,j,d⟩:=h;exact⟨_,_,_,_,_,a⟩
 |.many p m n,b,h,_=>by obtain⟨g,i,x,a,j,d⟩:=h;exact⟨_,_,_,_,_,a⟩
 |.group p,b,h,_=>by obtain⟨g,i,x,a,j,d⟩:=h;exact⟨_,_,_,_,_,a⟩
theorem IP (s:ByteArray)(hT:rH w)(hm:s.size<=9223372036854775807):Calls prog 24 #[.string s] w λe w'=>Bw w w'/\∃er ol,e=.returned (Vi er)/\lT (af s) er ol:=by
 have n:=aa (aL s);by_cases h:s.size<=40
 ·have p:decide ((40:Int)<(s.size:Int))=false:=zI (by omega);have c:Hid ((af s).length<=40):=by show _<=_;rw[n.out];exact h
  have m:=aa (Nr s w hm (hT.1.2 w (λ_ _=>rfl)));have i:Hid ((Lib.validD s.data.toList=true/\∃l,Runes (af s) l)\/(Lib.validD s.data.toList=false/\∃k,Broken (af s) k)):=by
   rcases Eo (af s).length (af s) (zA _)with⟨l,g⟩|⟨k,f⟩
   ·exact .inl ⟨IK g _ (zA _),l,g⟩
   ·exact .inr ⟨Gy f _ (zA _),k,f⟩
  generalize Lib.validD s.data.toList=b at m i;rcases i.out with⟨rfl,l,g⟩|⟨rfl,k,f⟩
  ·have j:=aa g;go_enter func24,ntmps24;go_wp2_with (go_at_call 52;refine m.mono ?_;rintro e o ⟨rfl,a⟩;have d:=aa a);go_ret;exact⟨d,0,some l,rfl,.inr (.inr ⟨c,l,j,rfl,rfl⟩)⟩
  ·have j:=aa f;go_enter func24,ntmps24;go_wp2_with (go_at_call 52;refine m.mono ?_;rintro e o ⟨rfl,a⟩;have d:=aa a);go_ret;exact⟨d,3,none,rfl,.inr (.inl ⟨c,⟨k,j⟩,rfl,rfl⟩)⟩
 ·have p:decide ((40:Int)<(s.size:Int))=true:=zv (by omega);have c:Hid (40<(af s).length):=by show _<_;rw[n.out];omega
  go_enter func24,ntmps24;go_wp2;go_ret;exact⟨zE _ _,2,none,rfl,.inl ⟨c,rfl,rfl⟩⟩
theorem Ug (s:ByteArray)(w:World){l:LZ}(h:Runes (af s) l)(hl:l.length<=40):∃rc W2,(convert 9 71 (.string s)).run prog w=.ok (Vs w.heap.size l.length rc) W2/\ud W2 (λ_=>False) (some (aD w.heap.size 0)) l/\Bw w W2:=by
 have e:=MP s h;have b:=run_runes_of_string (P:=prog) w 9 71 21 s underlying9 underlying71 underlying21 (by rw[e];simp;omega);rw[e]at b;have a:((l.map (Value.int .i32)).toArray).size=l.length:=by simp
 rw[a]at b;refine⟨_,_,b,λi x c=>⟨w.heap.size,0,rfl,λh=>h,by simp,?_⟩,(zE _ w).drew.alloc (zA _) _⟩;have d:i<l.length:=(zC.1 c).1;have f:ag (w.drew.alloc (.cells ((l.map (Value.int .i32)).toArray++Array.replicate (grownCap w l.length 0 21-l.length) (.int .i32 0)) 21)) w.heap.size (l.map (Value.int .i32)++List.replicate (grownCap w l.length 0 21-l.length) (.int .i32 0)) 21:=by
  have:=ag.new w.drew (l.map (Value.int .i32)++List.replicate (grownCap w l.length 0 21-l.length) (.int .i32 0)) 21;rw[<-List.append_toArray,List.toArray_replicate]at this;exact this
 rw[f.cell,zf,yY (by simpa using d),zg,c];rfl
theorem CW (s:ByteArray)(hT:rH w)(hm:s.size<=9223372036854775807):Calls prog 11 #[.string s] w λe w'=>Bw w w'/\∃nv er place op,jW (af s) (er,place,op)/\e=.returned (.tuple #[nv,Vi er,Vi place])/\match op with|some p=>∃bx,nv=ar bx/\RX w' (dp w) p bx|none=>nv=.pointer none:=by
 have V:=aa (NC s hT.1 hm);go_enter func11,ntmps11;go_wp2_with fail;refine V.mono ?_;rintro e b ⟨B,nv,er,place,op,q,rfl,m⟩;have d:=aa B;have y:=aa q;cases op with
 |none=>
  have W:(er==0)=false:=zD.2 (qM q);have t:nv=.pointer none:=m;subst t;go_wp2;refine zN (v:=.tuple #[.pointer none,Vi er,Vi place]) (by simp[results,results11,go_sem]) rfl ?_;exact⟨d,_,_,_,none,y,rfl,rfl⟩
 |some p=>
  obtain⟨rfl,rfl,f,A⟩:=qL q;obtain⟨R,S⟩:=NK q;obtain⟨x,rfl,r⟩:=m;obtain⟨g,h,i,j,k,D⟩:∃g h i j k,ag b x [g,h,i,j,k] 51:=PN.five p x r f;obtain⟨T,Y,c2,Z,U,a5⟩:=D.five;have H:=aa D;have N:=aa (PN.lt p x r f).1;have HC:=aa (λ(w':World) (hb:Bw b w')=>Ra p f w.heap.size x w' (zJ d.size hb.size) (PN.keep (ah.below hb) p x r) R S);have X:=aa r;go_wp2_with fail
  go_region_held3 (λw'=>Bw b w'/\w'.cell? (aD x 0)=some g/\w'.cell? (aD x 1)=some h/\w'.cell? (aD x 2)=some i/\w'.cell? (aD x 3)=some j/\w'.cell? (aD x 4)=some k)
   (first|exact⟨(zE _ _).drew,T,Y,c2,Z,U⟩|exact I|exact M _)
   ((go_at_call 23;refine (HC _ (‹Bw b _/\_›.1)).mono ?_;rintro e a ⟨L,rfl,z,C,Q,u⟩;have J:=aa u;have c:Bw b a:=(‹Bw b _/\_›.1).trans (C.mono (‹Bw b _/\_›.1).size);have M:Hid (∀o,Bw b (a.alloc o)/\(a.alloc o).cell? (aD x 0)=some g/\(a.alloc o).cell? (aD x 1)=some h/\(a.alloc o).cell? (aD x 2)=some i/\(a.alloc o).cell? (aD x 3)=some j/\(a.alloc o).cell? (aD x 4)=some k):=(λo=>by have n:=c.alloc c.size o;obtain⟨F,E,G,P,K,_⟩:=(H.out.below n).five;exact⟨n,F,E,G,P,K⟩);have I:Hid (Bw b a/\a.cell? (aD x 0)=some g/\a.cell? (aD x 1)=some h/\a.cell? (aD x 2)=some i/\a.cell? (aD x 3)=some j/\a.cell? (aD x 4)=some k):=(by obtain⟨F,E,G,P,K,_⟩:=(H.out.below c).five;exact⟨c,F,E,G,P,K⟩);have O:=aa z;have l:=aa c))
  all_goals go_wp2_with fail
  have n:=l.alloc l.size (.cells #[g,h,i,j,k,ar L] 54);refine zN (v:=.tuple #[ar a.heap.size,Vi 0,Vi 0]) (by simp[results,results11,go_sem]) rfl ?_;exact⟨d.trans (n.mono d.size),_,0,0,some p,y,rfl,a.heap.size,rfl,zJ d.size l.size,g,h,i,j,k,L,x,ag.new a [g,h,i,j,k,ar L] 54,⟨N,H.below n⟩,PN.keep (ah.below n) p x X,O.below ((zE _ a).alloc (zA _) _),J.keep (ah.below ((zE _ a).alloc (zA _) _))⟩
theorem vG (hok:p.Ok)(s:ByteArray)(hX:RX w A p bx)(hT:rH w)(hm:s.size<=9223372036854775807):Calls prog 12 #[Vp bx,.string s] w λe w'=>Bw w w'/\∃er ol,e=.returned (.tuple #[.bool (Aw p ol),Vi er])/\lT (af s) er ol:=by
 have H:=aa (IP s hT hm);have E:=aa hX;have F:=aa hT;go_enter func12,ntmps12;go_wp2_with fail;refine H.mono ?_;rintro e t ⟨b,er,ol,rfl,a⟩;have f:=aa b;have j:=aa a;cases ol with
 |none=>
  have C:(er==0)=false:=zD.2 (Mv a);go_wp2;refine zN (v:=.tuple #[.bool false,Vi er]) (by simp[results,results12,go_sem]) rfl ?_;exact⟨f,er,none,rfl,j⟩
 |some l=>
  have J:=Mw a;subst J;obtain⟨n,d⟩:l.length<=40/\Runes (af s) l:=by
   rcases a with⟨_,_,h⟩|⟨_,_,_,h⟩|⟨D,R,z,_,h⟩
   ·cases h
   ·cases h
   ·cases h;exact⟨zJ (eB z) D,z⟩
  obtain⟨I,G,r,i,c⟩:=Ug s t d n;obtain⟨_,K,L,M,O,Q,B,x,u,_,_,m,_⟩:=E.out.below b;have N:t.cell? (aD bx 5)=some (Vp B):=by rw[u.cell];rfl
  have y:=aa (Pr hok I (m.below c) n (db d) ((F.below b).below c).2 i);have g:=aa c;have o:Hid (mT p l 0 l.length=Aw p (some l)):=rfl;generalize mT p l 0 l.length=MB at y o;go_wp2_with (go_at_call 25;refine y.mono ?_;rintro e P ⟨rfl,k⟩;have q:=aa k);refine zN (v:=.tuple #[.bool MB,Vi 0]) (by simp[results,results12,go_sem]) rfl ?_;exact⟨f.trans ((g.trans (q.mono g.size)).mono f.size),0,some l,by rw[o.out],j⟩
def uK:List UInt8:=[126,40,46,42,97,97,46,42,41,38,97,46,42,98]
def lB:Pat:=match aU false 15 (uK.map λx=>(x.toNat:Int))with|.ok p _=>p|.bad _=>.row []
def Ts:Pat:=.many (.set tm) 0 (-1)
def Kd (c:Int):Pat:=.set [(c,c)]
theorem vw:lB=.or [.and [.row [.not (.group (.or [.and [.row [Ts,Kd 97,Kd 97,Ts]]]))],.row [Kd 97,Ts,Kd 98]]]:=by rfl
theorem Ay:jW uK (0,0,some lB):=.inr (.inr ⟨by decide,_,lN uK (by decide),by kernel_rfl⟩)
theorem uL (c:Int):(Kd c).Mt [c]:=⟨c,rfl,by simp[memB,inB]⟩
theorem PP {c:Int}{t:LZ}(h:(Kd c).Mt t):t=[c]:=by
 obtain⟨d,rfl,a⟩:=h;simp[memB,inB]at a;rw[show d=c by omega]
theorem PQ:lB.Mt [97,98,97,98]:=by
 rw[vw];refine .inl ⟨⟨[97,98,97,98],[],by simp,?_,rfl⟩,⟨[97],[98,97,98],rfl,uL 97,[98,97],[98],rfl,?_,[98],[],rfl,uL 98,rfl⟩,trivial⟩
 ·rintro (⟨⟨a,b,e,_,c,d,j,m,f,g,i,l,_⟩,_⟩|h)
  ·rw[PP m]at j;rw[PP l]at i;rw[j,i]at e;have k:=congrArg List.length e;rcases a with _|⟨x,_|⟨y,_|⟨z,a⟩⟩⟩
   ·simp at e
   ·simp at e
   ·simp at e
   ·simp at k;omega
  ·exact h
 ·exact⟨2,by decide,.inl (by decide),[98],[97],rfl,⟨98,rfl,by decide⟩,[97],[],rfl,⟨97,rfl,by decide⟩,rfl⟩
theorem Tt:¬lB.Mt [97,97,98]:=by
 rw[vw];rintro (⟨⟨a,b,e,d,c⟩,_⟩|h)
 ·rw[show b=[]from c,zx]at e;apply d;rw[<-e];exact .inl ⟨⟨[],[97,97,98],rfl,⟨0,by decide,.inl (by decide),rfl⟩,[97],[97,98],rfl,uL 97,[97],[98],rfl,uL 97,[98],[],rfl,⟨1,by decide,.inl (by decide),[98],[],rfl,⟨98,rfl,by decide⟩,rfl⟩,rfl⟩,trivial⟩
 ·exact h
theorem My:Aw lB (some [97,98,97,98])=true:=kD.2 ⟨zW _,by rw[JL];exact PQ⟩
theorem PR:Aw lB (some [97,97,98])=false:=by
 apply Bool.eq_false_iff.2;intro h;have:=(kD.1 h).2;rw[JL]at this;exact Tt this
theorem PS:lT [97,98,97,98] 0 (some [97,98,97,98]):=.inr (.inr ⟨by decide,_,lN [97,98,97,98] (by decide),rfl,rfl⟩)
theorem Tu:lT [97,97,98] 0 (some [97,97,98]):=.inr (.inr ⟨by decide,_,lN [97,97,98] (by decide),rfl,rfl⟩)
theorem Mz (hT:rH w):Calls prog 5 #[] w λe w'=>e=.returned (.bool true)/\Bw w w':=by
 have D:=aa (CW ⟨#[126,40,46,42,97,97,46,42,41,38,97,46,42,98]⟩ hT (by decide));have x:=aa hT;go_enter func5,ntmps5;go_wp2_with fail;refine D.mono ?_;rintro e m ⟨a,G,C,d,B,y,rfl,o⟩;have A:=tY Ay (show jW uK (C,d,B)from y);simp only[Prod.mk.injEq]at A;obtain⟨rfl,rfl,rfl⟩:=A;obtain⟨z,rfl,p⟩:=o;have b:=(qL Ay).2.2.1;have k:=aa (λ(w':World) (hb:Bw m w')=>vG b ⟨#[97,98,97,98]⟩ (p.below hb) ((x.below a).below hb) (by decide));have i:=aa (λ(w':World) (hb:Bw m w')=>vG b ⟨#[97,97,98]⟩ (p.below hb) ((x.below a).below hb) (by decide));have j:=aa a;go_wp2_with fail;refine (k _ (zE _ _)).mono ?_;rintro e E ⟨h,q,n,rfl,l⟩;have s:=tF PS (show lT [97,98,97,98] q n from l);obtain⟨rfl,rfl⟩:=s;rw[My];have c:=aa h;go_wp2_with fail;refine (i _ c).mono ?_;rintro e F ⟨g,v,r,rfl,f⟩;have t:=tF Tu (show lT [97,97,98] v r from f);obtain⟨rfl,rfl⟩:=t;rw[PR];have u:=aa g;go_wp2_with fail;go_ret;exact⟨rfl,j.trans ((c.trans (u.mono c.size)).mono j.size)⟩
abbrev Z6:List Value:=Zq
def ZI (w:World)(e:Ending)(w':World):Prop:=Below w.heap.size w w'/\∃(nv:Value) (k:Int) (so:Option Addr) (sn sc:Nat) (lo:Option Addr) (ln lc:Nat) (mm nn rr gr:Int) (op:Option Pat),e=.returned (.tuple #[nv,.agg #[Vi k,.slice so sn sc,.slice lo ln lc,Vi mm,Vi nn,Vi rr],Vi gr,.bool true]) /\
 match op with|some p=>p.Ok/\p.wr.length<=4000/\(∃bx A,nv=ar bx/\RX w' A p bx)/\NV w' (λ_=>True) p (bT k so sn sc lo ln lc mm nn rr) 0/\gr=(p.groups:Int)|none=>nv=.pointer none
theorem xv {c0 c1 c2 c3 c4 c5:Value}(h:ag w r Z6 27):ag (put6 w r c0 c1 c2 c3 c4 c5) r [c0,c1,c2,c3,c4,c5] 27:=(((((h.set 0 c0).set 1 c1).set 2 c2).set 3 c3).set 4 c4).set 5 c5
theorem xw {a:World}(h:Below B a w)(hr:B<=r)(c0 c1 c2 c3 c4 c5:Value):Below B a (put6 w r c0 c1 c2 c3 c4 c5):=(((((h.setCell hr _).setCell hr _).setCell hr _).setCell hr _).setCell hr _).setCell hr _
