import Derived.Test.YtebnghmioamheaaGreatDoorM24
import Derived.Test.YtebnghmioamheaaGreatDoorM26
set_option maxHeartbeats 4000000
set_option maxRecDepth 100000
set_option linter.all false
namespace Go.Proofs.YtebnghmioamheaaGreatDoor
open Go.Shelf Go.RowKit Go.Lib Brm Tryz
variable {w w':World}{r lo B bm b k g bx:Nat}{L:List Pat}{p:Pat}{A:NP}
abbrev NN:List Value:=[.nilFunc,.nilFunc]
abbrev put2 (w:World)(r:Nat)(f t:Value):World:=(w.setCell (aD r 0) f).setCell (aD r 1) t
theorem Off.put2 {b r:Nat}{a w:World}(h:Off b a w)(hr:a.heap.size<=r)(f t:Value):Off b a (put2 w r f t):=(h.setNew hr _).setNew hr _
theorem ah.put2 {A:NP}{w:World}{r:Nat}(hr:¬A r)(f t:Value):ah A w (put2 w r f t):=(ah.set _ hr).trans (ah.set _ hr)
theorem ag.put2 {w:World}{b r:Nat}{cs:LV}{T:TypeId}(h:ag w b cs T)(hr:b≠r)(f t:Value):ag (put2 w r f t) b cs T:=(h.setOther hr _).setOther hr _
theorem fC {f t:Value}(h:ag w r NN 132):(put2 w r f t).cell? (aD r 0)=some f/\(put2 w r f t).cell? (aD r 1)=some t:=iJ ((h.set 0 f).set 1 t)
theorem mf {W1 w2 w3 w4 w5:World}{num:Nat}{e f t:Value}{Q:Value->Prop}(hB:B<=bm)(hbm:bm<W1.heap.size)(hr1:B<=r)(hr2:r<W1.heap.size)(h23:Bw w2 w3)(hs:W1.heap.size<=w2.heap.size)(hO:Off bm w3 w4)
  (hbe:ag w4 w3.heap.size [e] 128) (hbn:ag w4 (w3.heap.size+1) [Vi num] 3) (h45:Bw w4 w5) (hL:L[num]?=some p) (hn:num<1000000) (hf:f=Vf 122 #[ar (w3.heap.size+1),ar w3.heap.size])
  (hQ:ah (AB lo B W1) w2 (put2 w5 r f t)->ah (AB lo B W1) w3 (put2 w5 r f t)->Q e):kU (put2 w5 r f t) (AB lo B W1) L p f Q/\ah (AB lo B W1) w2 (put2 w5 r f t):=by
 have j:¬AB lo B W1 r:=λh=>by rcases h with h|h<;>omega
 have i:¬AB lo B W1 bm:=λh=>by rcases h with h|h<;>omega
 have a:ah (AB lo B W1) w4 (put2 w5 r f t):=(ah.below h45).trans (ah.put2 j f t);have g:ah (AB lo B W1) w3 (put2 w5 r f t):=(ah.off hO i).trans a;have d:ah (AB lo B W1) w2 (put2 w5 r f t):=(ah.below h23).trans g;have k:=h23.size;have b:AB lo B W1 (w3.heap.size+1):=.inr (by omega);have c:AB lo B W1 w3.heap.size:=.inr (by omega);exact⟨⟨_,_,e,num,hf,b,c,hbn.keep a b,hbe.keep a c,hL,hn,hQ d g⟩,d⟩
theorem AB.up {W1:World}(h:w.heap.size<=W1.heap.size)(g:Nat)(ha:AB lo B W1 g):AB lo B w g:=by rcases ha with ha|ha;exact .inl ha;exact .inr (zJ h ha)
theorem RV (l:List Pat)(ih:∀p∈l,fH p)(lo B:Nat)(hB:B<=bm)(hb:lo<=b/\b<B)(lv:Value)(xs:List Nat)(hnb:ag w b [Vi 1,Vz,lv,Vi 0,Vi 0] 51)(ho:cB w (λx=>lo<=x/\x<B) 47 1 lv l.length (xs.map ar))(hP:PL w (λx=>lo<=x/\x<B) l xs)(h100:l.length<=100)(hm:mF w bm k g)(hL:kF L k (aB l++[.row l]))(hk:k+(aB l).length+1<=1000)(hg:g+groupsL l<=1000):Calls prog 51 #[Vp bm,Vp b] w λe w'=>∃F cp G tc,e=.returned (.agg #[Vf F cp,Vf G tc])/\(∃ys,cM w' (AB lo B w) L l ys/\kU w' (AB lo B w) L (.row l) (Vf F cp) (Bx w' (AB lo B w) 123 l.length ys)/\dI w' (AB lo B w) L l g ys/\Bx w' (AB lo B w) 126 l.length ys (Vf G tc))/\Off bm w w'/\mF w' bm (k+(aB l).length+1) (g+groupsL l):=by
 have b8:=hm.lt;have c6:=hnb.lt;obtain⟨b6,lc,rfl⟩:=ew ho.1;have a:Bw w (w.alloc (.cells #[.nilFunc,.nilFunc] 132)):=(zE _ _).alloc (zA _) _;have U:=aa a;have M:=aa (ag.new w NN 132);have a6:(w.alloc (.cells #[.nilFunc,.nilFunc] 132)).heap.size=w.heap.size+1:=by simp
 have HC:=aa (mX l ih lo B L _ xs hB (ho.below a) (PL.keep (ah.below a) l xs hP) (hm.below a) hL.left (by omega) hg h100);obtain⟨c0,c1,c2,c3,c4,_⟩:=hnb.five;have P:=aa (hnb.below a);have HL:=aa hL;have HB:=aa hB;have HK:=aa hk;have c5:b≠w.heap.size:=by omega
 go_enter func51,ntmps51;go_wp2_with fail;generalize hW:w.alloc (.cells #[.nilFunc,.nilFunc] 132)=W1 at U M a6 HC P ⊢;refine HC.mono ?_;rintro e w2 ⟨s,j,ys,rfl,O,V,a0,c,N⟩;have b5:=aa a0;have D:=M.off c (by omega);have Z:=P.off c (by omega);obtain⟨c0,c1,c2,c3,c4,_⟩:=Z.five;have X:=aa O;have a4:=aa V;have a2:=aa c;have a9:=aa N;have b0:=aa D;have K:=c.size;have b7:=D.lt;go_wp2_with (first
  |(go_at_call 84;refine (Yn _ _ _ _).mono ?_;rintro e u ⟨rfl,H⟩;have d:Bw w2 u:=(by rw[H];exact (zE _ _).alloc (zA _) _);have z:ag u w2.heap.size [.slice s l.length j] 168:=(by rw[H];exact ag.new w2 [.slice s l.length j] 168);have W:=aa d;have b3:=aa z;have a3:=aa (a9.below d);have a5:=aa (b0.below d);have c7:=d.size)
  |(go_at_call 83;refine (xx (k+(aB l).length) (g+groupsL l:Nat) _ _ (by omega) a3).mono ?_;rintro e m ⟨rfl,n,Y,A,y⟩;have T:=aa n;have a1:=aa Y;have b2:=aa A;have b1:=aa y;have i:=a5.off n (by omega);obtain⟨p0,p1⟩:=iJ i;have p2:=i.frozen 0;have p3:=i.frozen 1;have a8:=aa i;have b9:=n.size)
  |(go_at_call 85;refine (Yo _ _ _ _).mono ?_;rintro e w5 ⟨rfl,C⟩;have E:Bw m w5:=(by rw[C];exact (zE _ _).alloc (zA _) _);have R:ag w5 m.heap.size [.slice s l.length j] 168:=(by rw[C];exact ag.new m [.slice s l.length j] 168);have b4:=aa R;have h:=a8.below E;obtain⟨q0,q1⟩:=iJ h;have q2:=h.frozen 0;have q3:=h.frozen 1;have a7:=aa h;have J:=aa E))
 have hz:=fC (f:=Vf 122 #[ar (u.heap.size+1),ar u.heap.size]) (t:=Vf 126 #[ar m.heap.size]) a7;obtain⟨S,I⟩:=mf (W1:=W1) (w2:=w2) (r:=w.heap.size) (t:=Vf 126 #[ar m.heap.size]) (Q:=Bx (put2 w5 w.heap.size (Vf 122 #[ar (u.heap.size+1),ar u.heap.size]) (Vf 126 #[ar m.heap.size])) (AB lo B W1) 123 l.length ys) HB.out (by omega) (by omega) (by omega) W.out K T.out b2.out b1.out J.out HL.out.one (by omega) rfl (λk2 k3=>⟨w2.heap.size,_,rfl,.inr K,b3.out.keep k3 (.inr K),X.out.keep k2⟩);refine zN (v:=.agg #[Vf 122 #[ar (u.heap.size+1),ar u.heap.size],Vf 126 #[ar m.heap.size]]) (by simp[results,results51,go_sem,hz.1,hz.2]) rfl ?_;exact⟨_,_,_,_,rfl,⟨ys,cM.mono (λq _ o=>AB.up (by omega) q o) l ys (cM.keep I l ys a4),kU.mono (λq _ o=>AB.up (by omega) q o) (Bx.mono (λq _ o=>AB.up (by omega) q o)) S,dI.mono (λq _ o=>AB.up (by omega) q o) l g ys (dI.keep I l g ys b5),⟨m.heap.size,_,rfl,.inr (by omega),b4.put2 (by omega) _ _,(X.keep I).mono (λq _ o=>AB.up (by omega) q o)⟩⟩,((((Off.below U).trans a2).trans ((Off.below W).trans T)).trans (Off.below J)).put2 (zA _) _ _,(a1.below J).put2 (by omega) _ _⟩
theorem VD (l:List Pat)(ih:∀p∈l,fH p)(lo B:Nat)(L:List Pat)(hB:B<=bm)(hb:lo<=b/\b<B)(lv:Value)(xs:List Nat)(hnb:ag w b [Vi 2,Vz,lv,Vi 0,Vi 0] 51)(ho:cB w (λx=>lo<=x/\x<B) 47 1 lv l.length (xs.map ar))(hP:PL w (λx=>lo<=x/\x<B) l xs)(h100:l.length<=100)(hm:mF w bm k g)(hL:kF L k (aB l++[.or l]))(hk:k+(aB l).length+1<=1000)(hg:g+groupsL l<=1000):Calls prog 51 #[Vp bm,Vp b] w λe w'=>∃F cp G tc,e=.returned (.agg #[Vf F cp,Vf G tc])/\(∃ys,cM w' (AB lo B w) L l ys/\kU w' (AB lo B w) L (.or l) (Vf F cp) (Bx w' (AB lo B w) 129 l.length ys)/\dI w' (AB lo B w) L l g ys/\Bx w' (AB lo B w) 130 l.length ys (Vf G tc))/\Off bm w w'/\mF w' bm (k+(aB l).length+1) (g+groupsL l):=by
 have b8:=hm.lt;have c6:=hnb.lt;obtain⟨b6,lc,rfl⟩:=ew ho.1;have a:Bw w (w.alloc (.cells #[.nilFunc,.nilFunc] 132)):=(zE _ _).alloc (zA _) _;have U:=aa a;have M:=aa (ag.new w NN 132);have a6:(w.alloc (.cells #[.nilFunc,.nilFunc] 132)).heap.size=w.heap.size+1:=by simp
 have HC:=aa (mX l ih lo B L _ xs hB (ho.below a) (PL.keep (ah.below a) l xs hP) (hm.below a) hL.left (by omega) hg h100);obtain⟨c0,c1,c2,c3,c4,_⟩:=hnb.five;have P:=aa (hnb.below a);have HL:=aa hL;have HB:=aa hB;have HK:=aa hk;have c5:b≠w.heap.size:=by omega
 go_enter func51,ntmps51;go_wp2_with fail;generalize hW:w.alloc (.cells #[.nilFunc,.nilFunc] 132)=W1 at U M a6 HC P ⊢;refine HC.mono ?_;rintro e w2 ⟨s,j,ys,rfl,O,V,a0,c,N⟩;have b5:=aa a0;have D:=M.off c (by omega);have Z:=P.off c (by omega);obtain⟨c0,c1,c2,c3,c4,_⟩:=Z.five;have X:=aa O;have a4:=aa V;have a2:=aa c;have a9:=aa N;have b0:=aa D;have K:=c.size;have b7:=D.lt;go_wp2_with (first
  |(go_at_call 86;refine (Yp _ _ _ _).mono ?_;rintro e u ⟨rfl,H⟩;have d:Bw w2 u:=(by rw[H];exact (zE _ _).alloc (zA _) _);have z:ag u w2.heap.size [.slice s l.length j] 168:=(by rw[H];exact ag.new w2 [.slice s l.length j] 168);have W:=aa d;have b3:=aa z;have a3:=aa (a9.below d);have a5:=aa (b0.below d);have c7:=d.size)
  |(go_at_call 83;refine (xx (k+(aB l).length) (g+groupsL l:Nat) _ _ (by omega) a3).mono ?_;rintro e m ⟨rfl,n,Y,A,y⟩;have T:=aa n;have a1:=aa Y;have b2:=aa A;have b1:=aa y;have i:=a5.off n (by omega);obtain⟨p0,p1⟩:=iJ i;have p2:=i.frozen 0;have p3:=i.frozen 1;have a8:=aa i;have b9:=n.size)
  |(go_at_call 87;refine (Yq _ _ _ _).mono ?_;rintro e w5 ⟨rfl,C⟩;have E:Bw m w5:=(by rw[C];exact (zE _ _).alloc (zA _) _);have R:ag w5 m.heap.size [.slice s l.length j] 168:=(by rw[C];exact ag.new m [.slice s l.length j] 168);have b4:=aa R;have h:=a8.below E;obtain⟨q0,q1⟩:=iJ h;have q2:=h.frozen 0;have q3:=h.frozen 1;have a7:=aa h;have J:=aa E))
 have hz:=fC (f:=Vf 122 #[ar (u.heap.size+1),ar u.heap.size]) (t:=Vf 130 #[ar m.heap.size]) a7;obtain⟨S,I⟩:=mf (W1:=W1) (w2:=w2) (r:=w.heap.size) (t:=Vf 130 #[ar m.heap.size]) (Q:=Bx (put2 w5 w.heap.size (Vf 122 #[ar (u.heap.size+1),ar u.heap.size]) (Vf 130 #[ar m.heap.size])) (AB lo B W1) 129 l.length ys) HB.out (by omega) (by omega) (by omega) W.out K T.out b2.out b1.out J.out HL.out.one (by omega) rfl (λk2 k3=>⟨w2.heap.size,_,rfl,.inr K,b3.out.keep k3 (.inr K),X.out.keep k2⟩);refine zN (v:=.agg #[Vf 122 #[ar (u.heap.size+1),ar u.heap.size],Vf 130 #[ar m.heap.size]]) (by simp[results,results51,go_sem,hz.1,hz.2]) rfl ?_;exact⟨_,_,_,_,rfl,⟨ys,cM.mono (λq _ o=>AB.up (by omega) q o) l ys (cM.keep I l ys a4),kU.mono (λq _ o=>AB.up (by omega) q o) (Bx.mono (λq _ o=>AB.up (by omega) q o)) S,dI.mono (λq _ o=>AB.up (by omega) q o) l g ys (dI.keep I l g ys b5),⟨m.heap.size,_,rfl,.inr (by omega),b4.put2 (by omega) _ _,(X.keep I).mono (λq _ o=>AB.up (by omega) q o)⟩⟩,((((Off.below U).trans a2).trans ((Off.below W).trans T)).trans (Off.below J)).put2 (zA _) _ _,(a1.below J).put2 (by omega) _ _⟩
theorem RW (l:List Pat)(ih:∀p∈l,fH p)(lo B:Nat)(L:List Pat)(hB:B<=bm)(hb:lo<=b/\b<B)(lv:Value)(xs:List Nat)(hnb:ag w b [Vi 3,Vz,lv,Vi 0,Vi 0] 51)(ho:cB w (λx=>lo<=x/\x<B) 47 1 lv l.length (xs.map ar))(hP:PL w (λx=>lo<=x/\x<B) l xs)(h100:l.length<=100)(hm:mF w bm k g)(hL:kF L k (aB l++[.and l]))(hk:k+(aB l).length+1<=1000)(hg:g+groupsL l<=1000):Calls prog 51 #[Vp bm,Vp b] w λe w'=>∃F cp G tc,e=.returned (.agg #[Vf F cp,Vf G tc])/\(∃ys,cM w' (AB lo B w) L l ys/\kU w' (AB lo B w) L (.and l) (Vf F cp) (Bx w' (AB lo B w) 131 l.length ys)/\dI w' (AB lo B w) L l g ys/\(Vf G tc:Value)=Vf 89 #[])/\Off bm w w'/\mF w' bm (k+(aB l).length+1) (g+groupsL l):=by
 have b3:=hm.lt;have a9:=hnb.lt;obtain⟨b1,lc,rfl⟩:=ew ho.1;have a:Bw w (w.alloc (.cells #[.nilFunc,.nilFunc] 132)):=(zE _ _).alloc (zA _) _;have I:=aa a;have A:=aa (ag.new w NN 132);have V:(w.alloc (.cells #[.nilFunc,.nilFunc] 132)).heap.size=w.heap.size+1:=by simp
 have HC:=aa (mX l ih lo B L _ xs hB (ho.below a) (PL.keep (ah.below a) l xs hP) (hm.below a) hL.left (by omega) hg h100);obtain⟨c0,c1,c2,c3,c4,_⟩:=hnb.five;have M:=aa (hnb.below a);have HL:=aa hL;have HB:=aa hB;have HK:=aa hk;have a8:b≠w.heap.size:=by omega
 go_enter func51,ntmps51;go_wp2_with fail;generalize hW:w.alloc (.cells #[.nilFunc,.nilFunc] 132)=W1 at I A V HC M ⊢;refine HC.mono ?_;rintro e w2 ⟨S,P,ys,rfl,K,O,T,c,E⟩;have a2:=aa T;have z:=A.off c (by omega);have N:=M.off c (by omega);obtain⟨c0,c1,c2,c3,c4,_⟩:=N.five;have Z:=aa K;have a7:=aa O;have a0:=aa c;have a1:=aa E;have a3:=aa z;have u:=c.size;have b2:=z.lt;go_wp2_with (first
  |(go_at_call 88;refine (Yr _ _ _ _).mono ?_;rintro e j ⟨rfl,s⟩;have d:Bw w2 j:=(by rw[s];exact (zE _ _).alloc (zA _) _);have m:ag j w2.heap.size [.slice S l.length P] 168:=(by rw[s];exact ag.new w2 [.slice S l.length P] 168);have C:=aa d;have a4:=aa m;have a6:=aa (a1.below d);have U:=aa (a3.below d);have b0:=d.size)
  |(go_at_call 83;refine (xx (k+(aB l).length) (g+groupsL l:Nat) _ _ (by omega) a6).mono ?_;rintro e w4 ⟨rfl,i,J,n,o⟩;have R:=aa i;have X:=aa J;have Y:=aa n;have a5:=aa o;have h:=U.off i (by omega);obtain⟨p0,p1⟩:=iJ h;have p2:=h.frozen 0;have p3:=h.frozen 1;have W:=aa h;have b4:=i.size))
 have hz:=fC (f:=Vf 122 #[ar (j.heap.size+1),ar j.heap.size]) (t:=Vf 89 #[]) W;obtain⟨H,D⟩:=mf (W1:=W1) (w2:=w2) (r:=w.heap.size) (t:=Vf 89 #[]) (Q:=Bx (put2 w4 w.heap.size (Vf 122 #[ar (j.heap.size+1),ar j.heap.size]) (Vf 89 #[])) (AB lo B W1) 131 l.length ys) HB.out (by omega) (by omega) (by omega) C.out u R.out Y.out a5.out (zE _ _) HL.out.one (by omega) rfl (λk2 k3=>⟨w2.heap.size,_,rfl,.inr u,a4.out.keep k3 (.inr u),Z.out.keep k2⟩);refine zN (v:=.agg #[Vf 122 #[ar (j.heap.size+1),ar j.heap.size],Vf 89 #[]]) (by simp[results,results51,go_sem,hz.1,hz.2]) rfl ?_;exact⟨_,_,_,_,rfl,⟨ys,cM.mono (λq _ y=>AB.up (by omega) q y) l ys (cM.keep D l ys a7),kU.mono (λq _ y=>AB.up (by omega) q y) (Bx.mono (λq _ y=>AB.up (by omega) q y)) H,dI.mono (λq _ y=>AB.up (by omega) q y) l g ys (dI.keep D l g ys a2),rfl⟩,((((Off.below I).trans a0).trans ((Off.below C).trans R)).trans (Off.below (zE _ _))).put2 (zA _) _ _,(X.below (zE _ _)).put2 (by omega) _ _⟩
theorem dL.form {v:Value}{l:LQ}(h:dL w A v l):∃so sc,v=.slice so l.length sc:=by
 rcases h with⟨rfl,rfl⟩|⟨b,a,c,rfl,_⟩
 ·exact⟨none,0,rfl⟩
 ·exact⟨_,_,rfl⟩
theorem RA (w:World)(A:NP):cB w A 47 1 (Vz) 0 (([]:List Nat).map ar):=⟨zZ _ _ _ _,λg h=>by simp[Value.ownBlock]at h⟩
theorem RC (s:LQ):fH (.set s):=by
 intro u B M b k g L w hB hN S hL hk hg;obtain⟨hb,sv,l,T⟩:=hN;obtain⟨Z,sc,rfl⟩:=T.form;have a5:=S.lt;have a6:=l.lt;have c:Bw w (w.alloc (.cells #[.nilFunc,.nilFunc] 132)):=(zE _ _).alloc (zA _) _;have C:=aa c;have H:=aa (ag.new w NN 132);have N:(w.alloc (.cells #[.nilFunc,.nilFunc] 132)).heap.size=w.heap.size+1:=by simp
 have X:=aa (mX [] (λp hp=>by cases hp) u B L _ [] hB (RA _ _) (show PL _ _ [] []from rfl) (S.below c) (λi q hi=>by simp[aB]at hi) (by simp[aB,aH]at *;omega) (by simp[groupsL,Pat.groups]at *;omega) (by simp));obtain⟨V,c1,Y,c3,c4,_⟩:=l.five;have F:=aa (l.below c);have HL:=aa hL;have HB:=aa hB;have HK:=aa hk;have a1:b≠w.heap.size:=by omega
 have K:=aa (T.keep (ah.below c));go_enter func51,ntmps51;go_wp2_with fail;generalize hW:w.alloc (.cells #[.nilFunc,.nilFunc] 132)=W1 at C H N X F K ⊢;refine X.mono ?_;rintro e m ⟨a0,a8,ys,rfl,y,D,_,a,G⟩;have o:=H.off a (by omega);have z:=F.off a (by omega);obtain⟨V,c1,Y,c3,c4,_⟩:=z.five;have a4:=aa y;have a3:=aa D;have x:=aa a;have O:=aa G;have U:=aa o;have I:=a.size;have a2:=o.lt;replace K:=aa (K.keep (ah.off x (show ¬(u<=M/\M<B) by omega)));go_wp2_with (go_at_call 93;refine (Ys _ _ _ _).mono ?_;rintro e J ⟨rfl,r⟩;have j:Bw m J:=(by rw[r];exact (zE _ _).alloc (zA _) _);have n:ag J m.heap.size [.slice Z s.length sc] 24:=(by rw[r];exact ag.new m [.slice Z s.length sc] 24);have d:=U.below j;obtain⟨p0,p1⟩:=iJ d;have p2:=d.frozen 0;have p3:=d.frozen 1;have Q:=aa d;have E:=aa j;have R:=aa n;have P:=aa (O.below j);have a7:=j.size);have W:=fC (f:=Vf 137 #[ar m.heap.size]) (t:=Vf 89 #[]) Q;have hr:¬AB u B W1 w.heap.size:=λh=>by rcases h with h|h<;>omega
 have k3:ah (AB u B W1) J (put2 J w.heap.size (Vf 137 #[ar m.heap.size]) (Vf 89 #[])):=ah.put2 hr _ _;refine zN (v:=.agg #[Vf 137 #[ar m.heap.size],Vf 89 #[]]) (by simp[results,results51,go_sem,W.1,W.2]) rfl ?_;refine⟨_,_,_,_,rfl,EV.mono (A:=AB u B W1) (λq _ ha=>AB.up (by omega) q ha) (.set s) _ ⟨_,_,rfl,.inr I,R.keep k3 (.inr I),((K.keep (ah.below E)).mono (λq _ hq=>(.inl hq:AB u B W1 q))).keep k3⟩,rfl,(((Off.below C).trans x).trans (Off.below E)).put2 (zA _) _ _,?_⟩;have:=P.put2 (show M≠w.heap.size by omega) (Vf 137 #[ar m.heap.size]) (Vf 89 #[]);have e8:k+(aH (.set s)).length=k+(aB []).length:=by simp[aH,aB]
 have e9:g+(Pat.set s).groups=g+groupsL []:=by simp[groupsL,Pat.groups]
 rw[e8,e9];exact this
theorem RD (hok:p.Ok)(ih:fH p):fH (.not p):=by
 intro U B bm b k g L w hB hN hm hL hk hg;obtain⟨hb,lv,x,m,ho,hp⟩:=hN;obtain⟨b4,lc,rfl⟩:=ew ho.1;have b8:k+(aH p).length+1<=1000:=by simp[aH]at hk;omega
 have b6:=hm.lt;have c5:=m.lt;have a:Bw w (w.alloc (.cells #[.nilFunc,.nilFunc] 132)):=(zE _ _).alloc (zA _) _;have H:=aa a;have N:=aa (ag.new w NN 132);have T:(w.alloc (.cells #[.nilFunc,.nilFunc] 132)).heap.size=w.heap.size+1:=by simp
 have HC:=aa (mX [p] (λq hq=>by rw[yQ.1 hq];exact ih) U B L _ [x] hB (ho.below a) (⟨x,[],rfl,PN.keep (ah.below a) p x hp,rfl⟩) (hm.below a) (show kF L k (aB [p]) by simpa [aB]using hL.left) (by simp[aB];omega) (by simpa [groupsL,Pat.groups]using hg) (by simp));obtain⟨c0,c1,c2,c3,c4,_⟩:=m.five;have K:=aa (m.below a);have HL:=aa hL;have HB:=aa hB;have HK:=aa hk;have b3:b≠w.heap.size:=by omega
 go_enter func51,ntmps51;go_wp2_with fail;generalize hW:w.alloc (.cells #[.nilFunc,.nilFunc] 132)=W1 at H N T HC K ⊢;refine HC.mono ?_;rintro e w2 ⟨b2,c7,ys,rfl,D,a3,_,c,M⟩;have y:=N.off c (by omega);have E:=K.off c (by omega);obtain⟨c0,c1,c2,c3,c4,_⟩:=E.five;obtain⟨f',t',r',rfl,⟨G,S,rfl⟩,u,a1⟩:=a3;obtain rfl:r'=[]:=a1;obtain⟨F,R,rfl,eg⟩:=EV.form p f' hok u;obtain⟨pb,b1,a6,b9,c8,e0,e1⟩:=BU D (i:=0) (by simp) (f:=Vf F R) (t:=Vf G S) rfl;cases a6;simp only[Nat.zero_mul,zf]at e0 e1;have a9:=aa u;have Y:=aa c;have Z:=aa M;have b0:=aa y;have z:=c.size;have b5:=y.lt;go_wp2_with (first
  |(go_at_call 90;refine (Yt _ _ _ _ _).mono ?_;rintro e j ⟨rfl,C⟩;have h:Bw w2 j:=(by rw[C];exact (zE _ _).alloc (zA _) _);have n:ag j w2.heap.size [Vf F R,Vf G S] 132:=(by rw[C];exact ag.new w2 [Vf F R,Vf G S] 132);have J:=aa h;have a7:=aa n;have a4:=aa (Z.below h);have a5:=aa (b0.below h);have c6:=h.size)
  |(go_at_call 83;refine (xx (k+(aB [p]).length) (g+groupsL [p]:Nat) _ _ (by simp[aB];omega) a4).mono ?_;rintro e w4 ⟨rfl,l,O,s,o⟩;have I:=aa l;have a2:=aa O;have V:=aa s;have a8:=aa o;have d:=a5.off l (by omega);obtain⟨p0,p1⟩:=iJ d;have p2:=d.frozen 0;have p3:=d.frozen 1;have X:=aa d;have b7:=l.size))
 have hz:=fC (f:=Vf 122 #[ar (j.heap.size+1),ar j.heap.size]) (t:=Vf 89 #[]) X;have a0:L[k+(aB [p]).length]?=some (.not p):=by
  have h9:kF L k (aH p++[.not p]):=HL.out;simpa [aB]using h9.one
 obtain⟨P,W⟩:=mf (W1:=W1) (w2:=w2) (r:=w.heap.size) (t:=Vf 89 #[]) (Q:=λe=>∃bi,e=Vf 133 #[ar bi]/\AB U B W1 bi/\ag (put2 w4 w.heap.size (Vf 122 #[ar (j.heap.size+1),ar j.heap.size]) (Vf 89 #[])) bi [Vf F R,Vf G S] 132) HB.out (by omega) (by omega) (by omega) J.out z I.out V.out a8.out (zE _ _) a0 (by simp[aB];omega) rfl (λk2 k3=>⟨w2.heap.size,rfl,.inr z,a7.keep k3 (.inr z)⟩);refine zN (v:=.agg #[Vf 122 #[ar (j.heap.size+1),ar j.heap.size],Vf 89 #[]]) (by simp[results,results51,go_sem,hz.1,hz.2]) rfl ?_;refine⟨_,_,_,_,rfl,EV.mono (A:=AB U B W1) (λq _ ha=>AB.up (by omega) q ha) (.not p) _ ⟨_,_,EV.keep W p _ a9,P⟩,rfl,(((Off.below H).trans Y).trans ((Off.below J).trans I)).put2 (zA _) _ _,?_⟩;have:=a2.put2 (show bm≠w.heap.size by omega) (Vf 122 #[ar (j.heap.size+1),ar j.heap.size]) (Vf 89 #[]);have e8:k+(aH (.not p)).length=k+(aB [p]).length+1:=by simp[aH,aB];omega
 have e9:g+(Pat.not p).groups=g+groupsL [p]:=by simp[groupsL,Pat.groups]
 rw[e8,e9];exact this
theorem Ll (ih:fH p)(lo B:Nat)(x:Nat)(hB:B<=bm)(hp:PN w (λx=>lo<=x/\x<B) p x)(hm:mF w bm k g)(hL:kF L k (aH p))(hk:k+(aH p).length<=1000)(hg:g+1+p.groups<=1000):Calls prog 81 #[Vp bm,Vp x] w λe w'=>∃F cp G tc,e=.returned (.agg #[Vf F cp,Vf G tc])/\EV w' (AB lo B w) L p (Vf F cp)/\TV w' (AB lo B w) L (.group p) g (Vf G tc)/\Off bm w w'/\mF w' bm (k+(aH p).length) (g+1+p.groups):=by
 have a4:=hm.lt;obtain⟨m0,m1⟩:=iJ hm;have z1:=hm.frozen 1;have a5:bm≠w.heap.size:=by omega
 have e9:(g:Int)+1=((g+1:Nat):Int):=by omega
 have D:mF ((w.setCell (aD bm 1) (Vi ((g:Int)+1))).alloc (.cells #[.nilFunc,.nilFunc] 132)) bm k (g+1):=by rw[e9];exact (hm.set 1 _).alloc _
 have n:Off bm w ((w.setCell (aD bm 1) (Vi ((g:Int)+1))).alloc (.cells #[.nilFunc,.nilFunc] 132)):=((Off.refl _ _).setCell 1 _).alloc _;have P:((w.setCell (aD bm 1) (Vi ((g:Int)+1))).alloc (.cells #[.nilFunc,.nilFunc] 132)).heap.size=w.heap.size+1:=by simp[World.setCell]
 have E:Hid (ag ((w.setCell (aD bm 1) (Vi ((g:Int)+1))).alloc (.cells #[.nilFunc,.nilFunc] 132)) w.heap.size NN 132):=by
  have O:=ag.new (w.setCell (aD bm 1) (Vi ((g:Int)+1))) NN 132;have e:(w.setCell (aD bm 1) (Vi ((g:Int)+1))).heap.size=w.heap.size:=by simp[World.setCell]
  rw[e]at O;exact O
 have HC:=aa (ih lo B bm x k (g+1) L _ hB (PN.keep (ah.off n (show ¬(lo<=bm/\bm<B) by omega)) p x hp) D hL hk hg);have z:=aa n;go_enter func81,ntmps81;go_wp2_with fail;generalize hW:(w.setCell (aD bm 1) (Vi ((g:Int)+1))).alloc (.cells #[.nilFunc,.nilFunc] 132)=W1 at E P HC z ⊢;refine HC.mono ?_;rintro e c ⟨F,cp,G,tc,rfl,N,J,i,y⟩;have Z:=aa J;have r:=E.off i (by omega);have a3:=i.size;have s:Bw c (c.alloc (.cells #[Vf F cp,Vf G tc] 132)):=(zE _ _).alloc (zA _) _;have C:=aa (r.below s);have a:=aa s;have M:=ag.new c [Vf F cp,Vf G tc] 132;have l:=aa M;have K:=aa N;have S:=aa i;have T:=aa y;have a1:=r.lt;go_wp2_with fail;generalize hW:c.alloc (.cells #[Vf F cp,Vf G tc] 132)=W4 at C a l ⊢;obtain⟨x0,x1⟩:=iJ l.out;have a0:=a.size;have a2:=l.lt
 go_region_held3 (λw'=>w'.cell? (aD c.heap.size 0)=some (Vf F cp)/\w'.cell? (aD c.heap.size 1)=some (Vf G tc))
  (first|exact⟨x0,x1⟩|exact W|exact R _ _)
  ((go_at_call 121;refine (Yw _ _ _ _ _ _).mono ?_;rintro e u ⟨rfl,d⟩;have j:Bw W4 u:=(by rw[d];exact ((zE _ W4).drew.alloc (zA _) _).alloc (by simp) _);have I:ag u W4.heap.size [Vf F cp,Vf G tc] 132:=(by rw[d];exact (ag.new W4.drew [Vf F cp,Vf G tc] 132).alloc _);have H:ag u (W4.heap.size+1) [Vi (g:Int)] 3:=(by rw[d];have O:=ag.new (W4.drew.alloc (.cells #[Vf F cp,Vf G tc] 132)) [Vi (g:Int)] 3;simpa using O);have X:=aa I;have Y:=aa H;have b:=C.below j;obtain⟨q0,q1⟩:=iJ b;have q2:=b.frozen 0;have q3:=b.frozen 1;have Q:=aa b;have m:=aa j;have o:=l.below j;have W:=aa (iJ o);have R:Hid (∀f t,(put2 u w.heap.size f t).cell? (aD c.heap.size 0)=some (Vf F cp)/\(put2 u w.heap.size f t).cell? (aD c.heap.size 1)=some (Vf G tc)):=(λf t=>iJ (o.put2 (by omega) f t))))
 go_wp2_with fail;have hz:=fC (f:=Vf F cp) (t:=Vf 163 #[ar W4.heap.size,ar (W4.heap.size+1)]) Q;have hr:¬AB lo B W1 w.heap.size:=λh=>by rcases h with h|h<;>omega
 have U:ah (AB lo B W1) c (put2 u w.heap.size (Vf F cp) (Vf 163 #[ar W4.heap.size,ar (W4.heap.size+1)])):=((ah.below a).trans (ah.below m)).trans (ah.put2 hr _ _);refine zN (v:=.agg #[Vf F cp,Vf 163 #[ar W4.heap.size,ar (W4.heap.size+1)]]) (by simp[results,results81,go_sem,hz.1,hz.2]) rfl ?_;exact⟨_,_,_,_,rfl,EV.mono (A:=AB lo B W1) (λq _ V=>AB.up (by omega) q V) p _ (EV.keep U p _ K),TV.mono (A:=AB lo B W1) (λq _ V=>AB.up (by omega) q V) (.group p) g _ ⟨_,_,_,_,rfl,.inr (by omega),.inr (by omega),X.put2 (by omega) _ _,Y.put2 (by omega) _ _,⟨_,_,rfl⟩,EV.keep U p _ K,TV.keep U p (g+1) _ Z⟩,((z.trans S).trans ((Off.below a).trans (Off.below m))).put2 (zA _) _ _,((T.below a).below m).put2 (by omega) _ _⟩
theorem Lm (ih:fH p):fH (.group p):=by
 intro s B bm b k g L w N Z u Q hk hg;obtain⟨hb,lv,x,j,S,M⟩:=Z;obtain⟨pb,V,rfl,a3,a2,T⟩:=As (xs:=[x]) S (i:=0) (x:=x) (by omega) rfl;have a4:=u.lt;have a0:=j.lt;have c:Bw w (w.alloc (.cells #[.nilFunc,.nilFunc] 132)):=(zE _ _).alloc (zA _) _;have o:=aa c;have m:=aa (ag.new w NN 132);have y:(w.alloc (.cells #[.nilFunc,.nilFunc] 132)).heap.size=w.heap.size+1:=by simp
 have K:=aa (Ll ih s B x N (PN.keep (ah.below c) p x M) (u.below c) Q hk (by simp only[Pat.groups]at hg;omega));obtain⟨Y,c1,c2,U,c4,_⟩:=j.five;have HB:=aa N;have W:b≠w.heap.size:=by omega
 have X:pb≠w.heap.size:=by omega
 go_enter func51,ntmps51;go_wp2_with fail;generalize hW:w.alloc (.cells #[.nilFunc,.nilFunc] 132)=W1 at o m y K ⊢;refine K.mono ?_;rintro e w3 ⟨F,J,G,R,rfl,r,n,d,l⟩;have I:=aa n;have a:=m.off d (by omega);have a1:=d.size;obtain⟨q0,q1⟩:=iJ a;have q2:=a.frozen 0;have q3:=a.frozen 1;have E:=aa a;have H:=aa r;have z:=aa d;have C:=aa l;go_wp2_with fail;have P:=fC (f:=Vf F J) (t:=Vf G R) E;have O:¬AB s B W1 w.heap.size:=λh=>by rcases h with h|h<;>omega
 refine zN (v:=.agg #[Vf F J,Vf G R]) (by simp[results,results51,go_sem,P.1,P.2]) rfl ?_;refine⟨_,_,_,_,rfl,EV.mono (A:=AB s B W1) (λq _ D=>AB.up (by omega) q D) p _ (EV.keep (ah.put2 O _ _) p _ H),TV.mono (A:=AB s B W1) (λq _ D=>AB.up (by omega) q D) (.group p) g _ (TV.keep (ah.put2 O _ _) (.group p) g _ I),((Off.below o).trans z).put2 (zA _) _ _,?_⟩;have e9:g+(Pat.group p).groups=g+1+p.groups:=by simp only[Pat.groups];omega
 rw[e9];exact C.put2 (by omega) _ _
theorem OI (m n:Int)(hok:p.Ok)(ih:fH p):fH (.many p m n):=by
 intro lo B R b k g L w hB hN hm hL hk hg;obtain⟨hb,lv,x,K,ho,hp⟩:=hN;obtain⟨h4,lc,rfl⟩:=ew ho.1;have h3:k+(aH p).length+1<=1000:=by simp[aH]at hk;omega
 have h2:=hm.lt;have h0:=K.lt;have o:Bw w (w.alloc (.cells #[.nilFunc,.nilFunc] 132)):=(zE _ _).alloc (zA _) _;have a5:=aa o;have c8:=aa (ag.new w NN 132);have f2:(w.alloc (.cells #[.nilFunc,.nilFunc] 132)).heap.size=w.heap.size+1:=by simp
 have HC:=aa (mX [p] (λq hq=>by rw[yQ.1 hq];exact ih) lo B L _ [x] hB (ho.below o) (⟨x,[],rfl,PN.keep (ah.below o) p x hp,rfl⟩) (hm.below o) (show kF L k (aB [p]) by simpa [aB]using hL.left) (by simp[aB];omega) (by simpa [groupsL,Pat.groups]using hg) (by simp));obtain⟨c0,c1,c2,c3,c4,_⟩:=K.five;have b6:=aa (K.below o);have HL:=aa hL;have HB:=aa hB;have HK:=aa hk;have i0:b≠w.heap.size:=by omega
 go_enter func51,ntmps51;go_wp2_with fail;generalize hW:w.alloc (.cells #[.nilFunc,.nilFunc] 132)=W1 at a5 c8 f2 HC b6 ⊢;refine HC.mono ?_;rintro e w2 ⟨h8,g8,ys,rfl,b9,g2,f5,D,c5⟩;have a4:=c8.off D (by omega);have V:=b6.off D (by omega);obtain⟨c0,c1,c2,c3,c4,_⟩:=V.five;obtain⟨f',t',r',rfl,⟨G,s,rfl⟩,W,f1⟩:=g2;obtain rfl:r'=[]:=f1;obtain⟨f9,t9,r9,e9,_,_,d1,_⟩:=f5;cases e9;have g1:=aa d1;obtain⟨F,u,rfl,eg⟩:=EV.form p f' hok W;obtain⟨H,g7,f0,c7,d3,e0,e1⟩:=BU b9 (i:=0) (by simp) (f:=Vf F u) (t:=Vf G s) rfl;cases f0;simp only[Nat.zero_mul,zf]at e0 e1;have b8:=aa W;have d9:=aa D;have d5:=aa c5;have g3:=aa a4;have X:=D.size;have h1:=a4.lt;have U:=V.lt;have h5:H≠w.heap.size:=λe=>by rcases d3 with h|h<;>omega
 have b5:H≠R:=λe=>by rcases d3 with h|h<;>omega
 have h7:b≠w.heap.size:=by omega
 have S:b≠R:=by omega
 have j:Hid (∀c,Off R w2 c->c.cell? (aD b 3)=some (Vi m)/\c.cell? (aD b 4)=some (Vi n)/\c.cell? (aD H 0)=some (Vf F u)/\c.cell? (aD H 1)=some (Vf G s)):=λc h=>⟨(h.cell (p:=(aD b 3)) U S).trans c3,(h.cell (p:=(aD b 4)) U S).trans c4,(h.cell (p:=(aD H 0)) c7 b5).trans e0,(h.cell (p:=(aD H 1)) c7 b5).trans e1⟩;have d2:Hid (∀c f t,Off R w2 c->(put2 c w.heap.size f t).cell? (aD b 3)=some (Vi m)/\(put2 c w.heap.size f t).cell? (aD b 4)=some (Vi n)/\(put2 c w.heap.size f t).cell? (aD H 0)=some (Vf F u)/\(put2 c w.heap.size f t).cell? (aD H 1)=some (Vf G s)):=λc f t h=>by
  obtain⟨a0,a1,a2,a3⟩:=j.out c h;refine⟨?_,?_,?_,?_⟩
  ·rw[zw _ _ _ _ (by simp;omega),zw _ _ _ _ (by simp;omega)];exact a0
  ·rw[zw _ _ _ _ (by simp;omega),zw _ _ _ _ (by simp;omega)];exact a1
  ·rw[zw _ _ _ _ (by simp;omega),zw _ _ _ _ (by simp;omega)];exact a2
  ·rw[zw _ _ _ _ (by simp;omega),zw _ _ _ _ (by simp;omega)];exact a3
 go_wp2_with fail
 go_region_held3 (λc=>c.cell? (aD b 3)=some (Vi m)/\c.cell? (aD b 4)=some (Vi n)/\c.cell? (aD H 0)=some (Vf F u)/\c.cell? (aD H 1)=some (Vf G s))
  (first|exact⟨c3,c4,e0,e1⟩|exact f3|exact d8|exact e2|exact d7 _ _)
  (first
  |(go_at_call 91;refine (Yu _ _ _ _ _ _ _).mono ?_;rintro e d ⟨rfl,C⟩;have l:Bw w2 d:=(by rw[C];exact (((zE _ w2).drew.alloc (zA _) _).alloc (by simp) _).alloc (by simp;omega) _);have d4:ag d w2.heap.size [Vf F u,Vf G s] 132:=(by rw[C];exact ((ag.new w2.drew [Vf F u,Vf G s] 132).alloc _).alloc _);have a8:ag d (w2.heap.size+1) [Vi m] 3:=(by rw[C];have J:=(ag.new (w2.drew.alloc (.cells #[Vf F u,Vf G s] 132)) [Vi m] 3).alloc (.cells #[Vi n] 3);simpa using J);have b3:ag d (w2.heap.size+2) [Vi n] 3:=(by rw[C];have J:=ag.new ((w2.drew.alloc (.cells #[Vf F u,Vf G s] 132)).alloc (.cells #[Vi m] 3)) [Vi n] 3;simpa using J);have c6:=aa l;have e5:=aa d4;have f6:=aa a8;have g0:=aa b3;have e4:=aa (d5.below l);have g4:=aa (g3.below l);have b7:Hid (Off R w2 d):=Off.below l;have f3:=aa (j d b7);have g9:=l.size)
  |(go_at_call 83;refine (xx (k+(aB [p]).length) (g+groupsL [p]:Nat) _ _ (by simp[aB];omega) e4).mono ?_;rintro e a ⟨rfl,y,c9,N,T⟩;have a9:=aa y;have f4:=aa c9;have g5:=aa N;have f8:=aa T;have e6:=aa (g4.off y (by omega));have O:=aa (b7.trans y);have d8:=aa (j a O);have h6:=y.size)
  |(go_at_call 92;refine (Yv _ _ _ _ _ _ _).mono ?_;rintro e I ⟨rfl,z⟩;have M:Bw a I:=(by rw[z];exact (((zE _ a).alloc (zA _) _).alloc (by simp) _).alloc (by simp;omega) _);have b4:ag I a.heap.size [Vf F u,Vf G s] 132:=(by rw[z];exact ((ag.new a [Vf F u,Vf G s] 132).alloc _).alloc _);have d0:ag I (a.heap.size+1) [Vi m] 3:=(by rw[z];have J:=(ag.new (a.alloc (.cells #[Vf F u,Vf G s] 132)) [Vi m] 3).alloc (.cells #[Vi n] 3);simpa using J);have a7:ag I (a.heap.size+2) [Vi n] 3:=(by rw[z];have J:=ag.new ((a.alloc (.cells #[Vf F u,Vf G s] 132)).alloc (.cells #[Vi m] 3)) [Vi n] 3;simpa using J);have g6:=aa b4;have d6:=aa d0;have e7:=aa a7;have E:=e6.below M;obtain⟨q0,q1⟩:=iJ E;have q2:=E.frozen 0;have q3:=E.frozen 1;have e3:=aa E;have Y:=aa M;have P:=aa (O.trans (Off.below M));have e2:=aa (j I P);have d7:=aa (λf t=>d2 I f t P)))
 all_goals go_wp2_with fail
 have hz:=fC (f:=Vf 122 #[ar (d.heap.size+1),ar d.heap.size]) (t:=Vf 135 #[ar a.heap.size,ar (a.heap.size+1),ar (a.heap.size+2)]) e3;have f7:L[k+(aB [p]).length]?=some (.many p m n):=by
  have J:kF L k (aH p++[.many p m n]):=HL.out;simpa [aB]using J.one
 obtain⟨a6,Z⟩:=mf (W1:=W1) (w2:=w2) (r:=w.heap.size) (t:=Vf 135 #[ar a.heap.size,ar (a.heap.size+1),ar (a.heap.size+2)]) (Q:=λe=>∃b0 b1 b2,e=Vf 134 #[ar b0,ar b1,ar b2]/\AB lo B W1 b0/\AB lo B W1 b1/\AB lo B W1 b2/\ag (put2 I w.heap.size (Vf 122 #[ar (d.heap.size+1),ar d.heap.size]) (Vf 135 #[ar a.heap.size,ar (a.heap.size+1),ar (a.heap.size+2)])) b0 [Vi m] 3/\ag (put2 I w.heap.size (Vf 122 #[ar (d.heap.size+1),ar d.heap.size]) (Vf 135 #[ar a.heap.size,ar (a.heap.size+1),ar (a.heap.size+2)])) b1 [Vf F u,Vf G s] 132/\ag (put2 I w.heap.size (Vf 122 #[ar (d.heap.size+1),ar d.heap.size]) (Vf 135 #[ar a.heap.size,ar (a.heap.size+1),ar (a.heap.size+2)])) b2 [Vi n] 3) HB.out (by omega) (by omega) (by omega) c6.out X a9.out g5.out f8.out Y.out f7 (by simp[aB];omega) rfl
  (λ_ k3=>⟨w2.heap.size+1,w2.heap.size,w2.heap.size+2,rfl,.inr (by omega),.inr X,.inr (by omega),f6.keep k3 (.inr (by omega)),e5.keep k3 (.inr X),g0.keep k3 (.inr (by omega))⟩)
 refine zN (v:=.agg #[Vf 122 #[ar (d.heap.size+1),ar d.heap.size],Vf 135 #[ar a.heap.size,ar (a.heap.size+1),ar (a.heap.size+2)]]) (by simp[results,results51,go_sem,hz.1,hz.2]) rfl ?_;refine⟨_,_,_,_,rfl,EV.mono (A:=AB lo B W1) (λq _ ha=>AB.up (by omega) q ha) (.many p m n) _ ⟨_,_,EV.keep Z p _ b8,a6⟩,TV.mono (A:=AB lo B W1) (λq _ ha=>AB.up (by omega) q ha) (.many p m n) g _ ⟨_,_,_,_,_,rfl,.inr (by omega),.inr (by omega),.inr (by omega),g6.put2 (by omega) _ _,d6.put2 (by omega) _ _,e7.put2 (by omega) _ _,⟨_,_,rfl⟩,EV.keep Z p _ b8,TV.keep Z p g _ g1⟩,(((Off.below a5).trans d9).trans (((Off.below c6).trans a9).trans (Off.below Y))).put2 (zA _) _ _,?_⟩;have:=(f4.below Y).put2 (show R≠w.heap.size by omega) (Vf 122 #[ar (d.heap.size+1),ar d.heap.size]) (Vf 135 #[ar a.heap.size,ar (a.heap.size+1),ar (a.heap.size+2)]);have e8:k+(aH (.many p m n)).length=k+(aB [p]).length+1:=by simp[aH,aB];omega
 have e9:g+(Pat.many p m n).groups=g+groupsL [p]:=by simp[groupsL,Pat.groups]
 rw[e8,e9];exact this
theorem NJ {e:Ending}(h:Ar p lo B bm k g L w e w'):Ar (.or [p]) lo B bm k g L w e w':=by
 obtain⟨F,f,G,a,rfl,b,i,d,c⟩:=h;exact⟨F,f,G,a,rfl,⟨by simp,_,⟨_,_,[],rfl,⟨G,a,rfl⟩,b,rfl⟩,.inl ⟨rfl,_,rfl⟩⟩,⟨_,⟨_,_,[],rfl,⟨G,a,rfl⟩,b,i,rfl⟩,.inl ⟨rfl,_,rfl⟩⟩,d,by simpa [aH,aB,Pat.groups,groupsL]using c⟩
theorem KN {e:Ending}(h:Ar p lo B bm k g L w e w'):Ar (.and [p]) lo B bm k g L w e w':=by
 obtain⟨F,f,G,a,rfl,b,i,d,c⟩:=h;exact⟨F,f,G,a,rfl,⟨by simp,_,⟨_,_,[],rfl,⟨G,a,rfl⟩,b,rfl⟩,.inl ⟨rfl,_,rfl⟩⟩,⟨_,⟨_,_,[],rfl,⟨G,a,rfl⟩,b,i,rfl⟩,.inl ⟨rfl,_,rfl⟩⟩,d,by simpa [aH,aB,Pat.groups,groupsL]using c⟩
mutual
theorem nl:∀(p:Pat),p.Ok->fH p
 |.set s,_=>RC s
 |.row l,h=>by
  have v:=oA l h;intro u B z b k g L w t I q i D A;obtain⟨K,a,S,J,f,H,C⟩:=I;have j:(aH (.row l)).length=(aB l).length+1:=by simp[aH]
  refine (RV l v u B t K S J f H C a q i (by omega) A).mono ?_;rintro e V ⟨F,M,G,O,rfl,⟨o,N,P,d,c⟩,Q,E⟩;exact⟨F,M,G,O,rfl,⟨a,o,N,P⟩,⟨o,d,c⟩,Q,by rw[j];exact E⟩
 |.or l,h=>by
  have v:=oA l h.1;intro u B z b k g L w t I q i D A;obtain⟨a,J,C,⟨U,rfl⟩|⟨y,K,S,f,H⟩⟩:=I
  ·obtain⟨p,rfl⟩:=zy.1 U;obtain⟨x,r,e,T,_⟩:=C;cases e;have j:aH (.or [p])=aH p:=by simp[aH,aB]
   rw[j]at i D;exact (v p (by simp) u B z b k g L w t T q i D (by simpa [Pat.groups,groupsL]using A)).mono (λ_ _ h=>NJ h)
  ·have R:aH (.or l)=aB l++[.or l]:=by simp only[aH,zR y]
   have j:(aH (.or l)).length=(aB l).length+1:=by rw[R];simp
   refine (VD l v u B L t K S J f H C a q (by rw[R]at i;exact i) (by omega) A).mono ?_;rintro e V ⟨F,M,G,O,rfl,⟨o,N,P,d,c⟩,Q,E⟩;exact⟨F,M,G,O,rfl,⟨a,o,N,.inr ⟨y,P⟩⟩,⟨o,d,.inr ⟨y,c⟩⟩,Q,by rw[j];exact E⟩
 |.and l,h=>by
  have v:=oA l h.1;intro u B z b k g L w t I q i D A;obtain⟨a,J,C,⟨U,rfl⟩|⟨y,K,S,f,H⟩⟩:=I
  ·obtain⟨p,rfl⟩:=zy.1 U;obtain⟨x,r,e,T,_⟩:=C;cases e;have j:aH (.and [p])=aH p:=by simp[aH,aB]
   rw[j]at i D;exact (v p (by simp) u B z b k g L w t T q i D (by simpa [Pat.groups,groupsL]using A)).mono (λ_ _ h=>KN h)
  ·have R:aH (.and l)=aB l++[.and l]:=by simp only[aH,zR y]
   have j:(aH (.and l)).length=(aB l).length+1:=by rw[R];simp
   refine (RW l v u B L t K S J f H C a q (by rw[R]at i;exact i) (by omega) A).mono ?_;rintro e V ⟨F,M,G,O,rfl,⟨o,N,P,d,c⟩,Q,E⟩;exact⟨F,M,G,O,rfl,⟨a,o,N,.inr ⟨y,P⟩⟩,⟨o,d,.inr ⟨y,c⟩⟩,Q,by rw[j];exact E⟩
 |.not p,h=>RD h (nl p h)
 |.many p m n,h=>OI m n h.1 (nl p h.1)
 |.group p,h=>Lm (nl p h)
theorem oA:∀(l:List Pat),jr l->∀p∈l,fH p
 | [],_=>λp h=>by cases h
 |q::l,hk=>by
  have b:=nl q hk.1;have a:=oA l hk.2;intro p h;rcases zO.1 h with rfl|h
  ·exact b
  ·exact a p h
end
theorem NK {bs:List UInt8}{er place:Int}(h:jW bs (er,place,some p)):(aH p).length<=1000/\p.groups<=1000:=by
 rcases h with⟨_,h⟩|⟨_,_,_,h⟩|⟨f,l,g,h⟩
 ·cases h
 ·cases h
 ·have c:=eB g;unfold dz at h;have b:=JF false (l.length+1) l;have a:=Km false (l.length+1) l
  split at h
  ·cases h
  ·cases h
  ·rename_i q heq
   rw[heq]at b a
   split at h
   ·cases h
   ·cases h;have d:(aH p).length+3*0<=1+3*l.length:=b;have e:p.groups+3*0<=1+3*l.length:=a;omega
theorem Ra (p:Pat)(hok:p.Ok)(lo b:Nat)(w:World)(hlo:lo<=w.heap.size)(hN:PN w (λx=>lo<=x) p b)(hc:(aH p).length<=1000)(hg:p.groups<=1000):Calls prog 23 #[Vp b] w λe w'=>∃bp,e=.returned (ar bp)/\PT w' (λx=>lo<=x) p bp/\Bw w w'/\w.heap.size<=bp/\PK w' (λx=>lo<=x) p bp:=by
 have m:Bw w (w.alloc (.cells #[Vi 0,Vi 0] 126)):=(zE _ _).alloc (zA _) _;have y:mF (w.alloc (.cells #[Vi 0,Vi 0] 126)) w.heap.size 0 0:=ag.new w [Vi 0,Vi 0] 126;have I:=aa (nl p hok lo w.heap.size w.heap.size b 0 0 (aH p) (w.alloc (.cells #[Vi 0,Vi 0] 126)) (zA _) (PN.keep (ah.below m) p b (PN.mono (λq Q h=>⟨h,Q⟩) p b hN)) y (λi q M=>by simpa using M) (by omega) (by omega));have l:=aa m;have r:=aa hc;have C:=aa hg;go_enter func23,ntmps23;go_wp2_with fail;generalize hW:w.alloc (.cells #[Vi 0,Vi 0] 126)=W1 at I l ⊢;refine I.mono ?_;rintro e d ⟨F,a,G,c,rfl,u,v,n,g⟩;have z:=aa v;simp only[zf]at g;obtain⟨H,J⟩:=iJ g;have s:=g.lt;have L:w.heap.size≠d.heap.size:=by omega
 have A:=aa u;have D:=aa n;have S:=n.size;have B:=l.size;have P:(d.alloc (.cells #[Vf F a,Vf G c] 132)).cell? (aD d.heap.size 0)=some (Vf F a):=(iJ (ag.new d [Vf F a,Vf G c] 132)).1;have N:(d.alloc (.cells #[Vf F a,Vf G c] 132)).cell? (aD d.heap.size 1)=some (Vf G c):=(iJ (ag.new d [Vf F a,Vf G c] 132)).2;have k:Bw d (d.alloc (.cells #[Vf F a,Vf G c] 132)):=(zE _ _).alloc (zA _) _;have R:=(k.cell (p:=(aD w.heap.size 0)) s).trans H;have K:=(k.cell (p:=(aD w.heap.size 1)) s).trans J;have f:=aa k;go_wp2_with fail;generalize hW:d.alloc (.cells #[Vf F a,Vf G c] 132)=W4 at P N R K f ⊢;have O:=f.size
 try go_region
 try go_wp2_with fail
 go_ret;have o:Bw W4 (W4.drew.alloc (.cells #[Vf F a,Vf G c,Vi (aH p).length,Vi p.groups] 135)):=(zE _ W4).drew.alloc (zA _) _;have t:EV (W4.drew.alloc (.cells #[Vf F a,Vf G c,Vi (aH p).length,Vi p.groups] 135)) (λx=>lo<=x) (aH p) p (Vf F a):=EV.mono (λq _ j=>by rcases j with j|j;exact j.1;show lo<=q;omega) p _ (EV.keep ((ah.below f).trans (ah.below o)) p _ A);have E:TV (W4.drew.alloc (.cells #[Vf F a,Vf G c,Vi (aH p).length,Vi p.groups] 135)) (λx=>lo<=x) (aH p) p 0 (Vf G c):=TV.mono (λq _ j=>by rcases j with j|j;exact j.1;show lo<=q;omega) p _ _ (TV.keep ((ah.below f).trans (ah.below o)) p _ _ z);exact⟨W4.heap.size,rfl,⟨by show lo<=_;omega,_,_,_,ag.new W4.drew [Vf F a,Vf G c,Vi (aH p).length,Vi p.groups] 135,t,r⟩,(l.trans (D.toBelow (zA _) B)).trans ((f.mono (by omega)).trans (o.mono (by omega))),by omega,⟨by show lo<=_;omega,_,_,ag.new W4.drew [Vf F a,Vf G c,Vi (aH p).length,Vi p.groups] 135,⟨_,_,rfl⟩,t,E,r,C⟩⟩
def rH (w:World):Prop:=jz w/\TabAt 2 Lib.deBruijn64tab w
theorem rH.below {w w':World}(h:rH w)(k:Bw w w'):rH w':=⟨h.1.below k,λj a=>(k.cell (nh (h.2 j a))).trans (h.2 j a)⟩
theorem PT.below {w w':World}{A:NP}{p:Pat}{bp:Nat}(h:PT w A p bp)(k:Bw w w'):PT w' A p bp:=by
 obtain⟨d,f,t,g,c,b,a⟩:=h;exact⟨d,f,t,g,c.below k,EV.keep (ah.below k) p f b,a⟩
def RX (w:World)(A:Nat->Prop)(p:Pat)(bx:Nat):Prop:=A bx/\∃v0 v1 v2 v3 v4 bp x,ag w bx [v0,v1,v2,v3,v4,ar bp] 54/\(A x/\ag w x [v0,v1,v2,v3,v4] 51)/\PN w A p x/\PT w A p bp/\PK w A p bp
theorem RX.keep {w w':World}{A:NP}{p:Pat}{bx:Nat}(h:RX w A p bx)(k:ah A w w'):RX w' A p bx:=by
 obtain⟨c,d,i,m,o,j,q,x,n,a,r,l,v⟩:=h;obtain⟨b,f,t,g,s,e,u⟩:=l;exact⟨c,d,i,m,o,j,q,x,n.keep k c,⟨a.1,a.2.keep k a.1⟩,PN.keep k p x r,⟨b,f,t,g,s.keep k b,EV.keep k p f e,u⟩,v.keep k⟩
theorem RX.below {w w':World}{A:NP}{p:Pat}{bx:Nat}(h:RX w A p bx)(k:Bw w w'):RX w' A p bx:=h.keep (ah.below k)
theorem PN.five {w:World}{A:NP}:∀(p:Pat) (b:Nat),PN w A p b->p.Ok->∃v0 v1 v2 v3 v4,ag w b [v0,v1,v2,v3,v4] 51
 |.set s,b,h,_=>by obtain⟨g,u,a,t⟩:=h;exact⟨_,_,_,_,_,a⟩
 |.row l,b,h,_=>by obtain⟨g,_,i,k,a,j,c⟩:=h;exact⟨_,_,_,_,_,a⟩
 |.or [],b,h,hk=>absurd rfl hk.2
 |.or [p],b,h,hk=>by
  obtain⟨_,k,c,f⟩:=h;rcases f with⟨_,rfl⟩|⟨d,_⟩
  ·obtain⟨x,r,e,o,_⟩:=c;cases e;exact PN.five p b o hk.1.1
  ·exact absurd rfl d
 |.or (p::q::l),b,h,hk=>by
  obtain⟨_,k,c,f⟩:=h;rcases f with⟨d,_⟩|⟨d,g,i,a,j⟩
  ·simp at d
  ·exact⟨_,_,_,_,_,a⟩
 |.and [],b,h,hk=>absurd rfl hk.2
 |.and [p],b,h,hk=>by
  obtain⟨_,k,c,f⟩:=h;rcases f with⟨_,rfl⟩|⟨d,_⟩
  ·obtain⟨x,r,e,o,_⟩:=c;cases e;exact PN.five p b o hk.1.1
  ·exact absurd rfl d
 |.and (p::q::l),b,h,hk=>by
  obtain⟨_,k,c,f⟩:=h;rcases f with⟨d,_⟩|⟨d,g,i,a,j⟩
  ·simp at d
  ·exact⟨_,_,_,_,_,a⟩
 |.not p,b,h,_=>by obtain⟨g,i,x,a,j,c⟩:=h;exact⟨_,_,_,_,_,a⟩
 |.many p m n,b,h,_=>by obtain⟨g,i,x,a,j,c⟩:=h;exact⟨_,_,_,_,_,a⟩
 |.group p,b,h,_=>by obtain⟨g,i,x,a,j,c⟩:=h;exact⟨_,_,_,_,_,a⟩
theorem IP (s:ByteArray)(hT:rH w)(hm:s.size<=9223372036854775807):Calls prog 24 #[.string s] w λe w'=>Bw w w'/\∃er ol,e=.returned (Vi er)/\lT (af s) er ol:=by
 have n:=aa (aL s);by_cases h:s.size<=40
 ·have o:decide ((40:Int)<(s.size:Int))=false:=zI (by omega);have c:Hid ((af s).length<=40):=by show _<=_;rw[n.out];exact h
  have m:=aa (Nr s w hm (hT.1.2 w (λ_ _=>rfl)));have i:Hid ((Lib.validD s.data.toList=true/\∃l,Runes (af s) l)\/(Lib.validD s.data.toList=false/\∃k,Broken (af s) k)):=by
   rcases Eo (af s).length (af s) (zA _)with⟨l,f⟩|⟨k,g⟩
   ·exact .inl ⟨IK f _ (zA _),l,f⟩
   ·exact .inr ⟨Gy g _ (zA _),k,g⟩
  generalize Lib.validD s.data.toList=b at m i;rcases i.out with⟨rfl,l,f⟩|⟨rfl,k,g⟩
  ·have j:=aa f;go_enter func24,ntmps24;go_wp2_with (go_at_call 52;refine m.mono ?_;rintro e p ⟨rfl,a⟩;have d:=aa a);go_ret;exact⟨d,0,some l,rfl,.inr (.inr ⟨c,l,j,rfl,rfl⟩)⟩
  ·have j:=aa g;go_enter func24,ntmps24;go_wp2_with (go_at_call 52;refine m.mono ?_;rintro e p ⟨rfl,a⟩;have d:=aa a);go_ret;exact⟨d,3,none,rfl,.inr (.inl ⟨c,⟨k,j⟩,rfl,rfl⟩)⟩
 ·have o:decide ((40:Int)<(s.size:Int))=true:=zv (by omega);have c:Hid (40<(af s).length):=by show _<_;rw[n.out];omega
  go_enter func24,ntmps24;go_wp2;go_ret;exact⟨zE _ _,2,none,rfl,.inl ⟨c,rfl,rfl⟩⟩
theorem Ug (s:ByteArray)(w:World){l:LZ}(h:Runes (af s) l)(hl:l.length<=40):∃rc W2,(convert 9 71 (.string s)).run prog w=.ok (Vs w.heap.size l.length rc) W2/\ud W2 (λ_=>False) (some (aD w.heap.size 0)) l/\Bw w W2:=by
 have e:=MP s h;have a:=run_runes_of_string (P:=prog) w 9 71 21 s underlying9 underlying71 underlying21 (by rw[e];simp;omega);rw[e]at a;have b:((l.map (Value.int .i32)).toArray).size=l.length:=by simp
 rw[b]at a;refine⟨_,_,a,λi x c=>⟨w.heap.size,0,rfl,λh=>h,by simp,?_⟩,(zE _ w).drew.alloc (zA _) _⟩;have d:i<l.length:=(zC.1 c).1;have f:ag (w.drew.alloc (.cells ((l.map (Value.int .i32)).toArray++Array.replicate (grownCap w l.length 0 21-l.length) (.int .i32 0)) 21)) w.heap.size (l.map (Value.int .i32)++List.replicate (grownCap w l.length 0 21-l.length) (.int .i32 0)) 21:=by
  have:=ag.new w.drew (l.map (Value.int .i32)++List.replicate (grownCap w l.length 0 21-l.length) (.int .i32 0)) 21;rw[<-List.append_toArray,List.toArray_replicate]at this;exact this
 rw[f.cell,zf,yY (by simpa using d),zg,c];rfl
theorem CW (s:ByteArray)(hT:rH w)(hm:s.size<=9223372036854775807):Calls prog 11 #[.string s] w λe w'=>Bw w w'/\∃nv er place op,jW (af s) (er,place,op)/\e=.returned (.tuple #[nv,Vi er,Vi place])/\match op with|some p=>∃bx,nv=ar bx/\RX w' (dp w) p bx|none=>nv=.pointer none:=by
 have T:=aa (NC s hT.1 hm);go_enter func11,ntmps11;go_wp2_with fail;refine T.mono ?_;rintro e b ⟨A,nv,er,place,op,q,rfl,m⟩;have d:=aa A;have B:=aa q;cases op with
 |none=>
  have a6:(er==0)=false:=zD.2 (qM q);have C:nv=.pointer none:=m;subst C;go_wp2;refine zN (v:=.tuple #[.pointer none,Vi er,Vi place]) (by simp[results,results11,go_sem]) rfl ?_;exact⟨d,_,_,_,none,B,rfl,rfl⟩
 |some p=>
  obtain⟨rfl,rfl,f,u⟩:=qL q;obtain⟨R,S⟩:=NK q;obtain⟨x,rfl,y⟩:=m;obtain⟨g,h,j,k,i,N⟩:∃g h j k i,ag b x [g,h,j,k,i] 51:=PN.five p x y f;obtain⟨U,c1,V,Y,Z,a5⟩:=N.five;have F:=aa N;have K:=aa (PN.lt p x y f).1;have W:=aa (λ(w':World) (hb:Bw b w')=>Ra p f w.heap.size x w' (zJ d.size hb.size) (PN.keep (ah.below hb) p x y) R S);have X:=aa y;go_wp2_with fail
  go_region_held3 (λw'=>Bw b w'/\w'.cell? (aD x 0)=some g/\w'.cell? (aD x 1)=some h/\w'.cell? (aD x 2)=some j/\w'.cell? (aD x 3)=some k/\w'.cell? (aD x 4)=some i)
   (first|exact⟨(zE _ _).drew,U,c1,V,Y,Z⟩|exact G|exact D _)
   ((go_at_call 23;refine (W _ (‹Bw b _/\_›.1)).mono ?_;rintro e a ⟨L,rfl,r,t,Q,z⟩;have P:=aa z;have c:Bw b a:=(‹Bw b _/\_›.1).trans (t.mono (‹Bw b _/\_›.1).size);have D:Hid (∀o,Bw b (a.alloc o)/\(a.alloc o).cell? (aD x 0)=some g/\(a.alloc o).cell? (aD x 1)=some h/\(a.alloc o).cell? (aD x 2)=some j/\(a.alloc o).cell? (aD x 3)=some k/\(a.alloc o).cell? (aD x 4)=some i):=(λo=>by have n:=c.alloc c.size o;obtain⟨O,I,E,M,J,_⟩:=(F.out.below n).five;exact⟨n,O,I,E,M,J⟩);have G:Hid (Bw b a/\a.cell? (aD x 0)=some g/\a.cell? (aD x 1)=some h/\a.cell? (aD x 2)=some j/\a.cell? (aD x 3)=some k/\a.cell? (aD x 4)=some i):=(by obtain⟨O,I,E,M,J,_⟩:=(F.out.below c).five;exact⟨c,O,I,E,M,J⟩);have H:=aa r;have l:=aa c))
  all_goals go_wp2_with fail
  have n:=l.alloc l.size (.cells #[g,h,j,k,i,ar L] 54);refine zN (v:=.tuple #[ar a.heap.size,Vi 0,Vi 0]) (by simp[results,results11,go_sem]) rfl ?_;exact⟨d.trans (n.mono d.size),_,0,0,some p,B,rfl,a.heap.size,rfl,zJ d.size l.size,g,h,j,k,i,L,x,ag.new a [g,h,j,k,i,ar L] 54,⟨K,F.below n⟩,PN.keep (ah.below n) p x X,H.below ((zE _ a).alloc (zA _) _),P.keep (ah.below ((zE _ a).alloc (zA _) _))⟩
theorem vG (hok:p.Ok)(s:ByteArray)(hX:RX w A p bx)(hT:rH w)(hm:s.size<=9223372036854775807):Calls prog 12 #[Vp bx,.string s] w λe w'=>Bw w w'/\∃er ol,e=.returned (.tuple #[.bool (Aw p ol),Vi er])/\lT (af s) er ol:=by
 have F:=aa (IP s hT hm);have C:=aa hX;have E:=aa hT;go_enter func12,ntmps12;go_wp2_with fail;refine F.mono ?_;rintro e r ⟨b,er,ol,rfl,a⟩;have d:=aa b;have o:=aa a;cases ol with
 |none=>
  have J:(er==0)=false:=zD.2 (Mv a);go_wp2;refine zN (v:=.tuple #[.bool false,Vi er]) (by simp[results,results12,go_sem]) rfl ?_;exact⟨d,er,none,rfl,o⟩
 |some l=>
  have I:=Mw a;subst I;obtain⟨n,f⟩:l.length<=40/\Runes (af s) l:=by
   rcases a with⟨_,_,h⟩|⟨_,_,_,h⟩|⟨G,M,y,_,h⟩
   ·cases h
   ·cases h
   ·cases h;exact⟨zJ (eB y) G,y⟩
  obtain⟨H,D,t,k,c⟩:=Ug s r f n;obtain⟨_,K,N,P,Q,O,z,x,B,_,_,i,_⟩:=C.out.below b;have R:r.cell? (aD bx 5)=some (Vp z):=by rw[B.cell];rfl
  have u:=aa (Pr hok H (i.below c) n (db f) ((E.below b).below c).2 k);have g:=aa c;have j:Hid (mT p l 0 l.length=Aw p (some l)):=rfl;generalize mT p l 0 l.length=MB at u j;go_wp2_with (go_at_call 25;refine u.mono ?_;rintro e L ⟨rfl,m⟩;have q:=aa m);refine zN (v:=.tuple #[.bool MB,Vi 0]) (by simp[results,results12,go_sem]) rfl ?_;exact⟨d.trans ((g.trans (q.mono g.size)).mono d.size),0,some l,by rw[j.out],o⟩
def uK:List UInt8:=[126,40,46,42,97,97,46,42,41,38,97,46,42,98]
def lB:Pat:=match aU false 15 (uK.map λx=>(x.toNat:Int))with|.ok p _=>p|.bad _=>.row []
def Ts:Pat:=.many (.set tm) 0 (-1)
def Kd (c:Int):Pat:=.set [(c,c)]
theorem vw:lB=.or [.and [.row [.not (.group (.or [.and [.row [Ts,Kd 97,Kd 97,Ts]]]))],.row [Kd 97,Ts,Kd 98]]]:=by rfl
theorem Ay:jW uK (0,0,some lB):=.inr (.inr ⟨by decide,_,lN uK (by decide),by kernel_rfl⟩)
theorem uL (c:Int):(Kd c).Mt [c]:=⟨c,rfl,by simp[memB,inB]⟩
theorem PP {c:Int}{t:LZ}(h:(Kd c).Mt t):t=[c]:=by
 obtain⟨d,rfl,a⟩:=h;simp[memB,inB]at a;rw[show d=c by omega]
theorem PQ:lB.Mt [97,98,97,98]:=by
 rw[vw];refine .inl ⟨⟨[97,98,97,98],[],by simp,?_,rfl⟩,⟨[97],[98,97,98],rfl,uL 97,[98,97],[98],rfl,?_,[98],[],rfl,uL 98,rfl⟩,trivial⟩
 ·rintro (⟨⟨a,b,e,_,c,d,i,l,f,g,j,m,_⟩,_⟩|h)
  ·rw[PP l]at i;rw[PP m]at j;rw[i,j]at e;have k:=congrArg List.length e;rcases a with _|⟨x,_|⟨y,_|⟨z,a⟩⟩⟩
   ·simp at e
   ·simp at e
   ·simp at e
   ·simp at k;omega
  ·exact h
 ·exact⟨2,by decide,.inl (by decide),[98],[97],rfl,⟨98,rfl,by decide⟩,[97],[],rfl,⟨97,rfl,by decide⟩,rfl⟩
theorem Tt:¬lB.Mt [97,97,98]:=by
 rw[vw];rintro (⟨⟨a,b,e,c,d⟩,_⟩|h)
 ·rw[show b=[]from d,zx]at e;apply c;rw[<-e];exact .inl ⟨⟨[],[97,97,98],rfl,⟨0,by decide,.inl (by decide),rfl⟩,[97],[97,98],rfl,uL 97,[97],[98],rfl,uL 97,[98],[],rfl,⟨1,by decide,.inl (by decide),[98],[],rfl,⟨98,rfl,by decide⟩,rfl⟩,rfl⟩,trivial⟩
 ·exact h
theorem My:Aw lB (some [97,98,97,98])=true:=kD.2 ⟨zW _,by rw[JL];exact PQ⟩
theorem PR:Aw lB (some [97,97,98])=false:=by
 apply Bool.eq_false_iff.2;intro h;have:=(kD.1 h).2;rw[JL]at this;exact Tt this
theorem PS:lT [97,98,97,98] 0 (some [97,98,97,98]):=.inr (.inr ⟨by decide,_,lN [97,98,97,98] (by decide),rfl,rfl⟩)
theorem Tu:lT [97,97,98] 0 (some [97,97,98]):=.inr (.inr ⟨by decide,_,lN [97,97,98] (by decide),rfl,rfl⟩)
theorem Mz (hT:rH w):Calls prog 5 #[] w λe w'=>e=.returned (.bool true)/\Bw w w':=by
 have C:=aa (CW ⟨#[126,40,46,42,97,97,46,42,41,38,97,46,42,98]⟩ hT (by decide));have x:=aa hT;go_enter func5,ntmps5;go_wp2_with fail;refine C.mono ?_;rintro e m ⟨a,E,D,d,B,y,rfl,q⟩;have z:=tY Ay (show jW uK (D,d,B)from y);simp only[Prod.mk.injEq]at z;obtain⟨rfl,rfl,rfl⟩:=z;obtain⟨A,rfl,n⟩:=q;have b:=(qL Ay).2.2.1;have j:=aa (λ(w':World) (hb:Bw m w')=>vG b ⟨#[97,98,97,98]⟩ (n.below hb) ((x.below a).below hb) (by decide));have l:=aa (λ(w':World) (hb:Bw m w')=>vG b ⟨#[97,97,98]⟩ (n.below hb) ((x.below a).below hb) (by decide));have i:=aa a;go_wp2_with fail;refine (j _ (zE _ _)).mono ?_;rintro e G ⟨k,t,u,rfl,h⟩;have v:=tF PS (show lT [97,98,97,98] t u from h);obtain⟨rfl,rfl⟩:=v;rw[My];have c:=aa k;go_wp2_with fail;refine (l _ c).mono ?_;rintro e F ⟨f,r,o,rfl,g⟩;have s:=tF Tu (show lT [97,97,98] r o from g);obtain⟨rfl,rfl⟩:=s;rw[PR];have p:=aa f;go_wp2_with fail;go_ret;exact⟨rfl,i.trans ((c.trans (p.mono c.size)).mono i.size)⟩
abbrev Z6:List Value:=Zq
def ZI (w:World)(e:Ending)(w':World):Prop:=Bw w w'/\∃(nv:Value) (k:Int) (so:Option Addr) (sn sc:Nat) (lo:Option Addr) (ln lc:Nat) (mm nn rr gr:Int) (op:Option Pat),e=.returned (.tuple #[nv,.agg #[Vi k,.slice so sn sc,.slice lo ln lc,Vi mm,Vi nn,Vi rr],Vi gr,.bool true]) /\
 match op with|some p=>p.Ok/\p.wr.length<=4000/\(∃bx A,nv=ar bx/\RX w' A p bx)/\NV w' (λ_=>True) p (bT k so sn sc lo ln lc mm nn rr) 0/\gr=(p.groups:Int)|none=>nv=.pointer none
theorem xv {c0 c1 c2 c3 c4 c5:Value}(h:ag w r Z6 27):ag (put6 w r c0 c1 c2 c3 c4 c5) r [c0,c1,c2,c3,c4,c5] 27:=(((((h.set 0 c0).set 1 c1).set 2 c2).set 3 c3).set 4 c4).set 5 c5
theorem xw {a:World}(h:Below B a w)(hr:B<=r)(c0 c1 c2 c3 c4 c5:Value):Below B a (put6 w r c0 c1 c2 c3 c4 c5):=(((((h.setCell hr _).setCell hr _).setCell hr _).setCell hr _).setCell hr _).setCell hr _
