import Derived.Test.YtebnghmioamheaaGreatDoorM23
import Derived.Test.YtebnghmioamheaaGreatDoorM25
set_option maxHeartbeats 4000000
set_option maxRecDepth 100000
set_option linter.all false
namespace Go.Proofs.YtebnghmioamheaaGreatDoor
open Go.Shelf Go.RowKit Go.Lib Brm Tryz
variable {w w':World}{r lo B bm b k g bx:Nat}{L:List Pat}{p:Pat}{A:NP}
abbrev NN:List Value:=[.nilFunc,.nilFunc]
abbrev put2 (w:World)(r:Nat)(f t:Value):World:=(w.setCell (aD r 0) f).setCell (aD r 1) t
theorem Off.put2 {b r:Nat}{a w:World}(h:Off b a w)(hr:a.heap.size<=r)(f t:Value):Off b a (put2 w r f t):=(h.setNew hr _).setNew hr _
theorem ah.put2 {A:NP}{w:World}{r:Nat}(hr:¬A r)(f t:Value):ah A w (put2 w r f t):=(ah.set _ hr).trans (ah.set _ hr)
theorem ag.put2 {w:World}{b r:Nat}{cs:LV}{T:TypeId}(h:ag w b cs T)(hr:b≠r)(f t:Value):ag (put2 w r f t) b cs T:=(h.setOther hr _).setOther hr _
theorem fC {f t:Value}(h:ag w r NN 132):(put2 w r f t).cell? (aD r 0)=some f/\(put2 w r f t).cell? (aD r 1)=some t:=iJ ((h.set 0 f).set 1 t)
theorem mf {W1 w2 w3 w4 w5:World}{num:Nat}{e f t:Value}{Q:Value->Prop}(hB:B<=bm)(hbm:bm<W1.heap.size)(hr1:B<=r)(hr2:r<W1.heap.size)(h23:Bw w2 w3)(hs:W1.heap.size<=w2.heap.size)(hO:Off bm w3 w4)
  (hbe:ag w4 w3.heap.size [e] 128) (hbn:ag w4 (w3.heap.size+1) [Vi num] 3) (h45:Bw w4 w5) (hL:L[num]?=some p) (hn:num<1000000) (hf:f=Vf 122 #[ar (w3.heap.size+1),ar w3.heap.size])
  (hQ:ah (AB lo B W1) w2 (put2 w5 r f t)->ah (AB lo B W1) w3 (put2 w5 r f t)->Q e):kU (put2 w5 r f t) (AB lo B W1) L p f Q/\ah (AB lo B W1) w2 (put2 w5 r f t):=by
 have i:¬AB lo B W1 r:=λh=>by rcases h with h|h<;>omega
 have j:¬AB lo B W1 bm:=λh=>by rcases h with h|h<;>omega
 have a:ah (AB lo B W1) w4 (put2 w5 r f t):=(ah.below h45).trans (ah.put2 i f t);have d:ah (AB lo B W1) w3 (put2 w5 r f t):=(ah.off hO j).trans a;have c:ah (AB lo B W1) w2 (put2 w5 r f t):=(ah.below h23).trans d;have k:=h23.size;have b:AB lo B W1 (w3.heap.size+1):=.inr (by omega);have g:AB lo B W1 w3.heap.size:=.inr (by omega);exact⟨⟨_,_,e,num,hf,b,g,hbn.keep a b,hbe.keep a g,hL,hn,hQ c d⟩,c⟩
theorem AB.up {W1:World}(h:w.heap.size<=W1.heap.size)(g:Nat)(ha:AB lo B W1 g):AB lo B w g:=by rcases ha with ha|ha;exact .inl ha;exact .inr (zJ h ha)
theorem Dy {kd:Int}{mk:List Pat->Pat}{E:Nat}{Q:World->List Value->Value->Prop}(l:List Pat)(ih:∀p∈l,fH p)(lo B:Nat)(L:List Pat)(hk1:(kd=1/\mk=Pat.row/\E=123/\Q=λw' ys=>Bx w' (AB lo B w) 126 l.length ys)\/(kd=2/\mk=Pat.or/\E=129/\Q=λw' ys=>Bx w' (AB lo B w) 130 l.length ys)\/(kd=3/\mk=Pat.and/\E=131/\Q=λ_ _ v=>v=.func (.func 89) #[] #[]))(hB:B<=bm)(hb:lo<=b/\b<B)(lv:Value)(xs:List Nat)(hnb:ag w b [.int .i64 kd,.slice none 0 0,lv,.int .i64 0,.int .i64 0] 51)(ho:cB w (λx=>lo<=x/\x<B) 47 1 lv l.length (xs.map ar))(hP:PL w (λx=>lo<=x/\x<B) l xs)(h100:l.length<=100)(hm:mF w bm k g)(hL:kF L k (aB l++[mk l]))(hk:k+(aB l).length+1<=1000)(hg:g+groupsL l<=1000):Calls prog 51 #[.pointer (some ⟨bm,0,none⟩),.pointer (some ⟨b,0,none⟩)] w λe w'=>∃F cp G tc,e=.returned (.agg #[.func (.func F) #[] cp,.func (.func G) #[] tc])/\(∃ys,cM w' (AB lo B w) L l ys/\kU w' (AB lo B w) L (mk l) (.func (.func F) #[] cp) (Bx w' (AB lo B w) E l.length ys)/\dI w' (AB lo B w) L l g ys/\Q w' ys (.func (.func G) #[] tc))/\Off bm w w'/\mF w' bm (k+(aB l).length+1) (g+groupsL l):=by
 have b8:=hm.lt;have c5:=hnb.lt;obtain⟨b9,lc,rfl⟩:=ew ho.1;have a:Below w.heap.size w (w.alloc (.cells #[.nilFunc,.nilFunc] 132)):=(zE _ _).alloc (zA _) _;have Y:=aa a;have a2:=aa (ag.new w NN 132);have a8:(w.alloc (.cells #[.nilFunc,.nilFunc] 132)).heap.size=w.heap.size+1:=by simp
 have HC:=aa (mX l ih lo B L _ xs hB (ho.below a) (PL.keep (ah.below a) l xs hP) (hm.below a) hL.left (by omega) hg h100);obtain⟨c0,c1,c2,c3,c4,_⟩:=hnb.five;have W:=aa (hnb.below a);have HL:=aa hL;have HB:=aa hB;have HK:=aa hk;have c7:b≠w.heap.size:=by omega
 clear hnb ho hP hm hL a ih;rcases hk1 with⟨rfl,rfl,rfl,rfl⟩|⟨rfl,rfl,rfl,rfl⟩|⟨rfl,rfl,rfl,rfl⟩
 all_goals
  go_enter func51,ntmps51;go_wp2_with fail;generalize hW:w.alloc (.cells #[.nilFunc,.nilFunc] 132)=W1 at Y a2 a8 HC W ⊢;clear hW c0 c1 c2 c3 c4;refine HC.out.mono ?_;rintro e w2 ⟨n,j,ys,rfl,U,S,V,h,a4⟩;have a6:=aa V;have K:=a2.out.off h (by omega);have Z:=W.out.off h (by omega);obtain⟨c0,c1,c2,c3,c4,_⟩:=Z.five;have X:=aa U;have a5:=aa S;have b5:=aa h;have a9:=aa a4;have b6:=aa K;have N:=h.size;have c9:=K.lt;clear U S V h a4 K Z;go_wp2_with (first
   |((first|(go_at_call 84;refine (Yn _ _ _ _).mono ?_)|(go_at_call 86;refine (Yp _ _ _ _).mono ?_)|(go_at_call 88;refine (Yr _ _ _ _).mono ?_));rintro e C ⟨rfl,H⟩;have d:Below w2.heap.size w2 C:=(by rw[H];exact (zE _ _).alloc (zA _) _);have z:ag C w2.heap.size [.slice n l.length j] 168:=(by rw[H];exact ag.new w2 [.slice n l.length j] 168);have a3:=aa d;have b1:=aa z;have b0:=aa (a9.out.below d);have b2:=aa (b6.out.below d);have c8:=d.size;clear H d z)
   |(go_at_call 83;refine (xx (k+(aB l).length) (g+groupsL l:Nat) _ _ (by omega) b0.out).mono ?_;rintro e m ⟨rfl,s,a1,A,D⟩;have a0:=aa s;have a7:=aa a1;have b3:=aa A;have b4:=aa D;have i:=b2.out.off s (by omega);obtain⟨p0,p1⟩:=iJ i;have p2:=i.frozen 0;have p3:=i.frozen 1;have O:=aa i;have c6:=s.size;clear s a1 A D i)
   |((first|(go_at_call 85;refine (Yo _ _ _ _).mono ?_;obtain⟨T,HT⟩:∃T:Value,Hid (T=.func (.func 126) #[] #[ar m.heap.size]):=⟨_,rfl⟩)|(go_at_call 87;refine (Yq _ _ _ _).mono ?_;obtain⟨T,HT⟩:∃T:Value,Hid (T=.func (.func 130) #[] #[ar m.heap.size]):=⟨_,rfl⟩));rintro e w5 ⟨rfl,M⟩;have J:Below m.heap.size m w5:=(by rw[M];exact (zE _ _).alloc (zA _) _);have R:ag w5 m.heap.size [.slice n l.length j] 168:=(by rw[M];exact ag.new m [.slice n l.length j] 168);have b7:=aa R;have c:=O.out.below J;obtain⟨q0,q1⟩:=iJ c;have q2:=c.frozen 0;have q3:=c.frozen 1;have o:=aa c;have u:=aa J;clear M J c R))
  first|have o:=o|(have o:=O;have u:=aa (zE m.heap.size m);obtain⟨T,HT⟩:∃T:Value,Hid (T=.func (.func 89) #[] #[]):=⟨_,rfl⟩)
  rw[<-HT.out];have hz:=fC (f:=.func (.func 122) #[] #[ar (C.heap.size+1),ar C.heap.size]) (t:=T) o.out;obtain⟨P,I⟩:=mf (W1:=W1) (w2:=w2) (r:=w.heap.size) (t:=T) (Q:=Bx (put2 _ w.heap.size (.func (.func 122) #[] #[ar (C.heap.size+1),ar C.heap.size]) T) (AB lo B W1) _ l.length ys) HB.out (by omega) (by omega) (by omega) a3.out N a0.out b3.out b4.out u.out HL.out.one (by omega) rfl (λk2 k3=>⟨w2.heap.size,_,rfl,.inr N,b1.out.keep k3 (.inr N),X.out.keep k2⟩);refine zN (v:=.agg #[.func (.func 122) #[] #[ar (C.heap.size+1),ar C.heap.size],T]) (by simp[results,results51,go_sem,hz.1,hz.2]) rfl ?_;obtain rfl:=HT.out;exact⟨_,_,_,_,rfl,⟨ys,cM.mono (λq _ y=>AB.up (by omega) q y) l ys (cM.keep I l ys a5.out),kU.mono (λq _ y=>AB.up (by omega) q y) (Bx.mono (λq _ y=>AB.up (by omega) q y)) P,dI.mono (λq _ y=>AB.up (by omega) q y) l g ys (dI.keep I l g ys a6.out),by first|exact rfl|exact⟨m.heap.size,_,rfl,.inr (by omega),b7.out.put2 (by omega) _ _,(X.out.keep I).mono (λq _ y=>AB.up (by omega) q y)⟩⟩,((((Off.below Y.out).trans b5.out).trans ((Off.below a3.out).trans a0.out)).trans (Off.below u.out)).put2 (zA _) _ _,(a7.out.below u.out).put2 (by omega) _ _⟩
theorem dL.form {v:Value}{l:LQ}(h:dL w A v l):∃so sc,v=.slice so l.length sc:=by
 rcases h with⟨rfl,rfl⟩|⟨b,a,c,rfl,_⟩
 ·exact⟨none,0,rfl⟩
 ·exact⟨_,_,rfl⟩
theorem RA (w:World)(A:NP):cB w A 47 1 (Vz) 0 (([]:List Nat).map ar):=⟨zZ _ _ _ _,λg h=>by simp[Value.ownBlock]at h⟩
theorem RC (s:LQ):fH (.set s):=by
 intro u B K b k g L w hB hN U W hk hg;obtain⟨hb,sv,l,T⟩:=hN;obtain⟨Z,sc,rfl⟩:=T.form;have a3:=U.lt;have a7:=l.lt;have j:Bw w (w.alloc (.cells #[.nilFunc,.nilFunc] 132)):=(zE _ _).alloc (zA _) _;have E:=aa j;have H:=aa (ag.new w NN 132);have S:(w.alloc (.cells #[.nilFunc,.nilFunc] 132)).heap.size=w.heap.size+1:=by simp
 have HC:=aa (mX [] (λp hp=>by cases hp) u B L _ [] hB (RA _ _) (show PL _ _ [] []from rfl) (U.below j) (λi q hi=>by simp[aB]at hi) (by simp[aB,aH]at *;omega) (by simp[groupsL,Pat.groups]at *;omega) (by simp));obtain⟨c0,Y,c2,c3,X,_⟩:=l.five;have F:=aa (l.below j);have HL:=aa W;have HB:=aa hB;have HK:=aa hk;have a4:b≠w.heap.size:=by omega
 have M:=aa (T.keep (ah.below j));clear l U W j T;go_enter func51,ntmps51;go_wp2_with fail;generalize hW:w.alloc (.cells #[.nilFunc,.nilFunc] 132)=W1 at E H S HC F M ⊢;clear hW c0 Y c2 c3 X;refine HC.mono ?_;rintro e n ⟨a8,a2,ys,rfl,C,z,_,d,I⟩;have o:=H.off d (by omega);have x:=F.off d (by omega);obtain⟨c0,Y,c2,c3,X,_⟩:=x.five;have a1:=aa C;have a5:=aa z;have D:=aa d;have Q:=aa I;have R:=aa o;have y:=d.size;have a0:=o.lt;clear C z d I o x;replace M:=aa (M.keep (ah.off D (show ¬(u<=K/\K<B) by omega)));go_wp2_with (go_at_call 93;refine (Ys _ _ _ _).mono ?_;rintro e J ⟨rfl,r⟩;have c:Bw n J:=(by rw[r];exact (zE _ _).alloc (zA _) _);have m:ag J n.heap.size [.slice Z s.length sc] 24:=(by rw[r];exact ag.new n [.slice Z s.length sc] 24);have a:=R.below c;obtain⟨p0,p1⟩:=iJ a;have p2:=a.frozen 0;have p3:=a.frozen 1;have O:=aa a;have G:=aa c;have P:=aa m;have N:=aa (Q.below c);have a6:=c.size;clear r c m a);have V:=fC (f:=Vf 137 #[ar n.heap.size]) (t:=Vf 89 #[]) O;have hr:¬AB u B W1 w.heap.size:=λh=>by rcases h with h|h<;>omega
 have k3:ah (AB u B W1) J (put2 J w.heap.size (Vf 137 #[ar n.heap.size]) (Vf 89 #[])):=ah.put2 hr _ _;refine zN (v:=.agg #[Vf 137 #[ar n.heap.size],Vf 89 #[]]) (by simp[results,results51,go_sem,V.1,V.2]) rfl ?_;refine⟨_,_,_,_,rfl,EV.mono (A:=AB u B W1) (λq _ ha=>AB.up (by omega) q ha) (.set s) _ ⟨_,_,rfl,.inr y,P.keep k3 (.inr y),((M.keep (ah.below G)).mono (λq _ hq=>(.inl hq:AB u B W1 q))).keep k3⟩,rfl,(((Off.below E).trans D).trans (Off.below G)).put2 (zA _) _ _,?_⟩;have:=N.put2 (show K≠w.heap.size by omega) (Vf 137 #[ar n.heap.size]) (Vf 89 #[]);have e8:k+(aH (.set s)).length=k+(aB []).length:=by simp[aH,aB]
 have e9:g+(Pat.set s).groups=g+groupsL []:=by simp[groupsL,Pat.groups]
 rw[e8,e9];exact this
theorem RD (hok:p.Ok)(ih:fH p):fH (.not p):=by
 intro lo B bm b k g L w hB hN hm Z hk hg;obtain⟨hb,lv,x,l,X,hp⟩:=hN;obtain⟨c8,lc,rfl⟩:=ew X.1;have c9:k+(aH p).length+1<=1000:=by simp[aH]at hk;omega
 have b6:=hm.lt;have c5:=l.lt;have a:Bw w (w.alloc (.cells #[.nilFunc,.nilFunc] 132)):=(zE _ _).alloc (zA _) _;have J:=aa a;have O:=aa (ag.new w NN 132);have a7:(w.alloc (.cells #[.nilFunc,.nilFunc] 132)).heap.size=w.heap.size+1:=by simp
 have HC:=aa (mX [p] (λq hq=>by rw[yQ.1 hq];exact ih) lo B L _ [x] hB (X.below a) (⟨x,[],rfl,PN.keep (ah.below a) p x hp,rfl⟩) (hm.below a) (show kF L k (aB [p]) by simpa [aB]using Z.left) (by simp[aB];omega) (by simpa [groupsL,Pat.groups]using hg) (by simp));obtain⟨c0,c1,c2,c3,c4,_⟩:=l.five;have K:=aa (l.below a);have HL:=aa Z;have HB:=aa hB;have HK:=aa hk;have b7:b≠w.heap.size:=by omega
 clear l hm Z a ih X hp;go_enter func51,ntmps51;go_wp2_with fail;generalize hW:w.alloc (.cells #[.nilFunc,.nilFunc] 132)=W1 at J O a7 HC K ⊢;clear hW c0 c1 c2 c3 c4;refine HC.mono ?_;rintro e w2 ⟨c6,b5,ys,rfl,I,a3,_,h,P⟩;have u:=O.off h (by omega);have D:=K.off h (by omega);obtain⟨c0,c1,c2,c3,c4,_⟩:=D.five;obtain⟨f',t',r',rfl,⟨G,R,rfl⟩,z,a2⟩:=a3;obtain rfl:r'=[]:=a2;obtain⟨F,S,rfl,eg⟩:=EV.form p f' hok z;obtain⟨pb,b2,a4,c7,b9,e0,e1⟩:=BU I (i:=0) (by simp) (f:=Vf F S) (t:=Vf G R) rfl;cases a4;simp only[Nat.zero_mul,zf]at e0 e1;have a8:=aa z;have a9:=aa h;have W:=aa P;have a5:=aa u;have y:=h.size;have b4:=u.lt;clear I h P u D z;go_wp2_with (first
  |(go_at_call 90;refine (Yt _ _ _ _ _).mono ?_;rintro e j ⟨rfl,C⟩;have c:Bw w2 j:=(by rw[C];exact (zE _ _).alloc (zA _) _);have s:ag j w2.heap.size [Vf F S,Vf G R] 132:=(by rw[C];exact ag.new w2 [Vf F S,Vf G R] 132);have M:=aa c;have V:=aa s;have T:=aa (W.below c);have U:=aa (a5.below c);have b8:=c.size;clear C c s)
  |(go_at_call 83;refine (xx (k+(aB [p]).length) (g+groupsL [p]:Nat) _ _ (by simp[aB];omega) T).mono ?_;rintro e w4 ⟨rfl,m,E,o,n⟩;have N:=aa m;have a6:=aa E;have b1:=aa o;have Y:=aa n;have d:=U.off m (by omega);obtain⟨p0,p1⟩:=iJ d;have p2:=d.frozen 0;have p3:=d.frozen 1;have a1:=aa d;have b3:=m.size;clear m E o n d))
 have hz:=fC (f:=Vf 122 #[ar (j.heap.size+1),ar j.heap.size]) (t:=Vf 89 #[]) a1;have b0:L[k+(aB [p]).length]?=some (.not p):=by
  have h9:kF L k (aH p++[.not p]):=HL.out;simpa [aB]using h9.one
 obtain⟨H,a0⟩:=mf (W1:=W1) (w2:=w2) (r:=w.heap.size) (t:=Vf 89 #[]) (Q:=λe=>∃bi,e=Vf 133 #[ar bi]/\AB lo B W1 bi/\ag (put2 w4 w.heap.size (Vf 122 #[ar (j.heap.size+1),ar j.heap.size]) (Vf 89 #[])) bi [Vf F S,Vf G R] 132) HB.out (by omega) (by omega) (by omega) M.out y N.out b1.out Y.out (zE _ _) b0 (by simp[aB];omega) rfl (λk2 k3=>⟨w2.heap.size,rfl,.inr y,V.keep k3 (.inr y)⟩);refine zN (v:=.agg #[Vf 122 #[ar (j.heap.size+1),ar j.heap.size],Vf 89 #[]]) (by simp[results,results51,go_sem,hz.1,hz.2]) rfl ?_;refine⟨_,_,_,_,rfl,EV.mono (A:=AB lo B W1) (λq _ ha=>AB.up (by omega) q ha) (.not p) _ ⟨_,_,EV.keep a0 p _ a8,H⟩,rfl,(((Off.below J).trans a9).trans ((Off.below M).trans N)).put2 (zA _) _ _,?_⟩;have:=a6.put2 (show bm≠w.heap.size by omega) (Vf 122 #[ar (j.heap.size+1),ar j.heap.size]) (Vf 89 #[]);have e8:k+(aH (.not p)).length=k+(aB [p]).length+1:=by simp[aH,aB];omega
 have e9:g+(Pat.not p).groups=g+groupsL [p]:=by simp[groupsL,Pat.groups]
 rw[e8,e9];exact this
theorem Ll (ih:fH p)(lo B:Nat)(x:Nat)(hB:B<=bm)(hp:PN w (λx=>lo<=x/\x<B) p x)(hm:mF w bm k g)(hL:kF L k (aH p))(hk:k+(aH p).length<=1000)(hg:g+1+p.groups<=1000):Calls prog 81 #[Vp bm,Vp x] w λe w'=>∃F cp G tc,e=.returned (.agg #[Vf F cp,Vf G tc])/\EV w' (AB lo B w) L p (Vf F cp)/\TV w' (AB lo B w) L (.group p) g (Vf G tc)/\Off bm w w'/\mF w' bm (k+(aH p).length) (g+1+p.groups):=by
 have a3:=hm.lt;obtain⟨m0,m1⟩:=iJ hm;have z1:=hm.frozen 1;have a1:bm≠w.heap.size:=by omega
 have e9:(g:Int)+1=((g+1:Nat):Int):=by omega
 have y:mF ((w.setCell (aD bm 1) (Vi ((g:Int)+1))).alloc (.cells #[.nilFunc,.nilFunc] 132)) bm k (g+1):=by rw[e9];exact (hm.set 1 _).alloc _
 have o:Off bm w ((w.setCell (aD bm 1) (Vi ((g:Int)+1))).alloc (.cells #[.nilFunc,.nilFunc] 132)):=((Off.refl _ _).setCell 1 _).alloc _;have R:((w.setCell (aD bm 1) (Vi ((g:Int)+1))).alloc (.cells #[.nilFunc,.nilFunc] 132)).heap.size=w.heap.size+1:=by simp[World.setCell]
 have M:Hid (ag ((w.setCell (aD bm 1) (Vi ((g:Int)+1))).alloc (.cells #[.nilFunc,.nilFunc] 132)) w.heap.size NN 132):=by
  have O:=ag.new (w.setCell (aD bm 1) (Vi ((g:Int)+1))) NN 132;have e:(w.setCell (aD bm 1) (Vi ((g:Int)+1))).heap.size=w.heap.size:=by simp[World.setCell]
  rw[e]at O;exact O
 have HC:=aa (ih lo B bm x k (g+1) L _ hB (PN.keep (ah.off o (show ¬(lo<=bm/\bm<B) by omega)) p x hp) y hL hk hg);have K:=aa o;clear y o hp hm ih e9;go_enter func81,ntmps81;go_wp2_with fail;generalize hW:(w.setCell (aD bm 1) (Vi ((g:Int)+1))).alloc (.cells #[.nilFunc,.nilFunc] 132)=W1 at M R HC K ⊢;clear hW m0 m1 z1;refine HC.mono ?_;rintro e c ⟨F,cp,G,tc,rfl,I,C,l,N⟩;have V:=aa C;have s:=M.off l (by omega);have a2:=l.size;have m:Bw c (c.alloc (.cells #[Vf F cp,Vf G tc] 132)):=(zE _ _).alloc (zA _) _;have H:=aa (s.below m);have a:=aa m;have J:=ag.new c [Vf F cp,Vf G tc] 132;have j:=aa J;have D:=aa I;have Y:=aa l;have Z:=aa N;have a0:=s.lt;clear I C l N s J m;go_wp2_with fail;generalize hW:c.alloc (.cells #[Vf F cp,Vf G tc] 132)=W4 at H a j ⊢;clear hW;obtain⟨x0,x1⟩:=iJ j.out;have a4:=a.size;have a5:=j.lt
 go_region_held3 (λw'=>w'.cell? (aD c.heap.size 0)=some (Vf F cp)/\w'.cell? (aD c.heap.size 1)=some (Vf G tc))
  (first|exact⟨x0,x1⟩|exact W|exact S _ _)
  ((go_at_call 121;refine (Yw _ _ _ _ _ _).mono ?_;rintro e u ⟨rfl,i⟩;have d:Bw W4 u:=(by rw[i];exact ((zE _ W4).drew.alloc (zA _) _).alloc (by simp) _);have z:ag u W4.heap.size [Vf F cp,Vf G tc] 132:=(by rw[i];exact (ag.new W4.drew [Vf F cp,Vf G tc] 132).alloc _);have E:ag u (W4.heap.size+1) [Vi (g:Int)] 3:=(by rw[i];have O:=ag.new (W4.drew.alloc (.cells #[Vf F cp,Vf G tc] 132)) [Vi (g:Int)] 3;simpa using O);have P:=aa z;have Q:=aa E;clear z E;have b:=H.below d;obtain⟨q0,q1⟩:=iJ b;have q2:=b.frozen 0;have q3:=b.frozen 1;have U:=aa b;have n:=aa d;have r:=j.below d;have W:=aa (iJ r);have S:Hid (∀f t,(put2 u w.heap.size f t).cell? (aD c.heap.size 0)=some (Vf F cp)/\(put2 u w.heap.size f t).cell? (aD c.heap.size 1)=some (Vf G tc)):=(λf t=>iJ (r.put2 (by omega) f t));clear i d b r))
 go_wp2_with fail;have hz:=fC (f:=Vf F cp) (t:=Vf 163 #[ar W4.heap.size,ar (W4.heap.size+1)]) U;have hr:¬AB lo B W1 w.heap.size:=λh=>by rcases h with h|h<;>omega
 have X:ah (AB lo B W1) c (put2 u w.heap.size (Vf F cp) (Vf 163 #[ar W4.heap.size,ar (W4.heap.size+1)])):=((ah.below a).trans (ah.below n)).trans (ah.put2 hr _ _);refine zN (v:=.agg #[Vf F cp,Vf 163 #[ar W4.heap.size,ar (W4.heap.size+1)]]) (by simp[results,results81,go_sem,hz.1,hz.2]) rfl ?_;exact⟨_,_,_,_,rfl,EV.mono (A:=AB lo B W1) (λq _ T=>AB.up (by omega) q T) p _ (EV.keep X p _ D),TV.mono (A:=AB lo B W1) (λq _ T=>AB.up (by omega) q T) (.group p) g _ ⟨_,_,_,_,rfl,.inr (by omega),.inr (by omega),P.put2 (by omega) _ _,Q.put2 (by omega) _ _,⟨_,_,rfl⟩,EV.keep X p _ D,TV.keep X p (g+1) _ V⟩,((K.trans Y).trans ((Off.below a).trans (Off.below n))).put2 (zA _) _ _,((Z.below a).below n).put2 (by omega) _ _⟩
theorem Lm (ih:fH p):fH (.group p):=by
 intro s B bm b k g L w Q W E K hk hg;obtain⟨hb,lv,x,j,R,O⟩:=W;obtain⟨pb,Y,rfl,T,U,y0⟩:=As (xs:=[x]) R (i:=0) (x:=x) (by omega) rfl;have a1:=E.lt;have a2:=j.lt;have d:Bw w (w.alloc (.cells #[.nilFunc,.nilFunc] 132)):=(zE _ _).alloc (zA _) _;have n:=aa d;have o:=aa (ag.new w NN 132);have y:(w.alloc (.cells #[.nilFunc,.nilFunc] 132)).heap.size=w.heap.size+1:=by simp
 have M:=aa (Ll ih s B x Q (PN.keep (ah.below d) p x O) (E.below d) K hk (by simp only[Pat.groups]at hg;omega));obtain⟨c0,c1,c2,V,Z,_⟩:=j.five;have HB:=aa Q;have a0:b≠w.heap.size:=by omega
 have a3:pb≠w.heap.size:=by omega
 go_enter func51,ntmps51;go_wp2_with fail;generalize hW:w.alloc (.cells #[.nilFunc,.nilFunc] 132)=W1 at n o y M ⊢;refine M.mono ?_;rintro e w3 ⟨F,P,G,S,rfl,m,l,c,r⟩;have C:=aa l;have a:=o.off c (by omega);have X:=c.size;obtain⟨q0,q1⟩:=iJ a;have q2:=a.frozen 0;have q3:=a.frozen 1;have H:=aa a;have u:=aa m;have D:=aa c;have I:=aa r;go_wp2_with fail;have N:=fC (f:=Vf F P) (t:=Vf G S) H;have J:¬AB s B W1 w.heap.size:=λh=>by rcases h with h|h<;>omega
 refine zN (v:=.agg #[Vf F P,Vf G S]) (by simp[results,results51,go_sem,N.1,N.2]) rfl ?_;refine⟨_,_,_,_,rfl,EV.mono (A:=AB s B W1) (λq _ z=>AB.up (by omega) q z) p _ (EV.keep (ah.put2 J _ _) p _ u),TV.mono (A:=AB s B W1) (λq _ z=>AB.up (by omega) q z) (.group p) g _ (TV.keep (ah.put2 J _ _) (.group p) g _ C),((Off.below n).trans D).put2 (zA _) _ _,?_⟩;have e9:g+(Pat.group p).groups=g+1+p.groups:=by simp only[Pat.groups];omega
 rw[e9];exact I.put2 (by omega) _ _
theorem OI (m n:Int)(hok:p.Ok)(ih:fH p):fH (.many p m n):=by
 intro lo B U b k g L w hB hN hm hL hk hg;obtain⟨hb,lv,x,M,ho,hp⟩:=hN;obtain⟨h4,lc,rfl⟩:=ew ho.1;have h3:k+(aH p).length+1<=1000:=by simp[aH]at hk;omega
 have i0:=hm.lt;have h7:=M.lt;have s:Bw w (w.alloc (.cells #[.nilFunc,.nilFunc] 132)):=(zE _ _).alloc (zA _) _;have c8:=aa s;have c9:=aa (ag.new w NN 132);have e6:(w.alloc (.cells #[.nilFunc,.nilFunc] 132)).heap.size=w.heap.size+1:=by simp
 have HC:=aa (mX [p] (λq hq=>by rw[yQ.1 hq];exact ih) lo B L _ [x] hB (ho.below s) (⟨x,[],rfl,PN.keep (ah.below s) p x hp,rfl⟩) (hm.below s) (show kF L k (aB [p]) by simpa [aB]using hL.left) (by simp[aB];omega) (by simpa [groupsL,Pat.groups]using hg) (by simp));obtain⟨c0,c1,c2,c3,c4,_⟩:=M.five;have d3:=aa (M.below s);have HL:=aa hL;have HB:=aa hB;have HK:=aa hk;have h5:b≠w.heap.size:=by omega
 clear M hm hL s ih ho hp;go_enter func51,ntmps51;go_wp2_with fail;generalize hW:w.alloc (.cells #[.nilFunc,.nilFunc] 132)=W1 at c8 c9 e6 HC d3 ⊢;clear hW c0 c1 c2 c3 c4;refine HC.mono ?_;rintro e w2 ⟨h0,h8,ys,rfl,d0,g2,g1,z,d2⟩;have W:=c9.off z (by omega);have a4:=d3.off z (by omega);obtain⟨c0,c1,c2,c3,c4,_⟩:=a4.five;obtain⟨f',t',r',rfl,⟨G,l,rfl⟩,Z,f2⟩:=g2;obtain rfl:r'=[]:=f2;obtain⟨f9,t9,r9,e9,_,_,b5,_⟩:=g1;cases e9;have d8:=aa b5;clear b5;obtain⟨F,o,rfl,eg⟩:=EV.form p f' hok Z;obtain⟨H,g7,f1,b7,b3,e0,e1⟩:=BU d0 (i:=0) (by simp) (f:=Vf F o) (t:=Vf G l) rfl;cases f1;simp only[Nat.zero_mul,zf]at e0 e1;have c6:=aa Z;have g5:=aa z;have d9:=aa d2;have e5:=aa W;have V:=z.size;have g9:=W.lt;have P:=a4.lt;have h6:H≠w.heap.size:=λe=>by rcases b3 with h|h<;>omega
 have a6:H≠U:=λe=>by rcases b3 with h|h<;>omega
 have g8:b≠w.heap.size:=by omega
 have S:b≠U:=by omega
 have j:Hid (∀c,Off U w2 c->c.cell? (aD b 3)=some (Vi m)/\c.cell? (aD b 4)=some (Vi n)/\c.cell? (aD H 0)=some (Vf F o)/\c.cell? (aD H 1)=some (Vf G l)):=λc h=>⟨(h.cell (p:=(aD b 3)) P S).trans c3,(h.cell (p:=(aD b 4)) P S).trans c4,(h.cell (p:=(aD H 0)) b7 a6).trans e0,(h.cell (p:=(aD H 1)) b7 a6).trans e1⟩;have a9:Hid (∀c f t,Off U w2 c->(put2 c w.heap.size f t).cell? (aD b 3)=some (Vi m)/\(put2 c w.heap.size f t).cell? (aD b 4)=some (Vi n)/\(put2 c w.heap.size f t).cell? (aD H 0)=some (Vf F o)/\(put2 c w.heap.size f t).cell? (aD H 1)=some (Vf G l)):=λc f t h=>by
  obtain⟨a0,a1,a2,a3⟩:=j.out c h;refine⟨?_,?_,?_,?_⟩
  ·rw[zw _ _ _ _ (by simp;omega),zw _ _ _ _ (by simp;omega)];exact a0
  ·rw[zw _ _ _ _ (by simp;omega),zw _ _ _ _ (by simp;omega)];exact a1
  ·rw[zw _ _ _ _ (by simp;omega),zw _ _ _ _ (by simp;omega)];exact a2
  ·rw[zw _ _ _ _ (by simp;omega),zw _ _ _ _ (by simp;omega)];exact a3
 clear d0 z d2 W a4 Z;go_wp2_with fail
 go_region_held3 (λc=>c.cell? (aD b 3)=some (Vi m)/\c.cell? (aD b 4)=some (Vi n)/\c.cell? (aD H 0)=some (Vf F o)/\c.cell? (aD H 1)=some (Vf G l))
  (first|exact⟨c3,c4,e0,e1⟩|exact d6|exact e4|exact d5|exact d7 _ _)
  (first
  |(go_at_call 91;refine (Yu _ _ _ _ _ _ _).mono ?_;rintro e d ⟨rfl,C⟩;have u:Bw w2 d:=(by rw[C];exact (((zE _ w2).drew.alloc (zA _) _).alloc (by simp) _).alloc (by simp;omega) _);have b9:ag d w2.heap.size [Vf F o,Vf G l] 132:=(by rw[C];exact ((ag.new w2.drew [Vf F o,Vf G l] 132).alloc _).alloc _);have c5:ag d (w2.heap.size+1) [Vi m] 3:=(by rw[C];have J:=(ag.new (w2.drew.alloc (.cells #[Vf F o,Vf G l] 132)) [Vi m] 3).alloc (.cells #[Vi n] 3);simpa using J);have a5:ag d (w2.heap.size+2) [Vi n] 3:=(by rw[C];have J:=ag.new ((w2.drew.alloc (.cells #[Vf F o,Vf G l] 132)).alloc (.cells #[Vi m] 3)) [Vi n] 3;simpa using J);have a7:=aa u;have f5:=aa b9;have f6:=aa c5;have f0:=aa a5;have f8:=aa (d9.below u);have e7:=aa (e5.below u);have d4:Hid (Off U w2 d):=Off.below u;have d6:=aa (j d d4);have h1:=u.size;clear C u b9 c5 a5)
  |(go_at_call 83;refine (xx (k+(aB [p]).length) (g+groupsL [p]:Nat) _ _ (by simp[aB];omega) f8).mono ?_;rintro e a ⟨rfl,D,d1,O,N⟩;have a8:=aa D;have f3:=aa d1;have g0:=aa O;have g6:=aa N;have g4:=aa (e7.off D (by omega));have T:=aa (d4.trans D);have e4:=aa (j a T);have h2:=D.size;clear D d1 O N)
  |(go_at_call 92;refine (Yv _ _ _ _ _ _ _).mono ?_;rintro e K ⟨rfl,E⟩;have I:Bw a K:=(by rw[E];exact (((zE _ a).alloc (zA _) _).alloc (by simp) _).alloc (by simp;omega) _);have b4:ag K a.heap.size [Vf F o,Vf G l] 132:=(by rw[E];exact ((ag.new a [Vf F o,Vf G l] 132).alloc _).alloc _);have c7:ag K (a.heap.size+1) [Vi m] 3:=(by rw[E];have J:=(ag.new (a.alloc (.cells #[Vf F o,Vf G l] 132)) [Vi m] 3).alloc (.cells #[Vi n] 3);simpa using J);have b6:ag K (a.heap.size+2) [Vi n] 3:=(by rw[E];have J:=ag.new ((a.alloc (.cells #[Vf F o,Vf G l] 132)).alloc (.cells #[Vi m] 3)) [Vi n] 3;simpa using J);have e3:=aa b4;have f4:=aa c7;have g3:=aa b6;clear b4 c7 b6;have y:=g4.below I;obtain⟨q0,q1⟩:=iJ y;have q2:=y.frozen 0;have q3:=y.frozen 1;have f7:=aa y;have X:=aa I;have R:=aa (T.trans (Off.below I));have d5:=aa (j K R);have d7:=aa (λf t=>a9 K f t R);clear E I y))
 all_goals go_wp2_with fail
 have hz:=fC (f:=Vf 122 #[ar (d.heap.size+1),ar d.heap.size]) (t:=Vf 135 #[ar a.heap.size,ar (a.heap.size+1),ar (a.heap.size+2)]) f7;have e2:L[k+(aB [p]).length]?=some (.many p m n):=by
  have J:kF L k (aH p++[.many p m n]):=HL.out;simpa [aB]using J.one
 obtain⟨b8,Y⟩:=mf (W1:=W1) (w2:=w2) (r:=w.heap.size) (t:=Vf 135 #[ar a.heap.size,ar (a.heap.size+1),ar (a.heap.size+2)]) (Q:=λe=>∃b0 b1 b2,e=Vf 134 #[ar b0,ar b1,ar b2]/\AB lo B W1 b0/\AB lo B W1 b1/\AB lo B W1 b2/\ag (put2 K w.heap.size (Vf 122 #[ar (d.heap.size+1),ar d.heap.size]) (Vf 135 #[ar a.heap.size,ar (a.heap.size+1),ar (a.heap.size+2)])) b0 [Vi m] 3/\ag (put2 K w.heap.size (Vf 122 #[ar (d.heap.size+1),ar d.heap.size]) (Vf 135 #[ar a.heap.size,ar (a.heap.size+1),ar (a.heap.size+2)])) b1 [Vf F o,Vf G l] 132/\ag (put2 K w.heap.size (Vf 122 #[ar (d.heap.size+1),ar d.heap.size]) (Vf 135 #[ar a.heap.size,ar (a.heap.size+1),ar (a.heap.size+2)])) b2 [Vi n] 3) HB.out (by omega) (by omega) (by omega) a7.out V a8.out g0.out g6.out X.out e2 (by simp[aB];omega) rfl
  (λ_ k3=>⟨w2.heap.size+1,w2.heap.size,w2.heap.size+2,rfl,.inr (by omega),.inr V,.inr (by omega),f6.keep k3 (.inr (by omega)),f5.keep k3 (.inr V),f0.keep k3 (.inr (by omega))⟩)
 refine zN (v:=.agg #[Vf 122 #[ar (d.heap.size+1),ar d.heap.size],Vf 135 #[ar a.heap.size,ar (a.heap.size+1),ar (a.heap.size+2)]]) (by simp[results,results51,go_sem,hz.1,hz.2]) rfl ?_;refine⟨_,_,_,_,rfl,EV.mono (A:=AB lo B W1) (λq _ ha=>AB.up (by omega) q ha) (.many p m n) _ ⟨_,_,EV.keep Y p _ c6,b8⟩,TV.mono (A:=AB lo B W1) (λq _ ha=>AB.up (by omega) q ha) (.many p m n) g _ ⟨_,_,_,_,_,rfl,.inr (by omega),.inr (by omega),.inr (by omega),e3.put2 (by omega) _ _,f4.put2 (by omega) _ _,g3.put2 (by omega) _ _,⟨_,_,rfl⟩,EV.keep Y p _ c6,TV.keep Y p g _ d8⟩,(((Off.below c8).trans g5).trans (((Off.below a7).trans a8).trans (Off.below X))).put2 (zA _) _ _,?_⟩;have:=(f3.below X).put2 (show U≠w.heap.size by omega) (Vf 122 #[ar (d.heap.size+1),ar d.heap.size]) (Vf 135 #[ar a.heap.size,ar (a.heap.size+1),ar (a.heap.size+2)]);have e8:k+(aH (.many p m n)).length=k+(aB [p]).length+1:=by simp[aH,aB];omega
 have e9:g+(Pat.many p m n).groups=g+groupsL [p]:=by simp[groupsL,Pat.groups]
 rw[e8,e9];exact this
theorem NJ {e:Ending}(h:Ar p lo B bm k g L w e w'):Ar (.or [p]) lo B bm k g L w e w':=by
 obtain⟨F,c,G,a,rfl,b,i,f,d⟩:=h;exact⟨F,c,G,a,rfl,⟨by simp,_,⟨_,_,[],rfl,⟨G,a,rfl⟩,b,rfl⟩,.inl ⟨rfl,_,rfl⟩⟩,⟨_,⟨_,_,[],rfl,⟨G,a,rfl⟩,b,i,rfl⟩,.inl ⟨rfl,_,rfl⟩⟩,f,by simpa [aH,aB,Pat.groups,groupsL]using d⟩
theorem KN {e:Ending}(h:Ar p lo B bm k g L w e w'):Ar (.and [p]) lo B bm k g L w e w':=by
 obtain⟨F,c,G,a,rfl,b,i,f,d⟩:=h;exact⟨F,c,G,a,rfl,⟨by simp,_,⟨_,_,[],rfl,⟨G,a,rfl⟩,b,rfl⟩,.inl ⟨rfl,_,rfl⟩⟩,⟨_,⟨_,_,[],rfl,⟨G,a,rfl⟩,b,i,rfl⟩,.inl ⟨rfl,_,rfl⟩⟩,f,by simpa [aH,aB,Pat.groups,groupsL]using d⟩
mutual
theorem nl:∀(p:Pat),p.Ok->fH p
 |.set s,_=>RC s
 |.row l,h=>by
  have v:=oA l h;intro u B z b k g L w t E y i D q;obtain⟨J,a,S,R,c,Q,A⟩:=E;have j:(aH (.row l)).length=(aB l).length+1:=by simp[aH]
  refine (Dy l v u B L (.inl ⟨rfl,rfl,rfl,rfl⟩) t J S R c Q A a y i (by omega) q).mono ?_;rintro e V ⟨F,O,G,N,rfl,⟨o,K,M,d,f⟩,H,P⟩;exact⟨F,O,G,N,rfl,⟨a,o,K,M⟩,⟨o,d,f⟩,H,by rw[j];exact P⟩
 |.or l,h=>by
  have v:=oA l h.1;intro u B z b k g L w t E y i D q;obtain⟨a,R,A,⟨T,rfl⟩|⟨C,J,S,c,Q⟩⟩:=E
  ·obtain⟨p,rfl⟩:=zy.1 T;obtain⟨x,r,e,U,_⟩:=A;cases e;have j:aH (.or [p])=aH p:=by simp[aH,aB]
   rw[j]at i D;exact (v p (by simp) u B z b k g L w t U y i D (by simpa [Pat.groups,groupsL]using q)).mono (λ_ _ h=>NJ h)
  ·have I:aH (.or l)=aB l++[.or l]:=by simp only[aH,zR C]
   have j:(aH (.or l)).length=(aB l).length+1:=by rw[I];simp
   refine (Dy l v u B L (.inr (.inl ⟨rfl,rfl,rfl,rfl⟩)) t J S R c Q A a y (by rw[I]at i;exact i) (by omega) q).mono ?_;rintro e V ⟨F,O,G,N,rfl,⟨o,K,M,d,f⟩,H,P⟩;exact⟨F,O,G,N,rfl,⟨a,o,K,.inr ⟨C,M⟩⟩,⟨o,d,.inr ⟨C,f⟩⟩,H,by rw[j];exact P⟩
 |.and l,h=>by
  have v:=oA l h.1;intro u B z b k g L w t E y i D q;obtain⟨a,R,A,⟨T,rfl⟩|⟨C,J,S,c,Q⟩⟩:=E
  ·obtain⟨p,rfl⟩:=zy.1 T;obtain⟨x,r,e,U,_⟩:=A;cases e;have j:aH (.and [p])=aH p:=by simp[aH,aB]
   rw[j]at i D;exact (v p (by simp) u B z b k g L w t U y i D (by simpa [Pat.groups,groupsL]using q)).mono (λ_ _ h=>KN h)
  ·have I:aH (.and l)=aB l++[.and l]:=by simp only[aH,zR C]
   have j:(aH (.and l)).length=(aB l).length+1:=by rw[I];simp
   refine (Dy l v u B L (.inr (.inr ⟨rfl,rfl,rfl,rfl⟩)) t J S R c Q A a y (by rw[I]at i;exact i) (by omega) q).mono ?_;rintro e V ⟨F,O,G,N,rfl,⟨o,K,M,d,f⟩,H,P⟩;exact⟨F,O,G,N,rfl,⟨a,o,K,.inr ⟨C,M⟩⟩,⟨o,d,.inr ⟨C,f⟩⟩,H,by rw[j];exact P⟩
 |.not p,h=>RD h (nl p h)
 |.many p m n,h=>OI m n h.1 (nl p h.1)
 |.group p,h=>Lm (nl p h)
theorem oA:∀(l:List Pat),jr l->∀p∈l,fH p
 | [],_=>λp h=>by cases h
 |q::l,hk=>by
  have b:=nl q hk.1;have a:=oA l hk.2;intro p h;rcases zO.1 h with rfl|h
  ·exact b
  ·exact a p h
end
theorem NK {bs:List UInt8}{er place:Int}(h:jW bs (er,place,some p)):(aH p).length<=1000/\p.groups<=1000:=by
 rcases h with⟨_,h⟩|⟨_,_,_,h⟩|⟨e,l,f,h⟩
 ·cases h
 ·cases h
 ·have b:=eB f;unfold dz at h;have c:=JF false (l.length+1) l;have a:=Km false (l.length+1) l
  split at h
  ·cases h
  ·cases h
  ·rename_i q heq
   rw[heq]at c a
   split at h
   ·cases h
   ·cases h;have g:(aH p).length+3*0<=1+3*l.length:=c;have d:p.groups+3*0<=1+3*l.length:=a;omega
theorem Ra (p:Pat)(hok:p.Ok)(lo b:Nat)(w:World)(hlo:lo<=w.heap.size)(hN:PN w (λx=>lo<=x) p b)(hc:(aH p).length<=1000)(hg:p.groups<=1000):Calls prog 23 #[Vp b] w λe w'=>∃bp,e=.returned (ar bp)/\PT w' (λx=>lo<=x) p bp/\Bw w w'/\w.heap.size<=bp/\PK w' (λx=>lo<=x) p bp:=by
 have n:Bw w (w.alloc (.cells #[Vi 0,Vi 0] 126)):=(zE _ _).alloc (zA _) _;have v:mF (w.alloc (.cells #[Vi 0,Vi 0] 126)) w.heap.size 0 0:=ag.new w [Vi 0,Vi 0] 126;have H:=aa (nl p hok lo w.heap.size w.heap.size b 0 0 (aH p) (w.alloc (.cells #[Vi 0,Vi 0] 126)) (zA _) (PN.keep (ah.below n) p b (PN.mono (λq R h=>⟨h,R⟩) p b hN)) v (λi q M=>by simpa using M) (by omega) (by omega));have m:=aa n;have s:=aa hc;have z:=aa hg;go_enter func23,ntmps23;go_wp2_with fail;generalize hW:w.alloc (.cells #[Vi 0,Vi 0] 126)=W1 at H m ⊢;refine H.mono ?_;rintro e d ⟨F,c,G,a,rfl,u,y,l,j⟩;have B:=aa y;simp only[zf]at j;obtain⟨I,J⟩:=iJ j;have r:=j.lt;have K:w.heap.size≠d.heap.size:=by omega
 have C:=aa u;have D:=aa l;have N:=l.size;have E:=m.size;have L:(d.alloc (.cells #[Vf F c,Vf G a] 132)).cell? (aD d.heap.size 0)=some (Vf F c):=(iJ (ag.new d [Vf F c,Vf G a] 132)).1;have S:(d.alloc (.cells #[Vf F c,Vf G a] 132)).cell? (aD d.heap.size 1)=some (Vf G a):=(iJ (ag.new d [Vf F c,Vf G a] 132)).2;have k:Bw d (d.alloc (.cells #[Vf F c,Vf G a] 132)):=(zE _ _).alloc (zA _) _;have O:=(k.cell (p:=(aD w.heap.size 0)) r).trans I;have P:=(k.cell (p:=(aD w.heap.size 1)) r).trans J;have f:=aa k;go_wp2_with fail;generalize hW:d.alloc (.cells #[Vf F c,Vf G a] 132)=W4 at L S O P f ⊢;have Q:=f.size
 try go_region
 try go_wp2_with fail
 go_ret;have o:Bw W4 (W4.drew.alloc (.cells #[Vf F c,Vf G a,Vi (aH p).length,Vi p.groups] 135)):=(zE _ W4).drew.alloc (zA _) _;have t:EV (W4.drew.alloc (.cells #[Vf F c,Vf G a,Vi (aH p).length,Vi p.groups] 135)) (λx=>lo<=x) (aH p) p (Vf F c):=EV.mono (λq _ g=>by rcases g with g|g;exact g.1;show lo<=q;omega) p _ (EV.keep ((ah.below f).trans (ah.below o)) p _ C);have A:TV (W4.drew.alloc (.cells #[Vf F c,Vf G a,Vi (aH p).length,Vi p.groups] 135)) (λx=>lo<=x) (aH p) p 0 (Vf G a):=TV.mono (λq _ g=>by rcases g with g|g;exact g.1;show lo<=q;omega) p _ _ (TV.keep ((ah.below f).trans (ah.below o)) p _ _ B);exact⟨W4.heap.size,rfl,⟨by show lo<=_;omega,_,_,_,ag.new W4.drew [Vf F c,Vf G a,Vi (aH p).length,Vi p.groups] 135,t,s⟩,(m.trans (D.toBelow (zA _) E)).trans ((f.mono (by omega)).trans (o.mono (by omega))),by omega,⟨by show lo<=_;omega,_,_,ag.new W4.drew [Vf F c,Vf G a,Vi (aH p).length,Vi p.groups] 135,⟨_,_,rfl⟩,t,A,s,z⟩⟩
def rH (w:World):Prop:=jz w/\TabAt 2 Lib.deBruijn64tab w
theorem rH.below {w w':World}(h:rH w)(k:Bw w w'):rH w':=⟨h.1.below k,λj a=>(k.cell (nh (h.2 j a))).trans (h.2 j a)⟩
theorem PT.below {w w':World}{A:NP}{p:Pat}{bp:Nat}(h:PT w A p bp)(k:Bw w w'):PT w' A p bp:=by
 obtain⟨a,f,t,g,b,c,d⟩:=h;exact⟨a,f,t,g,b.below k,EV.keep (ah.below k) p f c,d⟩
def RX (w:World)(A:Nat->Prop)(p:Pat)(bx:Nat):Prop:=A bx/\∃v0 v1 v2 v3 v4 bp x,ag w bx [v0,v1,v2,v3,v4,ar bp] 54/\(A x/\ag w x [v0,v1,v2,v3,v4] 51)/\PN w A p x/\PT w A p bp/\PK w A p bp
theorem RX.keep {w w':World}{A:NP}{p:Pat}{bx:Nat}(h:RX w A p bx)(k:ah A w w'):RX w' A p bx:=by
 obtain⟨c,m,e,j,d,i,q,x,o,a,r,l,n⟩:=h;obtain⟨b,f,t,g,s,u,v⟩:=l;exact⟨c,m,e,j,d,i,q,x,o.keep k c,⟨a.1,a.2.keep k a.1⟩,PN.keep k p x r,⟨b,f,t,g,s.keep k b,EV.keep k p f u,v⟩,n.keep k⟩
theorem RX.below {w w':World}{A:NP}{p:Pat}{bx:Nat}(h:RX w A p bx)(k:Bw w w'):RX w' A p bx:=h.keep (ah.below k)
theorem PN.five {w:World}{A:NP}:∀(p:Pat) (b:Nat),PN w A p b->p.Ok->∃v0 v1 v2 v3 v4,ag w b [v0,v1,v2,v3,v4] 51
 |.set s,b,h,_=>by obtain⟨g,u,a,t⟩:=h;exact⟨_,_,_,_,_,a⟩
 |.row l,b,h,_=>by obtain⟨g,_,i,k,a,j,c⟩:=h;exact⟨_,_,_,_,_,a⟩
 |.or [],b,h,hk=>absurd rfl hk.2
 |.or [p],b,h,hk=>by
  obtain⟨_,k,c,f⟩:=h;rcases f with⟨_,rfl⟩|⟨d,_⟩
  ·obtain⟨x,r,e,o,_⟩:=c;cases e;exact PN.five p b o hk.1.1
  ·exact absurd rfl d
 |.or (p::q::l),b,h,hk=>by
  obtain⟨_,k,c,f⟩:=h;rcases f with⟨d,_⟩|⟨d,g,i,a,j⟩
  ·simp at d
  ·exact⟨_,_,_,_,_,a⟩
 |.and [],b,h,hk=>absurd rfl hk.2
 |.and [p],b,h,hk=>by
  obtain⟨_,k,c,f⟩:=h;rcases f with⟨_,rfl⟩|⟨d,_⟩
  ·obtain⟨x,r,e,o,_⟩:=c;cases e;exact PN.five p b o hk.1.1
  ·exact absurd rfl d
 |.and (p::q::l),b,h,hk=>by
  obtain⟨_,k,c,f⟩:=h;rcases f with⟨d,_⟩|⟨d,g,i,a,j⟩
  ·simp at d
  ·exact⟨_,_,_,_,_,a⟩
 |.not p,b,h,_=>by obtain⟨g,i,x,a,j,c⟩:=h;exact⟨_,_,_,_,_,a⟩
 |.many p m n,b,h,_=>by obtain⟨g,i,x,a,j,c⟩:=h;exact⟨_,_,_,_,_,a⟩
 |.group p,b,h,_=>by obtain⟨g,i,x,a,j,c⟩:=h;exact⟨_,_,_,_,_,a⟩
theorem IP (s:ByteArray)(hT:rH w)(hm:s.size<=9223372036854775807):Calls prog 24 #[.string s] w λe w'=>Bw w w'/\∃er ol,e=.returned (Vi er)/\lT (af s) er ol:=by
 have n:=aa (aL s);by_cases h:s.size<=40
 ·have p:decide ((40:Int)<(s.size:Int))=false:=zI (by omega);have c:Hid ((af s).length<=40):=by show _<=_;rw[n.out];exact h
  have j:=aa (Nr s w hm (hT.1.2 w (λ_ _=>rfl)));have i:Hid ((Lib.validD s.data.toList=true/\∃l,Runes (af s) l)\/(Lib.validD s.data.toList=false/\∃k,Broken (af s) k)):=by
   rcases Eo (af s).length (af s) (zA _)with⟨l,g⟩|⟨k,f⟩
   ·exact .inl ⟨IK g _ (zA _),l,g⟩
   ·exact .inr ⟨Gy f _ (zA _),k,f⟩
  generalize Lib.validD s.data.toList=b at j i;rcases i.out with⟨rfl,l,g⟩|⟨rfl,k,f⟩
  ·have m:=aa g;go_enter func24,ntmps24;go_wp2_with (go_at_call 52;refine j.mono ?_;rintro e o ⟨rfl,a⟩;have d:=aa a);go_ret;exact⟨d,0,some l,rfl,.inr (.inr ⟨c,l,m,rfl,rfl⟩)⟩
  ·have m:=aa f;go_enter func24,ntmps24;go_wp2_with (go_at_call 52;refine j.mono ?_;rintro e o ⟨rfl,a⟩;have d:=aa a);go_ret;exact⟨d,3,none,rfl,.inr (.inl ⟨c,⟨k,m⟩,rfl,rfl⟩)⟩
 ·have p:decide ((40:Int)<(s.size:Int))=true:=zv (by omega);have c:Hid (40<(af s).length):=by show _<_;rw[n.out];omega
  go_enter func24,ntmps24;go_wp2;go_ret;exact⟨zE _ _,2,none,rfl,.inl ⟨c,rfl,rfl⟩⟩
theorem Ug (s:ByteArray)(w:World){l:LZ}(h:Runes (af s) l)(hl:l.length<=40):∃rc W2,(convert 9 71 (.string s)).run prog w=.ok (Vs w.heap.size l.length rc) W2/\ud W2 (λ_=>False) (some (aD w.heap.size 0)) l/\Bw w W2:=by
 have e:=MP s h;have a:=run_runes_of_string (P:=prog) w 9 71 21 s underlying9 underlying71 underlying21 (by rw[e];simp;omega);rw[e]at a;have b:((l.map (Value.int .i32)).toArray).size=l.length:=by simp
 rw[b]at a;refine⟨_,_,a,λi x c=>⟨w.heap.size,0,rfl,λh=>h,by simp,?_⟩,(zE _ w).drew.alloc (zA _) _⟩;have d:i<l.length:=(zC.1 c).1;have f:ag (w.drew.alloc (.cells ((l.map (Value.int .i32)).toArray++Array.replicate (grownCap w l.length 0 21-l.length) (.int .i32 0)) 21)) w.heap.size (l.map (Value.int .i32)++List.replicate (grownCap w l.length 0 21-l.length) (.int .i32 0)) 21:=by
  have:=ag.new w.drew (l.map (Value.int .i32)++List.replicate (grownCap w l.length 0 21-l.length) (.int .i32 0)) 21;rw[<-List.append_toArray,List.toArray_replicate]at this;exact this
 rw[f.cell,zf,yY (by simpa using d),zg,c];rfl
theorem CW (s:ByteArray)(hT:rH w)(hm:s.size<=9223372036854775807):Calls prog 11 #[.string s] w λe w'=>Bw w w'/\∃nv er place op,jW (af s) (er,place,op)/\e=.returned (.tuple #[nv,Vi er,Vi place])/\match op with|some p=>∃bx,nv=ar bx/\RX w' (dp w) p bx|none=>nv=.pointer none:=by
 have Z:=aa (NC s hT.1 hm);go_enter func11,ntmps11;go_wp2_with fail;refine Z.mono ?_;rintro e b ⟨t,nv,er,place,op,q,rfl,l⟩;have d:=aa t;have z:=aa q;cases op with
 |none=>
  have U:(er==0)=false:=zD.2 (qM q);have y:nv=.pointer none:=l;subst y;go_wp2;refine zN (v:=.tuple #[.pointer none,Vi er,Vi place]) (by simp[results,results11,go_sem]) rfl ?_;exact⟨d,_,_,_,none,z,rfl,rfl⟩
 |some p=>
  obtain⟨rfl,rfl,f,A⟩:=qL q;obtain⟨R,S⟩:=NK q;obtain⟨x,rfl,u⟩:=l;obtain⟨k,h,j,g,i,E⟩:∃k h j g i,ag b x [k,h,j,g,i] 51:=PN.five p x u f;obtain⟨T,Y,c2,V,c4,a5⟩:=E.five;have P:=aa E;have G:=aa (PN.lt p x u f).1;have W:=aa (λ(w':World) (hb:Bw b w')=>Ra p f w.heap.size x w' (zJ d.size hb.size) (PN.keep (ah.below hb) p x u) R S);have X:=aa u;go_wp2_with fail
  go_region_held3 (λw'=>Bw b w'/\w'.cell? (aD x 0)=some k/\w'.cell? (aD x 1)=some h/\w'.cell? (aD x 2)=some j/\w'.cell? (aD x 3)=some g/\w'.cell? (aD x 4)=some i)
   (first|exact⟨(zE _ _).drew,T,Y,c2,V,c4⟩|exact M|exact F _)
   ((go_at_call 23;refine (W _ (‹Bw b _/\_›.1)).mono ?_;rintro e a ⟨N,rfl,C,B,Q,r⟩;have I:=aa r;have c:Bw b a:=(‹Bw b _/\_›.1).trans (B.mono (‹Bw b _/\_›.1).size);have F:Hid (∀o,Bw b (a.alloc o)/\(a.alloc o).cell? (aD x 0)=some k/\(a.alloc o).cell? (aD x 1)=some h/\(a.alloc o).cell? (aD x 2)=some j/\(a.alloc o).cell? (aD x 3)=some g/\(a.alloc o).cell? (aD x 4)=some i):=(λo=>by have n:=c.alloc c.size o;obtain⟨D,J,K,L,H,_⟩:=(P.out.below n).five;exact⟨n,D,J,K,L,H⟩);have M:Hid (Bw b a/\a.cell? (aD x 0)=some k/\a.cell? (aD x 1)=some h/\a.cell? (aD x 2)=some j/\a.cell? (aD x 3)=some g/\a.cell? (aD x 4)=some i):=(by obtain⟨D,J,K,L,H,_⟩:=(P.out.below c).five;exact⟨c,D,J,K,L,H⟩);have O:=aa C;have m:=aa c))
  all_goals go_wp2_with fail
  have n:=m.alloc m.size (.cells #[k,h,j,g,i,ar N] 54);refine zN (v:=.tuple #[ar a.heap.size,Vi 0,Vi 0]) (by simp[results,results11,go_sem]) rfl ?_;exact⟨d.trans (n.mono d.size),_,0,0,some p,z,rfl,a.heap.size,rfl,zJ d.size m.size,k,h,j,g,i,N,x,ag.new a [k,h,j,g,i,ar N] 54,⟨G,P.below n⟩,PN.keep (ah.below n) p x X,O.below ((zE _ a).alloc (zA _) _),I.keep (ah.below ((zE _ a).alloc (zA _) _))⟩
theorem vG (hok:p.Ok)(s:ByteArray)(hX:RX w A p bx)(hT:rH w)(hm:s.size<=9223372036854775807):Calls prog 12 #[Vp bx,.string s] w λe w'=>Bw w w'/\∃er ol,e=.returned (.tuple #[.bool (Aw p ol),Vi er])/\lT (af s) er ol:=by
 have F:=aa (IP s hT hm);have J:=aa hX;have I:=aa hT;go_enter func12,ntmps12;go_wp2_with fail;refine F.mono ?_;rintro e r ⟨b,er,ol,rfl,a⟩;have f:=aa b;have n:=aa a;cases ol with
 |none=>
  have D:(er==0)=false:=zD.2 (Mv a);go_wp2;refine zN (v:=.tuple #[.bool false,Vi er]) (by simp[results,results12,go_sem]) rfl ?_;exact⟨f,er,none,rfl,n⟩
 |some l=>
  have G:=Mw a;subst G;obtain⟨m,d⟩:l.length<=40/\Runes (af s) l:=by
   rcases a with⟨_,_,h⟩|⟨_,_,_,h⟩|⟨H,Q,z,_,h⟩
   ·cases h
   ·cases h
   ·cases h;exact⟨zJ (eB z) H,z⟩
  obtain⟨E,C,t,k,c⟩:=Ug s r d m;obtain⟨_,P,L,N,K,M,y,x,u,_,_,g,_⟩:=J.out.below b;have R:r.cell? (aD bx 5)=some (Vp y):=by rw[u.cell];rfl
  have B:=aa (Pr hok E (g.below c) m (db d) ((I.below b).below c).2 k);have i:=aa c;have o:Hid (mT p l 0 l.length=Aw p (some l)):=rfl;generalize mT p l 0 l.length=MB at B o;go_wp2_with (go_at_call 25;refine B.mono ?_;rintro e O ⟨rfl,j⟩;have q:=aa j);refine zN (v:=.tuple #[.bool MB,Vi 0]) (by simp[results,results12,go_sem]) rfl ?_;exact⟨f.trans ((i.trans (q.mono i.size)).mono f.size),0,some l,by rw[o.out],n⟩
def uK:List UInt8:=[126,40,46,42,97,97,46,42,41,38,97,46,42,98]
def lB:Pat:=match aU false 15 (uK.map λx=>(x.toNat:Int))with|.ok p _=>p|.bad _=>.row []
def Ts:Pat:=.many (.set tm) 0 (-1)
def Kd (c:Int):Pat:=.set [(c,c)]
theorem vw:lB=.or [.and [.row [.not (.group (.or [.and [.row [Ts,Kd 97,Kd 97,Ts]]]))],.row [Kd 97,Ts,Kd 98]]]:=by rfl
theorem Ay:jW uK (0,0,some lB):=.inr (.inr ⟨by decide,_,lN uK (by decide),by kernel_rfl⟩)
theorem uL (c:Int):(Kd c).Mt [c]:=⟨c,rfl,by simp[memB,inB]⟩
theorem PP {c:Int}{t:LZ}(h:(Kd c).Mt t):t=[c]:=by
 obtain⟨d,rfl,a⟩:=h;simp[memB,inB]at a;rw[show d=c by omega]
theorem PQ:lB.Mt [97,98,97,98]:=by
 rw[vw];refine .inl ⟨⟨[97,98,97,98],[],by simp,?_,rfl⟩,⟨[97],[98,97,98],rfl,uL 97,[98,97],[98],rfl,?_,[98],[],rfl,uL 98,rfl⟩,trivial⟩
 ·rintro (⟨⟨a,b,e,_,c,d,j,m,f,g,i,k,_⟩,_⟩|h)
  ·rw[PP m]at j;rw[PP k]at i;rw[j,i]at e;have l:=congrArg List.length e;rcases a with _|⟨x,_|⟨y,_|⟨z,a⟩⟩⟩
   ·simp at e
   ·simp at e
   ·simp at e
   ·simp at l;omega
  ·exact h
 ·exact⟨2,by decide,.inl (by decide),[98],[97],rfl,⟨98,rfl,by decide⟩,[97],[],rfl,⟨97,rfl,by decide⟩,rfl⟩
theorem Tt:¬lB.Mt [97,97,98]:=by
 rw[vw];rintro (⟨⟨a,b,e,c,d⟩,_⟩|h)
 ·rw[show b=[]from d,zx]at e;apply c;rw[<-e];exact .inl ⟨⟨[],[97,97,98],rfl,⟨0,by decide,.inl (by decide),rfl⟩,[97],[97,98],rfl,uL 97,[97],[98],rfl,uL 97,[98],[],rfl,⟨1,by decide,.inl (by decide),[98],[],rfl,⟨98,rfl,by decide⟩,rfl⟩,rfl⟩,trivial⟩
 ·exact h
theorem My:Aw lB (some [97,98,97,98])=true:=kD.2 ⟨zW _,by rw[JL];exact PQ⟩
theorem PR:Aw lB (some [97,97,98])=false:=by
 apply Bool.eq_false_iff.2;intro h;have:=(kD.1 h).2;rw[JL]at this;exact Tt this
theorem PS:lT [97,98,97,98] 0 (some [97,98,97,98]):=.inr (.inr ⟨by decide,_,lN [97,98,97,98] (by decide),rfl,rfl⟩)
theorem Tu:lT [97,97,98] 0 (some [97,97,98]):=.inr (.inr ⟨by decide,_,lN [97,97,98] (by decide),rfl,rfl⟩)
theorem Mz (hT:rH w):Calls prog 5 #[] w λe w'=>e=.returned (.bool true)/\Bw w w':=by
 have D:=aa (CW ⟨#[126,40,46,42,97,97,46,42,41,38,97,46,42,98]⟩ hT (by decide));have A:=aa hT;go_enter func5,ntmps5;go_wp2_with fail;refine D.mono ?_;rintro e m ⟨a,F,B,c,C,x,rfl,u⟩;have z:=tY Ay (show jW uK (B,c,C)from x);simp only[Prod.mk.injEq]at z;obtain⟨rfl,rfl,rfl⟩:=z;obtain⟨y,rfl,q⟩:=u;have b:=(qL Ay).2.2.1;have l:=aa (λ(w':World) (hb:Bw m w')=>vG b ⟨#[97,98,97,98]⟩ (q.below hb) ((A.below a).below hb) (by decide));have f:=aa (λ(w':World) (hb:Bw m w')=>vG b ⟨#[97,97,98]⟩ (q.below hb) ((A.below a).below hb) (by decide));have h:=aa a;go_wp2_with fail;refine (l _ (zE _ _)).mono ?_;rintro e E ⟨k,p,r,rfl,j⟩;have v:=tF PS (show lT [97,98,97,98] p r from j);obtain⟨rfl,rfl⟩:=v;rw[My];have d:=aa k;go_wp2_with fail;refine (f _ d).mono ?_;rintro e G ⟨i,n,o,rfl,g⟩;have s:=tF Tu (show lT [97,97,98] n o from g);obtain⟨rfl,rfl⟩:=s;rw[PR];have t:=aa i;go_wp2_with fail;go_ret;exact⟨rfl,h.trans ((d.trans (t.mono d.size)).mono h.size)⟩
abbrev Z6:List Value:=Zq
def ZI (w:World)(e:Ending)(w':World):Prop:=Below w.heap.size w w'/\∃(nv:Value) (k:Int) (so:Option Addr) (sn sc:Nat) (lo:Option Addr) (ln lc:Nat) (mm nn rr gr:Int) (op:Option Pat),e=.returned (.tuple #[nv,.agg #[Vi k,.slice so sn sc,.slice lo ln lc,Vi mm,Vi nn,Vi rr],Vi gr,.bool true]) /\
 match op with|some p=>p.Ok/\p.wr.length<=4000/\(∃bx A,nv=ar bx/\RX w' A p bx)/\NV w' (λ_=>True) p (bT k so sn sc lo ln lc mm nn rr) 0/\gr=(p.groups:Int)|none=>nv=.pointer none
theorem xv {c0 c1 c2 c3 c4 c5:Value}(h:ag w r Z6 27):ag (put6 w r c0 c1 c2 c3 c4 c5) r [c0,c1,c2,c3,c4,c5] 27:=(((((h.set 0 c0).set 1 c1).set 2 c2).set 3 c3).set 4 c4).set 5 c5
theorem xw {a:World}(h:Below B a w)(hr:B<=r)(c0 c1 c2 c3 c4 c5:Value):Below B a (put6 w r c0 c1 c2 c3 c4 c5):=(((((h.setCell hr _).setCell hr _).setCell hr _).setCell hr _).setCell hr _).setCell hr _
