import Derived.Laws.EntriesVeiled
import Derived.Test.YtebnghmioamheaaGreatDoorM22
set_option maxHeartbeats 4000000
set_option maxRecDepth 100000
set_option linter.all false
namespace Go.Proofs.YtebnghmioamheaaGreatDoor
open Go.Shelf Go.RowKit Go.Lib Brm Tryz
variable {c:Cx}{ps:List Pat}{xs:LV}{lv:Value}{w:World}{bi i:Nat}{p:Pat}{l:LZ}
theorem wK (ho:cB w c.A 132 2 lv ps.length xs)(hl:cM w c.A c.L ps xs)(ih:∀p∈ps,GM c p)(hok:∀p∈ps,p.Ok)(k:Nat)(hk:k<ps.length)(w':World)(hw':KR c.R w w'):∃F cp G tc b cap,lv=Vs b ps.length cap/\b<w'.heap.size/\w'.cell? ⟨b,k*2,none⟩=some (Vf F cp)/\w'.cell? ⟨b,k*2+1,none⟩=some (Vf G tc)/\(∀args w,(callFunc F args).run prog w=.ok (.enter F args) w) /\
   ∀w2 j,KR c.R w w2->Inv c w2->j<=c.l.length->Calls prog F (#[Vp c.bt,Vi j]++cp) w2 λe w3=>e=.returned (.int .u64 ((mk (mT ps[k] c.l j) (c.l.length+1):Nat):Int))/\Inv c w3/\KR c.R w2 w3:=by
 obtain⟨f,t,⟨G,tc,rfl⟩,l,m⟩:=cM.at ps xs hl k ps[k] (zB hk);obtain⟨F,cp,rfl,r⟩:=EV.form ps[k] f (hok _ (xE hk)) l;have d:=hw'.keeps (A:=c.A) (λg h=>h);obtain⟨b,cap,rfl,s,_,o,n⟩:=BU (ho.keep d) hk m;exact⟨F,cp,G,tc,b,cap,rfl,s,o,n,r,λw2 j a i q=>ih ps[k] (xE hk) w2 F cp j i (EV.keep (a.keeps (A:=c.A) (λg h=>h)) ps[k] _ l) q⟩
theorem qR (p:Pat)(F:Nat)(cp:Array Value)(t:Value)(eg:∀args w,(callFunc F args).run prog w=.ok (.enter F args) w)(g:Nat->Bool){w0:World}(w':World)(hK:KR c.R w0 w)(hI:Inv c w)(hb:Bw w w')
  (hc:∀w2 k,KR c.R w w2->Inv c w2->k<=c.l.length->Calls prog F (#[Vp c.bt,Vi k]++cp) w2 λe w''=>e=.returned (.int .u64 ((mk (mT p c.l k) (c.l.length+1):Nat):Int))/\Inv c w''/\KR c.R w2 w''):Calls prog 125 #[.agg #[Vf F cp,t],Vp c.bt,.int .u64 ((mk g (c.l.length+1):Nat):Int)] w' λe w5=>e=.returned (.int .u64 ((mk (jp p c.l g) (c.l.length+1):Nat):Int))/\Inv c w5/\KR c.R w0 w5 :=
 (Tk p F cp t eg g (hI.below hb) (λw2 j b f d=>hc w2 j ((KR.below hb).trans b) f d)).mono (λ_ _ a=>⟨a.1,a.2.1,hK.trans ((KR.below hb).trans a.2.2)⟩)
theorem Ab (p:Pat)(F:Nat)(cp:Array Value)(k:Nat){w0:World}(w':World)(hK:KR c.R w0 w)(hI:Inv c w)(hb:Bw w w')(hk:k<=c.l.length)
  (hc:∀w2 k,KR c.R w w2->Inv c w2->k<=c.l.length->Calls prog F (#[Vp c.bt,Vi k]++cp) w2 λe w''=>e=.returned (.int .u64 ((mk (mT p c.l k) (c.l.length+1):Nat):Int))/\Inv c w''/\KR c.R w2 w''):Calls prog F (#[Vp c.bt,Vi k]++cp) w' λe w5=>e=.returned (.int .u64 ((mk (mT p c.l k) (c.l.length+1):Nat):Int))/\Inv c w5/\KR c.R w0 w5 :=
 (hc w' k (KR.below hb) (hI.below hb) hk).mono (λ_ _ a=>⟨a.1,a.2.1,hK.trans ((KR.below hb).trans a.2.2)⟩)
theorem Sx (ih:∀p∈ps,GM c p)(hok:∀p∈ps,p.Ok)(i:Nat)(hI:Inv c w)(hi:i<=c.l.length)(hbi:ag w bi [lv] 168)(ho:cB w c.A 132 2 lv ps.length xs)(hl:cM w c.A c.L ps xs)(h100:ps.length<=100):Calls prog 123 #[Vp c.bt,Vi i,Vp bi] w λe w'=>e=.returned (.int .u64 ((mk (mT (.row ps) c.l i) (c.l.length+1):Nat):Int))/\Inv c w'/\KR c.R w w':=by
 have d:=aa (wK ho hl ih hok);obtain⟨Y,lc,rfl⟩:=pi ho.1;have R:=one hbi;have M:=hI.len;have H:=aa hI;have E:=aa hi;have O:Hid (mk (kC (ps.take 0) c.l i) (c.l.length+1)=mk (fX i) (c.l.length+1)):=dC (λj q=>by rw[List.take_zero,<-QU (by omega)];unfold qt fX;rw[ze];simp only[zY];exact⟨λh=>h.symm,λh=>h.symm⟩);go_enter func123,ntmps123;go_wp2_with (go_at_call 124;refine (oY i (c.l.length+1) _ (by omega) (by omega)).mono ?_;rintro e w' ⟨rfl,s⟩;have B:=s.symm;subst B)
 go_loopw [6,13] (λnow ix wr=>∃k:Nat,k<=ps.length/\ix=Vi k/\now=.int .u64 ((mk (kC (ps.take k) c.l i) (c.l.length+1):Nat):Int)/\Inv c wr/\KR c.R w wr) (λ_ ix _=>ps.length-(intOf ix).toNat)
 case atStart=>exact⟨0,zW _,rfl,by rw[O.out],H,KR.refl _ _⟩
 case round=>
  obtain⟨k,V,rfl,rfl,hI,v⟩:=hrel;have m:=aa hI;have g:=aa v;have Z:(0:Int)<=(k:Int):=zK _;by_cases f:k<ps.length
  ·obtain⟨F,J,Q,U,b,P,A,N,T,W,D,a⟩:=d.out k f wr v;cases A;have u:Hid (ps.take (k+1)=ps.take k++[ps[k]]):=yu f;generalize ps[k]=p at a u;have K:=aa (λ(w2:World) (j:Nat) (hb:KR c.R wr w2) (hI2:Inv c w2) (q:j<=c.l.length)=>a w2 j (g.trans hb) hI2 q);have L:(k:Int)<(ps.length:Int):=by omega
   have I:Hid (b≠wr.heap.size):=by show _≠_;omega
   have r:=aa (λj (q:j<c.l.length+1)=>Nj (p:=p) (ps:=ps.take k) (l:=c.l) (i:=i) (j:=j) (by omega));generalize kC (ps.take k) c.l i=G at r ⊢;go_wp2_with (go_at_call 125;refine (qR p F J _ D G _ g m (by first|exact zE _ _|exact (zE _ _).alloc (zA _) _) K).mono ?_;rintro e S ⟨rfl,o,n⟩;have z:=aa o;have y:=aa n)
   go_roundw
   case rel=>exact⟨k+1,by omega,by go_num,by rw[u.out];exact congrArg (λx:Nat=>Value.int .u64 (x:Int)) (dC (λj q=>r j q)),z,y⟩
   case measure=>simp[intOf];omega
  ·have t:k=ps.length:=by omega
   have C:Hid (mk (kC (ps.take k) c.l i) (c.l.length+1)=mk (mT (.row ps) c.l i) (c.l.length+1)):=by show _=_;rw[t,zQ];exact dC (λj _=>Xe)
   generalize mk (kC (ps.take k) c.l i) (c.l.length+1)=X at C ⊢;have L:decide (k<ps.length)=false:=zI f;go_wp2;go_ret;exact⟨by rw[<-C.out];rfl,m,g⟩
theorem Sy {j:Nat}:(rR ps l i j||mT p l i j)=rR (ps++[p]) l i j:=by
 rw[ze];unfold rR mT;simp only[yZ,zY,nO,zM,yQ];constructor
 ·rintro (⟨b,q,c,a⟩|⟨b,a⟩)
  ·exact⟨b,q,.inl c,a⟩
  ·exact⟨b,p,.inr rfl,a⟩
 ·rintro⟨b,q,c|rfl,a⟩
  ·exact .inl ⟨b,q,c,a⟩
  ·exact .inr ⟨b,a⟩
theorem Pb {j:Nat}:(mu ps l i j&&mT p l i j)=mu (ps++[p]) l i j:=by
 rw[ze];unfold mu mT;simp only[yP,zY,mj,zM,yQ];constructor
 ·rintro⟨⟨c,b⟩,_,d⟩;exact⟨c,λq a=>by rcases a with a|rfl;exact b q a;exact d⟩
 ·rintro⟨c,b⟩;exact⟨⟨c,λq a=>b q (.inl a)⟩,c,b p (.inr rfl)⟩
theorem VQ (ih:∀p∈ps,GM c p)(hok:∀p∈ps,p.Ok)(i:Nat)(hI:Inv c w)(hi:i<=c.l.length)(hbi:ag w bi [lv] 168)(ho:cB w c.A 132 2 lv ps.length xs)(hl:cM w c.A c.L ps xs)(h100:ps.length<=100):Calls prog 129 #[Vp c.bt,Vi i,Vp bi] w λe w'=>e=.returned (.int .u64 ((mk (mT (.or ps) c.l i) (c.l.length+1):Nat):Int))/\Inv c w'/\KR c.R w w':=by
 have d:=aa (wK ho hl ih hok);obtain⟨U,W,rfl⟩:=pi ho.1;have O:=one hbi;have I:=hI.len;have B:=aa hI;have u:=aa hi;have K:Hid (mk (rR (ps.take 0) c.l i) (c.l.length+1)=0):=kX.2 (λj z=>by rw[List.take_zero];unfold rR;simp[gy]);go_enter func129,ntmps129;go_wp2_with fail
 go_loopw [6,11] (λnow ix wr=>∃k:Nat,k<=ps.length/\ix=Vi k/\now=.int .u64 ((mk (rR (ps.take k) c.l i) (c.l.length+1):Nat):Int)/\Inv c wr/\KR c.R w wr) (λ_ ix _=>ps.length-(intOf ix).toNat)
 case atStart=>exact⟨0,zW _,rfl,by rw[K.out];rfl,B,KR.refl _ _⟩
 case round=>
  obtain⟨k,S,rfl,rfl,hI,s⟩:=hrel;have h:=aa hI;have g:=aa s;have V:(0:Int)<=(k:Int):=zK _;by_cases f:k<ps.length
  ·obtain⟨F,D,M,R,b,L,y,J,Q,T,N,a⟩:=d.out k f wr s;cases y;have r:Hid (ps.take (k+1)=ps.take k++[ps[k]]):=yu f;generalize ps[k]=p at a r;have E:=aa (λ(w2:World) (j:Nat) (hb:KR c.R wr w2) (hI2:Inv c w2) (z:j<=c.l.length)=>a w2 j (g.trans hb) hI2 z);have H:(k:Int)<(ps.length:Int):=by omega
   have C:Hid (b≠wr.heap.size):=by show _≠_;omega
   have o:=aa (λj=>Sy (p:=p) (ps:=ps.take k) (l:=c.l) (i:=i) (j:=j));generalize rR (ps.take k) c.l i=G at o ⊢;go_wp2_with (go_at_fn F;refine (Ab p F D i _ g h (by first|exact zE _ _|exact (zE _ _).alloc (zA _) _) u E).mono ?_;rintro e P ⟨rfl,n,m⟩;have v:=aa n;have t:=aa m)
   go_roundw
   case rel=>exact⟨k+1,by omega,by go_num,by rw[r.out];exact congrArg (λx:Int=>Value.int .u64 x) ((FJ (show c.l.length+1<=42 by omega)).trans (congrArg (λx:Nat=>(x:Int)) (dC (λj _=>o j)))),v,t⟩
   case measure=>simp[intOf];omega
  ·have q:k=ps.length:=by omega
   have A:Hid (mk (rR (ps.take k) c.l i) (c.l.length+1)=mk (mT (.or ps) c.l i) (c.l.length+1)):=by show _=_;rw[q,zQ];exact dC (λj _=>Uz)
   generalize mk (rR (ps.take k) c.l i) (c.l.length+1)=X at A ⊢;have H:decide (k<ps.length)=false:=zI f;go_wp2;go_ret;exact⟨by rw[<-A.out];rfl,h,g⟩
theorem Sz (ih:∀p∈ps,GM c p)(hok:∀p∈ps,p.Ok)(i:Nat)(hI:Inv c w)(hi:i<=c.l.length)(hbi:ag w bi [lv] 168)(ho:cB w c.A 132 2 lv ps.length xs)(hl:cM w c.A c.L ps xs)(h100:ps.length<=100):Calls prog 131 #[Vp c.bt,Vi i,Vp bi] w λe w'=>e=.returned (.int .u64 ((mk (mT (.and ps) c.l i) (c.l.length+1):Nat):Int))/\Inv c w'/\KR c.R w w':=by
 have d:=aa (wK ho hl ih hok);obtain⟨W,Z,rfl⟩:=pi ho.1;have Q:=one hbi;have K:=hI.len;have B:=aa hI;have n:=aa hi;have M:Hid (mk (mu (ps.take 0) c.l i) (c.l.length+1)=mk (mO i) (c.l.length+1)):=dC (λj C=>by rw[List.take_zero];unfold mu mO;simp[eG]);go_enter func131,ntmps131;go_wp2_with (go_at_call 132;refine (AQ i B n).mono ?_;rintro e w' ⟨rfl,r⟩;have A:=r.symm;subst A)
 go_loopw [6,14] (λnow ix wr=>∃k:Nat,k<=ps.length/\ix=Vi k/\now=.int .u64 ((mk (mu (ps.take k) c.l i) (c.l.length+1):Nat):Int)/\Inv c wr/\KR c.R w wr) (λ_ ix _=>ps.length-(intOf ix).toNat)
 case atStart=>exact⟨0,zW _,rfl,by rw[M.out],B,KR.refl _ _⟩
 case round=>
  obtain⟨k,U,rfl,rfl,hI,u⟩:=hrel;have h:=aa hI;have g:=aa u;have Y:(0:Int)<=(k:Int):=zK _;by_cases f:k<ps.length
  ·obtain⟨F,H,O,T,b,N,z,L,S,V,P,a⟩:=d.out k f wr u;cases z;have t:Hid (ps.take (k+1)=ps.take k++[ps[k]]):=yu f;generalize ps[k]=p at a t;have I:=aa (λ(w2:World) (j:Nat) (hb:KR c.R wr w2) (hI2:Inv c w2) (C:j<=c.l.length)=>a w2 j (g.trans hb) hI2 C);have J:(k:Int)<(ps.length:Int):=by omega
   have E:Hid (b≠wr.heap.size):=by show _≠_;omega
   have q:=aa (λj=>Pb (p:=p) (ps:=ps.take k) (l:=c.l) (i:=i) (j:=j));generalize mu (ps.take k) c.l i=G at q ⊢;go_wp2_with (go_at_fn F;refine (Ab p F H i _ g h (by first|exact zE _ _|exact (zE _ _).alloc (zA _) _) n I).mono ?_;rintro e R ⟨rfl,o,m⟩;have y:=aa o;have v:=aa m)
   go_roundw
   case rel=>exact⟨k+1,by omega,by go_num,by rw[t.out];exact congrArg (λx:Int=>Value.int .u64 x) ((Wm (show c.l.length+1<=42 by omega)).trans (congrArg (λx:Nat=>(x:Int)) (dC (λj _=>q j)))),y,v⟩
   case measure=>simp[intOf];omega
  ·have s:k=ps.length:=by omega
   have D:Hid (mk (mu (ps.take k) c.l i) (c.l.length+1)=mk (mT (.and ps) c.l i) (c.l.length+1)):=by show _=_;rw[s,zQ];exact dC (λj _=>ND)
   generalize mk (mu (ps.take k) c.l i) (c.l.length+1)=X at D ⊢;have J:decide (k<ps.length)=false:=zI f;go_wp2;go_ret;exact⟨by rw[<-D.out];rfl,h,g⟩
theorem Sd :mk (λj=>mO i j&&!mT p l i j) (l.length+1)=mk (mT (.not p) l i) (l.length+1):=dC (λj _=>by rw[<-Xf];rfl)
theorem Se (p:Pat)(F:Nat)(cp:Array Value)(t:Value)(eg:∀args w,(callFunc F args).run prog w=.ok (.enter F args) w)(i:Nat)(hI:Inv c w)(hi:i<=c.l.length)(hA:c.A bi)(hbi:ag w bi [Vf F cp,t] 132)
  (hc:∀w2 k,KR c.R w w2->Inv c w2->k<=c.l.length->Calls prog F (#[Vp c.bt,Vi k]++cp) w2 λe w''=>e=.returned (.int .u64 ((mk (mT p c.l k) (c.l.length+1):Nat):Int))/\Inv c w''/\KR c.R w2 w''):Calls prog 133 #[Vp c.bt,Vi i,Vp bi] w λe w'=>e=.returned (.int .u64 ((mk (mT (.not p) c.l i) (c.l.length+1):Nat):Int))/\Inv c w'/\KR c.R w w':=by
 obtain⟨r,v⟩:=iJ hbi;have n:=hbi.lt;have s:=aa hA;have u:=aa hI;have l:=aa (λ(w':World) (h':Inv c w')=>AQ i h' hi);have q:=aa (λ(w':World) (hk:KR c.R w w') (h':Inv c w')=>hc w' i hk h' hi);have m:=aa ((At (f:=mO i) (g:=mT p c.l i) (show c.l.length+1<=42 by have:=hI.len;omega)).trans (congrArg (λx:Nat=>(x:Int)) Sd));generalize mk (mO i) (c.l.length+1)=X at m l;generalize mk (mT p c.l i) (c.l.length+1)=Y at m q;generalize mk (mT (.not p) c.l i) (c.l.length+1)=Z at m ⊢;go_enter func133,ntmps133;go_wp2_with fail
 go_region_held3 (λw'=>Inv c w'/\KR c.R w w'/\w'.cell? (aD bi 0)=some (Vf F cp))
  (first|exact⟨u.drew,(KR.refl _ _).drew,r⟩|exact⟨h,a,(a.cell (p:=(aD bi 0)) n s).trans r⟩)
  (first
   |(go_at_call 132;refine (l _ (‹Inv c _/\KR c.R w _/\_›.1)).mono ?_;rintro e y ⟨rfl,d⟩;have o:=d.symm;subst o)
   |(go_at_fn F;refine (q _ (‹Inv c _/\KR c.R w _/\_›.2.1) (‹Inv c _/\KR c.R w _/\_›.1)).mono ?_;rintro e z ⟨rfl,b,j⟩;have h:=aa b;have a:=aa ((‹Inv c _/\KR c.R w _/\_›.2.1).trans j)))
 all_goals (go_wp2_with fail;go_ret;exact⟨congrArg (λx:Int=>Ending.returned (Value.int .u64 x)) m,h,a⟩)
theorem Vd {f F:Nat->Bool}{n:Nat}(hd:∀j,j<n->F j=true->f j=false)(h:mk F n≠0):mk f n<mk (λj=>f j||F j) n:=by
 rw[<-KB];have d:mk f n<=mk f n ||| mk F n:=Nat.left_le_or;apply Nat.lt_of_le_of_ne d;intro e;apply h;apply kX.2;intro j a;apply Bool.eq_false_iff.2;intro c;have b:=congrArg (λx:Nat=>x.testBit j) e;simp only[Nat.testBit_or,eN,a,decide_true,Bool.true_and,c,Bool.or_true,hd j a c]at b;cases b
theorem Em {m d:Nat}{F:Nat->Bool}(h1:∀k,k<=l.length->F k=true->bO p m d l i k=true)
  (h2:∀k,k<=l.length->bO p m d l i k=true->F k=true\/∀j,j<=l.length->mT p l k j=true->bO p m d l i j=true):(∀k,k<=l.length->(jp p l F k&&!bO p m d l i k)=true->bO p m (d+1) l i k=true) /\
  (∀k,k<=l.length->bO p m (d+1) l i k=true->(jp p l F k&&!bO p m d l i k)=true\/∀j,j<=l.length->mT p l k j=true->bO p m (d+1) l i j=true):=by
 have c:=λj (b:j<=l.length)=>BZ (i:=i) b h1 h2;refine⟨λk a h=>by rw[<-c k a,h,Bool.or_true],λk a h=>?_⟩;rw[<-c k a,yZ]at h;rcases h with h|h
 ·right
  intro j b e;rw[<-c j b];rcases h2 k a h with g|n
  ·have f:jp p l F j=true:=ic.2 ⟨k,a,g,e⟩;rw[f];cases bO p m d l i j<;>rfl
  ·rw[n j b e];rfl
 ·exact .inl h
theorem Xg (p:Pat)(M:Nat)(n:Int)(hM:M<=5)(hn:n=-1\/((M:Int)<=n/\n<=5))(F:Nat)(cp:Array Value)(t:Value)(eg:∀args w,(callFunc F args).run prog w=.ok (.enter F args) w)(i:Nat)(hI:Inv c w)(hi:i<=c.l.length){b0 b1 b2:Nat}(hA0:c.A b0)(hA1:c.A b1)(hA2:c.A b2)(hb0:ag w b0 [Vi M] 3)(hb1:ag w b1 [Vf F cp,t] 132)(hb2:ag w b2 [Vi n] 3)
  (hc:∀w2 k,KR c.R w w2->Inv c w2->k<=c.l.length->Calls prog F (#[Vp c.bt,Vi k]++cp) w2 λe w''=>e=.returned (.int .u64 ((mk (mT p c.l k) (c.l.length+1):Nat):Int))/\Inv c w''/\KR c.R w2 w''):Calls prog 134 #[Vp c.bt,Vi i,Vp b0,Vp b1,Vp b2] w λe w'=>e=.returned (.int .u64 ((mk (mT (.many p M n) c.l i) (c.l.length+1):Nat):Int))/\Inv c w'/\KR c.R w w':=by
 have a8:=hI.len;have HI:=aa hI;have a7:=aa hi;have HC:=aa hc;have D:Hid (∀w',KR c.R w w'->w'.cell? (aD b0 0)=some (Vi M)/\w'.cell? (aD b1 0)=some (Vf F cp)/\w'.cell? (aD b1 1)=some t/\w'.cell? (aD b2 0)=some (Vi n)):=λw' R=>
  ⟨one (hb0.kr R hA0),(iJ (hb1.kr R hA1)).1,(iJ (hb1.kr R hA1)).2,one (hb2.kr R hA2)⟩
 have HZ:Hid (mk (jX p 0 c.l i) (c.l.length+1)=mk (fX i) (c.l.length+1)):=dC (λj y=>by rw[Nk (by omega)];rfl);have HN:=aa hn;have HM:=aa hM;obtain⟨y0,_,_,_⟩:=D.out w (KR.refl _ _);go_enter func134,ntmps134;go_wp2_with (go_at_call 124;refine (oY i (c.l.length+1) _ (by omega) (by omega)).mono ?_;rintro e w' ⟨rfl,L⟩;have a5:=L.symm;subst a5)
 go_loopw [8,14] (λnow ix wr=>∃k:Nat,k<=M/\ix=Vi k/\now=.int .u64 ((mk (jX p k c.l i) (c.l.length+1):Nat):Int)/\Inv c wr/\KR c.R w wr) (λ_ ix _=>M-(intOf ix).toNat)
 case atStart=>exact⟨0,zW _,rfl,by rw[HZ.out],HI,KR.refl _ _⟩
 case round=>
  obtain⟨k,R,rfl,rfl,r,b⟩:=hrel;have s:=aa r;have o:=aa b;obtain⟨z0,z1,z2,z3⟩:=D.out wr b;have k0:(0:Int)<=(k:Int):=zK _;by_cases a0:k<M
  ·have HS:=aa (λj (y:j<c.l.length+1)=>ox (p:=p) (m:=k) (l:=c.l) (i:=i) (j:=j) (by omega));have H:=aa (λ(w2:World) (j:Nat) (hb:KR c.R wr w2) (hI2:Inv c w2) (y:j<=c.l.length)=>HC w2 j (o.trans hb) hI2 y);generalize jX p k c.l i=G at HS ⊢;go_wp2_with (go_at_call 125;refine (qR p F cp _ eg G _ o s (by first|exact zE _ _|exact (zE _ _).alloc (zA _) _) H).mono ?_;rintro e w5 ⟨rfl,u,v⟩;have C:=aa u;have E:=aa v)
   go_roundw
   case rel=>exact⟨k+1,by omega,by go_num,congrArg (λx:Nat=>Value.int .u64 (x:Int)) (dC (λj y=>HS j y)),C,E⟩
   case measure=>simp[intOf];omega
  ·have a3:k=M:=by omega
   subst a3;have k1:decide (k<k)=false:=zI a0;have HU:Hid (mk (bO p k 0 c.l i) (c.l.length+1)=mk (jX p k c.l i) (c.l.length+1)):=dC (λj y=>sA);go_wp2_with fail
   go_loopw [8,9,10] (λnow out turn wr=>∃(d:Nat) (G:Nat->Bool),turn=Vi ((k+d:Nat):Int)/\(n=-1\/((k+d:Nat):Int)<=n)/\now=.int .u64 ((mk G (c.l.length+1):Nat):Int)/\out=.int .u64 ((mk (bO p k d c.l i) (c.l.length+1):Nat):Int) /\
    (∀q,q<=c.l.length->G q=true->bO p k d c.l i q=true)/\(∀q,q<=c.l.length->bO p k d c.l i q=true->G q=true\/∀j,j<=c.l.length->mT p c.l q j=true->bO p k d c.l i j=true) /\
    (mk G (c.l.length+1)≠0->d<mk (bO p k d c.l i) (c.l.length+1))/\d<=mk (bO p k d c.l i) (c.l.length+1)+1/\Inv c wr/\KR c.R w wr)
    (λnow out _ _=>2*(4398046511104-(intOf out).toNat)+(if intOf now=0 then 0 else 1))
   case atStart=>exact⟨0,jX p k c.l i,rfl,by have:=HN.out;omega,rfl,by rw[HU.out],λq _ h=>by rw[sA];exact h,λq _ h=>by rw[sA]at h;exact .inl h,λh=>by rw[HU.out];omega,zW _,s,o⟩
   case round=>
    obtain⟨d,G,rfl,B,rfl,rfl,h1,h2,W,h4,r,b⟩:=hrel;have s:=aa r;have o:=aa b;have H1:=aa h1;have H2:=aa h2;have H3:=aa W;have H4:=aa h4;have A:=aa B;obtain⟨z0,z1,z2,z3⟩:=D.out wr b;have I:=dM (bO p k d c.l i) (show c.l.length+1<=42 by omega);have d0:(0:Int)<=((k+d:Nat):Int):=zK _;have Z:k+d<4398046511200:=by omega
    by_cases a:((k+d:Nat):Int)=n
    ·have N:Hid (mk (bO p k d c.l i) (c.l.length+1)=mk (mT (.many p k n) c.l i) (c.l.length+1)):=dC (λj _=>DW (by omega));generalize mk (bO p k d c.l i) (c.l.length+1)=X at N ⊢;have K:(((k+d:Nat):Int) != n)=false:=by rw[a];simp
     generalize ((k+d:Nat):Int)=td at K d0 ⊢;go_wp2;go_ret;exact⟨by rw[<-N.out];rfl,s,o⟩
    ·have K:(((k+d:Nat):Int) != n)=true:=bne_iff_ne.2 a;by_cases O:mk G (c.l.length+1)=0
     ·have N:Hid (mk (bO p k d c.l i) (c.l.length+1)=mk (mT (.many p k n) c.l i) (c.l.length+1)):=dC (λj y=>DV (by omega) (by have:=A.out;omega) (λq K hr=>by
       rcases H2.out q K hr with hG|hc
       ·rw[kX.1 O q (by omega)]at hG;cases hG
       ·exact hc))
      generalize mk (bO p k d c.l i) (c.l.length+1)=X at N ⊢;rw[O];generalize ((k+d:Nat):Int)=td at K d0 ⊢;go_wp2;go_ret;exact⟨by rw[<-N.out];rfl,s,o⟩
     ·have a9:(((mk G (c.l.length+1):Nat):Int) != 0)=true:=bne_iff_ne.2 (by omega);have P:=aa O;have H:=aa (λ(w2:World) (j:Nat) (hb:KR c.R wr w2) (hI2:Inv c w2) (y:j<=c.l.length)=>HC w2 j (o.trans hb) hI2 y);have J:=aa (At (f:=jp p c.l G) (g:=bO p k d c.l i) (show c.l.length+1<=42 by omega));have T:=aa (FJ (f:=bO p k d c.l i) (g:=λj=>jp p c.l G j&&!bO p k d c.l i j) (show c.l.length+1<=42 by omega));have z:Hid (mk (λj=>bO p k d c.l i j||(jp p c.l G j&&!bO p k d c.l i j)) (c.l.length+1)=mk (bO p k (d+1) c.l i) (c.l.length+1)):=dC (λj y=>BZ (by omega) H1 H2);have S:Hid (mk (λj=>jp p c.l G j&&!bO p k d c.l i j) (c.l.length+1)≠0->mk (bO p k d c.l i) (c.l.length+1)<mk (bO p k (d+1) c.l i) (c.l.length+1)):=λh=>by
       rw[<-z.out];exact Vd (λj _ hF=>by rw[yP,Bool.not_eq_true']at hF;exact hF.2) h
      have Q:Hid (mk (bO p k d c.l i) (c.l.length+1)<=mk (bO p k (d+1) c.l i) (c.l.length+1)):=by show _<=_;rw[<-z.out,<-KB];exact Nat.left_le_or
      have a2:=aa (dM (bO p k (d+1) c.l i) (show c.l.length+1<=42 by omega));have a1:=aa a;have a6:=aa Z;have dt:((k+d:Nat):Int)<4398046511200:=by omega
      generalize htd:((k+d:Nat):Int)=td at K d0 dt ⊢;have a4:=aa htd;go_wp2_with (go_at_call 125;refine (qR p F cp _ eg G _ o s (by first|exact zE _ _|exact (zE _ _).alloc (zA _) _) H).mono ?_;rintro e w5 ⟨rfl,u,v⟩;have C:=aa u;have E:=aa v)
      go_roundw
      case rel=>
       have r1:=H3.out P;have r2:=Q.out;have V:=A.out;have r4:=a1.out;have r5:=a4.out;exact⟨d+1,λj=>jp p c.l G j&&!bO p k d c.l i j,congrArg (Value.int .i64) (by omega),by omega,by rw[J.out],by rw[J.out,T.out,z.out],(Em H1 H2).1,(Em H1 H2).2,λh=>by have:=S.out h;omega,by omega,C,E⟩
      case measure=>
       rw[J.out,T.out,z.out];have r2:=Q.out;have V:=S.out;have r4:=a2.out;have r5:=P.out;simp only[intOf,Int.toNat_natCast];generalize mk (bO p k (d+1) c.l i) (c.l.length+1)=U' at r2 V r4 ⊢;generalize mk (bO p k d c.l i) (c.l.length+1)=U at r2 V ⊢;generalize mk (λj=>jp p c.l G j&&!bO p k d c.l i j) (c.l.length+1)=X at V ⊢;generalize mk G (c.l.length+1)=Y at r5 ⊢;show 2*(4398046511104-U')+(if (X:Int)=0 then 0 else 1)<2*(4398046511104-U)+(if (Y:Int)=0 then 0 else 1)
       rw[zR (show ¬((Y:Int)=0) by omega)];by_cases hX:X=0
       ·rw[zX (by omega)];omega
       ·rw[zR (by omega)];have:=V hX;omega
theorem Ct:∀(l:LQ) (a:Int),a<=1114112->Canon l->(∀y∈l,a<=y.1)->(l.length:Int)<=1114112-a
 | [],a,ha,_,_=>by simp;omega
 |x::l,a,ha,h,hy=>by
  obtain⟨b,c⟩:=canon_head h;have e:=hy x (by simp);have f:x.1<=x.2:=b.2.2;have g:x.2<=1114111:=by have:=b.2.1;simp only[runeB,zY]at this;omega
  have i:x.2+1<=after x.2:=by unfold after;split<;>omega
  have:=Ct l (a+1) (by omega) (mG h) (λy d=>by have:=c y d;omega);simp only[zG];omega
theorem xU {l:LQ}(h:Canon l):l.length<=1200000:=by
 have:=Ct l 0 (by omega) h (λy a=>by have:=(h.1 y a).1;simp only[runeB,zY]at this;omega);omega
theorem OH :mk (mT p l i) (l.length+1)=mk (mT (.or [p]) l i) (l.length+1):=dC (λ_ _=>Xd.trans Uz)
theorem Ly :mk (mT p l i) (l.length+1)=mk (mT (.and [p]) l i) (l.length+1):=dC (λ_ _=>UY.trans ND)
mutual
theorem nA (c:Cx):∀(p:Pat),p.Ok->GM c p
 |.set s,h=>Uf c s (xU h)
 |.row l,h=>by
  have v:=oG c l h;intro w F Q i q K o;obtain⟨j,L,O,I,B,e,f,C,z,D,d,b,H,_,x,R,rfl,J,u,S⟩:=K;cases C;exact pQ (.row l) 123 #[ar x] (enters_of func123 (by kernel_rfl) rfl) f i q d b H o
   (λE a=>Sx v ((lF l).1 h) i (q.below a) o (u.below a) (S.below a) (cM.keep (ah.below a) l L O) j)
 |.or l,h=>by
  have v:=oG c l h.1;intro w F Q i q K o;obtain⟨j,L,O,⟨U,t,V⟩|⟨_,I,B,e,f,C,z,D,d,b,H,_,x,R,rfl,J,u,S⟩⟩:=K
  ·obtain⟨p,rfl⟩:=zy.1 U;obtain⟨f',t',r,e,_,G,_⟩:=O;rw[V]at e;cases e;rw[<-OH];exact v p (by simp) w F Q i q G o
  ·cases C;exact pQ (.or l) 129 #[ar x] (enters_of func129 (by kernel_rfl) rfl) f i q d b H o
    (λE a=>VQ v ((lF l).1 h.1) i (q.below a) o (u.below a) (S.below a) (cM.keep (ah.below a) l L O) j)
 |.and l,h=>by
  have v:=oG c l h.1;intro w F Q i q K o;obtain⟨j,L,O,⟨U,t,V⟩|⟨_,I,B,e,f,C,z,D,d,b,H,_,x,R,rfl,J,u,S⟩⟩:=K
  ·obtain⟨p,rfl⟩:=zy.1 U;obtain⟨f',t',r,e,_,G,_⟩:=O;rw[V]at e;cases e;rw[<-Ly];exact v p (by simp) w F Q i q G o
  ·cases C;exact pQ (.and l) 131 #[ar x] (enters_of func131 (by kernel_rfl) rfl) f i q d b H o
    (λE a=>Sz v ((lF l).1 h.1) i (q.below a) o (u.below a) (S.below a) (cM.keep (ah.below a) l L O) j)
 |.not p,h=>by
  have v:=nA c p h;intro w F Q i q K o;obtain⟨g,t,G,I,B,e,f,C,z,D,d,b,H,_,x,rfl,J,u⟩:=K;cases C;obtain⟨T,y,rfl,Z⟩:=EV.form p g h G;exact pQ (.not p) 133 #[ar x] (enters_of func133 (by kernel_rfl) rfl) f i q d b H o
   (λE a=>Se p T y t Z i (q.below a) o J (u.below a) (λw2 k X N P=>v w2 T y k N (EV.keep ((X.keeps (A:=c.A) (λg h=>h))) p _ (EV.keep (ah.below a) p _ G)) P))
 |.many p m n,h=>by
  have v:=nA c p h.1;intro w F Q i q K o;obtain⟨g,t,G,I,B,e,f,C,z,D,d,b,H,_,b0,b1,b2,rfl,a3,W,a1,a2,Y,a0⟩:=K;cases C;obtain⟨T,y,rfl,Z⟩:=EV.form p g h.1 G;obtain⟨U,h2,h3,h4⟩:=h;obtain⟨M,rfl⟩:=Int.eq_ofNat_of_zero_le h2;exact pQ (.many p M n) 134 #[ar b0,ar b1,ar b2] (enters_of func134 (by kernel_rfl) rfl) f i q d b H o
   (λE a=>Xg p M n (by omega) h4 T y t Z i (q.below a) o a3 W a1 (a2.below a) (Y.below a) (a0.below a) (λw2 k X N P=>v w2 T y k N (EV.keep ((X.keeps (A:=c.A) (λg h=>h))) p _ (EV.keep (ah.below a) p _ G)) P))
 |.group p,h=>by
  have v:=nA c p h;exact v
theorem oG (c:Cx):∀(l:List Pat),jr l->∀p∈l,GM c p
 | [],_=>λp h=>by cases h
 |q::l,hk=>by
  have a:=nA c q hk.1;have b:=oG c l hk.2;intro p h;rcases zO.1 h with rfl|h
  ·exact a
  ·exact b p h
end
