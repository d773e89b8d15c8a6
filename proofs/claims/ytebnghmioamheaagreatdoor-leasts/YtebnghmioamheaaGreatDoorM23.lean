import Derived.Laws.EntriesVeiled
import Derived.Test.YtebnghmioamheaaGreatDoorM22
set_option maxHeartbeats 4000000
set_option maxRecDepth 100000
set_option linter.all false
namespace Go.Proofs.YtebnghmioamheaaGreatDoor
open Go.Shelf Go.RowKit Go.Lib Brm Tryz
variable {c:Cx}{ps:List Pat}{xs:LV}{lv:Value}{w:World}{bi i:Nat}{p:Pat}{l:LZ}
theorem wK (ho:cB w c.A 132 2 lv ps.length xs)(hl:cM w c.A c.L ps xs)(ih:∀p∈ps,GM c p)(hok:∀p∈ps,p.Ok)(k:Nat)(hk:k<ps.length)(w':World)(hw':KR c.R w w'):∃F cp G tc b cap,lv=Vs b ps.length cap/\b<w'.heap.size/\w'.cell? ⟨b,k*2,none⟩=some (Vf F cp)/\w'.cell? ⟨b,k*2+1,none⟩=some (Vf G tc)/\(∀args w,(callFunc F args).run prog w=.ok (.enter F args) w) /\
   ∀w2 j,KR c.R w w2->Inv c w2->j<=c.l.length->Calls prog F (#[Vp c.bt,Vi j]++cp) w2 λe w3=>e=.returned (.int .u64 ((mk (mT ps[k] c.l j) (c.l.length+1):Nat):Int))/\Inv c w3/\KR c.R w2 w3:=by
 obtain⟨f,t,⟨G,tc,rfl⟩,l,m⟩:=cM.at ps xs hl k ps[k] (zB hk);obtain⟨F,cp,rfl,s⟩:=EV.form ps[k] f (hok _ (xE hk)) l;have a:=hw'.keeps (A:=c.A) (λg h=>h);obtain⟨b,cap,rfl,n,_,q,o⟩:=BU (ho.keep a) hk m;exact⟨F,cp,G,tc,b,cap,rfl,n,q,o,s,λw2 j i d r=>ih ps[k] (xE hk) w2 F cp j d (EV.keep (i.keeps (A:=c.A) (λg h=>h)) ps[k] _ l) r⟩
theorem qR (p:Pat)(F:Nat)(cp:Array Value)(t:Value)(eg:∀args w,(callFunc F args).run prog w=.ok (.enter F args) w)(g:Nat->Bool){w0:World}(w':World)(hK:KR c.R w0 w)(hI:Inv c w)(hb:Bw w w')
  (hc:∀w2 k,KR c.R w w2->Inv c w2->k<=c.l.length->Calls prog F (#[Vp c.bt,Vi k]++cp) w2 λe w''=>e=.returned (.int .u64 ((mk (mT p c.l k) (c.l.length+1):Nat):Int))/\Inv c w''/\KR c.R w2 w''):Calls prog 125 #[.agg #[Vf F cp,t],Vp c.bt,.int .u64 ((mk g (c.l.length+1):Nat):Int)] w' λe w5=>e=.returned (.int .u64 ((mk (jp p c.l g) (c.l.length+1):Nat):Int))/\Inv c w5/\KR c.R w0 w5 :=
 (Tk p F cp t eg g (hI.below hb) (λw2 j b f d=>hc w2 j ((KR.below hb).trans b) f d)).mono (λ_ _ a=>⟨a.1,a.2.1,hK.trans ((KR.below hb).trans a.2.2)⟩)
theorem Ab (p:Pat)(F:Nat)(cp:Array Value)(k:Nat){w0:World}(w':World)(hK:KR c.R w0 w)(hI:Inv c w)(hb:Bw w w')(hk:k<=c.l.length)
  (hc:∀w2 k,KR c.R w w2->Inv c w2->k<=c.l.length->Calls prog F (#[Vp c.bt,Vi k]++cp) w2 λe w''=>e=.returned (.int .u64 ((mk (mT p c.l k) (c.l.length+1):Nat):Int))/\Inv c w''/\KR c.R w2 w''):Calls prog F (#[Vp c.bt,Vi k]++cp) w' λe w5=>e=.returned (.int .u64 ((mk (mT p c.l k) (c.l.length+1):Nat):Int))/\Inv c w5/\KR c.R w0 w5 :=
 (hc w' k (KR.below hb) (hI.below hb) hk).mono (λ_ _ a=>⟨a.1,a.2.1,hK.trans ((KR.below hb).trans a.2.2)⟩)
theorem Sx (ih:∀p∈ps,GM c p)(hok:∀p∈ps,p.Ok)(i:Nat)(hI:Inv c w)(hi:i<=c.l.length)(hbi:ag w bi [lv] 168)(ho:cB w c.A 132 2 lv ps.length xs)(hl:cM w c.A c.L ps xs)(h100:ps.length<=100):Calls prog 123 #[Vp c.bt,Vi i,Vp bi] w λe w'=>e=.returned (.int .u64 ((mk (mT (.row ps) c.l i) (c.l.length+1):Nat):Int))/\Inv c w'/\KR c.R w w':=by
 have d:=aa (wK ho hl ih hok);obtain⟨lo,S,rfl⟩:=pi ho.1;have W:=one hbi;have H:=hI.len;have K:=aa hI;have I:=aa hi;have D:Hid (mk (kC (ps.take 0) c.l i) (c.l.length+1)=mk (fX i) (c.l.length+1)):=dC (λj s=>by rw[List.take_zero,<-QU (by omega)];unfold qt fX;rw[ze];simp only[zY];exact⟨λh=>h.symm,λh=>h.symm⟩);go_enter func123,ntmps123;go_wp2_with (go_at_call 124;refine (oY i (c.l.length+1) _ (by omega) (by omega)).mono ?_;rintro e w' ⟨rfl,m⟩;have y:=m.symm;subst y)
 go_loopw [6,13] (λnow ix wr=>∃k:Nat,k<=ps.length/\ix=Vi k/\now=.int .u64 ((mk (kC (ps.take k) c.l i) (c.l.length+1):Nat):Int)/\Inv c wr/\KR c.R w wr) (λ_ ix _=>ps.length-(intOf ix).toNat)
 case atStart=>exact⟨0,zW _,rfl,by rw[D.out],K,KR.refl _ _⟩
 case round=>
  obtain⟨k,Q,rfl,rfl,hI,v⟩:=hrel;have n:=aa hI;have f:=aa v;have Y:(0:Int)<=(k:Int):=zK _;by_cases g:k<ps.length
  ·obtain⟨F,M,U,R,b,L,B,O,T,V,J,a⟩:=d.out k g wr v;cases B;have u:Hid (ps.take (k+1)=ps.take k++[ps[k]]):=yu g;generalize ps[k]=p at a u;have E:=aa (λ(w2:World) (j:Nat) (hb:KR c.R wr w2) (hI2:Inv c w2) (s:j<=c.l.length)=>a w2 j (f.trans hb) hI2 s);have P:(k:Int)<(ps.length:Int):=by omega
   have N:Hid (b≠wr.heap.size):=by show _≠_;omega
   have t:=aa (λj (s:j<c.l.length+1)=>Nj (p:=p) (ps:=ps.take k) (l:=c.l) (i:=i) (j:=j) (by omega));generalize kC (ps.take k) c.l i=G at t ⊢;go_wp2_with (go_at_call 125;refine (qR p F M _ J G _ f n (by first|exact zE _ _|exact (zE _ _).alloc (zA _) _) E).mono ?_;rintro e Z ⟨rfl,o,r⟩;have z:=aa o;have A:=aa r)
   go_roundw
   case rel=>exact⟨k+1,by omega,by go_num,by rw[u.out];exact congrArg (λx:Nat=>Value.int .u64 (x:Int)) (dC (λj s=>t j s)),z,A⟩
   case measure=>simp[intOf];omega
  ·have q:k=ps.length:=by omega
   have C:Hid (mk (kC (ps.take k) c.l i) (c.l.length+1)=mk (mT (.row ps) c.l i) (c.l.length+1)):=by show _=_;rw[q,zQ];exact dC (λj _=>Xe)
   generalize mk (kC (ps.take k) c.l i) (c.l.length+1)=X at C ⊢;have P:decide (k<ps.length)=false:=zI g;go_wp2;go_ret;exact⟨by rw[<-C.out];rfl,n,f⟩
theorem Sy {j:Nat}:(rR ps l i j||mT p l i j)=rR (ps++[p]) l i j:=by
 rw[ze];unfold rR mT;simp only[yZ,zY,nO,zM,yQ];constructor
 ·rintro (⟨b,q,c,a⟩|⟨b,a⟩)
  ·exact⟨b,q,.inl c,a⟩
  ·exact⟨b,p,.inr rfl,a⟩
 ·rintro⟨b,q,c|rfl,a⟩
  ·exact .inl ⟨b,q,c,a⟩
  ·exact .inr ⟨b,a⟩
theorem Pb {j:Nat}:(mu ps l i j&&mT p l i j)=mu (ps++[p]) l i j:=by
 rw[ze];unfold mu mT;simp only[yP,zY,mj,zM,yQ];constructor
 ·rintro⟨⟨c,b⟩,_,d⟩;exact⟨c,λq a=>by rcases a with a|rfl;exact b q a;exact d⟩
 ·rintro⟨c,b⟩;exact⟨⟨c,λq a=>b q (.inl a)⟩,c,b p (.inr rfl)⟩
theorem VQ (ih:∀p∈ps,GM c p)(hok:∀p∈ps,p.Ok)(i:Nat)(hI:Inv c w)(hi:i<=c.l.length)(hbi:ag w bi [lv] 168)(ho:cB w c.A 132 2 lv ps.length xs)(hl:cM w c.A c.L ps xs)(h100:ps.length<=100):Calls prog 129 #[Vp c.bt,Vi i,Vp bi] w λe w'=>e=.returned (.int .u64 ((mk (mT (.or ps) c.l i) (c.l.length+1):Nat):Int))/\Inv c w'/\KR c.R w w':=by
 have d:=aa (wK ho hl ih hok);obtain⟨W,O,rfl⟩:=pi ho.1;have T:=one hbi;have D:=hI.len;have E:=aa hI;have u:=aa hi;have B:Hid (mk (rR (ps.take 0) c.l i) (c.l.length+1)=0):=kX.2 (λj A=>by rw[List.take_zero];unfold rR;simp[gy]);go_enter func129,ntmps129;go_wp2_with fail
 go_loopw [6,11] (λnow ix wr=>∃k:Nat,k<=ps.length/\ix=Vi k/\now=.int .u64 ((mk (rR (ps.take k) c.l i) (c.l.length+1):Nat):Int)/\Inv c wr/\KR c.R w wr) (λ_ ix _=>ps.length-(intOf ix).toNat)
 case atStart=>exact⟨0,zW _,rfl,by rw[B.out];rfl,E,KR.refl _ _⟩
 case round=>
  obtain⟨k,M,rfl,rfl,hI,s⟩:=hrel;have h:=aa hI;have f:=aa s;have U:(0:Int)<=(k:Int):=zK _;by_cases g:k<ps.length
  ·obtain⟨F,I,R,N,b,H,y,K,P,S,Q,a⟩:=d.out k g wr s;cases y;have r:Hid (ps.take (k+1)=ps.take k++[ps[k]]):=yu g;generalize ps[k]=p at a r;have C:=aa (λ(w2:World) (j:Nat) (hb:KR c.R wr w2) (hI2:Inv c w2) (A:j<=c.l.length)=>a w2 j (f.trans hb) hI2 A);have L:(k:Int)<(ps.length:Int):=by omega
   have J:Hid (b≠wr.heap.size):=by show _≠_;omega
   have q:=aa (λj=>Sy (p:=p) (ps:=ps.take k) (l:=c.l) (i:=i) (j:=j));generalize rR (ps.take k) c.l i=G at q ⊢;go_wp2_with (go_at_fn F;refine (Ab p F I i _ f h (by first|exact zE _ _|exact (zE _ _).alloc (zA _) _) u C).mono ?_;rintro e V ⟨rfl,m,o⟩;have t:=aa m;have v:=aa o)
   go_roundw
   case rel=>exact⟨k+1,by omega,by go_num,by rw[r.out];exact congrArg (λx:Int=>Value.int .u64 x) ((FJ (show c.l.length+1<=42 by omega)).trans (congrArg (λx:Nat=>(x:Int)) (dC (λj _=>q j)))),t,v⟩
   case measure=>simp[intOf];omega
  ·have n:k=ps.length:=by omega
   have z:Hid (mk (rR (ps.take k) c.l i) (c.l.length+1)=mk (mT (.or ps) c.l i) (c.l.length+1)):=by show _=_;rw[n,zQ];exact dC (λj _=>Uz)
   generalize mk (rR (ps.take k) c.l i) (c.l.length+1)=X at z ⊢;have L:decide (k<ps.length)=false:=zI g;go_wp2;go_ret;exact⟨by rw[<-z.out];rfl,h,f⟩
theorem Sz (ih:∀p∈ps,GM c p)(hok:∀p∈ps,p.Ok)(i:Nat)(hI:Inv c w)(hi:i<=c.l.length)(hbi:ag w bi [lv] 168)(ho:cB w c.A 132 2 lv ps.length xs)(hl:cM w c.A c.L ps xs)(h100:ps.length<=100):Calls prog 131 #[Vp c.bt,Vi i,Vp bi] w λe w'=>e=.returned (.int .u64 ((mk (mT (.and ps) c.l i) (c.l.length+1):Nat):Int))/\Inv c w'/\KR c.R w w':=by
 have d:=aa (wK ho hl ih hok);obtain⟨Z,Q,rfl⟩:=pi ho.1;have V:=one hbi;have I:=hI.len;have D:=aa hI;have m:=aa hi;have E:Hid (mk (mu (ps.take 0) c.l i) (c.l.length+1)=mk (mO i) (c.l.length+1)):=dC (λj C=>by rw[List.take_zero];unfold mu mO;simp[eG]);go_enter func131,ntmps131;go_wp2_with (go_at_call 132;refine (AQ i D m).mono ?_;rintro e w' ⟨rfl,h⟩;have v:=h.symm;subst v)
 go_loopw [6,14] (λnow ix wr=>∃k:Nat,k<=ps.length/\ix=Vi k/\now=.int .u64 ((mk (mu (ps.take k) c.l i) (c.l.length+1):Nat):Int)/\Inv c wr/\KR c.R w wr) (λ_ ix _=>ps.length-(intOf ix).toNat)
 case atStart=>exact⟨0,zW _,rfl,by rw[E.out],D,KR.refl _ _⟩
 case round=>
  obtain⟨k,O,rfl,rfl,hI,u⟩:=hrel;have n:=aa hI;have f:=aa u;have W:(0:Int)<=(k:Int):=zK _;by_cases g:k<ps.length
  ·obtain⟨F,K,T,P,b,J,A,M,R,U,S,a⟩:=d.out k g wr u;cases A;have t:Hid (ps.take (k+1)=ps.take k++[ps[k]]):=yu g;generalize ps[k]=p at a t;have H:=aa (λ(w2:World) (j:Nat) (hb:KR c.R wr w2) (hI2:Inv c w2) (C:j<=c.l.length)=>a w2 j (f.trans hb) hI2 C);have N:(k:Int)<(ps.length:Int):=by omega
   have L:Hid (b≠wr.heap.size):=by show _≠_;omega
   have s:=aa (λj=>Pb (p:=p) (ps:=ps.take k) (l:=c.l) (i:=i) (j:=j));generalize mu (ps.take k) c.l i=G at s ⊢;go_wp2_with (go_at_fn F;refine (Ab p F K i _ f n (by first|exact zE _ _|exact (zE _ _).alloc (zA _) _) m H).mono ?_;rintro e Y ⟨rfl,o,r⟩;have y:=aa o;have z:=aa r)
   go_roundw
   case rel=>exact⟨k+1,by omega,by go_num,by rw[t.out];exact congrArg (λx:Int=>Value.int .u64 x) ((Wm (show c.l.length+1<=42 by omega)).trans (congrArg (λx:Nat=>(x:Int)) (dC (λj _=>s j)))),y,z⟩
   case measure=>simp[intOf];omega
  ·have q:k=ps.length:=by omega
   have B:Hid (mk (mu (ps.take k) c.l i) (c.l.length+1)=mk (mT (.and ps) c.l i) (c.l.length+1)):=by show _=_;rw[q,zQ];exact dC (λj _=>ND)
   generalize mk (mu (ps.take k) c.l i) (c.l.length+1)=X at B ⊢;have N:decide (k<ps.length)=false:=zI g;go_wp2;go_ret;exact⟨by rw[<-B.out];rfl,n,f⟩
theorem Sd :mk (λj=>mO i j&&!mT p l i j) (l.length+1)=mk (mT (.not p) l i) (l.length+1):=dC (λj _=>by rw[<-Xf];rfl)
theorem Se (p:Pat)(F:Nat)(cp:Array Value)(t:Value)(eg:∀args w,(callFunc F args).run prog w=.ok (.enter F args) w)(i:Nat)(hI:Inv c w)(hi:i<=c.l.length)(hA:c.A bi)(hbi:ag w bi [Vf F cp,t] 132)
  (hc:∀w2 k,KR c.R w w2->Inv c w2->k<=c.l.length->Calls prog F (#[Vp c.bt,Vi k]++cp) w2 λe w''=>e=.returned (.int .u64 ((mk (mT p c.l k) (c.l.length+1):Nat):Int))/\Inv c w''/\KR c.R w2 w''):Calls prog 133 #[Vp c.bt,Vi i,Vp bi] w λe w'=>e=.returned (.int .u64 ((mk (mT (.not p) c.l i) (c.l.length+1):Nat):Int))/\Inv c w'/\KR c.R w w':=by
 obtain⟨r,z⟩:=iJ hbi;have n:=hbi.lt;have u:=aa hA;have s:=aa hI;have l:=aa (λ(w':World) (h':Inv c w')=>AQ i h' hi);have q:=aa (λ(w':World) (hk:KR c.R w w') (h':Inv c w')=>hc w' i hk h' hi);have m:=aa ((At (f:=mO i) (g:=mT p c.l i) (show c.l.length+1<=42 by have:=hI.len;omega)).trans (congrArg (λx:Nat=>(x:Int)) Sd));generalize mk (mO i) (c.l.length+1)=X at m l;generalize mk (mT p c.l i) (c.l.length+1)=Y at m q;generalize mk (mT (.not p) c.l i) (c.l.length+1)=Z at m ⊢;go_enter func133,ntmps133;go_wp2_with fail
 go_region_held3 (λw'=>Inv c w'/\KR c.R w w'/\w'.cell? (aD bi 0)=some (Vf F cp))
  (first|exact⟨s.drew,(KR.refl _ _).drew,r⟩|exact⟨b,a,(a.cell (p:=(aD bi 0)) n u).trans r⟩)
  (first
   |(go_at_call 132;refine (l _ (‹Inv c _/\KR c.R w _/\_›.1)).mono ?_;rintro e v ⟨rfl,h⟩;have o:=h.symm;subst o)
   |(go_at_fn F;refine (q _ (‹Inv c _/\KR c.R w _/\_›.2.1) (‹Inv c _/\KR c.R w _/\_›.1)).mono ?_;rintro e y ⟨rfl,d,j⟩;have b:=aa d;have a:=aa ((‹Inv c _/\KR c.R w _/\_›.2.1).trans j)))
 all_goals (go_wp2_with fail;go_ret;exact⟨congrArg (λx:Int=>Ending.returned (Value.int .u64 x)) m,b,a⟩)
theorem Vd {f F:Nat->Bool}{n:Nat}(hd:∀j,j<n->F j=true->f j=false)(h:mk F n≠0):mk f n<mk (λj=>f j||F j) n:=by
 rw[<-KB];have d:mk f n<=mk f n ||| mk F n:=Nat.left_le_or;apply Nat.lt_of_le_of_ne d;intro e;apply h;apply kX.2;intro j b;apply Bool.eq_false_iff.2;intro c;have a:=congrArg (λx:Nat=>x.testBit j) e;simp only[Nat.testBit_or,eN,b,decide_true,Bool.true_and,c,Bool.or_true,hd j b c]at a;cases a
theorem Em {m d:Nat}{F:Nat->Bool}(h1:∀k,k<=l.length->F k=true->bO p m d l i k=true)
  (h2:∀k,k<=l.length->bO p m d l i k=true->F k=true\/∀j,j<=l.length->mT p l k j=true->bO p m d l i j=true):(∀k,k<=l.length->(jp p l F k&&!bO p m d l i k)=true->bO p m (d+1) l i k=true) /\
  (∀k,k<=l.length->bO p m (d+1) l i k=true->(jp p l F k&&!bO p m d l i k)=true\/∀j,j<=l.length->mT p l k j=true->bO p m (d+1) l i j=true):=by
 have c:=λj (b:j<=l.length)=>BZ (i:=i) b h1 h2;refine⟨λk a h=>by rw[<-c k a,h,Bool.or_true],λk a h=>?_⟩;rw[<-c k a,yZ]at h;rcases h with h|h
 ·right
  intro j b e;rw[<-c j b];rcases h2 k a h with f|g
  ·have n:jp p l F j=true:=ic.2 ⟨k,a,f,e⟩;rw[n];cases bO p m d l i j<;>rfl
  ·rw[g j b e];rfl
 ·exact .inl h
theorem Xg (p:Pat)(M:Nat)(n:Int)(hM:M<=5)(hn:n=-1\/((M:Int)<=n/\n<=5))(F:Nat)(cp:Array Value)(t:Value)(eg:∀args w,(callFunc F args).run prog w=.ok (.enter F args) w)(i:Nat)(hI:Inv c w)(hi:i<=c.l.length){b0 b1 b2:Nat}(hA0:c.A b0)(hA1:c.A b1)(hA2:c.A b2)(hb0:ag w b0 [Vi M] 3)(hb1:ag w b1 [Vf F cp,t] 132)(hb2:ag w b2 [Vi n] 3)
  (hc:∀w2 k,KR c.R w w2->Inv c w2->k<=c.l.length->Calls prog F (#[Vp c.bt,Vi k]++cp) w2 λe w''=>e=.returned (.int .u64 ((mk (mT p c.l k) (c.l.length+1):Nat):Int))/\Inv c w''/\KR c.R w2 w''):Calls prog 134 #[Vp c.bt,Vi i,Vp b0,Vp b1,Vp b2] w λe w'=>e=.returned (.int .u64 ((mk (mT (.many p M n) c.l i) (c.l.length+1):Nat):Int))/\Inv c w'/\KR c.R w w':=by
 have a7:=hI.len;have HI:=aa hI;have a6:=aa hi;have HC:=aa hc;have C:Hid (∀w',KR c.R w w'->w'.cell? (aD b0 0)=some (Vi M)/\w'.cell? (aD b1 0)=some (Vf F cp)/\w'.cell? (aD b1 1)=some t/\w'.cell? (aD b2 0)=some (Vi n)):=λw' R=>
  ⟨one (hb0.kr R hA0),(iJ (hb1.kr R hA1)).1,(iJ (hb1.kr R hA1)).2,one (hb2.kr R hA2)⟩
 have HZ:Hid (mk (jX p 0 c.l i) (c.l.length+1)=mk (fX i) (c.l.length+1)):=dC (λj y=>by rw[Nk (by omega)];rfl);have HN:=aa hn;have HM:=aa hM;obtain⟨y0,_,_,_⟩:=C.out w (KR.refl _ _);go_enter func134,ntmps134;go_wp2_with (go_at_call 124;refine (oY i (c.l.length+1) _ (by omega) (by omega)).mono ?_;rintro e w' ⟨rfl,V⟩;have a2:=V.symm;subst a2)
 go_loopw [8,14] (λnow ix wr=>∃k:Nat,k<=M/\ix=Vi k/\now=.int .u64 ((mk (jX p k c.l i) (c.l.length+1):Nat):Int)/\Inv c wr/\KR c.R w wr) (λ_ ix _=>M-(intOf ix).toNat)
 case atStart=>exact⟨0,zW _,rfl,by rw[HZ.out],HI,KR.refl _ _⟩
 case round=>
  obtain⟨k,R,rfl,rfl,r,b⟩:=hrel;have s:=aa r;have o:=aa b;obtain⟨z0,z1,z2,z3⟩:=C.out wr b;have k0:(0:Int)<=(k:Int):=zK _;by_cases a4:k<M
  ·have HS:=aa (λj (y:j<c.l.length+1)=>ox (p:=p) (m:=k) (l:=c.l) (i:=i) (j:=j) (by omega));have E:=aa (λ(w2:World) (j:Nat) (hb:KR c.R wr w2) (hI2:Inv c w2) (y:j<=c.l.length)=>HC w2 j (o.trans hb) hI2 y);generalize jX p k c.l i=G at HS ⊢;go_wp2_with (go_at_call 125;refine (qR p F cp _ eg G _ o s (by first|exact zE _ _|exact (zE _ _).alloc (zA _) _) E).mono ?_;rintro e w5 ⟨rfl,v,u⟩;have H:=aa v;have D:=aa u)
   go_roundw
   case rel=>exact⟨k+1,by omega,by go_num,congrArg (λx:Nat=>Value.int .u64 (x:Int)) (dC (λj y=>HS j y)),H,D⟩
   case measure=>simp[intOf];omega
  ·have a5:k=M:=by omega
   subst a5;have k1:decide (k<k)=false:=zI a4;have HU:Hid (mk (bO p k 0 c.l i) (c.l.length+1)=mk (jX p k c.l i) (c.l.length+1)):=dC (λj y=>sA);go_wp2_with fail
   go_loopw [8,9,10] (λnow out turn wr=>∃(d:Nat) (G:Nat->Bool),turn=Vi ((k+d:Nat):Int)/\(n=-1\/((k+d:Nat):Int)<=n)/\now=.int .u64 ((mk G (c.l.length+1):Nat):Int)/\out=.int .u64 ((mk (bO p k d c.l i) (c.l.length+1):Nat):Int) /\
    (∀q,q<=c.l.length->G q=true->bO p k d c.l i q=true)/\(∀q,q<=c.l.length->bO p k d c.l i q=true->G q=true\/∀j,j<=c.l.length->mT p c.l q j=true->bO p k d c.l i j=true) /\
    (mk G (c.l.length+1)≠0->d<mk (bO p k d c.l i) (c.l.length+1))/\d<=mk (bO p k d c.l i) (c.l.length+1)+1/\Inv c wr/\KR c.R w wr)
    (λnow out _ _=>2*(4398046511104-(intOf out).toNat)+(if intOf now=0 then 0 else 1))
   case atStart=>exact⟨0,jX p k c.l i,rfl,by have:=HN.out;omega,rfl,by rw[HU.out],λq _ h=>by rw[sA];exact h,λq _ h=>by rw[sA]at h;exact .inl h,λh=>by rw[HU.out];omega,zW _,s,o⟩
   case round=>
    obtain⟨d,G,rfl,B,rfl,rfl,h1,W,h3,h4,r,b⟩:=hrel;have s:=aa r;have o:=aa b;have H1:=aa h1;have H2:=aa W;have H3:=aa h3;have H4:=aa h4;have A:=aa B;obtain⟨z0,z1,z2,z3⟩:=C.out wr b;have J:=dM (bO p k d c.l i) (show c.l.length+1<=42 by omega);have d0:(0:Int)<=((k+d:Nat):Int):=zK _;have Z:k+d<4398046511200:=by omega
    by_cases a:((k+d:Nat):Int)=n
    ·have N:Hid (mk (bO p k d c.l i) (c.l.length+1)=mk (mT (.many p k n) c.l i) (c.l.length+1)):=dC (λj _=>DW (by omega));generalize mk (bO p k d c.l i) (c.l.length+1)=X at N ⊢;have K:(((k+d:Nat):Int) != n)=false:=by rw[a];simp
     generalize ((k+d:Nat):Int)=td at K d0 ⊢;go_wp2;go_ret;exact⟨by rw[<-N.out];rfl,s,o⟩
    ·have K:(((k+d:Nat):Int) != n)=true:=bne_iff_ne.2 a;by_cases O:mk G (c.l.length+1)=0
     ·have N:Hid (mk (bO p k d c.l i) (c.l.length+1)=mk (mT (.many p k n) c.l i) (c.l.length+1)):=dC (λj y=>DV (by omega) (by have:=A.out;omega) (λq K hr=>by
       rcases H2.out q K hr with hG|hc
       ·rw[kX.1 O q (by omega)]at hG;cases hG
       ·exact hc))
      generalize mk (bO p k d c.l i) (c.l.length+1)=X at N ⊢;rw[O];generalize ((k+d:Nat):Int)=td at K d0 ⊢;go_wp2;go_ret;exact⟨by rw[<-N.out];rfl,s,o⟩
     ·have a9:(((mk G (c.l.length+1):Nat):Int) != 0)=true:=bne_iff_ne.2 (by omega);have T:=aa O;have E:=aa (λ(w2:World) (j:Nat) (hb:KR c.R wr w2) (hI2:Inv c w2) (y:j<=c.l.length)=>HC w2 j (o.trans hb) hI2 y);have I:=aa (At (f:=jp p c.l G) (g:=bO p k d c.l i) (show c.l.length+1<=42 by omega));have P:=aa (FJ (f:=bO p k d c.l i) (g:=λj=>jp p c.l G j&&!bO p k d c.l i j) (show c.l.length+1<=42 by omega));have z:Hid (mk (λj=>bO p k d c.l i j||(jp p c.l G j&&!bO p k d c.l i j)) (c.l.length+1)=mk (bO p k (d+1) c.l i) (c.l.length+1)):=dC (λj y=>BZ (by omega) H1 H2);have S:Hid (mk (λj=>jp p c.l G j&&!bO p k d c.l i j) (c.l.length+1)≠0->mk (bO p k d c.l i) (c.l.length+1)<mk (bO p k (d+1) c.l i) (c.l.length+1)):=λh=>by
       rw[<-z.out];exact Vd (λj _ hF=>by rw[yP,Bool.not_eq_true']at hF;exact hF.2) h
      have Q:Hid (mk (bO p k d c.l i) (c.l.length+1)<=mk (bO p k (d+1) c.l i) (c.l.length+1)):=by show _<=_;rw[<-z.out,<-KB];exact Nat.left_le_or
      have a1:=aa (dM (bO p k (d+1) c.l i) (show c.l.length+1<=42 by omega));have a0:=aa a;have a8:=aa Z;have dt:((k+d:Nat):Int)<4398046511200:=by omega
      generalize htd:((k+d:Nat):Int)=td at K d0 dt ⊢;have a3:=aa htd;go_wp2_with (go_at_call 125;refine (qR p F cp _ eg G _ o s (by first|exact zE _ _|exact (zE _ _).alloc (zA _) _) E).mono ?_;rintro e w5 ⟨rfl,v,u⟩;have H:=aa v;have D:=aa u)
      go_roundw
      case rel=>
       have r1:=H3.out T;have r2:=Q.out;have L:=A.out;have r4:=a0.out;have r5:=a3.out;exact⟨d+1,λj=>jp p c.l G j&&!bO p k d c.l i j,congrArg (Value.int .i64) (by omega),by omega,by rw[I.out],by rw[I.out,P.out,z.out],(Em H1 H2).1,(Em H1 H2).2,λh=>by have:=S.out h;omega,by omega,H,D⟩
      case measure=>
       rw[I.out,P.out,z.out];have r2:=Q.out;have L:=S.out;have r4:=a1.out;have r5:=T.out;simp only[intOf,Int.toNat_natCast];generalize mk (bO p k (d+1) c.l i) (c.l.length+1)=U' at r2 L r4 ⊢;generalize mk (bO p k d c.l i) (c.l.length+1)=U at r2 L ⊢;generalize mk (λj=>jp p c.l G j&&!bO p k d c.l i j) (c.l.length+1)=X at L ⊢;generalize mk G (c.l.length+1)=Y at r5 ⊢;show 2*(4398046511104-U')+(if (X:Int)=0 then 0 else 1)<2*(4398046511104-U)+(if (Y:Int)=0 then 0 else 1)
       rw[zR (show ¬((Y:Int)=0) by omega)];by_cases hX:X=0
       ·rw[zX (by omega)];omega
       ·rw[zR (by omega)];have:=L hX;omega
theorem Ct:∀(l:LQ) (a:Int),a<=1114112->Canon l->(∀y∈l,a<=y.1)->(l.length:Int)<=1114112-a
 | [],a,ha,_,_=>by simp;omega
 |x::l,a,ha,h,hy=>by
  obtain⟨b,d⟩:=canon_head h;have i:=hy x (by simp);have g:x.1<=x.2:=b.2.2;have e:x.2<=1114111:=by have:=b.2.1;simp only[runeB,zY]at this;omega
  have f:x.2+1<=after x.2:=by unfold after;split<;>omega
  have:=Ct l (a+1) (by omega) (mG h) (λy c=>by have:=d y c;omega);simp only[zG];omega
theorem xU {l:LQ}(h:Canon l):l.length<=1200000:=by
 have:=Ct l 0 (by omega) h (λy a=>by have:=(h.1 y a).1;simp only[runeB,zY]at this;omega);omega
theorem OH :mk (mT p l i) (l.length+1)=mk (mT (.or [p]) l i) (l.length+1):=dC (λ_ _=>Xd.trans Uz)
theorem Ly :mk (mT p l i) (l.length+1)=mk (mT (.and [p]) l i) (l.length+1):=dC (λ_ _=>UY.trans ND)
mutual
theorem nA (c:Cx):∀(p:Pat),p.Ok->GM c p
 |.set s,h=>Uf c s (xU h)
 |.row l,h=>by
  have v:=oG c l h;intro w F Q i o D q;obtain⟨j,L,O,J,z,e,b,B,C,K,f,d,G,_,y,T,rfl,I,u,S⟩:=D;cases B;exact pQ (.row l) 123 #[ar y] (enters_of func123 (by kernel_rfl) rfl) b i o f d G q
   (λH a=>Sx v ((lF l).1 h) i (o.below a) q (u.below a) (S.below a) (cM.keep (ah.below a) l L O) j)
 |.or l,h=>by
  have v:=oG c l h.1;intro w F Q i o D q;obtain⟨j,L,O,⟨U,t,V⟩|⟨_,J,z,e,b,B,C,K,f,d,G,_,y,T,rfl,I,u,S⟩⟩:=D
  ·obtain⟨p,rfl⟩:=zy.1 U;obtain⟨f',t',r,e,_,E,_⟩:=O;rw[V]at e;cases e;rw[<-OH];exact v p (by simp) w F Q i o E q
  ·cases B;exact pQ (.or l) 129 #[ar y] (enters_of func129 (by kernel_rfl) rfl) b i o f d G q
    (λH a=>VQ v ((lF l).1 h.1) i (o.below a) q (u.below a) (S.below a) (cM.keep (ah.below a) l L O) j)
 |.and l,h=>by
  have v:=oG c l h.1;intro w F Q i o D q;obtain⟨j,L,O,⟨U,t,V⟩|⟨_,J,z,e,b,B,C,K,f,d,G,_,y,T,rfl,I,u,S⟩⟩:=D
  ·obtain⟨p,rfl⟩:=zy.1 U;obtain⟨f',t',r,e,_,E,_⟩:=O;rw[V]at e;cases e;rw[<-Ly];exact v p (by simp) w F Q i o E q
  ·cases B;exact pQ (.and l) 131 #[ar y] (enters_of func131 (by kernel_rfl) rfl) b i o f d G q
    (λH a=>Sz v ((lF l).1 h.1) i (o.below a) q (u.below a) (S.below a) (cM.keep (ah.below a) l L O) j)
 |.not p,h=>by
  have v:=nA c p h;intro w F Q i o D q;obtain⟨g,t,E,J,z,e,b,B,C,K,f,d,G,_,y,rfl,I,u⟩:=D;cases B;obtain⟨R,x,rfl,W⟩:=EV.form p g h E;exact pQ (.not p) 133 #[ar y] (enters_of func133 (by kernel_rfl) rfl) b i o f d G q
   (λH a=>Se p R x t W i (o.below a) q I (u.below a) (λw2 k X N P=>v w2 R x k N (EV.keep ((X.keeps (A:=c.A) (λg h=>h))) p _ (EV.keep (ah.below a) p _ E)) P))
 |.many p m n,h=>by
  have v:=nA c p h.1;intro w F Q i o D q;obtain⟨g,t,E,J,z,e,b,B,C,K,f,d,G,_,b0,b1,b2,rfl,a2,a0,Y,a3,a1,Z⟩:=D;cases B;obtain⟨R,x,rfl,W⟩:=EV.form p g h.1 E;obtain⟨U,h2,h3,h4⟩:=h;obtain⟨M,rfl⟩:=Int.eq_ofNat_of_zero_le h2;exact pQ (.many p M n) 134 #[ar b0,ar b1,ar b2] (enters_of func134 (by kernel_rfl) rfl) b i o f d G q
   (λH a=>Xg p M n (by omega) h4 R x t W i (o.below a) q a2 a0 Y (a3.below a) (a1.below a) (Z.below a) (λw2 k X N P=>v w2 R x k N (EV.keep ((X.keeps (A:=c.A) (λg h=>h))) p _ (EV.keep (ah.below a) p _ E)) P))
 |.group p,h=>by
  have v:=nA c p h;exact v
theorem oG (c:Cx):∀(l:List Pat),jr l->∀p∈l,GM c p
 | [],_=>λp h=>by cases h
 |q::l,hk=>by
  have a:=nA c q hk.1;have b:=oG c l hk.2;intro p h;rcases zO.1 h with rfl|h
  ·exact a
  ·exact b p h
end
