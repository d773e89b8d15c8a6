import Derived.Laws.EntriesVeiled
import Derived.Test.YtebnghmioamheaaGreatDoorM21
set_option maxHeartbeats 4000000
set_option maxRecDepth 100000
set_option linter.all false
namespace Go.Proofs.YtebnghmioamheaaGreatDoor
open Go.Shelf Go.RowKit Go.Lib Brm Tryz
variable {c:Cx}{ps:List Pat}{xs:LV}{lv:Value}{w:World}{bi i:Nat}{p:Pat}{l:LZ}
theorem wK (ho:cB w c.A 132 2 lv ps.length xs)(hl:cM w c.A c.L ps xs)(ih:∀p∈ps,GM c p)(hok:∀p∈ps,p.Ok)(k:Nat)(hk:k<ps.length)(w':World)(hw':KR c.R w w'):∃F cp G tc b cap,lv=Vs b ps.length cap/\b<w'.heap.size/\w'.cell? ⟨b,k*2,none⟩=some (Vf F cp)/\w'.cell? ⟨b,k*2+1,none⟩=some (Vf G tc)/\(∀args w,(callFunc F args).run prog w=.ok (.enter F args) w) /\
   ∀w2 j,KR c.R w w2->Inv c w2->j<=c.l.length->Calls prog F (#[Vp c.bt,Vi j]++cp) w2 λe w3=>e=.returned (.int .u64 ((mk (mT ps[k] c.l j) (c.l.length+1):Nat):Int))/\Inv c w3/\KR c.R w2 w3:=by
 obtain⟨f,t,⟨G,tc,rfl⟩,l,q⟩:=cM.at ps xs hl k ps[k] (zB hk);obtain⟨F,cp,rfl,o⟩:=EV.form ps[k] f (hok _ (xE hk)) l;have d:=hw'.keeps (A:=c.A) (λg h=>h);obtain⟨b,cap,rfl,r,_,s,n⟩:=BU (ho.keep d) hk q;exact⟨F,cp,G,tc,b,cap,rfl,r,s,n,o,λw2 j i a m=>ih ps[k] (xE hk) w2 F cp j a (EV.keep (i.keeps (A:=c.A) (λg h=>h)) ps[k] _ l) m⟩
theorem qR (p:Pat)(F:Nat)(cp:Array Value)(t:Value)(eg:∀args w,(callFunc F args).run prog w=.ok (.enter F args) w)(g:Nat->Bool){w0:World}(w':World)(hK:KR c.R w0 w)(hI:Inv c w)(hb:Bw w w')
  (hc:∀w2 k,KR c.R w w2->Inv c w2->k<=c.l.length->Calls prog F (#[Vp c.bt,Vi k]++cp) w2 λe w''=>e=.returned (.int .u64 ((mk (mT p c.l k) (c.l.length+1):Nat):Int))/\Inv c w''/\KR c.R w2 w''):Calls prog 125 #[.agg #[Vf F cp,t],Vp c.bt,.int .u64 ((mk g (c.l.length+1):Nat):Int)] w' λe w5=>e=.returned (.int .u64 ((mk (jp p c.l g) (c.l.length+1):Nat):Int))/\Inv c w5/\KR c.R w0 w5 :=
 (Tk p F cp t eg g (hI.below hb) (λw2 j f d b=>hc w2 j ((KR.below hb).trans f) d b)).mono (λ_ _ a=>⟨a.1,a.2.1,hK.trans ((KR.below hb).trans a.2.2)⟩)
theorem Ab (p:Pat)(F:Nat)(cp:Array Value)(k:Nat){w0:World}(w':World)(hK:KR c.R w0 w)(hI:Inv c w)(hb:Bw w w')(hk:k<=c.l.length)
  (hc:∀w2 k,KR c.R w w2->Inv c w2->k<=c.l.length->Calls prog F (#[Vp c.bt,Vi k]++cp) w2 λe w''=>e=.returned (.int .u64 ((mk (mT p c.l k) (c.l.length+1):Nat):Int))/\Inv c w''/\KR c.R w2 w''):Calls prog F (#[Vp c.bt,Vi k]++cp) w' λe w5=>e=.returned (.int .u64 ((mk (mT p c.l k) (c.l.length+1):Nat):Int))/\Inv c w5/\KR c.R w0 w5 :=
 (hc w' k (KR.below hb) (hI.below hb) hk).mono (λ_ _ a=>⟨a.1,a.2.1,hK.trans ((KR.below hb).trans a.2.2)⟩)
theorem Sx (ih:∀p∈ps,GM c p)(hok:∀p∈ps,p.Ok)(i:Nat)(hI:Inv c w)(hi:i<=c.l.length)(hbi:ag w bi [lv] 168)(ho:cB w c.A 132 2 lv ps.length xs)(hl:cM w c.A c.L ps xs)(h100:ps.length<=100):Calls prog 123 #[Vp c.bt,Vi i,Vp bi] w λe w'=>e=.returned (.int .u64 ((mk (mT (.row ps) c.l i) (c.l.length+1):Nat):Int))/\Inv c w'/\KR c.R w w':=by
 have g:=aa (wK ho hl ih hok);obtain⟨Q,Y,rfl⟩:=pi ho.1;have R:=one hbi;have K:=hI.len;have H:=aa hI;have L:=aa hi;have M:Hid (mk (kC (ps.take 0) c.l i) (c.l.length+1)=mk (fX i) (c.l.length+1)):=dC (λj m=>by rw[List.take_zero,<-QU (by omega)];unfold qt fX;rw[ze];simp only[zY];exact⟨λh=>h.symm,λh=>h.symm⟩);go_enter func123,ntmps123;go_wp2_with (go_at_call 124;refine (oY i (c.l.length+1) _ (by omega) (by omega)).mono ?_;rintro e w' ⟨rfl,u⟩;have A:=u.symm;subst A)
 go_loopw [6,13] (λnow ix wr=>∃k:Nat,k<=ps.length/\ix=Vi k/\now=.int .u64 ((mk (kC (ps.take k) c.l i) (c.l.length+1):Nat):Int)/\Inv c wr/\KR c.R w wr) (λ_ ix _=>ps.length-(intOf ix).toNat)
 case atStart=>exact⟨0,zW _,rfl,by rw[M.out],H,KR.refl _ _⟩
 case round=>
  obtain⟨k,Z,rfl,rfl,hI,v⟩:=hrel;have n:=aa hI;have f:=aa v;have k0:(0:Int)<=(k:Int):=zK _;by_cases d:k<ps.length
  ·obtain⟨F,E,U,S,b,P,B,I,V,W,O,a⟩:=g.out k d wr v;cases B;have r:Hid (ps.take (k+1)=ps.take k++[ps[k]]):=yu d;generalize ps[k]=p at a r;have N:=aa (λ(w2:World) (j:Nat) (hb:KR c.R wr w2) (hI2:Inv c w2) (m:j<=c.l.length)=>a w2 j (f.trans hb) hI2 m);have J:(k:Int)<(ps.length:Int):=by omega
   have D:Hid (b≠wr.heap.size):=by show _≠_;omega
   have s:=aa (λj (m:j<c.l.length+1)=>Nj (p:=p) (ps:=ps.take k) (l:=c.l) (i:=i) (j:=j) (by omega));generalize kC (ps.take k) c.l i=G at s ⊢;go_wp2_with (go_at_call 125;refine (qR p F E _ O G _ f n (by first|exact zE _ _|exact (zE _ _).alloc (zA _) _) N).mono ?_;rintro e T ⟨rfl,q,t⟩;have z:=aa q;have y:=aa t)
   go_roundw
   case rel=>exact⟨k+1,by omega,by go_num,by rw[r.out];exact congrArg (λx:Nat=>Value.int .u64 (x:Int)) (dC (λj m=>s j m)),z,y⟩
   case measure=>simp[intOf];omega
  ·have o:k=ps.length:=by omega
   have C:Hid (mk (kC (ps.take k) c.l i) (c.l.length+1)=mk (mT (.row ps) c.l i) (c.l.length+1)):=by show _=_;rw[o,zQ];exact dC (λj _=>Xe)
   generalize mk (kC (ps.take k) c.l i) (c.l.length+1)=X at C ⊢;have J:decide (k<ps.length)=false:=zI d;go_wp2;go_ret;exact⟨by rw[<-C.out];rfl,n,f⟩
theorem Sy {j:Nat}:(rR ps l i j||mT p l i j)=rR (ps++[p]) l i j:=by
 rw[ze];unfold rR mT;simp only[yZ,zY,nO,zM,yQ];constructor
 ·rintro (⟨a,q,c,b⟩|⟨a,b⟩)
  ·exact⟨a,q,.inl c,b⟩
  ·exact⟨a,p,.inr rfl,b⟩
 ·rintro⟨a,q,c|rfl,b⟩
  ·exact .inl ⟨a,q,c,b⟩
  ·exact .inr ⟨a,b⟩
theorem Pb {j:Nat}:(mu ps l i j&&mT p l i j)=mu (ps++[p]) l i j:=by
 rw[ze];unfold mu mT;simp only[yP,zY,mj,zM,yQ];constructor
 ·rintro⟨⟨c,b⟩,_,d⟩;exact⟨c,λq a=>by rcases a with a|rfl;exact b q a;exact d⟩
 ·rintro⟨c,b⟩;exact⟨⟨c,λq a=>b q (.inl a)⟩,c,b p (.inr rfl)⟩
theorem VQ (ih:∀p∈ps,GM c p)(hok:∀p∈ps,p.Ok)(i:Nat)(hI:Inv c w)(hi:i<=c.l.length)(hbi:ag w bi [lv] 168)(ho:cB w c.A 132 2 lv ps.length xs)(hl:cM w c.A c.L ps xs)(h100:ps.length<=100):Calls prog 129 #[Vp c.bt,Vi i,Vp bi] w λe w'=>e=.returned (.int .u64 ((mk (mT (.or ps) c.l i) (c.l.length+1):Nat):Int))/\Inv c w'/\KR c.R w w':=by
 have g:=aa (wK ho hl ih hok);obtain⟨M,U,rfl⟩:=pi ho.1;have N:=one hbi;have I:=hI.len;have D:=aa hI;have v:=aa hi;have J:Hid (mk (rR (ps.take 0) c.l i) (c.l.length+1)=0):=kX.2 (λj z=>by rw[List.take_zero];unfold rR;simp[gy]);go_enter func129,ntmps129;go_wp2_with fail
 go_loopw [6,11] (λnow ix wr=>∃k:Nat,k<=ps.length/\ix=Vi k/\now=.int .u64 ((mk (rR (ps.take k) c.l i) (c.l.length+1):Nat):Int)/\Inv c wr/\KR c.R w wr) (λ_ ix _=>ps.length-(intOf ix).toNat)
 case atStart=>exact⟨0,zW _,rfl,by rw[J.out];rfl,D,KR.refl _ _⟩
 case round=>
  obtain⟨k,V,rfl,rfl,hI,s⟩:=hrel;have h:=aa hI;have f:=aa s;have W:(0:Int)<=(k:Int):=zK _;by_cases d:k<ps.length
  ·obtain⟨F,C,Q,O,b,L,y,E,R,S,T,a⟩:=g.out k d wr s;cases y;have o:Hid (ps.take (k+1)=ps.take k++[ps[k]]):=yu d;generalize ps[k]=p at a o;have K:=aa (λ(w2:World) (j:Nat) (hb:KR c.R wr w2) (hI2:Inv c w2) (z:j<=c.l.length)=>a w2 j (f.trans hb) hI2 z);have H:(k:Int)<(ps.length:Int):=by omega
   have B:Hid (b≠wr.heap.size):=by show _≠_;omega
   have q:=aa (λj=>Sy (p:=p) (ps:=ps.take k) (l:=c.l) (i:=i) (j:=j));generalize rR (ps.take k) c.l i=G at q ⊢;go_wp2_with (go_at_fn F;refine (Ab p F C i _ f h (by first|exact zE _ _|exact (zE _ _).alloc (zA _) _) v K).mono ?_;rintro e P ⟨rfl,n,r⟩;have u:=aa n;have t:=aa r)
   go_roundw
   case rel=>exact⟨k+1,by omega,by go_num,by rw[o.out];exact congrArg (λx:Int=>Value.int .u64 x) ((FJ (show c.l.length+1<=42 by omega)).trans (congrArg (λx:Nat=>(x:Int)) (dC (λj _=>q j)))),u,t⟩
   case measure=>simp[intOf];omega
  ·have m:k=ps.length:=by omega
   have A:Hid (mk (rR (ps.take k) c.l i) (c.l.length+1)=mk (mT (.or ps) c.l i) (c.l.length+1)):=by show _=_;rw[m,zQ];exact dC (λj _=>Uz)
   generalize mk (rR (ps.take k) c.l i) (c.l.length+1)=X at A ⊢;have H:decide (k<ps.length)=false:=zI d;go_wp2;go_ret;exact⟨by rw[<-A.out];rfl,h,f⟩
theorem Sz (ih:∀p∈ps,GM c p)(hok:∀p∈ps,p.Ok)(i:Nat)(hI:Inv c w)(hi:i<=c.l.length)(hbi:ag w bi [lv] 168)(ho:cB w c.A 132 2 lv ps.length xs)(hl:cM w c.A c.L ps xs)(h100:ps.length<=100):Calls prog 131 #[Vp c.bt,Vi i,Vp bi] w λe w'=>e=.returned (.int .u64 ((mk (mT (.and ps) c.l i) (c.l.length+1):Nat):Int))/\Inv c w'/\KR c.R w w':=by
 have g:=aa (wK ho hl ih hok);obtain⟨O,W,rfl⟩:=pi ho.1;have P:=one hbi;have K:=hI.len;have C:=aa hI;have r:=aa hi;have L:Hid (mk (mu (ps.take 0) c.l i) (c.l.length+1)=mk (mO i) (c.l.length+1)):=dC (λj B=>by rw[List.take_zero];unfold mu mO;simp[eG]);go_enter func131,ntmps131;go_wp2_with (go_at_call 132;refine (AQ i C r).mono ?_;rintro e w' ⟨rfl,t⟩;have z:=t.symm;subst z)
 go_loopw [6,14] (λnow ix wr=>∃k:Nat,k<=ps.length/\ix=Vi k/\now=.int .u64 ((mk (mu (ps.take k) c.l i) (c.l.length+1):Nat):Int)/\Inv c wr/\KR c.R w wr) (λ_ ix _=>ps.length-(intOf ix).toNat)
 case atStart=>exact⟨0,zW _,rfl,by rw[L.out],C,KR.refl _ _⟩
 case round=>
  obtain⟨k,Y,rfl,rfl,hI,u⟩:=hrel;have h:=aa hI;have f:=aa u;have Z:(0:Int)<=(k:Int):=zK _;by_cases d:k<ps.length
  ·obtain⟨F,H,S,Q,b,N,A,I,T,U,V,a⟩:=g.out k d wr u;cases A;have o:Hid (ps.take (k+1)=ps.take k++[ps[k]]):=yu d;generalize ps[k]=p at a o;have M:=aa (λ(w2:World) (j:Nat) (hb:KR c.R wr w2) (hI2:Inv c w2) (B:j<=c.l.length)=>a w2 j (f.trans hb) hI2 B);have J:(k:Int)<(ps.length:Int):=by omega
   have E:Hid (b≠wr.heap.size):=by show _≠_;omega
   have q:=aa (λj=>Pb (p:=p) (ps:=ps.take k) (l:=c.l) (i:=i) (j:=j));generalize mu (ps.take k) c.l i=G at q ⊢;go_wp2_with (go_at_fn F;refine (Ab p F H i _ f h (by first|exact zE _ _|exact (zE _ _).alloc (zA _) _) r M).mono ?_;rintro e R ⟨rfl,n,s⟩;have y:=aa n;have v:=aa s)
   go_roundw
   case rel=>exact⟨k+1,by omega,by go_num,by rw[o.out];exact congrArg (λx:Int=>Value.int .u64 x) ((Wm (show c.l.length+1<=42 by omega)).trans (congrArg (λx:Nat=>(x:Int)) (dC (λj _=>q j)))),y,v⟩
   case measure=>simp[intOf];omega
  ·have m:k=ps.length:=by omega
   have D:Hid (mk (mu (ps.take k) c.l i) (c.l.length+1)=mk (mT (.and ps) c.l i) (c.l.length+1)):=by show _=_;rw[m,zQ];exact dC (λj _=>ND)
   generalize mk (mu (ps.take k) c.l i) (c.l.length+1)=X at D ⊢;have J:decide (k<ps.length)=false:=zI d;go_wp2;go_ret;exact⟨by rw[<-D.out];rfl,h,f⟩
theorem Sd :mk (λj=>mO i j&&!mT p l i j) (l.length+1)=mk (mT (.not p) l i) (l.length+1):=dC (λj _=>by rw[<-Xf];rfl)
theorem Se (p:Pat)(F:Nat)(cp:Array Value)(t:Value)(eg:∀args w,(callFunc F args).run prog w=.ok (.enter F args) w)(i:Nat)(hI:Inv c w)(hi:i<=c.l.length)(hA:c.A bi)(hbi:ag w bi [Vf F cp,t] 132)
  (hc:∀w2 k,KR c.R w w2->Inv c w2->k<=c.l.length->Calls prog F (#[Vp c.bt,Vi k]++cp) w2 λe w''=>e=.returned (.int .u64 ((mk (mT p c.l k) (c.l.length+1):Nat):Int))/\Inv c w''/\KR c.R w2 w''):Calls prog 133 #[Vp c.bt,Vi i,Vp bi] w λe w'=>e=.returned (.int .u64 ((mk (mT (.not p) c.l i) (c.l.length+1):Nat):Int))/\Inv c w'/\KR c.R w w':=by
 obtain⟨q,y⟩:=iJ hbi;have n:=hbi.lt;have u:=aa hA;have s:=aa hI;have h:=aa (λ(w':World) (h':Inv c w')=>AQ i h' hi);have r:=aa (λ(w':World) (hk:KR c.R w w') (h':Inv c w')=>hc w' i hk h' hi);have m:=aa ((At (f:=mO i) (g:=mT p c.l i) (show c.l.length+1<=42 by have:=hI.len;omega)).trans (congrArg (λx:Nat=>(x:Int)) Sd));generalize mk (mO i) (c.l.length+1)=X at m h;generalize mk (mT p c.l i) (c.l.length+1)=Y at m r;generalize mk (mT (.not p) c.l i) (c.l.length+1)=Z at m ⊢;go_enter func133,ntmps133;go_wp2_with fail
 go_region_held3 (λw'=>Inv c w'/\KR c.R w w'/\w'.cell? (aD bi 0)=some (Vf F cp))
  (first|exact⟨s.drew,(KR.refl _ _).drew,q⟩|exact⟨b,a,(a.cell (p:=(aD bi 0)) n u).trans q⟩)
  (first
   |(go_at_call 132;refine (h _ (‹Inv c _/\KR c.R w _/\_›.1)).mono ?_;rintro e z ⟨rfl,j⟩;have o:=j.symm;subst o)
   |(go_at_fn F;refine (r _ (‹Inv c _/\KR c.R w _/\_›.2.1) (‹Inv c _/\KR c.R w _/\_›.1)).mono ?_;rintro e v ⟨rfl,d,l⟩;have b:=aa d;have a:=aa ((‹Inv c _/\KR c.R w _/\_›.2.1).trans l)))
 all_goals (go_wp2_with fail;go_ret;exact⟨congrArg (λx:Int=>Ending.returned (Value.int .u64 x)) m,b,a⟩)
theorem Vd {f F:Nat->Bool}{n:Nat}(hd:∀j,j<n->F j=true->f j=false)(h:mk F n≠0):mk f n<mk (λj=>f j||F j) n:=by
 rw[<-KB];have d:mk f n<=mk f n ||| mk F n:=Nat.left_le_or;apply Nat.lt_of_le_of_ne d;intro e;apply h;apply kX.2;intro j c;apply Bool.eq_false_iff.2;intro b;have a:=congrArg (λx:Nat=>x.testBit j) e;simp only[Nat.testBit_or,eN,c,decide_true,Bool.true_and,b,Bool.or_true,hd j c b]at a;cases a
theorem Em {m d:Nat}{F:Nat->Bool}(h1:∀k,k<=l.length->F k=true->bO p m d l i k=true)
  (h2:∀k,k<=l.length->bO p m d l i k=true->F k=true\/∀j,j<=l.length->mT p l k j=true->bO p m d l i j=true):(∀k,k<=l.length->(jp p l F k&&!bO p m d l i k)=true->bO p m (d+1) l i k=true) /\
  (∀k,k<=l.length->bO p m (d+1) l i k=true->(jp p l F k&&!bO p m d l i k)=true\/∀j,j<=l.length->mT p l k j=true->bO p m (d+1) l i j=true):=by
 have c:=λj (b:j<=l.length)=>BZ (i:=i) b h1 h2;refine⟨λk a h=>by rw[<-c k a,h,Bool.or_true],λk a h=>?_⟩;rw[<-c k a,yZ]at h;rcases h with h|h
 ·right
  intro j b e;rw[<-c j b];rcases h2 k a h with f|n
  ·have g:jp p l F j=true:=ic.2 ⟨k,a,f,e⟩;rw[g];cases bO p m d l i j<;>rfl
  ·rw[n j b e];rfl
 ·exact .inl h
theorem Xg (p:Pat)(M:Nat)(n:Int)(hM:M<=5)(hn:n=-1\/((M:Int)<=n/\n<=5))(F:Nat)(cp:Array Value)(t:Value)(eg:∀args w,(callFunc F args).run prog w=.ok (.enter F args) w)(i:Nat)(hI:Inv c w)(hi:i<=c.l.length){b0 b1 b2:Nat}(hA0:c.A b0)(hA1:c.A b1)(hA2:c.A b2)(hb0:ag w b0 [Vi M] 3)(hb1:ag w b1 [Vf F cp,t] 132)(hb2:ag w b2 [Vi n] 3)
  (hc:∀w2 k,KR c.R w w2->Inv c w2->k<=c.l.length->Calls prog F (#[Vp c.bt,Vi k]++cp) w2 λe w''=>e=.returned (.int .u64 ((mk (mT p c.l k) (c.l.length+1):Nat):Int))/\Inv c w''/\KR c.R w2 w''):Calls prog 134 #[Vp c.bt,Vi i,Vp b0,Vp b1,Vp b2] w λe w'=>e=.returned (.int .u64 ((mk (mT (.many p M n) c.l i) (c.l.length+1):Nat):Int))/\Inv c w'/\KR c.R w w':=by
 have a9:=hI.len;have HI:=aa hI;have a6:=aa hi;have HC:=aa hc;have E:Hid (∀w',KR c.R w w'->w'.cell? (aD b0 0)=some (Vi M)/\w'.cell? (aD b1 0)=some (Vf F cp)/\w'.cell? (aD b1 1)=some t/\w'.cell? (aD b2 0)=some (Vi n)):=λw' R=>
  ⟨one (hb0.kr R hA0),(iJ (hb1.kr R hA1)).1,(iJ (hb1.kr R hA1)).2,one (hb2.kr R hA2)⟩
 have HZ:Hid (mk (jX p 0 c.l i) (c.l.length+1)=mk (fX i) (c.l.length+1)):=dC (λj y=>by rw[Nk (by omega)];rfl);have HN:=aa hn;have HM:=aa hM;obtain⟨y0,_,_,_⟩:=E.out w (KR.refl _ _);go_enter func134,ntmps134;go_wp2_with (go_at_call 124;refine (oY i (c.l.length+1) _ (by omega) (by omega)).mono ?_;rintro e w' ⟨rfl,V⟩;have a1:=V.symm;subst a1)
 go_loopw [8,14] (λnow ix wr=>∃k:Nat,k<=M/\ix=Vi k/\now=.int .u64 ((mk (jX p k c.l i) (c.l.length+1):Nat):Int)/\Inv c wr/\KR c.R w wr) (λ_ ix _=>M-(intOf ix).toNat)
 case atStart=>exact⟨0,zW _,rfl,by rw[HZ.out],HI,KR.refl _ _⟩
 case round=>
  obtain⟨k,R,rfl,rfl,r,b⟩:=hrel;have s:=aa r;have o:=aa b;obtain⟨z0,z1,z2,z3⟩:=E.out wr b;have k0:(0:Int)<=(k:Int):=zK _;by_cases a5:k<M
  ·have HS:=aa (λj (y:j<c.l.length+1)=>ox (p:=p) (m:=k) (l:=c.l) (i:=i) (j:=j) (by omega));have I:=aa (λ(w2:World) (j:Nat) (hb:KR c.R wr w2) (hI2:Inv c w2) (y:j<=c.l.length)=>HC w2 j (o.trans hb) hI2 y);generalize jX p k c.l i=G at HS ⊢;go_wp2_with (go_at_call 125;refine (qR p F cp _ eg G _ o s (by first|exact zE _ _|exact (zE _ _).alloc (zA _) _) I).mono ?_;rintro e w5 ⟨rfl,v,u⟩;have D:=aa v;have H:=aa u)
   go_roundw
   case rel=>exact⟨k+1,by omega,by go_num,congrArg (λx:Nat=>Value.int .u64 (x:Int)) (dC (λj y=>HS j y)),D,H⟩
   case measure=>simp[intOf];omega
  ·have a4:k=M:=by omega
   subst a4;have k1:decide (k<k)=false:=zI a5;have HU:Hid (mk (bO p k 0 c.l i) (c.l.length+1)=mk (jX p k c.l i) (c.l.length+1)):=dC (λj y=>sA);go_wp2_with fail
   go_loopw [8,9,10] (λnow out turn wr=>∃(d:Nat) (G:Nat->Bool),turn=Vi ((k+d:Nat):Int)/\(n=-1\/((k+d:Nat):Int)<=n)/\now=.int .u64 ((mk G (c.l.length+1):Nat):Int)/\out=.int .u64 ((mk (bO p k d c.l i) (c.l.length+1):Nat):Int) /\
    (∀q,q<=c.l.length->G q=true->bO p k d c.l i q=true)/\(∀q,q<=c.l.length->bO p k d c.l i q=true->G q=true\/∀j,j<=c.l.length->mT p c.l q j=true->bO p k d c.l i j=true) /\
    (mk G (c.l.length+1)≠0->d<mk (bO p k d c.l i) (c.l.length+1))/\d<=mk (bO p k d c.l i) (c.l.length+1)+1/\Inv c wr/\KR c.R w wr)
    (λnow out _ _=>2*(4398046511104-(intOf out).toNat)+(if intOf now=0 then 0 else 1))
   case atStart=>exact⟨0,jX p k c.l i,rfl,by have:=HN.out;omega,rfl,by rw[HU.out],λq _ h=>by rw[sA];exact h,λq _ h=>by rw[sA]at h;exact .inl h,λh=>by rw[HU.out];omega,zW _,s,o⟩
   case round=>
    obtain⟨d,G,rfl,B,rfl,rfl,h1,h2,Z,h4,r,b⟩:=hrel;have s:=aa r;have o:=aa b;have H1:=aa h1;have W:=aa h2;have H3:=aa Z;have H4:=aa h4;have z:=aa B;obtain⟨z0,z1,z2,z3⟩:=E.out wr b;have J:=dM (bO p k d c.l i) (show c.l.length+1<=42 by omega);have d0:(0:Int)<=((k+d:Nat):Int):=zK _;have d1:k+d<4398046511200:=by omega
    by_cases a:((k+d:Nat):Int)=n
    ·have T:Hid (mk (bO p k d c.l i) (c.l.length+1)=mk (mT (.many p k n) c.l i) (c.l.length+1)):=dC (λj _=>DW (by omega));generalize mk (bO p k d c.l i) (c.l.length+1)=X at T ⊢;have K:(((k+d:Nat):Int) != n)=false:=by rw[a];simp
     generalize ((k+d:Nat):Int)=td at K d0 ⊢;go_wp2;go_ret;exact⟨by rw[<-T.out];rfl,s,o⟩
    ·have K:(((k+d:Nat):Int) != n)=true:=bne_iff_ne.2 a;by_cases N:mk G (c.l.length+1)=0
     ·have T:Hid (mk (bO p k d c.l i) (c.l.length+1)=mk (mT (.many p k n) c.l i) (c.l.length+1)):=dC (λj y=>DV (by omega) (by have:=z.out;omega) (λq K hr=>by
       rcases W.out q K hr with hG|hc
       ·rw[kX.1 N q (by omega)]at hG;cases hG
       ·exact hc))
      generalize mk (bO p k d c.l i) (c.l.length+1)=X at T ⊢;rw[N];generalize ((k+d:Nat):Int)=td at K d0 ⊢;go_wp2;go_ret;exact⟨by rw[<-T.out];rfl,s,o⟩
     ·have a8:(((mk G (c.l.length+1):Nat):Int) != 0)=true:=bne_iff_ne.2 (by omega);have L:=aa N;have I:=aa (λ(w2:World) (j:Nat) (hb:KR c.R wr w2) (hI2:Inv c w2) (y:j<=c.l.length)=>HC w2 j (o.trans hb) hI2 y);have C:=aa (At (f:=jp p c.l G) (g:=bO p k d c.l i) (show c.l.length+1<=42 by omega));have S:=aa (FJ (f:=bO p k d c.l i) (g:=λj=>jp p c.l G j&&!bO p k d c.l i j) (show c.l.length+1<=42 by omega));have A:Hid (mk (λj=>bO p k d c.l i j||(jp p c.l G j&&!bO p k d c.l i j)) (c.l.length+1)=mk (bO p k (d+1) c.l i) (c.l.length+1)):=dC (λj y=>BZ (by omega) H1 W);have P:Hid (mk (λj=>jp p c.l G j&&!bO p k d c.l i j) (c.l.length+1)≠0->mk (bO p k d c.l i) (c.l.length+1)<mk (bO p k (d+1) c.l i) (c.l.length+1)):=λh=>by
       rw[<-A.out];exact Vd (λj _ hF=>by rw[yP,Bool.not_eq_true']at hF;exact hF.2) h
      have Q:Hid (mk (bO p k d c.l i) (c.l.length+1)<=mk (bO p k (d+1) c.l i) (c.l.length+1)):=by show _<=_;rw[<-A.out,<-KB];exact Nat.left_le_or
      have a2:=aa (dM (bO p k (d+1) c.l i) (show c.l.length+1<=42 by omega));have a3:=aa a;have a7:=aa d1;have dt:((k+d:Nat):Int)<4398046511200:=by omega
      generalize htd:((k+d:Nat):Int)=td at K d0 dt ⊢;have a0:=aa htd;go_wp2_with (go_at_call 125;refine (qR p F cp _ eg G _ o s (by first|exact zE _ _|exact (zE _ _).alloc (zA _) _) I).mono ?_;rintro e w5 ⟨rfl,v,u⟩;have D:=aa v;have H:=aa u)
      go_roundw
      case rel=>
       have r1:=H3.out L;have r2:=Q.out;have O:=z.out;have r4:=a3.out;have r5:=a0.out;exact⟨d+1,λj=>jp p c.l G j&&!bO p k d c.l i j,congrArg (Value.int .i64) (by omega),by omega,by rw[C.out],by rw[C.out,S.out,A.out],(Em H1 W).1,(Em H1 W).2,λh=>by have:=P.out h;omega,by omega,D,H⟩
      case measure=>
       rw[C.out,S.out,A.out];have r2:=Q.out;have O:=P.out;have r4:=a2.out;have r5:=L.out;simp only[intOf,Int.toNat_natCast];generalize mk (bO p k (d+1) c.l i) (c.l.length+1)=U' at r2 O r4 ⊢;generalize mk (bO p k d c.l i) (c.l.length+1)=U at r2 O ⊢;generalize mk (λj=>jp p c.l G j&&!bO p k d c.l i j) (c.l.length+1)=X at O ⊢;generalize mk G (c.l.length+1)=Y at r5 ⊢;show 2*(4398046511104-U')+(if (X:Int)=0 then 0 else 1)<2*(4398046511104-U)+(if (Y:Int)=0 then 0 else 1)
       rw[zR (show ¬((Y:Int)=0) by omega)];by_cases hX:X=0
       ·rw[zX (by omega)];omega
       ·rw[zR (by omega)];have:=O hX;omega
theorem Ct:∀(l:LQ) (a:Int),a<=1114112->Canon l->(∀y∈l,a<=y.1)->(l.length:Int)<=1114112-a
 | [],a,ha,_,_=>by simp;omega
 |x::l,a,ha,h,hy=>by
  obtain⟨b,d⟩:=canon_head h;have f:=hy x (by simp);have g:x.1<=x.2:=b.2.2;have e:x.2<=1114111:=by have:=b.2.1;simp only[runeB,zY]at this;omega
  have i:x.2+1<=after x.2:=by unfold after;split<;>omega
  have:=Ct l (a+1) (by omega) (mG h) (λy c=>by have:=d y c;omega);simp only[zG];omega
theorem xU {l:LQ}(h:Canon l):l.length<=1200000:=by
 have:=Ct l 0 (by omega) h (λy a=>by have:=(h.1 y a).1;simp only[runeB,zY]at this;omega);omega
theorem OH :mk (mT p l i) (l.length+1)=mk (mT (.or [p]) l i) (l.length+1):=dC (λ_ _=>Xd.trans Uz)
theorem Ly :mk (mT p l i) (l.length+1)=mk (mT (.and [p]) l i) (l.length+1):=dC (λ_ _=>UY.trans ND)
mutual
theorem nA (c:Cx):∀(p:Pat),p.Ok->GM c p
 |.set s,h=>Uf c s (xU h)
 |.row l,h=>by
  have v:=oG c l h;intro w F Q i o E q;obtain⟨j,L,N,K,D,e,f,B,H,G,d,b,J,_,y,S,rfl,I,u,T⟩:=E;cases B;exact pQ (.row l) 123 #[ar y] (enters_of func123 (by kernel_rfl) rfl) f i o d b J q
   (λz a=>Sx v ((lF l).1 h) i (o.below a) q (u.below a) (T.below a) (cM.keep (ah.below a) l L N) j)
 |.or l,h=>by
  have v:=oG c l h.1;intro w F Q i o E q;obtain⟨j,L,N,⟨U,t,hx⟩|⟨_,K,D,e,f,B,H,G,d,b,J,_,y,S,rfl,I,u,T⟩⟩:=E
  ·obtain⟨p,rfl⟩:=zy.1 U;obtain⟨f',t',r,e,_,C,_⟩:=N;rw[hx]at e;cases e;rw[<-OH];exact v p (by simp) w F Q i o C q
  ·cases B;exact pQ (.or l) 129 #[ar y] (enters_of func129 (by kernel_rfl) rfl) f i o d b J q
    (λz a=>VQ v ((lF l).1 h.1) i (o.below a) q (u.below a) (T.below a) (cM.keep (ah.below a) l L N) j)
 |.and l,h=>by
  have v:=oG c l h.1;intro w F Q i o E q;obtain⟨j,L,N,⟨U,t,hx⟩|⟨_,K,D,e,f,B,H,G,d,b,J,_,y,S,rfl,I,u,T⟩⟩:=E
  ·obtain⟨p,rfl⟩:=zy.1 U;obtain⟨f',t',r,e,_,C,_⟩:=N;rw[hx]at e;cases e;rw[<-Ly];exact v p (by simp) w F Q i o C q
  ·cases B;exact pQ (.and l) 131 #[ar y] (enters_of func131 (by kernel_rfl) rfl) f i o d b J q
    (λz a=>Sz v ((lF l).1 h.1) i (o.below a) q (u.below a) (T.below a) (cM.keep (ah.below a) l L N) j)
 |.not p,h=>by
  have v:=nA c p h;intro w F Q i o E q;obtain⟨g,t,C,K,D,e,f,B,H,G,d,b,J,_,y,rfl,I,u⟩:=E;cases B;obtain⟨R,x,rfl,Z⟩:=EV.form p g h C;exact pQ (.not p) 133 #[ar y] (enters_of func133 (by kernel_rfl) rfl) f i o d b J q
   (λz a=>Se p R x t Z i (o.below a) q I (u.below a) (λw2 k W P O=>v w2 R x k P (EV.keep ((W.keeps (A:=c.A) (λg h=>h))) p _ (EV.keep (ah.below a) p _ C)) O))
 |.many p m n,h=>by
  have v:=nA c p h.1;intro w F Q i o E q;obtain⟨g,t,C,K,D,e,f,B,H,G,d,b,J,_,b0,b1,b2,rfl,a2,X,Y,a1,a0,V⟩:=E;cases B;obtain⟨R,x,rfl,Z⟩:=EV.form p g h.1 C;obtain⟨U,h2,h3,h4⟩:=h;obtain⟨M,rfl⟩:=Int.eq_ofNat_of_zero_le h2;exact pQ (.many p M n) 134 #[ar b0,ar b1,ar b2] (enters_of func134 (by kernel_rfl) rfl) f i o d b J q
   (λz a=>Xg p M n (by omega) h4 R x t Z i (o.below a) q a2 X Y (a1.below a) (a0.below a) (V.below a) (λw2 k W P O=>v w2 R x k P (EV.keep ((W.keeps (A:=c.A) (λg h=>h))) p _ (EV.keep (ah.below a) p _ C)) O))
 |.group p,h=>by
  have v:=nA c p h;exact v
theorem oG (c:Cx):∀(l:List Pat),jr l->∀p∈l,GM c p
 | [],_=>λp h=>by cases h
 |q::l,hk=>by
  have b:=nA c q hk.1;have a:=oG c l hk.2;intro p h;rcases zO.1 h with rfl|h
  ·exact b
  ·exact a p h
end
