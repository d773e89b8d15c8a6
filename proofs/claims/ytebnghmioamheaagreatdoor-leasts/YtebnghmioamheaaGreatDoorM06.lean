import Derived.Test.YtebnghmioamheaaGreatDoorProg
import Derived.Test.YtebnghmioamheaaGreatDoorM03
set_option maxHeartbeats 400000
set_option maxRecDepth 100000
set_option linter.all false
namespace Go.Proofs.YtebnghmioamheaaGreatDoor
open Go.RowKit Tryz
variable {w w':World}{ao:OA}{l:LQ}{k B n b:Nat}{x:Int×Int}{v:Value}{xs:LV}{f:List UInt8->Option Nat}
theorem aa {p:Prop}(h:p):Hid p:=h
theorem Fz {p:Prop}(h:Hid p):p:=h
theorem eM {a b:Bool}(h:a=b):Ending.returned (.bool a)=.returned (.bool b):=by rw[h]
theorem mW {k:IntKind}{a b:Int}(h:a=b):Ending.returned (.int k a)=.returned (.int k b):=by rw[h]
def Rd (w:World)(ao:Option Addr)(l:List (Int×Int)):Prop :=
 ∀i x,l[i]?=some x->∃b off,ao=some (aD b off)/\b<w.heap.size /\
  w.cell? ⟨b,off+i*2,none⟩=some (Vi x.1)/\w.cell? ⟨b,off+i*2+1,none⟩=some (Vi x.2)
theorem Rd.below (h:Rd w ao l)(hb:Bw w w'):Rd w' ao l:=by
 intro i x e;obtain⟨b,c,f,a,d,g⟩:=h i x e;exact⟨b,c,f,zF a hb.size,(hb.cell (p:=⟨b,_,none⟩) a).trans d,(hb.cell (p:=⟨b,_,none⟩) a).trans g⟩
theorem eT (r:Int)(w:World):Calls prog 156 #[Vi r] w λe w'=>e=.returned (.bool (Brm.runeB r))/\w'=w:=by
 go_enter func156,ntmps156;go_wp2
 all_goals (go_ret;exact⟨eM (by rw[ze];simp[Brm.runeB];omega),rfl⟩)
theorem mi (r:Int)(w:World)(h0:0<=r)(h1:r<=1114111):Calls prog 64 #[Vi r] w λe w'=>e=.returned (Vi (Brm.after r))/\w'=w:=by
 by_cases a:r=55295
 ·subst a;go_enter func64,ntmps64;go_wp2;go_ret;exact⟨rfl,rfl⟩
 ·have c:(r==55295)=false:=zD.2 a;have b:Hid (¬r=55295):=a;go_enter func64,ntmps64;go_wp2;go_ret;exact⟨mW (by unfold Brm.after;rw[zR b.out]),rfl⟩
theorem Mc (r:Int)(w:World)(h0:0<=r)(h1:r<=1114111):Calls prog 239 #[Vi r] w λe w'=>e=.returned (Vi (Brm.before r))/\w'=w:=by
 by_cases a:r=57344
 ·subst a;go_enter func239,ntmps239;go_wp2;go_ret;exact⟨rfl,rfl⟩
 ·have c:(r==57344)=false:=zD.2 a;have b:Hid (¬r=57344):=a;go_enter func239,ntmps239;go_wp2;go_ret;exact⟨mW (by unfold Brm.before;rw[zR b.out]),rfl⟩
theorem jV {r:Int}(hx:l[k]?=some x):Brm.memB (l.take (k+1)) r=(Brm.memB (l.take k) r||Brm.inB x r):=by
 rw[zi,hx,Brm.mem_append];simp[Brm.memB]
theorem Md {r:Int}(hx:l[k]?=some x)(h:Brm.inB x r=true):Brm.memB l r=true:=by
 rw[Brm.mem_true];exact⟨x,zU hx,(Brm.in_iff x r).1 h⟩
def aE (l:List (Int×Int)):List Value:=l.flatMap λx=>[Vi x.1,Vi x.2]
theorem fz (a b:LQ):aE (a++b)=aE a++aE b:=by simp[aE]
theorem dK (a:LQ):(aE a).length=a.length*2:=by
 induction a with
 |nil=>rfl
 |cons x t ih=>simp only[aE,yE,zH,zG,zh]at *;omega
theorem fe:(prog.info? 92).map (λi=>(i.zero,i.size,i.bytes))=some (some (.agg #[Vi 0,Vi 0]),2,16):=by kernel_rfl
theorem Below.keep {W w1:World}(hb:Below B w W)(hB:B<=W.heap.size)(ho:W.ownsRow B 92 2 v n xs)(hg:W.grownBy w1 v.ownBlock):Below B w w1 :=
 hb.grown hg hB λk e=>(ho.lt k e).1
theorem AF (hx:l[k]?=some x):Brm.runes (l.take (k+1))=Brm.runes (l.take k)++if Brm.riseB (Brm.clip x)=true then[Brm.clip x]else[]:=by
 rw[zi,hx];exact Brm.runes_snoc _ _
theorem runes_drop (hx:l[k]?=some x)(h:¬(Brm.clip x).1<=(Brm.clip x).2):Brm.runes (l.take (k+1))=Brm.runes (l.take k):=by
 rw[AF hx,zR (by rw[Brm.rise_iff];exact h)];simp
theorem rz {y:Int×Int}(hx:l[k]?=some x)(hy:Brm.clip x=y)(h:y.1<=y.2):Brm.runes (l.take (k+1))=Brm.runes (l.take k)++[y]:=by
 rw[AF hx,hy,zX (by rw[Brm.rise_iff];exact h)]
theorem fW {a c:LQ}{y:Int×Int}(h:w.ownsRow B 92 2 v (a.length+1) (aE a++[Vi y.1,Vi y.2]))(e:c=a++[y]):w.ownsRow B 92 2 v c.length (aE c):=by
 subst e;rw[fz,zH];exact h
theorem iZ (w:World)(o:Obj)(y1 y2:Int):∀j u,[Vi y1,Vi y2][j]?=some u->((w.alloc o).alloc (.cells #[Vi y1,Vi y2] 92)).cell? (((aD (w.heap.size+1) 0):Addr).add j)=some u:=by
 intro j u a
 match j,a with
 |0,a=>simp at a;subst a;simp[Addr.add]
 |1,a=>simp at a;subst a;simp[Addr.add]
theorem et (y1 y2:Int):∀u∈[Vi y1,Vi y2],u.oneCell'=true:=by
 intro u a;simp at a;rcases a with rfl|rfl<;>rfl
theorem oe {a c:LQ}(h:w.ownsRow B 92 2 v a.length (aE a))(e:c=a):w.ownsRow B 92 2 v c.length (aE c):=by
 subst e;exact h
theorem DB (cap:Nat)(hcells:Rd w ao l)(hlen:l.length<=1000000):Calls prog 243 #[.slice ao l.length cap] w λe w'=>∃v,e=.returned v/\w'.ownsRow w.heap.size 92 2 v (Brm.runes l).length (aE (Brm.runes l))/\Bw w w':=by
 have K:=aa hcells;obtain⟨B,D,r,n,o⟩:=zz fe;go_enter func243,ntmps243;go_wp2
 go_loopw [3,8] (λv i wr=>∃k:Nat,k<=l.length/\i=Vi k/\wr.ownsRow w.heap.size 92 2 v (Brm.runes (l.take k)).length (aE (Brm.runes (l.take k)))/\Bw w wr) (λ_ i _=>l.length-(intOf i).toNat)
 case atStart=>exact⟨0,zW _,rfl,zZ _ _ _ _,zE _ _⟩
 case round=>
  obtain⟨k,M,rfl,a,c⟩:=hrel;have L:=c.size;by_cases u:k<l.length
  ·obtain⟨b,J,rfl,I,E,C⟩:=Fz K k l[k] (zB u);generalize hx:l[k]=x at E C;have q:Hid (l[k]?=some x):=by rw[zB u,hx];rfl
   obtain⟨h,g⟩:=x;simp only at E C;rw[<-c.cell (p:=⟨b,_,none⟩) I]at E C;have H:(Brm.runes (l.take k)).length<=1000000:=by have:=Brm.runes_length (l.take k);simp at this;omega
   by_cases A:Brm.runeB h=true
   ·by_cases s:Brm.runeB g=true
    ·have m:Hid (Brm.clip (h,g)=(h,g)):=by show Brm.clip (h,g)=(h,g);simp[Brm.clip,A,s]
     by_cases j:(h:Int)<=g
     ·go_wp2_with (first
       |(at_builtin;refine yD _ rfl _ _ 24 rfl w.heap.size 92 B (.agg #[Vi 0,Vi 0]) 2 16 underlying24 D r n o rfl (by decide) _ _ _ rfl ((a.alloc _).alloc _) (aD (wr.heap.size+1) 0) 1 1 [Vi h,Vi g] rfl rfl (iZ _ _ _ _) (et _ _) (by unfold maxLen;omega) (by omega) (by simp;omega) ?_;intro F G d f _)
       |(go_at_call 156;refine (eT _ _).mono ?_;rintro e w' ⟨rfl,rfl⟩))
      have t:=fW (y:=(h,g)) d (rz q m (by simpa using j));have z:=Below.keep ((c.alloc (by omega) _).alloc (by simp;omega) _) (by simp;omega) ((a.alloc _).alloc _) f;go_wp2
      go_roundw
      case rel=>exact⟨k+1,by omega,by go_num,t,z⟩
      case measure=>simp[intOf];omega
     ·go_wp2_with (go_at_call 156;refine (eT _ _).mono ?_;rintro e w' ⟨rfl,rfl⟩)
      go_roundw
      case rel=>exact⟨k+1,by omega,by go_num,oe (a.alloc _) (runes_drop q (by rw[m.out];simp only;omega)),c.alloc (by omega) _⟩
      case measure=>simp[intOf];omega
    ·have m:Hid (Brm.clip (h,g)=(h,55295)):=by show Brm.clip (h,g)=(h,55295);simp[Brm.clip,A,s]
     by_cases j:(h:Int)<=55295
     ·go_wp2_with (first
       |(at_builtin;refine yD _ rfl _ _ 24 rfl w.heap.size 92 B (.agg #[Vi 0,Vi 0]) 2 16 underlying24 D r n o rfl (by decide) _ _ _ rfl ((a.alloc _).alloc _) (aD (wr.heap.size+1) 0) 1 1 [Vi h,Vi 55295] rfl rfl (iZ _ _ _ _) (et _ _) (by unfold maxLen;omega) (by omega) (by simp;omega) ?_;intro F G d f _)
       |(go_at_call 156;refine (eT _ _).mono ?_;rintro e w' ⟨rfl,rfl⟩))
      have t:=fW (y:=(h,55295)) d (rz q m (by simpa using j));have z:=Below.keep ((c.alloc (by omega) _).alloc (by simp;omega) _) (by simp;omega) ((a.alloc _).alloc _) f;go_wp2
      go_roundw
      case rel=>exact⟨k+1,by omega,by go_num,t,z⟩
      case measure=>simp[intOf];omega
     ·go_wp2_with (go_at_call 156;refine (eT _ _).mono ?_;rintro e w' ⟨rfl,rfl⟩)
      go_roundw
      case rel=>exact⟨k+1,by omega,by go_num,oe (a.alloc _) (runes_drop q (by rw[m.out];simp only;omega)),c.alloc (by omega) _⟩
      case measure=>simp[intOf];omega
   ·by_cases s:Brm.runeB g=true
    ·have m:Hid (Brm.clip (h,g)=(57344,g)):=by show Brm.clip (h,g)=(57344,g);simp[Brm.clip,A,s]
     by_cases j:(57344:Int)<=g
     ·go_wp2_with (first
       |(at_builtin;refine yD _ rfl _ _ 24 rfl w.heap.size 92 B (.agg #[Vi 0,Vi 0]) 2 16 underlying24 D r n o rfl (by decide) _ _ _ rfl ((a.alloc _).alloc _) (aD (wr.heap.size+1) 0) 1 1 [Vi 57344,Vi g] rfl rfl (iZ _ _ _ _) (et _ _) (by unfold maxLen;omega) (by omega) (by simp;omega) ?_;intro F G d f _)
       |(go_at_call 156;refine (eT _ _).mono ?_;rintro e w' ⟨rfl,rfl⟩))
      have t:=fW (y:=(57344,g)) d (rz q m (by simpa using j));have z:=Below.keep ((c.alloc (by omega) _).alloc (by simp;omega) _) (by simp;omega) ((a.alloc _).alloc _) f;go_wp2
      go_roundw
      case rel=>exact⟨k+1,by omega,by go_num,t,z⟩
      case measure=>simp[intOf];omega
     ·go_wp2_with (go_at_call 156;refine (eT _ _).mono ?_;rintro e w' ⟨rfl,rfl⟩)
      go_roundw
      case rel=>exact⟨k+1,by omega,by go_num,oe (a.alloc _) (runes_drop q (by rw[m.out];simp only;omega)),c.alloc (by omega) _⟩
      case measure=>simp[intOf];omega
    ·have m:Hid (Brm.clip (h,g)=(57344,55295)):=by show Brm.clip (h,g)=(57344,55295);simp[Brm.clip,A,s]
     go_wp2_with (go_at_call 156;refine (eT _ _).mono ?_;rintro e w' ⟨rfl,rfl⟩)
     go_roundw
     case rel=>exact⟨k+1,by omega,by go_num,oe (a.alloc _) (runes_drop q (by rw[m.out];simp only;omega)),c.alloc (by omega) _⟩
     case measure=>simp[intOf];omega
  ·go_wp2;go_ret;exact⟨_,rfl,oe a (by rw[yF (by omega)]),c⟩
def ux (w w':World)(v:Value)(ok:List (Int×Int)->Prop):Prop:=∃out,ok out/\w'.ownsRow w.heap.size 92 2 v out.length (aE out)/\Below w.heap.size w w'
def wH:Prop:=∀(ao:Option Addr) (l:List (Int×Int)) (cap:Nat) (w:World),Rd w ao l->l.length<=1000000->(∀x∈l,Brm.okB x=true) ->
 Calls prog 233 #[.slice ao l.length cap] w λe w'=>∃v,e=.returned v/\ux w w' v λout=>Brm.IsForm l out/\out.length<=l.length
theorem jh {i:Nat}(h:l[i]?=some x):(aE l)[i*2]?=some (Vi x.1)/\(aE l)[i*2+1]?=some (Vi x.2):=by
 induction l generalizing i with
 |nil=>simp at h
 |cons y t ih=>
  have e:aE (y::t)=Vi y.1::Vi y.2::aE t:=by simp[aE]
  rw[e];cases i with
  |zero=>simp at h;subst h;simp
  |succ i=>
   simp at h;have:=ih h;rw[show (i+1)*2=i*2+1+1 from by omega];simpa using this
theorem nG (h:w.ownsRow B 92 2 v l.length (aE l)):∃ao cap,v=.slice ao l.length cap/\l.length<=cap/\Rd w ao l:=by
 have b:=h;obtain⟨k,d⟩:=h;rcases d with⟨rfl,c⟩|⟨g,cap,j,rfl,m,n,f,_⟩
 ·exact⟨none,0,by rw[c],by omega,λi x a=>by rw[zq.1 c]at a;simp at a⟩
 ·refine⟨some (aD g 0),cap,rfl,f,λi x a=>⟨g,0,rfl,?_,?_,?_⟩⟩
  ·exact (b.lt g rfl).2
  ·have e:i<l.length:=(zC.1 a).1;rw[zf,b.cellAt _ (by omega)];exact (jh a).1
  ·have e:i<l.length:=(zC.1 a).1;rw[zf,b.cellAt _ (by omega)];exact (jh a).2
theorem iT {B':Nat}(h:w.ownsRow B 92 2 v n xs)(hb:B'<=B):w.ownsRow B' 92 2 v n xs:=by
 refine⟨h.1,?_⟩;rcases h.2 with f|⟨g,d,e,a,b,c⟩
 ·exact .inl f
 ·exact .inr ⟨g,d,e,a,zJ hb b,c⟩
theorem Sw {w2:World}{x1 x2:Int}{o:Obj}(h:w.ownsRow B 92 2 v n xs)(hg:((w.alloc (.cells #[Vi x1,Vi x2] 92)).alloc o).grownBy w2 v.ownBlock) :
  w2.cell? (aD w.heap.size 0)=some (Vi x1)/\w2.cell? (aD w.heap.size 1)=some (Vi x2):=by
 have a:∀j,some ((aD w.heap.size j):Addr).block≠v.ownBlock:=λj e=>by have:=(h.lt _ e.symm).2;simp at this
 exact⟨hg.cell (by simp) (a 0),hg.cell (by simp) (a 1)⟩
theorem ji (w:World)(y1 y2:Int):∀j u,[Vi y1,Vi y2][j]?=some u->(w.alloc (.cells #[Vi y1,Vi y2] 92)).cell? (((aD w.heap.size 0):Addr).add j)=some u:=by
 intro j u a
 match j,a with
 |0,a=>simp at a;subst a;simp[Addr.add]
 |1,a=>simp at a;subst a;simp[Addr.add]
theorem oK (h:l[k]?=some x):l.drop k=x::l.drop (k+1):=by
 obtain⟨a,e⟩:=zC.1 h;rw[<-e];exact yC a
theorem wI (o:Obj)(c:Nat)(h:b<w.heap.size):(w.alloc o).cell? (aD b c)=w.cell? (aD b c) :=
 zP (w:=w) (a:=(aD b c)) (zS w o b h)
theorem Aa (o:Obj)(c:Nat)(h:b<w.heap.size):(w.alloc o).frozen? (aD b c)=w.frozen? (aD b c) :=
 World.frozen?_of_block (w:=w) (a:=(aD b c)) (zS w o b h)
theorem aR (h:Below B w w'):Below B w (w'.drewN n):=⟨h.os,h.tape,h.output,h.size,h.block⟩
theorem VP (hF:wH)(cap:Nat)(hcells:Rd w ao l)(hlen:l.length<=1000000)(hok:∀x∈l,Brm.okB x=true):Calls prog 229 #[.slice ao l.length cap] w λe w'=>∃v,e=.returned v/\ux w w' v λout=>Brm.Canon out/\(∀r,Brm.runeB r=true->Brm.memB out r=!Brm.memB l r)/\out.length<=l.length+1:=by
 obtain⟨S,U,F,A,B⟩:=zz fe;have HF:=aa (hF ao l cap w hcells hlen hok);go_enter func229,ntmps229;go_wp2_with (go_at_call 233;refine HF.mono ?_;rintro e G ⟨v,rfl,L,⟨o,a3⟩,h,a⟩;obtain⟨a1,W,rfl,O,t⟩:=nG h;have HC:=aa t;have u:=aa o);have K:=aa (Brm.ninv_start u.1)
 go_loopw [3,4,10] (λv nx i wr=>∃(k:Nat) (out:List (Int×Int)) (next:Int),k<=L.length/\i=Vi k/\nx=Vi next/\Brm.NInv L (L.drop k) out next/\out.length<=k/\wr.ownsRow G.heap.size 92 2 v out.length (aE out)/\Bw G wr) (λ_ _ i _=>L.length-(intOf i).toNat)
 case atStart=>exact⟨0,[],0,zW _,rfl,rfl,K,zW _,zZ _ _ _ _,zE _ _⟩
 case round=>
  obtain⟨k,out,next,hk,rfl,rfl,s,a0,c,d⟩:=hrel;have a2:=d.size;have V:=aa s;by_cases C:k<L.length
  ·obtain⟨b,a4,rfl,hb,P,M⟩:=HC.out k L[k] (zB C);generalize hx:L[k]=x at P M;have HX:Hid (L[k]?=some x):=by rw[zB C,hx];rfl
   obtain⟨j,J⟩:=x;simp only at P M;rw[<-d.cell (p:=⟨b,_,none⟩) hb]at P M;have H:=aa (oK HX.out▸V.out);have Q:=(Brm.canon_head H.2.1).1;have D:=(Brm.rune_iff _).1 Q.1;have E:=(Brm.rune_iff _).1 Q.2.1;simp only at D E;have b1:0<=j:=by omega
   have b2:j<=1114111:=by omega
   have b3:0<=J:=by omega
   have b4:J<=1114111:=by omega
   have X:=aa (Brm.ninv_step H);by_cases m:next<j
   ·have q:Hid (Brm.putN out next j=out++[(next,Brm.before j)]):=by show Brm.putN out next j=_;unfold Brm.putN;rw[zX m]
    go_wp2_with (first
     |(at_builtin;refine yD _ rfl _ _ 24 rfl G.heap.size 92 S (.agg #[Vi 0,Vi 0]) 2 16 underlying24 U F A B rfl (by decide) _ _ _ rfl ((c.alloc _).alloc _) (aD (wr.heap.size+1) 0) 1 1 [Vi next,Vi (Brm.before j)] rfl rfl (iZ _ _ _ _) (et _ _) (by unfold maxLen;omega) (by omega) (by simp;omega) ?_;intro v' Y g f _;obtain⟨_,Z⟩:=Sw c f)
     |(go_at_call 239;refine (Mc _ _ (by omega) (by omega)).mono ?_;rintro e w' ⟨rfl,rfl⟩)
     |(go_at_call 64;refine (mi _ _ (by omega) (by omega)).mono ?_;rintro e w' ⟨rfl,rfl⟩))
    have R:=fW (y:=(next,Brm.before j)) g q;have N:=Below.keep ((d.alloc (by omega) _).alloc (by simp;omega) _) (by simp;omega) ((c.alloc _).alloc _) f
    go_roundw
    case rel=>exact⟨k+1,Brm.putN out next j,Brm.after J,by omega,by go_num,rfl,X,by rw[q.out];simp;omega,R,N⟩
    case measure=>simp[intOf];omega
   ·have q:Hid (Brm.putN out next j=out):=by show Brm.putN out next j=_;unfold Brm.putN;rw[zR m];simp
    go_wp2_with (go_at_call 64;refine (mi _ _ (by omega) (by omega)).mono ?_;rintro e w' ⟨rfl,rfl⟩)
    go_roundw
    case rel=>exact⟨k+1,out,Brm.after J,by omega,by go_num,rfl,by have:=X.out;rw[q.out]at this;exact this,by omega,c.alloc _,d.alloc (by omega) _⟩
    case measure=>simp[intOf];omega
  ·have n:Brm.NInv L [] out next:=by have:=V.out;rwa [yh (by omega)]at this
   have T:=aa (Brm.ninv_end n);by_cases m:next<=1114111
   ·go_wp2_with (at_builtin;refine yD _ rfl _ _ 24 rfl G.heap.size 92 S (.agg #[Vi 0,Vi 0]) 2 16 underlying24 U F A B rfl (by decide) _ _ _ rfl (c.alloc _) (aD wr.heap.size 0) 1 1 [Vi next,Vi 1114111] rfl rfl (ji _ _ _) (et _ _) (by unfold maxLen;omega) (by omega) (by simp;omega) ?_;intro v' Y g f _);have q:Brm.endN out next=out++[(next,1114111)]:=by unfold Brm.endN;rw[zX m]
    have R:=fW (y:=(next,1114111)) g q;have N:=Below.keep (d.alloc (by omega) _) (by simp;omega) (c.alloc _) f;have z:=T.out;have hF:=u.out;go_ret;exact⟨_,rfl,Brm.endN out next,⟨z.1,λr I=>by rw[z.2 r I,hF.2 r I],by rw[q];simp;omega⟩,iT R a.size,a.trans (N.mono a.size)⟩
   ·have q:Hid (Brm.endN out next=out):=by show Brm.endN out next=out;unfold Brm.endN;rw[zR m];simp
    go_wp2;have z:=T.out;rw[q.out]at z;have hF:=u.out;go_ret;exact⟨_,rfl,out,⟨z.1,λr I=>by rw[z.2 r I,hF.2 r I],by omega⟩,iT c a.size,a.trans (d.mono a.size)⟩
abbrev BG:Option Nat->Value|some x=>Vp x|none=>.pointer none
def RP (v:Value):Option (DataW Unit×List MemPlace):=match v with
 |.pointer none=>some (.lit (.bool false),[])
 |.pointer (some ⟨b,0,none⟩)=>some (.lit (.int .i64 b),[])
 |_=>none
theorem Kf:RP (.pointer none)=some (.lit (.bool false),[]):=rfl
theorem Kg (b:Nat):RP (Vp b)=some (.lit (.int .i64 b),[]):=rfl
theorem vy {ps:List MemPlace}(h:RP v=some (.lit (.int .i64 b),ps)):v=BG (some b):=by
 unfold RP at h
 split at h
 ·cases h
 ·rename_i b'
  simp only[yG,Prod.mk.injEq,DataW.lit.injEq,Lit.int.injEq,yB]at h;have:b'=b:=by omega
  rw[this]
 ·cases h
theorem vz {ps:List MemPlace}(h:RP v=some (.lit (.bool false),ps)):v=BG none:=by
 unfold RP at h
 split at h
 ·rfl
 ·cases h
 ·cases h
def wR (s:List UInt8):Lit:=.string s
def fs (w:World)(b:Nat)(f:List UInt8->Option Nat)(n:Nat):Prop:=∃D:DataW Unit,w.ownsMap prog 9 RP b n D/\Maps.size D=n/\∀s,Maps.has D (wR s)=(f s).isSome/\∀x,f s=some x->D.atKey (wR s) (.lit (.bool false))=.lit (.int .i64 x)
theorem fs.lt {w:World}{b:Nat}{f:List UInt8->Option Nat}{n:Nat}(h:fs w b f n):b<w.heap.size:=by obtain⟨D,a,_⟩:=h;exact a.lt
theorem fs.block (h:fs w b f n)(k:w'.heap[b]?=w.heap[b]?):fs w' b f n:=by
 obtain⟨D,⟨g,a,c,e⟩,d⟩:=h;exact⟨D,⟨g,a,k.trans c,e⟩,d⟩
theorem fs.below (h:fs w b f n)(k:Bw w w'):fs w' b f n:=h.block (k.block b h.lt)
theorem fs.made (w:World):fs (w.alloc (.map #[] 0)) w.heap.size (λ_=>none) 0 :=
 ⟨.map [],World.ownsMap_made w prog 9 RP,rfl,λs=>⟨rfl,λx a=>by cases a⟩⟩
theorem Az (s:ByteArray)(hs:s.size<=maxLen):keyOf prog 9 (.string s)=some (wR (af s)):=WideMaps.keyOf_string_mk underlying9 hs
theorem fs.look (h:fs w b f n)(s:ByteArray)(hs:s.size<=maxLen):(Instr.lookup 144 (.map (some b)) (.string s) true).run prog w=.ok (.tuple #[BG (f (af s)),.bool (f (af s)).isSome]) w:=by
 obtain⟨D,i,l,j⟩:=h;obtain⟨v,k,a,c⟩:=i.look_ok (t:=144) (e:=103) (Maps.string_keyed underlying9) underlying144 (zeroValue103 _) Kf (Az s hs);obtain⟨d,g⟩:=j (af s);rw[a,d];cases hf:f (af s)with
 |none=>
  rw[hf]at d;rw[Maps.atKey_of_not_has d]at c;rw[vz c]
 |some x=>
  rw[g x hf]at c;rw[vy c]
theorem fs.len {w:World}{b:Nat}{f:List UInt8->Option Nat}{n:Nat}(h:fs w b f n)(ty:TypeId):(Builtin.len_ #[144] ty #[.map (some b)]).run prog w=.ok (Vi n) w:=by
 obtain⟨D,c,a,d⟩:=h;rw[c.len underlying144 ty,a]
def put (f:List UInt8->Option Nat)(s:List UInt8)(x:Nat):List UInt8->Option Nat:=λt=>if t=s then some x else f t
theorem fs.store {w:World}{b:Nat}{f:List UInt8->Option Nat}{n:Nat}(h:fs w b f n)(s:ByteArray)(hs:s.size<=maxLen)(hn:n<maxLen)(hno:f (af s)=none)(x:Nat):∃w',(Instr.mapUpdate 144 (.map (some b)) (.string s) (Vp x)).run prog w=.ok () w'/\fs w' b (put f (af s) x) (n+1)/\w.mapTurned w' b:=by
 obtain⟨D,i,o,j⟩:=h;obtain⟨w',c,g,m⟩:=i.store (t:=144) (e:=103) (Maps.string_keyed underlying9) underlying144 hn (Az s hs) (Kg x);have l:=i.isMap;have d:Maps.has D (wR (af s))=false:=by rw[(j _).1,hno];rfl
 refine⟨w',c,⟨_,g,?_,λt=>?_⟩,m⟩
 ·rw[Maps.size_put (i.tidy (Maps.string_keyed underlying9)),d,o];simp
 ·unfold put;by_cases e:t=af s
  ·subst e;rw[zX rfl];refine⟨Maps.has_put_same l (by trivial) _,λy k=>?_⟩;cases k;exact Maps.atKey_put_same l (by trivial) _ _
  ·rw[zR e];have a:wR t≠wR (af s):=λh=>e (by unfold wR at h;injection h);rw[Maps.has_put_other a];exact⟨(j t).1,λy k=>by rw[Maps.atKey_put_other a];exact (j t).2 y k⟩
