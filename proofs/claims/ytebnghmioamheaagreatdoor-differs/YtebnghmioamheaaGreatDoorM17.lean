import Derived.Deep.CutBlock
import Derived.Test.YtebnghmioamheaaGreatDoorM10
import Derived.Test.YtebnghmioamheaaGreatDoorM05
set_option maxHeartbeats 1000000
set_option maxRecDepth 100000
set_option linter.all false
namespace Go.Proofs.YtebnghmioamheaaGreatDoor
open Go.RowKit Brm Tryz
variable {bs:List UInt8}{sz j:Nat}
theorem lY {s:ByteArray}{k:Nat}(h:k<s.size):am (af s) k=s[k].toNat:=by
 unfold am af;rw[xM,zB (by simpa using h)];rfl
theorem ig {a b c d:Int}(h:(a,b)=(c,d)):Ending.returned (.tuple #[Vi a,Vi b])=.returned (.tuple #[Vi c,Vi d]):=by cases h;rfl
theorem NF {least base:Nat}(hs:Brm.sizeOf (am bs 0)=sz)(hl:Brm.leastOf (am bs 0)=least)(hb:Brm.baseOf (am bs 0)=base)(h2:2<=sz)(hz:sz<=bs.length)(hc:jD bs sz):(gY least (ey bs base sz)=true->dm bs=((sz:Int),(ey bs base sz:Int)))/\(gY least (ey bs base sz)=false->dm bs=(0,0)):=by
 have h:=wG (bs:=bs) (by omega);rw[hs,hl,hb]at h;constructor
 ·intro c;rcases h with⟨b,a,_⟩|⟨_,a⟩
  ·unfold dm;rw[zR a,b]
  ·exact absurd ⟨hz,hc,c⟩ a
 ·intro c;rcases h with⟨_,_,_,_,a⟩|⟨b,_⟩
  ·rw[c]at a;cases a
  ·exact mg b
theorem Hd (hs:Brm.sizeOf (am bs 0)=sz)(h2:2<=sz)(hz:¬sz<=bs.length):dm bs=(0,0):=by
 rcases wG (bs:=bs) (by omega)with⟨_,_,h3,_⟩|⟨h1,_⟩
 ·rw[hs]at h3;exact absurd h3 hz
 ·exact mg h1
theorem Ce (hs:Brm.sizeOf (am bs 0)=sz)(h2:2<=sz)(h1:1<=j)(hj:j<sz)(hc:dF (am bs j)=false):dm bs=(0,0):=by
 rcases wG (bs:=bs) (by omega)with⟨_,_,_,h3,_⟩|⟨h1',_⟩
 ·rw[hs]at h3;have:=h3 j h1 hj;rw[hc]at this;cases this
 ·exact mg h1'
theorem KL (bs:List UInt8)(base j:Nat)(h:1<=j):ey bs base (j+1)=64*ey bs base j+(am bs j-128):=by
 cases j with
 |zero=>omega
 |succ j=>rfl
theorem NG {base:Nat}(h0:am bs 0-base<64)(h1:1<=j)(h4:j<=4)(hc:jD bs j):ey bs base j<16777216:=by
 have g:ey bs base 1=am bs 0-base:=rfl;have f:ey bs base 2=64*ey bs base 1+(am bs 1-128):=rfl;have d:ey bs base 3=64*ey bs base 2+(am bs 2-128):=rfl;have a:ey bs base 4=64*ey bs base 3+(am bs 3-128):=rfl;have b:=dE bs 1;have c:=dE bs 2;have e:=dE bs 3;have:j=1\/j=2\/j=3\/j=4:=by omega
 rcases this with rfl|rfl|rfl|rfl
 ·omega
 ·omega
 ·have:=iS.1 (hc 1 (by omega) (by omega));have:=iS.1 (hc 2 (by omega) (by omega));omega
 ·have:=iS.1 (hc 1 (by omega) (by omega));have:=iS.1 (hc 2 (by omega) (by omega));have:=iS.1 (hc 3 (by omega) (by omega));omega
theorem He (h:jD bs j)(hc:dF (am bs j)=true):jD bs (j+1):=by
 intro i a b;by_cases e:i=j
 ·subst e;exact hc
 ·exact h i a (by omega)
theorem NH (s:ByteArray)(w:World)(h1:1<=s.size)(ha:(s[0].toNat:Int)<128):Calls prog 55 #[.string s] w λe w'=>e=.returned (.tuple #[Vi (dm (af s)).1,Vi (dm (af s)).2])/\w'=w:=by
 have a:Hid (dm (af s)=((1:Int),(s[0].toNat:Int))):=by
  show _=_
  rw[OZ (by rw[lY (by omega)];omega),lY (by omega)]
 have b:(0:Int)<=(s[0].toNat:Int):=zK _;have c:(0:Int)<(s.size:Int):=by omega
 go_enter func55,ntmps55;go_wp2
 go_ret2
 exact⟨ig (by rw[a.out]),rfl⟩
theorem xu (s:ByteArray)(w:World)(h1:1<=s.size)(ha:128<=(s[0].toNat:Int))(hn:(s[0].toNat:Int)<192\/248<=(s[0].toNat:Int)):Calls prog 55 #[.string s] w λe w'=>e=.returned (.tuple #[Vi (dm (af s)).1,Vi (dm (af s)).2])/\w'=w:=by
 have a:Hid (dm (af s)=(0,0)):=by
  show _=_
  refine mg (Su ?_);rw[lY (by omega)];omega
 have b:(s[0].toNat:Int)<=255:=by have:=s[0].toNat_lt;omega
 have c:(0:Int)<(s.size:Int):=by omega
 rcases hn with hn|hn
 all_goals
  go_enter func55,ntmps55;go_wp2
  go_ret2
  exact⟨ig (by rw[a.out]),rfl⟩
theorem qz (s:ByteArray)(w:World)(k ls bs:Nat)(h1:1<=s.size)(hsz:s.size<=1000)(hK:(k=2/\ls=128/\bs=192/\192<=(s[0].toNat:Int)/\(s[0].toNat:Int)<224)\/(k=3/\ls=2048/\bs=224/\224<=(s[0].toNat:Int)/\(s[0].toNat:Int)<240)\/(k=4/\ls=65536/\bs=240/\240<=(s[0].toNat:Int)/\(s[0].toNat:Int)<248)):Calls prog 55 #[.string s] w λe w'=>e=.returned (.tuple #[Vi (dm (af s)).1,Vi (dm (af s)).2])/\w'=w:=by
 have d:=lY (s:=s) (k:=0) (by omega);have n:Hid (Brm.sizeOf (am (af s) 0)=k):=by show _=_;rw[d];unfold Brm.sizeOf;(repeat' split)<;>omega
 have K:Hid (Brm.leastOf (am (af s) 0)=ls):=by show _=_;rw[d];unfold Brm.leastOf;(repeat' split)<;>omega
 have I:Hid (Brm.baseOf (am (af s) 0)=bs):=by show _=_;rw[d];unfold Brm.baseOf;(repeat' split)<;>omega
 have L:Hid (am (af s) 0-bs<64):=by show _<_;rw[d];omega
 have G:Hid ((s[0].toNat:Int)-(bs:Int)=(ey (af s) bs 1:Int)):=by show _=_;show _=((am (af s) 0-bs:Nat):Int);rw[d];omega
 have hz:(0:Int)<(s.size:Int):=by omega
 have k2:2<=k/\k<=4:=by omega
 have M:(192:Int)<=(s[0].toNat:Int):=by omega
 have H:(s[0].toNat:Int)<248:=by omega
 have F:=aa hK;go_enter func55,ntmps55
 go_upto_block 0 with fail
 go_cut [5,6,7]from 12 to 42 (λv5 v6 v7 wx=>v5=Vi k/\v6=Vi ls/\v7=Vi ((s[0].toNat:Int)-(bs:Int))/\w=wx)
 case first=>
  rcases F.out with⟨rfl,rfl,rfl,B,C⟩|⟨rfl,rfl,rfl,B,C⟩|⟨rfl,rfl,rfl,B,C⟩
  all_goals
   go_wp2
   all_goals first|(go_meet;exact⟨rfl,rfl,rfl,rfl⟩)|(exfalso;omega)
 case rest=>
 obtain⟨rfl,rfl,rfl,rfl⟩:=hcut;have P:((k:Int)==0)=false:=zD.2 (by omega);by_cases E:k<=s.size
 ·have z:(k:Int)<=(s.size:Int):=by omega
  go_wp2
  go_loop [7,8] (λc i=>∃j:Nat,1<=j/\j<=k/\i=Vi j/\c=Vi (ey (af s) bs j)/\jD (af s) j) (λ_ i=>k-(intOf i).toNat)
  case atStart=>exact⟨1,by omega,by omega,rfl,by rw[G.out],λi M H=>by omega⟩
  case round=>
   obtain⟨j,o,Z,rfl,rfl,p⟩:=hrel;have D:=aa p;have m:=NG L o (by omega) p;generalize hN:ey (af s) bs j=N at m;have A:=aa hN;by_cases l:j<k
   ·have x:j<s.size:=by omega
    have b:=lY x;have S:(0:Int)<=(s[j].toNat:Int):=zK _;have Q:(s[j].toNat:Int)<=255:=by have:=s[j].toNat_lt;omega
    have T:(0:Int)<=(j:Int):=zK _;have i1:(j:Int)<(s.size:Int):=by omega
    have V:(j:Int)<(k:Int):=by omega
    by_cases h:(s[j].toNat:Int)<128
    ·have g:=aa (Ce n (by omega) o l (by rw[b];simp[dF];omega));go_wp2
     go_ret2
     exact⟨ig (by rw[g.out]),rfl⟩
    ·by_cases v:191<(s[j].toNat:Int)
     ·have g:=aa (Ce n (by omega) o l (by rw[b];simp[dF];omega));have J:decide ((s[j].toNat:Int)<128)=false:=by simpa using h
      go_wp2
      go_ret2
      exact⟨ig (by rw[g.out]),rfl⟩
     ·have t:=aa (He D (by rw[b];simp[dF];omega));have r:Hid ((ey (af s) bs (j+1):Int)=64*(N:Int)+(s[j].toNat:Int)-128):=by
       show _=_
       rw[KL _ _ _ o,A.out,b];omega
      have J:decide ((s[j].toNat:Int)<128)=false:=by simpa using h
      have O:decide (191<(s[j].toNat:Int))=false:=by simpa using v
      go_wp2
      go_round
      case rel=>exact⟨j+1,by omega,by omega,by go_num,by rw[r.out],t⟩
      case measure=>simp[intOf];omega
   ·have y:j=k:=by omega
    subst y;obtain⟨u,q⟩:=NF n.out K.out I.out (by omega) (by rw[aL];exact E) D;rw[A.out]at u q;have f:=aa u;have a:=aa q;by_cases W:(N:Int)<(ls:Int)
    ·go_wp2
     go_ret2
     exact⟨ig (by rw[a.out (by rw[<-yI,fD];omega)]),rfl⟩
    ·have d1:decide ((N:Int)<(ls:Int))=false:=zI (by omega);by_cases R:(1114111:Int)<(N:Int)
     ·go_wp2
      go_ret2
      exact⟨ig (by rw[a.out (by rw[<-yI,fD];omega)]),rfl⟩
     ·have d2:decide (1114111<(N:Int))=false:=zI (by omega);by_cases Y:(55296:Int)<=(N:Int)
      ·by_cases g4:(N:Int)<57344
       ·go_wp2
        go_ret2
        exact⟨ig (by rw[a.out (by rw[<-yI,fD];omega)]),rfl⟩
       ·have U:decide ((N:Int)<57344)=false:=zI (by omega);go_wp2
        go_ret2
        exact⟨ig (by rw[f.out (fD.2 (by omega))]),rfl⟩
      ·have X:decide (55296<=(N:Int))=false:=zI (by omega);go_wp2
       go_ret2
       exact⟨ig (by rw[f.out (fD.2 (by omega))]),rfl⟩
 ·have g:=aa (Hd n (by omega) (by rw[aL];exact E));have z:(s.size:Int)<(k:Int):=by omega
  go_wp2
  go_ret2
  exact⟨ig (by rw[g.out]),rfl⟩
theorem Cf (s:ByteArray)(w:World)(h1:1<=s.size)(hsz:s.size<=1000):Calls prog 55 #[.string s] w λe w'=>e=.returned (.tuple #[Vi (dm (af s)).1,Vi (dm (af s)).2])/\w'=w:=by
 by_cases a:(s[0].toNat:Int)<128
 ·exact NH s w h1 a
 ·by_cases b:(s[0].toNat:Int)<192
  ·exact xu s w h1 (by omega) (.inl b)
  ·by_cases c:(s[0].toNat:Int)<224
   ·exact qz s w 2 128 192 h1 hsz (by omega)
   ·by_cases f:(s[0].toNat:Int)<240
    ·exact qz s w 3 2048 224 h1 hsz (by omega)
    ·by_cases d:(s[0].toNat:Int)<248
     ·exact qz s w 4 65536 240 h1 hsz (by omega)
     ·exact xu s w h1 (by omega) (.inr (by omega))
