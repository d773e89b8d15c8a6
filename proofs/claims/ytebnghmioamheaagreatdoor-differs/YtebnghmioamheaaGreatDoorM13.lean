import Derived.Lib.TrailingZeros
import Derived.Test.YtebnghmioamheaaGreatDoorM10
set_option linter.all false
namespace Go.Proofs.YtebnghmioamheaaGreatDoor
open Brm
open Classical
variable {x n i j m d:Nat}{f:Nat->Bool}{p:Pat}{l:LZ}
def mk (f:Nat->Bool):Nat->Nat
 |0=>0
 |n+1=>mk f n+(if f n then 2 ^ n else 0)
theorem KA (f:Nat->Bool):∀n,mk f n<2 ^ n
 |0=>by simp[mk]
 |n+1=>by
  have:=KA f n;unfold mk;rw[Nat.pow_succ]
  split<;>omega
theorem eN (f:Nat->Bool):∀n j,(mk f n).testBit j=(decide (j<n)&&f j)
 |0,j=>by simp[mk]
 |n+1,j=>by
  unfold mk;by_cases b:f n=true
  ·rw[zX b,Nat.add_comm];by_cases c:j=n
   ·subst c;rw[Nat.testBit_two_pow_add_eq];rw[eN f j j];simp[b]
   ·by_cases a:j<n
    ·rw[Nat.testBit_two_pow_add_gt (by omega),eN f n j];simp[a,show j<n+1 by omega]
    ·have e:2 ^ n+mk f n<2 ^ j:=by
      have g:=KA f n;have d:2 ^ (n+1)<=2 ^ j:=Nat.pow_le_pow_right (by decide) (by omega);rw[Nat.pow_succ]at d;omega
     rw[Nat.testBit_lt_two_pow e];simp[show ¬j<n+1 by omega]
  ·rw[zR b,xF,eN f n j];by_cases c:j=n
   ·subst c;simp[b]
   ·by_cases a:j<n
    ·simp[a,show j<n+1 by omega]
    ·simp[a,show ¬j<n+1 by omega]
theorem dC {f g:Nat->Bool}:∀{n:Nat},(∀j,j<n->f j=g j)->mk f n=mk g n
 |0,_=>rfl
 |n+1,h=>by unfold mk;rw[dC (λj a=>h j (by omega)),h n (by omega)]
theorem qw (h:∀j,x.testBit j=(decide (j<n)&&f j)):x=mk f n:=Nat.eq_of_testBit_eq (λj=>by rw[h,eN])
theorem KB (f g:Nat->Bool)(n:Nat):mk f n ||| mk g n=mk (λj=>f j||g j) n:=qw (λj=>by rw[Nat.testBit_or,eN,eN];cases decide (j<n)<;>simp)
theorem WW (f g:Nat->Bool)(n:Nat):mk f n &&& mk g n=mk (λj=>f j&&g j) n:=qw (λj=>by rw[Nat.testBit_and,eN,eN];cases decide (j<n)<;>simp)
theorem dM (f:Nat->Bool)(hn:n<=42):mk f n<4398046511104:=zF (KA f n) (zJ (Nat.pow_le_pow_right (by decide) hn) (by decide))
theorem UN (hx:x<18446744073709551616)(j:Nat):(18446744073709551615-x).testBit j=(decide (j<64)&&!x.testBit j):=by
 have:=Nat.testBit_two_pow_sub_succ (n:=64) (x:=x) (by simpa using hx) j;rw[show 18446744073709551615-x=2 ^ 64-(x+1) by omega];exact this
theorem Nh (f g:Nat->Bool)(hn:n<=42):mk f n &&& (18446744073709551615-mk g n)=mk (λj=>f j&&!g j) n:=qw (λj=>by
 have b:=dM g hn;rw[Nat.testBit_and,UN (by omega),eN,eN];by_cases a:j<n
 ·simp[a,show j<64 by omega]
 ·simp[a])
theorem WX (h:i<n):2 ^ i=mk (λj=>decide (j=i)) n:=qw (λj=>by
 rw[Nat.testBit_two_pow];by_cases a:j=i
 ·subst a;simp[h]
 ·simp[a,show ¬i=j from λe=>a e.symm])
theorem UO :∀{i:Nat},i<=n->2 ^ n-2 ^ i=mk (λj=>decide (i<=j)) n:=by
 induction n with
 |zero=>
      intro i h;have:i=0:=by omega
      subst this;rfl
 |succ n ih=>
  intro i h;unfold mk;by_cases a:i<=n
  ·rw[<-ih a];have:2 ^ i<=2 ^ n:=Nat.pow_le_pow_right (by decide) a;simp only[a,decide_true,yd,Nat.pow_succ];omega
  ·have:i=n+1:=by omega
   subst this;have b:mk (λj=>decide (n+1<=j)) n=0:=by
    rw[dC (g:=λ_=>false) (λj c=>by simp;omega)];exact (qw (λj=>by simp)).symm
   rw[b];simp;intro h;omega
theorem kX :mk f n=0↔∀j,j<n->f j=false:=by
 constructor
 ·intro h j a;have:=eN f n j;rw[h]at this;simpa [a]using this.symm
 ·intro h;rw[dC (g:=λ_=>false) h];exact (qw (λj=>by simp)).symm
theorem UP :(x &&& 2 ^ j≠0)↔x.testBit j=true:=by
 constructor
 ·intro h;obtain⟨k,a⟩:=Nat.exists_testBit_of_ne_zero h;rw[Nat.testBit_and,Nat.testBit_two_pow,yP,zY]at a;obtain⟨b,rfl⟩:=a;exact b
 ·intro h e;have:=Nat.testBit_and x (2 ^ j) j;rw[e,h,Nat.testBit_two_pow_self]at this;simp at this
theorem WY (hn:n<=42)(h:mk f n≠0):∃k,k<n/\f k=true/\Lib.ctz 64 (mk f n)=k/\mk f n &&& (mk f n-1)=mk (λj=>f j&&!decide (j=k)) n/\mk (λj=>f j&&!decide (j=k)) n<mk f n:=by
 have y:=dM f hn;obtain⟨m,l,t⟩:=Lib.ctzFrom_spec 64 (mk f n) (by omega) (by simp;omega);have p:Lib.ctz 64 (mk f n)=Lib.ctzFrom 64 (mk f n):=by unfold Lib.ctz;rw[zR h]
 generalize Lib.ctzFrom 64 (mk f n)=k at l t p;have a:∀j,(mk f n).testBit j=(decide (k<=j)&&(2*m+1).testBit (j-k)):=λj=>by rw[l,Nat.mul_comm,Nat.testBit_mul_two_pow]
 have g:(mk f n).testBit k=true:=by rw[a];simp[Nat.testBit_zero]
 have d:k<n/\f k=true:=by have:=eN f n k;rw[g]at this;simpa using this.symm
 have e:mk f n-1=2 ^ k*(2*m)+(2 ^ k-1):=by
  have x:0<2 ^ k:=Nat.two_pow_pos k;rw[l,ye];omega
 have b:mk f n &&& (mk f n-1)=mk (λj=>f j&&!decide (j=k)) n:=qw (λj=>by
  rw[Nat.testBit_and,e];have i:(2 ^ k*(2*m)+(2 ^ k-1)).testBit j=if j<k then true else (2*m).testBit (j-k):=by
   rw[Nat.testBit_two_pow_mul_add _ (by have:=Nat.two_pow_pos k;omega)]
   split
   ·rename_i c
    rw[Nat.testBit_two_pow_sub_one];simp[c]
   ·rfl
  rw[i];by_cases c:j<k
  ·have:=a j;rw[show decide (k<=j)=false from zI (by omega),Bool.false_and]at this;have o:=eN f n j;rw[this]at o;rw[this];simp only[Bool.false_and];cases hd:decide (j<n)with
   |false=>simp
   |true=>rw[hd,Bool.true_and]at o;rw[<-o];simp
  ·rw[zR c];by_cases s:j=k
   ·subst s;simp[Nat.testBit_zero]
   ·have v:(2*m).testBit (j-k)=(2*m+1).testBit (j-k):=by
     obtain⟨q,u⟩:∃q,j-k=q+1:=⟨j-k-1,by omega⟩;rw[u,Nat.testBit_succ,Nat.testBit_succ];congr 1;omega
    have r:=a j;rw[show decide (k<=j)=true from zv (by omega),Bool.true_and]at r;rw[v,<-r,Bool.and_self,eN];simp[s])
 refine⟨k,d.1,d.2,p,b,?_⟩;rw[<-b];have w:=Nat.and_le_right (n:=mk f n) (m:=mk f n-1);omega
theorem Ni (h:x<4398046511104):(x ||| 9223372036854775808) &&& (18446744073709551615-9223372036854775808)=x:=by
 apply Nat.eq_of_testBit_eq;intro j;have c:(18446744073709551615-9223372036854775808:Nat)=2 ^ 63-1:=by decide
 have b:(9223372036854775808:Nat)=2 ^ 63:=by decide
 rw[Nat.testBit_and,Nat.testBit_or,c,b,Nat.testBit_two_pow_sub_one,Nat.testBit_two_pow];by_cases a:j<63
 ·simp[a];intro h;omega
 ·have:x<2 ^ j:=zF h (zJ (show 4398046511104<=2 ^ 63 by decide) (Nat.pow_le_pow_right (by decide) (by omega)));simp[a,Nat.testBit_lt_two_pow this]
theorem DU (h:x<4398046511104):(x ||| 9223372036854775808)=9223372036854775808+x:=by
 have:=Nat.two_pow_add_eq_or_of_lt (i:=63) (b:=x) (by omega) 1;rw[Nat.or_comm];simpa using this.symm
noncomputable def jp (p:Pat)(l:List Int)(g:Nat->Bool)(j:Nat):Bool:=decide (∃k,k<=l.length/\g k=true/\mT p l k j=true)
theorem ic {g:Nat->Bool}:jp p l g j=true↔∃k,k<=l.length/\g k=true/\mT p l k j=true:=by unfold jp;exact decide_eq_true_iff
theorem qx {p:Pat}:∀(ps:List Pat) (t:LZ),jl (ps++[p]) t↔∃a b,t=a++b/\jl ps a/\p.Mt b
 | [],t=>by
  constructor
  ·rintro⟨a,b,e,g,f⟩;rw[show b=[]from f,zx]at e;exact⟨[],t,rfl,rfl,e▸g⟩
  ·rintro⟨a,b,e,g,f⟩;rw[show a=[]from g,zd]at e;exact⟨t,[],by simp,e▸f,rfl⟩
 |q::ps,t=>by
  constructor
  ·rintro⟨a,b,e,g,f⟩;obtain⟨c,d,j,h,i⟩:=(qx ps b).1 f;exact⟨a++c,d,by rw[e,j,zc],⟨a,c,rfl,g,h⟩,i⟩
  ·rintro⟨a,b,e,⟨c,d,j,h,i⟩,f⟩;exact⟨c,d++b,by rw[e,j,zc],h,(qx ps (d++b)).2 ⟨d,b,rfl,i,f⟩⟩
theorem Nj {ps:List Pat}(hj:j<=l.length):jp p l (kC ps l i) j=kC (ps++[p]) l i j:=by
 rw[ze,ic];unfold kC mT;simp only[zY];constructor
 ·rintro⟨k,_,⟨d,c⟩,o,m⟩;exact⟨by omega,(qx ps _).2 ⟨_,_,JN d o,c,m⟩⟩
 ·rintro⟨d,c⟩;obtain⟨a,b,e,n,f⟩:=(qx ps _).1 c;obtain⟨k,h,g,rfl,rfl⟩:=CH d hj e;exact⟨k,by omega,⟨h,n⟩,g,f⟩
noncomputable def jX (p:Pat)(m:Nat)(l:List Int)(i j:Nat):Bool:=decide (i<=j/\jL p.Mt m (sub l i j))
theorem iM :jX p m l i j=true↔i<=j/\jL p.Mt m (sub l i j):=by unfold jX;exact decide_eq_true_iff
theorem Nk (hj:j<=l.length):jX p 0 l i j=decide (j=i):=by
 rw[ze,iM,decide_eq_true_iff];constructor
 ·rintro⟨b,a⟩;have:=uF b hj;rw[show sub l i j=[]from a]at this;simp at this;omega
 ·rintro rfl;exact⟨zA _,sub_self _ _⟩
theorem ox (hj:j<=l.length):jp p l (jX p m l i) j=jX p (m+1) l i j:=by
 rw[ze,ic,iM];constructor
 ·rintro⟨k,_,d,c⟩;rw[iM]at d;rw[kD]at c;exact⟨by omega,(uG m 1 _).2 ⟨_,_,JN d.1 c.1,d.2,⟨_,[],by simp,c.2,rfl⟩⟩⟩
 ·rintro⟨d,c⟩;obtain⟨u,v,e,q,r⟩:=(uG m 1 _).1 c;obtain⟨k,n,h,rfl,rfl⟩:=CH d hj e;obtain⟨a,b,f,o,g⟩:=r;rw[show b=[]from g,zx]at f;exact⟨k,by omega,iM.2 ⟨n,q⟩,kD.2 ⟨h,f▸o⟩⟩
noncomputable def bO (p:Pat)(m d:Nat)(l:List Int)(i j:Nat):Bool:=decide (∃r,m<=r/\r<=m+d/\jX p r l i j=true)
theorem eo :bO p m d l i j=true↔∃r,m<=r/\r<=m+d/\jX p r l i j=true:=by unfold bO;exact decide_eq_true_iff
theorem sA :bO p m 0 l i j=jX p m l i j:=by
 rw[ze,eo];constructor
 ·rintro⟨r,c,b,a⟩;have:r=m:=by omega
  subst this;exact a
 ·intro h;exact⟨m,zA _,by omega,h⟩
theorem BZ {F:Nat->Bool}(hj:j<=l.length)(h1:∀k,k<=l.length->F k=true->bO p m d l i k=true)
  (h2:∀k,k<=l.length->bO p m d l i k=true->F k=true\/∀j,j<=l.length->mT p l k j=true->bO p m d l i j=true):(bO p m d l i j||(jp p l F j&&!bO p m d l i j))=bO p m (d+1) l i j:=by
 rw[ze];simp only[yZ,yP,Bool.not_eq_true'];constructor
 ·rintro (h|⟨h,_⟩)
  ·obtain⟨r,c,o,a⟩:=eo.1 h;exact eo.2 ⟨r,c,by omega,a⟩
  ·obtain⟨k,b,g,e⟩:=ic.1 h;obtain⟨r,c,o,a⟩:=eo.1 (h1 k b g);exact eo.2 ⟨r+1,by omega,by omega,by rw[<-ox hj];exact ic.2 ⟨k,b,a,e⟩⟩
 ·intro h;by_cases f:bO p m d l i j=true
  ·exact .inl f
  ·refine .inr ⟨?_,by simpa using f⟩;obtain⟨r,c,o,a⟩:=eo.1 h;have n:r=m+d+1:=by
    apply Classical.byContradiction;intro s;exact f (eo.2 ⟨r,c,by omega,a⟩)
   subst n;rw[<-ox hj]at a;obtain⟨k,b,n,e⟩:=ic.1 a;rcases h2 k b (eo.2 ⟨m+d,by omega,by omega,n⟩)with g|q
   ·exact ic.2 ⟨k,b,g,e⟩
   ·exact absurd (q j hj e) f
theorem Ca {p:Pat}{m d:Nat}{l:LZ}{i:Nat}(h:∀k,k<=l.length->bO p m d l i k=true->∀j,j<=l.length->mT p l k j=true->bO p m d l i j=true):∀(e j:Nat),j<=l.length->jX p (m+d+e) l i j=true->bO p m d l i j=true
 |0,j,hj,hr=>eo.2 ⟨m+d,by omega,by omega,hr⟩
 |e+1,j,hj,hr=>by
  rw[show m+d+(e+1)=(m+d+e)+1 from rfl,<-ox hj]at hr;obtain⟨k,a,c,b⟩:=ic.1 hr;exact h k a (Ca h e k a c) j hj b
theorem DV {n:Int}(hj:j<=l.length)(hn:n<0\/(m:Int)+d<=n)(h:∀k,k<=l.length->bO p m d l i k=true->∀j,j<=l.length->mT p l k j=true->bO p m d l i j=true):bO p m d l i j=mT (.many p m n) l i j:=by
 rw[ze,kD];constructor
 ·intro q;obtain⟨r,f,s,b⟩:=eo.1 q;obtain⟨t,o⟩:=iM.1 b;exact⟨t,r,by omega,by omega,o⟩
 ·rintro⟨g,r,f,s,b⟩;have c:jX p r l i j=true:=iM.2 ⟨g,b⟩;by_cases a:r<=m+d
  ·exact eo.2 ⟨r,by omega,a,c⟩
  ·obtain⟨e,rfl⟩:∃e,r=m+d+e:=⟨r-(m+d),by omega⟩;exact Ca h e j hj c
theorem DW {n:Int}(hn:(m:Int)+d=n):bO p m d l i j=mT (.many p m n) l i j:=by
 rw[ze,kD];constructor
 ·intro f;obtain⟨r,b,g,a⟩:=eo.1 f;obtain⟨h,e⟩:=iM.1 a;exact⟨h,r,by omega,by omega,e⟩
 ·rintro⟨c,r,b,g,a⟩;exact eo.2 ⟨r,by omega,by omega,iM.2 ⟨c,a⟩⟩
