/- Sets of places, a bit each: plain. -/
import Derived.Lib.TrailingZeros
import Derived.Laws.BitsAllLaws
import Derived.Test.YtpoibdhhcbelnaaGreatDoorM09
namespace Go.Proofs.YtpoibdhhcbelnaaGreatDoor
open Brm
open Classical
def mk (f:Nat->Bool):Nat->Nat
  | 0=>0
  | n+1=>mk f n+(if f n then 2 ^ n else 0)
theorem mk_lt (f:Nat->Bool):∀ n,mk f n<2 ^ n
  | 0=>by simp [mk]
  | n+1=>by
    have:=mk_lt f n
    unfold mk
    rw [Nat.pow_succ]
    split<;>omega
theorem mk_bit (f:Nat->Bool):∀ n j,(mk f n).testBit j=(decide (j<n) && f j)
  | 0,j=>by simp [mk]
  | n+1,j=>by
    unfold mk
    by_cases hf:f n=true
    · rw [if_pos hf,Nat.add_comm]
      by_cases hj:j=n
      · subst hj
        rw [Nat.testBit_two_pow_add_eq]
        rw [mk_bit f j j]
        simp [hf]
      · by_cases hlt:j<n
        · rw [Nat.testBit_two_pow_add_gt (by omega),mk_bit f n j]
          simp [hlt,show j<n+1 by omega]
        · have hb:2 ^ n+mk f n<2 ^ j:=by
            have h1:=mk_lt f n
            have h2:2 ^ (n+1)<=2 ^ j:=Nat.pow_le_pow_right (by decide) (by omega)
            rw [Nat.pow_succ] at h2
            omega
          rw [Nat.testBit_lt_two_pow hb]
          simp [show ¬ j<n+1 by omega]
    · rw [if_neg hf,Nat.add_zero,mk_bit f n j]
      by_cases hj:j=n
      · subst hj;simp [hf]
      · by_cases hlt:j<n
        · simp [hlt,show j<n+1 by omega]
        · simp [hlt,show ¬ j<n+1 by omega]
theorem mk_ext {f g:Nat->Bool}:∀ {n:Nat},(∀ j,j<n->f j=g j)->mk f n=mk g n
  | 0,_=>rfl
  | n+1,h=>by unfold mk;rw [mk_ext (fun j hj=>h j (by omega)),h n (by omega)]
theorem eq_mk {x n:Nat}{f:Nat->Bool}(h:∀ j,x.testBit j=(decide (j<n) && f j)):x=mk f n:=Nat.eq_of_testBit_eq (fun j=>by rw [h,mk_bit])
theorem mk_or (f g:Nat->Bool)(n:Nat):mk f n ||| mk g n=mk (fun j=>f j || g j) n:=eq_mk (fun j=>by rw [Nat.testBit_or,mk_bit,mk_bit];cases decide (j<n)<;>simp)
theorem mk_and (f g:Nat->Bool)(n:Nat):mk f n &&& mk g n=mk (fun j=>f j && g j) n:=eq_mk (fun j=>by rw [Nat.testBit_and,mk_bit,mk_bit];cases decide (j<n)<;>simp)
theorem mk_le63 (f:Nat->Bool){n:Nat}(hn:n<=42):mk f n<4398046511104:=Nat.lt_of_lt_of_le (mk_lt f n) (Nat.le_trans (Nat.pow_le_pow_right (by decide) hn) (by decide))
theorem not_bit {x:Nat}(hx:x<18446744073709551616)(j:Nat):(18446744073709551615-x).testBit j=(decide (j<64) && !x.testBit j):=by
  have:=Nat.testBit_two_pow_sub_succ (n:=64) (x:=x) (by simpa using hx) j
  rw [show 18446744073709551615-x=2 ^ 64-(x+1) by omega]
  exact this
theorem mk_andNot (f g:Nat->Bool){n:Nat}(hn:n<=42):mk f n &&& (18446744073709551615-mk g n)=mk (fun j=>f j && !g j) n:=eq_mk (fun j=>by
  have hx:=mk_le63 g hn
  rw [Nat.testBit_and,not_bit (by omega),mk_bit,mk_bit]
  by_cases hj:j<n
  · simp [hj,show j<64 by omega]
  · simp [hj])
theorem mk_one {i n:Nat}(h:i<n):2 ^ i=mk (fun j=>decide (j=i)) n:=eq_mk (fun j=>by
  rw [Nat.testBit_two_pow]
  by_cases hj:j=i
  · subst hj;simp [h]
  · simp [hj,show ¬ i=j from fun e=>hj e.symm])
theorem mk_from {n:Nat}:∀ {i:Nat},i<=n->2 ^ n-2 ^ i=mk (fun j=>decide (i<=j)) n:=by
  induction n with
  | zero => intro i h;have:i=0:=by omega
            subst this;rfl
  | succ n ih =>
    intro i h
    unfold mk
    by_cases hi:i<=n
    · rw [<- ih hi]
      have:2 ^ i<=2 ^ n:=Nat.pow_le_pow_right (by decide) hi
      simp only [hi,decide_true,if_true,Nat.pow_succ]
      omega
    · have:i=n+1:=by omega
      subst this
      have hz:mk (fun j=>decide (n+1<=j)) n=0:=by
        rw [mk_ext (g:=fun _=>false) (fun j hj=>by simp;omega)]
        exact (eq_mk (fun j=>by simp)).symm
      rw [hz]
      simp
      intro h;omega
theorem mk_zero {f:Nat->Bool}{n:Nat}:mk f n=0↔∀ j,j<n->f j=false:=by
  constructor
  · intro h j hj
    have:=mk_bit f n j
    rw [h] at this
    simpa [hj] using this.symm
  · intro h
    rw [mk_ext (g:=fun _=>false) h]
    exact (eq_mk (fun j=>by simp)).symm
theorem bit_and {x j:Nat}:(x &&& 2 ^ j≠0)↔x.testBit j=true:=by
  constructor
  · intro h
    obtain ⟨k,hk⟩:=Nat.exists_testBit_of_ne_zero h
    rw [Nat.testBit_and,Nat.testBit_two_pow,Bool.and_eq_true,decide_eq_true_eq] at hk
    obtain ⟨h1,rfl⟩:=hk
    exact h1
  · intro h e
    have:=Nat.testBit_and x (2 ^ j) j
    rw [e,h,Nat.testBit_two_pow_self] at this
    simp at this
theorem mk_low {f:Nat->Bool}{n:Nat}(hn:n<=42)(h:mk f n≠0):∃ k,k<n/\f k=true/\Lib.ctz 64 (mk f n)=k/\mk f n &&& (mk f n-1)=mk (fun j=>f j && !decide (j=k)) n/\mk (fun j=>f j && !decide (j=k)) n<mk f n:=by
  have hx:=mk_le63 f hn
  obtain ⟨m,hm,hk⟩:=Lib.ctzFrom_spec 64 (mk f n) (by omega) (by simp;omega)
  have hc:Lib.ctz 64 (mk f n)=Lib.ctzFrom 64 (mk f n):=by unfold Lib.ctz;rw [if_neg h]
  generalize Lib.ctzFrom 64 (mk f n)=k at hm hk hc
  have hbit:∀ j,(mk f n).testBit j=(decide (k<=j) && (2*m+1).testBit (j-k)):=fun j=>by rw [hm,Nat.mul_comm,Nat.testBit_mul_two_pow]
  have hkk:(mk f n).testBit k=true:=by rw [hbit];simp [Nat.testBit_zero]
  have hfk:k<n/\f k=true:=by have:=mk_bit f n k;rw [hkk] at this;simpa using this.symm
  have hsub:mk f n-1=2 ^ k*(2*m)+(2 ^ k-1):=by
    have h1:0<2 ^ k:=Nat.two_pow_pos k
    rw [hm,Nat.mul_add];omega
  have hand:mk f n &&& (mk f n-1)=mk (fun j=>f j && !decide (j=k)) n:=eq_mk (fun j=>by
    rw [Nat.testBit_and,hsub]
    have hb2:(2 ^ k*(2*m)+(2 ^ k-1)).testBit j=if j<k then true else (2*m).testBit (j-k):=by
      rw [Nat.testBit_two_pow_mul_add _ (by have:=Nat.two_pow_pos k;omega)]
      split
      · rename_i hlt
        rw [Nat.testBit_two_pow_sub_one];simp [hlt]
      · rfl
    rw [hb2]
    by_cases hlt:j<k
    · have:=hbit j
      rw [show decide (k<=j)=false from decide_eq_false (by omega),Bool.false_and] at this
      have h2:=mk_bit f n j
      rw [this] at h2
      rw [this]
      simp only [Bool.false_and]
      cases hd:decide (j<n) with
      | false=>simp
      | true=>rw [hd,Bool.true_and] at h2;rw [<- h2];simp
    · rw [if_neg hlt]
      by_cases he:j=k
      · subst he;simp [Nat.testBit_zero]
      · have h3:(2*m).testBit (j-k)=(2*m+1).testBit (j-k):=by
          obtain ⟨q,hq⟩:∃ q,j-k=q+1:=⟨j-k-1,by omega⟩
          rw [hq,Nat.testBit_succ,Nat.testBit_succ]
          congr 1;omega
        have h4:=hbit j
        rw [show decide (k<=j)=true from decide_eq_true (by omega),Bool.true_and] at h4
        rw [h3,<- h4,Bool.and_self,mk_bit]
        simp [he])
  refine ⟨k,hfk.1,hfk.2,hc,hand,?_⟩
  rw [<- hand]
  have h5:=Nat.and_le_right (n:=mk f n) (m:=mk f n-1)
  omega
theorem asked_off {x:Nat}(h:x<4398046511104):(x ||| 9223372036854775808) &&& (18446744073709551615-9223372036854775808)=x:=by
  apply Nat.eq_of_testBit_eq
  intro j
  have e1:(18446744073709551615-9223372036854775808:Nat)=2 ^ 63-1:=by decide
  have e2:(9223372036854775808:Nat)=2 ^ 63:=by decide
  rw [Nat.testBit_and,Nat.testBit_or,e1,e2,Nat.testBit_two_pow_sub_one,Nat.testBit_two_pow]
  by_cases hj:j<63
  · simp [hj];intro h;omega
  · have:x<2 ^ j:=Nat.lt_of_lt_of_le h (Nat.le_trans (show 4398046511104<=2 ^ 63 by decide) (Nat.pow_le_pow_right (by decide) (by omega)))
    simp [hj,Nat.testBit_lt_two_pow this]
theorem asked_on {x:Nat}(h:x<4398046511104):(x ||| 9223372036854775808)=9223372036854775808+x:=by
  have:=Nat.two_pow_add_eq_or_of_lt (i:=63) (b:=x) (by omega) 1
  rw [Nat.or_comm]
  simpa using this.symm
noncomputable def goB (p:Pat)(l:List Int)(g:Nat->Bool)(j:Nat):Bool:=decide (∃ k,k<=l.length/\g k=true/\mT p l k j=true)
theorem goB_iff {p:Pat}{l:List Int}{g:Nat->Bool}{j:Nat}:goB p l g j=true↔∃ k,k<=l.length/\g k=true/\mT p l k j=true:=by unfold goB;exact decide_eq_true_iff
theorem row_snoc {p:Pat}:∀ (ps:List Pat) (t:List Int),MtRow (ps++[p]) t↔∃ a b,t=a++b/\MtRow ps a/\p.Mt b
  | [],t=>by
    constructor
    · rintro ⟨a,b,e,ha,hb⟩
      rw [show b=[] from hb,List.append_nil] at e
      exact ⟨[],t,rfl,rfl,e▸ha⟩
    · rintro ⟨a,b,e,ha,hb⟩
      rw [show a=[] from ha,List.nil_append] at e
      exact ⟨t,[],by simp,e▸hb,rfl⟩
  | q::ps,t=>by
    constructor
    · rintro ⟨a,b,e,ha,hb⟩
      obtain ⟨c,d,e2,hc,hd⟩:=(row_snoc ps b).1 hb
      exact ⟨a++c,d,by rw [e,e2,List.append_assoc],⟨a,c,rfl,ha,hc⟩,hd⟩
    · rintro ⟨a,b,e,⟨c,d,e2,hc,hd⟩,hb⟩
      exact ⟨c,d++b,by rw [e,e2,List.append_assoc],hc,(row_snoc ps (d++b)).2 ⟨d,b,rfl,hd,hb⟩⟩
theorem rest_snoc {p:Pat}{ps:List Pat}{l:List Int}{i j:Nat}(hj:j<=l.length):goB p l (restT ps l i) j=restT (ps++[p]) l i j:=by
  rw [Bool.eq_iff_iff,goB_iff]
  unfold restT mT
  simp only [decide_eq_true_eq]
  constructor
  · rintro ⟨k,_,⟨h1,h2⟩,h3,h4⟩
    exact ⟨by omega,(row_snoc ps _).2 ⟨_,_,sub_cat h1 h3,h2,h4⟩⟩
  · rintro ⟨h1,h2⟩
    obtain ⟨a,b,e,ha,hb⟩:=(row_snoc ps _).1 h2
    obtain ⟨k,k1,k2,rfl,rfl⟩:=sub_split h1 hj e
    exact ⟨k,by omega,⟨k1,ha⟩,k2,hb⟩
noncomputable def repT (p:Pat)(m:Nat)(l:List Int)(i j:Nat):Bool:=decide (i<=j/\Rep p.Mt m (sub l i j))
theorem repT_iff {p:Pat}{m:Nat}{l:List Int}{i j:Nat}:repT p m l i j=true↔i<=j/\Rep p.Mt m (sub l i j):=by unfold repT;exact decide_eq_true_iff
theorem repT_zero {p:Pat}{l:List Int}{i j:Nat}(hj:j<=l.length):repT p 0 l i j=decide (j=i):=by
  rw [Bool.eq_iff_iff,repT_iff,decide_eq_true_iff]
  constructor
  · rintro ⟨h1,h2⟩
    have:=sub_len h1 hj
    rw [show sub l i j=[] from h2] at this
    simp at this;omega
  · rintro rfl;exact ⟨Nat.le_refl _,sub_self _ _⟩
theorem repT_succ {p:Pat}{m:Nat}{l:List Int}{i j:Nat}(hj:j<=l.length):goB p l (repT p m l i) j=repT p (m+1) l i j:=by
  rw [Bool.eq_iff_iff,goB_iff,repT_iff]
  constructor
  · rintro ⟨k,_,h1,h2⟩
    rw [repT_iff] at h1
    rw [mT_iff] at h2
    exact ⟨by omega,(rep_add m 1 _).2 ⟨_,_,sub_cat h1.1 h2.1,h1.2,⟨_,[],by simp,h2.2,rfl⟩⟩⟩
  · rintro ⟨h1,h2⟩
    obtain ⟨u,v,e,hu,hv⟩:=(rep_add m 1 _).1 h2
    obtain ⟨k,k1,k2,rfl,rfl⟩:=sub_split h1 hj e
    obtain ⟨a,b,e2,ha,hb⟩:=hv
    rw [show b=[] from hb,List.append_nil] at e2
    exact ⟨k,by omega,repT_iff.2 ⟨k1,hu⟩,mT_iff.2 ⟨k2,e2▸ha⟩⟩
noncomputable def repU (p:Pat)(m d:Nat)(l:List Int)(i j:Nat):Bool:=decide (∃ r,m<=r/\r<=m+d/\repT p r l i j=true)
theorem repU_iff {p:Pat}{m d:Nat}{l:List Int}{i j:Nat}:repU p m d l i j=true↔∃ r,m<=r/\r<=m+d/\repT p r l i j=true:=by unfold repU;exact decide_eq_true_iff
theorem repU_zero {p:Pat}{m:Nat}{l:List Int}{i j:Nat}:repU p m 0 l i j=repT p m l i j:=by
  rw [Bool.eq_iff_iff,repU_iff]
  constructor
  · rintro ⟨r,h1,h2,h3⟩
    have:r=m:=by omega
    subst this;exact h3
  · intro h;exact ⟨m,Nat.le_refl _,by omega,h⟩
theorem repU_succ {p:Pat}{m d:Nat}{l:List Int}{i j:Nat}{F:Nat->Bool}(hj:j<=l.length)(h1:∀ k,k<=l.length->F k=true->repU p m d l i k=true)
    (h2:∀ k,k<=l.length->repU p m d l i k=true->F k=true\/∀ j,j<=l.length->mT p l k j=true->repU p m d l i j=true) :
    (repU p m d l i j || (goB p l F j && !repU p m d l i j))=repU p m (d+1) l i j:=by
  rw [Bool.eq_iff_iff]
  simp only [Bool.or_eq_true,Bool.and_eq_true,Bool.not_eq_true']
  constructor
  · rintro (h | ⟨h,_⟩)
    · obtain ⟨r,r1,r2,r3⟩:=repU_iff.1 h
      exact repU_iff.2 ⟨r,r1,by omega,r3⟩
    · obtain ⟨k,hk,hF,hm⟩:=goB_iff.1 h
      obtain ⟨r,r1,r2,r3⟩:=repU_iff.1 (h1 k hk hF)
      exact repU_iff.2 ⟨r+1,by omega,by omega,by rw [<- repT_succ hj];exact goB_iff.2 ⟨k,hk,r3,hm⟩⟩
  · intro h
    by_cases hu:repU p m d l i j=true
    · exact .inl hu
    · refine .inr ⟨?_,by simpa using hu⟩
      obtain ⟨r,r1,r2,r3⟩:=repU_iff.1 h
      have hr:r=m+d+1:=by
        apply Classical.byContradiction
        intro hne
        exact hu (repU_iff.2 ⟨r,r1,by omega,r3⟩)
      subst hr
      rw [<- repT_succ hj] at r3
      obtain ⟨k,hk,hr,hm⟩:=goB_iff.1 r3
      rcases h2 k hk (repU_iff.2 ⟨m+d,by omega,by omega,hr⟩) with hF | hc
      · exact goB_iff.2 ⟨k,hk,hF,hm⟩
      · exact absurd (hc j hj hm) hu
theorem repU_shut {p:Pat}{m d:Nat}{l:List Int}{i:Nat}(h:∀ k,k<=l.length->repU p m d l i k=true->∀ j,j<=l.length->mT p l k j=true->repU p m d l i j=true) :
    ∀ (e j:Nat),j<=l.length->repT p (m+d+e) l i j=true->repU p m d l i j=true
  | 0,j,hj,hr=>repU_iff.2 ⟨m+d,by omega,by omega,hr⟩
  | e+1,j,hj,hr=>by
    rw [show m+d+(e+1)=(m+d+e)+1 from rfl,<- repT_succ hj] at hr
    obtain ⟨k,hk,h1,h2⟩:=goB_iff.1 hr
    exact h k hk (repU_shut h e k hk h1) j hj h2
theorem mT_many_shut {p:Pat}{m d:Nat}{n:Int}{l:List Int}{i j:Nat}(hj:j<=l.length)(hn:n<0\/(m:Int)+d<=n)(h:∀ k,k<=l.length->repU p m d l i k=true->∀ j,j<=l.length->mT p l k j=true->repU p m d l i j=true):repU p m d l i j=mT (.many p m n) l i j:=by
  rw [Bool.eq_iff_iff,mT_iff]
  constructor
  · intro hu
    obtain ⟨r,r1,r2,r3⟩:=repU_iff.1 hu
    obtain ⟨r4,r5⟩:=repT_iff.1 r3
    exact ⟨r4,r,by omega,by omega,r5⟩
  · rintro ⟨h1,r,r1,r2,r3⟩
    have hr:repT p r l i j=true:=repT_iff.2 ⟨h1,r3⟩
    by_cases hle:r<=m+d
    · exact repU_iff.2 ⟨r,by omega,hle,hr⟩
    · obtain ⟨e,rfl⟩:∃ e,r=m+d+e:=⟨r-(m+d),by omega⟩
      exact repU_shut h e j hj hr
theorem mT_many_most {p:Pat}{m d:Nat}{n:Int}{l:List Int}{i j:Nat}(hn:(m:Int)+d=n):repU p m d l i j=mT (.many p m n) l i j:=by
  rw [Bool.eq_iff_iff,mT_iff]
  constructor
  · intro hu
    obtain ⟨r,r1,r2,r3⟩:=repU_iff.1 hu
    obtain ⟨r4,r5⟩:=repT_iff.1 r3
    exact ⟨r4,r,by omega,by omega,r5⟩
  · rintro ⟨h1,r,r1,r2,r3⟩
    exact repU_iff.2 ⟨r,by omega,by omega,repT_iff.2 ⟨h1,r3⟩⟩
end Go.Proofs.YtpoibdhhcbelnaaGreatDoor
