import Derived.Test.YtebnghmioamheaaGreatDoorM29
import Derived.Test.YtebnghmioamheaaGreatDoorM01
set_option maxHeartbeats 1000000
set_option maxRecDepth 100000
set_option linter.all false
namespace Go.Proofs.YtebnghmioamheaaGreatDoor
open Go.Shelf Go.RowKit Go.Lib Tryz
theorem Vv (g:Value)(w:World):Calls prog 166 #[Vz,Vi 0,Vi 0,g] w λe w'=>e=.returned (.tuple #[])/\w'=w:=by
 go_enter func166,ntmps166;go_wp2_with fail
 go_loopg [8] 1 (λ_ iv wr=>iv=Vi 1/\wr=w)
 case atStart=>exact⟨rfl,rfl⟩
 case round=>
  obtain⟨rfl,rfl⟩:=hrel;go_wp2
  go_end0
  exact⟨rfl,rfl⟩
theorem Vw (g:Value)(lim:Int)(w:World):Calls prog 139 #[Vz,Vi 0,Vi 0,Vi lim,g] w λe w'=>e=.returned (.tuple #[])/\w'=w:=by
 go_enter func139,ntmps139;go_wp2_with fail
 go_loopg [1,2] 1 (λ_ av bv wr=>av=Vi 0/\bv=Vi 0/\wr=w)
 case atStart=>exact⟨rfl,rfl,rfl⟩
 case round=>
  obtain⟨rfl,rfl,a⟩:=hrel;subst a;go_wp2_with (go_at_call 166;refine (Vv _ _).mono ?_;rintro e w' ⟨rfl,a⟩;have b:=a.symm;subst b);refine zN (v:=.tuple #[]) (by simp[results,results139,go_sem]) rfl ?_;exact⟨rfl,rfl⟩
theorem RK (g:Value)(w:World):Calls prog 99 #[Vz,g] w λe w'=>e=.returned (.tuple #[])/\w'=w:=by
 go_enter func99,ntmps99;go_wp2_with (first|(go_at_call 109;refine (Dj 0 _ (by decide) (by decide)).mono ?_;rintro e w' ⟨rfl,b⟩;have a:=b.symm;subst a)|(go_at_call 139;refine (Vw _ _ _).mono ?_;rintro e w' ⟨rfl,b⟩;have a:=b.symm;subst a))
 go_end0
 exact⟨rfl,rfl⟩
theorem Hl (w:World):Calls prog 102 #[Vz] w λe w'=>e=.returned (Vz)/\w'=w:=by
 go_enter func102,ntmps102;go_wp2;go_ret;exact⟨rfl,rfl⟩
theorem Ot (g:Value)(w:World):Calls prog 141 #[Vz,g] w λe w'=>e=.returned (Vi (-1))/\w'=w:=by
 go_enter func141,ntmps141;go_wp2_with fail
 go_loopg [8] 1 (λ_ iv wr=>iv=Vi 0/\wr=w)
 case atStart=>exact⟨rfl,rfl⟩
 case round=>
  obtain⟨rfl,a⟩:=hrel;subst a;go_wp2;go_ret;exact⟨rfl,rfl⟩
theorem EQ (g:Value)(w:World):Calls prog 104 #[Vz,g] w λe w'=>e=.returned (.bool false)/\w'=w:=by
 go_enter func104,ntmps104;go_wp2_with (go_at_call 141;refine (Ot _ _).mono ?_;rintro e w' ⟨rfl,b⟩;have a:=b.symm;subst a);go_ret;exact⟨rfl,rfl⟩
theorem But.later {S T:NP}{a b c:World}(h:But S a b)(k:But T b c)(hT:∀i,i<a.heap.size->T i->S i):But S a c :=
 ⟨k.os.trans h.os,k.tape.trans h.tape,k.output.trans h.output,zJ h.size k.size,λi d e=>(k.block i (zF d h.size) (λf=>e (hT i d f))).trans (h.block i d e)⟩
def Zl (w:World)(m bm:Nat)(nn ee:Option Nat)(f:List UInt8->Option Nat)(n:Nat)(nm:List UInt8)(kd:Int)(en:Bool)(e:Ending)(w':World):Prop :=
 ∃x,w.heap.size<=x/\e=.returned (Vp x)/\But (λk=>k=bm) w w'/\MS w' m bm nn ee (put f nm x) (n+1)/\∃pa pn pc fv,kG w' x n kd pa pn pc en fv
def Zm (w:World)(y:Nat)(e:Ending)(w':World):Prop:=e=.returned (Vp y)/\Below w.heap.size w w'
theorem iE.nil (w:World)(a:OA):iE w a []:=λj x b=>by simp at b
theorem qD.nil (w:World)(a:OA)(num:Nat->Int):qD w a [] num:=λj x b=>by simp at b
def iG:List UInt8:=fl 2 [] []
def rl:List UInt8:=fl 1 [] []
theorem Tf:iG=[50]:=by decide +kernel
theorem Tg:rl=[49]:=by decide +kernel
theorem PD:rl≠iG:=by rw[Tg,Tf];decide
structure RMk (w:World)(B m bm x0 x1:Nat)(f:List UInt8->Option Nat)(n:Nat):Prop where
 ms:MS w m bm (some x0) (some x1) f n
 none:∃pa pn pc fv,kG w x0 0 2 pa pn pc false fv
 empty:∃pa pn pc fv,kG w x1 1 1 pa pn pc true fv
 apart:B<=m/\B<=bm/\B<=x0/\B<=x1/\m≠bm/\m≠x0/\m≠x1/\bm≠x0/\bm≠x1/\x0≠x1
def Mk2 (w:World)(S:Nat)(wx:World):Prop:=∃x0,S+3<=x0/\MS wx (S+1) S (some x0) none (put (λ_=>none) iG x0) 1/\(∃pa pn pc fv,kG wx x0 0 2 pa pn pc false fv)/\ag wx (S+2) [Vp (S+1)] 95/\Below S w wx/\aZ wx
def Mk3 (w:World)(S:Nat)(wx:World):Prop:=∃x0 x1,RMk wx S (S+1) S x0 x1 (put (put (λ_=>none) iG x0) rl x1) 2/\ag wx (S+2) [Vp (S+1)] 95/\Below S w wx
theorem Th {f:List UInt8->Option Nat}{a b:List UInt8}{x:Nat}(h:b≠a)(k:f b=none):put f a x b=none:=by unfold put;rw[zR h];exact k
theorem tX:∃j:TypeInfo,prog.info? 113=some j/\j.size≠0:=by
 have h:(prog.info? 113).map (λi=>i.size)=some 5:=by kernel_rfl
 cases hi:prog.info? 113 with
 |none=>rw[hi]at h;cases h
 |some j=>rw[hi]at h;simp at h;exact⟨j,rfl,by omega⟩
theorem lI (a:Nat)(w:World):(binOp .eql 103 (Vp a) (Vp a)).run prog w=.ok (.bool true) w:=by
 obtain⟨j,b,_⟩:=tX;exact run_eql_ptr_same w _ underlying103 b
theorem aF {w:World}{a b:Nat}{ca cb:LV}{ta tb:TypeId}(ha:ag w a ca ta)(hb:ag w b cb tb)(hne:a≠b):(binOp .eql 103 (Vp a) (Vp b)).run prog w=.ok (.bool false) w:=by
 obtain⟨j,d,c⟩:=tX;exact run_eql_ptr_other w underlying103 d c (λe=>hne (by injection e)) ha hb
