import Derived.BigQuiet
import Derived.Deep.AppendLies
import Derived.Test.YtebnghmioamheaaGreatDoorM06
set_option maxHeartbeats 400000
set_option maxRecDepth 100000
set_option linter.all false
namespace Go.Proofs.YtebnghmioamheaaGreatDoor
open Go.RowKit Tryz
theorem PU (n:Int)(w:World)(h0:0<=n)(h1:n<=1114111):Calls prog 223 #[Vi n] w λe w'=>e=.returned (Vi (Brm.up n))/\w'=w:=by
 go_enter func223,ntmps223;go_wp2
 all_goals (go_ret;exact⟨mW (by unfold Brm.up;(repeat' split)<;>omega),rfl⟩)
theorem Tx (n:Int)(w:World)(h0:0<=n)(h1:n<=1114111):Calls prog 247 #[Vi n] w λe w'=>e=.returned (Vi (Brm.down n))/\w'=w:=by
 go_enter func247,ntmps247;go_wp2
 all_goals (go_ret;exact⟨mW (by unfold Brm.down;(repeat' split)<;>omega),rfl⟩)
theorem FY (n:Int)(w:World)(h0:0<=n)(h1:n<=1114111):Calls prog 32 #[Vi n] w λe w'=>e=.returned (Vi (Brm.back n))/\w'=w:=by
 go_enter func32,ntmps32;go_wp2
 all_goals (go_ret;exact⟨mW (by unfold Brm.back;(repeat' split)<;>omega),rfl⟩)
theorem wS {ao:OA}{l:LQ}(cap:Nat)(r:Int){w:World}(hcells:Rd w ao l)(hlen:l.length<=1000000):Calls prog 40 #[.slice ao l.length cap,Vi r] w λe w'=>e=.returned (.bool (Brm.memB l r))/\w'=w:=by
 have j:=aa hcells;go_enter func40,ntmps40;go_wp2
 go_loop [5] (λi=>∃k:Nat,k<=l.length/\i=Vi k/\Brm.memB (l.take k) r=false) (λi=>l.length-(intOf i).toNat)
 case atStart=>exact⟨0,zW _,rfl,rfl⟩
 case round=>
  obtain⟨k,q,rfl,h⟩:=hrel;have d:=aa h;by_cases a:k<l.length
  ·obtain⟨b,m,rfl,o,f,c⟩:=Fz j k l[k] (zB a);generalize hx:l[k]=x at f c;have g:Hid (l[k]?=some x):=by rw[zB a,hx];rfl
   obtain⟨n,p⟩:=x;simp only at f c;go_wp2
   ·go_ret;exact⟨eM (Md g ((Brm.in_iff _ _).2 ⟨‹_›,‹_›⟩)).symm,rfl⟩
   all_goals
    go_round
    case rel=>exact⟨k+1,by omega,by go_num,by rw[jV g.out,d.out,Bool.false_or,<-yI,Brm.in_iff];simp only;omega⟩
    case measure=>simp[intOf];omega
  ·go_wp2;go_ret;exact⟨eM (by rw[<-Fz d,yF (by omega)]),rfl⟩
