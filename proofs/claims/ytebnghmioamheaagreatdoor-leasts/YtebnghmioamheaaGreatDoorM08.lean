import Derived.Laws.AppendOwnNone
import Derived.Test.YtebnghmioamheaaGreatDoorM06
set_option linter.all false
namespace Go.Proofs.YtebnghmioamheaaGreatDoor
open Go.RowKit
theorem oJ {w W:World}{ao:OA}{l:LQ}(h:Rd w ao l)(hb:Bw w W){ad:Addr}(ha:ao=some ad):∀j u,(aE l)[j]?=some u->W.cell? (ad.add j)=some u:=by
 intro j u a;have g:j<(aE l).length:=(zC.1 a).1;rw[dK]at g;have m:j / 2<l.length:=by omega
 obtain⟨b,f,e,p,i,k⟩:=h.below hb (j / 2) l[j / 2] (zB m);have o:ad=(aD b f):=by rw[ha]at e;exact yT e
 subst o;have d:=jh (zB m);rcases Nat.mod_two_eq_zero_or_one j with n|n
 ·have c:j / 2*2=j:=by omega
  rw[c]at d i;rw[d.1]at a;rw[zl,<-a];exact i
 ·have c:j / 2*2+1=j:=by omega
  rw[xG,c]at k;rw[c]at d;rw[d.2]at a;rw[zl,<-a];exact k
theorem uw (l:LQ):∀u∈aE l,u.oneCell'=true:=by
 intro u a;simp only[aE,xL]at a;obtain⟨x,_,b⟩:=a;simp at b;rcases b with rfl|rfl<;>rfl
