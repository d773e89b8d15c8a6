import Derived.Test.YtebnghmioamheaaGreatDoorM31
import Derived.Test.YtebnghmioamheaaGreatDoorM37
set_option maxHeartbeats 4000000
set_option maxRecDepth 100000
set_option linter.all false
namespace Go.Proofs.YtebnghmioamheaaGreatDoor
open Go.Shelf Go.RowKit Go.Lib Go.Sort Brm Tryz
variable {w:World}{b g:Nat}{R:Nat->Nat}{d:Array Nat}
theorem PE (a:Nat)(w:World):(binOp .neq 103 (Vp a) (Vp a)).run prog w=.ok (.bool false) w:=by
 obtain⟨j,b,_⟩:=tX;exact run_neq_ptr_same w _ underlying103 b
theorem Ms {a:Nat}{ca cb:LV}{ta tb:TypeId}(ha:ag w a ca ta)(hb:ag w b cb tb)(hne:a≠b):(binOp .neq 103 (Vp a) (Vp b)).run prog w=.ok (.bool true) w:=by
 have h:=aF ha hb hne;simp only[binOp,Sem.run_bind,Sem.run_pure]at h ⊢;cases he:(Op.equal 103 (Vp a) (Vp b)).run prog w with
 |ok v w'=>
  rw[he]at h;simp only[Result.andThen_ok,Result.ok.injEq,Value.bool.injEq]at h ⊢;exact⟨by rw[h.1];rfl,h.2⟩
 |_=>rw[he]at h;cases h
structure RowP (w:World)(g:Nat)(R:Nat->Nat)(d:Array Nat)(wr:World):Prop where
 but:But (λk=>k=g) w wr
 cell:∀j,j<d.size->wr.cell? (aD g j)=some (ae (R d[j]!))/\wr.frozen? (aD g j)=false
theorem RowP.set {wr:World}(h:RowP w g R d wr){k x:Nat}(hk:k<d.size):RowP w g R (d.setIfInBounds k x) (wr.setCell (aD g k) (ae (R x))):=by
 refine⟨h.but.setCell (p:=(aD g k)) (.inl rfl) _,λj c=>?_⟩;have a:j<d.size:=by simpa using c
 by_cases e:j=k
 ·subst e;rw[getElem!_set_same d j x hk];exact⟨World.cell?_setCell_same _ _ _ (h.cell j a).1,(World.frozen?_setCell _ _ _ _).trans (h.cell j a).2⟩
 ·rw[getElem!_set_other d k j x e];exact⟨(yy _ _ _ _ (by intro b;simp only[xK]at b;omega)).trans (h.cell j a).1,(World.frozen?_setCell _ _ _ _).trans (h.cell j a).2⟩
theorem RowP.drew {wr:World}(h:RowP w g R d wr)(n:Nat):RowP w g R d (wr.drewN n):=⟨⟨h.but.os,h.but.tape,h.but.output,h.but.size,h.but.block⟩,h.cell⟩
theorem eU {o:Nat}{v:Value}(h:w.cell? (aD b o)=some v):b<w.heap.size:=by
 rcases Nat.lt_or_ge b w.heap.size with a|a
 ·exact a
 ·simp[World.cell?,xI a]at h
theorem FK {n:Nat}(h:n<=9000000000000000):IntKind.i64.wrap (n:Int)=(n:Int):=by
 simp[IntKind.wrap,IntKind.bits,IntKind.signed];omega
theorem But.setCells_at {S:NP}{w:World}(b:Nat):∀(vs:LV) {o:Nat} {wr:World},But S w wr->S b->But S w (wr.setCells b o vs)
 | [],_,_,h,_=>h
 |v::vs,o,wr,h,hb=>by
  unfold World.setCells;exact But.setCells_at b vs (h.setCell (p:=(aD b o)) (.inl hb) v) hb
theorem kT {b j:Nat}:∀(vs:LV) (o:Nat) (wr:World),j<o->(wr.setCells b o vs).cell? (aD b j)=wr.cell? (aD b j)
 | [],_,_,_=>rfl
 |v::vs,o,wr,h=>by
  unfold World.setCells;rw[kT vs (o+1) _ (by omega)];exact yy _ _ _ _ (by intro a;simp only[xK]at a;omega)
theorem Ik (cap:Nat)(hr:RowP w g R d w)(hbk:∀j,j<d.size->R d[j]!≠g/\∃cs t,ag w (R d[j]!) cs t)(hinj:∀i j,i<d.size->j<d.size->R d[i]! = R d[j]!->d[i]! = d[j]!)(hsz:d.size<=9000000000000000)(hcap:d.size<=cap):Calls prog 102 #[Vs g d.size cap] w λe w'=>e=.returned (Vs g (compactUpTo d d.size).length cap)/\But (λk=>k=g) w w'/\∀j p,(compactUpTo d d.size)[j]?=some p->w'.cell? (aD g j)=some (ae (R p)):=by
 have E:(∀j,j<d.size->keeps d j=true)->(compactUpTo d d.size)=d.toList:=λh=>by rw[compactUpTo_all d _ h,range_map_get]
 have F:=aa E;have c7:=aa hbk;have a2:=aa hinj;have HE:Hid (∀(wr:World) (i j n:Nat),But (λk=>k=g) w wr->i<d.size->j<d.size->d[i]!≠d[j]!->(binOp .eql 103 (ae (R d[i]!)) (ae (R d[j]!))).run prog (wr.drewN n)=.ok (.bool false) (wr.drewN n)/\(binOp .neq 103 (ae (R d[i]!)) (ae (R d[j]!))).run prog (wr.drewN n)=.ok (.bool true) (wr.drewN n)):=λwr i j n T hi m Y=>by
  obtain⟨n1,c3,t1,b1⟩:=hbk i hi;obtain⟨n2,b6,t2,b2⟩:=hbk j m;have hR:R d[i]!≠R d[j]!:=λh=>Y (hinj i j hi m h);exact⟨aF ((b1.but T n1).drewN n) ((b2.but T n2).drewN n) hR,Ms ((b1.but T n1).drewN n) ((b2.but T n2).drewN n) hR⟩
 by_cases h2:d.size<2
 ·have W:=aa hr;have d1:decide ((d.size:Int)<2)=true:=zv (by omega);go_enter func102,ntmps102;go_wp2_with fail;go_ret;have e:=F.out (λj m=>keeps_lt_one d j (by omega));rw[e];refine⟨by simp,But.refl _ _,λj p m=>?_⟩;have s:j<d.size:=by simpa using (zC.1 m).1
  have:=(W.cell j s).1;rw[getElem!_pos d j s]at this;rw[zB (by simpa using s)]at m;simp at m;rw[this,m]
 ·go_enter func102,ntmps102;have d1:decide ((d.size:Int)<2)=false:=zI (by omega);have W:=aa hr;go_wp2_with fail
  go_loopg [3] d.size (λgk s3 wr=>∃k:Nat,1<=k/\k<=d.size/\d.size-k<=gk/\s3=Vi k/\RowP w g R d wr/\∀j,j<k->keeps d j=true)
  case atStart=>exact⟨1,zA _,by omega,by omega,rfl,W,keeps_lt_one d⟩
  case round=>
   obtain⟨k,b0,hk,hg,rfl,c,o⟩:=hrel;have z:=aa c;have r:=aa o;by_cases M:k<d.size
   ·have d2:decide ((k:Int)<(d.size:Int))=true:=zv (by omega);obtain⟨N,f1⟩:=c.cell k M;obtain⟨U,f0⟩:=c.cell (k-1) (by omega);have b7:g<wr.heap.size:=eU N;have c4:IntKind.i64.wrap ((k:Int)-1)=((k-1:Nat):Int):=by rw[show (k:Int)-1=((k-1:Nat):Int) by omega];exact FK (by omega)
    have b3:(0:Int)<=((k-1:Nat):Int):=zK _;have c5:((k-1:Nat):Int)<(d.size:Int):=by omega
    have b5:k-1<d.size:=by omega
    by_cases l:d[k]! = d[k-1]!
    ·rw[l]at N;have O:=lI (R d[k-1]!);have B:=aa l;generalize hx:d[k-1]! = x at N U O;have HX:=aa hx;go_wp2_with fail
     go_quiet (fail)
     go_wp2_with fail
     go_loopg [3,5] d.size (λgk s3 s5 wx=>∃(f b:Nat) (J:Array Nat),s3=Vi f/\s5=Vi b/\1<=b/\k+b<=d.size/\d.size-(k+b)<=gk/\RowP w g R J wx/\CompInv d (k+b) f J)
     case atStart=>exact⟨k,1,d,rfl,rfl,zA _,by omega,by omega,z.drew _,CompInv.start r (keeps_neg (by omega) B)⟩
     case round=>
      obtain⟨f,b,J,rfl,rfl,h1,c2,a9,a,q⟩:=hrel;have b8:=q.lt;have c6:=q.size;have C:=aa a;have I:=aa q;by_cases G:k+b<d.size
      ·have d3:decide ((b:Int)<((d.size-k:Nat):Int))=true:=zv (by omega);obtain⟨K,fm⟩:=a.cell (k+b) (by omega);obtain⟨X,fp⟩:=a.cell (k+(b-1)) (by omega);obtain⟨ck,fk⟩:=a.cell f (by omega);rw[q.high (k+b) (by omega)]at K;rw[q.high (k+(b-1)) (by omega)]at X;have a7:=eU K;have a5:IntKind.i64.wrap ((b:Int)-1)=((b-1:Nat):Int):=by rw[show (b:Int)-1=((b-1:Nat):Int) by omega];exact FK (by omega)
       have a8:(0:Int)<=((b-1:Nat):Int):=zK _;have a1:((b-1:Nat):Int)<((d.size-k:Nat):Int):=by omega
       have a6:b-1<d.size-k:=by omega
       have a3:b<d.size-k:=by omega
       have Z:f<d.size:=by omega
       have Q:(f:Int)<(d.size:Int):=by omega
       by_cases A:d[k+b]! = d[k+(b-1)]!
       ·rw[A]at K;have D:=PE (R d[k+(b-1)]!);have H:=aa A;generalize hx:d[k+(b-1)]! = u at K X D;generalize J[f]! = old at ck;go_wp2_with fail
        go_quiet (fail)
        go_wp2_with fail
        go_roundg (d.size-(k+(b+1)))
        case measure=>omega
        case rel=>exact⟨f,b+1,J,rfl,by go_num,by omega,by omega,zA _,C.drew _,I.skip (keeps_neg (by omega) (by rw[H.out,show k+b-1=k+(b-1) by omega]))⟩
       ·have D:=λn=>(HE wr (k+b) (k+(b-1)) n a.but G (by omega) A).2;have H:=aa A;generalize hx:d[k+b]! = u at K D;generalize hy:d[k+(b-1)]! = v at X D;generalize J[f]! = old at ck;have HX:=aa hx;go_wp2_with fail
        go_quiet (fail)
        go_wp2_with fail
        go_roundg (d.size-(k+(b+1)))
        case measure=>omega
        case rel=>
         have hc:=I.keep G (keeps_pos (by rw[show k+b-1=k+(b-1) by omega];exact H));rw[HX.out]at hc;exact⟨f+1,b+1,_,by go_num,by go_num,by omega,by omega,zA _,(C.drew _).set (by omega),hc⟩
      ·have d3:decide ((b:Int)<((d.size-k:Nat):Int))=false:=zI (by omega);have P:k+b=d.size:=by omega
       have b4:∀V,(Builtin.clear_ #[110] V #[.slice (some (aD g f)) (d.size-f) (cap-f)]).run prog wr=.ok (.tuple #[]) (wr.setCells g f (List.replicate (d.size-f) (.pointer none))) :=
        λV=>Lib.run_clear_slice wr _ _ V _ underlying110 zeroValue103 rfl rfl g f _ _ (by omega) (λj m=>by rw[(a.cell (f+j) (by omega)).1];rfl) (λj m=>(a.cell (f+j) (by omega)).2)
       have Z:f<=d.size:=by omega
       have Q:(f:Int)<=(d.size:Int):=by omega
       have b9:(f:Int)<=(cap:Int):=by omega
       have a4:f<=cap:=by omega
       go_wp2_with fail;go_ret;have S:=I.out;rw[P]at S;refine⟨by rw[S.len];rfl,But.setCells_at g _ C.but rfl,λj p m=>?_⟩;have L:j<f:=by have:=(zC.1 m).1;rw[S.len]at this;exact this
       rw[S.low j L]at m;cases m;exact (kT _ _ _ L).trans (C.cell j (by omega)).1
    ·have O:=λn=>(HE wr k (k-1) n c.but M (by omega) l).1;have B:=aa l;generalize hx:d[k]! = x at N O;generalize hy:d[k-1]! = y at U O;go_wp2_with fail
     go_quiet (fail)
     go_wp2_with fail
     go_roundg (d.size-(k+1))
     case measure=>omega
     case rel=>
      refine⟨k+1,by omega,by omega,zA _,by go_num,z.drew _,λj m=>?_⟩;by_cases e:j=k
      ·subst e;exact keeps_pos B
      ·exact r j (by omega)
   ·have d2:decide ((k:Int)<(d.size:Int))=false:=zI (by omega);have a0:k=d.size:=by omega
    subst a0;go_wp2_with fail;go_ret;have e:=F.out r;rw[e];refine⟨by simp,z.but,λj p m=>?_⟩;have s:j<d.size:=by simpa using (zC.1 m).1
    have:=(z.cell j s).1;rw[getElem!_pos d j s]at this;rw[zB (by simpa using s)]at m;simp at m;rw[this,m]
