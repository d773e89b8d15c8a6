import Derived.Test.YtebnghmioamheaaGreatDoorM32
import Derived.Test.YtebnghmioamheaaGreatDoorM38
set_option maxHeartbeats 4000000
set_option maxRecDepth 100000
set_option linter.all false
namespace Go.Proofs.YtebnghmioamheaaGreatDoor
open Go.Shelf Go.RowKit Go.Lib Go.Sort Brm Tryz
variable {w:World}{b g:Nat}{R:Nat->Nat}{d:Array Nat}
theorem PE (a:Nat)(w:World):(binOp .neq 103 (Vp a) (Vp a)).run prog w=.ok (.bool false) w:=by
 obtain⟨j,b,_⟩:=tX;exact run_neq_ptr_same w _ underlying103 b
theorem Ms {a:Nat}{ca cb:LV}{ta tb:TypeId}(ha:ag w a ca ta)(hb:ag w b cb tb)(hne:a≠b):(binOp .neq 103 (Vp a) (Vp b)).run prog w=.ok (.bool true) w:=by
 have h:=aF ha hb hne;simp only[binOp,Sem.run_bind,Sem.run_pure]at h ⊢;cases he:(Op.equal 103 (Vp a) (Vp b)).run prog w with
 |ok v w'=>
  rw[he]at h;simp only[Result.andThen_ok,Result.ok.injEq,Value.bool.injEq]at h ⊢;exact⟨by rw[h.1];rfl,h.2⟩
 |_=>rw[he]at h;cases h
structure RowP (w:World)(g:Nat)(R:Nat->Nat)(d:Array Nat)(wr:World):Prop where
 but:But (λk=>k=g) w wr
 cell:∀j,j<d.size->wr.cell? (aD g j)=some (ae (R d[j]!))/\wr.frozen? (aD g j)=false
theorem RowP.set {wr:World}(h:RowP w g R d wr){k x:Nat}(hk:k<d.size):RowP w g R (d.setIfInBounds k x) (wr.setCell (aD g k) (ae (R x))):=by
 refine⟨h.but.setCell (p:=(aD g k)) (.inl rfl) _,λj b=>?_⟩;have a:j<d.size:=by simpa using b
 by_cases e:j=k
 ·subst e;rw[getElem!_set_same d j x hk];exact⟨World.cell?_setCell_same _ _ _ (h.cell j a).1,(World.frozen?_setCell _ _ _ _).trans (h.cell j a).2⟩
 ·rw[getElem!_set_other d k j x e];exact⟨(yy _ _ _ _ (by intro c;simp only[xK]at c;omega)).trans (h.cell j a).1,(World.frozen?_setCell _ _ _ _).trans (h.cell j a).2⟩
theorem RowP.drew {wr:World}(h:RowP w g R d wr)(n:Nat):RowP w g R d (wr.drewN n):=⟨⟨h.but.os,h.but.tape,h.but.output,h.but.size,h.but.block⟩,h.cell⟩
theorem eU {o:Nat}{v:Value}(h:w.cell? (aD b o)=some v):b<w.heap.size:=by
 rcases Nat.lt_or_ge b w.heap.size with a|a
 ·exact a
 ·simp[World.cell?,xI a]at h
theorem FK {n:Nat}(h:n<=9000000000000000):IntKind.i64.wrap (n:Int)=(n:Int):=by
 simp[IntKind.wrap,IntKind.bits,IntKind.signed];omega
theorem But.setCells_at {S:NP}{w:World}(b:Nat):∀(vs:LV) {o:Nat} {wr:World},But S w wr->S b->But S w (wr.setCells b o vs)
 | [],_,_,h,_=>h
 |v::vs,o,wr,h,hb=>by
  unfold World.setCells;exact But.setCells_at b vs (h.setCell (p:=(aD b o)) (.inl hb) v) hb
theorem kT {b j:Nat}:∀(vs:LV) (o:Nat) (wr:World),j<o->(wr.setCells b o vs).cell? (aD b j)=wr.cell? (aD b j)
 | [],_,_,_=>rfl
 |v::vs,o,wr,h=>by
  unfold World.setCells;rw[kT vs (o+1) _ (by omega)];exact yy _ _ _ _ (by intro a;simp only[xK]at a;omega)
theorem Ik (cap:Nat)(hr:RowP w g R d w)(hbk:∀j,j<d.size->R d[j]!≠g/\∃cs t,ag w (R d[j]!) cs t)(hinj:∀i j,i<d.size->j<d.size->R d[i]! = R d[j]!->d[i]! = d[j]!)(hsz:d.size<=9000000000000000)(hcap:d.size<=cap):Calls prog 102 #[Vs g d.size cap] w λe w'=>e=.returned (Vs g (compactUpTo d d.size).length cap)/\But (λk=>k=g) w w'/\∀j p,(compactUpTo d d.size)[j]?=some p->w'.cell? (aD g j)=some (ae (R p)):=by
 have F:(∀j,j<d.size->keeps d j=true)->(compactUpTo d d.size)=d.toList:=λh=>by rw[compactUpTo_all d _ h,range_map_get]
 have G:=aa F;have c3:=aa hbk;have a2:=aa hinj;have X:Hid (∀(wr:World) (i j n:Nat),But (λk=>k=g) w wr->i<d.size->j<d.size->d[i]!≠d[j]!->(binOp .eql 103 (ae (R d[i]!)) (ae (R d[j]!))).run prog (wr.drewN n)=.ok (.bool false) (wr.drewN n)/\(binOp .neq 103 (ae (R d[i]!)) (ae (R d[j]!))).run prog (wr.drewN n)=.ok (.bool true) (wr.drewN n)):=λwr i j n T hi l U=>by
  obtain⟨n1,a8,t1,b1⟩:=hbk i hi;obtain⟨n2,b4,t2,b2⟩:=hbk j l;have hR:R d[i]!≠R d[j]!:=λh=>U (hinj i j hi l h);exact⟨aF ((b1.but T n1).drewN n) ((b2.but T n2).drewN n) hR,Ms ((b1.but T n1).drewN n) ((b2.but T n2).drewN n) hR⟩
 by_cases h2:d.size<2
 ·have HR:=aa hr;have d1:decide ((d.size:Int)<2)=true:=zv (by omega);go_enter func102,ntmps102;go_wp2_with fail;go_ret;have e:=G.out (λj l=>keeps_lt_one d j (by omega));rw[e];refine⟨by simp,But.refl _ _,λj p l=>?_⟩;have s:j<d.size:=by simpa using (zC.1 l).1
  have:=(HR.cell j s).1;rw[getElem!_pos d j s]at this;rw[zB (by simpa using s)]at l;simp at l;rw[this,l]
 ·go_enter func102,ntmps102;have d1:decide ((d.size:Int)<2)=false:=zI (by omega);have HR:=aa hr;go_wp2_with fail
  go_loopg [3] d.size (λgk s3 wr=>∃k:Nat,1<=k/\k<=d.size/\d.size-k<=gk/\s3=Vi k/\RowP w g R d wr/\∀j,j<k->keeps d j=true)
  case atStart=>exact⟨1,zA _,by omega,by omega,rfl,HR,keeps_lt_one d⟩
  case round=>
   obtain⟨k,c5,hk,hg,rfl,c,o⟩:=hrel;have z:=aa c;have r:=aa o;by_cases L:k<d.size
   ·have d2:decide ((k:Int)<(d.size:Int))=true:=zv (by omega);obtain⟨N,f1⟩:=c.cell k L;obtain⟨c0,f0⟩:=c.cell (k-1) (by omega);have c2:g<wr.heap.size:=eU N;have c6:IntKind.i64.wrap ((k:Int)-1)=((k-1:Nat):Int):=by rw[show (k:Int)-1=((k-1:Nat):Int) by omega];exact FK (by omega)
    have b7:(0:Int)<=((k-1:Nat):Int):=zK _;have b8:((k-1:Nat):Int)<(d.size:Int):=by omega
    have b5:k-1<d.size:=by omega
    by_cases m:d[k]! = d[k-1]!
    ·rw[m]at N;have K:=lI (R d[k-1]!);have B:=aa m;generalize hx:d[k-1]! = x at N c0 K;have HX:=aa hx;go_wp2_with fail
     go_quiet (fail)
     go_wp2_with fail
     go_loopg [3,5] d.size (λgk s3 s5 wx=>∃(f b:Nat) (J:Array Nat),s3=Vi f/\s5=Vi b/\1<=b/\k+b<=d.size/\d.size-(k+b)<=gk/\RowP w g R J wx/\CompInv d (k+b) f J)
     case atStart=>exact⟨k,1,d,rfl,rfl,zA _,by omega,by omega,z.drew _,CompInv.start r (keeps_neg (by omega) B)⟩
     case round=>
      obtain⟨f,b,J,rfl,rfl,h1,b0,c4,a,q⟩:=hrel;have a9:=q.lt;have b3:=q.size;have C:=aa a;have H:=aa q;by_cases E:k+b<d.size
      ·have d3:decide ((b:Int)<((d.size-k:Nat):Int))=true:=zv (by omega);obtain⟨Q,fm⟩:=a.cell (k+b) (by omega);obtain⟨Y,fp⟩:=a.cell (k+(b-1)) (by omega);obtain⟨ck,fk⟩:=a.cell f (by omega);rw[q.high (k+b) (by omega)]at Q;rw[q.high (k+(b-1)) (by omega)]at Y;have a4:=eU Q;have a7:IntKind.i64.wrap ((b:Int)-1)=((b-1:Nat):Int):=by rw[show (b:Int)-1=((b-1:Nat):Int) by omega];exact FK (by omega)
       have a5:(0:Int)<=((b-1:Nat):Int):=zK _;have a1:((b-1:Nat):Int)<((d.size-k:Nat):Int):=by omega
       have a3:b-1<d.size-k:=by omega
       have a6:b<d.size-k:=by omega
       have V:f<d.size:=by omega
       have O:(f:Int)<(d.size:Int):=by omega
       by_cases A:d[k+b]! = d[k+(b-1)]!
       ·rw[A]at Q;have D:=PE (R d[k+(b-1)]!);have I:=aa A;generalize hx:d[k+(b-1)]! = u at Q Y D;generalize J[f]! = old at ck;go_wp2_with fail
        go_quiet (fail)
        go_wp2_with fail
        go_roundg (d.size-(k+(b+1)))
        case measure=>omega
        case rel=>exact⟨f,b+1,J,rfl,by go_num,by omega,by omega,zA _,C.drew _,H.skip (keeps_neg (by omega) (by rw[I.out,show k+b-1=k+(b-1) by omega]))⟩
       ·have D:=λn=>(X wr (k+b) (k+(b-1)) n a.but E (by omega) A).2;have I:=aa A;generalize hx:d[k+b]! = u at Q D;generalize hy:d[k+(b-1)]! = v at Y D;generalize J[f]! = old at ck;have HX:=aa hx;go_wp2_with fail
        go_quiet (fail)
        go_wp2_with fail
        go_roundg (d.size-(k+(b+1)))
        case measure=>omega
        case rel=>
         have hc:=H.keep E (keeps_pos (by rw[show k+b-1=k+(b-1) by omega];exact I));rw[HX.out]at hc;exact⟨f+1,b+1,_,by go_num,by go_num,by omega,by omega,zA _,(C.drew _).set (by omega),hc⟩
      ·have d3:decide ((b:Int)<((d.size-k:Nat):Int))=false:=zI (by omega);have P:k+b=d.size:=by omega
       have b9:∀W,(Builtin.clear_ #[110] W #[.slice (some (aD g f)) (d.size-f) (cap-f)]).run prog wr=.ok (.tuple #[]) (wr.setCells g f (List.replicate (d.size-f) (.pointer none))) :=
        λW=>Lib.run_clear_slice wr _ _ W _ underlying110 zeroValue103 rfl rfl g f _ _ (by omega) (λj l=>by rw[(a.cell (f+j) (by omega)).1];rfl) (λj l=>(a.cell (f+j) (by omega)).2)
       have V:f<=d.size:=by omega
       have O:(f:Int)<=(d.size:Int):=by omega
       have b6:(f:Int)<=(cap:Int):=by omega
       have a0:f<=cap:=by omega
       go_wp2_with fail;go_ret;have S:=H.out;rw[P]at S;refine⟨by rw[S.len];rfl,But.setCells_at g _ C.but rfl,λj p l=>?_⟩;have M:j<f:=by have:=(zC.1 l).1;rw[S.len]at this;exact this
       rw[S.low j M]at l;cases l;exact (kT _ _ _ M).trans (C.cell j (by omega)).1
    ·have K:=λn=>(X wr k (k-1) n c.but L (by omega) m).1;have B:=aa m;generalize hx:d[k]! = x at N K;generalize hy:d[k-1]! = y at c0 K;go_wp2_with fail
     go_quiet (fail)
     go_wp2_with fail
     go_roundg (d.size-(k+1))
     case measure=>omega
     case rel=>
      refine⟨k+1,by omega,by omega,zA _,by go_num,z.drew _,λj l=>?_⟩;by_cases e:j=k
      ·subst e;exact keeps_pos B
      ·exact r j (by omega)
   ·have d2:decide ((k:Int)<(d.size:Int))=false:=zI (by omega);have Z:k=d.size:=by omega
    subst Z;go_wp2_with fail;go_ret;have e:=G.out r;rw[e];refine⟨by simp,z.but,λj p l=>?_⟩;have s:j<d.size:=by simpa using (zC.1 l).1
    have:=(z.cell j s).1;rw[getElem!_pos d j s]at this;rw[zB (by simpa using s)]at l;simp at l;rw[this,l]
