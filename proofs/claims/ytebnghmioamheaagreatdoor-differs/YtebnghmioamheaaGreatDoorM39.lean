import Derived.Test.YtebnghmioamheaaGreatDoorM38
import Derived.Test.YtebnghmioamheaaGreatDoorM15
set_option maxHeartbeats 1000000
set_option maxRecDepth 100000
set_option linter.all false
namespace Go.Proofs.YtebnghmioamheaaGreatDoor
open Go.Shelf Go.RowKit Go.Lib Go.Sort Brm Tryz
variable {N:Nat}
abbrev nB (N:Nat):={p:Nat // p<N}
theorem DI (x y:nB N):ltOf (λx y:nB N=>Lib.compareInt (x.1:Int) (y.1:Int)) x y=decide (x.1<y.1):=by
 unfold ltOf Lib.compareInt;by_cases a:x.1<y.1
 ·have:(x.1:Int)<(y.1:Int):=by omega
  simp[a,this]
 ·have b:¬(x.1:Int)<(y.1:Int):=by omega
  by_cases c:(y.1:Int)<(x.1:Int)<;>simp[a,c,b]
theorem Xu (N:Nat):SWO (ltOf λx y:nB N=>Lib.compareInt (x.1:Int) (y.1:Int)):={
 irrefl:=λx=>by rw[DI];simp
 trans:=λx y z a b=>by rw[DI]at *;simp at *;omega
 ntrans:=λx y z a b=>by rw[DI]at *;simp at *;omega }
theorem Ho (a b:Nat)(x y:Int)(W:World)(ha:W.cell? (aD a 0)=some (Vi x))(hb:W.cell? (aD b 0)=some (Vi y)):Calls prog 100 #[ae a,ae b] W λe w'=>e=.returned (Vi (Lib.compareInt x y))/\∃q os',w'=grow (W.drewN q) os':=by
 have c:=λd=>AnyG.cmp_Compare_int vF x y d;change ∀d,Calls prog 101 _ _ _ at c;have f:=eU ha;have g:=eU hb;generalize Lib.compareInt x y=r at c ⊢;go_enter func100,ntmps100;go_wp2_with fail
 go_quiet (first|(go_at_call 101;refine Calls.quiet_of_same (c _)))
 all_goals go_wp2_with fail
 all_goals go_ret
 all_goals exact⟨rfl,_,#[],(grow_empty _).symm⟩
theorem rS {α:Type}[Inhabited α](enc:α->Value)(w:World)(g n:Nat)(d:Array α)(os:Array Obj):But (λk=>k=g) w (sortWorld enc w g 0 n d os):=by
 refine⟨rfl,rfl,rfl,by simp[sortWorld,grow,putRow,mapBlock,Sort.ahead],λk b a=>?_⟩;simp only[sortWorld,grow,putRow,mapBlock,Sort.ahead];rw[Array.getElem?_append_left (by simp;omega),Array.getElem?_modify,zR (λe=>a e.symm)]
def xV (l:List Nat)(hl:∀a∈l,a<N):List (nB N):=l.attach.map λp=>⟨p.1,hl p.1 p.2⟩
theorem xW (l:List Nat)(hl:∀a∈l,a<N):(xV l hl).map Subtype.val=l:=by
 unfold xV;rw[List.map_map];simp[Function.comp_def]
theorem Dq {R:Nat->Nat}(N:Nat)(l:List Nat)(hl:∀a∈l,a<N){g:Nat}(cap:Nat){w:World}(h0:0<N)(hN:∀p,p<N->w.cell? (aD (R p) 0)=some (Vi (p:Int))/\R p≠g)(hrow:RowP w g R l.toArray w)(hg:g<w.heap.size)(hlen:l.length<=9000000000000000):Calls prog 99 #[Vs g l.length cap,Vf 100 #[]] w λe w'=>e=.returned (.tuple #[])/\∃l':List Nat,l'.Perm l/\l'.Pairwise (λx y=>x<=y)/\RowP w g R l'.toArray w':=by
 haveI:Inhabited (nB N):=⟨⟨0,h0⟩⟩
 have c:=xW l hl;generalize xV l hl=ns at c;have k:ns.length=l.length:=by rw[<-c];simp
 have P:∀args w,(callFunc 100 args).run prog w=.ok (.enter 100 args) w:=enters_of func100 (by kernel_rfl) rfl;have H:Holds (λx:nB N=>ae (R x.1)) w g 0 ns.toArray:=by
  intro j u;have t:j<ns.length:=by simpa using u
  have b:j<l.length:=by omega
  rw[zf];obtain⟨q,r⟩:=hrow.cell j (by simpa using b);refine⟨?_,r⟩;rw[q];have s:l.toArray[j]! = l[j]:=by simp[getElem!_pos,b]
  have B:ns.toArray[j]! = ns[j]:=by simp[getElem!_pos,t]
  have M:ns[j].1=l[j]:=by
   have:(ns.map Subtype.val)[j]'(by simpa using t)=l[j]:=by simp only[c]
   simpa using this
  rw[s,B];show _=some (ae (R ns[j].1))
  rw[M]
 have v:CmpLays1 prog 100 #[] (λx:nB N=>ae (R x.1)) (λx y=>Lib.compareInt (x.1:Int) (y.1:Int)) g 0 ns.toArray.size w:=by
  intro m A I G x y;have O:=rS (λx:nB N=>ae (R x.1)) w g m I A;have F:∀z:nB N,(sortWorld (λx:nB N=>ae (R x.1)) w g 0 m I A).cell? (aD (R z.1) 0)=some (Vi (z.1:Int)):=λz=>by
   obtain⟨q,r⟩:=hN z.1 z.2;exact (O.cell (p:=(aD (R z.1) 0)) (eU q) r).trans q
  exact Ho (R x.1) (R y.1) x.1 y.1 _ (F x) (F y)
 have f:=Any.slices_SortFunc Mf (λx:nB N=>ae (R x.1)) (λ_=>rfl) (λx y=>Lib.compareInt (x.1:Int) (y.1:Int)) (Xu N) 100 #[] g 0 cap ns.toArray w P v H hg (by simp;omega);change Calls prog 99 _ _ _ at f;simp only[List.size_toArray,k]at f;refine f.mono ?_;rintro e w' ⟨L,d,n,A,J,G,rfl⟩;obtain⟨C,_,h⟩:=J;have o:d.size=l.length:=by simpa [k]using C
 refine⟨L,d.toList.map Subtype.val,?_,?_,rS _ _ _ _ _ _,λj u=>?_⟩
 ·have s:d.extract 0 l.length=d:=by rw[<-o];simp
  have B:ns.toArray.extract 0 l.length=ns.toArray:=by rw[<-k];simp
  rw[s,B]at h;have:=h.map Subtype.val;simpa [c]using this
 ·rw[yX];intro i j K u E;have D:i<d.size:=by simpa using K
  have b:j<d.size:=by simpa using u
  have:=G i j (zW _) E (by omega);rw[DI]at this;simp only[yr]at this;rw[getElem!_pos d i D,getElem!_pos d j b]at this;simp only[List.getElem_map,Array.getElem_toList];omega
 ·have b:j<d.size:=by simpa using u
  obtain⟨q,r⟩:=holds_sortWorld (λx:nB N=>ae (R x.1)) w g 0 n ns.toArray d A hg H (by simp[o,k]) j b;rw[zf]at q r;refine⟨?_,r⟩;rw[q,getElem!_pos d j b];have s:(d.toList.map Subtype.val).toArray[j]! = d[j].1:=by simp[getElem!_pos,b]
  rw[s]
theorem xX (d:Array Nat):∀m,m<=d.size->∀x,x∈compactUpTo d m↔∃j,j<m/\d[j]! = x:=by
 intro m
 induction m with
 |zero=>intro _ x;simp[compactUpTo]
 |succ m ih=>
  intro c x;rw[compactUpTo_succ,zM,ih (by omega)];constructor
  ·rintro (⟨j,b,rfl⟩|h)
   ·exact⟨j,by omega,rfl⟩
   ·by_cases a:keeps d m
    ·rw[zX a]at h;simp at h;exact⟨m,by omega,h.symm⟩
    ·rw[zR a]at h;simp at h
  ·rintro⟨j,b,rfl⟩;by_cases e:j=m
   ·subst e;by_cases a:keeps d j
    ·right;rw[zX a];simp
    ·left
     have:¬(j=0\/d[j]!≠d[j-1]!):=by simpa [keeps]using a
     have f:j≠0:=λh=>this (.inl h);exact⟨j-1,by omega,(Classical.not_not.1 (λh=>this (.inr h))).symm⟩
   ·exact .inl ⟨j,by omega,rfl⟩
theorem Dr (d:Array Nat)(hs:∀i j,i<=j->j<d.size->d[i]!<=d[j]!):(compactUpTo d d.size).Pairwise (·<·):=by
 unfold compactUpTo;rw[List.pairwise_map];have e:(List.range d.size).Pairwise (·<·):=List.pairwise_lt_range;rw[List.pairwise_filter];refine e.imp_of_mem ?_;intro i j n f g k b;have a:=List.mem_range.1 f;have c:d[j]!≠d[j-1]!:=by
  have:j=0\/d[j]!≠d[j-1]!:=by simpa [keeps]using b
  rcases this with h|h
  ·omega
  ·exact h
 have m:=hs i (j-1) (by omega) (by omega);have l:=hs (j-1) j (by omega) a;omega
theorem Lz {l:List Nat}(h:l.Pairwise (λx y=>x<=y)):∀i j,i<=j->j<l.toArray.size->l.toArray[i]!<=l.toArray[j]!:=by
 intro i j f d;have a:j<l.length:=by simpa using d
 have b:i<l.length:=by omega
 have c:l.toArray[i]! = l[i]:=by simp[getElem!_pos,b]
 have g:l.toArray[j]! = l[j]:=by simp[getElem!_pos,a]
 rw[c,g];by_cases e:i=j
 ·subst e;exact zA _
 ·exact yX.1 h i j b a (by omega)
theorem wC (l:List Nat)(x:Nat):x∈compactUpTo l.toArray l.toArray.size↔x∈l:=by
 rw[xX _ _ (zA _)];constructor
 ·rintro⟨j,b,rfl⟩;have a:j<l.length:=by simpa using b
  have c:l.toArray[j]! = l[j]:=by simp[getElem!_pos,a]
  rw[c];exact xE a
 ·intro h;obtain⟨j,b,rfl⟩:=List.getElem_of_mem h;exact⟨j,by simpa using b,by simp[getElem!_pos,b]⟩
