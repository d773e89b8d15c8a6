import Derived.Test.YtebnghmioamheaaGreatDoorM06
import Derived.Test.YtebnghmioamheaaGreatDoorM14
set_option maxHeartbeats 1000000
set_option maxRecDepth 100000
set_option linter.all false
namespace Go.Proofs.YtebnghmioamheaaGreatDoor
open Go.Shelf Go.RowKit Go.Lib Go.Sort Tryz
variable {w:World}{B g cap k:Nat}{l S:LQ}
def lr (x:Int×Int):List Value:=[Vi x.1,Vi x.2]
theorem DH (x y:Int×Int):ltOf (λx y:Int×Int=>Lib.compareInt x.1 y.1) x y=decide (x.1<y.1):=by
 unfold ltOf Lib.compareInt;by_cases a:x.1<y.1
 ·simp[a]
 ·by_cases b:y.1<x.1<;>simp[a,b]
theorem Xt:SWO (ltOf λx y:Int×Int=>Lib.compareInt x.1 y.1):={
 irrefl:=λx=>by rw[DH];simp
 trans:=λx y z a b=>by rw[DH]at *;simp at *;omega
 ntrans:=λx y z a b=>by rw[DH]at *;simp at *;omega }
theorem Hm (x y:Int×Int)(W:World):Calls prog 245 #[.agg #[Vi x.1,Vi x.2],.agg #[Vi y.1,Vi y.2]] W λe w'=>e=.returned (Vi (Lib.compareInt x.1 y.1))/\∃q os',w'=grow (W.drewN q) os':=by
 have a:=λb=>AnyG.cmp_Compare_int vF x.1 y.1 b;change ∀b,Calls prog 101 _ _ _ at a;generalize Lib.compareInt x.1 y.1=r at a ⊢;go_enter func245,ntmps245;go_wp2_with (go_at_call 101;refine (a _).mono ?_;rintro e w' ⟨rfl,rfl⟩);go_ret;exact⟨rfl,0,_,by rw[alloc_eq_grow,alloc_eq_grow,grow_grow];rfl⟩
theorem Fa (l:LQ)(t:Nat)(h:t<l.length*2):(aE l)[t]?=some ((flatK lr 2 l.toArray)[t]!):=by
 rw[get_flatK lr 2 l.toArray t (by simpa using h)];have a:t / 2<l.length:=by omega
 have c:l[t / 2]?=some l[t / 2]:=zB a;have e:l.toArray[t / 2]! = l[t / 2]:=by simp[getElem!_pos,a]
 rw[e];have:=jh c;rcases Nat.mod_two_eq_zero_or_one t with b|d
 ·rw[b];rw[show t / 2*2=t from by omega]at this;rw[this.1];rfl
 ·rw[d];rw[show t / 2*2+1=t from by omega]at this;rw[this.2];rfl
theorem OF (h:w.ownsRow B 92 2 (Vs g l.length cap) l.length (aE l)):HoldsK lr 2 w g 0 l.toArray:=by
 intro j b;have a:j<l.length*2:=by simpa using b
 refine⟨?_,by rw[zf];exact h.frozenAt j⟩;rw[zf,h.cellAt j a,Fa l j a];rfl
theorem Lx {q:Nat}{os:Array Obj}{l':LQ}(h:w.ownsRow B 92 2 (Vs g l.length cap) l.length (aE l))(hl:l'.length=l.length):(sortWorldK lr 2 w g 0 q l'.toArray os).ownsRow B 92 2 (Vs g l'.length cap) l'.length (aE l')/\Below B w (sortWorldK lr 2 w g 0 q l'.toArray os):=by
 rcases h.2 with⟨e,_⟩|⟨t,f,a,e,m,i,p,o,n,r⟩
 ·cases e
 ·injection e with e1 _ e3;injection e1 with e1;injection e1 with e1;subst e1;subst e3;have c:g<w.heap.size:=(h.lt g rfl).2;constructor
  ·refine⟨dK l',.inr ⟨g,cap,putCells id 0 (flatK lr 2 l'.toArray) a,rfl,m,?_,by omega,o,by simpa [putCells]using n,?_⟩⟩
   ·simp only[sortWorldK,grow,putRowK,putRow,mapBlock,Sort.ahead];rw[Array.getElem?_append_left (by simpa using c),Array.getElem?_modify,zX rfl,i];rfl
   ·apply List.ext_getElem?;intro j;rw[List.getElem?_take,Array.getElem?_toList];by_cases b:j<l'.length*2
    ·have d:j<a.size:=by omega
     simp only[zX b,putCells,Array.getElem?_mapIdx,Array.getElem?_eq_getElem d,yw];rw[zX (by simp;omega),Fa l' j b];simp
    ·rw[zR b,List.getElem?_eq_none (by rw[dK];omega)]
  ·refine⟨rfl,rfl,rfl,by simp[sortWorldK,grow,putRowK,putRow,mapBlock,Sort.ahead],λk s=>?_⟩;simp only[sortWorldK,grow,putRowK,putRow,mapBlock,Sort.ahead];rw[Array.getElem?_append_left (by simp;omega),Array.getElem?_modify,zR (by omega)]
theorem OG (l:LQ)(g cap B:Nat)(w:World)(h:w.ownsRow B 92 2 (Vs g l.length cap) l.length (aE l))(hlen:l.length<=1000000):Calls prog 244 #[Vs g l.length cap,Vf 245 #[]] w λe w'=>e=.returned (.tuple #[])/\∃l',l'.Perm l/\l'.Pairwise (λx y=>x.1<=y.1) /\
   w'.ownsRow B 92 2 (Vs g l'.length cap) l'.length (aE l')/\Below B w w':=by
 have u:∀args w,(callFunc 245 args).run prog w=.ok (.enter 245 args) w:=enters_of func245 (by kernel_rfl) rfl;have b:=AnyQ.slices_SortFunc AN 2 isAgg92 sizeOf92 lr (λ_=>rfl) (λx v r=>by simp[lr]at r;rcases r with rfl|rfl<;>rfl) (λx y=>Lib.compareInt x.1 y.1) Xt 245 #[] g 0 cap l.toArray w u
  (λ_ _ _ _ x y=>Hm x y _) (OF h) (h.lt g rfl).2 (by simp;omega)
 change Calls prog 244 _ _ _ at b;simp only[List.size_toArray]at b;refine b.mono ?_;rintro e w' ⟨C,c,n,os,s,t,rfl⟩;obtain⟨m,_,a⟩:=s;have d:c.size=l.length:=by simpa using m
 have f:c.toList.length=l.length:=by simpa using d
 refine⟨C,c.toList,?_,?_,?_⟩
 ·have A:c.extract 0 l.length=c:=by rw[<-d];simp
  have z:l.toArray.extract 0 l.length=l.toArray:=by simp
  rw[A,z]at a;simpa using a
 ·rw[yX];intro i j E D k;have:=t i j (zW _) k (by omega);rw[DH]at this;simp only[yr]at this;have o:i<c.size:=by omega
  have p:j<c.size:=by omega
  rw[getElem!_pos c i o,getElem!_pos c j p]at this;simp only[Array.getElem_toList];omega
 ·have:=Lx (q:=n) (os:=os) (l':=c.toList) h f;simpa using this
theorem RZ (l:LQ)(v:Value)(B:Nat)(w:World)(h:w.ownsRow B 92 2 v l.length (aE l))(hlen:l.length<=1000000):Calls prog 244 #[v,Vf 245 #[]] w λe w'=>e=.returned (.tuple #[])/\∃l',l'.Perm l/\l'.Pairwise (λx y=>x.1<=y.1)/\w'.ownsRow B 92 2 v l'.length (aE l')/\Below B w w':=by
 rcases h.2 with⟨rfl,j⟩|⟨g,b,n,rfl,_⟩
 ·have m:l=[]:=zq.1 j;subst m;have a:=AnyF.slices_SortFunc_none AN none 0 (Vf 245 #[]) w;change Calls prog 244 _ _ _ at a;refine a.mono ?_;rintro e w' ⟨c,rfl⟩;exact⟨c,[],List.Perm.refl _,by simp,h,zE _ _⟩
 ·refine (OG l g b B w h hlen).mono ?_;rintro e w' ⟨c,l',d,i,f,k⟩;refine⟨c,l',d,i,?_,k⟩;rw[d.length_eq]at f ⊢;exact f
def BO (S out:List (Int×Int))(k:Nat):Prop :=
 Brm.Canon out/\(∀r,Brm.runeB r=true->Brm.memB out r=Brm.memB (S.take k) r)/\(∀x∈out,∀y∈S.drop k,x.1<=y.1)/\out.length<=k
theorem Gh {out:LQ}{x:Int×Int}(h:BO S out k)(hx:S[k]?=some x)(hs:S.Pairwise λx y=>x.1<=y.1)(g:Brm.Good x)
  (hn:out=[]\/∃p last,out=p++[last]/\Brm.after last.2<x.1):BO S (out++[x]) (k+1):=by
 obtain⟨j,i,e,m⟩:=h;have b:=Brm.form_new j i g hn;have f:S.take (k+1)=S.take k++[x]:=by rw[zi,hx];rfl
 refine⟨b.1,λr l=>by rw[b.2 r l,f],λz a y d=>?_,by simp;omega⟩;have c:=oK hx;rcases zM.1 a with a|a
 ·exact e z a y (by rw[c];exact yj _ d)
 ·simp at a;subst a;have:=(yA.1 ((zj k S).symm▸hs)).2.1;rw[c]at this;exact (yg.1 this).1 y d
theorem Qa {p:LQ}{x last:Int×Int}(h:BO S (p++[last]) k)(hx:S[k]?=some x)(g:Brm.Good x)(hj:x.1<=Brm.after last.2):BO S (p++[(last.1,max last.2 x.2)]) (k+1):=by
 obtain⟨l,j,b,n⟩:=h;have c:=oK hx;have i:last.1<=x.1:=b last (by simp) x (by rw[c];simp);have d:=Brm.form_join l j g i hj;have f:S.take (k+1)=S.take k++[x]:=by rw[zi,hx];rfl
 refine⟨d.1,λr m=>by rw[d.2 r m,f],λz a y e=>?_,by simp at n ⊢;omega⟩;rcases zM.1 a with a|a
 ·exact b z (by simp[a]) y (by rw[c];exact yj _ e)
 ·simp at a;subst a;exact b last (by simp) y (by rw[c];exact yj _ e)
theorem TD {out:LQ}(h:BO S out k)(hk:S.length<=k)(hp:S.Perm (Brm.runes l))(hok:∀x∈l,Brm.okB x=true):Brm.IsForm l out :=
 ⟨h.1,λr a=>by rw[h.2.1 r a,yF hk,Brm.perm_mem hp,Brm.runes_mem l r hok a]⟩
theorem MH (p:LQ)(x1 x2 y:Int):(aE (p++[(x1,x2)])).set (p.length*2+1) (Vi y)=aE (p++[(x1,y)]):=by
 rw[fz,fz,List.set_append_right _ _ (by rw[dK];omega),dK];simp[aE]
theorem TE {n:Nat}{v:Value}{xs:LV}(h:w.ownsRow B 92 2 v (n+1) xs):∃g cap,v=Vs g (n+1) cap/\B<=g/\g<w.heap.size:=by
 have b:=h;rcases h.2 with⟨_,c⟩|⟨g,cap,a,rfl,_⟩
 ·omega
 ·exact⟨g,cap,rfl,b.lt g rfl⟩
theorem TF {q:Nat}{p:LQ}{l1 l2 y:Int}{o:Obj}(h:w.ownsRow B 92 2 (Vs g (p.length+1) cap) (p.length+1) (aE (p++[(l1,l2)]))):(((w.alloc o).drewN q).setCell ⟨g,p.length*2+1,none⟩ (Vi y)).ownsRow B 92 2 (Vs g (p.length+1) cap) (p++[(l1,y)]).length (aE (p++[(l1,y)])):=by
 have b:((w.alloc o).drewN q).ownsRow B 92 2 (Vs g (p.length+1) cap) (p.length+1) (aE (p++[(l1,l2)])):=h.alloc o;have a:=(b.stored (p.length*2+1) (Vi y)).1;rw[MH]at a;simpa using a
theorem TG:wH:=by
 intro ao l W w t L J;obtain⟨i0,hi,I,R,M⟩:=zz fe;have HR:=aa (DB W t L);have O:=Brm.runes_length l;have HG:=aa (Brm.runes_good l);have a2:=aa J;go_enter func233,ntmps233;go_wp2_with fail;refine HR.mono ?_;rintro e w1 ⟨v1,rfl,C,m⟩;go_wp2_with fail;refine (RZ _ v1 _ w1 C (by omega)).mono ?_;rintro e K ⟨rfl,S,r,B,A,s⟩;obtain⟨a6,a3,rfl,Z,G⟩:=nG A;have HC:=aa G;have HP:=aa r;have HS:=aa B;have b0:S.length<=l.length:=by rw[r.length_eq];exact O
 go_wp2
 go_loopw [4,14] (λv i wr=>∃(k:Nat) (u:List (Int×Int)),k<=S.length/\i=Vi k/\BO S u k/\wr.ownsRow K.heap.size 92 2 v u.length (aE u)/\Bw K wr) (λ_ i _=>S.length-(intOf i).toNat)
 case atStart=>exact⟨0,[],zW _,rfl,⟨Brm.canon_nil,λ_ _=>rfl,by simp,by simp⟩,zZ _ _ _ _,zE _ _⟩
 case round=>
  obtain⟨k,u,hk,rfl,z,f,j⟩:=hrel;have a9:=j.size;have Y:=z.2.2.2;have Q:=aa z;by_cases T:k<S.length
  ·obtain⟨b,a7,rfl,hb,h1,h2⟩:=HC.out k S[k] (zB T);generalize hx:S[k]=x at h1 h2;have V:Hid (S[k]?=some x):=by rw[zB T,hx];rfl
   have H:=aa (HG x (HP.mem_iff.1 (zU V)));obtain⟨E,D⟩:=x;simp only at h1 h2;rw[<-j.cell (p:=⟨b,_,none⟩) hb]at h1 h2;rcases List.eq_nil_or_concat u with rfl|⟨p,P,rfl⟩
   ·obtain⟨a0,F,rfl,_,_⟩:=nG f;go_wp2_with fail;have hg:decide ((-1:Int)≥0)=false:=rfl
    go_quiet (fail)
    go_wp2_with (at_builtin;refine yD _ rfl _ _ 24 rfl K.heap.size 92 i0 (.agg #[Vi 0,Vi 0]) 2 16 underlying24 hi I R M rfl (by decide) _ _ _ rfl ((f.alloc _).alloc _) (aD (wr.heap.size+1) 0) 1 1 [Vi E,Vi D] rfl rfl (iZ _ _ _ _) (et _ _) (by unfold maxLen;omega) (by omega) (by simp;omega) ?_;intro v' w3 q n _);have R1:=fW (c:=[]++[(E,D)]) (y:=(E,D)) q rfl;have R2:=Below.keep (aR ((j.alloc (by omega) _).alloc (by simp;omega) _)) (by simp;omega) ((f.alloc _).alloc _) n
    go_roundw
    case rel=>exact⟨k+1,[]++[(E,D)],by omega,by go_num,Gh Q V HS H (.inl rfl),R1,R2⟩
    case measure=>simp[intOf];omega
   ·obtain⟨h,d⟩:=P;have a4:p.length+1<=k:=by simpa using Y
    simp only[List.concat_eq_append,zH,zG,zh,zf]at *;obtain⟨g,F,rfl,X,U⟩:=TE f;have a5:wr.cell? ⟨g,p.length*2+1,none⟩=some (Vi d):=by
     rw[f.cellAt _ (by omega)];exact (jh (x:=(h,d)) (by simp)).2
    have a8:wr.frozen? ⟨g,p.length*2+1,none⟩=false:=f.frozenAt _;have e1:∀o c,(wr.alloc o).cell? (aD g c)=wr.cell? (aD g c):=λo c=>wI o c U;have e2:∀o c,(wr.alloc o).frozen? (aD g c)=wr.frozen? (aD g c):=λo c=>Aa o c U;have a1:=aa (Q.1.1 (h,d) (by simp));have N:=(Brm.rune_iff _).1 a1.2.1;simp only at N;have q1:0<=d:=by omega
    have q2:d<=1114111:=by omega
    by_cases hj:E<=Brm.after d
    ·go_wp2_with fail
     go_quiet ((go_at_call 64;exact Calls.quiet_of_same (mi _ _ (by omega) (by omega))))
     go_wp2_with fail
     go_region
     go_wp2
     go_roundw
     case rel=>exact⟨k+1,p++[(h,max d D)],by omega,by go_num,Qa Q V H hj,TF f,(aR (j.alloc (by omega) _)).setCell X _⟩
     case measure=>simp[intOf];omega
    ·have HJ:=aa hj;go_wp2_with fail
     go_quiet ((go_at_call 64;exact Calls.quiet_of_same (mi _ _ (by omega) (by omega))))
     go_wp2_with (at_builtin;refine yD _ rfl _ _ 24 rfl K.heap.size 92 i0 (.agg #[Vi 0,Vi 0]) 2 16 underlying24 hi I R M rfl (by decide) _ _ _ rfl ((f.alloc _).alloc _) (aD (wr.heap.size+1) 0) 1 1 [Vi E,Vi D] rfl rfl (iZ _ _ _ _) (et _ _) (by unfold maxLen;omega) (by omega) (by simp;omega) ?_;intro v' w3 q n _);have R1:=fW (c:=(p++[(h,d)])++[(E,D)]) (a:=p++[(h,d)]) (y:=(E,D)) (by simpa using q) rfl;have R2:=Below.keep (aR ((j.alloc (by omega) _).alloc (by simp;omega) _)) (by simp;omega) ((f.alloc _).alloc _) n
     go_roundw
     case rel=>exact⟨k+1,(p++[(h,d)])++[(E,D)],by omega,by go_num,Gh Q V HS H (.inr ⟨p,(h,d),rfl,by have:=HJ.out;simp only;omega⟩),R1,R2⟩
     case measure=>simp[intOf];omega
  ·obtain⟨a0,F,rfl,_,_⟩:=nG f;go_wp2;go_ret;exact⟨_,rfl,u,⟨TD Q (by omega) HP a2,by omega⟩,iT f (zJ m.size s.size),(m.trans s).trans (j.mono (zJ m.size s.size))⟩
