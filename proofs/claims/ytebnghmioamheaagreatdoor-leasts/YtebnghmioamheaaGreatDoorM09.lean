import Derived.Deep.DeepCutAuto
import Derived.Lib.MinMax
import Derived.Test.YtebnghmioamheaaGreatDoorM07
import Derived.Test.YtebnghmioamheaaGreatDoorM08
set_option maxHeartbeats 1000000
set_option maxRecDepth 100000
set_option linter.all false
namespace Go.Proofs.YtebnghmioamheaaGreatDoor
open Go.RowKit Tryz
variable {w:World}{B k:Nat}{v:Value}{l:LQ}{x1:Int}{A:NP}
def Sl (w:World)(v:Value)(l:List (Int×Int)):Prop :=
 (v=Vz/\l=[])\/∃b off cap,v=.slice (some (aD b off)) l.length cap/\l.length<=cap/\b<w.heap.size/\Rd w (some (aD b off)) l
theorem Xw (h:w.ownsRow B 92 2 v l.length (aE l)):Sl w v l:=by
 have b:=h;obtain⟨n,a,rfl,j,i⟩:=nG h;rcases b.2 with⟨e,f⟩|⟨g,c,d,e,k,m,_⟩
 ·exact .inl ⟨e,zq.1 f⟩
 ·injection e with e1 _ e3;subst e1;subst e3;exact .inr ⟨g,0,a,rfl,j,(b.lt g rfl).2,i⟩
theorem Sl.rd (h:Sl w v l):∃ao cap,v=.slice ao l.length cap/\Rd w ao l/\(ao=none->cap=0):=by
 rcases h with⟨rfl,rfl⟩|⟨b,e,cap,rfl,f,d,a⟩
 ·exact⟨none,0,rfl,λi x c=>by simp at c,λ_=>rfl⟩
 ·exact⟨_,cap,rfl,a,λh=>by cases h⟩
def jR (l:List (Int×Int))(k:Nat)(x1:Int):Bool:=match l[k]? with|some y=>decide (y.2+1<x1)|none=>false
def jS (l:List (Int×Int))(k:Nat)(x2:Int):Bool:=match l[k]? with|some y=>decide (y.1<=x2+1)|none=>false
theorem VH {n:Nat}{W w3:World}{xs:LV}{o:Obj}(h:W.ownsRow (B+1) 92 2 v n xs)(hB:B<W.heap.size)(hg:(W.alloc o).grownBy w3 v.ownBlock):(∀j,w3.cell? (aD B j)=W.cell? (aD B j))/\∀j,w3.frozen? (aD B j)=W.frozen? (aD B j):=by
 have a:∀j,some ((aD B j):Addr).block≠v.ownBlock:=λj e=>by have:=(h.lt _ e.symm).1;simp only at this;omega
 refine⟨λj=>?_,λj=>?_⟩
 ·rw[hg.cell_far (aD B j) (by simp;omega) (a j)];exact wI o j hB
 ·rw[hg.frozen_far (aD B j) (by simp;omega) (a j)];exact Aa o j hB
theorem Sp {y:Int×Int}(h:∀z∈l.take k,z.2+1<x1)(hy:l[k]?=some y)(hlt:y.2+1<x1):∀z∈l.take (k+1),z.2+1<x1:=by
 intro z a;rw[zi,hy]at a;rcases zM.1 a with a|a
 ·exact h z a
 ·simp at a;subst a;exact hlt
theorem LF (h:jR l k x1=true):∃y,l[k]?=some y/\y.2+1<x1:=by
 unfold jR at h
 split at h
 ·rename_i y hy;exact⟨y,hy,by simpa using h⟩
 ·cases h
theorem Hs (h:jR l k x1=false):∀y,l[k]?=some y->x1<=y.2+1:=by
 intro y a;unfold jR at h;rw[a]at h;simp at h;omega
theorem LG {x2:Int}(h:jS l k x2=true):∃y,l[k]?=some y/\y.1<=x2+1:=by
 unfold jS at h
 split at h
 ·rename_i y hy;exact⟨y,hy,by simpa using h⟩
 ·cases h
theorem Ht {x2:Int}(h:jS l k x2=false):∀y,l[k]?=some y->x2+1<y.1:=by
 intro y a;unfold jS at h;rw[a]at h;simp at h;omega
theorem Jq {b o na i:Nat}(h:Rd w (some (aD b o)) l)(hi:i<=l.length)(hna:l.length<=na):Rd w (if na=i then some (aD b o)else some ⟨b,o+i*2,none⟩) (l.drop i):=by
 intro j y a;have g:i+j<l.length:=by
  have:=(zC.1 a).1;simp at this;omega
 rw[zR (by omega)];obtain⟨m,k,e,d,c,f⟩:=h (i+j) y (by simpa using a);simp only[yG,xK,yK]at e;obtain⟨rfl,rfl⟩:=e;refine⟨b,o+i*2,rfl,d,?_,?_⟩
 ·rw[show o+i*2+j*2=o+(i+j)*2 from by omega];exact c
 ·rw[show o+i*2+j*2+1=o+(i+j)*2+1 from by omega];exact f
theorem VI {wr:World}{n:Nat}{xs:LV}{y1 y2 n1 n2:Int}(hown:wr.ownsRow (w.heap.size+1) 92 2 v k xs)(hb0:wr.cell? (aD w.heap.size 0)=some (Vi y1))(hb1:wr.cell? (aD w.heap.size 1)=some (Vi y2))
  (hf0:wr.frozen? (aD w.heap.size 0)=false) (hf1:wr.frozen? (aD w.heap.size 1)=false) (hsz:w.heap.size<wr.heap.size) (hbel:Bw w wr):(((wr.drewN n).setCell (aD w.heap.size 0) (Vi n1)).setCell (aD w.heap.size 1) (Vi n2)).drew.ownsRow (w.heap.size+1) 92 2 v k xs /\
  (((wr.drewN n).setCell (aD w.heap.size 0) (Vi n1)).setCell (aD w.heap.size 1) (Vi n2)).drew.cell? (aD w.heap.size 0)=some (Vi n1) /\
  (((wr.drewN n).setCell (aD w.heap.size 0) (Vi n1)).setCell (aD w.heap.size 1) (Vi n2)).drew.cell? (aD w.heap.size 1)=some (Vi n2) /\
  (((wr.drewN n).setCell (aD w.heap.size 0) (Vi n1)).setCell (aD w.heap.size 1) (Vi n2)).drew.frozen? (aD w.heap.size 0)=false /\
  (((wr.drewN n).setCell (aD w.heap.size 0) (Vi n1)).setCell (aD w.heap.size 1) (Vi n2)).drew.frozen? (aD w.heap.size 1)=false /\
  w.heap.size<(((wr.drewN n).setCell (aD w.heap.size 0) (Vi n1)).setCell (aD w.heap.size 1) (Vi n2)).drew.heap.size /\
  Bw w (((wr.drewN n).setCell (aD w.heap.size 0) (Vi n1)).setCell (aD w.heap.size 1) (Vi n2)).drew:=by
 have a:(wr.drewN n).ownsRow (w.heap.size+1) 92 2 v k xs:=hown;refine⟨ownsRow_setCell_below (ownsRow_setCell_below a (xC _) _) (xC _) _,?_,?_,?_,?_,?_,?_⟩
 ·simp[go_sem,hb0]
 ·simp[go_sem,hb1]
 ·simp[hf0]
 ·simp[hf1]
 ·simpa using hsz
 ·exact (((aR hbel).setCell (zA _) _).setCell (zA _) _).drew
theorem Jr {m:Nat}{y1 y2:Int}(h:w.ownsRow B 92 2 v (k+1+(l.length-m)) (aE (l.take k)++[Vi y1,Vi y2]++aE (l.drop m)))(hk:(l.take k).length=k) :
  w.ownsRow B 92 2 v (l.take k++[(y1,y2)]++l.drop m).length (aE (l.take k++[(y1,y2)]++l.drop m)):=by
 have e:(l.take k++[(y1,y2)]++l.drop m).length=k+1+(l.length-m):=by rw[zH,zH,hk,yO];rfl
 rw[e,fz,fz];exact h
theorem OT (b off cap:Nat)(x1 x2:Int)(hcells:Rd w (some (aD b off)) l)(hb:b<w.heap.size)(hcap:l.length<=cap)(hlen:l.length<=1000000)(hl:Brm.PCanon l)(hx:Brm.PGood (x1,x2)):Calls prog 237 #[.slice (some (aD b off)) l.length cap,.agg #[Vi x1,Vi x2]] w λe w'=>∃v,e=.returned v/\ux w w' v λout=>Brm.PCanon out/\(∀n,Brm.memB out n=(Brm.memB l n||Brm.inB (x1,x2) n))/\out.length<=l.length+1:=by
 have S:=aa hcells;have Z:=aa hl;have HX:=aa hx;obtain⟨T,V,G,J,I⟩:=zz fe;go_enter func237,ntmps237;go_wp2
 go_loopw [5,6] (λv i wr=>∃k:Nat,k<=l.length/\i=Vi k/\(∀z∈l.take k,z.2+1<x1)/\wr.ownsRow (w.heap.size+1) 92 2 v (l.take k).length (aE (l.take k)) /\
   wr.cell? (aD w.heap.size 0)=some (Vi x1)/\wr.cell? (aD w.heap.size 1)=some (Vi x2)/\wr.frozen? (aD w.heap.size 0)=false/\wr.frozen? (aD w.heap.size 1)=false /\
   w.heap.size<wr.heap.size/\Bw w wr) (λ_ i _=>l.length-(intOf i).toNat)
 case atStart=>exact⟨0,zW _,rfl,by simp,zZ _ _ _ _,by simp,by simp,by simp,by simp,by simp,(zE _ w).alloc (zA _) _⟩
 case round=>
  obtain⟨k,hk,rfl,P,g,A,K,C,H,D,d⟩:=hrel;have HP:=aa P;go_upto_region 3 with fail
  go_cut [21] (λv wx=>v=.bool (jR l k x1)/\∃n,wx=wr.drewN n)
  case first=>
   have i1:(0:Int)<=(k:Int):=zK _;by_cases o:k<l.length
   ·obtain⟨b',E,e,_,s,u⟩:=S.out k l[k] (zB o);simp only[yG,xK,yK]at e;obtain⟨rfl,rfl⟩:=e;generalize L:l[k]=y at s u;have M:Hid (jR l k x1=decide (y.2+1<x1)):=by
     show jR l k x1=_
     unfold jR;rw[zB o,L]
    have q:=Z.1 y (L▸xE o);obtain⟨t,h⟩:=y;unfold Brm.PGood at q;simp only at s u q;obtain⟨g1,g2,g3⟩:=q;rw[<-d.cell (p:=⟨b,_,none⟩) hb]at s u;have i2:(k:Int)<(l.length:Int):=by omega
    go_quiet (fail)
    go_wp2_with fail
    go_meet
    case rel=>exact⟨by rw[M.out],_,rfl⟩
   ·have hd:decide ((k:Int)<(l.length:Int))=false:=by simp;omega
    have M:Hid (jR l k x1=false):=by
     show jR l k x1=_
     unfold jR;rw[List.getElem?_eq_none (by omega)]
    go_quiet (fail)
    go_wp2_with fail
    go_meet
    case rel=>exact⟨by rw[M.out],_,rfl⟩
  case rest=>
   obtain⟨rfl,nq,rfl⟩:=hcut;cases hT:jR l k x1 with
   |true=>
    obtain⟨y,L,F⟩:=LF hT;have o:k<l.length:=(zC.1 L).1;have M:=aa L;obtain⟨b',E,e,_,s,u⟩:=S.out k y L;simp only[yG,xK,yK]at e;obtain⟨rfl,rfl⟩:=e;obtain⟨t,h⟩:=y;simp only at s u F;have a0:=aa F;rw[<-d.cell (p:=⟨b,_,none⟩) hb]at s u;have x:(l.take k).length=k:=by simp;omega
    rw[x]at g;have R:Hid ((wr.drewN nq).ownsRow (w.heap.size+1) 92 2 _ k (aE (l.take k))):=g;go_wp2_with (at_builtin;refine yD _ rfl _ _ 24 rfl (w.heap.size+1) 92 T (.agg #[Vi 0,Vi 0]) 2 16 underlying24 V G J I rfl (by decide) _ _ _ rfl (R.alloc _) (aD wr.heap.size 0) 1 1 [Vi t,Vi h] rfl rfl (ji _ _ _) (et _ _) (by unfold maxLen;omega) (by omega) (by simp;omega) ?_;intro v' w3 f c _);have R1:w3.ownsRow (w.heap.size+1) 92 2 v' (l.take (k+1)).length (aE (l.take (k+1))):=fW (a:=l.take k) (y:=(t,h)) (by rw[x];exact f) (by rw[zi,M.out];rfl);have B:=Below.keep ((aR d:Bw w (wr.drewN nq)).alloc (by simp;omega) _) (by simp;omega) (iT (R.alloc _) (yN _)) c;obtain⟨fc,ff⟩:=VH R.out D c
    go_roundw
    case rel=>exact⟨k+1,by omega,by go_num,Sp HP M a0,R1,by rw[fc];exact A,by rw[fc];exact K,by rw[ff];exact C,by rw[ff];exact H,by have:=c.size;simp at this;omega,B⟩
    case measure=>simp[intOf];omega
   |false=>
    have HF:=aa (Hs hT);have HJ:=aa (Brm.jinv_start Z HX hk HP HF);have x:(l.take k).length=k:=by simp;omega
    rw[x]at g;go_wp2
    go_loopw [6] (λi wr2=>∃(m:Nat) (t h:Int),i=Vi m/\Brm.JInv l (x1,x2) k (t,h) m/\wr2.ownsRow (w.heap.size+1) 92 2 u5 k (aE (l.take k)) /\
      wr2.cell? (aD w.heap.size 0)=some (Vi t)/\wr2.cell? (aD w.heap.size 1)=some (Vi h)/\wr2.frozen? (aD w.heap.size 0)=false/\wr2.frozen? (aD w.heap.size 1)=false /\
      w.heap.size<wr2.heap.size/\Bw w wr2) (λi _=>l.length-(intOf i).toNat)
    case atStart=>exact⟨k,x1,x2,rfl,HJ,g,A,K,C,H,D,aR d⟩
    case round=>
     obtain⟨m,t,h,rfl,Q,g,A,K,C,H,D,d⟩:=hrel;have W:=aa Q;have X:=W.2.1;have q:=W.2.2.1;unfold Brm.PGood at q;simp only at q;obtain⟨g1,g2,g3⟩:=q;have a2:b≠w.heap.size:=by omega
     go_upto_region 6 with fail
     go_cut [45] (λv wx=>v=.bool (jS l m h)/\∃n,wx=wr.drewN n)
     case first=>
      have i1:(0:Int)<=(m:Int):=zK _;by_cases o:m<l.length
      ·obtain⟨b',E,e,_,s,u⟩:=S.out m l[m] (zB o);simp only[yG,xK,yK]at e;obtain⟨rfl,rfl⟩:=e;generalize L:l[m]=z at s u;have M:Hid (jS l m h=decide (z.1<=h+1)):=by
        show jS l m h=_
        unfold jS;rw[zB o,L]
       obtain⟨z1,z2⟩:=z;simp only at s u;rw[<-d.cell (p:=⟨b,_,none⟩) hb]at s u;have i2:(m:Int)<(l.length:Int):=by omega
       go_quiet (fail)
       go_wp2_with fail
       go_meet
       case rel=>exact⟨by rw[M.out],_,rfl⟩
      ·have hd:decide ((m:Int)<(l.length:Int))=false:=by simp;omega
       have M:Hid (jS l m h=false):=by
        show jS l m h=_
        unfold jS;rw[List.getElem?_eq_none (by omega)]
       go_quiet (fail)
       go_wp2_with fail
       go_meet
       case rel=>exact⟨by rw[M.out],_,rfl⟩
     case rest=>
      obtain⟨rfl,N,rfl⟩:=hcut;cases hT:jS l m h with
      |true=>
       obtain⟨z,U,O⟩:=LG hT;have o:m<l.length:=(zC.1 U).1;have HZ:=aa U;have HS:=aa (Brm.jinv_step Z W U O);obtain⟨b',E,e,_,s,u⟩:=S.out m z U;simp only[yG,xK,yK]at e;obtain⟨rfl,rfl⟩:=e;obtain⟨z1,z2⟩:=z;simp only at s u;rw[<-d.cell (p:=⟨b,_,none⟩) hb]at s u;have i1:(0:Int)<=(m:Int):=zK _;have i2:(m:Int)<(l.length:Int):=by omega
       go_wp2_with fail
       go_region
       go_wp2_with fail
       go_region
       go_wp2;obtain⟨q1,q2,q3,q4,q5,q6,q7⟩:=VI (n:=N+1) (n1:=min t z1) (n2:=max h z2) g A K C H D d
       go_roundw
       case rel=>exact⟨m+1,min t z1,max h z2,by go_num,HS,q1,q2,q3,q4,q5,q6,q7⟩
       case measure=>simp[intOf];omega
      |false=>
       have HE:=aa (Brm.jinv_end Z W (Ht hT));have a1:=W.1;have R:Hid ((wr.drewN N).ownsRow (w.heap.size+1) 92 2 u5 k (aE (l.take k))):=g;by_cases Y:cap=m
       ·go_wp2_with (first
         |(at_builtin;refine yD _ rfl (.tmp 66) (.tmp 68) 24 rfl (w.heap.size+1) 92 T (.agg #[Vi 0,Vi 0]) 2 16 underlying24 V G J I rfl (by decide) _ _ _ rfl (R.alloc _) (aD wr.heap.size 0) 1 1 [Vi t,Vi h] rfl rfl (ji _ _ _) (et _ _) (by unfold maxLen;omega) (by omega) (by simp;omega) ?_;intro v' w3 f c _;have B:=Below.keep ((aR d:Bw w (wr.drewN N)).alloc (by simp;omega) _) (by simp;omega) (iT (R.alloc _) (yN _)) c)
         |(at_builtin;refine yD _ rfl (.tmp 70) (.tmp 73) 24 rfl (w.heap.size+1) 92 T (.agg #[Vi 0,Vi 0]) 2 16 underlying24 V G J I rfl (by decide) _ _ _ rfl f (aD b off) (l.length-m) _ (aE (l.drop m)) rfl (by rw[dK,yO]) (oJ (Jq S X hcap) B (by rw[zX Y])) (uw _) (by unfold maxLen;omega) (by omega) (by have:=B.size;have:=c.size;simp at this;omega) ?_;intro v4 w4 r j _))
        have R4:=Below.keep B (by have:=B.size;omega) (iT f (yN _)) j;go_ret;exact⟨v4,rfl,l.take k++[(t,h)]++l.drop m,⟨HE.1,HE.2,by simp;omega⟩,iT (Jr r x) (yN _),R4⟩
       ·go_wp2_with (first
         |(at_builtin;refine yD _ rfl (.tmp 66) (.tmp 68) 24 rfl (w.heap.size+1) 92 T (.agg #[Vi 0,Vi 0]) 2 16 underlying24 V G J I rfl (by decide) _ _ _ rfl (R.alloc _) (aD wr.heap.size 0) 1 1 [Vi t,Vi h] rfl rfl (ji _ _ _) (et _ _) (by unfold maxLen;omega) (by omega) (by simp;omega) ?_;intro v' w3 f c _;have B:=Below.keep ((aR d:Bw w (wr.drewN N)).alloc (by simp;omega) _) (by simp;omega) (iT (R.alloc _) (yN _)) c)
         |(at_builtin;refine yD _ rfl (.tmp 70) (.tmp 73) 24 rfl (w.heap.size+1) 92 T (.agg #[Vi 0,Vi 0]) 2 16 underlying24 V G J I rfl (by decide) _ _ _ rfl f ⟨b,off+m*2,none⟩ (l.length-m) _ (aE (l.drop m)) rfl (by rw[dK,yO]) (oJ (Jq S X hcap) B (by rw[zR Y])) (uw _) (by unfold maxLen;omega) (by omega) (by have:=B.size;have:=c.size;simp at this;omega) ?_;intro v4 w4 r j _))
        have R4:=Below.keep B (by have:=B.size;omega) (iT f (yN _)) j;go_ret;exact⟨v4,rfl,l.take k++[(t,h)]++l.drop m,⟨HE.1,HE.2,by simp;omega⟩,iT (Jr r x) (yN _),R4⟩
theorem join_nil (x1 x2:Int)(w:World)(hx:Brm.PGood (x1,x2)):Calls prog 237 #[Vz,.agg #[Vi x1,Vi x2]] w λe w'=>∃v,e=.returned v/\ux w w' v λout=>Brm.PCanon out/\(∀n,Brm.memB out n=(Brm.memB [] n||Brm.inB (x1,x2) n))/\out.length<=0+1:=by
 have o:=aa hx;obtain⟨h,g,f,c,d⟩:=zz fe;have r:decide ((0:Int)<0)=false:=rfl;go_enter func237,ntmps237;go_wp2
 go_loopw [5,6] (λv i wr=>v=Vz/\i=Vi 0/\∃n,wr=(w.alloc (.cells #[Vi x1,Vi x2] 92)).drewN n) (λ_ _ _=>0)
 case atStart=>exact⟨rfl,rfl,0,rfl⟩
 case round=>
  obtain⟨rfl,rfl,n,rfl⟩:=hrel;go_wp2_with fail
  go_quiet (fail)
  go_wp2
  go_loopw [6] (λi wr=>i=Vi 0/\∃n,wr=(w.alloc (.cells #[Vi x1,Vi x2] 92)).drewN n) (λ_ _=>0)
  case atStart=>exact⟨rfl,n+nq,by simp[World.drewN,xG]⟩
  case round=>
   obtain⟨rfl,m,rfl⟩:=hrel;go_wp2_with fail
   go_quiet (fail)
   go_wp2_with (first
    |(at_builtin;refine yD _ rfl (.tmp 66) (.tmp 68) 24 rfl (w.heap.size+1) 92 h (.agg #[Vi 0,Vi 0]) 2 16 underlying24 g f c d rfl (by decide) _ _ _ rfl (zZ _ _ _ _) (aD (w.heap.size+1) 0) 1 1 [Vi x1,Vi x2] rfl rfl (iZ _ _ _ _) (et _ _) (by unfold maxLen;omega) (by omega) (by simp) ?_;intro p q a b _)
    |(at_builtin;refine wpList_append_own_none rfl (.tmp 70) (.tmp 73) 24 rfl (w.heap.size+1) 92 h 2 underlying24 g _ _ _ rfl a rfl ?_))
   have l:Bw w q:=((aR ((zE _ w).alloc (zA _) _)).alloc (by simp) _).grown b (by simp;omega) (λk e=>by cases e);go_ret;exact⟨p,rfl,[(x1,x2)],⟨⟨λz j=>by simp at j;exact j▸o.out,by simp⟩,λn=>by simp[Brm.memB],by simp⟩,iT a (yN _),l⟩
theorem Fp (l:LQ)(x1 x2:Int)(h:Sl w v l)(hlen:l.length<=1000000)(hl:Brm.PCanon l)(hx:Brm.PGood (x1,x2)):Calls prog 237 #[v,.agg #[Vi x1,Vi x2]] w λe w'=>∃v,e=.returned v/\ux w w' v λout=>Brm.PCanon out/\(∀n,Brm.memB out n=(Brm.memB l n||Brm.inB (x1,x2) n))/\out.length<=l.length+1:=by
 rcases h with⟨rfl,rfl⟩|⟨b,d,a,rfl,f,c,g⟩
 ·exact join_nil x1 x2 w hx
 ·exact OT b d a x1 x2 g c f hlen hl hx
def uE (l:List (Int×Int))(k:Nat)(out:List (Int×Int)):Prop :=
 Brm.PCanon out/\(∀r,Brm.runeB r=true->Brm.memB out (Brm.up r)=Brm.memB (l.take k) r)/\out.length<=k
theorem Tz {out out':LQ}{x:Int×Int}(h:uE l k out)(hx:l[k]?=some x)(hok:Brm.okB x=true)(h1:Brm.PCanon out')
  (h2:∀n,Brm.memB out' n=(Brm.memB out n||Brm.inB (Brm.up x.1,Brm.down x.2) n)) (h3:out'.length<=out.length+1):uE l (k+1) out' :=
 ⟨h1,λr a=>by rw[h2,h.2.1 r a,Brm.lift_in x r hok a,jV hx],by have:=h.2.2;omega⟩
theorem LW {out:LQ}{x:Int×Int}(h:uE l k out)(hx:l[k]?=some x)(hok:Brm.okB x=true)(hn:¬Brm.up x.1<=Brm.down x.2):uE l (k+1) out:=by
 refine⟨h.1,λr a=>?_,by have:=h.2.2;omega⟩;rw[h.2.1 r a,jV hx,<-Brm.lift_in x r hok a];have:Brm.inB (Brm.up x.1,Brm.down x.2) (Brm.up r)=false:=by
  rw[<-yI,Brm.in_iff];simp only;omega
 rw[this,Bool.or_false]
theorem Re {ao:OA}(cap:Nat)(hcells:Rd w ao l)(hlen:l.length<=1000000)(hl:Brm.PCanon l):Calls prog 220 #[.slice ao l.length cap] w λe w'=>∃v,e=.returned v/\ux w w' v λout=>Brm.PCanon out/\(∀n,Brm.place n->Brm.memB out n=!Brm.memB l n)/\out.length<=l.length+1:=by
 have X:=aa hcells;have R:=aa hl;obtain⟨N,O,u,z,B⟩:=zz fe;have L:=aa (Brm.pinv_start R);go_enter func220,ntmps220;go_wp2
 go_loopw [3,4,5] (λv nx i wr=>∃(k:Nat) (out:List (Int×Int)) (a:Int),k<=l.length/\i=Vi k/\nx=Vi a/\Brm.PInv l (l.drop k) out a/\out.length<=k/\wr.ownsRow w.heap.size 92 2 v out.length (aE out)/\Bw w wr) (λ_ _ i _=>l.length-(intOf i).toNat)
 case atStart=>exact⟨0,[],0,zW _,rfl,rfl,L,zW _,zZ _ _ _ _,zE _ _⟩
 case round=>
  obtain⟨k,out,a,hk,rfl,rfl,s,V,f,d⟩:=hrel;have Y:=d.size;have E:=aa s;have f0:=E.2.2.1;have f1:=E.2.2.2.1;by_cases A:k<l.length
  ·obtain⟨b,H,rfl,C,G,F⟩:=X.out k l[k] (zB A);generalize hx:l[k]=x at G F;have T:Hid (l[k]?=some x):=by rw[zB A,hx];rfl
   have K:=R.1 x (zU T);obtain⟨r,J⟩:=x;unfold Brm.PGood at K;simp only at G F K;obtain⟨g1,g2,g3⟩:=K;rw[<-d.cell (p:=⟨b,_,none⟩) C]at G F;have I:=aa (oK T.out▸E.out);have P:=aa (Brm.pinv_step I);have e1:∀o c,(wr.alloc o).cell? (aD b c)=wr.cell? (aD b c):=λo c=>wI o c (by omega);by_cases j:a<r
   ·have q:Hid (Brm.putP out a r=out++[(a,r-1)]):=by show Brm.putP out a r=_;unfold Brm.putP;rw[zX j]
    have U:=aa C;go_wp2_with (at_builtin;refine yD _ rfl _ _ 24 rfl w.heap.size 92 N (.agg #[Vi 0,Vi 0]) 2 16 underlying24 O u z B rfl (by decide) _ _ _ rfl (f.alloc _) (aD wr.heap.size 0) 1 1 [Vi a,Vi (r-1)] rfl rfl (ji _ _ _) (et _ _) (by unfold maxLen;omega) (by omega) (by simp;omega) ?_;intro Z S h g _;have D:=Below.keep (d.alloc (by omega) _) (by simp;omega) (f.alloc _) g;have W:S.cell? ⟨b,H+k*2+1,none⟩=some (Vi J):=(D.cell (p:=⟨b,_,none⟩) C).trans ((d.cell (p:=⟨b,_,none⟩) C).symm.trans F));have M:=fW (y:=(a,r-1)) h q
    go_roundw
    case rel=>exact⟨k+1,Brm.putP out a r,J+1,by omega,by go_num,rfl,P,by rw[q.out];simp;omega,M,D⟩
    case measure=>simp[intOf];omega
   ·have q:Hid (Brm.putP out a r=out):=by show Brm.putP out a r=_;unfold Brm.putP;rw[zR j];simp
    go_wp2
    go_roundw
    case rel=>exact⟨k+1,out,J+1,by omega,by go_num,rfl,by have:=P.out;rw[q.out]at this;exact this,by omega,f,d⟩
    case measure=>simp[intOf];omega
  ·have m:Brm.PInv l [] out a:=by have:=E.out;rwa [yh (by omega)]at this
   have Q:=aa (Brm.pinv_end m);by_cases j:a<=1112063
   ·go_wp2_with (at_builtin;refine yD _ rfl _ _ 24 rfl w.heap.size 92 N (.agg #[Vi 0,Vi 0]) 2 16 underlying24 O u z B rfl (by decide) _ _ _ rfl (f.alloc _) (aD wr.heap.size 0) 1 1 [Vi a,Vi 1112063] rfl rfl (ji _ _ _) (et _ _) (by unfold maxLen;omega) (by omega) (by simp;omega) ?_;intro Z S h g _);have q:Brm.endP out a=out++[(a,1112063)]:=by unfold Brm.endP;rw[zX j]
    have M:=fW (y:=(a,1112063)) h q;have D:=Below.keep (d.alloc (by omega) _) (by simp;omega) (f.alloc _) g;have t:=Q.out;go_ret;exact⟨_,rfl,Brm.endP out a,⟨t.1,t.2,by rw[q];simp;omega⟩,M,D⟩
   ·have q:Hid (Brm.endP out a=out):=by show Brm.endP out a=out;unfold Brm.endP;rw[zR j];simp
    go_wp2;have t:=Q.out;rw[q.out]at t;go_ret;exact⟨_,rfl,out,⟨t.1,t.2,by omega⟩,f,d⟩
def dL (w:World)(A:Nat->Prop)(v:Value)(l:List (Int×Int)):Prop :=
 (v=Vz/\l=[])\/∃b off cap,v=.slice (some (aD b off)) l.length cap/\l.length<=cap/\A b/\b<w.heap.size/\Rd w (some (aD b off)) l
theorem dL.sl (h:dL w A v l):Sl w v l:=by
 rcases h with h|⟨b,a,d,e,g,_,c,f⟩
 ·exact .inl h
 ·exact .inr ⟨b,a,d,e,g,c,f⟩
theorem dL.below {w w':World}{A:NP}{v:Value}{l:LQ}(h:dL w A v l)(hb:Bw w w'):dL w' A v l:=by
 rcases h with h|⟨b,a,d,e,i,g,c,f⟩
 ·exact .inl h
 ·exact .inr ⟨b,a,d,e,i,g,zF c hb.size,f.below hb⟩
theorem sm (h:w.ownsRow B 92 2 v l.length (aE l))(hA:∀k,B<=k->A k):dL w A v l:=by
 rcases Xw h with o|⟨b,i,a,rfl,j,c,f⟩
 ·exact .inl o
 ·rcases h.2 with⟨e,_⟩|⟨g,d,n,e,m,_⟩
  ·cases e
  ·cases e;exact .inr ⟨b,0,a,rfl,j,hA b m,c,f⟩
theorem dL.mono {A':NP}(h:dL w A v l)(k:∀g,g<w.heap.size->A g->A' g):dL w A' v l:=by
 rcases h with h|⟨b,c,d,e,j,i,a,f⟩
 ·exact .inl h
 ·exact .inr ⟨b,c,d,e,j,k b a i,a,f⟩
theorem XH {ao:OA}(cap:Nat)(hcells:Rd w ao l)(hlen:l.length<=1000000)(hok:∀x∈l,Brm.okB x=true):Calls prog 236 #[.slice ao l.length cap] w λe w'=>∃v out,e=.returned v/\dL w' (λk=>w.heap.size<=k) v out/\uE l l.length out/\Bw w w':=by
 have H:=aa hcells;have Q:=aa hok;go_enter func236,ntmps236;go_wp2
 go_loopw [3,4] (λv i wr=>∃(k:Nat) (out:List (Int×Int)),k<=l.length/\i=Vi k/\dL wr (λk=>w.heap.size<=k) v out/\uE l k out/\Bw w wr) (λ_ i _=>l.length-(intOf i).toNat)
 case atStart=>exact⟨0,[],zW _,rfl,.inl ⟨rfl,rfl⟩,⟨Brm.pcanon_nil,λ_ _=>rfl,by simp⟩,zE _ _⟩
 case round=>
  obtain⟨k,out,B,rfl,j,c,a⟩:=hrel;have E:=a.size;have y:=aa j;have r:=aa c;have P:=c.2.2;by_cases m:k<l.length
  ·obtain⟨b,n,rfl,J,o,q⟩:=H.out k l[k] (zB m);generalize hx:l[k]=x at o q;have t:Hid (l[k]?=some x):=by rw[zB m,hx];rfl
   have d:=aa (Q x (zU t));have f:=d.out;obtain⟨u,z⟩:=x;simp[Brm.okB]at f;obtain⟨Y,W,S⟩:=f;simp only at o q;rw[<-a.cell (p:=⟨b,_,none⟩) J]at o q;have V:(0:Int)<=(k:Int):=zK _;have X:(k:Int)<(l.length:Int):=by omega
   have K:b<wr.heap.size:=by omega
   have U:=World.new_ne wr _ o;have T:=World.new_ne wr _ q;go_wp2_with fail
   go_region_held3 (λw'=>w'.cell? ⟨b,n+k*2,none⟩=some (Vi u)/\w'.cell? ⟨b,n+k*2+1,none⟩=some (Vi z))
    (go_keep)
    ((first
     |(go_at_call 223;refine (PU _ _ (by omega) (by omega)).mono ?_;rintro e w' ⟨rfl,rfl⟩)
     |(go_at_call 247;refine (Tx _ _ (by omega) (by omega)).mono ?_;rintro e w' ⟨rfl,rfl⟩)))
   all_goals
    by_cases h:Brm.up u<=Brm.down z
    ·have F:=aa (Brm.lift_good (u,z) d h);go_wp2_with fail;refine (Fp out _ _ (y.below ((zE _ wr).alloc (zA _) _).drew).sl (by omega) r.1 F).mono ?_;rintro e M ⟨R,rfl,g,⟨D,C,N⟩,L,I⟩;have G:Bw w M:=(a.alloc (by omega) _).drew.trans (I.mono (by simp;omega));have s:=aa (Tz r t d D C N);have O:=aa (sm (A:=λk=>w.heap.size<=k) L (λk B=>by simp at B;omega));go_wp2
     go_roundw
     case rel=>exact⟨k+1,g,by omega,by go_num,O,s,G⟩
     case measure=>simp[intOf];omega
    ·have s:=aa (LW r t d h);go_wp2
     go_roundw
     case rel=>exact⟨k+1,out,by omega,by go_num,y.below ((zE _ wr).alloc (zA _) _).drew,s,(a.alloc (by omega) _).drew⟩
     case measure=>simp[intOf];omega
  ·go_wp2;go_ret;exact⟨_,out,rfl,y,(by
                   have e:k=l.length:=by omega
                   exact e▸r.out),a⟩
theorem Zc {bo:OA}{a b:LQ}(cb:Nat)(ha:dL w A v a)(hA:∀k,w.heap.size<=k->A k)(hb:Rd w bo b)(hal:a.length<=400000)(hbl:b.length<=400000)(hla:Brm.PCanon a)(hlb:Brm.PCanon b):Calls prog 219 #[v,.slice bo b.length cb] w λe w'=>∃v out,e=.returned v/\dL w' A v out/\(Brm.PCanon out/\(∀n,Brm.memB out n=(Brm.memB a n||Brm.memB b n))/\out.length<=a.length+b.length)/\Bw w w':=by
 have q:=aa hA;have G:=aa ha;have M:=aa hb;have r:=aa hla;have o:=aa hlb;go_enter func219,ntmps219;go_wp2
 go_loopw [5,6] (λu i wr=>∃(k:Nat) (out:List (Int×Int)),k<=b.length/\i=Vi k/\dL wr A u out/\(Brm.PCanon out/\(∀n,Brm.memB out n=(Brm.memB a n||Brm.memB (b.take k) n))/\out.length<=a.length+k)/\Bw w wr) (λ_ i _=>b.length-(intOf i).toNat)
 case atStart=>exact⟨0,a,zW _,rfl,G,⟨r,λn=>by simp[Brm.memB],by simp⟩,zE _ _⟩
 case round=>
  obtain⟨k,out,J,rfl,f,⟨D,C,U⟩,c⟩:=hrel;have t:=aa f;have F:=aa D;have B:=aa C;have j:=c.size;by_cases g:k<b.length
  ·obtain⟨R,Q,rfl,m,h,l⟩:=M.out k b[k] (zB g);generalize hx:b[k]=x at h l;have s:Hid (b[k]?=some x):=by rw[zB g,hx];rfl
   have H:=aa (o.1 x (zU s));obtain⟨T,V⟩:=x;simp only at h l;rw[<-c.cell (p:=⟨R,_,none⟩) m]at h l;go_wp2_with fail;refine (Fp out _ _ t.sl (by omega) F H).mono ?_;rintro e N ⟨S,rfl,d,⟨E,y,W⟩,z,L⟩;have I:Bw w N:=c.trans (L.mono j);have P:=aa (sm (A:=A) z (λk J=>q k (by omega)));have O:=aa E;have K:Hid (∀n,Brm.memB d n=(Brm.memB a n||Brm.memB (b.take (k+1)) n)):=λn=>by rw[y n,B.out n,jV s.out,Bool.or_assoc]
   go_wp2
   go_roundw
   case rel=>exact⟨k+1,d,by omega,by go_num,P,⟨O,K,by omega⟩,I⟩
   case measure=>simp[intOf];omega
  ·go_wp2;go_ret;exact⟨_,out,rfl,t,⟨F,λn=>by rw[B.out n,yF (by omega)],by omega⟩,c⟩
