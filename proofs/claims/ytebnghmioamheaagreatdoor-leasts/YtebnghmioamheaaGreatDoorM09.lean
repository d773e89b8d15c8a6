import Derived.Deep.DeepCutAuto
import Derived.Lib.MinMax
import Derived.Test.YtebnghmioamheaaGreatDoorM07
import Derived.Test.YtebnghmioamheaaGreatDoorM08
set_option maxHeartbeats 1000000
set_option maxRecDepth 100000
set_option linter.all false
namespace Go.Proofs.YtebnghmioamheaaGreatDoor
open Go.RowKit Tryz
variable {w:World}{B k:Nat}{v:Value}{l:LQ}{x1:Int}{A:NP}
def Sl (w:World)(v:Value)(l:List (Int×Int)):Prop :=
 (v=Vz/\l=[])\/∃b off cap,v=.slice (some (aD b off)) l.length cap/\l.length<=cap/\b<w.heap.size/\Rd w (some (aD b off)) l
theorem Xw (h:w.ownsRow B 92 2 v l.length (aE l)):Sl w v l:=by
 have b:=h;obtain⟨m,a,rfl,i,d⟩:=nG h;rcases b.2 with⟨e,f⟩|⟨g,c,j,e,k,n,_⟩
 ·exact .inl ⟨e,zq.1 f⟩
 ·injection e with e1 _ e3;subst e1;subst e3;exact .inr ⟨g,0,a,rfl,i,(b.lt g rfl).2,d⟩
theorem Sl.rd (h:Sl w v l):∃ao cap,v=.slice ao l.length cap/\Rd w ao l/\(ao=none->cap=0):=by
 rcases h with⟨rfl,rfl⟩|⟨b,c,cap,rfl,f,d,a⟩
 ·exact⟨none,0,rfl,λi x e=>by simp at e,λ_=>rfl⟩
 ·exact⟨_,cap,rfl,a,λh=>by cases h⟩
def jR (l:List (Int×Int))(k:Nat)(x1:Int):Bool:=match l[k]? with|some y=>decide (y.2+1<x1)|none=>false
def jS (l:List (Int×Int))(k:Nat)(x2:Int):Bool:=match l[k]? with|some y=>decide (y.1<=x2+1)|none=>false
theorem VH {n:Nat}{W w3:World}{xs:LV}{o:Obj}(h:W.ownsRow (B+1) 92 2 v n xs)(hB:B<W.heap.size)(hg:(W.alloc o).grownBy w3 v.ownBlock):(∀j,w3.cell? (aD B j)=W.cell? (aD B j))/\∀j,w3.frozen? (aD B j)=W.frozen? (aD B j):=by
 have a:∀j,some ((aD B j):Addr).block≠v.ownBlock:=λj e=>by have:=(h.lt _ e.symm).1;simp only at this;omega
 refine⟨λj=>?_,λj=>?_⟩
 ·rw[hg.cell_far (aD B j) (by simp;omega) (a j)];exact wI o j hB
 ·rw[hg.frozen_far (aD B j) (by simp;omega) (a j)];exact Aa o j hB
theorem Sp {y:Int×Int}(h:∀z∈l.take k,z.2+1<x1)(hy:l[k]?=some y)(hlt:y.2+1<x1):∀z∈l.take (k+1),z.2+1<x1:=by
 intro z a;rw[zi,hy]at a;rcases zM.1 a with a|a
 ·exact h z a
 ·simp at a;subst a;exact hlt
theorem LF (h:jR l k x1=true):∃y,l[k]?=some y/\y.2+1<x1:=by
 unfold jR at h
 split at h
 ·rename_i y hy;exact⟨y,hy,by simpa using h⟩
 ·cases h
theorem Hs (h:jR l k x1=false):∀y,l[k]?=some y->x1<=y.2+1:=by
 intro y a;unfold jR at h;rw[a]at h;simp at h;omega
theorem LG {x2:Int}(h:jS l k x2=true):∃y,l[k]?=some y/\y.1<=x2+1:=by
 unfold jS at h
 split at h
 ·rename_i y hy;exact⟨y,hy,by simpa using h⟩
 ·cases h
theorem Ht {x2:Int}(h:jS l k x2=false):∀y,l[k]?=some y->x2+1<y.1:=by
 intro y a;unfold jS at h;rw[a]at h;simp at h;omega
theorem Jq {b o na i:Nat}(h:Rd w (some (aD b o)) l)(hi:i<=l.length)(hna:l.length<=na):Rd w (if na=i then some (aD b o)else some ⟨b,o+i*2,none⟩) (l.drop i):=by
 intro j y a;have k:i+j<l.length:=by
  have:=(zC.1 a).1;simp at this;omega
 rw[zR (by omega)];obtain⟨g,m,e,f,d,c⟩:=h (i+j) y (by simpa using a);simp only[yG,xK,yK]at e;obtain⟨rfl,rfl⟩:=e;refine⟨b,o+i*2,rfl,f,?_,?_⟩
 ·rw[show o+i*2+j*2=o+(i+j)*2 from by omega];exact d
 ·rw[show o+i*2+j*2+1=o+(i+j)*2+1 from by omega];exact c
theorem VI {wr:World}{n:Nat}{xs:LV}{y1 y2 n1 n2:Int}(hown:wr.ownsRow (w.heap.size+1) 92 2 v k xs)(hb0:wr.cell? (aD w.heap.size 0)=some (Vi y1))(hb1:wr.cell? (aD w.heap.size 1)=some (Vi y2))
  (hf0:wr.frozen? (aD w.heap.size 0)=false) (hf1:wr.frozen? (aD w.heap.size 1)=false) (hsz:w.heap.size<wr.heap.size) (hbel:Bw w wr):(((wr.drewN n).setCell (aD w.heap.size 0) (Vi n1)).setCell (aD w.heap.size 1) (Vi n2)).drew.ownsRow (w.heap.size+1) 92 2 v k xs /\
  (((wr.drewN n).setCell (aD w.heap.size 0) (Vi n1)).setCell (aD w.heap.size 1) (Vi n2)).drew.cell? (aD w.heap.size 0)=some (Vi n1) /\
  (((wr.drewN n).setCell (aD w.heap.size 0) (Vi n1)).setCell (aD w.heap.size 1) (Vi n2)).drew.cell? (aD w.heap.size 1)=some (Vi n2) /\
  (((wr.drewN n).setCell (aD w.heap.size 0) (Vi n1)).setCell (aD w.heap.size 1) (Vi n2)).drew.frozen? (aD w.heap.size 0)=false /\
  (((wr.drewN n).setCell (aD w.heap.size 0) (Vi n1)).setCell (aD w.heap.size 1) (Vi n2)).drew.frozen? (aD w.heap.size 1)=false /\
  w.heap.size<(((wr.drewN n).setCell (aD w.heap.size 0) (Vi n1)).setCell (aD w.heap.size 1) (Vi n2)).drew.heap.size /\
  Bw w (((wr.drewN n).setCell (aD w.heap.size 0) (Vi n1)).setCell (aD w.heap.size 1) (Vi n2)).drew:=by
 have a:(wr.drewN n).ownsRow (w.heap.size+1) 92 2 v k xs:=hown;refine⟨ownsRow_setCell_below (ownsRow_setCell_below a (xC _) _) (xC _) _,?_,?_,?_,?_,?_,?_⟩
 ·simp[go_sem,hb0]
 ·simp[go_sem,hb1]
 ·simp[hf0]
 ·simp[hf1]
 ·simpa using hsz
 ·exact (((aR hbel).setCell (zA _) _).setCell (zA _) _).drew
theorem Jr {m:Nat}{y1 y2:Int}(h:w.ownsRow B 92 2 v (k+1+(l.length-m)) (aE (l.take k)++[Vi y1,Vi y2]++aE (l.drop m)))(hk:(l.take k).length=k) :
  w.ownsRow B 92 2 v (l.take k++[(y1,y2)]++l.drop m).length (aE (l.take k++[(y1,y2)]++l.drop m)):=by
 have e:(l.take k++[(y1,y2)]++l.drop m).length=k+1+(l.length-m):=by rw[zH,zH,hk,yO];rfl
 rw[e,fz,fz];exact h
theorem OT (b off cap:Nat)(x1 x2:Int)(hcells:Rd w (some (aD b off)) l)(hb:b<w.heap.size)(hcap:l.length<=cap)(hlen:l.length<=1000000)(hl:Brm.PCanon l)(hx:Brm.PGood (x1,x2)):Calls prog 237 #[.slice (some (aD b off)) l.length cap,.agg #[Vi x1,Vi x2]] w λe w'=>∃v,e=.returned v/\ux w w' v λout=>Brm.PCanon out/\(∀n,Brm.memB out n=(Brm.memB l n||Brm.inB (x1,x2) n))/\out.length<=l.length+1:=by
 have S:=aa hcells;have HL:=aa hl;have HX:=aa hx;obtain⟨U,Y,H,D,A⟩:=zz fe;go_enter func237,ntmps237;go_wp2
 go_loopw [5,6] (λv i wr=>∃k:Nat,k<=l.length/\i=Vi k/\(∀z∈l.take k,z.2+1<x1)/\wr.ownsRow (w.heap.size+1) 92 2 v (l.take k).length (aE (l.take k)) /\
   wr.cell? (aD w.heap.size 0)=some (Vi x1)/\wr.cell? (aD w.heap.size 1)=some (Vi x2)/\wr.frozen? (aD w.heap.size 0)=false/\wr.frozen? (aD w.heap.size 1)=false /\
   w.heap.size<wr.heap.size/\Bw w wr) (λ_ i _=>l.length-(intOf i).toNat)
 case atStart=>exact⟨0,zW _,rfl,by simp,zZ _ _ _ _,by simp,by simp,by simp,by simp,by simp,(zE _ w).alloc (zA _) _⟩
 case round=>
  obtain⟨k,hk,rfl,P,g,B,K,I,E,J,d⟩:=hrel;have HP:=aa P;go_upto_region 3 with fail
  go_cut [21] (λv wx=>v=.bool (jR l k x1)/\∃n,wx=wr.drewN n)
  case first=>
   have i1:(0:Int)<=(k:Int):=zK _;by_cases o:k<l.length
   ·obtain⟨b',L,e,_,x,t⟩:=S.out k l[k] (zB o);simp only[yG,xK,yK]at e;obtain⟨rfl,rfl⟩:=e;generalize F:l[k]=y at x t;have M:Hid (jR l k x1=decide (y.2+1<x1)):=by
     show jR l k x1=_
     unfold jR;rw[zB o,F]
    have r:=HL.1 y (F▸xE o);obtain⟨u,h⟩:=y;unfold Brm.PGood at r;simp only at x t r;obtain⟨g1,g2,g3⟩:=r;rw[<-d.cell (p:=⟨b,_,none⟩) hb]at x t;have i2:(k:Int)<(l.length:Int):=by omega
    go_quiet (fail)
    go_wp2_with fail
    go_meet
    case rel=>exact⟨by rw[M.out],_,rfl⟩
   ·have hd:decide ((k:Int)<(l.length:Int))=false:=by simp;omega
    have M:Hid (jR l k x1=false):=by
     show jR l k x1=_
     unfold jR;rw[List.getElem?_eq_none (by omega)]
    go_quiet (fail)
    go_wp2_with fail
    go_meet
    case rel=>exact⟨by rw[M.out],_,rfl⟩
  case rest=>
   obtain⟨rfl,nq,rfl⟩:=hcut;cases hT:jR l k x1 with
   |true=>
    obtain⟨y,F,C⟩:=LF hT;have o:k<l.length:=(zC.1 F).1;have M:=aa F;obtain⟨b',L,e,_,x,t⟩:=S.out k y F;simp only[yG,xK,yK]at e;obtain⟨rfl,rfl⟩:=e;obtain⟨u,h⟩:=y;simp only at x t C;have a0:=aa C;rw[<-d.cell (p:=⟨b,_,none⟩) hb]at x t;have s:(l.take k).length=k:=by simp;omega
    rw[s]at g;have Q:Hid ((wr.drewN nq).ownsRow (w.heap.size+1) 92 2 _ k (aE (l.take k))):=g;go_wp2_with (at_builtin;refine yD _ rfl _ _ 24 rfl (w.heap.size+1) 92 U (.agg #[Vi 0,Vi 0]) 2 16 underlying24 Y H D A rfl (by decide) _ _ _ rfl (Q.alloc _) (aD wr.heap.size 0) 1 1 [Vi u,Vi h] rfl rfl (ji _ _ _) (et _ _) (by unfold maxLen;omega) (by omega) (by simp;omega) ?_;intro v' w3 f c _);have R1:w3.ownsRow (w.heap.size+1) 92 2 v' (l.take (k+1)).length (aE (l.take (k+1))):=fW (a:=l.take k) (y:=(u,h)) (by rw[s];exact f) (by rw[zi,M.out];rfl);have G:=Below.keep ((aR d:Bw w (wr.drewN nq)).alloc (by simp;omega) _) (by simp;omega) (iT (Q.alloc _) (yN _)) c;obtain⟨fc,ff⟩:=VH Q.out J c
    go_roundw
    case rel=>exact⟨k+1,by omega,by go_num,Sp HP M a0,R1,by rw[fc];exact B,by rw[fc];exact K,by rw[ff];exact I,by rw[ff];exact E,by have:=c.size;simp at this;omega,G⟩
    case measure=>simp[intOf];omega
   |false=>
    have HF:=aa (Hs hT);have HJ:=aa (Brm.jinv_start HL HX hk HP HF);have s:(l.take k).length=k:=by simp;omega
    rw[s]at g;go_wp2
    go_loopw [6] (λi wr2=>∃(m:Nat) (u h:Int),i=Vi m/\Brm.JInv l (x1,x2) k (u,h) m/\wr2.ownsRow (w.heap.size+1) 92 2 u5 k (aE (l.take k)) /\
      wr2.cell? (aD w.heap.size 0)=some (Vi u)/\wr2.cell? (aD w.heap.size 1)=some (Vi h)/\wr2.frozen? (aD w.heap.size 0)=false/\wr2.frozen? (aD w.heap.size 1)=false /\
      w.heap.size<wr2.heap.size/\Bw w wr2) (λi _=>l.length-(intOf i).toNat)
    case atStart=>exact⟨k,x1,x2,rfl,HJ,g,B,K,I,E,J,aR d⟩
    case round=>
     obtain⟨m,u,h,rfl,O,g,B,K,I,E,J,d⟩:=hrel;have X:=aa O;have W:=X.2.1;have r:=X.2.2.1;unfold Brm.PGood at r;simp only at r;obtain⟨g1,g2,g3⟩:=r;have a1:b≠w.heap.size:=by omega
     go_upto_region 6 with fail
     go_cut [45] (λv wx=>v=.bool (jS l m h)/\∃n,wx=wr.drewN n)
     case first=>
      have i1:(0:Int)<=(m:Int):=zK _;by_cases o:m<l.length
      ·obtain⟨b',L,e,_,x,t⟩:=S.out m l[m] (zB o);simp only[yG,xK,yK]at e;obtain⟨rfl,rfl⟩:=e;generalize F:l[m]=z at x t;have M:Hid (jS l m h=decide (z.1<=h+1)):=by
        show jS l m h=_
        unfold jS;rw[zB o,F]
       obtain⟨z1,z2⟩:=z;simp only at x t;rw[<-d.cell (p:=⟨b,_,none⟩) hb]at x t;have i2:(m:Int)<(l.length:Int):=by omega
       go_quiet (fail)
       go_wp2_with fail
       go_meet
       case rel=>exact⟨by rw[M.out],_,rfl⟩
      ·have hd:decide ((m:Int)<(l.length:Int))=false:=by simp;omega
       have M:Hid (jS l m h=false):=by
        show jS l m h=_
        unfold jS;rw[List.getElem?_eq_none (by omega)]
       go_quiet (fail)
       go_wp2_with fail
       go_meet
       case rel=>exact⟨by rw[M.out],_,rfl⟩
     case rest=>
      obtain⟨rfl,N,rfl⟩:=hcut;cases hT:jS l m h with
      |true=>
       obtain⟨z,V,R⟩:=LG hT;have o:m<l.length:=(zC.1 V).1;have HZ:=aa V;have HS:=aa (Brm.jinv_step HL X V R);obtain⟨b',L,e,_,x,t⟩:=S.out m z V;simp only[yG,xK,yK]at e;obtain⟨rfl,rfl⟩:=e;obtain⟨z1,z2⟩:=z;simp only at x t;rw[<-d.cell (p:=⟨b,_,none⟩) hb]at x t;have i1:(0:Int)<=(m:Int):=zK _;have i2:(m:Int)<(l.length:Int):=by omega
       go_wp2_with fail
       go_region
       go_wp2_with fail
       go_region
       go_wp2;obtain⟨q1,q2,q3,q4,q5,q6,q7⟩:=VI (n:=N+1) (n1:=min u z1) (n2:=max h z2) g B K I E J d
       go_roundw
       case rel=>exact⟨m+1,min u z1,max h z2,by go_num,HS,q1,q2,q3,q4,q5,q6,q7⟩
       case measure=>simp[intOf];omega
      |false=>
       have Z:=aa (Brm.jinv_end HL X (Ht hT));have a2:=X.1;have Q:Hid ((wr.drewN N).ownsRow (w.heap.size+1) 92 2 u5 k (aE (l.take k))):=g;by_cases T:cap=m
       ·go_wp2_with (first
         |(at_builtin;refine yD _ rfl (.tmp 66) (.tmp 68) 24 rfl (w.heap.size+1) 92 U (.agg #[Vi 0,Vi 0]) 2 16 underlying24 Y H D A rfl (by decide) _ _ _ rfl (Q.alloc _) (aD wr.heap.size 0) 1 1 [Vi u,Vi h] rfl rfl (ji _ _ _) (et _ _) (by unfold maxLen;omega) (by omega) (by simp;omega) ?_;intro v' w3 f c _;have G:=Below.keep ((aR d:Bw w (wr.drewN N)).alloc (by simp;omega) _) (by simp;omega) (iT (Q.alloc _) (yN _)) c)
         |(at_builtin;refine yD _ rfl (.tmp 70) (.tmp 73) 24 rfl (w.heap.size+1) 92 U (.agg #[Vi 0,Vi 0]) 2 16 underlying24 Y H D A rfl (by decide) _ _ _ rfl f (aD b off) (l.length-m) _ (aE (l.drop m)) rfl (by rw[dK,yO]) (oJ (Jq S W hcap) G (by rw[zX T])) (uw _) (by unfold maxLen;omega) (by omega) (by have:=G.size;have:=c.size;simp at this;omega) ?_;intro v4 w4 q j _))
        have R4:=Below.keep G (by have:=G.size;omega) (iT f (yN _)) j;go_ret;exact⟨v4,rfl,l.take k++[(u,h)]++l.drop m,⟨Z.1,Z.2,by simp;omega⟩,iT (Jr q s) (yN _),R4⟩
       ·go_wp2_with (first
         |(at_builtin;refine yD _ rfl (.tmp 66) (.tmp 68) 24 rfl (w.heap.size+1) 92 U (.agg #[Vi 0,Vi 0]) 2 16 underlying24 Y H D A rfl (by decide) _ _ _ rfl (Q.alloc _) (aD wr.heap.size 0) 1 1 [Vi u,Vi h] rfl rfl (ji _ _ _) (et _ _) (by unfold maxLen;omega) (by omega) (by simp;omega) ?_;intro v' w3 f c _;have G:=Below.keep ((aR d:Bw w (wr.drewN N)).alloc (by simp;omega) _) (by simp;omega) (iT (Q.alloc _) (yN _)) c)
         |(at_builtin;refine yD _ rfl (.tmp 70) (.tmp 73) 24 rfl (w.heap.size+1) 92 U (.agg #[Vi 0,Vi 0]) 2 16 underlying24 Y H D A rfl (by decide) _ _ _ rfl f ⟨b,off+m*2,none⟩ (l.length-m) _ (aE (l.drop m)) rfl (by rw[dK,yO]) (oJ (Jq S W hcap) G (by rw[zR T])) (uw _) (by unfold maxLen;omega) (by omega) (by have:=G.size;have:=c.size;simp at this;omega) ?_;intro v4 w4 q j _))
        have R4:=Below.keep G (by have:=G.size;omega) (iT f (yN _)) j;go_ret;exact⟨v4,rfl,l.take k++[(u,h)]++l.drop m,⟨Z.1,Z.2,by simp;omega⟩,iT (Jr q s) (yN _),R4⟩
theorem join_nil (x1 x2:Int)(w:World)(hx:Brm.PGood (x1,x2)):Calls prog 237 #[Vz,.agg #[Vi x1,Vi x2]] w λe w'=>∃v,e=.returned v/\ux w w' v λout=>Brm.PCanon out/\(∀n,Brm.memB out n=(Brm.memB [] n||Brm.inB (x1,x2) n))/\out.length<=0+1:=by
 have p:=aa hx;obtain⟨j,h,c,d,f⟩:=zz fe;have r:decide ((0:Int)<0)=false:=rfl;go_enter func237,ntmps237;go_wp2
 go_loopw [5,6] (λv i wr=>v=Vz/\i=Vi 0/\∃n,wr=(w.alloc (.cells #[Vi x1,Vi x2] 92)).drewN n) (λ_ _ _=>0)
 case atStart=>exact⟨rfl,rfl,0,rfl⟩
 case round=>
  obtain⟨rfl,rfl,n,rfl⟩:=hrel;go_wp2_with fail
  go_quiet (fail)
  go_wp2
  go_loopw [6] (λi wr=>i=Vi 0/\∃n,wr=(w.alloc (.cells #[Vi x1,Vi x2] 92)).drewN n) (λ_ _=>0)
  case atStart=>exact⟨rfl,n+nq,by simp[World.drewN,xG]⟩
  case round=>
   obtain⟨rfl,m,rfl⟩:=hrel;go_wp2_with fail
   go_quiet (fail)
   go_wp2_with (first
    |(at_builtin;refine yD _ rfl (.tmp 66) (.tmp 68) 24 rfl (w.heap.size+1) 92 j (.agg #[Vi 0,Vi 0]) 2 16 underlying24 h c d f rfl (by decide) _ _ _ rfl (zZ _ _ _ _) (aD (w.heap.size+1) 0) 1 1 [Vi x1,Vi x2] rfl rfl (iZ _ _ _ _) (et _ _) (by unfold maxLen;omega) (by omega) (by simp) ?_;intro o l a b _)
    |(at_builtin;refine wpList_append_own_none rfl (.tmp 70) (.tmp 73) 24 rfl (w.heap.size+1) 92 j 2 underlying24 h _ _ _ rfl a rfl ?_))
   have q:Bw w l:=((aR ((zE _ w).alloc (zA _) _)).alloc (by simp) _).grown b (by simp;omega) (λk e=>by cases e);go_ret;exact⟨o,rfl,[(x1,x2)],⟨⟨λz g=>by simp at g;exact g▸p.out,by simp⟩,λn=>by simp[Brm.memB],by simp⟩,iT a (yN _),q⟩
theorem Fp (l:LQ)(x1 x2:Int)(h:Sl w v l)(hlen:l.length<=1000000)(hl:Brm.PCanon l)(hx:Brm.PGood (x1,x2)):Calls prog 237 #[v,.agg #[Vi x1,Vi x2]] w λe w'=>∃v,e=.returned v/\ux w w' v λout=>Brm.PCanon out/\(∀n,Brm.memB out n=(Brm.memB l n||Brm.inB (x1,x2) n))/\out.length<=l.length+1:=by
 rcases h with⟨rfl,rfl⟩|⟨b,a,d,rfl,f,c,g⟩
 ·exact join_nil x1 x2 w hx
 ·exact OT b a d x1 x2 g c f hlen hl hx
def uE (l:List (Int×Int))(k:Nat)(out:List (Int×Int)):Prop :=
 Brm.PCanon out/\(∀r,Brm.runeB r=true->Brm.memB out (Brm.up r)=Brm.memB (l.take k) r)/\out.length<=k
theorem Tz {out out':LQ}{x:Int×Int}(h:uE l k out)(hx:l[k]?=some x)(hok:Brm.okB x=true)(h1:Brm.PCanon out')
  (h2:∀n,Brm.memB out' n=(Brm.memB out n||Brm.inB (Brm.up x.1,Brm.down x.2) n)) (h3:out'.length<=out.length+1):uE l (k+1) out' :=
 ⟨h1,λr a=>by rw[h2,h.2.1 r a,Brm.lift_in x r hok a,jV hx],by have:=h.2.2;omega⟩
theorem LW {out:LQ}{x:Int×Int}(h:uE l k out)(hx:l[k]?=some x)(hok:Brm.okB x=true)(hn:¬Brm.up x.1<=Brm.down x.2):uE l (k+1) out:=by
 refine⟨h.1,λr a=>?_,by have:=h.2.2;omega⟩;rw[h.2.1 r a,jV hx,<-Brm.lift_in x r hok a];have:Brm.inB (Brm.up x.1,Brm.down x.2) (Brm.up r)=false:=by
  rw[<-yI,Brm.in_iff];simp only;omega
 rw[this,Bool.or_false]
theorem Re {ao:OA}(cap:Nat)(hcells:Rd w ao l)(hlen:l.length<=1000000)(hl:Brm.PCanon l):Calls prog 220 #[.slice ao l.length cap] w λe w'=>∃v,e=.returned v/\ux w w' v λout=>Brm.PCanon out/\(∀n,Brm.place n->Brm.memB out n=!Brm.memB l n)/\out.length<=l.length+1:=by
 have X:=aa hcells;have O:=aa hl;obtain⟨N,T,A,z,u⟩:=zz fe;have I:=aa (Brm.pinv_start O);go_enter func220,ntmps220;go_wp2
 go_loopw [3,4,5] (λv nx i wr=>∃(k:Nat) (out:List (Int×Int)) (a:Int),k<=l.length/\i=Vi k/\nx=Vi a/\Brm.PInv l (l.drop k) out a/\out.length<=k/\wr.ownsRow w.heap.size 92 2 v out.length (aE out)/\Bw w wr) (λ_ _ i _=>l.length-(intOf i).toNat)
 case atStart=>exact⟨0,[],0,zW _,rfl,rfl,I,zW _,zZ _ _ _ _,zE _ _⟩
 case round=>
  obtain⟨k,out,a,hk,rfl,rfl,s,W,f,d⟩:=hrel;have U:=d.size;have D:=aa s;have f0:=D.2.2.1;have f1:=D.2.2.2.1;by_cases B:k<l.length
  ·obtain⟨b,M,rfl,C,G,E⟩:=X.out k l[k] (zB B);generalize hx:l[k]=x at G E;have P:Hid (l[k]?=some x):=by rw[zB B,hx];rfl
   have J:=O.1 x (zU P);obtain⟨r,H⟩:=x;unfold Brm.PGood at J;simp only at G E J;obtain⟨g1,g2,g3⟩:=J;rw[<-d.cell (p:=⟨b,_,none⟩) C]at G E;have K:=aa (oK P.out▸D.out);have S:=aa (Brm.pinv_step K);have e1:∀o c,(wr.alloc o).cell? (aD b c)=wr.cell? (aD b c):=λo c=>wI o c (by omega);by_cases m:a<r
   ·have q:Hid (Brm.putP out a r=out++[(a,r-1)]):=by show Brm.putP out a r=_;unfold Brm.putP;rw[zX m]
    have Z:=aa C;go_wp2_with (at_builtin;refine yD _ rfl _ _ 24 rfl w.heap.size 92 N (.agg #[Vi 0,Vi 0]) 2 16 underlying24 T A z u rfl (by decide) _ _ _ rfl (f.alloc _) (aD wr.heap.size 0) 1 1 [Vi a,Vi (r-1)] rfl rfl (ji _ _ _) (et _ _) (by unfold maxLen;omega) (by omega) (by simp;omega) ?_;intro V Q g h _;have F:=Below.keep (d.alloc (by omega) _) (by simp;omega) (f.alloc _) h;have Y:Q.cell? ⟨b,M+k*2+1,none⟩=some (Vi H):=(F.cell (p:=⟨b,_,none⟩) C).trans ((d.cell (p:=⟨b,_,none⟩) C).symm.trans E));have L:=fW (y:=(a,r-1)) g q
    go_roundw
    case rel=>exact⟨k+1,Brm.putP out a r,H+1,by omega,by go_num,rfl,S,by rw[q.out];simp;omega,L,F⟩
    case measure=>simp[intOf];omega
   ·have q:Hid (Brm.putP out a r=out):=by show Brm.putP out a r=_;unfold Brm.putP;rw[zR m];simp
    go_wp2
    go_roundw
    case rel=>exact⟨k+1,out,H+1,by omega,by go_num,rfl,by have:=S.out;rw[q.out]at this;exact this,by omega,f,d⟩
    case measure=>simp[intOf];omega
  ·have j:Brm.PInv l [] out a:=by have:=D.out;rwa [yh (by omega)]at this
   have R:=aa (Brm.pinv_end j);by_cases m:a<=1112063
   ·go_wp2_with (at_builtin;refine yD _ rfl _ _ 24 rfl w.heap.size 92 N (.agg #[Vi 0,Vi 0]) 2 16 underlying24 T A z u rfl (by decide) _ _ _ rfl (f.alloc _) (aD wr.heap.size 0) 1 1 [Vi a,Vi 1112063] rfl rfl (ji _ _ _) (et _ _) (by unfold maxLen;omega) (by omega) (by simp;omega) ?_;intro V Q g h _);have q:Brm.endP out a=out++[(a,1112063)]:=by unfold Brm.endP;rw[zX m]
    have L:=fW (y:=(a,1112063)) g q;have F:=Below.keep (d.alloc (by omega) _) (by simp;omega) (f.alloc _) h;have t:=R.out;go_ret;exact⟨_,rfl,Brm.endP out a,⟨t.1,t.2,by rw[q];simp;omega⟩,L,F⟩
   ·have q:Hid (Brm.endP out a=out):=by show Brm.endP out a=out;unfold Brm.endP;rw[zR m];simp
    go_wp2;have t:=R.out;rw[q.out]at t;go_ret;exact⟨_,rfl,out,⟨t.1,t.2,by omega⟩,f,d⟩
def dL (w:World)(A:Nat->Prop)(v:Value)(l:List (Int×Int)):Prop :=
 (v=Vz/\l=[])\/∃b off cap,v=.slice (some (aD b off)) l.length cap/\l.length<=cap/\A b/\b<w.heap.size/\Rd w (some (aD b off)) l
theorem dL.sl (h:dL w A v l):Sl w v l:=by
 rcases h with h|⟨b,d,a,e,g,_,c,f⟩
 ·exact .inl h
 ·exact .inr ⟨b,d,a,e,g,c,f⟩
theorem dL.below {w w':World}{A:NP}{v:Value}{l:LQ}(h:dL w A v l)(hb:Bw w w'):dL w' A v l:=by
 rcases h with h|⟨b,d,a,e,i,f,c,g⟩
 ·exact .inl h
 ·exact .inr ⟨b,d,a,e,i,f,zF c hb.size,g.below hb⟩
theorem sm (h:w.ownsRow B 92 2 v l.length (aE l))(hA:∀k,B<=k->A k):dL w A v l:=by
 rcases Xw h with o|⟨b,i,a,rfl,j,c,f⟩
 ·exact .inl o
 ·rcases h.2 with⟨e,_⟩|⟨g,d,n,e,m,_⟩
  ·cases e
  ·cases e;exact .inr ⟨b,0,a,rfl,j,hA b m,c,f⟩
theorem dL.mono {A':NP}(h:dL w A v l)(k:∀g,g<w.heap.size->A g->A' g):dL w A' v l:=by
 rcases h with h|⟨b,d,c,e,j,f,a,i⟩
 ·exact .inl h
 ·exact .inr ⟨b,d,c,e,j,k b a f,a,i⟩
theorem XH {ao:OA}(cap:Nat)(hcells:Rd w ao l)(hlen:l.length<=1000000)(hok:∀x∈l,Brm.okB x=true):Calls prog 236 #[.slice ao l.length cap] w λe w'=>∃v out,e=.returned v/\dL w' (λk=>w.heap.size<=k) v out/\uE l l.length out/\Bw w w':=by
 have Q:=aa hcells;have O:=aa hok;go_enter func236,ntmps236;go_wp2
 go_loopw [3,4] (λv i wr=>∃(k:Nat) (out:List (Int×Int)),k<=l.length/\i=Vi k/\dL wr (λk=>w.heap.size<=k) v out/\uE l k out/\Bw w wr) (λ_ i _=>l.length-(intOf i).toNat)
 case atStart=>exact⟨0,[],zW _,rfl,.inl ⟨rfl,rfl⟩,⟨Brm.pcanon_nil,λ_ _=>rfl,by simp⟩,zE _ _⟩
 case round=>
  obtain⟨k,out,C,rfl,h,c,a⟩:=hrel;have I:=a.size;have y:=aa h;have o:=aa c;have J:=c.2.2;by_cases j:k<l.length
  ·obtain⟨b,g,rfl,N,r,q⟩:=Q.out k l[k] (zB j);generalize hx:l[k]=x at r q;have u:Hid (l[k]?=some x):=by rw[zB j,hx];rfl
   have d:=aa (O x (zU u));have f:=d.out;obtain⟨s,t⟩:=x;simp[Brm.okB]at f;obtain⟨S,Y,X⟩:=f;simp only at r q;rw[<-a.cell (p:=⟨b,_,none⟩) N]at r q;have W:(0:Int)<=(k:Int):=zK _;have U:(k:Int)<(l.length:Int):=by omega
   have K:b<wr.heap.size:=by omega
   have R:=World.new_ne wr _ r;have V:=World.new_ne wr _ q;go_wp2_with fail
   go_region_held3 (λw'=>w'.cell? ⟨b,g+k*2,none⟩=some (Vi s)/\w'.cell? ⟨b,g+k*2+1,none⟩=some (Vi t))
    (go_keep)
    ((first
     |(go_at_call 223;refine (PU _ _ (by omega) (by omega)).mono ?_;rintro e w' ⟨rfl,rfl⟩)
     |(go_at_call 247;refine (Tx _ _ (by omega) (by omega)).mono ?_;rintro e w' ⟨rfl,rfl⟩)))
   all_goals
    by_cases m:Brm.up s<=Brm.down t
    ·have F:=aa (Brm.lift_good (s,t) d m);go_wp2_with fail;refine (Fp out _ _ (y.below ((zE _ wr).alloc (zA _) _).drew).sl (by omega) o.1 F).mono ?_;rintro e M ⟨T,rfl,n,⟨D,B,P⟩,H,E⟩;have L:Bw w M:=(a.alloc (by omega) _).drew.trans (E.mono (by simp;omega));have z:=aa (Tz o u d D B P);have G:=aa (sm (A:=λk=>w.heap.size<=k) H (λk C=>by simp at C;omega));go_wp2
     go_roundw
     case rel=>exact⟨k+1,n,by omega,by go_num,G,z,L⟩
     case measure=>simp[intOf];omega
    ·have z:=aa (LW o u d m);go_wp2
     go_roundw
     case rel=>exact⟨k+1,out,by omega,by go_num,y.below ((zE _ wr).alloc (zA _) _).drew,z,(a.alloc (by omega) _).drew⟩
     case measure=>simp[intOf];omega
  ·go_wp2;go_ret;exact⟨_,out,rfl,y,(by
                   have e:k=l.length:=by omega
                   exact e▸o.out),a⟩
theorem Zc {bo:OA}{a b:LQ}(cb:Nat)(ha:dL w A v a)(hA:∀k,w.heap.size<=k->A k)(hb:Rd w bo b)(hal:a.length<=400000)(hbl:b.length<=400000)(hla:Brm.PCanon a)(hlb:Brm.PCanon b):Calls prog 219 #[v,.slice bo b.length cb] w λe w'=>∃v out,e=.returned v/\dL w' A v out/\(Brm.PCanon out/\(∀n,Brm.memB out n=(Brm.memB a n||Brm.memB b n))/\out.length<=a.length+b.length)/\Bw w w':=by
 have h:=aa hA;have L:=aa ha;have R:=aa hb;have q:=aa hla;have l:=aa hlb;go_enter func219,ntmps219;go_wp2
 go_loopw [5,6] (λu i wr=>∃(k:Nat) (out:List (Int×Int)),k<=b.length/\i=Vi k/\dL wr A u out/\(Brm.PCanon out/\(∀n,Brm.memB out n=(Brm.memB a n||Brm.memB (b.take k) n))/\out.length<=a.length+k)/\Bw w wr) (λ_ i _=>b.length-(intOf i).toNat)
 case atStart=>exact⟨0,a,zW _,rfl,L,⟨q,λn=>by simp[Brm.memB],by simp⟩,zE _ _⟩
 case round=>
  obtain⟨k,out,P,rfl,f,⟨E,z,V⟩,c⟩:=hrel;have B:=aa f;have F:=aa E;have D:=aa z;have j:=c.size;by_cases g:k<b.length
  ·obtain⟨K,M,rfl,m,r,o⟩:=R.out k b[k] (zB g);generalize hx:b[k]=x at r o;have t:Hid (b[k]?=some x):=by rw[zB g,hx];rfl
   have I:=aa (l.1 x (zU t));obtain⟨S,U⟩:=x;simp only at r o;rw[<-c.cell (p:=⟨K,_,none⟩) m]at r o;go_wp2_with fail;refine (Fp out _ _ B.sl (by omega) F I).mono ?_;rintro e O ⟨T,rfl,d,⟨C,y,W⟩,s,G⟩;have N:Bw w O:=c.trans (G.mono j);have J:=aa (sm (A:=A) s (λk P=>h k (by omega)));have Q:=aa C;have H:Hid (∀n,Brm.memB d n=(Brm.memB a n||Brm.memB (b.take (k+1)) n)):=λn=>by rw[y n,D.out n,jV t.out,Bool.or_assoc]
   go_wp2
   go_roundw
   case rel=>exact⟨k+1,d,by omega,by go_num,J,⟨Q,H,by omega⟩,N⟩
   case measure=>simp[intOf];omega
  ·go_wp2;go_ret;exact⟨_,out,rfl,B,⟨F,λn=>by rw[D.out n,yF (by omega)],by omega⟩,c⟩
