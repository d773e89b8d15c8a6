import Derived.Test.YtebnghmioamheaaGreatDoorM30
import Derived.Test.YtebnghmioamheaaGreatDoorM18
set_option linter.all false
namespace Go.Proofs.YtebnghmioamheaaGreatDoor
open Go.Shelf Go.RowKit Go.Lib Tryz
variable {w W w' W0:World}{n N b x pc q g q' i mm F a j k:Nat}{cs:LV}{T:TypeId}{f:List UInt8->Option Nat}{pa:OA}{en:Bool}{S':NP}{e:RE}{cp:Array Value}{m:Int}
def gK (l:List (Int×Int)):List Int:=l.flatMap λx=>[x.1,x.2]
theorem Of (l:LQ)(x:Int×Int):gK (l++[x])=gK l++[x.1,x.2]:=by simp[gK]
theorem Rv (l:LQ):(gK l).length=2*l.length:=by
 induction l with
 |nil=>rfl
 |cons x l ih=>simp only[gK,yE,zH,zG,zh]at *;omega
theorem Rw {l:LQ}{y:Int}(h:y∈gK l):∃x∈l,y=x.1\/y=x.2:=by
 unfold gK at h;obtain⟨x,b,a⟩:=xL.1 h;exact⟨x,b,by simpa using a⟩
theorem Og (w:World)(o:Obj)(y1 y2:Int):∀j u,[Vi y1,Vi y2][j]?=some u->((w.alloc o).alloc (.cells #[Vi y1,Vi y2] 3)).cell? (((aD (w.heap.size+1) 0):Addr).add j)=some u:=by
 intro j u a
 match j,a with
 |0,a=>simp at a;subst a;simp[Addr.add]
 |1,a=>simp at a;subst a;simp[Addr.add]
theorem Rx {B:Nat}{v:Value}{L:LZ}(h:w.ownsRow B 3 1 v n (bj L))(hr:∀x∈L,-9223372036854775808<=x/\x<=9223372036854775807):∃a c,v=.slice a L.length c/\iE w a L/\n=L.length:=by
 have k:=h.1;simp[bj]at k;rcases h.2 with⟨rfl,rfl⟩|⟨g,f,l,rfl,o,p,r⟩
 ·have:L=[]:=zq.1 (by omega);subst this;exact⟨none,0,rfl,iE.nil _ _,rfl⟩
 ·refine⟨some (aD g 0),f,by rw[k],λj x i=>?_,by omega⟩;obtain⟨b,e,m,d,_,_⟩:=(show ∃b,(some ((aD g 0):Addr))=some (aD b 0)/\w.cell? (aD b j)=some (Vi x)/\b<w.heap.size/\B<=b/\j<n from tZ h x i);cases e;exact⟨g,0,rfl,d,by rw[zf];exact m,hr x (zU i)⟩
def YV (w:World)(S:Nat)(la:Option Addr)(lc m:Nat)(l:List (Int×Int))(j:Nat)(ev iv:Value)(wr:World):Prop:=∃i:Nat,iv=Vi (i:Int)/\i<=l.length/\l.length-i<=j/\wr.ownsRow (S+2) 3 1 ev (2*i) (bj (gK (l.take i)))/\Below S w wr/\ag wr S [Vp m] 95/\ag wr (S+1) [.slice la l.length lc] 24
theorem QI (h:W.heap.size=N)(o2 o3:Obj):ag (((W.alloc (.cells cs.toArray T)).alloc o2).alloc o3).drew N cs T:=by subst h;exact ((ag.new W cs T).alloc o2).alloc o3
theorem QJ (h:W.heap.size=N)(o1 o3:Obj):ag (((W.alloc o1).alloc (.cells cs.toArray T)).alloc o3).drew (N+1) cs T:=by
 subst h;have:=(ag.new (W.alloc o1) cs T).alloc o3;rw[show (W.alloc o1).heap.size=W.heap.size+1 by simp]at this;exact this
theorem QK (h:W.heap.size=N)(o1 o2:Obj):ag (((W.alloc o1).alloc o2).alloc (.cells cs.toArray T)).drew (N+1+1) cs T:=by
 subst h;have:=ag.new ((W.alloc o1).alloc o2) cs T;rw[show ((W.alloc o1).alloc o2).heap.size=W.heap.size+1+1 by simp]at this;exact this
theorem DT (W:World)(o1 o2 o3:Obj):Bw W (((W.alloc o1).alloc o2).alloc o3).drew:=((((zE _ W).alloc (zA _) _).alloc (by simp) _).alloc (by simp;omega) _).drew
structure StarN (w:World)(xr xm xs b1 c1 b2 c2:Nat)(la:Option Addr)(lc:Nat):Prop where
 row:∃ex,ag w xr [Vi 1,Vz,Vs b1 1 c1,Vi 0,Vi 0,ex] 54
 p1:w.cell? (aD b1 0)=some (Vp xm)
 l1:b1<w.heap.size
 many:ag w xm [Vi 5,Vz,Vs b2 1 c2,Vi 0,Vi (-1)] 51
 p2:w.cell? (aD b2 0)=some (Vp xs)
 l2:b2<w.heap.size
 set:ag w xs [Vi 0,.slice la 1 lc,Vz,Vi 0,Vi 0] 51
 rd:Rd w la [(97,97)]
def ZJ:List UInt8:=fl 0 [97,97] []
def ZK (k:Int):List UInt8:=fl 5 [0,-1] [k]
open Brm
def vU (acc:Nat):List UInt8->Nat
 | []=>acc
 |b::l=>vU (10*acc+(b.toNat-48)) l
theorem Nm (acc:Nat)(l:List UInt8)(b:UInt8):vU acc (l++[b])=10*vU acc l+(b.toNat-48):=by
 induction l generalizing acc with
 |nil=>rfl
 |cons c l ih=>exact ih _
theorem oy {d:Nat}(h:d<10):(UInt8.ofNat (48+d)).toNat=48+d:=by
 rw[UInt8.toNat_ofNat'];exact Nat.mod_eq_of_lt (by omega)
theorem xo (u:Nat):Lib.decDigits u=if u<10 then[UInt8.ofNat (48+u)]else Lib.decDigits (u / 10)++[UInt8.ofNat (48+u % 10)]:=by
 rw[Lib.decDigits];by_cases h:u<10
 ·rw[dif_pos h,zX h]
 ·rw[dif_neg h,zR h]
theorem uh (u:Nat):vU 0 (Lib.decDigits u)=u:=by
 induction u using Nat.strongRecOn with
 |ind u ih=>
  rw[xo];by_cases h:u<10
  ·rw[zX h];show vU (10*0+((UInt8.ofNat (48+u)).toNat-48)) []=u
   rw[oy h];show 10*0+(48+u-48)=u
   omega
  ·rw[zR h,Nm,ih (u / 10) (by omega),oy (by omega)];omega
theorem sB (u:Nat):∀b∈Lib.decDigits u,48<=b.toNat/\b.toNat<=57:=by
 induction u using Nat.strongRecOn with
 |ind u ih=>
  rw[xo];by_cases h:u<10
  ·rw[zX h];intro b a;rw[yQ.1 a,oy h];omega
  ·rw[zR h];intro b a;rcases zM.1 a with a|a
   ·exact ih (u / 10) (by omega) b a
   ·rw[yQ.1 a,oy (by omega)];omega
theorem qy (n:Int):∀b∈Lib.itoa n,b.toNat≠32:=by
 intro b a;unfold Lib.itoa at a
 split at a
 ·rcases zO.1 a with rfl|a
  ·decide
  ·have:=sB _ b a;omega
 ·have:=sB _ b a;omega
theorem Ee {a b:Int}(h:Lib.itoa a=Lib.itoa b):a=b:=by
 unfold Lib.itoa at h;have c:∀u v:Nat,(45:UInt8)::Lib.decDigits u=Lib.decDigits v->False:=λu v e=>by
  have:=sB v 45 (by rw[<-e];simp);exact absurd this (by decide)
 split at h<;>split at h
 ·injection h with _ h;have:=congrArg (vU 0) h;rw[uh,uh]at this;omega
 ·exact (c _ _ h).elim
 ·exact (c _ _ h.symm).elim
 ·have:=congrArg (vU 0) h;rw[uh,uh]at this;omega
theorem vc {a b:List UInt8}{x y:List UInt8}(ha:∀c∈a,c.toNat≠32)(hb:∀c∈b,c.toNat≠32)(hx:x=[]\/∃t,x=32::t)(hy:y=[]\/∃t,y=32::t)(h:a++x=b++y):a=b/\x=y:=by
 induction a generalizing b with
 |nil=>
  cases b with
  |nil=>exact⟨rfl,h⟩
  |cons c b=>
   rw[zd,zV]at h;rcases hx with rfl|⟨t,rfl⟩
   ·cases h
   ·injection h with h1 _;exact absurd (by rw[<-h1];rfl) (hb c (by simp))
 |cons c a ih=>
  cases b with
  |nil=>
   rw[zd,zV]at h;rcases hy with rfl|⟨t,rfl⟩
   ·cases h
   ·injection h with h1 _;exact absurd (by rw[h1];rfl) (ha c (by simp))
  |cons d b=>
   rw[zV,zV]at h;injection h with h1 h2;obtain⟨g,f⟩:=ih (λc e=>ha c (by simp[e])) (λc e=>hb c (by simp[e])) h2;exact⟨by rw[h1,g],f⟩
theorem oz (ns:LZ):dD ns=[]\/∃t,dD ns=32::t:=by
 cases ns with
 |nil=>exact .inl rfl
 |cons n ns=>exact .inr ⟨_,by simp[dD];rfl⟩
theorem tail_cons (n:Int)(ns:LZ):dD (n::ns)=32::(Lib.itoa n++dD ns):=by simp[dD]
theorem Ef:∀{xs ys:LZ},dD xs=dD ys->xs=ys
 | [],[],_=>rfl
 | [],y::ys,h=>by rw[tail_cons]at h;cases h
 |x::xs,[],h=>by rw[tail_cons]at h;cases h
 |x::xs,y::ys,h=>by
  rw[tail_cons,tail_cons]at h;injection h with _ h;obtain⟨b,a⟩:=vc (qy x) (qy y) (oz _) (oz _) h;rw[Ee b,Ef a]
theorem vd (xs ys:LZ):dD (xs++ys)=dD xs++dD ys:=by simp[dD]
theorem name_inj {a b:Int}{xs ys us vs:LZ}(h:fl a xs us=fl b ys vs):a=b/\xs++us=ys++vs:=by
 unfold fl at h;rw[zc,zc,<-vd,<-vd]at h;obtain⟨d,c⟩:=vc (qy a) (qy b) (oz _) (oz _) h;exact⟨Ee d,Ef c⟩
def RE.kd:RE->Int
 |.set _=>0
 |.empty=>1
 |.pair _ _=>1
 |.or _=>2
 |.not _=>4
 |.many _ _ _=>5
def RE.args:RE->List Int
 |.set s=>gK s
 |.many _ m n=>[m,n]
 |_=>[]
def jO (l:List Nat):List Int:=l.map (λ(a:Nat)=>(a:Int))
def RE.name (e:RE):List UInt8:=fl e.kd e.args (jO e.parts)
theorem Cd:∀{l k:List Nat},jO l=jO k->l=k
 | [],[],_=>rfl
 | [],_::_,h=>by cases h
 |_::_,[],h=>by cases h
 |a::l,b::k,h=>by
  simp only[jO,zp,zT]at h;rw[show a=b by omega,Cd (l:=l) (k:=k) h.2]
theorem Eg:∀{l k:LQ},gK l=gK k->l=k
 | [],[],_=>rfl
 | [],_::_,h=>by simp[gK]at h
 |_::_,[],h=>by simp[gK]at h
 |a::l,b::k,h=>by
  simp only[gK,yE,zV,zd,zT]at h;obtain⟨c,d,e⟩:=h;rw[show a=b from Prod.ext c d,Eg (l:=l) (k:=k) e]
theorem RE.name_inj {e f:RE}(h:e.name=f.name):e=f:=by
 obtain⟨b,a⟩:=Go.Proofs.YtebnghmioamheaaGreatDoor.name_inj h;cases e<;>cases f<;>simp only[RE.kd,RE.args,RE.parts]at b a<;>first|(exfalso;revert b;decide)|skip
 ·simp only[jO,yU,zx]at a;rw[Eg a]
 ·rfl
 ·simp[jO]at a
 ·simp[jO]at a
 ·simp only[jO,zd,zp,yU,zT,yK]at a;obtain⟨c,d⟩:=a;congr 1<;>omega
 ·rw[zd,zd]at a;rw[Cd a]
 ·simp only[jO,zd,zp,yU,zT,yK]at a;congr 1;omega
 ·simp only[jO,zV,zd,zp,yU,zT,yK]at a;obtain⟨c,d,g⟩:=a;congr 1;omega
def iB (w:World)(b:Nat)(f:Int->Option Nat)(n:Nat):Prop:=∃D:DataW Unit,w.ownsMap prog 3 RP b n D/\Maps.size D=n/\∀s:Int,Maps.has D (.int .i64 s)=(f s).isSome/\∀x,f s=some x->D.atKey (.int .i64 s) (.lit (.bool false))=.lit (.int .i64 x)
theorem iB.lt {w:World}{b:Nat}{f:Int->Option Nat}{n:Nat}(h:iB w b f n):b<w.heap.size:=by obtain⟨D,a,_⟩:=h;exact a.lt
theorem iB.block {f:Int->Option Nat}(h:iB w b f n)(k:w'.heap[b]?=w.heap[b]?):iB w' b f n:=by
 obtain⟨D,⟨e,a,g,d⟩,c⟩:=h;exact⟨D,⟨e,a,k.trans g,d⟩,c⟩
theorem iB.fresh (h:w.heap[b]?=some (.map #[] 0)):iB w b (λ_=>none) 0:=by
 have g:iB (w.alloc (.map #[] 0)) w.heap.size (λ_=>none) 0:=⟨.map [],World.ownsMap_made w prog 3 RP,rfl,λs=>⟨rfl,λx j=>by cases j⟩⟩;obtain⟨D,⟨i,a,c,f⟩,d⟩:=g;have e:(w.alloc (.map #[] 0)).heap[w.heap.size]?=some (.map #[] 0):=(MapKept.heap_alloc w (.map #[] 0)).1;rw[e]at c;exact⟨D,⟨i,a,h.trans c,f⟩,d⟩
theorem Kr {s:Int}(h0:-9223372036854775808<=s)(h1:s<=9223372036854775807):keyOf prog 3 (.int .i64 s)=some (.int .i64 s):=Maps.keyOf_int_mk underlying3 (by simp[Lit.wf,IntKind.min,IntKind.max,IntKind.signed,IntKind.bits];omega)
theorem iB.look {f:Int->Option Nat}(h:iB w b f n)(s:Int)(h0:-9223372036854775808<=s)(h9:s<=9223372036854775807):(Instr.lookup 216 (.map (some b)) (.int .i64 s) true).run prog w=.ok (.tuple #[BG (f s),.bool (f s).isSome]) w:=by
 obtain⟨D,i,l,g⟩:=h;obtain⟨v,k,a,c⟩:=i.look_ok (t:=216) (e:=103) (Maps.int_keyed underlying3) underlying216 (zeroValue103 _) Kf (Kr h0 h9);obtain⟨d,j⟩:=g s;rw[a,d];cases hf:f s with
 |none=>
  rw[hf]at d;rw[Maps.atKey_of_not_has d]at c;rw[vz c]
 |some x=>
  rw[j x hf]at c;rw[vy c]
def MN (f:Int->Option Nat)(s:Int)(x:Nat):Int->Option Nat:=λt=>if t=s then some x else f t
set_option maxHeartbeats 4000000
set_option maxRecDepth 100000
def Xc (w w':World)(x n:Nat)(kd:Int)(pa:Option Addr)(pl pc:Nat)(en:Bool)(F:Nat)(cp:Array Value):Prop:=∃k b mm,kG w' x n kd pa pl pc en (Vf 143 #[Vp k,Vp b])/\(w.heap.size<=k/\w.heap.size<=b/\w.heap.size<=mm/\k≠mm/\b≠mm/\k≠b)/\ag w' b [Vf F cp] 111/\ag w' k [.map (some mm)] 216/\w'.heap[mm]?=some (.map #[] 0)
theorem sC {m bm:Nat}{nn ee:Option Nat}{n0 kd:Int}(F:Nat)(cp:Array Value)(ma:OA)(mc:Nat)(ns:LZ)(ps:List Nat)(num:Nat->Int)
  (hM:MS w m bm nn ee f n) (hx:kG w x n0 kd pa ps.length pc en (Vf F cp)) (hxm:x≠m) (hxb:x≠bm) (hns:iE w ma ns) (hps:qD w pa ps num) (hP:aZ w) (hk0:0<=kd) (hk9:kd<=9) (hl1:ns.length<=1000000) (hl2:ps.length<=3000000000000) (hn:n<=9000000000000000000):Calls prog 62 #[Vp m,Vp x,.slice ma ns.length mc] w λe w'=>
   match f (fl kd ns (ps.map num))with
   |some y=>e=.returned (Vp y)/\Bw w w'
   |none=>e=.returned (Vp x)/\But (λk=>k=x\/k=bm) w w'/\MS w' m bm nn ee (put f (fl kd ns (ps.map num)) x) (n+1)/\Xc w w' x n kd pa ps.length pc en F cp:=by
 have HM:=aa hM;have HX:=aa hx;have c4:=aa hns;have c0:=aa hps;have HP:=aa hP;have x0:w.cell? (aD x 1)=some (Vi kd):=hx.cell 1;have a4:=hx.lt;clear hM hx hns hps hP;obtain⟨NM,L⟩:∃NM,fl kd ns (ps.map num)=NM:=⟨_,rfl⟩;rw[L];have a7:=aa L;obtain⟨R,hR⟩:∃R,f NM=R:=⟨_,rfl⟩;rw[hR];have HR:=aa hR;clear L hR;go_enter func62,ntmps62;go_wp2_with fail;refine (wM kd (by omega) (by omega) HP).mono ?_;rintro e w1 ⟨rfl,a6⟩;have c1:=aa a6;have HZ:=aa (rj kd (by omega) (by omega));clear a6;go_wp2_with fail
 go_loopg [7,21] ns.length (λj nv iv wr=>UB w (Lib.itoa kd) 21 ns j nv iv wr)
 case atStart=>exact⟨0,_,rfl,zW _,by omega,rfl,by simp[lS,dD],by have:=HZ.out;omega,c1⟩
 case round=>
  obtain⟨i,s,rfl,hi,hj,rfl,hs,c3,hb⟩:=hrel;have HS:=aa hs;have I:=aa hb;clear hs hb;have i0:(0:Int)<=(i:Int):=zK _;by_cases c:i<ns.length
  ·have i1:(i:Int)<(ns.length:Int):=by omega
   obtain⟨y,K⟩:∃y,ns[i]?=some y:=⟨_,zB c⟩;obtain⟨bb,d9,rfl,b8,J,z,g⟩:=(c4.out.below I.out) i y K;have O:=aa (dU K);have P:=aa (HP.below I);clear K;go_wp2_with fail;refine (wM y z g P).mono ?_;rintro e w2 ⟨rfl,l⟩;have Q:=aa l;have d6:=rj y z g;have l1:1+(kK y).size<=9223372036854775807:=by omega
   have l2:s.size+(1+(kK y).size)<=9223372036854775807:=by omega
   have l3:s.size+(ByteArray.mk #[32]++kK y).size<=9223372036854775807:=by rw[ByteArray.size_append];exact l2
   have HY:=aa (lS y);generalize kK y=t at *;clear l;go_wp2_with fail
   go_roundg (gk-1)
   case measure=>omega
   case rel=>
    refine⟨i+1,_,by go_num,by omega,by omega,rfl,?_,?_,I.trans (Q.mono I.size)⟩
    ·rw[cy,cy,HS.out,O.out,vf,HY.out,zc];rfl
    ·rw[ByteArray.size_append,ByteArray.size_append];have:(ByteArray.mk #[32]).size=1:=rfl;omega
  ·have d1:decide ((i:Int)<(ns.length:Int))=false:=zI (by omega);have N:i=ns.length:=by omega
   have c7:Hid (af s=Lib.itoa kd++dD ns):=by have h:=HS.out;rw[N,zQ]at h;exact h
   have f3:s.size<=22000021:=by omega
   have f2:=aa (ag.below HX (I));have x2:wr.cell? (aD x 2)=some (.slice pa ps.length pc):=(I.cell (p:=(aD x 2)) a4).trans (ag.cell HX 2);have e2:x<wr.heap.size:=zF a4 I.size;have e9:=aa N;have d0:decide (i<ns.length)=false:=zI c;clear c3 N c hj hi HS;go_wp2_with fail
   go_loopg [7,36] ps.length (λj nv iv wr=>UB w (Lib.itoa kd++dD ns) 22000021 (ps.map num) j nv iv wr)
   case atStart=>exact⟨0,_,rfl,zW _,by simp,rfl,by rw[c7.out];simp[dD],by omega,I⟩
   case round=>
    obtain⟨q,t,rfl,hq,hj,rfl,ht,d7,Y⟩:=hrel;rw[ym]at hq hj;have HT:=aa ht;have a:=aa Y;clear ht Y;have q0:(0:Int)<=(q:Int):=zK _;by_cases c:q<ps.length
    ·have q1:(q:Int)<(ps.length:Int):=by omega
     obtain⟨y,K⟩:∃y,ps[q]?=some y:=⟨_,zB c⟩;obtain⟨bb,d9,rfl,b8,f1,J,e8,z,g⟩:=(c0.out.below a.out) q y K;have O:=aa (dU (show (ps.map num)[q]?=some (num y) by rw[zg,K];rfl));have P:=aa (HP.below a);generalize num y=ny at *;clear K;go_wp2_with fail;refine (wM ny z g P).mono ?_;rintro e w2 ⟨rfl,l⟩;have Q:=aa l;have d6:=rj ny z g;have l1:1+(kK ny).size<=9223372036854775807:=by omega
     have l2:t.size+(1+(kK ny).size)<=9223372036854775807:=by omega
     have l3:t.size+(ByteArray.mk #[32]++kK ny).size<=9223372036854775807:=by rw[ByteArray.size_append];exact l2
     have HY:=aa (lS ny);generalize kK ny=u at *;clear l;go_wp2_with fail
     go_roundg (gk-1)
     case measure=>omega
     case rel=>
      refine⟨q+1,_,by go_num,by rw[ym];omega,by rw[ym];omega,rfl,?_,?_,a.trans (Q.mono a.size)⟩
      ·rw[cy,cy,HT.out,O.out,vf,HY.out,zc];rfl
      ·rw[ByteArray.size_append,ByteArray.size_append];have:(ByteArray.mk #[32]).size=1:=rfl;omega
    ·have d2:decide ((q:Int)<(ps.length:Int))=false:=zI (by omega);have HN:Hid (af t=fl kd ns (ps.map num)):=by
      have h:=HT.out;rw[yF (by rw[ym];omega)]at h;exact h
     have a0:t.size<=maxLen:=by unfold maxLen;omega
     have e5:decide (q<ps.length)=false:=zI c;clear HT d7 c hj hq;have G:=HM.below a;have E:=aa G;have m0:wr.cell? (aD m 0)=some (.map (some bm)):=G.1.cell 0;have V:f (af t)=R:=by rw[HN.out,a7.out];exact HR
     have B:=G.2.1.look t a0;rw[V]at B;have b9:=aa V;clear G V;cases R with
     |some y=>
      go_wp2_with fail;go_ret;exact⟨rfl,a⟩
     |none=>
      have r:=aa (ag.below HX a);have a5:=E.2.1.len 3;have f0:=r.frozen 0;have x4:wr.cell? (aD x 4)=some (Vf F cp):=r.cell 4;have d4:wr.cell? (aD x 0)=some (Vi n0):=r.cell 0;have e4:=r.lt;have e7:=E.1.lt;go_wp2_with fail;have v:But (λk=>k=x\/k=bm) wr (wr.setCell (aD x 0) (Vi n)):=(But.refl _ _).setCell (.inl (.inl rfl)) _;have T:ag (wr.setCell (aD x 0) (Vi n)) x _ 113:=r.set 0 (Vi n);have a2:ag (wr.setCell (aD x 0) (Vi n)) m _ 146:=E.1.setOther (p:=(aD x 0)) (Ne.symm hxm) _;have S:fs (wr.setCell (aD x 0) (Vi n)) bm f n:=E.2.1.block (zk _ _ _ _ (Ne.symm hxb));have b7:wr.heap.size<=(wr.setCell (aD x 0) (Vi n)).heap.size:=v.size;generalize wr.setCell (aD x 0) (Vi n)=W1 at *;refine (Ez F cp W1).mono ?_;rintro e w5 ⟨k,b,D,rfl,o,c2,b4,b0,M⟩;have A:=T.below o;have H:=a2.below o;have b5:=S.below o;have a9:=aa (v.trans (But.below o));have f4:=A.frozen 4;have e6:w5.cell? (aD x 4)=some (Vf F cp):=A.cell 4;have m5:w5.cell? (aD m 0)=some (.map (some bm)):=H.cell 0;have X:bm<W1.heap.size:=S.lt;have c8:x<W1.heap.size:=T.lt;have Z:=b4.setOther (p:=(aD x 4)) (show b≠x by omega) (Vf 143 #[Vp k,Vp b]);have a1:=b0.setOther (p:=(aD x 4)) (show k≠x by omega) (Vf 143 #[Vp k,Vp b]);have a8:=(zk w5 (aD x 4) (Vf 143 #[Vp k,Vp b]) D (show D≠x by omega)).trans M;have W:D<w5.heap.size:=(yl.1 M).1;have c6:Hid (w.heap.size<=k/\w.heap.size<=b/\w.heap.size<=D/\k≠D/\b≠D/\k≠b):=by have:=a.size;show _/\_;omega
      have C:Hid (b≠bm/\k≠bm/\D≠bm):=by show _/\_;omega
      have b1:=A.set 4 (Vf 143 #[Vp k,Vp b]);have b3:=H.setOther (p:=(aD x 4)) (Ne.symm hxm) (Vf 143 #[Vp k,Vp b]);have b2:fs (w5.setCell (aD x 4) (Vf 143 #[Vp k,Vp b])) bm f n:=b5.block (zk _ _ _ _ (Ne.symm hxb));have e3:=A.lt;have e1:=H.lt;obtain⟨w7,e0,a3,d⟩:=b2.store t a0 (by unfold maxLen;omega) b9 x;have c9:=aa (Z.turned d C.1);have b6:=aa (a1.turned d C.2.1);have d5:Hid (w7.heap[D]?=some (.map #[] 0)):=(d.grown.block D (by simpa [World.setCell]using W) (λe=>by injection e with e;exact C.2.2 e)).trans a8;have c5:=aa a3;have U:=aa d;have d3:=aa b1;have d8:=aa b3;clear T a2 S o c2 A H b5 b1 b3 b2 a3 d v B a5 x4 f0 d4 b4 b0 M Z a1 a8 b7 X c8 W;go_wp2_with fail;go_ret;refine⟨rfl,(But.below a).trans ((a9.setCell (p:=(aD x 4)) (.inl (.inl rfl)) _).turned U (.inr rfl)),⟨d8.turned U HM.2.2,?_,HM.2.2⟩,k,b,D,d3.turned U hxb,c6,c9,b6,d5⟩;rw[<-a7.out,<-HN.out];exact c5
abbrev ae (b:Nat):Value:=Vp b
structure MC where
 m:Nat
 bm:Nat
 T:List RE
 R:Nat->Nat
 KM:Nat->Nat
 X:Nat->Prop
def MC.Mp (c:MC)(g:Nat):Prop:=g=c.bm\/∃i,i<c.T.length/\g=c.KM i
def MC.S (c:MC)(g:Nat):Prop:=c.Mp g\/c.X g
def dQ (w:World)(S:Nat->Prop)(R:Nat->Nat)(pa:Option Addr)(ps:List Nat):Prop:=∀j p,ps[j]?=some p->∃bb off,pa=some (aD bb off)/\bb<w.heap.size/\¬S bb/\w.cell? ⟨bb,off+j,none⟩=some (ae (R p))
def Ku (w:World)(S:Nat->Prop)(R:Nat->Nat)(M:Nat):RE->Nat->Array Value->Prop
 |.set s,F,cp=>∃b1 b2 la lc,F=111/\cp=#[ae b1,ae b2]/\¬S b1/\¬S b2/\ag w b1 [.slice la s.length lc] 24/\ag w b2 [ae M] 95/\Rd w la s/\∀b o,la=some (aD b o)->b<w.heap.size/\¬S b
 |.empty,F,cp=>∃b1,F=63/\cp=#[ae b1]/\¬S b1/\ag w b1 [ae M] 95
 |.pair a b,F,cp=>∃b1 b2 b3,F=159/\cp=#[ae b1,ae b2,ae b3]/\¬S b1/\¬S b2/\¬S b3/\ag w b1 [ae M] 95/\ag w b2 [ae (R a)] 103/\ag w b3 [ae (R b)] 103
 |.or l,F,cp=>∃b1 b2 pa pc,F=103/\cp=#[ae b1,ae b2]/\¬S b1/\¬S b2/\ag w b1 [.slice pa l.length pc] 110/\ag w b2 [ae M] 95/\dQ w S R pa l
 |.not a,F,cp=>∃b1 b2,F=115/\cp=#[ae b1,ae b2]/\¬S b1/\¬S b2/\ag w b1 [ae M] 95/\ag w b2 [ae (R a)] 103
 |.many a m n,F,cp=>∃b1 b2 b3 b4,F=116/\cp=#[ae b1,ae b2,ae b3,ae b4]/\¬S b1/\¬S b2/\¬S b3/\¬S b4/\ag w b1 [ae M] 95/\ag w b2 [ae (R a)] 103/\ag w b3 [Vi m] 3/\ag w b4 [Vi n] 3
structure Kept (w:World)(S:Nat->Prop)(w':World)(S':Nat->Prop):Prop where
 size:w.heap.size<=w'.heap.size
 block:∀g,g<w.heap.size->¬S g->w'.heap[g]?=w.heap[g]?
 not:∀g,g<w.heap.size->¬S g->¬S' g
theorem Kept.cell {w w':World}{S S':NP}(h:Kept w S w' S'){p:Addr}(hp:p.block<w.heap.size)(hn:¬S p.block):w'.cell? p=w.cell? p:=zP (w:=w) (h.block p.block hp hn)
theorem ag.kept {S:NP}(h:ag w b cs T)(k:Kept w S w' S')(hn:¬S b):ag w' b cs T:=(k.block b h.lt hn).trans h
theorem dQ.kept {S:NP}{R R':Nat->Nat}{ps:List Nat}(h:dQ w S R pa ps)(k:Kept w S w' S')(hR:∀a∈ps,R' a=R a):dQ w' S' R' pa ps:=λj p f=>by
 obtain⟨c,b,e,d,g,i⟩:=h j p f;exact⟨c,b,e,zF d k.size,k.not c d g,by rw[hR p (zU f)];exact (k.cell (p:=⟨c,b+j,none⟩) d g).trans i⟩
theorem Rd.kept {S:NP}{la:OA}{s:LQ}(h:Rd w la s)(k:Kept w S w' S')(hn:∀b o,la=some (aD b o)->b<w.heap.size/\¬S b):Rd w' la s:=λi x j=>by
 obtain⟨b,a,e,c,f,g⟩:=h i x j;have d:=(hn b a e).2;exact⟨b,a,e,zF c k.size,(k.cell c d).trans f,(k.cell c d).trans g⟩
theorem Ku.kept {w w':World}{S S':NP}{R R':Nat->Nat}{M:Nat}:∀{e:RE} {F:Nat} {cp:Array Value},Ku w S R M e F cp->Kept w S w' S'->(∀a∈e.parts,R' a=R a)->Ku w' S' R' M e F cp
 |.set s,F,cp,h,k,_=>by
  obtain⟨j,q,A,G,p,i,c,g,d,f,C,u⟩:=h;exact⟨j,q,A,G,p,i,k.not _ d.lt c,k.not _ f.lt g,d.kept k c,f.kept k g,C.kept k u,λb o e=>⟨zF (u b o e).1 k.size,k.not _ (u b o e).1 (u b o e).2⟩⟩
 |.empty,F,cp,h,k,_=>by obtain⟨j,p,i,c,d⟩:=h;exact⟨j,p,i,k.not _ d.lt c,d.kept k c⟩
 |.pair a b,F,cp,h,k,hp=>by
  obtain⟨j,q,x,p,i,c,g,r,d,f,t⟩:=h;exact⟨j,q,x,p,i,k.not _ d.lt c,k.not _ f.lt g,k.not _ t.lt r,d.kept k c,by rw[hp a (by simp[RE.parts])];exact f.kept k g,by rw[hp b (by simp[RE.parts])];exact t.kept k r⟩
 |.or l,F,cp,h,k,hp=>by
  obtain⟨j,q,D,B,p,i,c,g,d,f,v⟩:=h;exact⟨j,q,D,B,p,i,k.not _ d.lt c,k.not _ f.lt g,d.kept k c,f.kept k g,v.kept k hp⟩
 |.not a,F,cp,h,k,hp=>by
  obtain⟨j,q,p,i,c,g,d,f⟩:=h;exact⟨j,q,p,i,k.not _ d.lt c,k.not _ f.lt g,d.kept k c,by rw[hp a (by simp[RE.parts])];exact f.kept k g⟩
 |.many a m n,F,cp,h,k,hp=>by
  obtain⟨j,q,x,E,p,i,c,g,r,z,d,f,t,y⟩:=h;exact⟨j,q,x,E,p,i,k.not _ d.lt c,k.not _ f.lt g,k.not _ t.lt r,k.not _ y.lt z,d.kept k c,by rw[hp a (by simp[RE.parts])];exact f.kept k g,t.kept k r,y.kept k z⟩
def RE.Wf:RE->Prop
 |.set s=>s≠[]/\Canon s
 |.empty=>True
 |.pair _ _=>True
 |.or l=>l.length≠1/\l.Pairwise (·<·)
 |.not _=>True
 |.many _ m n=>0<=m/\m<=5/\(n=-1\/(0<n/\m<=n/\n<=5))
def rL (w:World)(c:MC)(i:Nat)(e:RE):Prop:=∃pa pc en k b F cp,kG w (c.R i) i e.kd pa e.parts.length pc en (Vf 143 #[ae k,ae b])/\(en=true↔lg c.T i [])/\dQ w c.S c.R pa e.parts/\¬c.S (c.R i)/\¬c.S k/\¬c.S b/\ag w k [.map (some (c.KM i))] 216/\ag w b [Vf F cp] 111/\Ku w c.S c.R c.m e F cp
def AW (w:World)(c:MC)(q:Nat)(i:Nat):Prop:=∃g n,iB w (c.KM i) g n/\n<=q/\∀r x,g r=some x->∃j,j<c.T.length/\x=c.R j/\lg c.T j=aX (lg c.T i) r/\sz c.T j<=aN (sz c.T i)
structure MkI (w:World)(c:MC)(q:Nat):Prop where
 mk ::
 mb:ag w c.m [.map (some c.bm),ae (c.R 0),ae (c.R 1)] 146
 ms:¬c.S c.m
 map:∃f,fs w c.bm f c.T.length/\∀s x,f s=some x↔∃(i:Nat) (e:RE),c.T[i]?=some e/\e.name=s/\x=c.R i
 t0:c.T[0]?=some (.or [])
 t1:c.T[1]?=some .empty
 le:c.T.length<=q
 wf:∀(i:Nat) (e:RE),c.T[i]?=some e->e.Wf/\∀a∈e.parts,a<i
 rest:∀(i:Nat) (e:RE),c.T[i]?=some e->rL w c i e
 know:∀i,i<c.T.length->AW w c q i
 kmb:∀i,i<c.T.length->c.KM i≠c.bm
 kmi:∀i j,i<c.T.length->j<c.T.length->c.KM i=c.KM j->i=j
 inj:∀i j,i<c.T.length->j<c.T.length->c.R i=c.R j->i=j
 low:∀g,c.S g->7<=g
 xs:∀g,c.X g->g<w.heap.size/\¬c.Mp g
theorem MkI.lang {w:World}{c:MC}{q:Nat}(h:MkI w c q){i:Nat}{e:RE}(hi:c.T[i]?=some e):lg c.T i=e.lang (lg c.T):=Nb hi (h.wf i e hi).2
theorem rL.kept {w w':World}{c c':MC}{i:Nat}{e:RE}(h:rL w c i e)(k:Kept w c.S w' c'.S)(hm:c'.m=c.m)(hR:∀a∈e.parts,c'.R a=c.R a)(hRi:c'.R i=c.R i)(hK:c'.KM i=c.KM i)(hl:lg c'.T i=lg c.T i):rL w' c' i e:=by
 obtain⟨r,p,t,n,b,F,u,j,o,q,g,d,f,l,m,s⟩:=h;exact⟨r,p,t,n,b,F,u,by rw[hRi];exact ag.kept j k g,by rw[hl];exact o,q.kept k hR,by rw[hRi];exact k.not _ (ag.lt j) g,k.not _ l.lt d,k.not _ m.lt f,by rw[hK];exact l.kept k d,m.kept k f,by rw[hm];exact s.kept k hR⟩
theorem Kept.below {S:NP}(k:Bw w w'):Kept w S w' S:=⟨k.size,λg a _=>k.block g a,λ_ _ h=>h⟩
theorem AW.block {w w':World}{c:MC}{q q' i:Nat}(h:AW w c q i)(k:w'.heap[c.KM i]?=w.heap[c.KM i]?)(hq:q<=q'):AW w' c q' i:=by
 obtain⟨g,n,b,d,a⟩:=h;exact⟨g,n,b.block k,by omega,a⟩
theorem MkI.below {w w':World}{c:MC}{q:Nat}(h:MkI w c q)(k:Bw w w'):MkI w' c q:=by
 have m:Kept w c.S w' c.S:=Kept.below k;exact {
  mb:=h.mb.below k
  ms:=h.ms
  map:=by obtain⟨f,a,b⟩:=h.map;exact⟨f,a.below k,b⟩
  t0:=h.t0
  t1:=h.t1
  le:=h.le
  wf:=h.wf
  rest:=λi e d=>(h.rest i e d).kept m rfl (λ_ _=>rfl) rfl rfl rfl
  know:=λi d=>by
   obtain⟨g,n,a,b,l⟩:=h.know i d;exact⟨g,n,a.block (k.block _ a.lt),b,l⟩
  kmb:=h.kmb
  kmi:=h.kmi
  inj:=h.inj
  low:=h.low
  xs:=λg j=>⟨zF (h.xs g j).1 k.size,(h.xs g j).2⟩ }
theorem MkI.Mp_lt {c:MC}(h:MkI w c q)(hg:c.Mp g):g<w.heap.size:=by
 rcases hg with rfl|⟨i,b,rfl⟩
 ·obtain⟨e,a,_⟩:=h.map;exact a.lt
 ·obtain⟨d,n,a,_⟩:=h.know i b;exact a.lt
theorem MkI.turn {c:MC}{X':NP}(h:MkI w c q)(hs:w.heap.size<=w'.heap.size)(hb:∀g,g<w.heap.size->¬c.X g->w'.heap[g]?=w.heap[g]?)(hX:∀g,X' g->(c.X g\/w.heap.size<=g)/\g<w'.heap.size/\7<=g):MkI w' { c with X:=X' } q:=by
 have l:Kept w c.S w' ({ c with X:=X' }:MC).S:=⟨hs,λg b k=>hb g b (λr=>k (.inr r)),λg b k=>by
  rintro (e|e)
  ·exact k (.inl e)
  ·rcases (hX g e).1 with a|a
   ·exact k (.inr a)
   ·omega⟩
 have m:∀g,c.Mp g->¬c.X g:=λg a d=>(h.xs g d).2 a;exact {
  mb:=ag.kept h.mb l h.ms
  ms:=l.not _ h.mb.lt h.ms
  map:=by obtain⟨f,a,d⟩:=h.map;exact⟨f,a.block (hb _ a.lt (m _ (.inl rfl))),d⟩
  t0:=h.t0
  t1:=h.t1
  le:=h.le
  wf:=h.wf
  rest:=λi e j=>(h.rest i e j).kept l rfl (λ_ _=>rfl) rfl rfl rfl
  know:=λi j=>by
   obtain⟨g,n,a,d,p⟩:=h.know i j;exact⟨g,n,a.block (hb _ a.lt (m _ (.inr ⟨i,j,rfl⟩))),d,p⟩
  kmb:=h.kmb
  kmi:=h.kmi
  inj:=h.inj
  low:=λg b=>by
   rcases b with e|e
   ·exact h.low g (.inl e)
   ·exact (hX g e).2.2
  xs:=λg b=>⟨(hX g b).2.1,λo=>by
   rcases (hX g b).1 with a|a
   ·exact (h.xs g a).2 o
   ·have:=h.Mp_lt o;omega⟩ }
theorem MkI.more {c:MC}(h:MkI w c q)(hq:q<=q'):MkI w c q':={ h with le:=zJ h.le hq,know:=λi a=>(h.know i a).block rfl hq }
structure Gone (w:World)(c:MC)(w':World)(c':MC):Prop where
 m:c'.m=c.m
 bm:c'.bm=c.bm
 T:∃Q,c'.T=c.T++Q
 R:∀i,i<c.T.length->c'.R i=c.R i
 KM:∀i,i<c.T.length->c'.KM i=c.KM i
 newK:∀i,c.T.length<=i->i<c'.T.length->w.heap.size<=c'.KM i
 but:But c.S w w'
 X:c'.X=c.X
 keepX:∀g,g<w.heap.size->c.X g->w'.heap[g]?=w.heap[g]?
theorem Gone.refl (w:World)(c:MC):Gone w c w c:=⟨rfl,rfl,⟨[],by simp⟩,λ_ _=>rfl,λ_ _=>rfl,λi b a=>by omega,But.refl _ _,rfl,λ_ _ _=>rfl⟩
theorem Gone.below {w w':World}{c:MC}(k:Bw w w'):Gone w c w' c:=⟨rfl,rfl,⟨[],by simp⟩,λ_ _=>rfl,λ_ _=>rfl,λi b d=>by omega,But.below k,rfl,λg a _=>k.block g a⟩
theorem Gone.len {c c':MC}(h:Gone w c w' c'):c.T.length<=c'.T.length:=by obtain⟨Q,e⟩:=h.T;rw[e];simp
theorem Gone.notS {c c':MC}(h:Gone w c w' c')(hg:g<w.heap.size)(hn:¬c.S g):¬c'.S g:=by
 rintro ((e|⟨i,b,e⟩)|e)
 ·exact hn (.inl (.inl (by rw[e,h.bm])))
 ·by_cases a:i<c.T.length
  ·exact hn (.inl (.inr ⟨i,a,by rw[e,h.KM i a]⟩))
  ·have:=h.newK i (by omega) b;omega
 ·exact hn (.inr (by rw[<-h.X];exact e))
theorem Gone.trans {w w1 w2:World}{c c1 c2:MC}(h:Gone w c w1 c1)(k:Gone w1 c1 w2 c2):Gone w c w2 c2:=by
 obtain⟨Q,e⟩:=h.T;obtain⟨n,o⟩:=k.T;have p:=h.len;exact {
  m:=k.m.trans h.m
  bm:=k.bm.trans h.bm
  T:=⟨Q++n,by rw[o,e,zc]⟩
  R:=λi a=>(k.R i (by omega)).trans (h.R i a)
  KM:=λi a=>(k.KM i (by omega)).trans (h.KM i a)
  newK:=λi j l=>by
   by_cases a:i<c1.T.length
   ·rw[k.KM i a];exact h.newK i j a
   ·exact zJ h.but.size (k.newK i (by omega) l)
  but:=⟨k.but.os.trans h.but.os,k.but.tape.trans h.but.tape,k.but.output.trans h.but.output,zJ h.but.size k.but.size,λg b f=>(k.but.block g (zF b h.but.size) (h.notS b f)).trans (h.but.block g b f)⟩
  X:=k.X.trans h.X
  keepX:=λg b d=>(k.keepX g (zF b h.but.size) (by rw[h.X];exact d)).trans (h.keepX g b d) }
theorem Gone.at {c c':MC}(h:Gone w c w' c')(hi:c.T[i]?=some e):c'.T[i]?=some e:=by
 obtain⟨Q,a⟩:=h.T;rw[a,yY (zC.1 hi).1];exact hi
theorem Gone.lang {c c':MC}(h:Gone w c w' c')(hi:i<c.T.length):lg c'.T i=lg c.T i:=by
 obtain⟨Q,a⟩:=h.T;rw[a,uQ Q _ hi]
theorem Gone.sz {w w':World}{c c':MC}(h:Gone w c w' c'){i:Nat}(hi:i<c.T.length):sz c'.T i=sz c.T i:=by
 obtain⟨Q,a⟩:=h.T;rw[a,uS Q _ hi]
theorem Gone.kept {c c':MC}(k:Gone w c w' c'):Kept w c.S w' c'.S:=⟨k.but.size,λg a b=>k.but.block g a b,λ_ a b=>k.notS a b⟩
theorem rL.gone {c c':MC}(h:rL w c i e)(k:Gone w c w' c')(hi:i<c.T.length)(hp:∀a∈e.parts,a<c.T.length):rL w' c' i e :=
 h.kept k.kept k.m (λa b=>k.R a (hp a b)) (k.R i hi) (k.KM i hi) (k.lang hi)
def MC.add (c:MC)(e:RE)(x mm:Nat):MC:={ c with T:=c.T++[e],R:=λi=>if i=c.T.length then x else c.R i,KM:=λi=>if i=c.T.length then mm else c.KM i }
theorem jP {c:MC}(h:i<c.T.length):(c.add e x mm).R i=c.R i:=zR (by omega)
theorem nj {c:MC}:(c.add e x mm).R c.T.length=x:=zX rfl
theorem iN {c:MC}(h:i<c.T.length):(c.add e x mm).KM i=c.KM i:=zR (by omega)
theorem ii {c:MC}:(c.add e x mm).KM c.T.length=mm:=zX rfl
theorem QZ {c:MC}(hb:But c.S w w')(hm:w.heap.size<=mm)(hx:∀g,g<w.heap.size->c.X g->w'.heap[g]?=w.heap[g]?):Gone w c w' (c.add e x mm) where
 m:=rfl
 bm:=rfl
 T:=⟨[e],rfl⟩
 R:=λi a=>jP a
 KM:=λi a=>iN a
 newK:=λi d b=>by
  have:i=c.T.length:=by simp[MC.add]at b;omega
  subst this;rw[ii];exact hm
 but:=hb
 X:=rfl
 keepX:=hx
open Classical in
noncomputable def uy (c:MC)(y:Nat):Int:=if h:∃p,p<c.T.length/\c.R p=y then ((Classical.choose h:Nat):Int)else 0
theorem Fi {c:MC}{p:Nat}(h:MkI w c q)(hp:p<c.T.length):uy c (c.R p)=(p:Int):=by
 have a:∃p',p'<c.T.length/\c.R p'=c.R p:=⟨p,hp,rfl⟩;unfold uy;rw[dif_pos a];have b:=Classical.choose_spec a;rw[h.inj _ _ b.1 hp b.2]
theorem MkI.cell0 {c:MC}{p:Nat}(h:MkI w c q)(hp:p<c.T.length):w.cell? (aD (c.R p) 0)=some (Vi (p:Int))/\c.R p<w.heap.size:=by
 obtain⟨e,d⟩:∃e,c.T[p]?=some e:=⟨_,zB hp⟩;obtain⟨j,f,i,g,b,F,k,a,_⟩:=h.rest p e d;exact⟨ag.cell a 0,ag.lt a⟩
theorem Xy {c:MC}(h:MkI w c q)(hq:q<=9000000000000000000){S:NP}{ps:List Nat}(hps:∀a∈ps,a<c.T.length)(hp:dQ w S c.R pa ps):qD w pa (ps.map c.R) (uy c):=by
 intro j y g;rw[zg]at g;obtain⟨p,d,rfl⟩:=Option.map_eq_some_iff.1 g;have b:=hps p (zU d);obtain⟨l,f,e,n,_,o⟩:=hp j p d;obtain⟨m,k⟩:=h.cell0 b;have i:=h.le;rw[Fi h b];exact⟨l,f,e,n,k,o,m,by omega,by omega⟩
theorem Jx {w:World}{c:MC}{q:Nat}(h:MkI w c q):∀{ps:List Nat},(∀a∈ps,a<c.T.length)->(ps.map c.R).map (uy c)=jO ps
 | [],_=>rfl
 |a::ps,hp=>by
  simp only[zp,jO];rw[Fi h (hp a (by simp)),Jx h (λb d=>hp b (by simp[d]))];rfl
def au (w0:World)(c:MC)(q:Nat)(L:Lg)(Z:Me)(r:Ending)(w':World):Prop:=∃c' j,r=.returned (ae (c'.R j))/\MkI w' c' q/\Gone w0 c w' c'/\j<c'.T.length/\lg c'.T j=L/\sz c'.T j<=Z
def jF (w0:World)(c:MC)(q:Nat)(e:RE)(r:Ending)(w':World):Prop:=∃c' j,r=.returned (ae (c'.R j))/\MkI w' c' q/\Gone w0 c w' c'/\c'.T[j]?=some e/\lg c'.T j=e.lang (lg c.T)
theorem Gone.pow {c c':MC}(h:Gone w c w' c')(hI:MkI w c q)(hP:aZ w):aZ w':=hP.same λi a d=>h.but.block i a (λb=>by have:=hI.low i b;omega)
theorem jF.at {c:MC}{r:Ending}{L:Lg}{Z:Me}(h:jF W0 c q e r w')(hb:Bw w W0)(hps:∀a∈e.parts,a<c.T.length)(hL:e.lang (lg c.T)=L)(hZ:e.size (sz c.T)<=Z):au w c q L Z r w':=by
 obtain⟨i,j,rfl,d,g,b,f⟩:=h;refine⟨i,j,rfl,d,(Gone.below hb).trans g,(zC.1 b).1,f.trans hL,?_⟩;rw[pg b (d.wf j e b).2];rw[RE.size_congr e (λa k=>g.sz (hps a k))];exact hZ
theorem Xz {w0:World}{c:MC}(hI0:MkI w0 c q)(hb:Bw w0 w)(hwf:e.Wf)(hps:∀a∈e.parts,a<c.T.length)(hx0:w0.heap.size<=x)(hxw:x<w.heap.size)(hen:en=true↔e.lang (lg c.T) [])
  (hpa:dQ w (λg=>c.S g\/g=x) c.R pa e.parts) (hbv:Ku w (λg=>c.S g\/g=x) c.R c.m e F cp) (hf:∀s y,f s=some y↔∃(i:Nat) (e:RE),c.T[i]?=some e/\e.name=s/\y=c.R i) (hno:f e.name=none)
  (hbut:But (λk=>k=x\/k=c.bm) w w') (hM:MS w' c.m c.bm (some (c.R 0)) (some (c.R 1)) (put f e.name x) (c.T.length+1)) (hN:Xc w w' x c.T.length e.kd pa e.parts.length pc en F cp):∃mm,MkI w' (c.add e x mm) (q+1)/\Gone w0 c w' (c.add e x mm):=by
 obtain⟨k,b,mm,hR,H,hB,hK,R⟩:=hN;have S:0<c.T.length:=(zC.1 hI0.t0).1;have T:1<c.T.length:=(zC.1 hI0.t1).1;have N:=hb.size;have p:∀g,c.S g->g<w0.heap.size:=by
  rintro g (z|z)
  ·exact hI0.Mp_lt z
  ·exact (hI0.xs g z).1
 have C:But c.S w0 w':=⟨hbut.os.trans hb.os,hbut.tape.trans hb.tape,hbut.output.trans hb.output,zJ N hbut.size,λg z E=>(hbut.block g (by omega) (by rintro (rfl|rfl);omega;exact E (.inl (.inl rfl)))).trans (hb.block g z)⟩;have d:Gone w0 c w' (c.add e x mm):=QZ C (by omega) (λg z Y=>(hbut.block g (by omega) (by rintro (rfl|rfl);omega;exact (hI0.xs _ Y).2 (.inl rfl))).trans (hb.block g z));have I:∀g,g<w.heap.size->¬c.S g->¬(c.add e x mm).S g:=by
  rintro g z E ((m|⟨i,u,m⟩)|m)
  ·exact E (.inl (.inl m))
  ·by_cases l:i<c.T.length
   ·rw[iN l]at m;exact E (.inl (.inr ⟨i,l,m⟩))
   ·have:i=c.T.length:=by simp[MC.add]at u;omega
    subst this;rw[ii]at m;omega
  ·exact E (.inr m)
 have B:Kept w (λg=>c.S g\/g=x) w' (c.add e x mm).S:=⟨hbut.size,λg z E=>hbut.block g z (by rintro (h|h);exact E (.inr h);exact E (.inl (.inl (.inl h)))),λg z E=>I g z (λh=>E (.inl h))⟩;have L:∀g,w.heap.size<=g->g≠mm->¬(c.add e x mm).S g:=by
  rintro g z K ((m|⟨i,u,m⟩)|m)
  ·have:=p g (.inl (.inl m));omega
  ·by_cases l:i<c.T.length
   ·rw[iN l]at m;have:=p g (.inl (.inr ⟨i,l,m⟩));omega
   ·have:i=c.T.length:=by simp[MC.add]at u;omega
    subst this;rw[ii]at m;exact K m
  ·have:=p g (.inr m);omega
 have o:(c.add e x mm).T.length=c.T.length+1:=by simp[MC.add]
 have O:∀i t,(c.add e x mm).T[i]?=some t->(c.T[i]?=some t/\i<c.T.length)\/(i=c.T.length/\t=e):=by
  intro i t u;have A:(c.T++[e])[i]?=some t:=u;by_cases l:i<c.T.length
  ·rw[yY l]at A;exact .inl ⟨A,l⟩
  ·rw[yk (by omega)]at A;have h0:i-c.T.length=0:=by
    have:=(zC.1 A).1;simp at this;omega
   rw[h0]at A;simp at A;exact .inr ⟨by omega,A.symm⟩
 have W:¬c.S x:=λh=>by have:=p x h;omega
 refine⟨mm,?_,d⟩;exact {
  mb:=by rw[jP S,jP T];exact hM.1
  ms:=d.notS hI0.mb.lt hI0.ms
  map:=by
   refine⟨put f e.name x,by rw[o];exact hM.2.1,λs y=>?_⟩;unfold put;by_cases N:s=e.name
   ·subst N;rw[zX rfl];constructor
    ·intro h;cases h;exact⟨c.T.length,e,by simp[MC.add],rfl,nj.symm⟩
    ·rintro⟨i,t,G,J,rfl⟩;rcases O i t G with⟨D,P⟩|⟨rfl,rfl⟩
     ·have:=(hf e.name (c.R i)).2 ⟨i,t,D,J,rfl⟩;rw[hno]at this;cases this
     ·rw[nj]
   ·rw[zR N,hf];constructor
    ·rintro⟨i,t,G,J,rfl⟩;exact⟨i,t,d.at G,J,(jP (zC.1 G).1).symm⟩
    ·rintro⟨i,t,G,J,rfl⟩;rcases O i t G with⟨D,P⟩|⟨rfl,rfl⟩
     ·exact⟨i,t,D,J,jP P⟩
     ·exact absurd J.symm N
  t0:=d.at hI0.t0
  t1:=d.at hI0.t1
  le:=by rw[o];have:=hI0.le;omega
  wf:=λi t u=>by
   rcases O i t u with⟨D,_⟩|⟨rfl,rfl⟩
   ·exact hI0.wf i t D
   ·exact⟨hwf,hps⟩
  rest:=λi t u=>by
   rcases O i t u with⟨D,P⟩|⟨rfl,rfl⟩
   ·exact (hI0.rest i t D).gone d P (λa M=>by have:=(hI0.wf i t D).2 a M;omega)
   ·refine⟨pa,pc,en,k,b,F,cp,by rw[nj];exact hR,?_,hpa.kept B (λa M=>jP (hps a M)),by rw[nj];exact I x hxw W,L k H.1 H.2.2.2.1,L b H.2.1 H.2.2.2.2.1,by rw[ii];exact hK,hB,hbv.kept B (λa M=>jP (hps a M))⟩;show en=true↔lg (c.T++[t]) c.T.length []
    rw[GH];exact hen
  know:=λi u=>by
   by_cases l:i<c.T.length
   ·obtain⟨g,n,G,J,D⟩:=hI0.know i l;have K:c.KM i≠c.bm:=hI0.kmb i l;have Q:=G.lt;refine⟨g,n,by rw[iN l];exact G.block ((hbut.block _ (by omega) (by rintro (h|h);omega;exact K h)).trans (hb.block _ Q)),by omega,λr y U=>?_⟩;obtain⟨j,V,j2,j3,j4⟩:=D r y U;exact⟨j,by rw[o];omega,by rw[jP V];exact j2,by rw[d.lang V,d.lang l];exact j3,by rw[d.sz V,d.sz l];exact j4⟩
   ·have:i=c.T.length:=by rw[o]at u;omega
    subst this;exact⟨λ_=>none,0,by rw[ii];exact iB.fresh R,by omega,λr y U=>by cases U⟩
  kmb:=λi u=>by
   by_cases l:i<c.T.length
   ·rw[iN l];exact hI0.kmb i l
   ·have:i=c.T.length:=by rw[o]at u;omega
    subst this;rw[ii];intro Z;have:=p c.bm (.inl (.inl rfl));have h8:mm=c.bm:=Z;omega
  kmi:=λi j u X h=>by
   rw[o]at u X;by_cases l:i<c.T.length<;>by_cases v:j<c.T.length
   ·rw[iN l,iN v]at h;exact hI0.kmi i j l v h
   ·have:j=c.T.length:=by omega
    subst this;rw[iN l,ii]at h;have:=p (c.KM i) (.inl (.inr ⟨i,l,rfl⟩));omega
   ·have:i=c.T.length:=by omega
    subst this;rw[iN v,ii]at h;have:=p (c.KM j) (.inl (.inr ⟨j,v,rfl⟩));omega
   ·omega
  inj:=λi j u X h=>by
   rw[o]at u X;by_cases l:i<c.T.length<;>by_cases v:j<c.T.length
   ·rw[jP l,jP v]at h;exact hI0.inj i j l v h
   ·have:j=c.T.length:=by omega
    subst this;rw[jP l,nj]at h;have:=(hI0.cell0 l).2;omega
   ·have:i=c.T.length:=by omega
    subst this;rw[jP v,nj]at h;have:=(hI0.cell0 v).2;omega
   ·omega
  low:=by
   have a0:=hI0.low c.bm (.inl (.inl rfl));have a1:=p c.bm (.inl (.inl rfl));rintro g ((m|⟨i,u,m⟩)|m)
   ·exact hI0.low g (.inl (.inl m))
   ·by_cases l:i<c.T.length
    ·rw[iN l]at m;exact hI0.low g (.inl (.inr ⟨i,l,m⟩))
    ·have:i=c.T.length:=by rw[o]at u;omega
     subst this;rw[ii]at m;omega
   ·exact hI0.low g (.inr m)
  xs:=λg z=>⟨by have:=(hI0.xs g z).1;have:=C.size;omega,by
   rintro (m|⟨i,u,m⟩)
   ·exact (hI0.xs g z).2 (.inl m)
   ·by_cases l:i<c.T.length
    ·rw[iN l]at m;exact (hI0.xs g z).2 (.inr ⟨i,l,m⟩)
    ·have:i=c.T.length:=by rw[o]at u;omega
     subst this;rw[ii]at m;have:=(hI0.xs g z).1;omega⟩ }
theorem sk {w0:World}{c:MC}{mc:Nat}{n0:Int}{ma:OA}(hI0:MkI w0 c q)(hb:Bw w0 w)(hP:aZ w)(hwf:e.Wf)(hps:∀a∈e.parts,a<c.T.length)(hx0:w0.heap.size<=x)(hx:kG w x n0 e.kd pa e.parts.length pc en (Vf F cp))(hen:en=true↔e.lang (lg c.T) [])
  (hpa:dQ w (λg=>c.S g\/g=x) c.R pa e.parts) (hbv:Ku w (λg=>c.S g\/g=x) c.R c.m e F cp) (hns:iE w ma e.args) (hl1:e.args.length<=1000000) (hl2:e.parts.length<=3000000000000) (hq:q<=9000000000000000000):Calls prog 62 #[ae c.m,ae x,.slice ma e.args.length mc] w (jF w0 c (q+1) e):=by
 have b:=hI0.below hb;obtain⟨f,p,j⟩:=b.map;have s:c.m≠c.bm:=λh=>b.ms (.inl (.inl h));have E:MS w c.m c.bm (some (c.R 0)) (some (c.R 1)) f c.T.length:=⟨b.mb,p,s⟩;have v:fl e.kd e.args ((e.parts.map c.R).map (uy c))=e.name:=by unfold RE.name;rw[Jx b hps]
 have G:c.bm<w0.heap.size:=by obtain⟨I,n,_⟩:=hI0.map;exact n.lt
 have B:=hI0.mb.lt;have l:0<=e.kd/\e.kd<=9:=by cases e<;>simp[RE.kd]
 have D:=b.le;have o:kG w x n0 e.kd pa (e.parts.map c.R).length pc en (Vf F cp):=by rw[ym];exact hx
 refine (sC F cp ma mc e.args (e.parts.map c.R) (uy c) E o (by omega) (by omega) hns (Xy b hq hps hpa) hP l.1 l.2 hl1 (by rw[ym];exact hl2) (by omega)).mono ?_;intro r H m;rw[v]at m;cases hfe:f e.name with
 |some y=>
  rw[hfe]at m;obtain⟨rfl,d⟩:=m;obtain⟨i,K,n,A,rfl⟩:=(j e.name y).1 hfe;have:=RE.name_inj A;subst this;exact⟨c,i,rfl,(b.below d).more (by omega),Gone.below (hb.trans (d.mono hb.size)),n,b.lang n⟩
 |none=>
  rw[hfe]at m;obtain⟨rfl,k,u,z⟩:=m;rw[ym]at z;obtain⟨J,t,C⟩:=Xz hI0 hb hwf hps hx0 (ag.lt hx) hen hpa hbv j hfe k u z;exact⟨_,c.T.length,by rw[nj],t,C,by simp[MC.add],GH⟩
theorem MkI.S_lt {c:MC}(h:MkI w c q)(hg:c.S g):g<w.heap.size:=by
 rcases hg with hg|hg
 ·exact h.Mp_lt hg
 ·exact (h.xs g hg).1
theorem MkI.look {c:MC}(h:MkI w c q)(hi:c.T[i]?=some e):∃pa pc en fv,kG w (c.R i) i e.kd pa e.parts.length pc en fv/\(en=true↔lg c.T i [])/\dQ w c.S c.R pa e.parts/\¬c.S (c.R i):=by
 obtain⟨pa,pc,en,k,b,F,j,a,f,d,g,_⟩:=h.rest i e hi;exact⟨pa,pc,en,_,a,f,d,g⟩
theorem XJ (h:W.heap.size=N)(o2:Obj):ag ((W.alloc (.cells cs.toArray T)).alloc o2).drew N cs T:=by subst h;exact (ag.new W cs T).alloc o2
theorem XK (h:W.heap.size=N)(o1:Obj):ag ((W.alloc o1).alloc (.cells cs.toArray T)).drew (N+1) cs T:=by
 subst h;have h:=ag.new (W.alloc o1) cs T;rw[show (W.alloc o1).heap.size=W.heap.size+1 by simp]at h;exact h
theorem XL (W:World)(o1 o2:Obj):Bw W ((W.alloc o1).alloc o2).drew:=(((zE _ W).alloc (zA _) _).alloc (by simp) _).drew
theorem SR {c:MC}{S:Nat}(hI:MkI w c q)(hq:q<=9000000000000000000)(ha:a<c.T.length)(hen:en=true↔lg c.T a [])(hB0:Bw w W0)(hS:w.heap.size=S)(hs0:W0.heap.size=S+2)(hb1:ag W0 S [ae c.m] 95)(hb2:ag W0 (S+1) [ae (c.R a)] 103)(hP:aZ W0)
  (hB:Bw W0 W) (hp:ag W (S+2) [ae (c.R a)] 103) (hx:ag W (S+2+1) [Vi 0,Vi 4,.slice (some (aD (S+2) 0)) 1 1,.bool (!en),Vf 115 #[ae S,ae (S+1)]] 113):Calls prog 62 #[ae c.m,ae (S+2+1),Vz] W (jF W0 c (q+1) (.not a)):=by
 have i:∀g,S<=g->g≠S+2+1->¬(c.S g\/g=S+2+1):=λg m l d=>by
  rcases d with d|d
  ·have:=hI.S_lt d;omega
  ·exact l d
 exact sk (e:=.not a) (hI.below hB0) hB (hP.below hB) trivial (λb k=>by simp[RE.parts]at k;subst k;exact ha) (by omega) hx (by
   cases en with
   |true=>simp only[Bool.not_true,yR,false_iff];intro h;exact h (hen.1 rfl)
   |false=>simp only[Bool.not_false,true_iff];intro h;have:=hen.2 h;cases this)
  (λj p f=>by
   match j,f with
   |0,f=>simp[RE.parts]at f;subst f;exact⟨S+2,0,rfl,hp.lt,i _ (by omega) (by omega),hp.cell 0⟩)
  ⟨S,S+1,rfl,rfl,i _ (by omega) (by omega),i _ (by omega) (by omega),hb1.below hB,hb2.below hB⟩ (iE.nil _ _) (by simp[RE.args]) (by simp[RE.parts]) hq
theorem oQ {c:MC}(hI:MkI w c q)(hq:q<=9000000000000000000)(ha:a<c.T.length)(hP:aZ w):Calls prog 73 #[ae c.m,ae (c.R a)] w (au w c (q+1) (fZ (lg c.T a)) (bB (sz c.T a))):=by
 obtain⟨e,A⟩:∃e,c.T[a]?=some e:=⟨_,zB ha⟩;obtain⟨pa,pc,N,fv,B,v,s,o⟩:=hI.look A;have b0:=ag.lt B;obtain⟨S,F⟩:∃S,w.heap.size=S:=⟨_,rfl⟩;obtain⟨l,x,g,f,d,z⟩:=jK F [ae c.m] 95 [ae (c.R a)] 103;replace g:Below _ _ l:=g;have M:l.cell? (aD S 0)=some (ae c.m):=f.cell 0;have J:l.cell? (aD (S+1) 0)=some (ae (c.R a)):=d.cell 0;have i:=ag.below B g;have I:l.cell? (aD (c.R a) 3)=some (.bool N):=i.cell 3;have c4:l.cell? (aD (c.R a) 1)=some (Vi e.kd):=i.cell 1;have c5:l.cell? (aD (c.R a) 2)=some (.slice pa e.parts.length pc):=i.cell 2;have u:c.R a<l.heap.size:=i.lt;have HI:=aa hI;have y:=aa g;have G:=aa x;have O:=aa F;have HC:=aa (λ(W:World)=>SR (W:=W) hI hq ha v g F z f d (hP.below g));have Y:Hid (∀m:World,(∀k,k<l.heap.size->m.heap[k]?=l.heap[k]?)->m.cell? (aD S 0)=some (ae c.m)/\m.cell? (aD (S+1) 0)=some (ae (c.R a))/\m.cell? (aD (c.R a) 3)=some (.bool N)):=λm D=>⟨(zP (w:=l) (D S f.lt)).trans M,(zP (w:=l) (D (S+1) d.lt)).trans J,(zP (w:=l) (D _ u)).trans I⟩;have Q:Hid (∀(m:World) (K:MC),Gone l c m K->m.cell? (aD S 0)=some (ae c.m)/\m.cell? (aD (S+1) 0)=some (ae (c.R a))/\m.cell? (aD (c.R a) 3)=some (.bool N)):=λm K E=>by
  have n1:¬c.S S:=λh=>by have:=hI.S_lt h;omega
  have n2:¬c.S (S+1):=λh=>by have:=hI.S_lt h;omega
  exact⟨(E.but.cell (p:=(aD S 0)) f.lt n1).trans M,(E.but.cell (p:=(aD (S+1) 0)) d.lt n2).trans J,(E.but.cell (p:=(aD (c.R a) 3)) u o).trans I⟩
 have a9:=aa o;have a2:=aa (hI.lang A);have U:=aa (pg A (hI.wf a e A).2);have b4:=aa s;have b1:=aa (hI.wf a e A);have a6:=aa f;have a5:=aa d;have x1:w.cell? (aD (c.R a) 1)=some (Vi e.kd):=ag.cell B 1;have x2:w.cell? (aD (c.R a) 2)=some (.slice pa e.parts.length pc):=ag.cell B 2;have a7:c.R a≠w.heap.size:=by omega
 have a8:c.R a≠w.heap.size+1:=by omega
 by_cases n:e.kd=4
 ·have hz:(e.kd==4)=true:=beq_iff_eq.2 n;obtain⟨C,rfl⟩:∃C,e=.not C:=by cases e<;>simp[RE.kd]at n;exact⟨_,rfl⟩
  obtain⟨bb,b6,rfl,b2,b3,T⟩:=s 0 C rfl;have P:Hid (C<a):=(hI.wf a _ A).2 C (by simp[RE.parts]);have b5:(1:Int)>0:=by decide
  simp only[RE.parts,zo]at x2;rw[xF]at T;clear f d g x hI hP B i s v o M J I c4 c5 n F;go_enter func73,ntmps73;go_wp2_with fail;go_ret;rw[G.out];refine⟨c,C,rfl,(HI.below y).more (by omega),Gone.below y,by have:=P.out;omega,?_,?_⟩
  ·rw[a2.out];exact not_not.symm
  ·have h9:=U.out;rw[h9];exact Me.trans (BT _) (BT _)
 ·have hz:(e.kd==4)=false:=zD.2 n;clear f d g x hI hP B i s v o M J I c4 c5 n x2 F;go_enter func73,ntmps73;go_wp2_with fail;rw[G.out];simp only[O.out];refine yW (S:=λX:World=>X.cell? (aD S 0)=some (ae c.m)/\X.cell? (aD (S+1) 0)=some (ae (c.R a))/\X.cell? (aD (c.R a) 3)=some (.bool N)) (by kernel_rfl) (Y _ (λ_ _=>rfl)) (λhHeld=>?_);refine tk 0 ?_;simp only[tS];refine tk 1 ?_;simp only[tS];refine tk 3 ?_;simp only[tS];refine tk 4 ?_;simp only[tS];refine tk 5 ?_;simp only[tS];refine tk 6 ?_;simp only[tS];refine tk 7 ?_;simp only[tS];refine tk 8 ?_;simp only[tS];refine di 2 (λH t=>?_);go_simp;refine t _ _ (Y _ (λk n=>zS _ _ _ n)) (λhHeld=>?_);clear t H
  try simp only[tS]
  refine tk 9 ?_;simp only[tS];refine di 10 (λH t=>?_);go_simp;refine t _ _ (Y _ (λk n=>(zS _ _ _ (by simp;omega)).trans (zS _ _ _ n))) (λhHeld=>?_);clear t H
  try simp only[tS]
  refine di 11 (λH t=>?_);go_simp;refine (HC _ (XL _ _ _) (XJ z _) (XK z _)).mono ?_;intro r w5 h5;have V:=aa (h5.at (L:=fZ (lg c.T a)) (Z:=bB (sz c.T a)) y (λb D=>by simp[RE.parts]at D;subst D;exact ha) rfl (Me.refl _));obtain⟨K,j,rfl,a4,E,R,a3⟩:=h5;have a1:=Q.out w5 K E;clear a4 E R a3;go_wp2_with fail;refine t _ _ a1 (λhHeld=>?_);clear t H
  try simp only[tS]
  refine tk 12 ?_;simp only[tS];refine yV (by kernel_rfl) ?_ _;go_wp2_with fail;go_ret;exact V
set_option maxHeartbeats 8000000
theorem Np {c:MC}{S X A B:Nat}{n:Int}(hI:MkI w c q)(hq:q<=9000000000000000000)(ha:a<c.T.length)(hm0:0<=m)(hm5:m<=5)(hn:n=-1\/(0<n/\m<=n/\n<=5))(hen:en=true↔(m=0\/lg c.T a []))(hB0:Bw w W0)(hS:w.heap.size=S)(hs0:W0.heap.size=S+4)(hb1:ag W0 S [ae c.m] 95)(hb2:ag W0 (S+1) [ae (c.R a)] 103)(hb3:ag W0 (S+1+1) [Vi m] 3)(hb4:ag W0 (S+1+1+1) [Vi n] 3)(hP:aZ W0)
  (hB:Bw W0 W) (hx:ag W X [Vi 0,Vi 5,Vs A 1 1,.bool en,Vf 116 #[ae S,ae (S+1),ae (S+1+1),ae (S+1+1+1)]] 113) (hp:ag W A [ae (c.R a)] 103) (hi:ag W B [Vi m,Vi n] 3) (hX:S+4<=X) (hA:S+4<=A) (_hB2:S+4<=B) (hXA:X≠A):Calls prog 62 #[ae c.m,ae X,Vs B 2 2] W (jF W0 c (q+1) (.many a m n)):=by
 have f:∀g,S<=g->g≠X->¬(c.S g\/g=X):=λg l k h=>by
  rcases h with h|h
  ·have:=hI.S_lt h;omega
  ·exact k h
 exact sk (e:=.many a m n) (hI.below hB0) hB (hP.below hB) ⟨hm0,hm5,hn⟩ (λb i=>by simp[RE.parts]at i;subst i;exact ha) (by omega) hx (by rw[hen];exact (Db hm0 (by omega)).symm)
  (λj p d=>by
   match j,d with
   |0,d=>simp[RE.parts]at d;subst d;exact⟨A,0,rfl,hp.lt,f _ (by omega) (Ne.symm hXA),hp.cell 0⟩)
  ⟨S,S+1,S+1+1,S+1+1+1,rfl,rfl,f _ (by omega) (by omega),f _ (by omega) (by omega),f _ (by omega) (by omega),f _ (by omega) (by omega),hb1.below hB,hb2.below hB,hb3.below hB,hb4.below hB⟩
  (λj y d=>by
   match j,d with
   |0,d=>simp[RE.args]at d;subst d;exact⟨B,0,rfl,hi.lt,hi.cell 0,by omega,by omega⟩
   |1,d=>simp[RE.args]at d;subst d;exact⟨B,0,rfl,hi.lt,hi.cell 1,by omega,by omega⟩)
  (by simp[RE.args]) (by simp[RE.parts]) hq
theorem KF {c:MC}{n:Int}(hI:MkI w c q)(hq:q<=9000000000000000000)(ha:a<c.T.length)(hP:aZ w)(hm0:0<=m)(hm5:m<=5)(hn:n=-1\/(0<n/\m<=n/\n<=5)):Calls prog 74 #[ae c.m,ae (c.R a),Vi m,Vi n] w (au w c (q+1) (dB (lg c.T a) m n) (cZ (sz c.T a))):=by
 obtain⟨e,he⟩:∃e,c.T[a]?=some e:=⟨_,zB ha⟩;obtain⟨pa,pc,en,fv,hR,a0,a2,U⟩:=hI.look he;have a7:=ag.lt hR;obtain⟨S,hS⟩:∃S,w.heap.size=S:=⟨_,rfl⟩;obtain⟨v,T,x,I,F,G,D,i⟩:=Zx hS [ae c.m] 95 [ae (c.R a)] 103 [Vi m] 3 [Vi n] 3;replace x:Below _ _ v:=x;have c1:v.cell? (aD S 0)=some (ae c.m):=I.cell 0;have c2:v.cell? (aD (S+1) 0)=some (ae (c.R a)):=F.cell 0;have c3:v.cell? (aD (S+1+1) 0)=some (Vi m):=G.cell 0;have c4:v.cell? (aD (S+1+1+1) 0)=some (Vi n):=D.cell 0;have P:=ag.below hR x;have c5:v.cell? (aD (c.R a) 3)=some (.bool en):=P.cell 3;have O:c.R a<v.heap.size:=P.lt;have Q:=aa x;have a4:=aa T;have a3:=aa hS;have HC:=aa (λ(W:World) (X A B:Nat)=>Np (W:=W) (X:=X) (A:=A) (B:=B) (m:=m) (n:=n) (en:=(m==0)||en) hI hq ha hm0 hm5 hn (by rw[yZ,beq_iff_eq,a0]) x hS i I F G D (hP.below x));have K:Hid (∀l:World,(∀k,k<v.heap.size->l.heap[k]?=v.heap[k]?)->l.cell? (aD S 0)=some (ae c.m)/\l.cell? (aD (S+1) 0)=some (ae (c.R a))/\l.cell? (aD (S+1+1) 0)=some (Vi m)/\l.cell? (aD (S+1+1+1) 0)=some (Vi n)/\l.cell? (aD (c.R a) 3)=some (.bool en)):=λl t=>⟨(zP (w:=v) (t S I.lt)).trans c1,(zP (w:=v) (t (S+1) F.lt)).trans c2,(zP (w:=v) (t (S+1+1) G.lt)).trans c3,(zP (w:=v) (t (S+1+1+1) D.lt)).trans c4,(zP (w:=v) (t _ O)).trans c5⟩;have R:Hid (∀(l:World) (M:MC),Gone v c l M->l.cell? (aD S 0)=some (ae c.m)/\l.cell? (aD (S+1) 0)=some (ae (c.R a))/\l.cell? (aD (S+1+1) 0)=some (Vi m)/\l.cell? (aD (S+1+1+1) 0)=some (Vi n)/\l.cell? (aD (c.R a) 3)=some (.bool en)):=λl M u=>by
  have nn:∀g,S<=g->¬c.S g:=λg hg h=>by have:=hI.S_lt h;omega
  exact⟨(u.but.cell (p:=(aD S 0)) I.lt (nn S (by omega))).trans c1,(u.but.cell (p:=(aD (S+1) 0)) F.lt (nn (S+1) (by omega))).trans c2,(u.but.cell (p:=(aD (S+1+1) 0)) G.lt (nn (S+1+1) (by omega))).trans c3,(u.but.cell (p:=(aD (S+1+1+1) 0)) D.lt (nn (S+1+1+1) (by omega))).trans c4,(u.but.cell (p:=(aD (c.R a) 3)) O U).trans c5⟩
 have hz:(n==0)=false:=zD.2 (by omega);have a6:c.R a≠w.heap.size:=by omega
 have a5:c.R a≠w.heap.size+1:=by omega
 clear I F G D x T hI hP hR P a2 a0 U c1 c2 c3 c4 c5 hS hn hm0 hm5;go_enter func74,ntmps74;go_wp2_with fail;rw[a4.out];simp only[a3.out];obtain⟨z,a1⟩:∃z,(m==0)=z:=⟨_,rfl⟩;cases z
 all_goals
  simp only[a1,Bool.false_or,Bool.true_or]at HC;refine yW (S:=(λV:World=>V.cell? (aD S 0)=some (ae c.m)/\V.cell? (aD (S+1) 0)=some (ae (c.R a))/\V.cell? (aD (S+1+1) 0)=some (Vi m)/\V.cell? (aD (S+1+1+1) 0)=some (Vi n)/\V.cell? (aD (c.R a) 3)=some (.bool en))) (by kernel_rfl) (K _ (λ_ _=>rfl)) (λhHeld=>?_);refine tk 0 ?_;simp only[tS];refine tk 1 ?_;simp only[tS];refine tk 3 ?_;simp only[tS];refine tk 4 ?_;simp only[tS];refine tk 5 ?_;simp only[tS]
  first|refine tk 6 ?_|refine CG 6 ?_
  simp only[tS]
  first|refine tk 7 ?_|refine CG 7 ?_
  simp only[tS]
  first|refine tk 8 ?_|refine CG 8 ?_
  simp only[tS]
  first|refine tk 9 ?_|refine CG 9 ?_
  simp only[tS];refine tk 10 ?_;simp only[tS];refine tk 11 ?_;simp only[tS];refine tk 14 ?_;simp only[tS];refine tk 15 ?_;simp only[tS];refine wpAnyH_ready (rs:=[2,16]) (by kernel_rfl) (by simp) ?_;refine yM (o:=_) rfl (λf d=>?_) ?_
  ·go_simp;refine d _ _ (K _ (λk s=>zS _ _ _ s)) (λhHeld=>?_);clear d f
   try simp only[tS]
   refine tk 12 ?_;simp only[tS];refine wpAnyH_ready (rs:=[13,16]) (by kernel_rfl) (by simp) ?_;refine yM (o:=_) rfl (λf d=>?_) ?_
   ·go_simp;refine d _ _ (K _ (λk s=>(zS _ _ _ (by simp;omega)).trans (zS _ _ _ s))) (λhHeld=>?_);clear d f
    try simp only[tS]
    refine di 16 (λf d=>?_)
    ·go_simp;refine d _ _ (K _ (λk s=>((zS _ _ _ (by simp;omega)).trans (zS _ _ _ (by simp;omega))).trans (zS _ _ _ s))) (λhHeld=>?_);clear d f
     try simp only[tS]
     refine di 17 (λf d=>?_)
     ·go_simp;refine (HC _ _ _ _ (DT _ _ _ _) (QJ i _ _) (QI i _ _) (QK i _ _) (by omega) (by omega) (by omega) (by omega)).mono ?_;intro r Y N;have y:=aa (N.at (L:=dB (lg c.T a) m n) (Z:=cZ (sz c.T a)) Q (λb t=>by simp[RE.parts]at t;subst t;exact ha) rfl (Me.refl _));obtain⟨M,j,rfl,C,u,H,E⟩:=N;have J:=R.out Y M u;clear C u H E;go_wp2_with fail;refine d _ _ J (λhHeld=>?_);clear d f
      try simp only[tS]
      refine tk 18 ?_;simp only[tS];refine yV (by kernel_rfl) ?_ _;go_wp2_with fail;go_ret;exact y
   refine yM (o:=_) rfl (λf d=>?_) ?_
   ·go_simp;refine d _ _ (K _ (λk s=>(zS _ _ _ (by simp;omega)).trans (zS _ _ _ s))) (λhHeld=>?_);clear d f
    try simp only[tS]
    refine di 13 (λf d=>?_)
    ·go_simp;refine d _ _ (K _ (λk s=>((zS _ _ _ (by simp;omega)).trans (zS _ _ _ (by simp;omega))).trans (zS _ _ _ s))) (λhHeld=>?_);clear d f
     try simp only[tS]
     refine di 17 (λf d=>?_)
     ·go_simp;refine (HC _ _ _ _ (DT _ _ _ _) (QK i _ _) (QI i _ _) (QJ i _ _) (by omega) (by omega) (by omega) (by omega)).mono ?_;intro r Y N;have y:=aa (N.at (L:=dB (lg c.T a) m n) (Z:=cZ (sz c.T a)) Q (λb t=>by simp[RE.parts]at t;subst t;exact ha) rfl (Me.refl _));obtain⟨M,j,rfl,C,u,H,E⟩:=N;have J:=R.out Y M u;clear C u H E;go_wp2_with fail;refine d _ _ J (λhHeld=>?_);clear d f
      try simp only[tS]
      refine tk 18 ?_;simp only[tS];refine yV (by kernel_rfl) ?_ _;go_wp2_with fail;go_ret;exact y
   ·exact xJ
  refine yM (o:=_) rfl (λf d=>?_) ?_
  ·go_simp;refine d _ _ (K _ (λk s=>zS _ _ _ s)) (λhHeld=>?_);clear d f
   try simp only[tS]
   refine di 2 (λf d=>?_)
   ·go_simp;refine d _ _ (K _ (λk s=>(zS _ _ _ (by simp;omega)).trans (zS _ _ _ s))) (λhHeld=>?_);clear d f
    try simp only[tS]
    refine tk 12 ?_;simp only[tS];refine di 13 (λf d=>?_)
    ·go_simp;refine d _ _ (K _ (λk s=>((zS _ _ _ (by simp;omega)).trans (zS _ _ _ (by simp;omega))).trans (zS _ _ _ s))) (λhHeld=>?_);clear d f
     try simp only[tS]
     refine di 17 (λf d=>?_)
     ·go_simp;refine (HC _ _ _ _ (DT _ _ _ _) (QK i _ _) (QJ i _ _) (QI i _ _) (by omega) (by omega) (by omega) (by omega)).mono ?_;intro r Y N;have y:=aa (N.at (L:=dB (lg c.T a) m n) (Z:=cZ (sz c.T a)) Q (λb t=>by simp[RE.parts]at t;subst t;exact ha) rfl (Me.refl _));obtain⟨M,j,rfl,C,u,H,E⟩:=N;have J:=R.out Y M u;clear C u H E;go_wp2_with fail;refine d _ _ J (λhHeld=>?_);clear d f
      try simp only[tS]
      refine tk 18 ?_;simp only[tS];refine yV (by kernel_rfl) ?_ _;go_wp2_with fail;go_ret;exact y
  ·exact xJ
theorem MkI.sz_one {w:World}{c:MC}{q i:Nat}(h:MkI w c q)(hi:i<c.T.length):aV<=sz c.T i:=Go.Proofs.YtebnghmioamheaaGreatDoor.sz_one (λi e hi=>(h.wf i e hi).2) i hi
theorem MkI.none {c:MC}(h:MkI w c q):lg c.T 0=eA:=by
 rw[h.lang h.t0];funext u;simp[RE.lang,eA]
theorem MkI.emp {c:MC}(h:MkI w c q):lg c.T 1=dZ:=by
 rw[h.lang h.t1];rfl
theorem MkI.sz0 {c:MC}(h:MkI w c q):sz c.T 0=aV:=by
 rw[pg h.t0 (h.wf 0 _ h.t0).2];rfl
theorem MkI.sz1 {c:MC}(h:MkI w c q):sz c.T 1=aV:=by
 rw[pg h.t1 (h.wf 1 _ h.t1).2];rfl
theorem XB {c:MC}(hI:MkI w c q)(ha:a<c.T.length)(hb:b<c.T.length)(hk:(a=0/\0=j)\/(a≠0/\b=0/\0=j)\/(a≠0/\b≠0/\a=1/\b=j)\/(a≠0/\b≠0/\a≠1/\b=1/\a=j)):Calls prog 114 #[ae c.m,ae (c.R a),ae (c.R b)] w (au w c q (aJ (lg c.T a) (lg c.T b)) (sz c.T j)):=by
 obtain⟨ea,u⟩:∃e,c.T[a]?=some e:=⟨_,zB ha⟩;obtain⟨eb,G⟩:∃e,c.T[b]?=some e:=⟨_,zB hb⟩;obtain⟨a0,a8,X,a9,H,D,s,E⟩:=hI.look u;obtain⟨a7,Y,a5,W,y,z,K,J⟩:=hI.look G;obtain⟨a2,b0,b1,V,I,_⟩:=hI.look hI.t0;obtain⟨a4,a1,a3,Z,v,_⟩:=hI.look hI.t1;have B:0<c.T.length:=(zC.1 hI.t0).1;have R:1<c.T.length:=(zC.1 hI.t1).1;obtain⟨p,C,f,x,t,F,-⟩:=rY (rfl:w.heap.size=_) [ae c.m] 95 [ae (c.R a)] 103 [ae (c.R b)] 103;replace f:Below _ _ p:=f;have c1:p.cell? (aD w.heap.size 0)=some (ae c.m):=x.cell 0;have c2:p.cell? (aD (w.heap.size+1) 0)=some (ae (c.R a)):=t.cell 0;have c3:p.cell? (aD (w.heap.size+2) 0)=some (ae (c.R b)):=F.cell 0;have M:=hI.mb.below f;have c4:p.cell? (aD c.m 1)=some (ae (c.R 0)):=M.cell 1;have c5:p.cell? (aD c.m 2)=some (ae (c.R 1)):=M.cell 2;have a6:=M.lt;have U:=aa C;have g:=ag.below H f;have i:=ag.below y f;have d:=ag.below I f;have m:=ag.below v f;have T:Hid (∀r,(r.heap=p.heap/\r.os=p.os/\r.tape=p.tape/\r.output=p.output)->au w c q (aJ (lg c.T a) (lg c.T b)) (sz c.T j) (.returned (ae (c.R j))) r):=λr o=>by
  have A:Bw w r:=⟨o.2.1.trans f.os,o.2.2.1.trans f.tape,o.2.2.2.trans f.output,by rw[o.1];exact f.size,λk hk=>by rw[o.1];exact f.block k hk⟩;refine⟨c,j,rfl,hI.below A,Gone.below A,by omega,?_,Me.refl _⟩;rcases hk with⟨rfl,rfl⟩|⟨_,rfl,rfl⟩|⟨_,_,rfl,rfl⟩|⟨_,_,_,rfl,rfl⟩
  ·rw[hI.none,CZ]
  ·rw[hI.none,uc]
  ·rw[hI.emp,AU]
  ·rw[hI.emp,kQ]
 have q8:=lI (c.R 0);have q9:=lI (c.R 1);have P:a≠0->c.R a≠c.R 0:=λn h=>n (hI.inj _ _ ha B h);have L:b≠0->c.R b≠c.R 0:=λn h=>n (hI.inj _ _ hb B h);have N:a≠1->c.R a≠c.R 1:=λn h=>n (hI.inj _ _ ha R h);clear hI H y I v f x t F M C s K D z E J u G;rcases hk with⟨rfl,rfl⟩|⟨n,rfl,rfl⟩|⟨n,O,rfl,rfl⟩|⟨n,O,Q,rfl,rfl⟩
 all_goals
  try (have q0:=λk=>aF (g.drewN k) (d.drewN k) (P n);have r0:=λk l=>aF ((g.drewN k).drewN l) ((d.drewN k).drewN l) (P n);have s0:=λk l j=>aF (((g.drewN k).drewN l).drewN j) (((d.drewN k).drewN l).drewN j) (P n))
  try (have q1:=λk=>aF (i.drewN k) (d.drewN k) (L O);have r1:=λk l=>aF ((i.drewN k).drewN l) ((d.drewN k).drewN l) (L O);have s1:=λk l j=>aF (((i.drewN k).drewN l).drewN j) (((d.drewN k).drewN l).drewN j) (L O))
  try (have q2:=λk=>aF (g.drewN k) (m.drewN k) (N Q);have r2:=λk l=>aF ((g.drewN k).drewN l) ((m.drewN k).drewN l) (N Q);have s2:=λk l j=>aF (((g.drewN k).drewN l).drewN j) (((m.drewN k).drewN l).drewN j) (N Q))
  clear g i d m P L N;go_enter func114,ntmps114;go_wp2_with fail;rw[U.out];generalize hS:w.heap.size=S at *
  go_quiet (fail)
  go_wp2_with fail
  try (go_quiet (fail);go_wp2_with fail)
  try (go_quiet (fail);go_wp2_with fail)
  go_ret;subst hS;exact T _ ⟨rfl,rfl,rfl,rfl⟩
theorem ql {c:MC}(hI:MkI w c q)(ha:a<c.T.length)(hb:b<c.T.length)(hk:(a=0/\0=j)\/(a≠0/\b=0/\0=j)\/(a≠0/\b≠0/\a=1/\b=j)\/(a≠0/\b≠0/\a≠1/\b=1/\a=j)):Calls prog 114 #[ae c.m,ae (c.R a),ae (c.R b)] w (au w c q (aJ (lg c.T a) (lg c.T b)) (bf (sz c.T a) (sz c.T b))):=by
 refine (XB hI ha hb hk).mono ?_;rintro p o ⟨i,h,k,f,d,l,e,m⟩;refine⟨i,h,k,f,d,l,e,Me.trans m ?_⟩;have n:=hI.sz_one ha;have r:=hI.sz_one hb;have g:=hI.sz0;rcases hk with⟨rfl,rfl⟩|⟨_,rfl,rfl⟩|⟨_,_,rfl,rfl⟩|⟨_,_,_,rfl,rfl⟩<;>refine⟨?_,?_,?_,?_⟩<;>simp only[g,bf,aV,Me.le_def]at *<;>omega
theorem XV {c:MC}(hI:MkI w c q)(ha:a<c.T.length):Calls prog 114 #[ae c.m,ae (c.R a),ae (c.R 1)] w (au w c q (lg c.T a) (sz c.T a)):=by
 have e:1<c.T.length:=(zC.1 hI.t1).1;have d:aJ (lg c.T a) (lg c.T 1)=lg c.T a:=by rw[hI.emp,kQ]
 rw[<-d];exact XB (b:=1) hI ha e (by omega)
theorem YN (h:W.heap.size=N)(o2:Obj):ag ((W.alloc (.cells cs.toArray T)).alloc o2) N cs T:=XJ h o2
theorem YO (h:W.heap.size=N)(o1:Obj):ag ((W.alloc o1).alloc (.cells cs.toArray T)) (N+1) cs T:=XK h o1
theorem WV (W:World)(o1 o2:Obj):Bw W ((W.alloc o1).alloc o2):=(((zE _ W).alloc (zA _) _).alloc (by simp) _)
theorem QB {c:MC}{S:Nat}(hI:MkI w c q)(hq:q<=9000000000000000000)(ha:a<c.T.length)(hb:b<c.T.length)(hen:en=true↔aJ (lg c.T a) (lg c.T b) [])(hB0:Bw w W0)(hS:w.heap.size=S)(hs0:W0.heap.size=S+3)(hb1:ag W0 S [ae c.m] 95)(hb2:ag W0 (S+1) [ae (c.R a)] 103)(hb3:ag W0 (S+1+1) [ae (c.R b)] 103)(hP:aZ W0)
  (hB:Bw W0 W) (hp:ag W (S+3) [ae (c.R a),ae (c.R b)] 103) (hx:ag W (S+3+1) [Vi 0,Vi 1,.slice (some (aD (S+3) 0)) 2 2,.bool en,Vf 159 #[ae S,ae (S+1),ae (S+1+1)]] 113):Calls prog 62 #[ae c.m,ae (S+3+1),Vz] W (jF W0 c (q+1) (.pair a b)):=by
 have h:∀g,S<=g->g≠S+3+1->¬(c.S g\/g=S+3+1):=λg k i f=>by
  rcases f with f|f
  ·have:=hI.S_lt f;omega
  ·exact i f
 exact sk (e:=.pair a b) (hI.below hB0) hB (hP.below hB) trivial (λx hx=>by simp[RE.parts]at hx;rcases hx with rfl|rfl;exact ha;exact hb) (by omega) hx hen
  (λj p d=>by
   match j,d with
   |0,d=>simp[RE.parts]at d;subst d;exact⟨S+3,0,rfl,hp.lt,h _ (by omega) (by omega),hp.cell 0⟩
   |1,d=>simp[RE.parts]at d;subst d;exact⟨S+3,0,rfl,hp.lt,h _ (by omega) (by omega),hp.cell 1⟩)
  ⟨S,S+1,S+1+1,rfl,rfl,h _ (by omega) (by omega),h _ (by omega) (by omega),h _ (by omega) (by omega),hb1.below hB,hb2.below hB,hb3.below hB⟩ (iE.nil _ _) (by simp[RE.args]) (by simp[RE.parts]) hq
theorem QC {c:MC}(hI:MkI w c q)(hq:q<=9000000000000000000)(ha:a<c.T.length)(hb:b<c.T.length)(hP:aZ w)(h0:a≠0)(g0:b≠0)(h1:a≠1)(g1:b≠1)(hkd:∀e,c.T[a]?=some e->e.kd≠1):Calls prog 114 #[ae c.m,ae (c.R a),ae (c.R b)] w (au w c (q+1) (aJ (lg c.T a) (lg c.T b)) (bf (sz c.T a) (sz c.T b))):=by
 obtain⟨ea,X⟩:∃e,c.T[a]?=some e:=⟨_,zB ha⟩;obtain⟨eb,b3⟩:∃e,c.T[b]?=some e:=⟨_,zB hb⟩;obtain⟨c6,b5,y,c8,a1,D,R,B⟩:=hI.look X;obtain⟨d5,c7,u,b4,T,E,P,F⟩:=hI.look b3;obtain⟨d4,d1,d2,c9,N,_⟩:=hI.look hI.t0;obtain⟨d3,b6,c0,d0,U,_⟩:=hI.look hI.t1;have a2:0<c.T.length:=(zC.1 hI.t0).1;have a0:1<c.T.length:=(zC.1 hI.t1).1;obtain⟨W0,I,i,t,v,z,-⟩:=rY (rfl:w.heap.size=_) [ae c.m] 95 [ae (c.R a)] 103 [ae (c.R b)] 103;replace i:Below _ _ W0:=i;have O:W0.cell? (aD w.heap.size 0)=some (ae c.m):=t.cell 0;have c2:W0.cell? (aD (w.heap.size+1) 0)=some (ae (c.R a)):=v.cell 0;have c3:W0.cell? (aD (w.heap.size+2) 0)=some (ae (c.R b)):=z.cell 0;have hm:=hI.mb.below i;have c4:W0.cell? (aD c.m 1)=some (ae (c.R 0)):=hm.cell 1;have c5:W0.cell? (aD c.m 2)=some (ae (c.R 1)):=hm.cell 2;have d6:=hm.lt;have b1:=aa I;have b9:=aa i;have HI:=aa hI;have d:=ag.below a1 i;have f:=ag.below T i;have m:=ag.below N i;have n:=ag.below U i;have p0:c.R a≠c.R 0:=λh=>h0 (hI.inj _ _ ha a2 h);have q0:=λk=>aF (d.drewN k) (m.drewN k) p0;have r0:=λk l=>aF ((d.drewN k).drewN l) ((m.drewN k).drewN l) p0;have s0:=λk l j=>aF (((d.drewN k).drewN l).drewN j) (((m.drewN k).drewN l).drewN j) p0;have p1:c.R b≠c.R 0:=λh=>g0 (hI.inj _ _ hb a2 h);have q1:=λk=>aF (f.drewN k) (m.drewN k) p1;have r1:=λk l=>aF ((f.drewN k).drewN l) ((m.drewN k).drewN l) p1;have s1:=λk l j=>aF (((f.drewN k).drewN l).drewN j) (((m.drewN k).drewN l).drewN j) p1;have p2:c.R a≠c.R 1:=λh=>h1 (hI.inj _ _ ha a0 h);have q2:=λk=>aF (d.drewN k) (n.drewN k) p2;have r2:=λk l=>aF ((d.drewN k).drewN l) ((n.drewN k).drewN l) p2;have s2:=λk l j=>aF (((d.drewN k).drewN l).drewN j) (((n.drewN k).drewN l).drewN j) p2;have p3:c.R b≠c.R 1:=λh=>g1 (hI.inj _ _ hb a0 h);have q3:=λk=>aF (f.drewN k) (n.drewN k) p3;have r3:=λk l=>aF ((f.drewN k).drewN l) ((n.drewN k).drewN l) p3;have s3:=λk l j=>aF (((f.drewN k).drewN l).drewN j) (((n.drewN k).drewN l).drewN j) p3;obtain⟨S,K⟩:∃S,w.heap.size=S:=⟨_,rfl⟩;have G:W0.heap.size=S+3:=by rw[<-I,<-K];simp
 have b0:Hid ((y&&u)=true↔aJ (lg c.T a) (lg c.T b) []):=by show _↔_;rw[Dc,yP,D,E]
 rw[K]at t v z O c2 c3;have H:W0.cell? (aD (c.R a) 3)=some (.bool y):=d.cell 3;have J:W0.cell? (aD (c.R b) 3)=some (.bool u):=f.cell 3;have b7:W0.cell? (aD (c.R a) 1)=some (Vi ea.kd):=d.cell 1;have Z:=d.lt;have Q:=f.lt;have b8:(ea.kd==1)=false:=zD.2 (hkd ea X);have M:Hid (∀V:World,(V.heap=W0.heap/\V.os=W0.os/\V.tape=W0.tape/\V.output=W0.output)->Bw W0 V):=λV s=>⟨s.2.1,s.2.2.1,s.2.2.2,by rw[s.1];exact zA _,λk _=>by rw[s.1]⟩;have HC:=aa (λ(V W:World) (s:(V.heap=W0.heap/\V.os=W0.os/\V.tape=W0.tape/\V.output=W0.output))=>QB (W:=W) (W0:=V) (S:=S) (en:=y&&u) hI hq ha hb b0 (i.trans ((M V s).mono i.size)) K (by rw[s.1];exact G) (t.below (M V s)) (v.below (M V s)) (z.below (M V s)) ((hP.below i).below (M V s)));have a5:Hid (∀(V:World) (r:Ending) (L:World),(V.heap=W0.heap/\V.os=W0.os/\V.tape=W0.tape/\V.output=W0.output)->jF V c (q+1) (.pair a b) r L->au w c (q+1) (aJ (lg c.T a) (lg c.T b)) (bf (sz c.T a) (sz c.T b)) r L):=λV r L s h5=>h5.at (i.trans ((M V s).mono i.size)) (λx hx=>by simp[RE.parts]at hx;rcases hx with rfl|rfl;exact ha;exact hb) rfl (Me.refl _);have HH:Hid (∀o:World,(∀k,k<W0.heap.size->o.heap[k]?=W0.heap[k]?)->o.cell? (aD S 0)=some (ae c.m)/\o.cell? (aD (S+1) 0)=some (ae (c.R a))/\o.cell? (aD (S+1+1) 0)=some (ae (c.R b))/\o.cell? (aD (c.R a) 3)=some (.bool y)/\o.cell? (aD (c.R b) 3)=some (.bool u)):=λo hb=>⟨(zP (w:=W0) (hb S t.lt)).trans O,(zP (w:=W0) (hb (S+1) v.lt)).trans c2,(zP (w:=W0) (hb (S+1+1) z.lt)).trans c3,(zP (w:=W0) (hb _ Z)).trans H,(zP (w:=W0) (hb _ Q)).trans J⟩;have a4:Hid (∀(V o:World) (c':MC),(V.heap=W0.heap/\V.os=W0.os/\V.tape=W0.tape/\V.output=W0.output)->Gone V c o c'->o.cell? (aD S 0)=some (ae c.m)/\o.cell? (aD (S+1) 0)=some (ae (c.R a))/\o.cell? (aD (S+1+1) 0)=some (ae (c.R b))/\o.cell? (aD (c.R a) 3)=some (.bool y)/\o.cell? (aD (c.R b) 3)=some (.bool u)):=λV o c' s hG=>by
  have nn:∀g,S<=g->¬c.S g:=λg hg h=>by have:=hI.S_lt h;omega
  have A:∀p:Addr,p.block<W0.heap.size->¬c.S p.block->o.cell? p=W0.cell? p:=λp hp hn=>(hG.but.cell (p:=p) (by rw[s.1];exact hp) hn).trans (zP (w:=W0) (by rw[s.1]));exact⟨(A (aD S 0) t.lt (nn S (by omega))).trans O,(A (aD (S+1) 0) v.lt (nn (S+1) (by omega))).trans c2,(A (aD (S+1+1) 0) z.lt (nn (S+1+1) (by omega))).trans c3,(A (aD (c.R a) 3) Z B).trans H,(A (aD (c.R b) 3) Q F).trans J⟩
 rw[<-K]at O c2 c3;have b2:=aa K;clear hI a1 T N U d f m n i t v z hm I R P D E B F hP hkd K H J;go_enter func114,ntmps114;go_wp2_with fail;rw[b1.out];simp only[b2.out]at O c2 c3 ⊢
 go_quiet (fail)
 go_wp2_with fail
 go_quiet (fail)
 go_wp2_with fail
 go_quiet (fail)
 go_wp2_with fail;cases y
 all_goals
  simp only[Bool.false_and,Bool.true_and]at HC;refine yW (S:=λo:World=>o.cell? (aD S 0)=some (ae c.m)/\o.cell? (aD (S+1) 0)=some (ae (c.R a))/\o.cell? (aD (S+1+1) 0)=some (ae (c.R b))/\o.cell? (aD (c.R a) 3)=some (.bool _)/\o.cell? (aD (c.R b) 3)=some (.bool u)) (by kernel_rfl) (HH _ (λ_ _=>rfl)) (λhHeld=>?_);refine tk 0 ?_;simp only[tS];refine tk 1 ?_;simp only[tS];refine tk 2 ?_;simp only[tS];refine tk 4 ?_;simp only[tS];refine tk 5 ?_;simp only[tS];refine tk 6 ?_;simp only[tS];refine tk 7 ?_;simp only[tS];refine tk 8 ?_;simp only[tS]
  first|refine tk 9 ?_|refine CG 9 ?_
  simp only[tS]
  first|refine tk 10 ?_|refine CG 10 ?_
  simp only[tS]
  first|refine tk 11 ?_|refine CG 11 ?_
  simp only[tS]
  first|refine tk 12 ?_|refine CG 12 ?_
  simp only[tS];refine tk 13 ?_;simp only[tS];refine tk 14 ?_;simp only[tS];refine di 3 (λY C=>?_);go_simp;refine C _ _ (HH _ (λk hk=>zS _ _ _ hk)) (λhHeld=>?_);clear C Y
  try simp only[tS]
  refine tk 15 ?_;simp only[tS];refine di 16 (λY C=>?_);go_simp;refine C _ _ (HH _ (λk hk=>(zS _ _ _ (by simp;omega)).trans (zS _ _ _ hk))) (λhHeld=>?_);clear C Y
  try simp only[tS]
  refine di 17 (λY C=>?_);go_simp;refine (HC (W0.drewN _) _ ⟨rfl,rfl,rfl,rfl⟩ (WV _ _ _) (YN (W:=W0.drewN _) G _) (YO (W:=W0.drewN _) G _)).mono ?_;intro r L h5;have a3:=aa (a5 (W0.drewN _) r L ⟨rfl,rfl,rfl,rfl⟩ h5);obtain⟨c',j,rfl,a6,hG,a8,a7⟩:=h5;have a9:=a4.out (W0.drewN _) L c' ⟨rfl,rfl,rfl,rfl⟩ hG;clear a6 hG a8 a7;go_wp2_with fail;refine C _ _ a9 (λhHeld=>?_);clear C Y
  try simp only[tS]
  refine tk 18 ?_;simp only[tS];refine yV (by kernel_rfl) ?_ _;go_wp2_with fail;go_ret;exact a3
theorem MkI.uniq {c:MC}(h:MkI w c q)(hi:c.T[i]?=some e)(hj:c.T[j]?=some e):i=j:=by
 obtain⟨f,_,b⟩:=h.map;have d:=(b e.name (c.R i)).2 ⟨i,e,hi,rfl,rfl⟩;have a:=(b e.name (c.R j)).2 ⟨j,e,hj,rfl,rfl⟩;rw[d]at a;exact h.inj i j (zC.1 hi).1 (zC.1 hj).1 (yT a)
def FH (a:Nat):Prop:=∀(w:World) (c:MC) (q b:Nat),MkI w c q->a<c.T.length->b<c.T.length->aZ w->q+(sz c.T a).n<=9000000000000000000 ->
 Calls prog 114 #[ae c.m,ae (c.R a),ae (c.R b)] w (au w c (q+(sz c.T a).n) (aJ (lg c.T a) (lg c.T b)) (bf (sz c.T a) (sz c.T b)))
theorem au.more {w:World}{c:MC}{q q':Nat}{L:Lg}{Z:Me}{r:Ending}{w':World}(h:au w c q L Z r w')(hq:q<=q'):au w c q' L Z r w':=by
 obtain⟨b,j,a,d,e⟩:=h;exact⟨b,j,a,d.more hq,e⟩
theorem Te {c:MC}{a0 a1:Nat}(ih0:FH a0)(ih1:FH a1)(hI:MkI w c q)(ha:a<c.T.length)(hb:b<c.T.length)(hP:aZ w)(hq:q+(sz c.T a).n<=9000000000000000000)(h0:a≠0)(g0:b≠0)(h1:a≠1)(g1:b≠1)(hea:c.T[a]?=some (.pair a0 a1)):Calls prog 114 #[ae c.m,ae (c.R a),ae (c.R b)] w (au w c (q+(sz c.T a).n) (aJ (lg c.T a) (lg c.T b)) (bf (sz c.T a) (sz c.T b))):=by
 obtain⟨eb,d9⟩:∃e,c.T[b]?=some e:=⟨_,zB hb⟩;obtain⟨g2,G,f9,f1,b1,a8,A,O⟩:=hI.look hea;obtain⟨e8,g5,g4,f4,W,a3,b3,a4⟩:=hI.look d9;obtain⟨f6,f3,f7,e4,b2,_⟩:=hI.look hI.t0;obtain⟨f0,e5,g3,e6,b5,_⟩:=hI.look hI.t1;have X:0<c.T.length:=(zC.1 hI.t0).1;have a2:1<c.T.length:=(zC.1 hI.t1).1;obtain⟨d,a5,i,J,L,I,-⟩:=rY (rfl:w.heap.size=_) [ae c.m] 95 [ae (c.R a)] 103 [ae (c.R b)] 103;replace i:Below _ _ d:=i;have c1:d.cell? (aD w.heap.size 0)=some (ae c.m):=J.cell 0;have c2:d.cell? (aD (w.heap.size+1) 0)=some (ae (c.R a)):=L.cell 0;have c3:d.cell? (aD (w.heap.size+2) 0)=some (ae (c.R b)):=I.cell 0;have hm:=hI.mb.below i;have c4:d.cell? (aD c.m 1)=some (ae (c.R 0)):=hm.cell 1;have z:d.cell? (aD c.m 2)=some (ae (c.R 1)):=hm.cell 2;have e3:=hm.lt;have c0:=aa a5;have f2:=aa i;have HI:=aa hI;have m:=ag.below b1 i;have o:=ag.below W i;have s:=ag.below b2 i;have t:=ag.below b5 i;have p0:c.R a≠c.R 0:=λh=>h0 (hI.inj _ _ ha X h);have q0:=λk=>aF (m.drewN k) (s.drewN k) p0;have r0:=λk l=>aF ((m.drewN k).drewN l) ((s.drewN k).drewN l) p0;have s0:=λk l j=>aF (((m.drewN k).drewN l).drewN j) (((s.drewN k).drewN l).drewN j) p0;have p1:c.R b≠c.R 0:=λh=>g0 (hI.inj _ _ hb X h);have q1:=λk=>aF (o.drewN k) (s.drewN k) p1;have r1:=λk l=>aF ((o.drewN k).drewN l) ((s.drewN k).drewN l) p1;have s1:=λk l j=>aF (((o.drewN k).drewN l).drewN j) (((s.drewN k).drewN l).drewN j) p1;have p2:c.R a≠c.R 1:=λh=>h1 (hI.inj _ _ ha a2 h);have q2:=λk=>aF (m.drewN k) (t.drewN k) p2;have r2:=λk l=>aF ((m.drewN k).drewN l) ((t.drewN k).drewN l) p2;have s2:=λk l j=>aF (((m.drewN k).drewN l).drewN j) (((t.drewN k).drewN l).drewN j) p2;have p3:c.R b≠c.R 1:=λh=>g1 (hI.inj _ _ hb a2 h);have q3:=λk=>aF (o.drewN k) (t.drewN k) p3;have r3:=λk l=>aF ((o.drewN k).drewN l) ((t.drewN k).drewN l) p3;have s3:=λk l j=>aF (((o.drewN k).drewN l).drewN j) (((t.drewN k).drewN l).drewN j) p3;have C:=(hI.wf a _ hea).2;have E:a0<c.T.length:=by have:=C a0 (by simp[RE.parts]);omega
 have b9:a1<c.T.length:=by have:=C a1 (by simp[RE.parts]);omega
 have T:sz c.T a=bf (sz c.T a0) (sz c.T a1):=pg hea C;have a7:(sz c.T a).n=(sz c.T a0).n+(sz c.T a1).n:=by rw[T];rfl
 have R:lg c.T a=aJ (lg c.T a0) (lg c.T a1):=hI.lang hea;obtain⟨u,f,rfl,Q,b0,P⟩:=A 0 a0 rfl;obtain⟨f8,e1,e',_,_,b4⟩:=A 1 a1 rfl;cases e';rw[xF]at P;obtain⟨S,hS⟩:∃S,w.heap.size=S:=⟨_,rfl⟩;have y0:d.cell? (aD u f)=some (ae (c.R a0)):=(i.cell (p:=(aD u f)) Q).trans P;have y1:d.cell? ⟨u,f+1,none⟩=some (ae (c.R a1)):=(i.cell (p:=⟨u,f+1,none⟩) Q).trans b4;have c9:d.cell? (aD (c.R a) 2)=some (.slice (some (aD u f)) 2 G):=m.cell 2;have e9:d.cell? (aD (c.R a) 1)=some (Vi 1):=m.cell 1;have d8:=m.lt;have N:u<d.heap.size:=zF Q i.size;rw[hS]at J L I c1 c2 c3;have Z:Hid (∀V:World,(V.heap=d.heap/\V.os=d.os/\V.tape=d.tape/\V.output=d.output)->Bw d V):=λV v=>⟨v.2.1,v.2.2.1,v.2.2.2,by rw[v.1];exact zA _,λk _=>by rw[v.1]⟩;have d7:Hid (∀V:World,(V.heap=d.heap/\V.os=d.os/\V.tape=d.tape/\V.output=d.output)->Calls prog 114 #[ae c.m,ae (c.R a1),ae (c.R b)] V (au V c (q+(sz c.T a1).n) (aJ (lg c.T a1) (lg c.T b)) (bf (sz c.T a1) (sz c.T b)))):=λV v=>ih1 V c q b ((hI.below i).below (Z V v)) b9 hb ((hP.below i).below (Z V v)) (by omega);have d2:Hid (∀(V K:World) (z:MC) (M:Nat),(V.heap=d.heap/\V.os=d.os/\V.tape=d.tape/\V.output=d.output)->MkI K z (q+(sz c.T a1).n)->Gone V c K z->M<z.T.length->lg z.T M=aJ (lg c.T a1) (lg c.T b)->sz z.T M<=bf (sz c.T a1) (sz c.T b) ->
   Calls prog 114 #[ae c.m,ae (c.R a0),ae (z.R M)] K (λr Y=>au w c (q+(sz c.T a).n) (aJ (lg c.T a) (lg c.T b)) (bf (sz c.T a) (sz c.T b)) r Y/\∃c6,Gone V c Y c6)):=λV K z M v F n H B D=>by
  have d4:=i.trans ((Z V v).mono i.size);have b7:aZ K:=n.pow ((hI.below i).below (Z V v)) ((hP.below i).below (Z V v));have e2:=n.len;have hc:=ih0 K z (q+(sz c.T a1).n) M F (by omega) H b7 (by rw[n.sz E];omega);rw[n.m,n.R a0 E,n.sz E,n.lang E]at hc;refine hc.mono ?_;rintro r Y ⟨c6,j6,rfl,d3,a6,d6,b8,d1⟩;refine⟨⟨c6,j6,rfl,d3.more (by omega),(Gone.below d4).trans (n.trans a6),d6,?_,by rw[T,IT];exact Me.trans d1 (kP (Me.refl _) D)⟩,c6,n.trans a6⟩;rw[b8,B,R,AV]
 have U:Hid (∀(V x:World) (c':MC),(V.heap=d.heap/\V.os=d.os/\V.tape=d.tape/\V.output=d.output)->Gone V c x c'->x.cell? (aD S 0)=some (ae c.m)/\x.cell? (aD (S+1) 0)=some (ae (c.R a))/\x.cell? (aD (S+1+1) 0)=some (ae (c.R b))/\x.cell? (aD (c.R a) 2)=some (.slice (some (aD u f)) 2 G)/\x.cell? (aD u f)=some (ae (c.R a0))/\x.cell? ⟨u,f+1,none⟩=some (ae (c.R a1))):=λV x c' v hG=>by
  have nn:∀g,S<=g->¬c.S g:=λg hg h=>by have:=hI.S_lt h;omega
  have y:∀p:Addr,p.block<d.heap.size->¬c.S p.block->x.cell? p=d.cell? p:=λp hp hn=>(hG.but.cell (p:=p) (by rw[v.1];exact hp) hn).trans (zP (w:=d) (by rw[v.1]));exact⟨(y (aD S 0) J.lt (nn S (by omega))).trans c1,(y (aD (S+1) 0) L.lt (nn (S+1) (by omega))).trans c2,(y (aD (S+1+1) 0) I.lt (nn (S+1+1) (by omega))).trans c3,(y (aD (c.R a) 2) d8 O).trans c9,(y (aD u f) N b0).trans y0,(y ⟨u,f+1,none⟩ N b0).trans y1⟩
 have e0:Hid (∀V:World,(V.heap=d.heap/\V.os=d.os/\V.tape=d.tape/\V.output=d.output)->V.cell? (aD S 0)=some (ae c.m)/\V.cell? (aD (S+1) 0)=some (ae (c.R a))/\V.cell? (aD (S+1+1) 0)=some (ae (c.R b))/\V.cell? (aD (c.R a) 2)=some (.slice (some (aD u f)) 2 G)/\V.cell? (aD u f)=some (ae (c.R a0))/\V.cell? ⟨u,f+1,none⟩=some (ae (c.R a1))):=λV v=>U V V c v (Gone.refl _ _);rw[<-hS]at c1 c2 c3;have c8:=aa hS;have e7:=aa R;clear hI b1 W b2 b5 m o s t i J L I hm a5 A b3 a8 a3 O a4 hP hS R T a7 C P b4 ih0 ih1 hq;go_enter func114,ntmps114;go_wp2_with fail;rw[c0.out];simp only[c8.out]at c1 c2 c3 ⊢
 go_quiet (fail)
 go_wp2_with fail
 go_quiet (fail)
 go_wp2_with fail
 go_quiet (fail)
 go_wp2_with fail
 go_region_held3 (λx=>x.cell? (aD S 0)=some (ae c.m)/\x.cell? (aD (S+1) 0)=some (ae (c.R a))/\x.cell? (aD (S+1+1) 0)=some (ae (c.R b))/\x.cell? (aD (c.R a) 2)=some (.slice (some (aD u f)) 2 G)/\x.cell? (aD u f)=some (ae (c.R a0))/\x.cell? ⟨u,f+1,none⟩=some (ae (c.R a1)))
  (first|exact e0 _ ⟨rfl,rfl,rfl,rfl⟩|exact d5|exact d0)
  (first
   |(go_at_call 114;refine b6.mono ?_;rintro r Y ⟨h6,c7,a9⟩;have H6:=aa h6;have d0:=U.out (d.drewN _) Y c7 ⟨rfl,rfl,rfl,rfl⟩ a9;obtain⟨c6,j6,rfl,h7⟩:=h6;clear h7 a9)
   |(go_at_call 114;refine (d7 (d.drewN _) ⟨rfl,rfl,rfl,rfl⟩).mono ?_;rintro r K ⟨z,M,rfl,F,n,H,B,D⟩;have d5:=U.out (d.drewN _) K z ⟨rfl,rfl,rfl,rfl⟩ n;have b6:=aa (d2 (d.drewN _) K z M ⟨rfl,rfl,rfl,rfl⟩ F n H B D);have f5:=aa n;clear F n H B D))
 all_goals (go_wp2_with fail;go_ret;exact H6)
theorem wU:∀a,FH a:=by
 intro a
 induction a using Nat.strongRecOn with
 |ind a ih=>
  intro w c q b f g i u z;have B:1<=(sz c.T a).n:=(f.sz_one g).1;by_cases v:a=0
  ·exact (ql (j:=0) f g i (by omega)).mono (λ_ _ h=>h.more (by omega))
  by_cases x:b=0
  ·exact (ql (j:=0) f g i (by omega)).mono (λ_ _ h=>h.more (by omega))
  by_cases r:a=1
  ·exact (ql (j:=b) f g i (by omega)).mono (λ_ _ h=>h.more (by omega))
  by_cases t:b=1
  ·exact (ql (j:=a) f g i (by omega)).mono (λ_ _ h=>h.more (by omega))
  obtain⟨e,k⟩:∃e,c.T[a]?=some e:=⟨_,zB g⟩;have d:e.kd≠1->Calls prog 114 #[ae c.m,ae (c.R a),ae (c.R b)] w (au w c (q+(sz c.T a).n) (aJ (lg c.T a) (lg c.T b)) (bf (sz c.T a) (sz c.T b))):=λA=>by
   have p:∀o,c.T[a]?=some o->o.kd≠1:=λo h=>by rw[k]at h;cases h;exact A
   exact (QC f (by omega) g i u v x r t p).mono (λ_ _ h=>h.more (by omega))
  cases e with
  |empty=>exact absurd (f.uniq k f.t1) r
  |pair a0 a1=>
   have y:=(f.wf a _ k).2;exact Te (ih a0 (y a0 (by simp[RE.parts]))) (ih a1 (y a1 (by simp[RE.parts]))) f g i u z v x r t k
  |set s=>exact d (by simp[RE.kd])
  |or l=>exact d (by simp[RE.kd])
  |not a=>exact d (by simp[RE.kd])
  |many a m n=>exact d (by simp[RE.kd])
theorem Iv {c:MC}(hI:MkI w c q):Calls prog 74 #[ae c.m,ae (c.R a),Vi m,Vi 0] w λr w'=>r=.returned (ae (c.R 1))/\Bw w w':=by
 have d:=hI.mb;have f:w.cell? (aD c.m 2)=some (ae (c.R 1)):=d.cell 2;have b:=d.lt;have e:=aa (show Bw w ((((w.alloc (.cells #[ae c.m] 95)).alloc (.cells #[ae (c.R a)] 103)).alloc (.cells #[Vi m] 3)).alloc (.cells #[Vi 0] 3))from ((((zE _ _).alloc (zA _) _).alloc (by simp) _).alloc (by simp;omega) _).alloc (by simp;omega) _);have g:c.m≠w.heap.size:=by omega
 have h:c.m≠w.heap.size+1:=by omega
 have i:((((w.alloc (.cells #[ae c.m] 95)).alloc (.cells #[ae (c.R a)] 103)).alloc (.cells #[Vi m] 3)).alloc (.cells #[Vi 0] 3)).cell? (aD c.m 2)=some (ae (c.R 1)):=(e.cell (p:=(aD c.m 2)) b).trans f;go_enter func74,ntmps74;go_wp2_with fail;go_ret;exact⟨rfl,e⟩
theorem rt {c:MC}{n:Int}(hI:MkI w c q)(hq:q<=9000000000000000000)(ha:a<c.T.length)(hP:aZ w)(hm0:0<=m)(hm5:m<=5)(hn:n=-1\/(m<=n/\n<=5)):Calls prog 74 #[ae c.m,ae (c.R a),Vi m,Vi n] w (au w c (q+1) (dB (lg c.T a) m n) (cZ (sz c.T a))):=by
 by_cases f:n=0
 ·subst f;have b:m=0:=by omega
  refine (Iv hI).mono ?_;rintro r g ⟨rfl,e⟩;have d:1<c.T.length:=(zC.1 hI.t1).1;exact⟨c,1,rfl,(hI.below e).more (by omega),Gone.below e,d,by rw[hI.emp,Da b],by rw[hI.sz1];refine⟨?_,?_,?_,?_⟩<;>simp only[cZ,aV]<;>omega⟩
 ·exact KF hI hq ha hP hm0 hm5 (by omega)
theorem Mj {P:Program}{k:TypeId}{R:Value->Option (DataW Unit×List MemPlace)}{D:DataW Unit}(h:w.ownsMap P k R b n D):w.ownsMap P k R b (Maps.size D) D/\Maps.size D<=n:=by
 obtain⟨c,a,f,d,g,rfl⟩:=h;have e:Maps.size (DataW.map ((c.toList.map (WideElems.rg P k R)).foldr DataW.insert []))=c.size:=by
  show List.length (List.foldr DataW.insert [] _)=_
  rw[length_sorted];simp
 exact⟨⟨c,a,f,d,by omega,rfl⟩,by omega⟩
theorem iB.storeAny {f:Int->Option Nat}(h:iB w b f n)(s:Int)(h0:-9223372036854775808<=s)(h9:s<=9223372036854775807)(hn:n<maxLen)(x:Nat):∃w' n',(Instr.mapUpdate 216 (.map (some b)) (.int .i64 s) (.pointer (some ⟨x,0,none⟩))).run prog w=.ok () w'/\iB w' b (MN f s x) n'/\n'<=n+1/\w.mapTurned w' b:=by
 obtain⟨D,k,p,l⟩:=h;obtain⟨w',c,d,o⟩:=k.store (t:=216) (e:=103) (Maps.int_keyed underlying3) underlying216 hn (Kr h0 h9) (Kg x);have m:=k.isMap;obtain⟨a,i⟩:=Mj d;refine⟨w',_,c,⟨_,a,rfl,λt=>?_⟩,i,o⟩;unfold MN;by_cases e:t=s
 ·subst e;rw[zX rfl];refine⟨Maps.has_put_same m (by trivial) _,λy j=>?_⟩;cases j;exact Maps.atKey_put_same m (by trivial) _ _
 ·rw[zR e];have g:(Lit.int .i64 t)≠.int .i64 s:=λh=>e (by injection h);rw[Maps.has_put_other g];exact⟨(l t).1,λy j=>by rw[Maps.atKey_put_other g];exact (l t).2 y j⟩
theorem Wd {c:MC}{r:Int}{g:Int->Option Nat}(hI:MkI w c q)(hi:i<c.T.length)(hj:j<c.T.length)(hg:∀s x,g s=some x->∃j,j<c.T.length/\x=c.R j/\lg c.T j=aX (lg c.T i) s/\sz c.T j<=aN (sz c.T i))(hn:n<=q+1)(hL:lg c.T j=aX (lg c.T i) r)(hZ:sz c.T j<=aN (sz c.T i))(ht:w.mapTurned w' (c.KM i))(hm:iB w' (c.KM i) (MN g r (c.R j)) n):MkI w' c (q+1)/\Gone w c w' c:=by
 have v:But c.S w w':=(But.refl c.S w).turned ht (.inl (.inr ⟨i,hi,rfl⟩));have d:∀k,k<w.heap.size->k≠c.KM i->w'.heap[k]?=w.heap[k]?:=λk l t=>ht.grown.block k l (λe=>by injection e with e;exact t e);have b:Gone w c w' c:=⟨rfl,rfl,⟨[],by simp⟩,λ_ _=>rfl,λ_ _=>rfl,λk m p=>by omega,v,rfl,λg hg C=>d g hg (λe=>(hI.xs g C).2 (.inr ⟨i,hi,e⟩))⟩;refine⟨?_,b⟩;exact {
  mb:=hI.mb.but v hI.ms
  ms:=hI.ms
  map:=by
   obtain⟨f,m,p⟩:=hI.map;exact⟨f,m.block (d _ m.lt (λe=>hI.kmb i hi e.symm)),p⟩
  t0:=hI.t0
  t1:=hI.t1
  le:=by have:=hI.le;omega
  wf:=hI.wf
  rest:=λk e l=>(hI.rest k e l).gone b (zC.1 l).1 (λa y=>by have:=(hI.wf k e l).2 a y;have:=(zC.1 l).1;omega)
  know:=λk l=>by
   by_cases e:k=i
   ·subst e;refine⟨_,n,hm,by omega,λs x o=>?_⟩;unfold MN at o;by_cases u:s=r
    ·rw[zX u]at o;cases o;exact⟨j,hj,rfl,by rw[u];exact hL,hZ⟩
    ·rw[zR u]at o;exact hg s x o
   ·obtain⟨A,B,m,p,z⟩:=hI.know k l;exact⟨A,B,m.block (d _ m.lt (λh=>e (hI.kmi k i l hi h))),by omega,z⟩
  kmb:=hI.kmb
  kmi:=hI.kmi
  inj:=hI.inj
  low:=hI.low
  xs:=λg hg=>⟨zF (hI.xs g hg).1 v.size,(hI.xs g hg).2⟩ }
theorem We {c:MC}{Q:Nat}{r:Int}(hI:MkI w c q)(hi:i<c.T.length)(hq:Q<=9000000000000000000)(hqQ:q<=Q)(r0:-9223372036854775808<=r)(r9:r<=9223372036854775807)(hk:ag w k [.map (some (c.KM i))] 216)(hb:ag w b [Vf F cp] 111)(hkS:¬c.S k)(eg:∀args w,(callFunc F args).run prog w=.ok (.enter F args) w)
  (hin:Calls prog F (#[Vi r]++cp) w (au w c Q (aX (lg c.T i) r) (aN (sz c.T i)))):Calls prog 143 #[Vi r,ae k,ae b] w (au w c (Q+1) (aX (lg c.T i) r) (aN (sz c.T i))):=by
 obtain⟨g,n,K,X,G⟩:=hI.know i hi;have d:=K.look r r0 r9;have S:w.cell? (aD k 0)=some (.map (some (c.KM i))):=hk.cell 0;have Z:w.cell? (aD b 0)=some (Vf F cp):=hb.cell 0;have y:=hk.lt;have N:=hb.lt;cases hgr:g r with
 |some x=>
  obtain⟨j,R,rfl,U,O⟩:=G r x hgr;rw[hgr]at d;have V:Hid (au w c (Q+1) (aX (lg c.T i) r) (aN (sz c.T i)) (.returned (ae (c.R j))) w):=⟨c,j,rfl,hI.more (by omega),Gone.refl _ _,R,U,O⟩;go_enter func143,ntmps143;go_wp2_with fail;go_ret;exact V
 |none=>
  rw[hgr]at d;have HI:=aa hI;have D:=aa hin;have HK:=aa hk;have E:=aa hkS;have P:=aa hgr;go_enter func143,ntmps143;go_wp2_with fail;refine D.mono ?_;rintro e H ⟨l,A,rfl,t,a,o,h,s⟩;have m:i<l.T.length:=by have:=a.len;omega
  obtain⟨g5,Y,f,C,u⟩:=t.know i m;rw[a.KM i hi]at f;have k5:H.cell? (aD k 0)=some (.map (some (c.KM i))):=(a.but.cell (p:=(aD k 0)) y E).trans S;have M:k<H.heap.size:=zF y a.but.size;obtain⟨I,W,L,z,J,v⟩:=f.storeAny r r0 r9 (by unfold maxLen;omega) (l.R A);have B:MkI I l (Q+1)/\Gone H l I l:=Wd (j:=A) (r:=r) (n:=W) t m o u (by omega) (by rw[h,a.lang hi]) (by rw[a.sz hi];exact s) (by rw[a.KM i hi];exact v) (by rw[a.KM i hi];exact z);have T:Hid (au w c (Q+1) (aX (lg c.T i) r) (aN (sz c.T i)) (.returned (ae (l.R A))) I):=⟨l,A,rfl,B.1,a.trans B.2,o,h,s⟩;go_wp2_with fail;go_ret;exact T
def FR (w:World)(x n:Nat)(kd:Int)(en:Bool)(F:Nat)(cp:Array Value)(k b mm:Nat):Prop:=kG w x n kd none 0 0 en (Vf 143 #[ae k,ae b])/\ag w b [Vf F cp] 111/\ag w k [.map (some mm)] 216/\w.heap[mm]?=some (.map #[] 0)
theorem FR.keep {kd:Int}(h:FR w x n kd en F cp k b mm)(hk:∀g,g=x\/g=k\/g=b\/g=mm->w'.heap[g]?=w.heap[g]?):FR w' x n kd en F cp k b mm :=
 ⟨(hk x (.inl rfl)).trans h.1,(hk b (.inr (.inr (.inl rfl)))).trans h.2.1,(hk k (.inr (.inl rfl))).trans h.2.2.1,(hk mm (.inr (.inr (.inr rfl)))).trans h.2.2.2⟩
theorem FR.lt {w:World}{x n:Nat}{kd:Int}{en:Bool}{F:Nat}{cp:Array Value}{k b mm:Nat}(h:FR w x n kd en F cp k b mm):x<w.heap.size/\k<w.heap.size/\b<w.heap.size/\mm<w.heap.size:=⟨ag.lt h.1,h.2.2.1.lt,h.2.1.lt,(yl.1 h.2.2.2).1⟩
theorem VJ {m bm:Nat}{nn ee:Option Nat}(hM:MS w m bm nn ee f n)(hP:aZ w)(hf:f iG=none)(hn:n<=1000000000):Calls prog 61 #[ae m,.slice none 0 0] w λe w'=>∃x k b mm l1 l2,e=.returned (ae x)/\But (λk=>k=bm) w w'/\MS w' m bm nn ee (put f iG x) (n+1)/\FR w' x n 2 false 103 #[ae l1,ae l2] k b mm/\ag w' l1 [.slice none 0 0] 110/\ag w' l2 [ae m] 95/\w.heap.size<=x/\w.heap.size<=k/\w.heap.size<=b/\w.heap.size<=mm/\w.heap.size<=l1/\w.heap.size<=l2:=by
 have D:=aa hM;have W:=aa hP;have T:=aa hf;obtain⟨J,q,y,o,l,H⟩:=jK (rfl:w.heap.size=_) [ae m] 95 [.slice none 0 0] 110;replace y:Below _ _ J:=y;have O:=aa q;have N:=aa y;have X:J.cell? ⟨w.heap.size,0,none⟩=some (ae m):=o.cell 0;have Z:J.cell? ⟨w.heap.size+1,0,none⟩=some (.slice none 0 0):=l.cell 0;have f2:=l.frozen 0;have E:=aa l;have F:=aa o;clear hM hP hf q y l o;go_enter func61,ntmps61;go_wp2_with fail;rw[O.out];generalize hS:w.heap.size=S at *
 go_loopg [12] 1 (λ_ iv wr=>iv=.int .i64 0/\wr=J)
 case atStart=>exact⟨rfl,rfl⟩
 case round=>
  obtain⟨rfl,d⟩:=hrel;subst d;go_wp2_with (first
   |(go_at_call 99;refine (RK _ _).mono ?_;rintro e w' ⟨rfl,d⟩;have c:=d.symm;subst c;clear d)
   |(go_at_call 102;refine (Hl _).mono ?_;rintro e w' ⟨rfl,d⟩;have c:=d.symm;subst c;clear d)
   |(go_at_call 104;refine (EQ _ _).mono ?_;rintro e w' ⟨rfl,d⟩;have c:=d.symm;subst c;clear d))
  have C:Below S w (wr.setCell ⟨S+1,0,none⟩ (.slice none 0 0)):=N.setCell (p:=⟨S+1,0,none⟩) (by show S<=S+1;omega) _;have g:(wr.setCell ⟨S+1,0,none⟩ (.slice none 0 0)).heap.size=S+2:=by simpa [World.setCell]using H
  have I:=ag.new (wr.setCell ⟨S+1,0,none⟩ (.slice none 0 0)) [.int .i64 0,.int .i64 2,.slice none 0 0,.bool false,.func (.func 103) #[] #[ae (S+1),ae S]] 113;rw[g]at I;have u:ag ((wr.setCell ⟨S+1,0,none⟩ (.slice none 0 0)).alloc (.cells #[.int .i64 0,.int .i64 2,.slice none 0 0,.bool false,.func (.func 103) #[] #[ae (S+1),ae S]] 113)) (S+1) [.slice none 0 0] 110:=(E.set 0 _).alloc _;have r:ag ((wr.setCell ⟨S+1,0,none⟩ (.slice none 0 0)).alloc (.cells #[.int .i64 0,.int .i64 2,.slice none 0 0,.bool false,.func (.func 103) #[] #[ae (S+1),ae S]] 113)) S [ae m] 95:=(F.setOther (p:=⟨S+1,0,none⟩) (by show S≠S+1;omega) _).alloc _;have L:((wr.setCell ⟨S+1,0,none⟩ (.slice none 0 0)).alloc (.cells #[.int .i64 0,.int .i64 2,.slice none 0 0,.bool false,.func (.func 103) #[] #[ae (S+1),ae S]] 113)).heap.size=S+3:=by simp[g]
  have B:Below S w ((wr.setCell ⟨S+1,0,none⟩ (.slice none 0 0)).alloc (.cells #[.int .i64 0,.int .i64 2,.slice none 0 0,.bool false,.func (.func 103) #[] #[ae (S+1),ae S]] 113)):=C.alloc (by rw[g];omega) _;generalize (wr.setCell ⟨S+1,0,none⟩ (.slice none 0 0)).alloc (.cells #[.int .i64 0,.int .i64 2,.slice none 0 0,.bool false,.func (.func 103) #[] #[ae (S+1),ae S]] 113)=W1 at *;have j:Below w.heap.size w W1:=by rw[hS];exact B
  have A:=D.below j;have V:m<S:=by rw[<-hS];exact D.1.lt
  have U:bm<S:=by rw[<-hS];exact D.2.1.lt
  have K:=sC 103 #[ae (S+1),ae S] none 0 [] [] (λ_=>0) A I (by omega) (by omega) (iE.nil _ _) (qD.nil _ _ _) (W.below j) (by decide) (by decide) (by decide) (by decide) (by omega);have M:f (fl 2 [] [])=none:=T.out;rw[yU,M]at K;refine K.mono ?_;rintro e z ⟨rfl,a,s,k,b,mm,Q,G,R,P,t⟩;have v:Hid (But (λk=>k=bm) w z/\MS z m bm nn ee (put f iG (S+2)) (n+1)/\FR z (S+2) n 2 false 103 #[ae (S+1),ae S] k b mm/\ag z (S+1) [.slice none 0 0] 110/\ag z S [ae m] 95/\S<=S+2/\S<=k/\S<=b/\S<=mm/\S<=S+1/\S<=S) :=
   ⟨(But.below j).later a (λi Y h=>by rcases h with h|h;omega;exact h),s,⟨Q,R,P,t⟩,u.but a (by omega),r.but a (by omega),by omega,by omega,by omega,by omega,by omega,by omega⟩
  clear I C g B A K a s j u r Q G R P t L;go_wp2;go_ret;refine⟨S+2,k,b,mm,S+1,S,rfl,?_⟩;rw[hS];exact v
def Sr (w:World)(S:Nat)(wx:World):Prop:=∃x0 k0 b0 m0 l1 l2,MS wx (S+1) S (some x0) none (put (λ_=>none) iG x0) 1/\FR wx x0 0 2 false 103 #[ae l1,ae l2] k0 b0 m0/\ag wx l1 [Vz] 110/\ag wx l2 [ae (S+1)] 95/\S+3<=x0/\S+3<=k0/\S+3<=b0/\S+3<=m0/\S+3<=l1/\S+3<=l2/\ag wx (S+2) [ae (S+1)] 95/\Below S w wx/\aZ wx
def Ss (w:World)(S:Nat)(wx:World):Prop:=∃x0 k0 b0 m0 l1 l2 x1 k1 b1 m1,MS wx (S+1) S (some x0) (some x1) (put (put (λ_=>none) iG x0) rl x1) 2/\FR wx x0 0 2 false 103 #[ae l1,ae l2] k0 b0 m0/\FR wx x1 1 1 true 63 #[ae (S+2)] k1 b1 m1/\ag wx l1 [Vz] 110/\ag wx l2 [ae (S+1)] 95/\S+3<=x0/\S+3<=m0/\x0<x1/\m0<m1/\ag wx (S+2) [ae (S+1)] 95/\Below S w wx
theorem OW {w5:World}{S l1 l2:Nat}(hS:7<=S)(h0:Below S w W0)(hs0:W0.heap.size=S+3)(hP:aZ W0)(hb2:ag W0 (S+2) [ae (S+1)] 95)(hB:Bw W0 W)(hbut:But (λk=>k=S) W w5)
  (hM:MS w5 (S+1) S none none (put (λ_=>none) iG x) 1) (hr:FR w5 x 0 2 false 103 #[ae l1,ae l2] k b mm) (hl1:ag w5 l1 [Vz] 110) (hl2:ag w5 l2 [ae (S+1)] 95) (hge:W.heap.size<=x/\W.heap.size<=k/\W.heap.size<=b/\W.heap.size<=mm/\W.heap.size<=l1/\W.heap.size<=l2) :
  w5.cell? (aD (S+2) 0)=some (ae (S+1))/\w5.cell? (aD (S+1) 1)=some (.pointer none)/\w5.frozen? (aD (S+1) 1)=false/\S+1<w5.heap.size/\Sr w S (w5.setCell (aD (S+1) 1) (ae x)):=by
 have j:=hB.size;obtain⟨s,n,m,q,r,l⟩:=hge;have c:ag w5 (S+2) [ae (S+1)] 95:=(hb2.below hB).but hbut (by omega);have d:aZ w5:=(hP.below hB).same λi f h=>hbut.block i f (by omega);have a:∀g,g≠S+1->(w5.setCell (aD (S+1) 1) (ae x)).heap[g]?=w5.heap[g]?:=λg e=>zk _ _ _ _ e;refine⟨c.cell 0,hM.1.cell 1,hM.1.frozen 1,hM.1.lt,x,k,b,mm,l1,l2,⟨hM.1.set 1 _,hM.2.1.block (a _ (by omega)),by omega⟩,hr.keep (λg e=>a g (by omega)),(a _ (by omega)).trans hl1,(a _ (by omega)).trans hl2,by omega,by omega,by omega,by omega,by omega,by omega,(a _ (by omega)).trans c,?_,?_⟩
 ·exact ((h0.trans (hB.mono (by omega))).trans (hbut.toBelow (λk o=>by omega) (by omega))).setCell (p:=(aD (S+1) 1)) (by show S<=S+1;omega) _
 ·exact d.same λi f h=>zk _ _ _ _ (by show i≠S+1;omega)
theorem OX {wc:World}{S:Nat}(h:Sr w S wc)(W:World)(hB:Bw wc W)(hx:ag W wc.heap.size [Vi 0,Vi 1,Vz,.bool true,Vf 63 #[ae (S+1+1)]] 113):Calls prog 62 #[ae (S+1),ae wc.heap.size,Vz] W λe w5=>e=.returned (ae wc.heap.size)/\w5.cell? (aD (S+2) 0)=some (ae (S+1))/\w5.cell? (aD (S+1) 2)=some (.pointer none)/\w5.frozen? (aD (S+1) 2)=false/\S+1<w5.heap.size /\
   Ss w S (w5.setCell (aD (S+1) 2) (ae wc.heap.size)):=by
 obtain⟨q,B,N,C,O,K,E,x,n,l,I,V,X,G,R,T,j,s,y⟩:=h;have r:=j.lt;obtain⟨L,U,Y,P⟩:=x.lt;have H:=n.lt;have A:=l.lt;have M:=ag.lt hx;have u:=sC 63 #[ae (S+2)] none 0 [] [] (λ_=>0) (E.below hB) hx (by omega) (by omega) (iE.nil _ _) (qD.nil _ _ _) (y.below hB) (by decide) (by decide) (by decide) (by decide) (by decide);rw[yU,show put (λ_=>none) iG q (fl 1 [] [])=none from Th PD rfl]at u;refine u.mono ?_;rintro e w5 ⟨rfl,f,m,k,b,J,F,D,v,z,t⟩;have c:∀g,g<wc.heap.size->g≠S->w5.heap[g]?=wc.heap[g]?:=λg o Q=>(f.block g (by omega) (by omega)).trans (hB.block g o);have a:∀g,g≠S+1->(w5.setCell (aD (S+1) 2) (ae wc.heap.size)).heap[g]?=w5.heap[g]?:=λg o=>zk _ _ _ _ o;have i:ag w5 (S+2) [ae (S+1)] 95:=(c _ r (by omega)).trans j;have d:=m.1;refine⟨rfl,i.cell 0,d.cell 2,d.frozen 2,d.lt,q,B,N,C,O,K,wc.heap.size,k,b,J,⟨d.set 2 _,m.2.1.block (a _ (by omega)),by omega⟩,x.keep (λg o=>(a g (by omega)).trans (c g (by omega) (by omega))),FR.keep (w:=w5) ⟨F,v,z,t⟩ (λg o=>a g (by omega)),((a _ (by omega)).trans (c _ H (by omega))).trans n,((a _ (by omega)).trans (c _ A (by omega))).trans l,I,G,L,by omega,(a _ (by omega)).trans i,?_⟩;exact ((s.trans (hB.mono (by omega))).trans (f.toBelow (λk u=>by omega) (by omega))).setCell (p:=(aD (S+1) 2)) (by show S<=S+1;omega) _
theorem VK {wx:World}{S:Nat}(h7:7<=S)(hS:S<=wx.heap.size)(h:Ss w S wx):∃c:MC,c.m=S+1/\MkI wx c 2/\(∀g,c.S g->S<=g)/\(∀g,¬c.X g)/\Below S w wx:=by
 obtain⟨Q,k0,b0,L,Z,Y,R,k1,b1,N,M,k,l,I,H,g1,g2,g3,g4,G,hB⟩:=h;have n0:(RE.or []).name=iG:=rfl;have n1:RE.empty.name=rl:=rfl;obtain⟨c,A⟩:∃c:MC,c=⟨S+1,S,[.or [],.empty],λi=>if i=0 then Q else R,λi=>if i=0 then L else N,λ_=>False⟩:=⟨_,rfl⟩;have u:c.T=[.or [],.empty]:=by rw[A]
 have o:c.R 0=Q:=by rw[A];rfl
 have q:c.R 1=R:=by rw[A];rfl
 have n:c.KM 0=L:=by rw[A];rfl
 have m:c.KM 1=N:=by rw[A];rfl
 have z:c.bm=S:=by rw[A]
 have F:c.m=S+1:=by rw[A]
 have V:∀g,¬c.X g:=λg=>by rw[A];exact id
 have X:∀g,c.Mp g↔g=S\/g=L\/g=N:=λg=>by
  unfold MC.Mp;rw[z,u];constructor
  ·rintro (h|⟨i,d,rfl⟩)
   ·exact .inl h
   ·match i,d with
    |0,_=>exact .inr (.inl n)
    |1,_=>exact .inr (.inr m)
  ·rintro (h|h|h)
   ·exact .inl h
   ·exact .inr ⟨0,by simp,by rw[n];exact h⟩
   ·exact .inr ⟨1,by simp,by rw[m];exact h⟩
 have B:∀g,c.S g↔g=S\/g=L\/g=N:=λg=>by
  unfold MC.S;rw[X];exact⟨λh=>h.elim id (λh=>(V g h).elim),.inl⟩
 have b:∀{g:Nat} {cs:List Value} {T:TypeId},ag wx g cs T->¬c.S g:=fun {g cs T} hb hs=>by
  have t:wx.heap[g]?=some (.cells cs.toArray T):=hb;rcases (B g).1 hs with rfl|rfl|rfl
  ·obtain⟨D,⟨es,O,J,_⟩,_⟩:=M.2.1;rw[J]at t;cases t
  ·rw[k.2.2.2]at t;cases t
  ·rw[l.2.2.2]at t;cases t
 have C:∀(i:Nat) (e:RE),c.T[i]?=some e->e.Wf/\∀a∈e.parts,a<i:=λi e d=>by
  rw[u]at d
  match i,d with
  |0,d=>simp at d;subst d;exact⟨⟨by simp,by simp⟩,λa W=>by simp[RE.parts]at W⟩
  |1,d=>simp at d;subst d;exact⟨trivial,λa W=>by simp[RE.parts]at W⟩
  |i+2,d=>simp at d
 refine⟨c,F,?_,λg K=>?_,V,hB⟩
 ·exact {
   mb:=by rw[F,z,o,q];exact M.1
   ms:=b (by rw[F];exact M.1)
   map:=by
    refine⟨put (put (λ_=>none) iG Q) rl R,by rw[z,u];exact M.2.1,λs x=>?_⟩;unfold put;rw[u];constructor
    ·intro h;by_cases J:s=rl
     ·rw[zX J]at h;injection h with h;exact⟨1,.empty,rfl,by rw[J];rfl,by rw[q,h]⟩
     ·rw[zR J]at h;by_cases U:s=iG
      ·rw[zX U]at h;injection h with h;exact⟨0,.or [],rfl,by rw[U];rfl,by rw[o,h]⟩
      ·rw[zR U]at h;cases h
    ·rintro⟨i,e,d,rfl,rfl⟩
     match i,d with
     |0,d=>
      simp at d;subst d;rw[n0,zR (λh=>PD h.symm),zX rfl,o]
     |1,d=>
      simp at d;subst d;rw[n1,zX rfl,q]
     |i+2,d=>simp at d
   t0:=by rw[u];rfl
   t1:=by rw[u];rfl
   le:=by rw[u];exact zA _
   wf:=C
   rest:=λi e d=>by
    have E:=Nb d (C i e d).2;have f:=d;rw[u]at f
    match i,f with
    |0,f=>
     simp at f;subst f;refine⟨none,0,false,k0,b0,103,#[ae Z,ae Y],by rw[o];exact k.1,?_,λj p v=>by simp[RE.parts]at v,by rw[o];exact b k.1,b k.2.2.1,b k.2.1,by rw[n];exact k.2.2.1,k.2.1,Z,Y,none,0,rfl,rfl,b I,b H,I,by rw[F];exact H,λj p v=>by simp at v⟩;rw[E];simp[RE.lang]
    |1,f=>
     simp at f;subst f;refine⟨none,0,true,k1,b1,63,#[ae (S+2)],by rw[q];exact l.1,?_,λj p v=>by simp[RE.parts]at v,by rw[q];exact b l.1,b l.2.2.1,b l.2.1,by rw[m];exact l.2.2.1,l.2.1,S+2,rfl,rfl,b G,by rw[F];exact G⟩;rw[E];simp[RE.lang]
    |i+2,f=>simp at f
   know:=λi d=>by
    rw[u]at d
    match i,d with
    |0,_=>exact⟨λ_=>none,0,by rw[n];exact iB.fresh k.2.2.2,by omega,λr y P=>by cases P⟩
    |1,_=>exact⟨λ_=>none,0,by rw[m];exact iB.fresh l.2.2.2,by omega,λr y P=>by cases P⟩
   kmb:=λi d=>by
    rw[u]at d;rw[z]
    match i,d with
    |0,_=>rw[n];omega
    |1,_=>rw[m];omega
   kmi:=λi j d v h=>by
    rw[u]at d v
    match i,j,d,v with
    |0,0,_,_=>rfl
    |1,1,_,_=>rfl
    |0,1,_,_=>rw[n,m]at h;omega
    |1,0,_,_=>rw[n,m]at h;omega
   inj:=λi j d v h=>by
    rw[u]at d v
    match i,j,d,v with
    |0,0,_,_=>rfl
    |1,1,_,_=>rfl
    |0,1,_,_=>rw[o,q]at h;omega
    |1,0,_,_=>rw[o,q]at h;omega
   low:=λg K=>by
    rcases (B g).1 K with rfl|rfl|rfl<;>omega
   xs:=λg K=>(V g K).elim }
 ·rcases (B g).1 K with rfl|rfl|rfl<;>omega
theorem Hu (hP:aZ w)(h7:7<=w.heap.size):Calls prog 41 #[] w λe w'=>∃c:MC,e=.returned (ae c.m)/\MkI w' c 2/\(∀g,c.S g->w.heap.size<=g)/\(∀g,¬c.X g)/\w.heap.size<=c.m/\Below w.heap.size w w':=by
 have a1:=@run_makeMap prog;obtain⟨W0,d⟩:∃W0,((w.alloc (.map #[] 0)).alloc (.cells #[.map (some w.heap.size),.pointer none,.pointer none] 146)).alloc (.cells #[ae (w.heap.size+1)] 95)=W0:=⟨_,rfl⟩;have l:Below w.heap.size w W0:=by rw[<-d];exact (((zE _ _).alloc (zA _) _).alloc (by simp) _).alloc (by simp;omega) _
 have n:fs W0 w.heap.size (λ_=>none) 0:=by rw[<-d];exact (fs.made w).below (((zE _ _).alloc (by simp) _).alloc (by simp) _)
 have p:ag W0 (w.heap.size+1) [.map (some w.heap.size),.pointer none,.pointer none] 146:=by
  rw[<-d];have:=(ag.new (w.alloc (.map #[] 0)) [.map (some w.heap.size),.pointer none,.pointer none] 146).alloc (.cells #[ae (w.heap.size+1)] 95);simpa using this
 have a:ag W0 (w.heap.size+2) [ae (w.heap.size+1)] 95:=by
  rw[<-d];have:=ag.new ((w.alloc (.map #[] 0)).alloc (.cells #[.map (some w.heap.size),.pointer none,.pointer none] 146)) [ae (w.heap.size+1)] 95;simpa using this
 have D:W0.heap.size=w.heap.size+3:=by rw[<-d];simp
 have m:MS W0 (w.heap.size+1) w.heap.size none none (λ_=>none) 0:=⟨p,n,by omega⟩;have c2:W0.cell? ⟨w.heap.size+2,0,none⟩=some (ae (w.heap.size+1)):=a.cell 0;have L:=aa d;have C:=aa l;have z:=aa a;have s:=aa (hP.below l);have A:=aa m;clear d l n p a m hP;go_enter func41,ntmps41;go_wp2_with fail;rw[L.out];generalize hS:w.heap.size=S at *;have u:=aa (λ(w':World) (hb:Below W0.heap.size W0 w')=>VJ (A.below hb) (s.below hb) rfl (by decide));have t:=aa (λ(W w5:World) (x k b mm l1 l2:Nat)=>OW (w:=w) (W0:=W0) (W:=W) (w5:=w5) (S:=S) (x:=x) (k:=k) (b:=b) (mm:=mm) (l1:=l1) (l2:=l2) h7 C D s z)
 go_cut [] (λwx=>Sr w S wx)
 case first=>
  go_region_with (go_at_call 61;refine (u _ (by first|exact (zE _ _).drew|exact aR (zE _ _)|exact zE _ _)).mono ?_;rintro e w5 ⟨x,k,b,mm,l1,l2,rfl,j,o,r,i,h,f⟩;obtain⟨X,e3,e4,e5,v⟩:=t.out _ w5 x k b mm l1 l2 (by first|exact (zE _ _).drew|exact aR (zE _ _)|exact zE _ _) j o r i h f;have E:=aa v;clear j o r i h f v)
  all_goals go_wp2_with fail
  all_goals go_meet
  all_goals exact E
 case rest=>
  have a:ag wc (S+2) [ae (S+1)] 95:=by obtain⟨N,O,b0,P,l1,l2,Q,hr,i,h,V,R,U,T,g5,g6,a,a0,hP⟩:=hcut;exact a
  have e1:wc.cell? ⟨S+2,0,none⟩=some (ae (S+1)):=a.cell 0;have M:=aa (OX hcut);have Z:=a.lt;clear hcut a u t;go_upto_region 3 with fail
  go_cut [] (λwx=>Ss w S wx)
  case first=>
   go_region_with (go_at_call 62;refine (M _ (by first|exact ((zE _ wc).alloc (zA _) _).drew|exact (zE _ wc).drew.alloc (zA _) _) (by first|exact (ag.new wc _ _).drew|exact ag.new wc.drew _ _)).mono ?_;rintro e w5 ⟨rfl,X,e3,e4,e5,v⟩;have E:=aa v;clear v)
   all_goals go_wp2_with fail
   all_goals go_meet
   all_goals exact E
  case rest=>
   obtain⟨c,K,q,f,Y,y⟩:=VK h7 (by obtain⟨N,O,b0,P,l1,l2,x1,k1,b1,m1,Q,G,J,i,h,V,R,U,T,a,y⟩:=hcut;have:=a.lt;omega) hcut;have a:ag wc (S+2) [ae (S+1)] 95:=by obtain⟨N,O,b0,P,l1,l2,x1,k1,b1,m1,Q,G,J,i,h,V,R,U,T,a,y⟩:=hcut;exact a
   have X:wc.cell? ⟨S+2,0,none⟩=some (ae (S+1)):=a.cell 0;have B:=aa q;have F:=aa y;have H:=aa f;have I:=aa Y;clear q a y hcut f Y;go_wp2_with fail;go_ret;refine⟨c,?_,B,?_,I,by omega,?_⟩
   ·rw[K];rfl
   ·rw[hS];exact H
   ·rw[hS];exact F
