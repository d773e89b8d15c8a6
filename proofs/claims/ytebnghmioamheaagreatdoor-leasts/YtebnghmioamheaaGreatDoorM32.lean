import Derived.Test.YtebnghmioamheaaGreatDoorM31
import Derived.Test.YtebnghmioamheaaGreatDoorM19
set_option linter.all false
namespace Go.Proofs.YtebnghmioamheaaGreatDoor
open Go.Shelf Go.RowKit Go.Lib Tryz
variable {w W w' W0:World}{n N b x pc q g q' i mm F a k:Nat}{cs:LV}{T:TypeId}{f:List UInt8->Option Nat}{pa:OA}{en:Bool}{S':NP}{e:RE}{cp:Array Value}{m:Int}
def gK (l:List (Int×Int)):List Int:=l.flatMap λx=>[x.1,x.2]
theorem Of (l:LQ)(x:Int×Int):gK (l++[x])=gK l++[x.1,x.2]:=by simp[gK]
theorem Rv (l:LQ):(gK l).length=2*l.length:=by
 induction l with
 |nil=>rfl
 |cons x l ih=>simp only[gK,yE,zH,zG,zh]at *;omega
theorem Rw {l:LQ}{y:Int}(h:y∈gK l):∃x∈l,y=x.1\/y=x.2:=by
 unfold gK at h;obtain⟨x,b,a⟩:=xL.1 h;exact⟨x,b,by simpa using a⟩
theorem Og (w:World)(o:Obj)(y1 y2:Int):∀j u,[Vi y1,Vi y2][j]?=some u->((w.alloc o).alloc (.cells #[Vi y1,Vi y2] 3)).cell? (((aD (w.heap.size+1) 0):Addr).add j)=some u:=by
 intro j u a
 match j,a with
 |0,a=>simp at a;subst a;simp[Addr.add]
 |1,a=>simp at a;subst a;simp[Addr.add]
theorem Rx {B:Nat}{v:Value}{L:LZ}(h:w.ownsRow B 3 1 v n (bj L))(hr:∀x∈L,-9223372036854775808<=x/\x<=9223372036854775807):∃a c,v=.slice a L.length c/\iE w a L/\n=L.length:=by
 have i:=h.1;simp[bj]at i;rcases h.2 with⟨rfl,rfl⟩|⟨g,d,m,rfl,o,p,r⟩
 ·have:L=[]:=zq.1 (by omega);subst this;exact⟨none,0,rfl,iE.nil _ _,rfl⟩
 ·refine⟨some (aD g 0),d,by rw[i],λj x k=>?_,by omega⟩;obtain⟨b,e,l,f,_,_⟩:=(show ∃b,(some ((aD g 0):Addr))=some (aD b 0)/\w.cell? (aD b j)=some (Vi x)/\b<w.heap.size/\B<=b/\j<n from tZ h x k);cases e;exact⟨g,0,rfl,f,by rw[zf];exact l,hr x (zU k)⟩
def YV (w:World)(S:Nat)(la:Option Addr)(lc m:Nat)(l:List (Int×Int))(j:Nat)(ev iv:Value)(wr:World):Prop:=∃i:Nat,iv=Vi (i:Int)/\i<=l.length/\l.length-i<=j/\wr.ownsRow (S+2) 3 1 ev (2*i) (bj (gK (l.take i)))/\Below S w wr/\ag wr S [Vp m] 95/\ag wr (S+1) [.slice la l.length lc] 24
theorem QI (h:W.heap.size=N)(o2 o3:Obj):ag (((W.alloc (.cells cs.toArray T)).alloc o2).alloc o3).drew N cs T:=by subst h;exact ((ag.new W cs T).alloc o2).alloc o3
theorem QJ (h:W.heap.size=N)(o1 o3:Obj):ag (((W.alloc o1).alloc (.cells cs.toArray T)).alloc o3).drew (N+1) cs T:=by
 subst h;have:=(ag.new (W.alloc o1) cs T).alloc o3;rw[show (W.alloc o1).heap.size=W.heap.size+1 by simp]at this;exact this
theorem QK (h:W.heap.size=N)(o1 o2:Obj):ag (((W.alloc o1).alloc o2).alloc (.cells cs.toArray T)).drew (N+1+1) cs T:=by
 subst h;have:=ag.new ((W.alloc o1).alloc o2) cs T;rw[show ((W.alloc o1).alloc o2).heap.size=W.heap.size+1+1 by simp]at this;exact this
theorem DT (W:World)(o1 o2 o3:Obj):Bw W (((W.alloc o1).alloc o2).alloc o3).drew:=((((zE _ W).alloc (zA _) _).alloc (by simp) _).alloc (by simp;omega) _).drew
structure StarN (w:World)(xr xm xs b1 c1 b2 c2:Nat)(la:Option Addr)(lc:Nat):Prop where
 row:∃ex,ag w xr [Vi 1,Vz,Vs b1 1 c1,Vi 0,Vi 0,ex] 54
 p1:w.cell? (aD b1 0)=some (Vp xm)
 l1:b1<w.heap.size
 many:ag w xm [Vi 5,Vz,Vs b2 1 c2,Vi 0,Vi (-1)] 51
 p2:w.cell? (aD b2 0)=some (Vp xs)
 l2:b2<w.heap.size
 set:ag w xs [Vi 0,.slice la 1 lc,Vz,Vi 0,Vi 0] 51
 rd:Rd w la [(97,97)]
def ZJ:List UInt8:=fl 0 [97,97] []
def ZK (k:Int):List UInt8:=fl 5 [0,-1] [k]
open Brm
def vU (acc:Nat):List UInt8->Nat
 | []=>acc
 |b::l=>vU (10*acc+(b.toNat-48)) l
theorem Nm (acc:Nat)(l:List UInt8)(b:UInt8):vU acc (l++[b])=10*vU acc l+(b.toNat-48):=by
 induction l generalizing acc with
 |nil=>rfl
 |cons c l ih=>exact ih _
theorem oy {d:Nat}(h:d<10):(UInt8.ofNat (48+d)).toNat=48+d:=by
 rw[UInt8.toNat_ofNat'];exact Nat.mod_eq_of_lt (by omega)
theorem xo (u:Nat):Lib.decDigits u=if u<10 then[UInt8.ofNat (48+u)]else Lib.decDigits (u / 10)++[UInt8.ofNat (48+u % 10)]:=by
 rw[Lib.decDigits];by_cases h:u<10
 ·rw[dif_pos h,zX h]
 ·rw[dif_neg h,zR h]
theorem uh (u:Nat):vU 0 (Lib.decDigits u)=u:=by
 induction u using Nat.strongRecOn with
 |ind u ih=>
  rw[xo];by_cases h:u<10
  ·rw[zX h];show vU (10*0+((UInt8.ofNat (48+u)).toNat-48)) []=u
   rw[oy h];show 10*0+(48+u-48)=u
   omega
  ·rw[zR h,Nm,ih (u / 10) (by omega),oy (by omega)];omega
theorem sB (u:Nat):∀b∈Lib.decDigits u,48<=b.toNat/\b.toNat<=57:=by
 induction u using Nat.strongRecOn with
 |ind u ih=>
  rw[xo];by_cases h:u<10
  ·rw[zX h];intro b a;rw[yQ.1 a,oy h];omega
  ·rw[zR h];intro b a;rcases zM.1 a with a|a
   ·exact ih (u / 10) (by omega) b a
   ·rw[yQ.1 a,oy (by omega)];omega
theorem qy (n:Int):∀b∈Lib.itoa n,b.toNat≠32:=by
 intro b a;unfold Lib.itoa at a
 split at a
 ·rcases zO.1 a with rfl|a
  ·decide
  ·have:=sB _ b a;omega
 ·have:=sB _ b a;omega
theorem Ee {a b:Int}(h:Lib.itoa a=Lib.itoa b):a=b:=by
 unfold Lib.itoa at h;have c:∀u v:Nat,(45:UInt8)::Lib.decDigits u=Lib.decDigits v->False:=λu v e=>by
  have:=sB v 45 (by rw[<-e];simp);exact absurd this (by decide)
 split at h<;>split at h
 ·injection h with _ h;have:=congrArg (vU 0) h;rw[uh,uh]at this;omega
 ·exact (c _ _ h).elim
 ·exact (c _ _ h.symm).elim
 ·have:=congrArg (vU 0) h;rw[uh,uh]at this;omega
theorem vc {a b:List UInt8}{x y:List UInt8}(ha:∀c∈a,c.toNat≠32)(hb:∀c∈b,c.toNat≠32)(hx:x=[]\/∃t,x=32::t)(hy:y=[]\/∃t,y=32::t)(h:a++x=b++y):a=b/\x=y:=by
 induction a generalizing b with
 |nil=>
  cases b with
  |nil=>exact⟨rfl,h⟩
  |cons c b=>
   rw[zd,zV]at h;rcases hx with rfl|⟨t,rfl⟩
   ·cases h
   ·injection h with h1 _;exact absurd (by rw[<-h1];rfl) (hb c (by simp))
 |cons c a ih=>
  cases b with
  |nil=>
   rw[zd,zV]at h;rcases hy with rfl|⟨t,rfl⟩
   ·cases h
   ·injection h with h1 _;exact absurd (by rw[h1];rfl) (ha c (by simp))
  |cons d b=>
   rw[zV,zV]at h;injection h with h1 h2;obtain⟨f,g⟩:=ih (λc e=>ha c (by simp[e])) (λc e=>hb c (by simp[e])) h2;exact⟨by rw[h1,f],g⟩
theorem oz (ns:LZ):dD ns=[]\/∃t,dD ns=32::t:=by
 cases ns with
 |nil=>exact .inl rfl
 |cons n ns=>exact .inr ⟨_,by simp[dD];rfl⟩
theorem tail_cons (n:Int)(ns:LZ):dD (n::ns)=32::(Lib.itoa n++dD ns):=by simp[dD]
theorem Ef:∀{xs ys:LZ},dD xs=dD ys->xs=ys
 | [],[],_=>rfl
 | [],y::ys,h=>by rw[tail_cons]at h;cases h
 |x::xs,[],h=>by rw[tail_cons]at h;cases h
 |x::xs,y::ys,h=>by
  rw[tail_cons,tail_cons]at h;injection h with _ h;obtain⟨a,b⟩:=vc (qy x) (qy y) (oz _) (oz _) h;rw[Ee a,Ef b]
theorem vd (xs ys:LZ):dD (xs++ys)=dD xs++dD ys:=by simp[dD]
theorem name_inj {a b:Int}{xs ys us vs:LZ}(h:fl a xs us=fl b ys vs):a=b/\xs++us=ys++vs:=by
 unfold fl at h;rw[zc,zc,<-vd,<-vd]at h;obtain⟨c,d⟩:=vc (qy a) (qy b) (oz _) (oz _) h;exact⟨Ee c,Ef d⟩
def RE.kd:RE->Int
 |.set _=>0
 |.empty=>1
 |.pair _ _=>1
 |.or _=>2
 |.not _=>4
 |.many _ _ _=>5
def RE.args:RE->List Int
 |.set s=>gK s
 |.many _ m n=>[m,n]
 |_=>[]
def jO (l:List Nat):List Int:=l.map (λ(a:Nat)=>(a:Int))
def RE.name (e:RE):List UInt8:=fl e.kd e.args (jO e.parts)
theorem Cd:∀{l k:List Nat},jO l=jO k->l=k
 | [],[],_=>rfl
 | [],_::_,h=>by cases h
 |_::_,[],h=>by cases h
 |a::l,b::k,h=>by
  simp only[jO,zp,zT]at h;rw[show a=b by omega,Cd (l:=l) (k:=k) h.2]
theorem Eg:∀{l k:LQ},gK l=gK k->l=k
 | [],[],_=>rfl
 | [],_::_,h=>by simp[gK]at h
 |_::_,[],h=>by simp[gK]at h
 |a::l,b::k,h=>by
  simp only[gK,yE,zV,zd,zT]at h;obtain⟨d,e,c⟩:=h;rw[show a=b from Prod.ext d e,Eg (l:=l) (k:=k) c]
theorem RE.name_inj {e f:RE}(h:e.name=f.name):e=f:=by
 obtain⟨b,a⟩:=Go.Proofs.YtebnghmioamheaaGreatDoor.name_inj h;cases e<;>cases f<;>simp only[RE.kd,RE.args,RE.parts]at b a<;>first|(exfalso;revert b;decide)|skip
 ·simp only[jO,yU,zx]at a;rw[Eg a]
 ·rfl
 ·simp[jO]at a
 ·simp[jO]at a
 ·simp only[jO,zd,zp,yU,zT,yK]at a;obtain⟨c,d⟩:=a;congr 1<;>omega
 ·rw[zd,zd]at a;rw[Cd a]
 ·simp only[jO,zd,zp,yU,zT,yK]at a;congr 1;omega
 ·simp only[jO,zV,zd,zp,yU,zT,yK]at a;obtain⟨c,d,g⟩:=a;congr 1;omega
def iB (w:World)(b:Nat)(f:Int->Option Nat)(n:Nat):Prop:=∃D:DataW Unit,w.ownsMap prog 3 RP b n D/\Maps.size D=n/\∀s:Int,Maps.has D (Vi s)=(f s).isSome/\∀x,f s=some x->D.atKey (Vi s) (.lit (.bool false))=.lit (.int .i64 x)
theorem iB.lt {w:World}{b:Nat}{f:Int->Option Nat}{n:Nat}(h:iB w b f n):b<w.heap.size:=by obtain⟨D,a,_⟩:=h;exact a.lt
theorem iB.block {f:Int->Option Nat}(h:iB w b f n)(k:w'.heap[b]?=w.heap[b]?):iB w' b f n:=by
 obtain⟨D,⟨e,a,g,d⟩,c⟩:=h;exact⟨D,⟨e,a,k.trans g,d⟩,c⟩
theorem iB.fresh (h:w.heap[b]?=some (.map #[] 0)):iB w b (λ_=>none) 0:=by
 have g:iB (w.alloc (.map #[] 0)) w.heap.size (λ_=>none) 0:=⟨.map [],World.ownsMap_made w prog 3 RP,rfl,λs=>⟨rfl,λx f=>by cases f⟩⟩;obtain⟨D,⟨j,a,c,i⟩,d⟩:=g;have e:(w.alloc (.map #[] 0)).heap[w.heap.size]?=some (.map #[] 0):=(MapKept.heap_alloc w (.map #[] 0)).1;rw[e]at c;exact⟨D,⟨j,a,h.trans c,i⟩,d⟩
theorem Kr {s:Int}(h0:-9223372036854775808<=s)(h1:s<=9223372036854775807):keyOf prog 3 (Vi s)=some (Vi s):=Maps.keyOf_int_mk underlying3 (by simp[Lit.wf,IntKind.min,IntKind.max,IntKind.signed,IntKind.bits];omega)
theorem iB.look {f:Int->Option Nat}(h:iB w b f n)(s:Int)(h0:-9223372036854775808<=s)(h9:s<=9223372036854775807):(Instr.lookup 216 (.map (some b)) (Vi s) true).run prog w=.ok (.tuple #[BG (f s),.bool (f s).isSome]) w:=by
 obtain⟨D,j,l,g⟩:=h;obtain⟨v,k,a,c⟩:=j.look_ok (t:=216) (e:=103) (Maps.int_keyed underlying3) underlying216 (zeroValue103 _) Kf (Kr h0 h9);obtain⟨d,i⟩:=g s;rw[a,d];cases hf:f s with
 |none=>
  rw[hf]at d;rw[Maps.atKey_of_not_has d]at c;rw[vz c]
 |some x=>
  rw[i x hf]at c;rw[vy c]
def MN (f:Int->Option Nat)(s:Int)(x:Nat):Int->Option Nat:=λt=>if t=s then some x else f t
set_option maxHeartbeats 4000000
set_option maxRecDepth 100000
def Xc (w w':World)(x n:Nat)(kd:Int)(pa:Option Addr)(pl pc:Nat)(en:Bool)(F:Nat)(cp:Array Value):Prop:=∃k b mm,kG w' x n kd pa pl pc en (Vf 143 #[Vp k,Vp b])/\(w.heap.size<=k/\w.heap.size<=b/\w.heap.size<=mm/\k≠mm/\b≠mm/\k≠b)/\ag w' b [Vf F cp] 111/\ag w' k [.map (some mm)] 216/\w'.heap[mm]?=some (.map #[] 0)
theorem sC {m bm:Nat}{nn ee:Option Nat}{n0 kd:Int}(F:Nat)(cp:Array Value)(ma:OA)(mc:Nat)(ns:LZ)(ps:List Nat)(num:Nat->Int)
  (hM:MS w m bm nn ee f n) (hx:kG w x n0 kd pa ps.length pc en (Vf F cp)) (hxm:x≠m) (hxb:x≠bm) (hns:iE w ma ns) (hps:qD w pa ps num) (hP:aZ w) (hk0:0<=kd) (hk9:kd<=9) (hl1:ns.length<=1000000) (hl2:ps.length<=3000000000000) (hn:n<=9000000000000000000):Calls prog 62 #[Vp m,Vp x,.slice ma ns.length mc] w λe w'=>
   match f (fl kd ns (ps.map num))with
   |some y=>e=.returned (Vp y)/\Bw w w'
   |none=>e=.returned (Vp x)/\But (λk=>k=x\/k=bm) w w'/\MS w' m bm nn ee (put f (fl kd ns (ps.map num)) x) (n+1)/\Xc w w' x n kd pa ps.length pc en F cp:=by
 have HM:=aa hM;have HX:=aa hx;have d7:=aa hns;have c4:=aa hps;have HP:=aa hP;have x0:w.cell? (aD x 1)=some (Vi kd):=hx.cell 1;have b4:=hx.lt;obtain⟨NM,U⟩:∃NM,fl kd ns (ps.map num)=NM:=⟨_,rfl⟩;rw[U];have b5:=aa U;obtain⟨R,hR⟩:∃R,f NM=R:=⟨_,rfl⟩;rw[hR];have HR:=aa hR;go_enter func62,ntmps62;go_wp2_with fail;refine (wM kd (by omega) (by omega) HP).mono ?_;rintro e w1 ⟨rfl,a3⟩;have d6:=aa a3;have HZ:=aa (rj kd (by omega) (by omega));go_wp2_with fail
 go_loopg [7,21] ns.length (λj nv iv wr=>UB w (Lib.itoa kd) 21 ns j nv iv wr)
 case atStart=>exact⟨0,_,rfl,zW _,by omega,rfl,by simp[lS,dD],by have:=HZ.out;omega,d6⟩
 case round=>
  obtain⟨i,s,rfl,hi,hj,rfl,hs,c9,hb⟩:=hrel;have HS:=aa hs;have I:=aa hb;have i0:(0:Int)<=(i:Int):=zK _;by_cases c:i<ns.length
  ·have i1:(i:Int)<(ns.length:Int):=by omega
   obtain⟨y,V⟩:∃y,ns[i]?=some y:=⟨_,zB c⟩;obtain⟨bb,b8,rfl,c3,Q,l,z⟩:=(d7.out.below I.out) i y V;have O:=aa (dU V);have T:=aa (HP.below I);go_wp2_with fail;refine (wM y l z T).mono ?_;rintro e w2 ⟨rfl,r⟩;have K:=aa r;have c0:=rj y l z;have l1:1+(kK y).size<=9223372036854775807:=by omega
   have l2:s.size+(1+(kK y).size)<=9223372036854775807:=by omega
   have l3:s.size+(ByteArray.mk #[32]++kK y).size<=9223372036854775807:=by rw[ByteArray.size_append];exact l2
   have HY:=aa (lS y);generalize kK y=t at *;go_wp2_with fail
   go_roundg (gk-1)
   case measure=>omega
   case rel=>
    refine⟨i+1,_,by go_num,by omega,by omega,rfl,?_,?_,I.trans (K.mono I.size)⟩
    ·rw[cy,cy,HS.out,O.out,vf,HY.out,zc];rfl
    ·rw[ByteArray.size_append,ByteArray.size_append];have:(ByteArray.mk #[32]).size=1:=rfl;omega
  ·have d1:decide ((i:Int)<(ns.length:Int))=false:=zI (by omega);have S:i=ns.length:=by omega
   have b6:Hid (af s=Lib.itoa kd++dD ns):=by have h:=HS.out;rw[S,zQ]at h;exact h
   have f2:s.size<=22000021:=by omega
   have e9:=aa (ag.below HX (I));have x2:wr.cell? (aD x 2)=some (.slice pa ps.length pc):=(I.cell (p:=(aD x 2)) b4).trans (ag.cell HX 2);have e1:x<wr.heap.size:=zF b4 I.size;have e7:=aa S;have d0:decide (i<ns.length)=false:=zI c;go_wp2_with fail
   go_loopg [7,36] ps.length (λj nv iv wr=>UB w (Lib.itoa kd++dD ns) 22000021 (ps.map num) j nv iv wr)
   case atStart=>exact⟨0,_,rfl,zW _,by simp,rfl,by rw[b6.out];simp[dD],by omega,I⟩
   case round=>
    obtain⟨q,t,rfl,hq,hj,rfl,ht,b7,W⟩:=hrel;rw[ym]at hq hj;have HT:=aa ht;have a:=aa W;have q0:(0:Int)<=(q:Int):=zK _;by_cases c:q<ps.length
    ·have q1:(q:Int)<(ps.length:Int):=by omega
     obtain⟨y,V⟩:∃y,ps[q]?=some y:=⟨_,zB c⟩;obtain⟨bb,b8,rfl,c3,f3,Q,e6,l,z⟩:=(c4.out.below a.out) q y V;have O:=aa (dU (show (ps.map num)[q]?=some (num y) by rw[zg,V];rfl));have T:=aa (HP.below a);generalize num y=ny at *;go_wp2_with fail;refine (wM ny l z T).mono ?_;rintro e w2 ⟨rfl,r⟩;have K:=aa r;have c0:=rj ny l z;have l1:1+(kK ny).size<=9223372036854775807:=by omega
     have l2:t.size+(1+(kK ny).size)<=9223372036854775807:=by omega
     have l3:t.size+(ByteArray.mk #[32]++kK ny).size<=9223372036854775807:=by rw[ByteArray.size_append];exact l2
     have HY:=aa (lS ny);generalize kK ny=u at *;go_wp2_with fail
     go_roundg (gk-1)
     case measure=>omega
     case rel=>
      refine⟨q+1,_,by go_num,by rw[ym];omega,by rw[ym];omega,rfl,?_,?_,a.trans (K.mono a.size)⟩
      ·rw[cy,cy,HT.out,O.out,vf,HY.out,zc];rfl
      ·rw[ByteArray.size_append,ByteArray.size_append];have:(ByteArray.mk #[32]).size=1:=rfl;omega
    ·have d2:decide ((q:Int)<(ps.length:Int))=false:=zI (by omega);have HN:Hid (af t=fl kd ns (ps.map num)):=by
      have h:=HT.out;rw[yF (by rw[ym];omega)]at h;exact h
     have a1:t.size<=maxLen:=by unfold maxLen;omega
     have e8:decide (q<ps.length)=false:=zI c;have G:=HM.below a;have E:=aa G;have m0:wr.cell? (aD m 0)=some (.map (some bm)):=G.1.cell 0;have J:f (af t)=R:=by rw[HN.out,b5.out];exact HR
     have B:=G.2.1.look t a1;rw[J]at B;have d8:=aa J;cases R with
     |some y=>
      go_wp2_with fail;go_ret;exact⟨rfl,a⟩
     |none=>
      have v:=aa (ag.below HX a);have a2:=E.2.1.len 3;have f0:=v.frozen 0;have x4:wr.cell? (aD x 4)=some (Vf F cp):=v.cell 4;have d9:wr.cell? (aD x 0)=some (Vi n0):=v.cell 0;have e3:=v.lt;have e5:=E.1.lt;go_wp2_with fail;have C:But (λk=>k=x\/k=bm) wr (wr.setCell (aD x 0) (Vi n)):=(But.refl _ _).setCell (.inl (.inl rfl)) _;have P:ag (wr.setCell (aD x 0) (Vi n)) x _ 113:=v.set 0 (Vi n);have b1:ag (wr.setCell (aD x 0) (Vi n)) m _ 146:=E.1.setOther (p:=(aD x 0)) (Ne.symm hxm) _;have N:fs (wr.setCell (aD x 0) (Vi n)) bm f n:=E.2.1.block (zk _ _ _ _ (Ne.symm hxb));have c7:wr.heap.size<=(wr.setCell (aD x 0) (Vi n)).heap.size:=C.size;generalize wr.setCell (aD x 0) (Vi n)=W1 at *;refine (Ez F cp W1).mono ?_;rintro e w5 ⟨k,b,D,rfl,d,b9,X,a0,L⟩;have A:=P.below d;have H:=b1.below d;have a8:=N.below d;have a5:=aa (C.trans (But.below d));have f4:=A.frozen 4;have f1:w5.cell? (aD x 4)=some (Vf F cp):=A.cell 4;have m5:w5.cell? (aD m 0)=some (.map (some bm)):=H.cell 0;have b2:bm<W1.heap.size:=N.lt;have c6:x<W1.heap.size:=P.lt;have Z:=X.setOther (p:=(aD x 4)) (show b≠x by omega) (Vf 143 #[Vp k,Vp b]);have a7:=a0.setOther (p:=(aD x 4)) (show k≠x by omega) (Vf 143 #[Vp k,Vp b]);have Y:=(zk w5 (aD x 4) (Vf 143 #[Vp k,Vp b]) D (show D≠x by omega)).trans L;have a4:D<w5.heap.size:=(yl.1 L).1;have c2:Hid (w.heap.size<=k/\w.heap.size<=b/\w.heap.size<=D/\k≠D/\b≠D/\k≠b):=by have:=a.size;show _/\_;omega
      have o:Hid (b≠bm/\k≠bm/\D≠bm):=by show _/\_;omega
      have a6:=A.set 4 (Vf 143 #[Vp k,Vp b]);have b3:=H.setOther (p:=(aD x 4)) (Ne.symm hxm) (Vf 143 #[Vp k,Vp b]);have a9:fs (w5.setCell (aD x 4) (Vf 143 #[Vp k,Vp b])) bm f n:=a8.block (zk _ _ _ _ (Ne.symm hxb));have e4:=A.lt;have e0:=H.lt;obtain⟨w7,e2,b0,g⟩:=a9.store t a1 (by unfold maxLen;omega) d8 x;have d4:=aa (Z.turned g o.1);have d3:=aa (a7.turned g o.2.1);have c1:Hid (w7.heap[D]?=some (.map #[] 0)):=(g.grown.block D (by simpa [World.setCell]using a4) (λe=>by injection e with e;exact o.2.2 e)).trans Y;have d5:=aa b0;have M:=aa g;have c5:=aa a6;have c8:=aa b3;go_wp2_with fail;go_ret;refine⟨rfl,(But.below a).trans ((a5.setCell (p:=(aD x 4)) (.inl (.inl rfl)) _).turned M (.inr rfl)),⟨c8.turned M HM.2.2,?_,HM.2.2⟩,k,b,D,c5.turned M hxb,c2,d4,d3,c1⟩;rw[<-b5.out,<-HN.out];exact d5
abbrev ae (b:Nat):Value:=Vp b
structure MC where
 m:Nat
 bm:Nat
 T:List RE
 R:Nat->Nat
 KM:Nat->Nat
 X:Nat->Prop
def MC.Mp (c:MC)(g:Nat):Prop:=g=c.bm\/∃i,i<c.T.length/\g=c.KM i
def MC.S (c:MC)(g:Nat):Prop:=c.Mp g\/c.X g
def dQ (w:World)(S:Nat->Prop)(R:Nat->Nat)(pa:Option Addr)(ps:List Nat):Prop:=∀j p,ps[j]?=some p->∃bb off,pa=some (aD bb off)/\bb<w.heap.size/\¬S bb/\w.cell? ⟨bb,off+j,none⟩=some (ae (R p))
def Ku (w:World)(S:Nat->Prop)(R:Nat->Nat)(M:Nat):RE->Nat->Array Value->Prop
 |.set s,F,cp=>∃b1 b2 la lc,F=111/\cp=#[ae b1,ae b2]/\¬S b1/\¬S b2/\ag w b1 [.slice la s.length lc] 24/\ag w b2 [ae M] 95/\Rd w la s/\∀b o,la=some (aD b o)->b<w.heap.size/\¬S b
 |.empty,F,cp=>∃b1,F=63/\cp=#[ae b1]/\¬S b1/\ag w b1 [ae M] 95
 |.pair a b,F,cp=>∃b1 b2 b3,F=159/\cp=#[ae b1,ae b2,ae b3]/\¬S b1/\¬S b2/\¬S b3/\ag w b1 [ae M] 95/\ag w b2 [ae (R a)] 103/\ag w b3 [ae (R b)] 103
 |.or l,F,cp=>∃b1 b2 pa pc,F=103/\cp=#[ae b1,ae b2]/\¬S b1/\¬S b2/\ag w b1 [.slice pa l.length pc] 110/\ag w b2 [ae M] 95/\dQ w S R pa l
 |.not a,F,cp=>∃b1 b2,F=115/\cp=#[ae b1,ae b2]/\¬S b1/\¬S b2/\ag w b1 [ae M] 95/\ag w b2 [ae (R a)] 103
 |.many a m n,F,cp=>∃b1 b2 b3 b4,F=116/\cp=#[ae b1,ae b2,ae b3,ae b4]/\¬S b1/\¬S b2/\¬S b3/\¬S b4/\ag w b1 [ae M] 95/\ag w b2 [ae (R a)] 103/\ag w b3 [Vi m] 3/\ag w b4 [Vi n] 3
structure Kept (w:World)(S:Nat->Prop)(w':World)(S':Nat->Prop):Prop where
 size:w.heap.size<=w'.heap.size
 block:∀g,g<w.heap.size->¬S g->w'.heap[g]?=w.heap[g]?
 not:∀g,g<w.heap.size->¬S g->¬S' g
theorem Kept.cell {w w':World}{S S':NP}(h:Kept w S w' S'){p:Addr}(hp:p.block<w.heap.size)(hn:¬S p.block):w'.cell? p=w.cell? p:=zP (w:=w) (h.block p.block hp hn)
theorem ag.kept {S:NP}(h:ag w b cs T)(k:Kept w S w' S')(hn:¬S b):ag w' b cs T:=(k.block b h.lt hn).trans h
theorem dQ.kept {S:NP}{R R':Nat->Nat}{ps:List Nat}(h:dQ w S R pa ps)(k:Kept w S w' S')(hR:∀a∈ps,R' a=R a):dQ w' S' R' pa ps:=λj p g=>by
 obtain⟨c,b,e,d,f,i⟩:=h j p g;exact⟨c,b,e,zF d k.size,k.not c d f,by rw[hR p (zU g)];exact (k.cell (p:=⟨c,b+j,none⟩) d f).trans i⟩
theorem Rd.kept {S:NP}{la:OA}{s:LQ}(h:Rd w la s)(k:Kept w S w' S')(hn:∀b o,la=some (aD b o)->b<w.heap.size/\¬S b):Rd w' la s:=λi x g=>by
 obtain⟨b,a,e,c,j,f⟩:=h i x g;have d:=(hn b a e).2;exact⟨b,a,e,zF c k.size,(k.cell c d).trans j,(k.cell c d).trans f⟩
theorem Ku.kept {w w':World}{S S':NP}{R R':Nat->Nat}{M:Nat}:∀{e:RE} {F:Nat} {cp:Array Value},Ku w S R M e F cp->Kept w S w' S'->(∀a∈e.parts,R' a=R a)->Ku w' S' R' M e F cp
 |.set s,F,cp,h,k,_=>by
  obtain⟨p,q,C,D,i,j,d,f,c,g,A,u⟩:=h;exact⟨p,q,C,D,i,j,k.not _ c.lt d,k.not _ g.lt f,c.kept k d,g.kept k f,A.kept k u,λb o e=>⟨zF (u b o e).1 k.size,k.not _ (u b o e).1 (u b o e).2⟩⟩
 |.empty,F,cp,h,k,_=>by obtain⟨p,i,j,d,c⟩:=h;exact⟨p,i,j,k.not _ c.lt d,c.kept k d⟩
 |.pair a b,F,cp,h,k,hp=>by
  obtain⟨p,q,x,i,j,d,f,r,c,g,t⟩:=h;exact⟨p,q,x,i,j,k.not _ c.lt d,k.not _ g.lt f,k.not _ t.lt r,c.kept k d,by rw[hp a (by simp[RE.parts])];exact g.kept k f,by rw[hp b (by simp[RE.parts])];exact t.kept k r⟩
 |.or l,F,cp,h,k,hp=>by
  obtain⟨p,q,B,E,i,j,d,f,c,g,v⟩:=h;exact⟨p,q,B,E,i,j,k.not _ c.lt d,k.not _ g.lt f,c.kept k d,g.kept k f,v.kept k hp⟩
 |.not a,F,cp,h,k,hp=>by
  obtain⟨p,q,i,j,d,f,c,g⟩:=h;exact⟨p,q,i,j,k.not _ c.lt d,k.not _ g.lt f,c.kept k d,by rw[hp a (by simp[RE.parts])];exact g.kept k f⟩
 |.many a m n,F,cp,h,k,hp=>by
  obtain⟨p,q,x,G,i,j,d,f,r,y,c,g,t,z⟩:=h;exact⟨p,q,x,G,i,j,k.not _ c.lt d,k.not _ g.lt f,k.not _ t.lt r,k.not _ z.lt y,c.kept k d,by rw[hp a (by simp[RE.parts])];exact g.kept k f,t.kept k r,z.kept k y⟩
def RE.Wf:RE->Prop
 |.set s=>s≠[]/\Canon s
 |.empty=>True
 |.pair _ _=>True
 |.or l=>l.length≠1/\l.Pairwise (·<·)
 |.not _=>True
 |.many _ m n=>0<=m/\m<=5/\(n=-1\/(0<n/\m<=n/\n<=5))
def rL (w:World)(c:MC)(i:Nat)(e:RE):Prop:=∃pa pc en k b F cp,kG w (c.R i) i e.kd pa e.parts.length pc en (Vf 143 #[ae k,ae b])/\(en=true↔lg c.T i [])/\dQ w c.S c.R pa e.parts/\¬c.S (c.R i)/\¬c.S k/\¬c.S b/\ag w k [.map (some (c.KM i))] 216/\ag w b [Vf F cp] 111/\Ku w c.S c.R c.m e F cp
def AW (w:World)(c:MC)(q:Nat)(i:Nat):Prop:=∃g n,iB w (c.KM i) g n/\n<=q/\∀r x,g r=some x->∃j,j<c.T.length/\x=c.R j/\lg c.T j=aX (lg c.T i) r/\sz c.T j<=aN (sz c.T i)
structure MkI (w:World)(c:MC)(q:Nat):Prop where
 mk ::
 mb:ag w c.m [.map (some c.bm),ae (c.R 0),ae (c.R 1)] 146
 ms:¬c.S c.m
 map:∃f,fs w c.bm f c.T.length/\∀s x,f s=some x↔∃(i:Nat) (e:RE),c.T[i]?=some e/\e.name=s/\x=c.R i
 t0:c.T[0]?=some (.or [])
 t1:c.T[1]?=some .empty
 le:c.T.length<=q
 wf:∀(i:Nat) (e:RE),c.T[i]?=some e->e.Wf/\∀a∈e.parts,a<i
 rest:∀(i:Nat) (e:RE),c.T[i]?=some e->rL w c i e
 know:∀i,i<c.T.length->AW w c q i
 kmb:∀i,i<c.T.length->c.KM i≠c.bm
 kmi:∀i j,i<c.T.length->j<c.T.length->c.KM i=c.KM j->i=j
 inj:∀i j,i<c.T.length->j<c.T.length->c.R i=c.R j->i=j
 low:∀g,c.S g->7<=g
 xs:∀g,c.X g->g<w.heap.size/\¬c.Mp g
theorem MkI.lang {w:World}{c:MC}{q:Nat}(h:MkI w c q){i:Nat}{e:RE}(hi:c.T[i]?=some e):lg c.T i=e.lang (lg c.T):=Nb hi (h.wf i e hi).2
theorem rL.kept {w w':World}{c c':MC}{i:Nat}{e:RE}(h:rL w c i e)(k:Kept w c.S w' c'.S)(hm:c'.m=c.m)(hR:∀a∈e.parts,c'.R a=c.R a)(hRi:c'.R i=c.R i)(hK:c'.KM i=c.KM i)(hl:lg c'.T i=lg c.T i):rL w' c' i e:=by
 obtain⟨u,r,p,t,b,F,o,j,s,n,l,m,f,d,g,q⟩:=h;exact⟨u,r,p,t,b,F,o,by rw[hRi];exact ag.kept j k l,by rw[hl];exact s,n.kept k hR,by rw[hRi];exact k.not _ (ag.lt j) l,k.not _ d.lt m,k.not _ g.lt f,by rw[hK];exact d.kept k m,g.kept k f,by rw[hm];exact q.kept k hR⟩
theorem Kept.below {S:NP}(k:Bw w w'):Kept w S w' S:=⟨k.size,λg a _=>k.block g a,λ_ _ h=>h⟩
theorem AW.block {w w':World}{c:MC}{q q' i:Nat}(h:AW w c q i)(k:w'.heap[c.KM i]?=w.heap[c.KM i]?)(hq:q<=q'):AW w' c q' i:=by
 obtain⟨g,n,b,d,a⟩:=h;exact⟨g,n,b.block k,by omega,a⟩
theorem MkI.below {w w':World}{c:MC}{q:Nat}(h:MkI w c q)(k:Bw w w'):MkI w' c q:=by
 have m:Kept w c.S w' c.S:=Kept.below k;exact {
  mb:=h.mb.below k
  ms:=h.ms
  map:=by obtain⟨f,a,d⟩:=h.map;exact⟨f,a.below k,d⟩
  t0:=h.t0
  t1:=h.t1
  le:=h.le
  wf:=h.wf
  rest:=λi e b=>(h.rest i e b).kept m rfl (λ_ _=>rfl) rfl rfl rfl
  know:=λi b=>by
   obtain⟨g,n,a,d,l⟩:=h.know i b;exact⟨g,n,a.block (k.block _ a.lt),d,l⟩
  kmb:=h.kmb
  kmi:=h.kmi
  inj:=h.inj
  low:=h.low
  xs:=λg j=>⟨zF (h.xs g j).1 k.size,(h.xs g j).2⟩ }
theorem MkI.Mp_lt {c:MC}(h:MkI w c q)(hg:c.Mp g):g<w.heap.size:=by
 rcases hg with rfl|⟨i,b,rfl⟩
 ·obtain⟨e,a,_⟩:=h.map;exact a.lt
 ·obtain⟨d,n,a,_⟩:=h.know i b;exact a.lt
theorem MkI.turn {c:MC}{X':NP}(h:MkI w c q)(hs:w.heap.size<=w'.heap.size)(hb:∀g,g<w.heap.size->¬c.X g->w'.heap[g]?=w.heap[g]?)(hX:∀g,X' g->(c.X g\/w.heap.size<=g)/\g<w'.heap.size/\7<=g):MkI w' { c with X:=X' } q:=by
 have l:Kept w c.S w' ({ c with X:=X' }:MC).S:=⟨hs,λg b j=>hb g b (λr=>j (.inr r)),λg b j=>by
  rintro (e|e)
  ·exact j (.inl e)
  ·rcases (hX g e).1 with a|a
   ·exact j (.inr a)
   ·omega⟩
 have m:∀g,c.Mp g->¬c.X g:=λg a d=>(h.xs g d).2 a;exact {
  mb:=ag.kept h.mb l h.ms
  ms:=l.not _ h.mb.lt h.ms
  map:=by obtain⟨f,a,d⟩:=h.map;exact⟨f,a.block (hb _ a.lt (m _ (.inl rfl))),d⟩
  t0:=h.t0
  t1:=h.t1
  le:=h.le
  wf:=h.wf
  rest:=λi e k=>(h.rest i e k).kept l rfl (λ_ _=>rfl) rfl rfl rfl
  know:=λi k=>by
   obtain⟨g,n,a,d,p⟩:=h.know i k;exact⟨g,n,a.block (hb _ a.lt (m _ (.inr ⟨i,k,rfl⟩))),d,p⟩
  kmb:=h.kmb
  kmi:=h.kmi
  inj:=h.inj
  low:=λg b=>by
   rcases b with e|e
   ·exact h.low g (.inl e)
   ·exact (hX g e).2.2
  xs:=λg b=>⟨(hX g b).2.1,λo=>by
   rcases (hX g b).1 with a|a
   ·exact (h.xs g a).2 o
   ·have:=h.Mp_lt o;omega⟩ }
theorem MkI.more {c:MC}(h:MkI w c q)(hq:q<=q'):MkI w c q':={ h with le:=zJ h.le hq,know:=λi a=>(h.know i a).block rfl hq }
structure Gone (w:World)(c:MC)(w':World)(c':MC):Prop where
 m:c'.m=c.m
 bm:c'.bm=c.bm
 T:∃Q,c'.T=c.T++Q
 R:∀i,i<c.T.length->c'.R i=c.R i
 KM:∀i,i<c.T.length->c'.KM i=c.KM i
 newK:∀i,c.T.length<=i->i<c'.T.length->w.heap.size<=c'.KM i
 but:But c.S w w'
 X:c'.X=c.X
 keepX:∀g,g<w.heap.size->c.X g->w'.heap[g]?=w.heap[g]?
theorem Gone.refl (w:World)(c:MC):Gone w c w c:=⟨rfl,rfl,⟨[],by simp⟩,λ_ _=>rfl,λ_ _=>rfl,λi b a=>by omega,But.refl _ _,rfl,λ_ _ _=>rfl⟩
theorem Gone.below {w w':World}{c:MC}(k:Bw w w'):Gone w c w' c:=⟨rfl,rfl,⟨[],by simp⟩,λ_ _=>rfl,λ_ _=>rfl,λi b d=>by omega,But.below k,rfl,λg a _=>k.block g a⟩
theorem Gone.len {c c':MC}(h:Gone w c w' c'):c.T.length<=c'.T.length:=by obtain⟨Q,e⟩:=h.T;rw[e];simp
theorem Gone.notS {c c':MC}(h:Gone w c w' c')(hg:g<w.heap.size)(hn:¬c.S g):¬c'.S g:=by
 rintro ((e|⟨i,b,e⟩)|e)
 ·exact hn (.inl (.inl (by rw[e,h.bm])))
 ·by_cases a:i<c.T.length
  ·exact hn (.inl (.inr ⟨i,a,by rw[e,h.KM i a]⟩))
  ·have:=h.newK i (by omega) b;omega
 ·exact hn (.inr (by rw[<-h.X];exact e))
theorem Gone.trans {w w1 w2:World}{c c1 c2:MC}(h:Gone w c w1 c1)(k:Gone w1 c1 w2 c2):Gone w c w2 c2:=by
 obtain⟨Q,e⟩:=h.T;obtain⟨o,n⟩:=k.T;have p:=h.len;exact {
  m:=k.m.trans h.m
  bm:=k.bm.trans h.bm
  T:=⟨Q++o,by rw[n,e,zc]⟩
  R:=λi b=>(k.R i (by omega)).trans (h.R i b)
  KM:=λi b=>(k.KM i (by omega)).trans (h.KM i b)
  newK:=λi j l=>by
   by_cases b:i<c1.T.length
   ·rw[k.KM i b];exact h.newK i j b
   ·exact zJ h.but.size (k.newK i (by omega) l)
  but:=⟨k.but.os.trans h.but.os,k.but.tape.trans h.but.tape,k.but.output.trans h.but.output,zJ h.but.size k.but.size,λg a d=>(k.but.block g (zF a h.but.size) (h.notS a d)).trans (h.but.block g a d)⟩
  X:=k.X.trans h.X
  keepX:=λg a f=>(k.keepX g (zF a h.but.size) (by rw[h.X];exact f)).trans (h.keepX g a f) }
theorem Gone.at {c c':MC}(h:Gone w c w' c')(hi:c.T[i]?=some e):c'.T[i]?=some e:=by
 obtain⟨Q,a⟩:=h.T;rw[a,yY (zC.1 hi).1];exact hi
theorem Gone.lang {c c':MC}(h:Gone w c w' c')(hi:i<c.T.length):lg c'.T i=lg c.T i:=by
 obtain⟨Q,a⟩:=h.T;rw[a,uQ Q _ hi]
theorem Gone.sz {w w':World}{c c':MC}(h:Gone w c w' c'){i:Nat}(hi:i<c.T.length):sz c'.T i=sz c.T i:=by
 obtain⟨Q,a⟩:=h.T;rw[a,uS Q _ hi]
theorem Gone.kept {c c':MC}(k:Gone w c w' c'):Kept w c.S w' c'.S:=⟨k.but.size,λg a b=>k.but.block g a b,λ_ a b=>k.notS a b⟩
theorem rL.gone {c c':MC}(h:rL w c i e)(k:Gone w c w' c')(hi:i<c.T.length)(hp:∀a∈e.parts,a<c.T.length):rL w' c' i e :=
 h.kept k.kept k.m (λa b=>k.R a (hp a b)) (k.R i hi) (k.KM i hi) (k.lang hi)
def MC.add (c:MC)(e:RE)(x mm:Nat):MC:={ c with T:=c.T++[e],R:=λi=>if i=c.T.length then x else c.R i,KM:=λi=>if i=c.T.length then mm else c.KM i }
theorem jP {c:MC}(h:i<c.T.length):(c.add e x mm).R i=c.R i:=zR (by omega)
theorem nj {c:MC}:(c.add e x mm).R c.T.length=x:=zX rfl
theorem iN {c:MC}(h:i<c.T.length):(c.add e x mm).KM i=c.KM i:=zR (by omega)
theorem ii {c:MC}:(c.add e x mm).KM c.T.length=mm:=zX rfl
theorem QZ {c:MC}(hb:But c.S w w')(hm:w.heap.size<=mm)(hx:∀g,g<w.heap.size->c.X g->w'.heap[g]?=w.heap[g]?):Gone w c w' (c.add e x mm) where
 m:=rfl
 bm:=rfl
 T:=⟨[e],rfl⟩
 R:=λi a=>jP a
 KM:=λi a=>iN a
 newK:=λi d b=>by
  have:i=c.T.length:=by simp[MC.add]at b;omega
  subst this;rw[ii];exact hm
 but:=hb
 X:=rfl
 keepX:=hx
open Classical in
noncomputable def uy (c:MC)(y:Nat):Int:=if h:∃p,p<c.T.length/\c.R p=y then ((Classical.choose h:Nat):Int)else 0
theorem Fi {c:MC}{p:Nat}(h:MkI w c q)(hp:p<c.T.length):uy c (c.R p)=(p:Int):=by
 have a:∃p',p'<c.T.length/\c.R p'=c.R p:=⟨p,hp,rfl⟩;unfold uy;rw[dif_pos a];have b:=Classical.choose_spec a;rw[h.inj _ _ b.1 hp b.2]
theorem MkI.cell0 {c:MC}{p:Nat}(h:MkI w c q)(hp:p<c.T.length):w.cell? (aD (c.R p) 0)=some (Vi (p:Int))/\c.R p<w.heap.size:=by
 obtain⟨e,d⟩:∃e,c.T[p]?=some e:=⟨_,zB hp⟩;obtain⟨g,k,j,i,b,F,f,a,_⟩:=h.rest p e d;exact⟨ag.cell a 0,ag.lt a⟩
theorem Xy {c:MC}(h:MkI w c q)(hq:q<=9000000000000000000){S:NP}{ps:List Nat}(hps:∀a∈ps,a<c.T.length)(hp:dQ w S c.R pa ps):qD w pa (ps.map c.R) (uy c):=by
 intro j y g;rw[zg]at g;obtain⟨p,b,rfl⟩:=Option.map_eq_some_iff.1 g;have d:=hps p (zU b);obtain⟨k,f,e,o,_,n⟩:=hp j p b;obtain⟨i,l⟩:=h.cell0 d;have m:=h.le;rw[Fi h d];exact⟨k,f,e,o,l,n,i,by omega,by omega⟩
theorem Jx {w:World}{c:MC}{q:Nat}(h:MkI w c q):∀{ps:List Nat},(∀a∈ps,a<c.T.length)->(ps.map c.R).map (uy c)=jO ps
 | [],_=>rfl
 |a::ps,hp=>by
  simp only[zp,jO];rw[Fi h (hp a (by simp)),Jx h (λb d=>hp b (by simp[d]))];rfl
def au (w0:World)(c:MC)(q:Nat)(L:Lg)(Z:Me)(r:Ending)(w':World):Prop:=∃c' j,r=.returned (ae (c'.R j))/\MkI w' c' q/\Gone w0 c w' c'/\j<c'.T.length/\lg c'.T j=L/\sz c'.T j<=Z
def jF (w0:World)(c:MC)(q:Nat)(e:RE)(r:Ending)(w':World):Prop:=∃c' j,r=.returned (ae (c'.R j))/\MkI w' c' q/\Gone w0 c w' c'/\c'.T[j]?=some e/\lg c'.T j=e.lang (lg c.T)
theorem Gone.pow {c c':MC}(h:Gone w c w' c')(hI:MkI w c q)(hP:aZ w):aZ w':=hP.same λi a d=>h.but.block i a (λb=>by have:=hI.low i b;omega)
theorem jF.at {c:MC}{r:Ending}{L:Lg}{Z:Me}(h:jF W0 c q e r w')(hb:Bw w W0)(hps:∀a∈e.parts,a<c.T.length)(hL:e.lang (lg c.T)=L)(hZ:e.size (sz c.T)<=Z):au w c q L Z r w':=by
 obtain⟨i,j,rfl,d,g,b,f⟩:=h;refine⟨i,j,rfl,d,(Gone.below hb).trans g,(zC.1 b).1,f.trans hL,?_⟩;rw[pg b (d.wf j e b).2];rw[RE.size_congr e (λa k=>g.sz (hps a k))];exact hZ
theorem Xz {w0:World}{c:MC}(hI0:MkI w0 c q)(hb:Bw w0 w)(hwf:e.Wf)(hps:∀a∈e.parts,a<c.T.length)(hx0:w0.heap.size<=x)(hxw:x<w.heap.size)(hen:en=true↔e.lang (lg c.T) [])
  (hpa:dQ w (λg=>c.S g\/g=x) c.R pa e.parts) (hbv:Ku w (λg=>c.S g\/g=x) c.R c.m e F cp) (hf:∀s y,f s=some y↔∃(i:Nat) (e:RE),c.T[i]?=some e/\e.name=s/\y=c.R i) (hno:f e.name=none)
  (hbut:But (λk=>k=x\/k=c.bm) w w') (hM:MS w' c.m c.bm (some (c.R 0)) (some (c.R 1)) (put f e.name x) (c.T.length+1)) (hN:Xc w w' x c.T.length e.kd pa e.parts.length pc en F cp):∃mm,MkI w' (c.add e x mm) (q+1)/\Gone w0 c w' (c.add e x mm):=by
 obtain⟨k,b,mm,hR,G,hB,hK,W⟩:=hN;have V:0<c.T.length:=(zC.1 hI0.t0).1;have U:1<c.T.length:=(zC.1 hI0.t1).1;have N:=hb.size;have p:∀g,c.S g->g<w0.heap.size:=by
  rintro g (z|z)
  ·exact hI0.Mp_lt z
  ·exact (hI0.xs g z).1
 have C:But c.S w0 w':=⟨hbut.os.trans hb.os,hbut.tape.trans hb.tape,hbut.output.trans hb.output,zJ N hbut.size,λg z E=>(hbut.block g (by omega) (by rintro (rfl|rfl);omega;exact E (.inl (.inl rfl)))).trans (hb.block g z)⟩;have d:Gone w0 c w' (c.add e x mm):=QZ C (by omega) (λg z Y=>(hbut.block g (by omega) (by rintro (rfl|rfl);omega;exact (hI0.xs _ Y).2 (.inl rfl))).trans (hb.block g z));have I:∀g,g<w.heap.size->¬c.S g->¬(c.add e x mm).S g:=by
  rintro g z E ((m|⟨i,t,m⟩)|m)
  ·exact E (.inl (.inl m))
  ·by_cases l:i<c.T.length
   ·rw[iN l]at m;exact E (.inl (.inr ⟨i,l,m⟩))
   ·have:i=c.T.length:=by simp[MC.add]at t;omega
    subst this;rw[ii]at m;omega
  ·exact E (.inr m)
 have B:Kept w (λg=>c.S g\/g=x) w' (c.add e x mm).S:=⟨hbut.size,λg z E=>hbut.block g z (by rintro (h|h);exact E (.inr h);exact E (.inl (.inl (.inl h)))),λg z E=>I g z (λh=>E (.inl h))⟩;have L:∀g,w.heap.size<=g->g≠mm->¬(c.add e x mm).S g:=by
  rintro g z J ((m|⟨i,t,m⟩)|m)
  ·have:=p g (.inl (.inl m));omega
  ·by_cases l:i<c.T.length
   ·rw[iN l]at m;have:=p g (.inl (.inr ⟨i,l,m⟩));omega
   ·have:i=c.T.length:=by simp[MC.add]at t;omega
    subst this;rw[ii]at m;exact J m
  ·have:=p g (.inr m);omega
 have o:(c.add e x mm).T.length=c.T.length+1:=by simp[MC.add]
 have P:∀i u,(c.add e x mm).T[i]?=some u->(c.T[i]?=some u/\i<c.T.length)\/(i=c.T.length/\u=e):=by
  intro i u t;have A:(c.T++[e])[i]?=some u:=t;by_cases l:i<c.T.length
  ·rw[yY l]at A;exact .inl ⟨A,l⟩
  ·rw[yk (by omega)]at A;have h0:i-c.T.length=0:=by
    have:=(zC.1 A).1;simp at this;omega
   rw[h0]at A;simp at A;exact .inr ⟨by omega,A.symm⟩
 have Q:¬c.S x:=λh=>by have:=p x h;omega
 refine⟨mm,?_,d⟩;exact {
  mb:=by rw[jP V,jP U];exact hM.1
  ms:=d.notS hI0.mb.lt hI0.ms
  map:=by
   refine⟨put f e.name x,by rw[o];exact hM.2.1,λs y=>?_⟩;unfold put;by_cases N:s=e.name
   ·subst N;rw[zX rfl];constructor
    ·intro h;cases h;exact⟨c.T.length,e,by simp[MC.add],rfl,nj.symm⟩
    ·rintro⟨i,u,H,K,rfl⟩;rcases P i u H with⟨D,O⟩|⟨rfl,rfl⟩
     ·have:=(hf e.name (c.R i)).2 ⟨i,u,D,K,rfl⟩;rw[hno]at this;cases this
     ·rw[nj]
   ·rw[zR N,hf];constructor
    ·rintro⟨i,u,H,K,rfl⟩;exact⟨i,u,d.at H,K,(jP (zC.1 H).1).symm⟩
    ·rintro⟨i,u,H,K,rfl⟩;rcases P i u H with⟨D,O⟩|⟨rfl,rfl⟩
     ·exact⟨i,u,D,K,jP O⟩
     ·exact absurd K.symm N
  t0:=d.at hI0.t0
  t1:=d.at hI0.t1
  le:=by rw[o];have:=hI0.le;omega
  wf:=λi u t=>by
   rcases P i u t with⟨D,_⟩|⟨rfl,rfl⟩
   ·exact hI0.wf i u D
   ·exact⟨hwf,hps⟩
  rest:=λi u t=>by
   rcases P i u t with⟨D,O⟩|⟨rfl,rfl⟩
   ·exact (hI0.rest i u D).gone d O (λa M=>by have:=(hI0.wf i u D).2 a M;omega)
   ·refine⟨pa,pc,en,k,b,F,cp,by rw[nj];exact hR,?_,hpa.kept B (λa M=>jP (hps a M)),by rw[nj];exact I x hxw Q,L k G.1 G.2.2.2.1,L b G.2.1 G.2.2.2.2.1,by rw[ii];exact hK,hB,hbv.kept B (λa M=>jP (hps a M))⟩;show en=true↔lg (c.T++[u]) c.T.length []
    rw[GH];exact hen
  know:=λi t=>by
   by_cases l:i<c.T.length
   ·obtain⟨g,n,H,K,D⟩:=hI0.know i l;have J:c.KM i≠c.bm:=hI0.kmb i l;have S:=H.lt;refine⟨g,n,by rw[iN l];exact H.block ((hbut.block _ (by omega) (by rintro (h|h);omega;exact J h)).trans (hb.block _ S)),by omega,λr y X=>?_⟩;obtain⟨j,T,j2,j3,j4⟩:=D r y X;exact⟨j,by rw[o];omega,by rw[jP T];exact j2,by rw[d.lang T,d.lang l];exact j3,by rw[d.sz T,d.sz l];exact j4⟩
   ·have:i=c.T.length:=by rw[o]at t;omega
    subst this;exact⟨λ_=>none,0,by rw[ii];exact iB.fresh W,by omega,λr y X=>by cases X⟩
  kmb:=λi t=>by
   by_cases l:i<c.T.length
   ·rw[iN l];exact hI0.kmb i l
   ·have:i=c.T.length:=by rw[o]at t;omega
    subst this;rw[ii];intro Z;have:=p c.bm (.inl (.inl rfl));have h8:mm=c.bm:=Z;omega
  kmi:=λi j t R h=>by
   rw[o]at t R;by_cases l:i<c.T.length<;>by_cases v:j<c.T.length
   ·rw[iN l,iN v]at h;exact hI0.kmi i j l v h
   ·have:j=c.T.length:=by omega
    subst this;rw[iN l,ii]at h;have:=p (c.KM i) (.inl (.inr ⟨i,l,rfl⟩));omega
   ·have:i=c.T.length:=by omega
    subst this;rw[iN v,ii]at h;have:=p (c.KM j) (.inl (.inr ⟨j,v,rfl⟩));omega
   ·omega
  inj:=λi j t R h=>by
   rw[o]at t R;by_cases l:i<c.T.length<;>by_cases v:j<c.T.length
   ·rw[jP l,jP v]at h;exact hI0.inj i j l v h
   ·have:j=c.T.length:=by omega
    subst this;rw[jP l,nj]at h;have:=(hI0.cell0 l).2;omega
   ·have:i=c.T.length:=by omega
    subst this;rw[jP v,nj]at h;have:=(hI0.cell0 v).2;omega
   ·omega
  low:=by
   have a1:=hI0.low c.bm (.inl (.inl rfl));have a0:=p c.bm (.inl (.inl rfl));rintro g ((m|⟨i,t,m⟩)|m)
   ·exact hI0.low g (.inl (.inl m))
   ·by_cases l:i<c.T.length
    ·rw[iN l]at m;exact hI0.low g (.inl (.inr ⟨i,l,m⟩))
    ·have:i=c.T.length:=by rw[o]at t;omega
     subst this;rw[ii]at m;omega
   ·exact hI0.low g (.inr m)
  xs:=λg z=>⟨by have:=(hI0.xs g z).1;have:=C.size;omega,by
   rintro (m|⟨i,t,m⟩)
   ·exact (hI0.xs g z).2 (.inl m)
   ·by_cases l:i<c.T.length
    ·rw[iN l]at m;exact (hI0.xs g z).2 (.inr ⟨i,l,m⟩)
    ·have:i=c.T.length:=by rw[o]at t;omega
     subst this;rw[ii]at m;have:=(hI0.xs g z).1;omega⟩ }
theorem qa {w0:World}{c:MC}{mc:Nat}{n0:Int}{ma:OA}(hI0:MkI w0 c q)(hb:Bw w0 w)(hP:aZ w)(hwf:e.Wf)(hps:∀a∈e.parts,a<c.T.length)(hx0:w0.heap.size<=x)(hx:kG w x n0 e.kd pa e.parts.length pc en (Vf F cp))(hen:en=true↔e.lang (lg c.T) [])
  (hpa:dQ w (λg=>c.S g\/g=x) c.R pa e.parts) (hbv:Ku w (λg=>c.S g\/g=x) c.R c.m e F cp) (hns:iE w ma e.args) (hl1:e.args.length<=1000000) (hl2:e.parts.length<=3000000000000) (hq:q<=9000000000000000000):Calls prog 62 #[ae c.m,ae x,.slice ma e.args.length mc] w (jF w0 c (q+1) e):=by
 have d:=hI0.below hb;obtain⟨f,p,l⟩:=d.map;have o:c.m≠c.bm:=λh=>d.ms (.inl (.inl h));have E:MS w c.m c.bm (some (c.R 0)) (some (c.R 1)) f c.T.length:=⟨d.mb,p,o⟩;have s:fl e.kd e.args ((e.parts.map c.R).map (uy c))=e.name:=by unfold RE.name;rw[Jx d hps]
 have D:c.bm<w0.heap.size:=by obtain⟨I,n,_⟩:=hI0.map;exact n.lt
 have G:=hI0.mb.lt;have k:0<=e.kd/\e.kd<=9:=by cases e<;>simp[RE.kd]
 have A:=d.le;have u:kG w x n0 e.kd pa (e.parts.map c.R).length pc en (Vf F cp):=by rw[ym];exact hx
 refine (sC F cp ma mc e.args (e.parts.map c.R) (uy c) E u (by omega) (by omega) hns (Xy d hq hps hpa) hP k.1 k.2 hl1 (by rw[ym];exact hl2) (by omega)).mono ?_;intro r J m;rw[s]at m;cases hfe:f e.name with
 |some y=>
  rw[hfe]at m;obtain⟨rfl,b⟩:=m;obtain⟨i,K,n,C,rfl⟩:=(l e.name y).1 hfe;have:=RE.name_inj C;subst this;exact⟨c,i,rfl,(d.below b).more (by omega),Gone.below (hb.trans (b.mono hb.size)),n,d.lang n⟩
 |none=>
  rw[hfe]at m;obtain⟨rfl,j,v,z⟩:=m;rw[ym]at z;obtain⟨H,t,B⟩:=Xz hI0 hb hwf hps hx0 (ag.lt hx) hen hpa hbv l hfe j v z;exact⟨_,c.T.length,by rw[nj],t,B,by simp[MC.add],GH⟩
theorem MkI.S_lt {c:MC}(h:MkI w c q)(hg:c.S g):g<w.heap.size:=by
 rcases hg with hg|hg
 ·exact h.Mp_lt hg
 ·exact (h.xs g hg).1
theorem MkI.look {c:MC}(h:MkI w c q)(hi:c.T[i]?=some e):∃pa pc en fv,kG w (c.R i) i e.kd pa e.parts.length pc en fv/\(en=true↔lg c.T i [])/\dQ w c.S c.R pa e.parts/\¬c.S (c.R i):=by
 obtain⟨pa,pc,en,k,b,F,j,g,a,f,d,_⟩:=h.rest i e hi;exact⟨pa,pc,en,_,g,a,f,d⟩
theorem XJ (h:W.heap.size=N)(o2:Obj):ag ((W.alloc (.cells cs.toArray T)).alloc o2).drew N cs T:=by subst h;exact (ag.new W cs T).alloc o2
theorem XK (h:W.heap.size=N)(o1:Obj):ag ((W.alloc o1).alloc (.cells cs.toArray T)).drew (N+1) cs T:=by
 subst h;have h:=ag.new (W.alloc o1) cs T;rw[show (W.alloc o1).heap.size=W.heap.size+1 by simp]at h;exact h
theorem XL (W:World)(o1 o2:Obj):Bw W ((W.alloc o1).alloc o2).drew:=(((zE _ W).alloc (zA _) _).alloc (by simp) _).drew
theorem SR {c:MC}{S:Nat}(hI:MkI w c q)(hq:q<=9000000000000000000)(ha:a<c.T.length)(hen:en=true↔lg c.T a [])(hB0:Bw w W0)(hS:w.heap.size=S)(hs0:W0.heap.size=S+2)(hb1:ag W0 S [ae c.m] 95)(hb2:ag W0 (S+1) [ae (c.R a)] 103)(hP:aZ W0)
  (hB:Bw W0 W) (hp:ag W (S+2) [ae (c.R a)] 103) (hx:ag W (S+2+1) [Vi 0,Vi 4,.slice (some (aD (S+2) 0)) 1 1,.bool (!en),Vf 115 #[ae S,ae (S+1)]] 113):Calls prog 62 #[ae c.m,ae (S+2+1),Vz] W (jF W0 c (q+1) (.not a)):=by
 have i:∀g,S<=g->g≠S+2+1->¬(c.S g\/g=S+2+1):=λg m l d=>by
  rcases d with d|d
  ·have:=hI.S_lt d;omega
  ·exact l d
 exact qa (e:=.not a) (hI.below hB0) hB (hP.below hB) trivial (λb k=>by simp[RE.parts]at k;subst k;exact ha) (by omega) hx (by
   cases en with
   |true=>simp only[Bool.not_true,yR,false_iff];intro h;exact h (hen.1 rfl)
   |false=>simp only[Bool.not_false,true_iff];intro h;have:=hen.2 h;cases this)
  (λj p f=>by
   match j,f with
   |0,f=>simp[RE.parts]at f;subst f;exact⟨S+2,0,rfl,hp.lt,i _ (by omega) (by omega),hp.cell 0⟩)
  ⟨S,S+1,rfl,rfl,i _ (by omega) (by omega),i _ (by omega) (by omega),hb1.below hB,hb2.below hB⟩ (iE.nil _ _) (by simp[RE.args]) (by simp[RE.parts]) hq
theorem oQ {c:MC}(hI:MkI w c q)(hq:q<=9000000000000000000)(ha:a<c.T.length)(hP:aZ w):Calls prog 73 #[ae c.m,ae (c.R a)] w (au w c (q+1) (fZ (lg c.T a)) (bB (sz c.T a))):=by
 obtain⟨e,C⟩:∃e,c.T[a]?=some e:=⟨_,zB ha⟩;obtain⟨pa,pc,N,fv,D,v,n,o⟩:=hI.look C;have b5:=ag.lt D;obtain⟨S,H⟩:∃S,w.heap.size=S:=⟨_,rfl⟩;obtain⟨l,y,g,f,d,z⟩:=jK H [ae c.m] 95 [ae (c.R a)] 103;have K:l.cell? (aD S 0)=some (ae c.m):=f.cell 0;have J:l.cell? (aD (S+1) 0)=some (ae (c.R a)):=d.cell 0;have i:=ag.below D g;have I:l.cell? (aD (c.R a) 3)=some (.bool N):=i.cell 3;have c4:l.cell? (aD (c.R a) 1)=some (Vi e.kd):=i.cell 1;have c5:l.cell? (aD (c.R a) 2)=some (.slice pa e.parts.length pc):=i.cell 2;have t:c.R a<l.heap.size:=i.lt;have HI:=aa hI;have x:=aa g;have G:=aa y;have T:=aa H;have HC:=aa (λ(W:World)=>SR (W:=W) hI hq ha v g H z f d (hP.below g));have X:Hid (∀m:World,(∀k,k<l.heap.size->m.heap[k]?=l.heap[k]?)->m.cell? (aD S 0)=some (ae c.m)/\m.cell? (aD (S+1) 0)=some (ae (c.R a))/\m.cell? (aD (c.R a) 3)=some (.bool N)):=λm A=>⟨(zP (w:=l) (A S f.lt)).trans K,(zP (w:=l) (A (S+1) d.lt)).trans J,(zP (w:=l) (A _ t)).trans I⟩;have a4:Hid (∀(m:World) (M:MC),Gone l c m M->m.cell? (aD S 0)=some (ae c.m)/\m.cell? (aD (S+1) 0)=some (ae (c.R a))/\m.cell? (aD (c.R a) 3)=some (.bool N)):=λm M E=>by
  have n1:¬c.S S:=λh=>by have:=hI.S_lt h;omega
  have n2:¬c.S (S+1):=λh=>by have:=hI.S_lt h;omega
  exact⟨(E.but.cell (p:=(aD S 0)) f.lt n1).trans K,(E.but.cell (p:=(aD (S+1) 0)) d.lt n2).trans J,(E.but.cell (p:=(aD (c.R a) 3)) t o).trans I⟩
 have b3:=aa o;have a2:=aa (hI.lang C);have Y:=aa (pg C (hI.wf a e C).2);have b0:=aa n;have b2:=aa (hI.wf a e C);have a5:=aa f;have a6:=aa d;have x1:w.cell? (aD (c.R a) 1)=some (Vi e.kd):=ag.cell D 1;have x2:w.cell? (aD (c.R a) 2)=some (.slice pa e.parts.length pc):=ag.cell D 2;have a8:c.R a≠w.heap.size:=by omega
 have a7:c.R a≠w.heap.size+1:=by omega
 by_cases s:e.kd=4
 ·have hz:(e.kd==4)=true:=beq_iff_eq.2 s;obtain⟨B,rfl⟩:∃B,e=.not B:=by cases e<;>simp[RE.kd]at s;exact⟨_,rfl⟩
  obtain⟨bb,b6,rfl,b1,b4,V⟩:=n 0 B rfl;have P:Hid (B<a):=(hI.wf a _ C).2 B (by simp[RE.parts]);have a9:(1:Int)>0:=by decide
  simp only[RE.parts,zo]at x2;rw[xF]at V;go_enter func73,ntmps73;go_wp2_with fail;go_ret;rw[G.out];refine⟨c,B,rfl,(HI.below x).more (by omega),Gone.below x,by have:=P.out;omega,?_,?_⟩
  ·rw[a2.out];exact not_not.symm
  ·have h9:=Y.out;rw[h9];exact Me.trans (BT _) (BT _)
 ·have hz:(e.kd==4)=false:=zD.2 s;go_enter func73,ntmps73;go_wp2_with fail;rw[G.out];simp only[T.out];refine yW (S:=λQ:World=>Q.cell? (aD S 0)=some (ae c.m)/\Q.cell? (aD (S+1) 0)=some (ae (c.R a))/\Q.cell? (aD (c.R a) 3)=some (.bool N)) (by kernel_rfl) (X _ (λ_ _=>rfl)) (λhHeld=>?_);refine tk 0 ?_;simp only[tS];refine tk 1 ?_;simp only[tS];refine tk 3 ?_;simp only[tS];refine tk 4 ?_;simp only[tS];refine tk 5 ?_;simp only[tS];refine tk 6 ?_;simp only[tS];refine tk 7 ?_;simp only[tS];refine tk 8 ?_;simp only[tS];refine di 2 (λF u=>?_);go_simp;refine u _ _ (X _ (λk s=>zS _ _ _ s)) (λhHeld=>?_)
  try simp only[tS]
  refine tk 9 ?_;simp only[tS];refine di 10 (λF u=>?_);go_simp;refine u _ _ (X _ (λk s=>(zS _ _ _ (by simp;omega)).trans (zS _ _ _ s))) (λhHeld=>?_)
  try simp only[tS]
  refine di 11 (λF u=>?_);go_simp;refine (HC _ (XL _ _ _) (XJ z _) (XK z _)).mono ?_;intro r w5 h5;have O:=aa (h5.at (L:=fZ (lg c.T a)) (Z:=bB (sz c.T a)) x (λb A=>by simp[RE.parts]at A;subst A;exact ha) rfl (Me.refl _));obtain⟨M,j,rfl,a1,E,R,a3⟩:=h5;have U:=a4.out w5 M E;go_wp2_with fail;refine u _ _ U (λhHeld=>?_)
  try simp only[tS]
  refine tk 12 ?_;simp only[tS];refine yV (by kernel_rfl) ?_ _;go_wp2_with fail;go_ret;exact O
set_option maxHeartbeats 8000000
theorem Np {c:MC}{S X A B:Nat}{n:Int}(hI:MkI w c q)(hq:q<=9000000000000000000)(ha:a<c.T.length)(hm0:0<=m)(hm5:m<=5)(hn:n=-1\/(0<n/\m<=n/\n<=5))(hen:en=true↔(m=0\/lg c.T a []))(hB0:Bw w W0)(hS:w.heap.size=S)(hs0:W0.heap.size=S+4)(hb1:ag W0 S [ae c.m] 95)(hb2:ag W0 (S+1) [ae (c.R a)] 103)(hb3:ag W0 (S+1+1) [Vi m] 3)(hb4:ag W0 (S+1+1+1) [Vi n] 3)(hP:aZ W0)
  (hB:Bw W0 W) (hx:ag W X [Vi 0,Vi 5,Vs A 1 1,.bool en,Vf 116 #[ae S,ae (S+1),ae (S+1+1),ae (S+1+1+1)]] 113) (hp:ag W A [ae (c.R a)] 103) (hi:ag W B [Vi m,Vi n] 3) (hX:S+4<=X) (hA:S+4<=A) (_hB2:S+4<=B) (hXA:X≠A):Calls prog 62 #[ae c.m,ae X,Vs B 2 2] W (jF W0 c (q+1) (.many a m n)):=by
 have f:∀g,S<=g->g≠X->¬(c.S g\/g=X):=λg l k h=>by
  rcases h with h|h
  ·have:=hI.S_lt h;omega
  ·exact k h
 exact qa (e:=.many a m n) (hI.below hB0) hB (hP.below hB) ⟨hm0,hm5,hn⟩ (λb i=>by simp[RE.parts]at i;subst i;exact ha) (by omega) hx (by rw[hen];exact (Db hm0 (by omega)).symm)
  (λj p d=>by
   match j,d with
   |0,d=>simp[RE.parts]at d;subst d;exact⟨A,0,rfl,hp.lt,f _ (by omega) (Ne.symm hXA),hp.cell 0⟩)
  ⟨S,S+1,S+1+1,S+1+1+1,rfl,rfl,f _ (by omega) (by omega),f _ (by omega) (by omega),f _ (by omega) (by omega),f _ (by omega) (by omega),hb1.below hB,hb2.below hB,hb3.below hB,hb4.below hB⟩
  (λj y d=>by
   match j,d with
   |0,d=>simp[RE.args]at d;subst d;exact⟨B,0,rfl,hi.lt,hi.cell 0,by omega,by omega⟩
   |1,d=>simp[RE.args]at d;subst d;exact⟨B,0,rfl,hi.lt,hi.cell 1,by omega,by omega⟩)
  (by simp[RE.args]) (by simp[RE.parts]) hq
theorem KF {c:MC}{n:Int}(hI:MkI w c q)(hq:q<=9000000000000000000)(ha:a<c.T.length)(hP:aZ w)(hm0:0<=m)(hm5:m<=5)(hn:n=-1\/(0<n/\m<=n/\n<=5)):Calls prog 74 #[ae c.m,ae (c.R a),Vi m,Vi n] w (au w c (q+1) (dB (lg c.T a) m n) (cZ (sz c.T a))):=by
 obtain⟨e,he⟩:∃e,c.T[a]?=some e:=⟨_,zB ha⟩;obtain⟨pa,pc,en,fv,hR,V,a2,Y⟩:=hI.look he;have a6:=ag.lt hR;obtain⟨S,hS⟩:∃S,w.heap.size=S:=⟨_,rfl⟩;obtain⟨v,T,I,x,y,H,G,f⟩:=Zx hS [ae c.m] 95 [ae (c.R a)] 103 [Vi m] 3 [Vi n] 3;have c1:v.cell? (aD S 0)=some (ae c.m):=x.cell 0;have c2:v.cell? (aD (S+1) 0)=some (ae (c.R a)):=y.cell 0;have c3:v.cell? (aD (S+1+1) 0)=some (Vi m):=H.cell 0;have c4:v.cell? (aD (S+1+1+1) 0)=some (Vi n):=G.cell 0;have P:=ag.below hR I;have c5:v.cell? (aD (c.R a) 3)=some (.bool en):=P.cell 3;have M:c.R a<v.heap.size:=P.lt;have Q:=aa I;have a3:=aa T;have a1:=aa hS;have HC:=aa (λ(W:World) (X A B:Nat)=>Np (W:=W) (X:=X) (A:=A) (B:=B) (m:=m) (n:=n) (en:=(m==0)||en) hI hq ha hm0 hm5 hn (by rw[yZ,beq_iff_eq,V]) I hS f x y H G (hP.below I));have K:Hid (∀s:World,(∀k,k<v.heap.size->s.heap[k]?=v.heap[k]?)->s.cell? (aD S 0)=some (ae c.m)/\s.cell? (aD (S+1) 0)=some (ae (c.R a))/\s.cell? (aD (S+1+1) 0)=some (Vi m)/\s.cell? (aD (S+1+1+1) 0)=some (Vi n)/\s.cell? (aD (c.R a) 3)=some (.bool en)):=λs u=>⟨(zP (w:=v) (u S x.lt)).trans c1,(zP (w:=v) (u (S+1) y.lt)).trans c2,(zP (w:=v) (u (S+1+1) H.lt)).trans c3,(zP (w:=v) (u (S+1+1+1) G.lt)).trans c4,(zP (w:=v) (u _ M)).trans c5⟩;have R:Hid (∀(s:World) (N:MC),Gone v c s N->s.cell? (aD S 0)=some (ae c.m)/\s.cell? (aD (S+1) 0)=some (ae (c.R a))/\s.cell? (aD (S+1+1) 0)=some (Vi m)/\s.cell? (aD (S+1+1+1) 0)=some (Vi n)/\s.cell? (aD (c.R a) 3)=some (.bool en)):=λs N t=>by
  have nn:∀g,S<=g->¬c.S g:=λg hg h=>by have:=hI.S_lt h;omega
  exact⟨(t.but.cell (p:=(aD S 0)) x.lt (nn S (by omega))).trans c1,(t.but.cell (p:=(aD (S+1) 0)) y.lt (nn (S+1) (by omega))).trans c2,(t.but.cell (p:=(aD (S+1+1) 0)) H.lt (nn (S+1+1) (by omega))).trans c3,(t.but.cell (p:=(aD (S+1+1+1) 0)) G.lt (nn (S+1+1+1) (by omega))).trans c4,(t.but.cell (p:=(aD (c.R a) 3)) M Y).trans c5⟩
 have hz:(n==0)=false:=zD.2 (by omega);have a4:c.R a≠w.heap.size:=by omega
 have a5:c.R a≠w.heap.size+1:=by omega
 go_enter func74,ntmps74;go_wp2_with fail;rw[a3.out];simp only[a1.out];obtain⟨z,a0⟩:∃z,(m==0)=z:=⟨_,rfl⟩;cases z
 all_goals
  simp only[a0,Bool.false_or,Bool.true_or]at HC;refine yW (S:=(λw':World=>w'.cell? (aD S 0)=some (ae c.m)/\w'.cell? (aD (S+1) 0)=some (ae (c.R a))/\w'.cell? (aD (S+1+1) 0)=some (Vi m)/\w'.cell? (aD (S+1+1+1) 0)=some (Vi n)/\w'.cell? (aD (c.R a) 3)=some (.bool en))) (by kernel_rfl) (K _ (λ_ _=>rfl)) (λhHeld=>?_);refine tk 0 ?_;simp only[tS];refine tk 1 ?_;simp only[tS];refine tk 3 ?_;simp only[tS];refine tk 4 ?_;simp only[tS];refine tk 5 ?_;simp only[tS]
  first|refine tk 6 ?_|refine CG 6 ?_
  simp only[tS]
  first|refine tk 7 ?_|refine CG 7 ?_
  simp only[tS]
  first|refine tk 8 ?_|refine CG 8 ?_
  simp only[tS]
  first|refine tk 9 ?_|refine CG 9 ?_
  simp only[tS];refine tk 10 ?_;simp only[tS];refine tk 11 ?_;simp only[tS];refine tk 14 ?_;simp only[tS];refine tk 15 ?_;simp only[tS];refine wpAnyH_ready (rs:=[2,16]) (by kernel_rfl) (by simp) ?_;refine yM (o:=_) rfl (λi d=>?_) ?_
  ·go_simp;refine d _ _ (K _ (λk l=>zS _ _ _ l)) (λhHeld=>?_)
   try simp only[tS]
   refine tk 12 ?_;simp only[tS];refine wpAnyH_ready (rs:=[13,16]) (by kernel_rfl) (by simp) ?_;refine yM (o:=_) rfl (λi d=>?_) ?_
   ·go_simp;refine d _ _ (K _ (λk l=>(zS _ _ _ (by simp;omega)).trans (zS _ _ _ l))) (λhHeld=>?_)
    try simp only[tS]
    refine di 16 (λi d=>?_)
    ·go_simp;refine d _ _ (K _ (λk l=>((zS _ _ _ (by simp;omega)).trans (zS _ _ _ (by simp;omega))).trans (zS _ _ _ l))) (λhHeld=>?_)
     try simp only[tS]
     refine di 17 (λi d=>?_)
     ·go_simp;refine (HC _ _ _ _ (DT _ _ _ _) (QJ f _ _) (QI f _ _) (QK f _ _) (by omega) (by omega) (by omega) (by omega)).mono ?_;intro r U O;have F:=aa (O.at (L:=dB (lg c.T a) m n) (Z:=cZ (sz c.T a)) Q (λb u=>by simp[RE.parts]at u;subst u;exact ha) rfl (Me.refl _));obtain⟨N,j,rfl,E,t,C,J⟩:=O;have D:=R.out U N t;go_wp2_with fail;refine d _ _ D (λhHeld=>?_)
      try simp only[tS]
      refine tk 18 ?_;simp only[tS];refine yV (by kernel_rfl) ?_ _;go_wp2_with fail;go_ret;exact F
   refine yM (o:=_) rfl (λi d=>?_) ?_
   ·go_simp;refine d _ _ (K _ (λk l=>(zS _ _ _ (by simp;omega)).trans (zS _ _ _ l))) (λhHeld=>?_)
    try simp only[tS]
    refine di 13 (λi d=>?_)
    ·go_simp;refine d _ _ (K _ (λk l=>((zS _ _ _ (by simp;omega)).trans (zS _ _ _ (by simp;omega))).trans (zS _ _ _ l))) (λhHeld=>?_)
     try simp only[tS]
     refine di 17 (λi d=>?_)
     ·go_simp;refine (HC _ _ _ _ (DT _ _ _ _) (QK f _ _) (QI f _ _) (QJ f _ _) (by omega) (by omega) (by omega) (by omega)).mono ?_;intro r U O;have F:=aa (O.at (L:=dB (lg c.T a) m n) (Z:=cZ (sz c.T a)) Q (λb u=>by simp[RE.parts]at u;subst u;exact ha) rfl (Me.refl _));obtain⟨N,j,rfl,E,t,C,J⟩:=O;have D:=R.out U N t;go_wp2_with fail;refine d _ _ D (λhHeld=>?_)
      try simp only[tS]
      refine tk 18 ?_;simp only[tS];refine yV (by kernel_rfl) ?_ _;go_wp2_with fail;go_ret;exact F
   ·exact xJ
  refine yM (o:=_) rfl (λi d=>?_) ?_
  ·go_simp;refine d _ _ (K _ (λk l=>zS _ _ _ l)) (λhHeld=>?_)
   try simp only[tS]
   refine di 2 (λi d=>?_)
   ·go_simp;refine d _ _ (K _ (λk l=>(zS _ _ _ (by simp;omega)).trans (zS _ _ _ l))) (λhHeld=>?_)
    try simp only[tS]
    refine tk 12 ?_;simp only[tS];refine di 13 (λi d=>?_)
    ·go_simp;refine d _ _ (K _ (λk l=>((zS _ _ _ (by simp;omega)).trans (zS _ _ _ (by simp;omega))).trans (zS _ _ _ l))) (λhHeld=>?_)
     try simp only[tS]
     refine di 17 (λi d=>?_)
     ·go_simp;refine (HC _ _ _ _ (DT _ _ _ _) (QK f _ _) (QJ f _ _) (QI f _ _) (by omega) (by omega) (by omega) (by omega)).mono ?_;intro r U O;have F:=aa (O.at (L:=dB (lg c.T a) m n) (Z:=cZ (sz c.T a)) Q (λb u=>by simp[RE.parts]at u;subst u;exact ha) rfl (Me.refl _));obtain⟨N,j,rfl,E,t,C,J⟩:=O;have D:=R.out U N t;go_wp2_with fail;refine d _ _ D (λhHeld=>?_)
      try simp only[tS]
      refine tk 18 ?_;simp only[tS];refine yV (by kernel_rfl) ?_ _;go_wp2_with fail;go_ret;exact F
  ·exact xJ
theorem MkI.sz_one {w:World}{c:MC}{q i:Nat}(h:MkI w c q)(hi:i<c.T.length):aV<=sz c.T i:=Go.Proofs.YtebnghmioamheaaGreatDoor.sz_one (λi e hi=>(h.wf i e hi).2) i hi
theorem MkI.none {c:MC}(h:MkI w c q):lg c.T 0=eA:=by
 rw[h.lang h.t0];funext u;simp[RE.lang,eA]
theorem MkI.emp {c:MC}(h:MkI w c q):lg c.T 1=dZ:=by
 rw[h.lang h.t1];rfl
theorem MkI.sz0 {c:MC}(h:MkI w c q):sz c.T 0=aV:=by
 rw[pg h.t0 (h.wf 0 _ h.t0).2];rfl
theorem MkI.sz1 {c:MC}(h:MkI w c q):sz c.T 1=aV:=by
 rw[pg h.t1 (h.wf 1 _ h.t1).2];rfl
theorem Gj {c:MC}(hI:MkI w c q)(ha:a<c.T.length)(hb:b<c.T.length)(h:a=0):Calls prog 114 #[ae c.m,ae (c.R a),ae (c.R b)] w (au w c q (aJ (lg c.T a) (lg c.T b)) aV):=by
 obtain⟨ea,H⟩:∃e,c.T[a]?=some e:=⟨_,zB ha⟩;obtain⟨eb,J⟩:∃e,c.T[b]?=some e:=⟨_,zB hb⟩;obtain⟨a5,a4,U,a2,D,v,B,z⟩:=hI.look H;obtain⟨V,Z,N,Y,E,A,m,l⟩:=hI.look J;obtain⟨O,X,a6,a0,C,_⟩:=hI.look hI.t0;obtain⟨Q,a1,a3,W,s,_⟩:=hI.look hI.t1;have L:0<c.T.length:=(zC.1 hI.t0).1;have R:1<c.T.length:=(zC.1 hI.t1).1;obtain⟨i,x,d,p,F,r,-⟩:=rY (rfl:w.heap.size=_) [ae c.m] 95 [ae (c.R a)] 103 [ae (c.R b)] 103;have c1:i.cell? (aD w.heap.size 0)=some (ae c.m):=p.cell 0;have c2:i.cell? (aD (w.heap.size+1) 0)=some (ae (c.R a)):=F.cell 0;have c3:i.cell? (aD (w.heap.size+2) 0)=some (ae (c.R b)):=r.cell 0;have G:=hI.mb.below d;have c4:i.cell? (aD c.m 1)=some (ae (c.R 0)):=G.cell 1;have c5:i.cell? (aD c.m 2)=some (ae (c.R 1)):=G.cell 2;have T:=G.lt;have K:=aa x;have f:=aa d;have M:=aa hI;have u:=ag.below D d;have n:=ag.below E d;have o:=ag.below C d;have t:=ag.below s d;subst h;have q0:=lI (c.R 0);have P:Hid (lg c.T 0=aJ (lg c.T 0) (lg c.T b)):=by show _=_;rw[hI.none,CZ]
 go_enter func114,ntmps114;go_wp2_with fail;rw[K.out];generalize hS:w.heap.size=S at *
 go_quiet (fail)
 go_wp2_with fail;go_ret;subst hS;have I:∀j,(j.heap=i.heap/\j.os=i.os/\j.tape=i.tape/\j.output=i.output)->au w c q (aJ (lg c.T 0) (lg c.T b)) aV (.returned (ae (c.R 0))) j:=λj g=>by
  have y:Bw w j:=⟨g.2.1.trans f.os,g.2.2.1.trans f.tape,g.2.2.2.trans f.output,by rw[g.1];exact f.size,λk hk=>by rw[g.1];exact f.block k hk⟩;exact⟨c,0,rfl,M.below y,Gone.below y,L,P,by rw[M.out.sz0];exact Me.refl _⟩
 exact I _ ⟨rfl,rfl,rfl,rfl⟩
theorem WD {c:MC}(hI:MkI w c q)(ha:a<c.T.length)(hb:b<c.T.length)(h:a=0):Calls prog 114 #[ae c.m,ae (c.R a),ae (c.R b)] w (au w c q (aJ (lg c.T a) (lg c.T b)) (bf (sz c.T a) (sz c.T b))):=by
 refine (Gj hI ha hb h).mono ?_;rintro n m ⟨e,k,g,l,j,f,d,i⟩;refine⟨e,k,g,l,j,f,d,Me.trans i ?_⟩;have o:=hI.sz_one ha;have p:=hI.sz_one hb;refine⟨?_,?_,?_,?_⟩<;>simp only[bf,aV,Me.le_def]at *<;>omega
theorem WE {c:MC}(hI:MkI w c q)(ha:a<c.T.length)(hb:b<c.T.length)(h0:a≠0)(h:b=0):Calls prog 114 #[ae c.m,ae (c.R a),ae (c.R b)] w (au w c q (aJ (lg c.T a) (lg c.T b)) (bf (sz c.T a) (sz c.T b))):=by
 obtain⟨ea,L⟩:∃e,c.T[a]?=some e:=⟨_,zB ha⟩;obtain⟨eb,N⟩:∃e,c.T[b]?=some e:=⟨_,zB hb⟩;obtain⟨a8,a7,X,a5,G,y,E,B⟩:=hI.look L;obtain⟨Y,a2,Q,a1,H,C,r,p⟩:=hI.look N;obtain⟨R,a0,a9,a3,F,_⟩:=hI.look hI.t0;obtain⟨U,a4,a6,Z,v,_⟩:=hI.look hI.t1;have D:0<c.T.length:=(zC.1 hI.t0).1;have V:1<c.T.length:=(zC.1 hI.t1).1;obtain⟨n,z,d,t,I,u,-⟩:=rY (rfl:w.heap.size=_) [ae c.m] 95 [ae (c.R a)] 103 [ae (c.R b)] 103;have c1:n.cell? (aD w.heap.size 0)=some (ae c.m):=t.cell 0;have c2:n.cell? (aD (w.heap.size+1) 0)=some (ae (c.R a)):=I.cell 0;have c3:n.cell? (aD (w.heap.size+2) 0)=some (ae (c.R b)):=u.cell 0;have J:=hI.mb.below d;have c4:n.cell? (aD c.m 1)=some (ae (c.R 0)):=J.cell 1;have c5:n.cell? (aD c.m 2)=some (ae (c.R 1)):=J.cell 2;have W:=J.lt;have P:=aa z;have i:=aa d;have M:=aa hI;have g:=ag.below G d;have s:=ag.below H d;have f:=ag.below F d;have x:=ag.below v d;subst h;have O:c.R a≠c.R 0:=λh=>h0 (hI.inj _ _ ha D h);have q0:=λk=>aF (g.drewN k) (f.drewN k) O;have r0:=λk l=>aF ((g.drewN k).drewN l) ((f.drewN k).drewN l) O;have s0:=λk l j=>aF (((g.drewN k).drewN l).drewN j) (((f.drewN k).drewN l).drewN j) O;have q9:=lI (c.R 0);have T:Hid (lg c.T 0=aJ (lg c.T a) (lg c.T 0)):=by show _=_;rw[hI.none,uc]
 go_enter func114,ntmps114;go_wp2_with fail;rw[P.out];generalize hS:w.heap.size=S at *
 go_quiet (fail)
 go_wp2_with fail;go_ret;subst hS;have K:∀o,(o.heap=n.heap/\o.os=n.os/\o.tape=n.tape/\o.output=n.output)->au w c q (aJ (lg c.T a) (lg c.T 0)) (bf (sz c.T a) (sz c.T 0)) (.returned (ae (c.R 0))) o:=λo m=>by
  have A:Bw w o:=⟨m.2.1.trans i.os,m.2.2.1.trans i.tape,m.2.2.2.trans i.output,by rw[m.1];exact i.size,λk hk=>by rw[m.1];exact i.block k hk⟩;exact⟨c,0,rfl,M.below A,Gone.below A,D,T,by rw[M.out.sz0];have h:=M.sz_one ha;refine⟨?_,?_,?_,?_⟩<;>simp only[bf,aV,Me.le_def]at *<;>omega⟩
 exact K _ ⟨rfl,rfl,rfl,rfl⟩
theorem Gk {c:MC}(hI:MkI w c q)(ha:a<c.T.length)(hb:b<c.T.length)(h0:a≠0)(g0:b≠0)(h:a=1):Calls prog 114 #[ae c.m,ae (c.R a),ae (c.R b)] w (au w c q (aJ (lg c.T a) (lg c.T b)) (sz c.T b)):=by
 obtain⟨ea,L⟩:∃e,c.T[a]?=some e:=⟨_,zB ha⟩;obtain⟨eb,N⟩:∃e,c.T[b]?=some e:=⟨_,zB hb⟩;obtain⟨a9,a8,Y,a6,G,y,E,B⟩:=hI.look L;obtain⟨Z,a3,Q,a2,H,C,s,r⟩:=hI.look N;obtain⟨R,a1,b0,a4,F,_⟩:=hI.look hI.t0;obtain⟨V,a5,a7,a0,v,_⟩:=hI.look hI.t1;have D:0<c.T.length:=(zC.1 hI.t0).1;have W:1<c.T.length:=(zC.1 hI.t1).1;obtain⟨o,z,f,t,I,u,-⟩:=rY (rfl:w.heap.size=_) [ae c.m] 95 [ae (c.R a)] 103 [ae (c.R b)] 103;have c1:o.cell? (aD w.heap.size 0)=some (ae c.m):=t.cell 0;have c2:o.cell? (aD (w.heap.size+1) 0)=some (ae (c.R a)):=I.cell 0;have c3:o.cell? (aD (w.heap.size+2) 0)=some (ae (c.R b)):=u.cell 0;have J:=hI.mb.below f;have c4:o.cell? (aD c.m 1)=some (ae (c.R 0)):=J.cell 1;have c5:o.cell? (aD c.m 2)=some (ae (c.R 1)):=J.cell 2;have X:=J.lt;have P:=aa z;have m:=aa f;have U:=aa hI;have i:=ag.below G f;have g:=ag.below H f;have d:=ag.below F f;have x:=ag.below v f;subst h;have O:c.R 1≠c.R 0:=λh=>h0 (hI.inj _ _ ha D h);have q0:=λk=>aF (i.drewN k) (d.drewN k) O;have r0:=λk l=>aF ((i.drewN k).drewN l) ((d.drewN k).drewN l) O;have s0:=λk l j=>aF (((i.drewN k).drewN l).drewN j) (((d.drewN k).drewN l).drewN j) O;have M:c.R b≠c.R 0:=λh=>g0 (hI.inj _ _ hb D h);have q1:=λk=>aF (g.drewN k) (d.drewN k) M;have r1:=λk l=>aF ((g.drewN k).drewN l) ((d.drewN k).drewN l) M;have s1:=λk l j=>aF (((g.drewN k).drewN l).drewN j) (((d.drewN k).drewN l).drewN j) M;have q9:=lI (c.R 1);have T:Hid (lg c.T b=aJ (lg c.T 1) (lg c.T b)):=by show _=_;rw[hI.emp,AU]
 go_enter func114,ntmps114;go_wp2_with fail;rw[P.out];generalize hS:w.heap.size=S at *
 go_quiet (fail)
 go_wp2_with fail
 go_quiet (fail)
 go_wp2_with fail;go_ret;subst hS;have K:∀p,(p.heap=o.heap/\p.os=o.os/\p.tape=o.tape/\p.output=o.output)->au w c q (aJ (lg c.T 1) (lg c.T b)) (sz c.T b) (.returned (ae (c.R b))) p:=λp n=>by
  have A:Bw w p:=⟨n.2.1.trans m.os,n.2.2.1.trans m.tape,n.2.2.2.trans m.output,by rw[n.1];exact m.size,λk hk=>by rw[n.1];exact m.block k hk⟩;exact⟨c,b,rfl,U.below A,Gone.below A,hb,T,Me.refl _⟩
 exact K _ ⟨rfl,rfl,rfl,rfl⟩
theorem WF {c:MC}(hI:MkI w c q)(ha:a<c.T.length)(hb:b<c.T.length)(h0:a≠0)(g0:b≠0)(h:a=1):Calls prog 114 #[ae c.m,ae (c.R a),ae (c.R b)] w (au w c q (aJ (lg c.T a) (lg c.T b)) (bf (sz c.T a) (sz c.T b))):=by
 refine (Gk hI ha hb h0 g0 h).mono ?_;rintro n m ⟨e,k,g,l,j,f,d,i⟩;refine⟨e,k,g,l,j,f,d,Me.trans i ?_⟩;have o:=hI.sz_one ha;have p:=hI.sz_one hb;refine⟨?_,?_,?_,?_⟩<;>simp only[bf,aV,Me.le_def]at *<;>omega
theorem Gl {c:MC}(hI:MkI w c q)(ha:a<c.T.length)(hb:b<c.T.length)(h0:a≠0)(g0:b≠0)(h1:a≠1)(h:b=1):Calls prog 114 #[ae c.m,ae (c.R a),ae (c.R b)] w (au w c q (aJ (lg c.T a) (lg c.T b)) (sz c.T a)):=by
 obtain⟨ea,K⟩:∃e,c.T[a]?=some e:=⟨_,zB ha⟩;obtain⟨eb,P⟩:∃e,c.T[b]?=some e:=⟨_,zB hb⟩;obtain⟨b0,a9,Z,a7,G,y,E,C⟩:=hI.look K;obtain⟨a0,a5,T,a3,H,B,t,s⟩:=hI.look P;obtain⟨U,a2,b1,a4,F,_⟩:=hI.look hI.t0;obtain⟨X,a6,a8,a1,x,_⟩:=hI.look hI.t1;have D:0<c.T.length:=(zC.1 hI.t0).1;have M:1<c.T.length:=(zC.1 hI.t1).1;obtain⟨p,z,g,u,I,v,-⟩:=rY (rfl:w.heap.size=_) [ae c.m] 95 [ae (c.R a)] 103 [ae (c.R b)] 103;have c1:p.cell? (aD w.heap.size 0)=some (ae c.m):=u.cell 0;have c2:p.cell? (aD (w.heap.size+1) 0)=some (ae (c.R a)):=I.cell 0;have c3:p.cell? (aD (w.heap.size+2) 0)=some (ae (c.R b)):=v.cell 0;have J:=hI.mb.below g;have c4:p.cell? (aD c.m 1)=some (ae (c.R 0)):=J.cell 1;have c5:p.cell? (aD c.m 2)=some (ae (c.R 1)):=J.cell 2;have Y:=J.lt;have R:=aa z;have n:=aa g;have W:=aa hI;have f:=ag.below G g;have i:=ag.below H g;have d:=ag.below F g;have m:=ag.below x g;subst h;have Q:c.R a≠c.R 0:=λh=>h0 (hI.inj _ _ ha D h);have q0:=λk=>aF (f.drewN k) (d.drewN k) Q;have r0:=λk l=>aF ((f.drewN k).drewN l) ((d.drewN k).drewN l) Q;have s0:=λk l j=>aF (((f.drewN k).drewN l).drewN j) (((d.drewN k).drewN l).drewN j) Q;have O:c.R 1≠c.R 0:=λh=>g0 (hI.inj _ _ hb D h);have q1:=λk=>aF (i.drewN k) (d.drewN k) O;have r1:=λk l=>aF ((i.drewN k).drewN l) ((d.drewN k).drewN l) O;have s1:=λk l j=>aF (((i.drewN k).drewN l).drewN j) (((d.drewN k).drewN l).drewN j) O;have N:c.R a≠c.R 1:=λh=>h1 (hI.inj _ _ ha M h);have q2:=λk=>aF (f.drewN k) (m.drewN k) N;have r2:=λk l=>aF ((f.drewN k).drewN l) ((m.drewN k).drewN l) N;have s2:=λk l j=>aF (((f.drewN k).drewN l).drewN j) (((m.drewN k).drewN l).drewN j) N;have q9:=lI (c.R 1);have V:Hid (lg c.T a=aJ (lg c.T a) (lg c.T 1)):=by show _=_;rw[hI.emp,kQ]
 go_enter func114,ntmps114;go_wp2_with fail;rw[R.out];generalize hS:w.heap.size=S at *
 go_quiet (fail)
 go_wp2_with fail
 go_quiet (fail)
 go_wp2_with fail
 go_quiet (fail)
 go_wp2_with fail;go_ret;subst hS;have L:∀r,(r.heap=p.heap/\r.os=p.os/\r.tape=p.tape/\r.output=p.output)->au w c q (aJ (lg c.T a) (lg c.T 1)) (sz c.T a) (.returned (ae (c.R a))) r:=λr o=>by
  have A:Bw w r:=⟨o.2.1.trans n.os,o.2.2.1.trans n.tape,o.2.2.2.trans n.output,by rw[o.1];exact n.size,λk hk=>by rw[o.1];exact n.block k hk⟩;exact⟨c,a,rfl,W.below A,Gone.below A,ha,V,Me.refl _⟩
 exact L _ ⟨rfl,rfl,rfl,rfl⟩
theorem WG {c:MC}(hI:MkI w c q)(ha:a<c.T.length)(hb:b<c.T.length)(h0:a≠0)(g0:b≠0)(h1:a≠1)(h:b=1):Calls prog 114 #[ae c.m,ae (c.R a),ae (c.R b)] w (au w c q (aJ (lg c.T a) (lg c.T b)) (bf (sz c.T a) (sz c.T b))):=by
 refine (Gl hI ha hb h0 g0 h1 h).mono ?_;rintro n m ⟨e,k,g,l,j,f,d,i⟩;refine⟨e,k,g,l,j,f,d,Me.trans i ?_⟩;have o:=hI.sz_one ha;have p:=hI.sz_one hb;refine⟨?_,?_,?_,?_⟩<;>simp only[bf,aV,Me.le_def]at *<;>omega
theorem XV {c:MC}(hI:MkI w c q)(ha:a<c.T.length):Calls prog 114 #[ae c.m,ae (c.R a),ae (c.R 1)] w (au w c q (lg c.T a) (sz c.T a)):=by
 have j:1<c.T.length:=(zC.1 hI.t1).1;have o:aJ (lg c.T a) (lg c.T 1)=lg c.T a:=by rw[hI.emp,kQ]
 rw[<-o];by_cases l:a=0
 ·refine (Gj (b:=1) hI ha j l).mono ?_;rintro r p ⟨f,m,h,n,k,g,e,i⟩;exact⟨f,m,h,n,k,g,e,Me.trans i (hI.sz_one ha)⟩
 ·by_cases d:a=1
  ·refine (Gk (b:=1) hI ha j l (by decide) d).mono ?_;rintro r p ⟨f,m,h,n,k,g,e,i⟩;exact⟨f,m,h,n,k,g,e,by rw[d];exact i⟩
  ·exact Gl (b:=1) hI ha j l (by decide) d rfl
theorem YN (h:W.heap.size=N)(o2:Obj):ag ((W.alloc (.cells cs.toArray T)).alloc o2) N cs T:=XJ h o2
theorem YO (h:W.heap.size=N)(o1:Obj):ag ((W.alloc o1).alloc (.cells cs.toArray T)) (N+1) cs T:=XK h o1
theorem WV (W:World)(o1 o2:Obj):Bw W ((W.alloc o1).alloc o2):=(((zE _ W).alloc (zA _) _).alloc (by simp) _)
theorem QB {c:MC}{S:Nat}(hI:MkI w c q)(hq:q<=9000000000000000000)(ha:a<c.T.length)(hb:b<c.T.length)(hen:en=true↔aJ (lg c.T a) (lg c.T b) [])(hB0:Bw w W0)(hS:w.heap.size=S)(hs0:W0.heap.size=S+3)(hb1:ag W0 S [ae c.m] 95)(hb2:ag W0 (S+1) [ae (c.R a)] 103)(hb3:ag W0 (S+1+1) [ae (c.R b)] 103)(hP:aZ W0)
  (hB:Bw W0 W) (hp:ag W (S+3) [ae (c.R a),ae (c.R b)] 103) (hx:ag W (S+3+1) [Vi 0,Vi 1,.slice (some (aD (S+3) 0)) 2 2,.bool en,Vf 159 #[ae S,ae (S+1),ae (S+1+1)]] 113):Calls prog 62 #[ae c.m,ae (S+3+1),Vz] W (jF W0 c (q+1) (.pair a b)):=by
 have f:∀g,S<=g->g≠S+3+1->¬(c.S g\/g=S+3+1):=λg k i h=>by
  rcases h with h|h
  ·have:=hI.S_lt h;omega
  ·exact i h
 exact qa (e:=.pair a b) (hI.below hB0) hB (hP.below hB) trivial (λx hx=>by simp[RE.parts]at hx;rcases hx with rfl|rfl;exact ha;exact hb) (by omega) hx hen
  (λj p d=>by
   match j,d with
   |0,d=>simp[RE.parts]at d;subst d;exact⟨S+3,0,rfl,hp.lt,f _ (by omega) (by omega),hp.cell 0⟩
   |1,d=>simp[RE.parts]at d;subst d;exact⟨S+3,0,rfl,hp.lt,f _ (by omega) (by omega),hp.cell 1⟩)
  ⟨S,S+1,S+1+1,rfl,rfl,f _ (by omega) (by omega),f _ (by omega) (by omega),f _ (by omega) (by omega),hb1.below hB,hb2.below hB,hb3.below hB⟩ (iE.nil _ _) (by simp[RE.args]) (by simp[RE.parts]) hq
theorem QC {c:MC}(hI:MkI w c q)(hq:q<=9000000000000000000)(ha:a<c.T.length)(hb:b<c.T.length)(hP:aZ w)(h0:a≠0)(g0:b≠0)(h1:a≠1)(g1:b≠1)(hkd:∀e,c.T[a]?=some e->e.kd≠1):Calls prog 114 #[ae c.m,ae (c.R a),ae (c.R b)] w (au w c (q+1) (aJ (lg c.T a) (lg c.T b)) (bf (sz c.T a) (sz c.T b))):=by
 obtain⟨ea,T⟩:∃e,c.T[a]?=some e:=⟨_,zB ha⟩;obtain⟨eb,a5⟩:∃e,c.T[b]?=some e:=⟨_,zB hb⟩;obtain⟨d8,c8,z,d2,R,D,a4,C⟩:=hI.look T;obtain⟨b8,c7,t,d0,O,F,a2,E⟩:=hI.look a5;obtain⟨d6,b6,b7,d3,a0,_⟩:=hI.look hI.t0;obtain⟨d4,c6,c9,c0,a3,_⟩:=hI.look hI.t1;have P:0<c.T.length:=(zC.1 hI.t0).1;have a1:1<c.T.length:=(zC.1 hI.t1).1;obtain⟨W0,G,i,u,v,y,-⟩:=rY (rfl:w.heap.size=_) [ae c.m] 95 [ae (c.R a)] 103 [ae (c.R b)] 103;have Y:W0.cell? (aD w.heap.size 0)=some (ae c.m):=u.cell 0;have N:W0.cell? (aD (w.heap.size+1) 0)=some (ae (c.R a)):=v.cell 0;have U:W0.cell? (aD (w.heap.size+2) 0)=some (ae (c.R b)):=y.cell 0;have hm:=hI.mb.below i;have c4:W0.cell? (aD c.m 1)=some (ae (c.R 0)):=hm.cell 1;have c5:W0.cell? (aD c.m 2)=some (ae (c.R 1)):=hm.cell 2;have d1:=hm.lt;have b0:=aa G;have d5:=aa i;have HI:=aa hI;have d:=ag.below R i;have f:=ag.below O i;have n:=ag.below a0 i;have m:=ag.below a3 i;have p0:c.R a≠c.R 0:=λh=>h0 (hI.inj _ _ ha P h);have q0:=λk=>aF (d.drewN k) (n.drewN k) p0;have r0:=λk l=>aF ((d.drewN k).drewN l) ((n.drewN k).drewN l) p0;have s0:=λk l j=>aF (((d.drewN k).drewN l).drewN j) (((n.drewN k).drewN l).drewN j) p0;have p1:c.R b≠c.R 0:=λh=>g0 (hI.inj _ _ hb P h);have q1:=λk=>aF (f.drewN k) (n.drewN k) p1;have r1:=λk l=>aF ((f.drewN k).drewN l) ((n.drewN k).drewN l) p1;have s1:=λk l j=>aF (((f.drewN k).drewN l).drewN j) (((n.drewN k).drewN l).drewN j) p1;have p2:c.R a≠c.R 1:=λh=>h1 (hI.inj _ _ ha a1 h);have q2:=λk=>aF (d.drewN k) (m.drewN k) p2;have r2:=λk l=>aF ((d.drewN k).drewN l) ((m.drewN k).drewN l) p2;have s2:=λk l j=>aF (((d.drewN k).drewN l).drewN j) (((m.drewN k).drewN l).drewN j) p2;have p3:c.R b≠c.R 1:=λh=>g1 (hI.inj _ _ hb a1 h);have q3:=λk=>aF (f.drewN k) (m.drewN k) p3;have r3:=λk l=>aF ((f.drewN k).drewN l) ((m.drewN k).drewN l) p3;have s3:=λk l j=>aF (((f.drewN k).drewN l).drewN j) (((m.drewN k).drewN l).drewN j) p3;obtain⟨S,M⟩:∃S,w.heap.size=S:=⟨_,rfl⟩;have H:W0.heap.size=S+3:=by rw[<-G,<-M];simp
 have b5:Hid ((z&&t)=true↔aJ (lg c.T a) (lg c.T b) []):=by show _↔_;rw[Dc,yP,D,F]
 rw[M]at u v y Y N U;have I:W0.cell? (aD (c.R a) 3)=some (.bool z):=d.cell 3;have J:W0.cell? (aD (c.R b) 3)=some (.bool t):=f.cell 3;have b9:W0.cell? (aD (c.R a) 1)=some (Vi ea.kd):=d.cell 1;have Z:=d.lt;have Q:=f.lt;have d7:(ea.kd==1)=false:=zD.2 (hkd ea T);have K:Hid (∀V:World,(V.heap=W0.heap/\V.os=W0.os/\V.tape=W0.tape/\V.output=W0.output)->Bw W0 V):=λV s=>⟨s.2.1,s.2.2.1,s.2.2.2,by rw[s.1];exact zA _,λk _=>by rw[s.1]⟩;have HC:=aa (λ(V W:World) (s:(V.heap=W0.heap/\V.os=W0.os/\V.tape=W0.tape/\V.output=W0.output))=>QB (W:=W) (W0:=V) (S:=S) (en:=z&&t) hI hq ha hb b5 (i.trans ((K V s).mono i.size)) M (by rw[s.1];exact H) (u.below (K V s)) (v.below (K V s)) (y.below (K V s)) ((hP.below i).below (K V s)));have b3:Hid (∀(V:World) (r:Ending) (L:World),(V.heap=W0.heap/\V.os=W0.os/\V.tape=W0.tape/\V.output=W0.output)->jF V c (q+1) (.pair a b) r L->au w c (q+1) (aJ (lg c.T a) (lg c.T b)) (bf (sz c.T a) (sz c.T b)) r L):=λV r L s h5=>h5.at (i.trans ((K V s).mono i.size)) (λx hx=>by simp[RE.parts]at hx;rcases hx with rfl|rfl;exact ha;exact hb) rfl (Me.refl _);have HH:Hid (∀o:World,(∀k,k<W0.heap.size->o.heap[k]?=W0.heap[k]?)->o.cell? (aD S 0)=some (ae c.m)/\o.cell? (aD (S+1) 0)=some (ae (c.R a))/\o.cell? (aD (S+1+1) 0)=some (ae (c.R b))/\o.cell? (aD (c.R a) 3)=some (.bool z)/\o.cell? (aD (c.R b) 3)=some (.bool t)):=λo hb=>⟨(zP (w:=W0) (hb S u.lt)).trans Y,(zP (w:=W0) (hb (S+1) v.lt)).trans N,(zP (w:=W0) (hb (S+1+1) y.lt)).trans U,(zP (w:=W0) (hb _ Z)).trans I,(zP (w:=W0) (hb _ Q)).trans J⟩;have b2:Hid (∀(V o:World) (c':MC),(V.heap=W0.heap/\V.os=W0.os/\V.tape=W0.tape/\V.output=W0.output)->Gone V c o c'->o.cell? (aD S 0)=some (ae c.m)/\o.cell? (aD (S+1) 0)=some (ae (c.R a))/\o.cell? (aD (S+1+1) 0)=some (ae (c.R b))/\o.cell? (aD (c.R a) 3)=some (.bool z)/\o.cell? (aD (c.R b) 3)=some (.bool t)):=λV o c' s hG=>by
  have nn:∀g,S<=g->¬c.S g:=λg hg h=>by have:=hI.S_lt h;omega
  have A:∀p:Addr,p.block<W0.heap.size->¬c.S p.block->o.cell? p=W0.cell? p:=λp hp hn=>(hG.but.cell (p:=p) (by rw[s.1];exact hp) hn).trans (zP (w:=W0) (by rw[s.1]));exact⟨(A (aD S 0) u.lt (nn S (by omega))).trans Y,(A (aD (S+1) 0) v.lt (nn (S+1) (by omega))).trans N,(A (aD (S+1+1) 0) y.lt (nn (S+1+1) (by omega))).trans U,(A (aD (c.R a) 3) Z C).trans I,(A (aD (c.R b) 3) Q E).trans J⟩
 rw[<-M]at Y N U;have b1:=aa M;go_enter func114,ntmps114;go_wp2_with fail;rw[b0.out];simp only[b1.out]at Y N U ⊢
 go_quiet (fail)
 go_wp2_with fail
 go_quiet (fail)
 go_wp2_with fail
 go_quiet (fail)
 go_wp2_with fail;cases z
 all_goals
  simp only[Bool.false_and,Bool.true_and]at HC;refine yW (S:=λo:World=>o.cell? (aD S 0)=some (ae c.m)/\o.cell? (aD (S+1) 0)=some (ae (c.R a))/\o.cell? (aD (S+1+1) 0)=some (ae (c.R b))/\o.cell? (aD (c.R a) 3)=some (.bool _)/\o.cell? (aD (c.R b) 3)=some (.bool t)) (by kernel_rfl) (HH _ (λ_ _=>rfl)) (λhHeld=>?_);refine tk 0 ?_;simp only[tS];refine tk 1 ?_;simp only[tS];refine tk 2 ?_;simp only[tS];refine tk 4 ?_;simp only[tS];refine tk 5 ?_;simp only[tS];refine tk 6 ?_;simp only[tS];refine tk 7 ?_;simp only[tS];refine tk 8 ?_;simp only[tS]
  first|refine tk 9 ?_|refine CG 9 ?_
  simp only[tS]
  first|refine tk 10 ?_|refine CG 10 ?_
  simp only[tS]
  first|refine tk 11 ?_|refine CG 11 ?_
  simp only[tS]
  first|refine tk 12 ?_|refine CG 12 ?_
  simp only[tS];refine tk 13 ?_;simp only[tS];refine tk 14 ?_;simp only[tS];refine di 3 (λX B=>?_);go_simp;refine B _ _ (HH _ (λk hk=>zS _ _ _ hk)) (λhHeld=>?_)
  try simp only[tS]
  refine tk 15 ?_;simp only[tS];refine di 16 (λX B=>?_);go_simp;refine B _ _ (HH _ (λk hk=>(zS _ _ _ (by simp;omega)).trans (zS _ _ _ hk))) (λhHeld=>?_)
  try simp only[tS]
  refine di 17 (λX B=>?_);go_simp;refine (HC (W0.drewN _) _ ⟨rfl,rfl,rfl,rfl⟩ (WV _ _ _) (YN (W:=W0.drewN _) H _) (YO (W:=W0.drewN _) H _)).mono ?_;intro r L h5;have a9:=aa (b3 (W0.drewN _) r L ⟨rfl,rfl,rfl,rfl⟩ h5);obtain⟨c',j,rfl,a8,hG,a6,b4⟩:=h5;have a7:=b2.out (W0.drewN _) L c' ⟨rfl,rfl,rfl,rfl⟩ hG;go_wp2_with fail;refine B _ _ a7 (λhHeld=>?_)
  try simp only[tS]
  refine tk 18 ?_;simp only[tS];refine yV (by kernel_rfl) ?_ _;go_wp2_with fail;go_ret;exact a9
theorem MkI.uniq {c:MC}{j:Nat}(h:MkI w c q)(hi:c.T[i]?=some e)(hj:c.T[j]?=some e):i=j:=by
 obtain⟨f,_,a⟩:=h.map;have d:=(a e.name (c.R i)).2 ⟨i,e,hi,rfl,rfl⟩;have b:=(a e.name (c.R j)).2 ⟨j,e,hj,rfl,rfl⟩;rw[d]at b;exact h.inj i j (zC.1 hi).1 (zC.1 hj).1 (yT b)
def FH (a:Nat):Prop:=∀(w:World) (c:MC) (q b:Nat),MkI w c q->a<c.T.length->b<c.T.length->aZ w->q+(sz c.T a).n<=9000000000000000000 ->
 Calls prog 114 #[ae c.m,ae (c.R a),ae (c.R b)] w (au w c (q+(sz c.T a).n) (aJ (lg c.T a) (lg c.T b)) (bf (sz c.T a) (sz c.T b)))
theorem au.more {w:World}{c:MC}{q q':Nat}{L:Lg}{Z:Me}{r:Ending}{w':World}(h:au w c q L Z r w')(hq:q<=q'):au w c q' L Z r w':=by
 obtain⟨a,j,e,d,b⟩:=h;exact⟨a,j,e,d.more hq,b⟩
theorem Te {c:MC}{a0 a1:Nat}(ih0:FH a0)(ih1:FH a1)(hI:MkI w c q)(ha:a<c.T.length)(hb:b<c.T.length)(hP:aZ w)(hq:q+(sz c.T a).n<=9000000000000000000)(h0:a≠0)(g0:b≠0)(h1:a≠1)(g1:b≠1)(hea:c.T[a]?=some (.pair a0 a1)):Calls prog 114 #[ae c.m,ae (c.R a),ae (c.R b)] w (au w c (q+(sz c.T a).n) (aJ (lg c.T a) (lg c.T b)) (bf (sz c.T a) (sz c.T b))):=by
 obtain⟨eb,c9⟩:∃e,c.T[b]?=some e:=⟨_,zB hb⟩;obtain⟨f7,L,e1,g2,a4,a7,A,N⟩:=hI.look hea;obtain⟨e8,f5,g3,f8,a3,Z,W,b1⟩:=hI.look c9;obtain⟨f6,f4,e6,f0,a9,_⟩:=hI.look hI.t0;obtain⟨e3,f9,f2,e2,b2,_⟩:=hI.look hI.t1;have a5:0<c.T.length:=(zC.1 hI.t0).1;have b0:1<c.T.length:=(zC.1 hI.t1).1;obtain⟨d,b3,f,D,I,E,-⟩:=rY (rfl:w.heap.size=_) [ae c.m] 95 [ae (c.R a)] 103 [ae (c.R b)] 103;have c1:d.cell? (aD w.heap.size 0)=some (ae c.m):=D.cell 0;have c2:d.cell? (aD (w.heap.size+1) 0)=some (ae (c.R a)):=I.cell 0;have c3:d.cell? (aD (w.heap.size+2) 0)=some (ae (c.R b)):=E.cell 0;have hm:=hI.mb.below f;have c4:d.cell? (aD c.m 1)=some (ae (c.R 0)):=hm.cell 1;have z:d.cell? (aD c.m 2)=some (ae (c.R 1)):=hm.cell 2;have e9:=hm.lt;have d8:=aa b3;have f1:=aa f;have HI:=aa hI;have m:=ag.below a4 f;have t:=ag.below a3 f;have o:=ag.below a9 f;have s:=ag.below b2 f;have p0:c.R a≠c.R 0:=λh=>h0 (hI.inj _ _ ha a5 h);have q0:=λk=>aF (m.drewN k) (o.drewN k) p0;have r0:=λk l=>aF ((m.drewN k).drewN l) ((o.drewN k).drewN l) p0;have s0:=λk l j=>aF (((m.drewN k).drewN l).drewN j) (((o.drewN k).drewN l).drewN j) p0;have p1:c.R b≠c.R 0:=λh=>g0 (hI.inj _ _ hb a5 h);have q1:=λk=>aF (t.drewN k) (o.drewN k) p1;have r1:=λk l=>aF ((t.drewN k).drewN l) ((o.drewN k).drewN l) p1;have s1:=λk l j=>aF (((t.drewN k).drewN l).drewN j) (((o.drewN k).drewN l).drewN j) p1;have p2:c.R a≠c.R 1:=λh=>h1 (hI.inj _ _ ha b0 h);have q2:=λk=>aF (m.drewN k) (s.drewN k) p2;have r2:=λk l=>aF ((m.drewN k).drewN l) ((s.drewN k).drewN l) p2;have s2:=λk l j=>aF (((m.drewN k).drewN l).drewN j) (((s.drewN k).drewN l).drewN j) p2;have p3:c.R b≠c.R 1:=λh=>g1 (hI.inj _ _ hb b0 h);have q3:=λk=>aF (t.drewN k) (s.drewN k) p3;have r3:=λk l=>aF ((t.drewN k).drewN l) ((s.drewN k).drewN l) p3;have s3:=λk l j=>aF (((t.drewN k).drewN l).drewN j) (((s.drewN k).drewN l).drewN j) p3;have B:=(hI.wf a _ hea).2;have K:a0<c.T.length:=by have:=B a0 (by simp[RE.parts]);omega
 have d1:a1<c.T.length:=by have:=B a1 (by simp[RE.parts]);omega
 have P:sz c.T a=bf (sz c.T a0) (sz c.T a1):=pg hea B;have a2:(sz c.T a).n=(sz c.T a0).n+(sz c.T a1).n:=by rw[P];rfl
 have T:lg c.T a=aJ (lg c.T a0) (lg c.T a1):=hI.lang hea;obtain⟨v,i,rfl,R,a8,Q⟩:=A 0 a0 rfl;obtain⟨e7,d9,e',_,_,a6⟩:=A 1 a1 rfl;cases e';rw[xF]at Q;obtain⟨S,hS⟩:∃S,w.heap.size=S:=⟨_,rfl⟩;have y0:d.cell? (aD v i)=some (ae (c.R a0)):=(f.cell (p:=(aD v i)) R).trans Q;have y1:d.cell? ⟨v,i+1,none⟩=some (ae (c.R a1)):=(f.cell (p:=⟨v,i+1,none⟩) R).trans a6;have d3:d.cell? (aD (c.R a) 2)=some (.slice (some (aD v i)) 2 L):=m.cell 2;have e4:d.cell? (aD (c.R a) 1)=some (Vi 1):=m.cell 1;have d7:=m.lt;have O:v<d.heap.size:=zF R f.size;rw[hS]at D I E c1 c2 c3;have HV:Hid (∀V:World,(V.heap=d.heap/\V.os=d.os/\V.tape=d.tape/\V.output=d.output)->Bw d V):=λV u=>⟨u.2.1,u.2.2.1,u.2.2.2,by rw[u.1];exact zA _,λk _=>by rw[u.1]⟩;have c8:Hid (∀V:World,(V.heap=d.heap/\V.os=d.os/\V.tape=d.tape/\V.output=d.output)->Calls prog 114 #[ae c.m,ae (c.R a1),ae (c.R b)] V (au V c (q+(sz c.T a1).n) (aJ (lg c.T a1) (lg c.T b)) (bf (sz c.T a1) (sz c.T b)))):=λV u=>ih1 V c q b ((hI.below f).below (HV V u)) d1 hb ((hP.below f).below (HV V u)) (by omega);have b9:Hid (∀(V G:World) (z:MC) (M:Nat),(V.heap=d.heap/\V.os=d.os/\V.tape=d.tape/\V.output=d.output)->MkI G z (q+(sz c.T a1).n)->Gone V c G z->M<z.T.length->lg z.T M=aJ (lg c.T a1) (lg c.T b)->sz z.T M<=bf (sz c.T a1) (sz c.T b) ->
   Calls prog 114 #[ae c.m,ae (c.R a0),ae (z.R M)] G (λr w6=>au w c (q+(sz c.T a).n) (aJ (lg c.T a) (lg c.T b)) (bf (sz c.T a) (sz c.T b)) r w6/\∃c6,Gone V c w6 c6)):=λV G z M u H n F J C=>by
  have b8:=f.trans ((HV V u).mono f.size);have c0:aZ G:=n.pow ((hI.below f).below (HV V u)) ((hP.below f).below (HV V u));have e0:=n.len;have hc:=ih0 G z (q+(sz c.T a1).n) M H (by omega) F c0 (by rw[n.sz K];omega);rw[n.m,n.R a0 K,n.sz K,n.lang K]at hc;refine hc.mono ?_;rintro r w6 ⟨c6,j6,rfl,d0,X,d2,d4,b5⟩;refine⟨⟨c6,j6,rfl,d0.more (by omega),(Gone.below b8).trans (n.trans X),d2,?_,by rw[P,IT];exact Me.trans b5 (kP (Me.refl _) C)⟩,c6,n.trans X⟩;rw[d4,J,T,AV]
 have U:Hid (∀(V x:World) (c':MC),(V.heap=d.heap/\V.os=d.os/\V.tape=d.tape/\V.output=d.output)->Gone V c x c'->x.cell? (aD S 0)=some (ae c.m)/\x.cell? (aD (S+1) 0)=some (ae (c.R a))/\x.cell? (aD (S+1+1) 0)=some (ae (c.R b))/\x.cell? (aD (c.R a) 2)=some (.slice (some (aD v i)) 2 L)/\x.cell? (aD v i)=some (ae (c.R a0))/\x.cell? ⟨v,i+1,none⟩=some (ae (c.R a1))):=λV x c' u hG=>by
  have nn:∀g,S<=g->¬c.S g:=λg hg h=>by have:=hI.S_lt h;omega
  have y:∀p:Addr,p.block<d.heap.size->¬c.S p.block->x.cell? p=d.cell? p:=λp hp hn=>(hG.but.cell (p:=p) (by rw[u.1];exact hp) hn).trans (zP (w:=d) (by rw[u.1]));exact⟨(y (aD S 0) D.lt (nn S (by omega))).trans c1,(y (aD (S+1) 0) I.lt (nn (S+1) (by omega))).trans c2,(y (aD (S+1+1) 0) E.lt (nn (S+1+1) (by omega))).trans c3,(y (aD (c.R a) 2) d7 N).trans d3,(y (aD v i) O a8).trans y0,(y ⟨v,i+1,none⟩ O a8).trans y1⟩
 have d5:Hid (∀V:World,(V.heap=d.heap/\V.os=d.os/\V.tape=d.tape/\V.output=d.output)->V.cell? (aD S 0)=some (ae c.m)/\V.cell? (aD (S+1) 0)=some (ae (c.R a))/\V.cell? (aD (S+1+1) 0)=some (ae (c.R b))/\V.cell? (aD (c.R a) 2)=some (.slice (some (aD v i)) 2 L)/\V.cell? (aD v i)=some (ae (c.R a0))/\V.cell? ⟨v,i+1,none⟩=some (ae (c.R a1))):=λV u=>U V V c u (Gone.refl _ _);rw[<-hS]at c1 c2 c3;have b4:=aa hS;have e5:=aa T;go_enter func114,ntmps114;go_wp2_with fail;rw[d8.out];simp only[b4.out]at c1 c2 c3 ⊢
 go_quiet (fail)
 go_wp2_with fail
 go_quiet (fail)
 go_wp2_with fail
 go_quiet (fail)
 go_wp2_with fail
 go_region_held3 (λx=>x.cell? (aD S 0)=some (ae c.m)/\x.cell? (aD (S+1) 0)=some (ae (c.R a))/\x.cell? (aD (S+1+1) 0)=some (ae (c.R b))/\x.cell? (aD (c.R a) 2)=some (.slice (some (aD v i)) 2 L)/\x.cell? (aD v i)=some (ae (c.R a0))/\x.cell? ⟨v,i+1,none⟩=some (ae (c.R a1)))
  (first|exact d5 _ ⟨rfl,rfl,rfl,rfl⟩|exact d6|exact b6)
  (first
   |(go_at_call 114;refine b7.mono ?_;rintro r w6 ⟨h6,c7,Y⟩;have H6:=aa h6;have b6:=U.out (d.drewN _) w6 c7 ⟨rfl,rfl,rfl,rfl⟩ Y;obtain⟨c6,j6,rfl,h7⟩:=h6)
   |(go_at_call 114;refine (c8 (d.drewN _) ⟨rfl,rfl,rfl,rfl⟩).mono ?_;rintro r G ⟨z,M,rfl,H,n,F,J,C⟩;have d6:=U.out (d.drewN _) G z ⟨rfl,rfl,rfl,rfl⟩ n;have b7:=aa (b9 (d.drewN _) G z M ⟨rfl,rfl,rfl,rfl⟩ H n F J C);have f3:=aa n))
 all_goals (go_wp2_with fail;go_ret;exact H6)
theorem wU:∀a,FH a:=by
 intro a
 induction a using Nat.strongRecOn with
 |ind a ih=>
  intro w c q b f g j x z;have A:1<=(sz c.T a).n:=(f.sz_one g).1;by_cases i:a=0
  ·exact (WD f g j i).mono (λ_ _ h=>h.more (by omega))
  by_cases o:b=0
  ·exact (WE f g j i o).mono (λ_ _ h=>h.more (by omega))
  by_cases k:a=1
  ·exact (WF f g j i o k).mono (λ_ _ h=>h.more (by omega))
  by_cases t:b=1
  ·exact (WG f g j i o k t).mono (λ_ _ h=>h.more (by omega))
  obtain⟨e,p⟩:∃e,c.T[a]?=some e:=⟨_,zB g⟩;have d:e.kd≠1->Calls prog 114 #[ae c.m,ae (c.R a),ae (c.R b)] w (au w c (q+(sz c.T a).n) (aJ (lg c.T a) (lg c.T b)) (bf (sz c.T a) (sz c.T b))):=λy=>by
   have r:∀u,c.T[a]?=some u->u.kd≠1:=λu h=>by rw[p]at h;cases h;exact y
   exact (QC f (by omega) g j x i o k t r).mono (λ_ _ h=>h.more (by omega))
  cases e with
  |empty=>exact absurd (f.uniq p f.t1) k
  |pair a0 a1=>
   have v:=(f.wf a _ p).2;exact Te (ih a0 (v a0 (by simp[RE.parts]))) (ih a1 (v a1 (by simp[RE.parts]))) f g j x z i o k t p
  |set s=>exact d (by simp[RE.kd])
  |or l=>exact d (by simp[RE.kd])
  |not a=>exact d (by simp[RE.kd])
  |many a m n=>exact d (by simp[RE.kd])
theorem Iv {c:MC}(hI:MkI w c q):Calls prog 74 #[ae c.m,ae (c.R a),Vi m,Vi 0] w λr w'=>r=.returned (ae (c.R 1))/\Bw w w':=by
 have d:=hI.mb;have f:w.cell? (aD c.m 2)=some (ae (c.R 1)):=d.cell 2;have b:=d.lt;have e:=aa (show Bw w ((((w.alloc (.cells #[ae c.m] 95)).alloc (.cells #[ae (c.R a)] 103)).alloc (.cells #[Vi m] 3)).alloc (.cells #[Vi 0] 3))from ((((zE _ _).alloc (zA _) _).alloc (by simp) _).alloc (by simp;omega) _).alloc (by simp;omega) _);have h:c.m≠w.heap.size:=by omega
 have g:c.m≠w.heap.size+1:=by omega
 have i:((((w.alloc (.cells #[ae c.m] 95)).alloc (.cells #[ae (c.R a)] 103)).alloc (.cells #[Vi m] 3)).alloc (.cells #[Vi 0] 3)).cell? (aD c.m 2)=some (ae (c.R 1)):=(e.cell (p:=(aD c.m 2)) b).trans f;go_enter func74,ntmps74;go_wp2_with fail;go_ret;exact⟨rfl,e⟩
theorem rt {c:MC}{n:Int}(hI:MkI w c q)(hq:q<=9000000000000000000)(ha:a<c.T.length)(hP:aZ w)(hm0:0<=m)(hm5:m<=5)(hn:n=-1\/(m<=n/\n<=5)):Calls prog 74 #[ae c.m,ae (c.R a),Vi m,Vi n] w (au w c (q+1) (dB (lg c.T a) m n) (cZ (sz c.T a))):=by
 by_cases f:n=0
 ·subst f;have d:m=0:=by omega
  refine (Iv hI).mono ?_;rintro r g ⟨rfl,e⟩;have b:1<c.T.length:=(zC.1 hI.t1).1;exact⟨c,1,rfl,(hI.below e).more (by omega),Gone.below e,b,by rw[hI.emp,Da d],by rw[hI.sz1];refine⟨?_,?_,?_,?_⟩<;>simp only[cZ,aV]<;>omega⟩
 ·exact KF hI hq ha hP hm0 hm5 (by omega)
theorem Mj {P:Program}{k:TypeId}{R:Value->Option (DataW Unit×List MemPlace)}{D:DataW Unit}(h:w.ownsMap P k R b n D):w.ownsMap P k R b (Maps.size D) D/\Maps.size D<=n:=by
 obtain⟨c,a,f,d,g,rfl⟩:=h;have e:Maps.size (DataW.map ((c.toList.map (WideElems.rg P k R)).foldr DataW.insert []))=c.size:=by
  show List.length (List.foldr DataW.insert [] _)=_
  rw[length_sorted];simp
 exact⟨⟨c,a,f,d,by omega,rfl⟩,by omega⟩
theorem iB.storeAny {f:Int->Option Nat}(h:iB w b f n)(s:Int)(h0:-9223372036854775808<=s)(h9:s<=9223372036854775807)(hn:n<maxLen)(x:Nat):∃w' n',(Instr.mapUpdate 216 (.map (some b)) (Vi s) (Vp x)).run prog w=.ok () w'/\iB w' b (MN f s x) n'/\n'<=n+1/\w.mapTurned w' b:=by
 obtain⟨D,k,p,l⟩:=h;obtain⟨w',c,d,o⟩:=k.store (t:=216) (e:=103) (Maps.int_keyed underlying3) underlying216 hn (Kr h0 h9) (Kg x);have m:=k.isMap;obtain⟨a,i⟩:=Mj d;refine⟨w',_,c,⟨_,a,rfl,λt=>?_⟩,i,o⟩;unfold MN;by_cases e:t=s
 ·subst e;rw[zX rfl];refine⟨Maps.has_put_same m (by trivial) _,λy j=>?_⟩;cases j;exact Maps.atKey_put_same m (by trivial) _ _
 ·rw[zR e];have g:(Lit.int .i64 t)≠Vi s:=λh=>e (by injection h);rw[Maps.has_put_other g];exact⟨(l t).1,λy j=>by rw[Maps.atKey_put_other g];exact (l t).2 y j⟩
theorem Wd {c:MC}{j:Nat}{r:Int}{g:Int->Option Nat}(hI:MkI w c q)(hi:i<c.T.length)(hj:j<c.T.length)(hg:∀s x,g s=some x->∃j,j<c.T.length/\x=c.R j/\lg c.T j=aX (lg c.T i) s/\sz c.T j<=aN (sz c.T i))(hn:n<=q+1)(hL:lg c.T j=aX (lg c.T i) r)(hZ:sz c.T j<=aN (sz c.T i))(ht:w.mapTurned w' (c.KM i))(hm:iB w' (c.KM i) (MN g r (c.R j)) n):MkI w' c (q+1)/\Gone w c w' c:=by
 have u:But c.S w w':=(But.refl c.S w).turned ht (.inl (.inr ⟨i,hi,rfl⟩));have d:∀k,k<w.heap.size->k≠c.KM i->w'.heap[k]?=w.heap[k]?:=λk l v=>ht.grown.block k l (λe=>by injection e with e;exact v e);have b:Gone w c w' c:=⟨rfl,rfl,⟨[],by simp⟩,λ_ _=>rfl,λ_ _=>rfl,λk m p=>by omega,u,rfl,λg hg B=>d g hg (λe=>(hI.xs g B).2 (.inr ⟨i,hi,e⟩))⟩;refine⟨?_,b⟩;exact {
  mb:=hI.mb.but u hI.ms
  ms:=hI.ms
  map:=by
   obtain⟨f,m,p⟩:=hI.map;exact⟨f,m.block (d _ m.lt (λe=>hI.kmb i hi e.symm)),p⟩
  t0:=hI.t0
  t1:=hI.t1
  le:=by have:=hI.le;omega
  wf:=hI.wf
  rest:=λk e l=>(hI.rest k e l).gone b (zC.1 l).1 (λa z=>by have:=(hI.wf k e l).2 a z;have:=(zC.1 l).1;omega)
  know:=λk l=>by
   by_cases e:k=i
   ·subst e;refine⟨_,n,hm,by omega,λs x o=>?_⟩;unfold MN at o;by_cases t:s=r
    ·rw[zX t]at o;cases o;exact⟨j,hj,rfl,by rw[t];exact hL,hZ⟩
    ·rw[zR t]at o;exact hg s x o
   ·obtain⟨A,y,m,p,C⟩:=hI.know k l;exact⟨A,y,m.block (d _ m.lt (λh=>e (hI.kmi k i l hi h))),by omega,C⟩
  kmb:=hI.kmb
  kmi:=hI.kmi
  inj:=hI.inj
  low:=hI.low
  xs:=λg hg=>⟨zF (hI.xs g hg).1 u.size,(hI.xs g hg).2⟩ }
theorem We {c:MC}{Q:Nat}{r:Int}(hI:MkI w c q)(hi:i<c.T.length)(hq:Q<=9000000000000000000)(hqQ:q<=Q)(r0:-9223372036854775808<=r)(r9:r<=9223372036854775807)(hk:ag w k [.map (some (c.KM i))] 216)(hb:ag w b [Vf F cp] 111)(hkS:¬c.S k)(eg:∀args w,(callFunc F args).run prog w=.ok (.enter F args) w)
  (hin:Calls prog F (#[Vi r]++cp) w (au w c Q (aX (lg c.T i) r) (aN (sz c.T i)))):Calls prog 143 #[Vi r,ae k,ae b] w (au w c (Q+1) (aX (lg c.T i) r) (aN (sz c.T i))):=by
 obtain⟨g,n,I,hn,G⟩:=hI.know i hi;have d:=I.look r r0 r9;have R:w.cell? (aD k 0)=some (.map (some (c.KM i))):=hk.cell 0;have b0:w.cell? (aD b 0)=some (Vf F cp):=hb.cell 0;have v:=hk.lt;have W:=hb.lt;cases hgr:g r with
 |some x=>
  obtain⟨j,U,rfl,S,N⟩:=G r x hgr;rw[hgr]at d;have V:Hid (au w c (Q+1) (aX (lg c.T i) r) (aN (sz c.T i)) (.returned (ae (c.R j))) w):=⟨c,j,rfl,hI.more (by omega),Gone.refl _ _,U,S,N⟩;go_enter func143,ntmps143;go_wp2_with fail;go_ret;exact V
 |none=>
  rw[hgr]at d;have Y:=aa hI;have E:=aa hin;have X:=aa hk;have C:=aa hkS;have P:=aa hgr;go_enter func143,ntmps143;go_wp2_with fail;refine E.mono ?_;rintro e J ⟨f,A,rfl,h,a,o,m,t⟩;have l:i<f.T.length:=by have:=a.len;omega
  obtain⟨g5,n5,s,H,y⟩:=h.know i l;rw[a.KM i hi]at s;have Z:J.cell? (aD k 0)=some (.map (some (c.KM i))):=(a.but.cell (p:=(aD k 0)) v C).trans R;have M:k<J.heap.size:=zF v a.but.size;obtain⟨K,T,L,u,D,z⟩:=s.storeAny r r0 r9 (by unfold maxLen;omega) (f.R A);have B:MkI K f (Q+1)/\Gone J f K f:=Wd (j:=A) (r:=r) (n:=T) h l o y (by omega) (by rw[m,a.lang hi]) (by rw[a.sz hi];exact t) (by rw[a.KM i hi];exact z) (by rw[a.KM i hi];exact u);have O:Hid (au w c (Q+1) (aX (lg c.T i) r) (aN (sz c.T i)) (.returned (ae (f.R A))) K):=⟨f,A,rfl,B.1,a.trans B.2,o,m,t⟩;go_wp2_with fail;go_ret;exact O
def FR (w:World)(x n:Nat)(kd:Int)(en:Bool)(F:Nat)(cp:Array Value)(k b mm:Nat):Prop:=kG w x n kd none 0 0 en (Vf 143 #[ae k,ae b])/\ag w b [Vf F cp] 111/\ag w k [.map (some mm)] 216/\w.heap[mm]?=some (.map #[] 0)
theorem FR.keep {kd:Int}(h:FR w x n kd en F cp k b mm)(hk:∀g,g=x\/g=k\/g=b\/g=mm->w'.heap[g]?=w.heap[g]?):FR w' x n kd en F cp k b mm :=
 ⟨(hk x (.inl rfl)).trans h.1,(hk b (.inr (.inr (.inl rfl)))).trans h.2.1,(hk k (.inr (.inl rfl))).trans h.2.2.1,(hk mm (.inr (.inr (.inr rfl)))).trans h.2.2.2⟩
theorem FR.lt {w:World}{x n:Nat}{kd:Int}{en:Bool}{F:Nat}{cp:Array Value}{k b mm:Nat}(h:FR w x n kd en F cp k b mm):x<w.heap.size/\k<w.heap.size/\b<w.heap.size/\mm<w.heap.size:=⟨ag.lt h.1,h.2.2.1.lt,h.2.1.lt,(yl.1 h.2.2.2).1⟩
theorem VJ {m bm:Nat}{nn ee:Option Nat}(hM:MS w m bm nn ee f n)(hP:aZ w)(hf:f iG=none)(hn:n<=1000000000):Calls prog 61 #[ae m,Vz] w λe w'=>∃x k b mm l1 l2,e=.returned (ae x)/\But (λk=>k=bm) w w'/\MS w' m bm nn ee (put f iG x) (n+1)/\FR w' x n 2 false 103 #[ae l1,ae l2] k b mm/\ag w' l1 [Vz] 110/\ag w' l2 [ae m] 95/\w.heap.size<=x/\w.heap.size<=k/\w.heap.size<=b/\w.heap.size<=mm/\w.heap.size<=l1/\w.heap.size<=l2:=by
 have H:=aa hM;have W:=aa hP;have U:=aa hf;obtain⟨N,t,q,o,j,I⟩:=jK (rfl:w.heap.size=_) [ae m] 95 [Vz] 110;have O:=aa t;have F:=aa q;have Y:N.cell? (aD w.heap.size 0)=some (ae m):=o.cell 0;have c2:N.cell? (aD (w.heap.size+1) 0)=some (Vz):=j.cell 0;have Z:=j.frozen 0;have D:=aa j;have G:=aa o;go_enter func61,ntmps61;go_wp2_with fail;rw[O.out];generalize hS:w.heap.size=S at *
 go_loopg [12] 1 (λ_ iv wr=>iv=Vi 0/\wr=N)
 case atStart=>exact⟨rfl,rfl⟩
 case round=>
  obtain⟨rfl,d⟩:=hrel;subst d;go_wp2_with (first
   |(go_at_call 99;refine (RK _ _).mono ?_;rintro e w' ⟨rfl,d⟩;have c:=d.symm;subst c)
   |(go_at_call 102;refine (Hl _).mono ?_;rintro e w' ⟨rfl,d⟩;have c:=d.symm;subst c)
   |(go_at_call 104;refine (EQ _ _).mono ?_;rintro e w' ⟨rfl,d⟩;have c:=d.symm;subst c))
  have y:Below S w (wr.setCell (aD (S+1) 0) (Vz)):=F.setCell (p:=(aD (S+1) 0)) (by show S<=S+1;omega) _;have g:(wr.setCell (aD (S+1) 0) (Vz)).heap.size=S+2:=by simpa [World.setCell]using I
  have J:=ag.new (wr.setCell (aD (S+1) 0) (Vz)) [Vi 0,Vi 2,Vz,.bool false,Vf 103 #[ae (S+1),ae S]] 113;rw[g]at J;have C:ag ((wr.setCell (aD (S+1) 0) (Vz)).alloc (.cells #[Vi 0,Vi 2,Vz,.bool false,Vf 103 #[ae (S+1),ae S]] 113)) (S+1) [Vz] 110:=(D.set 0 _).alloc _;have B:ag ((wr.setCell (aD (S+1) 0) (Vz)).alloc (.cells #[Vi 0,Vi 2,Vz,.bool false,Vf 103 #[ae (S+1),ae S]] 113)) S [ae m] 95:=(G.setOther (p:=(aD (S+1) 0)) (by show S≠S+1;omega) _).alloc _;have K:((wr.setCell (aD (S+1) 0) (Vz)).alloc (.cells #[Vi 0,Vi 2,Vz,.bool false,Vf 103 #[ae (S+1),ae S]] 113)).heap.size=S+3:=by simp[g]
  have s:Below S w ((wr.setCell (aD (S+1) 0) (Vz)).alloc (.cells #[Vi 0,Vi 2,Vz,.bool false,Vf 103 #[ae (S+1),ae S]] 113)):=y.alloc (by rw[g];omega) _;generalize (wr.setCell (aD (S+1) 0) (Vz)).alloc (.cells #[Vi 0,Vi 2,Vz,.bool false,Vf 103 #[ae (S+1),ae S]] 113)=W1 at *;have l:Bw w W1:=by rw[hS];exact s
  have v:=H.below l;have T:m<S:=by rw[<-hS];exact H.1.lt
  have V:bm<S:=by rw[<-hS];exact H.2.1.lt
  have L:=sC 103 #[ae (S+1),ae S] none 0 [] [] (λ_=>0) v J (by omega) (by omega) (iE.nil _ _) (qD.nil _ _ _) (W.below l) (by decide) (by decide) (by decide) (by decide) (by omega);have M:f (fl 2 [] [])=none:=U.out;rw[yU,M]at L;refine L.mono ?_;rintro e r ⟨rfl,a,A,k,b,mm,Q,E,P,R,u⟩;have z:Hid (But (λk=>k=bm) w r/\MS r m bm nn ee (put f iG (S+2)) (n+1)/\FR r (S+2) n 2 false 103 #[ae (S+1),ae S] k b mm/\ag r (S+1) [Vz] 110/\ag r S [ae m] 95/\S<=S+2/\S<=k/\S<=b/\S<=mm/\S<=S+1/\S<=S) :=
   ⟨(But.below l).later a (λi X h=>by rcases h with h|h;omega;exact h),A,⟨Q,P,R,u⟩,C.but a (by omega),B.but a (by omega),by omega,by omega,by omega,by omega,by omega,by omega⟩
  go_wp2;go_ret;refine⟨S+2,k,b,mm,S+1,S,rfl,?_⟩;rw[hS];exact z
def Sr (w:World)(S:Nat)(wx:World):Prop:=∃x0 k0 b0 m0 l1 l2,MS wx (S+1) S (some x0) none (put (λ_=>none) iG x0) 1/\FR wx x0 0 2 false 103 #[ae l1,ae l2] k0 b0 m0/\ag wx l1 [Vz] 110/\ag wx l2 [ae (S+1)] 95/\S+3<=x0/\S+3<=k0/\S+3<=b0/\S+3<=m0/\S+3<=l1/\S+3<=l2/\ag wx (S+2) [ae (S+1)] 95/\Below S w wx/\aZ wx
def Ss (w:World)(S:Nat)(wx:World):Prop:=∃x0 k0 b0 m0 l1 l2 x1 k1 b1 m1,MS wx (S+1) S (some x0) (some x1) (put (put (λ_=>none) iG x0) rl x1) 2/\FR wx x0 0 2 false 103 #[ae l1,ae l2] k0 b0 m0/\FR wx x1 1 1 true 63 #[ae (S+2)] k1 b1 m1/\ag wx l1 [Vz] 110/\ag wx l2 [ae (S+1)] 95/\S+3<=x0/\S+3<=m0/\x0<x1/\m0<m1/\ag wx (S+2) [ae (S+1)] 95/\Below S w wx
theorem OW {w5:World}{S l1 l2:Nat}(hS:7<=S)(h0:Below S w W0)(hs0:W0.heap.size=S+3)(hP:aZ W0)(hb2:ag W0 (S+2) [ae (S+1)] 95)(hB:Bw W0 W)(hbut:But (λk=>k=S) W w5)
  (hM:MS w5 (S+1) S none none (put (λ_=>none) iG x) 1) (hr:FR w5 x 0 2 false 103 #[ae l1,ae l2] k b mm) (hl1:ag w5 l1 [Vz] 110) (hl2:ag w5 l2 [ae (S+1)] 95) (hge:W.heap.size<=x/\W.heap.size<=k/\W.heap.size<=b/\W.heap.size<=mm/\W.heap.size<=l1/\W.heap.size<=l2) :
  w5.cell? (aD (S+2) 0)=some (ae (S+1))/\w5.cell? (aD (S+1) 1)=some (.pointer none)/\w5.frozen? (aD (S+1) 1)=false/\S+1<w5.heap.size/\Sr w S (w5.setCell (aD (S+1) 1) (ae x)):=by
 have j:=hB.size;obtain⟨q,s,r,o,m,l⟩:=hge;have c:ag w5 (S+2) [ae (S+1)] 95:=(hb2.below hB).but hbut (by omega);have d:aZ w5:=(hP.below hB).same λi e h=>hbut.block i e (by omega);have a:∀g,g≠S+1->(w5.setCell (aD (S+1) 1) (ae x)).heap[g]?=w5.heap[g]?:=λg f=>zk _ _ _ _ f;refine⟨c.cell 0,hM.1.cell 1,hM.1.frozen 1,hM.1.lt,x,k,b,mm,l1,l2,⟨hM.1.set 1 _,hM.2.1.block (a _ (by omega)),by omega⟩,hr.keep (λg f=>a g (by omega)),(a _ (by omega)).trans hl1,(a _ (by omega)).trans hl2,by omega,by omega,by omega,by omega,by omega,by omega,(a _ (by omega)).trans c,?_,?_⟩
 ·exact ((h0.trans (hB.mono (by omega))).trans (hbut.toBelow (λk n=>by omega) (by omega))).setCell (p:=(aD (S+1) 1)) (by show S<=S+1;omega) _
 ·exact d.same λi e h=>zk _ _ _ _ (by show i≠S+1;omega)
theorem OX {wc:World}{S:Nat}(h:Sr w S wc)(W:World)(hB:Bw wc W)(hx:ag W wc.heap.size [Vi 0,Vi 1,Vz,.bool true,Vf 63 #[ae (S+1+1)]] 113):Calls prog 62 #[ae (S+1),ae wc.heap.size,Vz] W λe w5=>e=.returned (ae wc.heap.size)/\w5.cell? (aD (S+2) 0)=some (ae (S+1))/\w5.cell? (aD (S+1) 2)=some (.pointer none)/\w5.frozen? (aD (S+1) 2)=false/\S+1<w5.heap.size /\
   Ss w S (w5.setCell (aD (S+1) 2) (ae wc.heap.size)):=by
 obtain⟨q,H,E,K,O,D,z,x,n,m,B,R,P,G,U,X,i,t,M⟩:=h;have s:=i.lt;obtain⟨A,V,Y,Q⟩:=x.lt;have N:=n.lt;have y:=m.lt;have J:=ag.lt hx;have v:=sC 63 #[ae (S+2)] none 0 [] [] (λ_=>0) (z.below hB) hx (by omega) (by omega) (iE.nil _ _) (qD.nil _ _ _) (M.below hB) (by decide) (by decide) (by decide) (by decide) (by decide);rw[yU,show put (λ_=>none) iG q (fl 1 [] [])=none from Th PD rfl]at v;refine v.mono ?_;rintro e w5 ⟨rfl,f,l,k,b,F,I,C,r,L,u⟩;have c:∀g,g<wc.heap.size->g≠S->w5.heap[g]?=wc.heap[g]?:=λg j T=>(f.block g (by omega) (by omega)).trans (hB.block g j);have a:∀g,g≠S+1->(w5.setCell (aD (S+1) 2) (ae wc.heap.size)).heap[g]?=w5.heap[g]?:=λg j=>zk _ _ _ _ j;have o:ag w5 (S+2) [ae (S+1)] 95:=(c _ s (by omega)).trans i;have d:=l.1;refine⟨rfl,o.cell 0,d.cell 2,d.frozen 2,d.lt,q,H,E,K,O,D,wc.heap.size,k,b,F,⟨d.set 2 _,l.2.1.block (a _ (by omega)),by omega⟩,x.keep (λg j=>(a g (by omega)).trans (c g (by omega) (by omega))),FR.keep (w:=w5) ⟨I,r,L,u⟩ (λg j=>a g (by omega)),((a _ (by omega)).trans (c _ N (by omega))).trans n,((a _ (by omega)).trans (c _ y (by omega))).trans m,B,G,A,by omega,(a _ (by omega)).trans o,?_⟩;exact ((t.trans (hB.mono (by omega))).trans (f.toBelow (λk v=>by omega) (by omega))).setCell (p:=(aD (S+1) 2)) (by show S<=S+1;omega) _
theorem VK {wx:World}{S:Nat}(h7:7<=S)(hS:S<=wx.heap.size)(h:Ss w S wx):∃c:MC,c.m=S+1/\MkI wx c 2/\(∀g,c.S g->S<=g)/\(∀g,¬c.X g)/\Below S w wx:=by
 obtain⟨X,k0,b0,N,Z,Y,U,k1,b1,M,L,k,l,J,I,g1,g2,g3,g4,C,hB⟩:=h;have n0:(RE.or []).name=iG:=rfl;have n1:RE.empty.name=rl:=rfl;obtain⟨c,A⟩:∃c:MC,c=⟨S+1,S,[.or [],.empty],λi=>if i=0 then X else U,λi=>if i=0 then N else M,λ_=>False⟩:=⟨_,rfl⟩;have u:c.T=[.or [],.empty]:=by rw[A]
 have n:c.R 0=X:=by rw[A];rfl
 have o:c.R 1=U:=by rw[A];rfl
 have q:c.KM 0=N:=by rw[A];rfl
 have m:c.KM 1=M:=by rw[A];rfl
 have z:c.bm=S:=by rw[A]
 have K:c.m=S+1:=by rw[A]
 have P:∀g,¬c.X g:=λg=>by rw[A];exact id
 have V:∀g,c.Mp g↔g=S\/g=N\/g=M:=λg=>by
  unfold MC.Mp;rw[z,u];constructor
  ·rintro (h|⟨i,d,rfl⟩)
   ·exact .inl h
   ·match i,d with
    |0,_=>exact .inr (.inl q)
    |1,_=>exact .inr (.inr m)
  ·rintro (h|h|h)
   ·exact .inl h
   ·exact .inr ⟨0,by simp,by rw[q];exact h⟩
   ·exact .inr ⟨1,by simp,by rw[m];exact h⟩
 have B:∀g,c.S g↔g=S\/g=N\/g=M:=λg=>by
  unfold MC.S;rw[V];exact⟨λh=>h.elim id (λh=>(P g h).elim),.inl⟩
 have b:∀{g:Nat} {cs:List Value} {T:TypeId},ag wx g cs T->¬c.S g:=fun {g cs T} hb hs=>by
  have t:wx.heap[g]?=some (.cells cs.toArray T):=hb;rcases (B g).1 hs with rfl|rfl|rfl
  ·obtain⟨D,⟨es,O,E,_⟩,_⟩:=L.2.1;rw[E]at t;cases t
  ·rw[k.2.2.2]at t;cases t
  ·rw[l.2.2.2]at t;cases t
 have G:∀(i:Nat) (e:RE),c.T[i]?=some e->e.Wf/\∀a∈e.parts,a<i:=λi e d=>by
  rw[u]at d
  match i,d with
  |0,d=>simp at d;subst d;exact⟨⟨by simp,by simp⟩,λa W=>by simp[RE.parts]at W⟩
  |1,d=>simp at d;subst d;exact⟨trivial,λa W=>by simp[RE.parts]at W⟩
  |i+2,d=>simp at d
 refine⟨c,K,?_,λg F=>?_,P,hB⟩
 ·exact {
   mb:=by rw[K,z,n,o];exact L.1
   ms:=b (by rw[K];exact L.1)
   map:=by
    refine⟨put (put (λ_=>none) iG X) rl U,by rw[z,u];exact L.2.1,λs x=>?_⟩;unfold put;rw[u];constructor
    ·intro h;by_cases E:s=rl
     ·rw[zX E]at h;injection h with h;exact⟨1,.empty,rfl,by rw[E];rfl,by rw[o,h]⟩
     ·rw[zR E]at h;by_cases R:s=iG
      ·rw[zX R]at h;injection h with h;exact⟨0,.or [],rfl,by rw[R];rfl,by rw[n,h]⟩
      ·rw[zR R]at h;cases h
    ·rintro⟨i,e,d,rfl,rfl⟩
     match i,d with
     |0,d=>
      simp at d;subst d;rw[n0,zR (λh=>PD h.symm),zX rfl,n]
     |1,d=>
      simp at d;subst d;rw[n1,zX rfl,o]
     |i+2,d=>simp at d
   t0:=by rw[u];rfl
   t1:=by rw[u];rfl
   le:=by rw[u];exact zA _
   wf:=G
   rest:=λi e d=>by
    have H:=Nb d (G i e d).2;have f:=d;rw[u]at f
    match i,f with
    |0,f=>
     simp at f;subst f;refine⟨none,0,false,k0,b0,103,#[ae Z,ae Y],by rw[n];exact k.1,?_,λj p v=>by simp[RE.parts]at v,by rw[n];exact b k.1,b k.2.2.1,b k.2.1,by rw[q];exact k.2.2.1,k.2.1,Z,Y,none,0,rfl,rfl,b J,b I,J,by rw[K];exact I,λj p v=>by simp at v⟩;rw[H];simp[RE.lang]
    |1,f=>
     simp at f;subst f;refine⟨none,0,true,k1,b1,63,#[ae (S+2)],by rw[o];exact l.1,?_,λj p v=>by simp[RE.parts]at v,by rw[o];exact b l.1,b l.2.2.1,b l.2.1,by rw[m];exact l.2.2.1,l.2.1,S+2,rfl,rfl,b C,by rw[K];exact C⟩;rw[H];simp[RE.lang]
    |i+2,f=>simp at f
   know:=λi d=>by
    rw[u]at d
    match i,d with
    |0,_=>exact⟨λ_=>none,0,by rw[q];exact iB.fresh k.2.2.2,by omega,λr y Q=>by cases Q⟩
    |1,_=>exact⟨λ_=>none,0,by rw[m];exact iB.fresh l.2.2.2,by omega,λr y Q=>by cases Q⟩
   kmb:=λi d=>by
    rw[u]at d;rw[z]
    match i,d with
    |0,_=>rw[q];omega
    |1,_=>rw[m];omega
   kmi:=λi j d v h=>by
    rw[u]at d v
    match i,j,d,v with
    |0,0,_,_=>rfl
    |1,1,_,_=>rfl
    |0,1,_,_=>rw[q,m]at h;omega
    |1,0,_,_=>rw[q,m]at h;omega
   inj:=λi j d v h=>by
    rw[u]at d v
    match i,j,d,v with
    |0,0,_,_=>rfl
    |1,1,_,_=>rfl
    |0,1,_,_=>rw[n,o]at h;omega
    |1,0,_,_=>rw[n,o]at h;omega
   low:=λg F=>by
    rcases (B g).1 F with rfl|rfl|rfl<;>omega
   xs:=λg F=>(P g F).elim }
 ·rcases (B g).1 F with rfl|rfl|rfl<;>omega
theorem Hu (hP:aZ w)(h7:7<=w.heap.size):Calls prog 41 #[] w λe w'=>∃c:MC,e=.returned (ae c.m)/\MkI w' c 2/\(∀g,c.S g->w.heap.size<=g)/\(∀g,¬c.X g)/\w.heap.size<=c.m/\Bw w w':=by
 have a1:=@run_makeMap prog;obtain⟨W0,d⟩:∃W0,((w.alloc (.map #[] 0)).alloc (.cells #[.map (some w.heap.size),.pointer none,.pointer none] 146)).alloc (.cells #[ae (w.heap.size+1)] 95)=W0:=⟨_,rfl⟩;have l:Bw w W0:=by rw[<-d];exact (((zE _ _).alloc (zA _) _).alloc (by simp) _).alloc (by simp;omega) _
 have t:fs W0 w.heap.size (λ_=>none) 0:=by rw[<-d];exact (fs.made w).below (((zE _ _).alloc (by simp) _).alloc (by simp) _)
 have p:ag W0 (w.heap.size+1) [.map (some w.heap.size),.pointer none,.pointer none] 146:=by
  rw[<-d];have:=(ag.new (w.alloc (.map #[] 0)) [.map (some w.heap.size),.pointer none,.pointer none] 146).alloc (.cells #[ae (w.heap.size+1)] 95);simpa using this
 have a:ag W0 (w.heap.size+2) [ae (w.heap.size+1)] 95:=by
  rw[<-d];have:=ag.new ((w.alloc (.map #[] 0)).alloc (.cells #[.map (some w.heap.size),.pointer none,.pointer none] 146)) [ae (w.heap.size+1)] 95;simpa using this
 have F:W0.heap.size=w.heap.size+3:=by rw[<-d];simp
 have m:MS W0 (w.heap.size+1) w.heap.size none none (λ_=>none) 0:=⟨p,t,by omega⟩;have c2:W0.cell? (aD (w.heap.size+2) 0)=some (ae (w.heap.size+1)):=a.cell 0;have L:=aa d;have E:=aa l;have A:=aa a;have q:=aa (hP.below l);have K:=aa m;go_enter func41,ntmps41;go_wp2_with fail;rw[L.out];generalize hS:w.heap.size=S at *;have s:=aa (λ(w':World) (hb:Bw W0 w')=>VJ (K.below hb) (q.below hb) rfl (by decide));have n:=aa (λ(W w5:World) (x k b mm l1 l2:Nat)=>OW (w:=w) (W0:=W0) (W:=W) (w5:=w5) (S:=S) (x:=x) (k:=k) (b:=b) (mm:=mm) (l1:=l1) (l2:=l2) h7 E F q A)
 go_cut [] (λwx=>Sr w S wx)
 case first=>
  go_region_with (go_at_call 61;refine (s _ (by first|exact (zE _ _).drew|exact aR (zE _ _)|exact zE _ _)).mono ?_;rintro e w5 ⟨x,k,b,mm,l1,l2,rfl,j,u,r,i,h,f⟩;obtain⟨Y,e3,e4,e5,o⟩:=n.out _ w5 x k b mm l1 l2 (by first|exact (zE _ _).drew|exact aR (zE _ _)|exact zE _ _) j u r i h f;have J:=aa o)
  all_goals go_wp2_with fail
  all_goals go_meet
  all_goals exact J
 case rest=>
  have a:ag wc (S+2) [ae (S+1)] 95:=by obtain⟨x0,V,T,X,l1,l2,N,hr,i,h,O,Q,P,U,g5,g6,a,a0,hP⟩:=hcut;exact a
  have e1:wc.cell? (aD (S+2) 0)=some (ae (S+1)):=a.cell 0;have B:=aa (OX hcut);have Z:=a.lt;go_upto_region 3 with fail
  go_cut [] (λwx=>Ss w S wx)
  case first=>
   go_region_with (go_at_call 62;refine (B _ (by first|exact ((zE _ wc).alloc (zA _) _).drew|exact (zE _ wc).drew.alloc (zA _) _) (by first|exact (ag.new wc _ _).drew|exact ag.new wc.drew _ _)).mono ?_;rintro e w5 ⟨rfl,Y,e3,e4,e5,o⟩;have J:=aa o)
   all_goals go_wp2_with fail
   all_goals go_meet
   all_goals exact J
  case rest=>
   obtain⟨c,M,v,f,R,y⟩:=VK h7 (by obtain⟨x0,V,T,X,l1,l2,x1,k1,b1,m1,N,G,I,i,h,O,Q,P,U,a,y⟩:=hcut;have:=a.lt;omega) hcut;have a:ag wc (S+2) [ae (S+1)] 95:=by obtain⟨x0,V,T,X,l1,l2,x1,k1,b1,m1,N,G,I,i,h,O,Q,P,U,a,y⟩:=hcut;exact a
   have Y:wc.cell? (aD (S+2) 0)=some (ae (S+1)):=a.cell 0;have H:=aa v;have C:=aa y;have z:=aa f;have D:=aa R;go_wp2_with fail;go_ret;refine⟨c,?_,H,?_,D,by omega,?_⟩
   ·rw[M];rfl
   ·rw[hS];exact z
   ·rw[hS];exact C
