import Derived.Laws.EntriesVeiled
import Derived.Test.YtebnghmioamheaaGreatDoorM28
import Derived.Test.YtebnghmioamheaaGreatDoorM10
set_option maxHeartbeats 1000000
set_option maxRecDepth 100000
set_option linter.all false
namespace Go.Proofs.YtebnghmioamheaaGreatDoor
open Go.Shelf Go.RowKit Go.Lib Tryz
variable {S:NP}{a w w':World}{B b c i g n j bn:Nat}
structure But (S:Nat->Prop)(w w':World):Prop where
 os:w'.os=w.os
 tape:w'.tape=w.tape
 output:w'.output=w.output
 size:w.heap.size<=w'.heap.size
 block:∀k,k<w.heap.size->¬S k->w'.heap[k]?=w.heap[k]?
theorem But.refl (S:NP)(w:World):But S w w:=⟨rfl,rfl,rfl,zA _,λ_ _ _=>rfl⟩
theorem But.trans {S:NP}{a b c:World}(h:But S a b)(k:But S b c):But S a c :=
 ⟨k.os.trans h.os,k.tape.trans h.tape,k.output.trans h.output,zJ h.size k.size,λi e d=>(k.block i (zF e h.size) d).trans (h.block i e d)⟩
theorem But.mono {T:NP}{b:World}(h:But S a b)(k:∀i,i<a.heap.size->S i->T i):But T a b:=⟨h.os,h.tape,h.output,h.size,λi c e=>h.block i c (λd=>e (k i c d))⟩
theorem But.below (h:Bw w w'):But S w w':=⟨h.os,h.tape,h.output,h.size,λk a _=>h.block k a⟩
theorem But.toBelow (h:But S w w')(hS:∀k,S k->B<=k)(hB:B<=w.heap.size):Below B w w':=⟨h.os,h.tape,h.output,h.size,λk b=>h.block k (by omega) (λa=>by have:=hS k a;omega)⟩
theorem But.setCell {S:NP}{a w:World}(h:But S a w){p:Addr}(hp:S p.block\/a.heap.size<=p.block)(u:Value):But S a (w.setCell p u) :=
 ⟨h.os,h.tape,h.output,by have:=h.size;simpa [World.setCell]using this,λk c b=>(zk _ _ _ _ (λe=>by subst e;rcases hp with hp|hp;exact b hp;omega)).trans (h.block k c b)⟩
theorem But.turned (h:But S a w)(ht:w.mapTurned w' b)(hp:S b):But S a w':=by
 have c:=ht.grown;exact h.trans ⟨c.os,c.tape,c.output,c.size,λk f d=>c.block k f (λe=>by injection e with e;subst e;exact d hp)⟩
theorem ag.but {cs:LV}{T:TypeId}(h:ag w b cs T)(k:But S w w')(hn:¬S b):ag w' b cs T:=(k.block b h.lt hn).trans h
theorem But.cell {S:NP}{w w':World}(h:But S w w'){p:Addr}(hp:p.block<w.heap.size)(hn:¬S p.block):w'.cell? p=w.cell? p:=zP (w:=w) (h.block p.block hp hn)
theorem ag.turned {cs:LV}{T:TypeId}(h:ag w b cs T)(ht:w.mapTurned w' c)(hne:b≠c):ag w' b cs T:=(ht.grown.block b h.lt (λe=>by injection e with e;exact hne e)).trans h
theorem Ez (F:Nat)(cp:Array Value)(w:World):Calls prog 107 #[Vf F cp] w λe w'=>∃k b mm,e=.returned (Vf 143 #[Vp k,Vp b]) /\
  Bw w w'/\(w.heap.size<=k/\w.heap.size<=b/\w.heap.size<=mm/\k≠mm/\b≠mm/\k≠b)/\ag w' b [Vf F cp] 111/\ag w' k [.map (some mm)] 216/\w'.heap[mm]?=some (.map #[] 0):=by
 have a:=@run_makeMap prog;go_enter func107,ntmps107;go_wp2_with fail;go_ret;refine⟨w.heap.size+1+1,w.heap.size,w.heap.size+1,rfl,(((zE _ w).alloc (zA _) _).alloc (by simp) _).alloc (by simp;omega) _,by omega,?_,?_,?_⟩
 ·exact (((ag.new w [Vf F cp] 111).alloc _).alloc _)
 ·have:=ag.new ((w.alloc (.cells #[Vf F cp] 111)).alloc (.map #[] 0)) [.map (some (w.heap.size+1))] 216;simpa using this
 ·rw[zS _ _ _ (by simp)];have:=(MapKept.heap_alloc (w.alloc (.cells #[Vf F cp] 111)) (.map #[] 0)).1;simpa using this
def iE (w:World)(a:Option Addr)(ns:List Int):Prop:=∀j x,ns[j]?=some x->∃bb off,a=some (aD bb off)/\bb<w.heap.size/\w.cell? ⟨bb,off+j,none⟩=some (Vi x)/\-9223372036854775808<=x/\x<=9223372036854775807
theorem iE.below {a:OA}{raw:LZ}(h:iE w a raw)(k:Bw w w'):iE w' a raw:=by
 intro j x f;obtain⟨d,b,rfl,c,e,g⟩:=h j x f;exact⟨d,b,rfl,zF c k.size,(k.cell (p:=⟨d,_,none⟩) c).trans e,g⟩
def qD (w:World)(a:Option Addr)(ps:List Nat)(num:Nat->Int):Prop:=∀j y,ps[j]?=some y->∃bb off,a=some (aD bb off)/\bb<w.heap.size/\y<w.heap.size/\w.cell? ⟨bb,off+j,none⟩=some (Vp y)/\w.cell? (aD y 0)=some (Vi (num y))/\-9223372036854775808<=num y/\num y<=9223372036854775807
theorem qD.below {a:OA}{ps:List Nat}{num:Nat->Int}(h:qD w a ps num)(k:Bw w w'):qD w' a ps num:=by
 intro j x i;obtain⟨d,b,rfl,c,e,g,f,l⟩:=h j x i;exact⟨d,b,rfl,zF c k.size,zF e k.size,(k.cell (p:=⟨d,_,none⟩) c).trans g,(k.cell (p:=⟨x,_,none⟩) e).trans f,l⟩
def dD (ns:List Int):List UInt8:=(ns.map λn=>32::Lib.itoa n).flatten
def fl (kd:Int)(ns qs:List Int):List UInt8:=Lib.itoa kd++dD ns++dD qs
theorem vf (ns:LZ)(n:Int):dD (ns++[n])=dD ns++(32::Lib.itoa n):=by simp[dD]
theorem dU {α:Type}{l:List α}{x:α}(h:l[i]?=some x):l.take (i+1)=l.take i++[x]:=by
 obtain⟨a,rfl⟩:=zC.1 h;exact yu a
def MS (w:World)(m bm:Nat)(nn ee:Option Nat)(f:List UInt8->Option Nat)(n:Nat):Prop:=ag w m [.map (some bm),BG nn,BG ee] 146/\fs w bm f n/\m≠bm
theorem MS.below {w w':World}{m bm:Nat}{nn ee:Option Nat}{f:List UInt8->Option Nat}{n:Nat}(h:MS w m bm nn ee f n)(k:Bw w w'):MS w' m bm nn ee f n:=⟨h.1.below k,h.2.1.below k,h.2.2⟩
def kG (w:World)(x:Nat)(num kd:Int)(pa:Option Addr)(pn pc:Nat)(en:Bool)(fv:Value):Prop:=ag w x [Vi num,Vi kd,.slice pa pn pc,.bool en,fv] 113
def UB (w:World)(pre:List UInt8)(z:Nat)(ns:List Int)(j:Nat)(nv iv:Value)(wr:World):Prop:=∃(i:Nat) (s:ByteArray),iv=Vi (i:Int)/\i<=ns.length/\ns.length-i<=j/\nv=.string s/\af s=pre++dD (ns.take i)/\s.size<=z+22*i/\Below w.heap.size w wr
theorem Gs:(prog.info? 107).map (λi=>(i.zero,i.size,i.bytes))=some (some (.agg #[Vz,.pointer none,.pointer none]),3,40):=by kernel_rfl
abbrev Zy (r s:Nat):Value:=.agg #[Vz,Vp r,Vp s]
abbrev XY (r s:Nat):List Value:=[Vz,Vp r,Vp s]
def ZN (w:World)(B bn r s:Nat):Prop:=∃g c,ag w bn [Vs g 1 c] 100/\w.ownsRow B 107 3 (Vs g 1 c) 1 (XY r s)
theorem But.grown {row:Option Nat}(h:But S a w)(hg:w.grownBy w' row)(hr:∀k,row=some k->S k\/a.heap.size<=k):But S a w' :=
 ⟨hg.os.trans h.os,hg.tape.trans h.tape,hg.output.trans h.output,zJ h.size hg.size,λk d c=>(hg.block k (zF d h.size) (λe=>by rcases hr k e.symm with b|b;exact c b;omega)).trans (h.block k d c)⟩
theorem Gt (v:Value)(w:World):(Instr.typeAssert (.iface 107 v) 20 107 false).run prog w=.ok v w:=by
 simp[Instr.typeAssert,yp underlying107,Result.andThen]
theorem Qb (b:Nat)(w:World):(method 422 98 (.pointer (some ⟨b,0,none⟩)) "Push").run prog w=.ok (287,.pointer (some ⟨b,0,none⟩)) w:=by kernel_rfl
theorem TH (b:Nat)(w:World):(method 422 98 (.pointer (some ⟨b,0,none⟩)) "Pop").run prog w=.ok (286,.pointer (some ⟨b,0,none⟩)) w:=by kernel_rfl
theorem tN (a:Addr)(x y:String)(w:World):(Builtin.ssaWrapNilChk_ #[98] 98 #[.pointer (some a),strVal x,strVal y]).run prog w=.ok (.pointer (some a)) w:=rfl
theorem Gi (b:Nat)(w:World)(v:Value)(h:w.cell? ⟨b,0,none⟩=some v):(method 422 98 (.pointer (some ⟨b,0,none⟩)) "Len").run prog w=.ok (45,v) w:=by
 have hk:(prog.info? 98).map (λi=>(i.methods.find? (·.name== "Len")).map λm=>(m.path.isEmpty,m.func))=some (some (true,some (45,false))):=by kernel_rfl
 cases hi:prog.info? 98 with
 |none=>rw[hi]at hk;cases hk
 |some i=>
  rw[hi]at hk;simp only[yw,yG]at hk;cases hf:i.methods.find? (·.name== "Len")with
  |none=>rw[hf]at hk;cases hk
  |some m=>
   rw[hf]at hk;simp only[yw,yG,Prod.mk.injEq]at hk;obtain⟨hp,hm⟩:=hk;have hp2:m.path=#[]:=Array.isEmpty_iff.1 hp;unfold method;simp[typeInfo,hi,hf,hm,hp2,follow,receiverAt,yp underlying98,Place.get,tN,asAddr,loadVar,go_sem,h,isAgg100,Result.andThen]
theorem uN (a:OA)(n c:Nat)(w:World):Calls prog 45 #[.slice a n c] w λe w'=>e=.returned (Vi n)/\w'=w:=by
 go_enter func45,ntmps45;go_wp2;go_ret;exact⟨rfl,rfl⟩
theorem tO (b:Nat)(w:World)(v:Value)(h:w.cell? ⟨b,0,none⟩=some v):(method 422 98 (.pointer (some ⟨b,0,none⟩)) "Swap").run prog w=.ok (288,v) w:=by
 have hk:(prog.info? 98).map (λi=>(i.methods.find? (·.name== "Swap")).map λm=>(m.path.isEmpty,m.func))=some (some (true,some (288,false))):=by kernel_rfl
 cases hi:prog.info? 98 with
 |none=>rw[hi]at hk;cases hk
 |some i=>
  rw[hi]at hk;simp only[yw,yG]at hk;cases hf:i.methods.find? (·.name== "Swap")with
  |none=>rw[hf]at hk;cases hk
  |some m=>
   rw[hf]at hk;simp only[yw,yG,Prod.mk.injEq]at hk;obtain⟨hp,hm⟩:=hk;have hp2:m.path=#[]:=Array.isEmpty_iff.1 hp;unfold method;simp[typeInfo,hi,hf,hm,hp2,follow,receiverAt,yp underlying98,Place.get,tN,asAddr,loadVar,go_sem,h,isAgg100,Result.andThen]
set_option maxHeartbeats 4000000
def jt (x y:Int):Int:=if x<y then -1 else if y<x then 1 else 0
def iw:List Int->List Int->Int
 | [],[]=>0
 | [],_::_=>-1
 |_::_,[]=>1
 |a::u,b::v=>if a<b then -1 else if b<a then 1 else iw u v
theorem Er:∀u v:List Int,u.length=v.length->(iw u v<0↔cH u v=true)
 | [],[],_=>by simp[iw,cH]
 | [],_::_,h=>by simp at h
 |_::_,[],h=>by simp at h
 |a::u,b::v,h=>by
  have d:=Er u v (by simpa using h);simp only[iw,cH,yZ,yP,zY];by_cases c:a<b
  ·simp[c]
  ·by_cases f:b<a
   ·simp[c,f];omega
   ·have e:a=b:=by omega
    simp[e,d]
def NY (x y:Int):Int:=if x≠0 then x else y
theorem Rk (u v:LZ):(decide (NY (jt u.length v.length) (iw u v)<0))=bY u v:=by
 unfold bY NY jt;by_cases a:(u.length:Int)<v.length
 ·have:u.length<v.length:=by omega
  simp[a,this]
 ·by_cases b:(v.length:Int)<u.length
  ·have c:¬u.length<v.length:=by omega
   have d:¬u.length=v.length:=by omega
   simp[a,b,c,d]
  ·have e:u.length=v.length:=by omega
   have:=Er u v e;simp[e];cases hb:cH u v with
   |true=>simpa [hb]using this
   |false=>rw[hb]at this;simp at this;simpa using this
def iy (w:World)(tv:Value)(u:List Int):Prop:=∃a c,tv=.slice a u.length c/\∀j r,u[j]?=some r->∃b off,a=some (aD b off)/\b<w.heap.size/\w.cell? ⟨b,off+j,none⟩=some (.int .i32 r)
theorem Rl (x:Int)(W:World):Calls prog 292 #[.int .i32 x] W λe w'=>e=.returned (.bool false)/\w'=W:=by
 go_enter func292,ntmps292;go_wp2;go_ret;exact⟨by simp,rfl⟩
theorem Vg (x:Int)(W:World):Calls prog 140 #[Vi x] W λe w'=>e=.returned (.bool false)/\w'=W:=by
 go_enter func140,ntmps140;go_wp2;go_ret;exact⟨by simp,rfl⟩
theorem Rm (x y:Int)(W:World):Calls prog 291 #[.int .i32 x,.int .i32 y] W λe w'=>e=.returned (Vi (jt x y))/\w'=W:=by
 have c:=Rl;unfold jt;by_cases b:x<y
 ·have f:decide (x<y)=true:=zv b;rw[zX b];go_enter func291,ntmps291;go_wp2_with (go_at_call 292;refine (c _ _).mono ?_;rintro e w' ⟨rfl,rfl⟩);go_ret;exact⟨rfl,rfl⟩
 ·have f:decide (x<y)=false:=zI b;rw[zR b];by_cases a:y<x
  ·have d:decide (y<x)=true:=zv a;rw[zX a];go_enter func291,ntmps291;go_wp2_with (go_at_call 292;refine (c _ _).mono ?_;rintro e w' ⟨rfl,rfl⟩);go_ret;exact⟨rfl,rfl⟩
  ·have d:decide (y<x)=false:=zI a;rw[zR a];go_enter func291,ntmps291;go_wp2_with (go_at_call 292;refine (c _ _).mono ?_;rintro e w' ⟨rfl,rfl⟩);go_ret;exact⟨rfl,rfl⟩
theorem Vh (x y:Int)(W:World):Calls prog 101 #[Vi x,Vi y] W λe w'=>e=.returned (Vi (jt x y))/\w'=W:=by
 have c:=Vg;unfold jt;by_cases b:x<y
 ·have f:decide (x<y)=true:=zv b;rw[zX b];go_enter func101,ntmps101;go_wp2_with (go_at_call 140;refine (c _ _).mono ?_;rintro e w' ⟨rfl,rfl⟩);go_ret;exact⟨rfl,rfl⟩
 ·have f:decide (x<y)=false:=zI b;rw[zR b];by_cases a:y<x
  ·have d:decide (y<x)=true:=zv a;rw[zX a];go_enter func101,ntmps101;go_wp2_with (go_at_call 140;refine (c _ _).mono ?_;rintro e w' ⟨rfl,rfl⟩);go_ret;exact⟨rfl,rfl⟩
  ·have d:decide (y<x)=false:=zI a;rw[zR a];go_enter func101,ntmps101;go_wp2_with (go_at_call 140;refine (c _ _).mono ?_;rintro e w' ⟨rfl,rfl⟩);go_ret;exact⟨rfl,rfl⟩
theorem Xk (b:Nat)(x y:Int)(w:World)(c0:w.cell? (aD b 0)=some (Vi x))(c1:w.cell? (aD b 1)=some (Vi y))(hb:b<w.heap.size):Calls prog 289 #[Vs b 2 2] w λe w'=>e=.returned (Vi (NY x y))/\w'=w:=by
 unfold NY;by_cases a:x=0
 ·have h:(x != 0)=false:=by simp[a]
  rw[zR (by simp[a])];subst a;go_enter func289,ntmps289;go_wp2_with fail
  go_loopg [8] 3 (λj iv wr=>wr=w/\((iv=Vi 0/\j=3)\/(iv=Vi 1/\j=2)\/(iv=Vi 2/\y=0)))
  case atStart=>exact⟨rfl,.inl ⟨rfl,rfl⟩⟩
  case round=>
   obtain⟨d,hrel⟩:=hrel;subst d;rcases hrel with⟨rfl,f⟩|⟨rfl,f⟩|⟨rfl,f⟩
   ·go_wp2_with fail
    go_roundg 2
    all_goals first|omega|exact⟨rfl,.inr (.inl ⟨rfl,rfl⟩)⟩
   ·by_cases c:y=0
    ·have g:(y != 0)=false:=by simp[c]
     go_wp2_with fail
     go_roundg 1
     all_goals first|omega|exact⟨rfl,.inr (.inr ⟨rfl,c⟩)⟩
    ·have g:(y != 0)=true:=by simp[c]
     go_wp2_with fail;go_ret;exact⟨rfl,rfl⟩
   ·subst f;go_wp2_with fail;go_ret;exact⟨rfl,rfl⟩
 ·have h:(x != 0)=true:=by simp[a]
  rw[zX a];go_enter func289,ntmps289;go_wp2_with fail
  go_loopg [8] 3 (λj iv wr=>wr=w/\iv=Vi 0)
  case atStart=>exact⟨rfl,rfl⟩
  case round=>
   obtain⟨d,rfl⟩:=hrel;subst d;go_wp2_with fail;go_ret;exact⟨rfl,rfl⟩
theorem Ro (tu tv:Value)(u v:LZ)(w:World)(hu:iy w tu u)(hv:iy w tv v)(lu:u.length<=1000000):Calls prog 290 #[tu,tv] w λe w'=>e=.returned (Vi (iw u v))/\w'=w:=by
 obtain⟨U,W,rfl,g⟩:=hu;obtain⟨L,N,rfl,h⟩:=hv;have n:=aa g;have q:=aa h;go_enter func290,ntmps290;go_wp2_with fail
 go_loopg [11] u.length (λj iv wr=>wr=w/\∃i:Nat,iv=Vi (i:Int)/\i<=u.length/\u.length-i<=j/\i<=v.length/\iw u v=iw (u.drop i) (v.drop i))
 case atStart=>exact⟨rfl,0,rfl,zW _,by omega,zW _,rfl⟩
 case round=>
  obtain⟨D,i,rfl,K,S,H,d⟩:=hrel;subst D;have V:(0:Int)<=(i:Int):=zK _;by_cases k:i<u.length
  ·have M:(i:Int)<(u.length:Int):=by omega
   obtain⟨x,A⟩:∃x,u[i]?=some x:=⟨_,zB k⟩;obtain⟨T,P,rfl,I,F⟩:=n.out i x A;have l:u.drop i=x::u.drop (i+1):=by rw[yC k];congr 1;exact (zC.1 A).2
   by_cases f:i<v.length
   ·have C:decide ((v.length:Int)<=(i:Int))=false:=zI (by omega);have R:(i:Int)<(v.length:Int):=by omega
    obtain⟨y,t⟩:∃y,v[i]?=some y:=⟨_,zB f⟩;obtain⟨Q,X,rfl,J,B⟩:=q.out i y t;have o:v.drop i=y::v.drop (i+1):=by rw[yC f];congr 1;exact (zC.1 t).2
    have m:=aa (Rm x y);rw[l,o]at d;by_cases c:jt x y=0
    ·have p:(jt x y != 0)=false:=by simp[c]
     have a:iw u v=iw (u.drop (i+1)) (v.drop (i+1)):=by
      rw[d];unfold jt at c;simp only[iw]
      split at c
      ·cases c
      ·split at c
       ·cases c
       ·rename_i h1 h2;rw[zR h1,zR h2]
     have b:=aa a;generalize jt x y=z at m p;go_wp2_with (go_at_call 291;refine (m _).mono ?_;rintro e w' ⟨rfl,rfl⟩)
     go_roundg (u.length-(i+1))
     all_goals first|omega|exact⟨rfl,i+1,by go_num,by omega,by omega,by omega,b⟩
    ·have p:(jt x y != 0)=true:=by simp[c]
     have a:iw u v=jt x y:=by
      rw[d];unfold jt at c ⊢;simp only[iw]
      split
      ·rfl
      ·split
       ·rfl
       ·rename_i h1 h2;rw[zR h1,zR h2]at c;exact absurd rfl c
     have b:=aa a;generalize jt x y=z at m p b;go_wp2_with (go_at_call 291;refine (m _).mono ?_;rintro e w' ⟨rfl,rfl⟩);go_ret;exact⟨by rw[b.out];rfl,rfl⟩
   ·have C:decide ((v.length:Int)<=(i:Int))=true:=zv (by omega);have a:iw u v=1:=by
     have s:v.drop i=[]:=yh (by omega);rw[d,l,s];rfl
    have b:=aa a;go_wp2_with fail;go_ret;exact⟨by rw[b.out];rfl,rfl⟩
  ·have O:decide ((i:Int)<(u.length:Int))=false:=zI (by omega);have E:i=u.length:=by omega
   by_cases f:u.length<v.length
   ·have G:decide ((u.length:Int)<(v.length:Int))=true:=zv (by omega);have a:iw u v=-1:=by
     have r:u.drop i=[]:=yh (by omega);rw[d,r,yC (show i<v.length by omega)];rfl
    have b:=aa a;go_wp2_with fail;go_ret;exact⟨by rw[b.out];rfl,rfl⟩
   ·have G:decide ((u.length:Int)<(v.length:Int))=false:=zI (by omega);have a:iw u v=0:=by
     have r:u.drop i=[]:=yh (by omega);have s:v.drop i=[]:=yh (by omega);rw[d,r,s];rfl
    have b:=aa a;go_wp2_with fail;go_ret;exact⟨by rw[b.out];rfl,rfl⟩
theorem Es (g n c i j:Nat){tu tv:Value}{u v:LZ}(hi:i<n)(hj:j<n)(ci:w.cell? ⟨g,i*3,none⟩=some tu)(cj:w.cell? ⟨g,j*3,none⟩=some tv)(hu:iy w tu u)(hv:iy w tv v)(lu:u.length<=1000000):Calls prog 285 #[Vs g n c,Vi i,Vi j] w λe w'=>e=.returned (.bool (bY u v))/\Bw w w':=by
 have F:(0:Int)<=(i:Int):=zK _;have z:(i:Int)<(n:Int):=by omega
 have D:(0:Int)<=(j:Int):=zK _;have C:(j:Int)<(n:Int):=by omega
 have f:=aa (Vh (u.length:Int) (v.length:Int));have l:=aa (λ(W:World) (hW:Bw w W)=>Ro tu tv u v W (by obtain⟨a,s,e,h⟩:=hu;exact⟨a,s,e,λj r hj=>by obtain⟨b,d,t,m,q⟩:=h j r hj;exact⟨b,d,t,zF m hW.size,(hW.cell (p:=⟨b,d+j,none⟩) m).trans q⟩⟩) (by obtain⟨a,s,e,h⟩:=hv;exact⟨a,s,e,λj r hj=>by obtain⟨b,d,t,m,q⟩:=h j r hj;exact⟨b,d,t,zF m hW.size,(hW.cell (p:=⟨b,d+j,none⟩) m).trans q⟩⟩) lu);obtain⟨E,G,rfl,_⟩:=hu;obtain⟨A,B,rfl,_⟩:=hv;have x:=aa (Rk u v);rw[<-x.out];have o:=aa (λ(b:Nat) (W:World)=>Xk b (jt (u.length:Int) (v.length:Int)) (iw u v) W);generalize jt (u.length:Int) (v.length:Int)=X at f o ⊢;generalize iw u v=Y at l o ⊢;generalize NY X Y=Z at o ⊢;go_enter func285,ntmps285;go_wp2_with fail
 go_quiet (fail)
 go_wp2_with fail;refine (f _).mono ?_;rintro e w' ⟨rfl,rfl⟩;go_wp2_with fail;refine (l _ (by exact⟨rfl,rfl,rfl,zA _,λ_ _=>rfl⟩)).mono ?_;rintro e w' ⟨rfl,rfl⟩;go_wp2_with fail;refine (o _ _ ?_ ?_ ?_).mono ?_
 ·exact (ag.new _ [Vi X,Vi Y] 3).cell 0
 ·exact (ag.new _ [Vi X,Vi Y] 3).cell 1
 ·simp
 rintro e w' ⟨rfl,rfl⟩;go_wp2_with fail;go_ret;exact⟨rfl,rfl,rfl,rfl,by simp,λk y=>zS _ _ _ y⟩
theorem gI {P:Program}(w:World)(base:Nat)(t ty e:TypeId)(i:TypeInfo)(z:Value)(size bytes:Nat)(ht:P.underlying t=some (.slice e))(hi:P.info? e=some i)(hz:i.zero=some z)
  (hsize:i.size=size) (hby:i.bytes=bytes) (hzs:z.cells.size=size) (hsz:0<size)
  (v:Value) (n:Nat) (xs:LV) (hown:w.ownsRow base e size v n xs)
  (a:Addr) (m c:Nat) (news:LV) (hl:news.length=m*size) (hnews:∀j u,news[j]?=some u->w.cell? (a.add j)=some u) (h1:∀u∈news,u.oneCell'=true)
  (h63:n+m<=maxLen) (hbytes:(n+m)*bytes<=140737488355328) (hbase:base<=w.heap.size):∃v' w',(Builtin.append_ #[t,t] ty #[v,.slice (some a) m c]).run P w=.ok v' w'/\w'.ownsRow base e size v' (n+m) (xs++news)/\w.grownBy w' v.ownBlock /\
   (∀g,v'.ownBlock=some g->v.ownBlock=some g\/w.heap.size<=g):=by
 obtain⟨v',w',o,E,F,_⟩:=run_append_own (P:=P) w base t ty e i z size bytes ht hi hz hsize hby hzs hsz v n xs hown a m c news hl hnews h1 h63 hbytes hbase;refine⟨v',w',o,E,F,λg r=>?_⟩;rcases hown.2 with⟨rfl,rfl⟩|⟨q,h,k,rfl,A,s,D,C,x,y⟩
 ·have B:xs=[]:=yf (by simpa using hown.1);subst B;obtain⟨H,I,b,G,_,_⟩:=run_append_own (P:=P) w w.heap.size t ty e i z size bytes ht hi hz hsize hby hzs hsz (Vz) 0 [] (zZ _ _ _ _) a m c news hl hnews h1 h63 hbytes (zA _);rw[o]at b;injection b with e1 e2;subst e1;exact .inr (G.lt g r |>.1)
 ·by_cases d:n+m<=h
  ·subst hsize;have l:n*i.size+news.length<=k.size:=by rw[hl,x,<-Nat.add_mul];exact zn _ d
   have b:=run_append_room (P:=P) w t ty e i ht hi q n h k s a m c news hl hnews h1 d l;rw[o]at b;injection b with e1 e2;subst e1;exact .inl r
  ·subst hsize;subst hby;have p:n+m<=9223372036854775807:=by simp only[maxLen]at h63;omega
   have f:∀j u,xs[j]?=some u->w.cell? (((aD q 0):Addr).add j)=some u:=hown.cells (g:=q) rfl;have b:=run_append_grow (P:=P) w t ty e i z ht hi hz (aD q 0) n h xs hown.1 f a m c news hl hnews (by omega) (by omega) (growslice_fits (by omega) hbytes);rw[o]at b;injection b with e1 e2;subst e1;simp only[Value.ownBlock,yG]at r;exact .inr (by omega)
theorem ft {P:Program}{w:World}{ops:Array Oper}{rest:List Oper}{o:Oper}{a:Act}{Q:Exit->Act->World->Prop}(hgd:o.guard=none)(s x:Operand)(t:TypeId)
  (ho:o.op=.call { callee:=.builtin .append,args:=#[s,x],argTypes:=#[t,t] })
  (base:Nat) (e:TypeId) (i:TypeInfo) (z:Value) (size bytes:Nat) (ht:P.underlying t=some (.slice e)) (hi:P.info? e=some i) (hz:i.zero=some z)
  (hsize:i.size=size) (hby:i.bytes=bytes) (hzs:z.cells.size=size) (hsz:0<size)
  (v:Value) (n:Nat) (xs:List Value) (hs:a.eval s=v) (hown:w.ownsRow base e size v n xs)
  (ad:Addr) (m c:Nat) (news:List Value) (hx:a.eval x=.slice (some ad) m c) (hl:news.length=m*size) (hnews:∀j u,news[j]?=some u->w.cell? (ad.add j)=some u) (h1:∀u∈news,u.oneCell'=true)
  (h63:n+m<=maxLen) (hbytes:(n+m)*bytes<=140737488355328) (hbase:base<=w.heap.size)
  (h:∀v' w',w'.ownsRow base e size v' (n+m) (xs++news)->w.grownBy w' v.ownBlock->(∀g,v'.ownBlock=some g->v.ownBlock=some g\/w.heap.size<=g)->wpList P ops Q rest (a.put o.dst v') w'):wpList P ops Q (o::rest) a w :=
 wpList_plain hgd λ_ l=>by
  obtain⟨v',w',f,k,b,d⟩:=gI (P:=P) w base t o.type e i z size bytes ht hi hz hsize hby hzs hsz v n xs hown ad m c news hl hnews h1 h63 hbytes hbase;unfold Oper.wp execOp;simp only[ho,resolve,invoke,builtin,Sem.run_bind,Sem.run_pure,Result.andThen_ok,List.map_toArray,zp,yU,hs,hx,f];exact l _ _ (h v' w' k b d)
theorem uW {ops:Array Oper}{o:Oper}{a:Act}{w:World}{K:Act->World->Prop}{Q:Exit->Act->World->Prop}{E:Prop}
  (hg:o.guard=none) (s x:Operand) (t:TypeId) (hop:o.op=Op.call { callee:=Callee.builtin Builtin.append,args:=#[s,x],argTypes:=#[t,t] })
  (base:Nat) (e:TypeId) (i:TypeInfo) (z:Value) (size bytes:Nat) (h1:prog.underlying t=some (.slice e)) (h2:prog.info? e=some i) (h3:i.zero=some z) (h4:i.size=size) (h5:i.bytes=bytes) (h6:z.cells.size=size) (h7:0<size)
  (v:Value) (n:Nat) (xs:LV) (hs:a.eval s=v) (hown:w.ownsRow base e size v n xs)
  (ad:Addr) (m c:Nat) (news:LV) (hx:a.eval x=.slice (some ad) m c) (hn:news.length=m*size) (hc:∀j u,news[j]?=some u->w.cell? (ad.add j)=some u) (h1c:∀u∈news,u.oneCell'=true)
  (b1:n+m<=maxLen) (b2:(n+m)*bytes<=140737488355328) (hbase:base<=w.heap.size)
  (hK:∀v' w',w'.ownsRow base e size v' (n+m) (xs++news)->w.grownBy w' v.ownBlock->(∀g,v'.ownBlock=some g->v.ownBlock=some g\/w.heap.size<=g)->K (a.put o.dst v') w') :
  if Region.wanted o (yielded ops a.tmps)=true then Oper.wp prog o a w K Q else E:=by
 have d:Region.wanted o (yielded ops a.tmps)=true:=by simp[Region.wanted,hg]
 rw[zX d];obtain⟨v',w',b,f,h,k⟩:=gI (P:=prog) w base t o.type e i z size bytes h1 h2 h3 h4 h5 h6 h7 v n xs hown ad m c news hn hc h1c b1 b2 hbase;unfold Oper.wp;simp[execOp,hop,resolve,invoke,builtin,hs,hx,b,Result.andThen];exact hK v' w' f h k
structure HIt where
 ta:Option Addr
 tc:Nat
 u:List Int
 x:Nat
 y:Nat
def bG:HIt:=⟨none,0,[],0,0⟩
abbrev tv (a:HIt):Value:=.slice a.ta a.u.length a.tc
abbrev hc (a:HIt):List Value:=[.slice a.ta a.u.length a.tc,Vp a.x,Vp a.y]
abbrev hV (a:HIt):Value:=.agg #[.slice a.ta a.u.length a.tc,Vp a.x,Vp a.y]
def jq:List HIt->List Value
 | []=>[]
 |a::l=>hc a++jq l
theorem um:∀l:List HIt,(jq l).length=l.length*3
 | []=>rfl
 |a::l=>by simp only[jq,zH,um l,zG,zh];omega
theorem ES (l:List HIt)(a:HIt):jq (l++[a])=jq l++hc a:=by
 induction l with
 |nil=>rfl
 |cons b l ih=>simp only[zV,jq,ih,zc]
theorem Jl:∀(l:List HIt) (i:Nat) (a:HIt) (rest:LV),l[i]?=some a->(jq l++rest)[i*3]?=some (tv a)/\(jq l++rest)[i*3+1]?=some (Vp a.x)/\(jq l++rest)[i*3+2]?=some (Vp a.y)
 |b::l,0,a,rest,h=>by simp at h;subst h;exact⟨rfl,rfl,rfl⟩
 |b::l,i+1,a,rest,h=>by
  obtain⟨e,d,c⟩:=Jl l i a rest (by simpa using h);refine⟨?_,?_,?_⟩
  ·rw[show (i+1)*3=i*3+3 by omega];exact e
  ·rw[show (i+1)*3+1=i*3+1+3 by omega];exact d
  ·rw[show (i+1)*3+2=i*3+2+3 by omega];exact c
theorem Bm:∀(l:List HIt) (i:Nat) (a:HIt) (rest:LV),i<l.length->(((jq l++rest).set (i*3) (tv a)).set (i*3+1) (Vp a.x)).set (i*3+2) (Vp a.y)=jq (l.set i a)++rest
 |b::l,0,a,rest,h=>rfl
 |b::l,i+1,a,rest,h=>by
  have c:=Bm l i a rest (by simpa using h);rw[show (i+1)*3=i*3+3 by omega,show i*3+3+1=i*3+1+3 by omega,show i*3+3+2=i*3+2+3 by omega];show hc b++_=hc b++_++_
  rw[zc,<-c];rfl
def eR (w:World)(B g c:Nat)(l:List HIt):Prop:=B<=g/\l.length<=c/\c<=maxLen/\∃rest,ag w g (jq l++rest) 107/\(jq l++rest).length=c*3
theorem eR.own {l:List HIt}(h:eR w B g c l):w.ownsRow B 107 3 (Vs g l.length c) l.length (jq l):=by
 obtain⟨i,e,b,a,f,d⟩:=h;refine⟨um l,.inr ⟨g,c,(jq l++a).toArray,rfl,i,f,e,b,by simpa using d,?_⟩⟩;rw[<-um l];simp
theorem RM {l:List HIt}(h:w.ownsRow B 107 3 (Vs g n c) n (jq l)):eR w B g c l/\n=l.length:=by
 obtain⟨p,b⟩:=h;have k:n=l.length:=by rw[um]at p;omega
 rcases b with⟨b,_⟩|⟨r,o,a,e,i,m,q,f,j,d⟩
 ·cases b
 ·cases e;refine⟨⟨i,by omega,f,a.toList.drop (n*3),?_,?_⟩,k⟩
  ·unfold ag;rw[<-d,zj];simpa using m
  ·rw[<-d,zj];simpa using j
theorem vg {v:Value}{xs:LV}(h:w.ownsRow B 107 3 v (n+1) xs):∃g c,v=Vs g (n+1) c/\B<=g:=by
 rcases h.2 with⟨_,e⟩|⟨g,a,b,rfl,d,f,r⟩
 ·omega
 ·exact⟨g,a,rfl,d⟩
theorem eR.cells {l:List HIt}(h:eR w B g c l){a:HIt}(hi:l[i]?=some a):w.cell? ⟨g,i*3,none⟩=some (tv a)/\w.cell? ⟨g,i*3+1,none⟩=some (Vp a.x)/\w.cell? ⟨g,i*3+2,none⟩=some (Vp a.y):=by
 obtain⟨o,n,k,b,d,m⟩:=h;obtain⟨f,j,e⟩:=Jl l i a b hi;exact⟨(d.cell _).trans f,(d.cell _).trans j,(d.cell _).trans e⟩
theorem eR.frozen {w:World}{B g c:Nat}{l:List HIt}(h:eR w B g c l)(k:Nat):w.frozen? (aD g k)=false:=by
 obtain⟨i,f,d,a,b,e⟩:=h;exact b.frozen k
theorem eR.lt {w:World}{B g c:Nat}{l:List HIt}(h:eR w B g c l):g<w.heap.size:=by
 obtain⟨i,f,d,a,b,e⟩:=h;exact b.lt
theorem eR.block {l:List HIt}(h:eR w B g c l)(k:w'.heap[g]?=w.heap[g]?):eR w' B g c l:=by
 obtain⟨i,e,b,a,f,d⟩:=h;exact⟨i,e,b,a,k.trans f,d⟩
theorem eR.drew {w:World}{B g c:Nat}{l:List HIt}(h:eR w B g c l):eR w.drew B g c l:=h
def wq (w:World)(g k:Nat)(a:HIt):World:=((w.setCell (aD g k) (tv a)).setCell ⟨g,k+1,none⟩ (Vp a.x)).setCell ⟨g,k+2,none⟩ (Vp a.y)
theorem eR.put {l:List HIt}(h:eR w B g c l)(a:HIt)(hi:i<l.length):eR (wq w g (i*3) a) B g c (l.set i a):=by
 obtain⟨m,j,e,b,k,f⟩:=h;have d:=((k.set (i*3) (tv a)).set (i*3+1) (Vp a.x)).set (i*3+2) (Vp a.y);rw[Bm l i a b hi]at d;refine⟨m,by simpa using j,e,b,d,?_⟩;rw[<-Bm l i a b hi];simpa using f
theorem ET (w:World)(g k:Nat)(a:HIt):Off g w (wq w g k a):=(((Off.refl g w).setCell k _).setCell (k+1) _).setCell (k+2) _
theorem wu {l:List HIt}(h:eR w B g c l)(hi:i<l.length)(hj:j<l.length):Calls prog 288 #[Vs g l.length c,Vi i,Vi j] w λe w'=>e=.returned (.tuple #[])/\eR w' B g c (qi bG l i j)/\Off g w w':=by
 obtain⟨a,r⟩:∃a,l[i]?=some a:=⟨_,zB hi⟩;obtain⟨b,f⟩:∃b,l[j]?=some b:=⟨_,zB hj⟩;obtain⟨F,J,G⟩:=h.cells r;obtain⟨K,I,E⟩:=h.cells f;have N:=λk=>h.frozen k;have H:=h.lt;have M:(0:Int)<=(i:Int):=zK _;have P:(i:Int)<(l.length:Int):=by omega
 have O:(0:Int)<=(j:Int):=zK _;have L:(j:Int)<(l.length:Int):=by omega
 have d:Hid (eR (wq (wq w g (i*3) b) g (j*3) a).drew B g c (qi bG l i j)/\Off g w (wq (wq w g (i*3) b) g (j*3) a).drew):=by
  refine⟨?_,((ET w g (i*3) b).trans (ET _ g (j*3) a)).drew⟩;have q:=(h.put b hi).put (i:=j) a (by simpa using hj);have e:qi bG l i j=(l.set i b).set j a:=by unfold qi gt;rw[r,f];rfl
  rw[e];exact q.drew
 unfold wq at d;obtain⟨t,A,u,x,y⟩:=a;obtain⟨p,o,C,z,v⟩:=b;simp only at F J G K I E d;have s:Hid (i=j->(⟨p,o,C,z,v⟩:HIt)=⟨t,A,u,x,y⟩):=λe=>by
  subst e;rw[r]at f;injection f with f;exact f.symm
 have m:i=j->(p,o,C,z,v)=(t,A,u,x,y):=λe=>by
  have:=s.out e;injection this with q h2 h3 h4 h5;rw[q,h2,h3,h4,h5]
 by_cases n:i=j
 ·have m:=m n;injection m with q h2;injection h2 with h2 h3;injection h3 with h3 h4;injection h4 with h4 h5;subst n q h2 h3 h4 h5;go_enter func288,ntmps288;go_wp2_with fail
  go_region
  all_goals go_wp2_with fail
  all_goals go_end0
  all_goals exact⟨rfl,d⟩
 ·clear m;have m:¬i*3=j*3:=by omega
  have D:¬j*3=i*3:=by omega
  go_enter func288,ntmps288;go_wp2_with fail
  go_region
  all_goals go_wp2_with fail
  all_goals go_end0
  all_goals exact⟨rfl,d⟩
theorem Cs (v:Value)(w:World):(Instr.typeAssert (.iface 107 v) 20 107 false).run prog w=.ok v w:=Gt v w
theorem EU (w:World)(a:HIt):∀j u,(hc a)[j]?=some u->(w.alloc (.cells #[.slice a.ta a.u.length a.tc,Vp a.x,Vp a.y] 107)).drew.cell? (((aD w.heap.size 0):Addr).add j)=some u:=by
 intro j u b
 match j,b with
 |0,b=>simp at b;subst b;simp[Addr.add]
 |1,b=>simp at b;subst b;simp[Addr.add]
 |2,b=>simp at b;subst b;simp[Addr.add]
theorem Ov (a:HIt):∀u∈hc a,u.oneCell'=true:=by
 intro u b;simp at b;rcases b with rfl|rfl|rfl<;>rfl
structure HeapV (w:World)(B bn g c:Nat)(l:List HIt):Prop where
 var:ag w bn [Vs g l.length c] 100
 row:eR w B g c l
theorem HeapV.ne {l:List HIt}(h:HeapV w B bn g c l):bn≠g:=λe=>by
 subst e;obtain⟨k,j,f,a,d,i⟩:=h.row;have b:=h.var.symm.trans d;simp at b
theorem Ow {l:List HIt}(h:HeapV w B bn g c l)(hB:B<=bn)(a:HIt)(hl:l.length<=1000000000000):Calls prog 287 #[Vp bn,.iface 107 (hV a)] w λe w'=>e=.returned (.tuple #[])/\∃g' c',HeapV w' B bn g' c' (l++[a])/\But (λk=>k=bn\/k=g) w w'/\(g'=g\/w.heap.size<=g'):=by
 obtain⟨H,G,A,x,z⟩:=zz Gs;have U:w.cell? (aD bn 0)=some (Vs g l.length c):=h.var.cell 0;have L:=h.var.lt;have N:=h.row.lt;have C:=h.ne;have J:=h.row.1;have s:Hid ((w.alloc (.cells #[.slice a.ta a.u.length a.tc,Vp a.x,Vp a.y] 107)).drew.ownsRow B 107 3 (Vs g l.length c) l.length (jq l)):=(h.row.own.alloc _);have I:=Cs (hV a);have t:Hid (∀(n:World) (g' q:Nat),n.ownsRow B 107 3 (Vs g' (l.length+1) q) (l.length+1) (jq l++hc a)->(w.alloc (.cells #[.slice a.ta a.u.length a.tc,Vp a.x,Vp a.y] 107)).grownBy n (some g)->(∀k,(Vs g' (l.length+1) q).ownBlock=some k->(Vs g l.length c).ownBlock=some k\/(w.alloc (.cells #[.slice a.ta a.u.length a.tc,Vp a.x,Vp a.y] 107)).drew.heap.size<=k) ->
   n.cell? (aD bn 0)=some (Vs g l.length c)/\n.frozen? (aD bn 0)=false/\bn<n.heap.size/\∃g'' c',HeapV (n.setCell (aD bn 0) (Vs g' (l.length+1) q)) B bn g'' c' (l++[a])/\But (λk=>k=bn\/k=g) w (n.setCell (aD bn 0) (Vs g' (l.length+1) q))/\(g''=g\/w.heap.size<=g'')):=λn g' q d b j=>by
  rw[<-ES]at d;obtain⟨y,K⟩:=RM d;have r:=(h.var.alloc (.cells #[.slice a.ta a.u.length a.tc,Vp a.x,Vp a.y] 107)).grown b (λe=>by injection e with e;exact C e);have D:But (λk=>k=bn\/k=g) w n:=(But.below ((zE w.heap.size w).alloc (zA _) (.cells #[.slice a.ta a.u.length a.tc,Vp a.x,Vp a.y] 107))).grown b (λk e=>by cases e;exact .inl (.inr rfl));have u:g'=g\/w.heap.size<=g':=by
   rcases j g' rfl with e|e
   ·injection e with e;exact .inl e.symm
   ·have O:(w.alloc (.cells #[.slice a.ta a.u.length a.tc,Vp a.x,Vp a.y] 107)).heap.size<=g':=e;simp at O;exact .inr (by omega)
  have E:g'≠bn:=by
   rcases u with e|e
   ·rw[e];exact λe=>C e.symm
   ·omega
  refine⟨r.cell 0,r.frozen 0,r.lt,g',q,⟨?_,y.block (zk _ _ _ _ E)⟩,D.setCell (p:=(aD bn 0)) (.inl (.inl rfl)) _,u⟩;rw[<-K];exact r.set 0 _
 go_enter func287,ntmps287;go_wp2_with fail;refine yW (S:=λ_:World=>True) (by kernel_rfl) trivial (λhHeld=>?_);refine tk 0 ?_ (hS:=trivial);simp only[tS];refine tk 1 ?_ (hS:=trivial);simp only[tS];refine tk 2 ?_ (hS:=trivial);simp only[tS];refine tk 4 ?_ (hS:=trivial);simp only[tS];refine tk 5 ?_ (hS:=trivial);simp only[tS];refine wpAnyH_ready (rs:=[3,6]) (by kernel_rfl) (by simp) ?_;refine yM (o:=_) rfl (λm f=>?_) ?_
 ·go_simp;refine f _ _ trivial (λhHeld=>?_)
  try simp only[tS]
  refine di 6 (λm f=>?_);go_simp;refine f _ _ trivial (λhHeld=>?_)
  try simp only[tS]
  refine di 7 (λm f=>?_);rw[zX (by rfl)];obtain⟨M,n,v,d,b,j⟩:=gI (P:=prog) _ B 100 100 107 H (.agg #[Vz,.pointer none,.pointer none]) 3 40 underlying100 G A x z rfl (by decide) _ _ _ s.out (aD w.heap.size 0) 1 1 (hc a) rfl (EU w a) (Ov a) (by unfold maxLen;omega) (by omega) (by simp;omega);obtain⟨g',q,rfl,F⟩:=vg d;have i:=aa (t n g' q d ⟨b.os,b.tape,b.output,b.size,b.block⟩ j);obtain⟨Q,T,R,_⟩:=i.out;unfold Oper.wp;simp[execOp,resolve,invoke,builtin,Act.eval,v,Result.andThen];refine f _ _ trivial (λhHeld=>?_)
  try simp only[tS]
  refine tk 8 ?_ (hS:=trivial);simp only[tS];refine di 9 (λm f=>?_);go_simp;refine f _ _ trivial (λhHeld=>?_)
  try simp only[tS]
  refine yV (by kernel_rfl) ?_ _;go_wp2_with fail
  go_end0
  exact⟨rfl,i.2.2.2⟩
 refine yM (o:=_) rfl (λm f=>?_) xJ;go_simp;refine f _ _ trivial (λhHeld=>?_)
 try simp only[tS]
 refine di 3 (λm f=>?_);go_simp;refine f _ _ trivial (λhHeld=>?_)
 try simp only[tS]
 refine di 7 (λm f=>?_);rw[zX (by rfl)];obtain⟨M,n,v,d,b,j⟩:=gI (P:=prog) _ B 100 100 107 H (.agg #[Vz,.pointer none,.pointer none]) 3 40 underlying100 G A x z rfl (by decide) _ _ _ s.out (aD w.heap.size 0) 1 1 (hc a) rfl (EU w a) (Ov a) (by unfold maxLen;omega) (by omega) (by simp;omega);obtain⟨g',q,rfl,F⟩:=vg d;have i:=aa (t n g' q d ⟨b.os,b.tape,b.output,b.size,b.block⟩ j);obtain⟨Q,T,R,_⟩:=i.out;unfold Oper.wp;simp[execOp,resolve,invoke,builtin,Act.eval,v,Result.andThen];refine f _ _ trivial (λhHeld=>?_)
 try simp only[tS]
 refine tk 8 ?_ (hS:=trivial);simp only[tS];refine di 9 (λm f=>?_);go_simp;refine f _ _ trivial (λhHeld=>?_)
 try simp only[tS]
 refine yV (by kernel_rfl) ?_ _;go_wp2_with fail
 go_end0
 exact⟨rfl,i.2.2.2⟩
theorem RN {l:List HIt}{a:HIt}(h:HeapV w B bn g c (l++[a]))(hl:l.length<=1000000000000):Calls prog 286 #[Vp bn] w λe w'=>e=.returned (.iface 107 (hV a))/\HeapV w' B bn g c l/\But (λk=>k=bn) w w':=by
 have b:(l++[a]).length=l.length+1:=by simp
 have I:w.cell? (aD bn 0)=some (Vs g (l.length+1) c):=by have:=h.var.cell 0;rw[b]at this;exact this
 obtain⟨F,D,H⟩:=h.row.cells (i:=l.length) (a:=a) (by simp);have n:=h.row.lt;have t:=h.var.lt;have y:=h.var.frozen 0;have m:=h.row.2.1;rw[b]at m;have A:((l.length:Int)+1)<=(c:Int):=by omega
 have C:(0:Int)<=(c:Int):=by omega
 have v:(l.length:Int)<=(c:Int):=by omega
 have E:(0:Int)<=(l.length:Int):=zK _;have q:=h.ne;have d:Hid (∀o:Obj,HeapV ((w.setCell (aD bn 0) (Vs g l.length c)).alloc o) B bn g c l):=λo=>by
  have f:eR w B g c l:=by
   obtain⟨z,G,u,j,r,s⟩:=h.row;rw[ES,zc]at r s;exact⟨z,by omega,u,hc a++j,r,s⟩
  refine⟨(h.var.set 0 (Vs g l.length c)).alloc _,f.block ?_⟩;exact (zS _ _ _ (by simpa [World.setCell]using n)).trans (zk _ _ _ _ (λe=>q e.symm))
 go_enter func286,ntmps286;go_wp2_with fail;go_ret;refine⟨rfl,d _,?_⟩;have x:=(But.refl (λk=>k=bn) w).setCell (p:=(aD bn 0)) (.inl rfl) (Vs g l.length c);exact x.trans (But.below ((zE _ _).alloc (zA _) _))
theorem Cc (b:Nat)(w:World)(v:Value)(h:w.cell? ⟨b,0,none⟩=some v):(method 422 98 (.pointer (some ⟨b,0,none⟩)) "Less").run prog w=.ok (285,v) w:=by
 have hk:(prog.info? 98).map (λi=>(i.methods.find? (·.name== "Less")).map λm=>(m.path.isEmpty,m.func))=some (some (true,some (285,false))):=by kernel_rfl
 cases hi:prog.info? 98 with
 |none=>rw[hi]at hk;cases hk
 |some i=>
  rw[hi]at hk;simp only[yw,yG]at hk;cases hf:i.methods.find? (·.name== "Less")with
  |none=>rw[hf]at hk;cases hk
  |some m=>
   rw[hf]at hk;simp only[yw,yG,Prod.mk.injEq]at hk;obtain⟨hp,hm⟩:=hk;have hp2:m.path=#[]:=Array.isEmpty_iff.1 hp;unfold method;simp[typeInfo,hi,hf,hm,hp2,follow,receiverAt,yp underlying98,Place.get,tN,asAddr,loadVar,go_sem,h,isAgg100,Result.andThen]
abbrev fi (a b:HIt):Bool:=bY a.u b.u
theorem ie:Ord fi:=eC.on HIt.u
def eu (w:World)(g bn:Nat)(a:HIt):Prop:=iy w (tv a) a.u/\a.u.length<=1000/\∀o,a.ta=some o->o.block<w.heap.size/\o.block≠g/\o.block≠bn
theorem iy.keep {tv:Value}{u:LZ}(h:iy w tv u)(hs:w.heap.size<=w'.heap.size)(hb:∀a n c,tv=.slice (some a) n c->w'.heap[a.block]?=w.heap[a.block]?):iy w' tv u:=by
 obtain⟨a,c,rfl,f⟩:=h;refine⟨a,c,rfl,λj r e=>?_⟩;obtain⟨b,d,rfl,i,g⟩:=f j r e;exact⟨b,d,rfl,by omega,(zP (w:=w) (w':=w') (a:=⟨b,d+j,none⟩) (hb (aD b d) _ _ rfl)).trans g⟩
theorem eu.but {a:HIt}(h:eu w g bn a)(hb:But (λk=>k=bn\/k=g) w w'):eu w' g bn a:=by
 obtain⟨m,f,b⟩:=h;refine⟨m.keep hb.size (λo n c e=>?_),f,λo d=>⟨by have:=(b o d).1;have:=hb.size;omega,(b o d).2⟩⟩;injection e with e1 e2 e3;obtain⟨l,j,i⟩:=b o e1;exact hb.block _ l (λe=>by rcases e with e|e;exact i e;exact j e)
theorem HeapV.below {w w':World}{B bn g c:Nat}{l:List HIt}(h:HeapV w B bn g c l)(k:Bw w w'):HeapV w' B bn g c l:=⟨h.var.below k,h.row.block (k.block _ h.row.lt)⟩
theorem But.of_off (h:Off g w w'):But (λk=>k=g) w w':=⟨h.os,h.tape,h.output,h.size,λk b a=>h.block k b a⟩
theorem ug {l l':List HIt}(h:l'.Perm l){k:Nat}(hk:k<l.length):gt bG l' k∈l:=by
 have a:k<l'.length:=by rw[h.length_eq];exact hk
 exact h.mem_iff.1 (zU (nc (d:=bG) a))
theorem YU (h:0<j):((j:Int)-1).tdiv 2=(((j-1) / 2:Nat):Int):=by
 obtain⟨k,rfl⟩:∃k,j=k+1:=⟨j-1,by omega⟩;have e:(((k+1:Nat):Int)-1)=(k:Int):=by omega
 rw[e,Nat.add_sub_cancel];rfl
def WZ (w:World)(B bn g c:Nat)(l:List HIt)(k:Nat)(iv:Value)(wr:World):Prop:=∃(j:Nat) (l':List HIt),iv=Vi (j:Int)/\j<=k/\HeapV wr B bn g c l'/\l'.Perm l/\CM fi (gt bG l') l.length j/\But (λk=>k=g) w wr
theorem UQ {l:List HIt}(h:HeapV w B bn g c l)(ht:∀a∈l,eu w g bn a)(hu:CM fi (gt bG l) l.length j)(hl:l.length<=1000000000000):Calls prog 69 #[.iface 98 (Vp bn),Vi j] w λe w'=>e=.returned (.tuple #[])/\∃l',HeapV w' B bn g c l'/\l'.Perm l/\iH fi (gt bG l') l.length/\But (λk=>k=g) w w':=by
 have G:Hid (WZ w B bn g c l j (Vi j) w):=⟨j,l,rfl,zA _,h,List.Perm.refl _,hu,But.refl _ _⟩;have y:Hid (∀(wr:World) (l':List HIt) (i j:Nat),HeapV wr B bn g c l'->l'.Perm l->But (λk=>k=g) w wr->i<l.length->j<l.length->Calls prog 285 #[Vs g l.length c,Vi i,Vi j] wr λe w'=>e=.returned (.bool (fi (gt bG l' i) (gt bG l' j)))/\HeapV w' B bn g c l'/\But (λk=>k=g) w w'/\w'.cell? (aD bn 0)=some (Vs g l.length c)):=λwr l' i j m n f M D=>by
  have b:=n.length_eq;obtain⟨U,_⟩:=m.row.cells (i:=i) (nc (d:=bG) (by omega));obtain⟨Y,_⟩:=m.row.cells (i:=j) (nc (d:=bG) (by omega));have P:=(ht _ (ug n M)).but (f.mono λ_ _ h=>.inr h);have R:=(ht _ (ug n D)).but (f.mono λ_ _ h=>.inr h);refine (Es g l.length c i j M D U Y P.1 R.1 (by have:=P.2.1;omega)).mono ?_;rintro e w' ⟨rfl,s⟩;have v:=m.below s;have u:=v.var.cell 0;rw[b]at u;exact⟨rfl,v,f.trans (But.below s),u⟩
 have x:Hid (∀(wr:World) (l':List HIt) (j:Nat),HeapV wr B bn g c l'->l'.Perm l->But (λk=>k=g) w wr->CM fi (gt bG l') l.length j->0<j->fi (gt bG l' j) (gt bG l' ((j-1) / 2))=true->Calls prog 288 #[Vs g l.length c,Vi ((j-1) / 2:Nat),Vi j] wr λe w'=>e=.returned (.tuple #[])/\WZ w B bn g c l ((j-1) / 2) (Vi ((j-1) / 2:Nat)) w'):=λwr l' j m n f hu D o=>by
  have b:=n.length_eq;have z:=hu.1;have u:=wu m.row (i:=(j-1) / 2) (j:=j) (by omega) (by omega);rw[b]at u;refine u.mono ?_;rintro e w' ⟨rfl,A,t⟩;refine⟨rfl,(j-1) / 2,_,rfl,zA _,⟨?_,A⟩,(wP bG l' (by omega) (by omega)).trans n,?_,f.trans (But.of_off t)⟩
  ·rw[BF];exact m.var.off t m.ne
  ·rw[Au bG l' (by omega) (by omega)];exact Wq ie hu D o
 have J:=Cc bn;have K:=tO bn;go_enter func69,ntmps69;go_wp2_with fail
 go_loopg [1] j (λk iv wr=>WZ w B bn g c l k iv wr)
 case atStart=>exact G
 case round=>
  obtain⟨j,l',rfl,W,m,n,hu,f⟩:=hrel;have b:=n.length_eq;have z:=hu.1;by_cases V:j=0
  ·subst V;have q:Hid (∃l',HeapV wr B bn g c l'/\l'.Perm l/\iH fi (gt bG l') l.length/\But (λk=>k=g) w wr):=⟨l',m,n,JU hu (.inl rfl),f⟩;go_wp2
   go_end0
   exact⟨rfl,q⟩
  ·have hq:=YU (j:=j) (by omega);have E:¬((((j-1) / 2:Nat):Int)=(j:Int)):=by omega
   have N:((((j-1) / 2:Nat):Int)==(j:Int))=false:=zD.2 E;have Z:wr.cell? (aD bn 0)=some (Vs g l.length c):=by have:=m.var.cell 0;rw[b]at this;exact this
   have S:=J wr _ Z;have r:=aa (y wr l' j ((j-1) / 2) m n f z (by omega));have L:=aa n;have Q:=aa hu;cases o:fi (gt bG l' j) (gt bG l' ((j-1) / 2))with
   |false=>
    have q:Hid (∀w',HeapV w' B bn g c l'->But (λk=>k=g) w w'->∃l',HeapV w' B bn g c l'/\l'.Perm l/\iH fi (gt bG l') l.length/\But (λk=>k=g) w w'):=λw' I F=>⟨l',I,L,JU Q (.inr o),F⟩;rw[o]at r;generalize hpe:(j-1) / 2=p at *;go_wp2_with fail;refine r.mono ?_;rintro e w' ⟨rfl,v,f,u⟩;have T:=aa (q w' v f);go_wp2_with fail
    go_end0
    exact⟨rfl,T⟩
   |true=>
    rw[o]at r;have H:=aa (λw' I F=>x w' l' j I L F Q (by omega) o);generalize hpe:(j-1) / 2=p at *;go_wp2_with fail;refine r.mono ?_;rintro e w' ⟨rfl,v,f,u⟩;have X:=K w' _ u;have C:=aa (H w' v f);go_wp2_with fail;refine C.mono ?_;rintro e w2 ⟨rfl,O⟩;have HS:=aa O;go_wp2_with fail
    go_roundg p
    all_goals first|omega|exact HS
def Xn (w:World)(B bn g c:Nat)(l:List HIt)(n k:Nat)(iv:Value)(wr:World):Prop:=∃(i:Nat) (l':List HIt),iv=Vi (i:Int)/\n-i<=k/\i<=n/\HeapV wr B bn g c l'/\l'.Perm l/\rm fi (gt bG l') n i/\gt bG l' n=gt bG l n/\But (λk=>k=g) w wr
def Od (w:World)(B bn g c:Nat)(l:List HIt)(n:Nat)(w':World):Prop:=∃l',HeapV w' B bn g c l'/\l'.Perm l/\iH fi (gt bG l') n/\gt bG l' n=gt bG l n/\But (λk=>k=g) w w'
theorem Oe {l:List HIt}(h:HeapV w B bn g c l)(ht:∀a∈l,eu w g bn a)(hn:l.length=n+1)(hu:rm fi (gt bG l) n 0)(hl:n<=1000000000000):Calls prog 75 #[.iface 98 (Vp bn),Vi 0,Vi n] w λe w'=>(∃v,e=.returned v)/\Od w B bn g c l n w':=by
 have a4:Hid (Xn w B bn g c l n n (Vi 0) w):=⟨0,l,rfl,by omega,by omega,h,List.Perm.refl _,hu,rfl,But.refl _ _⟩;have u:Hid (∀(wr:World) (b:List HIt) (i j:Nat),HeapV wr B bn g c b->b.Perm l->But (λk=>k=g) w wr->i<l.length->j<l.length->Calls prog 285 #[Vs g (n+1) c,Vi i,Vi j] wr λe w'=>e=.returned (.bool (fi (gt bG b i) (gt bG b j)))/\HeapV w' B bn g c b/\But (λk=>k=g) w w'/\w'.cell? (aD bn 0)=some (Vs g (n+1) c)):=λwr b i j D E f hi hj=>by
  have x:=E.length_eq;obtain⟨a0,_⟩:=D.row.cells (i:=i) (nc (d:=bG) (by omega));obtain⟨b0,_⟩:=D.row.cells (i:=j) (nc (d:=bG) (by omega));have t1:=(ht _ (ug E hi)).but (f.mono λ_ _ h=>.inr h);have t2:=(ht _ (ug E hj)).but (f.mono λ_ _ h=>.inr h);refine (Es g (n+1) c i j (by omega) (by omega) a0 b0 t1.1 t2.1 (by have:=t1.2.1;omega)).mono ?_;rintro e w' ⟨rfl,U⟩;have o:=D.below U;have K:=o.var.cell 0;rw[x,hn]at K;exact⟨rfl,o,f.trans (But.below U),K⟩
 have G:Hid (∀(wr:World) (b:List HIt) (i j:Nat),HeapV wr B bn g c b->b.Perm l->But (λk=>k=g) w wr->rm fi (gt bG b) n i->gt bG b n=gt bG l n->0<j->j<n->(j-1) / 2=i->(∀k,0<k->k<n->(k-1) / 2=i->fi (gt bG b k) (gt bG b j)=false)->fi (gt bG b j) (gt bG b i)=true->Calls prog 288 #[Vs g (n+1) c,Vi i,Vi j] wr λe w'=>e=.returned (.tuple #[])/\Xn w B bn g c l n (n-j) (Vi j) w'):=λwr b i j D E f S z hj a3 a2 hm m=>by
  have x:=E.length_eq;have K:=wu D.row (i:=i) (j:=j) (by omega) (by omega);rw[x,hn]at K;refine K.mono ?_;rintro e w' ⟨rfl,a1,R⟩;refine⟨rfl,j,_,rfl,zA _,by omega,⟨?_,a1⟩,(wP bG b (by omega) (by omega)).trans E,?_,?_,f.trans (But.of_off R)⟩
  ·rw[BF];exact D.var.off R D.ne
  ·rw[Au bG b (by omega) (by omega)];exact PH ie S hj a3 a2 hm m
  ·rw[Au bG b (by omega) (by omega),<-z];unfold sw;rw[zR (by omega),zR (by omega)]
 have N:=Cc bn;have V:=tO bn;go_enter func75,ntmps75;go_wp2_with fail
 go_loopg [7] n (λk iv wr=>Xn w B bn g c l n k iv wr)
 case atStart=>exact a4
 case round=>
  obtain⟨i,b,rfl,a9,b1,D,E,S,z,f⟩:=hrel;have x:=E.length_eq;have O:=aa E;have W:=aa S;have q:=aa z;have q0:(0:Int)<=(i:Int):=zK _;have q1:(i:Int)<=1000000000000:=by omega
  obtain⟨r,a8⟩:∃r,2*i+1=r:=⟨_,rfl⟩;have e1:2*(i:Int)+1=(r:Int):=by omega
  have q2:(0:Int)<=(r:Int):=zK _;have q3:(r:Int)<=2000000000001:=by omega
  have d2:decide ((r:Int)<0)=false:=zI (by omega);by_cases H:n<=r
  ·have d1:decide ((n:Int)<=(r:Int))=true:=zv (by omega);have s:Hid (Od w B bn g c l n wr):=⟨b,D,E,oV S (λk P Q M=>by omega),z,f⟩;go_wp2_with fail;go_ret;exact⟨⟨_,rfl⟩,s⟩
  ·have d1:decide ((n:Int)<=(r:Int))=false:=zI (by omega);obtain⟨F,a6⟩:∃F,r+1=F:=⟨_,rfl⟩;have e2:(r:Int)+1=(F:Int):=by omega
   have c0:wr.cell? (aD bn 0)=some (Vs g (n+1) c):=by have:=D.var.cell 0;rw[x,hn]at this;exact this
   by_cases I:F<n
   ·have d3:decide ((F:Int)<(n:Int))=true:=zv (by omega);have L:=aa (u wr b F r D E f (by omega) (by omega));have a7:=N wr _ c0;cases hc21:fi (gt bG b F) (gt bG b r)with
    |true=>
     rw[hc21]at L;have y:∀k,0<k->k<n->(k-1) / 2=i->fi (gt bG b k) (gt bG b F)=false:=λk P Q M=>by
      have:k=r\/k=F:=by omega
      rcases this with rfl|rfl
      ·exact ie.as _ _ hc21
      ·exact ie.irr _
     go_wp2_with fail;refine L.mono ?_;rintro e w' ⟨rfl,o,f,K⟩;have p:=aa (u w' b F i o O f (by omega) (by omega));have Z:=N w' _ K;cases m:fi (gt bG b F) (gt bG b i)with
     |false=>
      have s:Hid (∀w',HeapV w' B bn g c b->But (λk=>k=g) w w'->Od w B bn g c l n w'):=λw' H I=>⟨b,H,O,oV W (λk P Q M=>ie.tr _ _ _ m (y k P Q M)),q,I⟩;rw[m]at p;go_wp2_with fail;refine p.mono ?_;rintro e t ⟨rfl,o,f,A⟩;have HF:=aa (s t o f);go_wp2_with fail;go_ret;exact⟨⟨_,rfl⟩,HF⟩
     |true=>
      rw[m]at p;have J:=aa (λt H I=>G t b i F H O I W q (by omega) (by omega) (by omega) y m);go_wp2_with fail;refine p.mono ?_;rintro e t ⟨rfl,o,f,A⟩;have X:=V t _ A;have C:=aa (J t o f);go_wp2_with fail;refine C.mono ?_;rintro e w3 ⟨rfl,T⟩;have Y:=aa T;go_wp2_with fail
      go_roundg (n-F)
      all_goals first|omega|exact Y
    |false=>
     rw[hc21]at L;have y:∀k,0<k->k<n->(k-1) / 2=i->fi (gt bG b k) (gt bG b r)=false:=λk P Q M=>by
      have:k=r\/k=F:=by omega
      rcases this with rfl|rfl
      ·exact ie.irr _
      ·exact hc21
     go_wp2_with fail;refine L.mono ?_;rintro e w' ⟨rfl,o,f,K⟩;have p:=aa (u w' b r i o O f (by omega) (by omega));have Z:=N w' _ K;cases m:fi (gt bG b r) (gt bG b i)with
     |false=>
      have s:Hid (∀w',HeapV w' B bn g c b->But (λk=>k=g) w w'->Od w B bn g c l n w'):=λw' H I=>⟨b,H,O,oV W (λk P Q M=>ie.tr _ _ _ m (y k P Q M)),q,I⟩;rw[m]at p;go_wp2_with fail;refine p.mono ?_;rintro e t ⟨rfl,o,f,A⟩;have HF:=aa (s t o f);go_wp2_with fail;go_ret;exact⟨⟨_,rfl⟩,HF⟩
     |true=>
      rw[m]at p;have J:=aa (λt H I=>G t b i r H O I W q (by omega) (by omega) (by omega) y m);go_wp2_with fail;refine p.mono ?_;rintro e t ⟨rfl,o,f,A⟩;have X:=V t _ A;have C:=aa (J t o f);go_wp2_with fail;refine C.mono ?_;rintro e w3 ⟨rfl,T⟩;have Y:=aa T;go_wp2_with fail
      go_roundg (n-r)
      all_goals first|omega|exact Y
   ·have d3:decide ((F:Int)<(n:Int))=false:=zI (by omega);have y:∀k,0<k->k<n->(k-1) / 2=i->fi (gt bG b k) (gt bG b r)=false:=λk P Q M=>by
     have:k=r:=by omega
     rw[this];exact ie.irr _
    have o:=D;have K:=c0;obtain⟨w',a5⟩:∃w',w'=wr:=⟨_,rfl⟩;subst a5;have p:=aa (u w' b r i o O f (by omega) (by omega));have Z:=N w' _ K;cases m:fi (gt bG b r) (gt bG b i)with
    |false=>
     have s:Hid (∀w',HeapV w' B bn g c b->But (λk=>k=g) w w'->Od w B bn g c l n w'):=λw' H I=>⟨b,H,O,oV W (λk P Q M=>ie.tr _ _ _ m (y k P Q M)),q,I⟩;rw[m]at p;go_wp2_with fail;refine p.mono ?_;rintro e t ⟨rfl,o,f,A⟩;have HF:=aa (s t o f);go_wp2_with fail;go_ret;exact⟨⟨_,rfl⟩,HF⟩
    |true=>
     rw[m]at p;have J:=aa (λt H I=>G t b i r H O I W q (by omega) (by omega) (by omega) y m);go_wp2_with fail;refine p.mono ?_;rintro e t ⟨rfl,o,f,A⟩;have X:=V t _ A;have C:=aa (J t o f);go_wp2_with fail;refine C.mono ?_;rintro e w3 ⟨rfl,T⟩;have Y:=aa T;go_wp2_with fail
     go_roundg (n-r)
     all_goals first|omega|exact Y
structure Wait (w:World)(B bn:Nat)(l:List HIt)(g c:Nat):Prop where
 heap:HeapV w B bn g c l
 txt:∀a∈l,eu w g bn a
 ord:iH fi (gt bG l) l.length
theorem Jc {l:List HIt}{a:HIt}{k:Nat}(h:k<l.length):gt bG (l++[a]) k=gt bG l k:=by
 unfold gt;rw[yY h]
theorem eu.moved {g':Nat}{a:HIt}(h:eu w g bn a)(hb:But (λk=>k=bn\/k=g) w w')(hg:g'=g\/w.heap.size<=g'):eu w' g' bn a:=by
 obtain⟨d,f,c⟩:=h.but hb;refine⟨d,f,λo b=>⟨(c o b).1,?_,(c o b).2.2⟩⟩;have t:=(h.2.2 o b);rcases hg with e|e
 ·rw[e];exact t.2.1
 ·omega
theorem NI {l:List HIt}(h:Wait w B bn l g c)(hB:B<=bn){a:HIt}(ha:eu w g bn a)(hl:l.length<=100000000000):Calls prog 43 #[.iface 98 (Vp bn),.iface 107 (hV a)] w λe w'=>e=.returned (.tuple #[])/\∃l' g' c',Wait w' B bn l' g' c'/\l'.Perm (a::l)/\But (λk=>k=bn\/k=g) w w'/\(g'=g\/w.heap.size<=g'):=by
 have G:=aa (Ow h.heap hB a (by omega));have C:=Qb bn;have n:=Gi bn;have t:Hid (∀(i:World) (g' c':Nat),HeapV i B bn g' c' (l++[a])->But (λk=>k=bn\/k=g) w i->(g'=g\/w.heap.size<=g')->Calls prog 69 #[.iface 98 (Vp bn),Vi l.length] i λe w'=>e=.returned (.tuple #[])/\∃l' g' c',Wait w' B bn l' g' c'/\l'.Perm (a::l)/\But (λk=>k=bn\/k=g) w w'/\(g'=g\/w.heap.size<=g')):=λi g' c' q b j=>by
  have p:∀x∈l++[a],eu i g' bn x:=λx f=>by
   rcases zM.1 f with f|f
   ·exact (h.txt x f).moved b j
   ·simp at f;subst f;exact ha.moved b j
  have d:(l++[a]).length=l.length+1:=by simp
  have s:CM fi (gt bG (l++[a])) (l++[a]).length l.length:=by
   rw[d];exact To (Av h.ord λk r=>(Jc r).symm)
  refine (UQ q p s (by omega)).mono ?_;rintro e w' ⟨rfl,l',I,v,A,m⟩;have y:But (λk=>k=bn\/k=g') i w':=m.mono λ_ _ e=>.inr e;refine⟨rfl,l',g',c',⟨I,λx f=>(p x (v.mem_iff.1 f)).but y,by rw[v.length_eq];exact A⟩,v.trans (List.perm_append_singleton a l),?_,j⟩;refine⟨m.os.trans b.os,m.tape.trans b.tape,m.output.trans b.output,zJ b.size m.size,λk r o=>(m.block k (zF r b.size) (λe=>?_)).trans (b.block k r o)⟩;subst e;rcases j with e|e
  ·exact o (.inr e)
  ·omega
 go_enter func43,ntmps43;go_wp2_with fail;refine G.mono ?_;rintro e i ⟨rfl,g',c',q,b,j⟩;have d:(l++[a]).length=l.length+1:=by simp
 have D:i.cell? (aD bn 0)=some (Vs g' (l.length+1) c'):=by have:=q.var.cell 0;rw[d]at this;exact this
 have H:=n i _ D;have E:=aa (t i g' c' q b j);have J:((l.length+1:Nat):Int)-1=(l.length:Int):=by omega
 have K:(l.length:Int)+1-1=(l.length:Int):=by omega
 go_wp2_with (go_at_call 45;refine (uN _ _ _ _).mono ?_;rintro e w' ⟨rfl,z⟩;have u:=z.symm;subst u);refine E.mono ?_;rintro e L ⟨rfl,f⟩;have F:=aa f;go_wp2_with fail
 go_end0
 exact⟨rfl,F⟩
theorem QY {l:List HIt}(h:Wait w B bn l g c)(h0:l≠[])(hl:l.length<=100000000000):Calls prog 46 #[.iface 98 (Vp bn)] w λe w'=>∃a l',e=.returned (.iface 107 (hV a))/\Wait w' B bn l' g c/\l.Perm (a::l')/\(∀x∈l,fi x a=false)/\But (λk=>k=bn\/k=g) w w':=by
 obtain⟨n,F⟩:∃n,l.length=n+1:=⟨l.length-1,by have:l.length≠0:=λe=>h0 (zq.1 e);omega⟩;have S:w.cell? (aD bn 0)=some (Vs g (n+1) c):=by have:=h.heap.var.cell 0;rw[F]at this;exact this
 have W:=Gi bn w _ S;have V:=tO bn w _ S;have a0:=TH bn;have A:=aa (wu h.heap.row (i:=0) (j:=n) (by omega) (by omega));rw[F]at A;have K:Hid (∀o,eR o B g c (qi bG l 0 n)->Off g w o->Calls prog 75 #[.iface 98 (Vp bn),Vi 0,Vi n] o λe w'=>(∃v,e=.returned v)/\∃b,HeapV w' B bn g c (b++[gt bG l 0])/\l.Perm (gt bG l 0::b)/\iH fi (gt bG b) b.length/\But (λk=>k=g) w w'):=λo f d=>by
  have p:=BF bG l 0 n;have s:HeapV o B bn g c (qi bG l 0 n):=⟨by rw[p];exact h.heap.var.off d h.heap.ne,f⟩;have m:=wP bG l (i:=0) (j:=n) (by omega) (by omega);have y:=Au bG l (i:=0) (j:=n) (by omega) (by omega);have E:=But.of_off d;have R:∀x∈qi bG l 0 n,eu o g bn x:=λx q=>(h.txt x (m.mem_iff.1 q)).but (E.mono λ_ _ e=>.inr e);refine (Oe (n:=n) s R (by omega) (by rw[y];have:=h.ord;rw[F]at this;exact Mu this) (by omega)).mono ?_;rintro e w' ⟨he,l',Q,I,U,Z,h5⟩;have L:l'.length=n+1:=by rw[I.length_eq,p,F]
  have r:gt bG l' n=gt bG l 0:=by
   rw[Z,y];unfold sw;rw[zX rfl]
  obtain⟨b,P⟩:∃b,l'=b++[gt bG l 0]:=by
   refine⟨l'.take n,?_⟩;have H:=dU (l:=l') (i:=n) (x:=gt bG l 0) (by rw[<-r];exact nc (by omega));rw[yF (by omega)]at H;exact H
  subst P;have C:b.length=n:=by simp at L;omega
  refine⟨he,b,Q,((I.trans m).symm).trans (List.perm_append_singleton _ b),?_,E.trans h5⟩;rw[C];exact Av U λk N=>Jc (by omega)
 have D:Hid (∀t b,HeapV t B bn g c (b++[gt bG l 0])->l.Perm (gt bG l 0::b)->iH fi (gt bG b) b.length->But (λk=>k=g) w t->Calls prog 286 #[Vp bn] t λe w'=>∃a l',e=.returned (.iface 107 (hV a))/\Wait w' B bn l' g c/\l.Perm (a::l')/\(∀x∈l,fi x a=false)/\But (λk=>k=bn\/k=g) w w'):=λt b s u J G=>by
  have C:b.length=n:=by have:=u.length_eq;simp at this;omega
  refine (RN s (by omega)).mono ?_;rintro e w' ⟨rfl,Q,I⟩;have z:But (λk=>k=bn\/k=g) w w':=(G.mono λ_ _ e=>.inr e).trans (I.mono λ_ _ e=>.inl e);refine⟨gt bG l 0,b,rfl,⟨Q,λx q=>(h.txt x (u.mem_iff.2 (by simp[q]))).but z,J⟩,u,λx q=>?_,z⟩;obtain⟨k,N,rfl⟩:=List.mem_iff_getElem.1 q;have:=Tn ie h.ord k N;have H:gt bG l k=l[k]:=by unfold gt;rw[zB N];rfl
  rw[H]at this;exact this
 have e9:((n+1:Nat):Int)-1=(n:Int):=by omega
 have e8:(n:Int)+1-1=(n:Int):=by omega
 go_enter func46,ntmps46;go_wp2_with (go_at_call 45;refine (uN _ _ _ _).mono ?_;rintro e w' ⟨rfl,T⟩;have O:=T.symm;subst O);refine A.mono ?_;rintro e o ⟨rfl,f,d⟩;have X:=aa (K o f d);go_wp2_with fail;refine X.mono ?_;rintro e t ⟨⟨v,rfl⟩,b,s,u,J,G⟩;have M:=aa (D t b s u J G);go_wp2_with fail;refine M.mono ?_;rintro e w3 ⟨a,l',rfl,q⟩;have Y:=aa q;go_wp2_with fail;go_ret;exact⟨a,l',rfl,Y⟩
