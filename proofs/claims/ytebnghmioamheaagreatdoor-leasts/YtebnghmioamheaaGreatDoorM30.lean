import Derived.Laws.EntriesVeiled
import Derived.Test.YtebnghmioamheaaGreatDoorM29
import Derived.Test.YtebnghmioamheaaGreatDoorM10
set_option maxHeartbeats 1000000
set_option maxRecDepth 100000
set_option linter.all false
namespace Go.Proofs.YtebnghmioamheaaGreatDoor
open Go.Shelf Go.RowKit Go.Lib Tryz
variable {S:NP}{a w w':World}{B b c i g n j bn:Nat}
structure But (S:Nat->Prop)(w w':World):Prop where
 os:w'.os=w.os
 tape:w'.tape=w.tape
 output:w'.output=w.output
 size:w.heap.size<=w'.heap.size
 block:∀k,k<w.heap.size->¬S k->w'.heap[k]?=w.heap[k]?
theorem But.refl (S:NP)(w:World):But S w w:=⟨rfl,rfl,rfl,zA _,λ_ _ _=>rfl⟩
theorem But.trans {S:NP}{a b c:World}(h:But S a b)(k:But S b c):But S a c :=
 ⟨k.os.trans h.os,k.tape.trans h.tape,k.output.trans h.output,zJ h.size k.size,λi d e=>(k.block i (zF d h.size) e).trans (h.block i d e)⟩
theorem But.mono {T:NP}{b:World}(h:But S a b)(k:∀i,i<a.heap.size->S i->T i):But T a b:=⟨h.os,h.tape,h.output,h.size,λi c d=>h.block i c (λe=>d (k i c e))⟩
theorem But.below (h:Bw w w'):But S w w':=⟨h.os,h.tape,h.output,h.size,λk a _=>h.block k a⟩
theorem But.toBelow (h:But S w w')(hS:∀k,S k->B<=k)(hB:B<=w.heap.size):Below B w w':=⟨h.os,h.tape,h.output,h.size,λk b=>h.block k (by omega) (λa=>by have:=hS k a;omega)⟩
theorem But.setCell {S:NP}{a w:World}(h:But S a w){p:Addr}(hp:S p.block\/a.heap.size<=p.block)(u:Value):But S a (w.setCell p u) :=
 ⟨h.os,h.tape,h.output,by have:=h.size;simpa [World.setCell]using this,λk c b=>(zk _ _ _ _ (λe=>by subst e;rcases hp with hp|hp;exact b hp;omega)).trans (h.block k c b)⟩
theorem But.turned (h:But S a w)(ht:w.mapTurned w' b)(hp:S b):But S a w':=by
 have c:=ht.grown;exact h.trans ⟨c.os,c.tape,c.output,c.size,λk d f=>c.block k d (λe=>by injection e with e;subst e;exact f hp)⟩
theorem ag.but {cs:LV}{T:TypeId}(h:ag w b cs T)(k:But S w w')(hn:¬S b):ag w' b cs T:=(k.block b h.lt hn).trans h
theorem But.cell {S:NP}{w w':World}(h:But S w w'){p:Addr}(hp:p.block<w.heap.size)(hn:¬S p.block):w'.cell? p=w.cell? p:=zP (w:=w) (h.block p.block hp hn)
theorem ag.turned {cs:LV}{T:TypeId}(h:ag w b cs T)(ht:w.mapTurned w' c)(hne:b≠c):ag w' b cs T:=(ht.grown.block b h.lt (λe=>by injection e with e;exact hne e)).trans h
theorem Ez (F:Nat)(cp:Array Value)(w:World):Calls prog 107 #[Vf F cp] w λe w'=>∃k b mm,e=.returned (Vf 143 #[Vp k,Vp b]) /\
  Bw w w'/\(w.heap.size<=k/\w.heap.size<=b/\w.heap.size<=mm/\k≠mm/\b≠mm/\k≠b)/\ag w' b [Vf F cp] 111/\ag w' k [.map (some mm)] 216/\w'.heap[mm]?=some (.map #[] 0):=by
 have a:=@run_makeMap prog;go_enter func107,ntmps107;go_wp2_with fail;go_ret;refine⟨w.heap.size+1+1,w.heap.size,w.heap.size+1,rfl,(((zE _ w).alloc (zA _) _).alloc (by simp) _).alloc (by simp;omega) _,by omega,?_,?_,?_⟩
 ·exact (((ag.new w [Vf F cp] 111).alloc _).alloc _)
 ·have:=ag.new ((w.alloc (.cells #[Vf F cp] 111)).alloc (.map #[] 0)) [.map (some (w.heap.size+1))] 216;simpa using this
 ·rw[zS _ _ _ (by simp)];have:=(MapKept.heap_alloc (w.alloc (.cells #[Vf F cp] 111)) (.map #[] 0)).1;simpa using this
def iE (w:World)(a:Option Addr)(ns:List Int):Prop:=∀j x,ns[j]?=some x->∃bb off,a=some (aD bb off)/\bb<w.heap.size/\w.cell? ⟨bb,off+j,none⟩=some (Vi x)/\-9223372036854775808<=x/\x<=9223372036854775807
theorem iE.below {a:OA}{raw:LZ}(h:iE w a raw)(k:Bw w w'):iE w' a raw:=by
 intro j x f;obtain⟨c,b,rfl,d,e,g⟩:=h j x f;exact⟨c,b,rfl,zF d k.size,(k.cell (p:=⟨c,_,none⟩) d).trans e,g⟩
def qD (w:World)(a:Option Addr)(ps:List Nat)(num:Nat->Int):Prop:=∀j y,ps[j]?=some y->∃bb off,a=some (aD bb off)/\bb<w.heap.size/\y<w.heap.size/\w.cell? ⟨bb,off+j,none⟩=some (Vp y)/\w.cell? (aD y 0)=some (Vi (num y))/\-9223372036854775808<=num y/\num y<=9223372036854775807
theorem qD.below {a:OA}{ps:List Nat}{num:Nat->Int}(h:qD w a ps num)(k:Bw w w'):qD w' a ps num:=by
 intro j x i;obtain⟨d,b,rfl,e,c,g,f,l⟩:=h j x i;exact⟨d,b,rfl,zF e k.size,zF c k.size,(k.cell (p:=⟨d,_,none⟩) e).trans g,(k.cell (p:=⟨x,_,none⟩) c).trans f,l⟩
def dD (ns:List Int):List UInt8:=(ns.map λn=>32::Lib.itoa n).flatten
def fl (kd:Int)(ns qs:List Int):List UInt8:=Lib.itoa kd++dD ns++dD qs
theorem vf (ns:LZ)(n:Int):dD (ns++[n])=dD ns++(32::Lib.itoa n):=by simp[dD]
theorem dU {α:Type}{l:List α}{x:α}(h:l[i]?=some x):l.take (i+1)=l.take i++[x]:=by
 obtain⟨a,rfl⟩:=zC.1 h;exact yu a
def MS (w:World)(m bm:Nat)(nn ee:Option Nat)(f:List UInt8->Option Nat)(n:Nat):Prop:=ag w m [.map (some bm),BG nn,BG ee] 146/\fs w bm f n/\m≠bm
theorem MS.below {w w':World}{m bm:Nat}{nn ee:Option Nat}{f:List UInt8->Option Nat}{n:Nat}(h:MS w m bm nn ee f n)(k:Bw w w'):MS w' m bm nn ee f n:=⟨h.1.below k,h.2.1.below k,h.2.2⟩
def kG (w:World)(x:Nat)(num kd:Int)(pa:Option Addr)(pn pc:Nat)(en:Bool)(fv:Value):Prop:=ag w x [Vi num,Vi kd,.slice pa pn pc,.bool en,fv] 113
def UB (w:World)(pre:List UInt8)(z:Nat)(ns:List Int)(j:Nat)(nv iv:Value)(wr:World):Prop:=∃(i:Nat) (s:ByteArray),iv=Vi (i:Int)/\i<=ns.length/\ns.length-i<=j/\nv=.string s/\af s=pre++dD (ns.take i)/\s.size<=z+22*i/\Below w.heap.size w wr
theorem Gs:(prog.info? 107).map (λi=>(i.zero,i.size,i.bytes))=some (some (.agg #[Vz,.pointer none,.pointer none]),3,40):=by kernel_rfl
abbrev Zy (r s:Nat):Value:=.agg #[Vz,Vp r,Vp s]
abbrev XY (r s:Nat):List Value:=[Vz,Vp r,Vp s]
def ZN (w:World)(B bn r s:Nat):Prop:=∃g c,ag w bn [Vs g 1 c] 100/\w.ownsRow B 107 3 (Vs g 1 c) 1 (XY r s)
theorem But.grown {row:Option Nat}(h:But S a w)(hg:w.grownBy w' row)(hr:∀k,row=some k->S k\/a.heap.size<=k):But S a w' :=
 ⟨hg.os.trans h.os,hg.tape.trans h.tape,hg.output.trans h.output,zJ h.size hg.size,λk d b=>(hg.block k (zF d h.size) (λe=>by rcases hr k e.symm with c|c;exact b c;omega)).trans (h.block k d b)⟩
theorem Gt (v:Value)(w:World):(Instr.typeAssert (.iface 107 v) 20 107 false).run prog w=.ok v w:=by
 simp[Instr.typeAssert,yp underlying107,Result.andThen]
theorem Qb (b:Nat)(w:World):(method 422 98 (.pointer (some ⟨b,0,none⟩)) "Push").run prog w=.ok (287,.pointer (some ⟨b,0,none⟩)) w:=by kernel_rfl
theorem TH (b:Nat)(w:World):(method 422 98 (.pointer (some ⟨b,0,none⟩)) "Pop").run prog w=.ok (286,.pointer (some ⟨b,0,none⟩)) w:=by kernel_rfl
theorem tN (a:Addr)(x y:String)(w:World):(Builtin.ssaWrapNilChk_ #[98] 98 #[.pointer (some a),strVal x,strVal y]).run prog w=.ok (.pointer (some a)) w:=rfl
theorem Gi (b:Nat)(w:World)(v:Value)(h:w.cell? ⟨b,0,none⟩=some v):(method 422 98 (.pointer (some ⟨b,0,none⟩)) "Len").run prog w=.ok (45,v) w:=by
 have hk:(prog.info? 98).map (λi=>(i.methods.find? (·.name== "Len")).map λm=>(m.path.isEmpty,m.func))=some (some (true,some (45,false))):=by kernel_rfl
 cases hi:prog.info? 98 with
 |none=>rw[hi]at hk;cases hk
 |some i=>
  rw[hi]at hk;simp only[yw,yG]at hk;cases hf:i.methods.find? (·.name== "Len")with
  |none=>rw[hf]at hk;cases hk
  |some m=>
   rw[hf]at hk;simp only[yw,yG,Prod.mk.injEq]at hk;obtain⟨hp,hm⟩:=hk;have hp2:m.path=#[]:=Array.isEmpty_iff.1 hp;unfold method;simp[typeInfo,hi,hf,hm,hp2,follow,receiverAt,yp underlying98,Place.get,tN,asAddr,loadVar,go_sem,h,isAgg100,Result.andThen]
theorem uN (a:OA)(n c:Nat)(w:World):Calls prog 45 #[.slice a n c] w λe w'=>e=.returned (Vi n)/\w'=w:=by
 go_enter func45,ntmps45;go_wp2;go_ret;exact⟨rfl,rfl⟩
theorem tO (b:Nat)(w:World)(v:Value)(h:w.cell? ⟨b,0,none⟩=some v):(method 422 98 (.pointer (some ⟨b,0,none⟩)) "Swap").run prog w=.ok (288,v) w:=by
 have hk:(prog.info? 98).map (λi=>(i.methods.find? (·.name== "Swap")).map λm=>(m.path.isEmpty,m.func))=some (some (true,some (288,false))):=by kernel_rfl
 cases hi:prog.info? 98 with
 |none=>rw[hi]at hk;cases hk
 |some i=>
  rw[hi]at hk;simp only[yw,yG]at hk;cases hf:i.methods.find? (·.name== "Swap")with
  |none=>rw[hf]at hk;cases hk
  |some m=>
   rw[hf]at hk;simp only[yw,yG,Prod.mk.injEq]at hk;obtain⟨hp,hm⟩:=hk;have hp2:m.path=#[]:=Array.isEmpty_iff.1 hp;unfold method;simp[typeInfo,hi,hf,hm,hp2,follow,receiverAt,yp underlying98,Place.get,tN,asAddr,loadVar,go_sem,h,isAgg100,Result.andThen]
set_option maxHeartbeats 4000000
def jt (x y:Int):Int:=if x<y then -1 else if y<x then 1 else 0
def iw:List Int->List Int->Int
 | [],[]=>0
 | [],_::_=>-1
 |_::_,[]=>1
 |a::u,b::v=>if a<b then -1 else if b<a then 1 else iw u v
theorem Er:∀u v:List Int,u.length=v.length->(iw u v<0↔cH u v=true)
 | [],[],_=>by simp[iw,cH]
 | [],_::_,h=>by simp at h
 |_::_,[],h=>by simp at h
 |a::u,b::v,h=>by
  have d:=Er u v (by simpa using h);simp only[iw,cH,yZ,yP,zY];by_cases c:a<b
  ·simp[c]
  ·by_cases f:b<a
   ·simp[c,f];omega
   ·have e:a=b:=by omega
    simp[e,d]
def NY (x y:Int):Int:=if x≠0 then x else y
theorem Rk (u v:LZ):(decide (NY (jt u.length v.length) (iw u v)<0))=bY u v:=by
 unfold bY NY jt;by_cases a:(u.length:Int)<v.length
 ·have:u.length<v.length:=by omega
  simp[a,this]
 ·by_cases b:(v.length:Int)<u.length
  ·have d:¬u.length<v.length:=by omega
   have c:¬u.length=v.length:=by omega
   simp[a,b,d,c]
  ·have e:u.length=v.length:=by omega
   have:=Er u v e;simp[e];cases hb:cH u v with
   |true=>simpa [hb]using this
   |false=>rw[hb]at this;simp at this;simpa using this
def iy (w:World)(tv:Value)(u:List Int):Prop:=∃a c,tv=.slice a u.length c/\∀j r,u[j]?=some r->∃b off,a=some (aD b off)/\b<w.heap.size/\w.cell? ⟨b,off+j,none⟩=some (.int .i32 r)
theorem Rl (x:Int)(W:World):Calls prog 292 #[.int .i32 x] W λe w'=>e=.returned (.bool false)/\w'=W:=by
 go_enter func292,ntmps292;go_wp2;go_ret;exact⟨by simp,rfl⟩
theorem Vg (x:Int)(W:World):Calls prog 140 #[Vi x] W λe w'=>e=.returned (.bool false)/\w'=W:=by
 go_enter func140,ntmps140;go_wp2;go_ret;exact⟨by simp,rfl⟩
theorem Rm (x y:Int)(W:World):Calls prog 291 #[.int .i32 x,.int .i32 y] W λe w'=>e=.returned (Vi (jt x y))/\w'=W:=by
 have c:=Rl;unfold jt;by_cases b:x<y
 ·have f:decide (x<y)=true:=zv b;rw[zX b];go_enter func291,ntmps291;go_wp2_with (go_at_call 292;refine (c _ _).mono ?_;rintro e w' ⟨rfl,rfl⟩);go_ret;exact⟨rfl,rfl⟩
 ·have f:decide (x<y)=false:=zI b;rw[zR b];by_cases a:y<x
  ·have d:decide (y<x)=true:=zv a;rw[zX a];go_enter func291,ntmps291;go_wp2_with (go_at_call 292;refine (c _ _).mono ?_;rintro e w' ⟨rfl,rfl⟩);go_ret;exact⟨rfl,rfl⟩
  ·have d:decide (y<x)=false:=zI a;rw[zR a];go_enter func291,ntmps291;go_wp2_with (go_at_call 292;refine (c _ _).mono ?_;rintro e w' ⟨rfl,rfl⟩);go_ret;exact⟨rfl,rfl⟩
theorem Vh (x y:Int)(W:World):Calls prog 101 #[Vi x,Vi y] W λe w'=>e=.returned (Vi (jt x y))/\w'=W:=by
 have c:=Vg;unfold jt;by_cases b:x<y
 ·have f:decide (x<y)=true:=zv b;rw[zX b];go_enter func101,ntmps101;go_wp2_with (go_at_call 140;refine (c _ _).mono ?_;rintro e w' ⟨rfl,rfl⟩);go_ret;exact⟨rfl,rfl⟩
 ·have f:decide (x<y)=false:=zI b;rw[zR b];by_cases a:y<x
  ·have d:decide (y<x)=true:=zv a;rw[zX a];go_enter func101,ntmps101;go_wp2_with (go_at_call 140;refine (c _ _).mono ?_;rintro e w' ⟨rfl,rfl⟩);go_ret;exact⟨rfl,rfl⟩
  ·have d:decide (y<x)=false:=zI a;rw[zR a];go_enter func101,ntmps101;go_wp2_with (go_at_call 140;refine (c _ _).mono ?_;rintro e w' ⟨rfl,rfl⟩);go_ret;exact⟨rfl,rfl⟩
theorem Xk (b:Nat)(x y:Int)(w:World)(c0:w.cell? (aD b 0)=some (Vi x))(c1:w.cell? (aD b 1)=some (Vi y))(hb:b<w.heap.size):Calls prog 289 #[Vs b 2 2] w λe w'=>e=.returned (Vi (NY x y))/\w'=w:=by
 unfold NY;by_cases a:x=0
 ·have h:(x != 0)=false:=by simp[a]
  rw[zR (by simp[a])];subst a;go_enter func289,ntmps289;go_wp2_with fail
  go_loopg [8] 3 (λj iv wr=>wr=w/\((iv=Vi 0/\j=3)\/(iv=Vi 1/\j=2)\/(iv=Vi 2/\y=0)))
  case atStart=>exact⟨rfl,.inl ⟨rfl,rfl⟩⟩
  case round=>
   obtain⟨d,hrel⟩:=hrel;subst d;rcases hrel with⟨rfl,f⟩|⟨rfl,f⟩|⟨rfl,f⟩
   ·go_wp2_with fail
    go_roundg 2
    all_goals first|omega|exact⟨rfl,.inr (.inl ⟨rfl,rfl⟩)⟩
   ·by_cases c:y=0
    ·have g:(y != 0)=false:=by simp[c]
     go_wp2_with fail
     go_roundg 1
     all_goals first|omega|exact⟨rfl,.inr (.inr ⟨rfl,c⟩)⟩
    ·have g:(y != 0)=true:=by simp[c]
     go_wp2_with fail;go_ret;exact⟨rfl,rfl⟩
   ·subst f;go_wp2_with fail;go_ret;exact⟨rfl,rfl⟩
 ·have h:(x != 0)=true:=by simp[a]
  rw[zX a];go_enter func289,ntmps289;go_wp2_with fail
  go_loopg [8] 3 (λj iv wr=>wr=w/\iv=Vi 0)
  case atStart=>exact⟨rfl,rfl⟩
  case round=>
   obtain⟨d,rfl⟩:=hrel;subst d;go_wp2_with fail;go_ret;exact⟨rfl,rfl⟩
theorem Ro (tu tv:Value)(u v:LZ)(w:World)(hu:iy w tu u)(hv:iy w tv v)(lu:u.length<=1000000):Calls prog 290 #[tu,tv] w λe w'=>e=.returned (Vi (iw u v))/\w'=w:=by
 obtain⟨L,R,rfl,g⟩:=hu;obtain⟨S,V,rfl,l⟩:=hv;have p:=aa g;have o:=aa l;go_enter func290,ntmps290;go_wp2_with fail
 go_loopg [11] u.length (λj iv wr=>wr=w/\∃i:Nat,iv=Vi (i:Int)/\i<=u.length/\u.length-i<=j/\i<=v.length/\iw u v=iw (u.drop i) (v.drop i))
 case atStart=>exact⟨rfl,0,rfl,zW _,by omega,zW _,rfl⟩
 case round=>
  obtain⟨D,i,rfl,C,X,B,d⟩:=hrel;subst D;have U:(0:Int)<=(i:Int):=zK _;by_cases h:i<u.length
  ·have M:(i:Int)<(u.length:Int):=by omega
   obtain⟨x,A⟩:∃x,u[i]?=some x:=⟨_,zB h⟩;obtain⟨W,T,rfl,I,F⟩:=p.out i x A;have k:u.drop i=x::u.drop (i+1):=by rw[yC h];congr 1;exact (zC.1 A).2
   by_cases f:i<v.length
   ·have K:decide ((v.length:Int)<=(i:Int))=false:=zI (by omega);have P:(i:Int)<(v.length:Int):=by omega
    obtain⟨y,t⟩:∃y,v[i]?=some y:=⟨_,zB f⟩;obtain⟨N,Q,rfl,J,G⟩:=o.out i y t;have s:v.drop i=y::v.drop (i+1):=by rw[yC f];congr 1;exact (zC.1 t).2
    have m:=aa (Rm x y);rw[k,s]at d;by_cases c:jt x y=0
    ·have r:(jt x y != 0)=false:=by simp[c]
     have a:iw u v=iw (u.drop (i+1)) (v.drop (i+1)):=by
      rw[d];unfold jt at c;simp only[iw]
      split at c
      ·cases c
      ·split at c
       ·cases c
       ·rename_i h1 h2;rw[zR h1,zR h2]
     have b:=aa a;generalize jt x y=z at m r;go_wp2_with (go_at_call 291;refine (m _).mono ?_;rintro e w' ⟨rfl,rfl⟩)
     go_roundg (u.length-(i+1))
     all_goals first|omega|exact⟨rfl,i+1,by go_num,by omega,by omega,by omega,b⟩
    ·have r:(jt x y != 0)=true:=by simp[c]
     have a:iw u v=jt x y:=by
      rw[d];unfold jt at c ⊢;simp only[iw]
      split
      ·rfl
      ·split
       ·rfl
       ·rename_i h1 h2;rw[zR h1,zR h2]at c;exact absurd rfl c
     have b:=aa a;generalize jt x y=z at m r b;go_wp2_with (go_at_call 291;refine (m _).mono ?_;rintro e w' ⟨rfl,rfl⟩);go_ret;exact⟨by rw[b.out];rfl,rfl⟩
   ·have K:decide ((v.length:Int)<=(i:Int))=true:=zv (by omega);have a:iw u v=1:=by
     have n:v.drop i=[]:=yh (by omega);rw[d,k,n];rfl
    have b:=aa a;go_wp2_with fail;go_ret;exact⟨by rw[b.out];rfl,rfl⟩
  ·have O:decide ((i:Int)<(u.length:Int))=false:=zI (by omega);have H:i=u.length:=by omega
   by_cases f:u.length<v.length
   ·have E:decide ((u.length:Int)<(v.length:Int))=true:=zv (by omega);have a:iw u v=-1:=by
     have q:u.drop i=[]:=yh (by omega);rw[d,q,yC (show i<v.length by omega)];rfl
    have b:=aa a;go_wp2_with fail;go_ret;exact⟨by rw[b.out];rfl,rfl⟩
   ·have E:decide ((u.length:Int)<(v.length:Int))=false:=zI (by omega);have a:iw u v=0:=by
     have q:u.drop i=[]:=yh (by omega);have n:v.drop i=[]:=yh (by omega);rw[d,q,n];rfl
    have b:=aa a;go_wp2_with fail;go_ret;exact⟨by rw[b.out];rfl,rfl⟩
theorem Es (g n c i j:Nat){tu tv:Value}{u v:LZ}(hi:i<n)(hj:j<n)(ci:w.cell? ⟨g,i*3,none⟩=some tu)(cj:w.cell? ⟨g,j*3,none⟩=some tv)(hu:iy w tu u)(hv:iy w tv v)(lu:u.length<=1000000):Calls prog 285 #[Vs g n c,Vi i,Vi j] w λe w'=>e=.returned (.bool (bY u v))/\Bw w w':=by
 have E:(0:Int)<=(i:Int):=zK _;have A:(i:Int)<(n:Int):=by omega
 have G:(0:Int)<=(j:Int):=zK _;have B:(j:Int)<(n:Int):=by omega
 have f:=aa (Vh (u.length:Int) (v.length:Int));have m:=aa (λ(W:World) (hW:Bw w W)=>Ro tu tv u v W (by obtain⟨a,s,e,h⟩:=hu;exact⟨a,s,e,λj r hj=>by obtain⟨b,d,q,l,t⟩:=h j r hj;exact⟨b,d,q,zF l hW.size,(hW.cell (p:=⟨b,d+j,none⟩) l).trans t⟩⟩) (by obtain⟨a,s,e,h⟩:=hv;exact⟨a,s,e,λj r hj=>by obtain⟨b,d,q,l,t⟩:=h j r hj;exact⟨b,d,q,zF l hW.size,(hW.cell (p:=⟨b,d+j,none⟩) l).trans t⟩⟩) lu);obtain⟨z,C,rfl,_⟩:=hu;obtain⟨D,F,rfl,_⟩:=hv;have x:=aa (Rk u v);rw[<-x.out];have o:=aa (λ(b:Nat) (W:World)=>Xk b (jt (u.length:Int) (v.length:Int)) (iw u v) W);generalize jt (u.length:Int) (v.length:Int)=X at f o ⊢;generalize iw u v=Y at m o ⊢;generalize NY X Y=Z at o ⊢;go_enter func285,ntmps285;go_wp2_with fail
 go_quiet (fail)
 go_wp2_with fail;refine (f _).mono ?_;rintro e w' ⟨rfl,rfl⟩;go_wp2_with fail;refine (m _ (by exact⟨rfl,rfl,rfl,zA _,λ_ _=>rfl⟩)).mono ?_;rintro e w' ⟨rfl,rfl⟩;go_wp2_with fail;refine (o _ _ ?_ ?_ ?_).mono ?_
 ·exact (ag.new _ [Vi X,Vi Y] 3).cell 0
 ·exact (ag.new _ [Vi X,Vi Y] 3).cell 1
 ·simp
 rintro e w' ⟨rfl,rfl⟩;go_wp2_with fail;go_ret;exact⟨rfl,rfl,rfl,rfl,by simp,λk y=>zS _ _ _ y⟩
theorem gI {P:Program}(w:World)(base:Nat)(t ty e:TypeId)(i:TypeInfo)(z:Value)(size bytes:Nat)(ht:P.underlying t=some (.slice e))(hi:P.info? e=some i)(hz:i.zero=some z)
  (hsize:i.size=size) (hby:i.bytes=bytes) (hzs:z.cells.size=size) (hsz:0<size)
  (v:Value) (n:Nat) (xs:LV) (hown:w.ownsRow base e size v n xs)
  (a:Addr) (m c:Nat) (news:LV) (hl:news.length=m*size) (hnews:∀j u,news[j]?=some u->w.cell? (a.add j)=some u) (h1:∀u∈news,u.oneCell'=true)
  (h63:n+m<=maxLen) (hbytes:(n+m)*bytes<=140737488355328) (hbase:base<=w.heap.size):∃v' w',(Builtin.append_ #[t,t] ty #[v,.slice (some a) m c]).run P w=.ok v' w'/\w'.ownsRow base e size v' (n+m) (xs++news)/\w.grownBy w' v.ownBlock /\
   (∀g,v'.ownBlock=some g->v.ownBlock=some g\/w.heap.size<=g):=by
 obtain⟨v',w',o,C,D,_⟩:=run_append_own (P:=P) w base t ty e i z size bytes ht hi hz hsize hby hzs hsz v n xs hown a m c news hl hnews h1 h63 hbytes hbase;refine⟨v',w',o,C,D,λg y=>?_⟩;rcases hown.2 with⟨rfl,rfl⟩|⟨p,h,k,rfl,E,r,A,F,x,s⟩
 ·have G:xs=[]:=yf (by simpa using hown.1);subst G;obtain⟨H,I,b,B,_,_⟩:=run_append_own (P:=P) w w.heap.size t ty e i z size bytes ht hi hz hsize hby hzs hsz (Vz) 0 [] (zZ _ _ _ _) a m c news hl hnews h1 h63 hbytes (zA _);rw[o]at b;injection b with e1 e2;subst e1;exact .inr (B.lt g y |>.1)
 ·by_cases d:n+m<=h
  ·subst hsize;have l:n*i.size+news.length<=k.size:=by rw[hl,x,<-Nat.add_mul];exact zn _ d
   have b:=run_append_room (P:=P) w t ty e i ht hi p n h k r a m c news hl hnews h1 d l;rw[o]at b;injection b with e1 e2;subst e1;exact .inl y
  ·subst hsize;subst hby;have q:n+m<=9223372036854775807:=by simp only[maxLen]at h63;omega
   have f:∀j u,xs[j]?=some u->w.cell? (((aD p 0):Addr).add j)=some u:=hown.cells (g:=p) rfl;have b:=run_append_grow (P:=P) w t ty e i z ht hi hz (aD p 0) n h xs hown.1 f a m c news hl hnews (by omega) (by omega) (growslice_fits (by omega) hbytes);rw[o]at b;injection b with e1 e2;subst e1;simp only[Value.ownBlock,yG]at y;exact .inr (by omega)
theorem ft {P:Program}{w:World}{ops:Array Oper}{rest:List Oper}{o:Oper}{a:Act}{Q:Exit->Act->World->Prop}(hgd:o.guard=none)(s x:Operand)(t:TypeId)
  (ho:o.op=.call { callee:=.builtin .append,args:=#[s,x],argTypes:=#[t,t] })
  (base:Nat) (e:TypeId) (i:TypeInfo) (z:Value) (size bytes:Nat) (ht:P.underlying t=some (.slice e)) (hi:P.info? e=some i) (hz:i.zero=some z)
  (hsize:i.size=size) (hby:i.bytes=bytes) (hzs:z.cells.size=size) (hsz:0<size)
  (v:Value) (n:Nat) (xs:List Value) (hs:a.eval s=v) (hown:w.ownsRow base e size v n xs)
  (ad:Addr) (m c:Nat) (news:List Value) (hx:a.eval x=.slice (some ad) m c) (hl:news.length=m*size) (hnews:∀j u,news[j]?=some u->w.cell? (ad.add j)=some u) (h1:∀u∈news,u.oneCell'=true)
  (h63:n+m<=maxLen) (hbytes:(n+m)*bytes<=140737488355328) (hbase:base<=w.heap.size)
  (h:∀v' w',w'.ownsRow base e size v' (n+m) (xs++news)->w.grownBy w' v.ownBlock->(∀g,v'.ownBlock=some g->v.ownBlock=some g\/w.heap.size<=g)->wpList P ops Q rest (a.put o.dst v') w'):wpList P ops Q (o::rest) a w :=
 wpList_plain hgd λ_ d=>by
  obtain⟨v',w',l,f,b,k⟩:=gI (P:=P) w base t o.type e i z size bytes ht hi hz hsize hby hzs hsz v n xs hown ad m c news hl hnews h1 h63 hbytes hbase;unfold Oper.wp execOp;simp only[ho,resolve,invoke,builtin,Sem.run_bind,Sem.run_pure,Result.andThen_ok,List.map_toArray,zp,yU,hs,hx,l];exact d _ _ (h v' w' f b k)
theorem uW {ops:Array Oper}{o:Oper}{a:Act}{w:World}{K:Act->World->Prop}{Q:Exit->Act->World->Prop}{E:Prop}
  (hg:o.guard=none) (s x:Operand) (t:TypeId) (hop:o.op=Op.call { callee:=Callee.builtin Builtin.append,args:=#[s,x],argTypes:=#[t,t] })
  (base:Nat) (e:TypeId) (i:TypeInfo) (z:Value) (size bytes:Nat) (h1:prog.underlying t=some (.slice e)) (h2:prog.info? e=some i) (h3:i.zero=some z) (h4:i.size=size) (h5:i.bytes=bytes) (h6:z.cells.size=size) (h7:0<size)
  (v:Value) (n:Nat) (xs:LV) (hs:a.eval s=v) (hown:w.ownsRow base e size v n xs)
  (ad:Addr) (m c:Nat) (news:LV) (hx:a.eval x=.slice (some ad) m c) (hn:news.length=m*size) (hc:∀j u,news[j]?=some u->w.cell? (ad.add j)=some u) (h1c:∀u∈news,u.oneCell'=true)
  (b1:n+m<=maxLen) (b2:(n+m)*bytes<=140737488355328) (hbase:base<=w.heap.size)
  (hK:∀v' w',w'.ownsRow base e size v' (n+m) (xs++news)->w.grownBy w' v.ownBlock->(∀g,v'.ownBlock=some g->v.ownBlock=some g\/w.heap.size<=g)->K (a.put o.dst v') w') :
  if Region.wanted o (yielded ops a.tmps)=true then Oper.wp prog o a w K Q else E:=by
 have h:Region.wanted o (yielded ops a.tmps)=true:=by simp[Region.wanted,hg]
 rw[zX h];obtain⟨v',w',b,d,k,f⟩:=gI (P:=prog) w base t o.type e i z size bytes h1 h2 h3 h4 h5 h6 h7 v n xs hown ad m c news hn hc h1c b1 b2 hbase;unfold Oper.wp;simp[execOp,hop,resolve,invoke,builtin,hs,hx,b,Result.andThen];exact hK v' w' d k f
structure HIt where
 ta:Option Addr
 tc:Nat
 u:List Int
 x:Nat
 y:Nat
def bG:HIt:=⟨none,0,[],0,0⟩
abbrev tv (a:HIt):Value:=.slice a.ta a.u.length a.tc
abbrev hc (a:HIt):List Value:=[.slice a.ta a.u.length a.tc,Vp a.x,Vp a.y]
abbrev hV (a:HIt):Value:=.agg #[.slice a.ta a.u.length a.tc,Vp a.x,Vp a.y]
def jq:List HIt->List Value
 | []=>[]
 |a::l=>hc a++jq l
theorem um:∀l:List HIt,(jq l).length=l.length*3
 | []=>rfl
 |a::l=>by simp only[jq,zH,um l,zG,zh];omega
theorem ES (l:List HIt)(a:HIt):jq (l++[a])=jq l++hc a:=by
 induction l with
 |nil=>rfl
 |cons b l ih=>simp only[zV,jq,ih,zc]
theorem Jl:∀(l:List HIt) (i:Nat) (a:HIt) (rest:LV),l[i]?=some a->(jq l++rest)[i*3]?=some (tv a)/\(jq l++rest)[i*3+1]?=some (Vp a.x)/\(jq l++rest)[i*3+2]?=some (Vp a.y)
 |b::l,0,a,rest,h=>by simp at h;subst h;exact⟨rfl,rfl,rfl⟩
 |b::l,i+1,a,rest,h=>by
  obtain⟨e,c,d⟩:=Jl l i a rest (by simpa using h);refine⟨?_,?_,?_⟩
  ·rw[show (i+1)*3=i*3+3 by omega];exact e
  ·rw[show (i+1)*3+1=i*3+1+3 by omega];exact c
  ·rw[show (i+1)*3+2=i*3+2+3 by omega];exact d
theorem Bm:∀(l:List HIt) (i:Nat) (a:HIt) (rest:LV),i<l.length->(((jq l++rest).set (i*3) (tv a)).set (i*3+1) (Vp a.x)).set (i*3+2) (Vp a.y)=jq (l.set i a)++rest
 |b::l,0,a,rest,h=>rfl
 |b::l,i+1,a,rest,h=>by
  have c:=Bm l i a rest (by simpa using h);rw[show (i+1)*3=i*3+3 by omega,show i*3+3+1=i*3+1+3 by omega,show i*3+3+2=i*3+2+3 by omega];show hc b++_=hc b++_++_
  rw[zc,<-c];rfl
def eR (w:World)(B g c:Nat)(l:List HIt):Prop:=B<=g/\l.length<=c/\c<=maxLen/\∃rest,ag w g (jq l++rest) 107/\(jq l++rest).length=c*3
theorem eR.own {l:List HIt}(h:eR w B g c l):w.ownsRow B 107 3 (Vs g l.length c) l.length (jq l):=by
 obtain⟨i,b,e,a,d,f⟩:=h;refine⟨um l,.inr ⟨g,c,(jq l++a).toArray,rfl,i,d,b,e,by simpa using f,?_⟩⟩;rw[<-um l];simp
theorem RM {l:List HIt}(h:w.ownsRow B 107 3 (Vs g n c) n (jq l)):eR w B g c l/\n=l.length:=by
 obtain⟨p,a⟩:=h;have m:n=l.length:=by rw[um]at p;omega
 rcases a with⟨a,_⟩|⟨q,j,b,e,f,i,r,k,o,d⟩
 ·cases a
 ·cases e;refine⟨⟨f,by omega,k,b.toList.drop (n*3),?_,?_⟩,m⟩
  ·unfold ag;rw[<-d,zj];simpa using i
  ·rw[<-d,zj];simpa using o
theorem vg {v:Value}{xs:LV}(h:w.ownsRow B 107 3 v (n+1) xs):∃g c,v=Vs g (n+1) c/\B<=g:=by
 rcases h.2 with⟨_,e⟩|⟨g,a,d,rfl,b,f,r⟩
 ·omega
 ·exact⟨g,a,rfl,b⟩
theorem eR.cells {l:List HIt}(h:eR w B g c l){a:HIt}(hi:l[i]?=some a):w.cell? ⟨g,i*3,none⟩=some (tv a)/\w.cell? ⟨g,i*3+1,none⟩=some (Vp a.x)/\w.cell? ⟨g,i*3+2,none⟩=some (Vp a.y):=by
 obtain⟨n,k,m,b,d,o⟩:=h;obtain⟨f,e,j⟩:=Jl l i a b hi;exact⟨(d.cell _).trans f,(d.cell _).trans e,(d.cell _).trans j⟩
theorem eR.frozen {w:World}{B g c:Nat}{l:List HIt}(h:eR w B g c l)(k:Nat):w.frozen? (aD g k)=false:=by
 obtain⟨i,d,e,a,b,f⟩:=h;exact b.frozen k
theorem eR.lt {w:World}{B g c:Nat}{l:List HIt}(h:eR w B g c l):g<w.heap.size:=by
 obtain⟨i,d,e,a,b,f⟩:=h;exact b.lt
theorem eR.block {l:List HIt}(h:eR w B g c l)(k:w'.heap[g]?=w.heap[g]?):eR w' B g c l:=by
 obtain⟨i,b,e,a,d,f⟩:=h;exact⟨i,b,e,a,k.trans d,f⟩
theorem eR.drew {w:World}{B g c:Nat}{l:List HIt}(h:eR w B g c l):eR w.drew B g c l:=h
def wq (w:World)(g k:Nat)(a:HIt):World:=((w.setCell (aD g k) (tv a)).setCell ⟨g,k+1,none⟩ (Vp a.x)).setCell ⟨g,k+2,none⟩ (Vp a.y)
theorem eR.put {l:List HIt}(h:eR w B g c l)(a:HIt)(hi:i<l.length):eR (wq w g (i*3) a) B g c (l.set i a):=by
 obtain⟨k,e,j,b,f,m⟩:=h;have d:=((f.set (i*3) (tv a)).set (i*3+1) (Vp a.x)).set (i*3+2) (Vp a.y);rw[Bm l i a b hi]at d;refine⟨k,by simpa using e,j,b,d,?_⟩;rw[<-Bm l i a b hi];simpa using m
theorem ET (w:World)(g k:Nat)(a:HIt):Off g w (wq w g k a):=(((Off.refl g w).setCell k _).setCell (k+1) _).setCell (k+2) _
theorem wu {l:List HIt}(h:eR w B g c l)(hi:i<l.length)(hj:j<l.length):Calls prog 288 #[Vs g l.length c,Vi i,Vi j] w λe w'=>e=.returned (.tuple #[])/\eR w' B g c (qi bG l i j)/\Off g w w':=by
 obtain⟨a,r⟩:∃a,l[i]?=some a:=⟨_,zB hi⟩;obtain⟨b,f⟩:∃b,l[j]?=some b:=⟨_,zB hj⟩;obtain⟨D,E,I⟩:=h.cells r;obtain⟨F,K,J⟩:=h.cells f;have N:=λk=>h.frozen k;have G:=h.lt;have O:(0:Int)<=(i:Int):=zK _;have M:(i:Int)<(l.length:Int):=by omega
 have P:(0:Int)<=(j:Int):=zK _;have L:(j:Int)<(l.length:Int):=by omega
 have d:Hid (eR (wq (wq w g (i*3) b) g (j*3) a).drew B g c (qi bG l i j)/\Off g w (wq (wq w g (i*3) b) g (j*3) a).drew):=by
  refine⟨?_,((ET w g (i*3) b).trans (ET _ g (j*3) a)).drew⟩;have q:=(h.put b hi).put (i:=j) a (by simpa using hj);have e:qi bG l i j=(l.set i b).set j a:=by unfold qi gt;rw[r,f];rfl
  rw[e];exact q.drew
 unfold wq at d;obtain⟨t,v,u,x,y⟩:=a;obtain⟨o,m,z,A,C⟩:=b;simp only at D E I F K J d;have s:Hid (i=j->(⟨o,m,z,A,C⟩:HIt)=⟨t,v,u,x,y⟩):=λe=>by
  subst e;rw[r]at f;injection f with f;exact f.symm
 have p:i=j->(o,m,z,A,C)=(t,v,u,x,y):=λe=>by
  have:=s.out e;injection this with q h2 h3 h4 h5;rw[q,h2,h3,h4,h5]
 by_cases n:i=j
 ·have p:=p n;injection p with q h2;injection h2 with h2 h3;injection h3 with h3 h4;injection h4 with h4 h5;subst n q h2 h3 h4 h5;go_enter func288,ntmps288;go_wp2_with fail
  go_region
  all_goals go_wp2_with fail
  all_goals go_end0
  all_goals exact⟨rfl,d⟩
 ·clear p;have p:¬i*3=j*3:=by omega
  have H:¬j*3=i*3:=by omega
  go_enter func288,ntmps288;go_wp2_with fail
  go_region
  all_goals go_wp2_with fail
  all_goals go_end0
  all_goals exact⟨rfl,d⟩
theorem Cs (v:Value)(w:World):(Instr.typeAssert (.iface 107 v) 20 107 false).run prog w=.ok v w:=Gt v w
theorem EU (w:World)(a:HIt):∀j u,(hc a)[j]?=some u->(w.alloc (.cells #[.slice a.ta a.u.length a.tc,Vp a.x,Vp a.y] 107)).drew.cell? (((aD w.heap.size 0):Addr).add j)=some u:=by
 intro j u b
 match j,b with
 |0,b=>simp at b;subst b;simp[Addr.add]
 |1,b=>simp at b;subst b;simp[Addr.add]
 |2,b=>simp at b;subst b;simp[Addr.add]
theorem Ov (a:HIt):∀u∈hc a,u.oneCell'=true:=by
 intro u b;simp at b;rcases b with rfl|rfl|rfl<;>rfl
structure HeapV (w:World)(B bn g c:Nat)(l:List HIt):Prop where
 var:ag w bn [Vs g l.length c] 100
 row:eR w B g c l
theorem HeapV.ne {l:List HIt}(h:HeapV w B bn g c l):bn≠g:=λe=>by
 subst e;obtain⟨j,f,i,a,b,k⟩:=h.row;have d:=h.var.symm.trans b;simp at d
theorem Ow {l:List HIt}(h:HeapV w B bn g c l)(hB:B<=bn)(a:HIt)(hl:l.length<=1000000000000):Calls prog 287 #[Vp bn,.iface 107 (hV a)] w λe w'=>e=.returned (.tuple #[])/\∃g' c',HeapV w' B bn g' c' (l++[a])/\But (λk=>k=bn\/k=g) w w'/\(g'=g\/w.heap.size<=g'):=by
 obtain⟨G,H,z,C,y⟩:=zz Gs;have U:w.cell? (aD bn 0)=some (Vs g l.length c):=h.var.cell 0;have M:=h.var.lt;have J:=h.row.lt;have A:=h.ne;have T:=h.row.1;have t:Hid ((w.alloc (.cells #[.slice a.ta a.u.length a.tc,Vp a.x,Vp a.y] 107)).drew.ownsRow B 107 3 (Vs g l.length c) l.length (jq l)):=(h.row.own.alloc _);have R:=Cs (hV a);have u:Hid (∀(n:World) (g' q:Nat),n.ownsRow B 107 3 (Vs g' (l.length+1) q) (l.length+1) (jq l++hc a)->(w.alloc (.cells #[.slice a.ta a.u.length a.tc,Vp a.x,Vp a.y] 107)).grownBy n (some g)->(∀k,(Vs g' (l.length+1) q).ownBlock=some k->(Vs g l.length c).ownBlock=some k\/(w.alloc (.cells #[.slice a.ta a.u.length a.tc,Vp a.x,Vp a.y] 107)).drew.heap.size<=k) ->
   n.cell? (aD bn 0)=some (Vs g l.length c)/\n.frozen? (aD bn 0)=false/\bn<n.heap.size/\∃g'' c',HeapV (n.setCell (aD bn 0) (Vs g' (l.length+1) q)) B bn g'' c' (l++[a])/\But (λk=>k=bn\/k=g) w (n.setCell (aD bn 0) (Vs g' (l.length+1) q))/\(g''=g\/w.heap.size<=g'')):=λn g' q d b m=>by
  rw[<-ES]at d;obtain⟨x,I⟩:=RM d;have r:=(h.var.alloc (.cells #[.slice a.ta a.u.length a.tc,Vp a.x,Vp a.y] 107)).grown b (λe=>by injection e with e;exact A e);have F:But (λk=>k=bn\/k=g) w n:=(But.below ((zE w.heap.size w).alloc (zA _) (.cells #[.slice a.ta a.u.length a.tc,Vp a.x,Vp a.y] 107))).grown b (λk e=>by cases e;exact .inl (.inr rfl));have s:g'=g\/w.heap.size<=g':=by
   rcases m g' rfl with e|e
   ·injection e with e;exact .inl e.symm
   ·have K:(w.alloc (.cells #[.slice a.ta a.u.length a.tc,Vp a.x,Vp a.y] 107)).heap.size<=g':=e;simp at K;exact .inr (by omega)
  have D:g'≠bn:=by
   rcases s with e|e
   ·rw[e];exact λe=>A e.symm
   ·omega
  refine⟨r.cell 0,r.frozen 0,r.lt,g',q,⟨?_,x.block (zk _ _ _ _ D)⟩,F.setCell (p:=(aD bn 0)) (.inl (.inl rfl)) _,s⟩;rw[<-I];exact r.set 0 _
 go_enter func287,ntmps287;go_wp2_with fail;refine yW (S:=λ_:World=>True) (by kernel_rfl) trivial (λhHeld=>?_);refine tk 0 ?_ (hS:=trivial);simp only[tS];refine tk 1 ?_ (hS:=trivial);simp only[tS];refine tk 2 ?_ (hS:=trivial);simp only[tS];refine tk 4 ?_ (hS:=trivial);simp only[tS];refine tk 5 ?_ (hS:=trivial);simp only[tS];refine wpAnyH_ready (rs:=[3,6]) (by kernel_rfl) (by simp) ?_;refine yM (o:=_) rfl (λj f=>?_) ?_
 ·go_simp;refine f _ _ trivial (λhHeld=>?_)
  try simp only[tS]
  refine di 6 (λj f=>?_);go_simp;refine f _ _ trivial (λhHeld=>?_)
  try simp only[tS]
  refine di 7 (λj f=>?_);rw[zX (by rfl)];obtain⟨L,n,v,d,b,m⟩:=gI (P:=prog) _ B 100 100 107 G (.agg #[Vz,.pointer none,.pointer none]) 3 40 underlying100 H z C y rfl (by decide) _ _ _ t.out (aD w.heap.size 0) 1 1 (hc a) rfl (EU w a) (Ov a) (by unfold maxLen;omega) (by omega) (by simp;omega);obtain⟨g',q,rfl,E⟩:=vg d;have i:=aa (u n g' q d ⟨b.os,b.tape,b.output,b.size,b.block⟩ m);obtain⟨N,Q,O,_⟩:=i.out;unfold Oper.wp;simp[execOp,resolve,invoke,builtin,Act.eval,v,Result.andThen];refine f _ _ trivial (λhHeld=>?_)
  try simp only[tS]
  refine tk 8 ?_ (hS:=trivial);simp only[tS];refine di 9 (λj f=>?_);go_simp;refine f _ _ trivial (λhHeld=>?_)
  try simp only[tS]
  refine yV (by kernel_rfl) ?_ _;go_wp2_with fail
  go_end0
  exact⟨rfl,i.2.2.2⟩
 refine yM (o:=_) rfl (λj f=>?_) xJ;go_simp;refine f _ _ trivial (λhHeld=>?_)
 try simp only[tS]
 refine di 3 (λj f=>?_);go_simp;refine f _ _ trivial (λhHeld=>?_)
 try simp only[tS]
 refine di 7 (λj f=>?_);rw[zX (by rfl)];obtain⟨L,n,v,d,b,m⟩:=gI (P:=prog) _ B 100 100 107 G (.agg #[Vz,.pointer none,.pointer none]) 3 40 underlying100 H z C y rfl (by decide) _ _ _ t.out (aD w.heap.size 0) 1 1 (hc a) rfl (EU w a) (Ov a) (by unfold maxLen;omega) (by omega) (by simp;omega);obtain⟨g',q,rfl,E⟩:=vg d;have i:=aa (u n g' q d ⟨b.os,b.tape,b.output,b.size,b.block⟩ m);obtain⟨N,Q,O,_⟩:=i.out;unfold Oper.wp;simp[execOp,resolve,invoke,builtin,Act.eval,v,Result.andThen];refine f _ _ trivial (λhHeld=>?_)
 try simp only[tS]
 refine tk 8 ?_ (hS:=trivial);simp only[tS];refine di 9 (λj f=>?_);go_simp;refine f _ _ trivial (λhHeld=>?_)
 try simp only[tS]
 refine yV (by kernel_rfl) ?_ _;go_wp2_with fail
 go_end0
 exact⟨rfl,i.2.2.2⟩
theorem RN {l:List HIt}{a:HIt}(h:HeapV w B bn g c (l++[a]))(hl:l.length<=1000000000000):Calls prog 286 #[Vp bn] w λe w'=>e=.returned (.iface 107 (hV a))/\HeapV w' B bn g c l/\But (λk=>k=bn) w w':=by
 have b:(l++[a]).length=l.length+1:=by simp
 have G:w.cell? (aD bn 0)=some (Vs g (l.length+1) c):=by have:=h.var.cell 0;rw[b]at this;exact this
 obtain⟨I,E,F⟩:=h.row.cells (i:=l.length) (a:=a) (by simp);have n:=h.row.lt;have z:=h.var.lt;have x:=h.var.frozen 0;have d:=h.row.2.1;rw[b]at d;have t:((l.length:Int)+1)<=(c:Int):=by omega
 have v:(0:Int)<=(c:Int):=by omega
 have y:(l.length:Int)<=(c:Int):=by omega
 have H:(0:Int)<=(l.length:Int):=zK _;have q:=h.ne;have m:Hid (∀o:Obj,HeapV ((w.setCell (aD bn 0) (Vs g l.length c)).alloc o) B bn g c l):=λo=>by
  have f:eR w B g c l:=by
   obtain⟨C,D,u,j,r,s⟩:=h.row;rw[ES,zc]at r s;exact⟨C,by omega,u,hc a++j,r,s⟩
  refine⟨(h.var.set 0 (Vs g l.length c)).alloc _,f.block ?_⟩;exact (zS _ _ _ (by simpa [World.setCell]using n)).trans (zk _ _ _ _ (λe=>q e.symm))
 go_enter func286,ntmps286;go_wp2_with fail;go_ret;refine⟨rfl,m _,?_⟩;have A:=(But.refl (λk=>k=bn) w).setCell (p:=(aD bn 0)) (.inl rfl) (Vs g l.length c);exact A.trans (But.below ((zE _ _).alloc (zA _) _))
theorem Cc (b:Nat)(w:World)(v:Value)(h:w.cell? ⟨b,0,none⟩=some v):(method 422 98 (.pointer (some ⟨b,0,none⟩)) "Less").run prog w=.ok (285,v) w:=by
 have hk:(prog.info? 98).map (λi=>(i.methods.find? (·.name== "Less")).map λm=>(m.path.isEmpty,m.func))=some (some (true,some (285,false))):=by kernel_rfl
 cases hi:prog.info? 98 with
 |none=>rw[hi]at hk;cases hk
 |some i=>
  rw[hi]at hk;simp only[yw,yG]at hk;cases hf:i.methods.find? (·.name== "Less")with
  |none=>rw[hf]at hk;cases hk
  |some m=>
   rw[hf]at hk;simp only[yw,yG,Prod.mk.injEq]at hk;obtain⟨hp,hm⟩:=hk;have hp2:m.path=#[]:=Array.isEmpty_iff.1 hp;unfold method;simp[typeInfo,hi,hf,hm,hp2,follow,receiverAt,yp underlying98,Place.get,tN,asAddr,loadVar,go_sem,h,isAgg100,Result.andThen]
abbrev fi (a b:HIt):Bool:=bY a.u b.u
theorem ie:Ord fi:=eC.on HIt.u
def eu (w:World)(g bn:Nat)(a:HIt):Prop:=iy w (tv a) a.u/\a.u.length<=1000/\∀o,a.ta=some o->o.block<w.heap.size/\o.block≠g/\o.block≠bn
theorem iy.keep {tv:Value}{u:LZ}(h:iy w tv u)(hs:w.heap.size<=w'.heap.size)(hb:∀a n c,tv=.slice (some a) n c->w'.heap[a.block]?=w.heap[a.block]?):iy w' tv u:=by
 obtain⟨a,c,rfl,e⟩:=h;refine⟨a,c,rfl,λj r g=>?_⟩;obtain⟨b,d,rfl,i,f⟩:=e j r g;exact⟨b,d,rfl,by omega,(zP (w:=w) (w':=w') (a:=⟨b,d+j,none⟩) (hb (aD b d) _ _ rfl)).trans f⟩
theorem eu.but {a:HIt}(h:eu w g bn a)(hb:But (λk=>k=bn\/k=g) w w'):eu w' g bn a:=by
 obtain⟨i,m,b⟩:=h;refine⟨i.keep hb.size (λo n c e=>?_),m,λo d=>⟨by have:=(b o d).1;have:=hb.size;omega,(b o d).2⟩⟩;injection e with e1 e2 e3;obtain⟨f,l,j⟩:=b o e1;exact hb.block _ f (λe=>by rcases e with e|e;exact j e;exact l e)
theorem HeapV.below {w w':World}{B bn g c:Nat}{l:List HIt}(h:HeapV w B bn g c l)(k:Bw w w'):HeapV w' B bn g c l:=⟨h.var.below k,h.row.block (k.block _ h.row.lt)⟩
theorem But.of_off (h:Off g w w'):But (λk=>k=g) w w':=⟨h.os,h.tape,h.output,h.size,λk a b=>h.block k a b⟩
theorem ug {l l':List HIt}(h:l'.Perm l){k:Nat}(hk:k<l.length):gt bG l' k∈l:=by
 have a:k<l'.length:=by rw[h.length_eq];exact hk
 exact h.mem_iff.1 (zU (nc (d:=bG) a))
theorem YU (h:0<j):((j:Int)-1).tdiv 2=(((j-1) / 2:Nat):Int):=by
 obtain⟨k,rfl⟩:∃k,j=k+1:=⟨j-1,by omega⟩;have e:(((k+1:Nat):Int)-1)=(k:Int):=by omega
 rw[e,Nat.add_sub_cancel];rfl
def WZ (w:World)(B bn g c:Nat)(l:List HIt)(k:Nat)(iv:Value)(wr:World):Prop:=∃(j:Nat) (l':List HIt),iv=Vi (j:Int)/\j<=k/\HeapV wr B bn g c l'/\l'.Perm l/\CM fi (gt bG l') l.length j/\But (λk=>k=g) w wr
theorem UQ {l:List HIt}(h:HeapV w B bn g c l)(ht:∀a∈l,eu w g bn a)(hu:CM fi (gt bG l) l.length j)(hl:l.length<=1000000000000):Calls prog 69 #[.iface 98 (Vp bn),Vi j] w λe w'=>e=.returned (.tuple #[])/\∃l',HeapV w' B bn g c l'/\l'.Perm l/\iH fi (gt bG l') l.length/\But (λk=>k=g) w w':=by
 have E:Hid (WZ w B bn g c l j (Vi j) w):=⟨j,l,rfl,zA _,h,List.Perm.refl _,hu,But.refl _ _⟩;have y:Hid (∀(wr:World) (l':List HIt) (i j:Nat),HeapV wr B bn g c l'->l'.Perm l->But (λk=>k=g) w wr->i<l.length->j<l.length->Calls prog 285 #[Vs g l.length c,Vi i,Vi j] wr λe w'=>e=.returned (.bool (fi (gt bG l' i) (gt bG l' j)))/\HeapV w' B bn g c l'/\But (λk=>k=g) w w'/\w'.cell? (aD bn 0)=some (Vs g l.length c)):=λwr l' i j n m b O D=>by
  have f:=m.length_eq;obtain⟨R,_⟩:=n.row.cells (i:=i) (nc (d:=bG) (by omega));obtain⟨U,_⟩:=n.row.cells (i:=j) (nc (d:=bG) (by omega));have M:=(ht _ (ug m O)).but (b.mono λ_ _ h=>.inr h);have X:=(ht _ (ug m D)).but (b.mono λ_ _ h=>.inr h);refine (Es g l.length c i j O D R U M.1 X.1 (by have:=M.2.1;omega)).mono ?_;rintro e w' ⟨rfl,s⟩;have u:=n.below s;have t:=u.var.cell 0;rw[f]at t;exact⟨rfl,u,b.trans (But.below s),t⟩
 have x:Hid (∀(wr:World) (l':List HIt) (j:Nat),HeapV wr B bn g c l'->l'.Perm l->But (λk=>k=g) w wr->CM fi (gt bG l') l.length j->0<j->fi (gt bG l' j) (gt bG l' ((j-1) / 2))=true->Calls prog 288 #[Vs g l.length c,Vi ((j-1) / 2:Nat),Vi j] wr λe w'=>e=.returned (.tuple #[])/\WZ w B bn g c l ((j-1) / 2) (Vi ((j-1) / 2:Nat)) w'):=λwr l' j n m b hu D o=>by
  have f:=m.length_eq;have A:=hu.1;have t:=wu n.row (i:=(j-1) / 2) (j:=j) (by omega) (by omega);rw[f]at t;refine t.mono ?_;rintro e w' ⟨rfl,z,v⟩;refine⟨rfl,(j-1) / 2,_,rfl,zA _,⟨?_,z⟩,(wP bG l' (by omega) (by omega)).trans m,?_,b.trans (But.of_off v)⟩
  ·rw[BF];exact n.var.off v n.ne
  ·rw[Au bG l' (by omega) (by omega)];exact Wq ie hu D o
 have J:=Cc bn;have I:=tO bn;go_enter func69,ntmps69;go_wp2_with fail
 go_loopg [1] j (λk iv wr=>WZ w B bn g c l k iv wr)
 case atStart=>exact E
 case round=>
  obtain⟨j,l',rfl,Z,n,m,hu,b⟩:=hrel;have f:=m.length_eq;have A:=hu.1;by_cases V:j=0
  ·subst V;have q:Hid (∃l',HeapV wr B bn g c l'/\l'.Perm l/\iH fi (gt bG l') l.length/\But (λk=>k=g) w wr):=⟨l',n,m,JU hu (.inl rfl),b⟩;go_wp2
   go_end0
   exact⟨rfl,q⟩
  ·have hq:=YU (j:=j) (by omega);have G:¬((((j-1) / 2:Nat):Int)=(j:Int)):=by omega
   have P:((((j-1) / 2:Nat):Int)==(j:Int))=false:=zD.2 G;have Y:wr.cell? (aD bn 0)=some (Vs g l.length c):=by have:=n.var.cell 0;rw[f]at this;exact this
   have a1:=J wr _ Y;have r:=aa (y wr l' j ((j-1) / 2) n m b A (by omega));have Q:=aa m;have L:=aa hu;cases o:fi (gt bG l' j) (gt bG l' ((j-1) / 2))with
   |false=>
    have q:Hid (∀w',HeapV w' B bn g c l'->But (λk=>k=g) w w'->∃l',HeapV w' B bn g c l'/\l'.Perm l/\iH fi (gt bG l') l.length/\But (λk=>k=g) w w'):=λw' K F=>⟨l',K,Q,JU L (.inr o),F⟩;rw[o]at r;generalize hpe:(j-1) / 2=p at *;go_wp2_with fail;refine r.mono ?_;rintro e w' ⟨rfl,u,b,t⟩;have T:=aa (q w' u b);go_wp2_with fail
    go_end0
    exact⟨rfl,T⟩
   |true=>
    rw[o]at r;have H:=aa (λw' K F=>x w' l' j K Q F L (by omega) o);generalize hpe:(j-1) / 2=p at *;go_wp2_with fail;refine r.mono ?_;rintro e w' ⟨rfl,u,b,t⟩;have W:=I w' _ t;have C:=aa (H w' u b);go_wp2_with fail;refine C.mono ?_;rintro e w2 ⟨rfl,N⟩;have S:=aa N;go_wp2_with fail
    go_roundg p
    all_goals first|omega|exact S
def Xn (w:World)(B bn g c:Nat)(l:List HIt)(n k:Nat)(iv:Value)(wr:World):Prop:=∃(i:Nat) (l':List HIt),iv=Vi (i:Int)/\n-i<=k/\i<=n/\HeapV wr B bn g c l'/\l'.Perm l/\rm fi (gt bG l') n i/\gt bG l' n=gt bG l n/\But (λk=>k=g) w wr
def Od (w:World)(B bn g c:Nat)(l:List HIt)(n:Nat)(w':World):Prop:=∃l',HeapV w' B bn g c l'/\l'.Perm l/\iH fi (gt bG l') n/\gt bG l' n=gt bG l n/\But (λk=>k=g) w w'
theorem Oe {l:List HIt}(h:HeapV w B bn g c l)(ht:∀a∈l,eu w g bn a)(hn:l.length=n+1)(hu:rm fi (gt bG l) n 0)(hl:n<=1000000000000):Calls prog 75 #[.iface 98 (Vp bn),Vi 0,Vi n] w λe w'=>(∃v,e=.returned v)/\Od w B bn g c l n w':=by
 have a4:Hid (Xn w B bn g c l n n (Vi 0) w):=⟨0,l,rfl,by omega,by omega,h,List.Perm.refl _,hu,rfl,But.refl _ _⟩;have u:Hid (∀(wr:World) (b:List HIt) (i j:Nat),HeapV wr B bn g c b->b.Perm l->But (λk=>k=g) w wr->i<l.length->j<l.length->Calls prog 285 #[Vs g (n+1) c,Vi i,Vi j] wr λe w'=>e=.returned (.bool (fi (gt bG b i) (gt bG b j)))/\HeapV w' B bn g c b/\But (λk=>k=g) w w'/\w'.cell? (aD bn 0)=some (Vs g (n+1) c)):=λwr b i j D E f hi hj=>by
  have z:=E.length_eq;obtain⟨a0,_⟩:=D.row.cells (i:=i) (nc (d:=bG) (by omega));obtain⟨b0,_⟩:=D.row.cells (i:=j) (nc (d:=bG) (by omega));have t1:=(ht _ (ug E hi)).but (f.mono λ_ _ h=>.inr h);have t2:=(ht _ (ug E hj)).but (f.mono λ_ _ h=>.inr h);refine (Es g (n+1) c i j (by omega) (by omega) a0 b0 t1.1 t2.1 (by have:=t1.2.1;omega)).mono ?_;rintro e w' ⟨rfl,R⟩;have o:=D.below R;have J:=o.var.cell 0;rw[z,hn]at J;exact⟨rfl,o,f.trans (But.below R),J⟩
 have F:Hid (∀(wr:World) (b:List HIt) (i j:Nat),HeapV wr B bn g c b->b.Perm l->But (λk=>k=g) w wr->rm fi (gt bG b) n i->gt bG b n=gt bG l n->0<j->j<n->(j-1) / 2=i->(∀k,0<k->k<n->(k-1) / 2=i->fi (gt bG b k) (gt bG b j)=false)->fi (gt bG b j) (gt bG b i)=true->Calls prog 288 #[Vs g (n+1) c,Vi i,Vi j] wr λe w'=>e=.returned (.tuple #[])/\Xn w B bn g c l n (n-j) (Vi j) w'):=λwr b i j D E f T y hj a1 a2 hm m=>by
  have z:=E.length_eq;have J:=wu D.row (i:=i) (j:=j) (by omega) (by omega);rw[z,hn]at J;refine J.mono ?_;rintro e w' ⟨rfl,X,S⟩;refine⟨rfl,j,_,rfl,zA _,by omega,⟨?_,X⟩,(wP bG b (by omega) (by omega)).trans E,?_,?_,f.trans (But.of_off S)⟩
  ·rw[BF];exact D.var.off S D.ne
  ·rw[Au bG b (by omega) (by omega)];exact PH ie T hj a1 a2 hm m
  ·rw[Au bG b (by omega) (by omega),<-y];unfold sw;rw[zR (by omega),zR (by omega)]
 have O:=Cc bn;have V:=tO bn;go_enter func75,ntmps75;go_wp2_with fail
 go_loopg [7] n (λk iv wr=>Xn w B bn g c l n k iv wr)
 case atStart=>exact a4
 case round=>
  obtain⟨i,b,rfl,a8,a6,D,E,T,y,f⟩:=hrel;have z:=E.length_eq;have N:=aa E;have W:=aa T;have q:=aa y;have q0:(0:Int)<=(i:Int):=zK _;have q1:(i:Int)<=1000000000000:=by omega
  obtain⟨r,a5⟩:∃r,2*i+1=r:=⟨_,rfl⟩;have e1:2*(i:Int)+1=(r:Int):=by omega
  have q2:(0:Int)<=(r:Int):=zK _;have q3:(r:Int)<=2000000000001:=by omega
  have d2:decide ((r:Int)<0)=false:=zI (by omega);by_cases I:n<=r
  ·have d1:decide ((n:Int)<=(r:Int))=true:=zv (by omega);have s:Hid (Od w B bn g c l n wr):=⟨b,D,E,oV T (λk P M Q=>by omega),y,f⟩;go_wp2_with fail;go_ret;exact⟨⟨_,rfl⟩,s⟩
  ·have d1:decide ((n:Int)<=(r:Int))=false:=zI (by omega);obtain⟨G,a9⟩:∃G,r+1=G:=⟨_,rfl⟩;have e2:(r:Int)+1=(G:Int):=by omega
   have c0:wr.cell? (aD bn 0)=some (Vs g (n+1) c):=by have:=D.var.cell 0;rw[z,hn]at this;exact this
   by_cases H:G<n
   ·have d3:decide ((G:Int)<(n:Int))=true:=zv (by omega);have L:=aa (u wr b G r D E f (by omega) (by omega));have a7:=O wr _ c0;cases hc21:fi (gt bG b G) (gt bG b r)with
    |true=>
     rw[hc21]at L;have x:∀k,0<k->k<n->(k-1) / 2=i->fi (gt bG b k) (gt bG b G)=false:=λk P M Q=>by
      have:k=r\/k=G:=by omega
      rcases this with rfl|rfl
      ·exact ie.as _ _ hc21
      ·exact ie.irr _
     go_wp2_with fail;refine L.mono ?_;rintro e w' ⟨rfl,o,f,J⟩;have p:=aa (u w' b G i o N f (by omega) (by omega));have Y:=O w' _ J;cases m:fi (gt bG b G) (gt bG b i)with
     |false=>
      have s:Hid (∀w',HeapV w' B bn g c b->But (λk=>k=g) w w'->Od w B bn g c l n w'):=λw' I H=>⟨b,I,N,oV W (λk P M Q=>ie.tr _ _ _ m (x k P M Q)),q,H⟩;rw[m]at p;go_wp2_with fail;refine p.mono ?_;rintro e t ⟨rfl,o,f,A⟩;have HF:=aa (s t o f);go_wp2_with fail;go_ret;exact⟨⟨_,rfl⟩,HF⟩
     |true=>
      rw[m]at p;have K:=aa (λt I H=>F t b i G I N H W q (by omega) (by omega) (by omega) x m);go_wp2_with fail;refine p.mono ?_;rintro e t ⟨rfl,o,f,A⟩;have Z:=V t _ A;have C:=aa (K t o f);go_wp2_with fail;refine C.mono ?_;rintro e w3 ⟨rfl,U⟩;have HS:=aa U;go_wp2_with fail
      go_roundg (n-G)
      all_goals first|omega|exact HS
    |false=>
     rw[hc21]at L;have x:∀k,0<k->k<n->(k-1) / 2=i->fi (gt bG b k) (gt bG b r)=false:=λk P M Q=>by
      have:k=r\/k=G:=by omega
      rcases this with rfl|rfl
      ·exact ie.irr _
      ·exact hc21
     go_wp2_with fail;refine L.mono ?_;rintro e w' ⟨rfl,o,f,J⟩;have p:=aa (u w' b r i o N f (by omega) (by omega));have Y:=O w' _ J;cases m:fi (gt bG b r) (gt bG b i)with
     |false=>
      have s:Hid (∀w',HeapV w' B bn g c b->But (λk=>k=g) w w'->Od w B bn g c l n w'):=λw' I H=>⟨b,I,N,oV W (λk P M Q=>ie.tr _ _ _ m (x k P M Q)),q,H⟩;rw[m]at p;go_wp2_with fail;refine p.mono ?_;rintro e t ⟨rfl,o,f,A⟩;have HF:=aa (s t o f);go_wp2_with fail;go_ret;exact⟨⟨_,rfl⟩,HF⟩
     |true=>
      rw[m]at p;have K:=aa (λt I H=>F t b i r I N H W q (by omega) (by omega) (by omega) x m);go_wp2_with fail;refine p.mono ?_;rintro e t ⟨rfl,o,f,A⟩;have Z:=V t _ A;have C:=aa (K t o f);go_wp2_with fail;refine C.mono ?_;rintro e w3 ⟨rfl,U⟩;have HS:=aa U;go_wp2_with fail
      go_roundg (n-r)
      all_goals first|omega|exact HS
   ·have d3:decide ((G:Int)<(n:Int))=false:=zI (by omega);have x:∀k,0<k->k<n->(k-1) / 2=i->fi (gt bG b k) (gt bG b r)=false:=λk P M Q=>by
     have:k=r:=by omega
     rw[this];exact ie.irr _
    have o:=D;have J:=c0;obtain⟨w',a3⟩:∃w',w'=wr:=⟨_,rfl⟩;subst a3;have p:=aa (u w' b r i o N f (by omega) (by omega));have Y:=O w' _ J;cases m:fi (gt bG b r) (gt bG b i)with
    |false=>
     have s:Hid (∀w',HeapV w' B bn g c b->But (λk=>k=g) w w'->Od w B bn g c l n w'):=λw' I H=>⟨b,I,N,oV W (λk P M Q=>ie.tr _ _ _ m (x k P M Q)),q,H⟩;rw[m]at p;go_wp2_with fail;refine p.mono ?_;rintro e t ⟨rfl,o,f,A⟩;have HF:=aa (s t o f);go_wp2_with fail;go_ret;exact⟨⟨_,rfl⟩,HF⟩
    |true=>
     rw[m]at p;have K:=aa (λt I H=>F t b i r I N H W q (by omega) (by omega) (by omega) x m);go_wp2_with fail;refine p.mono ?_;rintro e t ⟨rfl,o,f,A⟩;have Z:=V t _ A;have C:=aa (K t o f);go_wp2_with fail;refine C.mono ?_;rintro e w3 ⟨rfl,U⟩;have HS:=aa U;go_wp2_with fail
     go_roundg (n-r)
     all_goals first|omega|exact HS
structure Wait (w:World)(B bn:Nat)(l:List HIt)(g c:Nat):Prop where
 heap:HeapV w B bn g c l
 txt:∀a∈l,eu w g bn a
 ord:iH fi (gt bG l) l.length
theorem Jc {l:List HIt}{a:HIt}{k:Nat}(h:k<l.length):gt bG (l++[a]) k=gt bG l k:=by
 unfold gt;rw[yY h]
theorem eu.moved {g':Nat}{a:HIt}(h:eu w g bn a)(hb:But (λk=>k=bn\/k=g) w w')(hg:g'=g\/w.heap.size<=g'):eu w' g' bn a:=by
 obtain⟨f,d,c⟩:=h.but hb;refine⟨f,d,λo b=>⟨(c o b).1,?_,(c o b).2.2⟩⟩;have t:=(h.2.2 o b);rcases hg with e|e
 ·rw[e];exact t.2.1
 ·omega
theorem NI {l:List HIt}(h:Wait w B bn l g c)(hB:B<=bn){a:HIt}(ha:eu w g bn a)(hl:l.length<=100000000000):Calls prog 43 #[.iface 98 (Vp bn),.iface 107 (hV a)] w λe w'=>e=.returned (.tuple #[])/\∃l' g' c',Wait w' B bn l' g' c'/\l'.Perm (a::l)/\But (λk=>k=bn\/k=g) w w'/\(g'=g\/w.heap.size<=g'):=by
 have I:=aa (Ow h.heap hB a (by omega));have D:=Qb bn;have q:=Gi bn;have v:Hid (∀(i:World) (g' c':Nat),HeapV i B bn g' c' (l++[a])->But (λk=>k=bn\/k=g) w i->(g'=g\/w.heap.size<=g')->Calls prog 69 #[.iface 98 (Vp bn),Vi l.length] i λe w'=>e=.returned (.tuple #[])/\∃l' g' c',Wait w' B bn l' g' c'/\l'.Perm (a::l)/\But (λk=>k=bn\/k=g) w w'/\(g'=g\/w.heap.size<=g')):=λi g' c' n d j=>by
  have o:∀x∈l++[a],eu i g' bn x:=λx b=>by
   rcases zM.1 b with b|b
   ·exact (h.txt x b).moved d j
   ·simp at b;subst b;exact ha.moved d j
  have f:(l++[a]).length=l.length+1:=by simp
  have s:CM fi (gt bG (l++[a])) (l++[a]).length l.length:=by
   rw[f];exact To (Av h.ord λk r=>(Jc r).symm)
  refine (UQ n o s (by omega)).mono ?_;rintro e w' ⟨rfl,l',H,t,G,m⟩;have y:But (λk=>k=bn\/k=g') i w':=m.mono λ_ _ e=>.inr e;refine⟨rfl,l',g',c',⟨H,λx b=>(o x (t.mem_iff.1 b)).but y,by rw[t.length_eq];exact G⟩,t.trans (List.perm_append_singleton a l),?_,j⟩;refine⟨m.os.trans d.os,m.tape.trans d.tape,m.output.trans d.output,zJ d.size m.size,λk r p=>(m.block k (zF r d.size) (λe=>?_)).trans (d.block k r p)⟩;subst e;rcases j with e|e
  ·exact p (.inr e)
  ·omega
 go_enter func43,ntmps43;go_wp2_with fail;refine I.mono ?_;rintro e i ⟨rfl,g',c',n,d,j⟩;have f:(l++[a]).length=l.length+1:=by simp
 have F:i.cell? (aD bn 0)=some (Vs g' (l.length+1) c'):=by have:=n.var.cell 0;rw[f]at this;exact this
 have A:=q i _ F;have E:=aa (v i g' c' n d j);have L:((l.length+1:Nat):Int)-1=(l.length:Int):=by omega
 have K:(l.length:Int)+1-1=(l.length:Int):=by omega
 go_wp2_with (go_at_call 45;refine (uN _ _ _ _).mono ?_;rintro e w' ⟨rfl,z⟩;have u:=z.symm;subst u);refine E.mono ?_;rintro e J ⟨rfl,b⟩;have C:=aa b;go_wp2_with fail
 go_end0
 exact⟨rfl,C⟩
theorem QY {l:List HIt}(h:Wait w B bn l g c)(h0:l≠[])(hl:l.length<=100000000000):Calls prog 46 #[.iface 98 (Vp bn)] w λe w'=>∃a l',e=.returned (.iface 107 (hV a))/\Wait w' B bn l' g c/\l.Perm (a::l')/\(∀x∈l,fi x a=false)/\But (λk=>k=bn\/k=g) w w':=by
 obtain⟨n,G⟩:∃n,l.length=n+1:=⟨l.length-1,by have:l.length≠0:=λe=>h0 (zq.1 e);omega⟩;have T:w.cell? (aD bn 0)=some (Vs g (n+1) c):=by have:=h.heap.var.cell 0;rw[G]at this;exact this
 have W:=Gi bn w _ T;have a0:=tO bn w _ T;have U:=TH bn;have D:=aa (wu h.heap.row (i:=0) (j:=n) (by omega) (by omega));rw[G]at D;have K:Hid (∀p,eR p B g c (qi bG l 0 n)->Off g w p->Calls prog 75 #[.iface 98 (Vp bn),Vi 0,Vi n] p λe w'=>(∃v,e=.returned v)/\∃b,HeapV w' B bn g c (b++[gt bG l 0])/\l.Perm (gt bG l 0::b)/\iH fi (gt bG b) b.length/\But (λk=>k=g) w w'):=λp f d=>by
  have q:=BF bG l 0 n;have s:HeapV p B bn g c (qi bG l 0 n):=⟨by rw[q];exact h.heap.var.off d h.heap.ne,f⟩;have m:=wP bG l (i:=0) (j:=n) (by omega) (by omega);have y:=Au bG l (i:=0) (j:=n) (by omega) (by omega);have C:=But.of_off d;have P:∀x∈qi bG l 0 n,eu p g bn x:=λx o=>(h.txt x (m.mem_iff.1 o)).but (C.mono λ_ _ e=>.inr e);refine (Oe (n:=n) s P (by omega) (by rw[y];have:=h.ord;rw[G]at this;exact Mu this) (by omega)).mono ?_;rintro e w' ⟨he,l',Q,H,Y,h4,Z⟩;have M:l'.length=n+1:=by rw[H.length_eq,q,G]
  have r:gt bG l' n=gt bG l 0:=by
   rw[h4,y];unfold sw;rw[zX rfl]
  obtain⟨b,R⟩:∃b,l'=b++[gt bG l 0]:=by
   refine⟨l'.take n,?_⟩;have F:=dU (l:=l') (i:=n) (x:=gt bG l 0) (by rw[<-r];exact nc (by omega));rw[yF (by omega)]at F;exact F
  subst R;have z:b.length=n:=by simp at M;omega
  refine⟨he,b,Q,((H.trans m).symm).trans (List.perm_append_singleton _ b),?_,C.trans Z⟩;rw[z];exact Av Y λk L=>Jc (by omega)
 have A:Hid (∀t b,HeapV t B bn g c (b++[gt bG l 0])->l.Perm (gt bG l 0::b)->iH fi (gt bG b) b.length->But (λk=>k=g) w t->Calls prog 286 #[Vp bn] t λe w'=>∃a l',e=.returned (.iface 107 (hV a))/\Wait w' B bn l' g c/\l.Perm (a::l')/\(∀x∈l,fi x a=false)/\But (λk=>k=bn\/k=g) w w'):=λt b s u J I=>by
  have z:b.length=n:=by have:=u.length_eq;simp at this;omega
  refine (RN s (by omega)).mono ?_;rintro e w' ⟨rfl,Q,H⟩;have E:But (λk=>k=bn\/k=g) w w':=(I.mono λ_ _ e=>.inr e).trans (H.mono λ_ _ e=>.inl e);refine⟨gt bG l 0,b,rfl,⟨Q,λx o=>(h.txt x (u.mem_iff.2 (by simp[o]))).but E,J⟩,u,λx o=>?_,E⟩;obtain⟨k,L,rfl⟩:=List.mem_iff_getElem.1 o;have:=Tn ie h.ord k L;have F:gt bG l k=l[k]:=by unfold gt;rw[zB L];rfl
  rw[F]at this;exact this
 have e9:((n+1:Nat):Int)-1=(n:Int):=by omega
 have e8:(n:Int)+1-1=(n:Int):=by omega
 go_enter func46,ntmps46;go_wp2_with (go_at_call 45;refine (uN _ _ _ _).mono ?_;rintro e w' ⟨rfl,S⟩;have O:=S.symm;subst O);refine D.mono ?_;rintro e p ⟨rfl,f,d⟩;have X:=aa (K p f d);go_wp2_with fail;refine X.mono ?_;rintro e t ⟨⟨v,rfl⟩,b,s,u,J,I⟩;have N:=aa (A t b s u J I);go_wp2_with fail;refine N.mono ?_;rintro e w3 ⟨a,l',rfl,o⟩;have V:=aa o;go_wp2_with fail;go_ret;exact⟨a,l',rfl,V⟩
