import Derived.Test.YtebnghmioamheaaGreatDoorM01
import Derived.Test.YtebnghmioamheaaGreatDoorM05
import Derived.Test.YtebnghmioamheaaGreatDoorM10
set_option maxHeartbeats 1000000
set_option maxRecDepth 100000
set_option linter.all false
namespace Go.Proofs.YtebnghmioamheaaGreatDoor
open Go.RowKit Brm Tryz
variable {w:World}
def Zk (W:World):Prop:=Lib.Utf8Tabs 0 1 W
def jz (w:World):Prop:=7<=w.heap.size/\∀W:World,(∀k,k<7->W.heap[k]?=w.heap[k]?)->Zk W
theorem jz.off {w':World}{b:Nat}(h:jz w)(k:Off b w w')(hb:7<=b):jz w' :=
 ⟨zJ h.1 k.size,λW c=>h.2 W (λi a=>(c i a).trans (k.block i (zF a h.1) (by omega)))⟩
theorem jz.below {w':World}(h:jz w)(k:Bw w w'):jz w' :=
 ⟨zJ h.1 k.size,λW b=>h.2 W (λi a=>(b i a).trans (k.block i (zF a h.1)))⟩
theorem jc (s:ByteArray)(k:Nat):(s.get! k).toNat=am (af s) k:=by
 unfold am af;rw[xM];rcases Nat.lt_or_ge k s.data.size with h|h
 ·rw[zB (by simpa using h)];simp[ByteArray.get!];rw[getElem!_pos s.data k h]
 ·rw[List.getElem?_eq_none (by simpa using h)];simp[ByteArray.get!,Array.getElem!_eq_getD];rw[xI h];rfl
theorem IL (s:ByteArray)(h:1<=s.size):Lib.decodeGo s=aS (af s):=by
 unfold Lib.decodeGo aS;rw[zR (by omega),Lib.decode_at,jc,jc,jc,jc,aL];simp
theorem BQ (s:ByteArray)(hT:jz w)(hs:1<=s.size):Calls prog 77 #[.string s] w λe w'=>e=.returned (.tuple #[.int .i32 (aS (af s)).1,Vi (aS (af s)).2])/\Bw w w':=by
 have:=kY s w (hT.2 w (λ_ _=>rfl));rw[IL s hs]at this;exact this
theorem sf (l:List UInt8)(c:UInt8):(0<=Lib.indexByte l c↔c∈l)/\-1<=Lib.indexByte l c:=by
 induction l with
 |nil=>simp[Lib.indexByte]
 |cons b l ih=>
  unfold Lib.indexByte;by_cases a:b=c
  ·subst a;simp
  ·have f:(b==c)=false:=by simpa using a
   rw[f];by_cases d:Lib.indexByte l c=-1
   ·rw[d];rw[d]at ih;simp at ih ⊢;exact⟨λe=>a e.symm,ih⟩
   ·have g:(Lib.indexByte l c==-1)=false:=by simpa using d
    rw[g];simp only[yR,if_false,zO];refine⟨⟨λh=>.inr (ih.1.1 (by omega)),λh=>?_⟩,by omega⟩;rcases h with h|h
    ·exact absurd h.symm a
    ·have:=ih.1.2 h;omega
theorem GC (s:ByteArray)(r:Int)(w:World)(h0:0<=r)(h1:r<128):Calls prog 194 #[.string s,.int .i32 r] w λe w'=>e=.returned (.bool (el r s))/\Bw w w':=by
 refine (kA s r w h0 h1).mono ?_;rintro e w' ⟨rfl,rfl⟩;refine⟨eM ?_,zE _ _⟩;rw[ze,zY,(sf _ _).1];unfold el;rw[List.any_eq_true];constructor
 ·intro h;refine⟨_,h,?_⟩;rw[UInt8.toNat_ofNat_of_lt' (by show _<256;omega)];simp;omega
 ·rintro⟨x,a,b⟩;have:(x.toNat:Int)=r:=by simpa using b
  have e:r.toNat.toUInt8=x:=by
   rw[<-this];simp
  rw[e];exact a
theorem IM (s:ByteArray)(i:Nat):af (s.extract i s.size)=(af s).drop i:=by
 unfold af;rw[ByteArray.data_extract];simp[Array.toList_extract,List.extract_eq_take_drop];rw[yF];simp
theorem GD {s:ByteArray}(ha:∀x∈af s,x.toNat<128){k:Nat}(h:k<s.size):s[k].toNat<128:=ha _ (by unfold af;exact Array.getElem_mem_toList (by simpa using h))
theorem MU (s:ByteArray)(w:World)(ha:∀x∈af s,x.toNat<128):Calls prog 211 #[.string s,.int .i32 65533] w λe w'=>e=.returned (Vi (-1))/\Bw w w':=by
 have g:=aa ha;go_enter func211,ntmps211;go_wp2
 go_loopw [5] (λ_ wr=>∃a,a<=s.size/\wr=w.iter s a) (λ_ wr=>s.size-wr.iterPos w.heap.size)
 case atStart=>exact⟨0,zW _,rfl⟩
 case round=>
  obtain⟨a,i,rfl⟩:=hrel;by_cases b:a<s.size
  ·have c:=GD g b;have f:=λd=>run_next_ascii (P:=prog) w s a d b c;have h:(((s[a].toNat:Nat):Int)==65533)=false:=zD.2 (by omega);go_wp2
   go_roundw
   case rel=>exact⟨a+1,by omega,rfl⟩
   case measure=>simp;omega
  ·have f:=λd=>run_next_end (P:=prog) w s a d b;go_wp2;go_ret;exact⟨rfl,(zE _ _).alloc (zA _) _⟩
theorem MV {r:Int}(h:runeB r=true):Utf8.valid r=true/\Lib.validRune r=true:=by
 have:=(rune_iff r).1 h;refine⟨?_,?_⟩
 ·unfold Utf8.valid;simp;omega
 ·unfold Lib.validRune;simp;omega
theorem MW {l:List UInt8}(h:∀x∈l,x.toNat<128)(c:UInt8)(hc:128<=c.toNat):Lib.indexByte l c=-1:=by
 have:=sf l c;by_cases a:c∈l
 ·have:=h c a;omega
 ·have b:¬0<=Lib.indexByte l c:=λe=>a (this.1.1 e);omega
theorem MX (s:ByteArray)(r:Int)(w:World)(h5:5<=s.size)(hs:s.size<=1000)(ha:∀x∈af s,x.toNat<128)(hr:runeB r=true)(h128:128<=r)(hne:r≠65533):Calls prog 211 #[.string s,.int .i32 r] w λe w'=>e=.returned (Vi (-1))/\Bw w w':=by
 obtain⟨b,g⟩:=MV hr;have p:=aa (λw=>Af r w);rw[g]at p;obtain⟨z,F,h⟩:=encode_facts r b h128;have I:=aa (λt c w=>pj t c w);generalize hE:Utf8.encode r=E at z F h;have C:∀w,(convert 21 9 (.int .i32 r)).run prog w=.ok (.string E) w:=λw=>by rw[run_convert_int_string w 21 9 .i32 r (by rw[underlying21];rfl) underlying9,hE]
 have P:decide (r<128)=false:=zI (by omega);have Q:(r==65533)=false:=zD.2 hne;obtain⟨K,v⟩:∃K,E.size=K+1:=⟨E.size-1,by omega⟩;have hKs:K<E.size:=by omega
 have a:128<=(E[K]'hKs).toNat:=by
  have:=h (by omega);simpa [v]using this
 have k:K<s.size:=by omega
 have u:=GD ha k;have A:(0:Int)<=r:=by omega
 have B:=aa ha;clear hr b g h ha hne hE;go_enter func211,ntmps211;go_wp2_with fail;refine (p _).mono ?_;rintro e S ⟨rfl,d⟩;have m:=d.symm;subst m;clear d;go_wp2_with fail
 go_step3
 go_wp2_with fail;clear v;have R:(0:Int)<=(K:Int):=zK _;have L:(K:Int)<(s.size:Int):=by omega
 have N:(K:Int)<(E.size:Int):=by omega
 have U:(0:Int)<=(K:Int)+1:=by omega
 have M:(K:Int)+1<=(s.size:Int):=by omega
 have j:IntKind.i64.wrap ((K:Int)+1)=(K:Int)+1:=wrap_small _ (by omega) (by omega);have O:(0:Int)<=((E[K]'hKs).toNat:Int):=zK _;have T:((E[K]'hKs).toNat:Int)<=255:=by have:=(E[K]'hKs).toNat_lt;omega
 have G:((s[K].toNat:Int)==((E[K]'hKs).toNat:Int))=false:=zD.2 (by omega);have n:Hid (∀w,Calls prog 225 #[.string (s.extract (K+1) s.size),.int .u8 ((E[K]'hKs).toNat:Int)] w λe w'=>e=.returned (Vi (-1))/\w'=w):=λw=>by
  have q:=I.out (s.extract (K+1) s.size) ((E[K]'hKs).toNat:Int) w;have y:Lib.indexByte (s.extract (K+1) s.size).data.toList ((((E[K]'hKs).toNat:Int)).toNat.toUInt8)=-1:=by
   refine MW (λx H=>B x ?_) _ ?_
   ·have D:x∈(af s).drop (K+1):=by rw[<-IM];exact H
    exact List.mem_of_mem_drop D
   ·simpa using a
  rw[y]at q;exact q
 go_loop [9,10] (λi f=>i=Vi K/\f=Vi 0) (λ_ _=>0)
 case atStart=>exact⟨rfl,rfl⟩
 case round=>
  obtain⟨rfl,rfl⟩:=hrel;go_wp2_with fail
  go_step3
  go_wp2_with fail
  go_quiet (fail)
  go_wp2_with fail
  go_region_held3 (λw'=>Bw w w')
   (first|exact (aR (zE _ _)).drew|assumption)
   ((first
    |(go_at_call 225;refine (n _).mono ?_;rintro e J ⟨rfl,l⟩;have o:=l.symm;subst o)))
  all_goals
   go_wp2_with fail;refine (show bodyPost prog Tryz.f211 (λe w'=>e=Ending.returned (Value.int IntKind.i64 (-1))/\Bw w w') Exit.ret _ _ from ?_);go_ret;exact⟨rfl,by assumption⟩
theorem DE (s:ByteArray)(r:Int)(w:World)(h5:5<=s.size)(hs:s.size<=1000)(ha:∀x∈af s,x.toNat<128)(hr:runeB r=true)(h128:128<=r):Calls prog 194 #[.string s,.int .i32 r] w λe w'=>e=.returned (.bool false)/\Bw w w':=by
 have c:Hid (Calls prog 211 #[.string s,.int .i32 r] w λe w'=>e=.returned (Vi (-1))/\Bw w w'):=by
  by_cases a:r=65533
  ·subst a;exact MU s w ha
  ·exact MX s r w h5 hs ha hr h128 a
 go_enter func194,ntmps194;go_wp2_with fail;refine c.mono ?_;rintro e f ⟨rfl,b⟩;have d:=aa b;go_wp2;go_ret;exact⟨rfl,d⟩
theorem oi (s:ByteArray)(r:Int)(w:World)(h5:5<=s.size)(hs:s.size<=1000)(ha:∀x∈af s,x.toNat<128)(hr:runeB r=true):Calls prog 194 #[.string s,.int .i32 r] w λe w'=>e=.returned (.bool (el r s))/\Bw w w':=by
 have h:=(rune_iff r).1 hr;by_cases b:r<128
 ·exact GC s r w (by omega) b
 ·have:el r s=false:=by
   unfold el;rw[List.any_eq_false];intro x a;have:=ha x a;simp;omega
  rw[this];exact DE s r w h5 hs ha hr (by omega)
def Mk (w:World)(b:Nat)(a:Option Addr)(c:Nat)(raw:List Int)(i:Nat):Prop:=ag w b [.slice a raw.length c,Vi i] 110/\i<=raw.length/\raw.length<=9223372036854775807 /\
 ∀j x,raw[j]?=some x->∃bb off,a=some (aD bb off)/\bb<b/\w.cell? ⟨bb,off+j,none⟩=some (Vi x)/\-9223372036854775808<=x/\x<=9223372036854775807
def MkX (w:World)(b:Nat):Prop:=∃a c raw i,Mk w b a c raw i
def ZM:List Value:=[.string { data:=#[97] },.string { data:=#[98] },.string { data:=#[99] },.string { data:=#[46] },.string { data:=#[91,97,98,93] },.string { data:=#[91,94,97,93] },.string { data:=#[195,169] },.string { data:=#[92,100] },.string { data:=#[40,97,98,41] }]
def aab:List Value:=[.string { data:=#[] },.string { data:=#[] },.string { data:=#[42] },.string { data:=#[43] },.string { data:=#[63] },.string { data:=#[123,50,125] },.string { data:=#[123,49,44,50,125] }]
def aac (w:World)(b k m:Nat)(j:Nat)(ov kv:Value)(wr:World):Prop:=∃(s:ByteArray) (n:Nat),ov=.string s/\kv=Vi ((n:Int)-1)/\n<=j/\n<=3/\Yl k (af s)/\s.size+n*(m+5)<=3*(m+5)/\MkX wr b/\Off b w wr
def ZH (w:World)(a:Option Addr)(raw:List Int):Prop:=∀j x,raw[j]?=some x->∃bb off,a=some (aD bb off)/\bb<w.heap.size/\w.cell? ⟨bb,off+j,none⟩=some (Vi x)/\-9223372036854775808<=x/\x<=9223372036854775807
def ZS:List (List UInt8):=[[97],[98],[99],[195,169],[49],[10]]
def ZT:List Value:=[.string { data:=#[97] },.string { data:=#[98] },.string { data:=#[99] },.string { data:=#[195,169] },.string { data:=#[49] },.string { data:=#[10] }]
def ZU (w:World)(n:Nat)(j:Nat)(ov iv:Value)(wr:World):Prop:=∃(s:ByteArray) (i:Nat),ov=.string s/\iv=Vi (i:Int)/\i<=n/\i<=8/\8-i<=j/\(∃l,Runes (af s) l)/\s.size<=2*i/\Below w.heap.size w wr
