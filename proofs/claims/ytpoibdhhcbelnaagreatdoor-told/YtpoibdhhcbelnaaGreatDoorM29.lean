/- Walks and plain laws, some texts in one. -/
import Derived.Deep.LoopGhost
import Derived.Deep.RegionHeld3
import Derived.Laws.EntriesVeiled
import Derived.Laws.OwnMore
import Derived.BigQuiet
import Derived.Deep.QuietTactic
import Derived.Test.YtpoibdhhcbelnaaGreatDoorM28
import Derived.Test.YtpoibdhhcbelnaaGreatDoorM09
import Derived.Test.YtpoibdhhcbelnaaGreatDoorM03
namespace Go.Proofs.YtpoibdhhcbelnaaGreatDoor
open Go.Shelf Go.RowKit Go.Lib
structure But (S:Nat->Prop)(w w':World):Prop where
  os:w'.os=w.os
  tape:w'.tape=w.tape
  output:w'.output=w.output
  size:w.heap.size<=w'.heap.size
  block:∀ k,k<w.heap.size->¬ S k->w'.heap[k]?=w.heap[k]?
theorem But.refl (S:Nat->Prop)(w:World):But S w w:=⟨rfl,rfl,rfl,Nat.le_refl _,fun _ _ _=>rfl⟩
theorem But.trans {S:Nat->Prop}{a b c:World}(h:But S a b)(k:But S b c):But S a c :=
  ⟨k.os.trans h.os,k.tape.trans h.tape,k.output.trans h.output,Nat.le_trans h.size k.size,fun i hi hn=>(k.block i (Nat.lt_of_lt_of_le hi h.size) hn).trans (h.block i hi hn)⟩
theorem But.mono {S T:Nat->Prop}{a b:World}(h:But S a b)(k:∀ i,i<a.heap.size->S i->T i):But T a b:=⟨h.os,h.tape,h.output,h.size,fun i hi hn=>h.block i hi (fun hs=>hn (k i hi hs))⟩
theorem But.below {S:Nat->Prop}{w w':World}(h:Below w.heap.size w w'):But S w w':=⟨h.os,h.tape,h.output,h.size,fun k hk _=>h.block k hk⟩
theorem But.toBelow {S:Nat->Prop}{B:Nat}{w w':World}(h:But S w w')(hS:∀ k,S k->B<=k)(hB:B<=w.heap.size):Below B w w':=⟨h.os,h.tape,h.output,h.size,fun k hk=>h.block k (by omega) (fun hs=>by have:=hS k hs;omega)⟩
theorem But.setCell {S:Nat->Prop}{a w:World}(h:But S a w){p:Addr}(hp:S p.block\/a.heap.size<=p.block)(u:Value):But S a (w.setCell p u) :=
  ⟨h.os,h.tape,h.output,by have:=h.size;simpa [World.setCell] using this,fun k hk hn=>(Below.heap_setCell _ _ _ _ (fun e=>by subst e;rcases hp with hp | hp;exact hn hp;omega)).trans (h.block k hk hn)⟩
theorem But.turned {S:Nat->Prop}{a w w':World}{b:Nat}(h:But S a w)(ht:w.mapTurned w' b)(hp:S b):But S a w':=by
  have hg:=ht.grown
  exact h.trans ⟨hg.os,hg.tape,hg.output,hg.size,fun k hk hn=>hg.block k hk (fun e=>by injection e with e;subst e;exact hn hp)⟩
theorem Blk.but {S:Nat->Prop}{w w':World}{b:Nat}{cs:List Value}{T:TypeId}(h:Blk w b cs T)(k:But S w w')(hn:¬ S b):Blk w' b cs T:=(k.block b h.lt hn).trans h
theorem But.cell {S:Nat->Prop}{w w':World}(h:But S w w'){p:Addr}(hp:p.block<w.heap.size)(hn:¬ S p.block):w'.cell? p=w.cell? p:=World.cell?_of_block (w:=w) (h.block p.block hp hn)
theorem Blk.turned {w w':World}{b c:Nat}{cs:List Value}{T:TypeId}(h:Blk w b cs T)(ht:w.mapTurned w' c)(hne:b≠c):Blk w' b cs T:=(ht.grown.block b h.lt (fun e=>by injection e with e;exact hne e)).trans h
set_option maxRecDepth 100000 in
set_option maxHeartbeats 1000000 in
theorem remember_any (F:Nat)(cp:Array Value)(w:World):Calls Tryz.prog 180 #[.func (.func F) #[] cp] w fun e w'=>∃ k b mm,e=.returned (.func (.func 220) #[] #[.pointer (some ⟨k,0,none⟩),.pointer (some ⟨b,0,none⟩)]) /\
    Below w.heap.size w w'/\(w.heap.size<=k/\w.heap.size<=b/\w.heap.size<=mm/\k≠mm/\b≠mm/\k≠b)/\Blk w' b [.func (.func F) #[] cp] 167/\Blk w' k [.map (some mm)] 289/\w'.heap[mm]?=some (.map #[] 0):=by
  have hmm:=@run_makeMap Tryz.prog
  go_enter Tryz.func180,Tryz.ntmps180
  go_wp2_with fail
  go_ret
  refine ⟨w.heap.size+1+1,w.heap.size,w.heap.size+1,rfl,(((Below.refl _ w).alloc (Nat.le_refl _) _).alloc (by simp) _).alloc (by simp;omega) _,by omega,?_,?_,?_⟩
  · exact (((Blk.new w [.func (.func F) #[] cp] 167).alloc _).alloc _)
  · have:=Blk.new ((w.alloc (.cells #[.func (.func F) #[] cp] 167)).alloc (.map #[] 0)) [.map (some (w.heap.size+1))] 289
    simpa using this
  · rw [Below.heap_alloc _ _ _ (by simp)]
    have:=(MapKept.heap_alloc (w.alloc (.cells #[.func (.func F) #[] cp] 167)) (.map #[] 0)).1
    simpa using this
def IntsW (w:World)(a:Option Addr)(ns:List Int):Prop:=∀ j x,ns[j]?=some x->∃ bb off,a=some ⟨bb,off,none⟩/\bb<w.heap.size/\w.cell? ⟨bb,off+j,none⟩=some (.int .i64 x)/\-9223372036854775808<=x/\x<=9223372036854775807
theorem IntsW.below {w w':World}{a:Option Addr}{raw:List Int}(h:IntsW w a raw)(k:Below w.heap.size w w'):IntsW w' a raw:=by
  intro j x hx
  obtain ⟨bb,off,rfl,hb,hc,hr⟩:=h j x hx
  exact ⟨bb,off,rfl,Nat.lt_of_lt_of_le hb k.size,(k.cell (p:=⟨bb,_,none⟩) hb).trans hc,hr⟩
def PtsW (w:World)(a:Option Addr)(ps:List Nat)(num:Nat->Int):Prop:=∀ j y,ps[j]?=some y->∃ bb off,a=some ⟨bb,off,none⟩/\bb<w.heap.size/\y<w.heap.size/\w.cell? ⟨bb,off+j,none⟩=some (.pointer (some ⟨y,0,none⟩))/\w.cell? ⟨y,0,none⟩=some (.int .i64 (num y))/\-9223372036854775808<=num y/\num y<=9223372036854775807
theorem PtsW.below {w w':World}{a:Option Addr}{ps:List Nat}{num:Nat->Int}(h:PtsW w a ps num)(k:Below w.heap.size w w'):PtsW w' a ps num:=by
  intro j x hx
  obtain ⟨bb,off,rfl,hb,hy,hc,hn,hr⟩:=h j x hx
  exact ⟨bb,off,rfl,Nat.lt_of_lt_of_le hb k.size,Nat.lt_of_lt_of_le hy k.size,(k.cell (p:=⟨bb,_,none⟩) hb).trans hc,(k.cell (p:=⟨x,_,none⟩) hy).trans hn,hr⟩
def tailOf (ns:List Int):List UInt8:=(ns.map fun n=>32::Lib.itoa n).flatten
def nameOf (kd:Int)(ns qs:List Int):List UInt8:=Lib.itoa kd++tailOf ns++tailOf qs
theorem tailOf_snoc (ns:List Int)(n:Int):tailOf (ns++[n])=tailOf ns++(32::Lib.itoa n):=by simp [tailOf]
theorem take_snocL {α:Type}{l:List α}{i:Nat}{x:α}(h:l[i]?=some x):l.take (i+1)=l.take i++[x]:=by
  obtain ⟨hl,rfl⟩:=List.getElem?_eq_some_iff.1 h
  exact List.take_succ_eq_append_getElem hl
def MS (w:World)(m bm:Nat)(nn ee:Option Nat)(f:List UInt8->Option Nat)(n:Nat):Prop:=Blk w m [.map (some bm),NPtr nn,NPtr ee] 224/\MapN w bm f n/\m≠bm
theorem MS.below {w w':World}{m bm:Nat}{nn ee:Option Nat}{f:List UInt8->Option Nat}{n:Nat}(h:MS w m bm nn ee f n)(k:Below w.heap.size w w'):MS w' m bm nn ee f n:=⟨h.1.below k,h.2.1.below k,h.2.2⟩
def RestB (w:World)(x:Nat)(num kd:Int)(pa:Option Addr)(pn pc:Nat)(en:Bool)(fv:Value):Prop:=Blk w x [.int .i64 num,.int .i64 kd,.slice pa pn pc,.bool en,fv] 169
def NameI (w:World)(pre:List UInt8)(z:Nat)(ns:List Int)(j:Nat)(nv iv:Value)(wr:World):Prop:=∃ (i:Nat) (s:ByteArray),iv=.int .i64 (i:Int)/\i<=ns.length/\ns.length-i<=j/\nv=.string s/\bytesOf s=pre++tailOf (ns.take i)/\s.size<=z+22*i/\Below w.heap.size w wr
end Go.Proofs.YtpoibdhhcbelnaaGreatDoor
namespace Go.Proofs.YtpoibdhhcbelnaaGreatDoor
open Go.Shelf Go.RowKit
theorem Tryz.info163:(Tryz.prog.info? 163).map (fun i=>(i.zero,i.size,i.bytes))=some (some (.agg #[.slice none 0 0,.pointer none,.pointer none]),3,40):=by kernel_rfl
abbrev begunV (r s:Nat):Value:=.agg #[.slice none 0 0,.pointer (some ⟨r,0,none⟩),.pointer (some ⟨s,0,none⟩)]
abbrev begunL (r s:Nat):List Value:=[.slice none 0 0,.pointer (some ⟨r,0,none⟩),.pointer (some ⟨s,0,none⟩)]
def Heap1 (w:World)(B bn r s:Nat):Prop:=∃ g c,Blk w bn [.slice (some ⟨g,0,none⟩) 1 c] 156/\w.ownsRow B 163 3 (.slice (some ⟨g,0,none⟩) 1 c) 1 (begunL r s)
theorem But.grown {S:Nat->Prop}{a w w':World}{row:Option Nat}(h:But S a w)(hg:w.grownBy w' row)(hr:∀ k,row=some k->S k\/a.heap.size<=k):But S a w' :=
  ⟨hg.os.trans h.os,hg.tape.trans h.tape,hg.output.trans h.output,Nat.le_trans h.size hg.size,fun k hk hn=>(hg.block k (Nat.lt_of_lt_of_le hk h.size) (fun e=>by rcases hr k e.symm with h1 | h1;exact hn h1;omega)).trans (h.block k hk hn)⟩
theorem assert_begun (v:Value)(w:World):(Instr.typeAssert (.iface 163 v) 20 163 false).run Tryz.prog w=.ok v w:=by
  simp [Instr.typeAssert,run_underlying Tryz.underlying163,Result.andThen]
end Go.Proofs.YtpoibdhhcbelnaaGreatDoor
namespace Go.Proofs.YtpoibdhhcbelnaaGreatDoor
open Go.Shelf Go.RowKit
theorem meth_push (b : Nat) (w : World) : (method 483 154 (.pointer (some ⟨b, 0, none⟩)) "Push").run Tryz.prog w = .ok (348, .pointer (some ⟨b, 0, none⟩)) w := by kernel_rfl
theorem meth_pop (b : Nat) (w : World) : (method 483 154 (.pointer (some ⟨b, 0, none⟩)) "Pop").run Tryz.prog w = .ok (347, .pointer (some ⟨b, 0, none⟩)) w := by kernel_rfl
theorem wrap_some (a:Addr)(x y:String)(w:World):(Builtin.ssaWrapNilChk_ #[154] 154 #[.pointer (some a),strVal x,strVal y]).run Tryz.prog w=.ok (.pointer (some a)) w:=rfl
theorem meth_len (b : Nat) (w : World) (v : Value) (h : w.cell? ⟨b, 0, none⟩ = some v) : (method 483 154 (.pointer (some ⟨b, 0, none⟩)) "Len").run Tryz.prog w = .ok (93, v) w := by
  have hk : (Tryz.prog.info? 154).map (fun i => (i.methods.find? (·.name == "Len")).map fun m => (m.path.isEmpty, m.func)) = some (some (true, some (93, false))) := by kernel_rfl
  cases hi:Tryz.prog.info? 154 with
  | none=>rw [hi] at hk;cases hk
  | some i =>
    rw [hi] at hk
    simp only [Option.map_some,Option.some.injEq] at hk
    cases hf : i.methods.find? (·.name == "Len") with
    | none=>rw [hf] at hk;cases hk
    | some m =>
      rw [hf] at hk
      simp only [Option.map_some,Option.some.injEq,Prod.mk.injEq] at hk
      obtain ⟨hp,hm⟩:=hk
      have hp2:m.path=#[]:=Array.isEmpty_iff.1 hp
      unfold method
      simp [typeInfo,hi,hf,hm,hp2,follow,receiverAt,run_underlying Tryz.underlying154,Place.get,wrap_some,asAddr,loadVar,go_sem,h,Tryz.isAgg156,Result.andThen]
set_option maxRecDepth 100000 in
set_option maxHeartbeats 400000 in
theorem len_any (a:Option Addr)(n c:Nat)(w:World):Calls Tryz.prog 93 #[.slice a n c] w fun e w'=>e=.returned (.int .i64 n)/\w'=w:=by
  go_enter Tryz.func93,Tryz.ntmps93
  go_wp2
  go_ret
  exact ⟨rfl,rfl⟩
theorem meth_swap (b : Nat) (w : World) (v : Value) (h : w.cell? ⟨b, 0, none⟩ = some v) : (method 483 154 (.pointer (some ⟨b, 0, none⟩)) "Swap").run Tryz.prog w = .ok (349, v) w := by
  have hk : (Tryz.prog.info? 154).map (fun i => (i.methods.find? (·.name == "Swap")).map fun m => (m.path.isEmpty, m.func)) = some (some (true, some (349, false))) := by kernel_rfl
  cases hi:Tryz.prog.info? 154 with
  | none=>rw [hi] at hk;cases hk
  | some i =>
    rw [hi] at hk
    simp only [Option.map_some,Option.some.injEq] at hk
    cases hf : i.methods.find? (·.name == "Swap") with
    | none=>rw [hf] at hk;cases hk
    | some m =>
      rw [hf] at hk
      simp only [Option.map_some,Option.some.injEq,Prod.mk.injEq] at hk
      obtain ⟨hp,hm⟩:=hk
      have hp2:m.path=#[]:=Array.isEmpty_iff.1 hp
      unfold method
      simp [typeInfo,hi,hf,hm,hp2,follow,receiverAt,run_underlying Tryz.underlying154,Place.get,wrap_some,asAddr,loadVar,go_sem,h,Tryz.isAgg156,Result.andThen]
end Go.Proofs.YtpoibdhhcbelnaaGreatDoor
namespace Go.Proofs.YtpoibdhhcbelnaaGreatDoor
open Go.Shelf Go.RowKit
def cmpI (x y:Int):Int:=if x<y then -1 else if y<x then 1 else 0
def cmpT:List Int->List Int->Int
  | [],[]=>0
  | [],_::_=>-1
  | _::_,[]=>1
  | a::u,b::v=>if a<b then -1 else if b<a then 1 else cmpT u v
theorem cmpT_lex:∀ u v:List Int,u.length=v.length->(cmpT u v<0↔lexB u v=true)
  | [],[],_=>by simp [cmpT,lexB]
  | [],_::_,h=>by simp at h
  | _::_,[],h=>by simp at h
  | a::u,b::v,h=>by
    have ih:=cmpT_lex u v (by simpa using h)
    simp only [cmpT,lexB,Bool.or_eq_true,Bool.and_eq_true,decide_eq_true_eq]
    by_cases h1:a<b
    · simp [h1]
    · by_cases h2:b<a
      · simp [h1,h2];omega
      · have e:a=b:=by omega
        simp [e,ih]
def orI (x y:Int):Int:=if x≠0 then x else y
theorem less_iff (u v:List Int):(decide (orI (cmpI u.length v.length) (cmpT u v)<0))=lessT u v:=by
  unfold lessT orI cmpI
  by_cases h1:(u.length:Int)<v.length
  · have:u.length<v.length:=by omega
    simp [h1,this]
  · by_cases h2:(v.length:Int)<u.length
    · have e1:¬ u.length<v.length:=by omega
      have e2:¬ u.length=v.length:=by omega
      simp [h1,h2,e1,e2]
    · have e:u.length=v.length:=by omega
      have:=cmpT_lex u v e
      simp [e]
      cases hb:lexB u v with
      | true=>simpa [hb] using this
      | false=>rw [hb] at this;simp at this;simpa using this
def TxtW (w:World)(tv:Value)(u:List Int):Prop:=∃ a c,tv=.slice a u.length c/\∀ j r,u[j]?=some r->∃ b off,a=some ⟨b,off,none⟩/\b<w.heap.size/\w.cell? ⟨b,off+j,none⟩=some (.int .i32 r)
set_option maxRecDepth 100000 in
set_option maxHeartbeats 1000000 in
theorem nan_rune (x:Int)(W:World):Calls Tryz.prog 353 #[.int .i32 x] W fun e w'=>e=.returned (.bool false)/\w'=W:=by
  go_enter Tryz.func353,Tryz.ntmps353
  go_wp2
  go_ret
  exact ⟨by simp,rfl⟩
set_option maxRecDepth 100000 in
set_option maxHeartbeats 1000000 in
theorem nan_int (x:Int)(W:World):Calls Tryz.prog 218 #[.int .i64 x] W fun e w'=>e=.returned (.bool false)/\w'=W:=by
  go_enter Tryz.func218,Tryz.ntmps218
  go_wp2
  go_ret
  exact ⟨by simp,rfl⟩
set_option maxRecDepth 100000 in
set_option maxHeartbeats 2000000 in
theorem cmp_rune (x y:Int)(W:World):Calls Tryz.prog 352 #[.int .i32 x,.int .i32 y] W fun e w'=>e=.returned (.int .i64 (cmpI x y))/\w'=W:=by
  have hn:=nan_rune
  unfold cmpI
  by_cases h1:x<y
  · have d1:decide (x<y)=true:=decide_eq_true h1
    rw [if_pos h1]
    go_enter Tryz.func352,Tryz.ntmps352
    go_wp2_with (go_at_call 353;refine (hn _ _).mono ?_;rintro e w' ⟨rfl,rfl⟩)
    go_ret
    exact ⟨rfl,rfl⟩
  · have d1:decide (x<y)=false:=decide_eq_false h1
    rw [if_neg h1]
    by_cases h2:y<x
    · have d2:decide (y<x)=true:=decide_eq_true h2
      rw [if_pos h2]
      go_enter Tryz.func352,Tryz.ntmps352
      go_wp2_with (go_at_call 353;refine (hn _ _).mono ?_;rintro e w' ⟨rfl,rfl⟩)
      go_ret
      exact ⟨rfl,rfl⟩
    · have d2:decide (y<x)=false:=decide_eq_false h2
      rw [if_neg h2]
      go_enter Tryz.func352,Tryz.ntmps352
      go_wp2_with (go_at_call 353;refine (hn _ _).mono ?_;rintro e w' ⟨rfl,rfl⟩)
      go_ret
      exact ⟨rfl,rfl⟩
set_option maxRecDepth 100000 in
set_option maxHeartbeats 2000000 in
theorem cmp_int (x y:Int)(W:World):Calls Tryz.prog 175 #[.int .i64 x,.int .i64 y] W fun e w'=>e=.returned (.int .i64 (cmpI x y))/\w'=W:=by
  have hn:=nan_int
  unfold cmpI
  by_cases h1:x<y
  · have d1:decide (x<y)=true:=decide_eq_true h1
    rw [if_pos h1]
    go_enter Tryz.func175,Tryz.ntmps175
    go_wp2_with (go_at_call 218;refine (hn _ _).mono ?_;rintro e w' ⟨rfl,rfl⟩)
    go_ret
    exact ⟨rfl,rfl⟩
  · have d1:decide (x<y)=false:=decide_eq_false h1
    rw [if_neg h1]
    by_cases h2:y<x
    · have d2:decide (y<x)=true:=decide_eq_true h2
      rw [if_pos h2]
      go_enter Tryz.func175,Tryz.ntmps175
      go_wp2_with (go_at_call 218;refine (hn _ _).mono ?_;rintro e w' ⟨rfl,rfl⟩)
      go_ret
      exact ⟨rfl,rfl⟩
    · have d2:decide (y<x)=false:=decide_eq_false h2
      rw [if_neg h2]
      go_enter Tryz.func175,Tryz.ntmps175
      go_wp2_with (go_at_call 218;refine (hn _ _).mono ?_;rintro e w' ⟨rfl,rfl⟩)
      go_ret
      exact ⟨rfl,rfl⟩
set_option maxRecDepth 100000 in
set_option maxHeartbeats 2000000 in
theorem or_int (b:Nat)(x y:Int)(w:World)(c0:w.cell? ⟨b,0,none⟩=some (.int .i64 x))(c1:w.cell? ⟨b,1,none⟩=some (.int .i64 y))(hb:b<w.heap.size):Calls Tryz.prog 350 #[.slice (some ⟨b,0,none⟩) 2 2] w fun e w'=>e=.returned (.int .i64 (orI x y))/\w'=w:=by
  unfold orI
  by_cases h1:x=0
  · have d1:(x != 0)=false:=by simp [h1]
    rw [if_neg (by simp [h1])]
    subst h1
    go_enter Tryz.func350,Tryz.ntmps350
    go_wp2_with fail
    go_loopg [8] 3 (fun j iv wr=>wr=w/\((iv=.int .i64 0/\j=3)\/(iv=.int .i64 1/\j=2)\/(iv=.int .i64 2/\y=0)))
    case atStart=>exact ⟨rfl,.inl ⟨rfl,rfl⟩⟩
    case round =>
      obtain ⟨hw,hrel⟩:=hrel
      subst hw
      rcases hrel with ⟨rfl,hj⟩ | ⟨rfl,hj⟩ | ⟨rfl,hj⟩
      · go_wp2_with fail
        go_roundg 2
        all_goals first | omega | exact ⟨rfl,.inr (.inl ⟨rfl,rfl⟩)⟩
      · by_cases h2:y=0
        · have d2:(y != 0)=false:=by simp [h2]
          go_wp2_with fail
          go_roundg 1
          all_goals first | omega | exact ⟨rfl,.inr (.inr ⟨rfl,h2⟩)⟩
        · have d2:(y != 0)=true:=by simp [h2]
          go_wp2_with fail
          go_ret
          exact ⟨rfl,rfl⟩
      · subst hj
        go_wp2_with fail
        go_ret
        exact ⟨rfl,rfl⟩
  · have d1:(x != 0)=true:=by simp [h1]
    rw [if_pos h1]
    go_enter Tryz.func350,Tryz.ntmps350
    go_wp2_with fail
    go_loopg [8] 3 (fun j iv wr=>wr=w/\iv=.int .i64 0)
    case atStart=>exact ⟨rfl,rfl⟩
    case round =>
      obtain ⟨hw,rfl⟩:=hrel
      subst hw
      go_wp2_with fail
      go_ret
      exact ⟨rfl,rfl⟩
set_option maxRecDepth 100000 in
set_option maxHeartbeats 2000000 in
theorem cmp_text (tu tv:Value)(u v:List Int)(w:World)(hu:TxtW w tu u)(hv:TxtW w tv v)(lu:u.length<=1000000):Calls Tryz.prog 351 #[tu,tv] w fun e w'=>e=.returned (.int .i64 (cmpT u v))/\w'=w:=by
  obtain ⟨au,cu,rfl,hcu⟩:=hu
  obtain ⟨av,cv,rfl,hcv⟩:=hv
  have HCU:=hide hcu
  have HCV:=hide hcv
  clear hcu hcv
  go_enter Tryz.func351,Tryz.ntmps351
  go_wp2_with fail
  go_loopg [11] u.length (fun j iv wr=>wr=w/\∃ i:Nat,iv=.int .i64 (i:Int)/\i<=u.length/\u.length-i<=j/\i<=v.length/\cmpT u v=cmpT (u.drop i) (v.drop i))
  case atStart=>exact ⟨rfl,0,rfl,Nat.zero_le _,by omega,Nat.zero_le _,rfl⟩
  case round =>
    obtain ⟨hw,i,rfl,hil,hj,hiv,hc⟩:=hrel
    subst hw
    have k0:(0:Int)<=(i:Int):=Int.natCast_nonneg _
    by_cases hlt:i<u.length
    · have k1:(i:Int)<(u.length:Int):=by omega
      obtain ⟨x,hx⟩:∃ x,u[i]?=some x:=⟨_,List.getElem?_eq_getElem hlt⟩
      obtain ⟨bu,ou,rfl,hbu,hcx⟩:=HCU.out i x hx
      have du:u.drop i=x::u.drop (i+1):=by rw [List.drop_eq_getElem_cons hlt];congr 1;exact (List.getElem?_eq_some_iff.1 hx).2
      by_cases hlv:i<v.length
      · have k2:decide ((v.length:Int)<=(i:Int))=false:=decide_eq_false (by omega)
        have k3:(i:Int)<(v.length:Int):=by omega
        obtain ⟨y,hy⟩:∃ y,v[i]?=some y:=⟨_,List.getElem?_eq_getElem hlv⟩
        obtain ⟨bv,ov,rfl,hbv,hcy⟩:=HCV.out i y hy
        have dv:v.drop i=y::v.drop (i+1):=by rw [List.drop_eq_getElem_cons hlv];congr 1;exact (List.getElem?_eq_some_iff.1 hy).2
        have HC:=hide (cmp_rune x y)
        rw [du,dv] at hc
        by_cases h0:cmpI x y=0
        · have z0:(cmpI x y != 0)=false:=by simp [h0]
          have hc2:cmpT u v=cmpT (u.drop (i+1)) (v.drop (i+1)):=by
            rw [hc]
            unfold cmpI at h0
            simp only [cmpT]
            split at h0
            · cases h0
            · split at h0
              · cases h0
              · rename_i h1 h2;rw [if_neg h1,if_neg h2]
          have HC2:=hide hc2
          generalize cmpI x y=z at HC z0
          clear hc hc2 du dv h0
          go_wp2_with (go_at_call 352;refine (HC.out _).mono ?_;rintro e w' ⟨rfl,rfl⟩)
          go_roundg (u.length-(i+1))
          all_goals first | omega | exact ⟨rfl,i+1,by go_num,by omega,by omega,by omega,HC2.out⟩
        · have z0:(cmpI x y != 0)=true:=by simp [h0]
          have hc2:cmpT u v=cmpI x y:=by
            rw [hc]
            unfold cmpI at h0 ⊢
            simp only [cmpT]
            split
            · rfl
            · split
              · rfl
              · rename_i h1 h2;rw [if_neg h1,if_neg h2] at h0;exact absurd rfl h0
          have HC2:=hide hc2
          generalize cmpI x y=z at HC z0 HC2
          clear hc hc2 du dv h0
          go_wp2_with (go_at_call 352;refine (HC.out _).mono ?_;rintro e w' ⟨rfl,rfl⟩)
          go_ret
          exact ⟨by rw [HC2.out];rfl,rfl⟩
      · have k2:decide ((v.length:Int)<=(i:Int))=true:=decide_eq_true (by omega)
        have hc2:cmpT u v=1:=by
          have e9:v.drop i=[]:=List.drop_of_length_le (by omega)
          rw [hc,du,e9];rfl
        have HC2:=hide hc2
        clear hc hc2 du
        go_wp2_with fail
        go_ret
        exact ⟨by rw [HC2.out];rfl,rfl⟩
    · have d1:decide ((i:Int)<(u.length:Int))=false:=decide_eq_false (by omega)
      have hie:i=u.length:=by omega
      by_cases hlv:u.length<v.length
      · have d2:decide ((u.length:Int)<(v.length:Int))=true:=decide_eq_true (by omega)
        have hc2:cmpT u v=-1:=by
          have e8:u.drop i=[]:=List.drop_of_length_le (by omega)
          rw [hc,e8,List.drop_eq_getElem_cons (show i<v.length by omega)];rfl
        have HC2:=hide hc2
        clear hc hc2
        go_wp2_with fail
        go_ret
        exact ⟨by rw [HC2.out];rfl,rfl⟩
      · have d2:decide ((u.length:Int)<(v.length:Int))=false:=decide_eq_false (by omega)
        have hc2:cmpT u v=0:=by
          have e8:u.drop i=[]:=List.drop_of_length_le (by omega)
          have e9:v.drop i=[]:=List.drop_of_length_le (by omega)
          rw [hc,e8,e9];rfl
        have HC2:=hide hc2
        clear hc hc2
        go_wp2_with fail
        go_ret
        exact ⟨by rw [HC2.out];rfl,rfl⟩
set_option maxRecDepth 100000 in
set_option maxHeartbeats 4000000 in
theorem less_any (g n c i j:Nat)(tu tv:Value)(u v:List Int)(w:World)(hi:i<n)(hj:j<n)(ci:w.cell? ⟨g,i*3,none⟩=some tu)(cj:w.cell? ⟨g,j*3,none⟩=some tv)(hu:TxtW w tu u)(hv:TxtW w tv v)(lu:u.length<=1000000) :
    Calls Tryz.prog 346 #[.slice (some ⟨g,0,none⟩) n c,.int .i64 i,.int .i64 j] w fun e w'=>e=.returned (.bool (lessT u v))/\Below w.heap.size w w':=by
  have k0:(0:Int)<=(i:Int):=Int.natCast_nonneg _
  have k1:(i:Int)<(n:Int):=by omega
  have k2:(0:Int)<=(j:Int):=Int.natCast_nonneg _
  have k3:(j:Int)<(n:Int):=by omega
  have HC1:=hide (cmp_int (u.length:Int) (v.length:Int))
  have HC2:=hide (fun (W:World) (hW:Below w.heap.size w W)=>cmp_text tu tv u v W (by obtain ⟨a,cc,e,h⟩:=hu;exact ⟨a,cc,e,fun j r hj=>by obtain ⟨b,off,e1,e2,e3⟩:=h j r hj;exact ⟨b,off,e1,Nat.lt_of_lt_of_le e2 hW.size,(hW.cell (p:=⟨b,off+j,none⟩) e2).trans e3⟩⟩) (by obtain ⟨a,cc,e,h⟩:=hv;exact ⟨a,cc,e,fun j r hj=>by obtain ⟨b,off,e1,e2,e3⟩:=h j r hj;exact ⟨b,off,e1,Nat.lt_of_lt_of_le e2 hW.size,(hW.cell (p:=⟨b,off+j,none⟩) e2).trans e3⟩⟩) lu)
  obtain ⟨au,cu,rfl,_⟩:=hu
  obtain ⟨av,cv,rfl,_⟩:=hv
  have HL:=hide (less_iff u v)
  rw [<- HL.out]
  have HO:=hide (fun (b:Nat) (W:World)=>or_int b (cmpI (u.length:Int) (v.length:Int)) (cmpT u v) W)
  generalize cmpI (u.length:Int) (v.length:Int)=X at HC1 HO ⊢
  generalize cmpT u v=Y at HC2 HO ⊢
  generalize orI X Y=Z at HO ⊢
  clear HL
  go_enter Tryz.func346,Tryz.ntmps346
  go_wp2_with fail
  go_quiet (fail)
  go_wp2_with fail
  refine (HC1.out _).mono ?_
  rintro e w' ⟨rfl,rfl⟩
  go_wp2_with fail
  refine (HC2.out _ (by exact ⟨rfl,rfl,rfl,Nat.le_refl _,fun _ _=>rfl⟩)).mono ?_
  rintro e w' ⟨rfl,rfl⟩
  go_wp2_with fail
  refine (HO.out _ _ ?_ ?_ ?_).mono ?_
  · exact (Blk.new _ [.int .i64 X,.int .i64 Y] 3).cell 0
  · exact (Blk.new _ [.int .i64 X,.int .i64 Y] 3).cell 1
  · simp
  rintro e w' ⟨rfl,rfl⟩
  go_wp2_with fail
  go_ret
  exact ⟨rfl,rfl,rfl,rfl,by simp,fun k hk=>Below.heap_alloc _ _ _ hk⟩
end Go.Proofs.YtpoibdhhcbelnaaGreatDoor
namespace Go.Proofs.YtpoibdhhcbelnaaGreatDoor
open Go.Shelf Go.RowKit Go.Lib
theorem run_append_moves {P:Program}(w:World)(base:Nat)(t ty e:TypeId)(i:TypeInfo)(z:Value)(size bytes:Nat)(ht:P.underlying t=some (.slice e))(hi:P.info? e=some i)(hz:i.zero=some z)
    (hsize:i.size=size) (hby:i.bytes=bytes) (hzs:z.cells.size=size) (hsz:0<size)
    (v:Value) (n:Nat) (xs:List Value) (hown:w.ownsRow base e size v n xs)
    (a:Addr) (m c:Nat) (news:List Value) (hl:news.length=m*size) (hnews:∀ j u,news[j]?=some u->w.cell? (a.add j)=some u) (h1:∀ u∈news,u.oneCell'=true)
    (h63:n+m<=maxLen) (hbytes:(n+m)*bytes<=140737488355328) (hbase:base<=w.heap.size) :
    ∃ v' w',(Builtin.append_ #[t,t] ty #[v,.slice (some a) m c]).run P w=.ok v' w'/\w'.ownsRow base e size v' (n+m) (xs++news)/\w.grownBy w' v.ownBlock /\
      (∀ g,v'.ownBlock=some g->v.ownBlock=some g\/w.heap.size<=g):=by
  obtain ⟨v',w',hr,h2,h3,_⟩:=run_append_own (P:=P) w base t ty e i z size bytes ht hi hz hsize hby hzs hsz v n xs hown a m c news hl hnews h1 h63 hbytes hbase
  refine ⟨v',w',hr,h2,h3,fun g hg=>?_⟩
  rcases hown.2 with ⟨rfl,rfl⟩ | ⟨g0,cap,cur,rfl,hbg,hg0,hnc,hcm,hcs,htake⟩
  · have hx:xs=[]:=List.eq_nil_of_length_eq_zero (by simpa using hown.1)
    subst hx
    obtain ⟨v2,w2,hr2,k2,_,_⟩:=run_append_own (P:=P) w w.heap.size t ty e i z size bytes ht hi hz hsize hby hzs hsz (.slice none 0 0) 0 [] (World.ownsRow_nil _ _ _ _) a m c news hl hnews h1 h63 hbytes (Nat.le_refl _)
    rw [hr] at hr2
    injection hr2 with e1 e2
    subst e1
    exact .inr (k2.lt g hg |>.1)
  · by_cases hroom:n+m<=cap
    · subst hsize
      have hfit:n*i.size+news.length<=cur.size:=by rw [hl,hcs,<- Nat.add_mul];exact Nat.mul_le_mul_right _ hroom
      have hr2:=run_append_room (P:=P) w t ty e i ht hi g0 n cap cur hg0 a m c news hl hnews h1 hroom hfit
      rw [hr] at hr2
      injection hr2 with e1 e2
      subst e1
      exact .inl hg
    · subst hsize
      subst hby
      have hsmall:n+m<=9223372036854775807:=by simp only [maxLen] at h63;omega
      have holds:∀ j u,xs[j]?=some u->w.cell? ((⟨g0,0,none⟩:Addr).add j)=some u:=hown.cells (g:=g0) rfl
      have hr2:=run_append_grow (P:=P) w t ty e i z ht hi hz ⟨g0,0,none⟩ n cap xs hown.1 holds a m c news hl hnews (by omega) (by omega) (growslice_fits (by omega) hbytes)
      rw [hr] at hr2
      injection hr2 with e1 e2
      subst e1
      simp only [Value.ownBlock,Option.some.injEq] at hg
      exact .inr (by omega)
theorem wpList_append_moves {P:Program}{w:World}{ops:Array Oper}{rest:List Oper}{o:Oper}{a:Act}{Q:Exit->Act->World->Prop}(hgd:o.guard=none)(s x:Operand)(t:TypeId)
    (ho:o.op=.call { callee:=.builtin .append,args:=#[s,x],argTypes:=#[t,t] })
    (base:Nat) (e:TypeId) (i:TypeInfo) (z:Value) (size bytes:Nat) (ht:P.underlying t=some (.slice e)) (hi:P.info? e=some i) (hz:i.zero=some z)
    (hsize:i.size=size) (hby:i.bytes=bytes) (hzs:z.cells.size=size) (hsz:0<size)
    (v:Value) (n:Nat) (xs:List Value) (hs:a.eval s=v) (hown:w.ownsRow base e size v n xs)
    (ad:Addr) (m c:Nat) (news:List Value) (hx:a.eval x=.slice (some ad) m c) (hl:news.length=m*size) (hnews:∀ j u,news[j]?=some u->w.cell? (ad.add j)=some u) (h1:∀ u∈news,u.oneCell'=true)
    (h63:n+m<=maxLen) (hbytes:(n+m)*bytes<=140737488355328) (hbase:base<=w.heap.size)
    (h:∀ v' w',w'.ownsRow base e size v' (n+m) (xs++news)->w.grownBy w' v.ownBlock->(∀ g,v'.ownBlock=some g->v.ownBlock=some g\/w.heap.size<=g)->wpList P ops Q rest (a.put o.dst v') w'):wpList P ops Q (o::rest) a w :=
  wpList_plain hgd fun _ hK=>by
    obtain ⟨v',w',hr,h2,h3,h4⟩:=run_append_moves (P:=P) w base t o.type e i z size bytes ht hi hz hsize hby hzs hsz v n xs hown ad m c news hl hnews h1 h63 hbytes hbase
    unfold Oper.wp execOp
    simp only [ho,resolve,invoke,builtin,Sem.run_bind,Sem.run_pure,Result.andThen_ok,List.map_toArray,List.map_cons,List.map_nil,hs,hx,hr]
    exact hK _ _ (h v' w' h2 h3 h4)
theorem step_append_moves {ops:Array Oper}{o:Oper}{a:Act}{w:World}{K:Act->World->Prop}{Q:Exit->Act->World->Prop}{E:Prop}
    (hg:o.guard=none) (s x:Operand) (t:TypeId) (hop:o.op=Op.call { callee:=Callee.builtin Builtin.append,args:=#[s,x],argTypes:=#[t,t] })
    (base:Nat) (e:TypeId) (i:TypeInfo) (z:Value) (size bytes:Nat) (h1:Tryz.prog.underlying t=some (.slice e)) (h2:Tryz.prog.info? e=some i) (h3:i.zero=some z) (h4:i.size=size) (h5:i.bytes=bytes) (h6:z.cells.size=size) (h7:0<size)
    (v:Value) (n:Nat) (xs:List Value) (hs:a.eval s=v) (hown:w.ownsRow base e size v n xs)
    (ad:Addr) (m c:Nat) (news:List Value) (hx:a.eval x=.slice (some ad) m c) (hn:news.length=m*size) (hc:∀ j u,news[j]?=some u->w.cell? (ad.add j)=some u) (h1c:∀ u∈news,u.oneCell'=true)
    (b1:n+m<=maxLen) (b2:(n+m)*bytes<=140737488355328) (hbase:base<=w.heap.size)
    (hK:∀ v' w',w'.ownsRow base e size v' (n+m) (xs++news)->w.grownBy w' v.ownBlock->(∀ g,v'.ownBlock=some g->v.ownBlock=some g\/w.heap.size<=g)->K (a.put o.dst v') w') :
    if Region.wanted o (yielded ops a.tmps)=true then Oper.wp Tryz.prog o a w K Q else E:=by
  have hw:Region.wanted o (yielded ops a.tmps)=true:=by simp [Region.wanted,hg]
  rw [if_pos hw]
  obtain ⟨v',w',hrun,r1,r2,r3⟩:=run_append_moves (P:=Tryz.prog) w base t o.type e i z size bytes h1 h2 h3 h4 h5 h6 h7 v n xs hown ad m c news hn hc h1c b1 b2 hbase
  unfold Oper.wp
  simp [execOp,hop,resolve,invoke,builtin,hs,hx,hrun,Result.andThen]
  exact hK v' w' r1 r2 r3
end Go.Proofs.YtpoibdhhcbelnaaGreatDoor
namespace Go.Proofs.YtpoibdhhcbelnaaGreatDoor
open Go.Shelf Go.RowKit
structure HIt where
  ta:Option Addr
  tc:Nat
  u:List Int
  x:Nat
  y:Nat
def hd0:HIt:=⟨none,0,[],0,0⟩
abbrev tv (a:HIt):Value:=.slice a.ta a.u.length a.tc
abbrev hc (a:HIt):List Value:=[.slice a.ta a.u.length a.tc,.pointer (some ⟨a.x,0,none⟩),.pointer (some ⟨a.y,0,none⟩)]
abbrev hV (a:HIt):Value:=.agg #[.slice a.ta a.u.length a.tc,.pointer (some ⟨a.x,0,none⟩),.pointer (some ⟨a.y,0,none⟩)]
def hcs:List HIt->List Value
  | []=>[]
  | a::l=>hc a++hcs l
theorem hcs_len:∀ l:List HIt,(hcs l).length=l.length*3
  | []=>rfl
  | a::l=>by simp only [hcs,List.length_append,hcs_len l,List.length_cons,List.length_nil];omega
theorem hcs_snoc (l:List HIt)(a:HIt):hcs (l++[a])=hcs l++hc a:=by
  induction l with
  | nil=>rfl
  | cons b l ih=>simp only [List.cons_append,hcs,ih,List.append_assoc]
theorem hcs_get:∀ (l:List HIt) (i:Nat) (a:HIt) (rest:List Value),l[i]?=some a->(hcs l++rest)[i*3]?=some (tv a)/\(hcs l++rest)[i*3+1]?=some (.pointer (some ⟨a.x,0,none⟩))/\(hcs l++rest)[i*3+2]?=some (.pointer (some ⟨a.y,0,none⟩))
  | b::l,0,a,rest,h=>by simp at h;subst h;exact ⟨rfl,rfl,rfl⟩
  | b::l,i+1,a,rest,h=>by
    obtain ⟨h1,h2,h3⟩:=hcs_get l i a rest (by simpa using h)
    refine ⟨?_,?_,?_⟩
    · rw [show (i+1)*3=i*3+3 by omega];exact h1
    · rw [show (i+1)*3+1=i*3+1+3 by omega];exact h2
    · rw [show (i+1)*3+2=i*3+2+3 by omega];exact h3
theorem hcs_set:∀ (l:List HIt) (i:Nat) (a:HIt) (rest:List Value),i<l.length->(((hcs l++rest).set (i*3) (tv a)).set (i*3+1) (.pointer (some ⟨a.x,0,none⟩))).set (i*3+2) (.pointer (some ⟨a.y,0,none⟩))=hcs (l.set i a)++rest
  | b::l,0,a,rest,h=>rfl
  | b::l,i+1,a,rest,h=>by
    have ih:=hcs_set l i a rest (by simpa using h)
    rw [show (i+1)*3=i*3+3 by omega,show i*3+3+1=i*3+1+3 by omega,show i*3+3+2=i*3+2+3 by omega]
    show hc b++_=hc b++_++_
    rw [List.append_assoc,<- ih]
    rfl
def HRow (w:World)(B g c:Nat)(l:List HIt):Prop:=B<=g/\l.length<=c/\c<=maxLen/\∃ rest,Blk w g (hcs l++rest) 163/\(hcs l++rest).length=c*3
theorem HRow.own {w:World}{B g c:Nat}{l:List HIt}(h:HRow w B g c l):w.ownsRow B 163 3 (.slice (some ⟨g,0,none⟩) l.length c) l.length (hcs l):=by
  obtain ⟨h1,h2,h3,rest,h4,h5⟩:=h
  refine ⟨hcs_len l,.inr ⟨g,c,(hcs l++rest).toArray,rfl,h1,h4,h2,h3,by simpa using h5,?_⟩⟩
  rw [<- hcs_len l]
  simp
theorem own_HRow {w:World}{B g c n:Nat}{l:List HIt}(h:w.ownsRow B 163 3 (.slice (some ⟨g,0,none⟩) n c) n (hcs l)):HRow w B g c l/\n=l.length:=by
  obtain ⟨h1,h2⟩:=h
  have hn:n=l.length:=by rw [hcs_len] at h1;omega
  rcases h2 with ⟨h2,_⟩ | ⟨g',cap,cur,e,hg,hh,hc,hm,hs,ht⟩
  · cases h2
  · cases e
    refine ⟨⟨hg,by omega,hm,cur.toList.drop (n*3),?_,?_⟩,hn⟩
    · unfold Blk
      rw [<- ht,List.take_append_drop]
      simpa using hh
    · rw [<- ht,List.take_append_drop];simpa using hs
theorem own163_some {w:World}{B n:Nat}{v:Value}{xs:List Value}(h:w.ownsRow B 163 3 v (n+1) xs):∃ g c,v=.slice (some ⟨g,0,none⟩) (n+1) c/\B<=g:=by
  rcases h.2 with ⟨_,h0⟩ | ⟨g,cap,cur,rfl,hg,hh,r⟩
  · omega
  · exact ⟨g,cap,rfl,hg⟩
theorem HRow.cells {w:World}{B g c:Nat}{l:List HIt}(h:HRow w B g c l){i:Nat}{a:HIt}(hi:l[i]?=some a):w.cell? ⟨g,i*3,none⟩=some (tv a)/\w.cell? ⟨g,i*3+1,none⟩=some (.pointer (some ⟨a.x,0,none⟩))/\w.cell? ⟨g,i*3+2,none⟩=some (.pointer (some ⟨a.y,0,none⟩)):=by
  obtain ⟨h1,h2,h3,rest,h4,h5⟩:=h
  obtain ⟨e1,e2,e3⟩:=hcs_get l i a rest hi
  exact ⟨(h4.cell _).trans e1,(h4.cell _).trans e2,(h4.cell _).trans e3⟩
theorem HRow.frozen {w:World}{B g c:Nat}{l:List HIt}(h:HRow w B g c l)(k:Nat):w.frozen? ⟨g,k,none⟩=false:=by
  obtain ⟨h1,h2,h3,rest,h4,h5⟩:=h
  exact h4.frozen k
theorem HRow.lt {w:World}{B g c:Nat}{l:List HIt}(h:HRow w B g c l):g<w.heap.size:=by
  obtain ⟨h1,h2,h3,rest,h4,h5⟩:=h
  exact h4.lt
theorem HRow.block {w w':World}{B g c:Nat}{l:List HIt}(h:HRow w B g c l)(k:w'.heap[g]?=w.heap[g]?):HRow w' B g c l:=by
  obtain ⟨h1,h2,h3,rest,h4,h5⟩:=h
  exact ⟨h1,h2,h3,rest,k.trans h4,h5⟩
theorem HRow.drew {w:World}{B g c:Nat}{l:List HIt}(h:HRow w B g c l):HRow w.drew B g c l:=h
def put3 (w:World)(g k:Nat)(a:HIt):World:=((w.setCell ⟨g,k,none⟩ (tv a)).setCell ⟨g,k+1,none⟩ (.pointer (some ⟨a.x,0,none⟩))).setCell ⟨g,k+2,none⟩ (.pointer (some ⟨a.y,0,none⟩))
theorem HRow.put {w:World}{B g c:Nat}{l:List HIt}(h:HRow w B g c l){i:Nat}(a:HIt)(hi:i<l.length):HRow (put3 w g (i*3) a) B g c (l.set i a):=by
  obtain ⟨h1,h2,h3,rest,h4,h5⟩:=h
  have hb:=((h4.set (i*3) (tv a)).set (i*3+1) (.pointer (some ⟨a.x,0,none⟩))).set (i*3+2) (.pointer (some ⟨a.y,0,none⟩))
  rw [hcs_set l i a rest hi] at hb
  refine ⟨h1,by simpa using h2,h3,rest,hb,?_⟩
  rw [<- hcs_set l i a rest hi]
  simpa using h5
theorem put3_off (w:World)(g k:Nat)(a:HIt):Off g w (put3 w g k a):=(((Off.refl g w).setCell k _).setCell (k+1) _).setCell (k+2) _
set_option maxRecDepth 100000 in
set_option maxHeartbeats 1000000 in
theorem swap_any {B g c i j:Nat}{l:List HIt}{w:World}(h:HRow w B g c l)(hi:i<l.length)(hj:j<l.length) :
    Calls Tryz.prog 349 #[.slice (some ⟨g,0,none⟩) l.length c,.int .i64 i,.int .i64 j] w fun e w'=>e=.returned (.tuple #[])/\HRow w' B g c (swp hd0 l i j)/\Off g w w':=by
  obtain ⟨a,ha⟩:∃ a,l[i]?=some a:=⟨_,List.getElem?_eq_getElem hi⟩
  obtain ⟨b,hb⟩:∃ b,l[j]?=some b:=⟨_,List.getElem?_eq_getElem hj⟩
  obtain ⟨a0,a1,a2⟩:=h.cells ha
  obtain ⟨b0,b1,b2⟩:=h.cells hb
  have hf:=fun k=>h.frozen k
  have hlt:=h.lt
  have k0:(0:Int)<=(i:Int):=Int.natCast_nonneg _
  have k1:(i:Int)<(l.length:Int):=by omega
  have k2:(0:Int)<=(j:Int):=Int.natCast_nonneg _
  have k3:(j:Int)<(l.length:Int):=by omega
  have HFIN:Hid (HRow (put3 (put3 w g (i*3) b) g (j*3) a).drew B g c (swp hd0 l i j)/\Off g w (put3 (put3 w g (i*3) b) g (j*3) a).drew):=by
    refine ⟨?_,((put3_off w g (i*3) b).trans (put3_off _ g (j*3) a)).drew⟩
    have h1:=(h.put b hi).put (i:=j) a (by simpa using hj)
    have e:swp hd0 l i j=(l.set i b).set j a:=by unfold swp gt;rw [ha,hb];rfl
    rw [e];exact h1.drew
  unfold put3 at HFIN
  obtain ⟨ta,tc,u,x,y⟩:=a
  obtain ⟨ta',tc',u',x',y'⟩:=b
  simp only at a0 a1 a2 b0 b1 b2 HFIN
  have HAB:Hid (i=j->(⟨ta',tc',u',x',y'⟩:HIt)=⟨ta,tc,u,x,y⟩):=fun e=>by
    subst e
    rw [ha] at hb
    injection hb with hb
    exact hb.symm
  clear h ha hb
  have hm:i=j->(ta',tc',u',x',y')=(ta,tc,u,x,y):=fun e=>by
    have:=HAB.out e
    injection this with h1 h2 h3 h4 h5
    rw [h1,h2,h3,h4,h5]
  by_cases hij:i=j
  · have hm:=hm hij
    injection hm with h1 h2
    injection h2 with h2 h3
    injection h3 with h3 h4
    injection h4 with h4 h5
    subst hij h1 h2 h3 h4 h5
    go_enter Tryz.func349,Tryz.ntmps349
    go_wp2_with fail
    go_region
    all_goals go_wp2_with fail
    all_goals go_end0
    all_goals exact ⟨rfl,HFIN.out⟩
  · clear hm
    have hm:¬ i*3=j*3:=by omega
    have hm':¬ j*3=i*3:=by omega
    go_enter Tryz.func349,Tryz.ntmps349
    go_wp2_with fail
    go_region
    all_goals go_wp2_with fail
    all_goals go_end0
    all_goals exact ⟨rfl,HFIN.out⟩
theorem assert_hV (v:Value)(w:World):(Instr.typeAssert (.iface 163 v) 20 163 false).run Tryz.prog w=.ok v w:=assert_begun v w
theorem hc_cells (w:World)(a:HIt):∀ j u,(hc a)[j]?=some u->(w.alloc (.cells #[.slice a.ta a.u.length a.tc,.pointer (some ⟨a.x,0,none⟩),.pointer (some ⟨a.y,0,none⟩)] 163)).drew.cell? ((⟨w.heap.size,0,none⟩:Addr).add j)=some u:=by
  intro j u hj
  match j,hj with
  | 0,hj=>simp at hj;subst hj;simp [Addr.add]
  | 1,hj=>simp at hj;subst hj;simp [Addr.add]
  | 2,hj=>simp at hj;subst hj;simp [Addr.add]
theorem hc_one (a:HIt):∀ u∈hc a,u.oneCell'=true:=by
  intro u hu;simp at hu;rcases hu with rfl | rfl | rfl<;>rfl
structure HeapV (w:World)(B bn g c:Nat)(l:List HIt):Prop where
  var:Blk w bn [.slice (some ⟨g,0,none⟩) l.length c] 156
  row:HRow w B g c l
theorem HeapV.ne {w:World}{B bn g c:Nat}{l:List HIt}(h:HeapV w B bn g c l):bn≠g:=fun e=>by
  subst e
  obtain ⟨h1,h2,h3,rest,h4,h5⟩:=h.row
  have h8:=h.var.symm.trans h4
  simp at h8
set_option maxRecDepth 100000 in
set_option maxHeartbeats 4000000 in
theorem push_meth {B bn g c:Nat}{l:List HIt}{w:World}(h:HeapV w B bn g c l)(hB:B<=bn)(a:HIt)(hl:l.length<=1000000000000) :
    Calls Tryz.prog 348 #[.pointer (some ⟨bn,0,none⟩),.iface 163 (hV a)] w fun e w'=>e=.returned (.tuple #[])/\∃ g' c',HeapV w' B bn g' c' (l++[a])/\But (fun k=>k=bn\/k=g) w w'/\(g'=g\/w.heap.size<=g'):=by
  obtain ⟨i0,hi,hz0,hz1,hz2⟩:=info_parts Tryz.info163
  have c0:w.cell? ⟨bn,0,none⟩=some (.slice (some ⟨g,0,none⟩) l.length c):=h.var.cell 0
  have hlt:=h.var.lt
  have hgl:=h.row.lt
  have hne:=h.ne
  have hBg:=h.row.1
  have HOWN:Hid ((w.alloc (.cells #[.slice a.ta a.u.length a.tc,.pointer (some ⟨a.x,0,none⟩),.pointer (some ⟨a.y,0,none⟩)] 163)).drew.ownsRow B 163 3 (.slice (some ⟨g,0,none⟩) l.length c) l.length (hcs l)):=(h.row.own.alloc _)
  have hta:=assert_hV (hV a)
  have HFIN:Hid (∀ (w3:World) (g' cc:Nat),w3.ownsRow B 163 3 (.slice (some ⟨g',0,none⟩) (l.length+1) cc) (l.length+1) (hcs l++hc a)->(w.alloc (.cells #[.slice a.ta a.u.length a.tc,.pointer (some ⟨a.x,0,none⟩),.pointer (some ⟨a.y,0,none⟩)] 163)).grownBy w3 (some g)->(∀ k,(Value.slice (some ⟨g',0,none⟩) (l.length+1) cc).ownBlock=some k->(Value.slice (some ⟨g,0,none⟩) l.length c).ownBlock=some k\/(w.alloc (.cells #[.slice a.ta a.u.length a.tc,.pointer (some ⟨a.x,0,none⟩),.pointer (some ⟨a.y,0,none⟩)] 163)).drew.heap.size<=k) ->
      w3.cell? ⟨bn,0,none⟩=some (.slice (some ⟨g,0,none⟩) l.length c)/\w3.frozen? ⟨bn,0,none⟩=false/\bn<w3.heap.size/\∃ g'' c',HeapV (w3.setCell ⟨bn,0,none⟩ (.slice (some ⟨g',0,none⟩) (l.length+1) cc)) B bn g'' c' (l++[a])/\But (fun k=>k=bn\/k=g) w (w3.setCell ⟨bn,0,none⟩ (.slice (some ⟨g',0,none⟩) (l.length+1) cc))/\(g''=g\/w.heap.size<=g'')):=fun w3 g' cc hown' hgrow hmv=>by
    rw [<- hcs_snoc] at hown'
    obtain ⟨hrow,hn⟩:=own_HRow hown'
    have hn3:=(h.var.alloc (.cells #[.slice a.ta a.u.length a.tc,.pointer (some ⟨a.x,0,none⟩),.pointer (some ⟨a.y,0,none⟩)] 163)).grown hgrow (fun e=>by injection e with e;exact hne e)
    have hb3:But (fun k=>k=bn\/k=g) w w3:=(But.below ((Below.refl w.heap.size w).alloc (Nat.le_refl _) (.cells #[.slice a.ta a.u.length a.tc,.pointer (some ⟨a.x,0,none⟩),.pointer (some ⟨a.y,0,none⟩)] 163))).grown hgrow (fun k e=>by cases e;exact .inl (.inr rfl))
    have hmv2:g'=g\/w.heap.size<=g':=by
      rcases hmv g' rfl with e | e
      · injection e with e;exact .inl e.symm
      · have e2:(w.alloc (.cells #[.slice a.ta a.u.length a.tc,.pointer (some ⟨a.x,0,none⟩),.pointer (some ⟨a.y,0,none⟩)] 163)).heap.size<=g':=e
        simp at e2;exact .inr (by omega)
    have hgn:g'≠bn:=by
      rcases hmv2 with e | e
      · rw [e];exact fun e=>hne e.symm
      · omega
    refine ⟨hn3.cell 0,hn3.frozen 0,hn3.lt,g',cc,⟨?_,hrow.block (Below.heap_setCell _ _ _ _ hgn)⟩,hb3.setCell (p:=⟨bn,0,none⟩) (.inl (.inl rfl)) _,hmv2⟩
    rw [<- hn]
    exact hn3.set 0 _
  clear h
  go_enter Tryz.func348,Tryz.ntmps348
  go_wp2_with fail
  refine wp_region_held_drew (S:=fun _:World=>True) (by kernel_rfl) trivial (fun hHeld=>?_)
  refine wpAnyH_take (i:=0) (oi:=_) (v:=.pointer (some ⟨bn,0,none⟩)) rfl (by kernel_rfl) (by kernel_rfl) (by kernel_rfl) (fun _ _ _ h=>h) (Or.inl ⟨by rfl,by intro w hSw;go_simp⟩) trivial ?_
  try simp only [Act.put,List.setIfInBounds_toArray,List.set_cons_zero,List.set_cons_succ,List.getElem_toArray,List.getElem_cons_zero]
  refine wpAnyH_take (i:=1) (oi:=_) (v:=.pointer (some ⟨bn,0,none⟩)) rfl (by kernel_rfl) (by kernel_rfl) (by kernel_rfl) (fun _ _ _ h=>h) (Or.inl ⟨by rfl,by intro w hSw;go_simp⟩) trivial ?_
  try simp only [Act.put,List.setIfInBounds_toArray,List.set_cons_zero,List.set_cons_succ,List.getElem_toArray,List.getElem_cons_zero,List.getElem_cons_succ]
  refine wpAnyH_take (i:=2) (oi:=_) (v:=.pointer (some ⟨bn,0,none⟩)) rfl (by kernel_rfl) (by kernel_rfl) (by kernel_rfl) (fun _ _ _ h=>h) (Or.inl ⟨by rfl,by intro w hSw;go_simp⟩) trivial ?_
  try simp only [Act.put,List.setIfInBounds_toArray,List.set_cons_zero,List.set_cons_succ,List.getElem_toArray,List.getElem_cons_zero,List.getElem_cons_succ]
  refine wpAnyH_take (i:=4) (oi:=_) (v:=.iface 163 (hV a)) rfl (by kernel_rfl) (by kernel_rfl) (by kernel_rfl) (fun _ _ _ h=>h) (Or.inl ⟨by rfl,by intro w hSw;go_simp⟩) trivial ?_
  try simp only [Act.put,List.setIfInBounds_toArray,List.set_cons_zero,List.set_cons_succ,List.getElem_toArray,List.getElem_cons_zero,List.getElem_cons_succ]
  refine wpAnyH_take (i:=5) (oi:=_) (v:=hV a) rfl (by kernel_rfl) (by kernel_rfl) (by kernel_rfl) (fun _ _ _ h=>h) (Or.inl ⟨by rfl,by intro w hSw;go_simp⟩) trivial ?_
  try simp only [Act.put,List.setIfInBounds_toArray,List.set_cons_zero,List.set_cons_succ,List.getElem_toArray,List.getElem_cons_zero,List.getElem_cons_succ]
  refine wpAnyH_ready (rs:=[3,6]) (by kernel_rfl) (by simp) ?_
  refine AllReadyH.cons (o:=_) rfl (fun Kc hK=>?_) ?_
  · go_simp
    refine hK.out _ _ trivial (fun hHeld=>?_)
    clear hK Kc
    try simp only [Act.put,List.setIfInBounds_toArray,List.set_cons_zero,List.set_cons_succ,List.getElem_toArray,List.getElem_cons_zero,List.getElem_cons_succ]
    refine wpAnyH_ready (rs:=[6]) (by kernel_rfl) (by simp) ?_
    refine AllReadyH.cons (o:=_) rfl (fun Kc hK=>?_) AllReadyH.nil
    go_simp
    refine hK.out _ _ trivial (fun hHeld=>?_)
    clear hK Kc
    try simp only [Act.put,List.setIfInBounds_toArray,List.set_cons_zero,List.set_cons_succ,List.getElem_toArray,List.getElem_cons_zero,List.getElem_cons_succ]
    refine wpAnyH_ready (rs:=[7]) (by kernel_rfl) (by simp) ?_
    refine AllReadyH.cons (o:=_) rfl (fun Kc hK=>?_) AllReadyH.nil
    rw [if_pos (by rfl)]
    obtain ⟨v',w3,hr3,hown',hgrow,hmv⟩:=run_append_moves (P:=Tryz.prog) _ B 156 156 163 i0 (.agg #[.slice none 0 0,.pointer none,.pointer none]) 3 40 Tryz.underlying156 hi hz0 hz1 hz2 rfl (by decide) _ _ _ HOWN.out ⟨w.heap.size,0,none⟩ 1 1 (hc a) rfl (hc_cells w a) (hc_one a) (by unfold maxLen;omega) (by omega) (by simp;omega)
    obtain ⟨g',cc,rfl,hg'⟩:=own163_some hown'
    have HALL:=hide (HFIN.out w3 g' cc hown' ⟨hgrow.os,hgrow.tape,hgrow.output,hgrow.size,hgrow.block⟩ hmv)
    obtain ⟨c3,f3,l3,_⟩:=HALL.out
    clear hgrow hown' hmv
    unfold Oper.wp
    simp [execOp,resolve,invoke,builtin,Act.eval,hr3,Result.andThen]
    refine hK.out _ _ trivial (fun hHeld=>?_)
    clear hK Kc
    try simp only [Act.put,List.setIfInBounds_toArray,List.set_cons_zero,List.set_cons_succ]
    refine wpAnyH_take (i:=8) (oi:=_) (v:=.pointer (some ⟨bn,0,none⟩)) rfl (by kernel_rfl) (by kernel_rfl) (by kernel_rfl) (fun _ _ _ h=>h) (Or.inl ⟨by rfl,by intro w hSw;go_simp⟩) trivial ?_
    try simp only [Act.put,List.setIfInBounds_toArray,List.set_cons_zero,List.set_cons_succ,List.getElem_toArray,List.getElem_cons_zero,List.getElem_cons_succ]
    refine wpAnyH_ready (rs:=[9]) (by kernel_rfl) (by simp) ?_
    refine AllReadyH.cons (o:=_) rfl (fun Kc hK=>?_) AllReadyH.nil
    go_simp
    refine hK.out _ _ trivial (fun hHeld=>?_)
    clear hK Kc
    try simp only [Act.put,List.setIfInBounds_toArray,List.set_cons_zero,List.set_cons_succ]
    refine wpAnyH_done (by kernel_rfl) ?_ _
    go_wp2_with fail
    go_end0
    exact ⟨rfl,HALL.out.2.2.2⟩
  refine AllReadyH.cons (o:=_) rfl (fun Kc hK=>?_) AllReadyH.nil
  go_simp
  refine hK.out _ _ trivial (fun hHeld=>?_)
  clear hK Kc
  try simp only [Act.put,List.setIfInBounds_toArray,List.set_cons_zero,List.set_cons_succ,List.getElem_toArray,List.getElem_cons_zero,List.getElem_cons_succ]
  refine wpAnyH_ready (rs:=[3]) (by kernel_rfl) (by simp) ?_
  refine AllReadyH.cons (o:=_) rfl (fun Kc hK=>?_) AllReadyH.nil
  go_simp
  refine hK.out _ _ trivial (fun hHeld=>?_)
  clear hK Kc
  try simp only [Act.put,List.setIfInBounds_toArray,List.set_cons_zero,List.set_cons_succ,List.getElem_toArray,List.getElem_cons_zero,List.getElem_cons_succ]
  refine wpAnyH_ready (rs:=[7]) (by kernel_rfl) (by simp) ?_
  refine AllReadyH.cons (o:=_) rfl (fun Kc hK=>?_) AllReadyH.nil
  rw [if_pos (by rfl)]
  obtain ⟨v',w3,hr3,hown',hgrow,hmv⟩:=run_append_moves (P:=Tryz.prog) _ B 156 156 163 i0 (.agg #[.slice none 0 0,.pointer none,.pointer none]) 3 40 Tryz.underlying156 hi hz0 hz1 hz2 rfl (by decide) _ _ _ HOWN.out ⟨w.heap.size,0,none⟩ 1 1 (hc a) rfl (hc_cells w a) (hc_one a) (by unfold maxLen;omega) (by omega) (by simp;omega)
  obtain ⟨g',cc,rfl,hg'⟩:=own163_some hown'
  have HALL:=hide (HFIN.out w3 g' cc hown' ⟨hgrow.os,hgrow.tape,hgrow.output,hgrow.size,hgrow.block⟩ hmv)
  obtain ⟨c3,f3,l3,_⟩:=HALL.out
  clear hgrow hown' hmv
  unfold Oper.wp
  simp [execOp,resolve,invoke,builtin,Act.eval,hr3,Result.andThen]
  refine hK.out _ _ trivial (fun hHeld=>?_)
  clear hK Kc
  try simp only [Act.put,List.setIfInBounds_toArray,List.set_cons_zero,List.set_cons_succ]
  refine wpAnyH_take (i:=8) (oi:=_) (v:=.pointer (some ⟨bn,0,none⟩)) rfl (by kernel_rfl) (by kernel_rfl) (by kernel_rfl) (fun _ _ _ h=>h) (Or.inl ⟨by rfl,by intro w hSw;go_simp⟩) trivial ?_
  try simp only [Act.put,List.setIfInBounds_toArray,List.set_cons_zero,List.set_cons_succ,List.getElem_toArray,List.getElem_cons_zero,List.getElem_cons_succ]
  refine wpAnyH_ready (rs:=[9]) (by kernel_rfl) (by simp) ?_
  refine AllReadyH.cons (o:=_) rfl (fun Kc hK=>?_) AllReadyH.nil
  go_simp
  refine hK.out _ _ trivial (fun hHeld=>?_)
  clear hK Kc
  try simp only [Act.put,List.setIfInBounds_toArray,List.set_cons_zero,List.set_cons_succ]
  refine wpAnyH_done (by kernel_rfl) ?_ _
  go_wp2_with fail
  go_end0
  exact ⟨rfl,HALL.out.2.2.2⟩
set_option maxRecDepth 100000 in
set_option maxHeartbeats 4000000 in
theorem pop_meth {B bn g c:Nat}{l:List HIt}{w:World}{a:HIt}(h:HeapV w B bn g c (l++[a]))(hl:l.length<=1000000000000) :
    Calls Tryz.prog 347 #[.pointer (some ⟨bn,0,none⟩)] w fun e w'=>e=.returned (.iface 163 (hV a))/\HeapV w' B bn g c l/\But (fun k=>k=bn) w w':=by
  have hle:(l++[a]).length=l.length+1:=by simp
  have b0:w.cell? ⟨bn,0,none⟩=some (.slice (some ⟨g,0,none⟩) (l.length+1) c):=by have:=h.var.cell 0;rw [hle] at this;exact this
  obtain ⟨c0,c1,c2⟩:=h.row.cells (i:=l.length) (a:=a) (by simp)
  have hgl:=h.row.lt
  have hnl:=h.var.lt
  have hfn:=h.var.frozen 0
  have hcap:=h.row.2.1
  rw [hle] at hcap
  have hc1:((l.length:Int)+1)<=(c:Int):=by omega
  have hc0:(0:Int)<=(c:Int):=by omega
  have hc2:(l.length:Int)<=(c:Int):=by omega
  have k0:(0:Int)<=(l.length:Int):=Int.natCast_nonneg _
  have hne:=h.ne
  have HFIN:Hid (∀ o:Obj,HeapV ((w.setCell ⟨bn,0,none⟩ (.slice (some ⟨g,0,none⟩) l.length c)).alloc o) B bn g c l):=fun o=>by
    have hrow:HRow w B g c l:=by
      obtain ⟨h1,h2,h3,rest,h4,h5⟩:=h.row
      rw [hcs_snoc,List.append_assoc] at h4 h5
      exact ⟨h1,by omega,h3,hc a++rest,h4,h5⟩
    refine ⟨(h.var.set 0 (.slice (some ⟨g,0,none⟩) l.length c)).alloc _,hrow.block ?_⟩
    exact (Below.heap_alloc _ _ _ (by simpa [World.setCell] using hgl)).trans (Below.heap_setCell _ _ _ _ (fun e=>hne e.symm))
  clear h
  go_enter Tryz.func347,Tryz.ntmps347
  go_wp2_with fail
  go_ret
  refine ⟨rfl,HFIN.out _,?_⟩
  have e1:=(But.refl (fun k=>k=bn) w).setCell (p:=⟨bn,0,none⟩) (.inl rfl) (.slice (some ⟨g,0,none⟩) l.length c)
  exact e1.trans (But.below ((Below.refl _ _).alloc (Nat.le_refl _) _))
end Go.Proofs.YtpoibdhhcbelnaaGreatDoor
namespace Go.Proofs.YtpoibdhhcbelnaaGreatDoor
open Go.Shelf Go.RowKit
theorem meth_less (b : Nat) (w : World) (v : Value) (h : w.cell? ⟨b, 0, none⟩ = some v) : (method 483 154 (.pointer (some ⟨b, 0, none⟩)) "Less").run Tryz.prog w = .ok (346, v) w := by
  have hk : (Tryz.prog.info? 154).map (fun i => (i.methods.find? (·.name == "Less")).map fun m => (m.path.isEmpty, m.func)) = some (some (true, some (346, false))) := by kernel_rfl
  cases hi:Tryz.prog.info? 154 with
  | none=>rw [hi] at hk;cases hk
  | some i =>
    rw [hi] at hk
    simp only [Option.map_some,Option.some.injEq] at hk
    cases hf : i.methods.find? (·.name == "Less") with
    | none=>rw [hf] at hk;cases hk
    | some m =>
      rw [hf] at hk
      simp only [Option.map_some,Option.some.injEq,Prod.mk.injEq] at hk
      obtain ⟨hp,hm⟩:=hk
      have hp2:m.path=#[]:=Array.isEmpty_iff.1 hp
      unfold method
      simp [typeInfo,hi,hf,hm,hp2,follow,receiverAt,run_underlying Tryz.underlying154,Place.get,wrap_some,asAddr,loadVar,go_sem,h,Tryz.isAgg156,Result.andThen]
abbrev ltH (a b:HIt):Bool:=lessT a.u b.u
theorem ltH_ord:Ord ltH:=lessT_ord.on HIt.u
def HTx (w:World)(g bn:Nat)(a:HIt):Prop:=TxtW w (tv a) a.u/\a.u.length<=1000/\∀ o,a.ta=some o->o.block<w.heap.size/\o.block≠g/\o.block≠bn
theorem TxtW.keep {w w':World}{tv:Value}{u:List Int}(h:TxtW w tv u)(hs:w.heap.size<=w'.heap.size)(hb:∀ a n c,tv=.slice (some a) n c->w'.heap[a.block]?=w.heap[a.block]?):TxtW w' tv u:=by
  obtain ⟨a,c,rfl,h1⟩:=h
  refine ⟨a,c,rfl,fun j r hj=>?_⟩
  obtain ⟨b,off,rfl,hl,hc⟩:=h1 j r hj
  exact ⟨b,off,rfl,by omega,(World.cell?_of_block (w:=w) (w':=w') (a:=⟨b,off+j,none⟩) (hb ⟨b,off,none⟩ _ _ rfl)).trans hc⟩
theorem HTx.but {w w':World}{g bn:Nat}{a:HIt}(h:HTx w g bn a)(hb:But (fun k=>k=bn\/k=g) w w'):HTx w' g bn a:=by
  obtain ⟨h1,h2,h3⟩:=h
  refine ⟨h1.keep hb.size (fun o n c e=>?_),h2,fun o ho=>⟨by have:=(h3 o ho).1;have:=hb.size;omega,(h3 o ho).2⟩⟩
  injection e with e1 e2 e3
  obtain ⟨t1,t2,t3⟩:=h3 o e1
  exact hb.block _ t1 (fun e=>by rcases e with e | e;exact t3 e;exact t2 e)
theorem HeapV.below {w w':World}{B bn g c:Nat}{l:List HIt}(h:HeapV w B bn g c l)(k:Below w.heap.size w w'):HeapV w' B bn g c l:=⟨h.var.below k,h.row.block (k.block _ h.row.lt)⟩
theorem But.of_off {w w':World}{g:Nat}(h:Off g w w'):But (fun k=>k=g) w w':=⟨h.os,h.tape,h.output,h.size,fun k hk hn=>h.block k hk hn⟩
theorem gt_perm {l l':List HIt}(h:l'.Perm l){k:Nat}(hk:k<l.length):gt hd0 l' k∈l:=by
  have hk':k<l'.length:=by rw [h.length_eq];exact hk
  exact h.mem_iff.1 (List.mem_of_getElem? (gt_some (d:=hd0) hk'))
theorem quo2 {j:Nat}(h:0<j):((j:Int)-1).tdiv 2=(((j-1) / 2:Nat):Int):=by
  obtain ⟨k,rfl⟩:∃ k,j=k+1:=⟨j-1,by omega⟩
  have e:(((k+1:Nat):Int)-1)=(k:Int):=by omega
  rw [e,Nat.add_sub_cancel]
  rfl
def UpS (w:World)(B bn g c:Nat)(l:List HIt)(k:Nat)(iv:Value)(wr:World):Prop:=∃ (j:Nat) (l':List HIt),iv=.int .i64 (j:Int)/\j<=k/\HeapV wr B bn g c l'/\l'.Perm l/\UpI ltH (gt hd0 l') l.length j/\But (fun k=>k=g) w wr
set_option maxRecDepth 100000 in
set_option maxHeartbeats 2000000 in
theorem hup_any {B bn g c j:Nat}{l:List HIt}{w:World}(h:HeapV w B bn g c l)(ht:∀ a∈l,HTx w g bn a)(hu:UpI ltH (gt hd0 l) l.length j)(hl:l.length<=1000000000000) :
    Calls Tryz.prog 136 #[.iface 154 (.pointer (some ⟨bn,0,none⟩)),.int .i64 j] w fun e w'=>e=.returned (.tuple #[])/\∃ l',HeapV w' B bn g c l'/\l'.Perm l/\HeapF ltH (gt hd0 l') l.length/\But (fun k=>k=g) w w':=by
  have HST:Hid (UpS w B bn g c l j (.int .i64 j) w):=⟨j,l,rfl,Nat.le_refl _,h,List.Perm.refl _,hu,But.refl _ _⟩
  have HLESS:Hid (∀ (wr:World) (l':List HIt) (i j:Nat),HeapV wr B bn g c l'->l'.Perm l->But (fun k=>k=g) w wr->i<l.length->j<l.length->Calls Tryz.prog 346 #[.slice (some ⟨g,0,none⟩) l.length c,.int .i64 i,.int .i64 j] wr fun e w'=>e=.returned (.bool (ltH (gt hd0 l' i) (gt hd0 l' j)))/\HeapV w' B bn g c l'/\But (fun k=>k=g) w w'/\w'.cell? ⟨bn,0,none⟩=some (.slice (some ⟨g,0,none⟩) l.length c)):=fun wr l' i j hh hp hb hi hj=>by
    have hlen:=hp.length_eq
    obtain ⟨a0,_⟩:=hh.row.cells (i:=i) (gt_some (d:=hd0) (by omega))
    obtain ⟨b0,_⟩:=hh.row.cells (i:=j) (gt_some (d:=hd0) (by omega))
    have t1:=(ht _ (gt_perm hp hi)).but (hb.mono fun _ _ h=>.inr h)
    have t2:=(ht _ (gt_perm hp hj)).but (hb.mono fun _ _ h=>.inr h)
    refine (less_any g l.length c i j _ _ _ _ wr hi hj a0 b0 t1.1 t2.1 (by have:=t1.2.1;omega)).mono ?_
    rintro e w' ⟨rfl,hbel⟩
    have hv:=hh.below hbel
    have hc:=hv.var.cell 0
    rw [hlen] at hc
    exact ⟨rfl,hv,hb.trans (But.below hbel),hc⟩
  have HSWAP:Hid (∀ (wr:World) (l':List HIt) (j:Nat),HeapV wr B bn g c l'->l'.Perm l->But (fun k=>k=g) w wr->UpI ltH (gt hd0 l') l.length j->0<j->ltH (gt hd0 l' j) (gt hd0 l' ((j-1) / 2))=true->Calls Tryz.prog 349 #[.slice (some ⟨g,0,none⟩) l.length c,.int .i64 ((j-1) / 2:Nat),.int .i64 j] wr fun e w'=>e=.returned (.tuple #[])/\UpS w B bn g c l ((j-1) / 2) (.int .i64 ((j-1) / 2:Nat)) w'):=fun wr l' j hh hp hb hu hj hlt=>by
    have hlen:=hp.length_eq
    have hjl:=hu.1
    have hc:=swap_any hh.row (i:=(j-1) / 2) (j:=j) (by omega) (by omega)
    rw [hlen] at hc
    refine hc.mono ?_
    rintro e w' ⟨rfl,hrow,hoff⟩
    refine ⟨rfl,(j-1) / 2,_,rfl,Nat.le_refl _,⟨?_,hrow⟩,(swp_perm hd0 l' (by omega) (by omega)).trans hp,?_,hb.trans (But.of_off hoff)⟩
    · rw [swp_len]
      exact hh.var.off hoff hh.ne
    · rw [swp_gt hd0 l' (by omega) (by omega)]
      exact up_step ltH_ord hu hj hlt
  have hm1:=meth_less bn
  have hm2:=meth_swap bn
  clear h ht hu
  go_enter Tryz.func136,Tryz.ntmps136
  go_wp2_with fail
  go_loopg [1] j (fun k iv wr=>UpS w B bn g c l k iv wr)
  case atStart=>exact HST.out
  case round =>
    obtain ⟨j,l',rfl,hjk,hh,hp,hu,hb⟩:=hrel
    have hlen:=hp.length_eq
    have hjl:=hu.1
    by_cases h0:j=0
    · subst h0
      have HFIN:Hid (∃ l',HeapV wr B bn g c l'/\l'.Perm l/\HeapF ltH (gt hd0 l') l.length/\But (fun k=>k=g) w wr):=⟨l',hh,hp,up_done hu (.inl rfl),hb⟩
      clear hh hp hu hb
      go_wp2
      go_end0
      exact ⟨rfl,HFIN.out⟩
    · have hq:=quo2 (j:=j) (by omega)
      have hne:¬ ((((j-1) / 2:Nat):Int)=(j:Int)):=by omega
      have hne2:((((j-1) / 2:Nat):Int) == (j:Int))=false:=beq_eq_false_iff_ne.2 hne
      have c0:wr.cell? ⟨bn,0,none⟩=some (.slice (some ⟨g,0,none⟩) l.length c):=by have:=hh.var.cell 0;rw [hlen] at this;exact this
      have hm3:=hm1 wr _ c0
      have HLS:=hide (HLESS.out wr l' j ((j-1) / 2) hh hp hb hjl (by omega))
      have HP:=hide hp
      have HU:=hide hu
      cases hlt:ltH (gt hd0 l' j) (gt hd0 l' ((j-1) / 2)) with
      | false =>
        have HFIN:Hid (∀ w',HeapV w' B bn g c l'->But (fun k=>k=g) w w'->∃ l',HeapV w' B bn g c l'/\l'.Perm l/\HeapF ltH (gt hd0 l') l.length/\But (fun k=>k=g) w w'):=fun w' h1 h2=>⟨l',h1,HP.out,up_done HU.out (.inr hlt),h2⟩
        rw [hlt] at HLS
        generalize hpe:(j-1) / 2=p at *
        clear hh hp hu hb
        go_wp2_with fail
        refine HLS.out.mono ?_
        rintro e w' ⟨rfl,hv,hb,hc⟩
        have HF:=hide (HFIN.out w' hv hb)
        clear hv hb
        go_wp2_with fail
        go_end0
        exact ⟨rfl,HF.out⟩
      | true =>
        rw [hlt] at HLS
        have HSW:=hide (fun w' h1 h2=>HSWAP.out w' l' j h1 HP.out h2 HU.out (by omega) hlt)
        generalize hpe:(j-1) / 2=p at *
        clear hh hp hu hb
        go_wp2_with fail
        refine HLS.out.mono ?_
        rintro e w' ⟨rfl,hv,hb,hc⟩
        have hm4:=hm2 w' _ hc
        have HSW2:=hide (HSW.out w' hv hb)
        clear hv hb
        go_wp2_with fail
        refine HSW2.out.mono ?_
        rintro e w2 ⟨rfl,hs⟩
        have HS:=hide hs
        clear hs
        go_wp2_with fail
        go_roundg p
        all_goals first | omega | exact HS.out
end Go.Proofs.YtpoibdhhcbelnaaGreatDoor
namespace Go.Proofs.YtpoibdhhcbelnaaGreatDoor
open Go.Shelf Go.RowKit
def DnS (w:World)(B bn g c:Nat)(l:List HIt)(n k:Nat)(iv:Value)(wr:World):Prop:=∃ (i:Nat) (l':List HIt),iv=.int .i64 (i:Int)/\n-i<=k/\i<=n/\HeapV wr B bn g c l'/\l'.Perm l/\DownI ltH (gt hd0 l') n i/\gt hd0 l' n=gt hd0 l n/\But (fun k=>k=g) w wr
def DnE (w:World)(B bn g c:Nat)(l:List HIt)(n:Nat)(w':World):Prop:=∃ l',HeapV w' B bn g c l'/\l'.Perm l/\HeapF ltH (gt hd0 l') n/\gt hd0 l' n=gt hd0 l n/\But (fun k=>k=g) w w'
set_option maxRecDepth 100000 in
set_option maxHeartbeats 4000000 in
theorem hdown_any {B bn g c n:Nat}{l:List HIt}{w:World}(h:HeapV w B bn g c l)(ht:∀ a∈l,HTx w g bn a)(hn:l.length=n+1)(hu:DownI ltH (gt hd0 l) n 0)(hl:n<=1000000000000) :
    Calls Tryz.prog 142 #[.iface 154 (.pointer (some ⟨bn,0,none⟩)),.int .i64 0,.int .i64 n] w fun e w'=>(∃ v,e=.returned v)/\DnE w B bn g c l n w':=by
  have HST:Hid (DnS w B bn g c l n n (.int .i64 0) w):=⟨0,l,rfl,by omega,by omega,h,List.Perm.refl _,hu,rfl,But.refl _ _⟩
  have HLESS:Hid (∀ (wr:World) (l':List HIt) (i j:Nat),HeapV wr B bn g c l'->l'.Perm l->But (fun k=>k=g) w wr->i<l.length->j<l.length->Calls Tryz.prog 346 #[.slice (some ⟨g,0,none⟩) (n+1) c,.int .i64 i,.int .i64 j] wr fun e w'=>e=.returned (.bool (ltH (gt hd0 l' i) (gt hd0 l' j)))/\HeapV w' B bn g c l'/\But (fun k=>k=g) w w'/\w'.cell? ⟨bn,0,none⟩=some (.slice (some ⟨g,0,none⟩) (n+1) c)):=fun wr l' i j hh hp hb hi hj=>by
    have hlen:=hp.length_eq
    obtain ⟨a0,_⟩:=hh.row.cells (i:=i) (gt_some (d:=hd0) (by omega))
    obtain ⟨b0,_⟩:=hh.row.cells (i:=j) (gt_some (d:=hd0) (by omega))
    have t1:=(ht _ (gt_perm hp hi)).but (hb.mono fun _ _ h=>.inr h)
    have t2:=(ht _ (gt_perm hp hj)).but (hb.mono fun _ _ h=>.inr h)
    refine (less_any g (n+1) c i j _ _ _ _ wr (by omega) (by omega) a0 b0 t1.1 t2.1 (by have:=t1.2.1;omega)).mono ?_
    rintro e w' ⟨rfl,hbel⟩
    have hv:=hh.below hbel
    have hc:=hv.var.cell 0
    rw [hlen,hn] at hc
    exact ⟨rfl,hv,hb.trans (But.below hbel),hc⟩
  have HSWAP:Hid (∀ (wr:World) (l':List HIt) (i j:Nat),HeapV wr B bn g c l'->l'.Perm l->But (fun k=>k=g) w wr->DownI ltH (gt hd0 l') n i->gt hd0 l' n=gt hd0 l n->0<j->j<n->(j-1) / 2=i->(∀ k,0<k->k<n->(k-1) / 2=i->ltH (gt hd0 l' k) (gt hd0 l' j)=false)->ltH (gt hd0 l' j) (gt hd0 l' i)=true->Calls Tryz.prog 349 #[.slice (some ⟨g,0,none⟩) (n+1) c,.int .i64 i,.int .i64 j] wr fun e w'=>e=.returned (.tuple #[])/\DnS w B bn g c l n (n-j) (.int .i64 j) w'):=fun wr l' i j hh hp hb hd hla hj hjn hji hm hlt=>by
    have hlen:=hp.length_eq
    have hc:=swap_any hh.row (i:=i) (j:=j) (by omega) (by omega)
    rw [hlen,hn] at hc
    refine hc.mono ?_
    rintro e w' ⟨rfl,hrow,hoff⟩
    refine ⟨rfl,j,_,rfl,Nat.le_refl _,by omega,⟨?_,hrow⟩,(swp_perm hd0 l' (by omega) (by omega)).trans hp,?_,?_,hb.trans (But.of_off hoff)⟩
    · rw [swp_len]
      exact hh.var.off hoff hh.ne
    · rw [swp_gt hd0 l' (by omega) (by omega)]
      exact down_step ltH_ord hd hj hjn hji hm hlt
    · rw [swp_gt hd0 l' (by omega) (by omega),<- hla]
      unfold sw
      rw [if_neg (by omega),if_neg (by omega)]
  have hm1:=meth_less bn
  have hm2:=meth_swap bn
  clear h ht hu
  go_enter Tryz.func142,Tryz.ntmps142
  go_wp2_with fail
  go_loopg [7] n (fun k iv wr=>DnS w B bn g c l n k iv wr)
  case atStart=>exact HST.out
  case round =>
    obtain ⟨i,l',rfl,hik,hin,hh,hp,hd,hla,hb⟩:=hrel
    have hlen:=hp.length_eq
    have HP:=hide hp
    have HD:=hide hd
    have HLAST:=hide hla
    have q0:(0:Int)<=(i:Int):=Int.natCast_nonneg _
    have q1:(i:Int)<=1000000000000:=by omega
    obtain ⟨p1,hp1⟩:∃ p1,2*i+1=p1:=⟨_,rfl⟩
    have e1:2*(i:Int)+1=(p1:Int):=by omega
    have q2:(0:Int)<=(p1:Int):=Int.natCast_nonneg _
    have q3:(p1:Int)<=2000000000001:=by omega
    have d2:decide ((p1:Int)<0)=false:=decide_eq_false (by omega)
    by_cases h1:n<=p1
    · have d1:decide ((n:Int)<=(p1:Int))=true:=decide_eq_true (by omega)
      have HFIN:Hid (DnE w B bn g c l n wr):=⟨l',hh,hp,down_done hd (fun k k1 k2 k3=>by omega),hla,hb⟩
      clear hh hp hd hla hb
      go_wp2_with fail
      go_ret
      exact ⟨⟨_,rfl⟩,HFIN.out⟩
    · have d1:decide ((n:Int)<=(p1:Int))=false:=decide_eq_false (by omega)
      obtain ⟨p2,hp2⟩:∃ p2,p1+1=p2:=⟨_,rfl⟩
      have e2:(p1:Int)+1=(p2:Int):=by omega
      have c0:wr.cell? ⟨bn,0,none⟩=some (.slice (some ⟨g,0,none⟩) (n+1) c):=by have:=hh.var.cell 0;rw [hlen,hn] at this;exact this
      by_cases h2:p2<n
      · have d3:decide ((p2:Int)<(n:Int))=true:=decide_eq_true (by omega)
        have HL1:=hide (HLESS.out wr l' p2 p1 hh hp hb (by omega) (by omega))
        have hm4:=hm1 wr _ c0
        cases hc21:ltH (gt hd0 l' p2) (gt hd0 l' p1) with
        | true =>
          rw [hc21] at HL1
          have hmm:∀ k,0<k->k<n->(k-1) / 2=i->ltH (gt hd0 l' k) (gt hd0 l' p2)=false:=fun k k1 k2 k3=>by
            have:k=p1\/k=p2:=by omega
            rcases this with rfl | rfl
            · exact ltH_ord.as _ _ hc21
            · exact ltH_ord.irr _
          clear hh hp hd hla hb
          go_wp2_with fail
          refine HL1.out.mono ?_
          rintro e w' ⟨rfl,hv,hb,hc⟩
          have HLS:=hide (HLESS.out w' l' p2 i hv HP.out hb (by omega) (by omega))
          have hm5:=hm1 w' _ hc
          cases hlt:ltH (gt hd0 l' p2) (gt hd0 l' i) with
          | false =>
            have HFIN:Hid (∀ w',HeapV w' B bn g c l'->But (fun k=>k=g) w w'->DnE w B bn g c l n w'):=fun w' h1 h2=>⟨l',h1,HP.out,down_done HD.out (fun k k1 k2 k3=>ltH_ord.tr _ _ _ hlt (hmm k k1 k2 k3)),HLAST.out,h2⟩
            rw [hlt] at HLS
            clear hv hb
            go_wp2_with fail
            refine HLS.out.mono ?_
            rintro e w2 ⟨rfl,hv,hb,hc2⟩
            have HF:=hide (HFIN.out w2 hv hb)
            clear hv hb
            go_wp2_with fail
            go_ret
            exact ⟨⟨_,rfl⟩,HF.out⟩
          | true =>
            rw [hlt] at HLS
            have HSW:=hide (fun w2 h1 h2=>HSWAP.out w2 l' i p2 h1 HP.out h2 HD.out HLAST.out (by omega) (by omega) (by omega) hmm hlt)
            clear hv hb
            go_wp2_with fail
            refine HLS.out.mono ?_
            rintro e w2 ⟨rfl,hv,hb,hc2⟩
            have hm6:=hm2 w2 _ hc2
            have HSW2:=hide (HSW.out w2 hv hb)
            clear hv hb
            go_wp2_with fail
            refine HSW2.out.mono ?_
            rintro e w3 ⟨rfl,hs⟩
            have HS:=hide hs
            clear hs
            go_wp2_with fail
            go_roundg (n-p2)
            all_goals first | omega | exact HS.out
        | false =>
          rw [hc21] at HL1
          have hmm:∀ k,0<k->k<n->(k-1) / 2=i->ltH (gt hd0 l' k) (gt hd0 l' p1)=false:=fun k k1 k2 k3=>by
            have:k=p1\/k=p2:=by omega
            rcases this with rfl | rfl
            · exact ltH_ord.irr _
            · exact hc21
          clear hh hp hd hla hb
          go_wp2_with fail
          refine HL1.out.mono ?_
          rintro e w' ⟨rfl,hv,hb,hc⟩
          have HLS:=hide (HLESS.out w' l' p1 i hv HP.out hb (by omega) (by omega))
          have hm5:=hm1 w' _ hc
          cases hlt:ltH (gt hd0 l' p1) (gt hd0 l' i) with
          | false =>
            have HFIN:Hid (∀ w',HeapV w' B bn g c l'->But (fun k=>k=g) w w'->DnE w B bn g c l n w'):=fun w' h1 h2=>⟨l',h1,HP.out,down_done HD.out (fun k k1 k2 k3=>ltH_ord.tr _ _ _ hlt (hmm k k1 k2 k3)),HLAST.out,h2⟩
            rw [hlt] at HLS
            clear hv hb
            go_wp2_with fail
            refine HLS.out.mono ?_
            rintro e w2 ⟨rfl,hv,hb,hc2⟩
            have HF:=hide (HFIN.out w2 hv hb)
            clear hv hb
            go_wp2_with fail
            go_ret
            exact ⟨⟨_,rfl⟩,HF.out⟩
          | true =>
            rw [hlt] at HLS
            have HSW:=hide (fun w2 h1 h2=>HSWAP.out w2 l' i p1 h1 HP.out h2 HD.out HLAST.out (by omega) (by omega) (by omega) hmm hlt)
            clear hv hb
            go_wp2_with fail
            refine HLS.out.mono ?_
            rintro e w2 ⟨rfl,hv,hb,hc2⟩
            have hm6:=hm2 w2 _ hc2
            have HSW2:=hide (HSW.out w2 hv hb)
            clear hv hb
            go_wp2_with fail
            refine HSW2.out.mono ?_
            rintro e w3 ⟨rfl,hs⟩
            have HS:=hide hs
            clear hs
            go_wp2_with fail
            go_roundg (n-p1)
            all_goals first | omega | exact HS.out
      · have d3:decide ((p2:Int)<(n:Int))=false:=decide_eq_false (by omega)
        have hmm:∀ k,0<k->k<n->(k-1) / 2=i->ltH (gt hd0 l' k) (gt hd0 l' p1)=false:=fun k k1 k2 k3=>by
          have:k=p1:=by omega
          rw [this];exact ltH_ord.irr _
        have hv:=hh
        have hc:=c0
        obtain ⟨w',hw'⟩:∃ w',w'=wr:=⟨_,rfl⟩
        subst hw'
        clear hh hp hd hla c0
        have HLS:=hide (HLESS.out w' l' p1 i hv HP.out hb (by omega) (by omega))
        have hm5:=hm1 w' _ hc
        cases hlt:ltH (gt hd0 l' p1) (gt hd0 l' i) with
        | false =>
          have HFIN:Hid (∀ w',HeapV w' B bn g c l'->But (fun k=>k=g) w w'->DnE w B bn g c l n w'):=fun w' h1 h2=>⟨l',h1,HP.out,down_done HD.out (fun k k1 k2 k3=>ltH_ord.tr _ _ _ hlt (hmm k k1 k2 k3)),HLAST.out,h2⟩
          rw [hlt] at HLS
          clear hv hb
          go_wp2_with fail
          refine HLS.out.mono ?_
          rintro e w2 ⟨rfl,hv,hb,hc2⟩
          have HF:=hide (HFIN.out w2 hv hb)
          clear hv hb
          go_wp2_with fail
          go_ret
          exact ⟨⟨_,rfl⟩,HF.out⟩
        | true =>
          rw [hlt] at HLS
          have HSW:=hide (fun w2 h1 h2=>HSWAP.out w2 l' i p1 h1 HP.out h2 HD.out HLAST.out (by omega) (by omega) (by omega) hmm hlt)
          clear hv hb
          go_wp2_with fail
          refine HLS.out.mono ?_
          rintro e w2 ⟨rfl,hv,hb,hc2⟩
          have hm6:=hm2 w2 _ hc2
          have HSW2:=hide (HSW.out w2 hv hb)
          clear hv hb
          go_wp2_with fail
          refine HSW2.out.mono ?_
          rintro e w3 ⟨rfl,hs⟩
          have HS:=hide hs
          clear hs
          go_wp2_with fail
          go_roundg (n-p1)
          all_goals first | omega | exact HS.out
end Go.Proofs.YtpoibdhhcbelnaaGreatDoor
namespace Go.Proofs.YtpoibdhhcbelnaaGreatDoor
open Go.Shelf Go.RowKit
structure Wait (w:World)(B bn:Nat)(l:List HIt)(g c:Nat):Prop where
  heap:HeapV w B bn g c l
  txt:∀ a∈l,HTx w g bn a
  ord:HeapF ltH (gt hd0 l) l.length
theorem gt_snoc {l:List HIt}{a:HIt}{k:Nat}(h:k<l.length):gt hd0 (l++[a]) k=gt hd0 l k:=by
  unfold gt;rw [List.getElem?_append_left h]
theorem HTx.moved {w w':World}{g g' bn:Nat}{a:HIt}(h:HTx w g bn a)(hb:But (fun k=>k=bn\/k=g) w w')(hg:g'=g\/w.heap.size<=g'):HTx w' g' bn a:=by
  obtain ⟨h1,h2,h3⟩:=h.but hb
  refine ⟨h1,h2,fun o ho=>⟨(h3 o ho).1,?_,(h3 o ho).2.2⟩⟩
  have t:=(h.2.2 o ho)
  rcases hg with e | e
  · rw [e];exact t.2.1
  · omega
set_option maxRecDepth 100000 in
set_option maxHeartbeats 2000000 in
theorem hpush_any {B bn g c:Nat}{l:List HIt}{w:World}(h:Wait w B bn l g c)(hB:B<=bn)(a:HIt)(ha:HTx w g bn a)(hl:l.length<=100000000000) :
    Calls Tryz.prog 91 #[.iface 154 (.pointer (some ⟨bn,0,none⟩)),.iface 163 (hV a)] w fun e w'=>e=.returned (.tuple #[])/\∃ l' g' c',Wait w' B bn l' g' c'/\l'.Perm (a::l)/\But (fun k=>k=bn\/k=g) w w'/\(g'=g\/w.heap.size<=g'):=by
  have HP:=hide (push_meth h.heap hB a (by omega))
  have hm1:=meth_push bn
  have hm2:=meth_len bn
  have HNX:Hid (∀ (w1:World) (g' c':Nat),HeapV w1 B bn g' c' (l++[a])->But (fun k=>k=bn\/k=g) w w1->(g'=g\/w.heap.size<=g')->Calls Tryz.prog 136 #[.iface 154 (.pointer (some ⟨bn,0,none⟩)),.int .i64 l.length] w1 fun e w'=>e=.returned (.tuple #[])/\∃ l' g' c',Wait w' B bn l' g' c'/\l'.Perm (a::l)/\But (fun k=>k=bn\/k=g) w w'/\(g'=g\/w.heap.size<=g')):=fun w1 g' c' hh hb hg=>by
    have htx:∀ x∈l++[a],HTx w1 g' bn x:=fun x hx=>by
      rcases List.mem_append.1 hx with hx | hx
      · exact (h.txt x hx).moved hb hg
      · simp at hx;subst hx;exact ha.moved hb hg
    have hlen:(l++[a]).length=l.length+1:=by simp
    have hup:UpI ltH (gt hd0 (l++[a])) (l++[a]).length l.length:=by
      rw [hlen]
      exact up_start (heap_congr h.ord fun k hk=>(gt_snoc hk).symm)
    refine (hup_any hh htx hup (by omega)).mono ?_
    rintro e w' ⟨rfl,l',h1,h2,h3,h4⟩
    have hbb:But (fun k=>k=bn\/k=g') w1 w':=h4.mono fun _ _ e=>.inr e
    refine ⟨rfl,l',g',c',⟨h1,fun x hx=>(htx x (h2.mem_iff.1 hx)).but hbb,by rw [h2.length_eq];exact h3⟩,h2.trans (List.perm_append_singleton a l),?_,hg⟩
    refine ⟨h4.os.trans hb.os,h4.tape.trans hb.tape,h4.output.trans hb.output,Nat.le_trans hb.size h4.size,fun k hk hne=>(h4.block k (Nat.lt_of_lt_of_le hk hb.size) (fun e=>?_)).trans (hb.block k hk hne)⟩
    subst e
    rcases hg with e | e
    · exact hne (.inr e)
    · omega
  clear h ha
  go_enter Tryz.func91,Tryz.ntmps91
  go_wp2_with fail
  refine HP.out.mono ?_
  rintro e w1 ⟨rfl,g',c',hh,hb,hg⟩
  have hlen:(l++[a]).length=l.length+1:=by simp
  have c1:w1.cell? ⟨bn,0,none⟩=some (.slice (some ⟨g',0,none⟩) (l.length+1) c'):=by have:=hh.var.cell 0;rw [hlen] at this;exact this
  have hm3:=hm2 w1 _ c1
  have HN:=hide (HNX.out w1 g' c' hh hb hg)
  have e9:((l.length+1:Nat):Int)-1=(l.length:Int):=by omega
  have e8:(l.length:Int)+1-1=(l.length:Int):=by omega
  clear hh hb hg hm2
  go_wp2_with (go_at_call 93;refine (len_any _ _ _ _).mono ?_;rintro e w' ⟨rfl,hw⟩;have hw8:=hw.symm;subst hw8;clear hw)
  refine HN.out.mono ?_
  rintro e w2 ⟨rfl,hx⟩
  have HX:=hide hx
  clear hx
  go_wp2_with fail
  go_end0
  exact ⟨rfl,HX.out⟩
set_option maxRecDepth 100000 in
set_option maxHeartbeats 2000000 in
theorem hpop_any {B bn g c:Nat}{l:List HIt}{w:World}(h:Wait w B bn l g c)(h0:l≠[])(hl:l.length<=100000000000) :
    Calls Tryz.prog 94 #[.iface 154 (.pointer (some ⟨bn,0,none⟩))] w fun e w'=>∃ a l',e=.returned (.iface 163 (hV a))/\Wait w' B bn l' g c/\l.Perm (a::l')/\(∀ x∈l,ltH x a=false)/\But (fun k=>k=bn\/k=g) w w':=by
  obtain ⟨n,hn⟩:∃ n,l.length=n+1:=⟨l.length-1,by have:l.length≠0:=fun e=>h0 (List.length_eq_zero_iff.1 e);omega⟩
  have c0:w.cell? ⟨bn,0,none⟩=some (.slice (some ⟨g,0,none⟩) (n+1) c):=by have:=h.heap.var.cell 0;rw [hn] at this;exact this
  have hm1:=meth_len bn w _ c0
  have hm2:=meth_swap bn w _ c0
  have hm3:=meth_pop bn
  have HSW:=hide (swap_any h.heap.row (i:=0) (j:=n) (by omega) (by omega))
  rw [hn] at HSW
  have HDN:Hid (∀ w1,HRow w1 B g c (swp hd0 l 0 n)->Off g w w1->Calls Tryz.prog 142 #[.iface 154 (.pointer (some ⟨bn,0,none⟩)),.int .i64 0,.int .i64 n] w1 fun e w'=>(∃ v,e=.returned v)/\∃ l2,HeapV w' B bn g c (l2++[gt hd0 l 0])/\l.Perm (gt hd0 l 0::l2)/\HeapF ltH (gt hd0 l2) l2.length/\But (fun k=>k=g) w w'):=fun w1 hrow hoff=>by
    have hlen:=swp_len hd0 l 0 n
    have hv:HeapV w1 B bn g c (swp hd0 l 0 n):=⟨by rw [hlen];exact h.heap.var.off hoff h.heap.ne,hrow⟩
    have hperm:=swp_perm hd0 l (i:=0) (j:=n) (by omega) (by omega)
    have hgt:=swp_gt hd0 l (i:=0) (j:=n) (by omega) (by omega)
    have hbw:=But.of_off hoff
    have htx:∀ x∈swp hd0 l 0 n,HTx w1 g bn x:=fun x hx=>(h.txt x (hperm.mem_iff.1 hx)).but (hbw.mono fun _ _ e=>.inr e)
    refine (hdown_any (n:=n) hv htx (by omega) (by rw [hgt];have:=h.ord;rw [hn] at this;exact down_start this) (by omega)).mono ?_
    rintro e w' ⟨he,l',h1,h2,h3,h4,h5⟩
    have hl':l'.length=n+1:=by rw [h2.length_eq,hlen,hn]
    have hlast:gt hd0 l' n=gt hd0 l 0:=by
      rw [h4,hgt]
      unfold sw
      rw [if_pos rfl]
    obtain ⟨l2,hl2⟩:∃ l2,l'=l2++[gt hd0 l 0]:=by
      refine ⟨l'.take n,?_⟩
      have e1:=take_snocL (l:=l') (i:=n) (x:=gt hd0 l 0) (by rw [<- hlast];exact gt_some (by omega))
      rw [List.take_of_length_le (by omega)] at e1
      exact e1
    subst hl2
    have hln:l2.length=n:=by simp at hl';omega
    refine ⟨he,l2,h1,((h2.trans hperm).symm).trans (List.perm_append_singleton _ l2),?_,hbw.trans h5⟩
    rw [hln]
    exact heap_congr h3 fun k hk=>gt_snoc (by omega)
  have HPOP:Hid (∀ w2 l2,HeapV w2 B bn g c (l2++[gt hd0 l 0])->l.Perm (gt hd0 l 0::l2)->HeapF ltH (gt hd0 l2) l2.length->But (fun k=>k=g) w w2->Calls Tryz.prog 347 #[.pointer (some ⟨bn,0,none⟩)] w2 fun e w'=>∃ a l',e=.returned (.iface 163 (hV a))/\Wait w' B bn l' g c/\l.Perm (a::l')/\(∀ x∈l,ltH x a=false)/\But (fun k=>k=bn\/k=g) w w'):=fun w2 l2 hv hp ho hb=>by
    have hln:l2.length=n:=by have:=hp.length_eq;simp at this;omega
    refine (pop_meth hv (by omega)).mono ?_
    rintro e w' ⟨rfl,h1,h2⟩
    have hbb:But (fun k=>k=bn\/k=g) w w':=(hb.mono fun _ _ e=>.inr e).trans (h2.mono fun _ _ e=>.inl e)
    refine ⟨gt hd0 l 0,l2,rfl,⟨h1,fun x hx=>(h.txt x (hp.mem_iff.2 (by simp [hx]))).but hbb,ho⟩,hp,fun x hx=>?_,hbb⟩
    obtain ⟨k,hk,rfl⟩:=List.mem_iff_getElem.1 hx
    have:=heap_min ltH_ord h.ord k hk
    have e1:gt hd0 l k=l[k]:=by unfold gt;rw [List.getElem?_eq_getElem hk];rfl
    rw [e1] at this
    exact this
  have e9:((n+1:Nat):Int)-1=(n:Int):=by omega
  have e8:(n:Int)+1-1=(n:Int):=by omega
  clear h
  go_enter Tryz.func94,Tryz.ntmps94
  go_wp2_with (go_at_call 93;refine (len_any _ _ _ _).mono ?_;rintro e w' ⟨rfl,hw⟩;have hw8:=hw.symm;subst hw8;clear hw)
  refine HSW.out.mono ?_
  rintro e w1 ⟨rfl,hrow,hoff⟩
  have HD:=hide (HDN.out w1 hrow hoff)
  clear hrow hoff
  go_wp2_with fail
  refine HD.out.mono ?_
  rintro e w2 ⟨⟨v,rfl⟩,l2,hv,hp,ho,hb⟩
  have HPP:=hide (HPOP.out w2 l2 hv hp ho hb)
  clear hv hp ho hb
  go_wp2_with fail
  refine HPP.out.mono ?_
  rintro e w3 ⟨a,l',rfl,hx⟩
  have HX:=hide hx
  clear hx
  go_wp2_with fail
  go_ret
  exact ⟨a,l',rfl,HX.out⟩
end Go.Proofs.YtpoibdhhcbelnaaGreatDoor
