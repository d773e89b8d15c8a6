/- Walks and plain laws, some texts in one. -/
import Derived.Deep.RegionWith
import Derived.Deep.DeepCutAuto
import Derived.BigQuiet
import Derived.Deep.QuietTactic
import Derived.LaidEqlPtr
import Derived.Test.YtpoibdhhcbelnaaGreatDoorM29
import Derived.Test.YtpoibdhhcbelnaaGreatDoorM00
import Derived.Test.YtpoibdhhcbelnaaGreatDoorM16
import Derived.Test.YtpoibdhhcbelnaaGreatDoorM03
namespace Go.Proofs.YtpoibdhhcbelnaaGreatDoor
open Go.Shelf Go.RowKit Go.Lib
set_option maxRecDepth 100000 in
set_option maxHeartbeats 1000000 in
theorem ins_nil (g:Value)(w:World):Calls Tryz.prog 255 #[.slice none 0 0,.int .i64 0,.int .i64 0,g] w fun e w'=>e=.returned (.tuple #[])/\w'=w:=by
  go_enter Tryz.func255,Tryz.ntmps255
  go_wp2_with fail
  go_loopg [8] 1 (fun _ iv wr=>iv=.int .i64 1/\wr=w)
  case atStart=>exact ⟨rfl,rfl⟩
  case round =>
    obtain ⟨rfl,rfl⟩:=hrel
    go_wp2
    go_end0
    exact ⟨rfl,rfl⟩
set_option maxRecDepth 100000 in
set_option maxHeartbeats 1000000 in
theorem pdq_nil (g:Value)(lim:Int)(w:World):Calls Tryz.prog 217 #[.slice none 0 0,.int .i64 0,.int .i64 0,.int .i64 lim,g] w fun e w'=>e=.returned (.tuple #[])/\w'=w:=by
  go_enter Tryz.func217,Tryz.ntmps217
  go_wp2_with fail
  go_loopg [1,2] 1 (fun _ av bv wr=>av=.int .i64 0/\bv=.int .i64 0/\wr=w)
  case atStart=>exact ⟨rfl,rfl,rfl⟩
  case round =>
    obtain ⟨rfl,rfl,hw⟩:=hrel
    subst hw
    go_wp2_with (go_at_call 255;refine (ins_nil _ _).mono ?_;rintro e w' ⟨rfl,hw⟩;have hw8:=hw.symm;subst hw8;clear hw)
    refine bodyPost_ret (v:=.tuple #[]) (by simp [results,Tryz.results217,go_sem]) rfl ?_
    exact ⟨rfl,rfl⟩
set_option maxRecDepth 100000 in
set_option maxHeartbeats 1000000 in
theorem sort_nil (g:Value)(w:World):Calls Tryz.prog 173 #[.slice none 0 0,g] w fun e w'=>e=.returned (.tuple #[])/\w'=w:=by
  go_enter Tryz.func173,Tryz.ntmps173
  go_wp2_with (first | (go_at_call 182;refine (Tryz.bits_Len 0 _ (by decide) (by decide)).mono ?_;rintro e w' ⟨rfl,hw⟩;have hw8:=hw.symm;subst hw8;clear hw) | (go_at_call 217;refine (pdq_nil _ _ _).mono ?_;rintro e w' ⟨rfl,hw⟩;have hw8:=hw.symm;subst hw8;clear hw))
  go_end0
  exact ⟨rfl,rfl⟩
set_option maxRecDepth 100000 in
set_option maxHeartbeats 1000000 in
theorem compact_nil (w:World):Calls Tryz.prog 176 #[.slice none 0 0] w fun e w'=>e=.returned (.slice none 0 0)/\w'=w:=by
  go_enter Tryz.func176,Tryz.ntmps176
  go_wp2
  go_ret
  exact ⟨rfl,rfl⟩
set_option maxRecDepth 100000 in
set_option maxHeartbeats 1000000 in
theorem index_nil (g:Value)(w:World):Calls Tryz.prog 219 #[.slice none 0 0,g] w fun e w'=>e=.returned (.int .i64 (-1))/\w'=w:=by
  go_enter Tryz.func219,Tryz.ntmps219
  go_wp2_with fail
  go_loopg [8] 1 (fun _ iv wr=>iv=.int .i64 0/\wr=w)
  case atStart=>exact ⟨rfl,rfl⟩
  case round =>
    obtain ⟨rfl,hw⟩:=hrel
    subst hw
    go_wp2
    go_ret
    exact ⟨rfl,rfl⟩
set_option maxRecDepth 100000 in
set_option maxHeartbeats 1000000 in
theorem contains_nil (g:Value)(w:World):Calls Tryz.prog 178 #[.slice none 0 0,g] w fun e w'=>e=.returned (.bool false)/\w'=w:=by
  go_enter Tryz.func178,Tryz.ntmps178
  go_wp2_with (go_at_call 219;refine (index_nil _ _).mono ?_;rintro e w' ⟨rfl,hw⟩;have hw8:=hw.symm;subst hw8;clear hw)
  go_ret
  exact ⟨rfl,rfl⟩
theorem But.later {S T:Nat->Prop}{a b c:World}(h:But S a b)(k:But T b c)(hT:∀ i,i<a.heap.size->T i->S i):But S a c :=
  ⟨k.os.trans h.os,k.tape.trans h.tape,k.output.trans h.output,Nat.le_trans h.size k.size,fun i hi hn=>(k.block i (Nat.lt_of_lt_of_le hi h.size) (fun ht=>hn (hT i hi ht))).trans (h.block i hi hn)⟩
def NewRest (w:World)(m bm:Nat)(nn ee:Option Nat)(f:List UInt8->Option Nat)(n:Nat)(nm:List UInt8)(kd:Int)(en:Bool)(e:Ending)(w':World):Prop :=
  ∃ x,w.heap.size<=x/\e=.returned (.pointer (some ⟨x,0,none⟩))/\But (fun k=>k=bm) w w'/\MS w' m bm nn ee (put f nm x) (n+1)/\∃ pa pn pc fv,RestB w' x n kd pa pn pc en fv
def OldRest (w:World)(y:Nat)(e:Ending)(w':World):Prop:=e=.returned (.pointer (some ⟨y,0,none⟩))/\Below w.heap.size w w'
theorem IntsW.nil (w:World)(a:Option Addr):IntsW w a []:=fun j x hx=>by simp at hx
theorem PtsW.nil (w:World)(a:Option Addr)(num:Nat->Int):PtsW w a [] num:=fun j x hx=>by simp at hx
end Go.Proofs.YtpoibdhhcbelnaaGreatDoor
namespace Go.Proofs.YtpoibdhhcbelnaaGreatDoor
open Go.Shelf Go.RowKit Go.Lib
def flat (l:List (Int×Int)):List Int:=l.flatMap fun x=>[x.1,x.2]
theorem flat_snoc (l:List (Int×Int))(x:Int×Int):flat (l++[x])=flat l++[x.1,x.2]:=by simp [flat]
theorem flat_len (l:List (Int×Int)):(flat l).length=2*l.length:=by
  induction l with
  | nil=>rfl
  | cons x l ih=>simp only [flat,List.flatMap_cons,List.length_append,List.length_cons,List.length_nil] at *;omega
theorem flat_mem {l:List (Int×Int)}{y:Int}(h:y∈flat l):∃ x∈l,y=x.1\/y=x.2:=by
  unfold flat at h
  obtain ⟨x,hx,hy⟩:=List.mem_flatMap.1 h
  exact ⟨x,hx,by simpa using hy⟩
theorem two_cells (w:World)(o:Obj)(y1 y2:Int):∀ j u,[Value.int .i64 y1,Value.int .i64 y2][j]?=some u->((w.alloc o).alloc (.cells #[.int .i64 y1,.int .i64 y2] 3)).cell? ((⟨w.heap.size+1,0,none⟩:Addr).add j)=some u:=by
  intro j u hj
  match j,hj with
  | 0,hj=>simp at hj;subst hj;simp [Addr.add]
  | 1,hj=>simp at hj;subst hj;simp [Addr.add]
theorem own_ints {w:World}{B n:Nat}{v:Value}{L:List Int}(h:w.ownsRow B 3 1 v n (ints L))(hr:∀ x∈L,-9223372036854775808<=x/\x<=9223372036854775807):∃ a c,v=.slice a L.length c/\IntsW w a L/\n=L.length:=by
  have hl:=h.1
  simp [ints] at hl
  rcases h.2 with ⟨rfl,rfl⟩ | ⟨g,cap,cur,rfl,hg,hh,r⟩
  · have:L=[]:=List.length_eq_zero_iff.1 (by omega)
    subst this
    exact ⟨none,0,rfl,IntsW.nil _ _,rfl⟩
  · refine ⟨some ⟨g,0,none⟩,cap,by rw [hl],fun j x hx=>?_,by omega⟩
    obtain ⟨bp,e,hc,hlt,_,_⟩:=(show ∃ bp,(some (⟨g,0,none⟩:Addr))=some ⟨bp,0,none⟩/\w.cell? ⟨bp,j,none⟩=some (.int .i64 x)/\bp<w.heap.size/\B<=bp/\j<n from own3_cell h x hx)
    cases e
    exact ⟨g,0,rfl,hlt,by rw [Nat.zero_add];exact hc,hr x (List.mem_of_getElem? hx)⟩
def SetI (w:World)(S:Nat)(la:Option Addr)(lc m:Nat)(l:List (Int×Int))(j:Nat)(ev iv:Value)(wr:World):Prop:=∃ i:Nat,iv=.int .i64 (i:Int)/\i<=l.length/\l.length-i<=j/\wr.ownsRow (S+2) 3 1 ev (2*i) (ints (flat (l.take i)))/\Below S w wr/\Blk wr S [.pointer (some ⟨m,0,none⟩)] 151/\Blk wr (S+1) [.slice la l.length lc] 29
end Go.Proofs.YtpoibdhhcbelnaaGreatDoor
namespace Go.Proofs.YtpoibdhhcbelnaaGreatDoor
open Go.Shelf Go.RowKit Go.Lib
theorem b3_1 {W:World}{N:Nat}(h:W.heap.size=N){cs:List Value}{T:TypeId}(o2 o3:Obj):Blk (((W.alloc (.cells cs.toArray T)).alloc o2).alloc o3).drew N cs T:=by subst h;exact ((Blk.new W cs T).alloc o2).alloc o3
theorem b3_2 {W:World}{N:Nat}(h:W.heap.size=N){cs:List Value}{T:TypeId}(o1 o3:Obj):Blk (((W.alloc o1).alloc (.cells cs.toArray T)).alloc o3).drew (N+1) cs T:=by
  subst h;have:=(Blk.new (W.alloc o1) cs T).alloc o3;rw [show (W.alloc o1).heap.size=W.heap.size+1 by simp] at this;exact this
theorem b3_3 {W:World}{N:Nat}(h:W.heap.size=N){cs:List Value}{T:TypeId}(o1 o2:Obj):Blk (((W.alloc o1).alloc o2).alloc (.cells cs.toArray T)).drew (N+1+1) cs T:=by
  subst h;have:=Blk.new ((W.alloc o1).alloc o2) cs T;rw [show ((W.alloc o1).alloc o2).heap.size=W.heap.size+1+1 by simp] at this;exact this
theorem below3 (W:World)(o1 o2 o3:Obj):Below W.heap.size W (((W.alloc o1).alloc o2).alloc o3).drew:=((((Below.refl _ W).alloc (Nat.le_refl _) _).alloc (by simp) _).alloc (by simp;omega) _).drew
end Go.Proofs.YtpoibdhhcbelnaaGreatDoor
namespace Go.Proofs.YtpoibdhhcbelnaaGreatDoor
open Go.Shelf Go.RowKit
structure StarN (w:World)(xr xm xs b1 c1 b2 c2:Nat)(la:Option Addr)(lc:Nat):Prop where
  row:∃ ex,Blk w xr [.int .i64 1,.slice none 0 0,.slice (some ⟨b1,0,none⟩) 1 c1,.int .i64 0,.int .i64 0,ex] 79
  p1:w.cell? ⟨b1,0,none⟩=some (.pointer (some ⟨xm,0,none⟩))
  l1:b1<w.heap.size
  many:Blk w xm [.int .i64 5,.slice none 0 0,.slice (some ⟨b2,0,none⟩) 1 c2,.int .i64 0,.int .i64 (-1)] 76
  p2:w.cell? ⟨b2,0,none⟩=some (.pointer (some ⟨xs,0,none⟩))
  l2:b2<w.heap.size
  set:Blk w xs [.int .i64 0,.slice la 1 lc,.slice none 0 0,.int .i64 0,.int .i64 0] 76
  rd:Rd w la [(97,97)]
def nameS:List UInt8:=nameOf 0 [97,97] []
def nameM (k:Int):List UInt8:=nameOf 5 [0,-1] [k]
end Go.Proofs.YtpoibdhhcbelnaaGreatDoor
namespace Go.Proofs.YtpoibdhhcbelnaaGreatDoor
open Go.Shelf Go.RowKit Go.Lib
def name2:List UInt8:=nameOf 2 [] []
def name1:List UInt8:=nameOf 1 [] []
theorem name2_eq:name2=[50]:=by decide +kernel
theorem name1_eq:name1=[49]:=by decide +kernel
theorem name12:name1≠name2:=by rw [name1_eq,name2_eq];decide
structure RMk (w:World)(B m bm x0 x1:Nat)(f:List UInt8->Option Nat)(n:Nat):Prop where
  ms:MS w m bm (some x0) (some x1) f n
  none:∃ pa pn pc fv,RestB w x0 0 2 pa pn pc false fv
  empty:∃ pa pn pc fv,RestB w x1 1 1 pa pn pc true fv
  apart:B<=m/\B<=bm/\B<=x0/\B<=x1/\m≠bm/\m≠x0/\m≠x1/\bm≠x0/\bm≠x1/\x0≠x1
def Mk2 (w:World)(S:Nat)(wx:World):Prop:=∃ x0,S+3<=x0/\MS wx (S+1) S (some x0) none (put (fun _=>none) name2 x0) 1/\(∃ pa pn pc fv,RestB wx x0 0 2 pa pn pc false fv)/\Blk wx (S+2) [.pointer (some ⟨S+1,0,none⟩)] 151/\Below S w wx/\PowT wx
def Mk3 (w:World)(S:Nat)(wx:World):Prop:=∃ x0 x1,RMk wx S (S+1) S x0 x1 (put (put (fun _=>none) name2 x0) name1 x1) 2/\Blk wx (S+2) [.pointer (some ⟨S+1,0,none⟩)] 151/\Below S w wx
theorem put_none {f:List UInt8->Option Nat}{a b:List UInt8}{x:Nat}(h:b≠a)(k:f b=none):put f a x b=none:=by unfold put;rw [if_neg h];exact k
end Go.Proofs.YtpoibdhhcbelnaaGreatDoor
namespace Go.Proofs.YtpoibdhhcbelnaaGreatDoor
open Go.Shelf Go.RowKit Go.Lib
theorem rest_info:∃ j:TypeInfo,Tryz.prog.info? 169=some j/\j.size≠0:=by
  have h:(Tryz.prog.info? 169).map (fun i=>i.size)=some 5:=by kernel_rfl
  cases hi:Tryz.prog.info? 169 with
  | none=>rw [hi] at h;cases h
  | some j=>rw [hi] at h;simp at h;exact ⟨j,rfl,by omega⟩
theorem ptr_same (a:Nat)(w:World):(binOp .eql 159 (.pointer (some ⟨a,0,none⟩)) (.pointer (some ⟨a,0,none⟩))).run Tryz.prog w=.ok (.bool true) w:=by
  obtain ⟨j,hj,_⟩:=rest_info
  exact run_eql_ptr_same w _ Tryz.underlying159 hj
theorem ptr_other {w:World}{a b:Nat}{ca cb:List Value}{ta tb:TypeId}(ha:Blk w a ca ta)(hb:Blk w b cb tb)(hne:a≠b):(binOp .eql 159 (.pointer (some ⟨a,0,none⟩)) (.pointer (some ⟨b,0,none⟩))).run Tryz.prog w=.ok (.bool false) w:=by
  obtain ⟨j,hj,hz⟩:=rest_info
  exact run_eql_ptr_other w Tryz.underlying159 hj hz (fun e=>hne (by injection e)) ha hb
end Go.Proofs.YtpoibdhhcbelnaaGreatDoor
namespace Go.Proofs.YtpoibdhhcbelnaaGreatDoor
open Brm
def valD (acc:Nat):List UInt8->Nat
  | []=>acc
  | b::l=>valD (10*acc+(b.toNat-48)) l
theorem valD_snoc (acc:Nat)(l:List UInt8)(b:UInt8):valD acc (l++[b])=10*valD acc l+(b.toNat-48):=by
  induction l generalizing acc with
  | nil=>rfl
  | cons c l ih=>exact ih _
theorem digit_nat {d:Nat}(h:d<10):(UInt8.ofNat (48+d)).toNat=48+d:=by
  rw [UInt8.toNat_ofNat']
  exact Nat.mod_eq_of_lt (by omega)
theorem dec_unfold (u:Nat):Lib.decDigits u=if u<10 then [UInt8.ofNat (48+u)] else Lib.decDigits (u / 10)++[UInt8.ofNat (48+u % 10)]:=by
  rw [Lib.decDigits]
  by_cases h:u<10
  · rw [dif_pos h,if_pos h]
  · rw [dif_neg h,if_neg h]
theorem dec_val (u:Nat):valD 0 (Lib.decDigits u)=u:=by
  induction u using Nat.strongRecOn with
  | ind u ih =>
    rw [dec_unfold]
    by_cases h:u<10
    · rw [if_pos h]
      show valD (10*0+((UInt8.ofNat (48+u)).toNat-48)) []=u
      rw [digit_nat h]
      show 10*0+(48+u-48)=u
      omega
    · rw [if_neg h,valD_snoc,ih (u / 10) (by omega),digit_nat (by omega)]
      omega
theorem dec_digit (u:Nat):∀ b∈Lib.decDigits u,48<=b.toNat/\b.toNat<=57:=by
  induction u using Nat.strongRecOn with
  | ind u ih =>
    rw [dec_unfold]
    by_cases h:u<10
    · rw [if_pos h]
      intro b hb
      rw [List.mem_singleton.1 hb,digit_nat h]
      omega
    · rw [if_neg h]
      intro b hb
      rcases List.mem_append.1 hb with hb | hb
      · exact ih (u / 10) (by omega) b hb
      · rw [List.mem_singleton.1 hb,digit_nat (by omega)]
        omega
theorem itoa_dig (n:Int):∀ b∈Lib.itoa n,b.toNat≠32:=by
  intro b hb
  unfold Lib.itoa at hb
  split at hb
  · rcases List.mem_cons.1 hb with rfl | hb
    · decide
    · have:=dec_digit _ b hb;omega
  · have:=dec_digit _ b hb;omega
theorem itoa_inj {a b:Int}(h:Lib.itoa a=Lib.itoa b):a=b:=by
  unfold Lib.itoa at h
  have no:∀ u v:Nat,(45:UInt8)::Lib.decDigits u=Lib.decDigits v->False:=fun u v e=>by
    have:=dec_digit v 45 (by rw [<- e];simp)
    exact absurd this (by decide)
  split at h<;>split at h
  · injection h with _ h
    have:=congrArg (valD 0) h
    rw [dec_val,dec_val] at this
    omega
  · exact (no _ _ h).elim
  · exact (no _ _ h.symm).elim
  · have:=congrArg (valD 0) h
    rw [dec_val,dec_val] at this
    omega
theorem split_space {a b:List UInt8}{x y:List UInt8}(ha:∀ c∈a,c.toNat≠32)(hb:∀ c∈b,c.toNat≠32)(hx:x=[]\/∃ t,x=32::t)(hy:y=[]\/∃ t,y=32::t)(h:a++x=b++y):a=b/\x=y:=by
  induction a generalizing b with
  | nil =>
    cases b with
    | nil=>exact ⟨rfl,h⟩
    | cons c b =>
      rw [List.nil_append,List.cons_append] at h
      rcases hx with rfl | ⟨t,rfl⟩
      · cases h
      · injection h with h1 _
        exact absurd (by rw [<- h1];rfl) (hb c (by simp))
  | cons c a ih =>
    cases b with
    | nil =>
      rw [List.nil_append,List.cons_append] at h
      rcases hy with rfl | ⟨t,rfl⟩
      · cases h
      · injection h with h1 _
        exact absurd (by rw [h1];rfl) (ha c (by simp))
    | cons d b =>
      rw [List.cons_append,List.cons_append] at h
      injection h with h1 h2
      obtain ⟨e1,e2⟩:=ih (fun c hc=>ha c (by simp [hc])) (fun c hc=>hb c (by simp [hc])) h2
      exact ⟨by rw [h1,e1],e2⟩
theorem tail_form (ns:List Int):tailOf ns=[]\/∃ t,tailOf ns=32::t:=by
  cases ns with
  | nil=>exact .inl rfl
  | cons n ns=>exact .inr ⟨_,by simp [tailOf];rfl⟩
theorem tail_cons (n:Int)(ns:List Int):tailOf (n::ns)=32::(Lib.itoa n++tailOf ns):=by simp [tailOf]
theorem tail_inj:∀ {xs ys:List Int},tailOf xs=tailOf ys->xs=ys
  | [],[],_=>rfl
  | [],y::ys,h=>by rw [tail_cons] at h;cases h
  | x::xs,[],h=>by rw [tail_cons] at h;cases h
  | x::xs,y::ys,h=>by
    rw [tail_cons,tail_cons] at h
    injection h with _ h
    obtain ⟨e1,e2⟩:=split_space (itoa_dig x) (itoa_dig y) (tail_form _) (tail_form _) h
    rw [itoa_inj e1,tail_inj e2]
theorem tail_append (xs ys:List Int):tailOf (xs++ys)=tailOf xs++tailOf ys:=by simp [tailOf]
theorem name_inj {a b:Int}{xs ys us vs:List Int}(h:nameOf a xs us=nameOf b ys vs):a=b/\xs++us=ys++vs:=by
  unfold nameOf at h
  rw [List.append_assoc,List.append_assoc,<- tail_append,<- tail_append] at h
  obtain ⟨e1,e2⟩:=split_space (itoa_dig a) (itoa_dig b) (tail_form _) (tail_form _) h
  exact ⟨itoa_inj e1,tail_inj e2⟩
def RE.kd:RE->Int
  | .set _=>0
  | .empty=>1
  | .pair _ _=>1
  | .or _=>2
  | .not _=>4
  | .many _ _ _=>5
def RE.args:RE->List Int
  | .set s=>flat s
  | .many _ m n=>[m,n]
  | _=>[]
def nNums (l:List Nat):List Int:=l.map (fun (a:Nat)=>(a:Int))
def RE.name (e:RE):List UInt8:=nameOf e.kd e.args (nNums e.parts)
theorem nNums_inj:∀ {l k:List Nat},nNums l=nNums k->l=k
  | [],[],_=>rfl
  | [],_::_,h=>by cases h
  | _::_,[],h=>by cases h
  | a::l,b::k,h=>by
    simp only [nNums,List.map_cons,List.cons.injEq] at h
    rw [show a=b by omega,nNums_inj (l:=l) (k:=k) h.2]
theorem flat_inj:∀ {l k:List (Int×Int)},flat l=flat k->l=k
  | [],[],_=>rfl
  | [],_::_,h=>by simp [flat] at h
  | _::_,[],h=>by simp [flat] at h
  | a::l,b::k,h=>by
    simp only [flat,List.flatMap_cons,List.cons_append,List.nil_append,List.cons.injEq] at h
    obtain ⟨h1,h2,h3⟩:=h
    rw [show a=b from Prod.ext h1 h2,flat_inj (l:=l) (k:=k) h3]
theorem RE.name_inj {e f:RE}(h:e.name=f.name):e=f:=by
  obtain ⟨h1,h2⟩:=Go.Proofs.YtpoibdhhcbelnaaGreatDoor.name_inj h
  cases e<;>cases f<;>simp only [RE.kd,RE.args,RE.parts] at h1 h2<;>first | (exfalso;revert h1;decide) | skip
  · simp only [nNums,List.map_nil,List.append_nil] at h2;rw [flat_inj h2]
  · rfl
  · simp [nNums] at h2
  · simp [nNums] at h2
  · simp only [nNums,List.nil_append,List.map_cons,List.map_nil,List.cons.injEq,and_true] at h2
    obtain ⟨h3,h4⟩:=h2
    congr 1<;>omega
  · rw [List.nil_append,List.nil_append] at h2;rw [nNums_inj h2]
  · simp only [nNums,List.nil_append,List.map_cons,List.map_nil,List.cons.injEq,and_true] at h2
    congr 1;omega
  · simp only [nNums,List.cons_append,List.nil_append,List.map_cons,List.map_nil,List.cons.injEq,and_true] at h2
    obtain ⟨h3,h4,h5⟩:=h2
    congr 1;omega
end Go.Proofs.YtpoibdhhcbelnaaGreatDoor
namespace Go.Proofs.YtpoibdhhcbelnaaGreatDoor
open Go.RowKit
def MapI (w:World)(b:Nat)(f:Int->Option Nat)(n:Nat):Prop:=∃ D:DataW Unit,w.ownsMap Tryz.prog 3 RP b n D/\Maps.size D=n/\∀ s:Int,Maps.has D (.int .i64 s)=(f s).isSome/\∀ x,f s=some x->D.atKey (.int .i64 s) (.lit (.bool false))=.lit (.int .i64 x)
theorem MapI.lt {w:World}{b:Nat}{f:Int->Option Nat}{n:Nat}(h:MapI w b f n):b<w.heap.size:=by obtain ⟨D,h1,_⟩:=h;exact h1.lt
theorem MapI.block {w w':World}{b:Nat}{f:Int->Option Nat}{n:Nat}(h:MapI w b f n)(k:w'.heap[b]?=w.heap[b]?):MapI w' b f n:=by
  obtain ⟨D,⟨es,clock,h1,h2⟩,h3⟩:=h
  exact ⟨D,⟨es,clock,k.trans h1,h2⟩,h3⟩
theorem MapI.fresh {w:World}{b:Nat}(h:w.heap[b]?=some (.map #[] 0)):MapI w b (fun _=>none) 0:=by
  have hm:MapI (w.alloc (.map #[] 0)) w.heap.size (fun _=>none) 0:=⟨.map [],World.ownsMap_made w Tryz.prog 3 RP,rfl,fun s=>⟨rfl,fun x hx=>by cases hx⟩⟩
  obtain ⟨D,⟨es,clock,h1,h2⟩,h3⟩:=hm
  have e:(w.alloc (.map #[] 0)).heap[w.heap.size]?=some (.map #[] 0):=(MapKept.heap_alloc w (.map #[] 0)).1
  rw [e] at h1
  exact ⟨D,⟨es,clock,h.trans h1,h2⟩,h3⟩
theorem key_int {s:Int}(h0:-9223372036854775808<=s)(h1:s<=9223372036854775807):keyOf Tryz.prog 3 (.int .i64 s)=some (.int .i64 s):=Maps.keyOf_int_mk Tryz.underlying3 (by simp [Lit.wf,IntKind.min,IntKind.max,IntKind.signed,IntKind.bits];omega)
theorem MapI.look {w:World}{b:Nat}{f:Int->Option Nat}{n:Nat}(h:MapI w b f n)(s:Int)(h0:-9223372036854775808<=s)(h9:s<=9223372036854775807) :
    (Instr.lookup 289 (.map (some b)) (.int .i64 s) true).run Tryz.prog w=.ok (.tuple #[NPtr (f s),.bool (f s).isSome]) w:=by
  obtain ⟨D,h1,h2,h3⟩:=h
  obtain ⟨v,ps,hrun,hv⟩:=h1.look_ok (t:=289) (e:=159) (Maps.int_keyed Tryz.underlying3) Tryz.underlying289 (Tryz.zeroValue159 _) RP_none (key_int h0 h9)
  obtain ⟨h4,h5⟩:=h3 s
  rw [hrun,h4]
  cases hf:f s with
  | none =>
    rw [hf] at h4
    rw [Maps.atKey_of_not_has h4] at hv
    rw [RP_inv_none hv]
  | some x =>
    rw [h5 x hf] at hv
    rw [RP_inv_some hv]
def putI (f:Int->Option Nat)(s:Int)(x:Nat):Int->Option Nat:=fun t=>if t=s then some x else f t
end Go.Proofs.YtpoibdhhcbelnaaGreatDoor
namespace Go.Proofs.YtpoibdhhcbelnaaGreatDoor
open Go.Shelf Go.RowKit Go.Lib
def NewR (w w':World)(x n:Nat)(kd:Int)(pa:Option Addr)(pl pc:Nat)(en:Bool)(F:Nat)(cp:Array Value):Prop:=∃ k b mm,RestB w' x n kd pa pl pc en (.func (.func 220) #[] #[.pointer (some ⟨k,0,none⟩),.pointer (some ⟨b,0,none⟩)])/\(w.heap.size<=k/\w.heap.size<=b/\w.heap.size<=mm/\k≠mm/\b≠mm/\k≠b)/\Blk w' b [.func (.func F) #[] cp] 167/\Blk w' k [.map (some mm)] 289/\w'.heap[mm]?=some (.map #[] 0)
set_option maxRecDepth 100000 in
set_option maxHeartbeats 4000000 in
theorem keep_any2 (m bm:Nat)(nn ee:Option Nat)(f:List UInt8->Option Nat)(n:Nat)(x:Nat)(n0 kd:Int)(pa:Option Addr)(pc:Nat)(en:Bool)(F:Nat)(cp:Array Value)(ma:Option Addr)(mc:Nat)(ns:List Int)(ps:List Nat)(num:Nat->Int)(w:World)
    (hM:MS w m bm nn ee f n) (hx:RestB w x n0 kd pa ps.length pc en (.func (.func F) #[] cp)) (hxm:x≠m) (hxb:x≠bm) (hns:IntsW w ma ns) (hps:PtsW w pa ps num) (hP:PowT w) (hk0:0<=kd) (hk9:kd<=9) (hl1:ns.length<=1000000) (hl2:ps.length<=3000000000000) (hn:n<=9000000000000000000) :
    Calls Tryz.prog 129 #[.pointer (some ⟨m,0,none⟩),.pointer (some ⟨x,0,none⟩),.slice ma ns.length mc] w fun e w' =>
      match f (nameOf kd ns (ps.map num)) with
      | some y=>e=.returned (.pointer (some ⟨y,0,none⟩))/\Below w.heap.size w w'
      | none=>e=.returned (.pointer (some ⟨x,0,none⟩))/\But (fun k=>k=x\/k=bm) w w'/\MS w' m bm nn ee (put f (nameOf kd ns (ps.map num)) x) (n+1)/\NewR w w' x n kd pa ps.length pc en F cp:=by
  have HM:=hide hM
  have HX:=hide hx
  have HNS:=hide hns
  have HPS:=hide hps
  have HP:=hide hP
  have x0:w.cell? ⟨x,1,none⟩=some (.int .i64 kd):=hx.cell 1
  have hxl:=hx.lt
  clear hM hx hns hps hP
  obtain ⟨NM,hNM⟩:∃ NM,nameOf kd ns (ps.map num)=NM:=⟨_,rfl⟩
  rw [hNM]
  have HNM:=hide hNM
  obtain ⟨R,hR⟩:∃ R,f NM=R:=⟨_,rfl⟩
  rw [hR]
  have HR:=hide hR
  clear hNM hR
  go_enter Tryz.func129,Tryz.ntmps129
  go_wp2_with fail
  refine (itoa_gen kd (by omega) (by omega) _ HP.out).mono ?_
  rintro e w1 ⟨rfl,hb1⟩
  have HB1:=hide hb1
  have HZ:=hide (itoaB_size kd (by omega) (by omega))
  clear hb1
  go_wp2_with fail
  go_loopg [7,21] ns.length (fun j nv iv wr=>NameI w (Lib.itoa kd) 21 ns j nv iv wr)
  case atStart=>exact ⟨0,_,rfl,Nat.zero_le _,by omega,rfl,by simp [itoaB_bytes,tailOf],by have:=HZ.out;omega,HB1.out⟩
  case round =>
    obtain ⟨i,s,rfl,hi,hj,rfl,hs,hsz,hb⟩:=hrel
    have HS:=hide hs
    have HB:=hide hb
    clear hs hb
    have i0:(0:Int)<=(i:Int):=Int.natCast_nonneg _
    by_cases hlt:i<ns.length
    · have i1:(i:Int)<(ns.length:Int):=by omega
      obtain ⟨y,hy⟩:∃ y,ns[i]?=some y:=⟨_,List.getElem?_eq_getElem hlt⟩
      obtain ⟨bb,off,rfl,hbb,hcell,hr0,hr1⟩:=(HNS.out.below HB.out) i y hy
      have HTK:=hide (take_snocL hy)
      have HPT:=hide (HP.out.below HB.out)
      clear hy
      go_wp2_with fail
      refine (itoa_gen y hr0 hr1 _ HPT.out).mono ?_
      rintro e w2 ⟨rfl,hb2⟩
      have HB2:=hide hb2
      have hz2:=itoaB_size y hr0 hr1
      have l1:1+(itoaB y).size<=9223372036854775807:=by omega
      have l2:s.size+(1+(itoaB y).size)<=9223372036854775807:=by omega
      have l3:s.size+(ByteArray.mk #[32]++itoaB y).size<=9223372036854775807:=by rw [ByteArray.size_append];exact l2
      have HY:=hide (itoaB_bytes y)
      generalize itoaB y=t at *
      clear hb2
      go_wp2_with fail
      go_roundg (gk-1)
      case measure=>omega
      case rel =>
        refine ⟨i+1,_,by go_num,by omega,by omega,rfl,?_,?_,HB.out.trans (HB2.out.mono HB.out.size)⟩
        · rw [bytes_add,bytes_add,HS.out,HTK.out,tailOf_snoc,HY.out,List.append_assoc];rfl
        · rw [ByteArray.size_append,ByteArray.size_append]
          have:(ByteArray.mk #[32]).size=1:=rfl
          omega
    · have d1:decide ((i:Int)<(ns.length:Int))=false:=decide_eq_false (by omega)
      have hie:i=ns.length:=by omega
      have HS1:Hid (bytesOf s=Lib.itoa kd++tailOf ns):=by have h:=HS.out;rw [hie,List.take_length] at h;exact h
      have hs1:s.size<=22000021:=by omega
      have HXr:=hide (Blk.below HX.out (HB.out))
      have x2:wr.cell? ⟨x,2,none⟩=some (.slice pa ps.length pc):=(HB.out.cell (p:=⟨x,2,none⟩) hxl).trans (Blk.cell HX.out 2)
      have hxl2:x<wr.heap.size:=Nat.lt_of_lt_of_le hxl HB.out.size
      have HIE:=hide hie
      have d0:decide (i<ns.length)=false:=decide_eq_false hlt
      clear hsz hie hlt hj hi HS
      go_wp2_with fail
      go_loopg [7,36] ps.length (fun j nv iv wr=>NameI w (Lib.itoa kd++tailOf ns) 22000021 (ps.map num) j nv iv wr)
      case atStart=>exact ⟨0,_,rfl,Nat.zero_le _,by simp,rfl,by rw [HS1.out];simp [tailOf],by omega,HB.out⟩
      case round =>
        obtain ⟨q,t,rfl,hq,hj,rfl,ht,htz,hbt⟩:=hrel
        rw [List.length_map] at hq hj
        have HT:=hide ht
        have HBT:=hide hbt
        clear ht hbt
        have q0:(0:Int)<=(q:Int):=Int.natCast_nonneg _
        by_cases hlt:q<ps.length
        · have q1:(q:Int)<(ps.length:Int):=by omega
          obtain ⟨y,hy⟩:∃ y,ps[q]?=some y:=⟨_,List.getElem?_eq_getElem hlt⟩
          obtain ⟨bb,off,rfl,hbb,hyl,hcell,hcn,hr0,hr1⟩:=(HPS.out.below HBT.out) q y hy
          have HTK:=hide (take_snocL (show (ps.map num)[q]?=some (num y) by rw [List.getElem?_map,hy];rfl))
          have HPT:=hide (HP.out.below HBT.out)
          generalize num y=ny at *
          clear hy
          go_wp2_with fail
          refine (itoa_gen ny hr0 hr1 _ HPT.out).mono ?_
          rintro e w2 ⟨rfl,hb2⟩
          have HB2:=hide hb2
          have hz2:=itoaB_size ny hr0 hr1
          have l1:1+(itoaB ny).size<=9223372036854775807:=by omega
          have l2:t.size+(1+(itoaB ny).size)<=9223372036854775807:=by omega
          have l3:t.size+(ByteArray.mk #[32]++itoaB ny).size<=9223372036854775807:=by rw [ByteArray.size_append];exact l2
          have HY:=hide (itoaB_bytes ny)
          generalize itoaB ny=u at *
          clear hb2
          go_wp2_with fail
          go_roundg (gk-1)
          case measure=>omega
          case rel =>
            refine ⟨q+1,_,by go_num,by rw [List.length_map];omega,by rw [List.length_map];omega,rfl,?_,?_,HBT.out.trans (HB2.out.mono HBT.out.size)⟩
            · rw [bytes_add,bytes_add,HT.out,HTK.out,tailOf_snoc,HY.out,List.append_assoc];rfl
            · rw [ByteArray.size_append,ByteArray.size_append]
              have:(ByteArray.mk #[32]).size=1:=rfl
              omega
        · have d2:decide ((q:Int)<(ps.length:Int))=false:=decide_eq_false (by omega)
          have HN:Hid (bytesOf t=nameOf kd ns (ps.map num)):=by
            have h:=HT.out
            rw [List.take_of_length_le (by rw [List.length_map];omega)] at h
            exact h
          have ht1:t.size<=maxLen:=by unfold maxLen;omega
          have d0':decide (q<ps.length)=false:=decide_eq_false hlt
          clear HT htz hlt hj hq
          have hMr:=HM.out.below HBT.out
          have HMr:=hide hMr
          have m0:wr.cell? ⟨m,0,none⟩=some (.map (some bm)):=hMr.1.cell 0
          have ht2:f (bytesOf t)=R:=by rw [HN.out,HNM.out];exact HR.out
          have hlook:=hMr.2.1.look t ht1
          rw [ht2] at hlook
          have HT2:=hide ht2
          clear hMr ht2
          cases R with
          | some y =>
            go_wp2_with fail
            go_ret
            exact ⟨rfl,HBT.out⟩
          | none =>
            have HXt:=hide (Blk.below HX.out HBT.out)
            have hlen:=HMr.out.2.1.len 3
            have f0:=HXt.out.frozen 0
            have x4:wr.cell? ⟨x,4,none⟩=some (.func (.func F) #[] cp):=HXt.out.cell 4
            have x00:wr.cell? ⟨x,0,none⟩=some (.int .i64 n0):=HXt.out.cell 0
            have hxl3:=HXt.out.lt
            have hml:=HMr.out.1.lt
            go_wp2_with fail
            have hbt1:But (fun k=>k=x\/k=bm) wr (wr.setCell ⟨x,0,none⟩ (.int .i64 n)):=(But.refl _ _).setCell (.inl (.inl rfl)) _
            have hx1:Blk (wr.setCell ⟨x,0,none⟩ (.int .i64 n)) x _ 169:=HXt.out.set 0 (.int .i64 n)
            have hm1:Blk (wr.setCell ⟨x,0,none⟩ (.int .i64 n)) m _ 224:=HMr.out.1.setOther (p:=⟨x,0,none⟩) (Ne.symm hxm) _
            have hp1:MapN (wr.setCell ⟨x,0,none⟩ (.int .i64 n)) bm f n:=HMr.out.2.1.block (Below.heap_setCell _ _ _ _ (Ne.symm hxb))
            have hsw:wr.heap.size<=(wr.setCell ⟨x,0,none⟩ (.int .i64 n)).heap.size:=hbt1.size
            generalize wr.setCell ⟨x,0,none⟩ (.int .i64 n)=W1 at *
            refine (remember_any F cp W1).mono ?_
            rintro e w5 ⟨k,b,mm,rfl,hb5,hge,hB5,hK5,hN5⟩
            have hx5:=hx1.below hb5
            have hm5:=hm1.below hb5
            have hp5:=hp1.below hb5
            have HBT5:=hide (hbt1.trans (But.below hb5))
            have f4:=hx5.frozen 4
            have x54:w5.cell? ⟨x,4,none⟩=some (.func (.func F) #[] cp):=hx5.cell 4
            have m5:w5.cell? ⟨m,0,none⟩=some (.map (some bm)):=hm5.cell 0
            have hbmW:bm<W1.heap.size:=hp1.lt
            have hxW:x<W1.heap.size:=hx1.lt
            have hB6:=hB5.setOther (p:=⟨x,4,none⟩) (show b≠x by omega) (.func (.func 220) #[] #[.pointer (some ⟨k,0,none⟩),.pointer (some ⟨b,0,none⟩)])
            have hK6:=hK5.setOther (p:=⟨x,4,none⟩) (show k≠x by omega) (.func (.func 220) #[] #[.pointer (some ⟨k,0,none⟩),.pointer (some ⟨b,0,none⟩)])
            have hN6:=(Below.heap_setCell w5 ⟨x,4,none⟩ (.func (.func 220) #[] #[.pointer (some ⟨k,0,none⟩),.pointer (some ⟨b,0,none⟩)]) mm (show mm≠x by omega)).trans hN5
            have hNl:mm<w5.heap.size:=(Array.getElem?_eq_some_iff.1 hN5).1
            have HGE:Hid (w.heap.size<=k/\w.heap.size<=b/\w.heap.size<=mm/\k≠mm/\b≠mm/\k≠b):=by have:=HBT.out.size;show _/\_;omega
            have HNEB:Hid (b≠bm/\k≠bm/\mm≠bm):=by show _/\_;omega
            have hx6:=hx5.set 4 (.func (.func 220) #[] #[.pointer (some ⟨k,0,none⟩),.pointer (some ⟨b,0,none⟩)])
            have hm6:=hm5.setOther (p:=⟨x,4,none⟩) (Ne.symm hxm) (.func (.func 220) #[] #[.pointer (some ⟨k,0,none⟩),.pointer (some ⟨b,0,none⟩)])
            have hp6:MapN (w5.setCell ⟨x,4,none⟩ (.func (.func 220) #[] #[.pointer (some ⟨k,0,none⟩),.pointer (some ⟨b,0,none⟩)])) bm f n:=hp5.block (Below.heap_setCell _ _ _ _ (Ne.symm hxb))
            have hxl5:=hx5.lt
            have hml5:=hm5.lt
            obtain ⟨w7,hrun,hp7,ht7⟩:=hp6.store t ht1 (by unfold maxLen;omega) HT2.out x
            have HB7:=hide (hB6.turned ht7 HNEB.out.1)
            have HK7:=hide (hK6.turned ht7 HNEB.out.2.1)
            have HN7:Hid (w7.heap[mm]?=some (.map #[] 0)):=(ht7.grown.block mm (by simpa [World.setCell] using hNl) (fun e=>by injection e with e;exact HNEB.out.2.2 e)).trans hN6
            have HP7:=hide hp7
            have HT7:=hide ht7
            have HX6:=hide hx6
            have HM6:=hide hm6
            clear hx1 hm1 hp1 hb5 hge hx5 hm5 hp5 hx6 hm6 hp6 hp7 ht7 hbt1 hlook hlen x4 f0 x00 hB5 hK5 hN5 hB6 hK6 hN6 hsw hbmW hxW hNl
            go_wp2_with fail
            go_ret
            refine ⟨rfl,(But.below HBT.out).trans ((HBT5.out.setCell (p:=⟨x,4,none⟩) (.inl (.inl rfl)) _).turned HT7.out (.inr rfl)),⟨HM6.out.turned HT7.out HM.out.2.2,?_,HM.out.2.2⟩,k,b,mm,HX6.out.turned HT7.out hxb,HGE.out,HB7.out,HK7.out,HN7.out⟩
            rw [<- HNM.out,<- HN.out]
            exact HP7.out
end Go.Proofs.YtpoibdhhcbelnaaGreatDoor
namespace Go.Proofs.YtpoibdhhcbelnaaGreatDoor
open Go.Shelf Go.RowKit Go.Lib Brm
abbrev PtrB (b:Nat):Value:=.pointer (some ⟨b,0,none⟩)
structure MC where
  m:Nat
  bm:Nat
  T:List RE
  R:Nat->Nat
  KM:Nat->Nat
  X:Nat->Prop
def MC.Mp (c:MC)(g:Nat):Prop:=g=c.bm\/∃ i,i<c.T.length/\g=c.KM i
def MC.S (c:MC)(g:Nat):Prop:=c.Mp g\/c.X g
def PartsAt (w:World)(S:Nat->Prop)(R:Nat->Nat)(pa:Option Addr)(ps:List Nat):Prop:=∀ j p,ps[j]?=some p->∃ bb off,pa=some ⟨bb,off,none⟩/\bb<w.heap.size/\¬ S bb/\w.cell? ⟨bb,off+j,none⟩=some (PtrB (R p))
def Bhv (w:World)(S:Nat->Prop)(R:Nat->Nat)(M:Nat):RE->Nat->Array Value->Prop
  | .set s,F,cp=>∃ b1 b2 la lc,F=184/\cp=#[PtrB b1,PtrB b2]/\¬ S b1/\¬ S b2/\Blk w b1 [.slice la s.length lc] 29/\Blk w b2 [PtrB M] 151/\Rd w la s/\∀ b o,la=some ⟨b,o,none⟩->b<w.heap.size/\¬ S b
  | .empty,F,cp=>∃ b1,F=130/\cp=#[PtrB b1]/\¬ S b1/\Blk w b1 [PtrB M] 151
  | .pair a b,F,cp=>∃ b1 b2 b3,F=236/\cp=#[PtrB b1,PtrB b2,PtrB b3]/\¬ S b1/\¬ S b2/\¬ S b3/\Blk w b1 [PtrB M] 151/\Blk w b2 [PtrB (R a)] 159/\Blk w b3 [PtrB (R b)] 159
  | .or l,F,cp=>∃ b1 b2 pa pc,F=177/\cp=#[PtrB b1,PtrB b2]/\¬ S b1/\¬ S b2/\Blk w b1 [.slice pa l.length pc] 166/\Blk w b2 [PtrB M] 151/\PartsAt w S R pa l
  | .not a,F,cp=>∃ b1 b2,F=188/\cp=#[PtrB b1,PtrB b2]/\¬ S b1/\¬ S b2/\Blk w b1 [PtrB M] 151/\Blk w b2 [PtrB (R a)] 159
  | .many a m n,F,cp=>∃ b1 b2 b3 b4,F=189/\cp=#[PtrB b1,PtrB b2,PtrB b3,PtrB b4]/\¬ S b1/\¬ S b2/\¬ S b3/\¬ S b4/\Blk w b1 [PtrB M] 151/\Blk w b2 [PtrB (R a)] 159/\Blk w b3 [.int .i64 m] 3/\Blk w b4 [.int .i64 n] 3
structure Kept (w:World)(S:Nat->Prop)(w':World)(S':Nat->Prop):Prop where
  size:w.heap.size<=w'.heap.size
  block:∀ g,g<w.heap.size->¬ S g->w'.heap[g]?=w.heap[g]?
  not:∀ g,g<w.heap.size->¬ S g->¬ S' g
theorem Kept.cell {w w':World}{S S':Nat->Prop}(h:Kept w S w' S'){p:Addr}(hp:p.block<w.heap.size)(hn:¬ S p.block):w'.cell? p=w.cell? p:=World.cell?_of_block (w:=w) (h.block p.block hp hn)
theorem Blk.kept {w w':World}{S S':Nat->Prop}{b:Nat}{cs:List Value}{T:TypeId}(h:Blk w b cs T)(k:Kept w S w' S')(hn:¬ S b):Blk w' b cs T:=(k.block b h.lt hn).trans h
theorem PartsAt.kept {w w':World}{S S':Nat->Prop}{R R':Nat->Nat}{pa:Option Addr}{ps:List Nat}(h:PartsAt w S R pa ps)(k:Kept w S w' S')(hR:∀ a∈ps,R' a=R a):PartsAt w' S' R' pa ps:=fun j p hj=>by
  obtain ⟨bb,off,e,hb,hs,hc⟩:=h j p hj
  exact ⟨bb,off,e,Nat.lt_of_lt_of_le hb k.size,k.not bb hb hs,by rw [hR p (List.mem_of_getElem? hj)];exact (k.cell (p:=⟨bb,off+j,none⟩) hb hs).trans hc⟩
theorem Rd.kept {w w':World}{S S':Nat->Prop}{la:Option Addr}{s:List (Int×Int)}(h:Rd w la s)(k:Kept w S w' S')(hn:∀ b o,la=some ⟨b,o,none⟩->b<w.heap.size/\¬ S b):Rd w' la s:=fun i x hx=>by
  obtain ⟨b,off,e,hb,c1,c2⟩:=h i x hx
  have hs:=(hn b off e).2
  exact ⟨b,off,e,Nat.lt_of_lt_of_le hb k.size,(k.cell hb hs).trans c1,(k.cell hb hs).trans c2⟩
theorem Bhv.kept {w w':World}{S S':Nat->Prop}{R R':Nat->Nat}{M:Nat}:∀ {e:RE} {F:Nat} {cp:Array Value},Bhv w S R M e F cp->Kept w S w' S'->(∀ a∈e.parts,R' a=R a)->Bhv w' S' R' M e F cp
  | .set s,F,cp,h,k,_=>by
    obtain ⟨b1,b2,la,lc,h1,h2,n1,n2,k1,k2,hr,hl⟩:=h
    exact ⟨b1,b2,la,lc,h1,h2,k.not _ k1.lt n1,k.not _ k2.lt n2,k1.kept k n1,k2.kept k n2,hr.kept k hl,fun b o e=>⟨Nat.lt_of_lt_of_le (hl b o e).1 k.size,k.not _ (hl b o e).1 (hl b o e).2⟩⟩
  | .empty,F,cp,h,k,_=>by obtain ⟨b1,h1,h2,n1,k1⟩:=h;exact ⟨b1,h1,h2,k.not _ k1.lt n1,k1.kept k n1⟩
  | .pair a b,F,cp,h,k,hp=>by
    obtain ⟨b1,b2,b3,h1,h2,n1,n2,n3,k1,k2,k3⟩:=h
    exact ⟨b1,b2,b3,h1,h2,k.not _ k1.lt n1,k.not _ k2.lt n2,k.not _ k3.lt n3,k1.kept k n1,by rw [hp a (by simp [RE.parts])];exact k2.kept k n2,by rw [hp b (by simp [RE.parts])];exact k3.kept k n3⟩
  | .or l,F,cp,h,k,hp=>by
    obtain ⟨b1,b2,pa,pc,h1,h2,n1,n2,k1,k2,hpa⟩:=h
    exact ⟨b1,b2,pa,pc,h1,h2,k.not _ k1.lt n1,k.not _ k2.lt n2,k1.kept k n1,k2.kept k n2,hpa.kept k hp⟩
  | .not a,F,cp,h,k,hp=>by
    obtain ⟨b1,b2,h1,h2,n1,n2,k1,k2⟩:=h
    exact ⟨b1,b2,h1,h2,k.not _ k1.lt n1,k.not _ k2.lt n2,k1.kept k n1,by rw [hp a (by simp [RE.parts])];exact k2.kept k n2⟩
  | .many a m n,F,cp,h,k,hp=>by
    obtain ⟨b1,b2,b3,b4,h1,h2,n1,n2,n3,n4,k1,k2,k3,k4⟩:=h
    exact ⟨b1,b2,b3,b4,h1,h2,k.not _ k1.lt n1,k.not _ k2.lt n2,k.not _ k3.lt n3,k.not _ k4.lt n4,k1.kept k n1,by rw [hp a (by simp [RE.parts])];exact k2.kept k n2,k3.kept k n3,k4.kept k n4⟩
def RE.Wf:RE->Prop
  | .set s=>s≠[]/\Canon s
  | .empty=>True
  | .pair _ _=>True
  | .or l=>l.length≠1/\l.Pairwise (·<·)
  | .not _=>True
  | .many _ m n=>0<=m/\m<=5/\(n=-1\/(0<n/\m<=n/\n<=5))
def RstOk (w:World)(c:MC)(i:Nat)(e:RE):Prop:=∃ pa pc en k b F cp,RestB w (c.R i) i e.kd pa e.parts.length pc en (.func (.func 220) #[] #[PtrB k,PtrB b])/\(en=true↔lg c.T i [])/\PartsAt w c.S c.R pa e.parts/\¬ c.S (c.R i)/\¬ c.S k/\¬ c.S b/\Blk w k [.map (some (c.KM i))] 289/\Blk w b [.func (.func F) #[] cp] 167/\Bhv w c.S c.R c.m e F cp
def KnowOk (w:World)(c:MC)(q:Nat)(i:Nat):Prop:=∃ g n,MapI w (c.KM i) g n/\n<=q/\∀ r x,g r=some x->∃ j,j<c.T.length/\x=c.R j/\lg c.T j=der (lg c.T i) r/\sz c.T j<=derM (sz c.T i)
structure MkI (w:World)(c:MC)(q:Nat):Prop where
  mk ::
  mb:Blk w c.m [.map (some c.bm),PtrB (c.R 0),PtrB (c.R 1)] 224
  ms:¬ c.S c.m
  map:∃ f,MapN w c.bm f c.T.length/\∀ s x,f s=some x↔∃ (i:Nat) (e:RE),c.T[i]?=some e/\e.name=s/\x=c.R i
  t0:c.T[0]?=some (.or [])
  t1:c.T[1]?=some .empty
  le:c.T.length<=q
  wf:∀ (i:Nat) (e:RE),c.T[i]?=some e->e.Wf/\∀ a∈e.parts,a<i
  rest:∀ (i:Nat) (e:RE),c.T[i]?=some e->RstOk w c i e
  know:∀ i,i<c.T.length->KnowOk w c q i
  kmb:∀ i,i<c.T.length->c.KM i≠c.bm
  kmi:∀ i j,i<c.T.length->j<c.T.length->c.KM i=c.KM j->i=j
  inj:∀ i j,i<c.T.length->j<c.T.length->c.R i=c.R j->i=j
  low:∀ g,c.S g->7<=g
  xs:∀ g,c.X g->g<w.heap.size/\¬ c.Mp g
theorem MkI.lang {w:World}{c:MC}{q:Nat}(h:MkI w c q){i:Nat}{e:RE}(hi:c.T[i]?=some e):lg c.T i=e.lang (lg c.T):=lg_at hi (h.wf i e hi).2
theorem RstOk.kept {w w':World}{c c':MC}{i:Nat}{e:RE}(h:RstOk w c i e)(k:Kept w c.S w' c'.S)(hm:c'.m=c.m)(hR:∀ a∈e.parts,c'.R a=c.R a)(hRi:c'.R i=c.R i)(hK:c'.KM i=c.KM i)(hl:lg c'.T i=lg c.T i):RstOk w' c' i e:=by
  obtain ⟨pa,pc,en,k0,b,F,cp,h1,h2,h3,n0,n1,n2,h4,h5,h6⟩:=h
  exact ⟨pa,pc,en,k0,b,F,cp,by rw [hRi];exact Blk.kept h1 k n0,by rw [hl];exact h2,h3.kept k hR,by rw [hRi];exact k.not _ (Blk.lt h1) n0,k.not _ h4.lt n1,k.not _ h5.lt n2,by rw [hK];exact h4.kept k n1,h5.kept k n2,by rw [hm];exact h6.kept k hR⟩
theorem Kept.below {w w':World}{S:Nat->Prop}(k:Below w.heap.size w w'):Kept w S w' S:=⟨k.size,fun g hg _=>k.block g hg,fun _ _ h=>h⟩
theorem KnowOk.block {w w':World}{c:MC}{q q' i:Nat}(h:KnowOk w c q i)(k:w'.heap[c.KM i]?=w.heap[c.KM i]?)(hq:q<=q'):KnowOk w' c q' i:=by
  obtain ⟨g,n,h1,h2,h3⟩:=h
  exact ⟨g,n,h1.block k,by omega,h3⟩
theorem MkI.below {w w':World}{c:MC}{q:Nat}(h:MkI w c q)(k:Below w.heap.size w w'):MkI w' c q:=by
  have kb:Kept w c.S w' c.S:=Kept.below k
  exact {
    mb:=h.mb.below k
    ms:=h.ms
    map:=by obtain ⟨f,h1,h2⟩:=h.map;exact ⟨f,h1.below k,h2⟩
    t0:=h.t0
    t1:=h.t1
    le:=h.le
    wf:=h.wf
    rest:=fun i e hi=>(h.rest i e hi).kept kb rfl (fun _ _=>rfl) rfl rfl rfl
    know:=fun i hi=>by
      obtain ⟨g,n,h1,h2,h3⟩:=h.know i hi
      exact ⟨g,n,h1.block (k.block _ h1.lt),h2,h3⟩
    kmb:=h.kmb
    kmi:=h.kmi
    inj:=h.inj
    low:=h.low
    xs:=fun g hg=>⟨Nat.lt_of_lt_of_le (h.xs g hg).1 k.size,(h.xs g hg).2⟩ }
theorem MkI.Mp_lt {w:World}{c:MC}{q:Nat}(h:MkI w c q){g:Nat}(hg:c.Mp g):g<w.heap.size:=by
  rcases hg with rfl | ⟨i,hi,rfl⟩
  · obtain ⟨f',h1,_⟩:=h.map;exact h1.lt
  · obtain ⟨g',n,h1,_⟩:=h.know i hi;exact h1.lt
theorem MkI.turn {w w':World}{c:MC}{q:Nat}{X':Nat->Prop}(h:MkI w c q)(hs:w.heap.size<=w'.heap.size)(hb:∀ g,g<w.heap.size->¬ c.X g->w'.heap[g]?=w.heap[g]?)(hX:∀ g,X' g->(c.X g\/w.heap.size<=g)/\g<w'.heap.size/\7<=g):MkI w' { c with X:=X' } q:=by
  have kb:Kept w c.S w' ({ c with X:=X' }:MC).S:=⟨hs,fun g hg hn=>hb g hg (fun hx=>hn (.inr hx)),fun g hg hn=>by
    rintro (e | e)
    · exact hn (.inl e)
    · rcases (hX g e).1 with h1 | h1
      · exact hn (.inr h1)
      · omega⟩
  have hM:∀ g,c.Mp g->¬ c.X g:=fun g h1 h2=>(h.xs g h2).2 h1
  exact {
    mb:=Blk.kept h.mb kb h.ms
    ms:=kb.not _ h.mb.lt h.ms
    map:=by obtain ⟨f,h1,h2⟩:=h.map;exact ⟨f,h1.block (hb _ h1.lt (hM _ (.inl rfl))),h2⟩
    t0:=h.t0
    t1:=h.t1
    le:=h.le
    wf:=h.wf
    rest:=fun i e hi=>(h.rest i e hi).kept kb rfl (fun _ _=>rfl) rfl rfl rfl
    know:=fun i hi=>by
      obtain ⟨g,n,h1,h2,h3⟩:=h.know i hi
      exact ⟨g,n,h1.block (hb _ h1.lt (hM _ (.inr ⟨i,hi,rfl⟩))),h2,h3⟩
    kmb:=h.kmb
    kmi:=h.kmi
    inj:=h.inj
    low:=fun g hg=>by
      rcases hg with e | e
      · exact h.low g (.inl e)
      · exact (hX g e).2.2
    xs:=fun g hg=>⟨(hX g hg).2.1,fun hm=>by
      rcases (hX g hg).1 with h1 | h1
      · exact (h.xs g h1).2 hm
      · have:=h.Mp_lt hm;omega⟩ }
theorem MkI.more {w:World}{c:MC}{q q':Nat}(h:MkI w c q)(hq:q<=q'):MkI w c q':={ h with le:=Nat.le_trans h.le hq,know:=fun i hi=>(h.know i hi).block rfl hq }
end Go.Proofs.YtpoibdhhcbelnaaGreatDoor
namespace Go.Proofs.YtpoibdhhcbelnaaGreatDoor
open Go.Shelf Go.RowKit Go.Lib Brm
structure Gone (w:World)(c:MC)(w':World)(c':MC):Prop where
  m:c'.m=c.m
  bm:c'.bm=c.bm
  T:∃ Q,c'.T=c.T++Q
  R:∀ i,i<c.T.length->c'.R i=c.R i
  KM:∀ i,i<c.T.length->c'.KM i=c.KM i
  newK:∀ i,c.T.length<=i->i<c'.T.length->w.heap.size<=c'.KM i
  but:But c.S w w'
  X:c'.X=c.X
  keepX:∀ g,g<w.heap.size->c.X g->w'.heap[g]?=w.heap[g]?
theorem Gone.refl (w:World)(c:MC):Gone w c w c:=⟨rfl,rfl,⟨[],by simp⟩,fun _ _=>rfl,fun _ _=>rfl,fun i h1 h2=>by omega,But.refl _ _,rfl,fun _ _ _=>rfl⟩
theorem Gone.below {w w':World}{c:MC}(k:Below w.heap.size w w'):Gone w c w' c:=⟨rfl,rfl,⟨[],by simp⟩,fun _ _=>rfl,fun _ _=>rfl,fun i h1 h2=>by omega,But.below k,rfl,fun g hg _=>k.block g hg⟩
theorem Gone.len {w w':World}{c c':MC}(h:Gone w c w' c'):c.T.length<=c'.T.length:=by obtain ⟨Q,e⟩:=h.T;rw [e];simp
theorem Gone.notS {w w':World}{c c':MC}(h:Gone w c w' c'){g:Nat}(hg:g<w.heap.size)(hn:¬ c.S g):¬ c'.S g:=by
  rintro ((e | ⟨i,hi,e⟩) | e)
  · exact hn (.inl (.inl (by rw [e,h.bm])))
  · by_cases hl:i<c.T.length
    · exact hn (.inl (.inr ⟨i,hl,by rw [e,h.KM i hl]⟩))
    · have:=h.newK i (by omega) hi;omega
  · exact hn (.inr (by rw [<- h.X];exact e))
theorem Gone.trans {w w1 w2:World}{c c1 c2:MC}(h:Gone w c w1 c1)(k:Gone w1 c1 w2 c2):Gone w c w2 c2:=by
  obtain ⟨Q,e⟩:=h.T
  obtain ⟨Q',e'⟩:=k.T
  have hl:=h.len
  exact {
    m:=k.m.trans h.m
    bm:=k.bm.trans h.bm
    T:=⟨Q++Q',by rw [e',e,List.append_assoc]⟩
    R:=fun i hi=>(k.R i (by omega)).trans (h.R i hi)
    KM:=fun i hi=>(k.KM i (by omega)).trans (h.KM i hi)
    newK:=fun i h1 h2=>by
      by_cases hi:i<c1.T.length
      · rw [k.KM i hi];exact h.newK i h1 hi
      · exact Nat.le_trans h.but.size (k.newK i (by omega) h2)
    but:=⟨k.but.os.trans h.but.os,k.but.tape.trans h.but.tape,k.but.output.trans h.but.output,Nat.le_trans h.but.size k.but.size,fun g hg hn=>(k.but.block g (Nat.lt_of_lt_of_le hg h.but.size) (h.notS hg hn)).trans (h.but.block g hg hn)⟩
    X:=k.X.trans h.X
    keepX:=fun g hg hx=>(k.keepX g (Nat.lt_of_lt_of_le hg h.but.size) (by rw [h.X];exact hx)).trans (h.keepX g hg hx) }
theorem Gone.at {w w':World}{c c':MC}(h:Gone w c w' c'){i:Nat}{e:RE}(hi:c.T[i]?=some e):c'.T[i]?=some e:=by
  obtain ⟨Q,eq⟩:=h.T
  rw [eq,List.getElem?_append_left (List.getElem?_eq_some_iff.1 hi).1];exact hi
theorem Gone.lang {w w':World}{c c':MC}(h:Gone w c w' c'){i:Nat}(hi:i<c.T.length):lg c'.T i=lg c.T i:=by
  obtain ⟨Q,eq⟩:=h.T
  rw [eq,lg_more Q _ hi]
theorem Gone.sz {w w':World}{c c':MC}(h:Gone w c w' c'){i:Nat}(hi:i<c.T.length):sz c'.T i=sz c.T i:=by
  obtain ⟨Q,eq⟩:=h.T
  rw [eq,sz_more Q _ hi]
theorem Gone.kept {w w':World}{c c':MC}(k:Gone w c w' c'):Kept w c.S w' c'.S:=⟨k.but.size,fun g hg hn=>k.but.block g hg hn,fun _ hg hn=>k.notS hg hn⟩
theorem RstOk.gone {w w':World}{c c':MC}{i:Nat}{e:RE}(h:RstOk w c i e)(k:Gone w c w' c')(hi:i<c.T.length)(hp:∀ a∈e.parts,a<c.T.length):RstOk w' c' i e :=
  h.kept k.kept k.m (fun a ha=>k.R a (hp a ha)) (k.R i hi) (k.KM i hi) (k.lang hi)
def MC.add (c:MC)(e:RE)(x mm:Nat):MC:={ c with T:=c.T++[e],R:=fun i=>if i=c.T.length then x else c.R i,KM:=fun i=>if i=c.T.length then mm else c.KM i }
theorem add_R {c:MC}{e:RE}{x mm i:Nat}(h:i<c.T.length):(c.add e x mm).R i=c.R i:=if_neg (by omega)
theorem add_Rn {c:MC}{e:RE}{x mm:Nat}:(c.add e x mm).R c.T.length=x:=if_pos rfl
theorem add_KM {c:MC}{e:RE}{x mm i:Nat}(h:i<c.T.length):(c.add e x mm).KM i=c.KM i:=if_neg (by omega)
theorem add_KMn {c:MC}{e:RE}{x mm:Nat}:(c.add e x mm).KM c.T.length=mm:=if_pos rfl
theorem add_gone {w w':World}{c:MC}{e:RE}{x mm:Nat}(hb:But c.S w w')(hm:w.heap.size<=mm)(hx:∀ g,g<w.heap.size->c.X g->w'.heap[g]?=w.heap[g]?):Gone w c w' (c.add e x mm) where
  m:=rfl
  bm:=rfl
  T:=⟨[e],rfl⟩
  R:=fun i hi=>add_R hi
  KM:=fun i hi=>add_KM hi
  newK:=fun i h1 h2=>by
    have:i=c.T.length:=by simp [MC.add] at h2;omega
    subst this;rw [add_KMn];exact hm
  but:=hb
  X:=rfl
  keepX:=hx
end Go.Proofs.YtpoibdhhcbelnaaGreatDoor
namespace Go.Proofs.YtpoibdhhcbelnaaGreatDoor
open Go.Shelf Go.RowKit Go.Lib Brm
open Classical in
noncomputable def numAt (c:MC)(y:Nat):Int:=if h:∃ p,p<c.T.length/\c.R p=y then ((Classical.choose h:Nat):Int) else 0
theorem numAt_eq {w:World}{c:MC}{q p:Nat}(h:MkI w c q)(hp:p<c.T.length):numAt c (c.R p)=(p:Int):=by
  have hex:∃ p',p'<c.T.length/\c.R p'=c.R p:=⟨p,hp,rfl⟩
  unfold numAt
  rw [dif_pos hex]
  have hs:=Classical.choose_spec hex
  rw [h.inj _ _ hs.1 hp hs.2]
theorem MkI.cell0 {w:World}{c:MC}{q p:Nat}(h:MkI w c q)(hp:p<c.T.length):w.cell? ⟨c.R p,0,none⟩=some (.int .i64 (p:Int))/\c.R p<w.heap.size:=by
  obtain ⟨e,he⟩:∃ e,c.T[p]?=some e:=⟨_,List.getElem?_eq_getElem hp⟩
  obtain ⟨pa,pc,en,k0,b,F,cp,h1,_⟩:=h.rest p e he
  exact ⟨Blk.cell h1 0,Blk.lt h1⟩
theorem pts_of {w:World}{c:MC}{q:Nat}(h:MkI w c q)(hq:q<=9000000000000000000){S:Nat->Prop}{pa:Option Addr}{ps:List Nat}(hps:∀ a∈ps,a<c.T.length)(hp:PartsAt w S c.R pa ps):PtsW w pa (ps.map c.R) (numAt c):=by
  intro j y hj
  rw [List.getElem?_map] at hj
  obtain ⟨p,hpj,rfl⟩:=Option.map_eq_some_iff.1 hj
  have hpl:=hps p (List.mem_of_getElem? hpj)
  obtain ⟨bb,off,e,hb,_,hc⟩:=hp j p hpj
  obtain ⟨c0,hl⟩:=h.cell0 hpl
  have hle:=h.le
  rw [numAt_eq h hpl]
  exact ⟨bb,off,e,hb,hl,hc,c0,by omega,by omega⟩
theorem nums_of {w:World}{c:MC}{q:Nat}(h:MkI w c q):∀ {ps:List Nat},(∀ a∈ps,a<c.T.length)->(ps.map c.R).map (numAt c)=nNums ps
  | [],_=>rfl
  | a::ps,hp=>by
    simp only [List.map_cons,nNums]
    rw [numAt_eq h (hp a (by simp)),nums_of h (fun b hb=>hp b (by simp [hb]))]
    rfl
def GivesL (w0:World)(c:MC)(q:Nat)(L:Lg)(Z:Me)(r:Ending)(w':World):Prop:=∃ c' j,r=.returned (PtrB (c'.R j))/\MkI w' c' q/\Gone w0 c w' c'/\j<c'.T.length/\lg c'.T j=L/\sz c'.T j<=Z
def GivesE (w0:World)(c:MC)(q:Nat)(e:RE)(r:Ending)(w':World):Prop:=∃ c' j,r=.returned (PtrB (c'.R j))/\MkI w' c' q/\Gone w0 c w' c'/\c'.T[j]?=some e/\lg c'.T j=e.lang (lg c.T)
theorem Gone.pow {w w':World}{c c':MC}{q:Nat}(h:Gone w c w' c')(hI:MkI w c q)(hP:PowT w):PowT w':=hP.same fun i hi h7=>h.but.block i hi (fun hs=>by have:=hI.low i hs;omega)
theorem GivesE.at {w W0 w':World}{c:MC}{q:Nat}{e:RE}{r:Ending}{L:Lg}{Z:Me}(h:GivesE W0 c q e r w')(hb:Below w.heap.size w W0)(hps:∀ a∈e.parts,a<c.T.length)(hL:e.lang (lg c.T)=L)(hZ:e.size (sz c.T)<=Z):GivesL w c q L Z r w':=by
  obtain ⟨c',j,rfl,hI',hG,hT',hL'⟩:=h
  refine ⟨c',j,rfl,hI',(Gone.below hb).trans hG,(List.getElem?_eq_some_iff.1 hT').1,hL'.trans hL,?_⟩
  rw [sz_at hT' (hI'.wf j e hT').2]
  rw [RE.size_congr e (fun a ha=>hG.sz (hps a ha))]
  exact hZ
theorem mk_add {w0 w w':World}{c:MC}{q:Nat}{e:RE}{x pc F:Nat}{pa:Option Addr}{en:Bool}{cp:Array Value}{f:List UInt8->Option Nat}(hI0:MkI w0 c q)(hb:Below w0.heap.size w0 w)(hwf:e.Wf)(hps:∀ a∈e.parts,a<c.T.length)(hx0:w0.heap.size<=x)(hxw:x<w.heap.size)(hen:en=true↔e.lang (lg c.T) [])
    (hpa:PartsAt w (fun g=>c.S g\/g=x) c.R pa e.parts) (hbv:Bhv w (fun g=>c.S g\/g=x) c.R c.m e F cp) (hf:∀ s y,f s=some y↔∃ (i:Nat) (e:RE),c.T[i]?=some e/\e.name=s/\y=c.R i) (hno:f e.name=none)
    (hbut:But (fun k=>k=x\/k=c.bm) w w') (hM:MS w' c.m c.bm (some (c.R 0)) (some (c.R 1)) (put f e.name x) (c.T.length+1)) (hN:NewR w w' x c.T.length e.kd pa e.parts.length pc en F cp) :
    ∃ mm,MkI w' (c.add e x mm) (q+1)/\Gone w0 c w' (c.add e x mm):=by
  obtain ⟨k,b,mm,hR,hge,hB,hK,hmm⟩:=hN
  have h01:0<c.T.length:=(List.getElem?_eq_some_iff.1 hI0.t0).1
  have h11:1<c.T.length:=(List.getElem?_eq_some_iff.1 hI0.t1).1
  have hs:=hb.size
  have hSlt:∀ g,c.S g->g<w0.heap.size:=by
    rintro g (hg | hg)
    · exact hI0.Mp_lt hg
    · exact (hI0.xs g hg).1
  have hbutS:But c.S w0 w':=⟨hbut.os.trans hb.os,hbut.tape.trans hb.tape,hbut.output.trans hb.output,Nat.le_trans hs hbut.size,fun g hg hn=>(hbut.block g (by omega) (by rintro (rfl | rfl);omega;exact hn (.inl (.inl rfl)))).trans (hb.block g hg)⟩
  have hgone:Gone w0 c w' (c.add e x mm):=add_gone hbutS (by omega) (fun g hg hx=>(hbut.block g (by omega) (by rintro (rfl | rfl);omega;exact (hI0.xs _ hx).2 (.inl rfl))).trans (hb.block g hg))
  have hnew:∀ g,g<w.heap.size->¬ c.S g->¬ (c.add e x mm).S g:=by
    rintro g hg hn ((e1 | ⟨i,hi,e1⟩) | e1)
    · exact hn (.inl (.inl e1))
    · by_cases hl:i<c.T.length
      · rw [add_KM hl] at e1;exact hn (.inl (.inr ⟨i,hl,e1⟩))
      · have:i=c.T.length:=by simp [MC.add] at hi;omega
        subst this
        rw [add_KMn] at e1;omega
    · exact hn (.inr e1)
  have hkept:Kept w (fun g=>c.S g\/g=x) w' (c.add e x mm).S:=⟨hbut.size,fun g hg hn=>hbut.block g hg (by rintro (h | h);exact hn (.inr h);exact hn (.inl (.inl (.inl h)))),fun g hg hn=>hnew g hg (fun h=>hn (.inl h))⟩
  have hnS:∀ g,w.heap.size<=g->g≠mm->¬ (c.add e x mm).S g:=by
    rintro g hg hne ((e1 | ⟨i,hi,e1⟩) | e1)
    · have:=hSlt g (.inl (.inl e1));omega
    · by_cases hl:i<c.T.length
      · rw [add_KM hl] at e1;have:=hSlt g (.inl (.inr ⟨i,hl,e1⟩));omega
      · have:i=c.T.length:=by simp [MC.add] at hi;omega
        subst this
        rw [add_KMn] at e1;exact hne e1
    · have:=hSlt g (.inr e1);omega
  have hlen:(c.add e x mm).T.length=c.T.length+1:=by simp [MC.add]
  have hT:∀ i e',(c.add e x mm).T[i]?=some e'->(c.T[i]?=some e'/\i<c.T.length)\/(i=c.T.length/\e'=e):=by
    intro i e' hi
    have hi2:(c.T++[e])[i]?=some e':=hi
    by_cases hl:i<c.T.length
    · rw [List.getElem?_append_left hl] at hi2;exact .inl ⟨hi2,hl⟩
    · rw [List.getElem?_append_right (by omega)] at hi2
      have h0:i-c.T.length=0:=by
        have:=(List.getElem?_eq_some_iff.1 hi2).1
        simp at this;omega
      rw [h0] at hi2
      simp at hi2
      exact .inr ⟨by omega,hi2.symm⟩
  have hxS:¬ c.S x:=fun h=>by have:=hSlt x h;omega
  refine ⟨mm,?_,hgone⟩
  exact {
    mb:=by rw [add_R h01,add_R h11];exact hM.1
    ms:=hgone.notS hI0.mb.lt hI0.ms
    map:=by
      refine ⟨put f e.name x,by rw [hlen];exact hM.2.1,fun s y=>?_⟩
      unfold put
      by_cases hs:s=e.name
      · subst hs
        rw [if_pos rfl]
        constructor
        · intro h;cases h
          exact ⟨c.T.length,e,by simp [MC.add],rfl,add_Rn.symm⟩
        · rintro ⟨i,e',h1,h2,rfl⟩
          rcases hT i e' h1 with ⟨h3,h4⟩ | ⟨rfl,rfl⟩
          · have:=(hf e.name (c.R i)).2 ⟨i,e',h3,h2,rfl⟩
            rw [hno] at this;cases this
          · rw [add_Rn]
      · rw [if_neg hs,hf]
        constructor
        · rintro ⟨i,e',h1,h2,rfl⟩
          exact ⟨i,e',hgone.at h1,h2,(add_R (List.getElem?_eq_some_iff.1 h1).1).symm⟩
        · rintro ⟨i,e',h1,h2,rfl⟩
          rcases hT i e' h1 with ⟨h3,h4⟩ | ⟨rfl,rfl⟩
          · exact ⟨i,e',h3,h2,add_R h4⟩
          · exact absurd h2.symm hs
    t0:=hgone.at hI0.t0
    t1:=hgone.at hI0.t1
    le:=by rw [hlen];have:=hI0.le;omega
    wf:=fun i e' hi=>by
      rcases hT i e' hi with ⟨h3,_⟩ | ⟨rfl,rfl⟩
      · exact hI0.wf i e' h3
      · exact ⟨hwf,hps⟩
    rest:=fun i e' hi=>by
      rcases hT i e' hi with ⟨h3,h4⟩ | ⟨rfl,rfl⟩
      · exact (hI0.rest i e' h3).gone hgone h4 (fun a ha=>by have:=(hI0.wf i e' h3).2 a ha;omega)
      · refine ⟨pa,pc,en,k,b,F,cp,by rw [add_Rn];exact hR,?_,hpa.kept hkept (fun a ha=>add_R (hps a ha)),by rw [add_Rn];exact hnew x hxw hxS,hnS k hge.1 hge.2.2.2.1,hnS b hge.2.1 hge.2.2.2.2.1,by rw [add_KMn];exact hK,hB,hbv.kept hkept (fun a ha=>add_R (hps a ha))⟩
        show en=true↔lg (c.T++[e']) c.T.length []
        rw [lg_new];exact hen
    know:=fun i hi=>by
      by_cases hl:i<c.T.length
      · obtain ⟨g,n,h1,h2,h3⟩:=hI0.know i hl
        have hne:c.KM i≠c.bm:=hI0.kmb i hl
        have hkl:=h1.lt
        refine ⟨g,n,by rw [add_KM hl];exact h1.block ((hbut.block _ (by omega) (by rintro (h | h);omega;exact hne h)).trans (hb.block _ hkl)),by omega,fun r y hr=>?_⟩
        obtain ⟨j,j1,j2,j3,j4⟩:=h3 r y hr
        exact ⟨j,by rw [hlen];omega,by rw [add_R j1];exact j2,by rw [hgone.lang j1,hgone.lang hl];exact j3,by rw [hgone.sz j1,hgone.sz hl];exact j4⟩
      · have:i=c.T.length:=by rw [hlen] at hi;omega
        subst this
        exact ⟨fun _=>none,0,by rw [add_KMn];exact MapI.fresh hmm,by omega,fun r y hr=>by cases hr⟩
    kmb:=fun i hi=>by
      by_cases hl:i<c.T.length
      · rw [add_KM hl];exact hI0.kmb i hl
      · have:i=c.T.length:=by rw [hlen] at hi;omega
        subst this
        rw [add_KMn]
        intro h9
        have:=hSlt c.bm (.inl (.inl rfl))
        have h8:mm=c.bm:=h9
        omega
    kmi:=fun i j hi hj h=>by
      rw [hlen] at hi hj
      by_cases hl:i<c.T.length<;>by_cases hl2:j<c.T.length
      · rw [add_KM hl,add_KM hl2] at h;exact hI0.kmi i j hl hl2 h
      · have:j=c.T.length:=by omega
        subst this
        rw [add_KM hl,add_KMn] at h
        have:=hSlt (c.KM i) (.inl (.inr ⟨i,hl,rfl⟩));omega
      · have:i=c.T.length:=by omega
        subst this
        rw [add_KM hl2,add_KMn] at h
        have:=hSlt (c.KM j) (.inl (.inr ⟨j,hl2,rfl⟩));omega
      · omega
    inj:=fun i j hi hj h=>by
      rw [hlen] at hi hj
      by_cases hl:i<c.T.length<;>by_cases hl2:j<c.T.length
      · rw [add_R hl,add_R hl2] at h;exact hI0.inj i j hl hl2 h
      · have:j=c.T.length:=by omega
        subst this
        rw [add_R hl,add_Rn] at h
        have:=(hI0.cell0 hl).2;omega
      · have:i=c.T.length:=by omega
        subst this
        rw [add_R hl2,add_Rn] at h
        have:=(hI0.cell0 hl2).2;omega
      · omega
    low:=by
      have hb7:=hI0.low c.bm (.inl (.inl rfl))
      have hbl:=hSlt c.bm (.inl (.inl rfl))
      rintro g ((e1 | ⟨i,hi,e1⟩) | e1)
      · exact hI0.low g (.inl (.inl e1))
      · by_cases hl:i<c.T.length
        · rw [add_KM hl] at e1;exact hI0.low g (.inl (.inr ⟨i,hl,e1⟩))
        · have:i=c.T.length:=by rw [hlen] at hi;omega
          subst this
          rw [add_KMn] at e1;omega
      · exact hI0.low g (.inr e1)
    xs:=fun g hg=>⟨by have:=(hI0.xs g hg).1;have:=hbutS.size;omega,by
      rintro (e1 | ⟨i,hi,e1⟩)
      · exact (hI0.xs g hg).2 (.inl e1)
      · by_cases hl:i<c.T.length
        · rw [add_KM hl] at e1;exact (hI0.xs g hg).2 (.inr ⟨i,hl,e1⟩)
        · have:i=c.T.length:=by rw [hlen] at hi;omega
          subst this
          rw [add_KMn] at e1;have:=(hI0.xs g hg).1;omega⟩ }
theorem mk_keep {w0 w:World}{c:MC}{q:Nat}{e:RE}{x pc F mc:Nat}{n0:Int}{pa ma:Option Addr}{en:Bool}{cp:Array Value}(hI0:MkI w0 c q)(hb:Below w0.heap.size w0 w)(hP:PowT w)(hwf:e.Wf)(hps:∀ a∈e.parts,a<c.T.length)(hx0:w0.heap.size<=x)(hx:RestB w x n0 e.kd pa e.parts.length pc en (.func (.func F) #[] cp))(hen:en=true↔e.lang (lg c.T) [])
    (hpa:PartsAt w (fun g=>c.S g\/g=x) c.R pa e.parts) (hbv:Bhv w (fun g=>c.S g\/g=x) c.R c.m e F cp) (hns:IntsW w ma e.args) (hl1:e.args.length<=1000000) (hl2:e.parts.length<=3000000000000) (hq:q<=9000000000000000000) :
    Calls Tryz.prog 129 #[PtrB c.m,PtrB x,.slice ma e.args.length mc] w (GivesE w0 c (q+1) e):=by
  have hI:=hI0.below hb
  obtain ⟨f,hf1,hf2⟩:=hI.map
  have hmb:c.m≠c.bm:=fun h=>hI.ms (.inl (.inl h))
  have hM:MS w c.m c.bm (some (c.R 0)) (some (c.R 1)) f c.T.length:=⟨hI.mb,hf1,hmb⟩
  have hnm:nameOf e.kd e.args ((e.parts.map c.R).map (numAt c))=e.name:=by unfold RE.name;rw [nums_of hI hps]
  have hbl:c.bm<w0.heap.size:=by obtain ⟨f',h1,_⟩:=hI0.map;exact h1.lt
  have hml:=hI0.mb.lt
  have hkd:0<=e.kd/\e.kd<=9:=by cases e<;>simp [RE.kd]
  have hle:=hI.le
  have hx':RestB w x n0 e.kd pa (e.parts.map c.R).length pc en (.func (.func F) #[] cp):=by rw [List.length_map];exact hx
  refine (keep_any2 c.m c.bm _ _ f c.T.length x n0 e.kd pa pc en F cp ma mc e.args (e.parts.map c.R) (numAt c) w hM hx' (by omega) (by omega) hns (pts_of hI hq hps hpa) hP hkd.1 hkd.2 hl1 (by rw [List.length_map];exact hl2) (by omega)).mono ?_
  intro r w' hr
  rw [hnm] at hr
  cases hfe:f e.name with
  | some y =>
    rw [hfe] at hr
    obtain ⟨rfl,hbel⟩:=hr
    obtain ⟨i,e',h1,h2,rfl⟩:=(hf2 e.name y).1 hfe
    have:=RE.name_inj h2
    subst this
    exact ⟨c,i,rfl,(hI.below hbel).more (by omega),Gone.below (hb.trans (hbel.mono hb.size)),h1,hI.lang h1⟩
  | none =>
    rw [hfe] at hr
    obtain ⟨rfl,hbut,hM',hN⟩:=hr
    rw [List.length_map] at hN
    obtain ⟨mm,hI',hG⟩:=mk_add hI0 hb hwf hps hx0 (Blk.lt hx) hen hpa hbv hf2 hfe hbut hM' hN
    exact ⟨_,c.T.length,by rw [add_Rn],hI',hG,by simp [MC.add],lg_new⟩
end Go.Proofs.YtpoibdhhcbelnaaGreatDoor
namespace Go.Proofs.YtpoibdhhcbelnaaGreatDoor
open Go.Shelf Go.RowKit Go.Lib Brm
theorem MkI.S_lt {w:World}{c:MC}{q:Nat}(h:MkI w c q){g:Nat}(hg:c.S g):g<w.heap.size:=by
  rcases hg with hg | hg
  · exact h.Mp_lt hg
  · exact (h.xs g hg).1
theorem MkI.look {w:World}{c:MC}{q i:Nat}{e:RE}(h:MkI w c q)(hi:c.T[i]?=some e):∃ pa pc en fv,RestB w (c.R i) i e.kd pa e.parts.length pc en fv/\(en=true↔lg c.T i [])/\PartsAt w c.S c.R pa e.parts/\¬ c.S (c.R i):=by
  obtain ⟨pa,pc,en,k0,b,F,cp,h1,h2,h3,n0,_⟩:=h.rest i e hi
  exact ⟨pa,pc,en,_,h1,h2,h3,n0⟩
theorem b2_1 {W:World}{N:Nat}(h:W.heap.size=N){cs:List Value}{T:TypeId}(o2:Obj):Blk ((W.alloc (.cells cs.toArray T)).alloc o2).drew N cs T:=by subst h;exact (Blk.new W cs T).alloc o2
theorem b2_2 {W:World}{N:Nat}(h:W.heap.size=N){cs:List Value}{T:TypeId}(o1:Obj):Blk ((W.alloc o1).alloc (.cells cs.toArray T)).drew (N+1) cs T:=by
  subst h
  have h:=Blk.new (W.alloc o1) cs T
  rw [show (W.alloc o1).heap.size=W.heap.size+1 by simp] at h
  exact h
theorem below2 (W:World)(o1 o2:Obj):Below W.heap.size W ((W.alloc o1).alloc o2).drew:=(((Below.refl _ W).alloc (Nat.le_refl _) _).alloc (by simp) _).drew
theorem not_call {w W0 W:World}{c:MC}{q a S:Nat}{en:Bool}(hI:MkI w c q)(hq:q<=9000000000000000000)(ha:a<c.T.length)(hen:en=true↔lg c.T a [])(hB0:Below w.heap.size w W0)(hS:w.heap.size=S)(hs0:W0.heap.size=S+2)(hb1:Blk W0 S [PtrB c.m] 151)(hb2:Blk W0 (S+1) [PtrB (c.R a)] 159)(hP:PowT W0)
    (hB:Below W0.heap.size W0 W) (hp:Blk W (S+2) [PtrB (c.R a)] 159) (hx:Blk W (S+2+1) [.int .i64 0,.int .i64 4,.slice (some ⟨S+2,0,none⟩) 1 1,.bool (!en),.func (.func 188) #[] #[PtrB S,PtrB (S+1)]] 169) :
    Calls Tryz.prog 129 #[PtrB c.m,PtrB (S+2+1),.slice none 0 0] W (GivesE W0 c (q+1) (.not a)):=by
  have hn:∀ g,S<=g->g≠S+2+1->¬ (c.S g\/g=S+2+1):=fun g h1 h2 h3=>by
    rcases h3 with h3 | h3
    · have:=hI.S_lt h3;omega
    · exact h2 h3
  exact mk_keep (e:=.not a) (hI.below hB0) hB (hP.below hB) trivial (fun b hb=>by simp [RE.parts] at hb;subst hb;exact ha) (by omega) hx (by
      cases en with
      | true=>simp only [Bool.not_true,Bool.false_eq_true,false_iff];intro h;exact h (hen.1 rfl)
      | false=>simp only [Bool.not_false,true_iff];intro h;have:=hen.2 h;cases this)
    (fun j p hj=>by
      match j,hj with
      | 0,hj=>simp [RE.parts] at hj;subst hj;exact ⟨S+2,0,rfl,hp.lt,hn _ (by omega) (by omega),hp.cell 0⟩)
    ⟨S,S+1,rfl,rfl,hn _ (by omega) (by omega),hn _ (by omega) (by omega),hb1.below hB,hb2.below hB⟩ (IntsW.nil _ _) (by simp [RE.args]) (by simp [RE.parts]) hq
set_option maxRecDepth 100000 in
set_option maxHeartbeats 4000000 in
theorem mknot_any {w:World}{c:MC}{q a:Nat}(hI:MkI w c q)(hq:q<=9000000000000000000)(ha:a<c.T.length)(hP:PowT w):Calls Tryz.prog 140 #[PtrB c.m,PtrB (c.R a)] w (GivesL w c (q+1) (notL (lg c.T a)) (notM (sz c.T a))):=by
  obtain ⟨e,he⟩:∃ e,c.T[a]?=some e:=⟨_,List.getElem?_eq_getElem ha⟩
  obtain ⟨pa,pc,en,fv,hR,hen,hpa,hnS⟩:=hI.look he
  have hyl:=Blk.lt hR
  obtain ⟨S,hS⟩:∃ S,w.heap.size=S:=⟨_,rfl⟩
  obtain ⟨W0,hW0⟩:∃ W0,(w.alloc (.cells #[PtrB c.m] 151)).alloc (.cells #[PtrB (c.R a)] 159)=W0:=⟨_,rfl⟩
  have hB0:Below w.heap.size w W0:=by rw [<- hW0];exact ((Below.refl _ _).alloc (Nat.le_refl _) _).alloc (by simp) _
  have hb1:Blk W0 S [PtrB c.m] 151:=by rw [<- hW0,<- hS];exact (Blk.new w [PtrB c.m] 151).alloc _
  have hb2:Blk W0 (S+1) [PtrB (c.R a)] 159:=by rw [<- hW0,<- hS];have:=Blk.new (w.alloc (.cells #[PtrB c.m] 151)) [PtrB (c.R a)] 159;simpa using this
  have hs0:W0.heap.size=S+2:=by rw [<- hW0,<- hS];simp
  have c1:W0.cell? ⟨S,0,none⟩=some (PtrB c.m):=hb1.cell 0
  have c2:W0.cell? ⟨S+1,0,none⟩=some (PtrB (c.R a)):=hb2.cell 0
  have hR0:=Blk.below hR hB0
  have c3:W0.cell? ⟨c.R a,3,none⟩=some (.bool en):=hR0.cell 3
  have c4:W0.cell? ⟨c.R a,1,none⟩=some (.int .i64 e.kd):=hR0.cell 1
  have c5:W0.cell? ⟨c.R a,2,none⟩=some (.slice pa e.parts.length pc):=hR0.cell 2
  have hyl0:c.R a<W0.heap.size:=hR0.lt
  have HI:=hide hI
  have HB0:=hide hB0
  have HW0:=hide hW0
  have HSS:=hide hS
  have HC:=hide (fun (W:World)=>not_call (W:=W) hI hq ha hen hB0 hS hs0 hb1 hb2 (hP.below hB0))
  have HH:Hid (∀ W':World,(∀ k,k<W0.heap.size->W'.heap[k]?=W0.heap[k]?)->W'.cell? ⟨S,0,none⟩=some (PtrB c.m)/\W'.cell? ⟨S+1,0,none⟩=some (PtrB (c.R a))/\W'.cell? ⟨c.R a,3,none⟩=some (.bool en)):=fun W' hb=>⟨(World.cell?_of_block (w:=W0) (hb S hb1.lt)).trans c1,(World.cell?_of_block (w:=W0) (hb (S+1) hb2.lt)).trans c2,(World.cell?_of_block (w:=W0) (hb _ hyl0)).trans c3⟩
  have HH5:Hid (∀ (W':World) (c':MC),Gone W0 c W' c'->W'.cell? ⟨S,0,none⟩=some (PtrB c.m)/\W'.cell? ⟨S+1,0,none⟩=some (PtrB (c.R a))/\W'.cell? ⟨c.R a,3,none⟩=some (.bool en)):=fun W' c' hG=>by
    have n1:¬ c.S S:=fun h=>by have:=hI.S_lt h;omega
    have n2:¬ c.S (S+1):=fun h=>by have:=hI.S_lt h;omega
    exact ⟨(hG.but.cell (p:=⟨S,0,none⟩) hb1.lt n1).trans c1,(hG.but.cell (p:=⟨S+1,0,none⟩) hb2.lt n2).trans c2,(hG.but.cell (p:=⟨c.R a,3,none⟩) hyl0 hnS).trans c3⟩
  have HNS:=hide hnS
  have HLG:=hide (hI.lang he)
  have HSZ:=hide (sz_at he (hI.wf a e he).2)
  have HPA:=hide hpa
  have HWF:=hide (hI.wf a e he)
  have HBL1:=hide hb1
  have HBL2:=hide hb2
  have x1:w.cell? ⟨c.R a,1,none⟩=some (.int .i64 e.kd):=Blk.cell hR 1
  have x2:w.cell? ⟨c.R a,2,none⟩=some (.slice pa e.parts.length pc):=Blk.cell hR 2
  have hne1:c.R a≠w.heap.size:=by omega
  have hne2:c.R a≠w.heap.size+1:=by omega
  by_cases hk:e.kd=4
  · have hz:(e.kd == 4)=true:=beq_iff_eq.2 hk
    obtain ⟨a0,rfl⟩:∃ a0,e=.not a0:=by cases e<;>simp [RE.kd] at hk;exact ⟨_,rfl⟩
    obtain ⟨bb,off,rfl,hbb,hbS,hbc⟩:=hpa 0 a0 rfl
    have HA0:Hid (a0<a):=(hI.wf a _ he).2 a0 (by simp [RE.parts])
    have hb0:(1:Int) > 0:=by decide
    simp only [RE.parts,List.length_singleton] at x2
    rw [Nat.add_zero] at hbc
    clear hb1 hb2 hB0 hW0 hI hP hR hR0 hpa hen hnS c1 c2 c3 c4 c5 hk hS
    go_enter Tryz.func140,Tryz.ntmps140
    go_wp2_with fail
    go_ret
    rw [HW0.out]
    refine ⟨c,a0,rfl,(HI.out.below HB0.out).more (by omega),Gone.below HB0.out,by have:=HA0.out;omega,?_,?_⟩
    · rw [HLG.out]
      exact not_not.symm
    · have h9:=HSZ.out
      rw [h9]
      exact Me.trans (le_notM _) (le_notM _)
  · have hz:(e.kd == 4)=false:=beq_eq_false_iff_ne.2 hk
    clear hb1 hb2 hB0 hW0 hI hP hR hR0 hpa hen hnS c1 c2 c3 c4 c5 hk x2 hS
    go_enter Tryz.func140,Tryz.ntmps140
    go_wp2_with fail
    rw [HW0.out]
    simp only [HSS.out]
    refine wp_region_held_drew (S:=fun w':World=>w'.cell? ⟨S,0,none⟩=some (PtrB c.m)/\w'.cell? ⟨S+1,0,none⟩=some (PtrB (c.R a))/\w'.cell? ⟨c.R a,3,none⟩=some (.bool en)) (by kernel_rfl) (HH.out _ (fun _ _=>rfl)) (fun hHeld=>?_)
    refine wpAnyH_take (i:=0) (oi:=_) (v:=PtrB c.m) rfl (by kernel_rfl) (by kernel_rfl) (by kernel_rfl) (fun _ _ _ h=>h) (Or.inl ⟨by rfl,by intro w hSw;have hS0:=hSw.1;have hS1:=hSw.2.1;have hS2:=hSw.2.2;clear hSw;go_simp⟩) (by assumption) ?_
    try simp only [Act.put,List.setIfInBounds_toArray,List.set_cons_zero,List.set_cons_succ,List.getElem_toArray,List.getElem_cons_zero]
    refine wpAnyH_take (i:=1) (oi:=_) (v:=PtrB (c.R a)) rfl (by kernel_rfl) (by kernel_rfl) (by kernel_rfl) (fun _ _ _ h=>h) (Or.inl ⟨by rfl,by intro w hSw;have hS0:=hSw.1;have hS1:=hSw.2.1;have hS2:=hSw.2.2;clear hSw;go_simp⟩) (by assumption) ?_
    try simp only [Act.put,List.setIfInBounds_toArray,List.set_cons_zero,List.set_cons_succ,List.getElem_toArray,List.getElem_cons_zero,List.getElem_cons_succ]
    refine wpAnyH_take (i:=3) (oi:=_) (v:=PtrB (c.R a)) rfl (by kernel_rfl) (by kernel_rfl) (by kernel_rfl) (fun _ _ _ h=>h) (Or.inl ⟨by rfl,by intro w hSw;have hS0:=hSw.1;have hS1:=hSw.2.1;have hS2:=hSw.2.2;clear hSw;go_simp⟩) (by assumption) ?_
    try simp only [Act.put,List.setIfInBounds_toArray,List.set_cons_zero,List.set_cons_succ,List.getElem_toArray,List.getElem_cons_zero,List.getElem_cons_succ]
    refine wpAnyH_take (i:=4) (oi:=_) (v:=PtrB (c.R a)) rfl (by kernel_rfl) (by kernel_rfl) (by kernel_rfl) (fun _ _ _ h=>h) (Or.inl ⟨by rfl,by intro w hSw;have hS0:=hSw.1;have hS1:=hSw.2.1;have hS2:=hSw.2.2;clear hSw;go_simp⟩) (by assumption) ?_
    try simp only [Act.put,List.setIfInBounds_toArray,List.set_cons_zero,List.set_cons_succ,List.getElem_toArray,List.getElem_cons_zero,List.getElem_cons_succ]
    refine wpAnyH_take (i:=5) (oi:=_) (v:=.pointer (some ⟨c.R a,3,none⟩)) rfl (by kernel_rfl) (by kernel_rfl) (by kernel_rfl) (fun _ _ _ h=>h) (Or.inl ⟨by rfl,by intro w hSw;have hS0:=hSw.1;have hS1:=hSw.2.1;have hS2:=hSw.2.2;clear hSw;go_simp⟩) (by assumption) ?_
    try simp only [Act.put,List.setIfInBounds_toArray,List.set_cons_zero,List.set_cons_succ,List.getElem_toArray,List.getElem_cons_zero,List.getElem_cons_succ]
    refine wpAnyH_take (i:=6) (oi:=_) (v:=.bool en) rfl (by kernel_rfl) (by kernel_rfl) (by kernel_rfl) (fun _ _ _ h=>h) (Or.inl ⟨by rfl,by intro w hSw;have hS0:=hSw.1;have hS1:=hSw.2.1;have hS2:=hSw.2.2;clear hSw;go_simp⟩) (by assumption) ?_
    try simp only [Act.put,List.setIfInBounds_toArray,List.set_cons_zero,List.set_cons_succ,List.getElem_toArray,List.getElem_cons_zero,List.getElem_cons_succ]
    refine wpAnyH_take (i:=7) (oi:=_) (v:=.bool (!en)) rfl (by kernel_rfl) (by kernel_rfl) (by kernel_rfl) (fun _ _ _ h=>h) (Or.inl ⟨by rfl,by intro w hSw;have hS0:=hSw.1;have hS1:=hSw.2.1;have hS2:=hSw.2.2;clear hSw;go_simp⟩) (by assumption) ?_
    try simp only [Act.put,List.setIfInBounds_toArray,List.set_cons_zero,List.set_cons_succ,List.getElem_toArray,List.getElem_cons_zero,List.getElem_cons_succ]
    refine wpAnyH_take (i:=8) (oi:=_) (v:=.func (.func 188) #[] #[PtrB S,PtrB (S+1)]) rfl (by kernel_rfl) (by kernel_rfl) (by kernel_rfl) (fun _ _ _ h=>h) (Or.inl ⟨by rfl,by intro w hSw;have hS0:=hSw.1;have hS1:=hSw.2.1;have hS2:=hSw.2.2;clear hSw;go_simp⟩) (by assumption) ?_
    try simp only [Act.put,List.setIfInBounds_toArray,List.set_cons_zero,List.set_cons_succ,List.getElem_toArray,List.getElem_cons_zero,List.getElem_cons_succ]
    refine wpAnyH_ready (rs:=[2]) (by kernel_rfl) (by simp) ?_
    refine AllReadyH.cons (o:=_) rfl (fun Kc hK=>?_) AllReadyH.nil
    go_simp
    refine hK.out _ _ (HH.out _ (fun k hk=>Below.heap_alloc _ _ _ hk)) (fun hHeld=>?_)
    clear hK Kc
    try simp only [Act.put,List.setIfInBounds_toArray,List.set_cons_zero,List.set_cons_succ]
    refine wpAnyH_take (i:=9) (oi:=_) (v:=.agg #[.int .i64 0,.int .i64 4,.slice (some ⟨S+2,0,none⟩) 1 1,.bool (!en),.func (.func 188) #[] #[PtrB S,PtrB (S+1)]]) rfl (by kernel_rfl) (by kernel_rfl) (by kernel_rfl) (fun _ _ _ h=>h) (Or.inl ⟨by rfl,by intro w hSw;have hS0:=hSw.1;have hS1:=hSw.2.1;have hS2:=hSw.2.2;clear hSw;go_simp⟩) (by assumption) ?_
    try simp only [Act.put,List.setIfInBounds_toArray,List.set_cons_zero,List.set_cons_succ,List.getElem_toArray,List.getElem_cons_zero,List.getElem_cons_succ]
    refine wpAnyH_ready (rs:=[10]) (by kernel_rfl) (by simp) ?_
    refine AllReadyH.cons (o:=_) rfl (fun Kc hK=>?_) AllReadyH.nil
    go_simp
    refine hK.out _ _ (HH.out _ (fun k hk=>(Below.heap_alloc _ _ _ (by simp;omega)).trans (Below.heap_alloc _ _ _ hk))) (fun hHeld=>?_)
    clear hK Kc
    try simp only [Act.put,List.setIfInBounds_toArray,List.set_cons_zero,List.set_cons_succ]
    refine wpAnyH_ready (rs:=[11]) (by kernel_rfl) (by simp) ?_
    refine AllReadyH.cons (o:=_) rfl (fun Kc hK=>?_) AllReadyH.nil
    go_simp
    refine (HC.out _ (below2 _ _ _) (b2_1 hs0 _) (b2_2 hs0 _)).mono ?_
    intro r w5 h5
    have HG5:=hide (h5.at (L:=notL (lg c.T a)) (Z:=notM (sz c.T a)) HB0.out (fun b hb=>by simp [RE.parts] at hb;subst hb;exact ha) rfl (Me.refl _))
    obtain ⟨c',j,rfl,hI',hG,hT',hL'⟩:=h5
    have hh5:=HH5.out w5 c' hG
    clear hI' hG hT' hL'
    go_wp2_with fail
    refine hK.out _ _ hh5 (fun hHeld=>?_)
    clear hK Kc
    try simp only [Act.put,List.setIfInBounds_toArray,List.set_cons_zero,List.set_cons_succ]
    refine wpAnyH_take (i:=12) (oi:=_) (v:=PtrB (c'.R j)) rfl (by kernel_rfl) (by kernel_rfl) (by kernel_rfl) (fun _ _ _ h=>h) (Or.inl ⟨by rfl,by intro w hSw;have hS0:=hSw.1;have hS1:=hSw.2.1;have hS2:=hSw.2.2;clear hSw;go_simp⟩) (by assumption) ?_
    try simp only [Act.put,List.setIfInBounds_toArray,List.set_cons_zero,List.set_cons_succ,List.getElem_toArray,List.getElem_cons_zero,List.getElem_cons_succ]
    refine wpAnyH_done (by kernel_rfl) ?_ _
    go_wp2_with fail
    go_ret
    exact HG5.out
end Go.Proofs.YtpoibdhhcbelnaaGreatDoor
namespace Go.Proofs.YtpoibdhhcbelnaaGreatDoor
open Go.Shelf Go.RowKit Go.Lib Brm
theorem many_call {w W0 W:World}{c:MC}{q a S X A B:Nat}{m n:Int}{en:Bool}(hI:MkI w c q)(hq:q<=9000000000000000000)(ha:a<c.T.length)(hm0:0<=m)(hm5:m<=5)(hn:n=-1\/(0<n/\m<=n/\n<=5))(hen:en=true↔(m=0\/lg c.T a []))(hB0:Below w.heap.size w W0)(hS:w.heap.size=S)(hs0:W0.heap.size=S+4)(hb1:Blk W0 S [PtrB c.m] 151)(hb2:Blk W0 (S+1) [PtrB (c.R a)] 159)(hb3:Blk W0 (S+1+1) [.int .i64 m] 3)(hb4:Blk W0 (S+1+1+1) [.int .i64 n] 3)(hP:PowT W0)
    (hB:Below W0.heap.size W0 W) (hx:Blk W X [.int .i64 0,.int .i64 5,.slice (some ⟨A,0,none⟩) 1 1,.bool en,.func (.func 189) #[] #[PtrB S,PtrB (S+1),PtrB (S+1+1),PtrB (S+1+1+1)]] 169) (hp:Blk W A [PtrB (c.R a)] 159) (hi:Blk W B [.int .i64 m,.int .i64 n] 3) (hX:S+4<=X) (hA:S+4<=A) (_hB2:S+4<=B) (hXA:X≠A) :
    Calls Tryz.prog 129 #[PtrB c.m,PtrB X,.slice (some ⟨B,0,none⟩) 2 2] W (GivesE W0 c (q+1) (.many a m n)):=by
  have hno:∀ g,S<=g->g≠X->¬ (c.S g\/g=X):=fun g h1 h2 h3=>by
    rcases h3 with h3 | h3
    · have:=hI.S_lt h3;omega
    · exact h2 h3
  exact mk_keep (e:=.many a m n) (hI.below hB0) hB (hP.below hB) ⟨hm0,hm5,hn⟩ (fun b hb=>by simp [RE.parts] at hb;subst hb;exact ha) (by omega) hx (by rw [hen];exact (many_ends hm0 (by omega)).symm)
    (fun j p hj=>by
      match j,hj with
      | 0,hj=>simp [RE.parts] at hj;subst hj;exact ⟨A,0,rfl,hp.lt,hno _ (by omega) (Ne.symm hXA),hp.cell 0⟩)
    ⟨S,S+1,S+1+1,S+1+1+1,rfl,rfl,hno _ (by omega) (by omega),hno _ (by omega) (by omega),hno _ (by omega) (by omega),hno _ (by omega) (by omega),hb1.below hB,hb2.below hB,hb3.below hB,hb4.below hB⟩
    (fun j y hj=>by
      match j,hj with
      | 0,hj=>simp [RE.args] at hj;subst hj;exact ⟨B,0,rfl,hi.lt,hi.cell 0,by omega,by omega⟩
      | 1,hj=>simp [RE.args] at hj;subst hj;exact ⟨B,0,rfl,hi.lt,hi.cell 1,by omega,by omega⟩)
    (by simp [RE.args]) (by simp [RE.parts]) hq
set_option maxRecDepth 100000 in
set_option maxHeartbeats 8000000 in
theorem mkmany_none {w:World}{c:MC}{q a:Nat}{n:Int}(hI:MkI w c q)(hq:q<=9000000000000000000)(ha:a<c.T.length)(hP:PowT w)(hn:n=-1\/(0<n/\n<=5)):Calls Tryz.prog 141 #[PtrB c.m,PtrB (c.R a),.int .i64 0,.int .i64 n] w (GivesL w c (q+1) (manyL (lg c.T a) 0 n) (manyM (sz c.T a))):=by
  obtain ⟨e,he⟩:∃ e,c.T[a]?=some e:=⟨_,List.getElem?_eq_getElem ha⟩
  obtain ⟨pa,pc,en,fv,hR,hen,hpa,hnS⟩:=hI.look he
  have hyl:=Blk.lt hR
  obtain ⟨S,hS⟩:∃ S,w.heap.size=S:=⟨_,rfl⟩
  obtain ⟨W0,hW0⟩:∃ W0,(((w.alloc (.cells #[PtrB c.m] 151)).alloc (.cells #[PtrB (c.R a)] 159)).alloc (.cells #[.int .i64 0] 3)).alloc (.cells #[.int .i64 n] 3)=W0:=⟨_,rfl⟩
  have hB0:Below w.heap.size w W0:=by rw [<- hW0];exact ((((Below.refl _ _).alloc (Nat.le_refl _) _).alloc (by simp) _).alloc (by simp;omega) _).alloc (by simp;omega) _
  have hb1:Blk W0 S [PtrB c.m] 151:=by rw [<- hW0,<- hS];exact (((Blk.new w [PtrB c.m] 151).alloc _).alloc _).alloc _
  have hb2:Blk W0 (S+1) [PtrB (c.R a)] 159:=by rw [<- hW0,<- hS];have:=((Blk.new (w.alloc (.cells #[PtrB c.m] 151)) [PtrB (c.R a)] 159).alloc (.cells #[.int .i64 0] 3)).alloc (.cells #[.int .i64 n] 3);simpa using this
  have hb3:Blk W0 (S+1+1) [.int .i64 0] 3:=by rw [<- hW0,<- hS];have:=(Blk.new ((w.alloc (.cells #[PtrB c.m] 151)).alloc (.cells #[PtrB (c.R a)] 159)) [.int .i64 0] 3).alloc (.cells #[.int .i64 n] 3);simpa using this
  have hb4:Blk W0 (S+1+1+1) [.int .i64 n] 3:=by rw [<- hW0,<- hS];have:=Blk.new (((w.alloc (.cells #[PtrB c.m] 151)).alloc (.cells #[PtrB (c.R a)] 159)).alloc (.cells #[.int .i64 0] 3)) [.int .i64 n] 3;simpa using this
  have hs0:W0.heap.size=S+4:=by rw [<- hW0,<- hS];simp
  have c1:W0.cell? ⟨S,0,none⟩=some (PtrB c.m):=hb1.cell 0
  have c2:W0.cell? ⟨S+1,0,none⟩=some (PtrB (c.R a)):=hb2.cell 0
  have c3:W0.cell? ⟨S+1+1,0,none⟩=some (.int .i64 0):=hb3.cell 0
  have c4:W0.cell? ⟨S+1+1+1,0,none⟩=some (.int .i64 n):=hb4.cell 0
  have hR0:=Blk.below hR hB0
  have c5:W0.cell? ⟨c.R a,3,none⟩=some (.bool en):=hR0.cell 3
  have hyl0:c.R a<W0.heap.size:=hR0.lt
  have HB0:=hide hB0
  have HW0:=hide hW0
  have HSS:=hide hS
  have HC:=hide (fun (W:World) (X A B:Nat)=>many_call (W:=W) (X:=X) (A:=A) (B:=B) (m:=0) (n:=n) (en:=true) hI hq ha (by omega) (by omega) (by omega) (by simp) hB0 hS hs0 hb1 hb2 hb3 hb4 (hP.below hB0))
  have HH:Hid (∀ W':World,(∀ k,k<W0.heap.size->W'.heap[k]?=W0.heap[k]?)->W'.cell? ⟨S,0,none⟩=some (PtrB c.m)/\W'.cell? ⟨S+1,0,none⟩=some (PtrB (c.R a))/\W'.cell? ⟨S+1+1,0,none⟩=some (.int .i64 0)/\W'.cell? ⟨S+1+1+1,0,none⟩=some (.int .i64 n)/\W'.cell? ⟨c.R a,3,none⟩=some (.bool en)):=fun W' hb=>⟨(World.cell?_of_block (w:=W0) (hb S hb1.lt)).trans c1,(World.cell?_of_block (w:=W0) (hb (S+1) hb2.lt)).trans c2,(World.cell?_of_block (w:=W0) (hb (S+1+1) hb3.lt)).trans c3,(World.cell?_of_block (w:=W0) (hb (S+1+1+1) hb4.lt)).trans c4,(World.cell?_of_block (w:=W0) (hb _ hyl0)).trans c5⟩
  have HH5:Hid (∀ (W':World) (c':MC),Gone W0 c W' c'->W'.cell? ⟨S,0,none⟩=some (PtrB c.m)/\W'.cell? ⟨S+1,0,none⟩=some (PtrB (c.R a))/\W'.cell? ⟨S+1+1,0,none⟩=some (.int .i64 0)/\W'.cell? ⟨S+1+1+1,0,none⟩=some (.int .i64 n)/\W'.cell? ⟨c.R a,3,none⟩=some (.bool en)):=fun W' c' hG=>by
    have nn:∀ g,S<=g->¬ c.S g:=fun g hg h=>by have:=hI.S_lt h;omega
    exact ⟨(hG.but.cell (p:=⟨S,0,none⟩) hb1.lt (nn S (by omega))).trans c1,(hG.but.cell (p:=⟨S+1,0,none⟩) hb2.lt (nn (S+1) (by omega))).trans c2,(hG.but.cell (p:=⟨S+1+1,0,none⟩) hb3.lt (nn (S+1+1) (by omega))).trans c3,(hG.but.cell (p:=⟨S+1+1+1,0,none⟩) hb4.lt (nn (S+1+1+1) (by omega))).trans c4,(hG.but.cell (p:=⟨c.R a,3,none⟩) hyl0 hnS).trans c5⟩
  have hz:(n == 0)=false:=beq_eq_false_iff_ne.2 (by omega)
  have hne1:c.R a≠w.heap.size:=by omega
  have hne2:c.R a≠w.heap.size+1:=by omega
  clear hb1 hb2 hb3 hb4 hB0 hW0 hI hP hR hR0 hpa hen hnS c1 c2 c3 c4 c5 hS hn
  go_enter Tryz.func141,Tryz.ntmps141
  go_wp2_with fail
  rw [HW0.out]
  simp only [HSS.out]
  refine wp_region_held_drew (S:=(fun w':World=>w'.cell? ⟨S,0,none⟩=some (PtrB c.m)/\w'.cell? ⟨S+1,0,none⟩=some (PtrB (c.R a))/\w'.cell? ⟨S+1+1,0,none⟩=some (.int .i64 0)/\w'.cell? ⟨S+1+1+1,0,none⟩=some (.int .i64 n)/\w'.cell? ⟨c.R a,3,none⟩=some (.bool en))) (by kernel_rfl) (HH.out _ (fun _ _=>rfl)) (fun hHeld=>?_)
  refine wpAnyH_take (i:=0) (oi:=_) (v:=PtrB c.m) rfl (by kernel_rfl) (by kernel_rfl) (by kernel_rfl) (fun _ _ _ h=>h) (Or.inl ⟨by rfl,by intro w hSw;have hS0:=hSw.1;have hS1:=hSw.2.1;have hS2:=hSw.2.2.1;have hS3:=hSw.2.2.2.1;have hS4:=hSw.2.2.2.2;clear hSw;go_simp⟩) (by assumption) ?_
  try simp only [Act.put,List.setIfInBounds_toArray,List.set_cons_zero,List.set_cons_succ,List.getElem_toArray,List.getElem_cons_zero]
  refine wpAnyH_take (i:=1) (oi:=_) (v:=PtrB (c.R a)) rfl (by kernel_rfl) (by kernel_rfl) (by kernel_rfl) (fun _ _ _ h=>h) (Or.inl ⟨by rfl,by intro w hSw;have hS0:=hSw.1;have hS1:=hSw.2.1;have hS2:=hSw.2.2.1;have hS3:=hSw.2.2.2.1;have hS4:=hSw.2.2.2.2;clear hSw;go_simp⟩) (by assumption) ?_
  try simp only [Act.put,List.setIfInBounds_toArray,List.set_cons_zero,List.set_cons_succ,List.getElem_toArray,List.getElem_cons_zero,List.getElem_cons_succ]
  refine wpAnyH_take (i:=3) (oi:=_) (v:=.int .i64 0) rfl (by kernel_rfl) (by kernel_rfl) (by kernel_rfl) (fun _ _ _ h=>h) (Or.inl ⟨by rfl,by intro w hSw;have hS0:=hSw.1;have hS1:=hSw.2.1;have hS2:=hSw.2.2.1;have hS3:=hSw.2.2.2.1;have hS4:=hSw.2.2.2.2;clear hSw;go_simp⟩) (by assumption) ?_
  try simp only [Act.put,List.setIfInBounds_toArray,List.set_cons_zero,List.set_cons_succ,List.getElem_toArray,List.getElem_cons_zero,List.getElem_cons_succ]
  refine wpAnyH_take (i:=4) (oi:=_) (v:=.bool true) rfl (by kernel_rfl) (by kernel_rfl) (by kernel_rfl) (fun _ _ _ h=>h) (Or.inl ⟨by rfl,by intro w hSw;have hS0:=hSw.1;have hS1:=hSw.2.1;have hS2:=hSw.2.2.1;have hS3:=hSw.2.2.2.1;have hS4:=hSw.2.2.2.2;clear hSw;go_simp⟩) (by assumption) ?_
  try simp only [Act.put,List.setIfInBounds_toArray,List.set_cons_zero,List.set_cons_succ,List.getElem_toArray,List.getElem_cons_zero,List.getElem_cons_succ]
  refine wpAnyH_take (i:=5) (oi:=_) (v:=.bool true) rfl (by kernel_rfl) (by kernel_rfl) (by kernel_rfl) (fun _ _ _ h=>h) (Or.inl ⟨by rfl,by intro w hSw;have hS0:=hSw.1;have hS1:=hSw.2.1;have hS2:=hSw.2.2.1;have hS3:=hSw.2.2.2.1;have hS4:=hSw.2.2.2.2;clear hSw;go_simp⟩) (by assumption) ?_
  try simp only [Act.put,List.setIfInBounds_toArray,List.set_cons_zero,List.set_cons_succ,List.getElem_toArray,List.getElem_cons_zero,List.getElem_cons_succ]
  refine wpAnyH_take (i:=6) (oi:=_) (v:=undef) rfl (by kernel_rfl) (by kernel_rfl) (by kernel_rfl) (fun _ _ _ h=>h) (Or.inr ⟨by rfl,rfl⟩) (by assumption) ?_
  try simp only [Act.put,List.setIfInBounds_toArray,List.set_cons_zero,List.set_cons_succ,List.getElem_toArray,List.getElem_cons_zero,List.getElem_cons_succ]
  refine wpAnyH_take (i:=7) (oi:=_) (v:=undef) rfl (by kernel_rfl) (by kernel_rfl) (by kernel_rfl) (fun _ _ _ h=>h) (Or.inr ⟨by rfl,rfl⟩) (by assumption) ?_
  try simp only [Act.put,List.setIfInBounds_toArray,List.set_cons_zero,List.set_cons_succ,List.getElem_toArray,List.getElem_cons_zero,List.getElem_cons_succ]
  refine wpAnyH_take (i:=8) (oi:=_) (v:=undef) rfl (by kernel_rfl) (by kernel_rfl) (by kernel_rfl) (fun _ _ _ h=>h) (Or.inr ⟨by rfl,rfl⟩) (by assumption) ?_
  try simp only [Act.put,List.setIfInBounds_toArray,List.set_cons_zero,List.set_cons_succ,List.getElem_toArray,List.getElem_cons_zero,List.getElem_cons_succ]
  refine wpAnyH_take (i:=9) (oi:=_) (v:=undef) rfl (by kernel_rfl) (by kernel_rfl) (by kernel_rfl) (fun _ _ _ h=>h) (Or.inr ⟨by rfl,rfl⟩) (by assumption) ?_
  try simp only [Act.put,List.setIfInBounds_toArray,List.set_cons_zero,List.set_cons_succ,List.getElem_toArray,List.getElem_cons_zero,List.getElem_cons_succ]
  refine wpAnyH_take (i:=10) (oi:=_) (v:=.bool true) rfl (by kernel_rfl) (by kernel_rfl) (by kernel_rfl) (fun _ _ _ h=>h) (Or.inl ⟨by rfl,by intro w hSw;have hS0:=hSw.1;have hS1:=hSw.2.1;have hS2:=hSw.2.2.1;have hS3:=hSw.2.2.2.1;have hS4:=hSw.2.2.2.2;clear hSw;go_simp⟩) (by assumption) ?_
  try simp only [Act.put,List.setIfInBounds_toArray,List.set_cons_zero,List.set_cons_succ,List.getElem_toArray,List.getElem_cons_zero,List.getElem_cons_succ]
  refine wpAnyH_take (i:=11) (oi:=_) (v:=.func (.func 189) #[] #[PtrB S,PtrB (S+1),PtrB (S+1+1),PtrB (S+1+1+1)]) rfl (by kernel_rfl) (by kernel_rfl) (by kernel_rfl) (fun _ _ _ h=>h) (Or.inl ⟨by rfl,by intro w hSw;have hS0:=hSw.1;have hS1:=hSw.2.1;have hS2:=hSw.2.2.1;have hS3:=hSw.2.2.2.1;have hS4:=hSw.2.2.2.2;clear hSw;go_simp⟩) (by assumption) ?_
  try simp only [Act.put,List.setIfInBounds_toArray,List.set_cons_zero,List.set_cons_succ,List.getElem_toArray,List.getElem_cons_zero,List.getElem_cons_succ]
  refine wpAnyH_take (i:=14) (oi:=_) (v:=.int .i64 0) rfl (by kernel_rfl) (by kernel_rfl) (by kernel_rfl) (fun _ _ _ h=>h) (Or.inl ⟨by rfl,by intro w hSw;have hS0:=hSw.1;have hS1:=hSw.2.1;have hS2:=hSw.2.2.1;have hS3:=hSw.2.2.2.1;have hS4:=hSw.2.2.2.2;clear hSw;go_simp⟩) (by assumption) ?_
  try simp only [Act.put,List.setIfInBounds_toArray,List.set_cons_zero,List.set_cons_succ,List.getElem_toArray,List.getElem_cons_zero,List.getElem_cons_succ]
  refine wpAnyH_take (i:=15) (oi:=_) (v:=.int .i64 n) rfl (by kernel_rfl) (by kernel_rfl) (by kernel_rfl) (fun _ _ _ h=>h) (Or.inl ⟨by rfl,by intro w hSw;have hS0:=hSw.1;have hS1:=hSw.2.1;have hS2:=hSw.2.2.1;have hS3:=hSw.2.2.2.1;have hS4:=hSw.2.2.2.2;clear hSw;go_simp⟩) (by assumption) ?_
  try simp only [Act.put,List.setIfInBounds_toArray,List.set_cons_zero,List.set_cons_succ,List.getElem_toArray,List.getElem_cons_zero,List.getElem_cons_succ]
  refine wpAnyH_ready (rs:=[2,16]) (by kernel_rfl) (by simp) ?_
  refine AllReadyH.cons (o:=_) rfl (fun Kc hK=>?_) ?_
  · go_simp
    refine hK.out _ _ (HH.out _ (fun k hk=>Below.heap_alloc _ _ _ hk)) (fun hHeld=>?_)
    clear hK Kc
    try simp only [Act.put,List.setIfInBounds_toArray,List.set_cons_zero,List.set_cons_succ]
    refine wpAnyH_take (i:=12) (oi:=_) (v:=.agg #[.int .i64 0,.int .i64 5,.slice (some ⟨S+4,0,none⟩) 1 1,.bool true,.func (.func 189) #[] #[PtrB S,PtrB (S+1),PtrB (S+1+1),PtrB (S+1+1+1)]]) rfl (by kernel_rfl) (by kernel_rfl) (by kernel_rfl) (fun _ _ _ h=>h) (Or.inl ⟨by rfl,by intro w hSw;have hS0:=hSw.1;have hS1:=hSw.2.1;have hS2:=hSw.2.2.1;have hS3:=hSw.2.2.2.1;have hS4:=hSw.2.2.2.2;clear hSw;go_simp⟩) (by assumption) ?_
    try simp only [Act.put,List.setIfInBounds_toArray,List.set_cons_zero,List.set_cons_succ,List.getElem_toArray,List.getElem_cons_zero,List.getElem_cons_succ]
    refine wpAnyH_ready (rs:=[13,16]) (by kernel_rfl) (by simp) ?_
    refine AllReadyH.cons (o:=_) rfl (fun Kc hK=>?_) ?_
    · go_simp
      refine hK.out _ _ (HH.out _ (fun k hk=>(Below.heap_alloc _ _ _ (by simp;omega)).trans (Below.heap_alloc _ _ _ hk))) (fun hHeld=>?_)
      clear hK Kc
      try simp only [Act.put,List.setIfInBounds_toArray,List.set_cons_zero,List.set_cons_succ]
      refine wpAnyH_ready (rs:=[16]) (by kernel_rfl) (by simp) ?_
      refine AllReadyH.cons (o:=_) rfl (fun Kc hK=>?_) ?_
      · go_simp
        refine hK.out _ _ (HH.out _ (fun k hk=>((Below.heap_alloc _ _ _ (by simp;omega)).trans (Below.heap_alloc _ _ _ (by simp;omega))).trans (Below.heap_alloc _ _ _ hk))) (fun hHeld=>?_)
        clear hK Kc
        try simp only [Act.put,List.setIfInBounds_toArray,List.set_cons_zero,List.set_cons_succ]
        refine wpAnyH_ready (rs:=[17]) (by kernel_rfl) (by simp) ?_
        refine AllReadyH.cons (o:=_) rfl (fun Kc hK=>?_) ?_
        · go_simp
          refine (HC.out _ _ _ _ (below3 _ _ _ _) (b3_2 hs0 _ _) (b3_1 hs0 _ _) (b3_3 hs0 _ _) (by omega) (by omega) (by omega) (by omega)).mono ?_
          intro r w5 h5
          have HG5:=hide (h5.at (L:=manyL (lg c.T a) 0 n) (Z:=manyM (sz c.T a)) HB0.out (fun b hb=>by simp [RE.parts] at hb;subst hb;exact ha) rfl (Me.refl _))
          obtain ⟨c',j,rfl,hI',hG,hT',hL'⟩:=h5
          have hh5:=HH5.out w5 c' hG
          clear hI' hG hT' hL'
          go_wp2_with fail
          refine hK.out _ _ hh5 (fun hHeld=>?_)
          clear hK Kc
          try simp only [Act.put,List.setIfInBounds_toArray,List.set_cons_zero,List.set_cons_succ]
          refine wpAnyH_take (i:=18) (oi:=_) (v:=PtrB (c'.R j)) rfl (by kernel_rfl) (by kernel_rfl) (by kernel_rfl) (fun _ _ _ h=>h) (Or.inl ⟨by rfl,by intro w hSw;have hS0:=hSw.1;have hS1:=hSw.2.1;have hS2:=hSw.2.2.1;have hS3:=hSw.2.2.2.1;have hS4:=hSw.2.2.2.2;clear hSw;go_simp⟩) (by assumption) ?_
          try simp only [Act.put,List.setIfInBounds_toArray,List.set_cons_zero,List.set_cons_succ,List.getElem_toArray,List.getElem_cons_zero,List.getElem_cons_succ]
          refine wpAnyH_done (by kernel_rfl) ?_ _
          go_wp2_with fail
          go_ret
          exact HG5.out
        · exact AllReadyH.nil
      · exact AllReadyH.nil
    refine AllReadyH.cons (o:=_) rfl (fun Kc hK=>?_) ?_
    · go_simp
      refine hK.out _ _ (HH.out _ (fun k hk=>(Below.heap_alloc _ _ _ (by simp;omega)).trans (Below.heap_alloc _ _ _ hk))) (fun hHeld=>?_)
      clear hK Kc
      try simp only [Act.put,List.setIfInBounds_toArray,List.set_cons_zero,List.set_cons_succ]
      refine wpAnyH_ready (rs:=[13]) (by kernel_rfl) (by simp) ?_
      refine AllReadyH.cons (o:=_) rfl (fun Kc hK=>?_) ?_
      · go_simp
        refine hK.out _ _ (HH.out _ (fun k hk=>((Below.heap_alloc _ _ _ (by simp;omega)).trans (Below.heap_alloc _ _ _ (by simp;omega))).trans (Below.heap_alloc _ _ _ hk))) (fun hHeld=>?_)
        clear hK Kc
        try simp only [Act.put,List.setIfInBounds_toArray,List.set_cons_zero,List.set_cons_succ]
        refine wpAnyH_ready (rs:=[17]) (by kernel_rfl) (by simp) ?_
        refine AllReadyH.cons (o:=_) rfl (fun Kc hK=>?_) ?_
        · go_simp
          refine (HC.out _ _ _ _ (below3 _ _ _ _) (b3_3 hs0 _ _) (b3_1 hs0 _ _) (b3_2 hs0 _ _) (by omega) (by omega) (by omega) (by omega)).mono ?_
          intro r w5 h5
          have HG5:=hide (h5.at (L:=manyL (lg c.T a) 0 n) (Z:=manyM (sz c.T a)) HB0.out (fun b hb=>by simp [RE.parts] at hb;subst hb;exact ha) rfl (Me.refl _))
          obtain ⟨c',j,rfl,hI',hG,hT',hL'⟩:=h5
          have hh5:=HH5.out w5 c' hG
          clear hI' hG hT' hL'
          go_wp2_with fail
          refine hK.out _ _ hh5 (fun hHeld=>?_)
          clear hK Kc
          try simp only [Act.put,List.setIfInBounds_toArray,List.set_cons_zero,List.set_cons_succ]
          refine wpAnyH_take (i:=18) (oi:=_) (v:=PtrB (c'.R j)) rfl (by kernel_rfl) (by kernel_rfl) (by kernel_rfl) (fun _ _ _ h=>h) (Or.inl ⟨by rfl,by intro w hSw;have hS0:=hSw.1;have hS1:=hSw.2.1;have hS2:=hSw.2.2.1;have hS3:=hSw.2.2.2.1;have hS4:=hSw.2.2.2.2;clear hSw;go_simp⟩) (by assumption) ?_
          try simp only [Act.put,List.setIfInBounds_toArray,List.set_cons_zero,List.set_cons_succ,List.getElem_toArray,List.getElem_cons_zero,List.getElem_cons_succ]
          refine wpAnyH_done (by kernel_rfl) ?_ _
          go_wp2_with fail
          go_ret
          exact HG5.out
        · exact AllReadyH.nil
      · exact AllReadyH.nil
    · exact AllReadyH.nil
  refine AllReadyH.cons (o:=_) rfl (fun Kc hK=>?_) ?_
  · go_simp
    refine hK.out _ _ (HH.out _ (fun k hk=>Below.heap_alloc _ _ _ hk)) (fun hHeld=>?_)
    clear hK Kc
    try simp only [Act.put,List.setIfInBounds_toArray,List.set_cons_zero,List.set_cons_succ]
    refine wpAnyH_ready (rs:=[2]) (by kernel_rfl) (by simp) ?_
    refine AllReadyH.cons (o:=_) rfl (fun Kc hK=>?_) ?_
    · go_simp
      refine hK.out _ _ (HH.out _ (fun k hk=>(Below.heap_alloc _ _ _ (by simp;omega)).trans (Below.heap_alloc _ _ _ hk))) (fun hHeld=>?_)
      clear hK Kc
      try simp only [Act.put,List.setIfInBounds_toArray,List.set_cons_zero,List.set_cons_succ]
      refine wpAnyH_take (i:=12) (oi:=_) (v:=.agg #[.int .i64 0,.int .i64 5,.slice (some ⟨S+4+1,0,none⟩) 1 1,.bool true,.func (.func 189) #[] #[PtrB S,PtrB (S+1),PtrB (S+1+1),PtrB (S+1+1+1)]]) rfl (by kernel_rfl) (by kernel_rfl) (by kernel_rfl) (fun _ _ _ h=>h) (Or.inl ⟨by rfl,by intro w hSw;have hS0:=hSw.1;have hS1:=hSw.2.1;have hS2:=hSw.2.2.1;have hS3:=hSw.2.2.2.1;have hS4:=hSw.2.2.2.2;clear hSw;go_simp⟩) (by assumption) ?_
      try simp only [Act.put,List.setIfInBounds_toArray,List.set_cons_zero,List.set_cons_succ,List.getElem_toArray,List.getElem_cons_zero,List.getElem_cons_succ]
      refine wpAnyH_ready (rs:=[13]) (by kernel_rfl) (by simp) ?_
      refine AllReadyH.cons (o:=_) rfl (fun Kc hK=>?_) ?_
      · go_simp
        refine hK.out _ _ (HH.out _ (fun k hk=>((Below.heap_alloc _ _ _ (by simp;omega)).trans (Below.heap_alloc _ _ _ (by simp;omega))).trans (Below.heap_alloc _ _ _ hk))) (fun hHeld=>?_)
        clear hK Kc
        try simp only [Act.put,List.setIfInBounds_toArray,List.set_cons_zero,List.set_cons_succ]
        refine wpAnyH_ready (rs:=[17]) (by kernel_rfl) (by simp) ?_
        refine AllReadyH.cons (o:=_) rfl (fun Kc hK=>?_) ?_
        · go_simp
          refine (HC.out _ _ _ _ (below3 _ _ _ _) (b3_3 hs0 _ _) (b3_2 hs0 _ _) (b3_1 hs0 _ _) (by omega) (by omega) (by omega) (by omega)).mono ?_
          intro r w5 h5
          have HG5:=hide (h5.at (L:=manyL (lg c.T a) 0 n) (Z:=manyM (sz c.T a)) HB0.out (fun b hb=>by simp [RE.parts] at hb;subst hb;exact ha) rfl (Me.refl _))
          obtain ⟨c',j,rfl,hI',hG,hT',hL'⟩:=h5
          have hh5:=HH5.out w5 c' hG
          clear hI' hG hT' hL'
          go_wp2_with fail
          refine hK.out _ _ hh5 (fun hHeld=>?_)
          clear hK Kc
          try simp only [Act.put,List.setIfInBounds_toArray,List.set_cons_zero,List.set_cons_succ]
          refine wpAnyH_take (i:=18) (oi:=_) (v:=PtrB (c'.R j)) rfl (by kernel_rfl) (by kernel_rfl) (by kernel_rfl) (fun _ _ _ h=>h) (Or.inl ⟨by rfl,by intro w hSw;have hS0:=hSw.1;have hS1:=hSw.2.1;have hS2:=hSw.2.2.1;have hS3:=hSw.2.2.2.1;have hS4:=hSw.2.2.2.2;clear hSw;go_simp⟩) (by assumption) ?_
          try simp only [Act.put,List.setIfInBounds_toArray,List.set_cons_zero,List.set_cons_succ,List.getElem_toArray,List.getElem_cons_zero,List.getElem_cons_succ]
          refine wpAnyH_done (by kernel_rfl) ?_ _
          go_wp2_with fail
          go_ret
          exact HG5.out
        · exact AllReadyH.nil
      · exact AllReadyH.nil
    · exact AllReadyH.nil
  · exact AllReadyH.nil
set_option maxRecDepth 100000 in
set_option maxHeartbeats 8000000 in
theorem mkmany_some {w:World}{c:MC}{q a:Nat}{m:Int}{n:Int}(hI:MkI w c q)(hq:q<=9000000000000000000)(ha:a<c.T.length)(hP:PowT w)(hm0:0<m)(hm5:m<=5)(hn:n=-1\/(m<=n/\n<=5)):Calls Tryz.prog 141 #[PtrB c.m,PtrB (c.R a),.int .i64 m,.int .i64 n] w (GivesL w c (q+1) (manyL (lg c.T a) m n) (manyM (sz c.T a))):=by
  obtain ⟨e,he⟩:∃ e,c.T[a]?=some e:=⟨_,List.getElem?_eq_getElem ha⟩
  obtain ⟨pa,pc,en,fv,hR,hen,hpa,hnS⟩:=hI.look he
  have hyl:=Blk.lt hR
  obtain ⟨S,hS⟩:∃ S,w.heap.size=S:=⟨_,rfl⟩
  obtain ⟨W0,hW0⟩:∃ W0,(((w.alloc (.cells #[PtrB c.m] 151)).alloc (.cells #[PtrB (c.R a)] 159)).alloc (.cells #[.int .i64 m] 3)).alloc (.cells #[.int .i64 n] 3)=W0:=⟨_,rfl⟩
  have hB0:Below w.heap.size w W0:=by rw [<- hW0];exact ((((Below.refl _ _).alloc (Nat.le_refl _) _).alloc (by simp) _).alloc (by simp;omega) _).alloc (by simp;omega) _
  have hb1:Blk W0 S [PtrB c.m] 151:=by rw [<- hW0,<- hS];exact (((Blk.new w [PtrB c.m] 151).alloc _).alloc _).alloc _
  have hb2:Blk W0 (S+1) [PtrB (c.R a)] 159:=by rw [<- hW0,<- hS];have:=((Blk.new (w.alloc (.cells #[PtrB c.m] 151)) [PtrB (c.R a)] 159).alloc (.cells #[.int .i64 m] 3)).alloc (.cells #[.int .i64 n] 3);simpa using this
  have hb3:Blk W0 (S+1+1) [.int .i64 m] 3:=by rw [<- hW0,<- hS];have:=(Blk.new ((w.alloc (.cells #[PtrB c.m] 151)).alloc (.cells #[PtrB (c.R a)] 159)) [.int .i64 m] 3).alloc (.cells #[.int .i64 n] 3);simpa using this
  have hb4:Blk W0 (S+1+1+1) [.int .i64 n] 3:=by rw [<- hW0,<- hS];have:=Blk.new (((w.alloc (.cells #[PtrB c.m] 151)).alloc (.cells #[PtrB (c.R a)] 159)).alloc (.cells #[.int .i64 m] 3)) [.int .i64 n] 3;simpa using this
  have hs0:W0.heap.size=S+4:=by rw [<- hW0,<- hS];simp
  have c1:W0.cell? ⟨S,0,none⟩=some (PtrB c.m):=hb1.cell 0
  have c2:W0.cell? ⟨S+1,0,none⟩=some (PtrB (c.R a)):=hb2.cell 0
  have c3:W0.cell? ⟨S+1+1,0,none⟩=some (.int .i64 m):=hb3.cell 0
  have c4:W0.cell? ⟨S+1+1+1,0,none⟩=some (.int .i64 n):=hb4.cell 0
  have hR0:=Blk.below hR hB0
  have c5:W0.cell? ⟨c.R a,3,none⟩=some (.bool en):=hR0.cell 3
  have hyl0:c.R a<W0.heap.size:=hR0.lt
  have HB0:=hide hB0
  have HW0:=hide hW0
  have HSS:=hide hS
  have HC:=hide (fun (W:World) (X A B:Nat)=>many_call (W:=W) (X:=X) (A:=A) (B:=B) (m:=m) (n:=n) (en:=en) hI hq ha (by omega) (by omega) (by omega) (by rw [hen];constructor;exact fun h=>.inr h;rintro (h | h);omega;exact h) hB0 hS hs0 hb1 hb2 hb3 hb4 (hP.below hB0))
  have HH:Hid (∀ W':World,(∀ k,k<W0.heap.size->W'.heap[k]?=W0.heap[k]?)->W'.cell? ⟨S,0,none⟩=some (PtrB c.m)/\W'.cell? ⟨S+1,0,none⟩=some (PtrB (c.R a))/\W'.cell? ⟨S+1+1,0,none⟩=some (.int .i64 m)/\W'.cell? ⟨S+1+1+1,0,none⟩=some (.int .i64 n)/\W'.cell? ⟨c.R a,3,none⟩=some (.bool en)):=fun W' hb=>⟨(World.cell?_of_block (w:=W0) (hb S hb1.lt)).trans c1,(World.cell?_of_block (w:=W0) (hb (S+1) hb2.lt)).trans c2,(World.cell?_of_block (w:=W0) (hb (S+1+1) hb3.lt)).trans c3,(World.cell?_of_block (w:=W0) (hb (S+1+1+1) hb4.lt)).trans c4,(World.cell?_of_block (w:=W0) (hb _ hyl0)).trans c5⟩
  have HH5:Hid (∀ (W':World) (c':MC),Gone W0 c W' c'->W'.cell? ⟨S,0,none⟩=some (PtrB c.m)/\W'.cell? ⟨S+1,0,none⟩=some (PtrB (c.R a))/\W'.cell? ⟨S+1+1,0,none⟩=some (.int .i64 m)/\W'.cell? ⟨S+1+1+1,0,none⟩=some (.int .i64 n)/\W'.cell? ⟨c.R a,3,none⟩=some (.bool en)):=fun W' c' hG=>by
    have nn:∀ g,S<=g->¬ c.S g:=fun g hg h=>by have:=hI.S_lt h;omega
    exact ⟨(hG.but.cell (p:=⟨S,0,none⟩) hb1.lt (nn S (by omega))).trans c1,(hG.but.cell (p:=⟨S+1,0,none⟩) hb2.lt (nn (S+1) (by omega))).trans c2,(hG.but.cell (p:=⟨S+1+1,0,none⟩) hb3.lt (nn (S+1+1) (by omega))).trans c3,(hG.but.cell (p:=⟨S+1+1+1,0,none⟩) hb4.lt (nn (S+1+1+1) (by omega))).trans c4,(hG.but.cell (p:=⟨c.R a,3,none⟩) hyl0 hnS).trans c5⟩
  have hz:(n == 0)=false:=beq_eq_false_iff_ne.2 (by omega)
  have hzm:(m == 0)=false:=beq_eq_false_iff_ne.2 (by omega)
  have hne1:c.R a≠w.heap.size:=by omega
  have hne2:c.R a≠w.heap.size+1:=by omega
  clear hb1 hb2 hb3 hb4 hB0 hW0 hI hP hR hR0 hpa hen hnS c1 c2 c3 c4 c5 hS hn hm0 hm5
  go_enter Tryz.func141,Tryz.ntmps141
  go_wp2_with fail
  rw [HW0.out]
  simp only [HSS.out]
  refine wp_region_held_drew (S:=(fun w':World=>w'.cell? ⟨S,0,none⟩=some (PtrB c.m)/\w'.cell? ⟨S+1,0,none⟩=some (PtrB (c.R a))/\w'.cell? ⟨S+1+1,0,none⟩=some (.int .i64 m)/\w'.cell? ⟨S+1+1+1,0,none⟩=some (.int .i64 n)/\w'.cell? ⟨c.R a,3,none⟩=some (.bool en))) (by kernel_rfl) (HH.out _ (fun _ _=>rfl)) (fun hHeld=>?_)
  refine wpAnyH_take (i:=0) (oi:=_) (v:=PtrB c.m) rfl (by kernel_rfl) (by kernel_rfl) (by kernel_rfl) (fun _ _ _ h=>h) (Or.inl ⟨by rfl,by intro w hSw;have hS0:=hSw.1;have hS1:=hSw.2.1;have hS2:=hSw.2.2.1;have hS3:=hSw.2.2.2.1;have hS4:=hSw.2.2.2.2;clear hSw;go_simp⟩) (by assumption) ?_
  try simp only [Act.put,List.setIfInBounds_toArray,List.set_cons_zero,List.set_cons_succ,List.getElem_toArray,List.getElem_cons_zero]
  refine wpAnyH_take (i:=1) (oi:=_) (v:=PtrB (c.R a)) rfl (by kernel_rfl) (by kernel_rfl) (by kernel_rfl) (fun _ _ _ h=>h) (Or.inl ⟨by rfl,by intro w hSw;have hS0:=hSw.1;have hS1:=hSw.2.1;have hS2:=hSw.2.2.1;have hS3:=hSw.2.2.2.1;have hS4:=hSw.2.2.2.2;clear hSw;go_simp⟩) (by assumption) ?_
  try simp only [Act.put,List.setIfInBounds_toArray,List.set_cons_zero,List.set_cons_succ,List.getElem_toArray,List.getElem_cons_zero,List.getElem_cons_succ]
  refine wpAnyH_take (i:=3) (oi:=_) (v:=.int .i64 m) rfl (by kernel_rfl) (by kernel_rfl) (by kernel_rfl) (fun _ _ _ h=>h) (Or.inl ⟨by rfl,by intro w hSw;have hS0:=hSw.1;have hS1:=hSw.2.1;have hS2:=hSw.2.2.1;have hS3:=hSw.2.2.2.1;have hS4:=hSw.2.2.2.2;clear hSw;go_simp⟩) (by assumption) ?_
  try simp only [Act.put,List.setIfInBounds_toArray,List.set_cons_zero,List.set_cons_succ,List.getElem_toArray,List.getElem_cons_zero,List.getElem_cons_succ]
  refine wpAnyH_take (i:=4) (oi:=_) (v:=.bool false) rfl (by kernel_rfl) (by kernel_rfl) (by kernel_rfl) (fun _ _ _ h=>h) (Or.inl ⟨by rfl,by intro w hSw;have hS0:=hSw.1;have hS1:=hSw.2.1;have hS2:=hSw.2.2.1;have hS3:=hSw.2.2.2.1;have hS4:=hSw.2.2.2.2;clear hSw;go_simp⟩) (by assumption) ?_
  try simp only [Act.put,List.setIfInBounds_toArray,List.set_cons_zero,List.set_cons_succ,List.getElem_toArray,List.getElem_cons_zero,List.getElem_cons_succ]
  refine wpAnyH_take (i:=5) (oi:=_) (v:=.bool false) rfl (by kernel_rfl) (by kernel_rfl) (by kernel_rfl) (fun _ _ _ h=>h) (Or.inl ⟨by rfl,by intro w hSw;have hS0:=hSw.1;have hS1:=hSw.2.1;have hS2:=hSw.2.2.1;have hS3:=hSw.2.2.2.1;have hS4:=hSw.2.2.2.2;clear hSw;go_simp⟩) (by assumption) ?_
  try simp only [Act.put,List.setIfInBounds_toArray,List.set_cons_zero,List.set_cons_succ,List.getElem_toArray,List.getElem_cons_zero,List.getElem_cons_succ]
  refine wpAnyH_take (i:=6) (oi:=_) (v:=PtrB (c.R a)) rfl (by kernel_rfl) (by kernel_rfl) (by kernel_rfl) (fun _ _ _ h=>h) (Or.inl ⟨by rfl,by intro w hSw;have hS0:=hSw.1;have hS1:=hSw.2.1;have hS2:=hSw.2.2.1;have hS3:=hSw.2.2.2.1;have hS4:=hSw.2.2.2.2;clear hSw;go_simp⟩) (by assumption) ?_
  try simp only [Act.put,List.setIfInBounds_toArray,List.set_cons_zero,List.set_cons_succ,List.getElem_toArray,List.getElem_cons_zero,List.getElem_cons_succ]
  refine wpAnyH_take (i:=7) (oi:=_) (v:=PtrB (c.R a)) rfl (by kernel_rfl) (by kernel_rfl) (by kernel_rfl) (fun _ _ _ h=>h) (Or.inl ⟨by rfl,by intro w hSw;have hS0:=hSw.1;have hS1:=hSw.2.1;have hS2:=hSw.2.2.1;have hS3:=hSw.2.2.2.1;have hS4:=hSw.2.2.2.2;clear hSw;go_simp⟩) (by assumption) ?_
  try simp only [Act.put,List.setIfInBounds_toArray,List.set_cons_zero,List.set_cons_succ,List.getElem_toArray,List.getElem_cons_zero,List.getElem_cons_succ]
  refine wpAnyH_take (i:=8) (oi:=_) (v:=.pointer (some ⟨c.R a,3,none⟩)) rfl (by kernel_rfl) (by kernel_rfl) (by kernel_rfl) (fun _ _ _ h=>h) (Or.inl ⟨by rfl,by intro w hSw;have hS0:=hSw.1;have hS1:=hSw.2.1;have hS2:=hSw.2.2.1;have hS3:=hSw.2.2.2.1;have hS4:=hSw.2.2.2.2;clear hSw;go_simp⟩) (by assumption) ?_
  try simp only [Act.put,List.setIfInBounds_toArray,List.set_cons_zero,List.set_cons_succ,List.getElem_toArray,List.getElem_cons_zero,List.getElem_cons_succ]
  refine wpAnyH_take (i:=9) (oi:=_) (v:=.bool en) rfl (by kernel_rfl) (by kernel_rfl) (by kernel_rfl) (fun _ _ _ h=>h) (Or.inl ⟨by rfl,by intro w hSw;have hS0:=hSw.1;have hS1:=hSw.2.1;have hS2:=hSw.2.2.1;have hS3:=hSw.2.2.2.1;have hS4:=hSw.2.2.2.2;clear hSw;go_simp⟩) (by assumption) ?_
  try simp only [Act.put,List.setIfInBounds_toArray,List.set_cons_zero,List.set_cons_succ,List.getElem_toArray,List.getElem_cons_zero,List.getElem_cons_succ]
  refine wpAnyH_take (i:=10) (oi:=_) (v:=.bool en) rfl (by kernel_rfl) (by kernel_rfl) (by kernel_rfl) (fun _ _ _ h=>h) (Or.inl ⟨by rfl,by intro w hSw;have hS0:=hSw.1;have hS1:=hSw.2.1;have hS2:=hSw.2.2.1;have hS3:=hSw.2.2.2.1;have hS4:=hSw.2.2.2.2;clear hSw;go_simp⟩) (by assumption) ?_
  try simp only [Act.put,List.setIfInBounds_toArray,List.set_cons_zero,List.set_cons_succ,List.getElem_toArray,List.getElem_cons_zero,List.getElem_cons_succ]
  refine wpAnyH_take (i:=11) (oi:=_) (v:=.func (.func 189) #[] #[PtrB S,PtrB (S+1),PtrB (S+1+1),PtrB (S+1+1+1)]) rfl (by kernel_rfl) (by kernel_rfl) (by kernel_rfl) (fun _ _ _ h=>h) (Or.inl ⟨by rfl,by intro w hSw;have hS0:=hSw.1;have hS1:=hSw.2.1;have hS2:=hSw.2.2.1;have hS3:=hSw.2.2.2.1;have hS4:=hSw.2.2.2.2;clear hSw;go_simp⟩) (by assumption) ?_
  try simp only [Act.put,List.setIfInBounds_toArray,List.set_cons_zero,List.set_cons_succ,List.getElem_toArray,List.getElem_cons_zero,List.getElem_cons_succ]
  refine wpAnyH_take (i:=14) (oi:=_) (v:=.int .i64 m) rfl (by kernel_rfl) (by kernel_rfl) (by kernel_rfl) (fun _ _ _ h=>h) (Or.inl ⟨by rfl,by intro w hSw;have hS0:=hSw.1;have hS1:=hSw.2.1;have hS2:=hSw.2.2.1;have hS3:=hSw.2.2.2.1;have hS4:=hSw.2.2.2.2;clear hSw;go_simp⟩) (by assumption) ?_
  try simp only [Act.put,List.setIfInBounds_toArray,List.set_cons_zero,List.set_cons_succ,List.getElem_toArray,List.getElem_cons_zero,List.getElem_cons_succ]
  refine wpAnyH_take (i:=15) (oi:=_) (v:=.int .i64 n) rfl (by kernel_rfl) (by kernel_rfl) (by kernel_rfl) (fun _ _ _ h=>h) (Or.inl ⟨by rfl,by intro w hSw;have hS0:=hSw.1;have hS1:=hSw.2.1;have hS2:=hSw.2.2.1;have hS3:=hSw.2.2.2.1;have hS4:=hSw.2.2.2.2;clear hSw;go_simp⟩) (by assumption) ?_
  try simp only [Act.put,List.setIfInBounds_toArray,List.set_cons_zero,List.set_cons_succ,List.getElem_toArray,List.getElem_cons_zero,List.getElem_cons_succ]
  refine wpAnyH_ready (rs:=[2,16]) (by kernel_rfl) (by simp) ?_
  refine AllReadyH.cons (o:=_) rfl (fun Kc hK=>?_) ?_
  · go_simp
    refine hK.out _ _ (HH.out _ (fun k hk=>Below.heap_alloc _ _ _ hk)) (fun hHeld=>?_)
    clear hK Kc
    try simp only [Act.put,List.setIfInBounds_toArray,List.set_cons_zero,List.set_cons_succ]
    refine wpAnyH_take (i:=12) (oi:=_) (v:=.agg #[.int .i64 0,.int .i64 5,.slice (some ⟨S+4,0,none⟩) 1 1,.bool en,.func (.func 189) #[] #[PtrB S,PtrB (S+1),PtrB (S+1+1),PtrB (S+1+1+1)]]) rfl (by kernel_rfl) (by kernel_rfl) (by kernel_rfl) (fun _ _ _ h=>h) (Or.inl ⟨by rfl,by intro w hSw;have hS0:=hSw.1;have hS1:=hSw.2.1;have hS2:=hSw.2.2.1;have hS3:=hSw.2.2.2.1;have hS4:=hSw.2.2.2.2;clear hSw;go_simp⟩) (by assumption) ?_
    try simp only [Act.put,List.setIfInBounds_toArray,List.set_cons_zero,List.set_cons_succ,List.getElem_toArray,List.getElem_cons_zero,List.getElem_cons_succ]
    refine wpAnyH_ready (rs:=[13,16]) (by kernel_rfl) (by simp) ?_
    refine AllReadyH.cons (o:=_) rfl (fun Kc hK=>?_) ?_
    · go_simp
      refine hK.out _ _ (HH.out _ (fun k hk=>(Below.heap_alloc _ _ _ (by simp;omega)).trans (Below.heap_alloc _ _ _ hk))) (fun hHeld=>?_)
      clear hK Kc
      try simp only [Act.put,List.setIfInBounds_toArray,List.set_cons_zero,List.set_cons_succ]
      refine wpAnyH_ready (rs:=[16]) (by kernel_rfl) (by simp) ?_
      refine AllReadyH.cons (o:=_) rfl (fun Kc hK=>?_) ?_
      · go_simp
        refine hK.out _ _ (HH.out _ (fun k hk=>((Below.heap_alloc _ _ _ (by simp;omega)).trans (Below.heap_alloc _ _ _ (by simp;omega))).trans (Below.heap_alloc _ _ _ hk))) (fun hHeld=>?_)
        clear hK Kc
        try simp only [Act.put,List.setIfInBounds_toArray,List.set_cons_zero,List.set_cons_succ]
        refine wpAnyH_ready (rs:=[17]) (by kernel_rfl) (by simp) ?_
        refine AllReadyH.cons (o:=_) rfl (fun Kc hK=>?_) ?_
        · go_simp
          refine (HC.out _ _ _ _ (below3 _ _ _ _) (b3_2 hs0 _ _) (b3_1 hs0 _ _) (b3_3 hs0 _ _) (by omega) (by omega) (by omega) (by omega)).mono ?_
          intro r w5 h5
          have HG5:=hide (h5.at (L:=manyL (lg c.T a) m n) (Z:=manyM (sz c.T a)) HB0.out (fun b hb=>by simp [RE.parts] at hb;subst hb;exact ha) rfl (Me.refl _))
          obtain ⟨c',j,rfl,hI',hG,hT',hL'⟩:=h5
          have hh5:=HH5.out w5 c' hG
          clear hI' hG hT' hL'
          go_wp2_with fail
          refine hK.out _ _ hh5 (fun hHeld=>?_)
          clear hK Kc
          try simp only [Act.put,List.setIfInBounds_toArray,List.set_cons_zero,List.set_cons_succ]
          refine wpAnyH_take (i:=18) (oi:=_) (v:=PtrB (c'.R j)) rfl (by kernel_rfl) (by kernel_rfl) (by kernel_rfl) (fun _ _ _ h=>h) (Or.inl ⟨by rfl,by intro w hSw;have hS0:=hSw.1;have hS1:=hSw.2.1;have hS2:=hSw.2.2.1;have hS3:=hSw.2.2.2.1;have hS4:=hSw.2.2.2.2;clear hSw;go_simp⟩) (by assumption) ?_
          try simp only [Act.put,List.setIfInBounds_toArray,List.set_cons_zero,List.set_cons_succ,List.getElem_toArray,List.getElem_cons_zero,List.getElem_cons_succ]
          refine wpAnyH_done (by kernel_rfl) ?_ _
          go_wp2_with fail
          go_ret
          exact HG5.out
        · exact AllReadyH.nil
      · exact AllReadyH.nil
    refine AllReadyH.cons (o:=_) rfl (fun Kc hK=>?_) ?_
    · go_simp
      refine hK.out _ _ (HH.out _ (fun k hk=>(Below.heap_alloc _ _ _ (by simp;omega)).trans (Below.heap_alloc _ _ _ hk))) (fun hHeld=>?_)
      clear hK Kc
      try simp only [Act.put,List.setIfInBounds_toArray,List.set_cons_zero,List.set_cons_succ]
      refine wpAnyH_ready (rs:=[13]) (by kernel_rfl) (by simp) ?_
      refine AllReadyH.cons (o:=_) rfl (fun Kc hK=>?_) ?_
      · go_simp
        refine hK.out _ _ (HH.out _ (fun k hk=>((Below.heap_alloc _ _ _ (by simp;omega)).trans (Below.heap_alloc _ _ _ (by simp;omega))).trans (Below.heap_alloc _ _ _ hk))) (fun hHeld=>?_)
        clear hK Kc
        try simp only [Act.put,List.setIfInBounds_toArray,List.set_cons_zero,List.set_cons_succ]
        refine wpAnyH_ready (rs:=[17]) (by kernel_rfl) (by simp) ?_
        refine AllReadyH.cons (o:=_) rfl (fun Kc hK=>?_) ?_
        · go_simp
          refine (HC.out _ _ _ _ (below3 _ _ _ _) (b3_3 hs0 _ _) (b3_1 hs0 _ _) (b3_2 hs0 _ _) (by omega) (by omega) (by omega) (by omega)).mono ?_
          intro r w5 h5
          have HG5:=hide (h5.at (L:=manyL (lg c.T a) m n) (Z:=manyM (sz c.T a)) HB0.out (fun b hb=>by simp [RE.parts] at hb;subst hb;exact ha) rfl (Me.refl _))
          obtain ⟨c',j,rfl,hI',hG,hT',hL'⟩:=h5
          have hh5:=HH5.out w5 c' hG
          clear hI' hG hT' hL'
          go_wp2_with fail
          refine hK.out _ _ hh5 (fun hHeld=>?_)
          clear hK Kc
          try simp only [Act.put,List.setIfInBounds_toArray,List.set_cons_zero,List.set_cons_succ]
          refine wpAnyH_take (i:=18) (oi:=_) (v:=PtrB (c'.R j)) rfl (by kernel_rfl) (by kernel_rfl) (by kernel_rfl) (fun _ _ _ h=>h) (Or.inl ⟨by rfl,by intro w hSw;have hS0:=hSw.1;have hS1:=hSw.2.1;have hS2:=hSw.2.2.1;have hS3:=hSw.2.2.2.1;have hS4:=hSw.2.2.2.2;clear hSw;go_simp⟩) (by assumption) ?_
          try simp only [Act.put,List.setIfInBounds_toArray,List.set_cons_zero,List.set_cons_succ,List.getElem_toArray,List.getElem_cons_zero,List.getElem_cons_succ]
          refine wpAnyH_done (by kernel_rfl) ?_ _
          go_wp2_with fail
          go_ret
          exact HG5.out
        · exact AllReadyH.nil
      · exact AllReadyH.nil
    · exact AllReadyH.nil
  refine AllReadyH.cons (o:=_) rfl (fun Kc hK=>?_) ?_
  · go_simp
    refine hK.out _ _ (HH.out _ (fun k hk=>Below.heap_alloc _ _ _ hk)) (fun hHeld=>?_)
    clear hK Kc
    try simp only [Act.put,List.setIfInBounds_toArray,List.set_cons_zero,List.set_cons_succ]
    refine wpAnyH_ready (rs:=[2]) (by kernel_rfl) (by simp) ?_
    refine AllReadyH.cons (o:=_) rfl (fun Kc hK=>?_) ?_
    · go_simp
      refine hK.out _ _ (HH.out _ (fun k hk=>(Below.heap_alloc _ _ _ (by simp;omega)).trans (Below.heap_alloc _ _ _ hk))) (fun hHeld=>?_)
      clear hK Kc
      try simp only [Act.put,List.setIfInBounds_toArray,List.set_cons_zero,List.set_cons_succ]
      refine wpAnyH_take (i:=12) (oi:=_) (v:=.agg #[.int .i64 0,.int .i64 5,.slice (some ⟨S+4+1,0,none⟩) 1 1,.bool en,.func (.func 189) #[] #[PtrB S,PtrB (S+1),PtrB (S+1+1),PtrB (S+1+1+1)]]) rfl (by kernel_rfl) (by kernel_rfl) (by kernel_rfl) (fun _ _ _ h=>h) (Or.inl ⟨by rfl,by intro w hSw;have hS0:=hSw.1;have hS1:=hSw.2.1;have hS2:=hSw.2.2.1;have hS3:=hSw.2.2.2.1;have hS4:=hSw.2.2.2.2;clear hSw;go_simp⟩) (by assumption) ?_
      try simp only [Act.put,List.setIfInBounds_toArray,List.set_cons_zero,List.set_cons_succ,List.getElem_toArray,List.getElem_cons_zero,List.getElem_cons_succ]
      refine wpAnyH_ready (rs:=[13]) (by kernel_rfl) (by simp) ?_
      refine AllReadyH.cons (o:=_) rfl (fun Kc hK=>?_) ?_
      · go_simp
        refine hK.out _ _ (HH.out _ (fun k hk=>((Below.heap_alloc _ _ _ (by simp;omega)).trans (Below.heap_alloc _ _ _ (by simp;omega))).trans (Below.heap_alloc _ _ _ hk))) (fun hHeld=>?_)
        clear hK Kc
        try simp only [Act.put,List.setIfInBounds_toArray,List.set_cons_zero,List.set_cons_succ]
        refine wpAnyH_ready (rs:=[17]) (by kernel_rfl) (by simp) ?_
        refine AllReadyH.cons (o:=_) rfl (fun Kc hK=>?_) ?_
        · go_simp
          refine (HC.out _ _ _ _ (below3 _ _ _ _) (b3_3 hs0 _ _) (b3_2 hs0 _ _) (b3_1 hs0 _ _) (by omega) (by omega) (by omega) (by omega)).mono ?_
          intro r w5 h5
          have HG5:=hide (h5.at (L:=manyL (lg c.T a) m n) (Z:=manyM (sz c.T a)) HB0.out (fun b hb=>by simp [RE.parts] at hb;subst hb;exact ha) rfl (Me.refl _))
          obtain ⟨c',j,rfl,hI',hG,hT',hL'⟩:=h5
          have hh5:=HH5.out w5 c' hG
          clear hI' hG hT' hL'
          go_wp2_with fail
          refine hK.out _ _ hh5 (fun hHeld=>?_)
          clear hK Kc
          try simp only [Act.put,List.setIfInBounds_toArray,List.set_cons_zero,List.set_cons_succ]
          refine wpAnyH_take (i:=18) (oi:=_) (v:=PtrB (c'.R j)) rfl (by kernel_rfl) (by kernel_rfl) (by kernel_rfl) (fun _ _ _ h=>h) (Or.inl ⟨by rfl,by intro w hSw;have hS0:=hSw.1;have hS1:=hSw.2.1;have hS2:=hSw.2.2.1;have hS3:=hSw.2.2.2.1;have hS4:=hSw.2.2.2.2;clear hSw;go_simp⟩) (by assumption) ?_
          try simp only [Act.put,List.setIfInBounds_toArray,List.set_cons_zero,List.set_cons_succ,List.getElem_toArray,List.getElem_cons_zero,List.getElem_cons_succ]
          refine wpAnyH_done (by kernel_rfl) ?_ _
          go_wp2_with fail
          go_ret
          exact HG5.out
        · exact AllReadyH.nil
      · exact AllReadyH.nil
    · exact AllReadyH.nil
  · exact AllReadyH.nil
end Go.Proofs.YtpoibdhhcbelnaaGreatDoor
namespace Go.Proofs.YtpoibdhhcbelnaaGreatDoor
open Go.Shelf Go.RowKit Go.Lib Brm
theorem MkI.sz_one {w:World}{c:MC}{q i:Nat}(h:MkI w c q)(hi:i<c.T.length):oneM<=sz c.T i:=Go.Proofs.YtpoibdhhcbelnaaGreatDoor.sz_one (fun i e hi=>(h.wf i e hi).2) i hi
theorem MkI.none {w:World}{c:MC}{q:Nat}(h:MkI w c q):lg c.T 0=noneL:=by
  rw [h.lang h.t0];funext u;simp [RE.lang,noneL]
theorem MkI.emp {w:World}{c:MC}{q:Nat}(h:MkI w c q):lg c.T 1=emptyL:=by
  rw [h.lang h.t1];rfl
theorem MkI.sz0 {w:World}{c:MC}{q:Nat}(h:MkI w c q):sz c.T 0=oneM:=by
  rw [sz_at h.t0 (h.wf 0 _ h.t0).2];rfl
theorem MkI.sz1 {w:World}{c:MC}{q:Nat}(h:MkI w c q):sz c.T 1=oneM:=by
  rw [sz_at h.t1 (h.wf 1 _ h.t1).2];rfl
set_option maxRecDepth 100000 in
set_option maxHeartbeats 4000000 in
theorem pair_a0s {w:World}{c:MC}{q a b:Nat}(hI:MkI w c q)(ha:a<c.T.length)(hb:b<c.T.length)(h:a=0):Calls Tryz.prog 187 #[PtrB c.m,PtrB (c.R a),PtrB (c.R b)] w (GivesL w c q (pairL (lg c.T a) (lg c.T b)) oneM):=by
  obtain ⟨ea,hea⟩:∃ e,c.T[a]?=some e:=⟨_,List.getElem?_eq_getElem ha⟩
  obtain ⟨eb,heb⟩:∃ e,c.T[b]?=some e:=⟨_,List.getElem?_eq_getElem hb⟩
  obtain ⟨paa,pca,ena,fva,hRa,hena,hpaa,hnSa⟩:=hI.look hea
  obtain ⟨pab,pcb,enb,fvb,hRb,henb,hpab,hnSb⟩:=hI.look heb
  obtain ⟨pa0,pc0,en0,fv0,hR0,_⟩:=hI.look hI.t0
  obtain ⟨pa1,pc1,en1,fv1,hR1,_⟩:=hI.look hI.t1
  have h0l:0<c.T.length:=(List.getElem?_eq_some_iff.1 hI.t0).1
  have h1l:1<c.T.length:=(List.getElem?_eq_some_iff.1 hI.t1).1
  obtain ⟨W0,hW0⟩:∃ W0,((w.alloc (.cells #[PtrB c.m] 151)).alloc (.cells #[PtrB (c.R a)] 159)).alloc (.cells #[PtrB (c.R b)] 159)=W0:=⟨_,rfl⟩
  have hB0:Below w.heap.size w W0:=by rw [<- hW0];exact (((Below.refl _ _).alloc (Nat.le_refl _) _).alloc (by simp) _).alloc (by simp;omega) _
  have hb1:Blk W0 w.heap.size [PtrB c.m] 151:=by rw [<- hW0];exact ((Blk.new w [PtrB c.m] 151).alloc _).alloc _
  have hb2:Blk W0 (w.heap.size+1) [PtrB (c.R a)] 159:=by rw [<- hW0];have:=(Blk.new (w.alloc (.cells #[PtrB c.m] 151)) [PtrB (c.R a)] 159).alloc (.cells #[PtrB (c.R b)] 159);simpa using this
  have hb3:Blk W0 (w.heap.size+2) [PtrB (c.R b)] 159:=by rw [<- hW0];have:=Blk.new ((w.alloc (.cells #[PtrB c.m] 151)).alloc (.cells #[PtrB (c.R a)] 159)) [PtrB (c.R b)] 159;simpa using this
  have c1:W0.cell? ⟨w.heap.size,0,none⟩=some (PtrB c.m):=hb1.cell 0
  have c2:W0.cell? ⟨w.heap.size+1,0,none⟩=some (PtrB (c.R a)):=hb2.cell 0
  have c3:W0.cell? ⟨w.heap.size+2,0,none⟩=some (PtrB (c.R b)):=hb3.cell 0
  have hm:=hI.mb.below hB0
  have c4:W0.cell? ⟨c.m,1,none⟩=some (PtrB (c.R 0)):=hm.cell 1
  have c5:W0.cell? ⟨c.m,2,none⟩=some (PtrB (c.R 1)):=hm.cell 2
  have hml:=hm.lt
  have HW0:=hide hW0
  have HB0:=hide hB0
  have HI:=hide hI
  have hRa0:=Blk.below hRa hB0
  have hRb0:=Blk.below hRb hB0
  have hR00:=Blk.below hR0 hB0
  have hR10:=Blk.below hR1 hB0
  subst h
  have q0:=ptr_same (c.R 0)
  have HL:Hid (lg c.T 0=pairL (lg c.T 0) (lg c.T b)):=by show _=_;rw [hI.none,pair_none]
  clear hI hRa hRb hR0 hR1 hRa0 hRb0 hR00 hR10 hB0 hb1 hb2 hb3 hm hW0 hpaa hpab hena henb hnSa hnSb
  go_enter Tryz.func187,Tryz.ntmps187
  go_wp2_with fail
  rw [HW0.out]
  generalize hS:w.heap.size=S at *
  go_quiet (fail)
  go_wp2_with fail
  go_ret
  subst hS
  have hbb:∀ W',(W'.heap=W0.heap/\W'.os=W0.os/\W'.tape=W0.tape/\W'.output=W0.output)->GivesL w c q (pairL (lg c.T 0) (lg c.T b)) oneM (.returned (PtrB (c.R 0))) W':=fun W' hW'=>by
    have hbl:Below w.heap.size w W':=⟨hW'.2.1.trans HB0.out.os,hW'.2.2.1.trans HB0.out.tape,hW'.2.2.2.trans HB0.out.output,by rw [hW'.1];exact HB0.out.size,fun k hk=>by rw [hW'.1];exact HB0.out.block k hk⟩
    exact ⟨c,0,rfl,HI.out.below hbl,Gone.below hbl,h0l,HL.out,by rw [HI.out.sz0];exact Me.refl _⟩
  exact hbb _ ⟨rfl,rfl,rfl,rfl⟩
theorem pair_a0 {w:World}{c:MC}{q a b:Nat}(hI:MkI w c q)(ha:a<c.T.length)(hb:b<c.T.length)(h:a=0):Calls Tryz.prog 187 #[PtrB c.m,PtrB (c.R a),PtrB (c.R b)] w (GivesL w c q (pairL (lg c.T a) (lg c.T b)) (pairM (sz c.T a) (sz c.T b))):=by
  refine (pair_a0s hI ha hb h).mono ?_
  rintro r9 w9 ⟨c9,j9,e9,g1,g2,g3,g4,g5⟩
  refine ⟨c9,j9,e9,g1,g2,g3,g4,Me.trans g5 ?_⟩
  have o1:=hI.sz_one ha
  have o2:=hI.sz_one hb
  refine ⟨?_,?_,?_,?_⟩<;>simp only [pairM,oneM,Me.le_def] at *<;>omega
set_option maxRecDepth 100000 in
set_option maxHeartbeats 4000000 in
theorem pair_b0 {w:World}{c:MC}{q a b:Nat}(hI:MkI w c q)(ha:a<c.T.length)(hb:b<c.T.length)(h0:a≠0)(h:b=0):Calls Tryz.prog 187 #[PtrB c.m,PtrB (c.R a),PtrB (c.R b)] w (GivesL w c q (pairL (lg c.T a) (lg c.T b)) (pairM (sz c.T a) (sz c.T b))):=by
  obtain ⟨ea,hea⟩:∃ e,c.T[a]?=some e:=⟨_,List.getElem?_eq_getElem ha⟩
  obtain ⟨eb,heb⟩:∃ e,c.T[b]?=some e:=⟨_,List.getElem?_eq_getElem hb⟩
  obtain ⟨paa,pca,ena,fva,hRa,hena,hpaa,hnSa⟩:=hI.look hea
  obtain ⟨pab,pcb,enb,fvb,hRb,henb,hpab,hnSb⟩:=hI.look heb
  obtain ⟨pa0,pc0,en0,fv0,hR0,_⟩:=hI.look hI.t0
  obtain ⟨pa1,pc1,en1,fv1,hR1,_⟩:=hI.look hI.t1
  have h0l:0<c.T.length:=(List.getElem?_eq_some_iff.1 hI.t0).1
  have h1l:1<c.T.length:=(List.getElem?_eq_some_iff.1 hI.t1).1
  obtain ⟨W0,hW0⟩:∃ W0,((w.alloc (.cells #[PtrB c.m] 151)).alloc (.cells #[PtrB (c.R a)] 159)).alloc (.cells #[PtrB (c.R b)] 159)=W0:=⟨_,rfl⟩
  have hB0:Below w.heap.size w W0:=by rw [<- hW0];exact (((Below.refl _ _).alloc (Nat.le_refl _) _).alloc (by simp) _).alloc (by simp;omega) _
  have hb1:Blk W0 w.heap.size [PtrB c.m] 151:=by rw [<- hW0];exact ((Blk.new w [PtrB c.m] 151).alloc _).alloc _
  have hb2:Blk W0 (w.heap.size+1) [PtrB (c.R a)] 159:=by rw [<- hW0];have:=(Blk.new (w.alloc (.cells #[PtrB c.m] 151)) [PtrB (c.R a)] 159).alloc (.cells #[PtrB (c.R b)] 159);simpa using this
  have hb3:Blk W0 (w.heap.size+2) [PtrB (c.R b)] 159:=by rw [<- hW0];have:=Blk.new ((w.alloc (.cells #[PtrB c.m] 151)).alloc (.cells #[PtrB (c.R a)] 159)) [PtrB (c.R b)] 159;simpa using this
  have c1:W0.cell? ⟨w.heap.size,0,none⟩=some (PtrB c.m):=hb1.cell 0
  have c2:W0.cell? ⟨w.heap.size+1,0,none⟩=some (PtrB (c.R a)):=hb2.cell 0
  have c3:W0.cell? ⟨w.heap.size+2,0,none⟩=some (PtrB (c.R b)):=hb3.cell 0
  have hm:=hI.mb.below hB0
  have c4:W0.cell? ⟨c.m,1,none⟩=some (PtrB (c.R 0)):=hm.cell 1
  have c5:W0.cell? ⟨c.m,2,none⟩=some (PtrB (c.R 1)):=hm.cell 2
  have hml:=hm.lt
  have HW0:=hide hW0
  have HB0:=hide hB0
  have HI:=hide hI
  have hRa0:=Blk.below hRa hB0
  have hRb0:=Blk.below hRb hB0
  have hR00:=Blk.below hR0 hB0
  have hR10:=Blk.below hR1 hB0
  subst h
  have p0:c.R a≠c.R 0:=fun h=>h0 (hI.inj _ _ ha h0l h)
  have q0:=fun k=>ptr_other (hRa0.drewN k) (hR00.drewN k) p0
  have r0:=fun k l=>ptr_other ((hRa0.drewN k).drewN l) ((hR00.drewN k).drewN l) p0
  have s0:=fun k l j=>ptr_other (((hRa0.drewN k).drewN l).drewN j) (((hR00.drewN k).drewN l).drewN j) p0
  have q9:=ptr_same (c.R 0)
  have HL:Hid (lg c.T 0=pairL (lg c.T a) (lg c.T 0)):=by show _=_;rw [hI.none,none_pair]
  clear hI hRa hRb hR0 hR1 hRa0 hRb0 hR00 hR10 hB0 hb1 hb2 hb3 hm hW0 hpaa hpab hena henb hnSa hnSb
  go_enter Tryz.func187,Tryz.ntmps187
  go_wp2_with fail
  rw [HW0.out]
  generalize hS:w.heap.size=S at *
  go_quiet (fail)
  go_wp2_with fail
  go_ret
  subst hS
  have hbb:∀ W',(W'.heap=W0.heap/\W'.os=W0.os/\W'.tape=W0.tape/\W'.output=W0.output)->GivesL w c q (pairL (lg c.T a) (lg c.T 0)) (pairM (sz c.T a) (sz c.T 0)) (.returned (PtrB (c.R 0))) W':=fun W' hW'=>by
    have hbl:Below w.heap.size w W':=⟨hW'.2.1.trans HB0.out.os,hW'.2.2.1.trans HB0.out.tape,hW'.2.2.2.trans HB0.out.output,by rw [hW'.1];exact HB0.out.size,fun k hk=>by rw [hW'.1];exact HB0.out.block k hk⟩
    exact ⟨c,0,rfl,HI.out.below hbl,Gone.below hbl,h0l,HL.out,by rw [HI.out.sz0];have h:=HI.out.sz_one ha;refine ⟨?_,?_,?_,?_⟩<;>simp only [pairM,oneM,Me.le_def] at *<;>omega⟩
  exact hbb _ ⟨rfl,rfl,rfl,rfl⟩
set_option maxRecDepth 100000 in
set_option maxHeartbeats 4000000 in
theorem pair_a1s {w:World}{c:MC}{q a b:Nat}(hI:MkI w c q)(ha:a<c.T.length)(hb:b<c.T.length)(h0:a≠0)(g0:b≠0)(h:a=1):Calls Tryz.prog 187 #[PtrB c.m,PtrB (c.R a),PtrB (c.R b)] w (GivesL w c q (pairL (lg c.T a) (lg c.T b)) (sz c.T b)):=by
  obtain ⟨ea,hea⟩:∃ e,c.T[a]?=some e:=⟨_,List.getElem?_eq_getElem ha⟩
  obtain ⟨eb,heb⟩:∃ e,c.T[b]?=some e:=⟨_,List.getElem?_eq_getElem hb⟩
  obtain ⟨paa,pca,ena,fva,hRa,hena,hpaa,hnSa⟩:=hI.look hea
  obtain ⟨pab,pcb,enb,fvb,hRb,henb,hpab,hnSb⟩:=hI.look heb
  obtain ⟨pa0,pc0,en0,fv0,hR0,_⟩:=hI.look hI.t0
  obtain ⟨pa1,pc1,en1,fv1,hR1,_⟩:=hI.look hI.t1
  have h0l:0<c.T.length:=(List.getElem?_eq_some_iff.1 hI.t0).1
  have h1l:1<c.T.length:=(List.getElem?_eq_some_iff.1 hI.t1).1
  obtain ⟨W0,hW0⟩:∃ W0,((w.alloc (.cells #[PtrB c.m] 151)).alloc (.cells #[PtrB (c.R a)] 159)).alloc (.cells #[PtrB (c.R b)] 159)=W0:=⟨_,rfl⟩
  have hB0:Below w.heap.size w W0:=by rw [<- hW0];exact (((Below.refl _ _).alloc (Nat.le_refl _) _).alloc (by simp) _).alloc (by simp;omega) _
  have hb1:Blk W0 w.heap.size [PtrB c.m] 151:=by rw [<- hW0];exact ((Blk.new w [PtrB c.m] 151).alloc _).alloc _
  have hb2:Blk W0 (w.heap.size+1) [PtrB (c.R a)] 159:=by rw [<- hW0];have:=(Blk.new (w.alloc (.cells #[PtrB c.m] 151)) [PtrB (c.R a)] 159).alloc (.cells #[PtrB (c.R b)] 159);simpa using this
  have hb3:Blk W0 (w.heap.size+2) [PtrB (c.R b)] 159:=by rw [<- hW0];have:=Blk.new ((w.alloc (.cells #[PtrB c.m] 151)).alloc (.cells #[PtrB (c.R a)] 159)) [PtrB (c.R b)] 159;simpa using this
  have c1:W0.cell? ⟨w.heap.size,0,none⟩=some (PtrB c.m):=hb1.cell 0
  have c2:W0.cell? ⟨w.heap.size+1,0,none⟩=some (PtrB (c.R a)):=hb2.cell 0
  have c3:W0.cell? ⟨w.heap.size+2,0,none⟩=some (PtrB (c.R b)):=hb3.cell 0
  have hm:=hI.mb.below hB0
  have c4:W0.cell? ⟨c.m,1,none⟩=some (PtrB (c.R 0)):=hm.cell 1
  have c5:W0.cell? ⟨c.m,2,none⟩=some (PtrB (c.R 1)):=hm.cell 2
  have hml:=hm.lt
  have HW0:=hide hW0
  have HB0:=hide hB0
  have HI:=hide hI
  have hRa0:=Blk.below hRa hB0
  have hRb0:=Blk.below hRb hB0
  have hR00:=Blk.below hR0 hB0
  have hR10:=Blk.below hR1 hB0
  subst h
  have p0:c.R 1≠c.R 0:=fun h=>h0 (hI.inj _ _ ha h0l h)
  have q0:=fun k=>ptr_other (hRa0.drewN k) (hR00.drewN k) p0
  have r0:=fun k l=>ptr_other ((hRa0.drewN k).drewN l) ((hR00.drewN k).drewN l) p0
  have s0:=fun k l j=>ptr_other (((hRa0.drewN k).drewN l).drewN j) (((hR00.drewN k).drewN l).drewN j) p0
  have p1:c.R b≠c.R 0:=fun h=>g0 (hI.inj _ _ hb h0l h)
  have q1:=fun k=>ptr_other (hRb0.drewN k) (hR00.drewN k) p1
  have r1:=fun k l=>ptr_other ((hRb0.drewN k).drewN l) ((hR00.drewN k).drewN l) p1
  have s1:=fun k l j=>ptr_other (((hRb0.drewN k).drewN l).drewN j) (((hR00.drewN k).drewN l).drewN j) p1
  have q9:=ptr_same (c.R 1)
  have HL:Hid (lg c.T b=pairL (lg c.T 1) (lg c.T b)):=by show _=_;rw [hI.emp,pair_empty]
  clear hI hRa hRb hR0 hR1 hRa0 hRb0 hR00 hR10 hB0 hb1 hb2 hb3 hm hW0 hpaa hpab hena henb hnSa hnSb
  go_enter Tryz.func187,Tryz.ntmps187
  go_wp2_with fail
  rw [HW0.out]
  generalize hS:w.heap.size=S at *
  go_quiet (fail)
  go_wp2_with fail
  go_quiet (fail)
  go_wp2_with fail
  go_ret
  subst hS
  have hbb:∀ W',(W'.heap=W0.heap/\W'.os=W0.os/\W'.tape=W0.tape/\W'.output=W0.output)->GivesL w c q (pairL (lg c.T 1) (lg c.T b)) (sz c.T b) (.returned (PtrB (c.R b))) W':=fun W' hW'=>by
    have hbl:Below w.heap.size w W':=⟨hW'.2.1.trans HB0.out.os,hW'.2.2.1.trans HB0.out.tape,hW'.2.2.2.trans HB0.out.output,by rw [hW'.1];exact HB0.out.size,fun k hk=>by rw [hW'.1];exact HB0.out.block k hk⟩
    exact ⟨c,b,rfl,HI.out.below hbl,Gone.below hbl,hb,HL.out,Me.refl _⟩
  exact hbb _ ⟨rfl,rfl,rfl,rfl⟩
theorem pair_a1 {w:World}{c:MC}{q a b:Nat}(hI:MkI w c q)(ha:a<c.T.length)(hb:b<c.T.length)(h0:a≠0)(g0:b≠0)(h:a=1):Calls Tryz.prog 187 #[PtrB c.m,PtrB (c.R a),PtrB (c.R b)] w (GivesL w c q (pairL (lg c.T a) (lg c.T b)) (pairM (sz c.T a) (sz c.T b))):=by
  refine (pair_a1s hI ha hb h0 g0 h).mono ?_
  rintro r9 w9 ⟨c9,j9,e9,g1,g2,g3,g4,g5⟩
  refine ⟨c9,j9,e9,g1,g2,g3,g4,Me.trans g5 ?_⟩
  have o1:=hI.sz_one ha
  have o2:=hI.sz_one hb
  refine ⟨?_,?_,?_,?_⟩<;>simp only [pairM,oneM,Me.le_def] at *<;>omega
set_option maxRecDepth 100000 in
set_option maxHeartbeats 4000000 in
theorem pair_b1s {w:World}{c:MC}{q a b:Nat}(hI:MkI w c q)(ha:a<c.T.length)(hb:b<c.T.length)(h0:a≠0)(g0:b≠0)(h1:a≠1)(h:b=1):Calls Tryz.prog 187 #[PtrB c.m,PtrB (c.R a),PtrB (c.R b)] w (GivesL w c q (pairL (lg c.T a) (lg c.T b)) (sz c.T a)):=by
  obtain ⟨ea,hea⟩:∃ e,c.T[a]?=some e:=⟨_,List.getElem?_eq_getElem ha⟩
  obtain ⟨eb,heb⟩:∃ e,c.T[b]?=some e:=⟨_,List.getElem?_eq_getElem hb⟩
  obtain ⟨paa,pca,ena,fva,hRa,hena,hpaa,hnSa⟩:=hI.look hea
  obtain ⟨pab,pcb,enb,fvb,hRb,henb,hpab,hnSb⟩:=hI.look heb
  obtain ⟨pa0,pc0,en0,fv0,hR0,_⟩:=hI.look hI.t0
  obtain ⟨pa1,pc1,en1,fv1,hR1,_⟩:=hI.look hI.t1
  have h0l:0<c.T.length:=(List.getElem?_eq_some_iff.1 hI.t0).1
  have h1l:1<c.T.length:=(List.getElem?_eq_some_iff.1 hI.t1).1
  obtain ⟨W0,hW0⟩:∃ W0,((w.alloc (.cells #[PtrB c.m] 151)).alloc (.cells #[PtrB (c.R a)] 159)).alloc (.cells #[PtrB (c.R b)] 159)=W0:=⟨_,rfl⟩
  have hB0:Below w.heap.size w W0:=by rw [<- hW0];exact (((Below.refl _ _).alloc (Nat.le_refl _) _).alloc (by simp) _).alloc (by simp;omega) _
  have hb1:Blk W0 w.heap.size [PtrB c.m] 151:=by rw [<- hW0];exact ((Blk.new w [PtrB c.m] 151).alloc _).alloc _
  have hb2:Blk W0 (w.heap.size+1) [PtrB (c.R a)] 159:=by rw [<- hW0];have:=(Blk.new (w.alloc (.cells #[PtrB c.m] 151)) [PtrB (c.R a)] 159).alloc (.cells #[PtrB (c.R b)] 159);simpa using this
  have hb3:Blk W0 (w.heap.size+2) [PtrB (c.R b)] 159:=by rw [<- hW0];have:=Blk.new ((w.alloc (.cells #[PtrB c.m] 151)).alloc (.cells #[PtrB (c.R a)] 159)) [PtrB (c.R b)] 159;simpa using this
  have c1:W0.cell? ⟨w.heap.size,0,none⟩=some (PtrB c.m):=hb1.cell 0
  have c2:W0.cell? ⟨w.heap.size+1,0,none⟩=some (PtrB (c.R a)):=hb2.cell 0
  have c3:W0.cell? ⟨w.heap.size+2,0,none⟩=some (PtrB (c.R b)):=hb3.cell 0
  have hm:=hI.mb.below hB0
  have c4:W0.cell? ⟨c.m,1,none⟩=some (PtrB (c.R 0)):=hm.cell 1
  have c5:W0.cell? ⟨c.m,2,none⟩=some (PtrB (c.R 1)):=hm.cell 2
  have hml:=hm.lt
  have HW0:=hide hW0
  have HB0:=hide hB0
  have HI:=hide hI
  have hRa0:=Blk.below hRa hB0
  have hRb0:=Blk.below hRb hB0
  have hR00:=Blk.below hR0 hB0
  have hR10:=Blk.below hR1 hB0
  subst h
  have p0:c.R a≠c.R 0:=fun h=>h0 (hI.inj _ _ ha h0l h)
  have q0:=fun k=>ptr_other (hRa0.drewN k) (hR00.drewN k) p0
  have r0:=fun k l=>ptr_other ((hRa0.drewN k).drewN l) ((hR00.drewN k).drewN l) p0
  have s0:=fun k l j=>ptr_other (((hRa0.drewN k).drewN l).drewN j) (((hR00.drewN k).drewN l).drewN j) p0
  have p1:c.R 1≠c.R 0:=fun h=>g0 (hI.inj _ _ hb h0l h)
  have q1:=fun k=>ptr_other (hRb0.drewN k) (hR00.drewN k) p1
  have r1:=fun k l=>ptr_other ((hRb0.drewN k).drewN l) ((hR00.drewN k).drewN l) p1
  have s1:=fun k l j=>ptr_other (((hRb0.drewN k).drewN l).drewN j) (((hR00.drewN k).drewN l).drewN j) p1
  have p2:c.R a≠c.R 1:=fun h=>h1 (hI.inj _ _ ha h1l h)
  have q2:=fun k=>ptr_other (hRa0.drewN k) (hR10.drewN k) p2
  have r2:=fun k l=>ptr_other ((hRa0.drewN k).drewN l) ((hR10.drewN k).drewN l) p2
  have s2:=fun k l j=>ptr_other (((hRa0.drewN k).drewN l).drewN j) (((hR10.drewN k).drewN l).drewN j) p2
  have q9:=ptr_same (c.R 1)
  have HL:Hid (lg c.T a=pairL (lg c.T a) (lg c.T 1)):=by show _=_;rw [hI.emp,empty_pair]
  clear hI hRa hRb hR0 hR1 hRa0 hRb0 hR00 hR10 hB0 hb1 hb2 hb3 hm hW0 hpaa hpab hena henb hnSa hnSb
  go_enter Tryz.func187,Tryz.ntmps187
  go_wp2_with fail
  rw [HW0.out]
  generalize hS:w.heap.size=S at *
  go_quiet (fail)
  go_wp2_with fail
  go_quiet (fail)
  go_wp2_with fail
  go_quiet (fail)
  go_wp2_with fail
  go_ret
  subst hS
  have hbb:∀ W',(W'.heap=W0.heap/\W'.os=W0.os/\W'.tape=W0.tape/\W'.output=W0.output)->GivesL w c q (pairL (lg c.T a) (lg c.T 1)) (sz c.T a) (.returned (PtrB (c.R a))) W':=fun W' hW'=>by
    have hbl:Below w.heap.size w W':=⟨hW'.2.1.trans HB0.out.os,hW'.2.2.1.trans HB0.out.tape,hW'.2.2.2.trans HB0.out.output,by rw [hW'.1];exact HB0.out.size,fun k hk=>by rw [hW'.1];exact HB0.out.block k hk⟩
    exact ⟨c,a,rfl,HI.out.below hbl,Gone.below hbl,ha,HL.out,Me.refl _⟩
  exact hbb _ ⟨rfl,rfl,rfl,rfl⟩
theorem pair_b1 {w:World}{c:MC}{q a b:Nat}(hI:MkI w c q)(ha:a<c.T.length)(hb:b<c.T.length)(h0:a≠0)(g0:b≠0)(h1:a≠1)(h:b=1):Calls Tryz.prog 187 #[PtrB c.m,PtrB (c.R a),PtrB (c.R b)] w (GivesL w c q (pairL (lg c.T a) (lg c.T b)) (pairM (sz c.T a) (sz c.T b))):=by
  refine (pair_b1s hI ha hb h0 g0 h1 h).mono ?_
  rintro r9 w9 ⟨c9,j9,e9,g1,g2,g3,g4,g5⟩
  refine ⟨c9,j9,e9,g1,g2,g3,g4,Me.trans g5 ?_⟩
  have o1:=hI.sz_one ha
  have o2:=hI.sz_one hb
  refine ⟨?_,?_,?_,?_⟩<;>simp only [pairM,oneM,Me.le_def] at *<;>omega
theorem pair_e {w:World}{c:MC}{q a:Nat}(hI:MkI w c q)(ha:a<c.T.length):Calls Tryz.prog 187 #[PtrB c.m,PtrB (c.R a),PtrB (c.R 1)] w (GivesL w c q (lg c.T a) (sz c.T a)):=by
  have h1:1<c.T.length:=(List.getElem?_eq_some_iff.1 hI.t1).1
  have e1:pairL (lg c.T a) (lg c.T 1)=lg c.T a:=by rw [hI.emp,empty_pair]
  rw [<- e1]
  by_cases h0:a=0
  · refine (pair_a0s (b:=1) hI ha h1 h0).mono ?_
    rintro r9 w9 ⟨c9,j9,e9,g1,g2,g3,g4,g5⟩
    exact ⟨c9,j9,e9,g1,g2,g3,g4,Me.trans g5 (hI.sz_one ha)⟩
  · by_cases h11:a=1
    · refine (pair_a1s (b:=1) hI ha h1 h0 (by decide) h11).mono ?_
      rintro r9 w9 ⟨c9,j9,e9,g1,g2,g3,g4,g5⟩
      exact ⟨c9,j9,e9,g1,g2,g3,g4,by rw [h11];exact g5⟩
    · exact pair_b1s (b:=1) hI ha h1 h0 (by decide) h11 rfl
end Go.Proofs.YtpoibdhhcbelnaaGreatDoor
namespace Go.Proofs.YtpoibdhhcbelnaaGreatDoor
open Go.Shelf Go.RowKit Go.Lib Brm
theorem b2n_1 {W:World}{N:Nat}(h:W.heap.size=N){cs:List Value}{T:TypeId}(o2:Obj):Blk ((W.alloc (.cells cs.toArray T)).alloc o2) N cs T:=b2_1 h o2
theorem b2n_2 {W:World}{N:Nat}(h:W.heap.size=N){cs:List Value}{T:TypeId}(o1:Obj):Blk ((W.alloc o1).alloc (.cells cs.toArray T)) (N+1) cs T:=b2_2 h o1
theorem below2n (W:World)(o1 o2:Obj):Below W.heap.size W ((W.alloc o1).alloc o2):=(((Below.refl _ W).alloc (Nat.le_refl _) _).alloc (by simp) _)
theorem pair_call {w W0 W:World}{c:MC}{q a b S:Nat}{en:Bool}(hI:MkI w c q)(hq:q<=9000000000000000000)(ha:a<c.T.length)(hb:b<c.T.length)(hen:en=true↔pairL (lg c.T a) (lg c.T b) [])(hB0:Below w.heap.size w W0)(hS:w.heap.size=S)(hs0:W0.heap.size=S+3)(hb1:Blk W0 S [PtrB c.m] 151)(hb2:Blk W0 (S+1) [PtrB (c.R a)] 159)(hb3:Blk W0 (S+1+1) [PtrB (c.R b)] 159)(hP:PowT W0)
    (hB:Below W0.heap.size W0 W) (hp:Blk W (S+3) [PtrB (c.R a),PtrB (c.R b)] 159) (hx:Blk W (S+3+1) [.int .i64 0,.int .i64 1,.slice (some ⟨S+3,0,none⟩) 2 2,.bool en,.func (.func 236) #[] #[PtrB S,PtrB (S+1),PtrB (S+1+1)]] 169) :
    Calls Tryz.prog 129 #[PtrB c.m,PtrB (S+3+1),.slice none 0 0] W (GivesE W0 c (q+1) (.pair a b)):=by
  have hn:∀ g,S<=g->g≠S+3+1->¬ (c.S g\/g=S+3+1):=fun g h1 h2 h3=>by
    rcases h3 with h3 | h3
    · have:=hI.S_lt h3;omega
    · exact h2 h3
  exact mk_keep (e:=.pair a b) (hI.below hB0) hB (hP.below hB) trivial (fun x hx=>by simp [RE.parts] at hx;rcases hx with rfl | rfl;exact ha;exact hb) (by omega) hx hen
    (fun j p hj=>by
      match j,hj with
      | 0,hj=>simp [RE.parts] at hj;subst hj;exact ⟨S+3,0,rfl,hp.lt,hn _ (by omega) (by omega),hp.cell 0⟩
      | 1,hj=>simp [RE.parts] at hj;subst hj;exact ⟨S+3,0,rfl,hp.lt,hn _ (by omega) (by omega),hp.cell 1⟩)
    ⟨S,S+1,S+1+1,rfl,rfl,hn _ (by omega) (by omega),hn _ (by omega) (by omega),hn _ (by omega) (by omega),hb1.below hB,hb2.below hB,hb3.below hB⟩ (IntsW.nil _ _) (by simp [RE.args]) (by simp [RE.parts]) hq
set_option maxRecDepth 100000 in
set_option maxHeartbeats 8000000 in
theorem pair_keep1 {w:World}{c:MC}{q a b:Nat}(hI:MkI w c q)(hq:q<=9000000000000000000)(ha:a<c.T.length)(hb:b<c.T.length)(hP:PowT w)(h0:a≠0)(g0:b≠0)(h1:a≠1)(g1:b≠1)(hkd:∀ e,c.T[a]?=some e->e.kd≠1)(hEN:lg c.T a []):Calls Tryz.prog 187 #[PtrB c.m,PtrB (c.R a),PtrB (c.R b)] w (GivesL w c (q+1) (pairL (lg c.T a) (lg c.T b)) (pairM (sz c.T a) (sz c.T b))):=by
  obtain ⟨ea,hea⟩:∃ e,c.T[a]?=some e:=⟨_,List.getElem?_eq_getElem ha⟩
  obtain ⟨eb,heb⟩:∃ e,c.T[b]?=some e:=⟨_,List.getElem?_eq_getElem hb⟩
  obtain ⟨paa,pca,ena,fva,hRa,hena,hpaa,hnSa⟩:=hI.look hea
  obtain ⟨pab,pcb,enb,fvb,hRb,henb,hpab,hnSb⟩:=hI.look heb
  obtain ⟨pa0,pc0,en0,fv0,hR0,_⟩:=hI.look hI.t0
  obtain ⟨pa1,pc1,en1,fv1,hR1,_⟩:=hI.look hI.t1
  have h0l:0<c.T.length:=(List.getElem?_eq_some_iff.1 hI.t0).1
  have h1l:1<c.T.length:=(List.getElem?_eq_some_iff.1 hI.t1).1
  obtain ⟨W0,hW0⟩:∃ W0,((w.alloc (.cells #[PtrB c.m] 151)).alloc (.cells #[PtrB (c.R a)] 159)).alloc (.cells #[PtrB (c.R b)] 159)=W0:=⟨_,rfl⟩
  have hB0:Below w.heap.size w W0:=by rw [<- hW0];exact (((Below.refl _ _).alloc (Nat.le_refl _) _).alloc (by simp) _).alloc (by simp;omega) _
  have hb1:Blk W0 w.heap.size [PtrB c.m] 151:=by rw [<- hW0];exact ((Blk.new w [PtrB c.m] 151).alloc _).alloc _
  have hb2:Blk W0 (w.heap.size+1) [PtrB (c.R a)] 159:=by rw [<- hW0];have:=(Blk.new (w.alloc (.cells #[PtrB c.m] 151)) [PtrB (c.R a)] 159).alloc (.cells #[PtrB (c.R b)] 159);simpa using this
  have hb3:Blk W0 (w.heap.size+2) [PtrB (c.R b)] 159:=by rw [<- hW0];have:=Blk.new ((w.alloc (.cells #[PtrB c.m] 151)).alloc (.cells #[PtrB (c.R a)] 159)) [PtrB (c.R b)] 159;simpa using this
  have c1:W0.cell? ⟨w.heap.size,0,none⟩=some (PtrB c.m):=hb1.cell 0
  have c2:W0.cell? ⟨w.heap.size+1,0,none⟩=some (PtrB (c.R a)):=hb2.cell 0
  have c3:W0.cell? ⟨w.heap.size+2,0,none⟩=some (PtrB (c.R b)):=hb3.cell 0
  have hm:=hI.mb.below hB0
  have c4:W0.cell? ⟨c.m,1,none⟩=some (PtrB (c.R 0)):=hm.cell 1
  have c5:W0.cell? ⟨c.m,2,none⟩=some (PtrB (c.R 1)):=hm.cell 2
  have hml:=hm.lt
  have HW0:=hide hW0
  have HB0:=hide hB0
  have HI:=hide hI
  have hRa0:=Blk.below hRa hB0
  have hRb0:=Blk.below hRb hB0
  have hR00:=Blk.below hR0 hB0
  have hR10:=Blk.below hR1 hB0
  have p0:c.R a≠c.R 0:=fun h=>h0 (hI.inj _ _ ha h0l h)
  have q0:=fun k=>ptr_other (hRa0.drewN k) (hR00.drewN k) p0
  have r0:=fun k l=>ptr_other ((hRa0.drewN k).drewN l) ((hR00.drewN k).drewN l) p0
  have s0:=fun k l j=>ptr_other (((hRa0.drewN k).drewN l).drewN j) (((hR00.drewN k).drewN l).drewN j) p0
  have p1:c.R b≠c.R 0:=fun h=>g0 (hI.inj _ _ hb h0l h)
  have q1:=fun k=>ptr_other (hRb0.drewN k) (hR00.drewN k) p1
  have r1:=fun k l=>ptr_other ((hRb0.drewN k).drewN l) ((hR00.drewN k).drewN l) p1
  have s1:=fun k l j=>ptr_other (((hRb0.drewN k).drewN l).drewN j) (((hR00.drewN k).drewN l).drewN j) p1
  have p2:c.R a≠c.R 1:=fun h=>h1 (hI.inj _ _ ha h1l h)
  have q2:=fun k=>ptr_other (hRa0.drewN k) (hR10.drewN k) p2
  have r2:=fun k l=>ptr_other ((hRa0.drewN k).drewN l) ((hR10.drewN k).drewN l) p2
  have s2:=fun k l j=>ptr_other (((hRa0.drewN k).drewN l).drewN j) (((hR10.drewN k).drewN l).drewN j) p2
  have p3:c.R b≠c.R 1:=fun h=>g1 (hI.inj _ _ hb h1l h)
  have q3:=fun k=>ptr_other (hRb0.drewN k) (hR10.drewN k) p3
  have r3:=fun k l=>ptr_other ((hRb0.drewN k).drewN l) ((hR10.drewN k).drewN l) p3
  have s3:=fun k l j=>ptr_other (((hRb0.drewN k).drewN l).drewN j) (((hR10.drewN k).drewN l).drewN j) p3
  obtain ⟨S,hS⟩:∃ S,w.heap.size=S:=⟨_,rfl⟩
  have hs0:W0.heap.size=S+3:=by rw [<- hW0,<- hS];simp
  obtain rfl:ena=true:=by exact hena.2 hEN
  have HEN:Hid (enb=true↔pairL (lg c.T a) (lg c.T b) []):=by show _↔_;rw [pair_ends];exact ⟨fun h=>⟨hEN,henb.1 h⟩,fun h=>henb.2 h.2⟩
  rw [hS] at hb1 hb2 hb3 c1 c2 c3
  have x3a:W0.cell? ⟨c.R a,3,none⟩=some (.bool true):=hRa0.cell 3
  have x3b:W0.cell? ⟨c.R b,3,none⟩=some (.bool enb):=hRb0.cell 3
  have x1a:W0.cell? ⟨c.R a,1,none⟩=some (.int .i64 ea.kd):=hRa0.cell 1
  have hla:=hRa0.lt
  have hlb:=hRb0.lt
  have hzk:(ea.kd == 1)=false:=beq_eq_false_iff_ne.2 (hkd ea hea)
  have HV:Hid (∀ V:World,(V.heap=W0.heap/\V.os=W0.os/\V.tape=W0.tape/\V.output=W0.output)->Below W0.heap.size W0 V):=fun V hV=>⟨hV.2.1,hV.2.2.1,hV.2.2.2,by rw [hV.1];exact Nat.le_refl _,fun k _=>by rw [hV.1]⟩
  have HC:=hide (fun (V W:World) (hV:(V.heap=W0.heap/\V.os=W0.os/\V.tape=W0.tape/\V.output=W0.output))=>pair_call (W:=W) (W0:=V) (S:=S) (en:=enb) hI hq ha hb HEN.out (hB0.trans ((HV.out V hV).mono hB0.size)) hS (by rw [hV.1];exact hs0) (hb1.below (HV.out V hV)) (hb2.below (HV.out V hV)) (hb3.below (HV.out V hV)) ((hP.below hB0).below (HV.out V hV)))
  have HAT:Hid (∀ (V:World) (r:Ending) (w5:World),(V.heap=W0.heap/\V.os=W0.os/\V.tape=W0.tape/\V.output=W0.output)->GivesE V c (q+1) (.pair a b) r w5->GivesL w c (q+1) (pairL (lg c.T a) (lg c.T b)) (pairM (sz c.T a) (sz c.T b)) r w5):=fun V r w5 hV h5=>h5.at (hB0.trans ((HV.out V hV).mono hB0.size)) (fun x hx=>by simp [RE.parts] at hx;rcases hx with rfl | rfl;exact ha;exact hb) rfl (Me.refl _)
  have HH:Hid (∀ w':World,(∀ k,k<W0.heap.size->w'.heap[k]?=W0.heap[k]?)->w'.cell? ⟨S,0,none⟩=some (PtrB c.m)/\w'.cell? ⟨S+1,0,none⟩=some (PtrB (c.R a))/\w'.cell? ⟨S+1+1,0,none⟩=some (PtrB (c.R b))/\w'.cell? ⟨c.R a,3,none⟩=some (.bool true)/\w'.cell? ⟨c.R b,3,none⟩=some (.bool enb)):=fun w' hb=>⟨(World.cell?_of_block (w:=W0) (hb S hb1.lt)).trans c1,(World.cell?_of_block (w:=W0) (hb (S+1) hb2.lt)).trans c2,(World.cell?_of_block (w:=W0) (hb (S+1+1) hb3.lt)).trans c3,(World.cell?_of_block (w:=W0) (hb _ hla)).trans x3a,(World.cell?_of_block (w:=W0) (hb _ hlb)).trans x3b⟩
  have HH5:Hid (∀ (V w':World) (c':MC),(V.heap=W0.heap/\V.os=W0.os/\V.tape=W0.tape/\V.output=W0.output)->Gone V c w' c'->w'.cell? ⟨S,0,none⟩=some (PtrB c.m)/\w'.cell? ⟨S+1,0,none⟩=some (PtrB (c.R a))/\w'.cell? ⟨S+1+1,0,none⟩=some (PtrB (c.R b))/\w'.cell? ⟨c.R a,3,none⟩=some (.bool true)/\w'.cell? ⟨c.R b,3,none⟩=some (.bool enb)):=fun V w' c' hV hG=>by
    have nn:∀ g,S<=g->¬ c.S g:=fun g hg h=>by have:=hI.S_lt h;omega
    have key:∀ p:Addr,p.block<W0.heap.size->¬ c.S p.block->w'.cell? p=W0.cell? p:=fun p hp hn=>(hG.but.cell (p:=p) (by rw [hV.1];exact hp) hn).trans (World.cell?_of_block (w:=W0) (by rw [hV.1]))
    exact ⟨(key ⟨S,0,none⟩ hb1.lt (nn S (by omega))).trans c1,(key ⟨S+1,0,none⟩ hb2.lt (nn (S+1) (by omega))).trans c2,(key ⟨S+1+1,0,none⟩ hb3.lt (nn (S+1+1) (by omega))).trans c3,(key ⟨c.R a,3,none⟩ hla hnSa).trans x3a,(key ⟨c.R b,3,none⟩ hlb hnSb).trans x3b⟩
  rw [<- hS] at c1 c2 c3
  have HSS:=hide hS
  clear hI hRa hRb hR0 hR1 hRa0 hRb0 hR00 hR10 hB0 hb1 hb2 hb3 hm hW0 hpaa hpab hena henb hnSa hnSb hP hEN hkd hS x3a x3b
  go_enter Tryz.func187,Tryz.ntmps187
  go_wp2_with fail
  rw [HW0.out]
  simp only [HSS.out] at c1 c2 c3 ⊢
  go_quiet (fail)
  go_wp2_with fail
  go_quiet (fail)
  go_wp2_with fail
  go_quiet (fail)
  go_wp2_with fail
  refine wp_region_held_drew (S:=fun w':World=>w'.cell? ⟨S,0,none⟩=some (PtrB c.m)/\w'.cell? ⟨S+1,0,none⟩=some (PtrB (c.R a))/\w'.cell? ⟨S+1+1,0,none⟩=some (PtrB (c.R b))/\w'.cell? ⟨c.R a,3,none⟩=some (.bool true)/\w'.cell? ⟨c.R b,3,none⟩=some (.bool enb)) (by kernel_rfl) (HH.out _ (fun _ _=>rfl)) (fun hHeld=>?_)
  refine wpAnyH_take (i:=0) (oi:=_) (v:=PtrB c.m) rfl (by kernel_rfl) (by kernel_rfl) (by kernel_rfl) (fun _ _ _ h=>h) (Or.inl ⟨by rfl,by intro w hSw;have hS0:=hSw.1;have hS1:=hSw.2.1;have hS2:=hSw.2.2.1;have hS3:=hSw.2.2.2.1;have hS4:=hSw.2.2.2.2;clear hSw;go_simp⟩) (by assumption) ?_
  try simp only [Act.put,List.setIfInBounds_toArray,List.set_cons_zero,List.set_cons_succ,List.getElem_toArray,List.getElem_cons_zero]
  refine wpAnyH_take (i:=1) (oi:=_) (v:=PtrB (c.R a)) rfl (by kernel_rfl) (by kernel_rfl) (by kernel_rfl) (fun _ _ _ h=>h) (Or.inl ⟨by rfl,by intro w hSw;have hS0:=hSw.1;have hS1:=hSw.2.1;have hS2:=hSw.2.2.1;have hS3:=hSw.2.2.2.1;have hS4:=hSw.2.2.2.2;clear hSw;go_simp⟩) (by assumption) ?_
  try simp only [Act.put,List.setIfInBounds_toArray,List.set_cons_zero,List.set_cons_succ,List.getElem_toArray,List.getElem_cons_zero,List.getElem_cons_succ]
  refine wpAnyH_take (i:=2) (oi:=_) (v:=PtrB (c.R b)) rfl (by kernel_rfl) (by kernel_rfl) (by kernel_rfl) (fun _ _ _ h=>h) (Or.inl ⟨by rfl,by intro w hSw;have hS0:=hSw.1;have hS1:=hSw.2.1;have hS2:=hSw.2.2.1;have hS3:=hSw.2.2.2.1;have hS4:=hSw.2.2.2.2;clear hSw;go_simp⟩) (by assumption) ?_
  try simp only [Act.put,List.setIfInBounds_toArray,List.set_cons_zero,List.set_cons_succ,List.getElem_toArray,List.getElem_cons_zero,List.getElem_cons_succ]
  refine wpAnyH_take (i:=4) (oi:=_) (v:=PtrB (c.R a)) rfl (by kernel_rfl) (by kernel_rfl) (by kernel_rfl) (fun _ _ _ h=>h) (Or.inl ⟨by rfl,by intro w hSw;have hS0:=hSw.1;have hS1:=hSw.2.1;have hS2:=hSw.2.2.1;have hS3:=hSw.2.2.2.1;have hS4:=hSw.2.2.2.2;clear hSw;go_simp⟩) (by assumption) ?_
  try simp only [Act.put,List.setIfInBounds_toArray,List.set_cons_zero,List.set_cons_succ,List.getElem_toArray,List.getElem_cons_zero,List.getElem_cons_succ]
  refine wpAnyH_take (i:=5) (oi:=_) (v:=PtrB (c.R a)) rfl (by kernel_rfl) (by kernel_rfl) (by kernel_rfl) (fun _ _ _ h=>h) (Or.inl ⟨by rfl,by intro w hSw;have hS0:=hSw.1;have hS1:=hSw.2.1;have hS2:=hSw.2.2.1;have hS3:=hSw.2.2.2.1;have hS4:=hSw.2.2.2.2;clear hSw;go_simp⟩) (by assumption) ?_
  try simp only [Act.put,List.setIfInBounds_toArray,List.set_cons_zero,List.set_cons_succ,List.getElem_toArray,List.getElem_cons_zero,List.getElem_cons_succ]
  refine wpAnyH_take (i:=6) (oi:=_) (v:=.pointer (some ⟨c.R a,3,none⟩)) rfl (by kernel_rfl) (by kernel_rfl) (by kernel_rfl) (fun _ _ _ h=>h) (Or.inl ⟨by rfl,by intro w hSw;have hS0:=hSw.1;have hS1:=hSw.2.1;have hS2:=hSw.2.2.1;have hS3:=hSw.2.2.2.1;have hS4:=hSw.2.2.2.2;clear hSw;go_simp⟩) (by assumption) ?_
  try simp only [Act.put,List.setIfInBounds_toArray,List.set_cons_zero,List.set_cons_succ,List.getElem_toArray,List.getElem_cons_zero,List.getElem_cons_succ]
  refine wpAnyH_take (i:=7) (oi:=_) (v:=.bool true) rfl (by kernel_rfl) (by kernel_rfl) (by kernel_rfl) (fun _ _ _ h=>h) (Or.inl ⟨by rfl,by intro w hSw;have hS0:=hSw.1;have hS1:=hSw.2.1;have hS2:=hSw.2.2.1;have hS3:=hSw.2.2.2.1;have hS4:=hSw.2.2.2.2;clear hSw;go_simp⟩) (by assumption) ?_
  try simp only [Act.put,List.setIfInBounds_toArray,List.set_cons_zero,List.set_cons_succ,List.getElem_toArray,List.getElem_cons_zero,List.getElem_cons_succ]
  refine wpAnyH_take (i:=8) (oi:=_) (v:=.bool true) rfl (by kernel_rfl) (by kernel_rfl) (by kernel_rfl) (fun _ _ _ h=>h) (Or.inl ⟨by rfl,by intro w hSw;have hS0:=hSw.1;have hS1:=hSw.2.1;have hS2:=hSw.2.2.1;have hS3:=hSw.2.2.2.1;have hS4:=hSw.2.2.2.2;clear hSw;go_simp⟩) (by assumption) ?_
  try simp only [Act.put,List.setIfInBounds_toArray,List.set_cons_zero,List.set_cons_succ,List.getElem_toArray,List.getElem_cons_zero,List.getElem_cons_succ]
  refine wpAnyH_take (i:=9) (oi:=_) (v:=PtrB (c.R b)) rfl (by kernel_rfl) (by kernel_rfl) (by kernel_rfl) (fun _ _ _ h=>h) (Or.inl ⟨by rfl,by intro w hSw;have hS0:=hSw.1;have hS1:=hSw.2.1;have hS2:=hSw.2.2.1;have hS3:=hSw.2.2.2.1;have hS4:=hSw.2.2.2.2;clear hSw;go_simp⟩) (by assumption) ?_
  try simp only [Act.put,List.setIfInBounds_toArray,List.set_cons_zero,List.set_cons_succ,List.getElem_toArray,List.getElem_cons_zero,List.getElem_cons_succ]
  refine wpAnyH_take (i:=10) (oi:=_) (v:=PtrB (c.R b)) rfl (by kernel_rfl) (by kernel_rfl) (by kernel_rfl) (fun _ _ _ h=>h) (Or.inl ⟨by rfl,by intro w hSw;have hS0:=hSw.1;have hS1:=hSw.2.1;have hS2:=hSw.2.2.1;have hS3:=hSw.2.2.2.1;have hS4:=hSw.2.2.2.2;clear hSw;go_simp⟩) (by assumption) ?_
  try simp only [Act.put,List.setIfInBounds_toArray,List.set_cons_zero,List.set_cons_succ,List.getElem_toArray,List.getElem_cons_zero,List.getElem_cons_succ]
  refine wpAnyH_take (i:=11) (oi:=_) (v:=.pointer (some ⟨c.R b,3,none⟩)) rfl (by kernel_rfl) (by kernel_rfl) (by kernel_rfl) (fun _ _ _ h=>h) (Or.inl ⟨by rfl,by intro w hSw;have hS0:=hSw.1;have hS1:=hSw.2.1;have hS2:=hSw.2.2.1;have hS3:=hSw.2.2.2.1;have hS4:=hSw.2.2.2.2;clear hSw;go_simp⟩) (by assumption) ?_
  try simp only [Act.put,List.setIfInBounds_toArray,List.set_cons_zero,List.set_cons_succ,List.getElem_toArray,List.getElem_cons_zero,List.getElem_cons_succ]
  refine wpAnyH_take (i:=12) (oi:=_) (v:=.bool enb) rfl (by kernel_rfl) (by kernel_rfl) (by kernel_rfl) (fun _ _ _ h=>h) (Or.inl ⟨by rfl,by intro w hSw;have hS0:=hSw.1;have hS1:=hSw.2.1;have hS2:=hSw.2.2.1;have hS3:=hSw.2.2.2.1;have hS4:=hSw.2.2.2.2;clear hSw;go_simp⟩) (by assumption) ?_
  try simp only [Act.put,List.setIfInBounds_toArray,List.set_cons_zero,List.set_cons_succ,List.getElem_toArray,List.getElem_cons_zero,List.getElem_cons_succ]
  refine wpAnyH_take (i:=13) (oi:=_) (v:=.bool enb) rfl (by kernel_rfl) (by kernel_rfl) (by kernel_rfl) (fun _ _ _ h=>h) (Or.inl ⟨by rfl,by intro w hSw;have hS0:=hSw.1;have hS1:=hSw.2.1;have hS2:=hSw.2.2.1;have hS3:=hSw.2.2.2.1;have hS4:=hSw.2.2.2.2;clear hSw;go_simp⟩) (by assumption) ?_
  try simp only [Act.put,List.setIfInBounds_toArray,List.set_cons_zero,List.set_cons_succ,List.getElem_toArray,List.getElem_cons_zero,List.getElem_cons_succ]
  refine wpAnyH_take (i:=14) (oi:=_) (v:=.func (.func 236) #[] #[PtrB S,PtrB (S+1),PtrB (S+1+1)]) rfl (by kernel_rfl) (by kernel_rfl) (by kernel_rfl) (fun _ _ _ h=>h) (Or.inl ⟨by rfl,by intro w hSw;have hS0:=hSw.1;have hS1:=hSw.2.1;have hS2:=hSw.2.2.1;have hS3:=hSw.2.2.2.1;have hS4:=hSw.2.2.2.2;clear hSw;go_simp⟩) (by assumption) ?_
  try simp only [Act.put,List.setIfInBounds_toArray,List.set_cons_zero,List.set_cons_succ,List.getElem_toArray,List.getElem_cons_zero,List.getElem_cons_succ]
  refine wpAnyH_ready (rs:=[3]) (by kernel_rfl) (by simp) ?_
  refine AllReadyH.cons (o:=_) rfl (fun Kc hK=>?_) AllReadyH.nil
  go_simp
  refine hK.out _ _ (HH.out _ (fun k hk=>Below.heap_alloc _ _ _ hk)) (fun hHeld=>?_)
  clear hK Kc
  try simp only [Act.put,List.setIfInBounds_toArray,List.set_cons_zero,List.set_cons_succ]
  refine wpAnyH_take (i:=15) (oi:=_) (v:=.agg #[.int .i64 0,.int .i64 1,.slice (some ⟨S+3,0,none⟩) 2 2,.bool enb,.func (.func 236) #[] #[PtrB S,PtrB (S+1),PtrB (S+1+1)]]) rfl (by kernel_rfl) (by kernel_rfl) (by kernel_rfl) (fun _ _ _ h=>h) (Or.inl ⟨by rfl,by intro w hSw;have hS0:=hSw.1;have hS1:=hSw.2.1;have hS2:=hSw.2.2.1;have hS3:=hSw.2.2.2.1;have hS4:=hSw.2.2.2.2;clear hSw;go_simp⟩) (by assumption) ?_
  try simp only [Act.put,List.setIfInBounds_toArray,List.set_cons_zero,List.set_cons_succ,List.getElem_toArray,List.getElem_cons_zero,List.getElem_cons_succ]
  refine wpAnyH_ready (rs:=[16]) (by kernel_rfl) (by simp) ?_
  refine AllReadyH.cons (o:=_) rfl (fun Kc hK=>?_) AllReadyH.nil
  go_simp
  refine hK.out _ _ (HH.out _ (fun k hk=>(Below.heap_alloc _ _ _ (by simp;omega)).trans (Below.heap_alloc _ _ _ hk))) (fun hHeld=>?_)
  clear hK Kc
  try simp only [Act.put,List.setIfInBounds_toArray,List.set_cons_zero,List.set_cons_succ]
  refine wpAnyH_ready (rs:=[17]) (by kernel_rfl) (by simp) ?_
  refine AllReadyH.cons (o:=_) rfl (fun Kc hK=>?_) AllReadyH.nil
  go_simp
  refine (HC.out (W0.drewN _) _ ⟨rfl,rfl,rfl,rfl⟩ (below2n _ _ _) (b2n_1 (W:=W0.drewN _) hs0 _) (b2n_2 (W:=W0.drewN _) hs0 _)).mono ?_
  intro r w5 h5
  have HG5:=hide (HAT.out (W0.drewN _) r w5 ⟨rfl,rfl,rfl,rfl⟩ h5)
  obtain ⟨c',j,rfl,hI',hG,hT',hL'⟩:=h5
  have hh5:=HH5.out (W0.drewN _) w5 c' ⟨rfl,rfl,rfl,rfl⟩ hG
  clear hI' hG hT' hL'
  go_wp2_with fail
  refine hK.out _ _ hh5 (fun hHeld=>?_)
  clear hK Kc
  try simp only [Act.put,List.setIfInBounds_toArray,List.set_cons_zero,List.set_cons_succ]
  refine wpAnyH_take (i:=18) (oi:=_) (v:=PtrB (c'.R j)) rfl (by kernel_rfl) (by kernel_rfl) (by kernel_rfl) (fun _ _ _ h=>h) (Or.inl ⟨by rfl,by intro w hSw;have hS0:=hSw.1;have hS1:=hSw.2.1;have hS2:=hSw.2.2.1;have hS3:=hSw.2.2.2.1;have hS4:=hSw.2.2.2.2;clear hSw;go_simp⟩) (by assumption) ?_
  try simp only [Act.put,List.setIfInBounds_toArray,List.set_cons_zero,List.set_cons_succ,List.getElem_toArray,List.getElem_cons_zero,List.getElem_cons_succ]
  refine wpAnyH_done (by kernel_rfl) ?_ _
  go_wp2_with fail
  go_ret
  exact HG5.out
set_option maxRecDepth 100000 in
set_option maxHeartbeats 8000000 in
theorem pair_keep0 {w:World}{c:MC}{q a b:Nat}(hI:MkI w c q)(hq:q<=9000000000000000000)(ha:a<c.T.length)(hb:b<c.T.length)(hP:PowT w)(h0:a≠0)(g0:b≠0)(h1:a≠1)(g1:b≠1)(hkd:∀ e,c.T[a]?=some e->e.kd≠1)(hEN:¬ lg c.T a []):Calls Tryz.prog 187 #[PtrB c.m,PtrB (c.R a),PtrB (c.R b)] w (GivesL w c (q+1) (pairL (lg c.T a) (lg c.T b)) (pairM (sz c.T a) (sz c.T b))):=by
  obtain ⟨ea,hea⟩:∃ e,c.T[a]?=some e:=⟨_,List.getElem?_eq_getElem ha⟩
  obtain ⟨eb,heb⟩:∃ e,c.T[b]?=some e:=⟨_,List.getElem?_eq_getElem hb⟩
  obtain ⟨paa,pca,ena,fva,hRa,hena,hpaa,hnSa⟩:=hI.look hea
  obtain ⟨pab,pcb,enb,fvb,hRb,henb,hpab,hnSb⟩:=hI.look heb
  obtain ⟨pa0,pc0,en0,fv0,hR0,_⟩:=hI.look hI.t0
  obtain ⟨pa1,pc1,en1,fv1,hR1,_⟩:=hI.look hI.t1
  have h0l:0<c.T.length:=(List.getElem?_eq_some_iff.1 hI.t0).1
  have h1l:1<c.T.length:=(List.getElem?_eq_some_iff.1 hI.t1).1
  obtain ⟨W0,hW0⟩:∃ W0,((w.alloc (.cells #[PtrB c.m] 151)).alloc (.cells #[PtrB (c.R a)] 159)).alloc (.cells #[PtrB (c.R b)] 159)=W0:=⟨_,rfl⟩
  have hB0:Below w.heap.size w W0:=by rw [<- hW0];exact (((Below.refl _ _).alloc (Nat.le_refl _) _).alloc (by simp) _).alloc (by simp;omega) _
  have hb1:Blk W0 w.heap.size [PtrB c.m] 151:=by rw [<- hW0];exact ((Blk.new w [PtrB c.m] 151).alloc _).alloc _
  have hb2:Blk W0 (w.heap.size+1) [PtrB (c.R a)] 159:=by rw [<- hW0];have:=(Blk.new (w.alloc (.cells #[PtrB c.m] 151)) [PtrB (c.R a)] 159).alloc (.cells #[PtrB (c.R b)] 159);simpa using this
  have hb3:Blk W0 (w.heap.size+2) [PtrB (c.R b)] 159:=by rw [<- hW0];have:=Blk.new ((w.alloc (.cells #[PtrB c.m] 151)).alloc (.cells #[PtrB (c.R a)] 159)) [PtrB (c.R b)] 159;simpa using this
  have c1:W0.cell? ⟨w.heap.size,0,none⟩=some (PtrB c.m):=hb1.cell 0
  have c2:W0.cell? ⟨w.heap.size+1,0,none⟩=some (PtrB (c.R a)):=hb2.cell 0
  have c3:W0.cell? ⟨w.heap.size+2,0,none⟩=some (PtrB (c.R b)):=hb3.cell 0
  have hm:=hI.mb.below hB0
  have c4:W0.cell? ⟨c.m,1,none⟩=some (PtrB (c.R 0)):=hm.cell 1
  have c5:W0.cell? ⟨c.m,2,none⟩=some (PtrB (c.R 1)):=hm.cell 2
  have hml:=hm.lt
  have HW0:=hide hW0
  have HB0:=hide hB0
  have HI:=hide hI
  have hRa0:=Blk.below hRa hB0
  have hRb0:=Blk.below hRb hB0
  have hR00:=Blk.below hR0 hB0
  have hR10:=Blk.below hR1 hB0
  have p0:c.R a≠c.R 0:=fun h=>h0 (hI.inj _ _ ha h0l h)
  have q0:=fun k=>ptr_other (hRa0.drewN k) (hR00.drewN k) p0
  have r0:=fun k l=>ptr_other ((hRa0.drewN k).drewN l) ((hR00.drewN k).drewN l) p0
  have s0:=fun k l j=>ptr_other (((hRa0.drewN k).drewN l).drewN j) (((hR00.drewN k).drewN l).drewN j) p0
  have p1:c.R b≠c.R 0:=fun h=>g0 (hI.inj _ _ hb h0l h)
  have q1:=fun k=>ptr_other (hRb0.drewN k) (hR00.drewN k) p1
  have r1:=fun k l=>ptr_other ((hRb0.drewN k).drewN l) ((hR00.drewN k).drewN l) p1
  have s1:=fun k l j=>ptr_other (((hRb0.drewN k).drewN l).drewN j) (((hR00.drewN k).drewN l).drewN j) p1
  have p2:c.R a≠c.R 1:=fun h=>h1 (hI.inj _ _ ha h1l h)
  have q2:=fun k=>ptr_other (hRa0.drewN k) (hR10.drewN k) p2
  have r2:=fun k l=>ptr_other ((hRa0.drewN k).drewN l) ((hR10.drewN k).drewN l) p2
  have s2:=fun k l j=>ptr_other (((hRa0.drewN k).drewN l).drewN j) (((hR10.drewN k).drewN l).drewN j) p2
  have p3:c.R b≠c.R 1:=fun h=>g1 (hI.inj _ _ hb h1l h)
  have q3:=fun k=>ptr_other (hRb0.drewN k) (hR10.drewN k) p3
  have r3:=fun k l=>ptr_other ((hRb0.drewN k).drewN l) ((hR10.drewN k).drewN l) p3
  have s3:=fun k l j=>ptr_other (((hRb0.drewN k).drewN l).drewN j) (((hR10.drewN k).drewN l).drewN j) p3
  obtain ⟨S,hS⟩:∃ S,w.heap.size=S:=⟨_,rfl⟩
  have hs0:W0.heap.size=S+3:=by rw [<- hW0,<- hS];simp
  obtain rfl:ena=false:=by rcases ena with _ | _;rfl;exact absurd (hena.1 rfl) hEN
  have HEN:Hid (false=true↔pairL (lg c.T a) (lg c.T b) []):=by show _↔_;rw [pair_ends];exact ⟨fun h=>(by cases h),fun h=>absurd h.1 hEN⟩
  rw [hS] at hb1 hb2 hb3 c1 c2 c3
  have x3a:W0.cell? ⟨c.R a,3,none⟩=some (.bool false):=hRa0.cell 3
  have x3b:W0.cell? ⟨c.R b,3,none⟩=some (.bool enb):=hRb0.cell 3
  have x1a:W0.cell? ⟨c.R a,1,none⟩=some (.int .i64 ea.kd):=hRa0.cell 1
  have hla:=hRa0.lt
  have hlb:=hRb0.lt
  have hzk:(ea.kd == 1)=false:=beq_eq_false_iff_ne.2 (hkd ea hea)
  have HV:Hid (∀ V:World,(V.heap=W0.heap/\V.os=W0.os/\V.tape=W0.tape/\V.output=W0.output)->Below W0.heap.size W0 V):=fun V hV=>⟨hV.2.1,hV.2.2.1,hV.2.2.2,by rw [hV.1];exact Nat.le_refl _,fun k _=>by rw [hV.1]⟩
  have HC:=hide (fun (V W:World) (hV:(V.heap=W0.heap/\V.os=W0.os/\V.tape=W0.tape/\V.output=W0.output))=>pair_call (W:=W) (W0:=V) (S:=S) (en:=false) hI hq ha hb HEN.out (hB0.trans ((HV.out V hV).mono hB0.size)) hS (by rw [hV.1];exact hs0) (hb1.below (HV.out V hV)) (hb2.below (HV.out V hV)) (hb3.below (HV.out V hV)) ((hP.below hB0).below (HV.out V hV)))
  have HAT:Hid (∀ (V:World) (r:Ending) (w5:World),(V.heap=W0.heap/\V.os=W0.os/\V.tape=W0.tape/\V.output=W0.output)->GivesE V c (q+1) (.pair a b) r w5->GivesL w c (q+1) (pairL (lg c.T a) (lg c.T b)) (pairM (sz c.T a) (sz c.T b)) r w5):=fun V r w5 hV h5=>h5.at (hB0.trans ((HV.out V hV).mono hB0.size)) (fun x hx=>by simp [RE.parts] at hx;rcases hx with rfl | rfl;exact ha;exact hb) rfl (Me.refl _)
  have HH:Hid (∀ w':World,(∀ k,k<W0.heap.size->w'.heap[k]?=W0.heap[k]?)->w'.cell? ⟨S,0,none⟩=some (PtrB c.m)/\w'.cell? ⟨S+1,0,none⟩=some (PtrB (c.R a))/\w'.cell? ⟨S+1+1,0,none⟩=some (PtrB (c.R b))/\w'.cell? ⟨c.R a,3,none⟩=some (.bool false)/\w'.cell? ⟨c.R b,3,none⟩=some (.bool enb)):=fun w' hb=>⟨(World.cell?_of_block (w:=W0) (hb S hb1.lt)).trans c1,(World.cell?_of_block (w:=W0) (hb (S+1) hb2.lt)).trans c2,(World.cell?_of_block (w:=W0) (hb (S+1+1) hb3.lt)).trans c3,(World.cell?_of_block (w:=W0) (hb _ hla)).trans x3a,(World.cell?_of_block (w:=W0) (hb _ hlb)).trans x3b⟩
  have HH5:Hid (∀ (V w':World) (c':MC),(V.heap=W0.heap/\V.os=W0.os/\V.tape=W0.tape/\V.output=W0.output)->Gone V c w' c'->w'.cell? ⟨S,0,none⟩=some (PtrB c.m)/\w'.cell? ⟨S+1,0,none⟩=some (PtrB (c.R a))/\w'.cell? ⟨S+1+1,0,none⟩=some (PtrB (c.R b))/\w'.cell? ⟨c.R a,3,none⟩=some (.bool false)/\w'.cell? ⟨c.R b,3,none⟩=some (.bool enb)):=fun V w' c' hV hG=>by
    have nn:∀ g,S<=g->¬ c.S g:=fun g hg h=>by have:=hI.S_lt h;omega
    have key:∀ p:Addr,p.block<W0.heap.size->¬ c.S p.block->w'.cell? p=W0.cell? p:=fun p hp hn=>(hG.but.cell (p:=p) (by rw [hV.1];exact hp) hn).trans (World.cell?_of_block (w:=W0) (by rw [hV.1]))
    exact ⟨(key ⟨S,0,none⟩ hb1.lt (nn S (by omega))).trans c1,(key ⟨S+1,0,none⟩ hb2.lt (nn (S+1) (by omega))).trans c2,(key ⟨S+1+1,0,none⟩ hb3.lt (nn (S+1+1) (by omega))).trans c3,(key ⟨c.R a,3,none⟩ hla hnSa).trans x3a,(key ⟨c.R b,3,none⟩ hlb hnSb).trans x3b⟩
  rw [<- hS] at c1 c2 c3
  have HSS:=hide hS
  clear hI hRa hRb hR0 hR1 hRa0 hRb0 hR00 hR10 hB0 hb1 hb2 hb3 hm hW0 hpaa hpab hena henb hnSa hnSb hP hEN hkd hS x3a x3b
  go_enter Tryz.func187,Tryz.ntmps187
  go_wp2_with fail
  rw [HW0.out]
  simp only [HSS.out] at c1 c2 c3 ⊢
  go_quiet (fail)
  go_wp2_with fail
  go_quiet (fail)
  go_wp2_with fail
  go_quiet (fail)
  go_wp2_with fail
  refine wp_region_held_drew (S:=fun w':World=>w'.cell? ⟨S,0,none⟩=some (PtrB c.m)/\w'.cell? ⟨S+1,0,none⟩=some (PtrB (c.R a))/\w'.cell? ⟨S+1+1,0,none⟩=some (PtrB (c.R b))/\w'.cell? ⟨c.R a,3,none⟩=some (.bool false)/\w'.cell? ⟨c.R b,3,none⟩=some (.bool enb)) (by kernel_rfl) (HH.out _ (fun _ _=>rfl)) (fun hHeld=>?_)
  refine wpAnyH_take (i:=0) (oi:=_) (v:=PtrB c.m) rfl (by kernel_rfl) (by kernel_rfl) (by kernel_rfl) (fun _ _ _ h=>h) (Or.inl ⟨by rfl,by intro w hSw;have hS0:=hSw.1;have hS1:=hSw.2.1;have hS2:=hSw.2.2.1;have hS3:=hSw.2.2.2.1;have hS4:=hSw.2.2.2.2;clear hSw;go_simp⟩) (by assumption) ?_
  try simp only [Act.put,List.setIfInBounds_toArray,List.set_cons_zero,List.set_cons_succ,List.getElem_toArray,List.getElem_cons_zero]
  refine wpAnyH_take (i:=1) (oi:=_) (v:=PtrB (c.R a)) rfl (by kernel_rfl) (by kernel_rfl) (by kernel_rfl) (fun _ _ _ h=>h) (Or.inl ⟨by rfl,by intro w hSw;have hS0:=hSw.1;have hS1:=hSw.2.1;have hS2:=hSw.2.2.1;have hS3:=hSw.2.2.2.1;have hS4:=hSw.2.2.2.2;clear hSw;go_simp⟩) (by assumption) ?_
  try simp only [Act.put,List.setIfInBounds_toArray,List.set_cons_zero,List.set_cons_succ,List.getElem_toArray,List.getElem_cons_zero,List.getElem_cons_succ]
  refine wpAnyH_take (i:=2) (oi:=_) (v:=PtrB (c.R b)) rfl (by kernel_rfl) (by kernel_rfl) (by kernel_rfl) (fun _ _ _ h=>h) (Or.inl ⟨by rfl,by intro w hSw;have hS0:=hSw.1;have hS1:=hSw.2.1;have hS2:=hSw.2.2.1;have hS3:=hSw.2.2.2.1;have hS4:=hSw.2.2.2.2;clear hSw;go_simp⟩) (by assumption) ?_
  try simp only [Act.put,List.setIfInBounds_toArray,List.set_cons_zero,List.set_cons_succ,List.getElem_toArray,List.getElem_cons_zero,List.getElem_cons_succ]
  refine wpAnyH_take (i:=4) (oi:=_) (v:=PtrB (c.R a)) rfl (by kernel_rfl) (by kernel_rfl) (by kernel_rfl) (fun _ _ _ h=>h) (Or.inl ⟨by rfl,by intro w hSw;have hS0:=hSw.1;have hS1:=hSw.2.1;have hS2:=hSw.2.2.1;have hS3:=hSw.2.2.2.1;have hS4:=hSw.2.2.2.2;clear hSw;go_simp⟩) (by assumption) ?_
  try simp only [Act.put,List.setIfInBounds_toArray,List.set_cons_zero,List.set_cons_succ,List.getElem_toArray,List.getElem_cons_zero,List.getElem_cons_succ]
  refine wpAnyH_take (i:=5) (oi:=_) (v:=PtrB (c.R a)) rfl (by kernel_rfl) (by kernel_rfl) (by kernel_rfl) (fun _ _ _ h=>h) (Or.inl ⟨by rfl,by intro w hSw;have hS0:=hSw.1;have hS1:=hSw.2.1;have hS2:=hSw.2.2.1;have hS3:=hSw.2.2.2.1;have hS4:=hSw.2.2.2.2;clear hSw;go_simp⟩) (by assumption) ?_
  try simp only [Act.put,List.setIfInBounds_toArray,List.set_cons_zero,List.set_cons_succ,List.getElem_toArray,List.getElem_cons_zero,List.getElem_cons_succ]
  refine wpAnyH_take (i:=6) (oi:=_) (v:=.pointer (some ⟨c.R a,3,none⟩)) rfl (by kernel_rfl) (by kernel_rfl) (by kernel_rfl) (fun _ _ _ h=>h) (Or.inl ⟨by rfl,by intro w hSw;have hS0:=hSw.1;have hS1:=hSw.2.1;have hS2:=hSw.2.2.1;have hS3:=hSw.2.2.2.1;have hS4:=hSw.2.2.2.2;clear hSw;go_simp⟩) (by assumption) ?_
  try simp only [Act.put,List.setIfInBounds_toArray,List.set_cons_zero,List.set_cons_succ,List.getElem_toArray,List.getElem_cons_zero,List.getElem_cons_succ]
  refine wpAnyH_take (i:=7) (oi:=_) (v:=.bool false) rfl (by kernel_rfl) (by kernel_rfl) (by kernel_rfl) (fun _ _ _ h=>h) (Or.inl ⟨by rfl,by intro w hSw;have hS0:=hSw.1;have hS1:=hSw.2.1;have hS2:=hSw.2.2.1;have hS3:=hSw.2.2.2.1;have hS4:=hSw.2.2.2.2;clear hSw;go_simp⟩) (by assumption) ?_
  try simp only [Act.put,List.setIfInBounds_toArray,List.set_cons_zero,List.set_cons_succ,List.getElem_toArray,List.getElem_cons_zero,List.getElem_cons_succ]
  refine wpAnyH_take (i:=8) (oi:=_) (v:=.bool false) rfl (by kernel_rfl) (by kernel_rfl) (by kernel_rfl) (fun _ _ _ h=>h) (Or.inl ⟨by rfl,by intro w hSw;have hS0:=hSw.1;have hS1:=hSw.2.1;have hS2:=hSw.2.2.1;have hS3:=hSw.2.2.2.1;have hS4:=hSw.2.2.2.2;clear hSw;go_simp⟩) (by assumption) ?_
  try simp only [Act.put,List.setIfInBounds_toArray,List.set_cons_zero,List.set_cons_succ,List.getElem_toArray,List.getElem_cons_zero,List.getElem_cons_succ]
  refine wpAnyH_take (i:=9) (oi:=_) (v:=undef) rfl (by kernel_rfl) (by kernel_rfl) (by kernel_rfl) (fun _ _ _ h=>h) (Or.inr ⟨by rfl,rfl⟩) (by assumption) ?_
  try simp only [Act.put,List.setIfInBounds_toArray,List.set_cons_zero,List.set_cons_succ,List.getElem_toArray,List.getElem_cons_zero,List.getElem_cons_succ]
  refine wpAnyH_take (i:=10) (oi:=_) (v:=undef) rfl (by kernel_rfl) (by kernel_rfl) (by kernel_rfl) (fun _ _ _ h=>h) (Or.inr ⟨by rfl,rfl⟩) (by assumption) ?_
  try simp only [Act.put,List.setIfInBounds_toArray,List.set_cons_zero,List.set_cons_succ,List.getElem_toArray,List.getElem_cons_zero,List.getElem_cons_succ]
  refine wpAnyH_take (i:=11) (oi:=_) (v:=undef) rfl (by kernel_rfl) (by kernel_rfl) (by kernel_rfl) (fun _ _ _ h=>h) (Or.inr ⟨by rfl,rfl⟩) (by assumption) ?_
  try simp only [Act.put,List.setIfInBounds_toArray,List.set_cons_zero,List.set_cons_succ,List.getElem_toArray,List.getElem_cons_zero,List.getElem_cons_succ]
  refine wpAnyH_take (i:=12) (oi:=_) (v:=undef) rfl (by kernel_rfl) (by kernel_rfl) (by kernel_rfl) (fun _ _ _ h=>h) (Or.inr ⟨by rfl,rfl⟩) (by assumption) ?_
  try simp only [Act.put,List.setIfInBounds_toArray,List.set_cons_zero,List.set_cons_succ,List.getElem_toArray,List.getElem_cons_zero,List.getElem_cons_succ]
  refine wpAnyH_take (i:=13) (oi:=_) (v:=.bool false) rfl (by kernel_rfl) (by kernel_rfl) (by kernel_rfl) (fun _ _ _ h=>h) (Or.inl ⟨by rfl,by intro w hSw;have hS0:=hSw.1;have hS1:=hSw.2.1;have hS2:=hSw.2.2.1;have hS3:=hSw.2.2.2.1;have hS4:=hSw.2.2.2.2;clear hSw;go_simp⟩) (by assumption) ?_
  try simp only [Act.put,List.setIfInBounds_toArray,List.set_cons_zero,List.set_cons_succ,List.getElem_toArray,List.getElem_cons_zero,List.getElem_cons_succ]
  refine wpAnyH_take (i:=14) (oi:=_) (v:=.func (.func 236) #[] #[PtrB S,PtrB (S+1),PtrB (S+1+1)]) rfl (by kernel_rfl) (by kernel_rfl) (by kernel_rfl) (fun _ _ _ h=>h) (Or.inl ⟨by rfl,by intro w hSw;have hS0:=hSw.1;have hS1:=hSw.2.1;have hS2:=hSw.2.2.1;have hS3:=hSw.2.2.2.1;have hS4:=hSw.2.2.2.2;clear hSw;go_simp⟩) (by assumption) ?_
  try simp only [Act.put,List.setIfInBounds_toArray,List.set_cons_zero,List.set_cons_succ,List.getElem_toArray,List.getElem_cons_zero,List.getElem_cons_succ]
  refine wpAnyH_ready (rs:=[3]) (by kernel_rfl) (by simp) ?_
  refine AllReadyH.cons (o:=_) rfl (fun Kc hK=>?_) AllReadyH.nil
  go_simp
  refine hK.out _ _ (HH.out _ (fun k hk=>Below.heap_alloc _ _ _ hk)) (fun hHeld=>?_)
  clear hK Kc
  try simp only [Act.put,List.setIfInBounds_toArray,List.set_cons_zero,List.set_cons_succ]
  refine wpAnyH_take (i:=15) (oi:=_) (v:=.agg #[.int .i64 0,.int .i64 1,.slice (some ⟨S+3,0,none⟩) 2 2,.bool false,.func (.func 236) #[] #[PtrB S,PtrB (S+1),PtrB (S+1+1)]]) rfl (by kernel_rfl) (by kernel_rfl) (by kernel_rfl) (fun _ _ _ h=>h) (Or.inl ⟨by rfl,by intro w hSw;have hS0:=hSw.1;have hS1:=hSw.2.1;have hS2:=hSw.2.2.1;have hS3:=hSw.2.2.2.1;have hS4:=hSw.2.2.2.2;clear hSw;go_simp⟩) (by assumption) ?_
  try simp only [Act.put,List.setIfInBounds_toArray,List.set_cons_zero,List.set_cons_succ,List.getElem_toArray,List.getElem_cons_zero,List.getElem_cons_succ]
  refine wpAnyH_ready (rs:=[16]) (by kernel_rfl) (by simp) ?_
  refine AllReadyH.cons (o:=_) rfl (fun Kc hK=>?_) AllReadyH.nil
  go_simp
  refine hK.out _ _ (HH.out _ (fun k hk=>(Below.heap_alloc _ _ _ (by simp;omega)).trans (Below.heap_alloc _ _ _ hk))) (fun hHeld=>?_)
  clear hK Kc
  try simp only [Act.put,List.setIfInBounds_toArray,List.set_cons_zero,List.set_cons_succ]
  refine wpAnyH_ready (rs:=[17]) (by kernel_rfl) (by simp) ?_
  refine AllReadyH.cons (o:=_) rfl (fun Kc hK=>?_) AllReadyH.nil
  go_simp
  refine (HC.out (W0.drewN _) _ ⟨rfl,rfl,rfl,rfl⟩ (below2n _ _ _) (b2n_1 (W:=W0.drewN _) hs0 _) (b2n_2 (W:=W0.drewN _) hs0 _)).mono ?_
  intro r w5 h5
  have HG5:=hide (HAT.out (W0.drewN _) r w5 ⟨rfl,rfl,rfl,rfl⟩ h5)
  obtain ⟨c',j,rfl,hI',hG,hT',hL'⟩:=h5
  have hh5:=HH5.out (W0.drewN _) w5 c' ⟨rfl,rfl,rfl,rfl⟩ hG
  clear hI' hG hT' hL'
  go_wp2_with fail
  refine hK.out _ _ hh5 (fun hHeld=>?_)
  clear hK Kc
  try simp only [Act.put,List.setIfInBounds_toArray,List.set_cons_zero,List.set_cons_succ]
  refine wpAnyH_take (i:=18) (oi:=_) (v:=PtrB (c'.R j)) rfl (by kernel_rfl) (by kernel_rfl) (by kernel_rfl) (fun _ _ _ h=>h) (Or.inl ⟨by rfl,by intro w hSw;have hS0:=hSw.1;have hS1:=hSw.2.1;have hS2:=hSw.2.2.1;have hS3:=hSw.2.2.2.1;have hS4:=hSw.2.2.2.2;clear hSw;go_simp⟩) (by assumption) ?_
  try simp only [Act.put,List.setIfInBounds_toArray,List.set_cons_zero,List.set_cons_succ,List.getElem_toArray,List.getElem_cons_zero,List.getElem_cons_succ]
  refine wpAnyH_done (by kernel_rfl) ?_ _
  go_wp2_with fail
  go_ret
  exact HG5.out
end Go.Proofs.YtpoibdhhcbelnaaGreatDoor
namespace Go.Proofs.YtpoibdhhcbelnaaGreatDoor
open Go.Shelf Go.RowKit Go.Lib Brm
theorem MkI.uniq {w:World}{c:MC}{q i j:Nat}{e:RE}(h:MkI w c q)(hi:c.T[i]?=some e)(hj:c.T[j]?=some e):i=j:=by
  obtain ⟨f,_,hf⟩:=h.map
  have h1:=(hf e.name (c.R i)).2 ⟨i,e,hi,rfl,rfl⟩
  have h2:=(hf e.name (c.R j)).2 ⟨j,e,hj,rfl,rfl⟩
  rw [h1] at h2
  exact h.inj i j (List.getElem?_eq_some_iff.1 hi).1 (List.getElem?_eq_some_iff.1 hj).1 (Option.some.inj h2)
def PairOk (a:Nat):Prop:=∀ (w:World) (c:MC) (q b:Nat),MkI w c q->a<c.T.length->b<c.T.length->PowT w->q+(sz c.T a).n<=9000000000000000000 ->
  Calls Tryz.prog 187 #[PtrB c.m,PtrB (c.R a),PtrB (c.R b)] w (GivesL w c (q+(sz c.T a).n) (pairL (lg c.T a) (lg c.T b)) (pairM (sz c.T a) (sz c.T b)))
theorem GivesL.more {w:World}{c:MC}{q q':Nat}{L:Lg}{Z:Me}{r:Ending}{w':World}(h:GivesL w c q L Z r w')(hq:q<=q'):GivesL w c q' L Z r w':=by
  obtain ⟨c',j,h1,h2,h3⟩:=h
  exact ⟨c',j,h1,h2.more hq,h3⟩
set_option maxRecDepth 100000 in
set_option maxHeartbeats 8000000 in
theorem pair_row {w:World}{c:MC}{q a b a0 a1:Nat}(ih0:PairOk a0)(ih1:PairOk a1)(hI:MkI w c q)(ha:a<c.T.length)(hb:b<c.T.length)(hP:PowT w)(hq:q+(sz c.T a).n<=9000000000000000000)(h0:a≠0)(g0:b≠0)(h1:a≠1)(g1:b≠1)(hea:c.T[a]?=some (.pair a0 a1)) :
    Calls Tryz.prog 187 #[PtrB c.m,PtrB (c.R a),PtrB (c.R b)] w (GivesL w c (q+(sz c.T a).n) (pairL (lg c.T a) (lg c.T b)) (pairM (sz c.T a) (sz c.T b))):=by
  obtain ⟨eb,heb⟩:∃ e,c.T[b]?=some e:=⟨_,List.getElem?_eq_getElem hb⟩
  obtain ⟨paa,pca,ena,fva,hRa,hena,hpaa,hnSa⟩:=hI.look hea
  obtain ⟨pab,pcb,enb,fvb,hRb,henb,hpab,hnSb⟩:=hI.look heb
  obtain ⟨pa0,pc0,en0,fv0,hR0,_⟩:=hI.look hI.t0
  obtain ⟨pa1,pc1,en1,fv1,hR1,_⟩:=hI.look hI.t1
  have h0l:0<c.T.length:=(List.getElem?_eq_some_iff.1 hI.t0).1
  have h1l:1<c.T.length:=(List.getElem?_eq_some_iff.1 hI.t1).1
  obtain ⟨W0,hW0⟩:∃ W0,((w.alloc (.cells #[PtrB c.m] 151)).alloc (.cells #[PtrB (c.R a)] 159)).alloc (.cells #[PtrB (c.R b)] 159)=W0:=⟨_,rfl⟩
  have hB0:Below w.heap.size w W0:=by rw [<- hW0];exact (((Below.refl _ _).alloc (Nat.le_refl _) _).alloc (by simp) _).alloc (by simp;omega) _
  have hb1:Blk W0 w.heap.size [PtrB c.m] 151:=by rw [<- hW0];exact ((Blk.new w [PtrB c.m] 151).alloc _).alloc _
  have hb2:Blk W0 (w.heap.size+1) [PtrB (c.R a)] 159:=by rw [<- hW0];have:=(Blk.new (w.alloc (.cells #[PtrB c.m] 151)) [PtrB (c.R a)] 159).alloc (.cells #[PtrB (c.R b)] 159);simpa using this
  have hb3:Blk W0 (w.heap.size+2) [PtrB (c.R b)] 159:=by rw [<- hW0];have:=Blk.new ((w.alloc (.cells #[PtrB c.m] 151)).alloc (.cells #[PtrB (c.R a)] 159)) [PtrB (c.R b)] 159;simpa using this
  have c1:W0.cell? ⟨w.heap.size,0,none⟩=some (PtrB c.m):=hb1.cell 0
  have c2:W0.cell? ⟨w.heap.size+1,0,none⟩=some (PtrB (c.R a)):=hb2.cell 0
  have c3:W0.cell? ⟨w.heap.size+2,0,none⟩=some (PtrB (c.R b)):=hb3.cell 0
  have hm:=hI.mb.below hB0
  have c4:W0.cell? ⟨c.m,1,none⟩=some (PtrB (c.R 0)):=hm.cell 1
  have c5:W0.cell? ⟨c.m,2,none⟩=some (PtrB (c.R 1)):=hm.cell 2
  have hml:=hm.lt
  have HW0:=hide hW0
  have HB0:=hide hB0
  have HI:=hide hI
  have hRa0:=Blk.below hRa hB0
  have hRb0:=Blk.below hRb hB0
  have hR00:=Blk.below hR0 hB0
  have hR10:=Blk.below hR1 hB0
  have p0:c.R a≠c.R 0:=fun h=>h0 (hI.inj _ _ ha h0l h)
  have q0:=fun k=>ptr_other (hRa0.drewN k) (hR00.drewN k) p0
  have r0:=fun k l=>ptr_other ((hRa0.drewN k).drewN l) ((hR00.drewN k).drewN l) p0
  have s0:=fun k l j=>ptr_other (((hRa0.drewN k).drewN l).drewN j) (((hR00.drewN k).drewN l).drewN j) p0
  have p1:c.R b≠c.R 0:=fun h=>g0 (hI.inj _ _ hb h0l h)
  have q1:=fun k=>ptr_other (hRb0.drewN k) (hR00.drewN k) p1
  have r1:=fun k l=>ptr_other ((hRb0.drewN k).drewN l) ((hR00.drewN k).drewN l) p1
  have s1:=fun k l j=>ptr_other (((hRb0.drewN k).drewN l).drewN j) (((hR00.drewN k).drewN l).drewN j) p1
  have p2:c.R a≠c.R 1:=fun h=>h1 (hI.inj _ _ ha h1l h)
  have q2:=fun k=>ptr_other (hRa0.drewN k) (hR10.drewN k) p2
  have r2:=fun k l=>ptr_other ((hRa0.drewN k).drewN l) ((hR10.drewN k).drewN l) p2
  have s2:=fun k l j=>ptr_other (((hRa0.drewN k).drewN l).drewN j) (((hR10.drewN k).drewN l).drewN j) p2
  have p3:c.R b≠c.R 1:=fun h=>g1 (hI.inj _ _ hb h1l h)
  have q3:=fun k=>ptr_other (hRb0.drewN k) (hR10.drewN k) p3
  have r3:=fun k l=>ptr_other ((hRb0.drewN k).drewN l) ((hR10.drewN k).drewN l) p3
  have s3:=fun k l j=>ptr_other (((hRb0.drewN k).drewN l).drewN j) (((hR10.drewN k).drewN l).drewN j) p3
  have hps:=(hI.wf a _ hea).2
  have hl0:a0<c.T.length:=by have:=hps a0 (by simp [RE.parts]);omega
  have hl1:a1<c.T.length:=by have:=hps a1 (by simp [RE.parts]);omega
  have hsz:sz c.T a=pairM (sz c.T a0) (sz c.T a1):=sz_at hea hps
  have hszn:(sz c.T a).n=(sz c.T a0).n+(sz c.T a1).n:=by rw [hsz];rfl
  have hlg:lg c.T a=pairL (lg c.T a0) (lg c.T a1):=hI.lang hea
  obtain ⟨bb,off,rfl,hbb,hbS,hc0⟩:=hpaa 0 a0 rfl
  obtain ⟨bb',off',e',_,_,hc1⟩:=hpaa 1 a1 rfl
  cases e'
  rw [Nat.add_zero] at hc0
  obtain ⟨S,hS⟩:∃ S,w.heap.size=S:=⟨_,rfl⟩
  have y0:W0.cell? ⟨bb,off,none⟩=some (PtrB (c.R a0)):=(hB0.cell (p:=⟨bb,off,none⟩) hbb).trans hc0
  have y1:W0.cell? ⟨bb,off+1,none⟩=some (PtrB (c.R a1)):=(hB0.cell (p:=⟨bb,off+1,none⟩) hbb).trans hc1
  have x2a:W0.cell? ⟨c.R a,2,none⟩=some (.slice (some ⟨bb,off,none⟩) 2 pca):=hRa0.cell 2
  have x1a:W0.cell? ⟨c.R a,1,none⟩=some (.int .i64 1):=hRa0.cell 1
  have hla:=hRa0.lt
  have hbbl:bb<W0.heap.size:=Nat.lt_of_lt_of_le hbb hB0.size
  rw [hS] at hb1 hb2 hb3 c1 c2 c3
  have HV:Hid (∀ V:World,(V.heap=W0.heap/\V.os=W0.os/\V.tape=W0.tape/\V.output=W0.output)->Below W0.heap.size W0 V):=fun V hV=>⟨hV.2.1,hV.2.2.1,hV.2.2.2,by rw [hV.1];exact Nat.le_refl _,fun k _=>by rw [hV.1]⟩
  have HC1:Hid (∀ V:World,(V.heap=W0.heap/\V.os=W0.os/\V.tape=W0.tape/\V.output=W0.output)->Calls Tryz.prog 187 #[PtrB c.m,PtrB (c.R a1),PtrB (c.R b)] V (GivesL V c (q+(sz c.T a1).n) (pairL (lg c.T a1) (lg c.T b)) (pairM (sz c.T a1) (sz c.T b)))):=fun V hV=>ih1 V c q b ((hI.below hB0).below (HV.out V hV)) hl1 hb ((hP.below hB0).below (HV.out V hV)) (by omega)
  have HC2:Hid (∀ (V w5:World) (c5:MC) (j5:Nat),(V.heap=W0.heap/\V.os=W0.os/\V.tape=W0.tape/\V.output=W0.output)->MkI w5 c5 (q+(sz c.T a1).n)->Gone V c w5 c5->j5<c5.T.length->lg c5.T j5=pairL (lg c.T a1) (lg c.T b)->sz c5.T j5<=pairM (sz c.T a1) (sz c.T b) ->
      Calls Tryz.prog 187 #[PtrB c.m,PtrB (c.R a0),PtrB (c5.R j5)] w5 (fun r w6=>GivesL w c (q+(sz c.T a).n) (pairL (lg c.T a) (lg c.T b)) (pairM (sz c.T a) (sz c.T b)) r w6/\∃ c6,Gone V c w6 c6)):=fun V w5 c5 j5 hV hI5 hG5 hj5 hL5 hZ5=>by
    have hVb:=hB0.trans ((HV.out V hV).mono hB0.size)
    have hP5:PowT w5:=hG5.pow ((hI.below hB0).below (HV.out V hV)) ((hP.below hB0).below (HV.out V hV))
    have hlen:=hG5.len
    have hc:=ih0 w5 c5 (q+(sz c.T a1).n) j5 hI5 (by omega) hj5 hP5 (by rw [hG5.sz hl0];omega)
    rw [hG5.m,hG5.R a0 hl0,hG5.sz hl0,hG5.lang hl0] at hc
    refine hc.mono ?_
    rintro r w6 ⟨c6,j6,rfl,hI6,hG6,hj6,hL6,hZ6⟩
    refine ⟨⟨c6,j6,rfl,hI6.more (by omega),(Gone.below hVb).trans (hG5.trans hG6),hj6,?_,by rw [hsz,pairM_assoc];exact Me.trans hZ6 (pairM_mono (Me.refl _) hZ5)⟩,c6,hG5.trans hG6⟩
    rw [hL6,hL5,hlg,pair_assoc]
  have HH5:Hid (∀ (V w':World) (c':MC),(V.heap=W0.heap/\V.os=W0.os/\V.tape=W0.tape/\V.output=W0.output)->Gone V c w' c'->w'.cell? ⟨S,0,none⟩=some (PtrB c.m)/\w'.cell? ⟨S+1,0,none⟩=some (PtrB (c.R a))/\w'.cell? ⟨S+1+1,0,none⟩=some (PtrB (c.R b))/\w'.cell? ⟨c.R a,2,none⟩=some (.slice (some ⟨bb,off,none⟩) 2 pca)/\w'.cell? ⟨bb,off,none⟩=some (PtrB (c.R a0))/\w'.cell? ⟨bb,off+1,none⟩=some (PtrB (c.R a1))):=fun V w' c' hV hG=>by
    have nn:∀ g,S<=g->¬ c.S g:=fun g hg h=>by have:=hI.S_lt h;omega
    have key:∀ p:Addr,p.block<W0.heap.size->¬ c.S p.block->w'.cell? p=W0.cell? p:=fun p hp hn=>(hG.but.cell (p:=p) (by rw [hV.1];exact hp) hn).trans (World.cell?_of_block (w:=W0) (by rw [hV.1]))
    exact ⟨(key ⟨S,0,none⟩ hb1.lt (nn S (by omega))).trans c1,(key ⟨S+1,0,none⟩ hb2.lt (nn (S+1) (by omega))).trans c2,(key ⟨S+1+1,0,none⟩ hb3.lt (nn (S+1+1) (by omega))).trans c3,(key ⟨c.R a,2,none⟩ hla hnSa).trans x2a,(key ⟨bb,off,none⟩ hbbl hbS).trans y0,(key ⟨bb,off+1,none⟩ hbbl hbS).trans y1⟩
  have HH0:Hid (∀ V:World,(V.heap=W0.heap/\V.os=W0.os/\V.tape=W0.tape/\V.output=W0.output)->V.cell? ⟨S,0,none⟩=some (PtrB c.m)/\V.cell? ⟨S+1,0,none⟩=some (PtrB (c.R a))/\V.cell? ⟨S+1+1,0,none⟩=some (PtrB (c.R b))/\V.cell? ⟨c.R a,2,none⟩=some (.slice (some ⟨bb,off,none⟩) 2 pca)/\V.cell? ⟨bb,off,none⟩=some (PtrB (c.R a0))/\V.cell? ⟨bb,off+1,none⟩=some (PtrB (c.R a1))):=fun V hV=>HH5.out V V c hV (Gone.refl _ _)
  rw [<- hS] at c1 c2 c3
  have HSS:=hide hS
  have HLG:=hide hlg
  clear hI hRa hRb hR0 hR1 hRa0 hRb0 hR00 hR10 hB0 hb1 hb2 hb3 hm hW0 hpaa hpab hena henb hnSa hnSb hP hS hlg hsz hszn hps hc0 hc1 ih0 ih1 hq
  go_enter Tryz.func187,Tryz.ntmps187
  go_wp2_with fail
  rw [HW0.out]
  simp only [HSS.out] at c1 c2 c3 ⊢
  go_quiet (fail)
  go_wp2_with fail
  go_quiet (fail)
  go_wp2_with fail
  go_quiet (fail)
  go_wp2_with fail
  go_region_held3 (fun w'=>w'.cell? ⟨S,0,none⟩=some (PtrB c.m)/\w'.cell? ⟨S+1,0,none⟩=some (PtrB (c.R a))/\w'.cell? ⟨S+1+1,0,none⟩=some (PtrB (c.R b))/\w'.cell? ⟨c.R a,2,none⟩=some (.slice (some ⟨bb,off,none⟩) 2 pca)/\w'.cell? ⟨bb,off,none⟩=some (PtrB (c.R a0))/\w'.cell? ⟨bb,off+1,none⟩=some (PtrB (c.R a1)))
    (first | exact HH0.out _ ⟨rfl,rfl,rfl,rfl⟩ | exact hh5 | exact hh6)
    (first
      | (go_at_call 187;refine HC5.out.mono ?_;rintro r w6 ⟨h6,c7,hG7⟩;have H6:=hide h6;have hh6:=HH5.out (W0.drewN _) w6 c7 ⟨rfl,rfl,rfl,rfl⟩ hG7;obtain ⟨c6,j6,rfl,h7⟩:=h6;clear h7 hG7)
      | (go_at_call 187;refine (HC1.out (W0.drewN _) ⟨rfl,rfl,rfl,rfl⟩).mono ?_;rintro r w5 ⟨c5,j5,rfl,hI5,hG5,hj5,hL5,hZ5⟩;have hh5:=HH5.out (W0.drewN _) w5 c5 ⟨rfl,rfl,rfl,rfl⟩ hG5;have HC5:=hide (HC2.out (W0.drewN _) w5 c5 j5 ⟨rfl,rfl,rfl,rfl⟩ hI5 hG5 hj5 hL5 hZ5);have HG5:=hide hG5;clear hI5 hG5 hj5 hL5 hZ5))
  all_goals (go_wp2_with fail;go_ret;exact H6.out)
end Go.Proofs.YtpoibdhhcbelnaaGreatDoor
namespace Go.Proofs.YtpoibdhhcbelnaaGreatDoor
open Go.Shelf Go.RowKit Go.Lib Brm
theorem pair_all:∀ a,PairOk a:=by
  intro a
  induction a using Nat.strongRecOn with
  | ind a ih =>
    intro w c q b hI ha hb hP hq
    have hs:1<=(sz c.T a).n:=(hI.sz_one ha).1
    by_cases h0:a=0
    · exact (pair_a0 hI ha hb h0).mono (fun _ _ h=>h.more (by omega))
    by_cases g0:b=0
    · exact (pair_b0 hI ha hb h0 g0).mono (fun _ _ h=>h.more (by omega))
    by_cases h1:a=1
    · exact (pair_a1 hI ha hb h0 g0 h1).mono (fun _ _ h=>h.more (by omega))
    by_cases g1:b=1
    · exact (pair_b1 hI ha hb h0 g0 h1 g1).mono (fun _ _ h=>h.more (by omega))
    obtain ⟨e,he⟩:∃ e,c.T[a]?=some e:=⟨_,List.getElem?_eq_getElem ha⟩
    have keep:e.kd≠1->Calls Tryz.prog 187 #[PtrB c.m,PtrB (c.R a),PtrB (c.R b)] w (GivesL w c (q+(sz c.T a).n) (pairL (lg c.T a) (lg c.T b)) (pairM (sz c.T a) (sz c.T b))):=fun hk=>by
      have hk':∀ e',c.T[a]?=some e'->e'.kd≠1:=fun e' h=>by rw [he] at h;cases h;exact hk
      by_cases hen:lg c.T a []
      · exact (pair_keep1 hI (by omega) ha hb hP h0 g0 h1 g1 hk' hen).mono (fun _ _ h=>h.more (by omega))
      · exact (pair_keep0 hI (by omega) ha hb hP h0 g0 h1 g1 hk' hen).mono (fun _ _ h=>h.more (by omega))
    cases e with
    | empty=>exact absurd (hI.uniq he hI.t1) h1
    | pair a0 a1 =>
      have hp:=(hI.wf a _ he).2
      exact pair_row (ih a0 (hp a0 (by simp [RE.parts]))) (ih a1 (hp a1 (by simp [RE.parts]))) hI ha hb hP hq h0 g0 h1 g1 he
    | set s=>exact keep (by simp [RE.kd])
    | or l=>exact keep (by simp [RE.kd])
    | not a=>exact keep (by simp [RE.kd])
    | many a m n=>exact keep (by simp [RE.kd])
set_option maxRecDepth 100000 in
set_option maxHeartbeats 4000000 in
theorem mkmany_zero {w:World}{c:MC}{q a:Nat}{m:Int}(hI:MkI w c q):Calls Tryz.prog 141 #[PtrB c.m,PtrB (c.R a),.int .i64 m,.int .i64 0] w fun r w'=>r=.returned (PtrB (c.R 1))/\Below w.heap.size w w':=by
  have hm:=hI.mb
  have c5:w.cell? ⟨c.m,2,none⟩=some (PtrB (c.R 1)):=hm.cell 2
  have hml:=hm.lt
  have HB:=hide (show Below w.heap.size w ((((w.alloc (.cells #[PtrB c.m] 151)).alloc (.cells #[PtrB (c.R a)] 159)).alloc (.cells #[.int .i64 m] 3)).alloc (.cells #[.int .i64 0] 3)) from ((((Below.refl _ _).alloc (Nat.le_refl _) _).alloc (by simp) _).alloc (by simp;omega) _).alloc (by simp;omega) _)
  have n0:c.m≠w.heap.size:=by omega
  have n1:c.m≠w.heap.size+1:=by omega
  have c6:((((w.alloc (.cells #[PtrB c.m] 151)).alloc (.cells #[PtrB (c.R a)] 159)).alloc (.cells #[.int .i64 m] 3)).alloc (.cells #[.int .i64 0] 3)).cell? ⟨c.m,2,none⟩=some (PtrB (c.R 1)):=(HB.out.cell (p:=⟨c.m,2,none⟩) hml).trans c5
  clear hI hm
  go_enter Tryz.func141,Tryz.ntmps141
  go_wp2_with fail
  go_ret
  exact ⟨rfl,HB.out⟩
theorem mkmany_any {w:World}{c:MC}{q a:Nat}{m n:Int}(hI:MkI w c q)(hq:q<=9000000000000000000)(ha:a<c.T.length)(hP:PowT w)(hm0:0<=m)(hm5:m<=5)(hn:n=-1\/(m<=n/\n<=5)):Calls Tryz.prog 141 #[PtrB c.m,PtrB (c.R a),.int .i64 m,.int .i64 n] w (GivesL w c (q+1) (manyL (lg c.T a) m n) (manyM (sz c.T a))):=by
  by_cases h0:n=0
  · subst h0
    have hmz:m=0:=by omega
    refine (mkmany_zero hI).mono ?_
    rintro r w' ⟨rfl,hb⟩
    have h1l:1<c.T.length:=(List.getElem?_eq_some_iff.1 hI.t1).1
    exact ⟨c,1,rfl,(hI.below hb).more (by omega),Gone.below hb,h1l,by rw [hI.emp,many_zero hmz],by rw [hI.sz1];refine ⟨?_,?_,?_,?_⟩<;>simp only [manyM,oneM]<;>omega⟩
  · by_cases hmz:m=0
    · subst hmz
      exact mkmany_none hI hq ha hP (by omega)
    · exact mkmany_some hI hq ha hP (by omega) hm5 hn
end Go.Proofs.YtpoibdhhcbelnaaGreatDoor
namespace Go.Proofs.YtpoibdhhcbelnaaGreatDoor
open Go.Shelf Go.RowKit Go.Lib Brm
theorem owns_exact {w:World}{P:Program}{k:TypeId}{R:Value->Option (DataW Unit×List MemPlace)}{b n:Nat}{D:DataW Unit}(h:w.ownsMap P k R b n D):w.ownsMap P k R b (Maps.size D) D/\Maps.size D<=n:=by
  obtain ⟨es,clock,a1,a2,a3,rfl⟩:=h
  have e:Maps.size (DataW.map ((es.toList.map (WideElems.rg P k R)).foldr DataW.insert []))=es.size:=by
    show List.length (List.foldr DataW.insert [] _)=_
    rw [length_sorted];simp
  exact ⟨⟨es,clock,a1,a2,by omega,rfl⟩,by omega⟩
theorem MapI.storeAny {w:World}{b:Nat}{f:Int->Option Nat}{n:Nat}(h:MapI w b f n)(s:Int)(h0:-9223372036854775808<=s)(h9:s<=9223372036854775807)(hn:n<maxLen)(x:Nat) :
    ∃ w' n',(Instr.mapUpdate 289 (.map (some b)) (.int .i64 s) (.pointer (some ⟨x,0,none⟩))).run Tryz.prog w=.ok () w'/\MapI w' b (putI f s x) n'/\n'<=n+1/\w.mapTurned w' b:=by
  obtain ⟨D,h1,h2,h3⟩:=h
  obtain ⟨w',hrun,hown,ht⟩:=h1.store (t:=289) (e:=159) (Maps.int_keyed Tryz.underlying3) Tryz.underlying289 hn (key_int h0 h9) (RP_some x)
  have hm:=h1.isMap
  obtain ⟨hown',hle⟩:=owns_exact hown
  refine ⟨w',_,hrun,⟨_,hown',rfl,fun t=>?_⟩,hle,ht⟩
  unfold putI
  by_cases e:t=s
  · subst e
    rw [if_pos rfl]
    refine ⟨Maps.has_put_same hm (by trivial) _,fun y hy=>?_⟩
    cases hy
    exact Maps.atKey_put_same hm (by trivial) _ _
  · rw [if_neg e]
    have hne:(Lit.int .i64 t)≠.int .i64 s:=fun h=>e (by injection h)
    rw [Maps.has_put_other hne]
    exact ⟨(h3 t).1,fun y hy=>by rw [Maps.atKey_put_other hne];exact (h3 t).2 y hy⟩
theorem mk_know {w w':World}{c:MC}{q i j n:Nat}{r:Int}{g:Int->Option Nat}(hI:MkI w c q)(hi:i<c.T.length)(hj:j<c.T.length)(hg:∀ s x,g s=some x->∃ j,j<c.T.length/\x=c.R j/\lg c.T j=der (lg c.T i) s/\sz c.T j<=derM (sz c.T i))(hn:n<=q+1)(hL:lg c.T j=der (lg c.T i) r)(hZ:sz c.T j<=derM (sz c.T i))(ht:w.mapTurned w' (c.KM i))(hm:MapI w' (c.KM i) (putI g r (c.R j)) n):MkI w' c (q+1)/\Gone w c w' c:=by
  have hb:But c.S w w':=(But.refl c.S w).turned ht (.inl (.inr ⟨i,hi,rfl⟩))
  have hoth:∀ k,k<w.heap.size->k≠c.KM i->w'.heap[k]?=w.heap[k]?:=fun k hk hne=>ht.grown.block k hk (fun e=>by injection e with e;exact hne e)
  have hgone:Gone w c w' c:=⟨rfl,rfl,⟨[],by simp⟩,fun _ _=>rfl,fun _ _=>rfl,fun k h1 h2=>by omega,hb,rfl,fun g hg hx=>hoth g hg (fun e=>(hI.xs g hx).2 (.inr ⟨i,hi,e⟩))⟩
  refine ⟨?_,hgone⟩
  exact {
    mb:=hI.mb.but hb hI.ms
    ms:=hI.ms
    map:=by
      obtain ⟨f,h1,h2⟩:=hI.map
      exact ⟨f,h1.block (hoth _ h1.lt (fun e=>hI.kmb i hi e.symm)),h2⟩
    t0:=hI.t0
    t1:=hI.t1
    le:=by have:=hI.le;omega
    wf:=hI.wf
    rest:=fun k e hk=>(hI.rest k e hk).gone hgone (List.getElem?_eq_some_iff.1 hk).1 (fun a ha=>by have:=(hI.wf k e hk).2 a ha;have:=(List.getElem?_eq_some_iff.1 hk).1;omega)
    know:=fun k hk=>by
      by_cases e:k=i
      · subst e
        refine ⟨_,n,hm,by omega,fun s x hs=>?_⟩
        unfold putI at hs
        by_cases e2:s=r
        · rw [if_pos e2] at hs
          cases hs
          exact ⟨j,hj,rfl,by rw [e2];exact hL,hZ⟩
        · rw [if_neg e2] at hs
          exact hg s x hs
      · obtain ⟨g',n',h1,h2,h3⟩:=hI.know k hk
        exact ⟨g',n',h1.block (hoth _ h1.lt (fun h=>e (hI.kmi k i hk hi h))),by omega,h3⟩
    kmb:=hI.kmb
    kmi:=hI.kmi
    inj:=hI.inj
    low:=hI.low
    xs:=fun g hg=>⟨Nat.lt_of_lt_of_le (hI.xs g hg).1 hb.size,(hI.xs g hg).2⟩ }
set_option maxRecDepth 100000 in
set_option maxHeartbeats 4000000 in
theorem rst_rem {w:World}{c:MC}{q Q i k b F:Nat}{cp:Array Value}{r:Int}(hI:MkI w c q)(hi:i<c.T.length)(hq:Q<=9000000000000000000)(hqQ:q<=Q)(r0:-9223372036854775808<=r)(r9:r<=9223372036854775807)(hk:Blk w k [.map (some (c.KM i))] 289)(hb:Blk w b [.func (.func F) #[] cp] 167)(hkS:¬ c.S k)(eg:∀ args w,(callFunc F args).run Tryz.prog w=.ok (.enter F args) w)
    (hin:Calls Tryz.prog F (#[.int .i64 r]++cp) w (GivesL w c Q (der (lg c.T i) r) (derM (sz c.T i)))) :
    Calls Tryz.prog 220 #[.int .i64 r,PtrB k,PtrB b] w (GivesL w c (Q+1) (der (lg c.T i) r) (derM (sz c.T i))):=by
  obtain ⟨g,n,hM,hn,hg⟩:=hI.know i hi
  have hlook:=hM.look r r0 r9
  have k0:w.cell? ⟨k,0,none⟩=some (.map (some (c.KM i))):=hk.cell 0
  have b0:w.cell? ⟨b,0,none⟩=some (.func (.func F) #[] cp):=hb.cell 0
  have hkl:=hk.lt
  have hbl:=hb.lt
  cases hgr:g r with
  | some x =>
    obtain ⟨j,j1,rfl,j3,j4⟩:=hg r x hgr
    rw [hgr] at hlook
    have HG:Hid (GivesL w c (Q+1) (der (lg c.T i) r) (derM (sz c.T i)) (.returned (PtrB (c.R j))) w):=⟨c,j,rfl,hI.more (by omega),Gone.refl _ _,j1,j3,j4⟩
    clear hI hM hg hin hk hb hgr
    go_enter Tryz.func220,Tryz.ntmps220
    go_wp2_with fail
    go_ret
    exact HG.out
  | none =>
    rw [hgr] at hlook
    have HI:=hide hI
    have HIN:=hide hin
    have HK:=hide hk
    have HKS:=hide hkS
    have HGR:=hide hgr
    clear hI hM hg hin hk hb hgr hkS
    go_enter Tryz.func220,Tryz.ntmps220
    go_wp2_with fail
    refine HIN.out.mono ?_
    rintro e w5 ⟨c5,j5,rfl,hI5,hG5,hj5,hL5,hZ5⟩
    have hl5:i<c5.T.length:=by have:=hG5.len;omega
    obtain ⟨g5,n5,hM5,hn5,hg5⟩:=hI5.know i hl5
    rw [hG5.KM i hi] at hM5
    have k5:w5.cell? ⟨k,0,none⟩=some (.map (some (c.KM i))):=(hG5.but.cell (p:=⟨k,0,none⟩) hkl HKS.out).trans k0
    have hkl5:k<w5.heap.size:=Nat.lt_of_lt_of_le hkl hG5.but.size
    obtain ⟨w7,n7,hrun,hm7,hn7,ht7⟩:=hM5.storeAny r r0 r9 (by unfold maxLen;omega) (c5.R j5)
    have hN:MkI w7 c5 (Q+1)/\Gone w5 c5 w7 c5:=mk_know (j:=j5) (r:=r) (n:=n7) hI5 hl5 hj5 hg5 (by omega) (by rw [hL5,hG5.lang hi]) (by rw [hG5.sz hi];exact hZ5) (by rw [hG5.KM i hi];exact ht7) (by rw [hG5.KM i hi];exact hm7)
    have HR:Hid (GivesL w c (Q+1) (der (lg c.T i) r) (derM (sz c.T i)) (.returned (PtrB (c5.R j5))) w7):=⟨c5,j5,rfl,hN.1,hG5.trans hN.2,hj5,hL5,hZ5⟩
    clear hN hm7 hn7 ht7 hM5 hn5 hg5 hl5 hj5 hL5 hZ5 hI5 hG5
    go_wp2_with fail
    go_ret
    exact HR.out
end Go.Proofs.YtpoibdhhcbelnaaGreatDoor
namespace Go.Proofs.YtpoibdhhcbelnaaGreatDoor
open Go.Shelf Go.RowKit Go.Lib Brm
def FR (w:World)(x n:Nat)(kd:Int)(en:Bool)(F:Nat)(cp:Array Value)(k b mm:Nat):Prop:=RestB w x n kd none 0 0 en (.func (.func 220) #[] #[PtrB k,PtrB b])/\Blk w b [.func (.func F) #[] cp] 167/\Blk w k [.map (some mm)] 289/\w.heap[mm]?=some (.map #[] 0)
theorem FR.keep {w w':World}{x n:Nat}{kd:Int}{en:Bool}{F:Nat}{cp:Array Value}{k b mm:Nat}(h:FR w x n kd en F cp k b mm)(hk:∀ g,g=x\/g=k\/g=b\/g=mm->w'.heap[g]?=w.heap[g]?):FR w' x n kd en F cp k b mm :=
  ⟨(hk x (.inl rfl)).trans h.1,(hk b (.inr (.inr (.inl rfl)))).trans h.2.1,(hk k (.inr (.inl rfl))).trans h.2.2.1,(hk mm (.inr (.inr (.inr rfl)))).trans h.2.2.2⟩
theorem FR.lt {w:World}{x n:Nat}{kd:Int}{en:Bool}{F:Nat}{cp:Array Value}{k b mm:Nat}(h:FR w x n kd en F cp k b mm):x<w.heap.size/\k<w.heap.size/\b<w.heap.size/\mm<w.heap.size:=⟨Blk.lt h.1,h.2.2.1.lt,h.2.1.lt,(Array.getElem?_eq_some_iff.1 h.2.2.2).1⟩
set_option maxRecDepth 100000 in
set_option maxHeartbeats 4000000 in
theorem or_nil2 (m bm:Nat)(nn ee:Option Nat)(f:List UInt8->Option Nat)(n:Nat)(w:World)(hM:MS w m bm nn ee f n)(hP:PowT w)(hf:f name2=none)(hn:n<=1000000000) :
    Calls Tryz.prog 128 #[PtrB m,.slice none 0 0] w fun e w'=>∃ x k b mm l1 l2,e=.returned (PtrB x)/\But (fun k=>k=bm) w w'/\MS w' m bm nn ee (put f name2 x) (n+1)/\FR w' x n 2 false 177 #[PtrB l1,PtrB l2] k b mm/\Blk w' l1 [.slice none 0 0] 166/\Blk w' l2 [PtrB m] 151/\w.heap.size<=x/\w.heap.size<=k/\w.heap.size<=b/\w.heap.size<=mm/\w.heap.size<=l1/\w.heap.size<=l2:=by
  have HM:=hide hM
  have HP:=hide hP
  have HF:=hide hf
  obtain ⟨W0,hW0⟩:∃ W0,(w.alloc (.cells #[PtrB m] 151)).alloc (.cells #[.slice none 0 0] 166)=W0:=⟨_,rfl⟩
  have hB0:Below w.heap.size w W0:=by rw [<- hW0];exact ((Below.refl _ _).alloc (Nat.le_refl _) _).alloc (by simp) _
  have hb1:Blk W0 w.heap.size [PtrB m] 151:=by rw [<- hW0];exact (Blk.new w [PtrB m] 151).alloc _
  have hb2:Blk W0 (w.heap.size+1) [.slice none 0 0] 166:=by rw [<- hW0];have:=Blk.new (w.alloc (.cells #[PtrB m] 151)) [.slice none 0 0] 166;simpa using this
  have hs0:W0.heap.size=w.heap.size+2:=by rw [<- hW0];simp
  have HW0:=hide hW0
  have HB0:=hide hB0
  have c1:W0.cell? ⟨w.heap.size,0,none⟩=some (PtrB m):=hb1.cell 0
  have c2:W0.cell? ⟨w.heap.size+1,0,none⟩=some (.slice none 0 0):=hb2.cell 0
  have f2:=hb2.frozen 0
  have HB2:=hide hb2
  have HB1:=hide hb1
  clear hM hP hf hW0 hB0 hb2 hb1
  go_enter Tryz.func128,Tryz.ntmps128
  go_wp2_with fail
  rw [HW0.out]
  generalize hS:w.heap.size=S at *
  go_loopg [12] 1 (fun _ iv wr=>iv=.int .i64 0/\wr=W0)
  case atStart=>exact ⟨rfl,rfl⟩
  case round =>
    obtain ⟨rfl,hw⟩:=hrel
    subst hw
    go_wp2_with (first
      | (go_at_call 173;refine (sort_nil _ _).mono ?_;rintro e w' ⟨rfl,hw⟩;have hw8:=hw.symm;subst hw8;clear hw)
      | (go_at_call 176;refine (compact_nil _).mono ?_;rintro e w' ⟨rfl,hw⟩;have hw8:=hw.symm;subst hw8;clear hw)
      | (go_at_call 178;refine (contains_nil _ _).mono ?_;rintro e w' ⟨rfl,hw⟩;have hw8:=hw.symm;subst hw8;clear hw))
    have hBa:Below S w (wr.setCell ⟨S+1,0,none⟩ (.slice none 0 0)):=HB0.out.setCell (p:=⟨S+1,0,none⟩) (by show S<=S+1;omega) _
    have hsz:(wr.setCell ⟨S+1,0,none⟩ (.slice none 0 0)).heap.size=S+2:=by simpa [World.setCell] using hs0
    have hx:=Blk.new (wr.setCell ⟨S+1,0,none⟩ (.slice none 0 0)) [.int .i64 0,.int .i64 2,.slice none 0 0,.bool false,.func (.func 177) #[] #[PtrB (S+1),PtrB S]] 169
    rw [hsz] at hx
    have hl1:Blk ((wr.setCell ⟨S+1,0,none⟩ (.slice none 0 0)).alloc (.cells #[.int .i64 0,.int .i64 2,.slice none 0 0,.bool false,.func (.func 177) #[] #[PtrB (S+1),PtrB S]] 169)) (S+1) [.slice none 0 0] 166:=(HB2.out.set 0 _).alloc _
    have hl2:Blk ((wr.setCell ⟨S+1,0,none⟩ (.slice none 0 0)).alloc (.cells #[.int .i64 0,.int .i64 2,.slice none 0 0,.bool false,.func (.func 177) #[] #[PtrB (S+1),PtrB S]] 169)) S [PtrB m] 151:=(HB1.out.setOther (p:=⟨S+1,0,none⟩) (by show S≠S+1;omega) _).alloc _
    have hsw:((wr.setCell ⟨S+1,0,none⟩ (.slice none 0 0)).alloc (.cells #[.int .i64 0,.int .i64 2,.slice none 0 0,.bool false,.func (.func 177) #[] #[PtrB (S+1),PtrB S]] 169)).heap.size=S+3:=by simp [hsz]
    have hBb:Below S w ((wr.setCell ⟨S+1,0,none⟩ (.slice none 0 0)).alloc (.cells #[.int .i64 0,.int .i64 2,.slice none 0 0,.bool false,.func (.func 177) #[] #[PtrB (S+1),PtrB S]] 169)):=hBa.alloc (by rw [hsz];omega) _
    generalize (wr.setCell ⟨S+1,0,none⟩ (.slice none 0 0)).alloc (.cells #[.int .i64 0,.int .i64 2,.slice none 0 0,.bool false,.func (.func 177) #[] #[PtrB (S+1),PtrB S]] 169)=W1 at *
    have hBw:Below w.heap.size w W1:=by rw [hS];exact hBb
    have hM1:=HM.out.below hBw
    have hml:m<S:=by rw [<- hS];exact HM.out.1.lt
    have hbl:bm<S:=by rw [<- hS];exact HM.out.2.1.lt
    have hk:=keep_any2 m bm nn ee f n (S+2) 0 2 none 0 false 177 #[PtrB (S+1),PtrB S] none 0 [] [] (fun _=>0) W1 hM1 hx (by omega) (by omega) (IntsW.nil _ _) (PtsW.nil _ _ _) (HP.out.below hBw) (by decide) (by decide) (by decide) (by decide) (by omega)
    have hf2:f (nameOf 2 [] [])=none:=HF.out
    rw [List.map_nil,hf2] at hk
    refine hk.mono ?_
    rintro e w5 ⟨rfl,hbut,hM5,k,b,mm,hR,hge,hB,hK,hmm⟩
    have HALL:Hid (But (fun k=>k=bm) w w5/\MS w5 m bm nn ee (put f name2 (S+2)) (n+1)/\FR w5 (S+2) n 2 false 177 #[PtrB (S+1),PtrB S] k b mm/\Blk w5 (S+1) [.slice none 0 0] 166/\Blk w5 S [PtrB m] 151/\S<=S+2/\S<=k/\S<=b/\S<=mm/\S<=S+1/\S<=S) :=
      ⟨(But.below hBw).later hbut (fun i hi h=>by rcases h with h | h;omega;exact h),hM5,⟨hR,hB,hK,hmm⟩,hl1.but hbut (by omega),hl2.but hbut (by omega),by omega,by omega,by omega,by omega,by omega,by omega⟩
    clear hx hBa hsz hBb hM1 hk hbut hM5 hBw hl1 hl2 hR hge hB hK hmm hsw
    go_wp2
    go_ret
    refine ⟨S+2,k,b,mm,S+1,S,rfl,?_⟩
    rw [hS]
    exact HALL.out
def Mk2' (w:World)(S:Nat)(wx:World):Prop:=∃ x0 k0 b0 m0 l1 l2,MS wx (S+1) S (some x0) none (put (fun _=>none) name2 x0) 1/\FR wx x0 0 2 false 177 #[PtrB l1,PtrB l2] k0 b0 m0/\Blk wx l1 [.slice none 0 0] 166/\Blk wx l2 [PtrB (S+1)] 151/\S+3<=x0/\S+3<=k0/\S+3<=b0/\S+3<=m0/\S+3<=l1/\S+3<=l2/\Blk wx (S+2) [PtrB (S+1)] 151/\Below S w wx/\PowT wx
def Mk3' (w:World)(S:Nat)(wx:World):Prop:=∃ x0 k0 b0 m0 l1 l2 x1 k1 b1 m1,MS wx (S+1) S (some x0) (some x1) (put (put (fun _=>none) name2 x0) name1 x1) 2/\FR wx x0 0 2 false 177 #[PtrB l1,PtrB l2] k0 b0 m0/\FR wx x1 1 1 true 130 #[PtrB (S+2)] k1 b1 m1/\Blk wx l1 [.slice none 0 0] 166/\Blk wx l2 [PtrB (S+1)] 151/\S+3<=x0/\S+3<=m0/\x0<x1/\m0<m1/\Blk wx (S+2) [PtrB (S+1)] 151/\Below S w wx
theorem mk2'_step {w W0 W w5:World}{S x k b mm l1 l2:Nat}(hS:7<=S)(h0:Below S w W0)(hs0:W0.heap.size=S+3)(hP:PowT W0)(hb2:Blk W0 (S+2) [PtrB (S+1)] 151)(hB:Below W0.heap.size W0 W)(hbut:But (fun k=>k=S) W w5)
    (hM:MS w5 (S+1) S none none (put (fun _=>none) name2 x) 1) (hr:FR w5 x 0 2 false 177 #[PtrB l1,PtrB l2] k b mm) (hl1:Blk w5 l1 [.slice none 0 0] 166) (hl2:Blk w5 l2 [PtrB (S+1)] 151) (hge:W.heap.size<=x/\W.heap.size<=k/\W.heap.size<=b/\W.heap.size<=mm/\W.heap.size<=l1/\W.heap.size<=l2) :
    w5.cell? ⟨S+2,0,none⟩=some (PtrB (S+1))/\w5.cell? ⟨S+1,1,none⟩=some (.pointer none)/\w5.frozen? ⟨S+1,1,none⟩=false/\S+1<w5.heap.size/\Mk2' w S (w5.setCell ⟨S+1,1,none⟩ (PtrB x)):=by
  have hsz:=hB.size
  obtain ⟨g1,g2,g3,g4,g5,g6⟩:=hge
  have hb5:Blk w5 (S+2) [PtrB (S+1)] 151:=(hb2.below hB).but hbut (by omega)
  have hP5:PowT w5:=(hP.below hB).same fun i hi h7=>hbut.block i hi (by omega)
  have hoth:∀ g,g≠S+1->(w5.setCell ⟨S+1,1,none⟩ (PtrB x)).heap[g]?=w5.heap[g]?:=fun g hg=>Below.heap_setCell _ _ _ _ hg
  refine ⟨hb5.cell 0,hM.1.cell 1,hM.1.frozen 1,hM.1.lt,x,k,b,mm,l1,l2,⟨hM.1.set 1 _,hM.2.1.block (hoth _ (by omega)),by omega⟩,hr.keep (fun g hg=>hoth g (by omega)),(hoth _ (by omega)).trans hl1,(hoth _ (by omega)).trans hl2,by omega,by omega,by omega,by omega,by omega,by omega,(hoth _ (by omega)).trans hb5,?_,?_⟩
  · exact ((h0.trans (hB.mono (by omega))).trans (hbut.toBelow (fun k hk=>by omega) (by omega))).setCell (p:=⟨S+1,1,none⟩) (by show S<=S+1;omega) _
  · exact hP5.same fun i hi h7=>Below.heap_setCell _ _ _ _ (by show i≠S+1;omega)
theorem mk3'_call {w wc:World}{S:Nat}(h:Mk2' w S wc)(W:World)(hB:Below wc.heap.size wc W)(hx:Blk W wc.heap.size [.int .i64 0,.int .i64 1,.slice none 0 0,.bool true,.func (.func 130) #[] #[PtrB (S+1+1)]] 169) :
    Calls Tryz.prog 129 #[PtrB (S+1),PtrB wc.heap.size,.slice none 0 0] W fun e w5=>e=.returned (PtrB wc.heap.size)/\w5.cell? ⟨S+2,0,none⟩=some (PtrB (S+1))/\w5.cell? ⟨S+1,2,none⟩=some (.pointer none)/\w5.frozen? ⟨S+1,2,none⟩=false/\S+1<w5.heap.size /\
      Mk3' w S (w5.setCell ⟨S+1,2,none⟩ (PtrB wc.heap.size)):=by
  obtain ⟨x0,k0,b0,m0,l1,l2,hM,hr,hl1,hl2,g1,g2,g3,g4,g5,g6,hb2,hBw,hP⟩:=h
  have hlb:=hb2.lt
  obtain ⟨t1,t2,t3,t4⟩:=hr.lt
  have t5:=hl1.lt
  have t6:=hl2.lt
  have hWs:=Blk.lt hx
  have hk:=keep_any2 (S+1) S (some x0) none (put (fun _=>none) name2 x0) 1 wc.heap.size 0 1 none 0 true 130 #[PtrB (S+2)] none 0 [] [] (fun _=>0) W (hM.below hB) hx (by omega) (by omega) (IntsW.nil _ _) (PtsW.nil _ _ _) (hP.below hB) (by decide) (by decide) (by decide) (by decide) (by decide)
  rw [List.map_nil,show put (fun _=>none) name2 x0 (nameOf 1 [] [])=none from put_none name12 rfl] at hk
  refine hk.mono ?_
  rintro e w5 ⟨rfl,hbut,hM5,k,b,mm,hR,hge,hBb,hK,hmm⟩
  have hold:∀ g,g<wc.heap.size->g≠S->w5.heap[g]?=wc.heap[g]?:=fun g hg hn=>(hbut.block g (by omega) (by omega)).trans (hB.block g hg)
  have hoth:∀ g,g≠S+1->(w5.setCell ⟨S+1,2,none⟩ (PtrB wc.heap.size)).heap[g]?=w5.heap[g]?:=fun g hg=>Below.heap_setCell _ _ _ _ hg
  have hb5:Blk w5 (S+2) [PtrB (S+1)] 151:=(hold _ hlb (by omega)).trans hb2
  have hm5:=hM5.1
  refine ⟨rfl,hb5.cell 0,hm5.cell 2,hm5.frozen 2,hm5.lt,x0,k0,b0,m0,l1,l2,wc.heap.size,k,b,mm,⟨hm5.set 2 _,hM5.2.1.block (hoth _ (by omega)),by omega⟩,hr.keep (fun g hg=>(hoth g (by omega)).trans (hold g (by omega) (by omega))),FR.keep (w:=w5) ⟨hR,hBb,hK,hmm⟩ (fun g hg=>hoth g (by omega)),((hoth _ (by omega)).trans (hold _ t5 (by omega))).trans hl1,((hoth _ (by omega)).trans (hold _ t6 (by omega))).trans hl2,g1,g4,t1,by omega,(hoth _ (by omega)).trans hb5,?_⟩
  exact ((hBw.trans (hB.mono (by omega))).trans (hbut.toBelow (fun k hk=>by omega) (by omega))).setCell (p:=⟨S+1,2,none⟩) (by show S<=S+1;omega) _
theorem mk3'_mk {w wx:World}{S:Nat}(h7:7<=S)(hS:S<=wx.heap.size)(h:Mk3' w S wx):∃ c:MC,c.m=S+1/\MkI wx c 2/\(∀ g,c.S g->S<=g)/\(∀ g,¬ c.X g)/\Below S w wx:=by
  obtain ⟨x0,k0,b0,m0,l1,l2,x1,k1,b1,m1,hM,hr0,hr1,hl1,hl2,g1,g2,g3,g4,hb2,hB⟩:=h
  have n0:(RE.or []).name=name2:=rfl
  have n1:RE.empty.name=name1:=rfl
  obtain ⟨c,hc⟩:∃ c:MC,c=⟨S+1,S,[.or [],.empty],fun i=>if i=0 then x0 else x1,fun i=>if i=0 then m0 else m1,fun _=>False⟩:=⟨_,rfl⟩
  have hT:c.T=[.or [],.empty]:=by rw [hc]
  have hR0:c.R 0=x0:=by rw [hc];rfl
  have hR1:c.R 1=x1:=by rw [hc];rfl
  have hK0:c.KM 0=m0:=by rw [hc];rfl
  have hK1:c.KM 1=m1:=by rw [hc];rfl
  have hbm:c.bm=S:=by rw [hc]
  have hm:c.m=S+1:=by rw [hc]
  have hX:∀ g,¬ c.X g:=fun g=>by rw [hc];exact id
  have hMp:∀ g,c.Mp g↔g=S\/g=m0\/g=m1:=fun g=>by
    unfold MC.Mp
    rw [hbm,hT]
    constructor
    · rintro (h | ⟨i,hi,rfl⟩)
      · exact .inl h
      · match i,hi with
        | 0,_=>exact .inr (.inl hK0)
        | 1,_=>exact .inr (.inr hK1)
    · rintro (h | h | h)
      · exact .inl h
      · exact .inr ⟨0,by simp,by rw [hK0];exact h⟩
      · exact .inr ⟨1,by simp,by rw [hK1];exact h⟩
  have hSe:∀ g,c.S g↔g=S\/g=m0\/g=m1:=fun g=>by
    unfold MC.S
    rw [hMp]
    exact ⟨fun h=>h.elim id (fun h=>(hX g h).elim),.inl⟩
  have hcell:∀ {g:Nat} {cs:List Value} {T:TypeId},Blk wx g cs T->¬ c.S g:=fun {g cs T} hb hs=>by
    have hb':wx.heap[g]?=some (.cells cs.toArray T):=hb
    rcases (hSe g).1 hs with rfl | rfl | rfl
    · obtain ⟨D,⟨es,clock,e1,_⟩,_⟩:=hM.2.1
      rw [e1] at hb';cases hb'
    · rw [hr0.2.2.2] at hb';cases hb'
    · rw [hr1.2.2.2] at hb';cases hb'
  have hwf:∀ (i:Nat) (e:RE),c.T[i]?=some e->e.Wf/\∀ a∈e.parts,a<i:=fun i e hi=>by
    rw [hT] at hi
    match i,hi with
    | 0,hi=>simp at hi;subst hi;exact ⟨⟨by simp,by simp⟩,fun a ha=>by simp [RE.parts] at ha⟩
    | 1,hi=>simp at hi;subst hi;exact ⟨trivial,fun a ha=>by simp [RE.parts] at ha⟩
    | i+2,hi=>simp at hi
  refine ⟨c,hm,?_,fun g hg=>?_,hX,hB⟩
  · exact {
      mb:=by rw [hm,hbm,hR0,hR1];exact hM.1
      ms:=hcell (by rw [hm];exact hM.1)
      map:=by
        refine ⟨put (put (fun _=>none) name2 x0) name1 x1,by rw [hbm,hT];exact hM.2.1,fun s x=>?_⟩
        unfold put
        rw [hT]
        constructor
        · intro h
          by_cases e1:s=name1
          · rw [if_pos e1] at h
            injection h with h
            exact ⟨1,.empty,rfl,by rw [e1];rfl,by rw [hR1,h]⟩
          · rw [if_neg e1] at h
            by_cases e2:s=name2
            · rw [if_pos e2] at h
              injection h with h
              exact ⟨0,.or [],rfl,by rw [e2];rfl,by rw [hR0,h]⟩
            · rw [if_neg e2] at h;cases h
        · rintro ⟨i,e,hi,rfl,rfl⟩
          match i,hi with
          | 0,hi =>
            simp at hi;subst hi
            rw [n0,if_neg (fun h=>name12 h.symm),if_pos rfl,hR0]
          | 1,hi =>
            simp at hi;subst hi
            rw [n1,if_pos rfl,hR1]
          | i+2,hi=>simp at hi
      t0:=by rw [hT];rfl
      t1:=by rw [hT];rfl
      le:=by rw [hT];exact Nat.le_refl _
      wf:=hwf
      rest:=fun i e hi=>by
        have hlg:=lg_at hi (hwf i e hi).2
        have hi':=hi
        rw [hT] at hi'
        match i,hi' with
        | 0,hi' =>
          simp at hi';subst hi'
          refine ⟨none,0,false,k0,b0,177,#[PtrB l1,PtrB l2],by rw [hR0];exact hr0.1,?_,fun j p hj=>by simp [RE.parts] at hj,by rw [hR0];exact hcell hr0.1,hcell hr0.2.2.1,hcell hr0.2.1,by rw [hK0];exact hr0.2.2.1,hr0.2.1,l1,l2,none,0,rfl,rfl,hcell hl1,hcell hl2,hl1,by rw [hm];exact hl2,fun j p hj=>by simp at hj⟩
          rw [hlg]
          simp [RE.lang]
        | 1,hi' =>
          simp at hi';subst hi'
          refine ⟨none,0,true,k1,b1,130,#[PtrB (S+2)],by rw [hR1];exact hr1.1,?_,fun j p hj=>by simp [RE.parts] at hj,by rw [hR1];exact hcell hr1.1,hcell hr1.2.2.1,hcell hr1.2.1,by rw [hK1];exact hr1.2.2.1,hr1.2.1,S+2,rfl,rfl,hcell hb2,by rw [hm];exact hb2⟩
          rw [hlg]
          simp [RE.lang]
        | i+2,hi'=>simp at hi'
      know:=fun i hi=>by
        rw [hT] at hi
        match i,hi with
        | 0,_=>exact ⟨fun _=>none,0,by rw [hK0];exact MapI.fresh hr0.2.2.2,by omega,fun r y hr=>by cases hr⟩
        | 1,_=>exact ⟨fun _=>none,0,by rw [hK1];exact MapI.fresh hr1.2.2.2,by omega,fun r y hr=>by cases hr⟩
      kmb:=fun i hi=>by
        rw [hT] at hi
        rw [hbm]
        match i,hi with
        | 0,_=>rw [hK0];omega
        | 1,_=>rw [hK1];omega
      kmi:=fun i j hi hj h=>by
        rw [hT] at hi hj
        match i,j,hi,hj with
        | 0,0,_,_=>rfl
        | 1,1,_,_=>rfl
        | 0,1,_,_=>rw [hK0,hK1] at h;omega
        | 1,0,_,_=>rw [hK0,hK1] at h;omega
      inj:=fun i j hi hj h=>by
        rw [hT] at hi hj
        match i,j,hi,hj with
        | 0,0,_,_=>rfl
        | 1,1,_,_=>rfl
        | 0,1,_,_=>rw [hR0,hR1] at h;omega
        | 1,0,_,_=>rw [hR0,hR1] at h;omega
      low:=fun g hg=>by
        rcases (hSe g).1 hg with rfl | rfl | rfl<;>omega
      xs:=fun g hg=>(hX g hg).elim }
  · rcases (hSe g).1 hg with rfl | rfl | rfl<;>omega
set_option maxRecDepth 100000 in
set_option maxHeartbeats 4000000 in
theorem newMaker_mk (w:World)(hP:PowT w)(h7:7<=w.heap.size):Calls Tryz.prog 89 #[] w fun e w'=>∃ c:MC,e=.returned (PtrB c.m)/\MkI w' c 2/\(∀ g,c.S g->w.heap.size<=g)/\(∀ g,¬ c.X g)/\w.heap.size<=c.m/\Below w.heap.size w w':=by
  have hmm:=@run_makeMap Tryz.prog
  obtain ⟨W0,hW0⟩:∃ W0,((w.alloc (.map #[] 0)).alloc (.cells #[.map (some w.heap.size),.pointer none,.pointer none] 224)).alloc (.cells #[PtrB (w.heap.size+1)] 151)=W0:=⟨_,rfl⟩
  have hB0:Below w.heap.size w W0:=by rw [<- hW0];exact (((Below.refl _ _).alloc (Nat.le_refl _) _).alloc (by simp) _).alloc (by simp;omega) _
  have hmp:MapN W0 w.heap.size (fun _=>none) 0:=by rw [<- hW0];exact (MapN.made w).below (((Below.refl _ _).alloc (by simp) _).alloc (by simp) _)
  have hb1:Blk W0 (w.heap.size+1) [.map (some w.heap.size),.pointer none,.pointer none] 224:=by
    rw [<- hW0];have:=(Blk.new (w.alloc (.map #[] 0)) [.map (some w.heap.size),.pointer none,.pointer none] 224).alloc (.cells #[PtrB (w.heap.size+1)] 151);simpa using this
  have hb2:Blk W0 (w.heap.size+2) [PtrB (w.heap.size+1)] 151:=by
    rw [<- hW0];have:=Blk.new ((w.alloc (.map #[] 0)).alloc (.cells #[.map (some w.heap.size),.pointer none,.pointer none] 224)) [PtrB (w.heap.size+1)] 151;simpa using this
  have hs0:W0.heap.size=w.heap.size+3:=by rw [<- hW0];simp
  have hMS:MS W0 (w.heap.size+1) w.heap.size none none (fun _=>none) 0:=⟨hb1,hmp,by omega⟩
  have c2:W0.cell? ⟨w.heap.size+2,0,none⟩=some (PtrB (w.heap.size+1)):=hb2.cell 0
  have HW0:=hide hW0
  have HB0:=hide hB0
  have HB2:=hide hb2
  have HPW:=hide (hP.below hB0)
  have HMS:=hide hMS
  clear hW0 hB0 hmp hb1 hb2 hMS hP
  go_enter Tryz.func89,Tryz.ntmps89
  go_wp2_with fail
  rw [HW0.out]
  generalize hS:w.heap.size=S at *
  have HOR:=hide (fun (w':World) (hb:Below W0.heap.size W0 w')=>or_nil2 (S+1) S none none _ 0 w' (HMS.out.below hb) (HPW.out.below hb) rfl (by decide))
  have HST:=hide (fun (W w5:World) (x k b mm l1 l2:Nat)=>mk2'_step (w:=w) (W0:=W0) (W:=W) (w5:=w5) (S:=S) (x:=x) (k:=k) (b:=b) (mm:=mm) (l1:=l1) (l2:=l2) h7 HB0.out hs0 HPW.out HB2.out)
  go_cut [] (fun wx=>Mk2' w S wx)
  case first =>
    go_region_with (go_at_call 128;refine (HOR.out _ (by first | exact (Below.refl _ _).drew | exact below_drawn (Below.refl _ _) | exact Below.refl _ _)).mono ?_;rintro e w5 ⟨x,k,b,mm,l1,l2,rfl,hbut,hM5,hr5,hl1,hl2,hge⟩;obtain ⟨e2,e3,e4,e5,h5⟩:=HST.out _ w5 x k b mm l1 l2 (by first | exact (Below.refl _ _).drew | exact below_drawn (Below.refl _ _) | exact Below.refl _ _) hbut hM5 hr5 hl1 hl2 hge;have H5:=hide h5;clear hbut hM5 hr5 hl1 hl2 hge h5)
    all_goals go_wp2_with fail
    all_goals go_meet
    all_goals exact H5.out
  case rest =>
    have hb2:Blk wc (S+2) [PtrB (S+1)] 151:=by obtain ⟨x0,k0,b0,m0,l1,l2,hM,hr,hl1,hl2,g1,g2,g3,g4,g5,g6,hb2,hBw,hP⟩:=hcut;exact hb2
    have e1:wc.cell? ⟨S+2,0,none⟩=some (PtrB (S+1)):=hb2.cell 0
    have HKP:=hide (mk3'_call hcut)
    have hlt2:=hb2.lt
    clear hcut hb2 HOR HST
    go_upto_region 3 with fail
    go_cut [] (fun wx=>Mk3' w S wx)
    case first =>
      go_region_with (go_at_call 129;refine (HKP.out _ (by first | exact ((Below.refl _ wc).alloc (Nat.le_refl _) _).drew | exact (Below.refl _ wc).drew.alloc (Nat.le_refl _) _) (by first | exact (Blk.new wc _ _).drew | exact Blk.new wc.drew _ _)).mono ?_;rintro e w5 ⟨rfl,e2,e3,e4,e5,h5⟩;have H5:=hide h5;clear h5)
      all_goals go_wp2_with fail
      all_goals go_meet
      all_goals exact H5.out
    case rest =>
      obtain ⟨c,hcm,hmk,hge,hX,hB⟩:=mk3'_mk h7 (by obtain ⟨x0,k0,b0,m0,l1,l2,x1,k1,b1,m1,hM,hr0,hr1,hl1,hl2,g1,g2,g3,g4,hb2,hB⟩:=hcut;have:=hb2.lt;omega) hcut
      have hb2:Blk wc (S+2) [PtrB (S+1)] 151:=by obtain ⟨x0,k0,b0,m0,l1,l2,x1,k1,b1,m1,hM,hr0,hr1,hl1,hl2,g1,g2,g3,g4,hb2,hB⟩:=hcut;exact hb2
      have e2:wc.cell? ⟨S+2,0,none⟩=some (PtrB (S+1)):=hb2.cell 0
      have HMK:=hide hmk
      have HBF:=hide hB
      have HGE:=hide hge
      have HXX:=hide hX
      clear hmk hb2 hB hcut hge hX
      go_wp2_with fail
      go_ret
      refine ⟨c,?_,HMK.out,?_,HXX.out,by omega,?_⟩
      · rw [hcm];rfl
      · rw [hS];exact HGE.out
      · rw [hS];exact HBF.out
end Go.Proofs.YtpoibdhhcbelnaaGreatDoor
