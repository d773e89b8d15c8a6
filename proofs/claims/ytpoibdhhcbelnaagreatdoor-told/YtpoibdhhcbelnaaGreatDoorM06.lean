/- Walks and plain laws, some texts in one. -/
import Derived.WalkKit
import Derived.WalkSpells
import Derived.WalkLawsBesides
import Derived.Test.YtpoibdhhcbelnaaGreatDoorProg
import Derived.Maps.OwnSet
import Derived.Test.YtpoibdhhcbelnaaGreatDoorM02
import Derived.Test.YtpoibdhhcbelnaaGreatDoorM01
import Derived.Test.YtpoibdhhcbelnaaGreatDoorM05
namespace Go.Proofs.YtpoibdhhcbelnaaGreatDoor
open Go.RowKit
theorem hide {p:Prop}(h:p):Hid p:=h
theorem unhide {p:Prop}(h:Hid p):p:=h
theorem ret_bool {a b:Bool}(h:a=b):Ending.returned (.bool a)=.returned (.bool b):=by rw [h]
theorem ret_int {k:IntKind}{a b:Int}(h:a=b):Ending.returned (.int k a)=.returned (.int k b):=by rw [h]
def Rd (w:World)(ao:Option Addr)(l:List (Int×Int)):Prop :=
  ∀ i x,l[i]?=some x->∃ b off,ao=some ⟨b,off,none⟩/\b<w.heap.size /\
    w.cell? ⟨b,off+i*2,none⟩=some (.int .i64 x.1)/\w.cell? ⟨b,off+i*2+1,none⟩=some (.int .i64 x.2)
theorem Rd.below {w w':World}{ao:Option Addr}{l:List (Int×Int)}(h:Rd w ao l)(hb:Below w.heap.size w w'):Rd w' ao l:=by
  intro i x hx
  obtain ⟨b,off,ha,hlt,h1,h2⟩:=h i x hx
  exact ⟨b,off,ha,Nat.lt_of_lt_of_le hlt hb.size,(hb.cell (p:=⟨b,_,none⟩) hlt).trans h1,(hb.cell (p:=⟨b,_,none⟩) hlt).trans h2⟩
set_option maxRecDepth 100000 in
set_option maxHeartbeats 400000 in
theorem isRune_any (r:Int)(w:World):Calls Tryz.prog 233 #[.int .i64 r] w fun e w'=>e=.returned (.bool (Brm.runeB r))/\w'=w:=by
  go_enter Tryz.func233,Tryz.ntmps233
  go_wp2
  all_goals (go_ret;exact ⟨ret_bool (by rw [Bool.eq_iff_iff];simp [Brm.runeB];omega),rfl⟩)
set_option maxRecDepth 100000 in
set_option maxHeartbeats 400000 in
theorem after_any (r:Int)(w:World)(h0:0<=r)(h1:r<=1114111):Calls Tryz.prog 131 #[.int .i64 r] w fun e w'=>e=.returned (.int .i64 (Brm.after r))/\w'=w:=by
  by_cases hc:r=55295
  · subst hc
    go_enter Tryz.func131,Tryz.ntmps131
    go_wp2
    go_ret
    exact ⟨rfl,rfl⟩
  · have hb:(r == 55295)=false:=beq_eq_false_iff_ne.2 hc
    have HC:Hid (¬ r=55295):=hc
    clear hc
    go_enter Tryz.func131,Tryz.ntmps131
    go_wp2
    go_ret
    exact ⟨ret_int (by unfold Brm.after;rw [if_neg HC.out]),rfl⟩
set_option maxRecDepth 100000 in
set_option maxHeartbeats 400000 in
theorem before_any (r:Int)(w:World)(h0:0<=r)(h1:r<=1114111):Calls Tryz.prog 211 #[.int .i64 r] w fun e w'=>e=.returned (.int .i64 (Brm.before r))/\w'=w:=by
  by_cases hc:r=57344
  · subst hc
    go_enter Tryz.func211,Tryz.ntmps211
    go_wp2
    go_ret
    exact ⟨rfl,rfl⟩
  · have hb:(r == 57344)=false:=beq_eq_false_iff_ne.2 hc
    have HC:Hid (¬ r=57344):=hc
    clear hc
    go_enter Tryz.func211,Tryz.ntmps211
    go_wp2
    go_ret
    exact ⟨ret_int (by unfold Brm.before;rw [if_neg HC.out]),rfl⟩
end Go.Proofs.YtpoibdhhcbelnaaGreatDoor
namespace Go.Proofs.YtpoibdhhcbelnaaGreatDoor
open Go.RowKit
def cellsR (l:List (Int×Int)):List Value:=l.flatMap fun x=>[.int .i64 x.1,.int .i64 x.2]
theorem cellsR_append (a b:List (Int×Int)):cellsR (a++b)=cellsR a++cellsR b:=by simp [cellsR]
theorem cellsR_length (a:List (Int×Int)):(cellsR a).length=a.length*2:=by
  induction a with
  | nil=>rfl
  | cons x t ih=>simp only [cellsR,List.flatMap_cons,List.length_append,List.length_cons,List.length_nil] at *;omega
theorem Tryz.info149:(Tryz.prog.info? 149).map (fun i=>(i.zero,i.size,i.bytes))=some (some (.agg #[.int .i64 0,.int .i64 0]),2,16):=by kernel_rfl
theorem Below.keep {B:Nat}{w W w1:World}{v:Value}{n:Nat}{xs:List Value}(hb:Below B w W)(hB:B<=W.heap.size)(ho:W.ownsRow B 149 2 v n xs)(hg:W.grownBy w1 v.ownBlock):Below B w w1 :=
  hb.grown hg hB fun k e=>(ho.lt k e).1
theorem runes_take {l:List (Int×Int)}{k:Nat}{x:Int×Int}(hx:l[k]?=some x):Brm.runes (l.take (k+1))=Brm.runes (l.take k)++if Brm.riseB (Brm.clip x)=true then [Brm.clip x] else []:=by
  rw [List.take_add_one,hx];exact Brm.runes_snoc _ _
theorem runes_drop {l:List (Int×Int)}{k:Nat}{x:Int×Int}(hx:l[k]?=some x)(h:¬ (Brm.clip x).1<=(Brm.clip x).2):Brm.runes (l.take (k+1))=Brm.runes (l.take k):=by
  rw [runes_take hx,if_neg (by rw [Brm.rise_iff];exact h)];simp
theorem runes_keep {l:List (Int×Int)}{k:Nat}{x y:Int×Int}(hx:l[k]?=some x)(hy:Brm.clip x=y)(h:y.1<=y.2):Brm.runes (l.take (k+1))=Brm.runes (l.take k)++[y]:=by
  rw [runes_take hx,hy,if_pos (by rw [Brm.rise_iff];exact h)]
theorem own_snoc {w:World}{B:Nat}{v:Value}{a c:List (Int×Int)}{y:Int×Int}(h:w.ownsRow B 149 2 v (a.length+1) (cellsR a++[.int .i64 y.1,.int .i64 y.2]))(e:c=a++[y]):w.ownsRow B 149 2 v c.length (cellsR c):=by
  subst e
  rw [cellsR_append,List.length_append]
  exact h
theorem new_cells (w:World)(o:Obj)(y1 y2:Int):∀ j u,[Value.int .i64 y1,Value.int .i64 y2][j]?=some u->((w.alloc o).alloc (.cells #[.int .i64 y1,.int .i64 y2] 149)).cell? ((⟨w.heap.size+1,0,none⟩:Addr).add j)=some u:=by
  intro j u hj
  match j,hj with
  | 0,hj=>simp at hj;subst hj;simp [Addr.add]
  | 1,hj=>simp at hj;subst hj;simp [Addr.add]
theorem new_one (y1 y2:Int):∀ u∈[Value.int .i64 y1,Value.int .i64 y2],u.oneCell'=true:=by
  intro u hu;simp at hu;rcases hu with rfl | rfl<;>rfl
theorem own_same {w:World}{B:Nat}{v:Value}{a c:List (Int×Int)}(h:w.ownsRow B 149 2 v a.length (cellsR a))(e:c=a):w.ownsRow B 149 2 v c.length (cellsR c):=by
  subst e;exact h
set_option maxRecDepth 100000 in
set_option maxHeartbeats 400000 in
theorem runesOnly_any (ao:Option Addr)(l:List (Int×Int))(cap:Nat)(w:World)(hcells:Rd w ao l)(hlen:l.length<=1000000) :
    Calls Tryz.prog 242 #[.slice ao l.length cap] w fun e w'=>∃ v,e=.returned v/\w'.ownsRow w.heap.size 149 2 v (Brm.runes l).length (cellsR (Brm.runes l))/\Below w.heap.size w w':=by
  have HC:=hide hcells;clear hcells
  obtain ⟨i0,hi,hz0,hz1,hz2⟩:=info_parts Tryz.info149
  go_enter Tryz.func242,Tryz.ntmps242
  go_wp2
  go_loopw [3,8] (fun v i wr=>∃ k:Nat,k<=l.length/\i=.int .i64 k/\wr.ownsRow w.heap.size 149 2 v (Brm.runes (l.take k)).length (cellsR (Brm.runes (l.take k)))/\Below w.heap.size w wr) (fun _ i _=>l.length-(intOf i).toNat)
  case atStart=>exact ⟨0,Nat.zero_le _,rfl,World.ownsRow_nil _ _ _ _,Below.refl _ _⟩
  case round =>
    obtain ⟨k,hk,rfl,hown,hbel⟩:=hrel
    have hsz:=hbel.size
    by_cases hlt:k<l.length
    · obtain ⟨b,off,rfl,hb,h1,h2⟩:=unhide HC k l[k] (List.getElem?_eq_getElem hlt)
      generalize hx:l[k]=x at h1 h2
      have HX:Hid (l[k]?=some x):=by rw [List.getElem?_eq_getElem hlt,hx];rfl
      clear hx
      obtain ⟨x1,x2⟩:=x
      simp only at h1 h2
      rw [<- hbel.cell (p:=⟨b,_,none⟩) hb] at h1 h2
      have hkl:(Brm.runes (l.take k)).length<=1000000:=by have:=Brm.runes_length (l.take k);simp at this;omega
      by_cases r1:Brm.runeB x1=true
      · by_cases r2:Brm.runeB x2=true
        · have HY:Hid (Brm.clip (x1,x2)=(x1,x2)):=by show Brm.clip (x1,x2)=(x1,x2);simp [Brm.clip,r1,r2]
          by_cases hle:(x1:Int)<=x2
          · go_wp2_with (first
              | (at_builtin;refine wpList_append_own _ rfl _ _ 29 rfl w.heap.size 149 i0 (.agg #[.int .i64 0,.int .i64 0]) 2 16 Tryz.underlying29 hi hz0 hz1 hz2 rfl (by decide) _ _ _ rfl ((hown.alloc _).alloc _) ⟨wr.heap.size+1,0,none⟩ 1 1 [.int .i64 x1,.int .i64 x2] rfl rfl (new_cells _ _ _ _) (new_one _ _) (by unfold maxLen;omega) (by omega) (by simp;omega) ?_;intro v' w1 hown' hgrow _)
              | (go_at_call 233;refine (isRune_any _ _).mono ?_;rintro e w' ⟨rfl,rfl⟩))
            have R1:=own_snoc (y:=(x1,x2)) hown' (runes_keep HX.out HY.out (by simpa using hle))
            have R2:=Below.keep ((hbel.alloc (by omega) _).alloc (by simp;omega) _) (by simp;omega) ((hown.alloc _).alloc _) hgrow
            clear hown' hgrow hown hbel
            go_wp2
            go_roundw
            case rel=>exact ⟨k+1,by omega,by go_num,R1,R2⟩
            case measure=>simp [intOf];omega
          · go_wp2_with (go_at_call 233;refine (isRune_any _ _).mono ?_;rintro e w' ⟨rfl,rfl⟩)
            go_roundw
            case rel=>exact ⟨k+1,by omega,by go_num,own_same (hown.alloc _) (runes_drop HX.out (by rw [HY.out];simp only;omega)),hbel.alloc (by omega) _⟩
            case measure=>simp [intOf];omega
        · have HY:Hid (Brm.clip (x1,x2)=(x1,55295)):=by show Brm.clip (x1,x2)=(x1,55295);simp [Brm.clip,r1,r2]
          by_cases hle:(x1:Int)<=55295
          · go_wp2_with (first
              | (at_builtin;refine wpList_append_own _ rfl _ _ 29 rfl w.heap.size 149 i0 (.agg #[.int .i64 0,.int .i64 0]) 2 16 Tryz.underlying29 hi hz0 hz1 hz2 rfl (by decide) _ _ _ rfl ((hown.alloc _).alloc _) ⟨wr.heap.size+1,0,none⟩ 1 1 [.int .i64 x1,.int .i64 55295] rfl rfl (new_cells _ _ _ _) (new_one _ _) (by unfold maxLen;omega) (by omega) (by simp;omega) ?_;intro v' w1 hown' hgrow _)
              | (go_at_call 233;refine (isRune_any _ _).mono ?_;rintro e w' ⟨rfl,rfl⟩))
            have R1:=own_snoc (y:=(x1,55295)) hown' (runes_keep HX.out HY.out (by simpa using hle))
            have R2:=Below.keep ((hbel.alloc (by omega) _).alloc (by simp;omega) _) (by simp;omega) ((hown.alloc _).alloc _) hgrow
            clear hown' hgrow hown hbel
            go_wp2
            go_roundw
            case rel=>exact ⟨k+1,by omega,by go_num,R1,R2⟩
            case measure=>simp [intOf];omega
          · go_wp2_with (go_at_call 233;refine (isRune_any _ _).mono ?_;rintro e w' ⟨rfl,rfl⟩)
            go_roundw
            case rel=>exact ⟨k+1,by omega,by go_num,own_same (hown.alloc _) (runes_drop HX.out (by rw [HY.out];simp only;omega)),hbel.alloc (by omega) _⟩
            case measure=>simp [intOf];omega
      · by_cases r2:Brm.runeB x2=true
        · have HY:Hid (Brm.clip (x1,x2)=(57344,x2)):=by show Brm.clip (x1,x2)=(57344,x2);simp [Brm.clip,r1,r2]
          by_cases hle:(57344:Int)<=x2
          · go_wp2_with (first
              | (at_builtin;refine wpList_append_own _ rfl _ _ 29 rfl w.heap.size 149 i0 (.agg #[.int .i64 0,.int .i64 0]) 2 16 Tryz.underlying29 hi hz0 hz1 hz2 rfl (by decide) _ _ _ rfl ((hown.alloc _).alloc _) ⟨wr.heap.size+1,0,none⟩ 1 1 [.int .i64 57344,.int .i64 x2] rfl rfl (new_cells _ _ _ _) (new_one _ _) (by unfold maxLen;omega) (by omega) (by simp;omega) ?_;intro v' w1 hown' hgrow _)
              | (go_at_call 233;refine (isRune_any _ _).mono ?_;rintro e w' ⟨rfl,rfl⟩))
            have R1:=own_snoc (y:=(57344,x2)) hown' (runes_keep HX.out HY.out (by simpa using hle))
            have R2:=Below.keep ((hbel.alloc (by omega) _).alloc (by simp;omega) _) (by simp;omega) ((hown.alloc _).alloc _) hgrow
            clear hown' hgrow hown hbel
            go_wp2
            go_roundw
            case rel=>exact ⟨k+1,by omega,by go_num,R1,R2⟩
            case measure=>simp [intOf];omega
          · go_wp2_with (go_at_call 233;refine (isRune_any _ _).mono ?_;rintro e w' ⟨rfl,rfl⟩)
            go_roundw
            case rel=>exact ⟨k+1,by omega,by go_num,own_same (hown.alloc _) (runes_drop HX.out (by rw [HY.out];simp only;omega)),hbel.alloc (by omega) _⟩
            case measure=>simp [intOf];omega
        · have HY:Hid (Brm.clip (x1,x2)=(57344,55295)):=by show Brm.clip (x1,x2)=(57344,55295);simp [Brm.clip,r1,r2]
          go_wp2_with (go_at_call 233;refine (isRune_any _ _).mono ?_;rintro e w' ⟨rfl,rfl⟩)
          go_roundw
          case rel=>exact ⟨k+1,by omega,by go_num,own_same (hown.alloc _) (runes_drop HX.out (by rw [HY.out];simp only;omega)),hbel.alloc (by omega) _⟩
          case measure=>simp [intOf];omega
    · go_wp2
      go_ret
      exact ⟨_,rfl,own_same hown (by rw [List.take_of_length_le (by omega)]),hbel⟩
end Go.Proofs.YtpoibdhhcbelnaaGreatDoor
namespace Go.Proofs.YtpoibdhhcbelnaaGreatDoor
open Go.RowKit
def Hands (w w':World)(v:Value)(ok:List (Int×Int)->Prop):Prop:=∃ out,ok out/\w'.ownsRow w.heap.size 149 2 v out.length (cellsR out)/\Below w.heap.size w w'
def FormSaid:Prop:=∀ (ao:Option Addr) (l:List (Int×Int)) (cap:Nat) (w:World),Rd w ao l->l.length<=1000000->(∀ x∈l,Brm.okB x=true) ->
  Calls Tryz.prog 210 #[.slice ao l.length cap] w fun e w'=>∃ v,e=.returned v/\Hands w w' v fun out=>Brm.IsForm l out/\out.length<=l.length
theorem cellsR_get {l:List (Int×Int)}{i:Nat}{x:Int×Int}(h:l[i]?=some x):(cellsR l)[i*2]?=some (.int .i64 x.1)/\(cellsR l)[i*2+1]?=some (.int .i64 x.2):=by
  induction l generalizing i with
  | nil=>simp at h
  | cons y t ih =>
    have e:cellsR (y::t)=.int .i64 y.1::.int .i64 y.2::cellsR t:=by simp [cellsR]
    rw [e]
    cases i with
    | zero=>simp at h;subst h;simp
    | succ i =>
      simp at h
      have:=ih h
      rw [show (i+1)*2=i*2+1+1 from by omega]
      simpa using this
theorem own_rd {w:World}{B:Nat}{v:Value}{l:List (Int×Int)}(h:w.ownsRow B 149 2 v l.length (cellsR l)):∃ ao cap,v=.slice ao l.length cap/\l.length<=cap/\Rd w ao l:=by
  have h':=h
  obtain ⟨h1,h2⟩:=h
  rcases h2 with ⟨rfl,h0⟩ | ⟨g,cap,cur,rfl,hg,hh,hc,_⟩
  · exact ⟨none,0,by rw [h0],by omega,fun i x hx=>by rw [List.length_eq_zero_iff.1 h0] at hx;simp at hx⟩
  · refine ⟨some ⟨g,0,none⟩,cap,rfl,hc,fun i x hx=>⟨g,0,rfl,?_,?_,?_⟩⟩
    · exact (h'.lt g rfl).2
    · have hi:i<l.length:=(List.getElem?_eq_some_iff.1 hx).1
      rw [Nat.zero_add,h'.cellAt _ (by omega)];exact (cellsR_get hx).1
    · have hi:i<l.length:=(List.getElem?_eq_some_iff.1 hx).1
      rw [Nat.zero_add,h'.cellAt _ (by omega)];exact (cellsR_get hx).2
theorem own_le {w:World}{B B':Nat}{v:Value}{n:Nat}{xs:List Value}(h:w.ownsRow B 149 2 v n xs)(hb:B'<=B):w.ownsRow B' 149 2 v n xs:=by
  refine ⟨h.1,?_⟩
  rcases h.2 with h2 | ⟨g,cap,cur,a,b,c⟩
  · exact .inl h2
  · exact .inr ⟨g,cap,cur,a,Nat.le_trans hb b,c⟩
theorem box_keep {w w2:World}{B:Nat}{v:Value}{n:Nat}{xs:List Value}{x1 x2:Int}{o:Obj}(h:w.ownsRow B 149 2 v n xs)(hg:((w.alloc (.cells #[.int .i64 x1,.int .i64 x2] 149)).alloc o).grownBy w2 v.ownBlock) :
    w2.cell? ⟨w.heap.size,0,none⟩=some (.int .i64 x1)/\w2.cell? ⟨w.heap.size,1,none⟩=some (.int .i64 x2):=by
  have hne:∀ j,some (⟨w.heap.size,j,none⟩:Addr).block≠v.ownBlock:=fun j e=>by have:=(h.lt _ e.symm).2;simp at this
  exact ⟨hg.cell (by simp) (hne 0),hg.cell (by simp) (hne 1)⟩
theorem new_cells0 (w:World)(y1 y2:Int):∀ j u,[Value.int .i64 y1,Value.int .i64 y2][j]?=some u->(w.alloc (.cells #[.int .i64 y1,.int .i64 y2] 149)).cell? ((⟨w.heap.size,0,none⟩:Addr).add j)=some u:=by
  intro j u hj
  match j,hj with
  | 0,hj=>simp at hj;subst hj;simp [Addr.add]
  | 1,hj=>simp at hj;subst hj;simp [Addr.add]
theorem drop_cons {l:List (Int×Int)}{k:Nat}{x:Int×Int}(h:l[k]?=some x):l.drop k=x::l.drop (k+1):=by
  obtain ⟨hk,e⟩:=List.getElem?_eq_some_iff.1 h
  rw [<- e];exact List.drop_eq_getElem_cons hk
theorem cell_old {w:World}{b:Nat}(o:Obj)(c:Nat)(h:b<w.heap.size):(w.alloc o).cell? ⟨b,c,none⟩=w.cell? ⟨b,c,none⟩ :=
  World.cell?_of_block (w:=w) (a:=⟨b,c,none⟩) (Below.heap_alloc w o b h)
theorem frozen_old {w:World}{b:Nat}(o:Obj)(c:Nat)(h:b<w.heap.size):(w.alloc o).frozen? ⟨b,c,none⟩=w.frozen? ⟨b,c,none⟩ :=
  World.frozen?_of_block (w:=w) (a:=⟨b,c,none⟩) (Below.heap_alloc w o b h)
theorem below_drawn {B n:Nat}{w w':World}(h:Below B w w'):Below B w (w'.drewN n):=⟨h.os,h.tape,h.output,h.size,h.block⟩
set_option maxRecDepth 100000 in
set_option maxHeartbeats 400000 in
theorem not_any (hF:FormSaid)(ao:Option Addr)(l:List (Int×Int))(cap:Nat)(w:World)(hcells:Rd w ao l)(hlen:l.length<=1000000)(hok:∀ x∈l,Brm.okB x=true) :
    Calls Tryz.prog 161 #[.slice ao l.length cap] w fun e w'=>∃ v,e=.returned v/\Hands w w' v fun out=>Brm.Canon out/\(∀ r,Brm.runeB r=true->Brm.memB out r=!Brm.memB l r)/\out.length<=l.length+1:=by
  obtain ⟨i0,hi,hz0,hz1,hz2⟩:=info_parts Tryz.info149
  have HF:=hide (hF ao l cap w hcells hlen hok)
  clear hF hcells hok
  go_enter Tryz.func161,Tryz.ntmps161
  go_wp2_with (go_at_call 210;refine HF.out.mono ?_;rintro e w1 ⟨v,rfl,L,⟨hform,hLl⟩,hown1,hbel1⟩;obtain ⟨ao1,cap1,rfl,hcap1,hrd1⟩:=own_rd hown1;have HC:=hide hrd1;clear hrd1;have HF1:=hide hform;clear hform hown1)
  have hn0:=hide (Brm.ninv_start HF1.out.1)
  go_loopw [3,4,10] (fun v nx i wr=>∃ (k:Nat) (out:List (Int×Int)) (next:Int),k<=L.length/\i=.int .i64 k/\nx=.int .i64 next/\Brm.NInv L (L.drop k) out next/\out.length<=k/\wr.ownsRow w1.heap.size 149 2 v out.length (cellsR out)/\Below w1.heap.size w1 wr) (fun _ _ i _=>L.length-(intOf i).toNat)
  case atStart=>exact ⟨0,[],0,Nat.zero_le _,rfl,rfl,hn0.out,Nat.zero_le _,World.ownsRow_nil _ _ _ _,Below.refl _ _⟩
  case round =>
    obtain ⟨k,out,next,hk,rfl,rfl,hinv,hol,hown,hbel⟩:=hrel
    have hsz:=hbel.size
    have HI:=hide hinv;clear hinv
    by_cases hlt:k<L.length
    · obtain ⟨b,off,rfl,hb,h1,h2⟩:=HC.out k L[k] (List.getElem?_eq_getElem hlt)
      generalize hx:L[k]=x at h1 h2
      have HX:Hid (L[k]?=some x):=by rw [List.getElem?_eq_getElem hlt,hx];rfl
      clear hx
      obtain ⟨x1,x2⟩:=x
      simp only at h1 h2
      rw [<- hbel.cell (p:=⟨b,_,none⟩) hb] at h1 h2
      have HI2:=hide (drop_cons HX.out▸HI.out)
      have hg:=(Brm.canon_head HI2.out.2.1).1
      have hx1:=(Brm.rune_iff _).1 hg.1
      have hx2:=(Brm.rune_iff _).1 hg.2.1
      simp only at hx1 hx2
      have b1:0<=x1:=by omega
      have b2:x1<=1114111:=by omega
      have b3:0<=x2:=by omega
      have b4:x2<=1114111:=by omega
      clear hg hx1 hx2
      have HN:=hide (Brm.ninv_step HI2.out)
      by_cases hle:next<x1
      · have HP:Hid (Brm.putN out next x1=out++[(next,Brm.before x1)]):=by show Brm.putN out next x1=_;unfold Brm.putN;rw [if_pos hle]
        go_wp2_with (first
          | (at_builtin;refine wpList_append_own _ rfl _ _ 29 rfl w1.heap.size 149 i0 (.agg #[.int .i64 0,.int .i64 0]) 2 16 Tryz.underlying29 hi hz0 hz1 hz2 rfl (by decide) _ _ _ rfl ((hown.alloc _).alloc _) ⟨wr.heap.size+1,0,none⟩ 1 1 [.int .i64 next,.int .i64 (Brm.before x1)] rfl rfl (new_cells _ _ _ _) (new_one _ _) (by unfold maxLen;omega) (by omega) (by simp;omega) ?_;intro v' w2 hown' hgrow _;obtain ⟨_,hbx⟩:=box_keep hown hgrow)
          | (go_at_call 211;refine (before_any _ _ (by omega) (by omega)).mono ?_;rintro e w' ⟨rfl,rfl⟩)
          | (go_at_call 131;refine (after_any _ _ (by omega) (by omega)).mono ?_;rintro e w' ⟨rfl,rfl⟩))
        have R1:=own_snoc (y:=(next,Brm.before x1)) hown' HP.out
        have R2:=Below.keep ((hbel.alloc (by omega) _).alloc (by simp;omega) _) (by simp;omega) ((hown.alloc _).alloc _) hgrow
        go_roundw
        case rel=>exact ⟨k+1,Brm.putN out next x1,Brm.after x2,by omega,by go_num,rfl,HN.out,by rw [HP.out];simp;omega,R1,R2⟩
        case measure=>simp [intOf];omega
      · have HP:Hid (Brm.putN out next x1=out):=by show Brm.putN out next x1=_;unfold Brm.putN;rw [if_neg hle];simp
        go_wp2_with (go_at_call 131;refine (after_any _ _ (by omega) (by omega)).mono ?_;rintro e w' ⟨rfl,rfl⟩)
        go_roundw
        case rel=>exact ⟨k+1,out,Brm.after x2,by omega,by go_num,rfl,by have:=HN.out;rw [HP.out] at this;exact this,by omega,hown.alloc _,hbel.alloc (by omega) _⟩
        case measure=>simp [intOf];omega
    · have hinv2:Brm.NInv L [] out next:=by have:=HI.out;rwa [List.drop_of_length_le (by omega)] at this
      have HE:=hide (Brm.ninv_end hinv2);clear hinv2
      by_cases hle:next<=1114111
      · go_wp2_with (at_builtin;refine wpList_append_own _ rfl _ _ 29 rfl w1.heap.size 149 i0 (.agg #[.int .i64 0,.int .i64 0]) 2 16 Tryz.underlying29 hi hz0 hz1 hz2 rfl (by decide) _ _ _ rfl (hown.alloc _) ⟨wr.heap.size,0,none⟩ 1 1 [.int .i64 next,.int .i64 1114111] rfl rfl (new_cells0 _ _ _) (new_one _ _) (by unfold maxLen;omega) (by omega) (by simp;omega) ?_;intro v' w2 hown' hgrow _)
        have HP:Brm.endN out next=out++[(next,1114111)]:=by unfold Brm.endN;rw [if_pos hle]
        have R1:=own_snoc (y:=(next,1114111)) hown' HP
        have R2:=Below.keep (hbel.alloc (by omega) _) (by simp;omega) (hown.alloc _) hgrow
        have hE:=HE.out
        have hF:=HF1.out
        go_ret
        exact ⟨_,rfl,Brm.endN out next,⟨hE.1,fun r hr=>by rw [hE.2 r hr,hF.2 r hr],by rw [HP];simp;omega⟩,own_le R1 hbel1.size,hbel1.trans (R2.mono hbel1.size)⟩
      · have HP:Hid (Brm.endN out next=out):=by show Brm.endN out next=out;unfold Brm.endN;rw [if_neg hle];simp
        go_wp2
        have hE:=HE.out
        rw [HP.out] at hE
        have hF:=HF1.out
        go_ret
        exact ⟨_,rfl,out,⟨hE.1,fun r hr=>by rw [hE.2 r hr,hF.2 r hr],by omega⟩,own_le hown hbel1.size,hbel1.trans (hbel.mono hbel1.size)⟩
end Go.Proofs.YtpoibdhhcbelnaaGreatDoor
namespace Go.Proofs.YtpoibdhhcbelnaaGreatDoor
open Go.RowKit
abbrev NPtr:Option Nat->Value | some x=>.pointer (some ⟨x,0,none⟩) | none=>.pointer none
def RP (v:Value):Option (DataW Unit×List MemPlace):=match v with
  | .pointer none=>some (.lit (.bool false),[])
  | .pointer (some ⟨b,0,none⟩)=>some (.lit (.int .i64 b),[])
  | _=>none
theorem RP_none:RP (.pointer none)=some (.lit (.bool false),[]):=rfl
theorem RP_some (b:Nat):RP (.pointer (some ⟨b,0,none⟩))=some (.lit (.int .i64 b),[]):=rfl
theorem RP_inv_some {v:Value}{b:Nat}{ps:List MemPlace}(h:RP v=some (.lit (.int .i64 b),ps)):v=NPtr (some b):=by
  unfold RP at h
  split at h
  · cases h
  · rename_i b'
    simp only [Option.some.injEq,Prod.mk.injEq,DataW.lit.injEq,Lit.int.injEq,true_and] at h
    have:b'=b:=by omega
    rw [this]
  · cases h
theorem RP_inv_none {v:Value}{ps:List MemPlace}(h:RP v=some (.lit (.bool false),ps)):v=NPtr none:=by
  unfold RP at h
  split at h
  · rfl
  · cases h
  · cases h
def litS (s:List UInt8):Lit:=.string s
def MapN (w:World)(b:Nat)(f:List UInt8->Option Nat)(n:Nat):Prop:=∃ D:DataW Unit,w.ownsMap Tryz.prog 9 RP b n D/\Maps.size D=n/\∀ s,Maps.has D (litS s)=(f s).isSome/\∀ x,f s=some x->D.atKey (litS s) (.lit (.bool false))=.lit (.int .i64 x)
theorem MapN.lt {w:World}{b:Nat}{f:List UInt8->Option Nat}{n:Nat}(h:MapN w b f n):b<w.heap.size:=by obtain ⟨D,h1,_⟩:=h;exact h1.lt
theorem MapN.block {w w':World}{b:Nat}{f:List UInt8->Option Nat}{n:Nat}(h:MapN w b f n)(k:w'.heap[b]?=w.heap[b]?):MapN w' b f n:=by
  obtain ⟨D,⟨es,clock,h1,h2⟩,h3⟩:=h
  exact ⟨D,⟨es,clock,k.trans h1,h2⟩,h3⟩
theorem MapN.below {w w':World}{b:Nat}{f:List UInt8->Option Nat}{n:Nat}(h:MapN w b f n)(k:Below w.heap.size w w'):MapN w' b f n:=h.block (k.block b h.lt)
theorem MapN.made (w:World):MapN (w.alloc (.map #[] 0)) w.heap.size (fun _=>none) 0 :=
  ⟨.map [],World.ownsMap_made w Tryz.prog 9 RP,rfl,fun s=>⟨rfl,fun x hx=>by cases hx⟩⟩
theorem key_string (s:ByteArray)(hs:s.size<=maxLen):keyOf Tryz.prog 9 (.string s)=some (litS (bytesOf s)):=WideMaps.keyOf_string_mk Tryz.underlying9 hs
theorem MapN.look {w:World}{b:Nat}{f:List UInt8->Option Nat}{n:Nat}(h:MapN w b f n)(s:ByteArray)(hs:s.size<=maxLen) :
    (Instr.lookup 222 (.map (some b)) (.string s) true).run Tryz.prog w=.ok (.tuple #[NPtr (f (bytesOf s)),.bool (f (bytesOf s)).isSome]) w:=by
  obtain ⟨D,h1,h2,h3⟩:=h
  obtain ⟨v,ps,hrun,hv⟩:=h1.look_ok (t:=222) (e:=159) (Maps.string_keyed Tryz.underlying9) Tryz.underlying222 (Tryz.zeroValue159 _) RP_none (key_string s hs)
  obtain ⟨h4,h5⟩:=h3 (bytesOf s)
  rw [hrun,h4]
  cases hf:f (bytesOf s) with
  | none =>
    rw [hf] at h4
    rw [Maps.atKey_of_not_has h4] at hv
    rw [RP_inv_none hv]
  | some x =>
    rw [h5 x hf] at hv
    rw [RP_inv_some hv]
theorem MapN.len {w:World}{b:Nat}{f:List UInt8->Option Nat}{n:Nat}(h:MapN w b f n)(ty:TypeId):(Builtin.len_ #[222] ty #[.map (some b)]).run Tryz.prog w=.ok (.int .i64 n) w:=by
  obtain ⟨D,h1,h2,h3⟩:=h
  rw [h1.len Tryz.underlying222 ty,h2]
def put (f:List UInt8->Option Nat)(s:List UInt8)(x:Nat):List UInt8->Option Nat:=fun t=>if t=s then some x else f t
theorem MapN.store {w:World}{b:Nat}{f:List UInt8->Option Nat}{n:Nat}(h:MapN w b f n)(s:ByteArray)(hs:s.size<=maxLen)(hn:n<maxLen)(hno:f (bytesOf s)=none)(x:Nat) :
    ∃ w',(Instr.mapUpdate 222 (.map (some b)) (.string s) (.pointer (some ⟨x,0,none⟩))).run Tryz.prog w=.ok () w'/\MapN w' b (put f (bytesOf s) x) (n+1)/\w.mapTurned w' b:=by
  obtain ⟨D,h1,h2,h3⟩:=h
  obtain ⟨w',hrun,hown,ht⟩:=h1.store (t:=222) (e:=159) (Maps.string_keyed Tryz.underlying9) Tryz.underlying222 hn (key_string s hs) (RP_some x)
  have hm:=h1.isMap
  have hhas:Maps.has D (litS (bytesOf s))=false:=by rw [(h3 _).1,hno];rfl
  refine ⟨w',hrun,⟨_,hown,?_,fun t=>?_⟩,ht⟩
  · rw [Maps.size_put (h1.tidy (Maps.string_keyed Tryz.underlying9)),hhas,h2];simp
  · unfold put
    by_cases e:t=bytesOf s
    · subst e
      rw [if_pos rfl]
      refine ⟨Maps.has_put_same hm (by trivial) _,fun y hy=>?_⟩
      cases hy
      exact Maps.atKey_put_same hm (by trivial) _ _
    · rw [if_neg e]
      have hne:litS t≠litS (bytesOf s):=fun h=>e (by unfold litS at h;injection h)
      rw [Maps.has_put_other hne]
      exact ⟨(h3 t).1,fun y hy=>by rw [Maps.atKey_put_other hne];exact (h3 t).2 y hy⟩
end Go.Proofs.YtpoibdhhcbelnaaGreatDoor
