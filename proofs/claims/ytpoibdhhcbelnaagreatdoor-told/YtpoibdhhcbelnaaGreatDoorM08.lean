/- Walks and plain laws, some texts in one. -/
import Derived.Deep.DeepCutAuto
import Derived.Laws.AppendOwnNone
import Derived.Lib.MinMax
import Derived.BigRegion
import Derived.BigQuiet
import Derived.Deep.QuietTactic
import Derived.Deep.RegionHeld3
import Derived.Deep.AppendLies
import Derived.Test.YtpoibdhhcbelnaaGreatDoorM07
import Derived.Test.YtpoibdhhcbelnaaGreatDoorM06
import Derived.Test.YtpoibdhhcbelnaaGreatDoorM02
namespace Go.Proofs.YtpoibdhhcbelnaaGreatDoor
open Go.RowKit
def Sl (w:World)(v:Value)(l:List (Int×Int)):Prop :=
  (v=.slice none 0 0/\l=[])\/∃ b off cap,v=.slice (some ⟨b,off,none⟩) l.length cap/\l.length<=cap/\b<w.heap.size/\Rd w (some ⟨b,off,none⟩) l
theorem own_sl {w:World}{B:Nat}{v:Value}{l:List (Int×Int)}(h:w.ownsRow B 149 2 v l.length (cellsR l)):Sl w v l:=by
  have h':=h
  obtain ⟨ao,cap,rfl,hc,hr⟩:=own_rd h
  rcases h'.2 with ⟨e,h0⟩ | ⟨g,cap',cur,e,hg,hh,_⟩
  · exact .inl ⟨e,List.length_eq_zero_iff.1 h0⟩
  · injection e with e1 _ e3
    subst e1;subst e3
    exact .inr ⟨g,0,cap,rfl,hc,(h'.lt g rfl).2,hr⟩
theorem Sl.rd {w:World}{v:Value}{l:List (Int×Int)}(h:Sl w v l):∃ ao cap,v=.slice ao l.length cap/\Rd w ao l/\(ao=none->cap=0):=by
  rcases h with ⟨rfl,rfl⟩ | ⟨b,off,cap,rfl,hc,hlt,hr⟩
  · exact ⟨none,0,rfl,fun i x hx=>by simp at hx,fun _=>rfl⟩
  · exact ⟨_,cap,rfl,hr,fun h=>by cases h⟩
def testA (l:List (Int×Int))(k:Nat)(x1:Int):Bool:=match l[k]? with | some y=>decide (y.2+1<x1) | none=>false
def testB (l:List (Int×Int))(k:Nat)(x2:Int):Bool:=match l[k]? with | some y=>decide (y.1<=x2+1) | none=>false
end Go.Proofs.YtpoibdhhcbelnaaGreatDoor
namespace Go.Proofs.YtpoibdhhcbelnaaGreatDoor
open Go.RowKit
set_option maxRecDepth 100000 in
set_option maxHeartbeats 1000000 in
theorem join_nil (x1 x2:Int)(w:World)(hx:Brm.PGood (x1,x2)) :
    Calls Tryz.prog 322 #[.slice none 0 0,.agg #[.int .i64 x1,.int .i64 x2]] w fun e w'=>∃ v,e=.returned v/\Hands w w' v fun out=>Brm.PCanon out/\(∀ n,Brm.memB out n=(Brm.memB [] n || Brm.inB (x1,x2) n))/\out.length<=0+1:=by
  have HX:=hide hx
  clear hx
  obtain ⟨i0,hi,hz0,hz1,hz2⟩:=info_parts Tryz.info149
  have hd:decide ((0:Int)<0)=false:=rfl
  go_enter Tryz.func322,Tryz.ntmps322
  go_wp2
  go_loopw [5,6] (fun v i wr=>v=.slice none 0 0/\i=.int .i64 0/\∃ n,wr=(w.alloc (.cells #[.int .i64 x1,.int .i64 x2] 149)).drewN n) (fun _ _ _=>0)
  case atStart=>exact ⟨rfl,rfl,0,rfl⟩
  case round =>
    obtain ⟨rfl,rfl,n,rfl⟩:=hrel
    go_wp2_with fail
    go_quiet (fail)
    go_wp2
    go_loopw [6] (fun i wr=>i=.int .i64 0/\∃ n,wr=(w.alloc (.cells #[.int .i64 x1,.int .i64 x2] 149)).drewN n) (fun _ _=>0)
    case atStart=>exact ⟨rfl,n+nq,by simp [World.drewN,Nat.add_assoc]⟩
    case round =>
      obtain ⟨rfl,m,rfl⟩:=hrel
      go_wp2_with fail
      go_quiet (fail)
      go_wp2_with (first
        | (at_builtin;refine wpList_append_own _ rfl (.tmp 66) (.tmp 68) 29 rfl (w.heap.size+1) 149 i0 (.agg #[.int .i64 0,.int .i64 0]) 2 16 Tryz.underlying29 hi hz0 hz1 hz2 rfl (by decide) _ _ _ rfl (World.ownsRow_nil _ _ _ _) ⟨w.heap.size+1,0,none⟩ 1 1 [.int .i64 x1,.int .i64 x2] rfl rfl (new_cells _ _ _ _) (new_one _ _) (by unfold maxLen;omega) (by omega) (by simp) ?_;intro v' w3 hown' hgrow _)
        | (at_builtin;refine wpList_append_own_none rfl (.tmp 70) (.tmp 73) 29 rfl (w.heap.size+1) 149 i0 2 Tryz.underlying29 hi _ _ _ rfl hown' rfl ?_))
      have R2:Below w.heap.size w w3:=((below_drawn ((Below.refl _ w).alloc (Nat.le_refl _) _)).alloc (by simp) _).grown hgrow (by simp;omega) (fun k e=>by cases e)
      go_ret
      exact ⟨v',rfl,[(x1,x2)],⟨⟨fun z hz=>by simp at hz;exact hz▸HX.out,by simp⟩,fun n=>by simp [Brm.memB],by simp⟩,own_le hown' (Nat.le_succ _),R2⟩
def NormI (l:List (Int×Int))(k:Nat)(out:List (Int×Int)):Prop :=
  Brm.PCanon out/\(∀ r,Brm.runeB r=true->Brm.memB out (Brm.up r)=Brm.memB (l.take k) r)/\out.length<=k
end Go.Proofs.YtpoibdhhcbelnaaGreatDoor
namespace Go.Proofs.YtpoibdhhcbelnaaGreatDoor
open Go.RowKit
def SlA (w:World)(A:Nat->Prop)(v:Value)(l:List (Int×Int)):Prop :=
  (v=.slice none 0 0/\l=[])\/∃ b off cap,v=.slice (some ⟨b,off,none⟩) l.length cap/\l.length<=cap/\A b/\b<w.heap.size/\Rd w (some ⟨b,off,none⟩) l
theorem SlA.sl {w:World}{A:Nat->Prop}{v:Value}{l:List (Int×Int)}(h:SlA w A v l):Sl w v l:=by
  rcases h with h | ⟨b,off,cap,e,hc,_,hlt,hr⟩
  · exact .inl h
  · exact .inr ⟨b,off,cap,e,hc,hlt,hr⟩
theorem own_slA {w:World}{B:Nat}{A:Nat->Prop}{v:Value}{l:List (Int×Int)}(h:w.ownsRow B 149 2 v l.length (cellsR l))(hA:∀ k,B<=k->A k):SlA w A v l:=by
  rcases own_sl h with h2 | ⟨b,off,cap,rfl,hc,hlt,hr⟩
  · exact .inl h2
  · rcases h.2 with ⟨e,_⟩ | ⟨g,cap',cur,e,hg,_⟩
    · cases e
    · cases e
      exact .inr ⟨b,0,cap,rfl,hc,hA b hg,hlt,hr⟩
theorem SlA.mono {w:World}{A A':Nat->Prop}{v:Value}{l:List (Int×Int)}(h:SlA w A v l)(k:∀ g,g<w.heap.size->A g->A' g):SlA w A' v l:=by
  rcases h with h | ⟨b,off,cap,e,hc,ha,hlt,hr⟩
  · exact .inl h
  · exact .inr ⟨b,off,cap,e,hc,k b hlt ha,hlt,hr⟩
end Go.Proofs.YtpoibdhhcbelnaaGreatDoor
