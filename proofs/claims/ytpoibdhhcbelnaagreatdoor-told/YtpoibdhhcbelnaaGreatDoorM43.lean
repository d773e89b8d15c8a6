/- The least text, of what was read: walks. -/
import Derived.Test.YtpoibdhhcbelnaaGreatDoorM42
import Derived.Test.YtpoibdhhcbelnaaGreatDoorM26
namespace Go.Proofs.YtpoibdhhcbelnaaGreatDoor
open Go.Shelf Go.RowKit Go.Lib Brm
mutual
theorem cl_len:∀ p:Pat,p.cl.length<=2*p.rg+p.nd+p.groups
  | .set s=>by
    show (cutsR s++[0]).length<=2*s.length+1+0
    rw [List.length_append,cutsR_len]
    simp
  | .row l=>by
    have:=clL_len l
    show (0::clL l).length<=2*rgL l+(ndL l+1)+groupsL l
    rw [List.length_cons];omega
  | .or l=>by
    have:=clL_len l
    show (0::clL l).length<=2*rgL l+(ndL l+1)+groupsL l
    rw [List.length_cons];omega
  | .and l=>by
    have:=clL_len l
    show (0::clL l).length<=2*rgL l+(ndL l+l.length+2)+groupsL l
    rw [List.length_cons];omega
  | .not p=>by
    have:=cl_len p
    show (0::p.cl).length<=2*p.rg+(p.nd+1)+p.groups
    rw [List.length_cons];omega
  | .many p _ _=>by
    have:=cl_len p
    show (0::p.cl).length<=2*p.rg+(p.nd+1)+p.groups
    rw [List.length_cons];omega
  | .group p=>by
    have:=cl_len p
    show (0::p.cl).length<=2*p.rg+p.nd+(p.groups+1)
    rw [List.length_cons];omega
theorem clL_len:∀ l:List Pat,(clL l).length<=2*rgL l+ndL l+groupsL l
  | []=>Nat.le_refl _
  | p::l=>by
    have h1:=cl_len p
    have h2:=clL_len l
    show (p.cl++clL l).length<=2*(p.rg+rgL l)+(p.nd+ndL l)+(p.groups+groupsL l)
    rw [List.length_append];omega
end
def LeastR (L:Lg)(n:Nat)(s:ByteArray)(ok:Bool):Prop:=(∃ t,LeastT L n t/\s=runesBytes t/\ok=true)\/((∀ u,ValT u->u.length<=n->¬ L u)/\s=⟨#[]⟩/\ok=false)
theorem DiffR.least {LA LB:Lg}{n:Nat}{e:Ending}(h:DiffR LA LB n e):∃ s ok,e=.returned (.tuple #[.string s,.bool ok])/\LeastR (Dif LA LB) n s ok:=by
  rcases h with ⟨t,h1,rfl⟩ | ⟨h1,rfl⟩
  · exact ⟨_,_,rfl,.inl ⟨t,h1,rfl,rfl⟩⟩
  · exact ⟨_,_,rfl,.inr ⟨h1,rfl,rfl⟩⟩
theorem differ_small {p q:Pat}(hp:p.Ok)(hq:q.Ok)(sp:Small p)(sq:Small q)(gp:p.groups<=1000)(gq:q.groups<=1000){w:World}{a b:Nat}(hNa:PNx w (fun g=>g<w.heap.size) p a)(hNb:PNx w (fun g=>g<w.heap.size) q b)(hP:PowT w)(h7:7<=w.heap.size){n:Nat}(hn:n<=3) :
    Calls Tryz.prog 49 #[.pointer (some ⟨a,0,none⟩),.pointer (some ⟨b,0,none⟩),.int .i64 n] w fun e w'=>Below w.heap.size w w'/\∃ s ok,e=.returned (.tuple #[.string s,.bool ok])/\LeastR (Dif p.Mt q.Mt) n s ok:=by
  obtain ⟨r1,r2⟩:=small_reach sp sq hn
  have c1:=cl_len p
  have c2:=cl_len q
  have:=sp.rg
  have:=sq.rg
  have:=sp.nd
  have:=sq.nd
  refine (differ_any hp hq (fun g hg=>hg) hNa hNb hP h7 (by omega) (by omega) (by omega) n (by omega) r1 r2).mono ?_
  rintro e w' ⟨h1,h2⟩
  exact ⟨h1,h2.least⟩
set_option maxRecDepth 100000 in
set_option maxHeartbeats 4000000 in
theorem reach_any (m:Int)(w:World):Calls Tryz.prog 42 #[.int .i64 m] w fun e w'=>e=.returned (.bool (decide (0<=m/\m<=3)))/\w'=w:=by
  by_cases h0:0<=m
  · by_cases h1:m<=3
    · have hd:decide (0<=m/\m<=3)=true:=decide_eq_true ⟨h0,h1⟩
      rw [hd]
      have g1:decide (0<=m)=true:=decide_eq_true h0
      have g2:decide (m<=3)=true:=decide_eq_true h1
      go_enter Tryz.func42,Tryz.ntmps42
      go_wp2
      go_ret
      exact ⟨rfl,rfl⟩
    · have hd:decide (0<=m/\m<=3)=false:=decide_eq_false (fun h=>h1 h.2)
      rw [hd]
      have g1:decide (0<=m)=true:=decide_eq_true h0
      have g2:decide (m<=3)=false:=decide_eq_false h1
      go_enter Tryz.func42,Tryz.ntmps42
      go_wp2
      go_ret
      exact ⟨rfl,rfl⟩
  · have hd:decide (0<=m/\m<=3)=false:=decide_eq_false (fun h=>h0 h.1)
    rw [hd]
    have g1:decide (0<=m)=false:=decide_eq_false h0
    go_enter Tryz.func42,Tryz.ntmps42
    go_wp2
    go_ret
    exact ⟨rfl,rfl⟩
theorem RX.pnx {w:World}{A:Nat->Prop}{p:Pat}{bx:Nat}(h:RX w A p bx):PNx w (fun g=>g<w.heap.size) p bx:=by
  obtain ⟨hb,v0,v1,v2,v3,v4,bp,x,hB,⟨hx,hX⟩,hN,_⟩:=h
  exact PNx.mono (A:=A) ⟨hb,x,v0,v1,v2,v3,v4,[Ptr bp],79,hB,hx,hX,hN⟩ fun g hg _=>hg
theorem RX.grp {w:World}{A:Nat->Prop}{p:Pat}{bx:Nat}(h:RX w A p bx):p.groups<=1000:=by
  obtain ⟨_,_,_,_,_,_,_,_,_,_,_,_,_,_,_,_,_,_,_,_,h9⟩:=h
  exact h9
theorem RX.ltx {w:World}{A:Nat->Prop}{p:Pat}{bx:Nat}(h:RX w A p bx):bx<w.heap.size:=h.pnx.1
def LeastA (L:Lg)(m:Int)(e:Ending):Prop:=(¬ (0<=m/\m<=3)/\e=.returned (.tuple #[.string ⟨#[]⟩,.bool false,.int .i64 9]))\/∃ (n:Nat) (s:ByteArray) (ok:Bool),m=n/\n<=3/\e=.returned (.tuple #[.string s,.bool ok,.int .i64 0])/\LeastR L n s ok
set_option maxRecDepth 100000 in
set_option maxHeartbeats 4000000 in
theorem rxdiffer_any {p q:Pat}(hp:p.Ok)(hq:q.Ok)(sp:Small p)(sq:Small q){w:World}{A A':Nat->Prop}{bx bz:Nat}(hX:RX w A p bx)(hY:RX w A' q bz)(hP:PowT w)(h7:7<=w.heap.size)(m:Int) :
    Calls Tryz.prog 21 #[.pointer (some ⟨bx,0,none⟩),.pointer (some ⟨bz,0,none⟩),.int .i64 m] w fun e w'=>Below w.heap.size w w'/\LeastA (Dif p.Mt q.Mt) m e:=by
  have hbl:=hX.ltx
  have hbl2:=hY.ltx
  by_cases hm:0<=m/\m<=3
  · obtain ⟨n,rfl⟩:∃ n:Nat,m=n:=⟨m.toNat,by omega⟩
    have hn3:n<=3:=by omega
    have HD:Hid (∀ w',Below w.heap.size w w'->Calls Tryz.prog 49 #[.pointer (some ⟨bx,0,none⟩),.pointer (some ⟨bz,0,none⟩),.int .i64 n] w' fun e w9=>Below w.heap.size w w9/\∃ s ok,e=.returned (.tuple #[.string s,.bool ok])/\LeastR (Dif p.Mt q.Mt) n s ok):=fun w' hb =>
      (differ_small hp hq sp sq hX.grp hY.grp ((hX.pnx.keep (Keeps.below hb)).mono fun g hg _=>hg) ((hY.pnx.keep (Keeps.below hb)).mono fun g hg _=>hg) (hP.below hb) (Nat.le_trans h7 hb.size) hn3).mono (fun e w9 h=>⟨hb.trans (h.1.mono hb.size),h.2⟩)
    have HN:=hide hn3
    have hd:decide (0<=(n:Int)/\(n:Int)<=3)=true:=decide_eq_true hm
    clear hX hY hP hn3
    go_enter Tryz.func21,Tryz.ntmps21
    go_wp2_with (go_at_call 42;refine (reach_any _ _).mono ?_;rintro e w' ⟨rfl,hw⟩;have hw8:=hw.symm;subst hw8;clear hw;rw [hd])
    go_region_held3 (fun w'=>Below w.heap.size w w')
      (first | exact (Below.refl _ _).drew | exact HB5.out)
      ((go_at_call 49;with_reducible refine (HD.out _ ‹Below w.heap.size w _›).mono ?_;rintro e w5 ⟨hb5,s,ok,rfl,hl⟩;have HB5:=hide hb5;have HL:=hide hl;clear hb5 hl))
    all_goals go_wp2_with fail
    refine bodyPost_ret (v:=.tuple #[.string s,.bool ok,.int .i64 0]) (by simp [results,Tryz.results21,go_sem]) rfl ?_
    exact ⟨HB5.out,.inr ⟨n,s,ok,rfl,HN.out,rfl,HL.out⟩⟩
  · have hd:decide (0<=m/\m<=3)=false:=decide_eq_false hm
    clear hX hY hP
    go_enter Tryz.func21,Tryz.ntmps21
    go_wp2_with (go_at_call 42;refine (reach_any _ _).mono ?_;rintro e w' ⟨rfl,hw⟩;have hw8:=hw.symm;subst hw8;clear hw;rw [hd])
    refine bodyPost_ret (v:=.tuple #[.string ⟨#[]⟩,.bool false,.int .i64 9]) (by simp [results,Tryz.results21,go_sem]) rfl ?_
    exact ⟨Below.refl _ _,.inl ⟨hm,rfl⟩⟩
theorem leastA_in {L:Lg}{n:Nat}{e:Ending}(h:LeastA L n e)(hn:(n:Int)<4):∃ s ok,e=.returned (.tuple #[.string s,.bool ok,.int .i64 0])/\LeastR L n s ok:=by
  rcases h with ⟨h,_⟩ | ⟨n',s,ok,h1,h2,h3,h4⟩
  · exact absurd ⟨by omega,by omega⟩ h
  · obtain rfl:n=n':=by omega
    exact ⟨s,ok,h3,h4⟩
theorem leastR_self {L:Lg}{n:Nat}{s:ByteArray}{a:Bool}(h:LeastR (Dif L L) n s a):s=⟨#[]⟩/\a=false:=by
  rcases h with ⟨u,h1,_⟩ | ⟨_,h2,h3⟩
  · exact absurd Iff.rfl h1.2.1
  · exact ⟨h2,h3⟩
end Go.Proofs.YtpoibdhhcbelnaaGreatDoor
