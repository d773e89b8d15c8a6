/- Walks and plain laws, some texts in one. -/
import Derived.Deep.LoopGhost
import Derived.Test.YtpoibdhhcbelnaaGreatDoorM09
import Derived.Test.YtpoibdhhcbelnaaGreatDoorM04
import Derived.Test.YtpoibdhhcbelnaaGreatDoorM05
namespace Go.Proofs.YtpoibdhhcbelnaaGreatDoor
open Go.RowKit Brm
theorem ret_nat {n:Int}(v:Int)(h0:0<=v)(h1:v<n):∃ r:Nat,Ending.returned (.int .i64 v)=.returned (.int .i64 r)/\(r:Int)<n:=⟨v.toNat,by rw [Int.toNat_of_nonneg h0],by rw [Int.toNat_of_nonneg h0];exact h1⟩
set_option maxRecDepth 100000 in
set_option maxHeartbeats 400000 in
theorem pick_any (c n:Int)(w:World)(h0:-9223372036854775808<=c)(h1:c<=9223372036854775807)(hn:0<n)(hn2:n<=100) :
    Calls Tryz.prog 31 #[.int .i64 c,.int .i64 n] w fun e w'=>(∃ r:Nat,e=.returned (.int .i64 r)/\(r:Int)<n)/\w'=w:=by
  have hz:(n == 0)=false:=beq_eq_false_iff_ne.2 (by omega)
  by_cases hc:c<0
  · have hd:decide (c<0)=true:=decide_eq_true hc
    have HE:Hid (0<=-((c+1).tmod n)/\-((c+1).tmod n)<n):=by
      rw [<- Int.neg_tmod]
      exact ⟨Int.tmod_nonneg _ (by omega),by rw [Int.tmod_eq_emod_of_nonneg (by omega)];exact Int.emod_lt_of_pos _ hn⟩
    go_enter Tryz.func31,Tryz.ntmps31
    go_wp2
    go_ret
    exact ⟨ret_nat _ HE.out.1 HE.out.2,rfl⟩
  · have hd:decide (c<0)=false:=decide_eq_false hc
    have HE:Hid (0<=c % n/\c % n<n):=⟨Int.emod_nonneg _ (by omega),Int.emod_lt_of_pos _ hn⟩
    go_enter Tryz.func31,Tryz.ntmps31
    go_wp2
    go_ret
    exact ⟨ret_nat _ HE.out.1 HE.out.2,rfl⟩
def Mk (w:World)(b:Nat)(a:Option Addr)(c:Nat)(raw:List Int)(i:Nat):Prop:=Blk w b [.slice a raw.length c,.int .i64 i] 110/\i<=raw.length/\raw.length<=9223372036854775807 /\
  ∀ j x,raw[j]?=some x->∃ bb off,a=some ⟨bb,off,none⟩/\bb<b/\w.cell? ⟨bb,off+j,none⟩=some (.int .i64 x)/\-9223372036854775808<=x/\x<=9223372036854775807
def MkX (w:World)(b:Nat):Prop:=∃ a c raw i,Mk w b a c raw i
theorem MkX.below {w w':World}{b:Nat}(h:MkX w b)(k:Below w.heap.size w w'):MkX w' b:=by
  obtain ⟨a,c,raw,i,h1,h2,h3,h4⟩:=h
  refine ⟨a,c,raw,i,h1.below k,h2,h3,fun j x hx=>?_⟩
  obtain ⟨bb,off,rfl,hb,hc,hr⟩:=h4 j x hx
  exact ⟨bb,off,rfl,hb,(k.cell (p:=⟨bb,_,none⟩) (Nat.lt_trans hb h1.lt)).trans hc,hr⟩
theorem MkX.lt {w:World}{b:Nat}(h:MkX w b):b<w.heap.size:=by obtain ⟨a,c,raw,i,h1,_⟩:=h;exact h1.lt
theorem Mk.step {w:World}{b:Nat}{a:Option Addr}{c:Nat}{raw:List Int}{i:Nat}(h:Mk w b a c raw i)(hi:i<raw.length):Mk (w.setCell ⟨b,1,none⟩ (.int .i64 ((i:Int)+1))) b a c raw (i+1):=by
  obtain ⟨h1,h2,h3,h4⟩:=h
  refine ⟨h1.set 1 _,hi,h3,fun j x hx=>?_⟩
  obtain ⟨bb,off,rfl,hb,hc,hr⟩:=h4 j x hx
  exact ⟨bb,off,rfl,hb,(((Off.refl b w).setCell 1 _).cell (p:=⟨bb,_,none⟩) (Nat.lt_trans hb h1.lt) (Nat.ne_of_lt hb)).trans hc,hr⟩
set_option maxRecDepth 100000 in
set_option maxHeartbeats 1000000 in
theorem nextM (b:Nat)(n:Int)(w:World)(h:MkX w b)(hn:0<n)(hn2:n<=100) :
    Calls Tryz.prog 101 #[.pointer (some ⟨b,0,none⟩),.int .i64 n] w fun e w'=>(∃ r:Nat,e=.returned (.int .i64 r)/\(r:Int)<n)/\MkX w' b/\Off b w w':=by
  obtain ⟨a,c,raw,i,hM⟩:=h
  have HM:=hide hM
  obtain ⟨hB,h2,h3,h4⟩:=hM
  have c0:w.cell? ⟨b,0,none⟩=some (.slice a raw.length c):=hB.cell 0
  have c1:w.cell? ⟨b,1,none⟩=some (.int .i64 i):=hB.cell 1
  have hlt:=hB.lt
  by_cases hc:i<raw.length
  · have hd:decide ((raw.length:Int)<=(i:Int))=false:=decide_eq_false (by omega)
    obtain ⟨x,hx⟩:∃ x,raw[i]?=some x:=⟨_,List.getElem?_eq_getElem hc⟩
    obtain ⟨bb,off,rfl,hbb,hcell,hr0,hr1⟩:=h4 i x hx
    have HS:=hide (HM.out.step hc)
    have hf:=hB.frozen 1
    have i1:(0:Int)<=(i:Int):=Int.natCast_nonneg _
    have i2:(i:Int)<(raw.length:Int):=by omega
    have i3:(raw.length:Int)<=9223372036854775807:=by omega
    have hne:bb≠b:=Nat.ne_of_lt hbb
    have hbl:bb<w.heap.size:=Nat.lt_trans hbb hlt
    have hsc:(w.setCell ⟨b,1,none⟩ (.int .i64 ((i:Int)+1))).cell? ⟨bb,off+i,none⟩=some (.int .i64 x):=(((Off.refl b w).setCell 1 _).cell (p:=⟨bb,_,none⟩) hbl hne).trans hcell
    clear h4 hx h2 h3 hB
    go_enter Tryz.func101,Tryz.ntmps101
    go_wp2_with fail
    go_quiet (fail)
    go_wp2_with fail
    have HO:=hide (((Off.refl b w).drewN nq).setCell 1 (.int .i64 ((i:Int)+1)))
    have hm:Mk ((w.drewN nq).setCell ⟨b,1,none⟩ (.int .i64 ((i:Int)+1))) b (some ⟨bb,off,none⟩) c raw (i+1):=HS.out
    have d0:((w.drewN nq).setCell ⟨b,1,none⟩ (.int .i64 ((i:Int)+1))).cell? ⟨b,0,none⟩=some (.slice (some ⟨bb,off,none⟩) raw.length c):=hm.1.cell 0
    have d1:((w.drewN nq).setCell ⟨b,1,none⟩ (.int .i64 ((i:Int)+1))).cell? ⟨b,1,none⟩=some (.int .i64 ((i:Int)+1)):=hm.1.cell 1
    have d2:((w.drewN nq).setCell ⟨b,1,none⟩ (.int .i64 ((i:Int)+1))).cell? ⟨bb,off+i,none⟩=some (.int .i64 x):=hsc
    have HM2:=hide hm
    clear HS HM hm hsc hcell c0 c1 hf
    generalize (w.drewN nq).setCell ⟨b,1,none⟩ (.int .i64 ((i:Int)+1))=W at *
    have hw1:IntKind.i64.wrap ((i:Int)+1-1)=(i:Int):=by rw [IntKind.wrap_i64]<;>omega
    have hw2:IntKind.i64.wrap (i:Int)=(i:Int):=by rw [IntKind.wrap_i64]<;>omega
    go_region_held3 (fun w'=>Below W.heap.size W w'/\w'.cell? ⟨b,0,none⟩=some (.slice (some ⟨bb,off,none⟩) raw.length c)/\w'.cell? ⟨b,1,none⟩=some (.int .i64 ((i:Int)+1))/\w'.cell? ⟨bb,off+i,none⟩=some (.int .i64 x))
      (first | exact ⟨(Below.refl _ _).drew,d0,d1,d2⟩ | assumption)
      ((go_at_call 31;refine (pick_any x n _ hr0 hr1 hn hn2).mono ?_;rintro e w5 ⟨⟨r,rfl,hr⟩,hw5⟩;subst hw5;have HR:=hide hr;clear hr))
    all_goals go_wp2_with fail
    go_ret
    exact ⟨⟨r,rfl,HR.out⟩,⟨_,_,_,_,HM2.out⟩,HO.out.drew⟩
  · have hd:decide ((raw.length:Int)<=(i:Int))=true:=decide_eq_true (by omega)
    clear h4 h2 hB
    go_enter Tryz.func101,Tryz.ntmps101
    go_wp2_with fail
    go_quiet (fail)
    go_wp2
    go_ret
    exact ⟨⟨0,rfl,by omega⟩,⟨_,_,_,_,HM.out⟩,(Off.refl _ _).drewN _⟩
end Go.Proofs.YtpoibdhhcbelnaaGreatDoor
namespace Go.Proofs.YtpoibdhhcbelnaaGreatDoor
open Go.RowKit Brm
theorem tbl_at {w:World}{b:Nat}{cs:List Value}{T:TypeId}(P:List UInt8->Prop)(h:Blk w b cs T)(hcs:∀ v∈cs,∃ t,v=.string t/\P (bytesOf t)){r:Nat}(hr:r<cs.length):∃ t,w.cell? ⟨b,r,none⟩=some (.string t)/\P (bytesOf t):=by
  obtain ⟨t,e,ht⟩:=hcs cs[r] (List.getElem_mem hr)
  exact ⟨t,by rw [h.cell,List.getElem?_eq_getElem hr,e],ht⟩
def atomT:List Value:=[.string { data:=#[97] },.string { data:=#[98] },.string { data:=#[99] },.string { data:=#[46] },.string { data:=#[91,97,98,93] },.string { data:=#[91,94,97,93] },.string { data:=#[195,169] },.string { data:=#[92,100] },.string { data:=#[40,97,98,41] }]
def sfxT:List Value:=[.string { data:=#[] },.string { data:=#[] },.string { data:=#[42] },.string { data:=#[43] },.string { data:=#[63] },.string { data:=#[123,50,125] },.string { data:=#[123,49,44,50,125] }]
theorem atomT_ok:∀ v∈atomT,∃ t,v=.string t/\(bytesOf t∈atoms/\(bytesOf t).length<=4):=by
  intro v hv
  simp only [atomT,List.mem_cons,List.not_mem_nil,or_false] at hv
  rcases hv with rfl | rfl | rfl | rfl | rfl | rfl | rfl | rfl | rfl<;>exact ⟨_,rfl,by simp [bytesOf,atoms]⟩
theorem sfxT_ok:∀ v∈sfxT,∃ t,v=.string t/\(bytesOf t∈sfxs/\(bytesOf t).length<=5):=by
  intro v hv
  simp only [sfxT,List.mem_cons,List.not_mem_nil,or_false] at hv
  rcases hv with rfl | rfl | rfl | rfl | rfl | rfl | rfl<;>exact ⟨_,rfl,by simp [bytesOf,sfxs]⟩
def AtomOk (d:Int)(k m:Nat):Prop:=∀ (b:Nat) (w:World),MkX w b->Calls Tryz.prog 102 #[.pointer (some ⟨b,0,none⟩),.int .i64 d] w fun e w'=>∃ s:ByteArray,e=.returned (.string s)/\(GoodA k (bytesOf s)/\s.size<=m)/\MkX w' b/\Off b w w'
def PatOk (d:Int)(k m:Nat):Prop:=∀ (b:Nat) (w:World),MkX w b->Calls Tryz.prog 56 #[.pointer (some ⟨b,0,none⟩),.int .i64 d] w fun e w'=>∃ s:ByteArray,e=.returned (.string s)/\(GoodP k (bytesOf s)/\s.size<=m)/\MkX w' b/\Off b w w'
theorem atom_at {W:World}{B r:Nat}(hT:Blk W B atomT 9)(hr:(r:Int)<9):∃ t:ByteArray,W.cell? ⟨B,r,none⟩=some (.string t)/\(GoodA 1 (bytesOf t)/\t.size<=4):=by
  obtain ⟨t,h1,h2,h3⟩:=tbl_at (fun t=>t∈atoms/\t.length<=4) hT atomT_ok (r:=r) (by simp [atomT];omega)
  exact ⟨t,h1,atoms_good h2,by rw [<- bytes_len];exact h3⟩
theorem sfx_at {W:World}{B r:Nat}(hT:Blk W B sfxT 9)(hr:(r:Int)<7):∃ t:ByteArray,W.cell? ⟨B,r,none⟩=some (.string t)/\(bytesOf t∈sfxs/\t.size<=5):=by
  obtain ⟨t,h1,h2,h3⟩:=tbl_at (fun t=>t∈sfxs/\t.length<=5) hT sfxT_ok (r:=r) (by simp [sfxT];omega)
  exact ⟨t,h1,h2,by rw [<- bytes_len];exact h3⟩
theorem new_off {w:World}{b:Nat}(hM:MkX w b)(cs:List Value)(T:TypeId):∃ W,w.alloc (.cells cs.toArray T)=W/\MkX W b/\Blk W w.heap.size cs T/\Off b w W/\w.heap.size≠b :=
  ⟨_,rfl,hM.below ((Below.refl _ _).alloc (Nat.le_refl _) _),Blk.new w cs T,(Off.refl b w).alloc _,fun e=>by have:=hM.lt;omega⟩
set_option maxRecDepth 100000 in
set_option maxHeartbeats 1000000 in
theorem atom0:AtomOk 0 1 4:=by
  intro b w hM
  obtain ⟨W,hW,hMW,hT,hO,hne⟩:=new_off hM [.string { data:=#[97] },.string { data:=#[98] },.string { data:=#[99] },.string { data:=#[46] },.string { data:=#[91,97,98,93] },.string { data:=#[91,94,97,93] },.string { data:=#[195,169] },.string { data:=#[92,100] },.string { data:=#[40,97,98,41] }] 9
  have HT:=hide hT
  have HM:=hide hMW
  have HO:=hide hO
  have HW:=hide hW
  have HNE:=hide hne
  clear hM hW hMW hT hO hne
  go_enter Tryz.func102,Tryz.ntmps102
  go_wp2_with fail
  rw [HW.out]
  refine (nextM _ _ _ HM.out (by decide) (by decide)).mono ?_
  rintro e w2 ⟨⟨r,rfl,hr⟩,hm2,ho2⟩
  obtain ⟨t,hc,hg⟩:=atom_at (HT.out.off ho2 HNE.out) hr
  have HM2:=hide hm2
  have HO2:=hide ho2
  have HG:=hide hg
  have i0:(0:Int)<=(r:Int):=Int.natCast_nonneg _
  clear hm2 ho2 hg
  generalize w.heap.size=B at hc ⊢
  go_wp2
  go_ret
  exact ⟨t,rfl,HG.out,HM2.out,HO.out.trans HO2.out⟩
def PatI (w:World)(b k m:Nat)(j:Nat)(ov kv:Value)(wr:World):Prop:=∃ (s:ByteArray) (n:Nat),ov=.string s/\kv=.int .i64 ((n:Int)-1)/\n<=j/\n<=3/\GoodR k (bytesOf s)/\s.size+n*(m+5)<=3*(m+5)/\MkX wr b/\Off b w wr
set_option maxRecDepth 100000 in
set_option maxHeartbeats 4000000 in
theorem pattern_walk (d:Int)(k m:Nat)(hA:AtomOk d k m)(hm:m<=100):PatOk d k (4*m+16):=by
  intro b w hM
  have HA:=hide hA
  have HM:=hide hM
  clear hM hA
  go_enter Tryz.func56,Tryz.ntmps56
  go_wp2_with fail
  refine (nextM _ _ _ HM.out (by decide) (by decide)).mono ?_
  rintro e w1 ⟨⟨r,rfl,hr⟩,hm1,ho1⟩
  have HM1:=hide hm1
  have HO1:=hide ho1
  have HR:=hide hr
  clear hm1 ho1 hr
  go_wp2_with fail
  go_loopg [5,6] 3 (fun j ov kv wr=>PatI w b k m j ov kv wr)
  case atStart =>
    have:=HR.out
    exact ⟨_,r+1,rfl,by simp,by omega,by omega,good_nil k,by
      have h9:(r+1)*(m+5)<=3*(m+5):=Nat.mul_le_mul_right _ (by omega)
      have h8:(ByteArray.mk #[]).size=0:=rfl
      omega,HM1.out,HO1.out⟩
  case round =>
    obtain ⟨s,n,rfl,rfl,hn,hn3,hg,hs,hmk,hof⟩:=hrel
    have HMK:=hide hmk
    have HOF:=hide hof
    have HG:=hide hg
    have HS:=hide hs
    have hsz:s.size<=400:=by omega
    clear hmk hof hg hs
    rcases n with _ | q
    · rw [show ((0:Nat):Int)-1=-1 by omega]
      go_wp2_with fail
      refine (nextM _ _ _ HMK.out (by decide) (by decide)).mono ?_
      rintro e w2 ⟨⟨x,rfl,hx⟩,hm2,ho2⟩
      have HM2:=hide hm2
      have HO2:=hide ho2
      clear hm2 ho2
      have HSZ:=hide (show s.size<=3*(m+5) by have:=HS.out;omega)
      rcases x with _ | x
      · have l0:s.size+1<=9223372036854775807:=by omega
        go_wp2_with fail
        refine (HA.out b _ HM2.out).mono ?_
        rintro e w3 ⟨a,rfl,⟨hga,hsa⟩,hm3,ho3⟩
        have HM3:=hide hm3
        have HO3:=hide ho3
        have HGA:=hide hga
        have l1:s.size+1+a.size<=9223372036854775807:=by omega
        have l2:(s++{ data:=#[124] }).size+a.size<=9223372036854775807:=by rw [ByteArray.size_append];exact l1
        clear hm3 ho3 hga
        go_wp2_with fail
        go_ret
        refine ⟨_,rfl,⟨by rw [bytes_add,bytes_add];exact good_bar HG.out HGA.out,?_⟩,HM3.out,HOF.out.trans (HO2.out.trans HO3.out)⟩
        have h9:=HSZ.out
        rw [ByteArray.size_append,ByteArray.size_append]
        have h8:(ByteArray.mk #[124]).size=1:=rfl
        omega
      · have hz:(((x+1:Nat):Int) == 0)=false:=beq_eq_false_iff_ne.2 (by omega)
        have hz2:((x:Int)+1 == 0)=false:=beq_eq_false_iff_ne.2 (by omega)
        go_wp2_with fail
        go_ret
        exact ⟨_,rfl,⟨good_end HG.out,by have:=HSZ.out;omega⟩,HM2.out,HOF.out.trans HO2.out⟩
    · rw [show ((q+1:Nat):Int)-1=(q:Int) by omega]
      have i0:(0:Int)<=(q:Int):=Int.natCast_nonneg _
      have i1:(q:Int)<=3:=by omega
      go_wp2_with fail
      refine (HA.out b _ HMK.out).mono ?_
      rintro e w2 ⟨a,rfl,⟨hga,hsa⟩,hm2,ho2⟩
      obtain ⟨W,hW,hMW,hT,hO,hne⟩:=new_off hm2 [.string { data:=#[] },.string { data:=#[] },.string { data:=#[42] },.string { data:=#[43] },.string { data:=#[63] },.string { data:=#[123,50,125] },.string { data:=#[123,49,44,50,125] }] 9
      have HT:=hide hT
      have HMW:=hide hMW
      have HOW:=hide hO
      have HW:=hide hW
      have HNE:=hide hne
      have HO2:=hide ho2
      have HGA:=hide hga
      have HSA:=hide hsa
      have l1:(s++a).size=s.size+a.size:=ByteArray.size_append
      have l2:s.size+a.size<=9223372036854775807:=by omega
      clear hW hMW hT hO hne ho2 hm2 hga
      go_wp2_with fail
      rw [HW.out]
      refine (nextM _ _ _ HMW.out (by decide) (by decide)).mono ?_
      rintro e w3 ⟨⟨x,rfl,hx⟩,hm3,ho3⟩
      obtain ⟨t,hc,hg⟩:=sfx_at (HT.out.off ho3 HNE.out) hx
      have hst:=hg.2
      have HM3:=hide hm3
      have HO3:=hide ho3
      have HGT:=hide hg
      have j0:(0:Int)<=(x:Int):=Int.natCast_nonneg _
      have l3:s.size+a.size+t.size<=9223372036854775807:=by omega
      have l4:(s++a).size+t.size<=9223372036854775807:=by rw [l1];exact l3
      clear hm3 ho3 hg
      generalize w2.heap.size=B at hc ⊢
      go_wp2_with fail
      go_roundg (gk-1)
      case measure=>omega
      case rel =>
        refine ⟨_,q,rfl,rfl,by omega,by omega,?_,?_,HM3.out,HOF.out.trans (HO2.out.trans (HOW.out.trans HO3.out))⟩
        · rw [bytes_add,bytes_add];exact good_snoc HG.out HGA.out HGT.out.1
        · have h7:=HS.out
          have h8:=HSA.out
          have h9:=HGT.out.2
          rw [Nat.succ_mul] at h7
          rw [ByteArray.size_append,l1]
          omega
end Go.Proofs.YtpoibdhhcbelnaaGreatDoor
namespace Go.Proofs.YtpoibdhhcbelnaaGreatDoor
open Go.RowKit Brm
theorem pat0:PatOk 0 1 32:=pattern_walk 0 1 4 atom0 (by decide)
set_option maxRecDepth 100000 in
set_option maxHeartbeats 4000000 in
theorem atom1:AtomOk 1 2 34:=by
  intro b w hM
  have HM:=hide hM
  clear hM
  go_enter Tryz.func102,Tryz.ntmps102
  go_wp2_with fail
  refine (nextM _ _ _ HM.out (by decide) (by decide)).mono ?_
  rintro e w1 ⟨⟨x,rfl,hx⟩,hm1,ho1⟩
  have HM1:=hide hm1
  have HO1:=hide ho1
  rcases x with _ | x
  · clear hm1 ho1
    go_wp2_with fail
    refine (pat0 b _ HM1.out).mono ?_
    rintro e w2 ⟨s,rfl,⟨hg,hs⟩,hm2,ho2⟩
    have HM2:=hide hm2
    have HO2:=hide ho2
    have HG:=hide hg
    have l0:1+s.size<=9223372036854775807:=by omega
    have l1:1+s.size+1<=9223372036854775807:=by omega
    have l2:(ByteArray.mk #[40]++s).size+1<=9223372036854775807:=by rw [ByteArray.size_append];exact l1
    clear hm2 ho2 hg
    go_wp2_with fail
    go_ret
    refine ⟨_,rfl,⟨by rw [bytes_add,bytes_add];exact good_group HG.out,?_⟩,HM2.out,HO1.out.trans HO2.out⟩
    rw [ByteArray.size_append,ByteArray.size_append]
    have h8:(ByteArray.mk #[40]).size=1:=rfl
    have h9:(ByteArray.mk #[41]).size=1:=rfl
    omega
  · have hz:(((x+1:Nat):Int) == 0)=false:=beq_eq_false_iff_ne.2 (by omega)
    have hz2:((x:Int)+1 == 0)=false:=beq_eq_false_iff_ne.2 (by omega)
    obtain ⟨W,hW,hMW,hT,hO,hne⟩:=new_off hm1 [.string { data:=#[97] },.string { data:=#[98] },.string { data:=#[99] },.string { data:=#[46] },.string { data:=#[91,97,98,93] },.string { data:=#[91,94,97,93] },.string { data:=#[195,169] },.string { data:=#[92,100] },.string { data:=#[40,97,98,41] }] 9
    have HT:=hide hT
    have HMW:=hide hMW
    have HOW:=hide hO
    have HW:=hide hW
    have HNE:=hide hne
    clear hW hMW hT hO hne hm1 ho1
    go_wp2_with fail
    rw [HW.out]
    refine (nextM _ _ _ HMW.out (by decide) (by decide)).mono ?_
    rintro e w2 ⟨⟨r,rfl,hr⟩,hm2,ho2⟩
    obtain ⟨t,hc,hg⟩:=atom_at (HT.out.off ho2 HNE.out) hr
    have HM2:=hide hm2
    have HO2:=hide ho2
    have HG:=hide hg
    have i0:(0:Int)<=(r:Int):=Int.natCast_nonneg _
    clear hm2 ho2 hg
    generalize w1.heap.size=B at hc ⊢
    go_wp2_with fail
    go_ret
    exact ⟨t,rfl,⟨HG.out.1.mono (by decide),by have:=HG.out.2;omega⟩,HM2.out,HO1.out.trans (HOW.out.trans HO2.out)⟩
theorem pat1:PatOk 1 2 152:=pattern_walk 1 2 34 atom1 (by decide)
def IntsA (w:World)(a:Option Addr)(raw:List Int):Prop:=∀ j x,raw[j]?=some x->∃ bb off,a=some ⟨bb,off,none⟩/\bb<w.heap.size/\w.cell? ⟨bb,off+j,none⟩=some (.int .i64 x)/\-9223372036854775808<=x/\x<=9223372036854775807
theorem IntsA.below {w w':World}{a:Option Addr}{raw:List Int}(h:IntsA w a raw)(k:Below w.heap.size w w'):IntsA w' a raw:=by
  intro j x hx
  obtain ⟨bb,off,rfl,hb,hc,hr⟩:=h j x hx
  exact ⟨bb,off,rfl,Nat.lt_of_lt_of_le hb k.size,(k.cell (p:=⟨bb,_,none⟩) hb).trans hc,hr⟩
theorem IntsA.mk {w:World}{a:Option Addr}{raw:List Int}(h:IntsA w a raw)(c:Nat)(hl:raw.length<=9223372036854775807):∃ W,w.alloc (.cells #[.slice a raw.length c,.int .i64 0] 110)=W/\MkX W w.heap.size/\Below w.heap.size w W:=by
  have hB:Below w.heap.size w (w.alloc (.cells #[.slice a raw.length c,.int .i64 0] 110)):=(Below.refl _ _).alloc (Nat.le_refl _) _
  refine ⟨_,rfl,⟨a,c,raw,0,Blk.new w [.slice a raw.length c,.int .i64 0] 110,Nat.zero_le _,hl,fun j x hx=>?_⟩,hB⟩
  obtain ⟨bb,off,rfl,hb,hc,hr⟩:=h j x hx
  exact ⟨bb,off,rfl,hb,(hB.cell (p:=⟨bb,_,none⟩) hb).trans hc,hr⟩
theorem good_a:GoodP 2 [97]:=good_end (by simpa using good_snoc (good_nil 2) ((atoms_good (a:=[97]) (by simp [atoms])).mono (by decide)) (s:=[]) (by simp [sfxs]))
set_option maxRecDepth 100000 in
set_option maxHeartbeats 4000000 in
theorem pattern_any (a:Option Addr)(c:Nat)(raw:List Int)(w:World)(h:IntsA w a raw)(hl:raw.length<=9223372036854775807) :
    Calls Tryz.prog 27 #[.slice a raw.length c] w fun e w'=>∃ s:ByteArray,e=.returned (.string s)/\(GoodP 2 (bytesOf s)/\s.size<=24)/\Below w.heap.size w w':=by
  obtain ⟨W,hW,hM,hB⟩:=h.mk c hl
  have HW:=hide hW
  have HM:=hide hM
  have HB:=hide hB
  have HSZ:Hid (w.heap.size<=W.heap.size):=hB.size
  clear hW hM hB h
  go_enter Tryz.func27,Tryz.ntmps27
  go_wp2_with fail
  rw [HW.out]
  refine (pat1 _ _ HM.out).mono ?_
  rintro e w2 ⟨s,rfl,⟨hg,hs⟩,hm2,ho2⟩
  have HB2:=hide (HB.out.trans (ho2.toBelow (Nat.le_refl _) HSZ.out))
  have HG:=hide hg
  clear hm2 ho2 hg
  by_cases h24:s.size<=24
  · have hd:decide ((24:Int)<(s.size:Int))=false:=decide_eq_false (by omega)
    go_wp2_with fail
    go_ret
    exact ⟨_,rfl,⟨HG.out,h24⟩,HB2.out⟩
  · have hd:decide ((24:Int)<(s.size:Int))=true:=decide_eq_true (by omega)
    go_wp2_with fail
    go_ret
    exact ⟨_,rfl,⟨good_a,by decide⟩,HB2.out⟩
def lets:List (List UInt8):=[[97],[98],[99],[195,169],[49],[10]]
def letT:List Value:=[.string { data:=#[97] },.string { data:=#[98] },.string { data:=#[99] },.string { data:=#[195,169] },.string { data:=#[49] },.string { data:=#[10] }]
theorem letT_ok:∀ v∈letT,∃ t,v=.string t/\((∃ l,Runes (bytesOf t) l)/\(bytesOf t).length<=2):=by
  intro v hv
  simp only [letT,List.mem_cons,List.not_mem_nil,or_false] at hv
  rcases hv with rfl | rfl | rfl | rfl | rfl | rfl
  · exact ⟨_,rfl,⟨_,runes_lows (bs:=[97]) (by decide)⟩,by decide⟩
  · exact ⟨_,rfl,⟨_,runes_lows (bs:=[98]) (by decide)⟩,by decide⟩
  · exact ⟨_,rfl,⟨_,runes_lows (bs:=[99]) (by decide)⟩,by decide⟩
  · exact ⟨_,rfl,⟨_,runes_e⟩,by decide⟩
  · exact ⟨_,rfl,⟨_,runes_lows (bs:=[49]) (by decide)⟩,by decide⟩
  · exact ⟨_,rfl,⟨_,runes_lows (bs:=[10]) (by decide)⟩,by decide⟩
theorem let_at {W:World}{B r:Nat}(hT:Blk W B letT 9)(hr:(r:Int)<6):∃ t:ByteArray,W.cell? ⟨B,r,none⟩=some (.string t)/\((∃ l,Runes (bytesOf t) l)/\t.size<=2):=by
  obtain ⟨t,h1,h2,h3⟩:=tbl_at (fun t=>(∃ l,Runes t l)/\t.length<=2) hT letT_ok (r:=r) (by simp [letT];omega)
  exact ⟨t,h1,h2,by rw [<- bytes_len];exact h3⟩
def TxtI (w:World)(n:Nat)(j:Nat)(ov iv:Value)(wr:World):Prop:=∃ (s:ByteArray) (i:Nat),ov=.string s/\iv=.int .i64 (i:Int)/\i<=n/\i<=8/\8-i<=j/\(∃ l,Runes (bytesOf s) l)/\s.size<=2*i/\Below w.heap.size w wr
set_option maxRecDepth 100000 in
set_option maxHeartbeats 4000000 in
theorem ktext_any (a:Option Addr)(c:Nat)(raw:List Int)(w:World)(h:IntsA w a raw)(hl:raw.length<=9223372036854775807) :
    Calls Tryz.prog 28 #[.slice a raw.length c] w fun e w'=>∃ s:ByteArray,e=.returned (.string s)/\((∃ l,Runes (bytesOf s) l)/\s.size<=16)/\Below w.heap.size w w':=by
  have HI:=hide h
  clear h
  go_enter Tryz.func28,Tryz.ntmps28
  go_wp2_with fail
  go_loopg [3,4] 8 (fun j ov iv wr=>TxtI w raw.length j ov iv wr)
  case atStart=>exact ⟨_,0,rfl,rfl,by omega,by omega,by omega,⟨_,.nil⟩,Nat.le_refl _,Below.refl _ _⟩
  case round =>
    obtain ⟨s,i,rfl,rfl,hi,hi8,hj,hru,hsz,hbel⟩:=hrel
    have HRU:=hide hru
    have HB:=hide hbel
    clear hru hbel
    have i0:(0:Int)<=(i:Int):=Int.natCast_nonneg _
    by_cases h1:i<raw.length
    · have i1:(i:Int)<(raw.length:Int):=by omega
      by_cases h2:i<8
      · have i2:(i:Int)<8:=by omega
        have d1:decide ((i:Int)<(raw.length:Int))=true:=decide_eq_true i1
        have d2:decide ((i:Int)<8)=true:=decide_eq_true i2
        obtain ⟨x,hx⟩:∃ x,raw[i]?=some x:=⟨_,List.getElem?_eq_getElem h1⟩
        obtain ⟨bb,off,rfl,hbb,hcell,hr0,hr1⟩:=(HI.out.below HB.out) i x hx
        have hT:=Blk.new wr [.string { data:=#[97] },.string { data:=#[98] },.string { data:=#[99] },.string { data:=#[195,169] },.string { data:=#[49] },.string { data:=#[10] }] 9
        have hBW:Below wr.heap.size wr (wr.alloc (.cells #[.string { data:=#[97] },.string { data:=#[98] },.string { data:=#[99] },.string { data:=#[195,169] },.string { data:=#[49] },.string { data:=#[10] }] 9)):=(Below.refl _ _).alloc (Nat.le_refl _) _
        have hcw:=(hBW.cell (p:=⟨bb,off+i,none⟩) hbb).trans hcell
        have HT:=hide hT
        have HBW:=hide hBW
        clear hT hBW hx hcell
        go_wp2_with fail
        refine (pick_any x 6 _ hr0 hr1 (by decide) (by decide)).mono ?_
        rintro e w5 ⟨⟨r,rfl,hr⟩,hw5⟩
        subst hw5
        obtain ⟨t,hc,hg⟩:=let_at HT.out hr
        have hst:=hg.2
        have HG:=hide hg
        have j0:(0:Int)<=(r:Int):=Int.natCast_nonneg _
        have l1:s.size+t.size<=9223372036854775807:=by omega
        clear hg
        generalize wr.alloc (.cells #[.string { data:=#[97] },.string { data:=#[98] },.string { data:=#[99] },.string { data:=#[195,169] },.string { data:=#[49] },.string { data:=#[10] }] 9)=W at *
        go_wp2_with fail
        go_roundg (gk-1)
        case measure=>omega
        case rel =>
          obtain ⟨l,hl2⟩:=HRU.out
          obtain ⟨m,hm2⟩:=HG.out.1
          exact ⟨_,i+1,rfl,by go_num,by omega,by omega,by omega,⟨l++m,by rw [bytes_add];exact runes_append hl2 hm2⟩,by rw [ByteArray.size_append];omega,HB.out.trans (HBW.out.mono HB.out.size)⟩
      · have d1:decide ((i:Int)<(raw.length:Int))=true:=decide_eq_true i1
        have d2:decide ((i:Int)<8)=false:=decide_eq_false (by omega)
        go_wp2_with fail
        go_ret
        exact ⟨_,rfl,⟨HRU.out,by omega⟩,HB.out⟩
    · have d1:decide ((i:Int)<(raw.length:Int))=false:=decide_eq_false (by omega)
      go_wp2_with fail
      go_ret
      exact ⟨_,rfl,⟨HRU.out,by omega⟩,HB.out⟩
end Go.Proofs.YtpoibdhhcbelnaaGreatDoor
