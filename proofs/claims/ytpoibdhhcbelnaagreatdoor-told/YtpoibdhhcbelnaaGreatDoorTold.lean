/- The law Told (P10, P11) answers true at every raw numbers and every number, and leaves what was handed in as it was; the card ties the library's tables, which the row lists, to the program's text. No condition of our own. -/
import Derived.ChangeSlices
import Derived.Deep.Strs
import Derived.Carry
import Derived.OpenShut
import Derived.ShutString
import Derived.ChangeOld
import Derived.Lay
import Derived.LaidOnce
import Derived.SevenTiedAt
import Derived.Test.YtpoibdhhcbelnaaGreatDoorTie
import Derived.Test.YtpoibdhhcbelnaaGreatDoorCards
import Derived.Test.YtpoibdhhcbelnaaGreatDoorM46
import Derived.Test.YtpoibdhhcbelnaaGreatDoorM45
import Derived.Test.YtpoibdhhcbelnaaGreatDoorM47
namespace Go.Proofs.YtpoibdhhcbelnaaGreatDoor
open Go.RowKit Go.Shelf Go.ChangeShapes Go.WideShapes Go.ChangeAt Go.Deep
open Go.ChangeMaps (open_string shut_string)
theorem Tryz.laidOut:laidOutB Tryz.prog=true:=by kernel_rfl
theorem Tryz.cells3:Tryz.prog.cellsOf 3=1:=by kernel_rfl
theorem open_raw {H:Type}{enc:TypeId×Value->H}{W:World}{ao:Option Addr}{len cap fuel:Nat}{x:DataW H×List MemPlace}
    (h:DataW.trod enc Tryz.prog W 0 (fun _=>true) true fuel 48 [.slice ao len cap]=some x):∃ r:List Int,r.length=len/\IntsA W ao r/\r.length<=9223372036854775807:=by
  rcases ChangeShapes.open_ints Tryz.underlying48 Tryz.underlying3 Tryz.cells3 h with ⟨hcs,_⟩ | ⟨a,len',cap',zs,hcs,_,hl,hm,hz,_,hc,hw⟩
  · simp at hcs
    obtain ⟨rfl,rfl,rfl⟩:=hcs
    exact ⟨[],rfl,fun i x hx=>by simp at hx,by simp⟩
  · simp at hcs
    obtain ⟨rfl,rfl,rfl⟩:=hcs
    simp only [if_true] at hz
    unfold maxLen at hm
    refine ⟨zs.take len,by simp;omega,fun i x hx=>?_,by simp;omega⟩
    have hi:i<len:=by
      rcases Nat.lt_or_ge i len with h' | h'
      · exact h'
      · rw [List.getElem?_eq_none (by simp;omega)] at hx;simp at hx
    rw [List.getElem?_take_of_lt hi] at hx
    have h1:=hc i (by omega)
    obtain ⟨b,off,spot⟩:=a
    have hspot:spot=none:=by simpa [Addr.add] using World.cell?_spot (hc 0 (by omega))
    subst hspot
    rw [add_plain] at h1
    rw [List.getD_eq_getElem?_getD,hx] at h1
    have hwf:=hw x (List.mem_of_getElem? hx)
    refine ⟨b,off,rfl,World.block_lt_of_cell? W _ h1,h1,?_⟩
    simp only [Lit.wf,Bool.and_eq_true,decide_eq_true_eq] at hwf
    have hwf2:(-9223372036854775808:Int)<=x/\x<=9223372036854775807:=by simpa [IntKind.min,IntKind.max,IntKind.signed,IntKind.bits] using hwf
    exact hwf2
set_option maxRecDepth 100000 in
set_option maxHeartbeats 1000000 in
theorem told_lifted (os:Os)(started:os.Started)(H:Type)(enc:TypeId×Value->H) :
    ReturnsInHanded {} Tryz.checked os 11 .any (fun w args=>(Rows.toldSpec.pre enc Tryz.prog Tryz.f11 [] false w args/\laidMetH Tryz.prog Rows.toldRow.laid w)/\sizedMet enc Tryz.prog Tryz.f11 (OpenSpec.ofChange Rows.toldSpec) false w args)
      (Rows.toldSpec.post enc Tryz.prog Tryz.f11 false true false false):=by
  refine returnsInHanded_of_change_and (C:=Tryz.checked) (X:=fun w _=>laidMetH Tryz.prog Rows.toldRow.laid w) (fun _ _ _ hh h=>h.of_heap hh) Tryz.own started (by kernel_rfl) Tryz.func11
    (ChangeSpec.witness_shaped (enc:=enc) (C:=Tryz.checked) (os:=os) (X:=fun w _=>laidMetH Tryz.prog Rows.toldRow.laid w) false (World.laidAll Tryz.prog os Rows.toldRow.laid) #[.slice none 0 0,.slice none 0 0,.int .i64 0,.slice none 0 0] 8 (World.laidAll_os _ _ _)
      (World.shaped_of_ZipB (by kernel_rfl) (by kernel_rfl)) (by kernel_rfl) (by kernel_rfl) (by kernel_rfl)
      (by rw [MakeChecks.laidMetH_plain _ _ _ (by kernel_rfl)];exact laidMet_laidAll _ (by kernel_rfl) (by kernel_rfl))) ?_
  intro W base args ds gs before hval0 hW _ _ hL _
  have hval:∀ (j:Nat) t v,Tryz.f11.params[j]?=some t->args[j]?=some v->Value.okWide Tryz.prog W .any base t v:=hval0
  have hW':=hW
  obtain ⟨p,q,hA0,hV,rfl,_,_⟩:=hW
  have hA:DataW.TrodAll enc Tryz.prog W 0 (fun _=>true) true Tryz.f11.params.toList args.toList ds p:=hA0
  rw [Tryz.params11] at hA hval
  obtain ⟨v0,vs0,d0,ds0,p0,q0,hargs,rfl,rfl,h0,r0⟩:=trodAll_cons hA
  obtain ⟨v1,vs1,d1,ds1,p1,q1,rfl,rfl,rfl,h1,r1⟩:=trodAll_cons r0
  obtain ⟨v2,vs2,d2,ds2,p2,q2,rfl,rfl,rfl,h2,r2⟩:=trodAll_cons r1
  obtain ⟨v3,vs3,d3,ds3,p3,q3,rfl,rfl,rfl,h3,r3⟩:=trodAll_cons r2
  obtain ⟨rfl,rfl,rfl⟩:=trodAll_nil r3
  obtain rfl:args=#[v0,v1,v2,v3]:=by cases args;simp_all
  obtain ⟨rfl,rfl⟩:=trodVars_none hV
  obtain ⟨a0,len0,cap0,rfl⟩:=okWide_slice Tryz.underlying48 (hval 0 48 v0 rfl rfl)
  have k0:=h0
  have lt0:∀ x∈p0,x.block<W.heap.size:=by obtain ⟨m,hm⟩:=k0;exact DataW.trod_lt m _ _ _ hm
  obtain ⟨z0,rfl,hI0,hl0⟩:=(by obtain ⟨fuel,hf⟩:=h0;exact open_raw hf:∃ r:List Int,r.length=len0/\IntsA W a0 r/\r.length<=9223372036854775807)
  obtain ⟨a1,len1,cap1,rfl⟩:=okWide_slice Tryz.underlying48 (hval 1 48 v1 rfl rfl)
  have k1:=h1
  have lt1:∀ x∈p1,x.block<W.heap.size:=by obtain ⟨m,hm⟩:=k1;exact DataW.trod_lt m _ _ _ hm
  obtain ⟨z1,rfl,hI1,hl1⟩:=(by obtain ⟨fuel,hf⟩:=h1;exact open_raw hf:∃ r:List Int,r.length=len1/\IntsA W a1 r/\r.length<=9223372036854775807)
  obtain ⟨n2,rfl,rfl,rfl,wn2⟩:=open_int Tryz.underlying3 (hval 2 3 v2 rfl rfl) h2
  have wm2:(-9223372036854775808:Int)<=n2/\n2<=9223372036854775807:=by
    have h:=wn2
    simp only [Lit.wf,Bool.and_eq_true,decide_eq_true_eq] at h
    simpa [IntKind.min,IntKind.max,IntKind.signed,IntKind.bits] using h
  obtain ⟨a3,len3,cap3,rfl⟩:=okWide_slice Tryz.underlying48 (hval 3 48 v3 rfl rfl)
  have k3:=h3
  have lt3:∀ x∈p3,x.block<W.heap.size:=by obtain ⟨m,hm⟩:=k3;exact DataW.trod_lt m _ _ _ hm
  obtain ⟨z3,rfl,hI3,hl3⟩:=(by obtain ⟨fuel,hf⟩:=h3;exact open_raw hf:∃ r:List Int,r.length=len3/\IntsA W a3 r/\r.length<=9223372036854775807)
  rw [MakeChecks.laidMetH_plain _ _ _ (by kernel_rfl)] at hL
  have hTab:=tabs_logic (show laidMet Tryz.prog Rows.logicRow.laid W from hL)
  refine (told_walk a0 a1 a3 cap0 cap1 cap3 z0 z1 z3 n2 W hTab hI0 hI1 hI3 hl0 hl1 hl3 wm2.1 wm2.2).mono fun e W' ⟨he,bel⟩=>?_
  subst he
  exact ⟨_,rfl,_,_,_,[],_,[],hW',trodAll_mk1 (shut_bool Tryz.underlying4 _),
    (trodAll_cons_mk (Below.trod Tryz.laidOut (by kernel_rfl) (of_decide_eq_true (by kernel_rfl)) k0 bel lt0) (trodAll_cons_mk (Below.trod Tryz.laidOut (by kernel_rfl) (of_decide_eq_true (by kernel_rfl)) k1 bel lt1) (trodAll_cons_mk (shut_int Tryz.underlying3 wn2) (trodAll_cons_mk (Below.trod Tryz.laidOut (by kernel_rfl) (of_decide_eq_true (by kernel_rfl)) k3 bel lt3) trodAll_mk0)))),rfl,bel.frame _,fun h=>by cases h⟩
theorem told_row:Rows.ToldSaid :=
  OpenClaim.holds_of_wide 11 Tryz.f11 rfl rfl rfl rfl rfl rfl rfl ⟨rfl,rfl,rfl,rfl,rfl⟩ rfl rfl rfl rfl rfl told_named Tryz.func11 told_facts told_inst told_wrap
    (fun os started H enc _=>told_lifted os started H enc)
theorem told_card:Rows.ToldCardSaid :=
  Claim7.holds_tied_plain_at .later [] [.data,.data,.data,.data,.pinned,.pinned] true Rows.toldCard.stood.harness true told_row (fun _ h=>by cases h) told_wf (fun _ h=>by cases h) told_row_tie rfl ⟨rfl,rfl⟩ told_main rfl
    (fun f fn hf hfn=>by
      obtain rfl:f=11:=Option.some.inj (told_named.symm.trans hf) |>.symm
      obtain rfl:fn=Tryz.f11:=(Option.some.inj (Tryz.func11.symm.trans hfn)).symm
      exact ⟨told_looks,told_params⟩)
    told_goes
#print axioms told_card
end Go.Proofs.YtpoibdhhcbelnaaGreatDoor
