/- The law Leasts (P6, P8) answers true at every pattern's text and every number, and leaves what was handed in as it was; the card ties the library's tables, which the row lists, to the program's text. No condition of our own. -/
import Derived.Deep.Strs
import Derived.OpenShut
import Derived.ShutString
import Derived.Lay
import Derived.Test.YtebnghmioamheaaGreatDoorTie
import Derived.Test.YtebnghmioamheaaGreatDoorM45
import Derived.Test.YtebnghmioamheaaGreatDoorM49
import Derived.Test.YtebnghmioamheaaGreatDoorM50
set_option maxHeartbeats 1000000
set_option maxRecDepth 100000
set_option linter.all false
namespace Go.Proofs.YtebnghmioamheaaGreatDoor
open Go.RowKit Go.Shelf Go.ChangeShapes Go.WideShapes Go.ChangeAt Go.Deep
open Go.ChangeMaps (open_string shut_string)
theorem Dp (os:Os)(started:os.Started)(H:Type)(enc:TypeId×Value->H) :
  ReturnsInHanded {} Tryz.checked os 3 .any (λw args=>(Rows.leastsSpec.pre enc Tryz.prog Tryz.f3 [] false w args/\laidMetH Tryz.prog Rows.leastsRow.laid w)/\sizedMet enc Tryz.prog Tryz.f3 (OpenSpec.ofChange Rows.leastsSpec) false w args)
   (Rows.leastsSpec.post enc Tryz.prog Tryz.f3 false true false false):=by
 refine returnsInHanded_of_change_and (C:=Tryz.checked) (X:=λw _=>laidMetH Tryz.prog Rows.leastsRow.laid w) (λ_ _ _ z h=>h.of_heap z) SC started (by kernel_rfl) Tryz.func3
  (ChangeSpec.witness_shaped (enc:=enc) (C:=Tryz.checked) (os:=os) (X:=λw _=>laidMetH Tryz.prog Rows.leastsRow.laid w) false (World.laidAll Tryz.prog os Rows.leastsRow.laid) #[.string ⟨#[]⟩,Vi 0] 8 (World.laidAll_os _ _ _)
   (World.shaped_of_ZipB (by kernel_rfl) (by kernel_rfl)) (by kernel_rfl) (by kernel_rfl) (by kernel_rfl)
   (by rw[MakeChecks.laidMetH_plain _ _ _ (by kernel_rfl)];exact laidMet_laidAll _ (by kernel_rfl) (by kernel_rfl))) ?_
 intro W d args B R i b r _ _ y _;have a:∀(j:Nat) t v,Tryz.f3.params[j]?=some t->args[j]?=some v->Value.okWide Tryz.prog W .any d t v:=b;have o:=r;obtain⟨p,q,k,G,rfl,_,_⟩:=r;have x:DataW.TrodAll enc Tryz.prog W 0 (λ_=>true) true Tryz.f3.params.toList args.toList B p:=k;rw[Tryz.params3]at x a;obtain⟨u,F,V,L,P,S,n,rfl,rfl,M,E⟩:=trodAll_cons x;obtain⟨s,A,Q,N,Y,T,rfl,rfl,rfl,D,J⟩:=trodAll_cons E;obtain⟨rfl,rfl,rfl⟩:=trodAll_nil J;obtain rfl:args=#[u,s]:=by cases args;simp_all
 obtain⟨rfl,rfl⟩:=trodVars_none G;obtain⟨O,rfl,rfl,rfl,g⟩:=open_string Tryz.underlying9 (a 0 9 u rfl rfl) M;obtain⟨m,rfl,rfl,rfl,c⟩:=open_int Tryz.underlying3 (a 1 3 s rfl rfl) D;have I:(-9223372036854775808:Int)<=m/\m<=9223372036854775807:=by
  have h:=c;simp only[Lit.wf,yP,zY]at h;simpa [IntKind.min,IntKind.max,IntKind.signed,IntKind.bits]using h
 rw[MakeChecks.laidMetH_plain _ _ _ (by kernel_rfl)]at y;have f:=Mo (show laidMet Tryz.prog Rows.leastsRow.laid W from y);refine (GX O m f (by unfold maxLen at g;omega)).mono λe U ⟨K,l⟩=>?_;subst K;exact⟨_,rfl,_,_,_,[],_,[],o,trodAll_mk1 (shut_bool Tryz.underlying4 _),
  (trodAll_cons_mk (shut_string Tryz.underlying9 g) (trodAll_cons_mk (shut_int Tryz.underlying3 c) trodAll_mk0)),rfl,l.frame _,λh=>by cases h⟩
theorem Lo:Rows.LeastsSaid :=
 OpenClaim.holds_of_wide 3 Tryz.f3 rfl rfl rfl rfl rfl rfl rfl ⟨rfl,rfl,rfl,rfl,rfl⟩ rfl rfl rfl rfl rfl tI Tryz.func3 FV Iq Ir
  (λc a H b _=>Dp c a H b)
theorem leasts_card:Rows.LeastsCardSaid :=
 Claim7.holds_tied_plain_at .later [] [.data,.data,.data,.data,.pinned,.pinned] true Rows.leastsCard.stood.harness true Lo (λ_ h=>by cases h) PM (λ_ h=>by cases h) leasts_row_tie rfl ⟨rfl,rfl⟩ Is rfl
  (λf b c a=>by
   obtain rfl:f=3:=yT (tI.symm.trans c) |>.symm;obtain rfl:b=Tryz.f3:=(yT (Tryz.func3.symm.trans a)).symm;exact⟨FW,Dx⟩)
  It
#print axioms leasts_card
