/- The law Leasts (P6, P8) answers true at every pattern's text and every number, and leaves what was handed in as it was; the card ties the library's tables, which the row lists, to the program's text. No condition of our own. -/
import Derived.Deep.Strs
import Derived.OpenShut
import Derived.ShutString
import Derived.Lay
import Derived.Test.YtebnghmioamheaaGreatDoorTie
import Derived.Test.YtebnghmioamheaaGreatDoorM46
import Derived.Test.YtebnghmioamheaaGreatDoorM50
import Derived.Test.YtebnghmioamheaaGreatDoorM51
set_option maxHeartbeats 1000000
set_option maxRecDepth 100000
set_option linter.all false
namespace Go.Proofs.YtebnghmioamheaaGreatDoor
open Go.RowKit Go.Shelf Go.ChangeShapes Go.WideShapes Go.ChangeAt Go.Deep Tryz
open Go.ChangeMaps (open_string shut_string)
theorem Dp (os:Os)(started:os.Started)(H:Type)(enc:TypeId×Value->H) :
  ReturnsInHanded {} Tryz.checked os 3 .any (λw args=>(Rows.leastsSpec.pre enc prog Tryz.f3 [] false w args/\laidMetH prog Rows.leastsRow.laid w)/\sizedMet enc prog Tryz.f3 (OpenSpec.ofChange Rows.leastsSpec) false w args)
   (Rows.leastsSpec.post enc prog Tryz.f3 false true false false):=by
 refine returnsInHanded_of_change_and (C:=Tryz.checked) (X:=λw _=>laidMetH prog Rows.leastsRow.laid w) (λ_ _ _ L h=>h.of_heap L) SC started (by kernel_rfl) func3
  (ChangeSpec.witness_shaped (enc:=enc) (C:=Tryz.checked) (os:=os) (X:=λw _=>laidMetH prog Rows.leastsRow.laid w) false (World.laidAll prog os Rows.leastsRow.laid) #[.string ⟨#[]⟩,Vi 0] 8 (World.laidAll_os _ _ _)
   (World.shaped_of_ZipB (by kernel_rfl) (by kernel_rfl)) (by kernel_rfl) (by kernel_rfl) (by kernel_rfl)
   (by rw[MakeChecks.laidMetH_plain _ _ _ (by kernel_rfl)];exact laidMet_laidAll _ (by kernel_rfl) (by kernel_rfl))) ?_
 intro W g args J Q i b s _ _ r _;have a:∀(j:Nat) t v,Tryz.f3.params[j]?=some t->args[j]?=some v->Value.okWide prog W .any g t v:=b;have k:=s;obtain⟨p,q,m,E,rfl,_,_⟩:=s;have y:DataW.TrodAll enc prog W 0 (λ_=>true) true Tryz.f3.params.toList args.toList J p:=m;rw[params3]at y a;obtain⟨u,I,U,B,R,P,n,rfl,rfl,D,F⟩:=trodAll_cons y;obtain⟨x,G,S,N,V,Y,rfl,rfl,rfl,O,M⟩:=trodAll_cons F;obtain⟨rfl,rfl,rfl⟩:=trodAll_nil M;obtain rfl:args=#[u,x]:=by cases args;simp_all
 obtain⟨rfl,rfl⟩:=trodVars_none E;obtain⟨z,rfl,rfl,rfl,f⟩:=open_string underlying9 (a 0 9 u rfl rfl) D;obtain⟨o,rfl,rfl,rfl,d⟩:=open_int underlying3 (a 1 3 x rfl rfl) O;have K:(-9223372036854775808:Int)<=o/\o<=9223372036854775807:=by
  have h:=d;simp only[Lit.wf,yP,zY]at h;simpa [IntKind.min,IntKind.max,IntKind.signed,IntKind.bits]using h
 rw[MakeChecks.laidMetH_plain _ _ _ (by kernel_rfl)]at r;have c:=Mo (show laidMet prog Rows.leastsRow.laid W from r);refine (GX z o c (by unfold maxLen at f;omega)).mono λe T ⟨A,l⟩=>?_;subst A;exact⟨_,rfl,_,_,_,[],_,[],k,trodAll_mk1 (shut_bool underlying4 _),
  (trodAll_cons_mk (shut_string underlying9 f) (trodAll_cons_mk (shut_int underlying3 d) trodAll_mk0)),rfl,l.frame _,λh=>by cases h⟩
theorem Lo:Rows.LeastsSaid :=
 OpenClaim.holds_of_wide 3 Tryz.f3 rfl rfl rfl rfl rfl rfl rfl ⟨rfl,rfl,rfl,rfl,rfl⟩ rfl rfl rfl rfl rfl tI func3 FV Iq Ir
  (λc a H b _=>Dp c a H b)
theorem leasts_card:Rows.LeastsCardSaid :=
 Claim7.holds_tied_plain_at .later [] [.data,.data,.data,.data,.pinned,.pinned] true Rows.leastsCard.stood.harness true Lo (λ_ h=>by cases h) PM (λ_ h=>by cases h) leasts_row_tie rfl ⟨rfl,rfl⟩ Is rfl
  (λf b c a=>by
   obtain rfl:f=3:=yT (tI.symm.trans c) |>.symm;obtain rfl:b=Tryz.f3:=(yT (func3.symm.trans a)).symm;exact⟨FW,Dx⟩)
  It
#print axioms leasts_card
