/- The law Differs (P6, P10) answers true at every two patterns' texts and every number, and leaves what was handed in as it was; the card ties the library's tables, which the row lists, to the program's text. No condition of our own. -/
import Derived.Deep.Strs
import Derived.OpenShut
import Derived.ShutString
import Derived.Lay
import Derived.Test.YtebnghmioamheaaGreatDoorTie
import Derived.Test.YtebnghmioamheaaGreatDoorM46
import Derived.Test.YtebnghmioamheaaGreatDoorM50
import Derived.Test.YtebnghmioamheaaGreatDoorM51
set_option maxHeartbeats 1000000
set_option maxRecDepth 100000
set_option linter.all false
namespace Go.Proofs.YtebnghmioamheaaGreatDoor
open Go.RowKit Go.Shelf Go.ChangeShapes Go.WideShapes Go.ChangeAt Go.Deep Tryz
open Go.ChangeMaps (open_string shut_string)
theorem Ix (os:Os)(started:os.Started)(H:Type)(enc:TypeId×Value->H) :
  ReturnsInHanded {} Tryz.checked os 4 .any (λw args=>(Rows.differsSpec.pre enc prog Tryz.f4 [] false w args/\laidMetH prog Rows.differsRow.laid w)/\sizedMet enc prog Tryz.f4 (OpenSpec.ofChange Rows.differsSpec) false w args)
   (Rows.differsSpec.post enc prog Tryz.f4 false true false false):=by
 refine returnsInHanded_of_change_and (C:=Tryz.checked) (X:=λw _=>laidMetH prog Rows.differsRow.laid w) (λ_ _ _ M h=>h.of_heap M) SC started (by kernel_rfl) func4
  (ChangeSpec.witness_shaped (enc:=enc) (C:=Tryz.checked) (os:=os) (X:=λw _=>laidMetH prog Rows.differsRow.laid w) false (World.laidAll prog os Rows.differsRow.laid) #[.string ⟨#[]⟩,.string ⟨#[]⟩,Vi 0] 8 (World.laidAll_os _ _ _)
   (World.shaped_of_ZipB (by kernel_rfl) (by kernel_rfl)) (by kernel_rfl) (by kernel_rfl) (by kernel_rfl)
   (by rw[MakeChecks.laidMetH_plain _ _ _ (by kernel_rfl)];exact laidMet_laidAll _ (by kernel_rfl) (by kernel_rfl))) ?_
 intro W f args J Y k b A _ _ x _;have a:∀(j:Nat) t v,Tryz.f4.params[j]?=some t->args[j]?=some v->Value.okWide prog W .any f t v:=b;have m:=A;obtain⟨p,q,r,F,rfl,_,_⟩:=A;have z:DataW.TrodAll enc prog W 0 (λ_=>true) true Tryz.f4.params.toList args.toList J p:=r;rw[params4]at z a;obtain⟨u,P,d0,O,p0,Z,l,rfl,rfl,I,G⟩:=trodAll_cons z;obtain⟨s,K,d1,B,p1,q1,rfl,rfl,rfl,U,E⟩:=trodAll_cons G;obtain⟨y,R,d2,N,p2,q2,rfl,rfl,rfl,Q,V⟩:=trodAll_cons E;obtain⟨rfl,rfl,rfl⟩:=trodAll_nil V;obtain rfl:args=#[u,s,y]:=by cases args;simp_all
 obtain⟨rfl,rfl⟩:=trodVars_none F;obtain⟨S,rfl,rfl,rfl,d⟩:=open_string underlying9 (a 0 9 u rfl rfl) I;obtain⟨T,rfl,rfl,rfl,c⟩:=open_string underlying9 (a 1 9 s rfl rfl) U;obtain⟨n,rfl,rfl,rfl,g⟩:=open_int underlying3 (a 2 3 y rfl rfl) Q;have L:(-9223372036854775808:Int)<=n/\n<=9223372036854775807:=by
  have h:=g;simp only[Lit.wf,yP,zY]at h;simpa [IntKind.min,IntKind.max,IntKind.signed,IntKind.bits]using h
 rw[MakeChecks.laidMetH_plain _ _ _ (by kernel_rfl)]at x;have i:=Mo (show laidMet prog Rows.leastsRow.laid W from x);refine (PY S T n i (by unfold maxLen at d;omega) (by unfold maxLen at c;omega)).mono λe W' ⟨D,o⟩=>?_;subst D;exact⟨_,rfl,_,_,_,[],_,[],m,trodAll_mk1 (shut_bool underlying4 _),
  (trodAll_cons_mk (shut_string underlying9 d) (trodAll_cons_mk (shut_string underlying9 c) (trodAll_cons_mk (shut_int underlying3 g) trodAll_mk0))),rfl,o.frame _,λh=>by cases h⟩
theorem aaj:Rows.DiffersSaid :=
 OpenClaim.holds_of_wide 4 Tryz.f4 rfl rfl rfl rfl rfl rfl rfl ⟨rfl,rfl,rfl,rfl,rfl⟩ rfl rfl rfl rfl rfl wW func4 IG SA VZ
  (λc a H b _=>Ix c a H b)
theorem differs_card:Rows.DiffersCardSaid :=
 Claim7.holds_tied_plain_at .later [] [.data,.data,.data,.data,.pinned,.pinned] true Rows.differsCard.stood.harness true aaj (λ_ h=>by cases h) aaw (λ_ h=>by cases h) differs_row_tie rfl ⟨rfl,rfl⟩ Wz rfl
  (λf c b a=>by
   obtain rfl:f=4:=yT (wW.symm.trans b) |>.symm;obtain rfl:c=Tryz.f4:=(yT (func4.symm.trans a)).symm;exact⟨MA,Iy⟩)
  WA
#print axioms differs_card
