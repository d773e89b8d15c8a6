/- The law Differs (P6, P10) answers true at every two patterns' texts and every number, and leaves what was handed in as it was; the card ties the library's tables, which the row lists, to the program's text. No condition of our own. -/
import Derived.Deep.Strs
import Derived.OpenShut
import Derived.ShutString
import Derived.Lay
import Derived.Test.YtebnghmioamheaaGreatDoorTie
import Derived.Test.YtebnghmioamheaaGreatDoorM45
import Derived.Test.YtebnghmioamheaaGreatDoorM52
import Derived.Test.YtebnghmioamheaaGreatDoorM53
set_option maxHeartbeats 1000000
set_option maxRecDepth 100000
set_option linter.all false
namespace Go.Proofs.YtebnghmioamheaaGreatDoor
open Go.RowKit Go.Shelf Go.ChangeShapes Go.WideShapes Go.ChangeAt Go.Deep
open Go.ChangeMaps (open_string shut_string)
theorem Ix (os:Os)(started:os.Started)(H:Type)(enc:TypeId×Value->H) :
  ReturnsInHanded {} Tryz.checked os 4 .any (λw args=>(Rows.differsSpec.pre enc Tryz.prog Tryz.f4 [] false w args/\laidMetH Tryz.prog Rows.differsRow.laid w)/\sizedMet enc Tryz.prog Tryz.f4 (OpenSpec.ofChange Rows.differsSpec) false w args)
   (Rows.differsSpec.post enc Tryz.prog Tryz.f4 false true false false):=by
 refine returnsInHanded_of_change_and (C:=Tryz.checked) (X:=λw _=>laidMetH Tryz.prog Rows.differsRow.laid w) (λ_ _ _ B h=>h.of_heap B) SC started (by kernel_rfl) Tryz.func4
  (ChangeSpec.witness_shaped (enc:=enc) (C:=Tryz.checked) (os:=os) (X:=λw _=>laidMetH Tryz.prog Rows.differsRow.laid w) false (World.laidAll Tryz.prog os Rows.differsRow.laid) #[.string ⟨#[]⟩,.string ⟨#[]⟩,Vi 0] 8 (World.laidAll_os _ _ _)
   (World.shaped_of_ZipB (by kernel_rfl) (by kernel_rfl)) (by kernel_rfl) (by kernel_rfl) (by kernel_rfl)
   (by rw[MakeChecks.laidMetH_plain _ _ _ (by kernel_rfl)];exact laidMet_laidAll _ (by kernel_rfl) (by kernel_rfl))) ?_
 intro W i args G gs k b y _ _ s _;have a:∀(j:Nat) t v,Tryz.f4.params[j]?=some t->args[j]?=some v->Value.okWide Tryz.prog W .any i t v:=b;have m:=y;obtain⟨p,q,l,P,rfl,_,_⟩:=y;have A:DataW.TrodAll enc Tryz.prog W 0 (λ_=>true) true Tryz.f4.params.toList args.toList G p:=l;rw[Tryz.params4]at A a;obtain⟨u,J,d0,F,p0,Y,o,rfl,rfl,D,Q⟩:=trodAll_cons A;obtain⟨x,E,d1,O,p1,Z,rfl,rfl,rfl,S,R⟩:=trodAll_cons Q;obtain⟨z,U,d2,V,p2,q2,rfl,rfl,rfl,T,L⟩:=trodAll_cons R;obtain⟨rfl,rfl,rfl⟩:=trodAll_nil L;obtain rfl:args=#[u,x,z]:=by cases args;simp_all
 obtain⟨rfl,rfl⟩:=trodVars_none P;obtain⟨M,rfl,rfl,rfl,d⟩:=open_string Tryz.underlying9 (a 0 9 u rfl rfl) D;obtain⟨N,rfl,rfl,rfl,f⟩:=open_string Tryz.underlying9 (a 1 9 x rfl rfl) S;obtain⟨n,rfl,rfl,rfl,g⟩:=open_int Tryz.underlying3 (a 2 3 z rfl rfl) T;have I:(-9223372036854775808:Int)<=n/\n<=9223372036854775807:=by
  have h:=g;simp only[Lit.wf,yP,zY]at h;simpa [IntKind.min,IntKind.max,IntKind.signed,IntKind.bits]using h
 rw[MakeChecks.laidMetH_plain _ _ _ (by kernel_rfl)]at s;have c:=Mo (show laidMet Tryz.prog Rows.leastsRow.laid W from s);refine (PY M N n c (by unfold maxLen at d;omega) (by unfold maxLen at f;omega)).mono λe W' ⟨K,r⟩=>?_;subst K;exact⟨_,rfl,_,_,_,[],_,[],m,trodAll_mk1 (shut_bool Tryz.underlying4 _),
  (trodAll_cons_mk (shut_string Tryz.underlying9 d) (trodAll_cons_mk (shut_string Tryz.underlying9 f) (trodAll_cons_mk (shut_int Tryz.underlying3 g) trodAll_mk0))),rfl,r.frame _,λh=>by cases h⟩
theorem aaj:Rows.DiffersSaid :=
 OpenClaim.holds_of_wide 4 Tryz.f4 rfl rfl rfl rfl rfl rfl rfl ⟨rfl,rfl,rfl,rfl,rfl⟩ rfl rfl rfl rfl rfl wW Tryz.func4 IG SA VZ
  (λc a H b _=>Ix c a H b)
theorem differs_card:Rows.DiffersCardSaid :=
 Claim7.holds_tied_plain_at .later [] [.data,.data,.data,.data,.pinned,.pinned] true Rows.differsCard.stood.harness true aaj (λ_ h=>by cases h) aaw (λ_ h=>by cases h) differs_row_tie rfl ⟨rfl,rfl⟩ Wz rfl
  (λf c b a=>by
   obtain rfl:f=4:=yT (wW.symm.trans b) |>.symm;obtain rfl:c=Tryz.f4:=(yT (Tryz.func4.symm.trans a)).symm;exact⟨MA,Iy⟩)
  WA
#print axioms differs_card
