/- The law Algebra (P3) answers true at every two slices of ranges and every number, and leaves what was handed in as it was. No condition. -/
import Derived.Test.YtaiidpcdeghipaaOpen
import Derived.Test.YtaiidpcdeghipaaAlgNo
import Derived.Test.YtaiidpcdeghipaaAlgYes
namespace Go.Proofs.Ytaiidpcdeghipaa
open Go.ChangeShapes Go.WideShapes Go.ChangeAt Go.RowKit

theorem algebra_walk (a0 a1 : Option Addr) (x y : List (Int × Int)) (c0 c1 : Nat) (r : Int) (w : World) (hx : Rd w a0 x) (hy : Rd w a1 y) (n0 : a0 = none → c0 = 0) (n1 : a1 = none → c1 = 0) :
    Calls Try.prog 4 #[.slice a0 x.length c0, .slice a1 y.length c1, .int .i64 r] w fun e w' => e = .returned (.bool true) ∧ Below w.heap.size w w' := by
  cases h1 : Brm.setB x with
  | false => exact algebra_no a0 a1 x y c0 c1 r w hx hy (by rw [h1]; rfl)
  | true =>
    cases h2 : Brm.setB y with
    | false => exact algebra_no a0 a1 x y c0 c1 r w hx hy (by rw [h1, h2]; rfl)
    | true => exact algebra_yes a0 a1 x y c0 c1 r w hx hy h1 h2 n0 n1

set_option maxRecDepth 100000 in
theorem algebra_lifted (os : Os) (started : os.Started) (H : Type) (enc : TypeId × Value → H) :
    ReturnsInHanded {} Try.checked os 4 .any (Rows.algebraSpec.pre6 enc Try.prog Try.f4 Rows.algebraRow.domain false) (Rows.algebraSpec.post enc Try.prog Try.f4 false true false false) := by
  refine returnsInHanded_of_change (C := Try.checked) Try.own started (by kernel_rfl) Try.func4
    (ChangeSpec.witness6 (enc := enc) (C := Try.checked) false ⟨#[], #[.slice none 0 0, .slice none 0 0, .int .i64 0], []⟩ 8 (by kernel_rfl) (by kernel_rfl) (by kernel_rfl) (by kernel_rfl)) ?_
  intro W base args ds gs before hval0 hW hcnd _
  have hval : ∀ (j : Nat) t v, Try.f4.params[j]? = some t → args[j]? = some v → Value.okWide Try.prog W .any base t v := hval0
  have hW' := hW
  obtain ⟨p, q, hA0, hV, rfl, hfz, hnd⟩ := hW
  have hA : DataW.TrodAll enc Try.prog W 0 (fun _ => true) true Try.f4.params.toList args.toList ds p := hA0
  rw [Try.params4] at hA hval
  obtain ⟨v0, vs0, d0, ds0, p0, q0, hargs, rfl, rfl, h0, r0⟩ := trodAll_cons hA
  obtain ⟨v1, vs1, d1, ds1, p1, q1, rfl, rfl, rfl, h1, r1⟩ := trodAll_cons r0
  obtain ⟨v2, vs2, d2, ds2, p2, q2, rfl, rfl, rfl, h2, r2⟩ := trodAll_cons r1
  obtain ⟨rfl, rfl, rfl⟩ := trodAll_nil r2
  obtain rfl : args = #[v0, v1, v2] := by cases args; simp_all
  obtain ⟨rfl, rfl⟩ := trodVars_none hV
  obtain ⟨a0, len0, cap0, rfl⟩ := okWide_slice Try.underlying22 (hval 0 22 v0 rfl rfl)
  obtain ⟨a1, len1, cap1, rfl⟩ := okWide_slice Try.underlying22 (hval 1 22 v1 rfl rfl)
  have k0 := h0
  have k1 := h1
  have lt0 : ∀ x ∈ p0, x.block < W.heap.size := by obtain ⟨m, hm⟩ := k0; exact DataW.trod_lt m _ _ _ hm
  have lt1 : ∀ x ∈ p1, x.block < W.heap.size := by obtain ⟨m, hm⟩ := k1; exact DataW.trod_lt m _ _ _ hm
  obtain ⟨x, rfl, hx, n0⟩ := (by obtain ⟨fuel, hf⟩ := h0; exact open_ranges hf : ∃ l : List (Int × Int), l.length = len0 ∧ Rd W a0 l ∧ (a0 = none → cap0 = 0))
  obtain ⟨y, rfl, hy, n1⟩ := (by obtain ⟨fuel, hf⟩ := h1; exact open_ranges hf : ∃ l : List (Int × Int), l.length = len1 ∧ Rd W a1 l ∧ (a1 = none → cap1 = 0))
  obtain ⟨r, rfl, rfl, rfl, wr⟩ := open_int Try.underlying3 (hval 2 3 v2 rfl rfl) h2
  clear hA0 hval0
  refine (algebra_walk a0 a1 x y cap0 cap1 r W hx hy n0 n1).mono fun e W' ⟨he, bel⟩ => ?_
  subst he
  exact ⟨_, rfl, _, _, _, [], _, [], hW', trodAll_mk1 (shut_bool Try.underlying4 _),
    (trodAll_cons_mk (Below.trod Try.laidOut (by kernel_rfl) (of_decide_eq_true (by kernel_rfl)) k0 bel lt0) (trodAll_cons_mk (Below.trod Try.laidOut (by kernel_rfl) (of_decide_eq_true (by kernel_rfl)) k1 bel lt1) (trodAll_cons_mk (shut_int Try.underlying3 wr) trodAll_mk0))), rfl, bel.frame _, fun h => by cases h⟩

theorem algebra_holds : Rows.AlgebraSaid :=
  OpenClaim.holds_of_wide 4 Try.f4 rfl rfl rfl rfl rfl rfl rfl ⟨rfl, rfl, rfl, rfl, rfl⟩ rfl rfl rfl rfl rfl (by kernel_rfl) Try.func4 (by kernel_rfl)
    (of_decide_eq_true (by kernel_rfl)) (by unfold Func.isWrapper; first | (rw [if_pos (by decide +kernel)]; kernel_rfl) | (rw [if_neg (by decide +kernel)]; exact ⟨rfl, rfl⟩))
    (fun os started H enc _ => algebra_lifted os started H enc)
#print axioms algebra_holds
end Go.Proofs.Ytaiidpcdeghipaa
