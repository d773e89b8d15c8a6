/- The law Sets (P3) answers true at every two slices of ranges and every number, and leaves what was handed in as it was. No condition. -/
import Derived.Test.YtaiidpcdeghipaaOpen
import Derived.Test.YtaiidpcdeghipaaSetsWalk
import Derived.SizedLaws
namespace Go.Proofs.Ytaiidpcdeghipaa
open Go.ChangeShapes Go.WideShapes Go.ChangeAt Go.RowKit Go.Deep

theorem Try.bytes27 : Try.prog.bytesOf 27 = 16 := by kernel_rfl

theorem open_sized {H : Type} {enc : TypeId × Value → H} {W : World} {ao : Option Addr} {len cap fuel : Nat} {x : DataW H × List MemPlace}
    (h : DataW.trod enc Try.prog W 0 (fun _ => true) true fuel 22 [.slice ao len cap] = some x) :
    (ao = none ∧ len = 0 ∧ cap = 0) ∨ ∃ ad elems spare, ao = some ad ∧ x.1 = .slice elems spare ∧ elems.length = len := by
  rcases open_slice_pairs Try.underlying22 Try.underlying27 Try.cells27 rfl rfl Try.cells3 Try.cells3 h with ⟨hcs, _⟩ | ⟨a, len', cap', m, n, V0, V1, D0, D1, P0, P1, hcs, _, hl, hm, hmm, hx, hc⟩
  · simp at hcs
    exact Or.inl hcs
  · simp at hcs
    obtain ⟨rfl, rfl, rfl⟩ := hcs
    exact Or.inr ⟨a, _, _, rfl, by rw [hx], by simp⟩

theorem arg_in {H : Type} {enc : TypeId × Value → H} {W : World} {ao : Option Addr} {len cap fuel j : Nat} {d : DataW H} {p : List MemPlace} {ts : List TypeId} {ds : List (DataW H)}
    (h : DataW.trod enc Try.prog W 0 (fun _ => true) true fuel 22 [.slice ao len cap] = some (d, p))
    (hsz : (DataW.weightsEach Try.prog ts ds).all (· ≤ reachBytes) = true) (ht : ts[j]? = some 22) (hd : ds[j]? = some d) :
    ∃ l : List (Int × Int), l.length = len ∧ ArgIn W (.slice ao len cap) l := by
  obtain ⟨l, rfl, hr, n0⟩ := open_ranges h
  refine ⟨l, rfl, ?_⟩
  rcases open_sized h with ⟨rfl, hl, rfl⟩ | ⟨ad, elems, spare, rfl, hx, hl⟩
  · have := List.length_eq_zero_iff.1 hl
    subst this
    exact ⟨by simp, Or.inl ⟨rfl, rfl⟩⟩
  · have hx' : d = .slice elems spare := hx
    subst hx'
    have := sized_slice hsz (j := j) (t := 22) (e := 27) ht hd Try.underlying22
    rw [Try.bytes27] at this
    simp only [reachBytes] at this
    exact ⟨by omega, Or.inr ⟨ad, cap, rfl, hr⟩⟩

set_option maxRecDepth 100000 in
theorem sets_lifted (os : Os) (started : os.Started) (H : Type) (enc : TypeId × Value → H) :
    ReturnsInHanded {} Try.checked os 3 .any (Rows.setsSpec.pre6 enc Try.prog Try.f3 Rows.setsRow.domain false) (Rows.setsSpec.post enc Try.prog Try.f3 false true false false) := by
  refine returnsInHanded_of_change_sized (C := Try.checked) Try.own started (by kernel_rfl) Try.func3
    (ChangeSpec.witness6 (enc := enc) (C := Try.checked) false ⟨#[], #[.slice none 0 0, .slice none 0 0, .int .i64 0], []⟩ 8 (by kernel_rfl) (by kernel_rfl) (by kernel_rfl) (by kernel_rfl)) ?_
  intro W base args ds gs before hval0 hW hcnd hsz0 _
  have hval : ∀ (j : Nat) t v, Try.f3.params[j]? = some t → args[j]? = some v → Value.okWide Try.prog W .any base t v := hval0
  have hsz : (DataW.weightsEach Try.prog (Try.f3.params.toList ++ Rows.setsSpec.plain.varTypes Try.prog) (ds ++ gs)).all (· ≤ reachBytes) = true := hsz0
  have hW' := hW
  obtain ⟨p, q, hA0, hV, rfl, hfz, hnd⟩ := hW
  have hA : DataW.TrodAll enc Try.prog W 0 (fun _ => true) true Try.f3.params.toList args.toList ds p := hA0
  rw [Try.params3] at hA hval hsz
  obtain ⟨v0, vs0, d0, ds0, p0, q0, hargs, rfl, rfl, h0, r0⟩ := trodAll_cons hA
  obtain ⟨v1, vs1, d1, ds1, p1, q1, rfl, rfl, rfl, h1, r1⟩ := trodAll_cons r0
  obtain ⟨v2, vs2, d2, ds2, p2, q2, rfl, rfl, rfl, h2, r2⟩ := trodAll_cons r1
  obtain ⟨rfl, rfl, rfl⟩ := trodAll_nil r2
  obtain rfl : args = #[v0, v1, v2] := by cases args; simp_all
  obtain ⟨rfl, rfl⟩ := trodVars_none hV
  obtain ⟨a0, len0, cap0, rfl⟩ := okWide_slice Try.underlying22 (hval 0 22 v0 rfl rfl)
  obtain ⟨a1, len1, cap1, rfl⟩ := okWide_slice Try.underlying22 (hval 1 22 v1 rfl rfl)
  have k0 := h0
  have k1 := h1
  have lt0 : ∀ x ∈ p0, x.block < W.heap.size := by obtain ⟨m, hm⟩ := k0; exact DataW.trod_lt m _ _ _ hm
  have lt1 : ∀ x ∈ p1, x.block < W.heap.size := by obtain ⟨m, hm⟩ := k1; exact DataW.trod_lt m _ _ _ hm
  obtain ⟨x, hlx, hx⟩ := (by obtain ⟨fuel, hf⟩ := h0; exact arg_in hf hsz (j := 0) rfl rfl : ∃ l : List (Int × Int), l.length = len0 ∧ ArgIn W (.slice a0 len0 cap0) l)
  obtain ⟨y, hly, hy⟩ := (by obtain ⟨fuel, hf⟩ := h1; exact arg_in hf hsz (j := 1) rfl rfl : ∃ l : List (Int × Int), l.length = len1 ∧ ArgIn W (.slice a1 len1 cap1) l)
  obtain ⟨r, rfl, rfl, rfl, wr⟩ := open_int Try.underlying3 (hval 2 3 v2 rfl rfl) h2
  clear hA0 hval0 hsz0
  refine (sets_walk W _ _ x y r hx hy).mono fun e W' ⟨he, bel⟩ => ?_
  subst he
  exact ⟨_, rfl, _, _, _, [], _, [], hW', trodAll_mk1 (shut_bool Try.underlying4 _),
    (trodAll_cons_mk (Below.trod Try.laidOut (by kernel_rfl) (of_decide_eq_true (by kernel_rfl)) k0 bel lt0) (trodAll_cons_mk (Below.trod Try.laidOut (by kernel_rfl) (of_decide_eq_true (by kernel_rfl)) k1 bel lt1) (trodAll_cons_mk (shut_int Try.underlying3 wr) trodAll_mk0))), rfl, bel.frame _, fun h => by cases h⟩

theorem sets_holds : Rows.SetsSaid :=
  OpenClaim.holds_of_wide 3 Try.f3 rfl rfl rfl rfl rfl rfl rfl ⟨rfl, rfl, rfl, rfl, rfl⟩ rfl rfl rfl rfl rfl (by kernel_rfl) Try.func3 (by kernel_rfl)
    (of_decide_eq_true (by kernel_rfl)) (by unfold Func.isWrapper; first | (rw [if_pos (by decide +kernel)]; kernel_rfl) | (rw [if_neg (by decide +kernel)]; exact ⟨rfl, rfl⟩))
    (fun os started H enc _ => sets_lifted os started H enc)
#print axioms sets_holds
end Go.Proofs.Ytaiidpcdeghipaa
