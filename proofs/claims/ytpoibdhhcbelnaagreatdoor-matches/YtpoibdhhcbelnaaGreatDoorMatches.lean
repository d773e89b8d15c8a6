/- The law Matches (P6, P7) answers true at every pattern's text and every texts, and leaves what was handed in as it was; the card ties the library's tables, which the row lists, to the program's text. No condition of our own. -/
import Derived.Deep.Strs
import Derived.Carry
import Derived.OpenShut
import Derived.ShutString
import Derived.ChangeOld
import Derived.Lay
import Derived.LaidOnce
import Derived.SevenTiedAt
import Derived.Test.YtpoibdhhcbelnaaGreatDoorTie
import Derived.Test.YtpoibdhhcbelnaaGreatDoorCards
import Derived.Test.YtpoibdhhcbelnaaGreatDoorM38
import Derived.Test.YtpoibdhhcbelnaaGreatDoorM40
import Derived.Test.YtpoibdhhcbelnaaGreatDoorM41
namespace Go.Proofs.YtpoibdhhcbelnaaGreatDoor
open Go.RowKit Go.Shelf Go.ChangeShapes Go.WideShapes Go.ChangeAt Go.Deep
open Go.ChangeMaps (open_string shut_string)

theorem Tryz.laidOut : laidOutB Tryz.prog = true := by kernel_rfl
theorem Tryz.cells9 : Tryz.prog.cellsOf 9 = 1 := by kernel_rfl
/-- A slice of strings that came in. -/
theorem open_texts {H : Type} {enc : TypeId × Value → H} {W : World} {ao : Option Addr} {len cap fuel : Nat} {x : DataW H × List MemPlace}
    (h : DataW.trod enc Tryz.prog W 0 (fun _ => true) true fuel 26 [.slice ao len cap] = some x) : ∃ ts : List ByteArray, ts.length = len ∧ Sr W ao ts ∧ (∀ t ∈ ts, t.size ≤ 9223372036854775807) ∧ ts.length ≤ 9223372036854775807 := by
  rcases open_strs Tryz.underlying26 Tryz.underlying9 Tryz.cells9 h with ⟨hcs, _⟩ | ⟨a, len', cap', m, Sx, hcs, _, hl, hm, hmm, _, hc⟩
  · simp at hcs
    obtain ⟨rfl, rfl, rfl⟩ := hcs
    exact ⟨[], rfl, fun i x hx => by simp at hx, fun t ht => by simp at ht, by simp⟩
  · simp at hcs
    obtain ⟨rfl, rfl, rfl⟩ := hcs
    simp only [if_true] at hmm
    subst hmm
    unfold maxLen at hm hc
    refine ⟨(List.range len).map Sx, by simp, fun i x hx => ?_, fun t ht => ?_, by simp; omega⟩
    · have hi : i < len := by
        rcases Nat.lt_or_ge i len with h' | h'
        · exact h'
        · rw [List.getElem?_map, List.getElem?_eq_none (by simpa using h')] at hx; simp at hx
      rw [List.getElem?_map, List.getElem?_range hi] at hx
      simp only [Option.map_some, Option.some.injEq] at hx
      subst hx
      obtain ⟨h1, _⟩ := hc i (by omega)
      obtain ⟨b, off, spot⟩ := a
      have hspot : spot = none := by simpa [Addr.add] using World.cell?_spot (hc 0 (by omega)).1
      subst hspot
      rw [add_plain] at h1
      exact ⟨b, off, rfl, World.block_lt_of_cell? W _ h1, h1⟩
    · obtain ⟨i, hi, rfl⟩ := List.mem_map.1 ht
      exact (hc i (by have := List.mem_range.1 hi; omega)).2
set_option maxRecDepth 100000 in
set_option maxHeartbeats 1000000 in
theorem matches_lifted (os : Os) (started : os.Started) (H : Type) (enc : TypeId × Value → H) :
    ReturnsInHanded {} Tryz.checked os 4 .any (fun w args => (Rows.matchesSpec.pre enc Tryz.prog Tryz.f4 [] false w args ∧ laidMetH Tryz.prog Rows.matchesRow.laid w) ∧ sizedMet enc Tryz.prog Tryz.f4 (OpenSpec.ofChange Rows.matchesSpec) false w args)
      (Rows.matchesSpec.post enc Tryz.prog Tryz.f4 false true false false) := by
  refine returnsInHanded_of_change_and (C := Tryz.checked) (X := fun w _ => laidMetH Tryz.prog Rows.matchesRow.laid w) (fun _ _ _ hh h => h.of_heap hh) Tryz.own started (by kernel_rfl) Tryz.func4
    (ChangeSpec.witness_shaped (enc := enc) (C := Tryz.checked) (os := os) (X := fun w _ => laidMetH Tryz.prog Rows.matchesRow.laid w) false (World.laidAll Tryz.prog os Rows.matchesRow.laid) #[.string ⟨#[]⟩, .slice none 0 0] 8 (World.laidAll_os _ _ _)
      (World.shaped_of_ZipB (by kernel_rfl) (by kernel_rfl)) (by kernel_rfl) (by kernel_rfl) (by kernel_rfl)
      (by rw [MakeChecks.laidMetH_plain _ _ _ (by kernel_rfl)]; exact laidMet_laidAll _ (by kernel_rfl) (by kernel_rfl))) ?_
  intro W base args ds gs before hval0 hW _ _ hL _
  have hval : ∀ (j : Nat) t v, Tryz.f4.params[j]? = some t → args[j]? = some v → Value.okWide Tryz.prog W .any base t v := hval0
  have hW' := hW
  obtain ⟨p, q, hA0, hV, rfl, _, _⟩ := hW
  have hA : DataW.TrodAll enc Tryz.prog W 0 (fun _ => true) true Tryz.f4.params.toList args.toList ds p := hA0
  rw [Tryz.params4] at hA hval
  obtain ⟨v0, vs0, d0, ds0, p0, q0, hargs, rfl, rfl, h0, r0⟩ := trodAll_cons hA
  obtain ⟨v1, vs1, d1, ds1, p1, q1, rfl, rfl, rfl, h1, r1⟩ := trodAll_cons r0
  obtain ⟨rfl, rfl, rfl⟩ := trodAll_nil r1
  obtain rfl : args = #[v0, v1] := by cases args; simp_all
  obtain ⟨rfl, rfl⟩ := trodVars_none hV
  obtain ⟨s, rfl, rfl, rfl, ws⟩ := open_string Tryz.underlying9 (hval 0 9 v0 rfl rfl) h0
  obtain ⟨a1, len1, cap1, rfl⟩ := okWide_slice Tryz.underlying26 (hval 1 26 v1 rfl rfl)
  have k1 := h1
  have lt1 : ∀ x ∈ p1, x.block < W.heap.size := by obtain ⟨m, hm⟩ := k1; exact DataW.trod_lt m _ _ _ hm
  obtain ⟨ts, rfl, hS, hmt, hlen⟩ := (by obtain ⟨fuel, hf⟩ := h1; exact open_texts hf : ∃ ts : List ByteArray, ts.length = len1 ∧ Sr W a1 ts ∧ (∀ t ∈ ts, t.size ≤ 9223372036854775807) ∧ ts.length ≤ 9223372036854775807)
  rw [MakeChecks.laidMetH_plain _ _ _ (by kernel_rfl)] at hL
  refine (matches_walk s a1 ts cap1 W (tabs_matches hL) (by unfold maxLen at ws; omega) hS hmt hlen).mono fun e W' ⟨he, bel⟩ => ?_
  subst he
  exact ⟨_, rfl, _, _, _, [], _, [], hW', trodAll_mk1 (shut_bool Tryz.underlying4 _),
    (trodAll_cons_mk (shut_string Tryz.underlying9 ws) (trodAll_cons_mk (Below.trod Tryz.laidOut (by kernel_rfl) (of_decide_eq_true (by kernel_rfl)) k1 bel lt1) trodAll_mk0)), rfl, bel.frame _, fun h => by cases h⟩
theorem matches_row : Rows.MatchesSaid :=
  OpenClaim.holds_of_wide 4 Tryz.f4 rfl rfl rfl rfl rfl rfl rfl ⟨rfl, rfl, rfl, rfl, rfl⟩ rfl rfl rfl rfl rfl matches_named Tryz.func4 matches_facts matches_inst matches_wrap
    (fun os started H enc _ => matches_lifted os started H enc)
theorem matches_card : Rows.MatchesCardSaid :=
  Claim7.holds_tied_plain_at .later [] [.data, .data, .pinned, .pinned] true Rows.matchesCard.stood.harness true matches_row (fun _ h => by cases h) matches_wf (fun _ h => by cases h) matches_row_tie rfl ⟨rfl, rfl⟩ matches_main rfl
    (fun f fn hf hfn => by
      obtain rfl : f = 4 := Option.some.inj (matches_named.symm.trans hf) |>.symm
      obtain rfl : fn = Tryz.f4 := (Option.some.inj (Tryz.func4.symm.trans hfn)).symm
      exact ⟨matches_looks, matches_params⟩)
    matches_goes
#print axioms matches_card
end Go.Proofs.YtpoibdhhcbelnaaGreatDoor
