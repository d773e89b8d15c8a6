/- The law Algebra: at all slices of ranges and every number it answers true: a walk out of the contracts. -/
import Derived.Test.YtaiidpcdeghipaaCalls
import Derived.Test.YtaiidpcdeghipaaRisen
namespace Go.Proofs.Ytaiidpcdeghipaa
open Go.RowKit

set_option maxRecDepth 100000 in
set_option maxHeartbeats 1000000 in
theorem algebra_no (ao bo : Option Addr) (a b : List (Int × Int)) (ca cb : Nat) (r : Int) (w : World) (ha : Rd w ao a) (hb : Rd w bo b) (hs : (Brm.setB a && Brm.setB b) = false) :
    Calls Try.prog 4 #[.slice ao a.length ca, .slice bo b.length cb, .int .i64 r] w fun e w' => e = .returned (.bool true) ∧ Below w.heap.size w w' := by
  have HA := hide ha; have HB := hide hb
  have HO := hide (fun w1 h => sor_no ao bo a b ca cb w1 (ha.below h) (hb.below h) hs)
  clear ha hb
  by_cases h1 : Brm.setB a = true
  · have h2 : Brm.setB b = false := by simpa [h1] using hs
    clear hs
    have HX := hide (norm_yes ao a ca w HA.out h1)
    have HY := hide (fun w1 (h : Below w.heap.size w w1) => norm_no bo b cb w1 (HB.out.below h) h2)
    clear h1 h2
    go_enter Try.func4, Try.ntmps4
    go_wp2_with fail
    refine HX.out.mono ?_
    rintro e w1 ⟨v1, rfl, L1, _, _, hb1⟩
    go_wp2_with fail
    refine (HY.out w1 hb1).mono ?_
    rintro e w2 ⟨rfl, hb2⟩
    have hb3 := hb1.trans (hb2.mono hb1.size)
    go_wp2_with fail
    refine (HO.out w2 hb3).mono ?_
    rintro e w3 ⟨rfl, hb4⟩
    go_wp2
    go_ret
    exact ⟨rfl, hb3.trans (hb4.mono hb3.size)⟩
  · have h3 : Brm.setB a = false := by simpa using h1
    clear h1 hs
    have HX := hide (norm_no ao a ca w HA.out h3)
    clear h3
    by_cases h2 : Brm.setB b = true
    · have HY := hide (fun w1 (h : Below w.heap.size w w1) => norm_yes bo b cb w1 (HB.out.below h) h2)
      clear h2
      go_enter Try.func4, Try.ntmps4
      go_wp2_with fail
      refine HX.out.mono ?_
      rintro e w1 ⟨rfl, hb1⟩
      go_wp2_with fail
      refine (HY.out w1 hb1).mono ?_
      rintro e w2 ⟨v2, rfl, L2, _, _, hb2⟩
      have hb3 := hb1.trans (hb2.mono hb1.size)
      go_wp2_with fail
      refine (HO.out w2 hb3).mono ?_
      rintro e w3 ⟨rfl, hb4⟩
      go_wp2
      go_ret
      exact ⟨rfl, hb3.trans (hb4.mono hb3.size)⟩
    · have h4 : Brm.setB b = false := by simpa using h2
      have HY := hide (fun w1 (h : Below w.heap.size w w1) => norm_no bo b cb w1 (HB.out.below h) h4)
      clear h2 h4
      go_enter Try.func4, Try.ntmps4
      go_wp2_with fail
      refine HX.out.mono ?_
      rintro e w1 ⟨rfl, hb1⟩
      go_wp2_with fail
      refine (HY.out w1 hb1).mono ?_
      rintro e w2 ⟨rfl, hb2⟩
      have hb3 := hb1.trans (hb2.mono hb1.size)
      go_wp2_with fail
      refine (HO.out w2 hb3).mono ?_
      rintro e w3 ⟨rfl, hb4⟩
      go_wp2
      go_ret
      exact ⟨rfl, hb3.trans (hb4.mono hb3.size)⟩
end Go.Proofs.Ytaiidpcdeghipaa
