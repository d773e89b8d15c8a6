/- What the law's looks answers of a book that stands: a walk. -/
import Derived.Test.YtaiidpcdeghipaaKeep
namespace Go.Proofs.Ytaiidpcdeghipaa
open Go.RowKit

set_option maxRecDepth 100000 in
set_option maxHeartbeats 800000 in
theorem looks_any (B Bk : Nat) (bv : Value) (es : List Value) (w : World) (hbk : BookAt w B Bk bv es) (hes : es.length ≤ 500) :
    Calls Try.prog 24 #[.pointer (some ⟨Bk, 0, none⟩)] w fun e w' => e = .returned (.bool true) ∧ w' = w := by
  have HK := hide hbk
  have h22 := hbk.2.2.1
  obtain ⟨aob, capb, rfl⟩ := own22_form h22
  have hc : w.cell? ⟨Bk, 0, none⟩ = some (.slice aob es.length capb) := by simp [World.cell?, hbk.1]
  clear hbk
  have H22 := hide h22
  clear h22
  go_enter Try.func24, Try.ntmps24
  go_wp2
  go_loop [3] (fun i => ∃ k : Nat, k ≤ es.length ∧ i = .int .i64 k) (fun i => es.length - (intOf i).toNat)
  case atStart => exact ⟨0, Nat.zero_le _, rfl⟩
  case round =>
    obtain ⟨k, hk, rfl⟩ := hrel
    by_cases hlt : k < es.length
    · obtain ⟨n, hn, hown⟩ := HK.out.2.2.2 k es[k] (List.getElem?_eq_getElem hlt)
      have hcell : ∃ gb, aob = some ⟨gb, 0, none⟩ ∧ w.cell? ⟨gb, k, none⟩ = some es[k] := by
        rcases H22.out.2 with ⟨_, e0⟩ | ⟨gb, cb, cur, e, _⟩
        · omega
        · injection e with ea _ ec
          subst ea; subst ec
          refine ⟨gb, rfl, ?_⟩
          rw [H22.out.cellAt k (by omega)]
          exact List.getElem?_eq_getElem hlt
      obtain ⟨gb, rfl, hce⟩ := hcell
      generalize es[k] = e at hown hce
      obtain ⟨aoe, cape, rfl⟩ := own27_form hown
      have hmk : markOf k = -1 - (k : Int) / 4 := by unfold markOf; omega
      rw [hmk] at hown
      have HO := hide hown
      clear hown hmk
      have i1 : (0 : Int) ≤ (k : Int) := Int.natCast_nonneg _
      have i2 : (k : Int) < (es.length : Int) := by omega
      go_wp2
      go_loop [4] (fun i => ∃ j : Nat, j ≤ n ∧ i = .int .i64 j) (fun i => n - (intOf i).toNat)
      case atStart => exact ⟨0, Nat.zero_le _, rfl⟩
      case round =>
        obtain ⟨j, hj, rfl⟩ := hrel
        by_cases hjl : j < n
        · have hx : (marks (-1 - (k : Int) / 4) n)[j]? = some (-1 - (k : Int) / 4, 0) := by simp [marks, hjl]
          have hcc : ∃ g, aoe = some ⟨g, 0, none⟩ ∧ w.cell? ⟨g, j * 2, none⟩ = some (.int .i64 (-1 - (k : Int) / 4)) ∧ w.cell? ⟨g, j * 2 + 1, none⟩ = some (.int .i64 0) := by
            rcases HO.out.2 with ⟨_, e0⟩ | ⟨g, cg, cur, e, _⟩
            · omega
            · injection e with ea _ ec
              subst ea; subst ec
              refine ⟨g, rfl, ?_, ?_⟩
              · rw [HO.out.cellAt _ (by omega)]; exact (cellsR_get hx).1
              · rw [HO.out.cellAt _ (by omega)]; exact (cellsR_get hx).2
          obtain ⟨g, rfl, c0, c1⟩ := hcc
          have hne := neq_same (-1 - (k : Int) / 4) 0
          have hgd := Try.guard27
          clear hx
          go_wp2
          go_round
          case rel => exact ⟨j + 1, by omega, by go_num⟩
          case measure => simp [intOf]; omega
        · go_wp2
          go_round
          case rel => exact ⟨k + 1, by omega, by go_num⟩
          case measure => simp [intOf]; omega
    · go_wp2
      go_ret
      exact ⟨rfl, rfl⟩
end Go.Proofs.Ytaiidpcdeghipaa
