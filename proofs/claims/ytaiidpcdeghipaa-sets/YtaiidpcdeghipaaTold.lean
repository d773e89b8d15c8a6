/- What the reference's told does: a walk. -/
import Derived.Test.YtaiidpcdeghipaaRefSmall
namespace Go.Proofs.Ytaiidpcdeghipaa
open Go.RowKit

theorem told_take {l : List (Int × Int)} {k : Nat} {x : Int × Int} (hx : l[k]? = some x) : Brm.told (l.take (k + 1)) = Brm.told (l.take k) ++ [(Brm.back x.1, Brm.back x.2)] := by
  rw [List.take_add_one, hx]; simp [Brm.told]

set_option maxRecDepth 100000 in
set_option maxHeartbeats 800000 in
theorem told_any (ao : Option Addr) (l : List (Int × Int)) (cap : Nat) (w : World) (hcells : Rd w ao l) (hlen : l.length ≤ 1000000) (hg : ∀ x ∈ l, Brm.PGood x) :
    Calls Try.prog 35 #[.slice ao l.length cap] w fun e w' => ∃ v, e = .returned v ∧ w'.ownsRow w.heap.size 27 2 v (Brm.told l).length (cellsR (Brm.told l)) ∧ Below w.heap.size w w' := by
  have HC := hide hcells; clear hcells
  have HG := hide hg; clear hg
  obtain ⟨i0, hi, hz0, hz1, hz2⟩ := info_parts Try.info27
  go_enter Try.func35, Try.ntmps35
  go_wp2
  go_loopw [3, 4] (fun v i wr => ∃ k : Nat, k ≤ l.length ∧ i = .int .i64 k ∧ wr.ownsRow w.heap.size 27 2 v (Brm.told (l.take k)).length (cellsR (Brm.told (l.take k))) ∧ Below w.heap.size w wr) (fun _ i _ => l.length - (intOf i).toNat)
  case atStart => exact ⟨0, Nat.zero_le _, rfl, World.ownsRow_nil _ _ _ _, Below.refl _ _⟩
  case round =>
    obtain ⟨k, hk, rfl, hown, hbel⟩ := hrel
    have hsz := hbel.size
    by_cases hlt : k < l.length
    · obtain ⟨b, off, rfl, hb, h1, h2⟩ := unhide HC k l[k] (List.getElem?_eq_getElem hlt)
      generalize hx : l[k] = x at h1 h2
      have HX : Hid (l[k]? = some x) := by rw [List.getElem?_eq_getElem hlt, hx]; rfl
      clear hx
      have hgx := HG.out x (List.mem_of_getElem? HX.out)
      obtain ⟨x1, x2⟩ := x
      unfold Brm.PGood at hgx
      simp only at h1 h2 hgx
      obtain ⟨g1, g2, g3⟩ := hgx
      rw [← hbel.cell (p := ⟨b, _, none⟩) hb] at h1 h2
      have i1 : (0 : Int) ≤ (k : Int) := Int.natCast_nonneg _
      have i2 : (k : Int) < (l.length : Int) := by omega
      have hkl : (Brm.told (l.take k)).length ≤ 1000000 := by simp [Brm.told]; omega
      generalize hT : Brm.told (l.take k) = T at hown hkl
      have HT := hide hT; clear hT
      have hne := fun e => (Nat.not_le.2 hb) (hown.lt b e).1
      go_wp2_with fail
      go_region_held3 (fun w' => w'.cell? ⟨b, off + k * 2, none⟩ = some (.int .i64 x1) ∧ w'.cell? ⟨b, off + k * 2 + 1, none⟩ = some (.int .i64 x2))
        (first | go_keep | (go_split_ands; refine ⟨?_, ?_⟩ <;> (rw [hgrow.cell_far _ (by simp; omega) (fun e => hne e.symm)]; assumption)))
        ((first
          | (go_at_call 50; refine (back_any _ _ (by omega) (by omega)).mono ?_; rintro e w' ⟨rfl, rfl⟩)
          | (refine step_append_lies _ (by rfl) _ _ _ (by rfl) w.heap.size 27 i0 _ 2 16 Try.underlying22 hi hz0 hz1 hz2 rfl (by omega) _ _ _ (by rfl) ((hown.alloc _).drew)
              ⟨wr.heap.size, 0, none⟩ 1 1 [.int .i64 (Brm.back x1), .int .i64 (Brm.back x2)] (by rfl) (by rfl) (World.news_of_block (cs := #[.int .i64 (Brm.back x1), .int .i64 (Brm.back x2)]) (t := 27) (fr := (0, 0)) (heap_alloc_new wr _)) (new_one _ _)
              (by omega) (by unfold maxLen; omega) (by omega) (by simp; omega) (wr.heap.size + 1) (by simp) ?_; intro gg cap w1 hown1 hgrow hat hlt)))
      have R1 := own_snoc (c := Brm.told (l.take (k + 1))) (a := T) (y := (Brm.back x1, Brm.back x2)) hown1 (by rw [told_take HX.out, HT.out])
      have R2 := Below.keep ((hbel.alloc (by omega) _).drew) (by simp; omega) (hown.alloc _).drew hgrow
      go_wp2
      go_roundw
      case rel => exact ⟨k + 1, by omega, by go_num, R1, R2⟩
      case measure => simp [intOf]; omega
    · go_wp2
      go_ret
      exact ⟨_, rfl, own_same hown (by rw [List.take_of_length_le (by omega)]), hbel⟩
end Go.Proofs.Ytaiidpcdeghipaa
