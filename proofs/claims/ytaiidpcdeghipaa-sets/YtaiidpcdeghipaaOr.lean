/- What slices.Concat does at two slices of ranges, and ranges.Or over it: walks. -/
import Derived.Test.YtaiidpcdeghipaaForm
import Derived.Laws.AppendOwnNone
namespace Go.Proofs.Ytaiidpcdeghipaa
open Go.RowKit

theorem grow_any (n : Nat) (w : World) (hn : n ≤ 2000000) :
    Calls Try.prog 52 #[.slice none 0 0, .int .i64 n] w fun e w' => ∃ v, e = .returned v ∧ w'.ownsRow w.heap.size 27 2 v 0 [] ∧ Below w.heap.size w w' := by
  obtain ⟨i0, hi, hz0, hz1, hz2⟩ := info_parts Try.info27
  by_cases h0 : n = 0
  · subst h0
    have hcon := Any8.slices_Grow_room Try.growR none 0 0 0 w (by omega) (by omega) (by omega) (by omega)
    change Calls Try.prog 52 _ _ _ at hcon
    refine hcon.mono ?_
    rintro e w' ⟨rfl, rfl⟩
    exact ⟨_, rfl, World.ownsRow_nil _ _ _ _, Below.refl _ _⟩
  · have hcon := Any8.slices_Grow_grow Try.growR i0 (.agg #[.int .i64 0, .int .i64 0]) hi hz0 (by omega) none 0 0 n [] w (by omega) (by omega) (by rw [hz2]; omega) (by omega) (by simp) (fun _ => rfl) (fun a h => by cases h)
    change Calls Try.prog 52 _ _ _ at hcon
    rw [show Try.growR_ren.t 25 = 27 from rfl] at hcon
    refine hcon.mono ?_
    rintro e w' ⟨rfl, rfl⟩
    have h1 := grownCap_ge w (0 + n) 0 27
    have h2 := grownCap_le_maxLen w (0 + n) 0 27 (by unfold maxLen; omega)
    refine ⟨_, rfl, ?_, ?_⟩
    · exact World.ownsRow_made w.drew _ _ (Nat.le_refl _) h2 (by
        show _ = grownCap w (0 + n) 0 27 * 2
        simp only [Array.size_append, size_zeroCells]
        show _ + _ * 2 + _ * 2 = _
        generalize grownCap w (0 + n) 0 27 = c at *
        simp only [List.size_toArray, List.length_nil]
        show 0 + (0 + n - 0) * 2 + (c - (0 + n)) * 2 = c * 2
        omega)
    · exact (Below.refl _ w).drew.alloc (Nat.le_refl _) _

/-- Two slices of ranges, as the variadic call lays them. -/
structure Two (w : World) (B : Nat) (ao bo : Option Addr) (a b : List (Int × Int)) (ca cb : Nat) : Prop where
  lt : B < w.heap.size
  c0 : w.cell? ⟨B, 0, none⟩ = some (.slice ao a.length ca)
  c1 : w.cell? ⟨B, 1, none⟩ = some (.slice bo b.length cb)
  ra : Rd w ao a
  rb : Rd w bo b
  na : ao = none → ca = 0
  nb : bo = none → cb = 0
  la : a.length ≤ 1000000
  lb : b.length ≤ 1000000

theorem src_cells {w W : World} {ao : Option Addr} {l : List (Int × Int)} (h : Rd w ao l) (hb : Below w.heap.size w W) {ad : Addr} (ha : ao = some ad) : ∀ j u, (cellsR l)[j]? = some u → W.cell? (ad.add j) = some u := by
  intro j u hj
  have hlt : j < (cellsR l).length := (List.getElem?_eq_some_iff.1 hj).1
  rw [cellsR_length] at hlt
  have hi : j / 2 < l.length := by omega
  obtain ⟨b, off, e, hbl, h1, h2⟩ := h.below hb (j / 2) l[j / 2] (List.getElem?_eq_getElem hi)
  have e2 : ad = ⟨b, off, none⟩ := by rw [ha] at e; exact Option.some.inj e
  subst e2
  have hg := cellsR_get (List.getElem?_eq_getElem hi)
  rcases Nat.mod_two_eq_zero_or_one j with h0 | h0
  · have hd : j / 2 * 2 = j := by omega
    rw [hd] at hg h1
    rw [hg.1] at hj
    rw [Addr.add_lit, ← hj]; exact h1
  · have hd : j / 2 * 2 + 1 = j := by omega
    rw [Nat.add_assoc, hd] at h2
    rw [hd] at hg
    rw [hg.2] at hj
    rw [Addr.add_lit, ← hj]; exact h2
theorem src_one (l : List (Int × Int)) : ∀ u ∈ cellsR l, u.oneCell' = true := by
  intro u hu
  simp only [cellsR, List.mem_flatMap] at hu
  obtain ⟨x, _, hx⟩ := hu
  simp at hx; rcases hx with rfl | rfl <;> rfl
theorem rd_nil {w : World} {l : List (Int × Int)} (h : Rd w none l) : l = [] := by
  cases l with
  | nil => rfl
  | cons x t => obtain ⟨b, off, e, _⟩ := h 0 x rfl; cases e

def lenAt (a b : List (Int × Int)) (k : Nat) : Nat := if k = 0 then 0 else if k = 1 then a.length else a.length + b.length
def catAt (a b : List (Int × Int)) (k : Nat) : List (Int × Int) := if k = 0 then [] else if k = 1 then a else a ++ b

set_option maxHeartbeats 400000 in
theorem concat_any (B : Nat) (ao bo : Option Addr) (a b : List (Int × Int)) (ca cb : Nat) (w : World) (h : Two w B ao bo a b ca cb) :
    Calls Try.prog 42 #[.slice (some ⟨B, 0, none⟩) 2 2] w fun e w' => ∃ v, e = .returned v ∧ w'.ownsRow w.heap.size 27 2 v (a ++ b).length (cellsR (a ++ b)) ∧ Below w.heap.size w w' := by
  obtain ⟨hB, c0, c1, ra, rb, na, nb, la, lb⟩ := h
  obtain ⟨i0, hi, hz0, hz1, hz2⟩ := info_parts Try.info27
  have RA := hide ra; have RB := hide rb; have NA := hide na; have NB := hide nb
  have C0 := hide c0; have C1 := hide c1
  clear ra rb na nb
  go_enter Try.func42, Try.ntmps42
  go_wp2
  go_loop [3, 11] (fun sz i => ∃ k : Nat, k ≤ 2 ∧ i = .int .i64 k ∧ sz = .int .i64 (lenAt a b k)) (fun _ i => 2 - (intOf i).toNat)
  case atStart => exact ⟨0, by omega, rfl, rfl⟩
  case round =>
    obtain ⟨k, hk, rfl, rfl⟩ := hrel
    match k, hk with
    | 0, _ =>
      simp only [lenAt, if_true]
      go_wp2
      go_round
      case rel => exact ⟨1, by omega, rfl, by simp⟩
      case measure => simp [intOf]
    | 1, _ =>
      simp only [lenAt, Nat.one_ne_zero, if_false, if_true]
      go_wp2
      go_round
      case rel => exact ⟨2, by omega, rfl, by simp⟩
      case measure => simp [intOf]
    | 2, _ =>
      simp only [lenAt]
      go_wp2_with fail
      have hcon := grow_any (a.length + b.length) w (by omega)
      rw [Int.natCast_add] at hcon
      refine hcon.mono ?_
      rintro e w1 ⟨v1, rfl, hown1, hbel1⟩
      go_wp2
      go_loopw [6, 27] (fun v i wr => ∃ k : Nat, k ≤ 2 ∧ i = .int .i64 k ∧ wr.ownsRow w.heap.size 27 2 v (catAt a b k).length (cellsR (catAt a b k)) ∧ Below w.heap.size w wr) (fun _ i _ => 2 - (intOf i).toNat)
      case atStart => exact ⟨0, by omega, rfl, hown1, hbel1⟩
      case round =>
        clear hown1 hbel1
        obtain ⟨k, hk, rfl, hown, hbel⟩ := hrel
        have hsz := hbel.size
        clear c0 c1
        match k, hk with
        | 0, _ =>
          have hc : wr.cell? ⟨B, 0, none⟩ = some (.slice ao a.length ca) := (hbel.cell (p := ⟨B, _, none⟩) hB).trans C0.out
          rw [show catAt a b 0 = [] from rfl] at hown
          rcases ao with _ | ad
          · have hl : a = [] := rd_nil RA.out
            have hca : ca = 0 := NA.out rfl
            subst hl; subst hca
            have R0 := own_same (c := catAt [] b 1) hown (by simp [catAt])
            go_wp2_with (at_builtin; refine wpList_append_own_none rfl _ _ 22 rfl w.heap.size 27 i0 2 Try.underlying22 hi _ _ _ rfl hown rfl ?_)
            go_roundw
            case rel => exact ⟨_, _, _, ⟨1, by omega, rfl, R0⟩, rfl, rfl, rfl⟩
            case measure => simp [intOf]
          · have hS := src_cells RA.out hbel rfl
            go_wp2_with (at_builtin; refine wpList_append_own _ rfl _ _ 22 rfl w.heap.size 27 i0 (.agg #[.int .i64 0, .int .i64 0]) 2 16 Try.underlying22 hi hz0 hz1 hz2 rfl (by decide) _ _ _ rfl hown ad a.length ca (cellsR a) rfl (cellsR_length _) hS (src_one _) (by unfold maxLen; first | omega | (simp; omega)) (by first | omega | (simp; omega)) (by omega) ?_; intro v' w3 hown' hgrow _)
            have R2 := Below.keep hbel (by omega) hown hgrow
            have R1 : w3.ownsRow w.heap.size 27 2 v' (catAt a b 1).length (cellsR (catAt a b 1)) := by
              rw [show catAt a b 1 = [] ++ a from rfl, List.length_append, cellsR_append]; exact hown'
            go_roundw
            case rel => exact ⟨1, by omega, rfl, R1, R2⟩
            case measure => simp [intOf]
        | 1, _ =>
          have hc : wr.cell? ⟨B, 1, none⟩ = some (.slice bo b.length cb) := (hbel.cell (p := ⟨B, _, none⟩) hB).trans C1.out
          rw [show catAt a b 1 = a from rfl] at hown
          rcases bo with _ | ad
          · have hl : b = [] := rd_nil RB.out
            have hca : cb = 0 := NB.out rfl
            subst hl; subst hca
            have R0 := own_same (c := catAt a [] 2) hown (by simp [catAt])
            go_wp2_with (at_builtin; refine wpList_append_own_none rfl _ _ 22 rfl w.heap.size 27 i0 2 Try.underlying22 hi _ _ _ rfl hown rfl ?_)
            go_roundw
            case rel => exact ⟨_, _, _, ⟨2, by omega, rfl, R0⟩, rfl, rfl, rfl⟩
            case measure => simp [intOf]
          · have hS := src_cells RB.out hbel rfl
            go_wp2_with (at_builtin; refine wpList_append_own _ rfl _ _ 22 rfl w.heap.size 27 i0 (.agg #[.int .i64 0, .int .i64 0]) 2 16 Try.underlying22 hi hz0 hz1 hz2 rfl (by decide) _ _ _ rfl hown ad b.length cb (cellsR b) rfl (cellsR_length _) hS (src_one _) (by unfold maxLen; first | omega | (simp; omega)) (by first | omega | (simp; omega)) (by omega) ?_; intro v' w3 hown' hgrow _)
            have R2 := Below.keep hbel (by omega) hown hgrow
            have R1 : w3.ownsRow w.heap.size 27 2 v' (catAt a b 2).length (cellsR (catAt a b 2)) := by
              rw [show catAt a b 2 = a ++ b from rfl, List.length_append, cellsR_append]; exact hown'
            go_roundw
            case rel => exact ⟨2, by omega, rfl, R1, R2⟩
            case measure => simp [intOf]
        | 2, _ =>
          rw [show catAt a b 2 = a ++ b from rfl] at hown
          go_wp2
          go_ret
          exact ⟨_, rfl, hown, hbel⟩

set_option maxHeartbeats 400000 in
theorem ror_any (ao bo : Option Addr) (a b : List (Int × Int)) (ca cb : Nat) (w : World) (ha : Rd w ao a) (hb : Rd w bo b) (hal : a.length ≤ 400000) (hbl : b.length ≤ 400000)
    (hok : ∀ x ∈ a, Brm.okB x = true) (hok2 : ∀ x ∈ b, Brm.okB x = true) (na : ao = none → ca = 0) (nb : bo = none → cb = 0) :
    Calls Try.prog 25 #[.slice ao a.length ca, .slice bo b.length cb] w fun e w' => ∃ v, e = .returned v ∧ Hands w w' v fun out => Brm.IsForm (a ++ b) out ∧ out.length ≤ a.length + b.length := by
  have hbel0 : Below w.heap.size w (w.alloc (.cells #[.slice ao a.length ca, .slice bo b.length cb] 22)) := (Below.refl _ w).alloc (Nat.le_refl _) _
  have hT : Two (w.alloc (.cells #[.slice ao a.length ca, .slice bo b.length cb] 22)) w.heap.size ao bo a b ca cb :=
    ⟨by simp, by simp, by simp, ha.below hbel0, hb.below hbel0, na, nb, by omega, by omega⟩
  have hc := concat_any _ _ _ _ _ _ _ _ hT
  have HC := hide hc
  have HB0 := hide hbel0
  have HOK : Hid (∀ x ∈ a ++ b, Brm.okB x = true) := by
    intro x hx
    rcases List.mem_append.1 hx with h | h
    · exact hok x h
    · exact hok2 x h
  clear hc hT hbel0 ha hb hok hok2 na nb
  go_enter Try.func25, Try.ntmps25
  go_wp2_with fail
  refine HC.out.mono ?_
  rintro e w1 ⟨v1, rfl, hown1, hbel1⟩
  have hLl : (a ++ b).length = a.length + b.length := by simp
  generalize hL : a ++ b = L at hown1 hLl HOK
  have HL := hide hL
  have HLl := hide hLl
  have hlb : L.length ≤ 1000000 := by omega
  clear hL hLl
  obtain ⟨ao1, cap1, rfl, hcap1, hrd1⟩ := own_rd hown1
  have HF := hide (form_any ao1 L cap1 w1 hrd1 hlb HOK.out)
  clear hown1 hrd1
  go_wp2_with fail
  refine HF.out.mono ?_
  rintro e w2 ⟨v2, rfl, out, ⟨hform, hol⟩, hown2, hbel2⟩
  go_wp2
  go_ret
  have hs1 : w.heap.size ≤ w1.heap.size := Nat.le_trans HB0.out.size hbel1.size
  exact ⟨_, rfl, out, ⟨HL.out ▸ hform, by have := HLl.out; omega⟩, own_le hown2 hs1, (HB0.out.trans (hbel1.mono HB0.out.size)).trans (hbel2.mono hs1)⟩
end Go.Proofs.Ytaiidpcdeghipaa
