/- What the small functions on runes and ranges do to the world: walks. -/
import Derived.Test.YtaiidpcdeghipaaProg
import Derived.Test.YtaiidpcdeghipaaPlain
import Derived.WalkKit
import Derived.WalkSpells
import Derived.WalkLawsBesides
namespace Go.Proofs.Ytaiidpcdeghipaa
open Go.RowKit

theorem bcell {W w1 : World} (hb : Below W.heap.size W w1) : (∀ b o, b < W.heap.size → w1.cell? ⟨b, o, none⟩ = W.cell? ⟨b, o, none⟩) ∧ (∀ b o, b < W.heap.size → w1.frozen? ⟨b, o, none⟩ = W.frozen? ⟨b, o, none⟩) :=
  ⟨fun b o h => hb.cell (p := ⟨b, o, none⟩) h, fun b o h => hb.frozen (p := ⟨b, o, none⟩) h⟩
theorem hide {p : Prop} (h : p) : Hid p := h
theorem unhide {p : Prop} (h : Hid p) : p := h
theorem ret_bool {a b : Bool} (h : a = b) : Ending.returned (.bool a) = .returned (.bool b) := by rw [h]
theorem ret_int {k : IntKind} {a b : Int} (h : a = b) : Ending.returned (.int k a) = .returned (.int k b) := by rw [h]

/-- A slice of ranges, as it reads in a world. -/
def Rd (w : World) (ao : Option Addr) (l : List (Int × Int)) : Prop :=
  ∀ i x, l[i]? = some x → ∃ b off, ao = some ⟨b, off, none⟩ ∧ b < w.heap.size ∧
    w.cell? ⟨b, off + i * 2, none⟩ = some (.int .i64 x.1) ∧ w.cell? ⟨b, off + i * 2 + 1, none⟩ = some (.int .i64 x.2)

theorem Rd.below {w w' : World} {ao : Option Addr} {l : List (Int × Int)} (h : Rd w ao l) (hb : Below w.heap.size w w') : Rd w' ao l := by
  intro i x hx
  obtain ⟨b, off, ha, hlt, h1, h2⟩ := h i x hx
  exact ⟨b, off, ha, Nat.lt_of_lt_of_le hlt hb.size, (hb.cell (p := ⟨b, _, none⟩) hlt).trans h1, (hb.cell (p := ⟨b, _, none⟩) hlt).trans h2⟩

set_option maxHeartbeats 400000 in
theorem isRune_any (r : Int) (w : World) : Calls Try.prog 45 #[.int .i64 r] w fun e w' => e = .returned (.bool (Brm.runeB r)) ∧ w' = w := by
  go_enter Try.func45, Try.ntmps45
  go_wp2
  all_goals (go_ret; exact ⟨ret_bool (by rw [Bool.eq_iff_iff]; simp [Brm.runeB]; omega), rfl⟩)

set_option maxHeartbeats 400000 in
theorem after_any (r : Int) (w : World) (h0 : 0 ≤ r) (h1 : r ≤ 1114111) : Calls Try.prog 33 #[.int .i64 r] w fun e w' => e = .returned (.int .i64 (Brm.after r)) ∧ w' = w := by
  by_cases hc : r = 55295
  · subst hc
    go_enter Try.func33, Try.ntmps33
    go_wp2
    go_ret
    exact ⟨rfl, rfl⟩
  · have hb : (r == 55295) = false := beq_eq_false_iff_ne.2 hc
    have HC : Hid (¬ r = 55295) := hc
    clear hc
    go_enter Try.func33, Try.ntmps33
    go_wp2
    go_ret
    exact ⟨ret_int (by unfold Brm.after; rw [if_neg HC.out]), rfl⟩

set_option maxHeartbeats 400000 in
theorem before_any (r : Int) (w : World) (h0 : 0 ≤ r) (h1 : r ≤ 1114111) : Calls Try.prog 43 #[.int .i64 r] w fun e w' => e = .returned (.int .i64 (Brm.before r)) ∧ w' = w := by
  by_cases hc : r = 57344
  · subst hc
    go_enter Try.func43, Try.ntmps43
    go_wp2
    go_ret
    exact ⟨rfl, rfl⟩
  · have hb : (r == 57344) = false := beq_eq_false_iff_ne.2 hc
    have HC : Hid (¬ r = 57344) := hc
    clear hc
    go_enter Try.func43, Try.ntmps43
    go_wp2
    go_ret
    exact ⟨ret_int (by unfold Brm.before; rw [if_neg HC.out]), rfl⟩

theorem mem_take_succ {l : List (Int × Int)} {k : Nat} {x : Int × Int} {r : Int} (hx : l[k]? = some x) : Brm.memB (l.take (k + 1)) r = (Brm.memB (l.take k) r || Brm.inB x r) := by
  rw [List.take_add_one, hx, Brm.mem_append]; simp [Brm.memB]
theorem mem_of_get {l : List (Int × Int)} {k : Nat} {x : Int × Int} {r : Int} (hx : l[k]? = some x) (h : Brm.inB x r = true) : Brm.memB l r = true := by
  rw [Brm.mem_true]; exact ⟨x, List.mem_of_getElem? hx, (Brm.in_iff x r).1 h⟩
set_option maxHeartbeats 400000 in
theorem in_any (ao : Option Addr) (l : List (Int × Int)) (cap : Nat) (r : Int) (w : World) (hcells : Rd w ao l) (hlen : l.length ≤ 1000000) :
    Calls Try.prog 10 #[.slice ao l.length cap, .int .i64 r] w fun e w' => e = .returned (.bool (Brm.memB l r)) ∧ w' = w := by
  have HC := hide hcells; clear hcells
  go_enter Try.func10, Try.ntmps10
  go_wp2
  go_loop [5] (fun i => ∃ k : Nat, k ≤ l.length ∧ i = .int .i64 k ∧ Brm.memB (l.take k) r = false) (fun i => l.length - (intOf i).toNat)
  case atStart => exact ⟨0, Nat.zero_le _, rfl, rfl⟩
  case round =>
    obtain ⟨k, hk, rfl, hm⟩ := hrel
    have HM := hide hm; clear hm
    by_cases hlt : k < l.length
    · obtain ⟨b, off, rfl, hb, h1, h2⟩ := unhide HC k l[k] (List.getElem?_eq_getElem hlt)
      generalize hx : l[k] = x at h1 h2
      have HX : Hid (l[k]? = some x) := by rw [List.getElem?_eq_getElem hlt, hx]; rfl
      clear hx
      obtain ⟨x1, x2⟩ := x
      simp only at h1 h2
      go_wp2
      · go_ret
        exact ⟨ret_bool (mem_of_get HX.out ((Brm.in_iff _ _).2 ⟨‹_›, ‹_›⟩)).symm, rfl⟩
      all_goals
        go_round
        case rel => exact ⟨k + 1, by omega, by go_num, by rw [mem_take_succ HX.out, HM.out, Bool.false_or, ← Bool.not_eq_true, Brm.in_iff]; simp only; omega⟩
        case measure => simp [intOf]; omega
    · go_wp2
      go_ret
      exact ⟨ret_bool (by rw [← unhide HM, List.take_of_length_le (by omega)]), rfl⟩

theorem all_take_succ {l : List (Int × Int)} {k : Nat} {x : Int × Int} (hx : l[k]? = some x) : (l.take (k + 1)).all Brm.okB = ((l.take k).all Brm.okB && Brm.okB x) := by
  rw [List.take_add_one, hx]; simp
theorem set_false_of {l : List (Int × Int)} {k : Nat} {x : Int × Int} (hx : l[k]? = some x) (h : Brm.okB x = false) : Brm.setB l = false := by
  unfold Brm.setB
  have : l.all Brm.okB = false := by
    rw [List.all_eq_false]; exact ⟨x, List.mem_of_getElem? hx, by simp [h]⟩
  rw [this, Bool.and_false]
set_option maxHeartbeats 400000 in
theorem isSet_any (ao : Option Addr) (l : List (Int × Int)) (cap : Nat) (w : World) (hcells : Rd w ao l) :
    Calls Try.prog 13 #[.slice ao l.length cap] w fun e w' => e = .returned (.bool (Brm.setB l)) ∧ Below w.heap.size w w' := by
  have HC := hide hcells; clear hcells
  by_cases h40 : 40 < l.length
  · have HF : Hid (Brm.setB l = false) := by
      show Brm.setB l = false
      unfold Brm.setB; simp; omega
    go_enter Try.func13, Try.ntmps13
    go_wp2
    go_ret
    exact ⟨ret_bool HF.out.symm, Below.refl _ _⟩
  have h41 : l.length ≤ 40 := by omega
  clear h40
  go_enter Try.func13, Try.ntmps13
  go_wp2
  go_loopw [10] (fun i wr => ∃ k : Nat, k ≤ l.length ∧ i = .int .i64 k ∧ (l.take k).all Brm.okB = true ∧ Below w.heap.size w wr) (fun i _ => l.length - (intOf i).toNat)
  case atStart => exact ⟨0, Nat.zero_le _, rfl, rfl, Below.refl _ _⟩
  case round =>
    obtain ⟨k, hk, rfl, hm, hbel⟩ := hrel
    have HM := hide hm; clear hm
    have hsz := hbel.size
    by_cases hlt : k < l.length
    · obtain ⟨b, off, rfl, hb, h1, h2⟩ := unhide HC k l[k] (List.getElem?_eq_getElem hlt)
      generalize hx : l[k] = x at h1 h2
      have HX : Hid (l[k]? = some x) := by rw [List.getElem?_eq_getElem hlt, hx]; rfl
      clear hx
      obtain ⟨x1, x2⟩ := x
      simp only at h1 h2
      rw [← hbel.cell (p := ⟨b, _, none⟩) hb] at h1 h2
      go_wp2
      case roundEnd =>
        go_roundw
        case rel => exact ⟨k + 1, by omega, by go_num, by rw [all_take_succ HX.out, HM.out, Bool.true_and]; simp [Brm.okB]; omega, hbel.alloc (by omega) _⟩
        case measure => simp [intOf]; omega
      all_goals
        go_ret
        exact ⟨ret_bool (set_false_of HX.out (by simp [Brm.okB]; omega)).symm, hbel.alloc (by omega) _⟩
    · go_wp2
      go_ret
      have HT : Hid (Brm.setB l = true) := by
        have := HM.out
        rw [List.take_of_length_le (by omega)] at this
        show Brm.setB l = true
        unfold Brm.setB; rw [this]; simp; omega
      exact ⟨ret_bool HT.out.symm, hbel⟩

end Go.Proofs.Ytaiidpcdeghipaa
