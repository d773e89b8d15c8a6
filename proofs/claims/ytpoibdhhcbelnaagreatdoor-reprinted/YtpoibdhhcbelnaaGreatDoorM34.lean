/- Walks and plain laws, some texts in one. -/
import Derived.Deep.RegionHeld3
import Derived.Deep.RegionWith
import Derived.Test.YtpoibdhhcbelnaaGreatDoorM24
import Derived.Test.YtpoibdhhcbelnaaGreatDoorM21
import Derived.Test.YtpoibdhhcbelnaaGreatDoorM10
/- The reference's Print: a walk. -/
namespace Go.Proofs.YtpoibdhhcbelnaaGreatDoor
open Go.RowKit Brm

/-- What is written of a pattern that was read. -/
def wrOf (op : Option Pat) : List UInt8 := match op with | some p => p.wr | none => []
/-- What Print answers to a pattern's bytes: the text, the error, the place. -/
def PrintR (bs : List UInt8) (t : List UInt8) (er place : Int) : Prop := ∃ op, ReadR bs (er, place, op) ∧ t = wrOf op
theorem readR_some {bs : List UInt8} {er place : Int} {p : Pat} (h : ReadR bs (er, place, some p)) : er = 0 ∧ place = 0 ∧ p.Ok ∧ p.wr.length ≤ 3600 := by
  rcases h with ⟨_, h⟩ | ⟨_, k, _, h⟩ | ⟨hl, l, hr, h⟩
  · simp at h
  · simp at h
  · have hp := orN_pat false (l.length + 1) l (runes_all hr)
    have hlen := runes_len hr
    unfold outcome at h
    cases ho : orN false (l.length + 1) l with
    | bad s => rw [ho] at h; simp at h
    | ok q s =>
      rw [ho] at h hp
      cases s with
      | cons c t => simp at h
      | nil =>
        simp only at h
        split at h
        · simp at h
        · simp only [Prod.mk.injEq, Option.some.injEq] at h
          obtain ⟨rfl, rfl, rfl⟩ := h
          obtain ⟨h1, h2⟩ := hp
          simp only [List.length_nil, Nat.mul_zero, Nat.add_zero, Nat.zero_add] at h2
          exact ⟨rfl, rfl, h1, by omega⟩
theorem readR_none {bs : List UInt8} {er place : Int} (h : ReadR bs (er, place, none)) : er ≠ 0 := by
  rcases h with ⟨_, h⟩ | ⟨_, k, _, h⟩ | ⟨hl, l, hr, h⟩
  · simp at h; omega
  · simp at h; omega
  · unfold outcome at h
    cases ho : orN false (l.length + 1) l with
    | bad s => rw [ho] at h; simp at h; omega
    | ok q s =>
      rw [ho] at h
      cases s with
      | cons c t => simp at h; omega
      | nil =>
        simp only at h
        split at h
        · simp at h; omega
        · simp at h
end Go.Proofs.YtpoibdhhcbelnaaGreatDoor
/- The reference's table of a pattern: parts: walks. -/
namespace Go.Proofs.YtpoibdhhcbelnaaGreatDoor
open Go.RowKit Brm

/-- Runes in memory. -/
def Il (w : World) (v : Value) (l : List Int) : Prop := ∃ B, w.ownsRow B 3 1 v l.length (ints l)
def TabOk (p : Pat) : Prop := ∀ (A : Nat → Prop) (c : List Value) (g : Nat) (w : World) (l : List Int) (lv : Value), NV w A p c g → p.wr.length ≤ 4000 → p.Ok → Il w lv l → l.length ≤ 40 → AllR l →
  Calls Tryz.prog 41 #[.agg c.toArray, lv] w fun e w' => ∃ v, e = .returned v ∧ Tb w' w.heap.size v l.length (mT p l) ∧ Below w.heap.size w w'
/-- A table of single runes, so far. -/
def setT (q : List (Int × Int)) (l : List Int) (k : Nat) (i j : Nat) : Bool := decide (i < k) && (match l[i]? with | some c => decide (j = i + 1) && memB q (up c) | none => false)
end Go.Proofs.YtpoibdhhcbelnaaGreatDoor
/- The reference's table of a pattern: what stands in others: walks. -/
namespace Go.Proofs.YtpoibdhhcbelnaaGreatDoor
open Go.RowKit Brm

/-- The rows of a table lie below a block. -/
def Low (w : World) (ob n U : Nat) : Prop := ob < w.heap.size ∧ ∀ i rb, i ≤ n → w.cell? ⟨ob, i, none⟩ = some (rowV n rb) → rb < U
def RestOk (ps : List Pat) : Prop := ∀ (A : Nat → Prop) (v : Value) (xs : List Value) (g : Nat) (w : World) (l : List Int) (lv : Value), Own w A 32 6 v ps.length xs → NL w A ps xs g → (Lib.join (wrL ps) []).length ≤ 4000 → (∀ p ∈ ps, p.Ok) → Il w lv l → l.length ≤ 40 → AllR l →
  Calls Tryz.prog 75 #[v, lv] w fun e w' => ∃ v, e = .returned v ∧ Tb w' w.heap.size v l.length (restT ps l) ∧ Below w.heap.size w w'
end Go.Proofs.YtpoibdhhcbelnaaGreatDoor
/- The reference's table of a pattern: or, and; all patterns: walks. -/
namespace Go.Proofs.YtpoibdhhcbelnaaGreatDoor
open Go.RowKit Brm

/-- What a text comes to: too long, no UTF-8, or its runes. -/
def TextR (bs : List UInt8) (e : Int) (ol : Option (List Int)) : Prop := (40 < bs.length ∧ e = 2 ∧ ol = none) ∨ (bs.length ≤ 40 ∧ (∃ k, Broken bs k) ∧ e = 3 ∧ ol = none) ∨ (bs.length ≤ 40 ∧ ∃ l, Runes bs l ∧ e = 0 ∧ ol = some l)
theorem textR_unique {bs : List UInt8} {e e' : Int} {o o' : Option (List Int)} (h : TextR bs e o) (h' : TextR bs e' o') : e' = e ∧ o' = o := by
  rcases h with ⟨a, rfl, rfl⟩ | ⟨a, ⟨k, hk⟩, rfl, rfl⟩ | ⟨a, l, hl, rfl, rfl⟩ <;> rcases h' with ⟨a', rfl, rfl⟩ | ⟨a', ⟨k', hk'⟩, rfl, rfl⟩ | ⟨a', l', hl', rfl, rfl⟩
  · exact ⟨rfl, rfl⟩
  · omega
  · omega
  · omega
  · exact ⟨rfl, rfl⟩
  · exact absurd hk (runes_not_broken hl' k)
  · omega
  · exact absurd hk' (runes_not_broken hl k')
  · exact ⟨rfl, by rw [runes_unique hl hl']⟩
/-- What Match answers. -/
noncomputable def matchB (p : Pat) (ol : Option (List Int)) : Bool := match ol with | some l => mT p l 0 l.length | none => false
theorem textR_none {bs : List UInt8} {e : Int} (h : TextR bs e none) : e ≠ 0 := by
  rcases h with ⟨_, rfl, _⟩ | ⟨_, _, rfl, _⟩ | ⟨_, l, _, _, h⟩
  · decide
  · decide
  · cases h
theorem textR_some {bs : List UInt8} {e : Int} {l : List Int} (h : TextR bs e (some l)) : e = 0 := by
  rcases h with ⟨_, _, h⟩ | ⟨_, _, _, h⟩ | ⟨_, l, _, h, _⟩
  · cases h
  · cases h
  · exact h
end Go.Proofs.YtpoibdhhcbelnaaGreatDoor
