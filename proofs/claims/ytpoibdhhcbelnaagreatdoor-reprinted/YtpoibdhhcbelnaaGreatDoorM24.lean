/- Walks and plain laws, some texts in one. -/
import Derived.Deep.RegionHeld3
import Derived.Test.YtpoibdhhcbelnaaGreatDoorM19
import Derived.Test.YtpoibdhhcbelnaaGreatDoorM23
import Derived.Test.YtpoibdhhcbelnaaGreatDoorM17
/- The reference's writing: sets: a walk. -/
namespace Go.Proofs.YtpoibdhhcbelnaaGreatDoor
open Go.RowKit Brm

theorem wrRanges_snoc (l : List (Int × Int)) (x : Int × Int) : wrRanges (l ++ [x]) = wrRanges l ++ wrRange x := by simp [wrRanges]
end Go.Proofs.YtpoibdhhcbelnaaGreatDoor
/- The reference's writing: parts: walks. -/
namespace Go.Proofs.YtpoibdhhcbelnaaGreatDoor
open Go.RowKit Brm

def TextOk (p : Pat) : Prop := ∀ (A : Nat → Prop) (c : List Value) (g : Nat) (w : World), NV w A p c g → p.wr.length ≤ 4000 → p.Ok → Calls Tryz.prog 37 #[.agg c.toArray] w fun e w' => ∃ t, e = .returned (.string t) ∧ bytesOf t = p.wr ∧ Below w.heap.size w w'
theorem Own.below {w w' : World} {A : Nat → Prop} {e : TypeId} {size : Nat} {v : Value} {n : Nat} {xs : List Value} (h : Own w A e size v n xs) (hb : Below w.heap.size w w') : Own w' A e size v n xs := h.keep (Keeps.below hb)
theorem enc_pos (c : Int) : 1 ≤ (Lib.encodeRune c).length := by
  have := (Lib.encodeRuneZ_length c).1
  simpa [Lib.encodeRune] using this
theorem written_pos (must : Int → Bool) (c : Int) : 1 ≤ (Brm.written must c).length := by
  have := enc_pos c
  unfold Brm.written; repeat' split
  all_goals first | (simp; done) | (simp; omega) | omega
theorem wrRange_pos (x : Int × Int) : 1 ≤ (wrRange x).length := by
  have := written_pos inner x.1
  unfold wrRange; repeat' split
  all_goals first | omega | (simp; omega)
theorem wrRanges_pos : ∀ (l : List (Int × Int)), l.length ≤ (wrRanges l).length
  | [] => by simp
  | x :: l => by
    have := wrRanges_pos l
    have := wrRange_pos x
    unfold wrRanges at *
    simp only [List.map_cons, List.flatten_cons, List.length_append, List.length_cons]; omega
theorem wrSet_pos (s : List (Int × Int)) : s.length ≤ (wrSet s).length + 10 := by
  unfold wrSet
  split
  · rename_i h; subst h; decide
  · split
    · simp
    · have := wrRanges_pos s; simp; omega
end Go.Proofs.YtpoibdhhcbelnaaGreatDoor
/- The reference's writing: parts with others in them: walks. -/
namespace Go.Proofs.YtpoibdhhcbelnaaGreatDoor
open Go.RowKit Brm

end Go.Proofs.YtpoibdhhcbelnaaGreatDoor
/- The reference's writing: parts with some others in them: walks. -/
namespace Go.Proofs.YtpoibdhhcbelnaaGreatDoor
open Go.RowKit Brm

end Go.Proofs.YtpoibdhhcbelnaaGreatDoor
