/- Walks and plain laws, some texts in one. -/
import Derived.Deep.RegionHeld3
import Derived.Test.YtpoibdhhcbelnaaGreatDoorM19
import Derived.Test.YtpoibdhhcbelnaaGreatDoorM23
import Derived.Test.YtpoibdhhcbelnaaGreatDoorM17
/- The reference's writing: sets: a walk. -/
namespace Go.Proofs.YtpoibdhhcbelnaaGreatDoor
open Go.RowKit Brm

end Go.Proofs.YtpoibdhhcbelnaaGreatDoor
/- The reference's writing: parts: walks. -/
namespace Go.Proofs.YtpoibdhhcbelnaaGreatDoor
open Go.RowKit Brm

def TextOk (p : Pat) : Prop := ∀ (A : Nat → Prop) (c : List Value) (g : Nat) (w : World), NV w A p c g → p.wr.length ≤ 4000 → p.Ok → Calls Tryz.prog 37 #[.agg c.toArray] w fun e w' => ∃ t, e = .returned (.string t) ∧ bytesOf t = p.wr ∧ Below w.heap.size w w'
theorem Own.below {w w' : World} {A : Nat → Prop} {e : TypeId} {size : Nat} {v : Value} {n : Nat} {xs : List Value} (h : Own w A e size v n xs) (hb : Below w.heap.size w w') : Own w' A e size v n xs := h.keep (Keeps.below hb)
end Go.Proofs.YtpoibdhhcbelnaaGreatDoor
/- The reference's writing: parts with others in them: walks. -/
namespace Go.Proofs.YtpoibdhhcbelnaaGreatDoor
open Go.RowKit Brm

end Go.Proofs.YtpoibdhhcbelnaaGreatDoor
/- The reference's writing: parts with some others in them: walks. -/
namespace Go.Proofs.YtpoibdhhcbelnaaGreatDoor
open Go.RowKit Brm

end Go.Proofs.YtpoibdhhcbelnaaGreatDoor
