/- The program's writing: whole patterns: walks. -/
import Derived.Laws.IdiomStrings
import Derived.Laws.StructEq
import Derived.BigRegion
import Derived.BigQuiet
import Derived.Deep.QuietTactic
import Derived.Deep.RegionHeld3
import Derived.Test.YtlflfcjbpnnfcaaGreatDoorM18
import Derived.Test.YtlflfcjbpnnfcaaGreatDoorM23
import Derived.Test.YtlflfcjbpnnfcaaGreatDoorM09
import Derived.Test.YtlflfcjbpnnfcaaGreatDoorM03
import Derived.Test.YtlflfcjbpnnfcaaGreatDoorM05
import Derived.Test.YtlflfcjbpnnfcaaGreatDoorM06
import Derived.Test.YtlflfcjbpnnfcaaGreatDoorM16
namespace Go.Proofs.YtlflfcjbpnnfcaaGreatDoor
open Go.RowKit Brm

def WriteOk (p : Pat) : Prop := ∀ (A : Nat → Prop) (x : Nat) (w : World), PN w A p x → p.wr.length ≤ 4000 → p.Ok → Calls Tryz.prog 35 #[Ptr x] w fun e w' => Str p.wr w e w'
theorem Blk.five {w : World} {b : Nat} {v0 v1 v2 v3 v4 : Value} {T : TypeId} (h : Blk w b [v0, v1, v2, v3, v4] T) : w.cell? ⟨b, 0, none⟩ = some v0 ∧ w.cell? ⟨b, 1, none⟩ = some v1 ∧ w.cell? ⟨b, 2, none⟩ = some v2 ∧ w.cell? ⟨b, 3, none⟩ = some v3 ∧ w.cell? ⟨b, 4, none⟩ = some v4 ∧ b < w.heap.size :=
  ⟨h.cell 0, h.cell 1, h.cell 2, h.cell 3, h.cell 4, h.lt⟩
end Go.Proofs.YtlflfcjbpnnfcaaGreatDoor
