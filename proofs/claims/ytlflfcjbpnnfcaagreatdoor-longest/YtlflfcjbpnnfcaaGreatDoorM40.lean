/- The program's Print, and the law Prints: walks. -/
import Derived.Test.YtlflfcjbpnnfcaaGreatDoorM26
import Derived.Test.YtlflfcjbpnnfcaaGreatDoorM24
import Derived.Test.YtlflfcjbpnnfcaaGreatDoorM17
namespace Go.Proofs.YtlflfcjbpnnfcaaGreatDoor
open Go.RowKit Brm

/-- Letters below 128 are their own runes. -/
theorem ascii_runes : ∀ (bs : List UInt8), (∀ x ∈ bs, x.toNat < 128) → Runes bs (bs.map fun x => (x.toNat : Int))
  | [], _ => .nil
  | b :: bs, h => by
    have hb : b.toNat < 128 := h b (by simp)
    have hd : decL (b :: bs) = (b.toNat, 1) := decL_low (bs := b :: bs) hb
    refine .cons (by simp) hd ?_ ?_
    · intro e; simp [noRune] at e; omega
    · simpa using ascii_runes bs (fun x hx => h x (by simp [hx]))
def exampleIn : List UInt8 := [97, 123, 48, 44, 49, 125, 91, 98, 45, 98, 120, 93, 124, 92, 100, 123, 50, 44, 50, 125]
def exampleOut : List UInt8 := [97, 63, 91, 98, 120, 93, 124, 91, 48, 45, 57, 93, 123, 50, 125]
def examplePat : Pat := match orN false 21 (exampleIn.map fun x => (x.toNat : Int)) with | .ok p _ => p | .bad _ => .row []
end Go.Proofs.YtlflfcjbpnnfcaaGreatDoor
