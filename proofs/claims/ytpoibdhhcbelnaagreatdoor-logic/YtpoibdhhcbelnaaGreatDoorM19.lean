/- Walks and plain laws, some texts in one. -/
import Derived.Laws.IdiomStrings
import Derived.Test.YtpoibdhhcbelnaaGreatDoorM18
import Derived.Test.YtpoibdhhcbelnaaGreatDoorM10
import Derived.Test.YtpoibdhhcbelnaaGreatDoorM03
import Derived.Test.YtpoibdhhcbelnaaGreatDoorM05
/- What the reference's "and" and "or" have in common. -/
namespace Go.Proofs.YtpoibdhhcbelnaaGreatDoor
open Go.RowKit Brm

def JoinI (w : World) (X : Nat) (b : Nat) (lv : Value) (l : List Int) (g : Nat) (d m : Int) (n : Nat) (kind : Int) (part : List Int → Res Pat) (sign : Int) (mk : List Pat → Pat) (R : Res Pat) (j : Nat) (wr : World) : Prop :=
  Off b w wr ∧ Blk wr w.heap.size [.int .i64 0, .slice none 0 0, .slice none 0 0, .int .i64 0, .int .i64 0, .int .i64 0] 32 ∧ ∃ lo ln lc, Blk wr X (Six kind none 0 0 lo ln lc 0 0 0) 32 ∧
    ((∃ L s0, LI w X (.slice lo ln lc) L g wr ∧ St wr b lv l s0 ((g + groupsL L : Nat) : Int) d (max m (d + deepL L)) ∧ L.length + s0.length ≤ 61 ∧ s0.length ≤ n ∧ (if s0.head? = some sign then joinLoop part sign mk j L s0.tail else .ok (mk L) s0) = R ∧ s0.length ≤ j) ∨ (∃ s', Bad wr b lv l s' d ∧ R = .bad s'))
end Go.Proofs.YtpoibdhhcbelnaaGreatDoor
/- The reference's "and": a walk. -/
namespace Go.Proofs.YtpoibdhhcbelnaaGreatDoor
open Go.RowKit Brm

end Go.Proofs.YtpoibdhhcbelnaaGreatDoor
/- The reference's "or": a walk. -/
namespace Go.Proofs.YtpoibdhhcbelnaaGreatDoor
open Go.RowKit Brm

end Go.Proofs.YtpoibdhhcbelnaaGreatDoor
/- The reference's writing: the bytes of a rune: walks. -/
namespace Go.Proofs.YtpoibdhhcbelnaaGreatDoor
open Go.RowKit Brm

end Go.Proofs.YtpoibdhhcbelnaaGreatDoor
/- The reference's writing: a rune with its backslash; how many times: walks. -/
namespace Go.Proofs.YtpoibdhhcbelnaaGreatDoor
open Go.RowKit Brm

end Go.Proofs.YtpoibdhhcbelnaaGreatDoor
