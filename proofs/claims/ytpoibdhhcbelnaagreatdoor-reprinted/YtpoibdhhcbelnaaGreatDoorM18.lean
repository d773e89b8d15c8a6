/- Walks and plain laws, some texts in one. -/
import Derived.Deep.AppendLies
import Derived.Deep.LoopGhost
import Derived.Test.YtpoibdhhcbelnaaGreatDoorM17
/- The reference's atoms: walks. -/
namespace Go.Proofs.YtpoibdhhcbelnaaGreatDoor
open Go.RowKit Brm

end Go.Proofs.YtpoibdhhcbelnaaGreatDoor
/- The reference's atoms: walks. -/
namespace Go.Proofs.YtpoibdhhcbelnaaGreatDoor
open Go.RowKit Brm

end Go.Proofs.YtpoibdhhcbelnaaGreatDoor
/- The reference's groups: walks. -/
namespace Go.Proofs.YtpoibdhhcbelnaaGreatDoor
open Go.RowKit Brm

end Go.Proofs.YtpoibdhhcbelnaaGreatDoor
/- The reference's "so many times": a walk. -/
namespace Go.Proofs.YtpoibdhhcbelnaaGreatDoor
open Go.RowKit Brm

/-- So many times, sign by sign: the node so far lies in the block X. -/
def ManyI (w : World) (X : Nat) (b : Nat) (lv : Value) (l : List Int) (g : Nat) (d m : Int) (R : Res Pat) (j : Nat) (wr : World) : Prop :=
  Off b w wr ∧ Blk wr w.heap.size [.int .i64 0, .slice none 0 0, .slice none 0 0, .int .i64 0, .int .i64 0, .int .i64 0] 32 ∧ ∃ k so sn sc lo ln lc mm nn rr, Blk wr X (Six k so sn sc lo ln lc mm nn rr) 32 ∧
    ((∃ p s0, NV wr (fun q => w.heap.size < q ∧ q ≠ X) p (Six k so sn sc lo ln lc mm nn rr) g ∧ St wr b lv l s0 ((g + p.groups : Nat) : Int) d (max m (d + p.deep)) ∧ manyLoop j p s0 = R ∧ s0.length < j) ∨ (∃ s', Bad wr b lv l s' d ∧ R = .bad s'))
end Go.Proofs.YtpoibdhhcbelnaaGreatDoor
/- The reference's "not": a walk. -/
namespace Go.Proofs.YtpoibdhhcbelnaaGreatDoor
open Go.RowKit Brm

end Go.Proofs.YtpoibdhhcbelnaaGreatDoor
/- An append of one node to a row that the call owns. -/
namespace Go.Proofs.YtpoibdhhcbelnaaGreatDoor
open Go.RowKit Brm

end Go.Proofs.YtpoibdhhcbelnaaGreatDoor
/- The reference's rows: a walk. -/
namespace Go.Proofs.YtpoibdhhcbelnaaGreatDoor
open Go.RowKit Brm

/-- The blocks of a list's parts: new ones, not the node's own, not the list's own. -/
def AL (w : World) (X : Nat) (v : Value) (q : Nat) : Prop := w.heap.size + 1 ≤ q ∧ q ≠ X ∧ some q ≠ v.ownBlock
/-- A list of parts that the node in X has. -/
def LI (w : World) (X : Nat) (v : Value) (L : List Pat) (g : Nat) (wr : World) : Prop := ∃ xs, wr.ownsRow (w.heap.size + 1) 32 6 v L.length xs ∧ v.ownBlock ≠ some X ∧ NL wr (AL w X v) L xs g
end Go.Proofs.YtpoibdhhcbelnaaGreatDoor
/- The reference's rows: a walk. -/
namespace Go.Proofs.YtpoibdhhcbelnaaGreatDoor
open Go.RowKit Brm

def RowI (w : World) (b : Nat) (lv : Value) (l : List Int) (g : Nat) (d m : Int) (n : Nat) (R : Res Pat) (j : Nat) (wr : World) : Prop :=
  Off b w wr ∧ Blk wr w.heap.size [.int .i64 0, .slice none 0 0, .slice none 0 0, .int .i64 0, .int .i64 0, .int .i64 0] 32 ∧ ∃ lo ln lc, Blk wr (w.heap.size + 1) (Six 2 none 0 0 lo ln lc 0 0 0) 32 ∧
    ((∃ L s0, LI w (w.heap.size + 1) (.slice lo ln lc) L g wr ∧ St wr b lv l s0 ((g + groupsL L : Nat) : Int) d (max m (d + deepL L)) ∧ L.length + s0.length ≤ 60 ∧ s0.length ≤ n ∧ rowLoop false (orN false n) j L s0 = R ∧ s0.length < j) ∨ (∃ s', Bad wr b lv l s' d ∧ R = .bad s'))
end Go.Proofs.YtpoibdhhcbelnaaGreatDoor
