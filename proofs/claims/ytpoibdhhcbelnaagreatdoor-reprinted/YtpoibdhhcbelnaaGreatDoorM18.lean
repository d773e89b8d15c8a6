/- Walks and plain laws, some texts in one. -/
import Derived.Deep.AppendLies
import Derived.Deep.LoopGhost
import Derived.Test.YtpoibdhhcbelnaaGreatDoorM17
/- The reference's atoms: walks. -/
namespace Go.Proofs.YtpoibdhhcbelnaaGreatDoor
open Go.RowKit Brm

set_option maxRecDepth 100000 in
set_option maxHeartbeats 1000000 in
theorem atom_dot (b : Nat) (lv : Value) (l t : List Int) (g : Nat) (d m : Int) (w : World) (h : St w b lv l (46 :: t) g d m) : Gives 278 b lv l g d m (.ok (.set dot) t) w := by
  unfold Gives
  have HS0 := hide h
  have HBb := hide h.1.lt
  obtain ⟨f1, f2, f3, f4, f5, f6⟩ := h.facts
  have hb0 := h.1.lt
  skip
  clear h
  go_enter Tryz.func278, Tryz.ntmps278
  go_wp2_with fail
  refine (next_any _ _ _ _ _ _ _ _ (HS0.out.new (.cells #[.int .i64 0, .slice none 0 0, .slice none 0 0, .int .i64 0, .int .i64 0, .int .i64 0] 32))).mono ?_
  rintro e wn ⟨rfl, hwn⟩
  simp only [nextV]
  have HS := hide ((HS0.out.new (.cells #[.int .i64 0, .slice none 0 0, .slice none 0 0, .int .i64 0, .int .i64 0, .int .i64 0] 32)).drn hwn)
  have HO : Hid (Off b w wn) := ((Off.refl b w).alloc (.cells #[.int .i64 0, .slice none 0 0, .slice none 0 0, .int .i64 0, .int .i64 0, .int .i64 0] 32)).trans (Off.drn hwn)
  have HK := hide ((Blk.new w [.int .i64 0, .slice none 0 0, .slice none 0 0, .int .i64 0, .int .i64 0, .int .i64 0] 32).off (c := b) (Off.drn hwn) (by omega))
  have HZ0 : Hid (w.heap.size + 1 ≤ wn.heap.size) := by have := (Off.drn (b := b) hwn).size; show _ ≤ _; simp at this; omega
  clear hwn
  obtain ⟨c0, c1, c2, c3, c4, c5, hb⟩ := HS.out.cells
  have hf1 := HS.out.1.frozen 1
  have hf3 := HS.out.1.frozen 3
  have hlen := HS.out.2.2.2.1
  go_wp2_with fail
  refine (dot_any _).mono ?_
  rintro e wo ⟨v1, rfl, hv1, hb1⟩
  have S := HS.out.step
  have HS3 := hide (S.1.below hb1)
  have HO3 : Hid (Off b w wo) := (HO.out.trans S.2).trans (Off.below hb1)
  obtain ⟨so, sn, sc, rfl⟩ := set_isl hv1
  have HV := hide hv1
  replace HK := hide ((HK.out.off S.2 (by omega)).below hb1)
  have HB2 : Hid (w.heap.size < (wn.setCell ⟨b, 1, none⟩ (.int .i64 (((l.length - (46 :: t).length : Nat) : Int) + 1))).heap.size) := by have := HZ0.out; show _ < _; simp [World.setCell]; omega
  clear S hv1 hb1 c0 c1 c2 c3 c4 c5 hb hf1 hf3 hlen
  obtain ⟨⟨z0, z1, z2, z3, z4, z5⟩, ⟨y0, y1, y2, y3, y4, y5⟩, hw1⟩ := zero_cells HK.out
  try simp at z0 z1 z2 z3 z4 z5 y0 y1 y2 y3 y4 y5 hw1
  go_wp2_with fail
  refine bodyPost_ret (v := .agg #[.int .i64 1, .slice so sn sc, .slice none 0 0, .int .i64 0, .int .i64 0, .int .i64 0]) (by simp [results, Tryz.results278, go_sem, z0, z1, z2, z3, z4, z5]) rfl ⟨1, so, sn, sc, none, 0, 0, 0, 0, 0, rfl, ?_⟩
  exact set_end HS3.out HV.out HB2.out HBb.out HO3.out HS0.out.2.2.1 rfl
end Go.Proofs.YtpoibdhhcbelnaaGreatDoor
/- The reference's atoms: walks. -/
namespace Go.Proofs.YtpoibdhhcbelnaaGreatDoor
open Go.RowKit Brm

end Go.Proofs.YtpoibdhhcbelnaaGreatDoor
/- The reference's groups: walks. -/
namespace Go.Proofs.YtpoibdhhcbelnaaGreatDoor
open Go.RowKit Brm

end Go.Proofs.YtpoibdhhcbelnaaGreatDoor
/- The reference's "so many times": a walk. -/
namespace Go.Proofs.YtpoibdhhcbelnaaGreatDoor
open Go.RowKit Brm

/-- So many times, sign by sign: the node so far lies in the block X. -/
def ManyI (w : World) (X : Nat) (b : Nat) (lv : Value) (l : List Int) (g : Nat) (d m : Int) (R : Res Pat) (j : Nat) (wr : World) : Prop :=
  Off b w wr ∧ Blk wr w.heap.size [.int .i64 0, .slice none 0 0, .slice none 0 0, .int .i64 0, .int .i64 0, .int .i64 0] 32 ∧ ∃ k so sn sc lo ln lc mm nn rr, Blk wr X (Six k so sn sc lo ln lc mm nn rr) 32 ∧
    ((∃ p s0, NV wr (fun q => w.heap.size < q ∧ q ≠ X) p (Six k so sn sc lo ln lc mm nn rr) g ∧ St wr b lv l s0 ((g + p.groups : Nat) : Int) d (max m (d + p.deep)) ∧ manyLoop j p s0 = R ∧ s0.length < j) ∨ (∃ s', Bad wr b lv l s' d ∧ R = .bad s'))
end Go.Proofs.YtpoibdhhcbelnaaGreatDoor
/- The reference's "not": a walk. -/
namespace Go.Proofs.YtpoibdhhcbelnaaGreatDoor
open Go.RowKit Brm

end Go.Proofs.YtpoibdhhcbelnaaGreatDoor
/- An append of one node to a row that the call owns. -/
namespace Go.Proofs.YtpoibdhhcbelnaaGreatDoor
open Go.RowKit Brm

end Go.Proofs.YtpoibdhhcbelnaaGreatDoor
/- The reference's rows: a walk. -/
namespace Go.Proofs.YtpoibdhhcbelnaaGreatDoor
open Go.RowKit Brm

/-- The blocks of a list's parts: new ones, not the node's own, not the list's own. -/
def AL (w : World) (X : Nat) (v : Value) (q : Nat) : Prop := w.heap.size + 1 ≤ q ∧ q ≠ X ∧ some q ≠ v.ownBlock
/-- A list of parts that the node in X has. -/
def LI (w : World) (X : Nat) (v : Value) (L : List Pat) (g : Nat) (wr : World) : Prop := ∃ xs, wr.ownsRow (w.heap.size + 1) 32 6 v L.length xs ∧ v.ownBlock ≠ some X ∧ NL wr (AL w X v) L xs g
end Go.Proofs.YtpoibdhhcbelnaaGreatDoor
/- The reference's rows: a walk. -/
namespace Go.Proofs.YtpoibdhhcbelnaaGreatDoor
open Go.RowKit Brm

def RowI (w : World) (b : Nat) (lv : Value) (l : List Int) (g : Nat) (d m : Int) (n : Nat) (R : Res Pat) (j : Nat) (wr : World) : Prop :=
  Off b w wr ∧ Blk wr w.heap.size [.int .i64 0, .slice none 0 0, .slice none 0 0, .int .i64 0, .int .i64 0, .int .i64 0] 32 ∧ ∃ lo ln lc, Blk wr (w.heap.size + 1) (Six 2 none 0 0 lo ln lc 0 0 0) 32 ∧
    ((∃ L s0, LI w (w.heap.size + 1) (.slice lo ln lc) L g wr ∧ St wr b lv l s0 ((g + groupsL L : Nat) : Int) d (max m (d + deepL L)) ∧ L.length + s0.length ≤ 60 ∧ s0.length ≤ n ∧ rowLoop false (orN false n) j L s0 = R ∧ s0.length < j) ∨ (∃ s', Bad wr b lv l s' d ∧ R = .bad s'))
end Go.Proofs.YtpoibdhhcbelnaaGreatDoor
