/- Walks and plain laws, some texts in one. -/
import Derived.Lib.IndexBytes
import Derived.Test.YtpoibdhhcbelnaaGreatDoorM20
/- The reference's runes of a text: a walk. -/
namespace Go.Proofs.YtpoibdhhcbelnaaGreatDoor
open Go.RowKit Brm

theorem Tryz.info3 : (Tryz.prog.info? 3).map (fun i => (i.zero, i.size, i.bytes)) = some (some (.int .i64 0), 1, 8) := by kernel_rfl
theorem bytes_drop (s : ByteArray) (i : Nat) : bytesOf (s.extract i s.size) = (bytesOf s).drop i := by
  unfold bytesOf
  rw [ByteArray.data_extract]
  simp [Array.toList_extract, List.extract_eq_take_drop]
  rw [List.take_of_length_le]
  simp
/-- Some runes of a text have been read. -/
def Chain (bs : List UInt8) (pre : List Int) : Prop := posOf pre.length bs ≤ bs.length ∧ (∀ l, Runes (bs.drop (posOf pre.length bs)) l → Runes bs (pre ++ l)) ∧ ∀ k, Broken (bs.drop (posOf pre.length bs)) k → Broken bs (posOf pre.length bs + k)
theorem chain_nil (bs : List UInt8) : Chain bs [] := ⟨by simp [posOf], fun l h => by simpa [posOf] using h, fun k h => by simpa [posOf] using h⟩
theorem chain_snoc {bs : List UInt8} {pre : List Int} (h : Chain bs pre) (hne : bs.drop (posOf pre.length bs) ≠ []) (hn : decL (bs.drop (posOf pre.length bs)) ≠ noRune) :
    Chain bs (pre ++ [((decL (bs.drop (posOf pre.length bs))).1 : Int)]) ∧ posOf (pre.length + 1) bs = posOf pre.length bs + (decL (bs.drop (posOf pre.length bs))).2 := by
  have hf := decL_fit hne
  have e : posOf (pre ++ [((decL (bs.drop (posOf pre.length bs))).1 : Int)]).length bs = posOf pre.length bs + (decL (bs.drop (posOf pre.length bs))).2 := by
    rw [List.length_append, List.length_singleton, posOf_succ]
  refine ⟨⟨?_, ?_, ?_⟩, posOf_succ _ _⟩
  · rw [e]; have := hf.2.1; rw [List.length_drop] at this; have := h.1; omega
  · intro l hl
    rw [e, ← List.drop_drop] at hl
    rw [List.append_assoc]
    exact h.2.1 _ (.cons hne (c := (decL (bs.drop (posOf pre.length bs))).1) (n := (decL (bs.drop (posOf pre.length bs))).2) rfl hn hl)
  · intro k hk
    rw [e, ← List.drop_drop] at hk
    have := h.2.2 _ (.later hne (c := (decL (bs.drop (posOf pre.length bs))).1) (n := (decL (bs.drop (posOf pre.length bs))).2) rfl hn hk)
    rw [e, Nat.add_assoc]; exact this
/-- The places where runes begin. -/
def posns (bs : List UInt8) (n : Nat) : List Int := (List.range n).map fun t => (posOf t bs : Int)
def ints (l : List Int) : List Value := l.map fun c => .int .i64 c
def RunesI (w : World) (bs : List UInt8) (j : Nat) (ov av iv : Value) (wr : World) : Prop := ∃ pre : List Int, Chain bs pre ∧ iv = .int .i64 (posOf pre.length bs) ∧ wr.ownsRow w.heap.size 3 1 ov pre.length (ints pre) ∧ wr.ownsRow w.heap.size 3 1 av pre.length (ints (posns bs pre.length)) ∧ (ov.ownBlock = none ∨ ov.ownBlock ≠ av.ownBlock) ∧ Below w.heap.size w wr ∧ bs.length - posOf pre.length bs ≤ j ∧ pre.length ≤ posOf pre.length bs
end Go.Proofs.YtpoibdhhcbelnaaGreatDoor
/- The reference's runes of a text: a walk. -/
namespace Go.Proofs.YtpoibdhhcbelnaaGreatDoor
open Go.RowKit Brm

end Go.Proofs.YtpoibdhhcbelnaaGreatDoor
/- The reference's reading of a pattern: a walk. -/
namespace Go.Proofs.YtpoibdhhcbelnaaGreatDoor
open Go.RowKit Brm

/-- What the runes of a pattern come to: error, place, pattern. -/
def outcome (bs : List UInt8) (l : List Int) : Int × Int × Option Pat := match orN false (l.length + 1) l with
  | .bad s => (4, (posOf (l.length - s.length) bs : Int), none)
  | .ok _ (_ :: t) => (4, (posOf (l.length - (t.length + 1)) bs : Int), none)
  | .ok p [] => if 8 < p.deep then (5, 0, none) else (0, 0, some p)
/-- What a pattern's bytes come to. -/
def ReadR (bs : List UInt8) (r : Int × Int × Option Pat) : Prop :=
  (60 < bs.length ∧ r = (2, 0, none)) ∨ (bs.length ≤ 60 ∧ ∃ k : Nat, Broken bs k ∧ r = (3, (k : Int), none)) ∨ (bs.length ≤ 60 ∧ ∃ l, Runes bs l ∧ r = outcome bs l)
theorem readR_unique {bs : List UInt8} {r r' : Int × Int × Option Pat} (h : ReadR bs r) (h' : ReadR bs r') : r' = r := by
  rcases h with ⟨a, rfl⟩ | ⟨a, k, hk, rfl⟩ | ⟨a, l, hl, rfl⟩ <;> rcases h' with ⟨a', rfl⟩ | ⟨a', k', hk', rfl⟩ | ⟨a', l', hl', rfl⟩
  · rfl
  · omega
  · omega
  · omega
  · rw [broken_unique hk hk']
  · exact absurd hk (runes_not_broken hl' k)
  · omega
  · exact absurd hk' (runes_not_broken hl k')
  · rw [runes_unique hl hl']
/-- What the reference's Read hands back. -/
def ReadV (s : ByteArray) (w : World) (e : Ending) (w' : World) : Prop := Below w.heap.size w w' ∧ ∃ k so sn sc lo ln lc mm nn rr gr er place op, ReadR (bytesOf s) (er, place, op) ∧
  e = .returned (.tuple #[.agg #[.int .i64 k, .slice so sn sc, .slice lo ln lc, .int .i64 mm, .int .i64 nn, .int .i64 rr], .int .i64 gr, .int .i64 er, .int .i64 place]) ∧
  match op with | some p => NV w' (fun q => w.heap.size ≤ q) p (Six k so sn sc lo ln lc mm nn rr) 0 ∧ gr = (p.groups : Int) | none => gr = 0
theorem own3_cell {w : World} {B n t : Nat} {pa : Option Addr} {pc : Nat} {xs : List Int} (h : w.ownsRow B 3 1 (.slice pa n pc) n (ints xs)) (x : Int) (ht : xs[t]? = some x) : ∃ bp, pa = some ⟨bp, 0, none⟩ ∧ w.cell? ⟨bp, t, none⟩ = some (.int .i64 x) ∧ bp < w.heap.size ∧ B ≤ bp ∧ t < n := by
  have hl := h.1
  have htl : t < xs.length := (List.getElem?_eq_some_iff.1 ht).1
  simp [ints] at hl
  rcases h.2 with ⟨_, h0⟩ | ⟨g, cap, cur, e, hg, hh, r⟩
  · omega
  · cases e
    have := h.cells rfl t (.int .i64 x) (by simp [ints, ht])
    rw [Addr.add_lit] at this
    exact ⟨g, rfl, by simpa using this, (h.lt g rfl).2, hg, by omega⟩
end Go.Proofs.YtpoibdhhcbelnaaGreatDoor
