/- Walks and plain laws, some texts in one. -/
import Derived.Deep.LoopGhost
import Derived.Test.YtpoibdhhcbelnaaGreatDoorM09
import Derived.Test.YtpoibdhhcbelnaaGreatDoorM10
/- The reference's sets as sets in their one form: walks. -/
namespace Go.Proofs.YtpoibdhhcbelnaaGreatDoor
open Go.RowKit Brm

end Go.Proofs.YtpoibdhhcbelnaaGreatDoor
/- The reference's classes: walks. -/
namespace Go.Proofs.YtpoibdhhcbelnaaGreatDoor
open Go.RowKit Brm

theorem rd_lit (w : World) (l : List (Int × Int)) : Rd (w.alloc (.cells (cellsR l).toArray 149)) (some ⟨w.heap.size, 0, none⟩) l := by
  intro i x hx
  have hg := cellsR_get hx
  refine ⟨_, _, rfl, by simp, ?_, ?_⟩
  · rw [(Blk.new w (cellsR l) 149).cell]; simpa using hg.1
  · rw [(Blk.new w (cellsR l) 149).cell]; simpa using hg.2
end Go.Proofs.YtpoibdhhcbelnaaGreatDoor
/- The reference's signs and classes behind a backslash, and a rune behind -: walks. -/
namespace Go.Proofs.YtpoibdhhcbelnaaGreatDoor
open Go.RowKit Brm

def EscV (w' : World) (A : Nat → Prop) (v : Value) (f : Bool) (r : Int ⊕ List (Int × Int)) : Prop := match r with | .inl a => f = true ∧ SetV w' A v [(a, a)] ∧ runeB a = true | .inr L => f = false ∧ SetV w' A v L
end Go.Proofs.YtpoibdhhcbelnaaGreatDoor
/- The reference's items of brackets: a walk. -/
namespace Go.Proofs.YtpoibdhhcbelnaaGreatDoor
open Go.RowKit Brm

/-- What an item is handed back as. -/
def ItemV (w' : World) (A : Nat → Prop) (v : Value) : Prop := ∃ s0, SetV w' A v s0 ∧ s0.length ≤ 1

end Go.Proofs.YtpoibdhhcbelnaaGreatDoor
/- The reference's brackets: a walk. -/
namespace Go.Proofs.YtpoibdhhcbelnaaGreatDoor
open Go.RowKit Brm

/-- Brackets, item by item: how many more at most; what is there so far; what it all comes to. -/
def BrI (w : World) (b : Nat) (lv : Value) (l : List Int) (g d m : Int) (R : Res (List (Int × Int))) (k : Nat) (v : Value) (wr : World) : Prop :=
  Off b w wr ∧ ((∃ l0 s0, St wr b lv l s0 g d m ∧ SetV wr (fun k => w.heap.size ≤ k) v (form l0) ∧ itemsP k l0 s0 = R ∧ (∀ x ∈ l0, okB x = true) ∧ l0.length + 5 * s0.length ≤ 400 ∧ s0.length < k) ∨
    (∃ s' t', Bad wr b lv l s' d ∧ R = .bad s' ∧ SetV wr (fun k => w.heap.size ≤ k) v t' ∧ t'.length ≤ 500))
/-- How brackets end. -/
def BrV (b : Nat) (lv : Value) (l : List Int) (g d m : Int) (w w' : World) (v : Value) (f : List (Int × Int) → List (Int × Int)) (R : Res (List (Int × Int))) : Prop :=
  Off b w w' ∧ Done b lv l g d m (R.map f) w' (fun x => SetV w' (fun k => w.heap.size ≤ k) v x) (IsSl v)

theorem itemsP_more : ∀ (n : Nat) (l : List (Int × Int)) (s : List Int), s.length < n → itemsP n l s = itemsP (n + 1) l s
  | 0, _, s, h => by omega
  | n + 1, l, s, h => by
    rw [itemsP, itemsP]
    split
    · rfl
    · have h2 := itemP_takes s
      cases hi : itemP s with
      | bad s' => rfl
      | ok x s' =>
        rw [hi] at h2
        have := h2.1
        exact itemsP_more n _ s' (by omega)

end Go.Proofs.YtpoibdhhcbelnaaGreatDoor
/- The reference's counts: a walk. -/
namespace Go.Proofs.YtpoibdhhcbelnaaGreatDoor
open Go.RowKit Brm

end Go.Proofs.YtpoibdhhcbelnaaGreatDoor
/- The reference's grammar: what each rule's call does, and the way deeper: a walk. -/
namespace Go.Proofs.YtpoibdhhcbelnaaGreatDoor
open Go.RowKit Brm

def Part (b : Nat) (lv : Value) (l : List Int) (g : Nat) (d m : Int) (r : Res Pat) (w w' : World) (c : List Value) : Prop :=
  Off b w w' ∧ match r with
  | .ok p s => NV w' (fun k => w.heap.size ≤ k) p c g ∧ St w' b lv l s ((g + p.groups : Nat) : Int) d (max m (d + p.deep))
  | .bad s => Bad w' b lv l s d
/-- A call that hands a pattern back. -/
def Gives (F : Nat) (b : Nat) (lv : Value) (l : List Int) (g : Nat) (d m : Int) (r : Res Pat) (w : World) : Prop :=
  Calls Tryz.prog F #[.pointer (some ⟨b, 0, none⟩)] w fun e w' => ∃ k so sn sc lo ln lc mm nn rr, e = .returned (.agg #[.int .i64 k, .slice so sn sc, .slice lo ln lc, .int .i64 mm, .int .i64 nn, .int .i64 rr]) ∧
    Part b lv l g d m r w w' (Six k so sn sc lo ln lc mm nn rr)
def OrOk (n : Nat) : Prop := ∀ (b : Nat) (lv : Value) (l s : List Int) (g : Nat) (d m : Int) (w : World), St w b lv l s g d m → s.length < n → Gives 64 b lv l g d m (orN false n s) w

/-- A node laid into a block. -/
abbrev put6 (w : World) (r : Nat) (c0 c1 c2 c3 c4 c5 : Value) : World := (((((w.setCell ⟨r, 0, none⟩ c0).setCell ⟨r, 1, none⟩ c1).setCell ⟨r, 2, none⟩ c2).setCell ⟨r, 3, none⟩ c3).setCell ⟨r, 4, none⟩ c4).setCell ⟨r, 5, none⟩ c5
end Go.Proofs.YtpoibdhhcbelnaaGreatDoor
/- The reference's atoms: a walk. -/
namespace Go.Proofs.YtpoibdhhcbelnaaGreatDoor
open Go.RowKit Brm

end Go.Proofs.YtpoibdhhcbelnaaGreatDoor
