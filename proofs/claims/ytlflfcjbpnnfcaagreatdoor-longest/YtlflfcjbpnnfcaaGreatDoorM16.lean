/- Walks and plain laws, some texts in one. -/
import Derived.Deep.LoopGhost
import Derived.Deep.AppendLies
import Derived.Laws.IdiomStrings
import Derived.Laws.StructEq
import Derived.BigRegion
import Derived.BigQuiet
import Derived.Deep.QuietTactic
import Derived.Test.YtlflfcjbpnnfcaaGreatDoorM09
import Derived.Test.YtlflfcjbpnnfcaaGreatDoorM03
import Derived.Test.YtlflfcjbpnnfcaaGreatDoorM05
import Derived.Test.YtlflfcjbpnnfcaaGreatDoorM06
/- The reference's brackets: a walk. -/
namespace Go.Proofs.YtlflfcjbpnnfcaaGreatDoor
open Go.RowKit Brm

/-- Brackets, item by item: how many more at most; what is there so far; what it all comes to. -/
def BrI (w : World) (b : Nat) (lv : Value) (l : List Int) (g d m : Int) (R : Res (List (Int × Int))) (k : Nat) (v : Value) (wr : World) : Prop :=
  Off b w wr ∧ ((∃ l0 s0, St wr b lv l s0 g d m ∧ SetV wr (fun k => w.heap.size ≤ k) v (form l0) ∧ itemsP k l0 s0 = R ∧ (∀ x ∈ l0, okB x = true) ∧ l0.length + 5 * s0.length ≤ 400 ∧ s0.length < k) ∨
    (∃ s' t', Bad wr b lv l s' d ∧ R = .bad s' ∧ SetV wr (fun k => w.heap.size ≤ k) v t' ∧ t'.length ≤ 500))
/-- How brackets end. -/
def BrV (b : Nat) (lv : Value) (l : List Int) (g d m : Int) (w w' : World) (v : Value) (f : List (Int × Int) → List (Int × Int)) (R : Res (List (Int × Int))) : Prop :=
  Off b w w' ∧ Done b lv l g d m (R.map f) w' (fun x => SetV w' (fun k => w.heap.size ≤ k) v x) (IsSl v)

theorem itemsP_more : ∀ (n : Nat) (l : List (Int × Int)) (s : List Int), s.length < n → itemsP n l s = itemsP (n + 1) l s
  | 0, _, s, h => by omega
  | n + 1, l, s, h => by
    rw [itemsP, itemsP]
    split
    · rfl
    · have h2 := itemP_takes s
      cases hi : itemP s with
      | bad s' => rfl
      | ok x s' =>
        rw [hi] at h2
        have := h2.1
        exact itemsP_more n _ s' (by omega)

end Go.Proofs.YtlflfcjbpnnfcaaGreatDoor
/- The reference's grammar: what each rule's call does, and the way deeper: a walk. -/
namespace Go.Proofs.YtlflfcjbpnnfcaaGreatDoor
open Go.RowKit Brm

def Part (b : Nat) (lv : Value) (l : List Int) (g : Nat) (d m : Int) (r : Res Pat) (w w' : World) (c : List Value) : Prop :=
  Off b w w' ∧ match r with
  | .ok p s => NV w' (fun k => w.heap.size ≤ k) p c g ∧ St w' b lv l s ((g + p.groups : Nat) : Int) d (max m (d + p.deep))
  | .bad s => Bad w' b lv l s d
/-- A call that hands a pattern back. -/
def Gives (F : Nat) (b : Nat) (lv : Value) (l : List Int) (g : Nat) (d m : Int) (r : Res Pat) (w : World) : Prop :=
  Calls Tryz.prog F #[.pointer (some ⟨b, 0, none⟩)] w fun e w' => ∃ k so sn sc lo ln lc mm nn rr, e = .returned (.agg #[.int .i64 k, .slice so sn sc, .slice lo ln lc, .int .i64 mm, .int .i64 nn, .int .i64 rr]) ∧
    Part b lv l g d m r w w' (Six k so sn sc lo ln lc mm nn rr)
def OrOk (n : Nat) : Prop := ∀ (b : Nat) (lv : Value) (l s : List Int) (g : Nat) (d m : Int) (w : World), St w b lv l s g d m → s.length < n → Gives 64 b lv l g d m (orN false n s) w

/-- A node laid into a block. -/
abbrev put6 (w : World) (r : Nat) (c0 c1 c2 c3 c4 c5 : Value) : World := (((((w.setCell ⟨r, 0, none⟩ c0).setCell ⟨r, 1, none⟩ c1).setCell ⟨r, 2, none⟩ c2).setCell ⟨r, 3, none⟩ c3).setCell ⟨r, 4, none⟩ c4).setCell ⟨r, 5, none⟩ c5
end Go.Proofs.YtlflfcjbpnnfcaaGreatDoor
/- The reference's "so many times": a walk. -/
namespace Go.Proofs.YtlflfcjbpnnfcaaGreatDoor
open Go.RowKit Brm

/-- So many times, sign by sign: the node so far lies in the block X. -/
def ManyI (w : World) (X : Nat) (b : Nat) (lv : Value) (l : List Int) (g : Nat) (d m : Int) (R : Res Pat) (j : Nat) (wr : World) : Prop :=
  Off b w wr ∧ Blk wr w.heap.size [.int .i64 0, .slice none 0 0, .slice none 0 0, .int .i64 0, .int .i64 0, .int .i64 0] 32 ∧ ∃ k so sn sc lo ln lc mm nn rr, Blk wr X (Six k so sn sc lo ln lc mm nn rr) 32 ∧
    ((∃ p s0, NV wr (fun q => w.heap.size < q ∧ q ≠ X) p (Six k so sn sc lo ln lc mm nn rr) g ∧ St wr b lv l s0 ((g + p.groups : Nat) : Int) d (max m (d + p.deep)) ∧ manyLoop j p s0 = R ∧ s0.length < j) ∨ (∃ s', Bad wr b lv l s' d ∧ R = .bad s'))
end Go.Proofs.YtlflfcjbpnnfcaaGreatDoor
/- The reference's rows: a walk. -/
namespace Go.Proofs.YtlflfcjbpnnfcaaGreatDoor
open Go.RowKit Brm

/-- The blocks of a list's parts: new ones, not the node's own, not the list's own. -/
def AL (w : World) (X : Nat) (v : Value) (q : Nat) : Prop := w.heap.size + 1 ≤ q ∧ q ≠ X ∧ some q ≠ v.ownBlock
/-- A list of parts that the node in X has. -/
def LI (w : World) (X : Nat) (v : Value) (L : List Pat) (g : Nat) (wr : World) : Prop := ∃ xs, wr.ownsRow (w.heap.size + 1) 32 6 v L.length xs ∧ v.ownBlock ≠ some X ∧ NL wr (AL w X v) L xs g
end Go.Proofs.YtlflfcjbpnnfcaaGreatDoor
/- The reference's rows: a walk. -/
namespace Go.Proofs.YtlflfcjbpnnfcaaGreatDoor
open Go.RowKit Brm

def RowI (w : World) (b : Nat) (lv : Value) (l : List Int) (g : Nat) (d m : Int) (n : Nat) (R : Res Pat) (j : Nat) (wr : World) : Prop :=
  Off b w wr ∧ Blk wr w.heap.size [.int .i64 0, .slice none 0 0, .slice none 0 0, .int .i64 0, .int .i64 0, .int .i64 0] 32 ∧ ∃ lo ln lc, Blk wr (w.heap.size + 1) (Six 2 none 0 0 lo ln lc 0 0 0) 32 ∧
    ((∃ L s0, LI w (w.heap.size + 1) (.slice lo ln lc) L g wr ∧ St wr b lv l s0 ((g + groupsL L : Nat) : Int) d (max m (d + deepL L)) ∧ L.length + s0.length ≤ 60 ∧ s0.length ≤ n ∧ rowLoop false (orN false n) j L s0 = R ∧ s0.length < j) ∨ (∃ s', Bad wr b lv l s' d ∧ R = .bad s'))
end Go.Proofs.YtlflfcjbpnnfcaaGreatDoor
/- What the reference's "and" and "or" have in common. -/
namespace Go.Proofs.YtlflfcjbpnnfcaaGreatDoor
open Go.RowKit Brm

def JoinI (w : World) (X : Nat) (b : Nat) (lv : Value) (l : List Int) (g : Nat) (d m : Int) (n : Nat) (kind : Int) (part : List Int → Res Pat) (sign : Int) (mk : List Pat → Pat) (R : Res Pat) (j : Nat) (wr : World) : Prop :=
  Off b w wr ∧ Blk wr w.heap.size [.int .i64 0, .slice none 0 0, .slice none 0 0, .int .i64 0, .int .i64 0, .int .i64 0] 32 ∧ ∃ lo ln lc, Blk wr X (Six kind none 0 0 lo ln lc 0 0 0) 32 ∧
    ((∃ L s0, LI w X (.slice lo ln lc) L g wr ∧ St wr b lv l s0 ((g + groupsL L : Nat) : Int) d (max m (d + deepL L)) ∧ L.length + s0.length ≤ 61 ∧ s0.length ≤ n ∧ (if s0.head? = some sign then joinLoop part sign mk j L s0.tail else .ok (mk L) s0) = R ∧ s0.length ≤ j) ∨ (∃ s', Bad wr b lv l s' d ∧ R = .bad s'))
end Go.Proofs.YtlflfcjbpnnfcaaGreatDoor
/- The reference's writing: parts: walks. -/
namespace Go.Proofs.YtlflfcjbpnnfcaaGreatDoor
open Go.RowKit Brm

def TextOk (p : Pat) : Prop := ∀ (A : Nat → Prop) (c : List Value) (g : Nat) (w : World), NV w A p c g → p.wr.length ≤ 4000 → p.Ok → Calls Tryz.prog 37 #[.agg c.toArray] w fun e w' => ∃ t, e = .returned (.string t) ∧ bytesOf t = p.wr ∧ Below w.heap.size w w'
theorem Own.below {w w' : World} {A : Nat → Prop} {e : TypeId} {size : Nat} {v : Value} {n : Nat} {xs : List Value} (h : Own w A e size v n xs) (hb : Below w.heap.size w w') : Own w' A e size v n xs := h.keep (Keeps.below hb)
end Go.Proofs.YtlflfcjbpnnfcaaGreatDoor
