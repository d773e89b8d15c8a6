/- Walks and plain laws, some texts in one. -/
import Derived.Deep.AppendLies
import Derived.Test.YtlflfcjbpnnfcaaGreatDoorM03
import Derived.Test.YtlflfcjbpnnfcaaGreatDoorM01
import Derived.Test.YtlflfcjbpnnfcaaGreatDoorM08
/- How the reference's patterns lie in memory. -/
namespace Go.Proofs.YtlflfcjbpnnfcaaGreatDoor
open Go.RowKit Brm

/-- A slice that leads to a row of cells in one of some blocks. -/
def Own (w : World) (A : Nat → Prop) (e : TypeId) (size : Nat) (v : Value) (n : Nat) (xs : List Value) : Prop := w.ownsRow 0 e size v n xs ∧ ∀ g, v.ownBlock = some g → A g
/-- A set of the reference's, in places. -/
def SetV (w : World) (A : Nat → Prop) (v : Value) (s : List (Int × Int)) : Prop := ∃ q, Brm.PCanon q ∧ Brm.told q = s ∧
  ((v = .slice none 0 0 ∧ q = []) ∨ ∃ b off cap, v = .slice (some ⟨b, off, none⟩) q.length cap ∧ q.length ≤ cap ∧ A b ∧ b < w.heap.size ∧ Rd w (some ⟨b, off, none⟩) q)
def int64 (n : Int) : Value := .int .i64 n
def nil : Value := .slice none 0 0
mutual
def NV (w : World) (A : Nat → Prop) : Pat → List Value → Nat → Prop
  | .set s, c, _ => ∃ sv, c = [.int .i64 1, sv, .slice none 0 0, .int .i64 0, .int .i64 0, .int .i64 0] ∧ SetV w A sv s
  | .row l, c, g => ∃ lv xs, c = [.int .i64 2, .slice none 0 0, lv, .int .i64 0, .int .i64 0, .int .i64 0] ∧ Own w A 32 6 lv l.length xs ∧ NL w A l xs g
  | .or l, c, g => ∃ lv xs, c = [.int .i64 3, .slice none 0 0, lv, .int .i64 0, .int .i64 0, .int .i64 0] ∧ Own w A 32 6 lv l.length xs ∧ NL w A l xs g
  | .and l, c, g => ∃ lv xs, c = [.int .i64 4, .slice none 0 0, lv, .int .i64 0, .int .i64 0, .int .i64 0] ∧ Own w A 32 6 lv l.length xs ∧ NL w A l xs g
  | .not p, c, g => ∃ lv xs, c = [.int .i64 5, .slice none 0 0, lv, .int .i64 0, .int .i64 0, .int .i64 0] ∧ Own w A 32 6 lv 1 xs ∧ NV w A p xs g
  | .many p m n, c, g => ∃ lv xs, c = [.int .i64 6, .slice none 0 0, lv, .int .i64 m, .int .i64 n, .int .i64 0] ∧ Own w A 32 6 lv 1 xs ∧ NV w A p xs g
  | .group p, c, g => ∃ lv xs, c = [.int .i64 7, .slice none 0 0, lv, .int .i64 0, .int .i64 0, .int .i64 g] ∧ Own w A 32 6 lv 1 xs ∧ NV w A p xs (g + 1)
def NL (w : World) (A : Nat → Prop) : List Pat → List Value → Nat → Prop
  | [], xs, _ => xs = []
  | p :: l, xs, g => ∃ c r, xs = c ++ r ∧ NV w A p c g ∧ NL w A l r (g + p.groups)
end

/-- Blocks that are as they were. -/
def Keeps (A : Nat → Prop) (w w' : World) : Prop := w.heap.size ≤ w'.heap.size ∧ ∀ k, k < w.heap.size → A k → w'.heap[k]? = w.heap[k]?
theorem Keeps.off {A : Nat → Prop} {b : Nat} {w w' : World} (h : Off b w w') (hb : ¬ A b) : Keeps A w w' := ⟨h.size, fun k hk ha => h.block k hk (fun e => hb (e ▸ ha))⟩
theorem Keeps.below {A : Nat → Prop} {w w' : World} (h : Below w.heap.size w w') : Keeps A w w' := ⟨h.size, fun k hk _ => h.block k hk⟩
theorem Keeps.grown {A : Nat → Prop} {w w' : World} {row : Option Nat} (h : w.grownBy w' row) (hr : ∀ k, row = some k → ¬ A k) : Keeps A w w' := ⟨h.size, fun k hk ha => h.block k hk (fun e => hr k e.symm ha)⟩
theorem Keeps.set {A : Nat → Prop} {w : World} {p : Addr} (u : Value) (h : ¬ A p.block) : Keeps A w (w.setCell p u) := ⟨by simp [World.setCell], fun k _ ha => Below.heap_setCell _ _ _ _ (fun e => h (e ▸ ha))⟩
theorem Keeps.trans {A : Nat → Prop} {a b c : World} (h : Keeps A a b) (k : Keeps A b c) : Keeps A a c := ⟨Nat.le_trans h.1 k.1, fun i hi ha => (k.2 i (Nat.lt_of_lt_of_le hi h.1) ha).trans (h.2 i hi ha)⟩
theorem Keeps.alloc (A : Nat → Prop) (w : World) (o : Obj) : Keeps A w (w.alloc o) := ⟨by simp, fun _ hk _ => Below.heap_alloc _ _ _ hk⟩
theorem own_block {w : World} {B : Nat} {e : TypeId} {size : Nat} {v : Value} {n : Nat} {xs : List Value} {w' : World} (h : w.ownsRow B e size v n xs) (hk : ∀ g, v.ownBlock = some g → w'.heap[g]? = w.heap[g]?) : w'.ownsRow B e size v n xs := by
  refine ⟨h.1, ?_⟩
  rcases h.2 with h2 | ⟨g, cap, cur, rfl, h3, h4, r⟩
  · exact .inl h2
  · exact .inr ⟨g, cap, cur, rfl, h3, (hk g rfl).trans h4, r⟩
theorem Own.keep {A : Nat → Prop} {w w' : World} {e : TypeId} {size : Nat} {v : Value} {n : Nat} {xs : List Value} (h : Own w A e size v n xs) (k : Keeps A w w') : Own w' A e size v n xs :=
  ⟨own_block h.1 (fun g hg => k.2 g (h.1.lt g hg).2 (h.2 g hg)), h.2⟩
theorem Own.mono {A A' : Nat → Prop} {w : World} {e : TypeId} {size : Nat} {v : Value} {n : Nat} {xs : List Value} (h : Own w A e size v n xs) (k : ∀ g, g < w.heap.size → A g → A' g) : Own w A' e size v n xs :=
  ⟨h.1, fun g hg => k g (h.1.lt g hg).2 (h.2 g hg)⟩
/-- A slice, of whatever. -/
def IsSl (v : Value) : Prop := ∃ so sn sc, v = .slice so sn sc
/-- The cells of a node. -/
def Six (k : Int) (so : Option Addr) (sn sc : Nat) (lo : Option Addr) (ln lc : Nat) (mm nn rr : Int) : List Value := [.int .i64 k, .slice so sn sc, .slice lo ln lc, .int .i64 mm, .int .i64 nn, .int .i64 rr]
end Go.Proofs.YtlflfcjbpnnfcaaGreatDoor
/- The reference's reader, rune by rune: walks. -/
namespace Go.Proofs.YtlflfcjbpnnfcaaGreatDoor
open Go.RowKit Brm

/-- A reader in memory: its runes, its place, where it has gone wrong, groups, how deep, how deep at most. -/
def Rdr (w : World) (b : Nat) (lv : Value) (i bad g d m : Int) : Prop := Blk w b [lv, .int .i64 i, .int .i64 bad, .int .i64 g, .int .i64 d, .int .i64 m] 127
/-- Runes in memory. -/
def Txt (w : World) (b : Nat) (lv : Value) (l : List Int) : Prop := Own w (fun k => k ≠ b) 3 1 lv l.length (l.map fun c => .int .i64 c)
/-- A reader that has gone well so far: what is left. -/
def St (w : World) (b : Nat) (lv : Value) (l s : List Int) (g d m : Int) : Prop :=
  Rdr w b lv ((l.length - s.length : Nat) : Int) (-1) g d m ∧ s <:+ l ∧ Txt w b lv l ∧ l.length ≤ 60 ∧ AllR l ∧ 0 ≤ g ∧ g ≤ ((l.length - s.length : Nat) : Int) ∧ 0 ≤ d ∧ d ≤ ((l.length - s.length : Nat) : Int) ∧ 0 ≤ m ∧ m ≤ ((l.length - s.length : Nat) : Int) ∧ d ≤ m
/-- One that has gone wrong: the runes from the first that may not stand. -/
def Bad (w : World) (b : Nat) (lv : Value) (l s : List Int) (d : Int) : Prop := ∃ i g m : Int, Rdr w b lv i ((l.length - s.length : Nat) : Int) g d m
def nextV (s : List Int) : Int := match s with | [] => -1 | c :: _ => c

/-- A world that has drawn. -/
def Drn (w w' : World) : Prop := ∃ n, w' = w.drewN n
end Go.Proofs.YtlflfcjbpnnfcaaGreatDoor
/- The reference's reader: letters, signs and counts: walks. -/
namespace Go.Proofs.YtlflfcjbpnnfcaaGreatDoor
open Go.RowKit Brm

def amongB (c : Int) (s : ByteArray) : Bool := s.data.toList.any fun x => (x.toNat : Int) == c
theorem amongB_inner (c : Int) : amongB c { data := #[91, 93, 92, 45, 94] } = inner c := by
  rw [Bool.eq_iff_iff]
  simp [amongB, inner]
  omega
theorem amongB_special (c : Int) : amongB c { data := #[124, 38, 126, 42, 43, 63, 123, 125, 46, 92, 91, 93, 40, 41] } = special c := by
  rw [Bool.eq_iff_iff]
  simp [amongB, special]
  omega

/-- How a call of a reader's ends, by what reading it is. -/
def Done {α : Type} (b : Nat) (lv : Value) (l : List Int) (g d m : Int) (r : Res α) (w' : World) (P : α → Prop) (Q : Prop) : Prop := match r with | .ok a s => St w' b lv l s g d m ∧ P a | .bad s => Bad w' b lv l s d ∧ Q

end Go.Proofs.YtlflfcjbpnnfcaaGreatDoor
/- Tables of the reference's in memory; blank ones, and those of empty parts: walks. -/
namespace Go.Proofs.YtlflfcjbpnnfcaaGreatDoor
open Go.RowKit Brm

/-- A row of a table. -/
def rowL (n : Nat) (g : Nat → Bool) : List Value := (List.range (n + 1)).map fun j => .bool (g j)
abbrev rowV (n b : Nat) : Value := .slice (some ⟨b, 0, none⟩) (n + 1) (n + 1)
/-- So many rows of a table, in blocks from B on. -/
def TbR (w : World) (B : Nat) (v : Value) (n k : Nat) (f : Nat → Nat → Bool) (r : List Nat) : Prop := r.length = k ∧ w.ownsRow B 87 1 v k (r.map (rowV n)) ∧ r.Nodup ∧ (∀ b ∈ r, B ≤ b ∧ v.ownBlock ≠ some b) ∧ ∀ i b, r[i]? = some b → Blk w b (rowL n (f i)) 4
def TbK (w : World) (B : Nat) (v : Value) (n k : Nat) (f : Nat → Nat → Bool) : Prop := ∃ r : List Nat, TbR w B v n k f r
/-- A table of the parts of a text of n runes. -/
def Tb (w : World) (B : Nat) (v : Value) (n : Nat) (f : Nat → Nat → Bool) : Prop := TbK w B v n (n + 1) f
def upd (f : Nat → Nat → Bool) (i j : Nat) (x : Bool) : Nat → Nat → Bool := fun a b => if a = i then (if b = j then x else f a b) else f a b
end Go.Proofs.YtlflfcjbpnnfcaaGreatDoor
/- Tables of the reference's: those of empty parts; what one or both match: walks. -/
namespace Go.Proofs.YtlflfcjbpnnfcaaGreatDoor
open Go.RowKit Brm

def emptyB (a b : Nat) : Bool := decide (a = b)
def bothB (fa fb : Nat → Nat → Bool) (o : Bool) (a b : Nat) : Bool := decide (a ≤ b) && ((fa a b && fb a b) || (o && (fa a b || fb a b)))
end Go.Proofs.YtlflfcjbpnnfcaaGreatDoor
/- Tables of the reference's: one thing behind another: a walk. -/
namespace Go.Proofs.YtlflfcjbpnnfcaaGreatDoor
open Go.RowKit Brm

/-- One and, behind it, another; of the ways to part it those ahead of a place. -/
def behK (fa fb : Nat → Nat → Bool) (i K j : Nat) : Bool := (List.range K).any fun k => decide (i ≤ k) && decide (k ≤ j) && fa i k && fb k j
def behB (fa fb : Nat → Nat → Bool) (n : Nat) (i j : Nat) : Bool := behK fa fb i (n + 1) j
/-- How far a table has come: rows ahead of i whole; row i by the ways ahead of K, and up to j by one way more. -/
def behT (fa fb : Nat → Nat → Bool) (n i K j : Nat) (a b : Nat) : Bool := if a < i then behB fa fb n a b else if a = i then (if b < j then behK fa fb i (K + 1) b else behK fa fb i K b) else false
end Go.Proofs.YtlflfcjbpnnfcaaGreatDoor
/- Tables of the reference's: so many times: a walk. -/
namespace Go.Proofs.YtlflfcjbpnnfcaaGreatDoor
open Go.RowKit Brm

def leastN (fa : Nat → Nat → Bool) (n : Nat) : Nat → Nat → Nat → Bool
  | 0 => emptyB
  | k + 1 => behB (leastN fa n k) fa n
def moreN (fa : Nat → Nat → Bool) (n : Nat) : Nat → Nat → Nat → Bool
  | 0 => emptyB
  | k + 1 => bothB emptyB (behB fa (moreN fa n k) n) true
end Go.Proofs.YtlflfcjbpnnfcaaGreatDoor
/- What the tables say, plainly. -/
namespace Go.Proofs.YtlflfcjbpnnfcaaGreatDoor
open Brm
open Classical

/-- Whether a pattern matches the part of a text from one place to another. -/
noncomputable def mT (p : Pat) (l : List Int) (i j : Nat) : Bool := decide (i ≤ j ∧ p.Mt (sub l i j))
noncomputable def restT (ps : List Pat) (l : List Int) (i j : Nat) : Bool := decide (i ≤ j ∧ MtRow ps (sub l i j))
noncomputable def orT (ps : List Pat) (l : List Int) (i j : Nat) : Bool := decide (i ≤ j ∧ MtOr ps (sub l i j))
noncomputable def andT (ps : List Pat) (l : List Int) (i j : Nat) : Bool := decide (i ≤ j ∧ MtAnd ps (sub l i j))
theorem mT_iff {p : Pat} {l : List Int} {i j : Nat} : mT p l i j = true ↔ i ≤ j ∧ p.Mt (sub l i j) := by unfold mT; exact decide_eq_true_iff
theorem rest_nil {l : List Int} {i j : Nat} (hj : j ≤ l.length) : emptyB i j = restT [] l i j := by
  rw [Bool.eq_iff_iff]
  unfold emptyB restT
  simp only [decide_eq_true_eq]
  constructor
  · rintro rfl; exact ⟨Nat.le_refl _, sub_self _ _⟩
  · rintro ⟨h1, h2⟩
    have hl := sub_len h1 hj
    rw [show sub l i j = [] from h2] at hl
    simp at hl; omega
theorem or_one {p : Pat} {l : List Int} {i j : Nat} : mT p l i j = orT [p] l i j := by
  unfold mT orT; simp only [mtOr_iff, List.mem_singleton, exists_eq_left]
theorem and_one {p : Pat} {l : List Int} {i j : Nat} : mT p l i j = andT [p] l i j := by
  unfold mT andT; simp only [mtAnd_iff, List.mem_singleton, forall_eq]
theorem mT_row {ps : List Pat} {l : List Int} {i j : Nat} : restT ps l i j = mT (.row ps) l i j := rfl
theorem mT_or {ps : List Pat} {l : List Int} {i j : Nat} : orT ps l i j = mT (.or ps) l i j := rfl
theorem mT_and {ps : List Pat} {l : List Int} {i j : Nat} : andT ps l i j = mT (.and ps) l i j := rfl
theorem mT_group {p : Pat} {l : List Int} {i j : Nat} : mT p l i j = mT (.group p) l i j := rfl
theorem mT_not {p : Pat} {l : List Int} {i j : Nat} : (decide (i ≤ j) && !mT p l i j) = mT (.not p) l i j := by
  rw [Bool.eq_iff_iff, mT_iff]
  simp only [Bool.and_eq_true, Bool.not_eq_true', decide_eq_true_eq, ← Bool.not_eq_true, mT_iff]
  constructor
  · rintro ⟨h1, h2⟩; exact ⟨h1, fun h => h2 ⟨h1, h⟩⟩
  · rintro ⟨h1, h2⟩; exact ⟨h1, fun h => h2 h.2⟩
/-- One rune of a set. -/
theorem mT_set {s : List (Int × Int)} {l : List Int} {i j : Nat} (hj : j ≤ l.length) : (match l[i]? with | some c => decide (j = i + 1) && memB s c | none => false) = mT (.set s) l i j := by
  rw [Bool.eq_iff_iff, mT_iff]
  constructor
  · intro h
    cases hc : l[i]? with
    | none => rw [hc] at h; cases h
    | some c =>
      rw [hc] at h
      simp only [Bool.and_eq_true, decide_eq_true_eq] at h
      obtain ⟨rfl, hm⟩ := h
      exact ⟨by omega, c, sub_one hc, hm⟩
  · rintro ⟨h1, c, h2, h3⟩
    have hl := sub_len h1 hj
    rw [h2] at hl
    simp at hl
    have hji : j = i + 1 := by omega
    subst hji
    have hlt : i < l.length := by omega
    have hc := List.getElem?_eq_getElem hlt
    have := sub_one hc
    rw [h2] at this
    simp only [List.cons.injEq, and_true] at this
    rw [hc]
    simp [← this, h3]
end Go.Proofs.YtlflfcjbpnnfcaaGreatDoor
/- The reference's classes: walks. -/
namespace Go.Proofs.YtlflfcjbpnnfcaaGreatDoor
open Go.RowKit Brm

theorem rd_lit (w : World) (l : List (Int × Int)) : Rd (w.alloc (.cells (cellsR l).toArray 149)) (some ⟨w.heap.size, 0, none⟩) l := by
  intro i x hx
  have hg := cellsR_get hx
  refine ⟨_, _, rfl, by simp, ?_, ?_⟩
  · rw [(Blk.new w (cellsR l) 149).cell]; simpa using hg.1
  · rw [(Blk.new w (cellsR l) 149).cell]; simpa using hg.2
end Go.Proofs.YtlflfcjbpnnfcaaGreatDoor
/- The reference's signs and classes behind a backslash, and a rune behind -: walks. -/
namespace Go.Proofs.YtlflfcjbpnnfcaaGreatDoor
open Go.RowKit Brm

def EscV (w' : World) (A : Nat → Prop) (v : Value) (f : Bool) (r : Int ⊕ List (Int × Int)) : Prop := match r with | .inl a => f = true ∧ SetV w' A v [(a, a)] ∧ runeB a = true | .inr L => f = false ∧ SetV w' A v L
end Go.Proofs.YtlflfcjbpnnfcaaGreatDoor
/- The reference's items of brackets: a walk. -/
namespace Go.Proofs.YtlflfcjbpnnfcaaGreatDoor
open Go.RowKit Brm

/-- What an item is handed back as. -/
def ItemV (w' : World) (A : Nat → Prop) (v : Value) : Prop := ∃ s0, SetV w' A v s0 ∧ s0.length ≤ 1

end Go.Proofs.YtlflfcjbpnnfcaaGreatDoor
