/- Walks and plain laws, some texts in one. -/
import Derived.Deep.AppendLies
import Derived.Test.YtpoibdhhcbelnaaGreatDoorM03
import Derived.Test.YtpoibdhhcbelnaaGreatDoorM01
import Derived.Test.YtpoibdhhcbelnaaGreatDoorM09
/- How the reference's patterns lie in memory. -/
namespace Go.Proofs.YtpoibdhhcbelnaaGreatDoor
open Go.RowKit Brm

/-- A slice that leads to a row of cells in one of some blocks. -/
def Own (w : World) (A : Nat → Prop) (e : TypeId) (size : Nat) (v : Value) (n : Nat) (xs : List Value) : Prop := w.ownsRow 0 e size v n xs ∧ ∀ g, v.ownBlock = some g → A g
/-- A set of the reference's, in places. -/
def SetV (w : World) (A : Nat → Prop) (v : Value) (s : List (Int × Int)) : Prop := ∃ q, Brm.PCanon q ∧ Brm.told q = s ∧
  ((v = .slice none 0 0 ∧ q = []) ∨ ∃ b off cap, v = .slice (some ⟨b, off, none⟩) q.length cap ∧ q.length ≤ cap ∧ A b ∧ b < w.heap.size ∧ Rd w (some ⟨b, off, none⟩) q)
def int64 (n : Int) : Value := .int .i64 n
def nil : Value := .slice none 0 0
mutual
def NV (w : World) (A : Nat → Prop) : Pat → List Value → Nat → Prop
  | .set s, c, _ => ∃ sv, c = [.int .i64 1, sv, .slice none 0 0, .int .i64 0, .int .i64 0, .int .i64 0] ∧ SetV w A sv s
  | .row l, c, g => ∃ lv xs, c = [.int .i64 2, .slice none 0 0, lv, .int .i64 0, .int .i64 0, .int .i64 0] ∧ Own w A 32 6 lv l.length xs ∧ NL w A l xs g
  | .or l, c, g => ∃ lv xs, c = [.int .i64 3, .slice none 0 0, lv, .int .i64 0, .int .i64 0, .int .i64 0] ∧ Own w A 32 6 lv l.length xs ∧ NL w A l xs g
  | .and l, c, g => ∃ lv xs, c = [.int .i64 4, .slice none 0 0, lv, .int .i64 0, .int .i64 0, .int .i64 0] ∧ Own w A 32 6 lv l.length xs ∧ NL w A l xs g
  | .not p, c, g => ∃ lv xs, c = [.int .i64 5, .slice none 0 0, lv, .int .i64 0, .int .i64 0, .int .i64 0] ∧ Own w A 32 6 lv 1 xs ∧ NV w A p xs g
  | .many p m n, c, g => ∃ lv xs, c = [.int .i64 6, .slice none 0 0, lv, .int .i64 m, .int .i64 n, .int .i64 0] ∧ Own w A 32 6 lv 1 xs ∧ NV w A p xs g
  | .group p, c, g => ∃ lv xs, c = [.int .i64 7, .slice none 0 0, lv, .int .i64 0, .int .i64 0, .int .i64 g] ∧ Own w A 32 6 lv 1 xs ∧ NV w A p xs (g + 1)
def NL (w : World) (A : Nat → Prop) : List Pat → List Value → Nat → Prop
  | [], xs, _ => xs = []
  | p :: l, xs, g => ∃ c r, xs = c ++ r ∧ NV w A p c g ∧ NL w A l r (g + p.groups)
end

/-- Blocks that are as they were. -/
def Keeps (A : Nat → Prop) (w w' : World) : Prop := w.heap.size ≤ w'.heap.size ∧ ∀ k, k < w.heap.size → A k → w'.heap[k]? = w.heap[k]?
theorem Keeps.off {A : Nat → Prop} {b : Nat} {w w' : World} (h : Off b w w') (hb : ¬ A b) : Keeps A w w' := ⟨h.size, fun k hk ha => h.block k hk (fun e => hb (e ▸ ha))⟩
theorem Keeps.below {A : Nat → Prop} {w w' : World} (h : Below w.heap.size w w') : Keeps A w w' := ⟨h.size, fun k hk _ => h.block k hk⟩
theorem Keeps.grown {A : Nat → Prop} {w w' : World} {row : Option Nat} (h : w.grownBy w' row) (hr : ∀ k, row = some k → ¬ A k) : Keeps A w w' := ⟨h.size, fun k hk ha => h.block k hk (fun e => hr k e.symm ha)⟩
theorem Keeps.set {A : Nat → Prop} {w : World} {p : Addr} (u : Value) (h : ¬ A p.block) : Keeps A w (w.setCell p u) := ⟨by simp [World.setCell], fun k _ ha => Below.heap_setCell _ _ _ _ (fun e => h (e ▸ ha))⟩
theorem Keeps.trans {A : Nat → Prop} {a b c : World} (h : Keeps A a b) (k : Keeps A b c) : Keeps A a c := ⟨Nat.le_trans h.1 k.1, fun i hi ha => (k.2 i (Nat.lt_of_lt_of_le hi h.1) ha).trans (h.2 i hi ha)⟩
theorem Keeps.refl (A : Nat → Prop) (w : World) : Keeps A w w := ⟨Nat.le_refl _, fun _ _ _ => rfl⟩
theorem Keeps.alloc (A : Nat → Prop) (w : World) (o : Obj) : Keeps A w (w.alloc o) := ⟨by simp, fun _ hk _ => Below.heap_alloc _ _ _ hk⟩
theorem Keeps.drew {A : Nat → Prop} {a w : World} (h : Keeps A a w) : Keeps A a w.drew := h
theorem Keeps.drewN {A : Nat → Prop} {a w : World} (h : Keeps A a w) (n : Nat) : Keeps A a (w.drewN n) := h
theorem own_block {w : World} {B : Nat} {e : TypeId} {size : Nat} {v : Value} {n : Nat} {xs : List Value} {w' : World} (h : w.ownsRow B e size v n xs) (hk : ∀ g, v.ownBlock = some g → w'.heap[g]? = w.heap[g]?) : w'.ownsRow B e size v n xs := by
  refine ⟨h.1, ?_⟩
  rcases h.2 with h2 | ⟨g, cap, cur, rfl, h3, h4, r⟩
  · exact .inl h2
  · exact .inr ⟨g, cap, cur, rfl, h3, (hk g rfl).trans h4, r⟩
theorem Own.keep {A : Nat → Prop} {w w' : World} {e : TypeId} {size : Nat} {v : Value} {n : Nat} {xs : List Value} (h : Own w A e size v n xs) (k : Keeps A w w') : Own w' A e size v n xs :=
  ⟨own_block h.1 (fun g hg => k.2 g (h.1.lt g hg).2 (h.2 g hg)), h.2⟩
theorem Own.mono {A A' : Nat → Prop} {w : World} {e : TypeId} {size : Nat} {v : Value} {n : Nat} {xs : List Value} (h : Own w A e size v n xs) (k : ∀ g, g < w.heap.size → A g → A' g) : Own w A' e size v n xs :=
  ⟨h.1, fun g hg => k g (h.1.lt g hg).2 (h.2 g hg)⟩
theorem SetV.keep {A : Nat → Prop} {w w' : World} {v : Value} {s : List (Int × Int)} (h : SetV w A v s) (k : Keeps A w w') : SetV w' A v s := by
  obtain ⟨q, h1, h2, h3⟩ := h
  refine ⟨q, h1, h2, ?_⟩
  rcases h3 with h3 | ⟨b, off, cap, e, hc, ha, hb, hr⟩
  · exact .inl h3
  · refine .inr ⟨b, off, cap, e, hc, ha, Nat.lt_of_lt_of_le hb k.1, ?_⟩
    intro i x hx
    obtain ⟨b', off', e', hb', c1, c2⟩ := hr i x hx
    cases e'
    have hk := k.2 b hb ha
    exact ⟨b, off, rfl, Nat.lt_of_lt_of_le hb k.1, by rw [World.cell?_of_block (w := w) hk]; exact c1, by rw [World.cell?_of_block (w := w) hk]; exact c2⟩
theorem SetV.mono {A A' : Nat → Prop} {w : World} {v : Value} {s : List (Int × Int)} (h : SetV w A v s) (k : ∀ g, g < w.heap.size → A g → A' g) : SetV w A' v s := by
  obtain ⟨q, h1, h2, h3⟩ := h
  refine ⟨q, h1, h2, ?_⟩
  rcases h3 with h3 | ⟨b, off, cap, e, hc, ha, hb, hr⟩
  · exact .inl h3
  · exact .inr ⟨b, off, cap, e, hc, k b hb ha, hb, hr⟩
mutual
theorem NV.keep {A : Nat → Prop} {w w' : World} (k : Keeps A w w') : ∀ (p : Pat) (c : List Value) (g : Nat), NV w A p c g → NV w' A p c g
  | .set s, c, g, h => by obtain ⟨sv, e, hs⟩ := h; exact ⟨sv, e, hs.keep k⟩
  | .row l, c, g, h => by obtain ⟨lv, xs, e, ho, hl⟩ := h; exact ⟨lv, xs, e, ho.keep k, NL.keep k l xs g hl⟩
  | .or l, c, g, h => by obtain ⟨lv, xs, e, ho, hl⟩ := h; exact ⟨lv, xs, e, ho.keep k, NL.keep k l xs g hl⟩
  | .and l, c, g, h => by obtain ⟨lv, xs, e, ho, hl⟩ := h; exact ⟨lv, xs, e, ho.keep k, NL.keep k l xs g hl⟩
  | .not p, c, g, h => by obtain ⟨lv, xs, e, ho, hl⟩ := h; exact ⟨lv, xs, e, ho.keep k, NV.keep k p xs g hl⟩
  | .many p m n, c, g, h => by obtain ⟨lv, xs, e, ho, hl⟩ := h; exact ⟨lv, xs, e, ho.keep k, NV.keep k p xs g hl⟩
  | .group p, c, g, h => by obtain ⟨lv, xs, e, ho, hl⟩ := h; exact ⟨lv, xs, e, ho.keep k, NV.keep k p xs (g + 1) hl⟩
theorem NL.keep {A : Nat → Prop} {w w' : World} (k : Keeps A w w') : ∀ (l : List Pat) (xs : List Value) (g : Nat), NL w A l xs g → NL w' A l xs g
  | [], xs, g, h => h
  | p :: l, xs, g, h => by obtain ⟨c, r, e, hp, hl⟩ := h; exact ⟨c, r, e, NV.keep k p c g hp, NL.keep k l r _ hl⟩
end
mutual
theorem NV.mono {A A' : Nat → Prop} {w : World} (k : ∀ g, g < w.heap.size → A g → A' g) : ∀ (p : Pat) (c : List Value) (g : Nat), NV w A p c g → NV w A' p c g
  | .set s, c, g, h => by obtain ⟨sv, e, hs⟩ := h; exact ⟨sv, e, hs.mono k⟩
  | .row l, c, g, h => by obtain ⟨lv, xs, e, ho, hl⟩ := h; exact ⟨lv, xs, e, ho.mono k, NL.mono k l xs g hl⟩
  | .or l, c, g, h => by obtain ⟨lv, xs, e, ho, hl⟩ := h; exact ⟨lv, xs, e, ho.mono k, NL.mono k l xs g hl⟩
  | .and l, c, g, h => by obtain ⟨lv, xs, e, ho, hl⟩ := h; exact ⟨lv, xs, e, ho.mono k, NL.mono k l xs g hl⟩
  | .not p, c, g, h => by obtain ⟨lv, xs, e, ho, hl⟩ := h; exact ⟨lv, xs, e, ho.mono k, NV.mono k p xs g hl⟩
  | .many p m n, c, g, h => by obtain ⟨lv, xs, e, ho, hl⟩ := h; exact ⟨lv, xs, e, ho.mono k, NV.mono k p xs g hl⟩
  | .group p, c, g, h => by obtain ⟨lv, xs, e, ho, hl⟩ := h; exact ⟨lv, xs, e, ho.mono k, NV.mono k p xs (g + 1) hl⟩
theorem NL.mono {A A' : Nat → Prop} {w : World} (k : ∀ g, g < w.heap.size → A g → A' g) : ∀ (l : List Pat) (xs : List Value) (g : Nat), NL w A l xs g → NL w A' l xs g
  | [], xs, g, h => h
  | p :: l, xs, g, h => by obtain ⟨c, r, e, hp, hl⟩ := h; exact ⟨c, r, e, NV.mono k p c g hp, NL.mono k l r _ hl⟩
end
/-- A slice, of whatever. -/
def IsSl (v : Value) : Prop := ∃ so sn sc, v = .slice so sn sc
theorem own_isl {w : World} {A : Nat → Prop} {e : TypeId} {size : Nat} {v : Value} {n : Nat} {xs : List Value} (h : Own w A e size v n xs) : IsSl v := by
  rcases h.1.2 with ⟨rfl, _⟩ | ⟨g, cap, cur, rfl, _⟩ <;> exact ⟨_, _, _, rfl⟩
theorem set_isl {w : World} {A : Nat → Prop} {v : Value} {s : List (Int × Int)} (h : SetV w A v s) : IsSl v := by
  obtain ⟨q, _, _, ⟨rfl, _⟩ | ⟨b, off, cap, rfl, _⟩⟩ := h <;> exact ⟨_, _, _, rfl⟩
/-- The cells of a node. -/
def Six (k : Int) (so : Option Addr) (sn sc : Nat) (lo : Option Addr) (ln lc : Nat) (mm nn rr : Int) : List Value := [.int .i64 k, .slice so sn sc, .slice lo ln lc, .int .i64 mm, .int .i64 nn, .int .i64 rr]
theorem NV.len {w : World} {A : Nat → Prop} {p : Pat} {c : List Value} {g : Nat} (h : NV w A p c g) : ∃ k so sn sc lo ln lc m n r, c = Six k so sn sc lo ln lc m n r := by
  cases p with
  | set s => obtain ⟨sv, rfl, hs⟩ := h; obtain ⟨so, sn, sc, rfl⟩ := set_isl hs; exact ⟨_, _, _, _, _, _, _, _, _, _, rfl⟩
  | row l => obtain ⟨lv, xs, rfl, ho, hl⟩ := h; obtain ⟨so, sn, sc, rfl⟩ := own_isl ho; exact ⟨_, _, _, _, _, _, _, _, _, _, rfl⟩
  | or l => obtain ⟨lv, xs, rfl, ho, hl⟩ := h; obtain ⟨so, sn, sc, rfl⟩ := own_isl ho; exact ⟨_, _, _, _, _, _, _, _, _, _, rfl⟩
  | and l => obtain ⟨lv, xs, rfl, ho, hl⟩ := h; obtain ⟨so, sn, sc, rfl⟩ := own_isl ho; exact ⟨_, _, _, _, _, _, _, _, _, _, rfl⟩
  | not p => obtain ⟨lv, xs, rfl, ho, hl⟩ := h; obtain ⟨so, sn, sc, rfl⟩ := own_isl ho; exact ⟨_, _, _, _, _, _, _, _, _, _, rfl⟩
  | many p m n => obtain ⟨lv, xs, rfl, ho, hl⟩ := h; obtain ⟨so, sn, sc, rfl⟩ := own_isl ho; exact ⟨_, _, _, _, _, _, _, _, _, _, rfl⟩
  | group p => obtain ⟨lv, xs, rfl, ho, hl⟩ := h; obtain ⟨so, sn, sc, rfl⟩ := own_isl ho; exact ⟨_, _, _, _, _, _, _, _, _, _, rfl⟩
theorem NV.six {w : World} {A : Nat → Prop} {p : Pat} {c : List Value} {g : Nat} (h : NV w A p c g) : c.length = 6 := by
  obtain ⟨k, so, sn, sc, lo, ln, lc, m, n, r, rfl⟩ := h.len; rfl
theorem NL.snoc {w : World} {A : Nat → Prop} : ∀ (l : List Pat) (xs : List Value) (g : Nat) (p : Pat) (c : List Value), NL w A l xs g → NV w A p c (g + Brm.groupsL l) → NL w A (l ++ [p]) (xs ++ c) g
  | [], xs, g, p, c, h, hp => by
    have : xs = [] := h
    subst this
    exact ⟨c, [], by simp, by simpa [Brm.groupsL] using hp, rfl⟩
  | q :: l, xs, g, p, c, h, hp => by
    obtain ⟨d, r, rfl, hq, hl⟩ := h
    exact ⟨d, r ++ c, by simp, hq, NL.snoc l r _ p c hl (by simp only [Brm.groupsL] at hp; rw [Nat.add_assoc]; exact hp)⟩
theorem NL.at {w : World} {A : Nat → Prop} : ∀ (l : List Pat) (xs : List Value) (g : Nat), NL w A l xs g → ∀ (i : Nat) (p : Pat), l[i]? = some p → ∃ c g', NV w A p c g' ∧ c = (xs.drop (i * 6)).take 6
  | [], _, _, _, i, p, hi => by simp at hi
  | q :: l, xs, g, h, 0, p, hi => by
    obtain ⟨d, r, rfl, hq, hl⟩ := h
    simp at hi; subst hi
    exact ⟨d, g, hq, by have := hq.six; simp [← this]⟩
  | q :: l, xs, g, h, i + 1, p, hi => by
    obtain ⟨d, r, rfl, hq, hl⟩ := h
    obtain ⟨c, g', hc, e⟩ := NL.at l r _ hl i p (by simpa using hi)
    refine ⟨c, g', hc, ?_⟩
    rw [e]
    have := hq.six
    rw [show (i + 1) * 6 = d.length + i * 6 from by omega, ← List.drop_drop]
    simp
theorem NL.len {w : World} {A : Nat → Prop} : ∀ (l : List Pat) (xs : List Value) (g : Nat), NL w A l xs g → xs.length = l.length * 6
  | [], _, _, h => by rw [show _ = [] from h]; rfl
  | q :: l, xs, g, h => by
    obtain ⟨d, r, rfl, hq, hl⟩ := h
    have := NL.len l r _ hl
    have := hq.six
    simp only [List.length_append, List.length_cons]; omega
end Go.Proofs.YtpoibdhhcbelnaaGreatDoor
/- The reference's reader, rune by rune: walks. -/
namespace Go.Proofs.YtpoibdhhcbelnaaGreatDoor
open Go.RowKit Brm

/-- A reader in memory: its runes, its place, where it has gone wrong, groups, how deep, how deep at most. -/
def Rdr (w : World) (b : Nat) (lv : Value) (i bad g d m : Int) : Prop := Blk w b [lv, .int .i64 i, .int .i64 bad, .int .i64 g, .int .i64 d, .int .i64 m] 127
/-- Runes in memory. -/
def Txt (w : World) (b : Nat) (lv : Value) (l : List Int) : Prop := Own w (fun k => k ≠ b) 3 1 lv l.length (l.map fun c => .int .i64 c)
/-- A reader that has gone well so far: what is left. -/
def St (w : World) (b : Nat) (lv : Value) (l s : List Int) (g d m : Int) : Prop :=
  Rdr w b lv ((l.length - s.length : Nat) : Int) (-1) g d m ∧ s <:+ l ∧ Txt w b lv l ∧ l.length ≤ 60 ∧ AllR l ∧ 0 ≤ g ∧ g ≤ ((l.length - s.length : Nat) : Int) ∧ 0 ≤ d ∧ d ≤ ((l.length - s.length : Nat) : Int) ∧ 0 ≤ m ∧ m ≤ ((l.length - s.length : Nat) : Int) ∧ d ≤ m
/-- One that has gone wrong: the runes from the first that may not stand. -/
def Bad (w : World) (b : Nat) (lv : Value) (l s : List Int) (d : Int) : Prop := ∃ i g m : Int, Rdr w b lv i ((l.length - s.length : Nat) : Int) g d m
def nextV (s : List Int) : Int := match s with | [] => -1 | c :: _ => c

theorem txt_form {w : World} {b : Nat} {lv : Value} {l : List Int} (h : Txt w b lv l) : ∃ ao cap, lv = .slice ao l.length cap ∧ ∀ i c, l[i]? = some c → ∃ bl, ao = some ⟨bl, 0, none⟩ ∧ bl < w.heap.size ∧ bl ≠ b ∧ w.cell? ⟨bl, i, none⟩ = some (.int .i64 c) := by
  obtain ⟨h1, h2⟩ := h
  rcases h1.2 with ⟨rfl, h0⟩ | ⟨g, cap, cur, rfl, hg, hh, hn, hm, hs, ht⟩
  · exact ⟨none, 0, by rw [h0], fun i c hi => by rw [List.length_eq_zero_iff.1 h0] at hi; simp at hi⟩
  · refine ⟨_, cap, rfl, fun i c hi => ⟨g, rfl, (h1.lt g rfl).2, h2 g rfl, ?_⟩⟩
    have := h1.cells rfl i (.int .i64 c) (by rw [List.getElem?_map, hi]; rfl)
    rw [Addr.add_lit] at this; simpa using this
/-- A world that has drawn. -/
def Drn (w w' : World) : Prop := ∃ n, w' = w.drewN n
theorem drn_one (w : World) (n : Nat) : Drn w (w.drewN n) := ⟨n, rfl⟩
theorem drn_refl (w : World) : Drn w w := ⟨0, rfl⟩
theorem drn_trans {a b c : World} (h : Drn a b) (k : Drn b c) : Drn a c := by
  obtain ⟨n, rfl⟩ := h; obtain ⟨m, rfl⟩ := k; exact ⟨n + m, by simp [World.drewN, Nat.add_assoc]⟩
theorem suf_at {s l : List Int} (h : s <:+ l) {c : Int} {t : List Int} (hs : s = c :: t) : l[l.length - s.length]? = some c := by
  obtain ⟨p, rfl⟩ := h
  subst hs
  rw [List.length_append, Nat.add_sub_cancel, List.getElem?_append_right (Nat.le_refl _), Nat.sub_self]; rfl
theorem St.cells {w : World} {b : Nat} {lv : Value} {l s : List Int} {g d m : Int} (h : St w b lv l s g d m) :
    w.cell? ⟨b, 0, none⟩ = some lv ∧ w.cell? ⟨b, 1, none⟩ = some (.int .i64 ((l.length - s.length : Nat) : Int)) ∧ w.cell? ⟨b, 2, none⟩ = some (.int .i64 (-1)) ∧ w.cell? ⟨b, 3, none⟩ = some (.int .i64 g) ∧ w.cell? ⟨b, 4, none⟩ = some (.int .i64 d) ∧ w.cell? ⟨b, 5, none⟩ = some (.int .i64 m) ∧ b < w.heap.size :=
  ⟨h.1.cell 0, h.1.cell 1, h.1.cell 2, h.1.cell 3, h.1.cell 4, h.1.cell 5, h.1.lt⟩

set_option maxRecDepth 100000 in
set_option maxHeartbeats 400000 in
theorem next_any (b : Nat) (lv : Value) (l s : List Int) (g d m : Int) (w : World) (h : St w b lv l s g d m) :
    Calls Tryz.prog 168 #[.pointer (some ⟨b, 0, none⟩)] w fun e w' => e = .returned (.int .i64 (nextV s)) ∧ Drn w w' := by
  have HS := hide h
  obtain ⟨c0, c1, c2, _, _, _, hb⟩ := h.cells
  obtain ⟨ao, cap, rfl, hcells⟩ := txt_form h.2.2.1
  have hl := h.2.2.2.1
  have hsl := h.2.1.length_le
  clear h
  cases s with
  | nil =>
    simp only [List.length_nil, Nat.sub_zero] at c1
    have h1 : decide ((l.length : Int) ≤ (l.length : Int)) = true := by simp
    go_enter Tryz.func168, Tryz.ntmps168
    go_wp2_with fail
    go_quiet (fail)
    go_wp2
    go_ret
    exact ⟨rfl, drn_one _ _⟩
  | cons c t =>
    have hat := suf_at HS.out.2.1 rfl
    obtain ⟨bl, rfl, hbl, hbb, hc⟩ := hcells _ c hat
    generalize hk : l.length - (c :: t).length = k at c1 hc hat
    have hkl : k < l.length := (List.getElem?_eq_some_iff.1 hat).1
    clear hat hcells
    have i1 : (0 : Int) ≤ (k : Int) := Int.natCast_nonneg _
    have i2 : (k : Int) < (l.length : Int) := by omega
    have h2 : decide ((l.length : Int) ≤ (k : Int)) = false := by simp; omega
    go_enter Tryz.func168, Tryz.ntmps168
    go_wp2_with fail
    go_quiet (fail)
    go_wp2_with fail
    go_quiet (fail)
    go_wp2
    go_ret
    exact ⟨rfl, drn_trans (drn_one _ _) (drn_one _ _)⟩
theorem Off.drn {b : Nat} {w w' : World} (h : Drn w w') : Off b w w' := by obtain ⟨n, rfl⟩ := h; exact (Off.refl _ _).drewN n
theorem Drn.below {w w' : World} (h : Drn w w') : Below w.heap.size w w' := by obtain ⟨n, rfl⟩ := h; exact below_drawn (Below.refl _ _)
theorem St.drn {w w' : World} {b : Nat} {lv : Value} {l s : List Int} {g d m : Int} (h : St w b lv l s g d m) (k : Drn w w') : St w' b lv l s g d m := by obtain ⟨n, rfl⟩ := k; exact h
theorem Txt.off {w w' : World} {b : Nat} {lv : Value} {l : List Int} (h : Txt w b lv l) (k : Off b w w') : Txt w' b lv l := Own.keep h (Keeps.off k (fun e => e rfl))
theorem nextV_ge {w : World} {b : Nat} {lv : Value} {l s : List Int} {g d m : Int} (h : St w b lv l s g d m) : -1 ≤ nextV s ∧ nextV s ≤ 1114111 := by
  have ha := h.2.2.2.2.1.suf h.2.1
  cases s with
  | nil => exact ⟨by simp [nextV], by simp [nextV]⟩
  | cons c t => have := (rune_iff c).1 (ha c (by simp)); simp only [nextV]; omega
/-- One rune further. -/
theorem St.step {w : World} {b : Nat} {lv : Value} {l t : List Int} {c g d m : Int} (h : St w b lv l (c :: t) g d m) : St (w.setCell ⟨b, 1, none⟩ (.int .i64 (((l.length - (c :: t).length : Nat) : Int) + 1))) b lv l t g d m ∧ Off b w (w.setCell ⟨b, 1, none⟩ (.int .i64 (((l.length - (c :: t).length : Nat) : Int) + 1))) := by
  have ho : Off b w (w.setCell ⟨b, 1, none⟩ (.int .i64 (((l.length - (c :: t).length : Nat) : Int) + 1))) := (Off.refl _ _).setCell 1 _
  have hbd := h.2.2.2.2.2
  refine ⟨⟨?_, (List.suffix_cons c t).trans h.2.1, h.2.2.1.off ho, h.2.2.2.1, h.2.2.2.2.1, by simp only [List.length_cons] at hbd; omega⟩, ho⟩
  have h1 := h.1.set 1 (.int .i64 (((l.length - (c :: t).length : Nat) : Int) + 1))
  have hl := h.2.1.length_le
  have e : (((l.length - (c :: t).length : Nat) : Int) + 1) = ((l.length - t.length : Nat) : Int) := by simp only [List.length_cons] at hl ⊢; omega
  rw [e] at h1 ⊢
  exact h1
theorem St.fail {w : World} {b : Nat} {lv : Value} {l s : List Int} {g d m : Int} (h : St w b lv l s g d m) : Bad (w.setCell ⟨b, 2, none⟩ (.int .i64 ((l.length - s.length : Nat) : Int))) b lv l s d ∧ Off b w (w.setCell ⟨b, 2, none⟩ (.int .i64 ((l.length - s.length : Nat) : Int))) :=
  ⟨⟨_, _, _, h.1.set 2 _⟩, (Off.refl _ _).setCell 2 _⟩
theorem Bad.off {w w' : World} {b : Nat} {lv : Value} {l s : List Int} {d : Int} (h : Bad w b lv l s d) (k : Drn w w') : Bad w' b lv l s d := by obtain ⟨n, rfl⟩ := k; exact h
theorem Bad.cells {w : World} {b : Nat} {lv : Value} {l s : List Int} {d : Int} (h : Bad w b lv l s d) :
    ∃ i g m : Int, w.cell? ⟨b, 0, none⟩ = some lv ∧ w.cell? ⟨b, 1, none⟩ = some (.int .i64 i) ∧ w.cell? ⟨b, 2, none⟩ = some (.int .i64 ((l.length - s.length : Nat) : Int)) ∧ w.cell? ⟨b, 3, none⟩ = some (.int .i64 g) ∧ w.cell? ⟨b, 4, none⟩ = some (.int .i64 d) ∧ w.cell? ⟨b, 5, none⟩ = some (.int .i64 m) ∧ b < w.heap.size := by
  obtain ⟨i, g, m, h⟩ := h
  exact ⟨i, g, m, h.cell 0, h.cell 1, h.cell 2, h.cell 3, h.cell 4, h.cell 5, h.lt⟩

set_option maxRecDepth 100000 in
set_option maxHeartbeats 400000 in
theorem next_bad (b : Nat) (lv : Value) (l s : List Int) (w : World) {d : Int} (h : Bad w b lv l s d) :
    Calls Tryz.prog 168 #[.pointer (some ⟨b, 0, none⟩)] w fun e w' => e = .returned (.int .i64 (-1)) ∧ Drn w w' := by
  obtain ⟨i, g, m, c0, c1, c2, _, _, _, hb⟩ := h.cells
  generalize hk : l.length - s.length = k at c2
  have h1 : decide ((0 : Int) ≤ (k : Int)) = true := by simp
  clear h hk
  go_enter Tryz.func168, Tryz.ntmps168
  go_wp2_with fail
  go_quiet (fail)
  go_wp2
  go_ret
  exact ⟨rfl, drn_one _ _⟩
set_option maxRecDepth 100000 in
set_option maxHeartbeats 400000 in
theorem fail_any (b : Nat) (lv : Value) (l s : List Int) (g d m : Int) (w : World) (h : St w b lv l s g d m) :
    Calls Tryz.prog 65 #[.pointer (some ⟨b, 0, none⟩)] w fun e w' => e = .returned (.tuple #[]) ∧ Bad w' b lv l s d ∧ Off b w w' := by
  have HS := hide h.fail
  obtain ⟨c0, c1, c2, _, _, _, hb⟩ := h.cells
  have hf := h.1.frozen 2
  clear h
  generalize hk : l.length - s.length = k at c1 HS
  clear hk
  go_enter Tryz.func65, Tryz.ntmps65
  go_wp2
  go_end0
  exact ⟨rfl, HS.out.1, HS.out.2⟩
set_option maxRecDepth 100000 in
set_option maxHeartbeats 400000 in
theorem fail_bad (b : Nat) (lv : Value) (l s : List Int) (w : World) {d : Int} (h : Bad w b lv l s d) :
    Calls Tryz.prog 65 #[.pointer (some ⟨b, 0, none⟩)] w fun e w' => e = .returned (.tuple #[]) ∧ w' = w := by
  obtain ⟨i, g, m, c0, c1, c2, _, _, _, hb⟩ := h.cells
  generalize hk : l.length - s.length = k at c2
  have h1 : decide ((k : Int) < 0) = false := by simp
  clear h hk
  go_enter Tryz.func65, Tryz.ntmps65
  go_wp2
  go_end0
  exact ⟨rfl, rfl⟩
theorem head_ne {s : List Int} {c : Int} (h : s.head? ≠ some c) (hc : 0 ≤ c) : nextV s ≠ c := by
  cases s with
  | nil => simp only [nextV]; omega
  | cons d t => simpa [nextV] using h
set_option maxRecDepth 100000 in
set_option maxHeartbeats 400000 in
theorem takes_yes (b : Nat) (lv : Value) (l t : List Int) (c g d m : Int) (w : World) (h : St w b lv l (c :: t) g d m) (h0 : 0 ≤ c) (h1 : c ≤ 255) :
    Calls Tryz.prog 117 #[.pointer (some ⟨b, 0, none⟩), .int .u8 c] w fun e w' => e = .returned (.bool true) ∧ St w' b lv l t g d m ∧ Off b w w' := by
  have HS := hide h
  go_enter Tryz.func117, Tryz.ntmps117
  go_wp2_with (go_at_call 168; refine (next_any _ _ _ _ _ _ _ _ HS.out).mono ?_; rintro e w1 ⟨rfl, hw1⟩; have HS1 := hide (HS.out.drn hw1).step; have HO := hide (Off.drn (b := b) hw1); obtain ⟨c0, c1, c2, _, _, _, hb⟩ := (HS.out.drn hw1).cells; have hf := (HS.out.drn hw1).1.frozen 1; have hlen := (HS.out.drn hw1).2.2.2.1; simp only [nextV])
  go_ret
  exact ⟨rfl, HS1.out.1, HO.out.trans HS1.out.2⟩
set_option maxRecDepth 100000 in
set_option maxHeartbeats 400000 in
theorem takes_no (b : Nat) (lv : Value) (l s : List Int) (c g d m : Int) (w : World) (h : St w b lv l s g d m) (h0 : 0 ≤ c) (h1 : c ≤ 255) (hn : s.head? ≠ some c) :
    Calls Tryz.prog 117 #[.pointer (some ⟨b, 0, none⟩), .int .u8 c] w fun e w' => e = .returned (.bool false) ∧ Drn w w' := by
  have HS := hide h
  have hne := head_ne hn h0
  generalize hx : nextV s = x at hne
  have HX := hide hx
  have hb1 : (x == c) = false := beq_eq_false_iff_ne.2 hne
  clear h hn hx hne
  go_enter Tryz.func117, Tryz.ntmps117
  go_wp2_with (go_at_call 168; refine (next_any _ _ _ _ _ _ _ _ HS.out).mono ?_; rintro e w1 ⟨rfl, hw1⟩; rw [HX.out])
  go_ret
  exact ⟨rfl, hw1⟩
set_option maxRecDepth 100000 in
set_option maxHeartbeats 400000 in
theorem takes_bad (b : Nat) (lv : Value) (l s : List Int) (c : Int) (w : World) {d : Int} (h : Bad w b lv l s d) (h0 : 0 ≤ c) (h1 : c ≤ 255) :
    Calls Tryz.prog 117 #[.pointer (some ⟨b, 0, none⟩), .int .u8 c] w fun e w' => e = .returned (.bool false) ∧ Drn w w' := by
  have HS := hide h
  have hb1 : ((-1 : Int) == c) = false := beq_eq_false_iff_ne.2 (by omega)
  clear h
  go_enter Tryz.func117, Tryz.ntmps117
  go_wp2_with (go_at_call 168; refine (next_bad _ _ _ _ _ HS.out).mono ?_; rintro e w1 ⟨rfl, hw1⟩)
  go_ret
  exact ⟨rfl, hw1⟩
end Go.Proofs.YtpoibdhhcbelnaaGreatDoor
/- The reference's reader: letters, signs and counts: walks. -/
namespace Go.Proofs.YtpoibdhhcbelnaaGreatDoor
open Go.RowKit Brm

set_option maxRecDepth 100000 in
set_option maxHeartbeats 400000 in
theorem must_yes (b : Nat) (lv : Value) (l t : List Int) (c g d m : Int) (w : World) (h : St w b lv l (c :: t) g d m) (h0 : 0 ≤ c) (h1 : c ≤ 255) :
    Calls Tryz.prog 299 #[.pointer (some ⟨b, 0, none⟩), .int .u8 c] w fun e w' => e = .returned (.tuple #[]) ∧ St w' b lv l t g d m ∧ Off b w w' := by
  have HS := hide h
  clear h
  go_enter Tryz.func299, Tryz.ntmps299
  go_wp2_with (go_at_call 117; refine (takes_yes _ _ _ _ _ _ _ _ _ HS.out h0 h1).mono ?_; rintro e w1 ⟨rfl, hw1, ho⟩; have HS1 := hide hw1; have HO := hide ho; clear hw1 ho)
  go_end0
  exact ⟨rfl, HS1.out, HO.out⟩
set_option maxRecDepth 100000 in
set_option maxHeartbeats 400000 in
theorem must_no (b : Nat) (lv : Value) (l s : List Int) (c g d m : Int) (w : World) (h : St w b lv l s g d m) (h0 : 0 ≤ c) (h1 : c ≤ 255) (hn : s.head? ≠ some c) :
    Calls Tryz.prog 299 #[.pointer (some ⟨b, 0, none⟩), .int .u8 c] w fun e w' => e = .returned (.tuple #[]) ∧ Bad w' b lv l s d ∧ Off b w w' := by
  have HS := hide h
  have HN := hide hn
  clear h hn
  go_enter Tryz.func299, Tryz.ntmps299
  go_wp2_with (first
    | (go_at_call 117; refine (takes_no _ _ _ _ _ _ _ _ _ HS.out h0 h1 HN.out).mono ?_; rintro e w1 ⟨rfl, hw1⟩; have HS1 := hide (HS.out.drn hw1); have HO := hide (Off.drn (b := b) hw1); clear hw1)
    | (go_at_call 65; refine (fail_any _ _ _ _ _ _ _ _ HS1.out).mono ?_; rintro e w2 ⟨rfl, hw2, ho2⟩; have HB := hide hw2; have HO2 := hide ho2; clear hw2 ho2))
  go_end0
  exact ⟨rfl, HB.out, HO.out.trans HO2.out⟩
set_option maxRecDepth 100000 in
set_option maxHeartbeats 400000 in
theorem must_bad (b : Nat) (lv : Value) (l s : List Int) (c : Int) (w : World) {d : Int} (h : Bad w b lv l s d) (h0 : 0 ≤ c) (h1 : c ≤ 255) :
    Calls Tryz.prog 299 #[.pointer (some ⟨b, 0, none⟩), .int .u8 c] w fun e w' => e = .returned (.tuple #[]) ∧ Bad w' b lv l s d ∧ Drn w w' := by
  have HS := hide h
  clear h
  go_enter Tryz.func299, Tryz.ntmps299
  go_wp2_with (first
    | (go_at_call 117; refine (takes_bad _ _ _ _ _ _ HS.out h0 h1).mono ?_; rintro e w1 ⟨rfl, hw1⟩; have HS1 := hide (HS.out.off hw1); have HO := hide hw1; clear hw1)
    | (go_at_call 65; refine (fail_bad _ _ _ _ _ HS1.out).mono ?_; rintro e w2 ⟨rfl, rfl⟩))
  go_end0
  exact ⟨rfl, HS1.out, HO.out⟩

def amongB (c : Int) (s : ByteArray) : Bool := s.data.toList.any fun x => (x.toNat : Int) == c
theorem take_snoc (s : ByteArray) (k : Nat) (h : k < s.size) : s.data.toList.take (k + 1) = s.data.toList.take k ++ [s[k]] := by
  rw [List.take_succ_eq_append_getElem (by simpa using h)]; rfl
set_option maxRecDepth 100000 in
set_option maxHeartbeats 400000 in
theorem among_any (c : Int) (s : ByteArray) (w : World) (hs : s.size ≤ 1000) : Calls Tryz.prog 171 #[.int .i64 c, .string s] w fun e w' => e = .returned (.bool (amongB c s)) ∧ w' = w := by
  go_enter Tryz.func171, Tryz.ntmps171
  go_wp2
  go_loop [5] (fun i => ∃ k : Nat, k ≤ s.size ∧ i = .int .i64 k ∧ ((s.data.toList.take k).any fun x => (x.toNat : Int) == c) = false) (fun i => s.size - (intOf i).toNat)
  case atStart => exact ⟨0, Nat.zero_le _, rfl, rfl⟩
  case round =>
    obtain ⟨k, hk, rfl, hm⟩ := hrel
    have HM := hide hm; clear hm
    by_cases hlt : k < s.size
    · have HT := hide (take_snoc s k hlt)
      have q0 : (0 : Int) ≤ (s[k].toNat : Int) := Int.natCast_nonneg _
      have q1 : (s[k].toNat : Int) ≤ 255 := by have := s[k].toNat_lt; omega
      by_cases hc : (s[k].toNat : Int) = c
      · subst hc
        go_wp2
        go_ret
        refine ⟨ret_bool ?_, rfl⟩
        unfold amongB
        symm
        rw [List.any_eq_true]
        exact ⟨s[k], by rw [← List.take_append_drop (k + 1) s.data.toList, HT.out]; simp, by simp⟩
      · have hb : ((s[k].toNat : Int) == c) = false := beq_eq_false_iff_ne.2 hc
        have HB := hide hb
        clear hc
        go_wp2
        go_round
        case rel => exact ⟨k + 1, by omega, by go_num, by rw [HT.out, List.any_append, HM.out]; simpa using HB.out⟩
        case measure => simp [intOf]; omega
    · go_wp2
      go_ret
      exact ⟨ret_bool (by unfold amongB; rw [← HM.out, List.take_of_length_le (by simp; omega)]), rfl⟩
theorem amongB_signs (c : Int) : amongB c { data := #[124, 38, 126, 42, 43, 63, 123, 125, 46, 92, 91, 93, 40, 41, 45, 94, 110, 116, 114] } = isSign c := by
  rw [Bool.eq_iff_iff]
  simp [amongB, isSign]
  omega
theorem amongB_classes (c : Int) : amongB c { data := #[100, 119, 115, 68, 87, 83] } = isClass c := by
  rw [Bool.eq_iff_iff]
  simp [amongB, isClass]
  omega
theorem amongB_inner (c : Int) : amongB c { data := #[91, 93, 92, 45, 94] } = inner c := by
  rw [Bool.eq_iff_iff]
  simp [amongB, inner]
  omega
theorem amongB_special (c : Int) : amongB c { data := #[124, 38, 126, 42, 43, 63, 123, 125, 46, 92, 91, 93, 40, 41] } = special c := by
  rw [Bool.eq_iff_iff]
  simp [amongB, special]
  omega

set_option maxRecDepth 100000 in
set_option maxHeartbeats 400000 in
theorem sign_any (c : Int) (w : World) : Calls Tryz.prog 313 #[.int .i64 c] w fun e w' => e = .returned (.int .i64 (signOf c)) ∧ w' = w := by
  by_cases h1 : c = 110
  · subst h1; go_enter Tryz.func313, Tryz.ntmps313; go_wp2; go_ret; exact ⟨rfl, rfl⟩
  · by_cases h2 : c = 116
    · subst h2; go_enter Tryz.func313, Tryz.ntmps313; go_wp2; go_ret; exact ⟨rfl, rfl⟩
    · by_cases h3 : c = 114
      · subst h3; go_enter Tryz.func313, Tryz.ntmps313; go_wp2; go_ret; exact ⟨rfl, rfl⟩
      · have b1 : (c == 110) = false := beq_eq_false_iff_ne.2 h1
        have b2 : (c == 116) = false := beq_eq_false_iff_ne.2 h2
        have b3 : (c == 114) = false := beq_eq_false_iff_ne.2 h3
        have HE : Hid (signOf c = c) := by show signOf c = c; unfold signOf; rw [if_neg h1, if_neg h2, if_neg h3]
        clear h1 h2 h3
        go_enter Tryz.func313, Tryz.ntmps313
        go_wp2
        go_ret
        exact ⟨ret_int HE.out.symm, rfl⟩

/-- How a call of a reader's ends, by what reading it is. -/
def Done {α : Type} (b : Nat) (lv : Value) (l : List Int) (g d m : Int) (r : Res α) (w' : World) (P : α → Prop) (Q : Prop) : Prop := match r with | .ok a s => St w' b lv l s g d m ∧ P a | .bad s => Bad w' b lv l s d ∧ Q

set_option maxRecDepth 100000 in
set_option maxHeartbeats 400000 in
theorem count_any (b : Nat) (lv : Value) (l s : List Int) (least g d m : Int) (w : World) (h : St w b lv l s g d m) (h0 : 0 ≤ least) (h1 : least ≤ 5) :
    Calls Tryz.prog 302 #[.pointer (some ⟨b, 0, none⟩), .int .i64 least] w fun e w' => ∃ v, e = .returned v ∧ Off b w w' ∧ Done b lv l g d m (countP least s) w' (fun n => v = .int .i64 n) (v = .int .i64 0) := by
  have HS := hide h
  have hnv := nextV_ge h
  by_cases hc : ∃ c t, s = c :: t ∧ 48 + least ≤ c ∧ c ≤ 53
  · obtain ⟨c, t, rfl, h2, h3⟩ := hc
    have HR : Hid (countP least (c :: t) = .ok (c - 48) t) := by show _ = _; simp only [countP]; rw [if_pos ⟨h2, h3⟩]
    clear h
    go_enter Tryz.func302, Tryz.ntmps302
    go_wp2_with (go_at_call 168; refine (next_any _ _ _ _ _ _ _ _ HS.out).mono ?_; rintro e w1 ⟨rfl, hw1⟩; have HS1 := hide (HS.out.drn hw1).step; have HO := hide (Off.drn (b := b) hw1); obtain ⟨c0, c1, c2, _, _, _, hb⟩ := (HS.out.drn hw1).cells; have hf := (HS.out.drn hw1).1.frozen 1; have hlen := (HS.out.drn hw1).2.2.2.1; simp only [nextV])
    go_ret
    exact ⟨_, rfl, HO.out.trans HS1.out.2, by rw [HR.out]; exact ⟨HS1.out.1, rfl⟩⟩
  · have HR : Hid (countP least s = .bad s) := by
      show _ = _
      cases s with
      | nil => rfl
      | cons c t => simp only [countP]; rw [if_neg (fun hh => hc ⟨c, t, rfl, hh⟩)]
    have HC : ¬ (48 + least ≤ nextV s ∧ nextV s ≤ 53) := by
      intro hh
      cases s with
      | nil => simp [nextV] at hh; omega
      | cons c t => exact hc ⟨c, t, rfl, hh⟩
    clear hc h
    generalize hx : nextV s = x at HC hnv
    have HX := hide hx
    clear hx
    by_cases hlo : 48 + least ≤ x
    · have hhi : ¬ x ≤ 53 := fun hh => HC ⟨hlo, hh⟩
      have hd : decide (x ≤ 53) = false := by simpa using hhi
      clear HC hhi
      go_enter Tryz.func302, Tryz.ntmps302
      go_wp2_with (first
        | (go_at_call 168; refine (next_any _ _ _ _ _ _ _ _ HS.out).mono ?_; rintro e w1 ⟨rfl, hw1⟩; have HS1 := hide (HS.out.drn hw1); have HO := hide (Off.drn (b := b) hw1); clear hw1; rw [HX.out])
        | (go_at_call 65; refine (fail_any _ _ _ _ _ _ _ _ HS1.out).mono ?_; rintro e w2 ⟨rfl, hw2, ho2⟩; have HB := hide hw2; have HO2 := hide ho2; clear hw2 ho2))
      go_ret
      exact ⟨_, rfl, HO.out.trans HO2.out, by rw [HR.out]; exact ⟨HB.out, rfl⟩⟩
    · have hd : decide (48 + least ≤ x) = false := by simpa using hlo
      clear HC hlo
      go_enter Tryz.func302, Tryz.ntmps302
      go_wp2_with (first
        | (go_at_call 168; refine (next_any _ _ _ _ _ _ _ _ HS.out).mono ?_; rintro e w1 ⟨rfl, hw1⟩; have HS1 := hide (HS.out.drn hw1); have HO := hide (Off.drn (b := b) hw1); clear hw1; rw [HX.out])
        | (go_at_call 65; refine (fail_any _ _ _ _ _ _ _ _ HS1.out).mono ?_; rintro e w2 ⟨rfl, hw2, ho2⟩; have HB := hide hw2; have HO2 := hide ho2; clear hw2 ho2))
      go_ret
      exact ⟨_, rfl, HO.out.trans HO2.out, by rw [HR.out]; exact ⟨HB.out, rfl⟩⟩
end Go.Proofs.YtpoibdhhcbelnaaGreatDoor
/- Tables of the reference's in memory; blank ones, and those of empty parts: walks. -/
namespace Go.Proofs.YtpoibdhhcbelnaaGreatDoor
open Go.RowKit Brm

/-- An append of one element of one cell to a row that the call owns. -/
theorem append_cell {w : World} {ops : Array Oper} {rest : List Oper} {o : Oper} {a : Act} {Q : Exit → Act → World → Prop} (hgd : o.guard = none) (s x : Operand) (t e : TypeId) (z : Value) (by_ : Nat)
    (hinfo : (Tryz.prog.info? e).map (fun i => (i.zero, i.size, i.bytes)) = some (some z, 1, by_)) (hun : Tryz.prog.underlying t = some (.slice e)) (hzc : z.cells.size = 1) (hby : by_ ≤ 1000)
    (ho : o.op = .call { callee := .builtin .append, args := #[s, x], argTypes := #[t, t] }) (B n : Nat) (v : Value) (xs : List Value) (hs : a.eval s = v) (hown : w.ownsRow B e 1 v n xs)
    (ad : Addr) (u0 : Value) (hx : a.eval x = .slice (some ad) 1 1) (hnews : w.cell? (ad.add 0) = some u0) (h1 : u0.oneCell' = true)
    (hn : n ≤ 100000) (hB : B ≤ w.heap.size)
    (h : ∀ v' w', w'.ownsRow B e 1 v' (n + 1) (xs ++ [u0]) → w.grownBy w' v.ownBlock → (v'.ownBlock = v.ownBlock ∨ ∀ g, v'.ownBlock = some g → w.heap.size ≤ g) →
      wpList Tryz.prog ops Q rest (a.put o.dst v') w') : wpList Tryz.prog ops Q (o :: rest) a w := by
  obtain ⟨i0, hi, hz0, hz1, hz2⟩ := info_parts hinfo
  have hle : ∀ {B' : Nat} {w : World} {v : Value} {n : Nat} {xs : List Value}, w.ownsRow B' e 1 v n xs → B ≤ B' → w.ownsRow B e 1 v n xs := by
    intro B' w v n xs h hb
    refine ⟨h.1, ?_⟩
    rcases h.2 with h2 | ⟨g, cap, cur, e, hg, r⟩
    · exact .inl h2
    · exact .inr ⟨g, cap, cur, e, Nat.le_trans hb hg, r⟩
  have hnews2 : ∀ j u, [u0][j]? = some u → w.cell? (ad.add j) = some u := by
    intro j u hj
    match j, hj with
    | 0, hj => simp at hj; subst hj; exact hnews
  have h12 : ∀ u ∈ [u0], u.oneCell' = true := by intro u hu; simp at hu; subst hu; exact h1
  have hrow := hown
  have hbb : (n + 1) * by_ ≤ 140737488355328 := Nat.le_trans (Nat.mul_le_mul (show n + 1 ≤ 100001 by omega) hby) (by decide)
  rcases hown.2 with ⟨rfl, rfl⟩ | ⟨g, cap, cur, rfl, hbg, hg, hnc, hcm, hcs, ht⟩
  · refine wpList_append_grows w hgd s x t ho e i0 z 1 by_ hun hi hz0 hz1 hz2 hzc (by decide) none 0 0 xs hs (fun _ => ⟨rfl, rfl⟩) hrow.1 (fun b e => by cases e) ad 1 1 [u0] hx rfl hnews2 h12 (by omega) (by unfold maxLen; omega) hbb ?_
    intro v' w' ho' hg'
    exact h v' w' (hle ho' hB) ⟨hg'.os, hg'.tape, hg'.output, hg'.size, fun k hk _ => hg'.block k hk (by simp)⟩ (.inr fun g e => (ho'.lt g e).1)
  · by_cases hroom : n + 1 ≤ cap
    · refine wpList_append_fits w hgd s x t ho B e i0 1 hun hi hz1 g n cap xs hs hrow ad 1 1 [u0] hx rfl hnews2 h12 hroom ?_
      intro w' ho' hg'
      exact h _ w' ho' hg' (.inl rfl)
    · refine wpList_append_grows w hgd s x t ho e i0 z 1 by_ hun hi hz0 hz1 hz2 hzc (by decide) (some ⟨g, 0, none⟩) n cap xs hs (fun e => by cases e) hrow.1 (fun b e j u hj => by cases e; exact hrow.cells rfl j u hj) ad 1 1 [u0] hx rfl hnews2 h12 (by omega) (by unfold maxLen; omega) hbb ?_
      intro v' w' ho' hg'
      exact h v' w' (hle ho' hB) ⟨hg'.os, hg'.tape, hg'.output, hg'.size, fun k hk _ => hg'.block k hk (by simp)⟩ (.inr fun g e => (ho'.lt g e).1)
theorem cell_new (w : World) (u : Value) (T : TypeId) : (w.alloc (.cells #[u] T)).cell? ((⟨w.heap.size, 0, none⟩ : Addr).add 0) = some u := by
  rw [Addr.add_lit]; exact (Blk.new w [u] T).cell 0

/-- A row of a table. -/
def rowL (n : Nat) (g : Nat → Bool) : List Value := (List.range (n + 1)).map fun j => .bool (g j)
abbrev rowV (n b : Nat) : Value := .slice (some ⟨b, 0, none⟩) (n + 1) (n + 1)
/-- So many rows of a table, in blocks from B on. -/
def TbR (w : World) (B : Nat) (v : Value) (n k : Nat) (f : Nat → Nat → Bool) (r : List Nat) : Prop := r.length = k ∧ w.ownsRow B 87 1 v k (r.map (rowV n)) ∧ r.Nodup ∧ (∀ b ∈ r, B ≤ b ∧ v.ownBlock ≠ some b) ∧ ∀ i b, r[i]? = some b → Blk w b (rowL n (f i)) 4
def TbK (w : World) (B : Nat) (v : Value) (n k : Nat) (f : Nat → Nat → Bool) : Prop := ∃ r : List Nat, TbR w B v n k f r
/-- A table of the parts of a text of n runes. -/
def Tb (w : World) (B : Nat) (v : Value) (n : Nat) (f : Nat → Nat → Bool) : Prop := TbK w B v n (n + 1) f
theorem rowL_len (n : Nat) (g : Nat → Bool) : (rowL n g).length = n + 1 := by simp [rowL]
theorem rowL_at {n : Nat} (g : Nat → Bool) {j : Nat} (h : j ≤ n) : (rowL n g)[j]? = some (.bool (g j)) := by
  unfold rowL; rw [List.getElem?_map, List.getElem?_range (by omega)]; rfl
theorem rowL_congr {n : Nat} {g g' : Nat → Bool} (h : ∀ j, j ≤ n → g j = g' j) : rowL n g = rowL n g' := by
  unfold rowL
  refine List.map_congr_left fun j hj => ?_
  rw [h j (by have := List.mem_range.1 hj; omega)]
theorem rowL_set {n : Nat} {g : Nat → Bool} {j : Nat} (h : j ≤ n) (x : Bool) : (rowL n g).set j (.bool x) = rowL n (fun b => if b = j then x else g b) := by
  refine List.ext_getElem? fun k => ?_
  rw [List.getElem?_set]
  by_cases hk : k ≤ n
  · rw [rowL_at _ hk, rowL_at _ hk, rowL_len]
    by_cases e : j = k
    · subst e; simp; omega
    · rw [if_neg e, if_neg (fun e2 => e e2.symm)]
  · have e1 : (rowL n g)[k]? = none := List.getElem?_eq_none (by rw [rowL_len]; omega)
    have e2 : (rowL n (fun b => if b = j then x else g b))[k]? = none := List.getElem?_eq_none (by rw [rowL_len]; omega)
    rw [e1, e2, if_neg (by omega)]
theorem Tb.congr {w : World} {B : Nat} {v : Value} {n : Nat} {f f' : Nat → Nat → Bool} (h : Tb w B v n f) (e : ∀ i j, i ≤ n → j ≤ n → f i j = f' i j) : Tb w B v n f' := by
  obtain ⟨r, h1, h2, h3, h4, h5⟩ := h
  refine ⟨r, h1, h2, h3, h4, fun i b hi => ?_⟩
  have hlt := (List.getElem?_eq_some_iff.1 hi).1
  rw [← rowL_congr (fun j hj => e i j (by omega) hj)]
  exact h5 i b hi
theorem TbK.below {w w' : World} {B : Nat} {v : Value} {n k : Nat} {f : Nat → Nat → Bool} (h : TbK w B v n k f) (hb : Below w.heap.size w w') : TbK w' B v n k f := by
  obtain ⟨r, h1, h2, h3, h4, h5⟩ := h
  exact ⟨r, h1, own_block h2 (fun q hq => hb.block q (h2.lt q hq).2), h3, h4, fun i b hi => (h5 i b hi).below hb⟩
theorem Tb.below {w w' : World} {B : Nat} {v : Value} {n : Nat} {f : Nat → Nat → Bool} (h : Tb w B v n f) (hb : Below w.heap.size w w') : Tb w' B v n f := TbK.below h hb
theorem Tb.le {w : World} {B B' : Nat} {v : Value} {n : Nat} {f : Nat → Nat → Bool} (h : Tb w B v n f) (hb : B' ≤ B) : Tb w B' v n f := by
  obtain ⟨r, h1, h2, h3, h4, h5⟩ := h
  refine ⟨r, h1, ⟨h2.1, ?_⟩, h3, fun b hb2 => ⟨Nat.le_trans hb (h4 b hb2).1, (h4 b hb2).2⟩, h5⟩
  rcases h2.2 with h6 | ⟨g, cap, cur, e, hg, q⟩
  · exact .inl h6
  · exact .inr ⟨g, cap, cur, e, Nat.le_trans hb hg, q⟩
theorem Tb.form {w : World} {B : Nat} {v : Value} {n : Nat} {f : Nat → Nat → Bool} (h : Tb w B v n f) : ∃ ob cap, v = .slice (some ⟨ob, 0, none⟩) (n + 1) cap := by
  obtain ⟨r, h1, h2, _⟩ := h
  rcases h2.2 with ⟨_, h0⟩ | ⟨g, cap, cur, rfl, _⟩
  · omega
  · exact ⟨g, cap, rfl⟩
theorem Blk.ne {w : World} {a b : Nat} {cs cs' : List Value} {T T' : TypeId} (h : Blk w a cs T) (h' : Blk w b cs' T') (hT : T ≠ T') : a ≠ b := by
  intro e
  subst e
  unfold Blk at h h'
  rw [h] at h'
  simp only [Option.some.injEq, Obj.cells.injEq] at h'
  exact hT h'.2.1
theorem Tb.ne {w : World} {B : Nat} {ob cap : Nat} {n : Nat} {f : Nat → Nat → Bool} (h : Tb w B (.slice (some ⟨ob, 0, none⟩) (n + 1) cap) n f) {i rb : Nat} (hi : i ≤ n) (hc : w.cell? ⟨ob, i, none⟩ = some (rowV n rb)) {b : Nat} {cs : List Value} {T : TypeId} (hb : Blk w b cs T) (hT : T ≠ 4) : b ≠ rb := by
  obtain ⟨r, h1, h2, h3, h4, h5⟩ := h
  have hlt : i < r.length := by omega
  have hr : r[i]? = some r[i] := List.getElem?_eq_getElem hlt
  have h6 := h2.cells rfl i (rowV n r[i]) (by rw [List.getElem?_map, hr]; rfl)
  rw [Addr.add_lit] at h6
  simp only [Nat.zero_add] at h6
  rw [h6] at hc
  simp only [Option.some.injEq, Value.slice.injEq, Addr.mk.injEq, and_true] at hc
  subst hc
  exact hb.ne (h5 i _ hr) hT
def upd (f : Nat → Nat → Bool) (i j : Nat) (x : Bool) : Nat → Nat → Bool := fun a b => if a = i then (if b = j then x else f a b) else f a b
/-- A place of a table: how it is read, and what a store there does. -/
theorem Tb.at {w : World} {B : Nat} {ob cap : Nat} {n : Nat} {f : Nat → Nat → Bool} (h : Tb w B (.slice (some ⟨ob, 0, none⟩) (n + 1) cap) n f) {i : Nat} (hi : i ≤ n) :
    ∃ rb, ob < w.heap.size ∧ rb < w.heap.size ∧ B ≤ rb ∧ w.cell? ⟨ob, i, none⟩ = some (rowV n rb) ∧ (∀ j, j ≤ n → w.cell? ⟨rb, j, none⟩ = some (.bool (f i j)) ∧ w.frozen? ⟨rb, j, none⟩ = false ∧ ∀ x, Tb (w.setCell ⟨rb, j, none⟩ (.bool x)) B (.slice (some ⟨ob, 0, none⟩) (n + 1) cap) n (upd f i j x)) := by
  obtain ⟨r, h1, h2, h3, h4, h5⟩ := h
  have hlt : i < r.length := by omega
  have hr : r[i]? = some r[i] := List.getElem?_eq_getElem hlt
  have hb := h5 i r[i] hr
  have hm := h4 r[i] (List.getElem_mem hlt)
  refine ⟨r[i], (h2.lt ob rfl).2, hb.lt, hm.1, ?_, fun j hj => ⟨?_, hb.frozen j, fun x => ?_⟩⟩
  · have := h2.cells rfl i (rowV n r[i]) (by rw [List.getElem?_map, hr]; rfl)
    rw [Addr.add_lit] at this; simpa using this
  · rw [hb.cell, rowL_at _ hj]
  · refine ⟨r, h1, own_block h2 (fun q hq => Below.heap_setCell _ _ _ _ (fun e => hm.2 (by rw [hq]; simpa using e))), h3, h4, fun a b ha => ?_⟩
    by_cases e : a = i
    · subst e
      have eb : b = r[a] := by rw [hr] at ha; exact (Option.some.inj ha).symm
      subst eb
      have := hb.set j (.bool x)
      rw [rowL_set hj] at this
      have e2 : rowL n (upd f a j x a) = rowL n (fun b => if b = j then x else f a b) := rowL_congr (fun k _ => by simp [upd])
      rw [e2]; exact this
    · have hne : b ≠ r[i] := by
        intro eb
        have ha' := (List.getElem?_eq_some_iff.1 ha)
        obtain ⟨ha1, ha2⟩ := ha'
        have : r[a] = r[i] := by rw [ha2, eb]
        exact e ((List.getElem_inj h3).1 this)
      have e2 : upd f i j x a = f a := by funext b; simp [upd, e]
      rw [e2]
      exact (h5 a b ha).setOther hne _
theorem made_false (n : Nat) : (madeCells (Value.bool false).cells (n * 1)).toList = List.replicate n (.bool false) := by
  refine List.ext_getElem? fun i => ?_
  simp only [madeCells, Nat.mul_one, Array.toList_map, Array.toList_range, List.getElem?_map]
  by_cases h : i < n
  · rw [List.getElem?_range h, List.getElem?_replicate, if_pos h]
    simp [Value.cells, Nat.mod_one]
  · rw [List.getElem?_eq_none (by simp; omega), List.getElem?_replicate, if_neg h]; rfl
theorem rowL_false (n : Nat) : rowL n (fun _ => false) = List.replicate (n + 1) (.bool false) := by
  unfold rowL
  rw [List.map_const', List.length_range]
theorem blk_of_own {w : World} {B e g n : Nat} {xs : List Value} (h : w.ownsRow B e 1 (.slice (some ⟨g, 0, none⟩) n n) n xs) : Blk w g xs e ∧ B ≤ g := by
  rcases h.2 with ⟨hh, _⟩ | ⟨g', cap, cur, he, hg, hh, hn, hm, hs, ht⟩
  · cases hh
  · cases he
    refine ⟨?_, hg⟩
    have e1 : cur.toList = xs := by rw [← ht, List.take_of_length_le (by simp; omega)]
    unfold Blk
    rw [hh, ← e1]
theorem Tryz.info87 : (Tryz.prog.info? 87).map (fun i => (i.zero, i.size, i.bytes)) = some (some (.slice none 0 0), 1, 24) := by kernel_rfl
theorem Tryz.info4 : (Tryz.prog.info? 4).map (fun i => (i.zero, i.size, i.bytes)) = some (some (.bool false), 1, 1) := by kernel_rfl
/-- One row more. -/
theorem TbK.push {w wr w1 w3 : World} {v v' : Value} {n k g : Nat} {r : List Nat} (h : TbR wr w.heap.size v n k (fun _ _ => false) r) (hw : w.heap.size ≤ wr.heap.size) (hg1 : wr.grownBy w1 none) (hb1 : Blk w1 g (rowL n (fun _ => false)) 4) (hgg : wr.heap.size ≤ g)
    (ho3 : w3.ownsRow w.heap.size 87 1 v' (k + 1) (r.map (rowV n) ++ [rowV n g])) (hg3 : (w1.alloc (.cells #[rowV n g] 87)).grownBy w3 v.ownBlock) (hl3 : v'.ownBlock = v.ownBlock ∨ ∀ q, v'.ownBlock = some q → (w1.alloc (.cells #[rowV n g] 87)).heap.size ≤ q) : TbK w3 w.heap.size v' n (k + 1) (fun _ _ => false) := by
  obtain ⟨h1, h2, h3, h4, h5⟩ := h
  have hs1 := hg1.size
  have hlt : ∀ b ∈ r, b < wr.heap.size := by
    intro b hb
    obtain ⟨i, hi⟩ := List.getElem?_of_mem hb
    exact (h5 i b hi).lt
  have hvlt : ∀ q, v.ownBlock = some q → q < wr.heap.size := fun q hq => (h2.lt q hq).2
  have far : ∀ b, b < w1.heap.size → v.ownBlock ≠ some b → v'.ownBlock ≠ some b := by
    intro b hb hne e
    rcases hl3 with hl | hl
    · exact hne (hl ▸ e)
    · have := hl b e; simp at this; omega
  have hne : v.ownBlock ≠ some g := fun e => by have := hvlt g e; omega
  refine ⟨r ++ [g], by simp [h1], ?_, ?_, ?_, ?_⟩
  · rw [List.map_append]; exact ho3
  · rw [List.nodup_append]
    exact ⟨h3, by simp, fun a ha b hb => by simp at hb; subst hb; have := hlt a ha; omega⟩
  · intro b hb
    rcases List.mem_append.1 hb with hb | hb
    · exact ⟨(h4 b hb).1, far b (by have := hlt b hb; omega) (h4 b hb).2⟩
    · simp at hb; subst hb
      exact ⟨by omega, far b hb1.lt hne⟩
  · intro i b hi
    have kk : ∀ b, Blk w1 b (rowL n (fun _ => false)) 4 → v.ownBlock ≠ some b → Blk w3 b (rowL n (fun _ => false)) 4 := fun b hb hne2 => (hb.alloc _).grown hg3 (fun e => hne2 e.symm)
    by_cases hik : i < r.length
    · rw [List.getElem?_append_left hik] at hi
      have hb := h5 i b hi
      exact kk b (hb.grown hg1 (by simp)) (h4 b (List.mem_of_getElem? hi)).2
    · rw [List.getElem?_append_right (by omega)] at hi
      match hh : i - r.length, hi with
      | 0, hi => simp at hi; subst hi; exact kk g hb1 hne
      | j + 1, hi => simp at hi
set_option maxRecDepth 100000 in
set_option maxHeartbeats 2000000 in
theorem blank_any (n : Nat) (w : World) (hn : n ≤ 1000) : Calls Tryz.prog 72 #[.int .i64 n] w fun e w' => ∃ v, e = .returned v ∧ Tb w' w.heap.size v n (fun _ _ => false) ∧ Below w.heap.size w w' := by
  obtain ⟨i0, hi, hz0, hz1, hz2⟩ := info_parts Tryz.info4
  go_enter Tryz.func72, Tryz.ntmps72
  go_wp2_with fail
  go_loopw [3, 4] (fun o i wr => ∃ k : Nat, k ≤ n + 1 ∧ i = .int .i64 k ∧ TbK wr w.heap.size o n k (fun _ _ => false) ∧ Below w.heap.size w wr) (fun _ i _ => n + 1 - (intOf i).toNat)
  case atStart => exact ⟨0, Nat.zero_le _, rfl, ⟨[], rfl, World.ownsRow_nil _ _ _ _, by simp, by simp, by simp⟩, Below.refl _ _⟩
  case round =>
    obtain ⟨k, hk, rfl, ht, hb⟩ := hrel
    have HB := hide hb
    have HZ := hide hb.size
    obtain ⟨r0, hr0⟩ := ht
    have HT := hide hr0
    have h2 := hr0.2.1
    have HO := hide h2
    obtain ⟨ao, cap, rfl⟩ : ∃ ao cap, u3 = .slice ao k cap := by
      rcases h2.2 with ⟨rfl, rfl⟩ | ⟨g, cap, cur, rfl, _⟩ <;> exact ⟨_, _, rfl⟩
    clear hr0 hb h2
    by_cases hlt : k ≤ n
    · have i1 : (k : Int) ≤ (n : Int) := by omega
      go_wp2_with (first
        | (at_make; refine wpList_make_full _ rfl _ _ 87 rfl wr.heap.size 4 i0 (.bool false) 1 Tryz.underlying87 hi hz0 hz1 .i64 .i64 _ _ (n + 1) rfl rfl (by simp) (by simp) (by rw [hz2]; omega) (by unfold maxLen; omega) (Nat.le_refl _) ?_; intro w1 ho1 hg1; rw [made_false, ← rowL_false] at ho1; have HB1 := hide (blk_of_own ho1).1; have HG1 := hide hg1; have hs1 := hg1.size; clear ho1 hg1)
        | (at_builtin; refine append_cell rfl (.tmp 10) (.tmp 14) 85 87 (.slice none 0 0) 24 Tryz.info87 Tryz.underlying85 rfl (by decide) rfl w.heap.size k _ _ rfl ((own_block HO.out (fun q hq => HG1.out.block q (HO.out.lt q hq).2 (by simp))).alloc _) ⟨w1.heap.size, 0, none⟩ (rowV n wr.heap.size) rfl (cell_new _ _ _) rfl (by omega) (by have := HZ.out; simp; omega) ?_; intro v3 w3 ho3 hg3 hl3; have HO3 := hide ho3; have HG3 := hide hg3; have HL3 := hide hl3; clear ho3 hg3 hl3))
      go_roundw
      case rel =>
        refine ⟨k + 1, by omega, by go_num, ?_, ?_⟩
        · exact TbK.push HT.out HZ.out HG1.out HB1.out (Nat.le_refl _) HO3.out HG3.out HL3.out
        · exact (HB.out.grown HG1.out HZ.out (by simp)).trans (((Below.refl _ _).alloc (by have := HZ.out; omega) _).grown HG3.out (by have := HZ.out; simp; omega) (fun q e => (HO.out.lt q e).1))
      case measure => simp [intOf]; omega
    · have hke : k = n + 1 := by omega
      subst hke
      have i1 : decide (((n + 1 : Nat) : Int) ≤ (n : Int)) = false := decide_eq_false (by omega)
      go_wp2
      go_ret
      exact ⟨_, rfl, ⟨r0, HT.out⟩, HB.out⟩
end Go.Proofs.YtpoibdhhcbelnaaGreatDoor
/- Tables of the reference's: those of empty parts; what one or both match: walks. -/
namespace Go.Proofs.YtpoibdhhcbelnaaGreatDoor
open Go.RowKit Brm

def emptyB (a b : Nat) : Bool := decide (a = b)
set_option maxRecDepth 100000 in
set_option maxHeartbeats 2000000 in
theorem empties_any (n : Nat) (w : World) (hn : n ≤ 1000) : Calls Tryz.prog 71 #[.int .i64 n] w fun e w' => ∃ v, e = .returned v ∧ Tb w' w.heap.size v n emptyB ∧ Below w.heap.size w w' := by
  have HC := hide (blank_any n w hn)
  go_enter Tryz.func71, Tryz.ntmps71
  go_wp2_with fail
  refine HC.out.mono ?_
  rintro e w1 ⟨v, rfl, ht1, hb1⟩
  obtain ⟨ob, cap, rfl⟩ := ht1.form
  have HT1 := hide ht1
  have HB1 := hide hb1
  clear ht1 hb1
  go_wp2_with fail
  go_loopw [4] (fun i wr => ∃ k : Nat, k ≤ n + 1 ∧ i = .int .i64 k ∧ Tb wr w.heap.size (.slice (some ⟨ob, 0, none⟩) (n + 1) cap) n (fun a b => decide (a < k) && emptyB a b) ∧ Below w.heap.size w wr) (fun i _ => n + 1 - (intOf i).toNat)
  case atStart => exact ⟨0, Nat.zero_le _, rfl, HT1.out.congr (fun i j _ _ => by simp), HB1.out⟩
  case round =>
    obtain ⟨k, hk, rfl, ht, hb⟩ := hrel
    have HT := hide ht
    have HB := hide hb
    by_cases hlt : k ≤ n
    · obtain ⟨rb, hob, hrb, hBb, hc, hat⟩ := ht.at hlt
      obtain ⟨hcj, hfz, hset⟩ := hat k hlt
      have HS := hide (hset true)
      have HBb := hide hBb
      have i0 : (0 : Int) ≤ (k : Int) := Int.natCast_nonneg _
      have i1 : (k : Int) ≤ (n : Int) := by omega
      have i2 : (k : Int) < (n : Int) + 1 := by omega
      have i3 : k < n + 1 := by omega
      clear ht hb hat hset hBb
      go_wp2
      go_roundw
      case rel =>
        refine ⟨k + 1, by omega, by go_num, HS.out.congr (fun a b _ _ => ?_), HB.out.setCell HBb.out _⟩
        unfold upd emptyB
        by_cases e1 : a = k
        · subst e1
          by_cases e2 : b = a
          · subst e2; simp
          · have e3 : ¬ a = b := fun e => e2 e.symm
            simp [e2, e3]
        · rw [if_neg e1]
          have : decide (a < k) = decide (a < k + 1) := by rw [Bool.eq_iff_iff]; simp; omega
          show (decide (a < k) && decide (a = b)) = _
          rw [this]
      case measure => simp [intOf]; omega
    · have hke : k = n + 1 := by omega
      subst hke
      have i1 : decide (((n + 1 : Nat) : Int) ≤ (n : Int)) = false := decide_eq_false (by omega)
      clear ht hb
      go_wp2
      go_ret
      exact ⟨_, rfl, HT.out.congr (fun a b ha _ => by have : decide (a < n + 1) = true := decide_eq_true (by omega); rw [this]; rfl), HB.out⟩
def bothB (fa fb : Nat → Nat → Bool) (o : Bool) (a b : Nat) : Bool := decide (a ≤ b) && ((fa a b && fb a b) || (o && (fa a b || fb a b)))
theorem both_step {f : Nat → Nat → Bool} {k j a b : Nat} (hkj : k ≤ j) (x : Bool) (hx : x = f k j) : upd (fun a b => (decide (a < k) || (decide (a = k) && decide (b < j))) && f a b) k j x a b = ((decide (a < k) || (decide (a = k) && decide (b < j + 1))) && f a b) := by
  unfold upd
  by_cases e1 : a = k
  · subst e1
    by_cases e2 : b = j
    · subst e2; simp [hx]
    · have : decide (b < j) = decide (b < j + 1) := by rw [Bool.eq_iff_iff]; simp; omega
      simp [e2, this]
  · simp [e1]
set_option maxRecDepth 100000 in
set_option maxHeartbeats 2000000 in
theorem both_any (Ba Bb : Nat) (va vb : Value) (n : Nat) (fa fb : Nat → Nat → Bool) (o : Bool) (w : World) (hn : n ≤ 1000) (ha : Tb w Ba va n fa) (hb : Tb w Bb vb n fb) : Calls Tryz.prog 76 #[va, vb, .bool o] w fun e w' => ∃ v, e = .returned v ∧ Tb w' w.heap.size v n (bothB fa fb o) ∧ Below w.heap.size w w' := by
  obtain ⟨oa, ca, rfl⟩ := ha.form
  obtain ⟨ox, cx, rfl⟩ := hb.form
  have HA := hide ha
  have HBB := hide hb
  have HC := hide (blank_any n w hn)
  clear ha hb
  go_enter Tryz.func76, Tryz.ntmps76
  go_wp2_with (go_at_call 72; refine HC.out.mono ?_; rintro e w1 ⟨v, rfl, ht1, hb1⟩; obtain ⟨ob, cap, rfl⟩ := ht1.form; have HT1 := hide ht1; have HB1 := hide hb1; clear ht1 hb1)
  go_loopw [8] (fun i wr => ∃ k : Nat, k ≤ n + 1 ∧ i = .int .i64 k ∧ Tb wr w.heap.size (.slice (some ⟨ob, 0, none⟩) (n + 1) cap) n (fun a b => decide (a < k) && bothB fa fb o a b) ∧ Below w.heap.size w wr) (fun i _ => n + 1 - (intOf i).toNat)
  case atStart => exact ⟨0, Nat.zero_le _, rfl, HT1.out.congr (fun i j _ _ => by simp), HB1.out⟩
  case round =>
    obtain ⟨k, hk, rfl, ht, hb⟩ := hrel
    have HT := hide ht
    have HB := hide hb
    clear ht hb
    by_cases hlt : k ≤ n
    · have i0 : (0 : Int) ≤ (k : Int) := Int.natCast_nonneg _
      have i1 : (k : Int) ≤ (n : Int) := by omega
      have i2 : (k : Int) < (n : Int) + 1 := by omega
      have i3 : k < n + 1 := by omega
      go_wp2_with fail
      go_loopw [9] (fun i wr => ∃ j : Nat, k ≤ j ∧ j ≤ n + 1 ∧ i = .int .i64 j ∧ Tb wr w.heap.size (.slice (some ⟨ob, 0, none⟩) (n + 1) cap) n (fun a b => (decide (a < k) || (decide (a = k) && decide (b < j))) && bothB fa fb o a b) ∧ Below w.heap.size w wr) (fun i _ => n + 1 - (intOf i).toNat)
      case atStart =>
        refine ⟨k, Nat.le_refl _, hk, rfl, HT.out.congr (fun a b _ _ => ?_), HB.out⟩
        by_cases e1 : a = k
        · subst e1
          by_cases e2 : b < a
          · have : bothB fa fb o a b = false := by unfold bothB; rw [decide_eq_false (by omega)]; rfl
            simp [this]
          · simp [e2]
        · simp [e1]
      case round =>
        clear HT HB
        obtain ⟨j, hkj, hj, rfl, ht, hb⟩ := hrel
        have HT := hide ht
        have HB := hide hb
        by_cases hjn : j ≤ n
        · obtain ⟨rb, hob, hrb, hBb, hc, hat⟩ := ht.at hlt
          obtain ⟨hcj, hfz, hset⟩ := hat j hjn
          obtain ⟨ra, hoa, hra, _, hca, hata⟩ := (HA.out.below hb).at hlt
          obtain ⟨hcaj, _, _⟩ := hata j hjn
          obtain ⟨rx, hox, hrx, _, hcx, hatx⟩ := (HBB.out.below hb).at hlt
          obtain ⟨hcxj, _, _⟩ := hatx j hjn
          have j0 : (0 : Int) ≤ (j : Int) := Int.natCast_nonneg _
          have j2 : (j : Int) < (n : Int) + 1 := by omega
          have j3 : j < n + 1 := by omega
          have HBb := hide hBb
          have HS := hide (fun x hx => (hset x).congr (fun a b _ _ => both_step (f := bothB fa fb o) (a := a) (b := b) hkj x hx))
          have HV : Hid (bothB fa fb o k j = ((fa k j && fb k j) || (o && (fa k j || fb k j)))) := by show _ = _; unfold bothB; rw [decide_eq_true hkj]; rfl
          rw [HV.out] at HS
          generalize fa k j = A9 at hcaj HS
          generalize fb k j = B9 at hcxj HS
          clear ht hb hat hset hBb hata hatx HV HT
          cases A9 <;> cases B9 <;> cases o <;>
          · go_wp2_with fail
            go_region
            go_wp2_with fail
            go_roundw
            case rel => exact ⟨j + 1, by omega, by omega, by go_num, HS.out _ rfl, by have hq := HB.out.setCell (p := ⟨rb, j, none⟩) HBb.out; first | exact (hq _).drew | exact below_drawn (hq _) | exact hq _⟩
            case measure => simp [intOf]; omega
        · have hke : j = n + 1 := by omega
          subst hke
          have j1 : decide (((n + 1 : Nat) : Int) < ((n + 1 : Nat) : Int)) = false := decide_eq_false (by omega)
          clear ht hb
          go_wp2_with fail
          go_roundw
          case rel =>
            refine ⟨k + 1, by omega, by go_num, HT.out.congr (fun a b _ hb9 => ?_), HB.out⟩
            have e1 : decide (b < n + 1) = true := decide_eq_true (by omega)
            have e2 : (decide (a < k) || decide (a = k)) = decide (a < k + 1) := by rw [Bool.eq_iff_iff]; simp; omega
            rw [e1, Bool.and_true, e2]
          case measure => simp [intOf]; omega
    · have hke : k = n + 1 := by omega
      subst hke
      have i1 : decide (((n + 1 : Nat) : Int) < ((n + 1 : Nat) : Int)) = false := decide_eq_false (by omega)
      go_wp2
      go_ret
      exact ⟨_, rfl, HT.out.congr (fun a b ha _ => by have : decide (a < n + 1) = true := decide_eq_true (by omega); rw [this]; rfl), HB.out⟩
end Go.Proofs.YtpoibdhhcbelnaaGreatDoor
/- Tables of the reference's: one thing behind another: a walk. -/
namespace Go.Proofs.YtpoibdhhcbelnaaGreatDoor
open Go.RowKit Brm

/-- One and, behind it, another; of the ways to part it those ahead of a place. -/
def behK (fa fb : Nat → Nat → Bool) (i K j : Nat) : Bool := (List.range K).any fun k => decide (i ≤ k) && decide (k ≤ j) && fa i k && fb k j
def behB (fa fb : Nat → Nat → Bool) (n : Nat) (i j : Nat) : Bool := behK fa fb i (n + 1) j
theorem behK_succ (fa fb : Nat → Nat → Bool) (i K j : Nat) : behK fa fb i (K + 1) j = (behK fa fb i K j || (decide (i ≤ K) && decide (K ≤ j) && fa i K && fb K j)) := by
  unfold behK; rw [List.range_succ, List.any_append]; simp
theorem behK_self (fa fb : Nat → Nat → Bool) (i j : Nat) : behK fa fb i i j = false := by
  unfold behK
  rw [List.any_eq_false]
  intro k hk
  have := List.mem_range.1 hk
  simp; omega
theorem behK_no {fa fb : Nat → Nat → Bool} {i K j : Nat} (h : fa i K = false) : behK fa fb i (K + 1) j = behK fa fb i K j := by rw [behK_succ, h]; simp
theorem behK_past {fa fb : Nat → Nat → Bool} {i K j : Nat} (h : j < K) : behK fa fb i (K + 1) j = behK fa fb i K j := by
  rw [behK_succ, decide_eq_false (show ¬ K ≤ j by omega)]; simp
/-- How far a table has come: rows ahead of i whole; row i by the ways ahead of K, and up to j by one way more. -/
def behT (fa fb : Nat → Nat → Bool) (n i K j : Nat) (a b : Nat) : Bool := if a < i then behB fa fb n a b else if a = i then (if b < j then behK fa fb i (K + 1) b else behK fa fb i K b) else false
theorem behT_step {fa fb : Nat → Nat → Bool} {n i K j a b : Nat} (hiK : i ≤ K) (hKj : K ≤ j) (h : fa i K = true) (x : Bool) (hx : x = (behK fa fb i K j || fb K j)) : upd (behT fa fb n i K j) i j x a b = behT fa fb n i K (j + 1) a b := by
  unfold upd behT
  by_cases e1 : a = i
  · subst e1
    simp only [if_true, Nat.lt_irrefl, if_false]
    by_cases e2 : b = j
    · subst e2
      rw [if_pos rfl, if_pos (by omega), behK_succ, hx, h, decide_eq_true hiK, decide_eq_true hKj]; simp
    · rw [if_neg e2]
      by_cases e3 : b < j
      · rw [if_pos e3, if_pos (by omega)]
      · rw [if_neg e3, if_neg (by omega)]
  · rw [if_neg e1]
    simp only [if_neg e1]
set_option maxRecDepth 100000 in
set_option maxHeartbeats 2000000 in
theorem behind_any (Ba Bb : Nat) (va vb : Value) (n : Nat) (fa fb : Nat → Nat → Bool) (w : World) (hn : n ≤ 1000) (ha : Tb w Ba va n fa) (hb : Tb w Bb vb n fb) : Calls Tryz.prog 124 #[va, vb] w fun e w' => ∃ v, e = .returned v ∧ Tb w' w.heap.size v n (behB fa fb n) ∧ Below w.heap.size w w' := by
  obtain ⟨oa, ca, rfl⟩ := ha.form
  obtain ⟨ox, cx, rfl⟩ := hb.form
  have HA := hide ha
  have HBB := hide hb
  have HC := hide (blank_any n w hn)
  clear ha hb
  go_enter Tryz.func124, Tryz.ntmps124
  go_wp2_with (go_at_call 72; refine HC.out.mono ?_; rintro e w1 ⟨v, rfl, ht1, hb1⟩; obtain ⟨ob, cap, rfl⟩ := ht1.form; have HT1 := hide ht1; have HB1 := hide hb1; clear ht1 hb1)
  go_loopw [7] (fun i wr => ∃ k : Nat, k ≤ n + 1 ∧ i = .int .i64 k ∧ Tb wr w.heap.size (.slice (some ⟨ob, 0, none⟩) (n + 1) cap) n (behT fa fb n k k 0) ∧ Below w.heap.size w wr) (fun i _ => n + 1 - (intOf i).toNat)
  case atStart =>
    refine ⟨0, Nat.zero_le _, rfl, HT1.out.congr (fun a b _ _ => ?_), HB1.out⟩
    unfold behT
    rw [if_neg (by omega)]
    by_cases e : a = 0
    · subst e; rw [if_pos rfl, if_neg (by omega), behK_self]
    · rw [if_neg e]
  case round =>
    obtain ⟨i, hi, rfl, ht, hb⟩ := hrel
    have HT := hide ht
    have HB := hide hb
    clear ht hb
    by_cases hin : i ≤ n
    · have i0 : (0 : Int) ≤ (i : Int) := Int.natCast_nonneg _
      have i1 : (i : Int) ≤ (n : Int) := by omega
      have i2 : (i : Int) < (n : Int) + 1 := by omega
      have i3 : i < n + 1 := by omega
      go_wp2_with fail
      go_loopw [8] (fun kv wr => ∃ K : Nat, i ≤ K ∧ K ≤ n + 1 ∧ kv = .int .i64 K ∧ Tb wr w.heap.size (.slice (some ⟨ob, 0, none⟩) (n + 1) cap) n (behT fa fb n i K 0) ∧ Below w.heap.size w wr) (fun kv _ => n + 1 - (intOf kv).toNat)
      case atStart => exact ⟨i, Nat.le_refl _, hi, rfl, HT.out, HB.out⟩
      case round =>
        clear HT HB
        obtain ⟨K, hiK, hK, rfl, ht, hb⟩ := hrel
        have HT := hide ht
        have HB := hide hb
        clear ht hb
        by_cases hKn : K ≤ n
        · have k0 : (0 : Int) ≤ (K : Int) := Int.natCast_nonneg _
          have k1 : (K : Int) ≤ (n : Int) := by omega
          have k2 : (K : Int) < (n : Int) + 1 := by omega
          have k3 : K < n + 1 := by omega
          cases hfa : fa i K with
          | false =>
            have HF := hide hfa
            obtain ⟨ra, hoa, hra, _, hca, hata⟩ := (HA.out.below HB.out).at hin
            obtain ⟨hcaj, _, _⟩ := hata K hKn
            rw [hfa] at hcaj
            clear hata hfa
            go_wp2_with fail
            go_loopw [9] (fun jv wr => jv = .int .i64 K ∧ Tb wr w.heap.size (.slice (some ⟨ob, 0, none⟩) (n + 1) cap) n (behT fa fb n i K 0) ∧ Below w.heap.size w wr ∧ wr.cell? ⟨oa, i, none⟩ = some (rowV n ra) ∧ wr.cell? ⟨ra, K, none⟩ = some (.bool false) ∧ oa < wr.heap.size ∧ ra < wr.heap.size) (fun _ _ => 0)
            case atStart => exact ⟨rfl, HT.out, HB.out, hca, hcaj, hoa, hra⟩
            case round =>
              clear HT HB hca hcaj hoa hra
              obtain ⟨rfl, ht, hb, hca, hcaj, hoa, hra⟩ := hrel
              have HT := hide ht
              have HB := hide hb
              clear ht hb
              go_wp2_with fail
              go_roundw
              case rel =>
                refine ⟨K + 1, by omega, by omega, by go_num, HT.out.congr (fun a b _ _ => ?_), HB.out⟩
                unfold behT
                by_cases e1 : a < i
                · rw [if_pos e1, if_pos e1]
                · rw [if_neg e1, if_neg e1]
                  by_cases e2 : a = i
                  · rw [if_pos e2, if_pos e2, if_neg (by omega), if_neg (by omega), behK_no HF.out]
                  · rw [if_neg e2, if_neg e2]
              case measure => simp [intOf]; omega
          | true =>
            have HF := hide hfa
            clear hfa
            go_wp2_with fail
            go_loopw [9] (fun jv wr => ∃ j : Nat, K ≤ j ∧ j ≤ n + 1 ∧ jv = .int .i64 j ∧ Tb wr w.heap.size (.slice (some ⟨ob, 0, none⟩) (n + 1) cap) n (behT fa fb n i K j) ∧ Below w.heap.size w wr) (fun jv _ => n + 1 - (intOf jv).toNat)
            case atStart =>
              refine ⟨K, Nat.le_refl _, by omega, rfl, HT.out.congr (fun a b _ _ => ?_), HB.out⟩
              unfold behT
              by_cases e1 : a < i
              · rw [if_pos e1, if_pos e1]
              · rw [if_neg e1, if_neg e1]
                by_cases e2 : a = i
                · rw [if_pos e2, if_pos e2, if_neg (by omega)]
                  by_cases e3 : b < K
                  · rw [if_pos e3, behK_past e3]
                  · rw [if_neg e3]
                · rw [if_neg e2, if_neg e2]
            case round =>
              clear HT HB
              obtain ⟨j, hKj, hj, rfl, ht, hb⟩ := hrel
              have HT := hide ht
              have HB := hide hb
              obtain ⟨ra, hoa, hra, _, hca, hata⟩ := (HA.out.below hb).at hin
              obtain ⟨hcaj, _, _⟩ := hata K hKn
              rw [HF.out] at hcaj
              have j0 : (0 : Int) ≤ (j : Int) := Int.natCast_nonneg _
              by_cases hjn : j ≤ n
              · obtain ⟨rb, hob, hrb, hBb, hc, hat⟩ := ht.at hin
                obtain ⟨hcj, hfz, hset⟩ := hat j hjn
                obtain ⟨rx, hox, hrx, _, hcx, hatx⟩ := (HBB.out.below hb).at hKn
                obtain ⟨hcxj, _, _⟩ := hatx j hjn
                have j1 : (j : Int) ≤ (n : Int) := by omega
                have j2 : (j : Int) < (n : Int) + 1 := by omega
                have j3 : j < n + 1 := by omega
                have HBb := hide hBb
                have HS := hide (fun x hx => (hset x).congr (fun a b _ _ => behT_step (a := a) (b := b) hiK hKj HF.out x hx))
                have hbk : behT fa fb n i K j i j = behK fa fb i K j := by unfold behT; rw [if_neg (by omega), if_pos rfl, if_neg (by omega)]
                rw [hbk] at hcj
                generalize behK fa fb i K j = A9 at hcj HS
                generalize fb K j = B9 at hcxj HS
                clear ht hb hat hset hBb hata hatx HT hbk
                cases A9 <;> cases B9 <;>
                · go_wp2_with fail
                  go_region
                  go_wp2_with fail
                  go_roundw
                  case rel => exact ⟨j + 1, by omega, by omega, by go_num, HS.out _ rfl, by have hq := HB.out.setCell (p := ⟨rb, j, none⟩) HBb.out; first | exact (hq _).drew | exact below_drawn (hq _) | exact hq _⟩
                  case measure => simp [intOf]; omega
              · have hke : j = n + 1 := by omega
                subst hke
                have j1 : decide (((n + 1 : Nat) : Int) ≤ (n : Int)) = false := decide_eq_false (by omega)
                clear ht hb hata
                go_wp2_with fail
                go_roundw
                case rel =>
                  refine ⟨K + 1, by omega, by omega, by go_num, HT.out.congr (fun a b _ hb9 => ?_), HB.out⟩
                  unfold behT
                  by_cases e1 : a < i
                  · rw [if_pos e1, if_pos e1]
                  · rw [if_neg e1, if_neg e1]
                    by_cases e2 : a = i
                    · rw [if_pos e2, if_pos e2, if_pos (by omega), if_neg (by omega)]
                    · rw [if_neg e2, if_neg e2]
                case measure => simp [intOf]; omega
        · have hke : K = n + 1 := by omega
          subst hke
          have k1 : decide (((n + 1 : Nat) : Int) ≤ (n : Int)) = false := decide_eq_false (by omega)
          go_wp2_with fail
          go_roundw
          case rel =>
            refine ⟨i + 1, by omega, by go_num, HT.out.congr (fun a b _ hb9 => ?_), HB.out⟩
            unfold behT
            by_cases e1 : a < i
            · rw [if_pos e1, if_pos (by omega)]
            · rw [if_neg e1]
              by_cases e2 : a = i
              · rw [if_pos e2, if_neg (by omega), if_pos (by omega), e2]; rfl
              · rw [if_neg e2, if_neg (by omega)]
                by_cases e3 : a = i + 1
                · rw [if_pos e3, if_neg (by omega), behK_self]
                · rw [if_neg e3]
          case measure => simp [intOf]; omega
    · have hke : i = n + 1 := by omega
      subst hke
      have i1 : decide (((n + 1 : Nat) : Int) ≤ (n : Int)) = false := decide_eq_false (by omega)
      go_wp2
      go_ret
      exact ⟨_, rfl, HT.out.congr (fun a b ha _ => by unfold behT; rw [if_pos (by omega)]), HB.out⟩
end Go.Proofs.YtpoibdhhcbelnaaGreatDoor
/- Tables of the reference's: so many times: a walk. -/
namespace Go.Proofs.YtpoibdhhcbelnaaGreatDoor
open Go.RowKit Brm

def leastN (fa : Nat → Nat → Bool) (n : Nat) : Nat → Nat → Nat → Bool
  | 0 => emptyB
  | k + 1 => behB (leastN fa n k) fa n
def moreN (fa : Nat → Nat → Bool) (n : Nat) : Nat → Nat → Nat → Bool
  | 0 => emptyB
  | k + 1 => bothB emptyB (behB fa (moreN fa n k) n) true
set_option maxRecDepth 100000 in
set_option maxHeartbeats 2000000 in
theorem times_tab (Ba : Nat) (va : Value) (n M mo : Nat) (nn : Int) (fa : Nat → Nat → Bool) (w : World) (hn : n ≤ 1000) (hM : M ≤ 5) (hmo : mo ≤ 1000) (hcase : (nn = -1 ∧ mo = n) ∨ (0 ≤ nn ∧ nn = (M : Int) + (mo : Int))) (ha : Tb w Ba va n fa) :
    Calls Tryz.prog 77 #[va, .int .i64 M, .int .i64 nn] w fun e w' => ∃ v, e = .returned v ∧ Tb w' w.heap.size v n (behB (leastN fa n M) (moreN fa n mo) n) ∧ Below w.heap.size w w' := by
  obtain ⟨oa, ca, rfl⟩ := ha.form
  have HA := hide ha
  have HN := hide hn
  have HCS := hide hcase
  clear ha
  go_enter Tryz.func77, Tryz.ntmps77
  go_wp2_with (go_at_call 71; refine (empties_any n _ HN.out).mono ?_; rintro e w1 ⟨v1, rfl, ht1, hb1⟩; have HT1 := hide ht1; have HB1 := hide hb1; clear ht1 hb1)
  go_loopw [8, 9] (fun lv iv wr => ∃ k : Nat, k ≤ M ∧ iv = .int .i64 k ∧ Tb wr w.heap.size lv n (leastN fa n k) ∧ Below w.heap.size w wr) (fun _ iv _ => M - (intOf iv).toNat)
  case atStart => exact ⟨0, Nat.zero_le _, rfl, HT1.out, HB1.out⟩
  case round =>
    clear HT1 HB1
    obtain ⟨k, hk, rfl, ht, hb⟩ := hrel
    have HT := hide ht
    have HB := hide hb
    have k0 : (0 : Int) ≤ (k : Int) := Int.natCast_nonneg _
    obtain ⟨ol, cl, rfl⟩ := ht.form
    by_cases hlt : k < M
    · have k1 : (k : Int) < (M : Int) := by omega
      have HC := hide (behind_any _ _ _ _ n _ _ wr HN.out ht (HA.out.below hb))
      clear ht hb
      go_wp2_with fail
      refine HC.out.mono ?_
      rintro e w2 ⟨v2, rfl, ht2, hb2⟩
      have HT2 := hide (ht2.le HB.out.size)
      have HB2 := hide (HB.out.trans (hb2.mono HB.out.size))
      clear ht2 hb2
      go_wp2_with fail
      go_roundw
      case rel => exact ⟨k + 1, by omega, by go_num, HT2.out, HB2.out⟩
      case measure => simp [intOf]; omega
    · have hke : k = M := by omega
      subst hke
      have k1 : decide ((k : Int) < (k : Int)) = false := decide_eq_false (by omega)
      clear ht hb
      go_wp2_with fail
      refine (empties_any n wr HN.out).mono ?_
      rintro e w3 ⟨v3, rfl, ht3, hb3⟩
      have HT3 := hide (ht3.le HB.out.size)
      have HTL := hide (HT.out.below hb3)
      have HB3 := hide (HB.out.trans (hb3.mono HB.out.size))
      clear ht3 hb3
      have fin : ∀ (mv : Int), mv = (mo : Int) → True := fun _ _ => trivial
      clear fin
      rcases HCS.out with ⟨rfl, hmn⟩ | ⟨hn0, rfl⟩
      · subst hmn
        go_wp2_with fail
        go_loopw [10, 12] (fun lv iv wr => ∃ k2 : Nat, k2 ≤ mo ∧ iv = .int .i64 k2 ∧ Tb wr w.heap.size lv mo (moreN fa mo k2) ∧ Tb wr w.heap.size (.slice (some ⟨ol, 0, none⟩) (mo + 1) cl) mo (leastN fa mo k) ∧ Below w.heap.size w wr) (fun _ iv _ => mo - (intOf iv).toNat)
        case atStart => exact ⟨0, Nat.zero_le _, rfl, HT3.out, HTL.out, HB3.out⟩
        case round =>
          clear HT3 HB3 HTL HT HB
          obtain ⟨k2, hk2, rfl, ht, htl, hb⟩ := hrel
          have HT := hide ht
          have HTL := hide htl
          have HB := hide hb
          obtain ⟨om, cm, rfl⟩ := ht.form
          have q0 : (0 : Int) ≤ (k2 : Int) := Int.natCast_nonneg _
          by_cases hlt2 : k2 < mo
          · have q1 : (k2 : Int) < (mo : Int) := by omega
            clear ht htl hb
            go_wp2_with fail
            refine (empties_any mo wr HN.out).mono ?_
            rintro e w5 ⟨v5, rfl, ht5, hb5⟩
            have HT5 := hide ht5
            have HB5 := hide (HB.out.trans (hb5.mono HB.out.size))
            have HA5 := hide (HA.out.below HB5.out)
            have HTL5 := hide (HTL.out.below hb5)
            have HTM5 := hide (HT.out.below hb5)
            obtain ⟨o5, c5, rfl⟩ := ht5.form
            have HZ5 := hide hb5.size
            clear ht5 hb5
            go_wp2_with fail
            refine (behind_any _ _ _ _ mo _ _ w5 HN.out HA5.out HTM5.out).mono ?_
            rintro e w6 ⟨v6, rfl, ht6, hb6⟩
            have HT6 := hide ht6
            have HE6 := hide (HT5.out.below hb6)
            have HTL6 := hide (HTL5.out.below hb6)
            have HB6 := hide (HB5.out.trans (hb6.mono HB5.out.size))
            obtain ⟨o6, c6, rfl⟩ := ht6.form
            clear ht6 hb6
            go_wp2_with fail
            refine (both_any _ _ _ _ mo _ _ true w6 HN.out HE6.out HT6.out).mono ?_
            rintro e w7 ⟨v7, rfl, ht7, hb7⟩
            have HT7 := hide (ht7.le HB6.out.size)
            have HTL7 := hide (HTL6.out.below hb7)
            have HB7 := hide (HB6.out.trans (hb7.mono HB6.out.size))
            clear ht7 hb7
            go_wp2_with fail
            go_roundw
            case rel => exact ⟨k2 + 1, by omega, by go_num, HT7.out, HTL7.out, HB7.out⟩
            case measure => simp [intOf]; omega
          · have hke : k2 = mo := by omega
            have q1 : decide ((k2 : Int) < (mo : Int)) = false := decide_eq_false (by omega)
            have HKE := hide hke
            clear ht htl hb hke
            go_wp2_with fail
            refine (behind_any _ _ _ _ mo _ _ wr HN.out HTL.out HT.out).mono ?_
            rintro e w6 ⟨v6, rfl, ht6, hb6⟩
            obtain ⟨o6, c6, rfl⟩ := ht6.form
            have HT6 := hide (ht6.le HB.out.size)
            have HB6 := hide (HB.out.trans (hb6.mono HB.out.size))
            clear ht6 hb6
            go_wp2
            go_ret
            exact ⟨_, rfl, by have h9 := HT6.out; rw [HKE.out] at h9; exact h9, HB6.out⟩
      · have hd : decide ((k : Int) + (mo : Int) < 0) = false := decide_eq_false (by omega)
        have hs : (k : Int) + (mo : Int) - (k : Int) = (mo : Int) := by omega
        have m0 : (0 : Int) ≤ (mo : Int) := Int.natCast_nonneg _
        go_wp2_with fail
        go_loopw [10, 12] (fun lv iv wr => ∃ k2 : Nat, k2 ≤ mo ∧ iv = .int .i64 k2 ∧ Tb wr w.heap.size lv n (moreN fa n k2) ∧ Tb wr w.heap.size (.slice (some ⟨ol, 0, none⟩) (n + 1) cl) n (leastN fa n k) ∧ Below w.heap.size w wr) (fun _ iv _ => mo - (intOf iv).toNat)
        case atStart => exact ⟨0, Nat.zero_le _, rfl, HT3.out, HTL.out, HB3.out⟩
        case round =>
          clear HT3 HB3 HTL HT HB
          obtain ⟨k2, hk2, rfl, ht, htl, hb⟩ := hrel
          have HT := hide ht
          have HTL := hide htl
          have HB := hide hb
          obtain ⟨om, cm, rfl⟩ := ht.form
          have q0 : (0 : Int) ≤ (k2 : Int) := Int.natCast_nonneg _
          by_cases hlt2 : k2 < mo
          · have q1 : (k2 : Int) < (mo : Int) := by omega
            clear ht htl hb
            go_wp2_with fail
            refine (empties_any n wr HN.out).mono ?_
            rintro e w5 ⟨v5, rfl, ht5, hb5⟩
            have HT5 := hide ht5
            have HB5 := hide (HB.out.trans (hb5.mono HB.out.size))
            have HA5 := hide (HA.out.below HB5.out)
            have HTL5 := hide (HTL.out.below hb5)
            have HTM5 := hide (HT.out.below hb5)
            obtain ⟨o5, c5, rfl⟩ := ht5.form
            have HZ5 := hide hb5.size
            clear ht5 hb5
            go_wp2_with fail
            refine (behind_any _ _ _ _ n _ _ w5 HN.out HA5.out HTM5.out).mono ?_
            rintro e w6 ⟨v6, rfl, ht6, hb6⟩
            have HT6 := hide ht6
            have HE6 := hide (HT5.out.below hb6)
            have HTL6 := hide (HTL5.out.below hb6)
            have HB6 := hide (HB5.out.trans (hb6.mono HB5.out.size))
            obtain ⟨o6, c6, rfl⟩ := ht6.form
            clear ht6 hb6
            go_wp2_with fail
            refine (both_any _ _ _ _ n _ _ true w6 HN.out HE6.out HT6.out).mono ?_
            rintro e w7 ⟨v7, rfl, ht7, hb7⟩
            have HT7 := hide (ht7.le HB6.out.size)
            have HTL7 := hide (HTL6.out.below hb7)
            have HB7 := hide (HB6.out.trans (hb7.mono HB6.out.size))
            clear ht7 hb7
            go_wp2_with fail
            go_roundw
            case rel => exact ⟨k2 + 1, by omega, by go_num, HT7.out, HTL7.out, HB7.out⟩
            case measure => simp [intOf]; omega
          · have hke : k2 = mo := by omega
            have q1 : decide ((k2 : Int) < (mo : Int)) = false := decide_eq_false (by omega)
            have HKE := hide hke
            clear ht htl hb hke
            go_wp2_with fail
            refine (behind_any _ _ _ _ n _ _ wr HN.out HTL.out HT.out).mono ?_
            rintro e w6 ⟨v6, rfl, ht6, hb6⟩
            obtain ⟨o6, c6, rfl⟩ := ht6.form
            have HT6 := hide (ht6.le HB.out.size)
            have HB6 := hide (HB.out.trans (hb6.mono HB.out.size))
            clear ht6 hb6
            go_wp2
            go_ret
            exact ⟨_, rfl, by have h9 := HT6.out; rw [HKE.out] at h9; exact h9, HB6.out⟩
end Go.Proofs.YtpoibdhhcbelnaaGreatDoor
/- What the tables say, plainly. -/
namespace Go.Proofs.YtpoibdhhcbelnaaGreatDoor
open Brm
open Classical

/-- Whether a pattern matches the part of a text from one place to another. -/
noncomputable def mT (p : Pat) (l : List Int) (i j : Nat) : Bool := decide (i ≤ j ∧ p.Mt (sub l i j))
noncomputable def restT (ps : List Pat) (l : List Int) (i j : Nat) : Bool := decide (i ≤ j ∧ MtRow ps (sub l i j))
noncomputable def orT (ps : List Pat) (l : List Int) (i j : Nat) : Bool := decide (i ≤ j ∧ MtOr ps (sub l i j))
noncomputable def andT (ps : List Pat) (l : List Int) (i j : Nat) : Bool := decide (i ≤ j ∧ MtAnd ps (sub l i j))
theorem mT_iff {p : Pat} {l : List Int} {i j : Nat} : mT p l i j = true ↔ i ≤ j ∧ p.Mt (sub l i j) := by unfold mT; exact decide_eq_true_iff
theorem behB_iff {fa fb : Nat → Nat → Bool} {n i j : Nat} (hj : j ≤ n) : behB fa fb n i j = true ↔ ∃ k, i ≤ k ∧ k ≤ j ∧ fa i k = true ∧ fb k j = true := by
  unfold behB behK
  rw [List.any_eq_true]
  constructor
  · rintro ⟨k, _, h⟩
    simp only [Bool.and_eq_true, decide_eq_true_eq] at h
    exact ⟨k, h.1.1.1, h.1.1.2, h.1.2, h.2⟩
  · rintro ⟨k, h1, h2, h3, h4⟩
    exact ⟨k, List.mem_range.2 (by omega), by simp [h1, h2, h3, h4]⟩
theorem rest_nil {l : List Int} {i j : Nat} (hj : j ≤ l.length) : emptyB i j = restT [] l i j := by
  rw [Bool.eq_iff_iff]
  unfold emptyB restT
  simp only [decide_eq_true_eq]
  constructor
  · rintro rfl; exact ⟨Nat.le_refl _, sub_self _ _⟩
  · rintro ⟨h1, h2⟩
    have hl := sub_len h1 hj
    rw [show sub l i j = [] from h2] at hl
    simp at hl; omega
theorem rest_cons {p : Pat} {ps : List Pat} {l : List Int} {i j : Nat} (hj : j ≤ l.length) : behB (mT p l) (restT ps l) l.length i j = restT (p :: ps) l i j := by
  rw [Bool.eq_iff_iff, behB_iff hj]
  unfold mT restT
  simp only [decide_eq_true_eq]
  constructor
  · rintro ⟨k, h1, h2, ⟨_, h3⟩, _, h4⟩
    exact ⟨by omega, (row_cons_iff (by omega) hj).2 ⟨k, h1, h2, h3, h4⟩⟩
  · rintro ⟨h1, h2⟩
    obtain ⟨k, k1, k2, k3, k4⟩ := (row_cons_iff h1 hj).1 h2
    exact ⟨k, k1, k2, ⟨k1, k3⟩, k2, k4⟩
theorem or_snoc {p : Pat} {ps : List Pat} {l : List Int} {i j : Nat} : bothB (orT ps l) (mT p l) true i j = orT (ps ++ [p]) l i j := by
  rw [Bool.eq_iff_iff]
  unfold bothB orT mT
  simp only [Bool.and_eq_true, Bool.or_eq_true, decide_eq_true_eq, mtOr_iff, List.mem_append, List.mem_singleton]
  constructor
  · rintro ⟨h1, h | ⟨_, h | h⟩⟩
    · obtain ⟨q, hq, hm⟩ := h.1.2
      exact ⟨h1, q, .inl hq, hm⟩
    · obtain ⟨q, hq, hm⟩ := h.2
      exact ⟨h1, q, .inl hq, hm⟩
    · exact ⟨h1, p, .inr rfl, h.2⟩
  · rintro ⟨h1, q, hq | rfl, hm⟩
    · exact ⟨h1, .inr ⟨trivial, .inl ⟨h1, q, hq, hm⟩⟩⟩
    · exact ⟨h1, .inr ⟨trivial, .inr ⟨h1, hm⟩⟩⟩
theorem and_snoc {p : Pat} {ps : List Pat} {l : List Int} {i j : Nat} : bothB (andT ps l) (mT p l) false i j = andT (ps ++ [p]) l i j := by
  rw [Bool.eq_iff_iff]
  unfold bothB andT mT
  simp only [Bool.and_eq_true, Bool.or_eq_true, decide_eq_true_eq, mtAnd_iff, List.mem_append, List.mem_singleton, Bool.false_eq_true, false_and, or_false]
  constructor
  · rintro ⟨h1, ⟨_, h2⟩, _, h3⟩
    exact ⟨h1, fun q hq => by rcases hq with hq | rfl; exact h2 q hq; exact h3⟩
  · rintro ⟨h1, h2⟩
    exact ⟨h1, ⟨h1, fun q hq => h2 q (.inl hq)⟩, h1, h2 p (.inr rfl)⟩
theorem or_one {p : Pat} {l : List Int} {i j : Nat} : mT p l i j = orT [p] l i j := by
  unfold mT orT; simp only [mtOr_iff, List.mem_singleton, exists_eq_left]
theorem and_one {p : Pat} {l : List Int} {i j : Nat} : mT p l i j = andT [p] l i j := by
  unfold mT andT; simp only [mtAnd_iff, List.mem_singleton, forall_eq]
theorem mT_row {ps : List Pat} {l : List Int} {i j : Nat} : restT ps l i j = mT (.row ps) l i j := rfl
theorem mT_or {ps : List Pat} {l : List Int} {i j : Nat} : orT ps l i j = mT (.or ps) l i j := rfl
theorem mT_and {ps : List Pat} {l : List Int} {i j : Nat} : andT ps l i j = mT (.and ps) l i j := rfl
theorem mT_group {p : Pat} {l : List Int} {i j : Nat} : mT p l i j = mT (.group p) l i j := rfl
theorem mT_not {p : Pat} {l : List Int} {i j : Nat} : (decide (i ≤ j) && !mT p l i j) = mT (.not p) l i j := by
  rw [Bool.eq_iff_iff, mT_iff]
  simp only [Bool.and_eq_true, Bool.not_eq_true', decide_eq_true_eq, ← Bool.not_eq_true, mT_iff]
  constructor
  · rintro ⟨h1, h2⟩; exact ⟨h1, fun h => h2 ⟨h1, h⟩⟩
  · rintro ⟨h1, h2⟩; exact ⟨h1, fun h => h2 h.2⟩
/-- One rune of a set. -/
theorem mT_set {s : List (Int × Int)} {l : List Int} {i j : Nat} (hj : j ≤ l.length) : (match l[i]? with | some c => decide (j = i + 1) && memB s c | none => false) = mT (.set s) l i j := by
  rw [Bool.eq_iff_iff, mT_iff]
  constructor
  · intro h
    cases hc : l[i]? with
    | none => rw [hc] at h; cases h
    | some c =>
      rw [hc] at h
      simp only [Bool.and_eq_true, decide_eq_true_eq] at h
      obtain ⟨rfl, hm⟩ := h
      exact ⟨by omega, c, sub_one hc, hm⟩
  · rintro ⟨h1, c, h2, h3⟩
    have hl := sub_len h1 hj
    rw [h2] at hl
    simp at hl
    have hji : j = i + 1 := by omega
    subst hji
    have hlt : i < l.length := by omega
    have hc := List.getElem?_eq_getElem hlt
    have := sub_one hc
    rw [h2] at this
    simp only [List.cons.injEq, and_true] at this
    rw [hc]
    simp [← this, h3]
theorem least_iff {p : Pat} {l : List Int} : ∀ (k i j : Nat), j ≤ l.length → (leastN (mT p l) l.length k i j = true ↔ i ≤ j ∧ Rep p.Mt k (sub l i j))
  | 0, i, j, hj => by
    show emptyB i j = true ↔ _
    rw [rest_nil hj]; unfold restT; simp only [decide_eq_true_eq]; rfl
  | k + 1, i, j, hj => by
    show behB _ _ _ i j = true ↔ _
    rw [behB_iff hj]
    constructor
    · rintro ⟨q, h1, h2, h3, h4⟩
      have h5 := ((least_iff k i q (by omega)).1 h3).2
      unfold mT at h4
      simp only [decide_eq_true_eq] at h4
      refine ⟨by omega, (rep_add k 1 _).2 ⟨_, _, sub_cat h1 h2, h5, ⟨_, [], by simp, h4.2, rfl⟩⟩⟩
    · rintro ⟨h1, h2⟩
      obtain ⟨u, v, e, hu, hv⟩ := (rep_add k 1 _).1 h2
      obtain ⟨q, q1, q2, rfl, rfl⟩ := sub_split h1 hj e
      obtain ⟨a, b, e2, ha, hb⟩ := hv
      have hb' : b = [] := hb
      subst hb'
      rw [List.append_nil] at e2
      refine ⟨q, q1, q2, (least_iff k i q (by omega)).2 ⟨q1, hu⟩, ?_⟩
      unfold mT
      simp only [decide_eq_true_eq]
      exact ⟨q2, e2 ▸ ha⟩
theorem more_iff {p : Pat} {l : List Int} : ∀ (k i j : Nat), j ≤ l.length → (moreN (mT p l) l.length k i j = true ↔ i ≤ j ∧ ∃ r, r ≤ k ∧ Rep p.Mt r (sub l i j))
  | 0, i, j, hj => by
    show emptyB i j = true ↔ _
    rw [rest_nil hj]; unfold restT; simp only [decide_eq_true_eq]
    constructor
    · rintro ⟨h1, h2⟩; exact ⟨h1, 0, Nat.le_refl _, h2⟩
    · rintro ⟨h1, r, hr, h2⟩
      have : r = 0 := by omega
      subst this; exact ⟨h1, h2⟩
  | k + 1, i, j, hj => by
    show bothB emptyB (behB (mT p l) (moreN (mT p l) l.length k) l.length) true i j = true ↔ _
    unfold bothB
    simp only [Bool.and_eq_true, Bool.or_eq_true, decide_eq_true_eq, behB_iff hj]
    constructor
    · rintro ⟨h1, h⟩
      refine ⟨h1, ?_⟩
      have hcase : emptyB i j = true ∨ ∃ q, i ≤ q ∧ q ≤ j ∧ mT p l i q = true ∧ moreN (mT p l) l.length k q j = true := by
        rcases h with h | ⟨_, h | h⟩
        · exact .inl h.1
        · exact .inl h
        · exact .inr h
      rcases hcase with h | ⟨q, q1, q2, q3, q4⟩
      · rw [rest_nil hj] at h; unfold restT at h; simp only [decide_eq_true_eq] at h
        exact ⟨0, Nat.zero_le _, h.2⟩
      · obtain ⟨_, r, hr, hm⟩ := (more_iff k q j hj).1 q4
        unfold mT at q3
        simp only [decide_eq_true_eq] at q3
        exact ⟨r + 1, by omega, (rep_succ_iff h1 hj).2 ⟨q, q1, q2, q3.2, hm⟩⟩
    · rintro ⟨h1, r, hr, hm⟩
      refine ⟨h1, .inr ⟨trivial, ?_⟩⟩
      cases r with
      | zero =>
        left
        rw [rest_nil hj]; unfold restT; simp only [decide_eq_true_eq]
        exact ⟨h1, hm⟩
      | succ r =>
        right
        obtain ⟨q, q1, q2, q3, q4⟩ := (rep_succ_iff h1 hj).1 hm
        refine ⟨q, q1, q2, ?_, (more_iff k q j hj).2 ⟨q2, r, by omega, q4⟩⟩
        unfold mT
        simp only [decide_eq_true_eq]
        exact ⟨q1, q3⟩
/-- So many times. -/
theorem mT_many {p : Pat} {l : List Int} {M mo : Nat} {nn : Int} {i j : Nat} (hj : j ≤ l.length) (hcase : (nn = -1 ∧ mo = l.length) ∨ (0 ≤ nn ∧ nn = (M : Int) + (mo : Int))) : behB (leastN (mT p l) l.length M) (moreN (mT p l) l.length mo) l.length i j = mT (.many p M nn) l i j := by
  rw [Bool.eq_iff_iff, behB_iff hj, mT_iff]
  constructor
  · rintro ⟨k, h1, h2, h3, h4⟩
    have h3' := ((least_iff M i k (by omega)).1 h3).2
    obtain ⟨_, r, hr, hm⟩ := (more_iff mo k j hj).1 h4
    refine ⟨by omega, M + r, by omega, ?_, (rep_add M r _).2 ⟨_, _, sub_cat h1 h2, h3', hm⟩⟩
    rcases hcase with ⟨rfl, _⟩ | ⟨_, rfl⟩
    · left; omega
    · right; omega
  · rintro ⟨h1, r, hr1, hr2, hm⟩
    have hMr : M ≤ r := by omega
    obtain ⟨d, rfl⟩ : ∃ d, r = M + d := ⟨r - M, by omega⟩
    obtain ⟨u, v, e, hu, hv⟩ := (rep_add M d _).1 hm
    obtain ⟨k, k1, k2, rfl, rfl⟩ := sub_split h1 hj e
    refine ⟨k, k1, k2, (least_iff M i k (by omega)).2 ⟨k1, hu⟩, (more_iff mo k j hj).2 ⟨k2, ?_⟩⟩
    rcases hcase with ⟨rfl, rfl⟩ | ⟨h0, rfl⟩
    · obtain ⟨d', h3, h4, h5⟩ := rep_short d _ hv
      rw [sub_len k2 hj] at h3
      exact ⟨d', by omega, h5⟩
    · exact ⟨d, by omega, hv⟩
end Go.Proofs.YtpoibdhhcbelnaaGreatDoor
