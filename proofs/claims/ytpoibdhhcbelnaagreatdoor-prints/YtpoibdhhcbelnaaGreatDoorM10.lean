/- Walks and plain laws, some texts in one. -/
import Derived.Deep.LoopGhost
import Derived.Test.YtpoibdhhcbelnaaGreatDoorM03
import Derived.Test.YtpoibdhhcbelnaaGreatDoorM01
import Derived.Test.YtpoibdhhcbelnaaGreatDoorM09
/- How the reference's patterns lie in memory. -/
namespace Go.Proofs.YtpoibdhhcbelnaaGreatDoor
open Go.RowKit Brm

/-- A slice that leads to a row of cells in one of some blocks. -/
def Own (w : World) (A : Nat → Prop) (e : TypeId) (size : Nat) (v : Value) (n : Nat) (xs : List Value) : Prop := w.ownsRow 0 e size v n xs ∧ ∀ g, v.ownBlock = some g → A g
/-- A set of the reference's, in places. -/
def SetV (w : World) (A : Nat → Prop) (v : Value) (s : List (Int × Int)) : Prop := ∃ q, Brm.PCanon q ∧ Brm.told q = s ∧
  ((v = .slice none 0 0 ∧ q = []) ∨ ∃ b off cap, v = .slice (some ⟨b, off, none⟩) q.length cap ∧ q.length ≤ cap ∧ A b ∧ b < w.heap.size ∧ Rd w (some ⟨b, off, none⟩) q)
def int64 (n : Int) : Value := .int .i64 n
def nil : Value := .slice none 0 0
mutual
def NV (w : World) (A : Nat → Prop) : Pat → List Value → Nat → Prop
  | .set s, c, _ => ∃ sv, c = [.int .i64 1, sv, .slice none 0 0, .int .i64 0, .int .i64 0, .int .i64 0] ∧ SetV w A sv s
  | .row l, c, g => ∃ lv xs, c = [.int .i64 2, .slice none 0 0, lv, .int .i64 0, .int .i64 0, .int .i64 0] ∧ Own w A 32 6 lv l.length xs ∧ NL w A l xs g
  | .or l, c, g => ∃ lv xs, c = [.int .i64 3, .slice none 0 0, lv, .int .i64 0, .int .i64 0, .int .i64 0] ∧ Own w A 32 6 lv l.length xs ∧ NL w A l xs g
  | .and l, c, g => ∃ lv xs, c = [.int .i64 4, .slice none 0 0, lv, .int .i64 0, .int .i64 0, .int .i64 0] ∧ Own w A 32 6 lv l.length xs ∧ NL w A l xs g
  | .not p, c, g => ∃ lv xs, c = [.int .i64 5, .slice none 0 0, lv, .int .i64 0, .int .i64 0, .int .i64 0] ∧ Own w A 32 6 lv 1 xs ∧ NV w A p xs g
  | .many p m n, c, g => ∃ lv xs, c = [.int .i64 6, .slice none 0 0, lv, .int .i64 m, .int .i64 n, .int .i64 0] ∧ Own w A 32 6 lv 1 xs ∧ NV w A p xs g
  | .group p, c, g => ∃ lv xs, c = [.int .i64 7, .slice none 0 0, lv, .int .i64 0, .int .i64 0, .int .i64 g] ∧ Own w A 32 6 lv 1 xs ∧ NV w A p xs (g + 1)
def NL (w : World) (A : Nat → Prop) : List Pat → List Value → Nat → Prop
  | [], xs, _ => xs = []
  | p :: l, xs, g => ∃ c r, xs = c ++ r ∧ NV w A p c g ∧ NL w A l r (g + p.groups)
end

/-- Blocks that are as they were. -/
def Keeps (A : Nat → Prop) (w w' : World) : Prop := w.heap.size ≤ w'.heap.size ∧ ∀ k, k < w.heap.size → A k → w'.heap[k]? = w.heap[k]?
theorem Keeps.off {A : Nat → Prop} {b : Nat} {w w' : World} (h : Off b w w') (hb : ¬ A b) : Keeps A w w' := ⟨h.size, fun k hk ha => h.block k hk (fun e => hb (e ▸ ha))⟩
theorem Keeps.below {A : Nat → Prop} {w w' : World} (h : Below w.heap.size w w') : Keeps A w w' := ⟨h.size, fun k hk _ => h.block k hk⟩
theorem Keeps.grown {A : Nat → Prop} {w w' : World} {row : Option Nat} (h : w.grownBy w' row) (hr : ∀ k, row = some k → ¬ A k) : Keeps A w w' := ⟨h.size, fun k hk ha => h.block k hk (fun e => hr k e.symm ha)⟩
theorem Keeps.set {A : Nat → Prop} {w : World} {p : Addr} (u : Value) (h : ¬ A p.block) : Keeps A w (w.setCell p u) := ⟨by simp [World.setCell], fun k _ ha => Below.heap_setCell _ _ _ _ (fun e => h (e ▸ ha))⟩
theorem Keeps.trans {A : Nat → Prop} {a b c : World} (h : Keeps A a b) (k : Keeps A b c) : Keeps A a c := ⟨Nat.le_trans h.1 k.1, fun i hi ha => (k.2 i (Nat.lt_of_lt_of_le hi h.1) ha).trans (h.2 i hi ha)⟩
theorem Keeps.refl (A : Nat → Prop) (w : World) : Keeps A w w := ⟨Nat.le_refl _, fun _ _ _ => rfl⟩
theorem Keeps.alloc (A : Nat → Prop) (w : World) (o : Obj) : Keeps A w (w.alloc o) := ⟨by simp, fun _ hk _ => Below.heap_alloc _ _ _ hk⟩
theorem Keeps.drew {A : Nat → Prop} {a w : World} (h : Keeps A a w) : Keeps A a w.drew := h
theorem Keeps.drewN {A : Nat → Prop} {a w : World} (h : Keeps A a w) (n : Nat) : Keeps A a (w.drewN n) := h
theorem own_block {w : World} {B : Nat} {e : TypeId} {size : Nat} {v : Value} {n : Nat} {xs : List Value} {w' : World} (h : w.ownsRow B e size v n xs) (hk : ∀ g, v.ownBlock = some g → w'.heap[g]? = w.heap[g]?) : w'.ownsRow B e size v n xs := by
  refine ⟨h.1, ?_⟩
  rcases h.2 with h2 | ⟨g, cap, cur, rfl, h3, h4, r⟩
  · exact .inl h2
  · exact .inr ⟨g, cap, cur, rfl, h3, (hk g rfl).trans h4, r⟩
theorem Own.keep {A : Nat → Prop} {w w' : World} {e : TypeId} {size : Nat} {v : Value} {n : Nat} {xs : List Value} (h : Own w A e size v n xs) (k : Keeps A w w') : Own w' A e size v n xs :=
  ⟨own_block h.1 (fun g hg => k.2 g (h.1.lt g hg).2 (h.2 g hg)), h.2⟩
theorem Own.mono {A A' : Nat → Prop} {w : World} {e : TypeId} {size : Nat} {v : Value} {n : Nat} {xs : List Value} (h : Own w A e size v n xs) (k : ∀ g, g < w.heap.size → A g → A' g) : Own w A' e size v n xs :=
  ⟨h.1, fun g hg => k g (h.1.lt g hg).2 (h.2 g hg)⟩
theorem SetV.keep {A : Nat → Prop} {w w' : World} {v : Value} {s : List (Int × Int)} (h : SetV w A v s) (k : Keeps A w w') : SetV w' A v s := by
  obtain ⟨q, h1, h2, h3⟩ := h
  refine ⟨q, h1, h2, ?_⟩
  rcases h3 with h3 | ⟨b, off, cap, e, hc, ha, hb, hr⟩
  · exact .inl h3
  · refine .inr ⟨b, off, cap, e, hc, ha, Nat.lt_of_lt_of_le hb k.1, ?_⟩
    intro i x hx
    obtain ⟨b', off', e', hb', c1, c2⟩ := hr i x hx
    cases e'
    have hk := k.2 b hb ha
    exact ⟨b, off, rfl, Nat.lt_of_lt_of_le hb k.1, by rw [World.cell?_of_block (w := w) hk]; exact c1, by rw [World.cell?_of_block (w := w) hk]; exact c2⟩
theorem SetV.mono {A A' : Nat → Prop} {w : World} {v : Value} {s : List (Int × Int)} (h : SetV w A v s) (k : ∀ g, g < w.heap.size → A g → A' g) : SetV w A' v s := by
  obtain ⟨q, h1, h2, h3⟩ := h
  refine ⟨q, h1, h2, ?_⟩
  rcases h3 with h3 | ⟨b, off, cap, e, hc, ha, hb, hr⟩
  · exact .inl h3
  · exact .inr ⟨b, off, cap, e, hc, k b hb ha, hb, hr⟩
mutual
theorem NV.keep {A : Nat → Prop} {w w' : World} (k : Keeps A w w') : ∀ (p : Pat) (c : List Value) (g : Nat), NV w A p c g → NV w' A p c g
  | .set s, c, g, h => by obtain ⟨sv, e, hs⟩ := h; exact ⟨sv, e, hs.keep k⟩
  | .row l, c, g, h => by obtain ⟨lv, xs, e, ho, hl⟩ := h; exact ⟨lv, xs, e, ho.keep k, NL.keep k l xs g hl⟩
  | .or l, c, g, h => by obtain ⟨lv, xs, e, ho, hl⟩ := h; exact ⟨lv, xs, e, ho.keep k, NL.keep k l xs g hl⟩
  | .and l, c, g, h => by obtain ⟨lv, xs, e, ho, hl⟩ := h; exact ⟨lv, xs, e, ho.keep k, NL.keep k l xs g hl⟩
  | .not p, c, g, h => by obtain ⟨lv, xs, e, ho, hl⟩ := h; exact ⟨lv, xs, e, ho.keep k, NV.keep k p xs g hl⟩
  | .many p m n, c, g, h => by obtain ⟨lv, xs, e, ho, hl⟩ := h; exact ⟨lv, xs, e, ho.keep k, NV.keep k p xs g hl⟩
  | .group p, c, g, h => by obtain ⟨lv, xs, e, ho, hl⟩ := h; exact ⟨lv, xs, e, ho.keep k, NV.keep k p xs (g + 1) hl⟩
theorem NL.keep {A : Nat → Prop} {w w' : World} (k : Keeps A w w') : ∀ (l : List Pat) (xs : List Value) (g : Nat), NL w A l xs g → NL w' A l xs g
  | [], xs, g, h => h
  | p :: l, xs, g, h => by obtain ⟨c, r, e, hp, hl⟩ := h; exact ⟨c, r, e, NV.keep k p c g hp, NL.keep k l r _ hl⟩
end
mutual
theorem NV.mono {A A' : Nat → Prop} {w : World} (k : ∀ g, g < w.heap.size → A g → A' g) : ∀ (p : Pat) (c : List Value) (g : Nat), NV w A p c g → NV w A' p c g
  | .set s, c, g, h => by obtain ⟨sv, e, hs⟩ := h; exact ⟨sv, e, hs.mono k⟩
  | .row l, c, g, h => by obtain ⟨lv, xs, e, ho, hl⟩ := h; exact ⟨lv, xs, e, ho.mono k, NL.mono k l xs g hl⟩
  | .or l, c, g, h => by obtain ⟨lv, xs, e, ho, hl⟩ := h; exact ⟨lv, xs, e, ho.mono k, NL.mono k l xs g hl⟩
  | .and l, c, g, h => by obtain ⟨lv, xs, e, ho, hl⟩ := h; exact ⟨lv, xs, e, ho.mono k, NL.mono k l xs g hl⟩
  | .not p, c, g, h => by obtain ⟨lv, xs, e, ho, hl⟩ := h; exact ⟨lv, xs, e, ho.mono k, NV.mono k p xs g hl⟩
  | .many p m n, c, g, h => by obtain ⟨lv, xs, e, ho, hl⟩ := h; exact ⟨lv, xs, e, ho.mono k, NV.mono k p xs g hl⟩
  | .group p, c, g, h => by obtain ⟨lv, xs, e, ho, hl⟩ := h; exact ⟨lv, xs, e, ho.mono k, NV.mono k p xs (g + 1) hl⟩
theorem NL.mono {A A' : Nat → Prop} {w : World} (k : ∀ g, g < w.heap.size → A g → A' g) : ∀ (l : List Pat) (xs : List Value) (g : Nat), NL w A l xs g → NL w A' l xs g
  | [], xs, g, h => h
  | p :: l, xs, g, h => by obtain ⟨c, r, e, hp, hl⟩ := h; exact ⟨c, r, e, NV.mono k p c g hp, NL.mono k l r _ hl⟩
end
/-- A slice, of whatever. -/
def IsSl (v : Value) : Prop := ∃ so sn sc, v = .slice so sn sc
theorem own_isl {w : World} {A : Nat → Prop} {e : TypeId} {size : Nat} {v : Value} {n : Nat} {xs : List Value} (h : Own w A e size v n xs) : IsSl v := by
  rcases h.1.2 with ⟨rfl, _⟩ | ⟨g, cap, cur, rfl, _⟩ <;> exact ⟨_, _, _, rfl⟩
theorem set_isl {w : World} {A : Nat → Prop} {v : Value} {s : List (Int × Int)} (h : SetV w A v s) : IsSl v := by
  obtain ⟨q, _, _, ⟨rfl, _⟩ | ⟨b, off, cap, rfl, _⟩⟩ := h <;> exact ⟨_, _, _, rfl⟩
/-- The cells of a node. -/
def Six (k : Int) (so : Option Addr) (sn sc : Nat) (lo : Option Addr) (ln lc : Nat) (mm nn rr : Int) : List Value := [.int .i64 k, .slice so sn sc, .slice lo ln lc, .int .i64 mm, .int .i64 nn, .int .i64 rr]
theorem NV.len {w : World} {A : Nat → Prop} {p : Pat} {c : List Value} {g : Nat} (h : NV w A p c g) : ∃ k so sn sc lo ln lc m n r, c = Six k so sn sc lo ln lc m n r := by
  cases p with
  | set s => obtain ⟨sv, rfl, hs⟩ := h; obtain ⟨so, sn, sc, rfl⟩ := set_isl hs; exact ⟨_, _, _, _, _, _, _, _, _, _, rfl⟩
  | row l => obtain ⟨lv, xs, rfl, ho, hl⟩ := h; obtain ⟨so, sn, sc, rfl⟩ := own_isl ho; exact ⟨_, _, _, _, _, _, _, _, _, _, rfl⟩
  | or l => obtain ⟨lv, xs, rfl, ho, hl⟩ := h; obtain ⟨so, sn, sc, rfl⟩ := own_isl ho; exact ⟨_, _, _, _, _, _, _, _, _, _, rfl⟩
  | and l => obtain ⟨lv, xs, rfl, ho, hl⟩ := h; obtain ⟨so, sn, sc, rfl⟩ := own_isl ho; exact ⟨_, _, _, _, _, _, _, _, _, _, rfl⟩
  | not p => obtain ⟨lv, xs, rfl, ho, hl⟩ := h; obtain ⟨so, sn, sc, rfl⟩ := own_isl ho; exact ⟨_, _, _, _, _, _, _, _, _, _, rfl⟩
  | many p m n => obtain ⟨lv, xs, rfl, ho, hl⟩ := h; obtain ⟨so, sn, sc, rfl⟩ := own_isl ho; exact ⟨_, _, _, _, _, _, _, _, _, _, rfl⟩
  | group p => obtain ⟨lv, xs, rfl, ho, hl⟩ := h; obtain ⟨so, sn, sc, rfl⟩ := own_isl ho; exact ⟨_, _, _, _, _, _, _, _, _, _, rfl⟩
theorem NV.six {w : World} {A : Nat → Prop} {p : Pat} {c : List Value} {g : Nat} (h : NV w A p c g) : c.length = 6 := by
  obtain ⟨k, so, sn, sc, lo, ln, lc, m, n, r, rfl⟩ := h.len; rfl
theorem NL.snoc {w : World} {A : Nat → Prop} : ∀ (l : List Pat) (xs : List Value) (g : Nat) (p : Pat) (c : List Value), NL w A l xs g → NV w A p c (g + Brm.groupsL l) → NL w A (l ++ [p]) (xs ++ c) g
  | [], xs, g, p, c, h, hp => by
    have : xs = [] := h
    subst this
    exact ⟨c, [], by simp, by simpa [Brm.groupsL] using hp, rfl⟩
  | q :: l, xs, g, p, c, h, hp => by
    obtain ⟨d, r, rfl, hq, hl⟩ := h
    exact ⟨d, r ++ c, by simp, hq, NL.snoc l r _ p c hl (by simp only [Brm.groupsL] at hp; rw [Nat.add_assoc]; exact hp)⟩
theorem NL.at {w : World} {A : Nat → Prop} : ∀ (l : List Pat) (xs : List Value) (g : Nat), NL w A l xs g → ∀ (i : Nat) (p : Pat), l[i]? = some p → ∃ c g', NV w A p c g' ∧ c = (xs.drop (i * 6)).take 6
  | [], _, _, _, i, p, hi => by simp at hi
  | q :: l, xs, g, h, 0, p, hi => by
    obtain ⟨d, r, rfl, hq, hl⟩ := h
    simp at hi; subst hi
    exact ⟨d, g, hq, by have := hq.six; simp [← this]⟩
  | q :: l, xs, g, h, i + 1, p, hi => by
    obtain ⟨d, r, rfl, hq, hl⟩ := h
    obtain ⟨c, g', hc, e⟩ := NL.at l r _ hl i p (by simpa using hi)
    refine ⟨c, g', hc, ?_⟩
    rw [e]
    have := hq.six
    rw [show (i + 1) * 6 = d.length + i * 6 from by omega, ← List.drop_drop]
    simp
theorem NL.len {w : World} {A : Nat → Prop} : ∀ (l : List Pat) (xs : List Value) (g : Nat), NL w A l xs g → xs.length = l.length * 6
  | [], _, _, h => by rw [show _ = [] from h]; rfl
  | q :: l, xs, g, h => by
    obtain ⟨d, r, rfl, hq, hl⟩ := h
    have := NL.len l r _ hl
    have := hq.six
    simp only [List.length_append, List.length_cons]; omega
end Go.Proofs.YtpoibdhhcbelnaaGreatDoor
/- The reference's reader, rune by rune: walks. -/
namespace Go.Proofs.YtpoibdhhcbelnaaGreatDoor
open Go.RowKit Brm

/-- A reader in memory: its runes, its place, where it has gone wrong, groups, how deep, how deep at most. -/
def Rdr (w : World) (b : Nat) (lv : Value) (i bad g d m : Int) : Prop := Blk w b [lv, .int .i64 i, .int .i64 bad, .int .i64 g, .int .i64 d, .int .i64 m] 127
/-- Runes in memory. -/
def Txt (w : World) (b : Nat) (lv : Value) (l : List Int) : Prop := Own w (fun k => k ≠ b) 3 1 lv l.length (l.map fun c => .int .i64 c)
/-- A reader that has gone well so far: what is left. -/
def St (w : World) (b : Nat) (lv : Value) (l s : List Int) (g d m : Int) : Prop :=
  Rdr w b lv ((l.length - s.length : Nat) : Int) (-1) g d m ∧ s <:+ l ∧ Txt w b lv l ∧ l.length ≤ 60 ∧ AllR l ∧ 0 ≤ g ∧ g ≤ ((l.length - s.length : Nat) : Int) ∧ 0 ≤ d ∧ d ≤ ((l.length - s.length : Nat) : Int) ∧ 0 ≤ m ∧ m ≤ ((l.length - s.length : Nat) : Int) ∧ d ≤ m
/-- One that has gone wrong: the runes from the first that may not stand. -/
def Bad (w : World) (b : Nat) (lv : Value) (l s : List Int) (d : Int) : Prop := ∃ i g m : Int, Rdr w b lv i ((l.length - s.length : Nat) : Int) g d m
def nextV (s : List Int) : Int := match s with | [] => -1 | c :: _ => c

theorem txt_form {w : World} {b : Nat} {lv : Value} {l : List Int} (h : Txt w b lv l) : ∃ ao cap, lv = .slice ao l.length cap ∧ ∀ i c, l[i]? = some c → ∃ bl, ao = some ⟨bl, 0, none⟩ ∧ bl < w.heap.size ∧ bl ≠ b ∧ w.cell? ⟨bl, i, none⟩ = some (.int .i64 c) := by
  obtain ⟨h1, h2⟩ := h
  rcases h1.2 with ⟨rfl, h0⟩ | ⟨g, cap, cur, rfl, hg, hh, hn, hm, hs, ht⟩
  · exact ⟨none, 0, by rw [h0], fun i c hi => by rw [List.length_eq_zero_iff.1 h0] at hi; simp at hi⟩
  · refine ⟨_, cap, rfl, fun i c hi => ⟨g, rfl, (h1.lt g rfl).2, h2 g rfl, ?_⟩⟩
    have := h1.cells rfl i (.int .i64 c) (by rw [List.getElem?_map, hi]; rfl)
    rw [Addr.add_lit] at this; simpa using this
/-- A world that has drawn. -/
def Drn (w w' : World) : Prop := ∃ n, w' = w.drewN n
theorem drn_one (w : World) (n : Nat) : Drn w (w.drewN n) := ⟨n, rfl⟩
theorem drn_refl (w : World) : Drn w w := ⟨0, rfl⟩
theorem drn_trans {a b c : World} (h : Drn a b) (k : Drn b c) : Drn a c := by
  obtain ⟨n, rfl⟩ := h; obtain ⟨m, rfl⟩ := k; exact ⟨n + m, by simp [World.drewN, Nat.add_assoc]⟩
theorem suf_at {s l : List Int} (h : s <:+ l) {c : Int} {t : List Int} (hs : s = c :: t) : l[l.length - s.length]? = some c := by
  obtain ⟨p, rfl⟩ := h
  subst hs
  rw [List.length_append, Nat.add_sub_cancel, List.getElem?_append_right (Nat.le_refl _), Nat.sub_self]; rfl
theorem St.cells {w : World} {b : Nat} {lv : Value} {l s : List Int} {g d m : Int} (h : St w b lv l s g d m) :
    w.cell? ⟨b, 0, none⟩ = some lv ∧ w.cell? ⟨b, 1, none⟩ = some (.int .i64 ((l.length - s.length : Nat) : Int)) ∧ w.cell? ⟨b, 2, none⟩ = some (.int .i64 (-1)) ∧ w.cell? ⟨b, 3, none⟩ = some (.int .i64 g) ∧ w.cell? ⟨b, 4, none⟩ = some (.int .i64 d) ∧ w.cell? ⟨b, 5, none⟩ = some (.int .i64 m) ∧ b < w.heap.size :=
  ⟨h.1.cell 0, h.1.cell 1, h.1.cell 2, h.1.cell 3, h.1.cell 4, h.1.cell 5, h.1.lt⟩

set_option maxRecDepth 100000 in
set_option maxHeartbeats 400000 in
theorem next_any (b : Nat) (lv : Value) (l s : List Int) (g d m : Int) (w : World) (h : St w b lv l s g d m) :
    Calls Tryz.prog 168 #[.pointer (some ⟨b, 0, none⟩)] w fun e w' => e = .returned (.int .i64 (nextV s)) ∧ Drn w w' := by
  have HS := hide h
  obtain ⟨c0, c1, c2, _, _, _, hb⟩ := h.cells
  obtain ⟨ao, cap, rfl, hcells⟩ := txt_form h.2.2.1
  have hl := h.2.2.2.1
  have hsl := h.2.1.length_le
  clear h
  cases s with
  | nil =>
    simp only [List.length_nil, Nat.sub_zero] at c1
    have h1 : decide ((l.length : Int) ≤ (l.length : Int)) = true := by simp
    go_enter Tryz.func168, Tryz.ntmps168
    go_wp2_with fail
    go_quiet (fail)
    go_wp2
    go_ret
    exact ⟨rfl, drn_one _ _⟩
  | cons c t =>
    have hat := suf_at HS.out.2.1 rfl
    obtain ⟨bl, rfl, hbl, hbb, hc⟩ := hcells _ c hat
    generalize hk : l.length - (c :: t).length = k at c1 hc hat
    have hkl : k < l.length := (List.getElem?_eq_some_iff.1 hat).1
    clear hat hcells
    have i1 : (0 : Int) ≤ (k : Int) := Int.natCast_nonneg _
    have i2 : (k : Int) < (l.length : Int) := by omega
    have h2 : decide ((l.length : Int) ≤ (k : Int)) = false := by simp; omega
    go_enter Tryz.func168, Tryz.ntmps168
    go_wp2_with fail
    go_quiet (fail)
    go_wp2_with fail
    go_quiet (fail)
    go_wp2
    go_ret
    exact ⟨rfl, drn_trans (drn_one _ _) (drn_one _ _)⟩
theorem Off.drn {b : Nat} {w w' : World} (h : Drn w w') : Off b w w' := by obtain ⟨n, rfl⟩ := h; exact (Off.refl _ _).drewN n
theorem Drn.below {w w' : World} (h : Drn w w') : Below w.heap.size w w' := by obtain ⟨n, rfl⟩ := h; exact below_drawn (Below.refl _ _)
theorem St.drn {w w' : World} {b : Nat} {lv : Value} {l s : List Int} {g d m : Int} (h : St w b lv l s g d m) (k : Drn w w') : St w' b lv l s g d m := by obtain ⟨n, rfl⟩ := k; exact h
theorem Txt.off {w w' : World} {b : Nat} {lv : Value} {l : List Int} (h : Txt w b lv l) (k : Off b w w') : Txt w' b lv l := Own.keep h (Keeps.off k (fun e => e rfl))
theorem nextV_ge {w : World} {b : Nat} {lv : Value} {l s : List Int} {g d m : Int} (h : St w b lv l s g d m) : -1 ≤ nextV s ∧ nextV s ≤ 1114111 := by
  have ha := h.2.2.2.2.1.suf h.2.1
  cases s with
  | nil => exact ⟨by simp [nextV], by simp [nextV]⟩
  | cons c t => have := (rune_iff c).1 (ha c (by simp)); simp only [nextV]; omega
/-- One rune further. -/
theorem St.step {w : World} {b : Nat} {lv : Value} {l t : List Int} {c g d m : Int} (h : St w b lv l (c :: t) g d m) : St (w.setCell ⟨b, 1, none⟩ (.int .i64 (((l.length - (c :: t).length : Nat) : Int) + 1))) b lv l t g d m ∧ Off b w (w.setCell ⟨b, 1, none⟩ (.int .i64 (((l.length - (c :: t).length : Nat) : Int) + 1))) := by
  have ho : Off b w (w.setCell ⟨b, 1, none⟩ (.int .i64 (((l.length - (c :: t).length : Nat) : Int) + 1))) := (Off.refl _ _).setCell 1 _
  have hbd := h.2.2.2.2.2
  refine ⟨⟨?_, (List.suffix_cons c t).trans h.2.1, h.2.2.1.off ho, h.2.2.2.1, h.2.2.2.2.1, by simp only [List.length_cons] at hbd; omega⟩, ho⟩
  have h1 := h.1.set 1 (.int .i64 (((l.length - (c :: t).length : Nat) : Int) + 1))
  have hl := h.2.1.length_le
  have e : (((l.length - (c :: t).length : Nat) : Int) + 1) = ((l.length - t.length : Nat) : Int) := by simp only [List.length_cons] at hl ⊢; omega
  rw [e] at h1 ⊢
  exact h1
theorem St.fail {w : World} {b : Nat} {lv : Value} {l s : List Int} {g d m : Int} (h : St w b lv l s g d m) : Bad (w.setCell ⟨b, 2, none⟩ (.int .i64 ((l.length - s.length : Nat) : Int))) b lv l s d ∧ Off b w (w.setCell ⟨b, 2, none⟩ (.int .i64 ((l.length - s.length : Nat) : Int))) :=
  ⟨⟨_, _, _, h.1.set 2 _⟩, (Off.refl _ _).setCell 2 _⟩
theorem Bad.off {w w' : World} {b : Nat} {lv : Value} {l s : List Int} {d : Int} (h : Bad w b lv l s d) (k : Drn w w') : Bad w' b lv l s d := by obtain ⟨n, rfl⟩ := k; exact h
theorem Bad.cells {w : World} {b : Nat} {lv : Value} {l s : List Int} {d : Int} (h : Bad w b lv l s d) :
    ∃ i g m : Int, w.cell? ⟨b, 0, none⟩ = some lv ∧ w.cell? ⟨b, 1, none⟩ = some (.int .i64 i) ∧ w.cell? ⟨b, 2, none⟩ = some (.int .i64 ((l.length - s.length : Nat) : Int)) ∧ w.cell? ⟨b, 3, none⟩ = some (.int .i64 g) ∧ w.cell? ⟨b, 4, none⟩ = some (.int .i64 d) ∧ w.cell? ⟨b, 5, none⟩ = some (.int .i64 m) ∧ b < w.heap.size := by
  obtain ⟨i, g, m, h⟩ := h
  exact ⟨i, g, m, h.cell 0, h.cell 1, h.cell 2, h.cell 3, h.cell 4, h.cell 5, h.lt⟩

set_option maxRecDepth 100000 in
set_option maxHeartbeats 400000 in
theorem next_bad (b : Nat) (lv : Value) (l s : List Int) (w : World) {d : Int} (h : Bad w b lv l s d) :
    Calls Tryz.prog 168 #[.pointer (some ⟨b, 0, none⟩)] w fun e w' => e = .returned (.int .i64 (-1)) ∧ Drn w w' := by
  obtain ⟨i, g, m, c0, c1, c2, _, _, _, hb⟩ := h.cells
  generalize hk : l.length - s.length = k at c2
  have h1 : decide ((0 : Int) ≤ (k : Int)) = true := by simp
  clear h hk
  go_enter Tryz.func168, Tryz.ntmps168
  go_wp2_with fail
  go_quiet (fail)
  go_wp2
  go_ret
  exact ⟨rfl, drn_one _ _⟩
set_option maxRecDepth 100000 in
set_option maxHeartbeats 400000 in
theorem fail_any (b : Nat) (lv : Value) (l s : List Int) (g d m : Int) (w : World) (h : St w b lv l s g d m) :
    Calls Tryz.prog 65 #[.pointer (some ⟨b, 0, none⟩)] w fun e w' => e = .returned (.tuple #[]) ∧ Bad w' b lv l s d ∧ Off b w w' := by
  have HS := hide h.fail
  obtain ⟨c0, c1, c2, _, _, _, hb⟩ := h.cells
  have hf := h.1.frozen 2
  clear h
  generalize hk : l.length - s.length = k at c1 HS
  clear hk
  go_enter Tryz.func65, Tryz.ntmps65
  go_wp2
  go_end0
  exact ⟨rfl, HS.out.1, HS.out.2⟩
set_option maxRecDepth 100000 in
set_option maxHeartbeats 400000 in
theorem fail_bad (b : Nat) (lv : Value) (l s : List Int) (w : World) {d : Int} (h : Bad w b lv l s d) :
    Calls Tryz.prog 65 #[.pointer (some ⟨b, 0, none⟩)] w fun e w' => e = .returned (.tuple #[]) ∧ w' = w := by
  obtain ⟨i, g, m, c0, c1, c2, _, _, _, hb⟩ := h.cells
  generalize hk : l.length - s.length = k at c2
  have h1 : decide ((k : Int) < 0) = false := by simp
  clear h hk
  go_enter Tryz.func65, Tryz.ntmps65
  go_wp2
  go_end0
  exact ⟨rfl, rfl⟩
theorem head_ne {s : List Int} {c : Int} (h : s.head? ≠ some c) (hc : 0 ≤ c) : nextV s ≠ c := by
  cases s with
  | nil => simp only [nextV]; omega
  | cons d t => simpa [nextV] using h
set_option maxRecDepth 100000 in
set_option maxHeartbeats 400000 in
theorem takes_yes (b : Nat) (lv : Value) (l t : List Int) (c g d m : Int) (w : World) (h : St w b lv l (c :: t) g d m) (h0 : 0 ≤ c) (h1 : c ≤ 255) :
    Calls Tryz.prog 117 #[.pointer (some ⟨b, 0, none⟩), .int .u8 c] w fun e w' => e = .returned (.bool true) ∧ St w' b lv l t g d m ∧ Off b w w' := by
  have HS := hide h
  go_enter Tryz.func117, Tryz.ntmps117
  go_wp2_with (go_at_call 168; refine (next_any _ _ _ _ _ _ _ _ HS.out).mono ?_; rintro e w1 ⟨rfl, hw1⟩; have HS1 := hide (HS.out.drn hw1).step; have HO := hide (Off.drn (b := b) hw1); obtain ⟨c0, c1, c2, _, _, _, hb⟩ := (HS.out.drn hw1).cells; have hf := (HS.out.drn hw1).1.frozen 1; have hlen := (HS.out.drn hw1).2.2.2.1; simp only [nextV])
  go_ret
  exact ⟨rfl, HS1.out.1, HO.out.trans HS1.out.2⟩
set_option maxRecDepth 100000 in
set_option maxHeartbeats 400000 in
theorem takes_no (b : Nat) (lv : Value) (l s : List Int) (c g d m : Int) (w : World) (h : St w b lv l s g d m) (h0 : 0 ≤ c) (h1 : c ≤ 255) (hn : s.head? ≠ some c) :
    Calls Tryz.prog 117 #[.pointer (some ⟨b, 0, none⟩), .int .u8 c] w fun e w' => e = .returned (.bool false) ∧ Drn w w' := by
  have HS := hide h
  have hne := head_ne hn h0
  generalize hx : nextV s = x at hne
  have HX := hide hx
  have hb1 : (x == c) = false := beq_eq_false_iff_ne.2 hne
  clear h hn hx hne
  go_enter Tryz.func117, Tryz.ntmps117
  go_wp2_with (go_at_call 168; refine (next_any _ _ _ _ _ _ _ _ HS.out).mono ?_; rintro e w1 ⟨rfl, hw1⟩; rw [HX.out])
  go_ret
  exact ⟨rfl, hw1⟩
set_option maxRecDepth 100000 in
set_option maxHeartbeats 400000 in
theorem takes_bad (b : Nat) (lv : Value) (l s : List Int) (c : Int) (w : World) {d : Int} (h : Bad w b lv l s d) (h0 : 0 ≤ c) (h1 : c ≤ 255) :
    Calls Tryz.prog 117 #[.pointer (some ⟨b, 0, none⟩), .int .u8 c] w fun e w' => e = .returned (.bool false) ∧ Drn w w' := by
  have HS := hide h
  have hb1 : ((-1 : Int) == c) = false := beq_eq_false_iff_ne.2 (by omega)
  clear h
  go_enter Tryz.func117, Tryz.ntmps117
  go_wp2_with (go_at_call 168; refine (next_bad _ _ _ _ _ HS.out).mono ?_; rintro e w1 ⟨rfl, hw1⟩)
  go_ret
  exact ⟨rfl, hw1⟩
end Go.Proofs.YtpoibdhhcbelnaaGreatDoor
/- The reference's reader: letters, signs and counts: walks. -/
namespace Go.Proofs.YtpoibdhhcbelnaaGreatDoor
open Go.RowKit Brm

set_option maxRecDepth 100000 in
set_option maxHeartbeats 400000 in
theorem must_yes (b : Nat) (lv : Value) (l t : List Int) (c g d m : Int) (w : World) (h : St w b lv l (c :: t) g d m) (h0 : 0 ≤ c) (h1 : c ≤ 255) :
    Calls Tryz.prog 299 #[.pointer (some ⟨b, 0, none⟩), .int .u8 c] w fun e w' => e = .returned (.tuple #[]) ∧ St w' b lv l t g d m ∧ Off b w w' := by
  have HS := hide h
  clear h
  go_enter Tryz.func299, Tryz.ntmps299
  go_wp2_with (go_at_call 117; refine (takes_yes _ _ _ _ _ _ _ _ _ HS.out h0 h1).mono ?_; rintro e w1 ⟨rfl, hw1, ho⟩; have HS1 := hide hw1; have HO := hide ho; clear hw1 ho)
  go_end0
  exact ⟨rfl, HS1.out, HO.out⟩
set_option maxRecDepth 100000 in
set_option maxHeartbeats 400000 in
theorem must_no (b : Nat) (lv : Value) (l s : List Int) (c g d m : Int) (w : World) (h : St w b lv l s g d m) (h0 : 0 ≤ c) (h1 : c ≤ 255) (hn : s.head? ≠ some c) :
    Calls Tryz.prog 299 #[.pointer (some ⟨b, 0, none⟩), .int .u8 c] w fun e w' => e = .returned (.tuple #[]) ∧ Bad w' b lv l s d ∧ Off b w w' := by
  have HS := hide h
  have HN := hide hn
  clear h hn
  go_enter Tryz.func299, Tryz.ntmps299
  go_wp2_with (first
    | (go_at_call 117; refine (takes_no _ _ _ _ _ _ _ _ _ HS.out h0 h1 HN.out).mono ?_; rintro e w1 ⟨rfl, hw1⟩; have HS1 := hide (HS.out.drn hw1); have HO := hide (Off.drn (b := b) hw1); clear hw1)
    | (go_at_call 65; refine (fail_any _ _ _ _ _ _ _ _ HS1.out).mono ?_; rintro e w2 ⟨rfl, hw2, ho2⟩; have HB := hide hw2; have HO2 := hide ho2; clear hw2 ho2))
  go_end0
  exact ⟨rfl, HB.out, HO.out.trans HO2.out⟩
set_option maxRecDepth 100000 in
set_option maxHeartbeats 400000 in
theorem must_bad (b : Nat) (lv : Value) (l s : List Int) (c : Int) (w : World) {d : Int} (h : Bad w b lv l s d) (h0 : 0 ≤ c) (h1 : c ≤ 255) :
    Calls Tryz.prog 299 #[.pointer (some ⟨b, 0, none⟩), .int .u8 c] w fun e w' => e = .returned (.tuple #[]) ∧ Bad w' b lv l s d ∧ Drn w w' := by
  have HS := hide h
  clear h
  go_enter Tryz.func299, Tryz.ntmps299
  go_wp2_with (first
    | (go_at_call 117; refine (takes_bad _ _ _ _ _ _ HS.out h0 h1).mono ?_; rintro e w1 ⟨rfl, hw1⟩; have HS1 := hide (HS.out.off hw1); have HO := hide hw1; clear hw1)
    | (go_at_call 65; refine (fail_bad _ _ _ _ _ HS1.out).mono ?_; rintro e w2 ⟨rfl, rfl⟩))
  go_end0
  exact ⟨rfl, HS1.out, HO.out⟩

def amongB (c : Int) (s : ByteArray) : Bool := s.data.toList.any fun x => (x.toNat : Int) == c
theorem take_snoc (s : ByteArray) (k : Nat) (h : k < s.size) : s.data.toList.take (k + 1) = s.data.toList.take k ++ [s[k]] := by
  rw [List.take_succ_eq_append_getElem (by simpa using h)]; rfl
set_option maxRecDepth 100000 in
set_option maxHeartbeats 400000 in
theorem among_any (c : Int) (s : ByteArray) (w : World) (hs : s.size ≤ 1000) : Calls Tryz.prog 171 #[.int .i64 c, .string s] w fun e w' => e = .returned (.bool (amongB c s)) ∧ w' = w := by
  go_enter Tryz.func171, Tryz.ntmps171
  go_wp2
  go_loop [5] (fun i => ∃ k : Nat, k ≤ s.size ∧ i = .int .i64 k ∧ ((s.data.toList.take k).any fun x => (x.toNat : Int) == c) = false) (fun i => s.size - (intOf i).toNat)
  case atStart => exact ⟨0, Nat.zero_le _, rfl, rfl⟩
  case round =>
    obtain ⟨k, hk, rfl, hm⟩ := hrel
    have HM := hide hm; clear hm
    by_cases hlt : k < s.size
    · have HT := hide (take_snoc s k hlt)
      have q0 : (0 : Int) ≤ (s[k].toNat : Int) := Int.natCast_nonneg _
      have q1 : (s[k].toNat : Int) ≤ 255 := by have := s[k].toNat_lt; omega
      by_cases hc : (s[k].toNat : Int) = c
      · subst hc
        go_wp2
        go_ret
        refine ⟨ret_bool ?_, rfl⟩
        unfold amongB
        symm
        rw [List.any_eq_true]
        exact ⟨s[k], by rw [← List.take_append_drop (k + 1) s.data.toList, HT.out]; simp, by simp⟩
      · have hb : ((s[k].toNat : Int) == c) = false := beq_eq_false_iff_ne.2 hc
        have HB := hide hb
        clear hc
        go_wp2
        go_round
        case rel => exact ⟨k + 1, by omega, by go_num, by rw [HT.out, List.any_append, HM.out]; simpa using HB.out⟩
        case measure => simp [intOf]; omega
    · go_wp2
      go_ret
      exact ⟨ret_bool (by unfold amongB; rw [← HM.out, List.take_of_length_le (by simp; omega)]), rfl⟩
theorem amongB_signs (c : Int) : amongB c { data := #[124, 38, 126, 42, 43, 63, 123, 125, 46, 92, 91, 93, 40, 41, 45, 94, 110, 116, 114] } = isSign c := by
  rw [Bool.eq_iff_iff]
  simp [amongB, isSign]
  omega
theorem amongB_classes (c : Int) : amongB c { data := #[100, 119, 115, 68, 87, 83] } = isClass c := by
  rw [Bool.eq_iff_iff]
  simp [amongB, isClass]
  omega
theorem amongB_inner (c : Int) : amongB c { data := #[91, 93, 92, 45, 94] } = inner c := by
  rw [Bool.eq_iff_iff]
  simp [amongB, inner]
  omega
theorem amongB_special (c : Int) : amongB c { data := #[124, 38, 126, 42, 43, 63, 123, 125, 46, 92, 91, 93, 40, 41] } = special c := by
  rw [Bool.eq_iff_iff]
  simp [amongB, special]
  omega

set_option maxRecDepth 100000 in
set_option maxHeartbeats 400000 in
theorem sign_any (c : Int) (w : World) : Calls Tryz.prog 313 #[.int .i64 c] w fun e w' => e = .returned (.int .i64 (signOf c)) ∧ w' = w := by
  by_cases h1 : c = 110
  · subst h1; go_enter Tryz.func313, Tryz.ntmps313; go_wp2; go_ret; exact ⟨rfl, rfl⟩
  · by_cases h2 : c = 116
    · subst h2; go_enter Tryz.func313, Tryz.ntmps313; go_wp2; go_ret; exact ⟨rfl, rfl⟩
    · by_cases h3 : c = 114
      · subst h3; go_enter Tryz.func313, Tryz.ntmps313; go_wp2; go_ret; exact ⟨rfl, rfl⟩
      · have b1 : (c == 110) = false := beq_eq_false_iff_ne.2 h1
        have b2 : (c == 116) = false := beq_eq_false_iff_ne.2 h2
        have b3 : (c == 114) = false := beq_eq_false_iff_ne.2 h3
        have HE : Hid (signOf c = c) := by show signOf c = c; unfold signOf; rw [if_neg h1, if_neg h2, if_neg h3]
        clear h1 h2 h3
        go_enter Tryz.func313, Tryz.ntmps313
        go_wp2
        go_ret
        exact ⟨ret_int HE.out.symm, rfl⟩

/-- How a call of a reader's ends, by what reading it is. -/
def Done {α : Type} (b : Nat) (lv : Value) (l : List Int) (g d m : Int) (r : Res α) (w' : World) (P : α → Prop) (Q : Prop) : Prop := match r with | .ok a s => St w' b lv l s g d m ∧ P a | .bad s => Bad w' b lv l s d ∧ Q

set_option maxRecDepth 100000 in
set_option maxHeartbeats 400000 in
theorem count_any (b : Nat) (lv : Value) (l s : List Int) (least g d m : Int) (w : World) (h : St w b lv l s g d m) (h0 : 0 ≤ least) (h1 : least ≤ 5) :
    Calls Tryz.prog 302 #[.pointer (some ⟨b, 0, none⟩), .int .i64 least] w fun e w' => ∃ v, e = .returned v ∧ Off b w w' ∧ Done b lv l g d m (countP least s) w' (fun n => v = .int .i64 n) (v = .int .i64 0) := by
  have HS := hide h
  have hnv := nextV_ge h
  by_cases hc : ∃ c t, s = c :: t ∧ 48 + least ≤ c ∧ c ≤ 53
  · obtain ⟨c, t, rfl, h2, h3⟩ := hc
    have HR : Hid (countP least (c :: t) = .ok (c - 48) t) := by show _ = _; simp only [countP]; rw [if_pos ⟨h2, h3⟩]
    clear h
    go_enter Tryz.func302, Tryz.ntmps302
    go_wp2_with (go_at_call 168; refine (next_any _ _ _ _ _ _ _ _ HS.out).mono ?_; rintro e w1 ⟨rfl, hw1⟩; have HS1 := hide (HS.out.drn hw1).step; have HO := hide (Off.drn (b := b) hw1); obtain ⟨c0, c1, c2, _, _, _, hb⟩ := (HS.out.drn hw1).cells; have hf := (HS.out.drn hw1).1.frozen 1; have hlen := (HS.out.drn hw1).2.2.2.1; simp only [nextV])
    go_ret
    exact ⟨_, rfl, HO.out.trans HS1.out.2, by rw [HR.out]; exact ⟨HS1.out.1, rfl⟩⟩
  · have HR : Hid (countP least s = .bad s) := by
      show _ = _
      cases s with
      | nil => rfl
      | cons c t => simp only [countP]; rw [if_neg (fun hh => hc ⟨c, t, rfl, hh⟩)]
    have HC : ¬ (48 + least ≤ nextV s ∧ nextV s ≤ 53) := by
      intro hh
      cases s with
      | nil => simp [nextV] at hh; omega
      | cons c t => exact hc ⟨c, t, rfl, hh⟩
    clear hc h
    generalize hx : nextV s = x at HC hnv
    have HX := hide hx
    clear hx
    by_cases hlo : 48 + least ≤ x
    · have hhi : ¬ x ≤ 53 := fun hh => HC ⟨hlo, hh⟩
      have hd : decide (x ≤ 53) = false := by simpa using hhi
      clear HC hhi
      go_enter Tryz.func302, Tryz.ntmps302
      go_wp2_with (first
        | (go_at_call 168; refine (next_any _ _ _ _ _ _ _ _ HS.out).mono ?_; rintro e w1 ⟨rfl, hw1⟩; have HS1 := hide (HS.out.drn hw1); have HO := hide (Off.drn (b := b) hw1); clear hw1; rw [HX.out])
        | (go_at_call 65; refine (fail_any _ _ _ _ _ _ _ _ HS1.out).mono ?_; rintro e w2 ⟨rfl, hw2, ho2⟩; have HB := hide hw2; have HO2 := hide ho2; clear hw2 ho2))
      go_ret
      exact ⟨_, rfl, HO.out.trans HO2.out, by rw [HR.out]; exact ⟨HB.out, rfl⟩⟩
    · have hd : decide (48 + least ≤ x) = false := by simpa using hlo
      clear HC hlo
      go_enter Tryz.func302, Tryz.ntmps302
      go_wp2_with (first
        | (go_at_call 168; refine (next_any _ _ _ _ _ _ _ _ HS.out).mono ?_; rintro e w1 ⟨rfl, hw1⟩; have HS1 := hide (HS.out.drn hw1); have HO := hide (Off.drn (b := b) hw1); clear hw1; rw [HX.out])
        | (go_at_call 65; refine (fail_any _ _ _ _ _ _ _ _ HS1.out).mono ?_; rintro e w2 ⟨rfl, hw2, ho2⟩; have HB := hide hw2; have HO2 := hide ho2; clear hw2 ho2))
      go_ret
      exact ⟨_, rfl, HO.out.trans HO2.out, by rw [HR.out]; exact ⟨HB.out, rfl⟩⟩
end Go.Proofs.YtpoibdhhcbelnaaGreatDoor
/- The reference's sets as sets in their one form: walks. -/
namespace Go.Proofs.YtpoibdhhcbelnaaGreatDoor
open Go.RowKit Brm

theorem SetV.sl {w : World} {A : Nat → Prop} {v : Value} {s : List (Int × Int)} (h : SetV w A v s) : ∃ q, PCanon q ∧ told q = s ∧ SlA w A v q := h
theorem SetV.canon {w : World} {A : Nat → Prop} {v : Value} {s : List (Int × Int)} (h : SetV w A v s) : Canon s := by obtain ⟨q, h1, rfl, _⟩ := h; exact told_canon h1
theorem setv_of {w : World} {A : Nat → Prop} {v : Value} {q s : List (Int × Int)} (h : SlA w A v q) (hq : PCanon q) (e : told q = s) : SetV w A v s := ⟨q, hq, e, h⟩
theorem told_len (q : List (Int × Int)) : (told q).length = q.length := by simp [told]
theorem form_cat {a b : List (Int × Int)} (ha : ∀ x ∈ a, okB x = true) (hb : ∀ x ∈ b, okB x = true) : form (form a ++ form b) = form (a ++ b) := by
  have h1 := canon_ok (form_is ha).1
  have h2 := canon_ok (form_is hb).1
  have hab : ∀ x ∈ a ++ b, okB x = true := fun x hx => by rcases List.mem_append.1 hx with h | h; exact ha x h; exact hb x h
  have hfab : ∀ x ∈ form a ++ form b, okB x = true := fun x hx => by rcases List.mem_append.1 hx with h | h; exact h1 x h; exact h2 x h
  refine form_unique hab ⟨(form_is hfab).1, fun r hr => ?_⟩
  rw [(form_is hfab).2 r hr, mem_append, mem_append, (form_is ha).2 r hr, (form_is hb).2 r hr]

theorem norm_set (ao : Option Addr) (l : List (Int × Int)) (cap : Nat) (w : World) (hcells : Rd w ao l) (hlen : l.length ≤ 1000000) (hok : ∀ x ∈ l, okB x = true) :
    Calls Tryz.prog 321 #[.slice ao l.length cap] w fun e w' => ∃ v, e = .returned v ∧ SetV w' (fun k => w.heap.size ≤ k) v (form l) ∧ Below w.heap.size w w' := by
  refine (rnormA ao l cap w hcells hlen hok).mono ?_
  rintro e w' ⟨v, out, rfl, hs, hn, hb⟩
  refine ⟨v, rfl, setv_of hs hn.1 (form_unique hok ⟨told_canon hn.1, fun r hr => ?_⟩), hb⟩
  rw [told_mem hn.1 r hr, hn.2.1 r hr, List.take_length]
theorem not_set (A : Nat → Prop) (v : Value) (s : List (Int × Int)) (w : World) (h : SetV w A v s) (hlen : s.length ≤ 1000000) :
    Calls Tryz.prog 169 #[v] w fun e w' => ∃ v', e = .returned v' ∧ SetV w' (fun k => w.heap.size ≤ k) v' (notC s) ∧ Below w.heap.size w w' := by
  obtain ⟨q, hq, rfl, hs⟩ := h
  obtain ⟨ao, cap, rfl, hr, _⟩ := (SlA.sl hs).rd
  rw [told_len] at hlen
  refine (rnot_any ao q cap w hr hlen hq).mono ?_
  rintro e w' ⟨v', rfl, out, ⟨h1, h2, h3⟩, ho, hb⟩
  refine ⟨v', rfl, setv_of (own_slA ho (fun k hk => hk)) h1 (notC_unique (told_canon hq) (told_canon h1) (fun r hr => ?_)), hb⟩
  rw [told_mem h1 r hr, told_mem hq r hr, h2 _ (back_up hr).2.1]
theorem or_set (A : Nat → Prop) (v u : Value) (s t : List (Int × Int)) (w : World) (A' : Nat → Prop) (h : SetV w A v s) (h2 : SetV w A' u t) (hA : ∀ k, w.heap.size ≤ k → A k) (hs : s.length ≤ 400000) (ht : t.length ≤ 400000) :
    Calls Tryz.prog 312 #[v, u] w fun e w' => ∃ v', e = .returned v' ∧ SetV w' A v' (form (s ++ t)) ∧ Below w.heap.size w w' := by
  obtain ⟨q, hq, rfl, hsl⟩ := h
  obtain ⟨p, hp, rfl, hpl⟩ := h2
  obtain ⟨bo, cb, rfl, hr, _⟩ := (SlA.sl hpl).rd
  rw [told_len] at hs ht
  refine (rorA A v bo q p cb w hsl hA hr hs ht hq hp).mono ?_
  rintro e w' ⟨v', out, rfl, ho, ⟨h1, h2, h3⟩, hb⟩
  have ok : ∀ x ∈ told q ++ told p, okB x = true := fun x hx => by
    rcases List.mem_append.1 hx with h | h
    · exact canon_ok (told_canon hq) x h
    · exact canon_ok (told_canon hp) x h
  refine ⟨v', rfl, setv_of ho h1 (form_unique ok ⟨told_canon h1, fun r hr => ?_⟩), hb⟩
  rw [told_mem h1 r hr, h2, mem_append, told_mem hq r hr, told_mem hp r hr]

theorem rd_one (w : World) (x y : Int) : Rd (w.alloc (.cells #[.int .i64 x, .int .i64 y] 149)) (some ⟨w.heap.size, 0, none⟩) [(x, y)] := by
  intro i z hz
  match i, hz with
  | 0, hz => simp at hz; subst hz; exact ⟨_, _, rfl, by simp, by simp, by simp⟩
set_option maxRecDepth 100000 in
set_option maxHeartbeats 400000 in
theorem one_any (c : Int) (w : World) (hc : runeB c = true) : Calls Tryz.prog 170 #[.int .i64 c] w fun e w' => ∃ v, e = .returned v ∧ SetV w' (fun k => w.heap.size ≤ k) v [(c, c)] ∧ Below w.heap.size w w' := by
  have HC := hide hc
  have hb := (rune_iff c).1 hc
  clear hc
  go_enter Tryz.func170, Tryz.ntmps170
  go_wp2_with (go_at_call 74; refine (up_any _ _ (by omega) (by omega)).mono ?_; rintro e w' ⟨rfl, rfl⟩)
  go_ret
  obtain ⟨h1, h2, h3⟩ := back_up HC.out
  refine ⟨_, rfl, setv_of (q := [(up c, up c)]) (.inr ⟨_, 0, 1, rfl, by simp, Nat.le_refl _, by simp, rd_one _ _ _⟩) ⟨fun x hx => by simp at hx; subst hx; exact ⟨h2.1, Int.le_refl _, h2.2⟩, by simp⟩ (by simp [told, h1]), (Below.refl _ _).alloc (Nat.le_refl _) _⟩
theorem one_ten : Canon [((10 : Int), (10 : Int))] := canon_one (by decide)
set_option maxRecDepth 100000 in
set_option maxHeartbeats 400000 in
theorem dot_any (w : World) : Calls Tryz.prog 119 #[] w fun e w' => ∃ v, e = .returned v ∧ SetV w' (fun k => w.heap.size ≤ k) v dot ∧ Below w.heap.size w w' := by
  go_enter Tryz.func119, Tryz.ntmps119
  go_wp2_with (first
    | (go_at_call 170; refine (one_any _ _ (by decide)).mono ?_; rintro e w1 ⟨v1, rfl, hv1, hb1⟩; have HV := hide hv1; have HB := hide hb1; clear hv1 hb1)
    | (go_at_call 169; refine (not_set _ _ _ _ HV.out (by decide)).mono ?_; rintro e w2 ⟨v2, rfl, hv2, hb2⟩; have HV2 := hide hv2; have HB2 := hide hb2; clear hv2 hb2))
  go_ret
  exact ⟨_, rfl, HV2.out.mono (fun k _ hk => Nat.le_trans HB.out.size hk), HB.out.trans (HB2.out.mono HB.out.size)⟩
end Go.Proofs.YtpoibdhhcbelnaaGreatDoor
/- The reference's classes: walks. -/
namespace Go.Proofs.YtpoibdhhcbelnaaGreatDoor
open Go.RowKit Brm

theorem rd_lit (w : World) (l : List (Int × Int)) : Rd (w.alloc (.cells (cellsR l).toArray 149)) (some ⟨w.heap.size, 0, none⟩) l := by
  intro i x hx
  have hg := cellsR_get hx
  refine ⟨_, _, rfl, by simp, ?_, ?_⟩
  · rw [(Blk.new w (cellsR l) 149).cell]; simpa using hg.1
  · rw [(Blk.new w (cellsR l) 149).cell]; simpa using hg.2
theorem form_digits : form [(48, 57)] = digits := by decide
theorem form_words : form [(48, 57), (65, 90), (97, 122), (95, 95)] = words := by decide
theorem form_spaces : form [(9, 10), (13, 13), (32, 32)] = spaces := by decide
set_option maxRecDepth 100000 in
set_option maxHeartbeats 400000 in
theorem class_d (w : World) : Calls Tryz.prog 314 #[.int .i64 100] w fun e w' => ∃ v, e = .returned v ∧ SetV w' (fun k => w.heap.size ≤ k) v digits ∧ Below w.heap.size w w' := by
  go_enter Tryz.func314, Tryz.ntmps314
  go_wp2_with (go_at_call 321; refine (norm_set _ [(48, 57)] _ _ (rd_lit w [(48, 57)]) (by decide) (by decide)).mono ?_; rintro e w1 ⟨v1, rfl, hv1, hb1⟩; have HV := hide hv1; have HB := hide hb1; clear hv1 hb1)
  go_ret
  have e := HV.out
  rw [form_digits] at e
  have hb := ((Below.refl _ w).alloc (Nat.le_refl _) _).trans (HB.out.mono (by simp))
  exact ⟨_, rfl, e.mono (fun k _ hk => by simp at hk; omega), hb⟩
set_option maxRecDepth 100000 in
set_option maxHeartbeats 400000 in
theorem class_w (w : World) : Calls Tryz.prog 314 #[.int .i64 119] w fun e w' => ∃ v, e = .returned v ∧ SetV w' (fun k => w.heap.size ≤ k) v words ∧ Below w.heap.size w w' := by
  go_enter Tryz.func314, Tryz.ntmps314
  go_wp2_with (go_at_call 321; refine (norm_set _ [(48, 57), (65, 90), (97, 122), (95, 95)] _ _ (rd_lit w [(48, 57), (65, 90), (97, 122), (95, 95)]) (by decide) (by decide)).mono ?_; rintro e w1 ⟨v1, rfl, hv1, hb1⟩; have HV := hide hv1; have HB := hide hb1; clear hv1 hb1)
  go_ret
  have e := HV.out
  rw [form_words] at e
  have hb := ((Below.refl _ w).alloc (Nat.le_refl _) _).trans (HB.out.mono (by simp))
  exact ⟨_, rfl, e.mono (fun k _ hk => by simp at hk; omega), hb⟩
set_option maxRecDepth 100000 in
set_option maxHeartbeats 400000 in
theorem class_s (w : World) : Calls Tryz.prog 314 #[.int .i64 115] w fun e w' => ∃ v, e = .returned v ∧ SetV w' (fun k => w.heap.size ≤ k) v spaces ∧ Below w.heap.size w w' := by
  go_enter Tryz.func314, Tryz.ntmps314
  go_wp2_with (go_at_call 321; refine (norm_set _ [(9, 10), (13, 13), (32, 32)] _ _ (rd_lit w [(9, 10), (13, 13), (32, 32)]) (by decide) (by decide)).mono ?_; rintro e w1 ⟨v1, rfl, hv1, hb1⟩; have HV := hide hv1; have HB := hide hb1; clear hv1 hb1)
  go_ret
  have e := HV.out
  rw [form_spaces] at e
  have hb := ((Below.refl _ w).alloc (Nat.le_refl _) _).trans (HB.out.mono (by simp))
  exact ⟨_, rfl, e.mono (fun k _ hk => by simp at hk; omega), hb⟩
set_option maxRecDepth 100000 in
set_option maxHeartbeats 400000 in
theorem class_D (w : World) : Calls Tryz.prog 314 #[.int .i64 68] w fun e w' => ∃ v, e = .returned v ∧ SetV w' (fun k => w.heap.size ≤ k) v (notC digits) ∧ Below w.heap.size w w' := by
  go_enter Tryz.func314, Tryz.ntmps314
  go_wp2_with (first
    | (go_at_call 314; refine (class_d _).mono ?_; rintro e w1 ⟨v1, rfl, hv1, hb1⟩; have HV := hide hv1; have HB := hide hb1; clear hv1 hb1)
    | (go_at_call 169; refine (not_set _ _ _ _ HV.out (by decide)).mono ?_; rintro e w2 ⟨v2, rfl, hv2, hb2⟩; have HV2 := hide hv2; have HB2 := hide hb2; clear hv2 hb2))
  go_ret
  exact ⟨_, rfl, HV2.out.mono (fun k _ hk => Nat.le_trans HB.out.size hk), HB.out.trans (HB2.out.mono HB.out.size)⟩
set_option maxRecDepth 100000 in
set_option maxHeartbeats 400000 in
theorem class_W (w : World) : Calls Tryz.prog 314 #[.int .i64 87] w fun e w' => ∃ v, e = .returned v ∧ SetV w' (fun k => w.heap.size ≤ k) v (notC words) ∧ Below w.heap.size w w' := by
  go_enter Tryz.func314, Tryz.ntmps314
  go_wp2_with (first
    | (go_at_call 314; refine (class_w _).mono ?_; rintro e w1 ⟨v1, rfl, hv1, hb1⟩; have HV := hide hv1; have HB := hide hb1; clear hv1 hb1)
    | (go_at_call 169; refine (not_set _ _ _ _ HV.out (by decide)).mono ?_; rintro e w2 ⟨v2, rfl, hv2, hb2⟩; have HV2 := hide hv2; have HB2 := hide hb2; clear hv2 hb2))
  go_ret
  exact ⟨_, rfl, HV2.out.mono (fun k _ hk => Nat.le_trans HB.out.size hk), HB.out.trans (HB2.out.mono HB.out.size)⟩
set_option maxRecDepth 100000 in
set_option maxHeartbeats 400000 in
theorem class_S (w : World) : Calls Tryz.prog 314 #[.int .i64 83] w fun e w' => ∃ v, e = .returned v ∧ SetV w' (fun k => w.heap.size ≤ k) v (notC spaces) ∧ Below w.heap.size w w' := by
  go_enter Tryz.func314, Tryz.ntmps314
  go_wp2_with (first
    | (go_at_call 314; refine (class_s _).mono ?_; rintro e w1 ⟨v1, rfl, hv1, hb1⟩; have HV := hide hv1; have HB := hide hb1; clear hv1 hb1)
    | (go_at_call 169; refine (not_set _ _ _ _ HV.out (by decide)).mono ?_; rintro e w2 ⟨v2, rfl, hv2, hb2⟩; have HV2 := hide hv2; have HB2 := hide hb2; clear hv2 hb2))
  go_ret
  exact ⟨_, rfl, HV2.out.mono (fun k _ hk => Nat.le_trans HB.out.size hk), HB.out.trans (HB2.out.mono HB.out.size)⟩
theorem class_any (c : Int) (w : World) (hc : isClass c = true) : Calls Tryz.prog 314 #[.int .i64 c] w fun e w' => ∃ v, e = .returned v ∧ SetV w' (fun k => w.heap.size ≤ k) v (classOf c) ∧ Below w.heap.size w w' := by
  rcases class_cases hc with rfl | rfl | rfl | rfl | rfl | rfl
  · exact class_d w
  · exact class_w w
  · exact class_s w
  · exact class_D w
  · exact class_W w
  · exact class_S w
end Go.Proofs.YtpoibdhhcbelnaaGreatDoor
/- The reference's signs and classes behind a backslash, and a rune behind -: walks. -/
namespace Go.Proofs.YtpoibdhhcbelnaaGreatDoor
open Go.RowKit Brm

theorem St.below {w w' : World} {b : Nat} {lv : Value} {l s : List Int} {g d m : Int} (h : St w b lv l s g d m) (k : Below w.heap.size w w') : St w' b lv l s g d m :=
  ⟨h.1.below k, h.2.1, Own.keep h.2.2.1 (Keeps.below k), h.2.2.2⟩
theorem Bad.below {w w' : World} {b : Nat} {lv : Value} {l s : List Int} {d : Int} (h : Bad w b lv l s d) (k : Below w.heap.size w w') : Bad w' b lv l s d := by
  obtain ⟨i, g, m, h1⟩ := h; exact ⟨i, g, m, h1.below k⟩
def EscV (w' : World) (A : Nat → Prop) (v : Value) (f : Bool) (r : Int ⊕ List (Int × Int)) : Prop := match r with | .inl a => f = true ∧ SetV w' A v [(a, a)] ∧ runeB a = true | .inr L => f = false ∧ SetV w' A v L
theorem sign_isRune {c : Int} (h : isSign c = true) : runeB (signOf c) = true := rune_of (by have := sign_rune h; omega) (sign_rune h).2

set_option maxRecDepth 100000 in
set_option maxHeartbeats 1000000 in
theorem escaped_any (b : Nat) (lv : Value) (l s : List Int) (g d m : Int) (w : World) (h : St w b lv l s g d m) :
    Calls Tryz.prog 301 #[.pointer (some ⟨b, 0, none⟩), .bool true] w fun e w' => ∃ v f, e = .returned (.tuple #[v, .bool f]) ∧ Off b w w' ∧ Done b lv l g d m (escP s) w' (fun r => EscV w' (fun k => w.heap.size ≤ k) v f r) (v = .slice none 0 0 ∧ f = false) := by
  have HS := hide h
  have HO := hide (Off.refl b w)
  have hall := h.2.2.2.2.1.suf h.2.1
  cases s with
  | nil =>
    clear h hall
    have hd : decide ((0 : Int) ≤ -1) = false := by decide
    go_enter Tryz.func301, Tryz.ntmps301
    go_wp2_with (first
      | (go_at_call 168; refine (next_any _ _ _ _ _ _ _ _ HS.out).mono ?_; rintro e wn ⟨rfl, hwn⟩; replace HS := hide (HS.out.drn hwn); replace HO := hide (HO.out.trans (Off.drn hwn)); clear hwn; simp only [nextV])
      | (go_at_call 65; refine (fail_any _ _ _ _ _ _ _ _ HS.out).mono ?_; rintro e wf ⟨rfl, hwf, hof⟩; have HB := hide hwf; replace HO := hide (HO.out.trans hof); clear hwf hof))
    go_ret2
    exact ⟨_, _, rfl, HO.out, HB.out, rfl, rfl⟩
  | cons c t =>
    have hr := (rune_iff c).1 hall.head
    have h0 : (0 : Int) ≤ c := by omega
    clear h hall
    by_cases hs : isSign c = true
    · have HR : Hid (escP (c :: t) = .ok (.inl (signOf c)) t) := by show _ = _; simp only [escP]; rw [if_pos hs]
      have HRN := hide (sign_isRune hs)
      go_enter Tryz.func301, Tryz.ntmps301
      go_wp2_with (first
        | (go_at_call 168; refine (next_any _ _ _ _ _ _ _ _ HS.out).mono ?_; rintro e wn ⟨rfl, hwn⟩; replace HS := hide (HS.out.drn hwn); replace HO := hide (HO.out.trans (Off.drn hwn)); clear hwn; obtain ⟨c0, c1, c2, c3, c4, c5, hb⟩ := HS.out.cells; have hf := HS.out.1.frozen 1; have hlen := HS.out.2.2.2.1; simp only [nextV])
        | (go_at_call 171; refine (among_any _ _ _ (by decide)).mono ?_; rintro e wa ⟨rfl, rfl⟩; simp only [amongB_signs])
        | (go_at_call 313; refine (sign_any _ _).mono ?_; rintro e wa ⟨rfl, rfl⟩)
        | (go_at_call 170; refine (one_any _ _ HRN.out).mono ?_; rintro e wo ⟨v1, rfl, hv1, hb1⟩; have HV := hide hv1; have HB1 := hide hb1; clear hv1 hb1))
      go_ret2
      have S := HS.out.step
      refine ⟨_, _, rfl, (HO.out.trans S.2).trans (Off.below HB1.out), ?_⟩
      rw [HR.out]
      exact ⟨S.1.below HB1.out, rfl, HV.out.mono (fun k _ hk => by have := HO.out.size; simp at hk; omega), HRN.out⟩
    · have hs' : isSign c = false := by simpa using hs
      by_cases hk : isClass c = true
      · have HR : Hid (escP (c :: t) = .ok (.inr (classOf c)) t) := by show _ = _; simp only [escP]; rw [if_neg hs, if_pos hk]
        have HCL := hide hk
        go_enter Tryz.func301, Tryz.ntmps301
        go_wp2_with (first
          | (go_at_call 168; refine (next_any _ _ _ _ _ _ _ _ HS.out).mono ?_; rintro e wn ⟨rfl, hwn⟩; replace HS := hide (HS.out.drn hwn); replace HO := hide (HO.out.trans (Off.drn hwn)); clear hwn; obtain ⟨c0, c1, c2, c3, c4, c5, hb⟩ := HS.out.cells; have hf := HS.out.1.frozen 1; have hlen := HS.out.2.2.2.1; simp only [nextV])
          | (go_at_call 171; refine (among_any _ _ _ (by decide)).mono ?_; rintro e wa ⟨rfl, rfl⟩; simp only [amongB_signs, amongB_classes])
          | (go_at_call 314; refine (class_any _ _ HCL.out).mono ?_; rintro e wo ⟨v1, rfl, hv1, hb1⟩; have HV := hide hv1; have HB1 := hide hb1; clear hv1 hb1))
        go_ret2
        have S := HS.out.step
        refine ⟨_, _, rfl, (HO.out.trans S.2).trans (Off.below HB1.out), ?_⟩
        rw [HR.out]
        exact ⟨S.1.below HB1.out, rfl, HV.out.mono (fun k _ hk => by have := HO.out.size; simp at hk; omega)⟩
      · have hk' : isClass c = false := by simpa using hk
        have HR : Hid (escP (c :: t) = .bad (c :: t)) := by show _ = _; simp only [escP]; rw [if_neg hs, if_neg hk]
        go_enter Tryz.func301, Tryz.ntmps301
        go_wp2_with (first
          | (go_at_call 168; refine (next_any _ _ _ _ _ _ _ _ HS.out).mono ?_; rintro e wn ⟨rfl, hwn⟩; replace HS := hide (HS.out.drn hwn); replace HO := hide (HO.out.trans (Off.drn hwn)); clear hwn; simp only [nextV])
          | (go_at_call 171; refine (among_any _ _ _ (by decide)).mono ?_; rintro e wa ⟨rfl, rfl⟩; simp only [amongB_signs, amongB_classes])
          | (go_at_call 65; refine (fail_any _ _ _ _ _ _ _ _ HS.out).mono ?_; rintro e wf ⟨rfl, hwf, hof⟩; have HB := hide hwf; replace HO := hide (HO.out.trans hof); clear hwf hof))
        go_ret2
        refine ⟨_, _, rfl, HO.out, ?_⟩
        rw [HR.out]
        exact ⟨HB.out, rfl, rfl⟩

set_option maxRecDepth 100000 in
set_option maxHeartbeats 1000000 in
theorem single_any (b : Nat) (lv : Value) (l s : List Int) (least g d m : Int) (w : World) (h : St w b lv l s g d m) :
    Calls Tryz.prog 320 #[.pointer (some ⟨b, 0, none⟩), .int .i64 least] w fun e w' => ∃ x : Int, e = .returned (.int .i64 x) ∧ Off b w w' ∧ Done b lv l g d m (singleP least s) w' (fun y => x = y) (x = least) := by
  have HS := hide h
  have HO := hide (Off.refl b w)
  have hall := h.2.2.2.2.1.suf h.2.1
  cases s with
  | nil =>
    clear h hall
    have hd : decide ((0 : Int) ≤ -1) = false := by decide
    go_enter Tryz.func320, Tryz.ntmps320
    go_wp2_with (first
      | (go_at_call 168; refine (next_any _ _ _ _ _ _ _ _ HS.out).mono ?_; rintro e wn ⟨rfl, hwn⟩; replace HS := hide (HS.out.drn hwn); replace HO := hide (HO.out.trans (Off.drn hwn)); clear hwn; simp only [nextV])
      | (go_at_call 65; refine (fail_any _ _ _ _ _ _ _ _ HS.out).mono ?_; rintro e wf ⟨rfl, hwf, hof⟩; have HB := hide hwf; replace HO := hide (HO.out.trans hof); clear hwf hof))
    go_ret
    exact ⟨_, rfl, HO.out, HB.out, rfl⟩
  | cons c t =>
    have hr := (rune_iff c).1 hall.head
    have h0 : (0 : Int) ≤ c := by omega
    have hall2 := hall.tail
    clear h hall
    by_cases h92 : c = 92
    · subst h92
      by_cases hle : least ≤ 126
      · cases t with
        | nil =>
          have HR : Hid (singleP least [92] = .bad []) := by show _ = _; simp only [singleP, if_true, if_pos hle, signP]
          have hd : decide ((0 : Int) ≤ -1) = false := by decide
          clear hall2
          go_enter Tryz.func320, Tryz.ntmps320
          go_wp2_with (first
            | (go_at_call 168; refine (next_any _ _ _ _ _ _ _ _ HS.out).mono ?_; rintro e wn ⟨rfl, hwn⟩; replace HS := hide (HS.out.drn hwn); replace HO := hide (HO.out.trans (Off.drn hwn)); clear hwn; obtain ⟨c0, c1, c2, c3, c4, c5, hb⟩ := HS.out.cells; have hf := HS.out.1.frozen 1; have hlen := HS.out.2.2.2.1; simp only [nextV])
            | (go_at_call 168; refine (next_any _ _ _ _ _ _ _ _ (HS.out.step).1).mono ?_; rintro e wn2 ⟨rfl, hwn⟩; replace HO := hide ((HO.out.trans HS.out.step.2).trans (Off.drn hwn)); replace HS := hide ((HS.out.step).1.drn hwn); clear hwn c0 c1 c2 c3 c4 c5 hb hf hlen; simp only [nextV])
            | (go_at_call 65; refine (fail_any _ _ _ _ _ _ _ _ HS.out).mono ?_; rintro e wf ⟨rfl, hwf, hof⟩; have HB := hide hwf; replace HO := hide (HO.out.trans hof); clear hwf hof))
          go_ret
          exact ⟨_, rfl, HO.out, by rw [HR.out]; exact ⟨HB.out, rfl⟩⟩
        | cons e2 u =>
          have hr2 := (rune_iff e2).1 hall2.head
          have h02 : (0 : Int) ≤ e2 := by omega
          clear hall2
          by_cases hs : isSign e2 = true
          · have hsr := sign_rune hs
            generalize hso : signOf e2 = so at hsr
            by_cases hge : least ≤ so
            · have HR : Hid (singleP least (92 :: e2 :: u) = .ok so u) := by show _ = _; simp only [singleP, if_true, if_pos hle, signP, hs, hso, decide_eq_true hge, Bool.and_self]
              have HSO := hide hso
              clear hso
              go_enter Tryz.func320, Tryz.ntmps320
              go_wp2_with (first
                | (go_at_call 168; refine (next_any _ _ _ _ _ _ _ _ HS.out).mono ?_; rintro e wn ⟨rfl, hwn⟩; replace HS := hide (HS.out.drn hwn); replace HO := hide (HO.out.trans (Off.drn hwn)); clear hwn; obtain ⟨c0, c1, c2, c3, c4, c5, hb⟩ := HS.out.cells; have hf := HS.out.1.frozen 1; have hlen := HS.out.2.2.2.1; simp only [nextV])
                | (go_at_call 168; refine (next_any _ _ _ _ _ _ _ _ (HS.out.step).1).mono ?_; rintro e wn2 ⟨rfl, hwn⟩; replace HO := hide ((HO.out.trans HS.out.step.2).trans (Off.drn hwn)); replace HS := hide ((HS.out.step).1.drn hwn); clear hwn c0 c1 c2 c3 c4 c5 hb hf hlen; obtain ⟨c0, c1, c2, c3, c4, c5, hb⟩ := HS.out.cells; have hf := HS.out.1.frozen 1; have hlen := HS.out.2.2.2.1; simp only [nextV])
                | (go_at_call 171; refine (among_any _ _ _ (by decide)).mono ?_; rintro e wa ⟨rfl, rfl⟩; simp only [amongB_signs])
                | (go_at_call 313; refine (sign_any _ _).mono ?_; rintro e wa ⟨rfl, rfl⟩; rw [HSO.out]))
              go_ret
              have S := HS.out.step
              exact ⟨_, rfl, HO.out.trans S.2, by rw [HR.out]; exact ⟨S.1, rfl⟩⟩
            · have hged : decide (least ≤ so) = false := by simpa using hge
              have HR : Hid (singleP least (92 :: e2 :: u) = .bad (e2 :: u)) := by show _ = _; simp [singleP, hle, signP, hs, hso, hge]
              have HSO := hide hso
              clear hso hge
              go_enter Tryz.func320, Tryz.ntmps320
              go_wp2_with (first
                | (go_at_call 168; refine (next_any _ _ _ _ _ _ _ _ HS.out).mono ?_; rintro e wn ⟨rfl, hwn⟩; replace HS := hide (HS.out.drn hwn); replace HO := hide (HO.out.trans (Off.drn hwn)); clear hwn; obtain ⟨c0, c1, c2, c3, c4, c5, hb⟩ := HS.out.cells; have hf := HS.out.1.frozen 1; have hlen := HS.out.2.2.2.1; simp only [nextV])
                | (go_at_call 168; refine (next_any _ _ _ _ _ _ _ _ (HS.out.step).1).mono ?_; rintro e wn2 ⟨rfl, hwn⟩; replace HO := hide ((HO.out.trans HS.out.step.2).trans (Off.drn hwn)); replace HS := hide ((HS.out.step).1.drn hwn); clear hwn c0 c1 c2 c3 c4 c5 hb hf hlen; simp only [nextV])
                | (go_at_call 171; refine (among_any _ _ _ (by decide)).mono ?_; rintro e wa ⟨rfl, rfl⟩; simp only [amongB_signs])
                | (go_at_call 313; refine (sign_any _ _).mono ?_; rintro e wa ⟨rfl, rfl⟩; rw [HSO.out])
                | (go_at_call 65; refine (fail_any _ _ _ _ _ _ _ _ HS.out).mono ?_; rintro e wf ⟨rfl, hwf, hof⟩; have HB := hide hwf; replace HO := hide (HO.out.trans hof); clear hwf hof))
              go_ret
              exact ⟨_, rfl, HO.out, by rw [HR.out]; exact ⟨HB.out, rfl⟩⟩
          · have hs' : isSign e2 = false := by simpa using hs
            have HR : Hid (singleP least (92 :: e2 :: u) = .bad (e2 :: u)) := by show _ = _; simp [singleP, hle, signP, hs']
            go_enter Tryz.func320, Tryz.ntmps320
            go_wp2_with (first
              | (go_at_call 168; refine (next_any _ _ _ _ _ _ _ _ HS.out).mono ?_; rintro e wn ⟨rfl, hwn⟩; replace HS := hide (HS.out.drn hwn); replace HO := hide (HO.out.trans (Off.drn hwn)); clear hwn; obtain ⟨c0, c1, c2, c3, c4, c5, hb⟩ := HS.out.cells; have hf := HS.out.1.frozen 1; have hlen := HS.out.2.2.2.1; simp only [nextV])
              | (go_at_call 168; refine (next_any _ _ _ _ _ _ _ _ (HS.out.step).1).mono ?_; rintro e wn2 ⟨rfl, hwn⟩; replace HO := hide ((HO.out.trans HS.out.step.2).trans (Off.drn hwn)); replace HS := hide ((HS.out.step).1.drn hwn); clear hwn c0 c1 c2 c3 c4 c5 hb hf hlen; simp only [nextV])
              | (go_at_call 171; refine (among_any _ _ _ (by decide)).mono ?_; rintro e wa ⟨rfl, rfl⟩; simp only [amongB_signs])
              | (go_at_call 65; refine (fail_any _ _ _ _ _ _ _ _ HS.out).mono ?_; rintro e wf ⟨rfl, hwf, hof⟩; have HB := hide hwf; replace HO := hide (HO.out.trans hof); clear hwf hof))
            go_ret
            exact ⟨_, rfl, HO.out, by rw [HR.out]; exact ⟨HB.out, rfl⟩⟩
      · have hd : decide (least ≤ 126) = false := by simpa using hle
        have hin : inner 92 = true := by decide
        have HR : Hid (singleP least (92 :: t) = .bad (92 :: t)) := by show _ = _; simp only [singleP, if_true, if_neg hle]
        clear hle
        go_enter Tryz.func320, Tryz.ntmps320
        go_wp2_with (first
          | (go_at_call 168; refine (next_any _ _ _ _ _ _ _ _ HS.out).mono ?_; rintro e wn ⟨rfl, hwn⟩; replace HS := hide (HS.out.drn hwn); replace HO := hide (HO.out.trans (Off.drn hwn)); clear hwn; simp only [nextV])
          | (go_at_call 171; refine (among_any _ _ _ (by decide)).mono ?_; rintro e wa ⟨rfl, rfl⟩; simp only [amongB_inner])
          | (go_at_call 65; refine (fail_any _ _ _ _ _ _ _ _ HS.out).mono ?_; rintro e wf ⟨rfl, hwf, hof⟩; have HB := hide hwf; replace HO := hide (HO.out.trans hof); clear hwf hof))
        go_ret
        exact ⟨_, rfl, HO.out, by rw [HR.out]; exact ⟨HB.out, rfl⟩⟩
    · have hb92 : (c == 92) = false := beq_eq_false_iff_ne.2 h92
      by_cases hi : inner c = true
      · have HR : Hid (singleP least (c :: t) = .bad (c :: t)) := by show _ = _; simp [singleP, h92, hi]
        clear h92
        go_enter Tryz.func320, Tryz.ntmps320
        go_wp2_with (first
          | (go_at_call 168; refine (next_any _ _ _ _ _ _ _ _ HS.out).mono ?_; rintro e wn ⟨rfl, hwn⟩; replace HS := hide (HS.out.drn hwn); replace HO := hide (HO.out.trans (Off.drn hwn)); clear hwn; simp only [nextV])
          | (go_at_call 171; refine (among_any _ _ _ (by decide)).mono ?_; rintro e wa ⟨rfl, rfl⟩; simp only [amongB_inner])
          | (go_at_call 65; refine (fail_any _ _ _ _ _ _ _ _ HS.out).mono ?_; rintro e wf ⟨rfl, hwf, hof⟩; have HB := hide hwf; replace HO := hide (HO.out.trans hof); clear hwf hof))
        go_ret
        exact ⟨_, rfl, HO.out, by rw [HR.out]; exact ⟨HB.out, rfl⟩⟩
      · have hi' : inner c = false := by simpa using hi
        by_cases hge : least ≤ c
        · have HR : Hid (singleP least (c :: t) = .ok c t) := by show _ = _; simp [singleP, h92, hi', hge]
          clear h92
          go_enter Tryz.func320, Tryz.ntmps320
          go_wp2_with (first
            | (go_at_call 168; refine (next_any _ _ _ _ _ _ _ _ HS.out).mono ?_; rintro e wn ⟨rfl, hwn⟩; replace HS := hide (HS.out.drn hwn); replace HO := hide (HO.out.trans (Off.drn hwn)); clear hwn; obtain ⟨c0, c1, c2, c3, c4, c5, hb⟩ := HS.out.cells; have hf := HS.out.1.frozen 1; have hlen := HS.out.2.2.2.1; simp only [nextV])
            | (go_at_call 171; refine (among_any _ _ _ (by decide)).mono ?_; rintro e wa ⟨rfl, rfl⟩; simp only [amongB_inner]))
          go_ret
          have S := HS.out.step
          exact ⟨_, rfl, HO.out.trans S.2, by rw [HR.out]; exact ⟨S.1, rfl⟩⟩
        · have hged : decide (least ≤ c) = false := by simpa using hge
          have HR : Hid (singleP least (c :: t) = .bad (c :: t)) := by show _ = _; simp [singleP, h92, hi', hge]
          clear h92 hge
          go_enter Tryz.func320, Tryz.ntmps320
          go_wp2_with (first
            | (go_at_call 168; refine (next_any _ _ _ _ _ _ _ _ HS.out).mono ?_; rintro e wn ⟨rfl, hwn⟩; replace HS := hide (HS.out.drn hwn); replace HO := hide (HO.out.trans (Off.drn hwn)); clear hwn; simp only [nextV])
            | (go_at_call 171; refine (among_any _ _ _ (by decide)).mono ?_; rintro e wa ⟨rfl, rfl⟩; simp only [amongB_inner])
            | (go_at_call 65; refine (fail_any _ _ _ _ _ _ _ _ HS.out).mono ?_; rintro e wf ⟨rfl, hwf, hof⟩; have HB := hide hwf; replace HO := hide (HO.out.trans hof); clear hwf hof))
          go_ret
          exact ⟨_, rfl, HO.out, by rw [HR.out]; exact ⟨HB.out, rfl⟩⟩
end Go.Proofs.YtpoibdhhcbelnaaGreatDoor
/- The reference's items of brackets: a walk. -/
namespace Go.Proofs.YtpoibdhhcbelnaaGreatDoor
open Go.RowKit Brm

theorem one_cells {w : World} {A : Nat → Prop} {v : Value} {a : Int} (h : SetV w A v [(a, a)]) : ∃ b1 off1 cap1 x1, v = .slice (some ⟨b1, off1, none⟩) 1 cap1 ∧ w.cell? ⟨b1, off1, none⟩ = some (.int .i64 x1) ∧ back x1 = a ∧ 0 ≤ x1 ∧ x1 ≤ 1112063 ∧ b1 < w.heap.size := by
  obtain ⟨q, hq, e, hs⟩ := h.sl
  cases q with
  | nil => simp [told] at e
  | cons x q =>
    cases q with
    | cons y q => simp [told] at e
    | nil =>
      simp [told] at e
      rcases hs with ⟨_, h0⟩ | ⟨b1, off1, cap1, rfl, hc, _, hlt, hr⟩
      · cases h0
      · obtain ⟨b', off', e', hb', h1, h2⟩ := hr 0 x rfl
        cases e'
        have hg := hq.1 x (by simp)
        exact ⟨b1, off1, cap1, x.1, rfl, by simpa using h1, e.1, hg.1, by have := hg.2; omega, hlt⟩
theorem back_any2 (n : Int) (w : World) (h0 : 0 ≤ n) (h1 : n ≤ 1112063) : Calls Tryz.prog 81 #[.int .i64 n] w fun e w' => e = .returned (.int .i64 (back n)) ∧ w' = w := back_any n w h0 (by omega)
theorem form_one {a : Int} (h : runeB a = true) : form [(a, a)] = [(a, a)] := form_canon (canon_one h)
theorem form_pair_len (a b : Int) : (form [(a, b)]).length ≤ 1 := form_len [(a, b)]
theorem setv_nil (w : World) (A : Nat → Prop) : SetV w A (.slice none 0 0) [] := ⟨[], pcanon_nil, rfl, .inl ⟨rfl, rfl⟩⟩
/-- What an item is handed back as. -/
def ItemV (w' : World) (A : Nat → Prop) (v : Value) : Prop := ∃ s0, SetV w' A v s0 ∧ s0.length ≤ 1

set_option maxRecDepth 100000 in
set_option maxHeartbeats 2000000 in
theorem item_any (b : Nat) (lv : Value) (l s : List Int) (g d m : Int) (w : World) (h : St w b lv l s g d m) :
    Calls Tryz.prog 311 #[.pointer (some ⟨b, 0, none⟩)] w fun e w' => ∃ v, e = .returned v ∧ Off b w w' ∧ Done b lv l g d m (itemP s) w' (fun x => SetV w' (fun k => w.heap.size ≤ k) v (form x)) (ItemV w' (fun k => w.heap.size ≤ k) v) := by
  have HS := hide h
  have HO := hide (Off.refl b w)
  have hall := h.2.2.2.2.1.suf h.2.1
  cases s with
  | nil =>
    clear h hall
    have hd : decide ((0 : Int) ≤ -1) = false := by decide
    go_enter Tryz.func311, Tryz.ntmps311
    go_wp2_with (first
      | (go_at_call 168; refine (next_any _ _ _ _ _ _ _ _ HS.out).mono ?_; rintro e wn ⟨rfl, hwn⟩; replace HS := hide (HS.out.drn hwn); replace HO := hide (HO.out.trans (Off.drn hwn)); clear hwn; simp only [nextV])
      | (go_at_call 65; refine (fail_any _ _ _ _ _ _ _ _ HS.out).mono ?_; rintro e wf ⟨rfl, hwf, hof⟩; have HB := hide hwf; replace HO := hide (HO.out.trans hof); clear hwf hof))
    go_ret
    exact ⟨_, rfl, HO.out, HB.out, [], setv_nil _ _, by simp⟩
  | cons c t =>
    have HA := hide hall
    have hr := (rune_iff c).1 hall.head
    have h0 : (0 : Int) ≤ c := by omega
    clear h hall
    by_cases h92 : c = 92
    · subst h92
      cases he : escP t with
      | bad t' =>
        have HRE := hide he
        have HR : Hid (itemP (92 :: t) = .bad t') := by show _ = _; simp only [itemP, if_true, he, Res.bind]
        clear he
        go_enter Tryz.func311, Tryz.ntmps311
        go_wp2_with (first
          | (go_at_call 168; refine (next_any _ _ _ _ _ _ _ _ HS.out).mono ?_; rintro e wn ⟨rfl, hwn⟩; replace HS := hide (HS.out.drn hwn); replace HO := hide (HO.out.trans (Off.drn hwn)); clear hwn; obtain ⟨c0, c1, c2, c3, c4, c5, hb⟩ := HS.out.cells; have hf := HS.out.1.frozen 1; have hlen := HS.out.2.2.2.1; simp only [nextV])
          | (go_at_call 301; refine (escaped_any _ _ _ _ _ _ _ _ HS.out.step.1).mono ?_; rintro e we ⟨v1, f1, rfl, hoe, hde⟩; have HW := hide HO.out.size; replace HO := hide ((HO.out.trans HS.out.step.2).trans hoe); clear hoe c0 c1 c2 c3 c4 c5 hb hf hlen; rw [HRE.out] at hde; obtain ⟨hbd, rfl, rfl⟩ := hde; have HB := hide hbd; clear hbd))
        go_ret
        exact ⟨_, rfl, HO.out, by rw [HR.out]; exact ⟨HB.out, [], setv_nil _ _, by simp⟩⟩
      | ok r t' =>
        have HRE := hide he
        cases r with
        | inr L =>
          have HR : Hid (itemP (92 :: t) = .ok L t') := by show _ = _; simp only [itemP, if_true, he, Res.bind]
          clear he
          go_enter Tryz.func311, Tryz.ntmps311
          go_wp2_with (first
            | (go_at_call 168; refine (next_any _ _ _ _ _ _ _ _ HS.out).mono ?_; rintro e wn ⟨rfl, hwn⟩; replace HS := hide (HS.out.drn hwn); replace HO := hide (HO.out.trans (Off.drn hwn)); clear hwn; obtain ⟨c0, c1, c2, c3, c4, c5, hb⟩ := HS.out.cells; have hf := HS.out.1.frozen 1; have hlen := HS.out.2.2.2.1; simp only [nextV])
            | (go_at_call 301; refine (escaped_any _ _ _ _ _ _ _ _ HS.out.step.1).mono ?_; rintro e we ⟨v1, f1, rfl, hoe, hde⟩; have HW := hide HO.out.size; replace HO := hide ((HO.out.trans HS.out.step.2).trans hoe); clear hoe c0 c1 c2 c3 c4 c5 hb hf hlen; rw [HRE.out] at hde; obtain ⟨hst, rfl, hsv⟩ := hde; have HV := hide hsv; clear hsv; replace HS := hide hst; clear hst))
          go_ret
          refine ⟨_, rfl, HO.out, ?_⟩
          rw [HR.out]
          have hv := HV.out
          refine ⟨HS.out, ?_⟩
          show SetV _ _ _ (form _)
          rw [form_canon hv.canon]
          exact hv.mono (fun k _ hk => by have := HW.out; simp [World.setCell] at hk; omega)
        | inl a =>
          have HR : Hid (itemP (92 :: t) = rangeP a t') := by show _ = _; simp only [itemP, if_true, he, Res.bind]
          clear he
          have HRN : Hid (runeB a = true) := by
            have := HRE.out
            cases t with
            | nil => simp [escP] at this
            | cons e2 u2 =>
              simp only [escP] at this
              split at this
              · rename_i hs; cases this; exact sign_isRune hs
              · split at this <;> cases this
          have HSF : Hid (t' <:+ t) := by
            have := escP_takes t
            rw [HRE.out] at this
            exact this.2
          by_cases h45 : t'.head? = some 45
          · obtain ⟨u, rfl⟩ : ∃ u, t' = 45 :: u := by cases t' with | nil => simp at h45 | cons c t => simp at h45; exact ⟨t, by rw [h45]⟩
            clear h45
            cases hs : singleP a u with
            | bad u' =>
              have HR2 : Hid (rangeP a (45 :: u) = .bad u') := by show _ = _; simp only [rangeP, if_true, hs, Res.map]
              have HRS := hide hs
              clear hs
              have HOK := hide (ok_pair HRN.out HRN.out (Int.le_refl a))
              go_enter Tryz.func311, Tryz.ntmps311
              go_wp2_with (first
                | (go_at_call 168; refine (next_any _ _ _ _ _ _ _ _ HS.out).mono ?_; rintro e wn ⟨rfl, hwn⟩; replace HS := hide (HS.out.drn hwn); replace HO := hide (HO.out.trans (Off.drn hwn)); clear hwn; obtain ⟨c0, c1, c2, c3, c4, c5, hb⟩ := HS.out.cells; have hf := HS.out.1.frozen 1; have hlen := HS.out.2.2.2.1; simp only [nextV])
                | (go_at_call 301; refine (escaped_any _ _ _ _ _ _ _ _ HS.out.step.1).mono ?_; rintro e we ⟨v1, f1, rfl, hoe, hde⟩; replace HO := hide ((HO.out.trans HS.out.step.2).trans hoe); clear hoe c0 c1 c2 c3 c4 c5 hb hf hlen; rw [HRE.out] at hde; obtain ⟨hst, rfl, hsv, hra⟩ := hde; obtain ⟨b1, off1, cap1, x1, rfl, hcx, hbk, hx0, hx1, hb1⟩ := one_cells hsv; have HBK := hide hbk; have HRA := hide hra; replace HS := hide hst; obtain ⟨c0, c1, c2, c3, c4, c5, hb⟩ := HS.out.cells; clear hst hsv hbk hra c0 c1 c3 c4 c5)
                | (go_at_call 81; refine (back_any2 _ _ hx0 hx1).mono ?_; rintro e wb ⟨rfl, rfl⟩; rw [HBK.out])
                | (go_at_call 117; refine (takes_yes _ _ _ _ _ _ _ _ _ HS.out (by decide) (by decide)).mono ?_; rintro e wt ⟨rfl, hwt, hot⟩; replace HO := hide (HO.out.trans hot); replace HS := hide hwt; clear hwt hot)
                | (go_at_call 320; refine (single_any _ _ _ _ _ _ _ _ _ HS.out).mono ?_; rintro e ws ⟨xs, rfl, hos, hds⟩; replace HO := hide (HO.out.trans hos); clear hos; rw [HRS.out] at hds; obtain ⟨hst, rfl⟩ := hds; have HB := hide hst; clear hst)
                | (go_at_call 321; refine (norm_set _ [(_, _)] _ _ (rd_one _ _ _) (by simp) HOK.out).mono ?_; rintro e wo ⟨v2, rfl, hv2, hb2⟩; have HV := hide hv2; have HB1 := hide hb2; clear hv2 hb2))
              go_ret
              refine ⟨_, rfl, HO.out.trans ((Off.refl _ _).alloc _ |>.trans (Off.below HB1.out)), ?_⟩
              rw [HR.out, HR2.out]
              exact ⟨(HB.out.below ((Below.refl _ _).alloc (Nat.le_refl _) _)).below HB1.out, _, HV.out.mono (fun k _ hk => by have := HO.out.size; simp at hk; omega), form_pair_len _ _⟩
            | ok b2 u' =>
              have HR2 : Hid (rangeP a (45 :: u) = .ok [(a, b2)] u') := by show _ = _; simp only [rangeP, if_true, hs, Res.map]
              have HRS := hide hs
              have hnum := singleP_num (least := a) (HA.out.tail.suf HSF.out).tail
              rw [hs] at hnum
              have HOK := hide (ok_pair HRN.out hnum.2 hnum.1)
              clear hnum
              clear hs
              go_enter Tryz.func311, Tryz.ntmps311
              go_wp2_with (first
                | (go_at_call 168; refine (next_any _ _ _ _ _ _ _ _ HS.out).mono ?_; rintro e wn ⟨rfl, hwn⟩; replace HS := hide (HS.out.drn hwn); replace HO := hide (HO.out.trans (Off.drn hwn)); clear hwn; obtain ⟨c0, c1, c2, c3, c4, c5, hb⟩ := HS.out.cells; have hf := HS.out.1.frozen 1; have hlen := HS.out.2.2.2.1; simp only [nextV])
                | (go_at_call 301; refine (escaped_any _ _ _ _ _ _ _ _ HS.out.step.1).mono ?_; rintro e we ⟨v1, f1, rfl, hoe, hde⟩; replace HO := hide ((HO.out.trans HS.out.step.2).trans hoe); clear hoe c0 c1 c2 c3 c4 c5 hb hf hlen; rw [HRE.out] at hde; obtain ⟨hst, rfl, hsv, hra⟩ := hde; obtain ⟨b1, off1, cap1, x1, rfl, hcx, hbk, hx0, hx1, hb1⟩ := one_cells hsv; have HBK := hide hbk; have HRA := hide hra; replace HS := hide hst; obtain ⟨c0, c1, c2, c3, c4, c5, hb⟩ := HS.out.cells; clear hst hsv hbk hra c0 c1 c3 c4 c5)
                | (go_at_call 81; refine (back_any2 _ _ hx0 hx1).mono ?_; rintro e wb ⟨rfl, rfl⟩; rw [HBK.out])
                | (go_at_call 117; refine (takes_yes _ _ _ _ _ _ _ _ _ HS.out (by decide) (by decide)).mono ?_; rintro e wt ⟨rfl, hwt, hot⟩; replace HO := hide (HO.out.trans hot); replace HS := hide hwt; clear hwt hot)
                | (go_at_call 320; refine (single_any _ _ _ _ _ _ _ _ _ HS.out).mono ?_; rintro e ws ⟨xs, rfl, hos, hds⟩; replace HO := hide (HO.out.trans hos); clear hos; rw [HRS.out] at hds; obtain ⟨hst, rfl⟩ := hds; replace HS := hide hst; clear hst)
                | (go_at_call 321; refine (norm_set _ [(_, _)] _ _ (rd_one _ _ _) (by simp) HOK.out).mono ?_; rintro e wo ⟨v2, rfl, hv2, hb2⟩; have HV := hide hv2; have HB1 := hide hb2; clear hv2 hb2))
              go_ret
              refine ⟨_, rfl, HO.out.trans ((Off.refl _ _).alloc _ |>.trans (Off.below HB1.out)), ?_⟩
              rw [HR.out, HR2.out]
              exact ⟨(HS.out.below ((Below.refl _ _).alloc (Nat.le_refl _) _)).below HB1.out, HV.out.mono (fun k _ hk => by have := HO.out.size; simp at hk; omega)⟩
          · have HR2 : Hid (rangeP a t' = .ok [(a, a)] t') := by
              show _ = _
              cases t' with
              | nil => rfl
              | cons e2 u2 => simp only [rangeP]; rw [if_neg (by simpa using h45)]
            have HN := hide h45
            clear h45
            go_enter Tryz.func311, Tryz.ntmps311
            go_wp2_with (first
              | (go_at_call 168; refine (next_any _ _ _ _ _ _ _ _ HS.out).mono ?_; rintro e wn ⟨rfl, hwn⟩; replace HS := hide (HS.out.drn hwn); replace HO := hide (HO.out.trans (Off.drn hwn)); clear hwn; obtain ⟨c0, c1, c2, c3, c4, c5, hb⟩ := HS.out.cells; have hf := HS.out.1.frozen 1; have hlen := HS.out.2.2.2.1; simp only [nextV])
              | (go_at_call 301; refine (escaped_any _ _ _ _ _ _ _ _ HS.out.step.1).mono ?_; rintro e we ⟨v1, f1, rfl, hoe, hde⟩; replace HO := hide ((HO.out.trans HS.out.step.2).trans hoe); clear hoe c0 c1 c2 c3 c4 c5 hb hf hlen; rw [HRE.out] at hde; obtain ⟨hst, rfl, hsv, hra⟩ := hde; obtain ⟨b1, off1, cap1, x1, rfl, hcx, hbk, hx0, hx1, hb1⟩ := one_cells hsv; have HBK := hide hbk; have HRA := hide hra; replace HS := hide hst; obtain ⟨c0, c1, c2, c3, c4, c5, hb⟩ := HS.out.cells; clear hst hsv hbk hra c0 c1 c3 c4 c5)
              | (go_at_call 81; refine (back_any2 _ _ hx0 hx1).mono ?_; rintro e wb ⟨rfl, rfl⟩; rw [HBK.out])
              | (go_at_call 117; refine (takes_no _ _ _ _ _ _ _ _ _ HS.out (by decide) (by decide) HN.out).mono ?_; rintro e wt ⟨rfl, hwt⟩; replace HO := hide (HO.out.trans (Off.drn hwt)); replace HS := hide (HS.out.drn hwt); clear hwt)
              | (go_at_call 170; refine (one_any _ _ HRA.out).mono ?_; rintro e wo ⟨v1, rfl, hv1, hb1⟩; have HV := hide hv1; have HB1 := hide hb1; clear hv1 hb1))
            go_ret
            refine ⟨_, rfl, HO.out.trans (Off.below HB1.out), ?_⟩
            rw [HR.out, HR2.out]
            refine ⟨HS.out.below HB1.out, ?_⟩
            show SetV _ _ _ (form _)
            rw [form_one HRA.out]
            exact HV.out.mono (fun k _ hk => by have := HO.out.size; omega)
    · have hb92 : (c == 92) = false := beq_eq_false_iff_ne.2 h92
      by_cases hi : inner c = true
      · have HR : Hid (itemP (c :: t) = .bad (c :: t)) := by show _ = _; simp [itemP, h92, hi]
        clear h92
        go_enter Tryz.func311, Tryz.ntmps311
        go_wp2_with (first
          | (go_at_call 168; refine (next_any _ _ _ _ _ _ _ _ HS.out).mono ?_; rintro e wn ⟨rfl, hwn⟩; replace HS := hide (HS.out.drn hwn); replace HO := hide (HO.out.trans (Off.drn hwn)); clear hwn; simp only [nextV])
          | (go_at_call 171; refine (among_any _ _ _ (by decide)).mono ?_; rintro e wa ⟨rfl, rfl⟩; simp only [amongB_inner])
          | (go_at_call 65; refine (fail_any _ _ _ _ _ _ _ _ HS.out).mono ?_; rintro e wf ⟨rfl, hwf, hof⟩; have HB := hide hwf; replace HO := hide (HO.out.trans hof); clear hwf hof))
        go_ret
        exact ⟨_, rfl, HO.out, by rw [HR.out]; exact ⟨HB.out, [], setv_nil _ _, by simp⟩⟩
      · have hi' : inner c = false := by simpa using hi
        have HR : Hid (itemP (c :: t) = rangeP c t) := by show _ = _; simp [itemP, h92, hi']
        have HRA := hide HA.out.head
        clear h92 hi
        by_cases h45 : t.head? = some 45
        · obtain ⟨u, rfl⟩ : ∃ u, t = 45 :: u := by cases t with | nil => simp at h45 | cons c t => simp at h45; exact ⟨t, by rw [h45]⟩
          clear h45
          cases hs : singleP c u with
          | bad u' =>
            have HR2 : Hid (rangeP c (45 :: u) = .bad u') := by show _ = _; simp only [rangeP, if_true, hs, Res.map]
            have HRS := hide hs
            clear hs
            have HOK := hide (ok_pair HRA.out HRA.out (Int.le_refl c))
            go_enter Tryz.func311, Tryz.ntmps311
            go_wp2_with (first
              | (go_at_call 168; refine (next_any _ _ _ _ _ _ _ _ HS.out).mono ?_; rintro e wn ⟨rfl, hwn⟩; replace HS := hide (HS.out.drn hwn); replace HO := hide (HO.out.trans (Off.drn hwn)); clear hwn; obtain ⟨c0, c1, c2, c3, c4, c5, hb⟩ := HS.out.cells; have hf := HS.out.1.frozen 1; have hlen := HS.out.2.2.2.1; simp only [nextV])
              | (go_at_call 171; refine (among_any _ _ _ (by decide)).mono ?_; rintro e wa ⟨rfl, rfl⟩; simp only [amongB_inner])
              | (go_at_call 117; refine (takes_yes _ _ _ _ _ _ _ _ _ HS.out.step.1 (by decide) (by decide)).mono ?_; rintro e wt ⟨rfl, hwt, hot⟩; replace HO := hide ((HO.out.trans HS.out.step.2).trans hot); replace HS := hide hwt; clear hwt hot)
              | (go_at_call 320; refine (single_any _ _ _ _ _ _ _ _ _ HS.out).mono ?_; rintro e ws ⟨xs, rfl, hos, hds⟩; replace HO := hide (HO.out.trans hos); clear hos; rw [HRS.out] at hds; obtain ⟨hst, rfl⟩ := hds; have HB := hide hst; clear hst)
              | (go_at_call 321; refine (norm_set _ [(_, _)] _ _ (rd_one _ _ _) (by simp) HOK.out).mono ?_; rintro e wo ⟨v2, rfl, hv2, hb2⟩; have HV := hide hv2; have HB1 := hide hb2; clear hv2 hb2))
            go_ret
            refine ⟨_, rfl, HO.out.trans ((Off.refl _ _).alloc _ |>.trans (Off.below HB1.out)), ?_⟩
            rw [HR.out, HR2.out]
            exact ⟨(HB.out.below ((Below.refl _ _).alloc (Nat.le_refl _) _)).below HB1.out, _, HV.out.mono (fun k _ hk => by have := HO.out.size; simp at hk; omega), form_pair_len _ _⟩
          | ok b2 u' =>
            have HR2 : Hid (rangeP c (45 :: u) = .ok [(c, b2)] u') := by show _ = _; simp only [rangeP, if_true, hs, Res.map]
            have HRS := hide hs
            have hnum := singleP_num (least := c) HA.out.tail.tail
            rw [hs] at hnum
            have HOK := hide (ok_pair HRA.out hnum.2 hnum.1)
            clear hnum
            clear hs
            go_enter Tryz.func311, Tryz.ntmps311
            go_wp2_with (first
              | (go_at_call 168; refine (next_any _ _ _ _ _ _ _ _ HS.out).mono ?_; rintro e wn ⟨rfl, hwn⟩; replace HS := hide (HS.out.drn hwn); replace HO := hide (HO.out.trans (Off.drn hwn)); clear hwn; obtain ⟨c0, c1, c2, c3, c4, c5, hb⟩ := HS.out.cells; have hf := HS.out.1.frozen 1; have hlen := HS.out.2.2.2.1; simp only [nextV])
              | (go_at_call 171; refine (among_any _ _ _ (by decide)).mono ?_; rintro e wa ⟨rfl, rfl⟩; simp only [amongB_inner])
              | (go_at_call 117; refine (takes_yes _ _ _ _ _ _ _ _ _ HS.out.step.1 (by decide) (by decide)).mono ?_; rintro e wt ⟨rfl, hwt, hot⟩; replace HO := hide ((HO.out.trans HS.out.step.2).trans hot); replace HS := hide hwt; clear hwt hot)
              | (go_at_call 320; refine (single_any _ _ _ _ _ _ _ _ _ HS.out).mono ?_; rintro e ws ⟨xs, rfl, hos, hds⟩; replace HO := hide (HO.out.trans hos); clear hos; rw [HRS.out] at hds; obtain ⟨hst, rfl⟩ := hds; replace HS := hide hst; clear hst)
              | (go_at_call 321; refine (norm_set _ [(_, _)] _ _ (rd_one _ _ _) (by simp) HOK.out).mono ?_; rintro e wo ⟨v2, rfl, hv2, hb2⟩; have HV := hide hv2; have HB1 := hide hb2; clear hv2 hb2))
            go_ret
            refine ⟨_, rfl, HO.out.trans ((Off.refl _ _).alloc _ |>.trans (Off.below HB1.out)), ?_⟩
            rw [HR.out, HR2.out]
            exact ⟨(HS.out.below ((Below.refl _ _).alloc (Nat.le_refl _) _)).below HB1.out, HV.out.mono (fun k _ hk => by have := HO.out.size; simp at hk; omega)⟩
        · have HR2 : Hid (rangeP c t = .ok [(c, c)] t) := by
            show _ = _
            cases t with
            | nil => rfl
            | cons e2 u2 => simp only [rangeP]; rw [if_neg (by simpa using h45)]
          have HN := hide h45
          clear h45
          go_enter Tryz.func311, Tryz.ntmps311
          go_wp2_with (first
            | (go_at_call 168; refine (next_any _ _ _ _ _ _ _ _ HS.out).mono ?_; rintro e wn ⟨rfl, hwn⟩; replace HS := hide (HS.out.drn hwn); replace HO := hide (HO.out.trans (Off.drn hwn)); clear hwn; obtain ⟨c0, c1, c2, c3, c4, c5, hb⟩ := HS.out.cells; have hf := HS.out.1.frozen 1; have hlen := HS.out.2.2.2.1; simp only [nextV])
            | (go_at_call 171; refine (among_any _ _ _ (by decide)).mono ?_; rintro e wa ⟨rfl, rfl⟩; simp only [amongB_inner])
            | (go_at_call 117; refine (takes_no _ _ _ _ _ _ _ _ _ HS.out.step.1 (by decide) (by decide) HN.out).mono ?_; rintro e wt ⟨rfl, hwt⟩; replace HO := hide ((HO.out.trans HS.out.step.2).trans (Off.drn hwt)); replace HS := hide (HS.out.step.1.drn hwt); clear hwt)
            | (go_at_call 170; refine (one_any _ _ HRA.out).mono ?_; rintro e wo ⟨v1, rfl, hv1, hb1⟩; have HV := hide hv1; have HB1 := hide hb1; clear hv1 hb1))
          go_ret
          refine ⟨_, rfl, HO.out.trans (Off.below HB1.out), ?_⟩
          rw [HR.out, HR2.out]
          refine ⟨HS.out.below HB1.out, ?_⟩
          show SetV _ _ _ (form _)
          rw [form_one HRA.out]
          exact HV.out.mono (fun k _ hk => by have := HO.out.size; omega)
end Go.Proofs.YtpoibdhhcbelnaaGreatDoor
/- The reference's brackets: a walk. -/
namespace Go.Proofs.YtpoibdhhcbelnaaGreatDoor
open Go.RowKit Brm

/-- Brackets, item by item: how many more at most; what is there so far; what it all comes to. -/
def BrI (w : World) (b : Nat) (lv : Value) (l : List Int) (g d m : Int) (R : Res (List (Int × Int))) (k : Nat) (v : Value) (wr : World) : Prop :=
  Off b w wr ∧ ((∃ l0 s0, St wr b lv l s0 g d m ∧ SetV wr (fun k => w.heap.size ≤ k) v (form l0) ∧ itemsP k l0 s0 = R ∧ (∀ x ∈ l0, okB x = true) ∧ l0.length + 5 * s0.length ≤ 400 ∧ s0.length < k) ∨
    (∃ s' t', Bad wr b lv l s' d ∧ R = .bad s' ∧ SetV wr (fun k => w.heap.size ≤ k) v t' ∧ t'.length ≤ 500))
/-- How brackets end. -/
def BrV (b : Nat) (lv : Value) (l : List Int) (g d m : Int) (w w' : World) (v : Value) (f : List (Int × Int) → List (Int × Int)) (R : Res (List (Int × Int))) : Prop :=
  Off b w w' ∧ Done b lv l g d m (R.map f) w' (fun x => SetV w' (fun k => w.heap.size ≤ k) v x) (IsSl v)

theorem itemsP_more : ∀ (n : Nat) (l : List (Int × Int)) (s : List Int), s.length < n → itemsP n l s = itemsP (n + 1) l s
  | 0, _, s, h => by omega
  | n + 1, l, s, h => by
    rw [itemsP, itemsP]
    split
    · rfl
    · have h2 := itemP_takes s
      cases hi : itemP s with
      | bad s' => rfl
      | ok x s' =>
        rw [hi] at h2
        have := h2.1
        exact itemsP_more n _ s' (by omega)

set_option maxRecDepth 100000 in
set_option maxHeartbeats 1000000 in
theorem brackets_not (b : Nat) (lv : Value) (l s1 : List Int) (g d m : Int) (w : World) (h : St w b lv l (94 :: s1) g d m) :
    Calls Tryz.prog 300 #[.pointer (some ⟨b, 0, none⟩)] w fun e w' => ∃ v, e = .returned v ∧ BrV b lv l g d m w w' v (fun x => notC (form x)) (itemsP (s1.length + 2) [] s1) := by
  have HS := hide h
  have HO := hide (Off.refl b w)
  have HBb := hide h.1.lt
  have hl60 := h.2.2.2.1
  have hsl := h.2.1.length_le
  skip
  clear h
  generalize hR : itemsP (s1.length + 2) [] s1 = R
  have HR0 := hide hR
  clear hR
  go_enter Tryz.func300, Tryz.ntmps300
  go_wp2_with (go_at_call 117; refine (takes_yes _ _ _ _ _ _ _ _ _ HS.out (by decide) (by decide)).mono ?_; rintro e wt ⟨rfl, hwt, hot⟩; replace HS := hide hwt; replace HO := hide (HO.out.trans hot); clear hwt hot)
  go_loopg [4] (s1.length + 2) (fun k v wr => BrI w b lv l g d m R k v wr)
  case atStart => exact ⟨HO.out, .inl ⟨[], s1, HS.out, setv_nil _ _, HR0.out, by simp, by simp at hsl ⊢; omega, by omega⟩⟩
  case round =>
    clear HO HS HR0
    obtain ⟨ho, hcase⟩ := hrel
    have HO := hide ho
    clear ho
    rcases hcase with ⟨l0, s0, hst, hsv, heq, hok, hle, hk⟩ | ⟨s', t', hbad, hR, hsv, ht⟩
    · obtain ⟨c0, c1, c2, c3, c4, c5, hb⟩ := hst.cells
      have hall := hst.2.2.2.2.1.suf hst.2.1
      have HS := hide hst
      have HV := hide hsv
      have HE := hide heq
      have HOK := hide hok
      have HLE := hide hle
      have HLN : Hid ((form l0).length ≤ 1000000) := by have := form_len l0; show _ ≤ _; omega
      clear hst hsv heq hok c0 c1 c3 c4 c5
      obtain ⟨k', rfl⟩ : ∃ k', gk = k' + 1 := ⟨gk - 1, by omega⟩
      by_cases h93 : s0.head? = some 93
      · obtain ⟨u, rfl⟩ : ∃ u, s0 = 93 :: u := by cases s0 with | nil => simp at h93 | cons c t => simp at h93; exact ⟨t, by rw [h93]⟩
        have HR : Hid (R.map (fun x => notC (form x)) = .ok ((fun x => notC (form x)) l0) u) := by
          have := HE.out
          simp only [itemsP, List.head?_cons, if_true, List.tail_cons] at this
          show _ = _
          rw [← this]; rfl
        clear h93 hall
        go_wp2_with (first
          | (go_at_call 117; refine (takes_yes _ _ _ _ _ _ _ _ _ HS.out (by decide) (by decide)).mono ?_; rintro e wt ⟨rfl, hwt, hot⟩; replace HS := hide hwt; replace HO := hide (HO.out.trans hot); replace HV := hide (HV.out.keep (Keeps.off hot (Nat.not_le_of_lt HBb.out))); clear hwt hot)
          | (go_at_call 169; refine (not_set _ _ _ _ HV.out HLN.out).mono ?_; rintro e wz ⟨v4, rfl, hv4, hb4⟩; have HV4 := hide hv4; have HB4 := hide hb4; clear hv4 hb4))
        go_ret
        exact ⟨_, rfl, HO.out.trans (Off.below HB4.out), by rw [HR.out]; exact ⟨HS.out.below HB4.out, HV4.out.mono (fun k _ hk => by have := HO.out.size; omega)⟩⟩
      · have HN93 := hide h93
        have hl1 := itemP_list hall
        have htk := itemP_takes s0
        cases hi : itemP s0 with
        | ok x s2 =>
          have HRI := hide hi
          rw [hi] at hl1 htk
          have HX0 := hide hl1
          have HL1 : Hid ((form l0).length ≤ 400000) := by have := form_len l0; show _ ≤ _; omega
          have HL2 : Hid ((form x).length ≤ 400000) := by have := form_len x; have := hl1.2; show _ ≤ _; simp at this; omega
          have HE2 : Hid (itemsP k' (l0 ++ x) s2 = R) := by
            have := HE.out
            simp only [itemsP, if_neg h93, hi, Res.bind] at this
            exact this
          have HLT := hide htk.1
          clear hi hl1 htk h93 hall
          go_wp2_with (first
            | (go_at_call 117; refine (takes_no _ _ _ _ _ _ _ _ _ HS.out (by decide) (by decide) HN93.out).mono ?_; rintro e wt ⟨rfl, hwt⟩; replace HS := hide (HS.out.drn hwt); replace HO := hide (HO.out.trans (Off.drn hwt)); replace HV := hide (HV.out.keep (Keeps.below hwt.below)); clear hwt)
            | (go_at_call 311; refine (item_any _ _ _ _ _ _ _ _ HS.out).mono ?_; rintro e wi ⟨vi, rfl, hoi, hdi⟩; have HV1 := hide (HV.out.keep (Keeps.off hoi (Nat.not_le_of_lt HBb.out))); replace HO := hide (HO.out.trans hoi); have HZ := hide hoi.size; clear hoi; rw [HRI.out] at hdi; obtain ⟨hst, hsv2⟩ := hdi; replace HS := hide hst; have HX := hide hsv2; clear hst hsv2)
            | (go_at_call 312; refine (or_set _ _ _ _ _ _ _ HV1.out HX.out (fun k hk => Nat.le_trans HO.out.size hk) HL1.out HL2.out).mono ?_; rintro e wr2 ⟨v3, rfl, hv3, hb3⟩; have HV3 := hide hv3; have HB3 := hide hb3; clear hv3 hb3))
          have HF := hide (form_cat HOK.out HX0.out.1)
          go_roundg k'
          case measure => omega
          case rel =>
            refine ⟨HO.out.trans (Off.below HB3.out), .inl ⟨l0 ++ x, s2, HS.out.below HB3.out, ?_, HE2.out, ?_, ?_, ?_⟩⟩
            · rw [← HF.out]; exact HV3.out
            · intro y hy
              rcases List.mem_append.1 hy with hy | hy
              · exact HOK.out y hy
              · exact HX0.out.1 y hy
            · have := HLE.out; have := HX0.out.2; rw [List.length_append]; omega
            · have := HLT.out; omega
        | bad s2 =>
          have HRI := hide hi
          have HL1 : Hid ((form l0).length ≤ 400000) := by have := form_len l0; show _ ≤ _; omega
          have HRB : Hid (R = .bad s2) := by
            have := HE.out
            simp only [itemsP, if_neg h93, hi, Res.bind] at this
            exact this.symm
          have HLF : Hid ((form l0).length ≤ 400) := by have := form_len l0; show _ ≤ _; omega
          clear hi hl1 htk h93 hall
          go_wp2_with (first
            | (go_at_call 117; refine (takes_no _ _ _ _ _ _ _ _ _ HS.out (by decide) (by decide) HN93.out).mono ?_; rintro e wt ⟨rfl, hwt⟩; replace HS := hide (HS.out.drn hwt); replace HO := hide (HO.out.trans (Off.drn hwt)); replace HV := hide (HV.out.keep (Keeps.below hwt.below)); clear hwt)
            | (go_at_call 311; refine (item_any _ _ _ _ _ _ _ _ HS.out).mono ?_; rintro e wi ⟨vi, rfl, hoi, hdi⟩; have HV1 := hide (HV.out.keep (Keeps.off hoi (Nat.not_le_of_lt HBb.out))); replace HO := hide (HO.out.trans hoi); have HZ := hide hoi.size; clear hoi; rw [HRI.out] at hdi; obtain ⟨hst, t2, hsv2, ht2⟩ := hdi; have HB := hide hst; have HX := hide hsv2; clear hst hsv2)
            | (go_at_call 312; refine (or_set _ _ _ _ _ _ _ HV1.out HX.out (fun k hk => Nat.le_trans HO.out.size hk) HL1.out (by omega)).mono ?_; rintro e wr2 ⟨v3, rfl, hv3, hb3⟩; have HV3 := hide hv3; have HB3 := hide hb3; clear hv3 hb3))
          go_roundg k'
          case measure => omega
          case rel =>
            refine ⟨HO.out.trans (Off.below HB3.out), .inr ⟨s2, _, HB.out.below HB3.out, HRB.out, HV3.out, ?_⟩⟩
            have := HLF.out
            have h3 := form_len (form l0 ++ t2)
            rw [List.length_append] at h3
            omega
    · obtain ⟨i0, g0, m0, c0, c1, c2, c3, c4, c5, hb⟩ := hbad.cells
      have HB := hide hbad
      have HV := hide hsv
      have HR : Hid (R.map (fun x => notC (form x)) = .bad s') := by show _ = _; rw [hR]; rfl
      have HLN : Hid (t'.length ≤ 1000000) := by show _ ≤ _; omega
      generalize l.length - s'.length = kk at c2
      clear hbad hsv hR c0 c1 c3 c4 c5
      have hd : decide ((kk : Int) < 0) = false := by simp
      go_wp2_with (go_at_call 169; refine (not_set _ _ _ _ HV.out HLN.out).mono ?_; rintro e wz ⟨v4, rfl, hv4, hb4⟩; have HV4 := hide hv4; have HB4 := hide hb4; clear hv4 hb4)
      go_ret
      exact ⟨_, rfl, HO.out.trans (Off.below HB4.out), by rw [HR.out]; exact ⟨HB.out.below HB4.out, set_isl HV4.out⟩⟩

set_option maxRecDepth 100000 in
set_option maxHeartbeats 1000000 in
theorem brackets_yes (b : Nat) (lv : Value) (l s1 : List Int) (g d m : Int) (w : World) (h : St w b lv l s1 g d m) (hn : s1.head? ≠ some 94) :
    Calls Tryz.prog 300 #[.pointer (some ⟨b, 0, none⟩)] w fun e w' => ∃ v, e = .returned v ∧ BrV b lv l g d m w w' v form (itemsP (s1.length + 2) [] s1) := by
  have HS := hide h
  have HO := hide (Off.refl b w)
  have HBb := hide h.1.lt
  have hl60 := h.2.2.2.1
  have hsl := h.2.1.length_le
  have HN := hide hn; clear hn
  clear h
  generalize hR : itemsP (s1.length + 2) [] s1 = R
  have HR0 := hide hR
  clear hR
  go_enter Tryz.func300, Tryz.ntmps300
  go_wp2_with (go_at_call 117; refine (takes_no _ _ _ _ _ _ _ _ _ HS.out (by decide) (by decide) HN.out).mono ?_; rintro e wt ⟨rfl, hwt⟩; replace HS := hide (HS.out.drn hwt); replace HO := hide (HO.out.trans (Off.drn hwt)); clear hwt)
  go_loopg [4] (s1.length + 2) (fun k v wr => BrI w b lv l g d m R k v wr)
  case atStart => exact ⟨HO.out, .inl ⟨[], s1, HS.out, setv_nil _ _, HR0.out, by simp, by simp at hsl ⊢; omega, by omega⟩⟩
  case round =>
    clear HO HS HR0
    obtain ⟨ho, hcase⟩ := hrel
    have HO := hide ho
    clear ho
    rcases hcase with ⟨l0, s0, hst, hsv, heq, hok, hle, hk⟩ | ⟨s', t', hbad, hR, hsv, ht⟩
    · obtain ⟨c0, c1, c2, c3, c4, c5, hb⟩ := hst.cells
      have hall := hst.2.2.2.2.1.suf hst.2.1
      have HS := hide hst
      have HV := hide hsv
      have HE := hide heq
      have HOK := hide hok
      have HLE := hide hle
      have HLN : Hid ((form l0).length ≤ 1000000) := by have := form_len l0; show _ ≤ _; omega
      clear hst hsv heq hok c0 c1 c3 c4 c5
      obtain ⟨k', rfl⟩ : ∃ k', gk = k' + 1 := ⟨gk - 1, by omega⟩
      by_cases h93 : s0.head? = some 93
      · obtain ⟨u, rfl⟩ : ∃ u, s0 = 93 :: u := by cases s0 with | nil => simp at h93 | cons c t => simp at h93; exact ⟨t, by rw [h93]⟩
        have HR : Hid (R.map form = .ok (form l0) u) := by
          have := HE.out
          simp only [itemsP, List.head?_cons, if_true, List.tail_cons] at this
          show _ = _
          rw [← this]; rfl
        clear h93 hall
        go_wp2_with (go_at_call 117; refine (takes_yes _ _ _ _ _ _ _ _ _ HS.out (by decide) (by decide)).mono ?_; rintro e wt ⟨rfl, hwt, hot⟩; replace HS := hide hwt; replace HO := hide (HO.out.trans hot); replace HV := hide (HV.out.keep (Keeps.off hot (Nat.not_le_of_lt HBb.out))); clear hwt hot)
        go_ret
        exact ⟨_, rfl, HO.out, by rw [HR.out]; exact ⟨HS.out, HV.out⟩⟩
      · have HN93 := hide h93
        have hl1 := itemP_list hall
        have htk := itemP_takes s0
        cases hi : itemP s0 with
        | ok x s2 =>
          have HRI := hide hi
          rw [hi] at hl1 htk
          have HX0 := hide hl1
          have HL1 : Hid ((form l0).length ≤ 400000) := by have := form_len l0; show _ ≤ _; omega
          have HL2 : Hid ((form x).length ≤ 400000) := by have := form_len x; have := hl1.2; show _ ≤ _; simp at this; omega
          have HE2 : Hid (itemsP k' (l0 ++ x) s2 = R) := by
            have := HE.out
            simp only [itemsP, if_neg h93, hi, Res.bind] at this
            exact this
          have HLT := hide htk.1
          clear hi hl1 htk h93 hall
          go_wp2_with (first
            | (go_at_call 117; refine (takes_no _ _ _ _ _ _ _ _ _ HS.out (by decide) (by decide) HN93.out).mono ?_; rintro e wt ⟨rfl, hwt⟩; replace HS := hide (HS.out.drn hwt); replace HO := hide (HO.out.trans (Off.drn hwt)); replace HV := hide (HV.out.keep (Keeps.below hwt.below)); clear hwt)
            | (go_at_call 311; refine (item_any _ _ _ _ _ _ _ _ HS.out).mono ?_; rintro e wi ⟨vi, rfl, hoi, hdi⟩; have HV1 := hide (HV.out.keep (Keeps.off hoi (Nat.not_le_of_lt HBb.out))); replace HO := hide (HO.out.trans hoi); have HZ := hide hoi.size; clear hoi; rw [HRI.out] at hdi; obtain ⟨hst, hsv2⟩ := hdi; replace HS := hide hst; have HX := hide hsv2; clear hst hsv2)
            | (go_at_call 312; refine (or_set _ _ _ _ _ _ _ HV1.out HX.out (fun k hk => Nat.le_trans HO.out.size hk) HL1.out HL2.out).mono ?_; rintro e wr2 ⟨v3, rfl, hv3, hb3⟩; have HV3 := hide hv3; have HB3 := hide hb3; clear hv3 hb3))
          have HF := hide (form_cat HOK.out HX0.out.1)
          go_roundg k'
          case measure => omega
          case rel =>
            refine ⟨HO.out.trans (Off.below HB3.out), .inl ⟨l0 ++ x, s2, HS.out.below HB3.out, ?_, HE2.out, ?_, ?_, ?_⟩⟩
            · rw [← HF.out]; exact HV3.out
            · intro y hy
              rcases List.mem_append.1 hy with hy | hy
              · exact HOK.out y hy
              · exact HX0.out.1 y hy
            · have := HLE.out; have := HX0.out.2; rw [List.length_append]; omega
            · have := HLT.out; omega
        | bad s2 =>
          have HRI := hide hi
          have HL1 : Hid ((form l0).length ≤ 400000) := by have := form_len l0; show _ ≤ _; omega
          have HRB : Hid (R = .bad s2) := by
            have := HE.out
            simp only [itemsP, if_neg h93, hi, Res.bind] at this
            exact this.symm
          have HLF : Hid ((form l0).length ≤ 400) := by have := form_len l0; show _ ≤ _; omega
          clear hi hl1 htk h93 hall
          go_wp2_with (first
            | (go_at_call 117; refine (takes_no _ _ _ _ _ _ _ _ _ HS.out (by decide) (by decide) HN93.out).mono ?_; rintro e wt ⟨rfl, hwt⟩; replace HS := hide (HS.out.drn hwt); replace HO := hide (HO.out.trans (Off.drn hwt)); replace HV := hide (HV.out.keep (Keeps.below hwt.below)); clear hwt)
            | (go_at_call 311; refine (item_any _ _ _ _ _ _ _ _ HS.out).mono ?_; rintro e wi ⟨vi, rfl, hoi, hdi⟩; have HV1 := hide (HV.out.keep (Keeps.off hoi (Nat.not_le_of_lt HBb.out))); replace HO := hide (HO.out.trans hoi); have HZ := hide hoi.size; clear hoi; rw [HRI.out] at hdi; obtain ⟨hst, t2, hsv2, ht2⟩ := hdi; have HB := hide hst; have HX := hide hsv2; clear hst hsv2)
            | (go_at_call 312; refine (or_set _ _ _ _ _ _ _ HV1.out HX.out (fun k hk => Nat.le_trans HO.out.size hk) HL1.out (by omega)).mono ?_; rintro e wr2 ⟨v3, rfl, hv3, hb3⟩; have HV3 := hide hv3; have HB3 := hide hb3; clear hv3 hb3))
          go_roundg k'
          case measure => omega
          case rel =>
            refine ⟨HO.out.trans (Off.below HB3.out), .inr ⟨s2, _, HB.out.below HB3.out, HRB.out, HV3.out, ?_⟩⟩
            have := HLF.out
            have h3 := form_len (form l0 ++ t2)
            rw [List.length_append] at h3
            omega
    · obtain ⟨i0, g0, m0, c0, c1, c2, c3, c4, c5, hb⟩ := hbad.cells
      have HB := hide hbad
      have HV := hide hsv
      have HR : Hid (R.map form = .bad s') := by show _ = _; rw [hR]; rfl
      have HLN : Hid (t'.length ≤ 1000000) := by show _ ≤ _; omega
      generalize l.length - s'.length = kk at c2
      clear hbad hsv hR c0 c1 c3 c4 c5
      have hd : decide ((kk : Int) < 0) = false := by simp
      go_wp2_with fail
      go_ret
      exact ⟨_, rfl, HO.out, by rw [HR.out]; exact ⟨HB.out, set_isl HV.out⟩⟩

theorem brackets_any (b : Nat) (lv : Value) (l s : List Int) (g d m : Int) (w : World) (h : St w b lv l s g d m) :
    Calls Tryz.prog 300 #[.pointer (some ⟨b, 0, none⟩)] w fun e w' => ∃ v, e = .returned v ∧ Off b w w' ∧ Done b lv l g d m (bracketP s) w' (fun x => SetV w' (fun k => w.heap.size ≤ k) v x) (IsSl v) := by
  unfold bracketP
  by_cases h94 : s.head? = some 94
  · obtain ⟨s1, rfl⟩ : ∃ t, s = 94 :: t := by cases s with | nil => simp at h94 | cons c t => simp at h94; exact ⟨t, by rw [h94]⟩
    rw [if_pos h94]
    exact brackets_not b lv l s1 g d m w h
  · rw [if_neg h94]
    refine (brackets_yes b lv l s g d m w h h94).mono ?_
    rintro e w' ⟨v, rfl, ho, hd⟩
    refine ⟨v, rfl, ho, ?_⟩
    rw [itemsP_more (s.length + 1) [] s (by omega)]
    exact hd
end Go.Proofs.YtpoibdhhcbelnaaGreatDoor
