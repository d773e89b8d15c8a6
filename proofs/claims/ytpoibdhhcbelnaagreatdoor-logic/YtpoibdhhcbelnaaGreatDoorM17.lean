/- Walks and plain laws, some texts in one. -/
import Derived.Deep.LoopGhost
import Derived.Test.YtpoibdhhcbelnaaGreatDoorM09
import Derived.Test.YtpoibdhhcbelnaaGreatDoorM10
/- The reference's sets as sets in their one form: walks. -/
namespace Go.Proofs.YtpoibdhhcbelnaaGreatDoor
open Go.RowKit Brm

theorem setv_of {w : World} {A : Nat → Prop} {v : Value} {q s : List (Int × Int)} (h : SlA w A v q) (hq : PCanon q) (e : told q = s) : SetV w A v s := ⟨q, hq, e, h⟩
theorem told_len (q : List (Int × Int)) : (told q).length = q.length := by simp [told]
theorem not_set (A : Nat → Prop) (v : Value) (s : List (Int × Int)) (w : World) (h : SetV w A v s) (hlen : s.length ≤ 1000000) :
    Calls Tryz.prog 169 #[v] w fun e w' => ∃ v', e = .returned v' ∧ SetV w' (fun k => w.heap.size ≤ k) v' (notC s) ∧ Below w.heap.size w w' := by
  obtain ⟨q, hq, rfl, hs⟩ := h
  obtain ⟨ao, cap, rfl, hr, _⟩ := (SlA.sl hs).rd
  rw [told_len] at hlen
  refine (rnot_any ao q cap w hr hlen hq).mono ?_
  rintro e w' ⟨v', rfl, out, ⟨h1, h2, h3⟩, ho, hb⟩
  refine ⟨v', rfl, setv_of (own_slA ho (fun k hk => hk)) h1 (notC_unique (told_canon hq) (told_canon h1) (fun r hr => ?_)), hb⟩
  rw [told_mem h1 r hr, told_mem hq r hr, h2 _ (back_up hr).2.1]
theorem rd_one (w : World) (x y : Int) : Rd (w.alloc (.cells #[.int .i64 x, .int .i64 y] 149)) (some ⟨w.heap.size, 0, none⟩) [(x, y)] := by
  intro i z hz
  match i, hz with
  | 0, hz => simp at hz; subst hz; exact ⟨_, _, rfl, by simp, by simp, by simp⟩
set_option maxRecDepth 100000 in
set_option maxHeartbeats 400000 in
theorem one_any (c : Int) (w : World) (hc : runeB c = true) : Calls Tryz.prog 170 #[.int .i64 c] w fun e w' => ∃ v, e = .returned v ∧ SetV w' (fun k => w.heap.size ≤ k) v [(c, c)] ∧ Below w.heap.size w w' := by
  have HC := hide hc
  have hb := (rune_iff c).1 hc
  clear hc
  go_enter Tryz.func170, Tryz.ntmps170
  go_wp2_with (go_at_call 74; refine (up_any _ _ (by omega) (by omega)).mono ?_; rintro e w' ⟨rfl, rfl⟩)
  go_ret
  obtain ⟨h1, h2, h3⟩ := back_up HC.out
  refine ⟨_, rfl, setv_of (q := [(up c, up c)]) (.inr ⟨_, 0, 1, rfl, by simp, Nat.le_refl _, by simp, rd_one _ _ _⟩) ⟨fun x hx => by simp at hx; subst hx; exact ⟨h2.1, Int.le_refl _, h2.2⟩, by simp⟩ (by simp [told, h1]), (Below.refl _ _).alloc (Nat.le_refl _) _⟩
set_option maxRecDepth 100000 in
set_option maxHeartbeats 400000 in
theorem dot_any (w : World) : Calls Tryz.prog 119 #[] w fun e w' => ∃ v, e = .returned v ∧ SetV w' (fun k => w.heap.size ≤ k) v dot ∧ Below w.heap.size w w' := by
  go_enter Tryz.func119, Tryz.ntmps119
  go_wp2_with (first
    | (go_at_call 170; refine (one_any _ _ (by decide)).mono ?_; rintro e w1 ⟨v1, rfl, hv1, hb1⟩; have HV := hide hv1; have HB := hide hb1; clear hv1 hb1)
    | (go_at_call 169; refine (not_set _ _ _ _ HV.out (by decide)).mono ?_; rintro e w2 ⟨v2, rfl, hv2, hb2⟩; have HV2 := hide hv2; have HB2 := hide hb2; clear hv2 hb2))
  go_ret
  exact ⟨_, rfl, HV2.out.mono (fun k _ hk => Nat.le_trans HB.out.size hk), HB.out.trans (HB2.out.mono HB.out.size)⟩
end Go.Proofs.YtpoibdhhcbelnaaGreatDoor
/- The reference's classes: walks. -/
namespace Go.Proofs.YtpoibdhhcbelnaaGreatDoor
open Go.RowKit Brm

theorem rd_lit (w : World) (l : List (Int × Int)) : Rd (w.alloc (.cells (cellsR l).toArray 149)) (some ⟨w.heap.size, 0, none⟩) l := by
  intro i x hx
  have hg := cellsR_get hx
  refine ⟨_, _, rfl, by simp, ?_, ?_⟩
  · rw [(Blk.new w (cellsR l) 149).cell]; simpa using hg.1
  · rw [(Blk.new w (cellsR l) 149).cell]; simpa using hg.2
end Go.Proofs.YtpoibdhhcbelnaaGreatDoor
/- The reference's signs and classes behind a backslash, and a rune behind -: walks. -/
namespace Go.Proofs.YtpoibdhhcbelnaaGreatDoor
open Go.RowKit Brm

def EscV (w' : World) (A : Nat → Prop) (v : Value) (f : Bool) (r : Int ⊕ List (Int × Int)) : Prop := match r with | .inl a => f = true ∧ SetV w' A v [(a, a)] ∧ runeB a = true | .inr L => f = false ∧ SetV w' A v L
end Go.Proofs.YtpoibdhhcbelnaaGreatDoor
/- The reference's items of brackets: a walk. -/
namespace Go.Proofs.YtpoibdhhcbelnaaGreatDoor
open Go.RowKit Brm

/-- What an item is handed back as. -/
def ItemV (w' : World) (A : Nat → Prop) (v : Value) : Prop := ∃ s0, SetV w' A v s0 ∧ s0.length ≤ 1

end Go.Proofs.YtpoibdhhcbelnaaGreatDoor
/- The reference's brackets: a walk. -/
namespace Go.Proofs.YtpoibdhhcbelnaaGreatDoor
open Go.RowKit Brm

/-- Brackets, item by item: how many more at most; what is there so far; what it all comes to. -/
def BrI (w : World) (b : Nat) (lv : Value) (l : List Int) (g d m : Int) (R : Res (List (Int × Int))) (k : Nat) (v : Value) (wr : World) : Prop :=
  Off b w wr ∧ ((∃ l0 s0, St wr b lv l s0 g d m ∧ SetV wr (fun k => w.heap.size ≤ k) v (form l0) ∧ itemsP k l0 s0 = R ∧ (∀ x ∈ l0, okB x = true) ∧ l0.length + 5 * s0.length ≤ 400 ∧ s0.length < k) ∨
    (∃ s' t', Bad wr b lv l s' d ∧ R = .bad s' ∧ SetV wr (fun k => w.heap.size ≤ k) v t' ∧ t'.length ≤ 500))
/-- How brackets end. -/
def BrV (b : Nat) (lv : Value) (l : List Int) (g d m : Int) (w w' : World) (v : Value) (f : List (Int × Int) → List (Int × Int)) (R : Res (List (Int × Int))) : Prop :=
  Off b w w' ∧ Done b lv l g d m (R.map f) w' (fun x => SetV w' (fun k => w.heap.size ≤ k) v x) (IsSl v)

theorem itemsP_more : ∀ (n : Nat) (l : List (Int × Int)) (s : List Int), s.length < n → itemsP n l s = itemsP (n + 1) l s
  | 0, _, s, h => by omega
  | n + 1, l, s, h => by
    rw [itemsP, itemsP]
    split
    · rfl
    · have h2 := itemP_takes s
      cases hi : itemP s with
      | bad s' => rfl
      | ok x s' =>
        rw [hi] at h2
        have := h2.1
        exact itemsP_more n _ s' (by omega)

end Go.Proofs.YtpoibdhhcbelnaaGreatDoor
/- The reference's counts: a walk. -/
namespace Go.Proofs.YtpoibdhhcbelnaaGreatDoor
open Go.RowKit Brm

end Go.Proofs.YtpoibdhhcbelnaaGreatDoor
/- The reference's grammar: what each rule's call does, and the way deeper: a walk. -/
namespace Go.Proofs.YtpoibdhhcbelnaaGreatDoor
open Go.RowKit Brm

def Part (b : Nat) (lv : Value) (l : List Int) (g : Nat) (d m : Int) (r : Res Pat) (w w' : World) (c : List Value) : Prop :=
  Off b w w' ∧ match r with
  | .ok p s => NV w' (fun k => w.heap.size ≤ k) p c g ∧ St w' b lv l s ((g + p.groups : Nat) : Int) d (max m (d + p.deep))
  | .bad s => Bad w' b lv l s d
/-- A call that hands a pattern back. -/
def Gives (F : Nat) (b : Nat) (lv : Value) (l : List Int) (g : Nat) (d m : Int) (r : Res Pat) (w : World) : Prop :=
  Calls Tryz.prog F #[.pointer (some ⟨b, 0, none⟩)] w fun e w' => ∃ k so sn sc lo ln lc mm nn rr, e = .returned (.agg #[.int .i64 k, .slice so sn sc, .slice lo ln lc, .int .i64 mm, .int .i64 nn, .int .i64 rr]) ∧
    Part b lv l g d m r w w' (Six k so sn sc lo ln lc mm nn rr)
def OrOk (n : Nat) : Prop := ∀ (b : Nat) (lv : Value) (l s : List Int) (g : Nat) (d m : Int) (w : World), St w b lv l s g d m → s.length < n → Gives 64 b lv l g d m (orN false n s) w

/-- A node laid into a block. -/
abbrev put6 (w : World) (r : Nat) (c0 c1 c2 c3 c4 c5 : Value) : World := (((((w.setCell ⟨r, 0, none⟩ c0).setCell ⟨r, 1, none⟩ c1).setCell ⟨r, 2, none⟩ c2).setCell ⟨r, 3, none⟩ c3).setCell ⟨r, 4, none⟩ c4).setCell ⟨r, 5, none⟩ c5
theorem St.move {w0 w1 w2 : World} {b : Nat} {lv : Value} {l s : List Int} {g d m : Int} (h0 : Txt w0 b lv l) (ho : Off b w0 w2) (h1 : St w1 b lv l s g d m) (h2 : Rdr w2 b lv ((l.length - s.length : Nat) : Int) (-1) g d m) : St w2 b lv l s g d m :=
  ⟨h2, h1.2.1, h0.off ho, h1.2.2.2⟩
theorem zero_cells {w : World} {r : Nat} (h : Blk w r [.int .i64 0, .slice none 0 0, .slice none 0 0, .int .i64 0, .int .i64 0, .int .i64 0] 32) :
    (w.cell? ⟨r, 0, none⟩ = some (.int .i64 0) ∧ w.cell? ⟨r, 1, none⟩ = some (.slice none 0 0) ∧ w.cell? ⟨r, 2, none⟩ = some (.slice none 0 0) ∧ w.cell? ⟨r, 3, none⟩ = some (.int .i64 0) ∧ w.cell? ⟨r, 4, none⟩ = some (.int .i64 0) ∧ w.cell? ⟨r, 5, none⟩ = some (.int .i64 0)) ∧
    (w.frozen? ⟨r, 0, none⟩ = false ∧ w.frozen? ⟨r, 1, none⟩ = false ∧ w.frozen? ⟨r, 2, none⟩ = false ∧ w.frozen? ⟨r, 3, none⟩ = false ∧ w.frozen? ⟨r, 4, none⟩ = false ∧ w.frozen? ⟨r, 5, none⟩ = false) ∧ r < w.heap.size :=
  ⟨⟨h.cell 0, h.cell 1, h.cell 2, h.cell 3, h.cell 4, h.cell 5⟩, ⟨h.frozen 0, h.frozen 1, h.frozen 2, h.frozen 3, h.frozen 4, h.frozen 5⟩, h.lt⟩

end Go.Proofs.YtpoibdhhcbelnaaGreatDoor
/- The reference's atoms: a walk. -/
namespace Go.Proofs.YtpoibdhhcbelnaaGreatDoor
open Go.RowKit Brm

/-- A set is laid into the block of the result. -/
theorem set_end {w w1 w2 : World} {b : Nat} {lv : Value} {l s : List Int} {g : Nat} {d m : Int} {B : Nat} {so : Option Addr} {sn sc : Nat} {x : List (Int × Int)} (h0 : St w1 b lv l s g d m) (hv : SetV w1 (fun k => B ≤ k) (.slice so sn sc) x) (hB : w.heap.size < B) (hb : b < w.heap.size) (ho : Off b w w1) (ht : Txt w b lv l)
    (e : w2 = put6 w1 w.heap.size (.int .i64 1) (.slice so sn sc) (.slice none 0 0) (.int .i64 0) (.int .i64 0) (.int .i64 0)) : Part b lv l g d m (.ok (.set x) s) w w2 (Six 1 so sn sc none 0 0 0 0 0) := by
  subst e
  have hF := ho.put6 (r := w.heap.size) (Nat.le_refl _) (.int .i64 1) (.slice so sn sc) (.slice none 0 0) (.int .i64 0) (.int .i64 0) (.int .i64 0)
  have hmx : max m (d + ((Pat.set x).deep : Int)) = m := by have := h0.2.2.2.2.2; simp [Pat.deep]; omega
  have hgx : ((g + (Pat.set x).groups : Nat) : Int) = g := by simp [Pat.groups]
  refine ⟨hF, ⟨_, rfl, ?_⟩, ?_⟩
  · exact (hv.keep ((Keeps.refl _ w1).put6 (r := w.heap.size) (by simp; omega) (.int .i64 1) (.slice so sn sc) (.slice none 0 0) (.int .i64 0) (.int .i64 0) (.int .i64 0))).mono (fun q _ hq => by omega)
  · rw [hmx, hgx]
    exact St.move ht hF h0 (h0.1.put6 (r := w.heap.size) (by omega) (.int .i64 1) (.slice so sn sc) (.slice none 0 0) (.int .i64 0) (.int .i64 0) (.int .i64 0))
end Go.Proofs.YtpoibdhhcbelnaaGreatDoor
