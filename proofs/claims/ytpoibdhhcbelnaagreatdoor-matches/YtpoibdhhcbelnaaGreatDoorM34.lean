/- Walks and plain laws, some texts in one. -/
import Derived.Deep.RegionHeld3
import Derived.Deep.RegionWith
import Derived.Test.YtpoibdhhcbelnaaGreatDoorM24
import Derived.Test.YtpoibdhhcbelnaaGreatDoorM21
import Derived.Test.YtpoibdhhcbelnaaGreatDoorM10
/- The reference's Print: a walk. -/
namespace Go.Proofs.YtpoibdhhcbelnaaGreatDoor
open Go.RowKit Brm

/-- What is written of a pattern that was read. -/
def wrOf (op : Option Pat) : List UInt8 := match op with | some p => p.wr | none => []
/-- What Print answers to a pattern's bytes: the text, the error, the place. -/
def PrintR (bs : List UInt8) (t : List UInt8) (er place : Int) : Prop := ∃ op, ReadR bs (er, place, op) ∧ t = wrOf op
theorem printR_unique {bs t t' : List UInt8} {er er' place place' : Int} (h : PrintR bs t er place) (h' : PrintR bs t' er' place') : t' = t ∧ er' = er ∧ place' = place := by
  obtain ⟨op, h1, rfl⟩ := h
  obtain ⟨op', h2, rfl⟩ := h'
  have := readR_unique h1 h2
  simp only [Prod.mk.injEq] at this
  obtain ⟨rfl, rfl, rfl⟩ := this
  exact ⟨rfl, rfl, rfl⟩
theorem readR_some {bs : List UInt8} {er place : Int} {p : Pat} (h : ReadR bs (er, place, some p)) : er = 0 ∧ place = 0 ∧ p.Ok ∧ p.wr.length ≤ 3600 := by
  rcases h with ⟨_, h⟩ | ⟨_, k, _, h⟩ | ⟨hl, l, hr, h⟩
  · simp at h
  · simp at h
  · have hp := orN_pat false (l.length + 1) l (runes_all hr)
    have hlen := runes_len hr
    unfold outcome at h
    cases ho : orN false (l.length + 1) l with
    | bad s => rw [ho] at h; simp at h
    | ok q s =>
      rw [ho] at h hp
      cases s with
      | cons c t => simp at h
      | nil =>
        simp only at h
        split at h
        · simp at h
        · simp only [Prod.mk.injEq, Option.some.injEq] at h
          obtain ⟨rfl, rfl, rfl⟩ := h
          obtain ⟨h1, h2⟩ := hp
          simp only [List.length_nil, Nat.mul_zero, Nat.add_zero, Nat.zero_add] at h2
          exact ⟨rfl, rfl, h1, by omega⟩
theorem readR_none {bs : List UInt8} {er place : Int} (h : ReadR bs (er, place, none)) : er ≠ 0 := by
  rcases h with ⟨_, h⟩ | ⟨_, k, _, h⟩ | ⟨hl, l, hr, h⟩
  · simp at h; omega
  · simp at h; omega
  · unfold outcome at h
    cases ho : orN false (l.length + 1) l with
    | bad s => rw [ho] at h; simp at h; omega
    | ok q s =>
      rw [ho] at h
      cases s with
      | cons c t => simp at h; omega
      | nil =>
        simp only at h
        split at h
        · simp at h; omega
        · simp at h
set_option maxRecDepth 100000 in
set_option maxHeartbeats 1000000 in
theorem print_ref (s : ByteArray) (w : World) (hm : s.size ≤ 9223372036854775807) : Calls Tryz.prog 14 #[.string s] w fun e w' => ∃ t er place, e = .returned (.tuple #[.string t, .int .i64 er, .int .i64 place]) ∧ PrintR (bytesOf s) (bytesOf t) er place ∧ Below w.heap.size w w' := by
  have HR := hide (read_ref s w hm)
  go_enter Tryz.func14, Tryz.ntmps14
  go_wp2_with fail
  refine HR.out.mono ?_
  rintro e w1 ⟨hb1, k, so, sn, sc, lo, ln, lc, mm, nn, rr, gr, er, place, op, hr, rfl, hop⟩
  have HB1 := hide hb1
  have HRR := hide hr
  clear hb1
  cases op with
  | none =>
    have hne : (er == 0) = false := beq_eq_false_iff_ne.2 (readR_none hr)
    clear hr hop
    go_wp2
    refine bodyPost_ret (v := .tuple #[.string ⟨#[]⟩, .int .i64 er, .int .i64 place]) (by simp [results, Tryz.results14, go_sem]) rfl ?_
    exact ⟨_, _, _, rfl, ⟨none, HRR.out, rfl⟩, HB1.out.trans ((new1 _ _).mono HB1.out.size)⟩
  | some p =>
    obtain ⟨rfl, rfl, hok, hlen⟩ := readR_some hr
    obtain ⟨hnv, hgr⟩ := hop
    have HNV := hide hnv
    have HOK := hide hok
    have HLN := hide (show p.wr.length ≤ 4000 by omega)
    clear hr hnv hok hlen hgr
    go_wp2_with fail
    refine (text_all p _ _ 0 _ (HNV.out.alloc _) HLN.out HOK.out).mono ?_
    rintro e w2 ⟨t, rfl, ht, hb2⟩
    have HT := hide ht
    have HB2 := hide hb2
    clear ht hb2
    go_wp2
    refine bodyPost_ret (v := .tuple #[.string t, .int .i64 0, .int .i64 0]) (by simp [results, Tryz.results14, go_sem]) rfl ?_
    exact ⟨t, 0, 0, rfl, ⟨some p, HRR.out, HT.out⟩, HB1.out.trans (((new1 _ _).trans (HB2.out.mono (by simp))).mono HB1.out.size)⟩
end Go.Proofs.YtpoibdhhcbelnaaGreatDoor
/- The reference's table of a pattern: parts: walks. -/
namespace Go.Proofs.YtpoibdhhcbelnaaGreatDoor
open Go.RowKit Brm

/-- Runes in memory. -/
def Il (w : World) (v : Value) (l : List Int) : Prop := ∃ B, w.ownsRow B 3 1 v l.length (ints l)
theorem Il.below {w w' : World} {v : Value} {l : List Int} (h : Il w v l) (hb : Below w.heap.size w w') : Il w' v l := by
  obtain ⟨B, h⟩ := h; exact ⟨B, own_block h (fun q hq => hb.block q (h.lt q hq).2)⟩
theorem Il.form {w : World} {v : Value} {l : List Int} (h : Il w v l) : ∃ ao cap, v = .slice ao l.length cap := by obtain ⟨B, h⟩ := h; exact own3_form h
theorem Il.cell {w : World} {ao : Option Addr} {cap : Nat} {l : List Int} (h : Il w (.slice ao l.length cap) l) {i : Nat} {c : Int} (hi : l[i]? = some c) : ∃ bp, ao = some ⟨bp, 0, none⟩ ∧ w.cell? ⟨bp, i, none⟩ = some (.int .i64 c) ∧ bp < w.heap.size := by
  obtain ⟨B, h⟩ := h
  have hx : (ints l)[i]? = some (.int .i64 c) := by unfold ints; rw [List.getElem?_map, hi]; rfl
  rcases h.2 with ⟨e, h0⟩ | ⟨g, cap', cur, e, hg, hh, _⟩
  · have := (List.getElem?_eq_some_iff.1 hi).1; omega
  · cases e
    refine ⟨g, rfl, ?_, (h.lt g rfl).2⟩
    have := h.cells rfl i _ hx
    rw [Addr.add_lit] at this; simpa using this
theorem rd_heap {w w' : World} {ao : Option Addr} {l : List (Int × Int)} (h : Rd w ao l) (e : w'.heap = w.heap) : Rd w' ao l := by
  intro i x hx
  obtain ⟨b, off, ha, hlt, h1, h2⟩ := h i x hx
  exact ⟨b, off, ha, by rw [e]; exact hlt, (World.cell?_of_block (w := w) (by rw [e])).trans h1, (World.cell?_of_block (w := w) (by rw [e])).trans h2⟩
def TabOk (p : Pat) : Prop := ∀ (A : Nat → Prop) (c : List Value) (g : Nat) (w : World) (l : List Int) (lv : Value), NV w A p c g → p.wr.length ≤ 4000 → p.Ok → Il w lv l → l.length ≤ 40 → AllR l →
  Calls Tryz.prog 41 #[.agg c.toArray, lv] w fun e w' => ∃ v, e = .returned v ∧ Tb w' w.heap.size v l.length (mT p l) ∧ Below w.heap.size w w'
/-- A table of single runes, so far. -/
def setT (q : List (Int × Int)) (l : List Int) (k : Nat) (i j : Nat) : Bool := decide (i < k) && (match l[i]? with | some c => decide (j = i + 1) && memB q (up c) | none => false)
theorem setT_step {q : List (Int × Int)} {l : List Int} {k a b : Nat} {c : Int} (hc : l[k]? = some c) (x : Bool) (hx : x = memB q (up c)) : upd (setT q l k) k (k + 1) x a b = setT q l (k + 1) a b := by
  unfold upd setT
  by_cases e1 : a = k
  · subst e1
    rw [if_pos rfl, hc, decide_eq_false (Nat.lt_irrefl _), decide_eq_true (Nat.lt_succ_self _)]
    by_cases e2 : b = a + 1
    · rw [if_pos e2, hx]; simp [e2]
    · rw [if_neg e2]; simp [e2]
  · rw [if_neg e1]
    have : decide (a < k) = decide (a < k + 1) := by rw [Bool.eq_iff_iff]; simp; omega
    rw [this]
set_option maxRecDepth 100000 in
set_option maxHeartbeats 4000000 in
theorem tab_set (st : List (Int × Int)) : TabOk (.set st) := by
  intro A c g w l lv h hl hok hI h40 hall
  obtain ⟨sv, rfl, hs⟩ := h
  obtain ⟨q, hq1, hq2, hq3⟩ := hs
  obtain ⟨so, sc, rfl, hrd, hql⟩ : ∃ so sc, sv = .slice so q.length sc ∧ Rd w so q ∧ q.length ≤ 100000 := by
    have hlen : q.length ≤ 100000 := by
      have h9 := wrSet_pos st
      have h8 : (wrSet st).length ≤ 4000 := hl
      rw [← hq2, told_len] at h9
      rw [← hq2] at h8
      omega
    rcases hq3 with ⟨rfl, rfl⟩ | ⟨b, off, cap, rfl, _, _, _, hr⟩
    · exact ⟨none, 0, rfl, fun i x hx => by simp at hx, hlen⟩
    · exact ⟨_, cap, rfl, hr, hlen⟩
  have HRDw := hide hrd
  have HIw := hide hI
  have HN0 := hide (new1 w (.cells #[.int .i64 1, .slice so q.length sc, .slice none 0 0, .int .i64 0, .int .i64 0, .int .i64 0] 32))
  have HBX0 := hide (Blk.new w [.int .i64 1, .slice so q.length sc, .slice none 0 0, .int .i64 0, .int .i64 0, .int .i64 0] 32)
  obtain ⟨ao, cp, rfl⟩ := hI.form
  have HALL := hide hall
  have HQ := hide hq1
  have HQ2 := hide hq2
  clear hrd hI hq3 hok hl hall
  show Calls Tryz.prog 41 #[.agg #[.int .i64 1, .slice so q.length sc, .slice none 0 0, .int .i64 0, .int .i64 0, .int .i64 0], .slice ao l.length cp] w _
  go_enter Tryz.func41, Tryz.ntmps41
  go_wp2_with fail
  generalize hW : w.alloc (.cells #[.int .i64 1, .slice so q.length sc, .slice none 0 0, .int .i64 0, .int .i64 0, .int .i64 0] 32) = W0 at *
  refine (empties_any l.length W0 (by omega)).mono ?_
  rintro e w1 ⟨v1, rfl, ht1, hb1⟩
  obtain ⟨ob1, cap1, rfl⟩ := ht1.form
  have HBX := hide (HBX0.out.below hb1)
  have HB := hide (HN0.out.trans (hb1.mono HN0.out.size))
  have HBW := hide hb1
  have HTE := hide (ht1.le HN0.out.size)
  obtain ⟨x0, x1, x2, x3, x4, x5⟩ := HBX.out.six
  have hXl := HBX.out.lt
  clear ht1 hb1 HTE
  go_wp2_with fail
  refine (blank_any l.length w1 (by omega)).mono ?_
  rintro e w2 ⟨v2, rfl, ht2, hb2⟩
  obtain ⟨ob, cap, rfl⟩ := ht2.form
  have HT2 := hide (ht2.le HB.out.size)
  replace HBX := hide (HBX.out.below hb2)
  have HB2 := hide (HB.out.trans (hb2.mono HB.out.size))
  clear ht2 hb2 x0 x1 x2 x3 x4 x5 hXl HB
  go_wp2_with fail
  go_loopw [7] (fun i wr => ∃ k : Nat, k ≤ l.length ∧ i = .int .i64 k ∧ Tb wr w.heap.size (.slice (some ⟨ob, 0, none⟩) (l.length + 1) cap) l.length (setT q l k) ∧ Below w.heap.size w wr ∧ Blk wr w.heap.size [.int .i64 1, .slice so q.length sc, .slice none 0 0, .int .i64 0, .int .i64 0, .int .i64 0] 32) (fun i _ => l.length - (intOf i).toNat)
  case atStart => exact ⟨0, Nat.zero_le _, rfl, HT2.out.congr (fun a b _ _ => by unfold setT; simp), HB2.out, HBX.out⟩
  case round =>
    clear HT2 HB2 HBX
    obtain ⟨k, hk, rfl, ht, hb, hbx⟩ := hrel
    have HT := hide ht
    have HB := hide hb
    have HBX := hide hbx
    have k0 : (0 : Int) ≤ (k : Int) := Int.natCast_nonneg _
    by_cases hlt : k < l.length
    · have hc := List.getElem?_eq_getElem hlt
      have hru := HALL.out l[k] (List.getElem_mem hlt)
      generalize l[k] = ch at hc hru
      have hrr := (rune_iff ch).1 hru
      obtain ⟨bp, rfl, hcell, hbp⟩ := (HIw.out.below hb).cell hc
      obtain ⟨rb, hob, hrb, hBb, hcb, hat⟩ := ht.at (i := k) (by omega)
      obtain ⟨hcj, hfz, hset⟩ := hat (k + 1) (by omega)
      obtain ⟨x0, x1, x2, x3, x4, x5⟩ := hbx.six
      have hXl := hbx.lt
      have HUP := hide (fun w => up_any ch w (by omega) (by omega))
      have HHAS := hide (fun (w' : World) (e : w'.heap = wr.heap) => rhas_any so q sc (up ch) w' (rd_heap (HRDw.out.below hb) e) (by omega))
      have HS := hide (fun x hx => (hset x).congr (fun a b _ _ => setT_step (a := a) (b := b) hc x hx))
      have HBb := hide hBb
      generalize memB q (up ch) = MB at HHAS HS
      generalize up ch = UC at HUP HHAS
      have HNE := hide (ht.ne (by omega) hcb hbx (by decide))
      have k1 : (k : Int) < (l.length : Int) := by omega
      have k2 : (k : Int) < (l.length : Int) + 1 := by omega
      have k3 : (k : Int) + 1 < (l.length : Int) + 1 := by omega
      have k4 : (0 : Int) ≤ (k : Int) + 1 := by omega
      have k5 : (k : Int) ≤ 40 := by omega
      have hwrap : IntKind.i64.wrap ((k : Int) + 1) = (k : Int) + 1 := by simp [IntKind.wrap, IntKind.bits, IntKind.signed]; omega
      have k6 : ((k : Int) + 1).toNat = k + 1 := by omega
      clear ht hb hbx hat hset hBb hru hrr hc
      go_wp2_with fail
      go_region_with ((first
        | (go_at_call 74; refine (HUP.out _).mono ?_; rintro e w5 ⟨rfl, hw5⟩; have hw6 := hw5.symm; subst hw6; clear hw5)
        | (go_at_call 73; refine (HHAS.out wr.drew rfl).mono ?_; rintro e w5 ⟨rfl, hw5⟩; have hw6 := hw5.symm; subst hw6; clear hw5)))
      all_goals go_wp2_with fail
      all_goals go_roundw
      all_goals (first
        | exact ⟨k + 1, by omega, by go_num, HS.out _ rfl, by have hq := HB.out.setCell (p := ⟨rb, k + 1, none⟩) HBb.out; first | exact (hq _).drew | exact below_drawn (hq _) | exact hq _, by first | exact (HBX.out.setOther HNE.out _).drew | exact HBX.out.setOther HNE.out _⟩
        | (simp [intOf]; omega))
    · have hke : k = l.length := by omega
      have k1 : decide ((k : Int) < (l.length : Int)) = false := decide_eq_false (by omega)
      clear ht hb hbx
      go_wp2
      go_ret
      refine ⟨_, rfl, HT.out.congr (fun a b ha hb => ?_), HB.out⟩
      rw [← mT_set hb, ← HQ2.out]
      unfold setT
      cases hc : l[a]? with
      | none => simp
      | some c9 =>
        have hlt9 := (List.getElem?_eq_some_iff.1 hc).1
        have hru9 := HALL.out c9 (List.mem_of_getElem? hc)
        simp only [told_mem HQ.out c9 hru9, decide_eq_true (show a < k by omega), Bool.true_and]
end Go.Proofs.YtpoibdhhcbelnaaGreatDoor
/- The reference's table of a pattern: what stands in others: walks. -/
namespace Go.Proofs.YtpoibdhhcbelnaaGreatDoor
open Go.RowKit Brm

theorem Il.heap {w w' : World} {v : Value} {l : List Int} (h : Il w v l) (e : w'.heap = w.heap) : Il w' v l := by
  obtain ⟨B, h⟩ := h; exact ⟨B, own_block h (fun q _ => by rw [e])⟩
theorem Tb.rowOf {w : World} {B : Nat} {ob cap : Nat} {n : Nat} {f : Nat → Nat → Bool} (h : Tb w B (.slice (some ⟨ob, 0, none⟩) (n + 1) cap) n f) {i rb : Nat} (hi : i ≤ n) (hc : w.cell? ⟨ob, i, none⟩ = some (rowV n rb)) : rb < w.heap.size ∧ B ≤ rb ∧ ob ≠ rb := by
  obtain ⟨r, h1, h2, h3, h4, h5⟩ := h
  have hlt : i < r.length := by omega
  have hr : r[i]? = some r[i] := List.getElem?_eq_getElem hlt
  have h6 := h2.cells rfl i (rowV n r[i]) (by rw [List.getElem?_map, hr]; rfl)
  rw [Addr.add_lit] at h6
  simp only [Nat.zero_add] at h6
  rw [h6] at hc
  simp only [Option.some.injEq, Value.slice.injEq, Addr.mk.injEq, and_true] at hc
  subst hc
  have hm := h4 r[i] (List.getElem_mem hlt)
  exact ⟨(h5 i _ hr).lt, hm.1, fun e => hm.2 (by rw [← e]; rfl)⟩
theorem Tb.setOut {w : World} {B : Nat} {v : Value} {n : Nat} {f : Nat → Nat → Bool} (h : Tb w B v n f) {p : Addr} (hp : p.block < B) (u : Value) : Tb (w.setCell p u) B v n f := by
  obtain ⟨r, h1, h2, h3, h4, h5⟩ := h
  refine ⟨r, h1, own_block h2 (fun q hq => Below.heap_setCell _ _ _ _ (by have := (h2.lt q hq).1; omega)), h3, h4, fun i b hi => (h5 i b hi).setOther (by have := (h4 b (List.mem_of_getElem? hi)).1; omega) _⟩
theorem Tb.drew {w : World} {B : Nat} {v : Value} {n : Nat} {f : Nat → Nat → Bool} (h : Tb w B v n f) : Tb w.drew B v n f := h
/-- The rows of a table lie below a block. -/
def Low (w : World) (ob n U : Nat) : Prop := ob < w.heap.size ∧ ∀ i rb, i ≤ n → w.cell? ⟨ob, i, none⟩ = some (rowV n rb) → rb < U
theorem Low.set {w : World} {ob n U : Nat} (h : Low w ob n U) {p : Addr} (hp : ob ≠ p.block) (u : Value) : Low (w.setCell p u) ob n U := by
  refine ⟨by have := h.1; simpa [World.setCell] using this, fun i rb hi hc => h.2 i rb hi ?_⟩
  rw [← hc]
  exact (World.cell?_of_block (w := w) (Below.heap_setCell _ _ _ _ hp)).symm
theorem Low.drew {w : World} {ob n U : Nat} (h : Low w ob n U) : Low w.drew ob n U := h
theorem Low.of {w w' : World} {B ob cap n : Nat} {f : Nat → Nat → Bool} (h : Tb w B (.slice (some ⟨ob, 0, none⟩) (n + 1) cap) n f) (hb : Below w.heap.size w w') : Low w' ob n w.heap.size := by
  obtain ⟨rb0, hob, _⟩ := h.at (Nat.zero_le n)
  refine ⟨Nat.lt_of_lt_of_le hob hb.size, fun i rb hi hc => ?_⟩
  rw [hb.cell (p := ⟨ob, i, none⟩) hob] at hc
  exact (h.rowOf hi hc).1
def RestOk (ps : List Pat) : Prop := ∀ (A : Nat → Prop) (v : Value) (xs : List Value) (g : Nat) (w : World) (l : List Int) (lv : Value), Own w A 32 6 v ps.length xs → NL w A ps xs g → (Lib.join (wrL ps) []).length ≤ 4000 → (∀ p ∈ ps, p.Ok) → Il w lv l → l.length ≤ 40 → AllR l →
  Calls Tryz.prog 75 #[v, lv] w fun e w' => ∃ v, e = .returned v ∧ Tb w' w.heap.size v l.length (restT ps l) ∧ Below w.heap.size w w'
set_option maxRecDepth 100000 in
set_option maxHeartbeats 4000000 in
theorem rest_any (ps : List Pat) (ih : ∀ p ∈ ps, TabOk p) : RestOk ps := by
  intro A v xs g w l lv ho hn hl hok hI h40 hall
  obtain ⟨lo, lc, rfl⟩ := own6_form ho.1
  obtain ⟨ao, cp, rfl⟩ := hI.form
  have HO0 := hide ho
  have HN0 := hide hn
  have HIw := hide hI
  have HIH := hide ih
  have HOK := hide hok
  have HWL := hide hl
  have HALL := hide hall
  have hln := own_cap ho.1
  clear ho hn hI ih hok hl hall
  go_enter Tryz.func75, Tryz.ntmps75
  go_wp2_with fail
  refine (empties_any l.length w (by omega)).mono ?_
  rintro e w1 ⟨v1, rfl, ht1, hb1⟩
  have HT1 := hide ht1
  have HB1 := hide hb1
  clear ht1 hb1
  go_wp2_with fail
  go_loopw [5, 6] (fun t i wr => ∃ k : Nat, k ≤ ps.length ∧ i = .int .i64 ((k : Int) - 1) ∧ Tb wr w.heap.size t l.length (restT (ps.drop k) l) ∧ Below w.heap.size w wr) (fun _ i _ => (intOf i + 1).toNat)
  case atStart => exact ⟨ps.length, Nat.le_refl _, by go_num, HT1.out.congr (fun a b _ hb => by rw [rest_nil hb, List.drop_length]), HB1.out⟩
  case round =>
    clear HT1 HB1
    obtain ⟨k, hk, rfl, ht, hb⟩ := hrel
    have HT := hide ht
    have HB := hide hb
    obtain ⟨ob, cap, rfl⟩ := ht.form
    by_cases hlt : 0 < k
    · obtain ⟨j, rfl⟩ : ∃ j, k = j + 1 := ⟨k - 1, by omega⟩
      have hj : j < ps.length := by omega
      obtain ⟨cc, gg, hcv, hcx⟩ := NL.at ps xs g HN0.out j ps[j] (List.getElem?_eq_getElem hj)
      obtain ⟨kk, so, sn, sc, lo1, ln1, lc1, mm, nn, rr, rfl⟩ := hcv.len
      obtain ⟨b, cap9, hlv, hbl, c0, c1, c2, c3, c4, c5⟩ := own_six (HO0.out.below HB.out) hj hcx
      cases hlv
      have HPL : Hid ((ps[j]).wr.length ≤ 4000) := Nat.le_trans (join_mem_le [] (wrL ps) _ (by rw [wrL_map]; exact List.mem_map_of_mem (List.getElem_mem hj))) HWL.out
      have HC := hide (HIH.out ps[j] (List.getElem_mem hj) A _ gg wr l _ (hcv.below HB.out) HPL.out (HOK.out _ (List.getElem_mem hj)) (HIw.out.below HB.out) h40 HALL.out)
      have HD : Hid (ps.drop j = ps[j] :: ps.drop (j + 1)) := List.drop_eq_getElem_cons hj
      generalize ps[j] = p at HC HPL HD
      have e1 : (((j + 1 : Nat) : Int) - 1) = (j : Int) := by omega
      rw [e1]
      have i0 : (0 : Int) ≤ (j : Int) := Int.natCast_nonneg _
      have i1 : (j : Int) < (ps.length : Int) := by omega
      clear hcv hcx ht hb
      go_wp2_with fail
      refine HC.out.mono ?_
      rintro e w5 ⟨v5, rfl, ht5, hb5⟩
      have HT5 := hide ht5
      have HTT := hide (HT.out.below hb5)
      have HB5 := hide (HB.out.trans (hb5.mono HB.out.size))
      obtain ⟨o5, c5', rfl⟩ := ht5.form
      clear ht5 hb5
      go_wp2_with fail
      refine (behind_any _ _ _ _ l.length _ _ w5 (by omega) HT5.out HTT.out).mono ?_
      rintro e w6 ⟨v6, rfl, ht6, hb6⟩
      have HT6 := hide (ht6.le HB5.out.size)
      have HB6 := hide (HB5.out.trans (hb6.mono HB5.out.size))
      clear ht6 hb6
      go_wp2_with fail
      go_roundw
      case rel => exact ⟨j, by omega, by go_num, HT6.out.congr (fun a b _ hb => by rw [HD.out, rest_cons hb]), HB6.out⟩
      case measure => first | (simp [intOf]; done) | (simp [intOf]; omega)
    · have hke : k = 0 := by omega
      subst hke
      clear ht hb
      go_wp2
      go_ret
      exact ⟨_, rfl, HT.out, HB.out⟩
set_option maxRecDepth 100000 in
set_option maxHeartbeats 4000000 in
theorem tab_row (ps : List Pat) (ih : ∀ p ∈ ps, TabOk p) : TabOk (.row ps) := by
  intro A c g w l lv h hl hok hI h40 hall
  obtain ⟨lv9, xs, rfl, ho, hn⟩ := h
  obtain ⟨lo, lc, rfl⟩ := own6_form ho.1
  have HIw := hide hI
  have HN0 := hide (new1 w (.cells #[.int .i64 2, .slice none 0 0, .slice lo ps.length lc, .int .i64 0, .int .i64 0, .int .i64 0] 32))
  have HBX0 := hide (Blk.new w [.int .i64 2, .slice none 0 0, .slice lo ps.length lc, .int .i64 0, .int .i64 0, .int .i64 0] 32)
  obtain ⟨ao, cp, rfl⟩ := hI.form
  have HC := hide (fun (w' : World) (hw : Below w.heap.size w w') => rest_any ps ih A _ xs g w' l _ (ho.below hw) (NL.keep (Keeps.below hw) ps xs g hn) hl ((okL_iff ps).1 hok) (HIw.out.below hw) h40 hall)
  clear ho hn hI ih hok hl hall
  show Calls Tryz.prog 41 #[.agg #[.int .i64 2, .slice none 0 0, .slice lo ps.length lc, .int .i64 0, .int .i64 0, .int .i64 0], .slice ao l.length cp] w _
  go_enter Tryz.func41, Tryz.ntmps41
  go_wp2_with fail
  generalize hW : w.alloc (.cells #[.int .i64 2, .slice none 0 0, .slice lo ps.length lc, .int .i64 0, .int .i64 0, .int .i64 0] 32) = W0 at *
  refine (empties_any l.length W0 (by omega)).mono ?_
  rintro e w1 ⟨v1, rfl, ht1, hb1⟩
  obtain ⟨ob1, cap1, rfl⟩ := ht1.form
  have HBX := hide (HBX0.out.below hb1)
  have HB := hide (HN0.out.trans (hb1.mono HN0.out.size))
  have HBW := hide hb1
  have HTE := hide (ht1.le HN0.out.size)
  obtain ⟨x0, x1, x2, x3, x4, x5⟩ := HBX.out.six
  have hXl := HBX.out.lt
  replace HC := hide (HC.out w1 HB.out)
  clear ht1 hb1 HTE
  go_wp2_with fail
  refine HC.out.mono ?_
  rintro e w5 ⟨v5, rfl, ht5, hb5⟩
  obtain ⟨o5, c5', rfl⟩ := ht5.form
  have HT5 := hide (ht5.le HB.out.size)
  have HB5 := hide (HB.out.trans (hb5.mono HB.out.size))
  clear ht5 hb5
  go_wp2
  go_ret
  exact ⟨_, rfl, HT5.out, HB5.out⟩
set_option maxRecDepth 100000 in
set_option maxHeartbeats 4000000 in
theorem tab_group (p : Pat) (ih : TabOk p) : TabOk (.group p) := by
  intro A c g w l lv h hl hok hI h40 hall
  obtain ⟨lv9, xs, rfl, ho, hn⟩ := h
  obtain ⟨k9, so, sn, sc, lo1, ln1, lc1, m9, n9, r9, rfl⟩ := hn.len
  obtain ⟨b, cap9, rfl, hbl, c0, c1, c2, c3, c4, c5⟩ := own_six ho (i := 0) (by omega) rfl
  simp only [Nat.zero_mul, Nat.zero_add] at c0 c1 c2 c3 c4 c5
  have HIw := hide hI
  have HN0 := hide (new1 w (.cells #[.int .i64 7, .slice none 0 0, .slice (some ⟨b, 0, none⟩) 1 cap9, .int .i64 0, .int .i64 0, .int .i64 g] 32))
  have HBX0 := hide (Blk.new w [.int .i64 7, .slice none 0 0, .slice (some ⟨b, 0, none⟩) 1 cap9, .int .i64 0, .int .i64 0, .int .i64 g] 32)
  obtain ⟨ao, cp, rfl⟩ := hI.form
  have hpl : p.wr.length ≤ 4000 := by have h9 : (40 :: (p.wr ++ [41])).length ≤ 4000 := hl; simp at h9; omega
  have HC := hide (fun (w' : World) (hw : Below w.heap.size w w') => ih A _ (g + 1) w' l _ (hn.below hw) hpl hok (HIw.out.below hw) h40 hall)
  clear ho hn hI ih hok hl hall hpl
  show Calls Tryz.prog 41 #[.agg #[.int .i64 7, .slice none 0 0, .slice (some ⟨b, 0, none⟩) 1 cap9, .int .i64 0, .int .i64 0, .int .i64 g], .slice ao l.length cp] w _
  go_enter Tryz.func41, Tryz.ntmps41
  go_wp2_with fail
  generalize hW : w.alloc (.cells #[.int .i64 7, .slice none 0 0, .slice (some ⟨b, 0, none⟩) 1 cap9, .int .i64 0, .int .i64 0, .int .i64 g] 32) = W0 at *
  refine (empties_any l.length W0 (by omega)).mono ?_
  rintro e w1 ⟨v1, rfl, ht1, hb1⟩
  obtain ⟨ob1, cap1, rfl⟩ := ht1.form
  have HBX := hide (HBX0.out.below hb1)
  have HB := hide (HN0.out.trans (hb1.mono HN0.out.size))
  have HBW := hide hb1
  have HTE := hide (ht1.le HN0.out.size)
  obtain ⟨x0, x1, x2, x3, x4, x5⟩ := HBX.out.six
  have hXl := HBX.out.lt
  replace HC := hide (HC.out w1 HB.out)
  have hbl1 : b < w1.heap.size := Nat.lt_of_lt_of_le hbl HB.out.size
  rw [← HB.out.cell (p := ⟨b, _, none⟩) hbl] at c0 c1 c2 c3 c4 c5
  clear ht1 hb1 HTE
  go_wp2_with fail
  refine HC.out.mono ?_
  rintro e w5 ⟨v5, rfl, ht5, hb5⟩
  obtain ⟨o5, c5', rfl⟩ := ht5.form
  have HT5 := hide (ht5.le HB.out.size)
  have HB5 := hide (HB.out.trans (hb5.mono HB.out.size))
  clear ht5 hb5
  go_wp2
  go_ret
  exact ⟨_, rfl, HT5.out, HB5.out⟩
set_option maxRecDepth 100000 in
set_option maxHeartbeats 4000000 in
theorem tab_many (p : Pat) (m n : Int) (ih : TabOk p) : TabOk (.many p m n) := by
  intro A c g w l lv h hl hok hI h40 hall
  obtain ⟨lv9, xs, rfl, ho, hn⟩ := h
  obtain ⟨k9, so, sn, sc, lo1, ln1, lc1, m9, n9, r9, rfl⟩ := hn.len
  obtain ⟨b, cap9, rfl, hbl, c0, c1, c2, c3, c4, c5⟩ := own_six ho (i := 0) (by omega) rfl
  simp only [Nat.zero_mul, Nat.zero_add] at c0 c1 c2 c3 c4 c5
  have HIw := hide hI
  have HN0 := hide (new1 w (.cells #[.int .i64 6, .slice none 0 0, .slice (some ⟨b, 0, none⟩) 1 cap9, .int .i64 m, .int .i64 n, .int .i64 0] 32))
  have HBX0 := hide (Blk.new w [.int .i64 6, .slice none 0 0, .slice (some ⟨b, 0, none⟩) 1 cap9, .int .i64 m, .int .i64 n, .int .i64 0] 32)
  obtain ⟨ao, cp, rfl⟩ := hI.form
  have hpl : p.wr.length ≤ 4000 := by have h9 : (p.wr ++ wrTimes m n).length ≤ 4000 := hl; simp at h9; omega
  obtain ⟨hokp, q0, q1, q2⟩ := hok
  have HC := hide (fun (w' : World) (hw : Below w.heap.size w w') => ih A _ g w' l _ (hn.below hw) hpl hokp (HIw.out.below hw) h40 hall)
  obtain ⟨M, rfl⟩ : ∃ M : Nat, m = (M : Int) := ⟨m.toNat, by omega⟩
  obtain ⟨mo, hmo, hcase⟩ : ∃ mo : Nat, mo ≤ 1000 ∧ ((n = -1 ∧ mo = l.length) ∨ (0 ≤ n ∧ n = (M : Int) + (mo : Int))) := by
    rcases q2 with rfl | ⟨h1, h2⟩
    · exact ⟨l.length, by omega, .inl ⟨rfl, rfl⟩⟩
    · exact ⟨(n - M).toNat, by omega, .inr ⟨by omega, by omega⟩⟩
  have HCS := hide hcase
  have HMO := hide hmo
  have hM5 : M ≤ 5 := by omega
  have HCT := hide (fun (Ba : Nat) (va : Value) (w' : World) (ha : Tb w' Ba va l.length (mT p l)) => times_tab Ba va l.length M mo n _ w' (by omega) hM5 hmo hcase ha)
  clear ho hn hI ih hl hall hpl hokp q0 q1 q2 hcase hmo
  show Calls Tryz.prog 41 #[.agg #[.int .i64 6, .slice none 0 0, .slice (some ⟨b, 0, none⟩) 1 cap9, .int .i64 (M : Int), .int .i64 n, .int .i64 0], .slice ao l.length cp] w _
  go_enter Tryz.func41, Tryz.ntmps41
  go_wp2_with fail
  generalize hW : w.alloc (.cells #[.int .i64 6, .slice none 0 0, .slice (some ⟨b, 0, none⟩) 1 cap9, .int .i64 (M : Int), .int .i64 n, .int .i64 0] 32) = W0 at *
  refine (empties_any l.length W0 (by omega)).mono ?_
  rintro e w1 ⟨v1, rfl, ht1, hb1⟩
  obtain ⟨ob1, cap1, rfl⟩ := ht1.form
  have HBX := hide (HBX0.out.below hb1)
  have HB := hide (HN0.out.trans (hb1.mono HN0.out.size))
  have HBW := hide hb1
  have HTE := hide (ht1.le HN0.out.size)
  obtain ⟨x0, x1, x2, x3, x4, x5⟩ := HBX.out.six
  have hXl := HBX.out.lt
  have hbl1 : b < w1.heap.size := Nat.lt_of_lt_of_le hbl HB.out.size
  rw [← HB.out.cell (p := ⟨b, _, none⟩) hbl] at c0 c1 c2 c3 c4 c5
  have hBl : w.heap.size < w1.heap.size := hXl
  replace HC := hide (fun (w' : World) (hw : Below w1.heap.size w1 w') => HC.out w' (HB.out.trans (hw.mono HB.out.size)))
  clear ht1 hb1 HTE
  go_wp2_with fail
  go_region_held3 (fun w' => Below w1.heap.size w1 w' ∧ w'.cell? ⟨w.heap.size, 2, none⟩ = some (.slice (some ⟨b, 0, none⟩) 1 cap9) ∧ w'.cell? ⟨w.heap.size, 3, none⟩ = some (.int .i64 M) ∧ w'.cell? ⟨w.heap.size, 4, none⟩ = some (.int .i64 n) ∧ w'.cell? ⟨b, 0, none⟩ = some (.int .i64 k9) ∧ w'.cell? ⟨b, 0 + 1, none⟩ = some (.slice so sn sc) ∧ w'.cell? ⟨b, 0 + 2, none⟩ = some (.slice lo1 ln1 lc1) ∧ w'.cell? ⟨b, 0 + 3, none⟩ = some (.int .i64 m9) ∧ w'.cell? ⟨b, 0 + 4, none⟩ = some (.int .i64 n9) ∧ w'.cell? ⟨b, 0 + 5, none⟩ = some (.int .i64 r9))
    (first | exact sm_all (o := 0) (Below.refl _ _).drew hBl hbl1 x2 x3 x4 c0 c1 c2 c3 c4 c5 | exact sm_all (o := 0) (by assumption) hBl hbl1 x2 x3 x4 c0 c1 c2 c3 c4 c5)
    ((first
      | (go_at_call 41; refine (HC.out _ (‹Below w1.heap.size w1 _ ∧ _›.1)).mono ?_; rintro e w5 ⟨v5, rfl, ht5, hb5⟩; have hb6 : Below w1.heap.size w1 w5 := (‹Below w1.heap.size w1 _ ∧ _›.1).trans (hb5.mono (‹Below w1.heap.size w1 _ ∧ _›.1).size); obtain ⟨o5, c5', rfl⟩ := ht5.form; have HT5 := hide ht5; clear ht5 hb5)
      | (go_at_call 77; refine (HCT.out _ _ _ HT5.out).mono ?_; rintro e w7 ⟨v7, rfl, ht7, hb7⟩; have hb8 : Below w1.heap.size w1 w7 := hb6.trans (hb7.mono hb6.size); obtain ⟨o7, c7', rfl⟩ := ht7.form; have HT7 := hide (ht7.le (Nat.le_trans HB.out.size hb6.size)); clear ht7 hb7)))
  go_wp2
  go_ret
  exact ⟨_, rfl, HT7.out.congr (fun i j _ hj => mT_many hj HCS.out), HB.out.trans (hb8.mono HB.out.size)⟩
theorem not_step {fa : Nat → Nat → Bool} {k j a b : Nat} (hkj : k ≤ j) (x : Bool) (hx : x = !fa k j) : upd (fun a b => if a < k ∨ (a = k ∧ b < j) then (decide (a ≤ b) && !fa a b) else emptyB a b) k j x a b = (if a < k ∨ (a = k ∧ b < j + 1) then (decide (a ≤ b) && !fa a b) else emptyB a b) := by
  unfold upd
  dsimp only
  by_cases e1 : a = k
  · subst e1
    by_cases e2 : b = j
    · subst e2
      rw [if_pos rfl, if_pos rfl, if_pos (.inr ⟨rfl, by omega⟩), hx, decide_eq_true hkj]; rfl
    · rw [if_pos rfl, if_neg e2]
      by_cases e3 : b < j
      · rw [if_pos (.inr ⟨rfl, e3⟩), if_pos (.inr ⟨rfl, by omega⟩)]
      · rw [if_neg (by omega), if_neg (by omega)]
  · rw [if_neg e1]
    by_cases e3 : a < k
    · rw [if_pos (.inl e3), if_pos (.inl e3)]
    · rw [if_neg (by omega), if_neg (by omega)]
set_option maxRecDepth 100000 in
set_option maxHeartbeats 4000000 in
theorem tab_not (p : Pat) (ih : TabOk p) : TabOk (.not p) := by
  intro A c g w l lv h hl hok hI h40 hall
  obtain ⟨lv9, xs, rfl, ho, hn⟩ := h
  obtain ⟨k9, so, sn, sc, lo1, ln1, lc1, m9, n9, r9, rfl⟩ := hn.len
  obtain ⟨b, cap9, rfl, hbl, c0, c1, c2, c3, c4, c5⟩ := own_six ho (i := 0) (by omega) rfl
  simp only [Nat.zero_mul, Nat.zero_add] at c0 c1 c2 c3 c4 c5
  have HIw := hide hI
  have HN0 := hide (new1 w (.cells #[.int .i64 5, .slice none 0 0, .slice (some ⟨b, 0, none⟩) 1 cap9, .int .i64 0, .int .i64 0, .int .i64 0] 32))
  have HBX0 := hide (Blk.new w [.int .i64 5, .slice none 0 0, .slice (some ⟨b, 0, none⟩) 1 cap9, .int .i64 0, .int .i64 0, .int .i64 0] 32)
  obtain ⟨ao, cp, rfl⟩ := hI.form
  have hpl : p.wr.length ≤ 4000 := by have h9 : (126 :: p.wr).length ≤ 4000 := hl; simp at h9; omega
  have HC := hide (fun (w' : World) (hw : Below w.heap.size w w') => ih A _ g w' l _ (hn.below hw) hpl hok (HIw.out.below hw) h40 hall)
  clear ho hn hI ih hok hl hall hpl
  show Calls Tryz.prog 41 #[.agg #[.int .i64 5, .slice none 0 0, .slice (some ⟨b, 0, none⟩) 1 cap9, .int .i64 0, .int .i64 0, .int .i64 0], .slice ao l.length cp] w _
  go_enter Tryz.func41, Tryz.ntmps41
  go_wp2_with fail
  generalize hW : w.alloc (.cells #[.int .i64 5, .slice none 0 0, .slice (some ⟨b, 0, none⟩) 1 cap9, .int .i64 0, .int .i64 0, .int .i64 0] 32) = W0 at *
  refine (empties_any l.length W0 (by omega)).mono ?_
  rintro e w1 ⟨v1, rfl, ht1, hb1⟩
  obtain ⟨ob1, cap1, rfl⟩ := ht1.form
  have HBX := hide (HBX0.out.below hb1)
  have HB := hide (HN0.out.trans (hb1.mono HN0.out.size))
  have HBW := hide hb1
  have HTE := hide (ht1.le HN0.out.size)
  obtain ⟨x0, x1, x2, x3, x4, x5⟩ := HBX.out.six
  have hXl := HBX.out.lt
  replace HC := hide (HC.out w1 HB.out)
  have hbl1 : b < w1.heap.size := Nat.lt_of_lt_of_le hbl HB.out.size
  rw [← HB.out.cell (p := ⟨b, _, none⟩) hbl] at c0 c1 c2 c3 c4 c5
  clear ht1 hb1
  go_wp2_with fail
  refine HC.out.mono ?_
  rintro e w5 ⟨v5, rfl, ht5, hb5⟩
  obtain ⟨oa, ca, rfl⟩ := ht5.form
  have HA5 := hide ht5
  have HT5 := hide (HTE.out.below hb5)
  have HB5 := hide (HB.out.trans (hb5.mono HB.out.size))
  have HLW := hide (Low.of HTE.out hb5)
  clear ht5 hb5 HTE c0 c1 c2 c3 c4 c5 x0 x1 x2 x3 x4 x5 hXl hbl hbl1
  go_wp2_with fail
  go_loopw [10] (fun i wr => ∃ k : Nat, k ≤ l.length + 1 ∧ i = .int .i64 k ∧ Tb wr w.heap.size (.slice (some ⟨ob1, 0, none⟩) (l.length + 1) cap1) l.length (fun a b => if a < k then (decide (a ≤ b) && !mT p l a b) else emptyB a b) ∧ Tb wr w1.heap.size (.slice (some ⟨oa, 0, none⟩) (l.length + 1) ca) l.length (mT p l) ∧ Low wr ob1 l.length w1.heap.size ∧ Below w.heap.size w wr) (fun i _ => l.length + 1 - (intOf i).toNat)
  case atStart => exact ⟨0, Nat.zero_le _, rfl, HT5.out.congr (fun i j _ _ => by simp), HA5.out, HLW.out, HB5.out⟩
  case round =>
    clear HT5 HA5 HB5 HB HLW
    obtain ⟨k, hk, rfl, ht, hta, hlw, hb⟩ := hrel
    have HT := hide ht
    have HTA := hide hta
    have HLW := hide hlw
    have HB := hide hb
    clear ht hta hb hlw
    by_cases hlt : k ≤ l.length
    · have i0 : (0 : Int) ≤ (k : Int) := Int.natCast_nonneg _
      have i1 : (k : Int) ≤ (l.length : Int) := by omega
      have i2 : (k : Int) < (l.length : Int) + 1 := by omega
      have i3 : k < l.length + 1 := by omega
      go_wp2_with fail
      go_loopw [11] (fun i wr => ∃ j : Nat, k ≤ j ∧ j ≤ l.length + 1 ∧ i = .int .i64 j ∧ Tb wr w.heap.size (.slice (some ⟨ob1, 0, none⟩) (l.length + 1) cap1) l.length (fun a b => if a < k ∨ (a = k ∧ b < j) then (decide (a ≤ b) && !mT p l a b) else emptyB a b) ∧ Tb wr w1.heap.size (.slice (some ⟨oa, 0, none⟩) (l.length + 1) ca) l.length (mT p l) ∧ Low wr ob1 l.length w1.heap.size ∧ Below w.heap.size w wr) (fun i _ => l.length + 1 - (intOf i).toNat)
      case atStart =>
        refine ⟨k, Nat.le_refl _, hk, rfl, HT.out.congr (fun a b _ _ => ?_), HTA.out, HLW.out, HB.out⟩
        by_cases e1 : a < k
        · rw [if_pos e1, if_pos (.inl e1)]
        · rw [if_neg e1]
          by_cases e2 : a = k ∧ b < k
          · rw [if_pos (.inr e2)]
            obtain ⟨rfl, e3⟩ := e2
            unfold emptyB
            rw [decide_eq_false (show ¬ a ≤ b by omega), decide_eq_false (show ¬ a = b by omega)]; rfl
          · rw [if_neg (by omega)]
      case round =>
        clear HT HTA HB HLW
        obtain ⟨j, hkj, hj, rfl, ht, hta, hlw, hb⟩ := hrel
        have HLW := hide hlw
        have HT := hide ht
        have HTA := hide hta
        have HB := hide hb
        by_cases hjn : j ≤ l.length
        · obtain ⟨rb, hob, hrb, hBb, hcb, hat⟩ := ht.at hlt
          obtain ⟨hcj, hfz, hset⟩ := hat j hjn
          obtain ⟨ra, hoa, hra, hBa, hca, hata⟩ := hta.at hlt
          obtain ⟨hcaj, _, _⟩ := hata j hjn
          have j0 : (0 : Int) ≤ (j : Int) := Int.natCast_nonneg _
          have j1 : (j : Int) ≤ (l.length : Int) := by omega
          have j2 : (j : Int) < (l.length : Int) + 1 := by omega
          have j3 : j < l.length + 1 := by omega
          have HBb := hide hBb
          have HS := hide (fun x hx => (hset x).congr (fun a b _ _ => not_step (fa := mT p l) (a := a) (b := b) hkj x hx))
          have hnr := (ht.rowOf hlt hcb).2.2
          have HTA2 := hide (fun x => hta.setOut (p := ⟨rb, j, none⟩) (hlw.2 k rb hlt hcb) x)
          have HLW2 := hide (fun x => hlw.set (p := ⟨rb, j, none⟩) hnr x)
          generalize mT p l k j = A9 at hcaj HS
          clear ht hta hb hat hset hBb hata hlw hnr
          cases A9 <;>
          · go_wp2_with fail
            go_region
            go_wp2_with fail
            go_roundw
            case rel => exact ⟨j + 1, by omega, by omega, by go_num, HS.out _ rfl, by first | exact (HTA2.out _).drew | exact HTA2.out _, by first | exact (HLW2.out _).drew | exact HLW2.out _, by have hq := HB.out.setCell (p := ⟨rb, j, none⟩) HBb.out; first | exact (hq _).drew | exact below_drawn (hq _) | exact hq _⟩
            case measure => simp [intOf]; omega
        · have hke : j = l.length + 1 := by omega
          subst hke
          have j1 : decide (((l.length + 1 : Nat) : Int) ≤ (l.length : Int)) = false := decide_eq_false (by omega)
          clear ht hta hb hlw
          go_wp2_with fail
          go_roundw
          case rel =>
            refine ⟨k + 1, by omega, by go_num, HT.out.congr (fun a b _ hb9 => ?_), HTA.out, HLW.out, HB.out⟩
            by_cases e1 : a < k + 1
            · rw [if_pos e1, if_pos (by omega)]
            · rw [if_neg e1, if_neg (by omega)]
          case measure => simp [intOf]; omega
    · have hke : k = l.length + 1 := by omega
      subst hke
      have i1 : decide (((l.length + 1 : Nat) : Int) ≤ (l.length : Int)) = false := decide_eq_false (by omega)
      go_wp2
      go_ret
      exact ⟨_, rfl, HT.out.congr (fun a b ha _ => by rw [if_pos (by omega), mT_not]), HB.out⟩
end Go.Proofs.YtpoibdhhcbelnaaGreatDoor
/- The reference's table of a pattern: or, and; all patterns: walks. -/
namespace Go.Proofs.YtpoibdhhcbelnaaGreatDoor
open Go.RowKit Brm

theorem seven_all {W0 w' : World} {B b o : Nat} {u0 u2 v0 v1 v2 v3 v4 v5 : Value} (hb : Below W0.heap.size W0 w') (hB : B < W0.heap.size) (hbb : b < W0.heap.size) (x0 : W0.cell? ⟨B, 0, none⟩ = some u0) (x2 : W0.cell? ⟨B, 2, none⟩ = some u2)
    (c0 : W0.cell? ⟨b, o, none⟩ = some v0) (c1 : W0.cell? ⟨b, o + 1, none⟩ = some v1) (c2 : W0.cell? ⟨b, o + 2, none⟩ = some v2) (c3 : W0.cell? ⟨b, o + 3, none⟩ = some v3) (c4 : W0.cell? ⟨b, o + 4, none⟩ = some v4) (c5 : W0.cell? ⟨b, o + 5, none⟩ = some v5) :
    Below W0.heap.size W0 w' ∧ w'.cell? ⟨B, 0, none⟩ = some u0 ∧ w'.cell? ⟨B, 2, none⟩ = some u2 ∧ w'.cell? ⟨b, o, none⟩ = some v0 ∧ w'.cell? ⟨b, o + 1, none⟩ = some v1 ∧ w'.cell? ⟨b, o + 2, none⟩ = some v2 ∧ w'.cell? ⟨b, o + 3, none⟩ = some v3 ∧ w'.cell? ⟨b, o + 4, none⟩ = some v4 ∧ w'.cell? ⟨b, o + 5, none⟩ = some v5 :=
  ⟨hb, (hb.cell hB).trans x0, (hb.cell hB).trans x2, (hb.cell hbb).trans c0, (hb.cell hbb).trans c1, (hb.cell hbb).trans c2, (hb.cell hbb).trans c3, (hb.cell hbb).trans c4, (hb.cell hbb).trans c5⟩
set_option maxRecDepth 100000 in
set_option maxHeartbeats 4000000 in
theorem tab_or (ps : List Pat) (ih : ∀ p ∈ ps, TabOk p) : TabOk (.or ps) := by
  intro A c g w l lv h hl hok hI h40 hall
  obtain ⟨lv9, xs, rfl, ho, hn⟩ := h
  obtain ⟨lo, lc, rfl⟩ := own6_form ho.1
  have HIw := hide hI
  have HN0 := hide (new1 w (.cells #[.int .i64 3, .slice none 0 0, .slice lo ps.length lc, .int .i64 0, .int .i64 0, .int .i64 0] 32))
  have HBX0 := hide (Blk.new w [.int .i64 3, .slice none 0 0, .slice lo ps.length lc, .int .i64 0, .int .i64 0, .int .i64 0] 32)
  obtain ⟨ao, cp, rfl⟩ := hI.form
  have hne : 0 < ps.length := by cases ps with | nil => exact absurd rfl hok.2 | cons a t => simp
  have HO0 := hide ho
  have HNL := hide hn
  have HIH := hide ih
  have HOK := hide ((okL_iff ps).1 hok.1)
  have HWL : Hid ((Lib.join (wrL ps) [124]).length ≤ 4000) := hl
  have HALL := hide hall
  have hln := own_cap ho.1
  clear ho hn hI ih hok hl hall
  have HCALL : Hid (∀ (k : Nat) (hk : k < ps.length) (w' : World), Below w.heap.size w w' → ∃ k9 so sn sc lo1 ln1 lc1 m9 n9 r9 b cap9, Value.slice lo ps.length lc = .slice (some ⟨b, 0, none⟩) ps.length cap9 ∧ b < w'.heap.size ∧ w'.cell? ⟨b, k * 6, none⟩ = some (.int .i64 k9) ∧ w'.cell? ⟨b, k * 6 + 1, none⟩ = some (.slice so sn sc) ∧ w'.cell? ⟨b, k * 6 + 2, none⟩ = some (.slice lo1 ln1 lc1) ∧ w'.cell? ⟨b, k * 6 + 3, none⟩ = some (.int .i64 m9) ∧ w'.cell? ⟨b, k * 6 + 4, none⟩ = some (.int .i64 n9) ∧ w'.cell? ⟨b, k * 6 + 5, none⟩ = some (.int .i64 r9) ∧
      ∀ w2, Below w.heap.size w w2 → Calls Tryz.prog 41 #[.agg #[.int .i64 k9, .slice so sn sc, .slice lo1 ln1 lc1, .int .i64 m9, .int .i64 n9, .int .i64 r9], .slice ao l.length cp] w2 fun e w3 => ∃ v, e = .returned v ∧ Tb w3 w2.heap.size v l.length (mT ps[k] l) ∧ Below w2.heap.size w2 w3) := by
    intro k hk w' hw'
    obtain ⟨cc, gg, hcv, hcx⟩ := NL.at ps xs g HNL.out k ps[k] (List.getElem?_eq_getElem hk)
    obtain ⟨kk, so, sn, sc, lo1, ln1, lc1, mm, nn, rr, rfl⟩ := hcv.len
    obtain ⟨b, cap9, hlv, hbl, c0, c1, c2, c3, c4, c5⟩ := own_six (HO0.out.below hw') hk hcx
    have hpl : (ps[k]).wr.length ≤ 4000 := Nat.le_trans (join_mem_le [124] (wrL ps) _ (by rw [wrL_map]; exact List.mem_map_of_mem (List.getElem_mem hk))) HWL.out
    exact ⟨kk, so, sn, sc, lo1, ln1, lc1, mm, nn, rr, b, cap9, hlv, hbl, c0, c1, c2, c3, c4, c5, fun w2 hw2 => HIH.out ps[k] (List.getElem_mem hk) A _ gg w2 l _ (hcv.below hw2) hpl (HOK.out _ (List.getElem_mem hk)) (HIw.out.below hw2) h40 HALL.out⟩
  show Calls Tryz.prog 41 #[.agg #[.int .i64 3, .slice none 0 0, .slice lo ps.length lc, .int .i64 0, .int .i64 0, .int .i64 0], .slice ao l.length cp] w _
  go_enter Tryz.func41, Tryz.ntmps41
  go_wp2_with fail
  generalize hW : w.alloc (.cells #[.int .i64 3, .slice none 0 0, .slice lo ps.length lc, .int .i64 0, .int .i64 0, .int .i64 0] 32) = W0 at *
  refine (empties_any l.length W0 (by omega)).mono ?_
  rintro e w1 ⟨v1, rfl, ht1, hb1⟩
  obtain ⟨ob1, cap1, rfl⟩ := ht1.form
  have HBX := hide (HBX0.out.below hb1)
  have HB := hide (HN0.out.trans (hb1.mono HN0.out.size))
  have HBW := hide hb1
  have HTE := hide (ht1.le HN0.out.size)
  obtain ⟨x0, x1, x2, x3, x4, x5⟩ := HBX.out.six
  have hXl := HBX.out.lt
  obtain ⟨k9, so, sn, sc, lo1, ln1, lc1, m9, n9, r9, b, cap9, hlv, hbl, c0, c1, c2, c3, c4, c5, hcall⟩ := HCALL.out 0 hne w1 HB.out
  cases hlv
  simp only [Nat.zero_mul, Nat.zero_add] at c0 c1 c2 c3 c4 c5
  have HC := hide (hcall w1 HB.out)
  have hne2 : (0 : Int) < (ps.length : Int) := by omega
  clear ht1 hb1 HTE hcall HO0 HNL HIH
  go_wp2_with fail
  refine HC.out.mono ?_
  rintro e w5 ⟨v5, rfl, ht5, hb5⟩
  have HT5 := hide (ht5.le HB.out.size)
  have HBX5 := hide (HBX.out.below hb5)
  have HB5 := hide (HB.out.trans (hb5.mono HB.out.size))
  clear ht5 hb5 c0 c1 c2 c3 c4 c5 x0 x1 x2 x3 x4 x5 hXl HB HBX hbl HC
  go_wp2_with fail
  go_loopw [6, 8] (fun t i wr => ∃ k : Nat, 1 ≤ k ∧ k ≤ ps.length ∧ i = .int .i64 k ∧ Tb wr w.heap.size t l.length (orT (ps.take k) l) ∧ Below w.heap.size w wr ∧ Blk wr w.heap.size [.int .i64 3, .slice none 0 0, .slice (some ⟨b, 0, none⟩) ps.length lc, .int .i64 0, .int .i64 0, .int .i64 0] 32) (fun _ i _ => ps.length - (intOf i).toNat)
  case atStart =>
    refine ⟨1, Nat.le_refl _, hne, rfl, HT5.out.congr (fun i j _ _ => ?_), HB5.out, HBX5.out⟩
    have e9 : ps.take 1 = [ps[0]] := by rw [List.take_succ_eq_append_getElem hne]; rfl
    rw [e9, or_one]
  case round =>
    clear HT5 HB5 HBX5
    obtain ⟨k, hk1, hk, rfl, ht, hb, hbx⟩ := hrel
    have HT := hide ht
    have HB := hide hb
    have HBX := hide hbx
    obtain ⟨ob, cap, rfl⟩ := ht.form
    obtain ⟨x0, x1, x2, x3, x4, x5⟩ := hbx.six
    have hXl := hbx.lt
    have k0 : (0 : Int) ≤ (k : Int) := Int.natCast_nonneg _
    by_cases hlt : k < ps.length
    · obtain ⟨k9, so, sn, sc, lo1, ln1, lc1, m9, n9, r9, b9, cap8, hlv, hbl, c0, c1, c2, c3, c4, c5, hcall⟩ := HCALL.out k hlt wr hb
      cases hlv
      have HTS : Hid (ps.take (k + 1) = ps.take k ++ [ps[k]]) := List.take_succ_eq_append_getElem hlt
      generalize ps[k] = p at hcall HTS
      have HC := hide (fun (w' : World) (hw : Below wr.heap.size wr w') => hcall w' (HB.out.trans (hw.mono HB.out.size)))
      have k1 : (k : Int) < (ps.length : Int) := by omega
      clear ht hb hbx hcall
      go_wp2_with fail
      go_region_held3 (fun w' => Below wr.heap.size wr w' ∧ w'.cell? ⟨w.heap.size, 0, none⟩ = some (.int .i64 3) ∧ w'.cell? ⟨w.heap.size, 2, none⟩ = some (.slice (some ⟨b, 0, none⟩) ps.length lc) ∧ w'.cell? ⟨b, k * 6, none⟩ = some (.int .i64 k9) ∧ w'.cell? ⟨b, k * 6 + 1, none⟩ = some (.slice so sn sc) ∧ w'.cell? ⟨b, k * 6 + 2, none⟩ = some (.slice lo1 ln1 lc1) ∧ w'.cell? ⟨b, k * 6 + 3, none⟩ = some (.int .i64 m9) ∧ w'.cell? ⟨b, k * 6 + 4, none⟩ = some (.int .i64 n9) ∧ w'.cell? ⟨b, k * 6 + 5, none⟩ = some (.int .i64 r9))
        (first | exact seven_all (Below.refl _ _).drew hXl hbl x0 x2 c0 c1 c2 c3 c4 c5 | exact seven_all (by assumption) hXl hbl x0 x2 c0 c1 c2 c3 c4 c5)
        ((first
          | (go_at_call 41; refine (HC.out _ (‹Below wr.heap.size wr _ ∧ _›.1)).mono ?_; rintro e w5 ⟨v5, rfl, ht5, hb5⟩; have hb6 : Below wr.heap.size wr w5 := (‹Below wr.heap.size wr _ ∧ _›.1).trans (hb5.mono (‹Below wr.heap.size wr _ ∧ _›.1).size); obtain ⟨o5, c5', rfl⟩ := ht5.form; have HT5 := hide ht5; clear ht5 hb5)
          | (go_at_call 76; refine (both_any _ _ _ _ l.length _ _ true _ (by omega) (HT.out.below hb6) HT5.out).mono ?_; rintro e w7 ⟨v7, rfl, ht7, hb7⟩; have hb8 : Below wr.heap.size wr w7 := hb6.trans (hb7.mono hb6.size); have HT7 := hide (ht7.le (Nat.le_trans HB.out.size hb6.size)); clear ht7 hb7)))
      go_wp2_with fail
      go_roundw
      case rel => exact ⟨k + 1, by omega, by omega, by go_num, HT7.out.congr (fun i j _ _ => by rw [HTS.out, or_snoc]), HB.out.trans (hb8.mono HB.out.size), HBX.out.below hb8⟩
      case measure => simp [intOf]; omega
    · have hke : k = ps.length := by omega
      have HKE := hide hke
      have k1 : decide ((k : Int) < (ps.length : Int)) = false := decide_eq_false (by omega)
      clear ht hb hbx hke
      go_wp2
      go_ret
      exact ⟨_, rfl, HT.out.congr (fun i j _ _ => by rw [HKE.out, List.take_length]; exact mT_or), HB.out⟩
set_option maxRecDepth 100000 in
set_option maxHeartbeats 4000000 in
theorem tab_and (ps : List Pat) (ih : ∀ p ∈ ps, TabOk p) : TabOk (.and ps) := by
  intro A c g w l lv h hl hok hI h40 hall
  obtain ⟨lv9, xs, rfl, ho, hn⟩ := h
  obtain ⟨lo, lc, rfl⟩ := own6_form ho.1
  have HIw := hide hI
  have HN0 := hide (new1 w (.cells #[.int .i64 4, .slice none 0 0, .slice lo ps.length lc, .int .i64 0, .int .i64 0, .int .i64 0] 32))
  have HBX0 := hide (Blk.new w [.int .i64 4, .slice none 0 0, .slice lo ps.length lc, .int .i64 0, .int .i64 0, .int .i64 0] 32)
  obtain ⟨ao, cp, rfl⟩ := hI.form
  have hne : 0 < ps.length := by cases ps with | nil => exact absurd rfl hok.2 | cons a t => simp
  have HO0 := hide ho
  have HNL := hide hn
  have HIH := hide ih
  have HOK := hide ((okL_iff ps).1 hok.1)
  have HWL : Hid ((Lib.join (wrL ps) [38]).length ≤ 4000) := hl
  have HALL := hide hall
  have hln := own_cap ho.1
  clear ho hn hI ih hok hl hall
  have HCALL : Hid (∀ (k : Nat) (hk : k < ps.length) (w' : World), Below w.heap.size w w' → ∃ k9 so sn sc lo1 ln1 lc1 m9 n9 r9 b cap9, Value.slice lo ps.length lc = .slice (some ⟨b, 0, none⟩) ps.length cap9 ∧ b < w'.heap.size ∧ w'.cell? ⟨b, k * 6, none⟩ = some (.int .i64 k9) ∧ w'.cell? ⟨b, k * 6 + 1, none⟩ = some (.slice so sn sc) ∧ w'.cell? ⟨b, k * 6 + 2, none⟩ = some (.slice lo1 ln1 lc1) ∧ w'.cell? ⟨b, k * 6 + 3, none⟩ = some (.int .i64 m9) ∧ w'.cell? ⟨b, k * 6 + 4, none⟩ = some (.int .i64 n9) ∧ w'.cell? ⟨b, k * 6 + 5, none⟩ = some (.int .i64 r9) ∧
      ∀ w2, Below w.heap.size w w2 → Calls Tryz.prog 41 #[.agg #[.int .i64 k9, .slice so sn sc, .slice lo1 ln1 lc1, .int .i64 m9, .int .i64 n9, .int .i64 r9], .slice ao l.length cp] w2 fun e w3 => ∃ v, e = .returned v ∧ Tb w3 w2.heap.size v l.length (mT ps[k] l) ∧ Below w2.heap.size w2 w3) := by
    intro k hk w' hw'
    obtain ⟨cc, gg, hcv, hcx⟩ := NL.at ps xs g HNL.out k ps[k] (List.getElem?_eq_getElem hk)
    obtain ⟨kk, so, sn, sc, lo1, ln1, lc1, mm, nn, rr, rfl⟩ := hcv.len
    obtain ⟨b, cap9, hlv, hbl, c0, c1, c2, c3, c4, c5⟩ := own_six (HO0.out.below hw') hk hcx
    have hpl : (ps[k]).wr.length ≤ 4000 := Nat.le_trans (join_mem_le [38] (wrL ps) _ (by rw [wrL_map]; exact List.mem_map_of_mem (List.getElem_mem hk))) HWL.out
    exact ⟨kk, so, sn, sc, lo1, ln1, lc1, mm, nn, rr, b, cap9, hlv, hbl, c0, c1, c2, c3, c4, c5, fun w2 hw2 => HIH.out ps[k] (List.getElem_mem hk) A _ gg w2 l _ (hcv.below hw2) hpl (HOK.out _ (List.getElem_mem hk)) (HIw.out.below hw2) h40 HALL.out⟩
  show Calls Tryz.prog 41 #[.agg #[.int .i64 4, .slice none 0 0, .slice lo ps.length lc, .int .i64 0, .int .i64 0, .int .i64 0], .slice ao l.length cp] w _
  go_enter Tryz.func41, Tryz.ntmps41
  go_wp2_with fail
  generalize hW : w.alloc (.cells #[.int .i64 4, .slice none 0 0, .slice lo ps.length lc, .int .i64 0, .int .i64 0, .int .i64 0] 32) = W0 at *
  refine (empties_any l.length W0 (by omega)).mono ?_
  rintro e w1 ⟨v1, rfl, ht1, hb1⟩
  obtain ⟨ob1, cap1, rfl⟩ := ht1.form
  have HBX := hide (HBX0.out.below hb1)
  have HB := hide (HN0.out.trans (hb1.mono HN0.out.size))
  have HBW := hide hb1
  have HTE := hide (ht1.le HN0.out.size)
  obtain ⟨x0, x1, x2, x3, x4, x5⟩ := HBX.out.six
  have hXl := HBX.out.lt
  obtain ⟨k9, so, sn, sc, lo1, ln1, lc1, m9, n9, r9, b, cap9, hlv, hbl, c0, c1, c2, c3, c4, c5, hcall⟩ := HCALL.out 0 hne w1 HB.out
  cases hlv
  simp only [Nat.zero_mul, Nat.zero_add] at c0 c1 c2 c3 c4 c5
  have HC := hide (hcall w1 HB.out)
  have hne2 : (0 : Int) < (ps.length : Int) := by omega
  clear ht1 hb1 HTE hcall HO0 HNL HIH
  go_wp2_with fail
  refine HC.out.mono ?_
  rintro e w5 ⟨v5, rfl, ht5, hb5⟩
  have HT5 := hide (ht5.le HB.out.size)
  have HBX5 := hide (HBX.out.below hb5)
  have HB5 := hide (HB.out.trans (hb5.mono HB.out.size))
  clear ht5 hb5 c0 c1 c2 c3 c4 c5 x0 x1 x2 x3 x4 x5 hXl HB HBX hbl HC
  go_wp2_with fail
  go_loopw [6, 8] (fun t i wr => ∃ k : Nat, 1 ≤ k ∧ k ≤ ps.length ∧ i = .int .i64 k ∧ Tb wr w.heap.size t l.length (andT (ps.take k) l) ∧ Below w.heap.size w wr ∧ Blk wr w.heap.size [.int .i64 4, .slice none 0 0, .slice (some ⟨b, 0, none⟩) ps.length lc, .int .i64 0, .int .i64 0, .int .i64 0] 32) (fun _ i _ => ps.length - (intOf i).toNat)
  case atStart =>
    refine ⟨1, Nat.le_refl _, hne, rfl, HT5.out.congr (fun i j _ _ => ?_), HB5.out, HBX5.out⟩
    have e9 : ps.take 1 = [ps[0]] := by rw [List.take_succ_eq_append_getElem hne]; rfl
    rw [e9, and_one]
  case round =>
    clear HT5 HB5 HBX5
    obtain ⟨k, hk1, hk, rfl, ht, hb, hbx⟩ := hrel
    have HT := hide ht
    have HB := hide hb
    have HBX := hide hbx
    obtain ⟨ob, cap, rfl⟩ := ht.form
    obtain ⟨x0, x1, x2, x3, x4, x5⟩ := hbx.six
    have hXl := hbx.lt
    have k0 : (0 : Int) ≤ (k : Int) := Int.natCast_nonneg _
    by_cases hlt : k < ps.length
    · obtain ⟨k9, so, sn, sc, lo1, ln1, lc1, m9, n9, r9, b9, cap8, hlv, hbl, c0, c1, c2, c3, c4, c5, hcall⟩ := HCALL.out k hlt wr hb
      cases hlv
      have HTS : Hid (ps.take (k + 1) = ps.take k ++ [ps[k]]) := List.take_succ_eq_append_getElem hlt
      generalize ps[k] = p at hcall HTS
      have HC := hide (fun (w' : World) (hw : Below wr.heap.size wr w') => hcall w' (HB.out.trans (hw.mono HB.out.size)))
      have k1 : (k : Int) < (ps.length : Int) := by omega
      clear ht hb hbx hcall
      go_wp2_with fail
      go_region_held3 (fun w' => Below wr.heap.size wr w' ∧ w'.cell? ⟨w.heap.size, 0, none⟩ = some (.int .i64 4) ∧ w'.cell? ⟨w.heap.size, 2, none⟩ = some (.slice (some ⟨b, 0, none⟩) ps.length lc) ∧ w'.cell? ⟨b, k * 6, none⟩ = some (.int .i64 k9) ∧ w'.cell? ⟨b, k * 6 + 1, none⟩ = some (.slice so sn sc) ∧ w'.cell? ⟨b, k * 6 + 2, none⟩ = some (.slice lo1 ln1 lc1) ∧ w'.cell? ⟨b, k * 6 + 3, none⟩ = some (.int .i64 m9) ∧ w'.cell? ⟨b, k * 6 + 4, none⟩ = some (.int .i64 n9) ∧ w'.cell? ⟨b, k * 6 + 5, none⟩ = some (.int .i64 r9))
        (first | exact seven_all (Below.refl _ _).drew hXl hbl x0 x2 c0 c1 c2 c3 c4 c5 | exact seven_all (by assumption) hXl hbl x0 x2 c0 c1 c2 c3 c4 c5)
        ((first
          | (go_at_call 41; refine (HC.out _ (‹Below wr.heap.size wr _ ∧ _›.1)).mono ?_; rintro e w5 ⟨v5, rfl, ht5, hb5⟩; have hb6 : Below wr.heap.size wr w5 := (‹Below wr.heap.size wr _ ∧ _›.1).trans (hb5.mono (‹Below wr.heap.size wr _ ∧ _›.1).size); obtain ⟨o5, c5', rfl⟩ := ht5.form; have HT5 := hide ht5; clear ht5 hb5)
          | (go_at_call 76; refine (both_any _ _ _ _ l.length _ _ false _ (by omega) (HT.out.below hb6) HT5.out).mono ?_; rintro e w7 ⟨v7, rfl, ht7, hb7⟩; have hb8 : Below wr.heap.size wr w7 := hb6.trans (hb7.mono hb6.size); have HT7 := hide (ht7.le (Nat.le_trans HB.out.size hb6.size)); clear ht7 hb7)))
      go_wp2_with fail
      go_roundw
      case rel => exact ⟨k + 1, by omega, by omega, by go_num, HT7.out.congr (fun i j _ _ => by rw [HTS.out, and_snoc]), HB.out.trans (hb8.mono HB.out.size), HBX.out.below hb8⟩
      case measure => simp [intOf]; omega
    · have hke : k = ps.length := by omega
      have HKE := hide hke
      have k1 : decide ((k : Int) < (ps.length : Int)) = false := decide_eq_false (by omega)
      clear ht hb hbx hke
      go_wp2
      go_ret
      exact ⟨_, rfl, HT.out.congr (fun i j _ _ => by rw [HKE.out, List.take_length]; exact mT_and), HB.out⟩
mutual
theorem tab_all : ∀ (p : Pat), TabOk p
  | .set s => tab_set s
  | .row l => tab_row l (tab_allL l)
  | .or l => tab_or l (tab_allL l)
  | .and l => tab_and l (tab_allL l)
  | .not p => tab_not p (tab_all p)
  | .many p m n => tab_many p m n (tab_all p)
  | .group p => tab_group p (tab_all p)
theorem tab_allL : ∀ (l : List Pat), ∀ p ∈ l, TabOk p
  | [] => fun p h => by cases h
  | q :: l => by
    have hq := tab_all q
    have hl := tab_allL l
    intro p h
    rcases List.mem_cons.1 h with rfl | h
    · exact hq
    · exact hl p h
end
/-- What a text comes to: too long, no UTF-8, or its runes. -/
def TextR (bs : List UInt8) (e : Int) (ol : Option (List Int)) : Prop := (40 < bs.length ∧ e = 2 ∧ ol = none) ∨ (bs.length ≤ 40 ∧ (∃ k, Broken bs k) ∧ e = 3 ∧ ol = none) ∨ (bs.length ≤ 40 ∧ ∃ l, Runes bs l ∧ e = 0 ∧ ol = some l)
theorem textR_unique {bs : List UInt8} {e e' : Int} {o o' : Option (List Int)} (h : TextR bs e o) (h' : TextR bs e' o') : e' = e ∧ o' = o := by
  rcases h with ⟨a, rfl, rfl⟩ | ⟨a, ⟨k, hk⟩, rfl, rfl⟩ | ⟨a, l, hl, rfl, rfl⟩ <;> rcases h' with ⟨a', rfl, rfl⟩ | ⟨a', ⟨k', hk'⟩, rfl, rfl⟩ | ⟨a', l', hl', rfl, rfl⟩
  · exact ⟨rfl, rfl⟩
  · omega
  · omega
  · omega
  · exact ⟨rfl, rfl⟩
  · exact absurd hk (runes_not_broken hl' k)
  · omega
  · exact absurd hk' (runes_not_broken hl k')
  · exact ⟨rfl, by rw [runes_unique hl hl']⟩
set_option maxRecDepth 100000 in
set_option maxHeartbeats 4000000 in
theorem rread_any (s : ByteArray) (w : World) (hm : s.size ≤ 9223372036854775807) : Calls Tryz.prog 40 #[.string s] w fun e w' => Below w.heap.size w w' ∧ ∃ v1 v2 er ol, e = .returned (.tuple #[v1, v2, .int .i64 er]) ∧ TextR (bytesOf s) er ol ∧ match ol with | some l => Il w' v1 l ∧ l.length ≤ 40 ∧ AllR l ∧ w'.ownsRow w.heap.size 3 1 v2 (l.length + 1) (ints (posns (bytesOf s) (l.length + 1))) | none => v1 = .slice none 0 0 ∧ v2 = .slice none 0 0 := by
  have HL := hide (bytes_len s)
  by_cases h : s.size ≤ 40
  · have hd : decide ((40 : Int) < (s.size : Int)) = false := decide_eq_false (by omega)
    have HLE : Hid ((bytesOf s).length ≤ 40) := by show _ ≤ _; rw [HL.out]; exact h
    have HC := hide (runes_walk s w (by omega))
    clear hm
    go_enter Tryz.func40, Tryz.ntmps40
    go_wp2_with fail
    refine HC.out.mono ?_
    rintro e w1 ⟨hb1, hcase⟩
    have HB1 := hide hb1
    clear hb1
    rcases hcase with ⟨l, v1, v2, hru, rfl, ho1, ho2⟩ | ⟨k, hbr, rfl⟩
    · have HRU := hide hru
      have HO1 := hide ho1
      have HO2 := hide ho2
      obtain ⟨a1, c1, rfl⟩ := own3_form ho1
      obtain ⟨a2, c2, rfl⟩ := own3_form ho2
      clear hru ho1 ho2
      go_wp2
      refine bodyPost_ret (v := .tuple #[.slice a1 l.length c1, .slice a2 (l.length + 1) c2, .int .i64 0]) (by simp [results, Tryz.results40, go_sem]) rfl ?_
      exact ⟨HB1.out, _, _, 0, some l, rfl, .inr (.inr ⟨HLE.out, l, HRU.out, rfl, rfl⟩), ⟨_, HO1.out⟩, Nat.le_trans (runes_len HRU.out) HLE.out, runes_all HRU.out, HO2.out⟩
    · have HBR := hide hbr
      clear hbr
      go_wp2
      refine bodyPost_ret (v := .tuple #[.slice none 0 0, .slice none 0 0, .int .i64 3]) (by simp [results, Tryz.results40, go_sem]) rfl ?_
      exact ⟨HB1.out, _, _, 3, none, rfl, .inr (.inl ⟨HLE.out, ⟨k, HBR.out⟩, rfl, rfl⟩), rfl, rfl⟩
  · have hd : decide ((40 : Int) < (s.size : Int)) = true := decide_eq_true (by omega)
    have HLE : Hid (40 < (bytesOf s).length) := by show _ < _; rw [HL.out]; omega
    go_enter Tryz.func40, Tryz.ntmps40
    go_wp2
    refine bodyPost_ret (v := .tuple #[.slice none 0 0, .slice none 0 0, .int .i64 2]) (by simp [results, Tryz.results40, go_sem]) rfl ?_
    exact ⟨Below.refl _ _, _, _, 2, none, rfl, .inl ⟨HLE.out, rfl, rfl⟩, rfl, rfl⟩
/-- What Match answers. -/
noncomputable def matchB (p : Pat) (ol : Option (List Int)) : Bool := match ol with | some l => mT p l 0 l.length | none => false
theorem textR_none {bs : List UInt8} {e : Int} (h : TextR bs e none) : e ≠ 0 := by
  rcases h with ⟨_, rfl, _⟩ | ⟨_, _, rfl, _⟩ | ⟨_, l, _, _, h⟩
  · decide
  · decide
  · cases h
theorem textR_some {bs : List UInt8} {e : Int} {l : List Int} (h : TextR bs e (some l)) : e = 0 := by
  rcases h with ⟨_, _, h⟩ | ⟨_, _, _, h⟩ | ⟨_, l, _, h, _⟩
  · cases h
  · cases h
  · exact h
set_option maxRecDepth 100000 in
set_option maxHeartbeats 4000000 in
theorem rmatch_any (p : Pat) (A : Nat → Prop) (k : Int) (so : Option Addr) (sn sc : Nat) (lo : Option Addr) (ln lc : Nat) (mm nn rr : Int) (g : Nat) (s : ByteArray) (w : World) (hn : NV w A p (Six k so sn sc lo ln lc mm nn rr) g) (hl : p.wr.length ≤ 4000) (hok : p.Ok) (hm : s.size ≤ 9223372036854775807) :
    Calls Tryz.prog 18 #[.agg #[.int .i64 k, .slice so sn sc, .slice lo ln lc, .int .i64 mm, .int .i64 nn, .int .i64 rr], .string s] w fun e w' => Below w.heap.size w w' ∧ ∃ er ol, e = .returned (.tuple #[.bool (matchB p ol), .int .i64 er]) ∧ TextR (bytesOf s) er ol := by
  have HN0 := hide (new1 w (.cells #[.int .i64 k, .slice so sn sc, .slice lo ln lc, .int .i64 mm, .int .i64 nn, .int .i64 rr] 32))
  have HBX := hide (Blk.new w (Six k so sn sc lo ln lc mm nn rr) 32)
  have HNV := hide hn
  have HL := hide hl
  have HOK := hide hok
  have HM := hide hm
  clear hn hl hok hm
  go_enter Tryz.func18, Tryz.ntmps18
  go_wp2_with fail
  refine (rread_any s _ HM.out).mono ?_
  rintro e w1 ⟨hb1, v1, v2, er, ol, rfl, htr, hol⟩
  replace HBX := hide (HBX.out.below hb1)
  have HB1 := hide (HN0.out.trans (hb1.mono HN0.out.size))
  have HTR := hide htr
  clear hb1
  cases ol with
  | none =>
    have hne : (er == 0) = false := beq_eq_false_iff_ne.2 (textR_none htr)
    obtain ⟨rfl, rfl⟩ := hol
    clear htr
    go_wp2
    refine bodyPost_ret (v := .tuple #[.bool false, .int .i64 er]) (by simp [results, Tryz.results18, go_sem]) rfl ?_
    exact ⟨HB1.out, er, none, rfl, HTR.out⟩
  | some l =>
    obtain ⟨hil, h40, hall, ho2⟩ := hol
    have e0 := textR_some htr
    subst e0
    obtain ⟨a1, c1, rfl⟩ := hil.form
    obtain ⟨a2, c2, rfl⟩ := own3_form ho2
    have HC := hide (tab_all p A _ g w1 l _ (HNV.out.below HB1.out) HL.out HOK.out hil h40 hall)
    obtain ⟨x0, x1, x2, x3, x4, x5⟩ := HBX.out.six
    have hXl := HBX.out.lt
    clear htr hil hall ho2
    go_wp2_with fail
    refine HC.out.mono ?_
    rintro e w5 ⟨v5, rfl, ht5, hb5⟩
    obtain ⟨ob, cap, rfl⟩ := ht5.form
    obtain ⟨rb, hob, hrb, _, hcb, hat⟩ := ht5.at (Nat.zero_le l.length)
    obtain ⟨hcj, _, _⟩ := hat l.length (Nat.le_refl _)
    have HB5 := hide (HB1.out.trans (hb5.mono HB1.out.size))
    have i1 : (0 : Int) < (l.length : Int) + 1 := by omega
    have i2 : (l.length : Int) < (l.length : Int) + 1 := by omega
    have i3 : (0 : Int) ≤ (l.length : Int) := Int.natCast_nonneg _
    have HMB : Hid (mT p l 0 l.length = matchB p (some l)) := rfl
    generalize mT p l 0 l.length = MB at hcj HMB
    clear ht5 hb5 hat x0 x1 x2 x3 x4 x5 hXl
    go_wp2_with fail
    try go_region
    try go_wp2_with fail
    refine bodyPost_ret (v := .tuple #[.bool MB, .int .i64 0]) (by simp [results, Tryz.results18, go_sem]) rfl ?_
    exact ⟨by first | exact HB5.out | exact HB5.out.drew | exact below_drawn HB5.out, 0, some l, by rw [HMB.out], HTR.out⟩
end Go.Proofs.YtpoibdhhcbelnaaGreatDoor
