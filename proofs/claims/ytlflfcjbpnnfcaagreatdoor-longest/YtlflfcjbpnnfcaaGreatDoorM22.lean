/- Walks and plain laws, some texts in one. -/
import Derived.Deep.OwnRows
import Derived.Test.YtlflfcjbpnnfcaaGreatDoorM21
import Derived.Test.YtlflfcjbpnnfcaaGreatDoorM03
import Derived.Test.YtlflfcjbpnnfcaaGreatDoorM20
/- A text while a pattern goes over it: made: walks. -/
namespace Go.Proofs.YtlflfcjbpnnfcaaGreatDoor
open Go.Shelf Go.RowKit Go.Lib Brm

theorem made_rep (z : Value) (n : Nat) : madeCells #[z] n = (List.replicate n z).toArray := by
  apply Array.ext'
  refine List.ext_getElem? fun i => ?_
  simp only [madeCells, Array.toList_map, Array.toList_range, List.getElem?_map]
  by_cases h : i < n
  · rw [List.getElem?_range h]
    simp [Nat.mod_one, h]
  · rw [List.getElem?_eq_none (by simp; omega)]; simp [h]
theorem Tryz.info261 : (Tryz.prog.info? 261).map (fun i => (i.zero, i.size, i.bytes)) = some (some (.slice none 0 0), 1, 24) := by kernel_rfl
theorem Tryz.info218 : (Tryz.prog.info? 218).map (fun i => (i.zero, i.size, i.bytes)) = some (some (.int .u64 0), 1, 8) := by kernel_rfl
/-- A row made. -/
theorem make_rep {w : World} {ops : Array Oper} {rest : List Oper} {o : Oper} {a : Act} {Q : Exit → Act → World → Prop} (hg : o.guard = none) (l c : Operand) (t : TypeId) (hop : o.op = Op.makeSlice t l c)
    (e : TypeId) (z : Value) (by_ : Nat) (ht : Tryz.prog.underlying t = some (.slice e)) (hinfo : (Tryz.prog.info? e).map (fun i => (i.zero, i.size, i.bytes)) = some (some z, 1, by_)) (hz1 : z.cells = #[z])
    (n : Nat) (hl : a.eval l = .int .i64 (n : Int)) (hc : a.eval c = .int .i64 (n : Int)) (hbytes : by_ * n ≤ 281474976710656) (h63 : n ≤ 9223372036854775807)
    (hK : wpList Tryz.prog ops Q rest (a.put o.dst (.slice (some ⟨w.heap.size, 0, none⟩) n n)) (w.alloc (.cells (List.replicate n z).toArray e))) :
    wpList Tryz.prog ops Q (o :: rest) a w := by
  obtain ⟨i, hi, hzz⟩ := Option.map_eq_some_iff.1 hinfo
  simp only [Prod.mk.injEq] at hzz
  obtain ⟨hz, hs, hb⟩ := hzz
  refine wpList_make_row w hg l c t hop e i z ht hi hz hs hz1 .i64 .i64 n hl hc (by rw [hb]; exact hbytes) h63 ?_
  rw [made_rep]; exact hK
/-- The table of what is known, up to a row. -/
def TK (w wr : World) (rows cols k : Nat) : Prop := Below w.heap.size w wr ∧ wr.heap.size = w.heap.size + 1 + k ∧ (∃ cs, Blk wr w.heap.size cs 261 ∧ cs.length = rows ∧ ∀ i, i < rows → cs[i]? = some (if i < k then .slice (some ⟨w.heap.size + 1 + i, 0, none⟩) cols cols else .slice none 0 0)) ∧ ∀ i, i < k → Blk wr (w.heap.size + 1 + i) (List.replicate cols (.int .u64 0)) 218
theorem TK.start (w : World) (rows cols : Nat) : TK w (w.alloc (.cells (List.replicate rows (.slice none 0 0)).toArray 261)) rows cols 0 :=
  ⟨(Below.refl _ _).alloc (Nat.le_refl _) _, by simp, ⟨_, Blk.new w _ 261, by simp, fun i hi => by simp [hi]⟩, fun i hi => absurd hi (Nat.not_lt_zero _)⟩
theorem TK.step {w wr : World} {rows cols k : Nat} (h : TK w wr rows cols k) (hk : k < rows) : TK w ((wr.alloc (.cells (List.replicate cols (.int .u64 0)).toArray 218)).setCell ⟨w.heap.size, k, none⟩ (.slice (some ⟨wr.heap.size, 0, none⟩) cols cols)) rows cols (k + 1) := by
  obtain ⟨h1, h2, ⟨cs, h3, h4, h5⟩, h6⟩ := h
  refine ⟨(h1.alloc (by omega) _).setCell (Nat.le_refl _) _, by simp [World.setCell]; omega, ⟨_, (h3.alloc _).set k _, by simp [h4], fun i hi => ?_⟩, fun i hi => ?_⟩
  · rw [List.getElem?_set]
    by_cases he : k = i
    · subst he
      rw [if_pos rfl, if_pos (by omega), h2, if_pos (by omega)]
    · rw [if_neg he, h5 i hi]
      by_cases hlt : i < k
      · rw [if_pos hlt, if_pos (by omega)]
      · rw [if_neg hlt, if_neg (by omega)]
  · by_cases he : i = k
    · subst he
      have := Blk.new wr (List.replicate cols (.int .u64 0)) 218
      rw [h2] at this
      exact this.setOther (p := ⟨w.heap.size, i, none⟩) (by simp; omega) _
    · exact ((h6 i (by omega)).alloc _).setOther (p := ⟨w.heap.size, k, none⟩) (by simp; omega) _
theorem TK.cell {w wr : World} {rows cols k : Nat} (h : TK w wr rows cols k) {i : Nat} (hi : i < rows) : wr.cell? ⟨w.heap.size, i, none⟩ = some (if i < k then .slice (some ⟨w.heap.size + 1 + i, 0, none⟩) cols cols else .slice none 0 0) ∧ wr.frozen? ⟨w.heap.size, i, none⟩ = false ∧ w.heap.size < wr.heap.size := by
  obtain ⟨h1, h2, ⟨cs, h3, h4, h5⟩, h6⟩ := h
  exact ⟨by rw [h3.cell, h5 i hi], h3.frozen i, by omega⟩
set_option maxRecDepth 100000 in
set_option maxHeartbeats 4000000 in
theorem table_any (rows cols : Nat) (w : World) (hr : rows ≤ 1000000) (hc : cols ≤ 41) : Calls Tryz.prog 123 #[.int .i64 rows, .int .i64 cols] w fun e w' => e = .returned (.slice (some ⟨w.heap.size, 0, none⟩) rows rows) ∧ TK w w' rows cols rows := by
  have HT0 := hide (TK.start w rows cols)
  generalize hW : w.alloc (.cells (List.replicate rows (.slice none 0 0)).toArray 261) = W0 at HT0
  have HW0 := hide hW
  clear hW
  go_enter Tryz.func123, Tryz.ntmps123
  go_wp2_with (at_make; refine make_rep rfl _ _ 186 rfl 261 (.slice none 0 0) 24 Tryz.underlying186 Tryz.info261 rfl rows rfl rfl (by omega) (by omega) ?_; rw [HW0.out])
  go_loopw [11] (fun ix wr => ∃ k : Nat, k ≤ rows ∧ ix = .int .i64 k ∧ TK w wr rows cols k) (fun ix _ => rows - (intOf ix).toNat)
  case atStart => exact ⟨0, Nat.zero_le _, rfl, HT0.out⟩
  case round =>
    obtain ⟨k, hk, rfl, ht⟩ := hrel
    have HT := hide ht
    have k0 : (0 : Int) ≤ (k : Int) := Int.natCast_nonneg _
    by_cases hlt : k < rows
    · obtain ⟨c0, c1, c2⟩ := ht.cell hlt
      rw [if_neg (Nat.lt_irrefl k)] at c0
      have d0 : (wr.alloc (.cells (List.replicate cols (.int .u64 0)).toArray 218)).cell? ⟨w.heap.size, k, none⟩ = some (.slice none 0 0) := (((Below.refl _ wr).alloc (Nat.le_refl _) _).cell (p := ⟨w.heap.size, k, none⟩) c2).trans c0
      have d1 : (wr.alloc (.cells (List.replicate cols (.int .u64 0)).toArray 218)).frozen? ⟨w.heap.size, k, none⟩ = false := (((Below.refl _ wr).alloc (Nat.le_refl _) _).frozen (p := ⟨w.heap.size, k, none⟩) c2).trans c1
      have HS := hide (ht.step hlt)
      generalize hW : wr.alloc (.cells (List.replicate cols (.int .u64 0)).toArray 218) = W1 at d0 d1 HS
      have HW := hide hW
      have k1 : (k : Int) < (rows : Int) := by omega
      clear ht hW
      go_wp2_with (at_make; refine make_rep rfl _ _ 261 rfl 218 (.int .u64 0) 8 Tryz.underlying261 Tryz.info218 rfl cols rfl rfl (by omega) (by omega) ?_; rw [HW.out])
      go_roundw
      case rel => exact ⟨k + 1, by omega, by go_num, HS.out⟩
      case measure => simp [intOf]; omega
    · have hke : k = rows := by omega
      subst hke
      have k1 : decide (k < k) = false := decide_eq_false hlt
      clear ht
      go_wp2
      go_ret
      exact ⟨rfl, HT.out⟩
end Go.Proofs.YtlflfcjbpnnfcaaGreatDoor
/- Whether the runes of a text match: a walk. -/
namespace Go.Proofs.YtlflfcjbpnnfcaaGreatDoor
open Go.Shelf Go.RowKit Go.Lib Brm

theorem Rem.mono {A A' : Nat → Prop} {w : World} {L : List Pat} {p : Pat} {f : Value} {Q Q' : Value → Prop} (k : ∀ g, g < w.heap.size → A g → A' g) (hQ : ∀ e, Q e → Q' e) (h : Rem w A L p f Q) : Rem w A' L p f Q' := by
  obtain ⟨bn, be, e, num, rfl, h1, h2, h3, h4, h5, h6, h7⟩ := h
  exact ⟨bn, be, e, num, rfl, k _ h3.lt h1, k _ h4.lt h2, h3, h4, h5, h6, hQ e h7⟩
theorem Bx.mono {A A' : Nat → Prop} {w : World} {F n : Nat} {xs : List Value} (k : ∀ g, g < w.heap.size → A g → A' g) (e : Value) (h : Bx w A F n xs e) : Bx w A' F n xs e := by
  obtain ⟨bi, lv, rfl, h1, h2, h3⟩ := h
  exact ⟨bi, lv, rfl, k _ h2.lt h1, h2, h3.mono k⟩
mutual
theorem EV.mono {A A' : Nat → Prop} {w : World} {L : List Pat} (k : ∀ g, g < w.heap.size → A g → A' g) : ∀ (p : Pat) (f : Value), EV w A L p f → EV w A' L p f
  | .set s, f, h => by obtain ⟨b, sv, e, ha, hb, hs⟩ := h; exact ⟨b, sv, e, k _ hb.lt ha, hb, hs.mono k⟩
  | .row l, f, h => by obtain ⟨h9, xs, hl, hr⟩ := h; exact ⟨h9, xs, EVL.mono k l xs hl, hr.mono k (Bx.mono k)⟩
  | .or l, f, h => by
    obtain ⟨h9, xs, hl, hr⟩ := h
    refine ⟨h9, xs, EVL.mono k l xs hl, ?_⟩
    rcases hr with hr | ⟨hn, hr⟩
    · exact .inl hr
    · exact .inr ⟨hn, hr.mono k (Bx.mono k)⟩
  | .and l, f, h => by
    obtain ⟨h9, xs, hl, hr⟩ := h
    refine ⟨h9, xs, EVL.mono k l xs hl, ?_⟩
    rcases hr with hr | ⟨hn, hr⟩
    · exact .inl hr
    · exact .inr ⟨hn, hr.mono k (Bx.mono k)⟩
  | .not p, f, h => by
    obtain ⟨g, t, hp, hr⟩ := h
    exact ⟨g, t, EV.mono k p g hp, hr.mono k (fun e he => by obtain ⟨bi, e1, h1, h2⟩ := he; exact ⟨bi, e1, k _ h2.lt h1, h2⟩)⟩
  | .many p m n, f, h => by
    obtain ⟨g, t, hp, hr⟩ := h
    exact ⟨g, t, EV.mono k p g hp, hr.mono k (fun e he => by obtain ⟨b0, b1, b2, e1, h0, h1, h2, k0, k1, k2⟩ := he; exact ⟨b0, b1, b2, e1, k _ k0.lt h0, k _ k1.lt h1, k _ k2.lt h2, k0, k1, k2⟩)⟩
  | .group p, f, h => EV.mono (L := L) k p f h
theorem EVL.mono {A A' : Nat → Prop} {w : World} {L : List Pat} (k : ∀ g, g < w.heap.size → A g → A' g) : ∀ (l : List Pat) (xs : List Value), EVL w A L l xs → EVL w A' L l xs
  | [], xs, h => h
  | p :: l, xs, h => by obtain ⟨f, t, r, e, ht, hp, hl⟩ := h; exact ⟨f, t, r, e, ht, EV.mono k p f hp, EVL.mono k l r hl⟩
end
/-- What stands fast, at the beginning. -/
def cx0 (w w1 : World) (L : List Pat) (l : List Int) (ao : Option Addr) (rc : Nat) : Cx := ⟨L, l, w1.heap.size, w.heap.size, fun k => w.heap.size + 1 + k, ao, rc, .slice none 0 0, L.length⟩
theorem cx0_R {w w1 : World} {L : List Pat} {l : List Int} {ao : Option Addr} {rc : Nat} {g : Nat} (h : (cx0 w w1 L l ao rc).R g) : w.heap.size < g ∧ g < w.heap.size + 1 + L.length := by
  obtain ⟨k, hk, e⟩ := h
  have e' : w.heap.size + 1 + k = g := e
  have hk' : k < L.length := hk
  omega
theorem inv_new {w w1 : World} {L : List Pat} {l : List Int} {ao : Option Addr} {rc : Nat} (hT : TK w w1 L.length (l.length + 1) L.length) (hl : l.length ≤ 40) (hall : AllR l) (hL : L.length ≤ 1000000) (htab : TabAt 2 Lib.deBruijn64tab w) (hru : RunesA w (fun _ => False) ao l) :
    Inv (cx0 w w1 L l ao rc) (w1.alloc (.cells #[.slice ao l.length rc, .slice (some ⟨w.heap.size, 0, none⟩) L.length L.length, .slice none 0 0] 188)) := by
  have hb : Below w.heap.size w (w1.alloc (.cells #[.slice ao l.length rc, .slice (some ⟨w.heap.size, 0, none⟩) L.length L.length, .slice none 0 0] 188)) := hT.1.alloc hT.1.size _
  have h2 : 2 < w.heap.size := cell_lt (htab 0 (by decide))
  have hs : w1.heap.size = w.heap.size + 1 + L.length := hT.2.1
  exact {
    len := hl
    all := hall
    parts := hL
    bound := fun g hg => by have := cx0_R hg; simp; omega
    tab := fun j hj => (hb.cell (p := ⟨2, j, none⟩) h2).trans (htab j hj)
    tab2 := fun h => by have := cx0_R h; omega
    text := Blk.new w1 [.slice ao l.length rc, .slice (some ⟨w.heap.size, 0, none⟩) L.length L.length, .slice none 0 0] 188
    bt := fun h => by have := cx0_R h; show False; simp only [cx0] at this; omega
    runes := fun i x hx => by
      obtain ⟨b, o, e, _, hbl, hc⟩ := hru i x hx
      exact ⟨b, o, e, fun h => by have := cx0_R h; omega, Nat.lt_of_lt_of_le hbl hb.size, (hb.cell (p := ⟨b, o + i, none⟩) hbl).trans hc⟩
    kb := fun h => by have := cx0_R h; simp only [cx0] at this; omega
    inj := fun k k' _ _ e => by have e' : w.heap.size + 1 + k = w.heap.size + 1 + k' := e; omega
    row := fun k hk => by
      have hk' : k < L.length := hk
      obtain ⟨c0, _, c2⟩ := hT.cell hk'
      rw [if_pos hk'] at c0
      exact (((Below.refl _ w1).alloc (Nat.le_refl _) _).cell (p := ⟨w.heap.size, k, none⟩) c2).trans c0
    known := fun k q i hq hi => by
      have hk : k < L.length := (List.getElem?_eq_some_iff.1 hq).1
      have hB := (hT.2.2.2 k hk).alloc (.cells #[.slice ao l.length rc, .slice (some ⟨w.heap.size, 0, none⟩) L.length L.length, .slice none 0 0] 188)
      have hi' : i ≤ l.length := hi
      exact ⟨hB.frozen i, .inl (by show World.cell? _ ⟨w.heap.size + 1 + k, i, none⟩ = _; rw [hB.cell, List.getElem?_replicate, if_pos (by omega)])⟩ }
/-- A pattern's closures, made. -/
def PT (w : World) (A : Nat → Prop) (p : Pat) (bp : Nat) : Prop := A bp ∧ ∃ f t, ∃ g : Int, Blk w bp [f, t, .int .i64 (subs p).length, .int .i64 g] 183 ∧ EV w A (subs p) p f ∧ (subs p).length ≤ 1000
theorem four {w : World} {b : Nat} {v0 v1 v2 v3 : Value} {T : TypeId} (h : Blk w b [v0, v1, v2, v3] T) : w.cell? ⟨b, 0, none⟩ = some v0 ∧ w.cell? ⟨b, 1, none⟩ = some v1 ∧ w.cell? ⟨b, 2, none⟩ = some v2 ∧ w.cell? ⟨b, 3, none⟩ = some v3 := ⟨by rw [h.cell]; rfl, by rw [h.cell]; rfl, by rw [h.cell]; rfl, by rw [h.cell]; rfl⟩
set_option maxRecDepth 100000 in
set_option maxHeartbeats 4000000 in
theorem mtext_any (w : World) (bp : Nat) (L : List Pat) (f t : Value) (g : Int) (l : List Int) (ao : Option Addr) (rc : Nat) (hbp : Blk w bp [f, t, .int .i64 L.length, .int .i64 g] 183) (hl : l.length ≤ 40) (hall : AllR l) (hL : L.length ≤ 1000) (htab : TabAt 2 Lib.deBruijn64tab w) (hru : RunesA w (fun _ => False) ao l) :
    Calls Tryz.prog 70 #[.pointer (some ⟨bp, 0, none⟩), .slice ao l.length rc] w fun e w' => ∃ w1, e = .returned (Ptr (cx0 w w1 L l ao rc).bt) ∧ Inv (cx0 w w1 L l ao rc) w' ∧ Below w.heap.size w w' := by
  obtain ⟨x0, x1, x2, x3⟩ := four hbp
  have HT := hide (fun (w1 : World) (hT : TK w w1 L.length (l.length + 1) L.length) => inv_new (rc := rc) hT hl hall (by omega) htab hru)
  have HC := hide (table_any L.length (l.length + 1) w (by omega) (by omega))
  have HB := hide (fun (w1 : World) (hT : TK w w1 L.length (l.length + 1) L.length) => hT.1.alloc hT.1.size (.cells #[.slice ao l.length rc, .slice (some ⟨w.heap.size, 0, none⟩) L.length L.length, .slice none 0 0] 188))
  clear hbp hall htab hru
  go_enter Tryz.func70, Tryz.ntmps70
  go_wp2_with (go_at_call 123; refine (by simpa using HC.out : Calls Tryz.prog 123 #[.int .i64 L.length, .int .i64 ((l.length : Int) + 1)] w _).mono ?_; rintro e w1 ⟨rfl, hT⟩; have HTK := hide hT; clear hT)
  go_ret
  exact ⟨w1, rfl, HT.out w1 HTK.out, HB.out w1 HTK.out⟩
set_option maxRecDepth 100000 in
set_option maxHeartbeats 4000000 in
theorem matches_any (c : Cx) (p : Pat) (hok : p.Ok) (w : World) (bp : Nat) (F : Nat) (cp : Array Value) (t : Value) (k9 g : Int) (hA : c.A bp) (hbp : Blk w bp [.func (.func F) #[] cp, t, .int .i64 k9, .int .i64 g] 183) (eg : ∀ args w, (callFunc F args).run Tryz.prog w = .ok (.enter F args) w) (hI : Inv c w) (hE : EV w c.A c.L p (.func (.func F) #[] cp)) :
    Calls Tryz.prog 69 #[.pointer (some ⟨bp, 0, none⟩), .pointer (some ⟨c.bt, 0, none⟩)] w fun e w' => e = .returned (.bool (mT p c.l 0 c.l.length)) ∧ KR c.R w w' := by
  obtain ⟨x0, _, _, _⟩ := four hbp
  obtain ⟨y0, _, _⟩ := three hI.text
  have hbl := hbp.lt
  have htl := hI.text.lt
  have h40 := hI.len
  have HBT := hide hI.bt
  have HA := hide hA
  have HI := hide hI
  have HC := hide (fun (w' : World) (hk : KR c.R w w') (h' : Inv c w') => (show Calls Tryz.prog F (#[.pointer (some ⟨c.bt, 0, none⟩), .int .i64 0] ++ cp) w' _ from ends_all c p hok w' F cp 0 h' (EV.keep (hk.keeps (A := c.A) (fun g h => h)) p _ hE) (Nat.zero_le _)))
  have HH := hide (fun (w' : World) => has_any2 (mT p c.l 0) c.l.length (c.l.length + 1) w' (Nat.lt_succ_self _) (by omega))
  generalize mk (mT p c.l 0) (c.l.length + 1) = M at HC HH
  generalize mT p c.l 0 c.l.length = B at HH ⊢
  clear hbp hI hE hA
  go_enter Tryz.func69, Tryz.ntmps69
  go_wp2_with fail
  go_region_held3 (fun w' => Inv c w' ∧ KR c.R w w' ∧ w'.cell? ⟨bp, 0, none⟩ = some (.func (.func F) #[] cp) ∧ w'.cell? ⟨c.bt, 0, none⟩ = some (.slice c.ao c.l.length c.rc))
    (first | exact ⟨HI.out.drew, (KR.refl _ _).drew, x0, y0⟩ | exact ⟨HI5.out, HK5.out, (HK5.out.cell (p := ⟨bp, 0, none⟩) hbl HA.out).trans x0, (HK5.out.cell (p := ⟨c.bt, 0, none⟩) htl HBT.out).trans y0⟩)
    (first
      | (go_at_call 122; refine (HH.out _).mono ?_; rintro e w6 ⟨rfl, hw9⟩; have hw8 := hw9.symm; subst hw8; clear hw9)
      | (go_at_fn F; refine (HC.out _ (‹Inv c _ ∧ KR c.R w _ ∧ _›.2.1) (‹Inv c _ ∧ KR c.R w _ ∧ _›.1)).mono ?_; rintro e w5 ⟨rfl, hI5, hK5⟩; have HI5 := hide hI5; have HK5 := hide ((‹Inv c _ ∧ KR c.R w _ ∧ _›.2.1).trans hK5); clear hI5 hK5))
  all_goals (go_wp2_with fail; go_ret; exact ⟨rfl, HK5.out⟩)
set_option maxRecDepth 100000 in
set_option maxHeartbeats 4000000 in
theorem match_any (p : Pat) (hok : p.Ok) (w : World) (A : Nat → Prop) (bp : Nat) (l : List Int) (ao : Option Addr) (rc : Nat) (hP : PT w A p bp) (hl : l.length ≤ 40) (hall : AllR l) (htab : TabAt 2 Lib.deBruijn64tab w) (hru : RunesA w (fun _ => False) ao l) :
    Calls Tryz.prog 39 #[.pointer (some ⟨bp, 0, none⟩), .slice ao l.length rc] w fun e w' => e = .returned (.bool (mT p l 0 l.length)) ∧ Below w.heap.size w w' := by
  obtain ⟨hAb, f, t, g, hbp, hE, hL⟩ := hP
  obtain ⟨F, cp, rfl, eg⟩ := EV.form p f hok hE
  have HT := hide (mtext_any w bp (subs p) _ t g l ao rc hbp hl hall hL htab hru)
  have HM : Hid (∀ w1 w2, Inv (cx0 w w1 (subs p) l ao rc) w2 → Below w.heap.size w w2 → Calls Tryz.prog 69 #[.pointer (some ⟨bp, 0, none⟩), Ptr (cx0 w w1 (subs p) l ao rc).bt] w2 fun e w' => e = .returned (.bool (mT p l 0 l.length)) ∧ Below w.heap.size w w') := fun w1 w2 h2 hb2 =>
    (matches_any (cx0 w w1 (subs p) l ao rc) p hok w2 bp F cp t _ g (fun h => by have := cx0_R h; have := hbp.lt; omega) (hbp.below hb2) eg h2 (EV.keep (Keeps.below hb2) p _ (EV.mono (fun g hg _ h => by have := cx0_R h; omega) p _ hE))).mono (fun e w' h5 => ⟨h5.1, ⟨h5.2.os.trans hb2.os, h5.2.tape.trans hb2.tape, h5.2.output.trans hb2.output, Nat.le_trans hb2.size h5.2.size, fun k hk => (h5.2.block k (Nat.lt_of_lt_of_le hk hb2.size) (fun h => by have := cx0_R h; omega)).trans (hb2.block k hk)⟩⟩)
  clear hbp hE hall htab hru hAb
  go_enter Tryz.func39, Tryz.ntmps39
  go_wp2_with (first
    | (go_at_call 70; refine HT.out.mono ?_; rintro e w2 ⟨w1, rfl, hI2, hb2⟩; have HI2 := hide hI2; have HB2 := hide hb2; clear hI2 hb2)
    | (go_at_call 69; refine (HM.out w1 _ HI2.out HB2.out).mono ?_; rintro e w3 ⟨rfl, hb3⟩))
  go_ret
  exact ⟨rfl, hb3⟩
end Go.Proofs.YtlflfcjbpnnfcaaGreatDoor
/- How the closures that take lie in memory. -/
namespace Go.Proofs.YtlflfcjbpnnfcaaGreatDoor
open Go.RowKit Brm

mutual
/-- The closure by which a part of a pattern takes; its groups have the numbers from g on. -/
def TV (w : World) (A : Nat → Prop) (L : List Pat) : Pat → Nat → Value → Prop
  | .set _, _, t => t = .func (.func 152) #[] #[]
  | .row l, g, t => ∃ xs, TVL w A L l g xs ∧ Bx w A 195 l.length xs t
  | .or l, g, t => ∃ xs, TVL w A L l g xs ∧ ((l.length = 1 ∧ ∃ f, xs = [f, t]) ∨ (l.length ≠ 1 ∧ Bx w A 199 l.length xs t))
  | .and l, g, t => ∃ xs, TVL w A L l g xs ∧ ((l.length = 1 ∧ ∃ f, xs = [f, t]) ∨ (l.length ≠ 1 ∧ t = .func (.func 152) #[] #[]))
  | .not _, _, t => t = .func (.func 152) #[] #[]
  | .many p m n, g, t => ∃ b0 b1 b2 f u, t = .func (.func 204) #[] #[Ptr b0, Ptr b1, Ptr b2] ∧ A b0 ∧ A b1 ∧ A b2 ∧ Blk w b0 [f, u] 180 ∧ Blk w b1 [.int .i64 m] 3 ∧ Blk w b2 [.int .i64 n] 3 ∧ IsF u ∧ EV w A L p f ∧ TV w A L p g u
  | .group p, g, t => ∃ b0 b1 f u, t = .func (.func 237) #[] #[Ptr b0, Ptr b1] ∧ A b0 ∧ A b1 ∧ Blk w b0 [f, u] 180 ∧ Blk w b1 [.int .i64 (g : Int)] 3 ∧ IsF u ∧ EV w A L p f ∧ TV w A L p (g + 1) u
def TVL (w : World) (A : Nat → Prop) (L : List Pat) : List Pat → Nat → List Value → Prop
  | [], _, xs => xs = []
  | p :: l, g, xs => ∃ f t r, xs = f :: t :: r ∧ IsF t ∧ EV w A L p f ∧ TV w A L p g t ∧ TVL w A L l (g + p.groups) r
end
mutual
theorem TV.keep {A : Nat → Prop} {w w' : World} {L : List Pat} (k : Keeps A w w') : ∀ (p : Pat) (g : Nat) (t : Value), TV w A L p g t → TV w' A L p g t
  | .set _, _, _, h => h
  | .row l, g, t, h => by obtain ⟨xs, hl, hr⟩ := h; exact ⟨xs, TVL.keep k l g xs hl, Bx.keep k t hr⟩
  | .or l, g, t, h => by
    obtain ⟨xs, hl, hr⟩ := h
    refine ⟨xs, TVL.keep k l g xs hl, ?_⟩
    rcases hr with hr | ⟨hn, hr⟩
    · exact .inl hr
    · exact .inr ⟨hn, Bx.keep k t hr⟩
  | .and l, g, t, h => by
    obtain ⟨xs, hl, hr⟩ := h
    exact ⟨xs, TVL.keep k l g xs hl, hr⟩
  | .not _, _, _, h => h
  | .many p m n, g, t, h => by
    obtain ⟨b0, b1, b2, f, u, e, h0, h1, h2, k0, k1, k2, hu, hE, hT⟩ := h
    exact ⟨b0, b1, b2, f, u, e, h0, h1, h2, k0.keep k h0, k1.keep k h1, k2.keep k h2, hu, EV.keep k p f hE, TV.keep k p g u hT⟩
  | .group p, g, t, h => by
    obtain ⟨b0, b1, f, u, e, h0, h1, k0, k1, hu, hE, hT⟩ := h
    exact ⟨b0, b1, f, u, e, h0, h1, k0.keep k h0, k1.keep k h1, hu, EV.keep k p f hE, TV.keep k p (g + 1) u hT⟩
theorem TVL.keep {A : Nat → Prop} {w w' : World} {L : List Pat} (k : Keeps A w w') : ∀ (l : List Pat) (g : Nat) (xs : List Value), TVL w A L l g xs → TVL w' A L l g xs
  | [], _, _, h => h
  | p :: l, g, xs, h => by obtain ⟨f, t, r, e, ht, hp, hT, hl⟩ := h; exact ⟨f, t, r, e, ht, EV.keep k p f hp, TV.keep k p g t hT, TVL.keep k l _ r hl⟩
end
mutual
theorem TV.mono {A A' : Nat → Prop} {w : World} {L : List Pat} (k : ∀ g, g < w.heap.size → A g → A' g) : ∀ (p : Pat) (g : Nat) (t : Value), TV w A L p g t → TV w A' L p g t
  | .set _, _, _, h => h
  | .row l, g, t, h => by obtain ⟨xs, hl, hr⟩ := h; exact ⟨xs, TVL.mono k l g xs hl, Bx.mono k t hr⟩
  | .or l, g, t, h => by
    obtain ⟨xs, hl, hr⟩ := h
    refine ⟨xs, TVL.mono k l g xs hl, ?_⟩
    rcases hr with hr | ⟨hn, hr⟩
    · exact .inl hr
    · exact .inr ⟨hn, Bx.mono k t hr⟩
  | .and l, g, t, h => by
    obtain ⟨xs, hl, hr⟩ := h
    exact ⟨xs, TVL.mono k l g xs hl, hr⟩
  | .not _, _, _, h => h
  | .many p m n, g, t, h => by
    obtain ⟨b0, b1, b2, f, u, e, h0, h1, h2, k0, k1, k2, hu, hE, hT⟩ := h
    exact ⟨b0, b1, b2, f, u, e, k _ k0.lt h0, k _ k1.lt h1, k _ k2.lt h2, k0, k1, k2, hu, EV.mono k p f hE, TV.mono k p g u hT⟩
  | .group p, g, t, h => by
    obtain ⟨b0, b1, f, u, e, h0, h1, k0, k1, hu, hE, hT⟩ := h
    exact ⟨b0, b1, f, u, e, k _ k0.lt h0, k _ k1.lt h1, k0, k1, hu, EV.mono k p f hE, TV.mono k p (g + 1) u hT⟩
theorem TVL.mono {A A' : Nat → Prop} {w : World} {L : List Pat} (k : ∀ g, g < w.heap.size → A g → A' g) : ∀ (l : List Pat) (g : Nat) (xs : List Value), TVL w A L l g xs → TVL w A' L l g xs
  | [], _, _, h => h
  | p :: l, g, xs, h => by obtain ⟨f, t, r, e, ht, hp, hT, hl⟩ := h; exact ⟨f, t, r, e, ht, EV.mono k p f hp, TV.mono k p g t hT, TVL.mono k l _ r hl⟩
end
theorem TVL.snoc {w : World} {A : Nat → Prop} {L : List Pat} : ∀ (l : List Pat) (g : Nat) (xs : List Value) (p : Pat) (f t : Value), TVL w A L l g xs → IsF t → EV w A L p f → TV w A L p (g + groupsL l) t → TVL w A L (l ++ [p]) g (xs ++ [f, t])
  | [], g, xs, p, f, t, h, ht, hp, hT => by rw [show xs = [] from h]; exact ⟨f, t, [], rfl, ht, hp, hT, rfl⟩
  | q :: l, g, xs, p, f, t, h, ht, hp, hT => by
    obtain ⟨f', t', r, rfl, ht', hq, hTq, hl⟩ := h
    exact ⟨f', t', r ++ [f, t], by simp, ht', hq, hTq, TVL.snoc l (g + q.groups) r p f t hl ht hp (by rw [Nat.add_assoc]; exact hT)⟩
/-- A pattern's closures that take, made. -/
def PK (w : World) (A : Nat → Prop) (p : Pat) (bp : Nat) : Prop := A bp ∧ ∃ f t, Blk w bp [f, t, .int .i64 (subs p).length, .int .i64 p.groups] 183 ∧ IsF t ∧ EV w A (subs p) p f ∧ TV w A (subs p) p 0 t ∧ (subs p).length ≤ 1000 ∧ p.groups ≤ 1000
theorem PK.keep {w w' : World} {A : Nat → Prop} {p : Pat} {bp : Nat} (h : PK w A p bp) (k : Keeps A w w') : PK w' A p bp := by
  obtain ⟨ha, f, t, hb, ht, hE, hT, hl⟩ := h
  exact ⟨ha, f, t, hb.keep k ha, ht, EV.keep k p f hE, TV.keep k p 0 t hT, hl⟩
end Go.Proofs.YtlflfcjbpnnfcaaGreatDoor
/- Closures are made: walks. -/
namespace Go.Proofs.YtlflfcjbpnnfcaaGreatDoor
open Go.Shelf Go.RowKit Go.Lib Brm

theorem mk147 (lo : Option Addr) (ln lc : Nat) (w : World) : Calls Tryz.prog 147 #[.slice lo ln lc] w fun e w' => e = .returned (.func (.func 193) #[] #[Ptr w.heap.size]) ∧ w' = w.alloc (.cells #[.slice lo ln lc] 242) := by
  go_enter Tryz.func147, Tryz.ntmps147
  go_wp2
  go_ret
  exact ⟨rfl, rfl⟩
theorem mk148 (lo : Option Addr) (ln lc : Nat) (w : World) : Calls Tryz.prog 148 #[.slice lo ln lc] w fun e w' => e = .returned (.func (.func 195) #[] #[Ptr w.heap.size]) ∧ w' = w.alloc (.cells #[.slice lo ln lc] 242) := by
  go_enter Tryz.func148, Tryz.ntmps148
  go_wp2
  go_ret
  exact ⟨rfl, rfl⟩
theorem mk149 (lo : Option Addr) (ln lc : Nat) (w : World) : Calls Tryz.prog 149 #[.slice lo ln lc] w fun e w' => e = .returned (.func (.func 198) #[] #[Ptr w.heap.size]) ∧ w' = w.alloc (.cells #[.slice lo ln lc] 242) := by
  go_enter Tryz.func149, Tryz.ntmps149
  go_wp2
  go_ret
  exact ⟨rfl, rfl⟩
theorem mk150 (lo : Option Addr) (ln lc : Nat) (w : World) : Calls Tryz.prog 150 #[.slice lo ln lc] w fun e w' => e = .returned (.func (.func 199) #[] #[Ptr w.heap.size]) ∧ w' = w.alloc (.cells #[.slice lo ln lc] 242) := by
  go_enter Tryz.func150, Tryz.ntmps150
  go_wp2
  go_ret
  exact ⟨rfl, rfl⟩
theorem mk151 (lo : Option Addr) (ln lc : Nat) (w : World) : Calls Tryz.prog 151 #[.slice lo ln lc] w fun e w' => e = .returned (.func (.func 200) #[] #[Ptr w.heap.size]) ∧ w' = w.alloc (.cells #[.slice lo ln lc] 242) := by
  go_enter Tryz.func151, Tryz.ntmps151
  go_wp2
  go_ret
  exact ⟨rfl, rfl⟩
theorem mk156 (lo : Option Addr) (ln lc : Nat) (w : World) : Calls Tryz.prog 156 #[.slice lo ln lc] w fun e w' => e = .returned (.func (.func 206) #[] #[Ptr w.heap.size]) ∧ w' = w.alloc (.cells #[.slice lo ln lc] 29) := by
  go_enter Tryz.func156, Tryz.ntmps156
  go_wp2
  go_ret
  exact ⟨rfl, rfl⟩
theorem mk153 (F : Nat) (cp : Array Value) (G : Nat) (tc : Array Value) (w : World) : Calls Tryz.prog 153 #[.agg #[.func (.func F) #[] cp, .func (.func G) #[] tc]] w fun e w' => e = .returned (.func (.func 202) #[] #[Ptr w.heap.size]) ∧ w' = w.alloc (.cells #[.func (.func F) #[] cp, .func (.func G) #[] tc] 180) := by
  go_enter Tryz.func153, Tryz.ntmps153
  go_wp2
  go_ret
  exact ⟨rfl, rfl⟩
theorem mk154 (F : Nat) (cp : Array Value) (G : Nat) (tc : Array Value) (m n : Int) (w : World) : Calls Tryz.prog 154 #[.agg #[.func (.func F) #[] cp, .func (.func G) #[] tc], .int .i64 m, .int .i64 n] w fun e w' => e = .returned (.func (.func 203) #[] #[Ptr (w.heap.size + 1), Ptr w.heap.size, Ptr (w.heap.size + 2)]) ∧ w' = ((w.alloc (.cells #[.func (.func F) #[] cp, .func (.func G) #[] tc] 180)).alloc (.cells #[.int .i64 m] 3)).alloc (.cells #[.int .i64 n] 3) := by
  go_enter Tryz.func154, Tryz.ntmps154
  go_wp2
  go_ret
  exact ⟨rfl, rfl⟩
theorem mk155 (F : Nat) (cp : Array Value) (G : Nat) (tc : Array Value) (m n : Int) (w : World) : Calls Tryz.prog 155 #[.agg #[.func (.func F) #[] cp, .func (.func G) #[] tc], .int .i64 m, .int .i64 n] w fun e w' => e = .returned (.func (.func 204) #[] #[Ptr w.heap.size, Ptr (w.heap.size + 1), Ptr (w.heap.size + 2)]) ∧ w' = ((w.alloc (.cells #[.func (.func F) #[] cp, .func (.func G) #[] tc] 180)).alloc (.cells #[.int .i64 m] 3)).alloc (.cells #[.int .i64 n] 3) := by
  go_enter Tryz.func155, Tryz.ntmps155
  go_wp2
  go_ret
  exact ⟨rfl, rfl⟩
theorem mk191 (F : Nat) (cp : Array Value) (G : Nat) (tc : Array Value) (m : Int) (w : World) : Calls Tryz.prog 191 #[.agg #[.func (.func F) #[] cp, .func (.func G) #[] tc], .int .i64 m] w fun e w' => e = .returned (.func (.func 237) #[] #[Ptr w.heap.size, Ptr (w.heap.size + 1)]) ∧ w' = (w.alloc (.cells #[.func (.func F) #[] cp, .func (.func G) #[] tc] 180)).alloc (.cells #[.int .i64 m] 3) := by
  go_enter Tryz.func191, Tryz.ntmps191
  go_wp2
  go_ret
  exact ⟨rfl, rfl⟩
set_option maxRecDepth 100000 in
set_option maxHeartbeats 4000000 in
theorem mk146 (bm k : Nat) (g : Int) (F : Nat) (cp : Array Value) (w : World) (hk : k ≤ 100000) (hb : Blk w bm [.int .i64 k, .int .i64 g] 174) : Calls Tryz.prog 146 #[.pointer (some ⟨bm, 0, none⟩), .func (.func F) #[] cp] w fun e w' => e = .returned (.func (.func 192) #[] #[Ptr (w.heap.size + 1), Ptr w.heap.size]) ∧ Off bm w w' ∧ Blk w' bm [.int .i64 ((k + 1 : Nat) : Int), .int .i64 g] 174 ∧ Blk w' w.heap.size [.func (.func F) #[] cp] 176 ∧ Blk w' (w.heap.size + 1) [.int .i64 k] 3 := by
  obtain ⟨x0, x1⟩ := two hb
  have z0 := hb.frozen 0
  have hbl := hb.lt
  have hne : bm ≠ w.heap.size := by omega
  have hne1 : bm ≠ w.heap.size + 1 := by omega
  have HB := hide hb
  clear hb
  go_enter Tryz.func146, Tryz.ntmps146
  go_wp2
  go_ret
  have e9 : (k : Int) + 1 = ((k + 1 : Nat) : Int) := by omega
  rw [e9]
  have hs : (w.setCell ⟨bm, 0, none⟩ (.int .i64 ((k + 1 : Nat) : Int))).heap.size = w.heap.size := by simp [World.setCell]
  have h1 := (Blk.new (w.setCell ⟨bm, 0, none⟩ (.int .i64 ((k + 1 : Nat) : Int))) [.func (.func F) #[] cp] 176).alloc (.cells #[.int .i64 k] 3)
  have h2 := Blk.new ((w.setCell ⟨bm, 0, none⟩ (.int .i64 ((k + 1 : Nat) : Int))).alloc (.cells #[.func (.func F) #[] cp] 176)) [.int .i64 k] 3
  have hs2 : ((w.setCell ⟨bm, 0, none⟩ (.int .i64 ((k + 1 : Nat) : Int))).alloc (.cells #[.func (.func F) #[] cp] 176)).heap.size = w.heap.size + 1 := by simp [World.setCell]
  rw [hs] at h1
  rw [hs2] at h2
  exact ⟨rfl, (((Off.refl _ _).setCell 0 _).alloc _).alloc _, ((HB.out.set 0 _).alloc _).alloc _, h1, h2⟩
/-- The numbers that some parts have. -/
def Pre (L : List Pat) (k : Nat) (xs : List Pat) : Prop := ∀ i q, xs[i]? = some q → L[k + i]? = some q
theorem Pre.left {L xs ys : List Pat} {k : Nat} (h : Pre L k (xs ++ ys)) : Pre L k xs := fun i q hi => h i q (by rw [List.getElem?_append_left (List.getElem?_eq_some_iff.1 hi).1]; exact hi)
theorem Pre.right {L xs ys : List Pat} {k : Nat} (h : Pre L k (xs ++ ys)) : Pre L (k + xs.length) ys := fun i q hi => by
  have := h (xs.length + i) q (by rw [List.getElem?_append_right (by omega)]; rw [show xs.length + i - xs.length = i by omega]; exact hi)
  rw [← this]; congr 1; omega
theorem Pre.one {L xs : List Pat} {k : Nat} {p : Pat} (h : Pre L k (xs ++ [p])) : L[k + xs.length]? = some p := by
  have := h.right 0 p rfl
  simpa using this
theorem subsL_append : ∀ (l r : List Pat), subsL (l ++ r) = subsL l ++ subsL r
  | [], r => by simp [subsL]
  | q :: l, r => by simp [subsL, subsL_append l r]
theorem groupsL_append : ∀ (l r : List Pat), groupsL (l ++ r) = groupsL l + groupsL r
  | [], r => by simp [groupsL]
  | q :: l, r => by simp [groupsL, groupsL_append l r]; omega
theorem take_one {l : List Pat} {k : Nat} (hk : k < l.length) : l = l.take k ++ (l[k] :: l.drop (k + 1)) := by
  rw [List.getElem_cons_drop, List.take_append_drop]
theorem EVL.snoc {w : World} {A : Nat → Prop} {L : List Pat} : ∀ (l : List Pat) (xs : List Value) (p : Pat) (f t : Value), EVL w A L l xs → IsF t → EV w A L p f → EVL w A L (l ++ [p]) (xs ++ [f, t])
  | [], xs, p, f, t, h, ht, hp => by rw [show xs = [] from h]; exact ⟨f, t, [], rfl, ht, hp, rfl⟩
  | q :: l, xs, p, f, t, h, ht, hp => by
    obtain ⟨f', t', r, rfl, ht', hq, hl⟩ := h
    exact ⟨f', t', r ++ [f, t], by simp, ht', hq, EVL.snoc l r p f t hl ht hp⟩
/-- What closures are made of: what was there below B, and what is new. -/
def AB (lo B : Nat) (w : World) (x : Nat) : Prop := (lo ≤ x ∧ x < B) ∨ w.heap.size ≤ x
theorem Tryz.info180 : (Tryz.prog.info? 180).map (fun i => (i.zero, i.size, i.bytes)) = some (some (.agg #[.nilFunc, .nilFunc]), 2, 16) := by kernel_rfl
theorem own_le180 {w : World} {B B' : Nat} {v : Value} {n : Nat} {xs : List Value} (h : w.ownsRow B 180 2 v n xs) (hb : B' ≤ B) : w.ownsRow B' 180 2 v n xs := by
  refine ⟨h.1, ?_⟩
  rcases h.2 with h2 | ⟨g, cap, cur, e, hg, r⟩
  · exact .inl h2
  · exact .inr ⟨g, cap, cur, e, Nat.le_trans hb hg, r⟩
theorem append_part {w : World} {ops : Array Oper} {rest : List Oper} {o : Oper} {a : Act} {Q : Exit → Act → World → Prop} (hgd : o.guard = none) (s x : Operand)
    (ho : o.op = .call { callee := .builtin .append, args := #[s, x], argTypes := #[242, 242] }) (B n : Nat) (v : Value) (xs : List Value) (hs : a.eval s = v) (hown : w.ownsRow B 180 2 v n xs)
    (ad : Addr) (news : List Value) (hx : a.eval x = .slice (some ad) 1 1) (hl : news.length = 2) (hnews : ∀ j u, news[j]? = some u → w.cell? (ad.add j) = some u) (h1 : ∀ u ∈ news, u.oneCell' = true)
    (hn : n ≤ 100000) (hB : B ≤ w.heap.size)
    (h : ∀ v' w', w'.ownsRow B 180 2 v' (n + 1) (xs ++ news) → w.grownBy w' v.ownBlock → (v'.ownBlock = v.ownBlock ∨ ∀ g, v'.ownBlock = some g → w.heap.size ≤ g) →
      wpList Tryz.prog ops Q rest (a.put o.dst v') w') : wpList Tryz.prog ops Q (o :: rest) a w := by
  obtain ⟨i0, hi, hz0, hz1, hz2⟩ := info_parts Tryz.info180
  have hrow := hown
  rcases hown.2 with ⟨rfl, rfl⟩ | ⟨g, cap, cur, rfl, hbg, hg, hnc, hcm, hcs, ht⟩
  · refine wpList_append_grows w hgd s x 242 ho 180 i0 (.agg #[.nilFunc, .nilFunc]) 2 16 Tryz.underlying242 hi hz0 hz1 hz2 rfl (by decide) none 0 0 xs hs (fun _ => ⟨rfl, rfl⟩) hrow.1 (fun b e => by cases e) ad 1 1 news hx hl hnews h1 (by omega) (by unfold maxLen; omega) (by omega) ?_
    intro v' w' ho' hg'
    exact h v' w' (own_le180 ho' hB) ⟨hg'.os, hg'.tape, hg'.output, hg'.size, fun k hk _ => hg'.block k hk (by simp)⟩ (.inr fun g e => (ho'.lt g e).1)
  · by_cases hroom : n + 1 ≤ cap
    · refine wpList_append_fits w hgd s x 242 ho B 180 i0 2 Tryz.underlying242 hi hz1 g n cap xs hs hrow ad 1 1 news hx hl hnews h1 hroom ?_
      intro w' ho' hg'
      exact h _ w' ho' hg' (.inl rfl)
    · refine wpList_append_grows w hgd s x 242 ho 180 i0 (.agg #[.nilFunc, .nilFunc]) 2 16 Tryz.underlying242 hi hz0 hz1 hz2 rfl (by decide) (some ⟨g, 0, none⟩) n cap xs hs (fun e => by cases e) hrow.1 (fun b e j u hj => by cases e; exact hrow.cells rfl j u hj) ad 1 1 news hx hl hnews h1 (by omega) (by unfold maxLen; omega) (by omega) ?_
      intro v' w' ho' hg'
      exact h v' w' (own_le180 ho' hB) ⟨hg'.os, hg'.tape, hg'.output, hg'.size, fun k hk _ => hg'.block k hk (by simp)⟩ (.inr fun g e => (ho'.lt g e).1)
end Go.Proofs.YtlflfcjbpnnfcaaGreatDoor
/- Closures of some parts are made: a walk. -/
namespace Go.Proofs.YtlflfcjbpnnfcaaGreatDoor
open Go.Shelf Go.RowKit Go.Lib Brm

abbrev Mkr (w : World) (bm k g : Nat) : Prop := Blk w bm [.int .i64 k, .int .i64 g] 174
/-- What making a part comes to. -/
def PartQ (p : Pat) (lo B bm k g : Nat) (L : List Pat) (w : World) (e : Ending) (w' : World) : Prop := ∃ F cp G tc, e = .returned (.agg #[.func (.func F) #[] cp, .func (.func G) #[] tc]) ∧ EV w' (AB lo B w) L p (.func (.func F) #[] cp) ∧ TV w' (AB lo B w) L p g (.func (.func G) #[] tc) ∧ Off bm w w' ∧ Mkr w' bm (k + (subs p).length) (g + p.groups)
def PartOk (p : Pat) : Prop := ∀ (lo B bm b k g : Nat) (L : List Pat) (w : World), B ≤ bm → PN w (fun x => lo ≤ x ∧ x < B) p b → Mkr w bm k g → Pre L k (subs p) → k + (subs p).length ≤ 1000 → g + p.groups ≤ 1000 → Calls Tryz.prog 96 #[.pointer (some ⟨bm, 0, none⟩), .pointer (some ⟨b, 0, none⟩)] w (PartQ p lo B bm k g L w)
def AllQ (l : List Pat) (lo B bm k g : Nat) (L : List Pat) (w : World) (e : Ending) (w' : World) : Prop := ∃ la lc ys, e = .returned (.slice la l.length lc) ∧ Own w' (AB lo B w) 180 2 (.slice la l.length lc) l.length ys ∧ EVL w' (AB lo B w) L l ys ∧ TVL w' (AB lo B w) L l g ys ∧ Off bm w w' ∧ Mkr w' bm (k + (subsL l).length) (g + groupsL l)
theorem part_new (w : World) (F : Nat) (cp : Array Value) (G : Nat) (tc : Array Value) : ∀ j u, ([.func (.func F) #[] cp, .func (.func G) #[] tc] : List Value)[j]? = some u → (w.alloc (.cells #[.func (.func F) #[] cp, .func (.func G) #[] tc] 180)).cell? ((⟨w.heap.size, 0, none⟩ : Addr).add j) = some u := by
  intro j u hj
  rw [Addr.add_lit, ← hj]
  simp
theorem part_one (F : Nat) (cp : Array Value) (G : Nat) (tc : Array Value) : ∀ u ∈ ([.func (.func F) #[] cp, .func (.func G) #[] tc] : List Value), u.oneCell' = true := by
  intro u hu; simp at hu; rcases hu with rfl | rfl <;> rfl
/-- Parts under way: their row is the call's own, and no part lies in it. -/
def AP (w : World) (lo B bm k g : Nat) (L : List Pat) (v : Value) (l : List Pat) (wr : World) : Prop := ∃ ys, wr.ownsRow w.heap.size 180 2 v l.length ys ∧ EVL wr (fun x => AB lo B w x ∧ some x ≠ v.ownBlock) L l ys ∧ TVL wr (fun x => AB lo B w x ∧ some x ≠ v.ownBlock) L l g ys ∧ Off bm w wr ∧ Mkr wr bm (k + (subsL l).length) (g + groupsL l)
theorem AP.push {w wr w2 w3 : World} {lo B bm k g : Nat} {L l : List Pat} {p : Pat} {v v3 : Value} {F : Nat} {cp : Array Value} {G : Nat} {tc : Array Value} {ys : List Value} (hB : B ≤ bm) (hbm : bm < w.heap.size)
    (h1 : wr.ownsRow w.heap.size 180 2 v l.length ys) (h2 : EVL wr (fun x => AB lo B w x ∧ some x ≠ v.ownBlock) L l ys) (h2T : TVL wr (fun x => AB lo B w x ∧ some x ≠ v.ownBlock) L l g ys) (h3 : Off bm w wr)
    (hE : EV w2 (AB lo B wr) L p (.func (.func F) #[] cp)) (hT : TV w2 (AB lo B wr) L p (g + groupsL l) (.func (.func G) #[] tc)) (hO : Off bm wr w2) (hM : Mkr w2 bm (k + (subsL l).length + (subs p).length) (g + groupsL l + p.groups))
    (ho3 : w3.ownsRow w.heap.size 180 2 v3 (l.length + 1) (ys ++ [.func (.func F) #[] cp, .func (.func G) #[] tc])) (hg3 : (w2.alloc (.cells #[.func (.func F) #[] cp, .func (.func G) #[] tc] 180)).grownBy w3 v.ownBlock)
    (hl3 : v3.ownBlock = v.ownBlock ∨ ∀ g, v3.ownBlock = some g → (w2.alloc (.cells #[.func (.func F) #[] cp, .func (.func G) #[] tc] 180)).heap.size ≤ g) : AP w lo B bm k g L v3 (l ++ [p]) w3 := by
  have hv : ∀ q, v.ownBlock = some q → w.heap.size ≤ q ∧ q < wr.heap.size := fun q hq => h1.lt q hq
  have hsz := hO.size
  have hs2 : (w2.alloc (.cells #[.func (.func F) #[] cp, .func (.func G) #[] tc] 180)).heap.size = w2.heap.size + 1 := by simp
  have hk3 : Keeps (fun x => AB lo B w x ∧ some x ≠ v.ownBlock) w2 w3 := (Keeps.alloc _ _ _).trans (Keeps.grown hg3 (fun q e h => h.2 e.symm))
  have hmono : ∀ q, q < w2.heap.size → some q ≠ v.ownBlock → some q ≠ v3.ownBlock := fun q hq hne e => by
    rcases hl3 with h | h
    · rw [h] at e; exact hne e
    · have := h q e.symm; omega
  refine ⟨_, by rw [List.length_append]; exact ho3, ?_, ?_, (h3.trans (hO.alloc _)).grown hg3 (fun q e => (hv q e).1), ?_⟩
  · have e1 : EVL w2 (fun x => AB lo B w x ∧ some x ≠ v.ownBlock) L l ys := EVL.keep (Keeps.off hO (fun ha => by rcases ha.1 with ha | ha <;> omega)) l ys h2
    have e2 : EV w2 (fun x => AB lo B w x ∧ some x ≠ v.ownBlock) L p (.func (.func F) #[] cp) := EV.mono (fun q _ ha => by
      rcases ha with ha | ha
      · exact ⟨.inl ha, fun e => by have := hv q e.symm; omega⟩
      · exact ⟨.inr (Nat.le_trans h3.size ha), fun e => by have := hv q e.symm; omega⟩) p _ hE
    have e3 := EVL.snoc l ys p _ _ e1 ⟨G, tc, rfl⟩ e2
    have e4 : EVL w2 (fun x => (AB lo B w x ∧ some x ≠ v.ownBlock) ∧ some x ≠ v3.ownBlock) L (l ++ [p]) _ := EVL.mono (fun q hq ha => ⟨ha, hmono q hq ha.2⟩) _ _ e3
    have e5 := EVL.keep (w' := w3) (A := fun x => (AB lo B w x ∧ some x ≠ v.ownBlock) ∧ some x ≠ v3.ownBlock) ⟨hk3.1, fun q hq ha => hk3.2 q hq ha.1⟩ _ _ e4
    exact EVL.mono (fun q _ ha => ⟨ha.1.1, ha.2⟩) _ _ e5
  · have e1 : TVL w2 (fun x => AB lo B w x ∧ some x ≠ v.ownBlock) L l g ys := TVL.keep (Keeps.off hO (fun ha => by rcases ha.1 with ha | ha <;> omega)) l g ys h2T
    have e2 : EV w2 (fun x => AB lo B w x ∧ some x ≠ v.ownBlock) L p (.func (.func F) #[] cp) := EV.mono (fun q _ ha => by
      rcases ha with ha | ha
      · exact ⟨.inl ha, fun e => by have := hv q e.symm; omega⟩
      · exact ⟨.inr (Nat.le_trans h3.size ha), fun e => by have := hv q e.symm; omega⟩) p _ hE
    have e2T : TV w2 (fun x => AB lo B w x ∧ some x ≠ v.ownBlock) L p (g + groupsL l) (.func (.func G) #[] tc) := TV.mono (fun q _ ha => by
      rcases ha with ha | ha
      · exact ⟨.inl ha, fun e => by have := hv q e.symm; omega⟩
      · exact ⟨.inr (Nat.le_trans h3.size ha), fun e => by have := hv q e.symm; omega⟩) p _ _ hT
    have e3 := TVL.snoc l g ys p _ _ e1 ⟨G, tc, rfl⟩ e2 e2T
    have e4 : TVL w2 (fun x => (AB lo B w x ∧ some x ≠ v.ownBlock) ∧ some x ≠ v3.ownBlock) L (l ++ [p]) g _ := TVL.mono (fun q hq ha => ⟨ha, hmono q hq ha.2⟩) _ _ _ e3
    have e5 := TVL.keep (w' := w3) (A := fun x => (AB lo B w x ∧ some x ≠ v.ownBlock) ∧ some x ≠ v3.ownBlock) ⟨hk3.1, fun q hq ha => hk3.2 q hq ha.1⟩ _ _ _ e4
    exact TVL.mono (fun q _ ha => ⟨ha.1.1, ha.2⟩) _ _ _ e5
  · have := (hM.alloc (.cells #[.func (.func F) #[] cp, .func (.func G) #[] tc] 180)).grown hg3 (fun e => by have := hv bm e.symm; omega)
    rw [subsL_append, groupsL_append]
    simp only [subsL, groupsL, List.append_nil, Nat.add_zero, List.length_append, ← Nat.add_assoc]
    exact this
theorem own_ptr_at {w : World} {A : Nat → Prop} {lv : Value} {n : Nat} {xs : List Nat} (h : Own w A 65 1 lv n (xs.map Ptr)) {i x : Nat} (hi : i < n) (hx : xs[i]? = some x) : ∃ b cap, lv = .slice (some ⟨b, 0, none⟩) n cap ∧ b < w.heap.size ∧ A b ∧ w.cell? ⟨b, i, none⟩ = some (.pointer (some ⟨x, 0, none⟩)) := by
  rcases h.1.2 with ⟨rfl, h0⟩ | ⟨b, cap, cur, rfl, hg, hh, hr⟩
  · omega
  · refine ⟨b, cap, rfl, (h.1.lt b rfl).2, h.2 b rfl, ?_⟩
    have := h.1.cells rfl i (Ptr x) (by rw [List.getElem?_map, hx]; rfl)
    rw [Addr.add_lit] at this; simpa using this
set_option maxRecDepth 100000 in
set_option maxHeartbeats 4000000 in
theorem all_any (l : List Pat) (ih : ∀ p ∈ l, PartOk p) (lo B bm k g : Nat) (L : List Pat) (w : World) (lv : Value) (xs : List Nat) (hB : B ≤ bm) (ho : Own w (fun x => lo ≤ x ∧ x < B) 65 1 lv l.length (xs.map Ptr)) (hP : PL w (fun x => lo ≤ x ∧ x < B) l xs) (hm : Mkr w bm k g) (hL : Pre L k (subsL l)) (hk : k + (subsL l).length ≤ 1000) (hg : g + groupsL l ≤ 1000) (h100 : l.length ≤ 100) :
    Calls Tryz.prog 145 #[.pointer (some ⟨bm, 0, none⟩), lv] w (AllQ l lo B bm k g L w) := by
  have HPT : Hid (∀ (i : Nat) (_ : i < l.length) (wr : World), Off bm w wr → ∃ b cap x, lv = .slice (some ⟨b, 0, none⟩) l.length cap ∧ wr.cell? ⟨b, i, none⟩ = some (.pointer (some ⟨x, 0, none⟩)) ∧ PN wr (fun x => lo ≤ x ∧ x < B) l[i] x) := fun i hi wr hw => by
    obtain ⟨x, hx, hp⟩ := PL.at l xs hP i l[i] (List.getElem?_eq_getElem hi)
    have hkp : Keeps (fun x => lo ≤ x ∧ x < B) w wr := Keeps.off hw (by omega)
    obtain ⟨b, cap, rfl, _, _, c0⟩ := own_ptr_at (ho.keep hkp) hi hx
    exact ⟨b, cap, x, rfl, c0, PN.keep hkp _ _ hp⟩
  obtain ⟨lo9, lc, rfl⟩ := own65_form ho.1
  have hbm := hm.lt
  have HIH := hide ih
  have HM := hide hm
  have HL := hide hL
  have HB := hide hB
  have HK := hide hk
  have HG := hide hg
  clear ho hP hm ih hL hB hk hg
  go_enter Tryz.func145, Tryz.ntmps145
  go_wp2_with fail
  go_loopw [5, 10] (fun out ix wr => ∃ i : Nat, i ≤ l.length ∧ ix = .int .i64 i ∧ AP w lo B bm k g L out (l.take i) wr) (fun _ ix _ => l.length - (intOf ix).toNat)
  case atStart => exact ⟨0, Nat.zero_le _, rfl, [], by simpa using World.ownsRow_nil _ _ _ _, by simp [EVL], by simp [TVL], Off.refl _ _, by simpa [subsL, groupsL] using HM.out⟩
  case round =>
    obtain ⟨i, hi, rfl, ys, ho, hE, hTv, hO, hM⟩ := hrel
    have HTr := hide hTv
    have hti : (l.take i).length = i := by rw [List.length_take]; omega
    have HOr := hide ho
    have HEr := hide hE
    have HOf := hide hO
    obtain ⟨ao, cap, rfl⟩ := ownP_form ho
    rw [hti]
    have HTI := hide hti
    have i0 : (0 : Int) ≤ (i : Int) := Int.natCast_nonneg _
    by_cases hlt : i < l.length
    · obtain ⟨b, cap9, x, hlv, c0, hPN⟩ := HPT.out i hlt wr hO
      cases hlv
      have hsp := take_one hlt
      have hse : subsL l = subsL (l.take i) ++ (subs l[i] ++ subsL (l.drop (i + 1))) := by
        have := congrArg subsL hsp
        rw [subsL_append] at this
        exact this
      have hge : groupsL l = groupsL (l.take i) + (l[i].groups + groupsL (l.drop (i + 1))) := by
        have := congrArg groupsL hsp
        rw [groupsL_append] at this
        exact this
      have hpre : Pre L (k + (subsL (l.take i)).length) (subs l[i]) := by
        have := HL.out
        rw [hse] at this
        exact this.right.left
      have hle : (subsL (l.take i)).length + (subs l[i]).length ≤ (subsL l).length := by rw [hse]; simp only [List.length_append]; omega
      have HC := hide (HIH.out l[i] (List.getElem_mem hlt) lo B bm x (k + (subsL (l.take i)).length) (g + groupsL (l.take i)) L wr HB.out hPN hM hpre (by have := HK.out; omega) (by have := HG.out; omega))
      have HTS : Hid (l.take (i + 1) = l.take i ++ [l[i]]) := List.take_succ_eq_append_getElem hlt
      generalize l[i] = p at HC HTS
      have i1 : (i : Int) < (l.length : Int) := by omega
      have hsz := hO.size
      clear hE hTv hO hM ho hsp hse hge hpre hle hPN hti
      go_wp2_with (first
        | (go_at_call 96; refine HC.out.mono ?_; rintro e w2 ⟨F, cp, G, tc, rfl, hE2, hT2, hO2, hM2⟩; have HE2 := hide hE2; have HT2 := hide hT2; have HO2 := hide hO2; have HM2 := hide hM2; have hs2 := hO2.size; clear hE2 hT2 hO2 hM2)
        | (at_builtin; refine append_part rfl (.tmp 14) (.tmp 18) rfl w.heap.size (l.take i).length _ _ (by rw [HTI.out]; rfl) ((own_block HOr.out (fun q hq => HO2.out.block q (HOr.out.lt q hq).2 (fun e => by have := (HOr.out.lt q hq).1; omega))).alloc _) ⟨w2.heap.size, 0, none⟩ [.func (.func F) #[] cp, .func (.func G) #[] tc] rfl rfl (part_new _ _ _ _ _) (part_one _ _ _ _) (by rw [HTI.out]; omega) (by simp; omega) ?_; intro v3 w3 ho3 hg3 hl3; have HO3 := hide ho3; have HG3 := hide hg3; have HL3 := hide hl3; clear ho3 hg3 hl3))
      go_roundw
      case rel => exact ⟨i + 1, by omega, by go_num, by rw [HTS.out]; exact AP.push HB.out hbm HOr.out HEr.out HTr.out HOf.out HE2.out HT2.out HO2.out HM2.out HO3.out HG3.out HL3.out⟩
      case measure => simp [intOf]; omega
    · have hie : i = l.length := by omega
      have HMr := hide hM
      have HIE := hide hie
      have i1 : decide (i < l.length) = false := decide_eq_false hlt
      clear hE hTv hO hM ho hti
      go_wp2
      go_ret
      have hie := HIE.out
      have ho := HOr.out
      have hE := HEr.out
      have hTv := HTr.out
      have hM := HMr.out
      rw [HTI.out] at ho
      rw [hie] at ho hE hTv hM ⊢
      rw [List.take_length] at hE hTv hM
      exact ⟨ao, cap, ys, rfl, ⟨own_le180 ho (Nat.zero_le _), fun q hq => .inr (ho.lt q hq).1⟩, EVL.mono (fun q _ ha => ha.1) _ _ hE, TVL.mono (fun q _ ha => ha.1) _ _ _ hTv, HOf.out, hM⟩
end Go.Proofs.YtlflfcjbpnnfcaaGreatDoor
/- The groups of a pattern are not many: plain. -/
namespace Go.Proofs.YtlflfcjbpnnfcaaGreatDoor
namespace Brm

def GrpP (k : Nat) (r : Res Pat) (s : List Int) : Prop := match r with | .ok p s' => p.groups + 3 * s'.length ≤ k + 3 * s.length | .bad _ => True
theorem GrpP.weak {k k' : Nat} {r : Res Pat} {s s' : List Int} (h : GrpP k r s) (hk : k + 3 * s.length ≤ k' + 3 * s'.length) : GrpP k' r s' := by
  cases r with
  | bad s => trivial
  | ok p t => have h' : p.groups + 3 * t.length ≤ k + 3 * s.length := h; show p.groups + 3 * t.length ≤ _; omega
theorem manyLoop_grp : ∀ (n : Nat) (x : Pat) (s : List Int), GrpP x.groups (manyLoop n x s) s
  | 0, _, _ => trivial
  | n + 1, x, s => by
    unfold manyLoop
    split
    · have h2 := timesP_takes s
      cases hr : timesP s with
      | bad s' => trivial
      | ok mn s' =>
        rw [hr] at h2
        have := h2.1
        refine (manyLoop_grp n (.many x mn.1 mn.2) s').weak ?_
        simp only [Pat.groups]; omega
    · exact Nat.le_refl _
theorem set_grp {l : List (Int × Int)} {s s' : List Int} (h : s'.length ≤ s.length) : GrpP 0 (.ok (.set l) s') s := by
  show (Pat.set l).groups + 3 * s'.length ≤ 0 + 3 * s.length
  simp [Pat.groups]; omega
theorem atomP_grp {rec : List Int → Res Pat} (hr : ∀ s, GrpP 1 (rec s) s) (s : List Int) : GrpP 0 (atomP rec s) s := by
  cases s with
  | nil => trivial
  | cons c s =>
    simp only [atomP]
    split
    · have h1 := hr s
      cases h : rec s with
      | bad s' => trivial
      | ok p s' =>
        rw [h] at h1
        simp only [Res.bind, closeP]
        split
        · rename_i hh
          have := (head_less hh).1
          have h1' : p.groups + 3 * s'.length ≤ 1 + 3 * s.length := h1
          show (Pat.group p).groups + _ ≤ _
          simp [Pat.groups] at *; omega
        · trivial
    split
    · have h3 := bracketP_takes s
      cases h : bracketP s with
      | bad s' => trivial
      | ok l s' =>
        rw [h] at h3
        have h4 := h3.1
        exact set_grp (by simp; omega)
    split
    · exact set_grp (by simp)
    split
    · cases s with
      | nil => trivial
      | cons d s =>
        simp only [escP]
        split
        · exact set_grp (by simp; omega)
        · split
          · exact set_grp (by simp; omega)
          · trivial
    split
    · trivial
    · exact set_grp (by simp)
theorem manyP_grp {rec : List Int → Res Pat} (hr : ∀ s, GrpP 1 (rec s) s) (s : List Int) : GrpP 0 (manyP rec s) s := by
  unfold manyP
  have h1 := atomP_grp hr s
  cases h : atomP rec s with
  | bad s' => trivial
  | ok p s' =>
    rw [h] at h1
    have h1' : p.groups + 3 * s'.length ≤ 0 + 3 * s.length := h1
    exact (manyLoop_grp _ p s').weak (by omega)
theorem notP_grp {rec : List Int → Res Pat} (hr : ∀ s, GrpP 1 (rec s) s) : ∀ (s : List Int), GrpP 0 (notP rec s) s
  | [] => manyP_grp hr _
  | c :: s => by
    simp only [notP]
    split
    · have h1 := notP_grp hr s
      cases h : notP rec s with
      | bad s' => trivial
      | ok p s' =>
        rw [h] at h1
        have h1' : p.groups + 3 * s'.length ≤ 0 + 3 * s.length := h1
        show (Pat.not p).groups + _ ≤ _
        simp [Pat.groups]; omega
    · exact manyP_grp hr _
theorem rowLoop_grp {lax : Bool} {rec : List Int → Res Pat} (hr : ∀ s, GrpP 1 (rec s) s) : ∀ (n : Nat) (l : List Pat) (s : List Int), GrpP (groupsL l + 1) (rowLoop lax rec n l s) s
  | 0, _, _ => trivial
  | n + 1, l, s => by
    unfold rowLoop
    split
    · show (Pat.row l).groups + _ ≤ _
      simp [Pat.groups]; try omega
    · have h1 := notP_grp hr s
      cases h : notP rec s with
      | bad s' => trivial
      | ok p s' =>
        rw [h] at h1
        have h1' : p.groups + 3 * s'.length ≤ 0 + 3 * s.length := h1
        refine (rowLoop_grp hr n (l ++ [p]) s').weak ?_
        rw [groupsL_snoc]; omega
theorem joinLoop_grp {part : List Int → Res Pat} {sign : Int} {mk : List Pat → Pat} (hw : ∀ l, (mk l).groups ≤ groupsL l + 1) (hr : ∀ s, GrpP 1 (part s) s) : ∀ (n : Nat) (l : List Pat) (s : List Int), GrpP (groupsL l + 2) (joinLoop part sign mk n l s) s
  | 0, _, _ => trivial
  | n + 1, l, s => by
    unfold joinLoop
    have h1 := hr s
    cases h : part s with
    | bad s' => trivial
    | ok p s' =>
      rw [h] at h1
      have h1' : p.groups + 3 * s'.length ≤ 1 + 3 * s.length := h1
      have e : groupsL (l ++ [p]) = groupsL l + p.groups := by rw [groupsL_snoc]
      simp only [Res.bind]
      split
      · rename_i hh
        have := (head_less hh).1
        refine (joinLoop_grp hw hr n (l ++ [p]) s'.tail).weak ?_
        omega
      · have := hw (l ++ [p])
        show (mk (l ++ [p])).groups + _ ≤ _
        omega
theorem joinLoop_grp0 {part : List Int → Res Pat} {sign : Int} {mk : List Pat → Pat} (hw : ∀ l, (mk l).groups ≤ groupsL l + 1) (hw1 : ∀ p, (mk [p]).groups = p.groups) (hr : ∀ s, GrpP 1 (part s) s) (n : Nat) (s : List Int) : GrpP 1 (joinLoop part sign mk n [] s) s := by
  cases n with
  | zero => trivial
  | succ n =>
    unfold joinLoop
    have h1 := hr s
    cases h : part s with
    | bad s' => trivial
    | ok p s' =>
      rw [h] at h1
      have h1' : p.groups + 3 * s'.length ≤ 1 + 3 * s.length := h1
      simp only [Res.bind, List.nil_append]
      split
      · rename_i hh
        have := (head_less hh).1
        refine (joinLoop_grp hw hr n [p] s'.tail).weak ?_
        simp only [groupsL]; omega
      · show (mk [p]).groups + _ ≤ _
        rw [hw1]; exact h1'
theorem or_grps_le (l : List Pat) : (Pat.or l).groups ≤ groupsL l + 1 := by simp only [Pat.groups]; omega
theorem and_grps_le (l : List Pat) : (Pat.and l).groups ≤ groupsL l + 1 := by simp only [Pat.groups]; omega
theorem orN_grp (lax : Bool) : ∀ (n : Nat) (s : List Int), GrpP 1 (orN lax n s) s
  | 0, _ => trivial
  | n + 1, s => by
    have hrow : ∀ s, GrpP 1 (rowP lax (orN lax n) s) s := fun s => (rowLoop_grp (lax := lax) (orN_grp lax n) (s.length + 1) [] s).weak (by simp [groupsL])
    have hand : ∀ s, GrpP 1 (andP lax (orN lax n) s) s := fun s => joinLoop_grp0 (mk := .and) and_grps_le (fun p => by simp [Pat.groups, groupsL]) hrow _ s
    exact joinLoop_grp0 (mk := .or) or_grps_le (fun p => by simp [Pat.groups, groupsL]) hand _ s
end Brm
end Go.Proofs.YtlflfcjbpnnfcaaGreatDoor
/- The groups in memory; the places from which a part leads to some others: a walk. -/
namespace Go.Proofs.YtlflfcjbpnnfcaaGreatDoor
open Go.Shelf Go.RowKit Go.Lib Brm

theorem KR.wide {R S : Nat → Prop} {w w' : World} (h : KR R w w') (k : ∀ g, R g → S g) : KR S w w' := ⟨h.os, h.tape, h.output, h.size, fun i hi hs => h.block i hi (fun hr => hs (k i hr))⟩
def gInts (a : List Int) : List Value := a.map (fun v => .int .i64 v)
theorem gInts_len (a : List Int) : (gInts a).length = a.length := by simp [gInts]
theorem gInts_set (a : List Int) (n : Nat) (v : Int) : gInts (a.set n v) = (gInts a).set n (.int .i64 v) := by simp [gInts, List.map_set]
theorem gInts_at {a : List Int} {n : Nat} {v : Int} (h : a[n]? = some v) : (gInts a)[n]? = some (.int .i64 v) := by simp [gInts, h]
/-- Where the groups that are noted lie. -/
structure GB (c : Cx) (gb : Nat) (got : List Int) (w : World) : Prop where
  blk : Blk w gb (gInts got) 3
  gv : c.gv = .slice (some ⟨gb, 0, none⟩) got.length got.length
  nr : ¬ c.R gb
  nbt : gb ≠ c.bt
  nkb : gb ≠ c.kb
  nao : ∀ b o, c.ao = some ⟨b, o, none⟩ → c.l ≠ [] → b ≠ gb
  n2 : gb ≠ 2
  len : got.length ≤ 100000
def Cx.S (c : Cx) (gb : Nat) (g : Nat) : Prop := c.R g ∨ g = gb
def Cx.K (c : Cx) (gb : Nat) (g : Nat) : Prop := ¬ c.S gb g
theorem GB.kr {c : Cx} {gb : Nat} {got : List Int} {w w' : World} (h : GB c gb got w) (k : KR c.R w w') : GB c gb got w' := { h with blk := h.blk.kr k h.nr }
theorem GB.below {c : Cx} {gb : Nat} {got : List Int} {w w' : World} (h : GB c gb got w) (k : Below w.heap.size w w') : GB c gb got w' := { h with blk := h.blk.below k }
theorem GB.drew {c : Cx} {gb : Nat} {got : List Int} {w : World} (h : GB c gb got w) : GB c gb got w.drew := h.below (Below.refl _ _).drew
theorem GB.alloc {c : Cx} {gb : Nat} {got : List Int} {w : World} (h : GB c gb got w) (o : Obj) : GB c gb got (w.alloc o) := h.below ((Below.refl _ _).alloc (Nat.le_refl _) _)
theorem GB.set {c : Cx} {gb : Nat} {got : List Int} {w : World} (h : GB c gb got w) (n : Nat) (v : Int) : GB c gb (got.set n v) (w.setCell ⟨gb, n, none⟩ (.int .i64 v)) where
  blk := by rw [gInts_set]; exact h.blk.set n _
  gv := by rw [List.length_set]; exact h.gv
  nr := h.nr
  nbt := h.nbt
  nkb := h.nkb
  nao := h.nao
  n2 := h.n2
  len := by rw [List.length_set]; exact h.len
theorem Cx.new {c : Cx} {gb : Nat} {got : List Int} {w : World} (hI : Inv c w) (hG : GB c gb got w) : ¬ c.S gb w.heap.size := by
  rintro (h | h)
  · exact Nat.lt_irrefl _ (hI.bound _ h)
  · have := hG.blk.lt; omega
/-- All but the table's rows and the groups stands. -/
theorem Inv.setG {c : Cx} {gb : Nat} {got : List Int} {w : World} (h : Inv c w) (hG : GB c gb got w) (n : Nat) (u : Value) : Inv c (w.setCell ⟨gb, n, none⟩ u) := by
  have hkr : KR (fun g => g = gb) w (w.setCell ⟨gb, n, none⟩ u) := KR.set (R := fun g => g = gb) (p := ⟨gb, n, none⟩) (KR.refl _ _) rfl u
  exact {
    len := h.len
    all := h.all
    parts := h.parts
    bound := fun g hg => by simpa [World.setCell] using h.bound g hg
    tab := fun j hj => (hkr.cell (cell_lt (h.tab j hj)) (fun e => hG.n2 e.symm)).trans (h.tab j hj)
    tab2 := h.tab2
    text := h.text.kr hkr (fun e => hG.nbt e.symm)
    bt := h.bt
    runes := fun j x hx => by obtain ⟨b, o, e, hr, hb, hc⟩ := h.runes j x hx; exact ⟨b, o, e, hr, Nat.lt_of_lt_of_le hb hkr.size, (hkr.cell (p := ⟨b, o + j, none⟩) hb (hG.nao b o e (fun h0 => by rw [h0] at hx; cases hx))).trans hc⟩
    kb := h.kb
    inj := h.inj
    row := fun j hj => (hkr.cell (cell_lt (h.row j hj)) (fun e => hG.nkb e.symm)).trans (h.row j hj)
    known := fun j q i hj hi => by
      have hjl := (List.getElem?_eq_some_iff.1 hj).1
      have hne : (⟨gb, n, none⟩ : Addr) ≠ ⟨c.rb j, i, none⟩ := by
        intro e
        simp only [Addr.mk.injEq, and_true] at e
        exact hG.nr ⟨j, hjl, e.1.symm⟩
      refine ⟨?_, ?_⟩
      · rw [World.frozen?_setCell]; exact (h.known j q i hj hi).1
      · rw [World.cell?_setCell_other (h := hne)]; exact (h.known j q i hj hi).2 }
/-- What a call of an 'ends' comes to, while groups are noted. -/
def EndC (c : Cx) (gb : Nat) (p : Pat) (F : Nat) (cp : Array Value) (w : World) : Prop := ∀ w2 k got, KR (c.S gb) w w2 → Inv c w2 → GB c gb got w2 → k ≤ c.l.length →
  Calls Tryz.prog F (#[.pointer (some ⟨c.bt, 0, none⟩), .int .i64 (k : Nat)] ++ cp) w2 fun e w3 => e = .returned (.int .u64 ((mk (mT p c.l k) (c.l.length + 1) : Nat) : Int)) ∧ Inv c w3 ∧ GB c gb got w3 ∧ KR (c.S gb) w2 w3
theorem end_call {c : Cx} {gb : Nat} {p : Pat} {F : Nat} {cp : Array Value} {w : World} (hok : p.Ok) (hE : EV w (c.K gb) c.L p (.func (.func F) #[] cp)) : EndC c gb p F cp w := fun w2 k _ hK hI hG hk =>
  (ends_all c p hok w2 F cp k hI (EV.mono (fun _ _ h hr => h (.inl hr)) p _ (EV.keep (hK.keeps (A := c.K gb) (fun _ h => h)) p _ hE)) hk).mono (fun _ _ h => ⟨h.1, h.2.1, hG.kr h.2.2, h.2.2.wide (fun _ h => .inl h)⟩)
theorem EndC.later {c : Cx} {gb : Nat} {p : Pat} {F : Nat} {cp : Array Value} {w w' : World} (h : EndC c gb p F cp w) (k : KR (c.S gb) w w') : EndC c gb p F cp w' := fun w2 q got hK hI hG hq => h w2 q got (k.trans hK) hI hG hq
open Classical in
noncomputable def leadB (p : Pat) (x : List Int) (i j : Nat) (g : Nat → Bool) (k : Nat) : Bool := decide (i ≤ k ∧ k ≤ j ∧ ∃ q, q ≤ x.length ∧ mT p x k q = true ∧ g q = true)
open Classical in
theorem leadB_iff {p : Pat} {x : List Int} {i j : Nat} {g : Nat → Bool} {k : Nat} : leadB p x i j g k = true ↔ i ≤ k ∧ k ≤ j ∧ ∃ q, q ≤ x.length ∧ mT p x k q = true ∧ g q = true := by unfold leadB; exact decide_eq_true_iff
theorem lead_bit {f g : Nat → Bool} {n : Nat} (hn : n ≤ 42) : (bits BinOp.and .u64 ((mk f n : Nat) : Int) ((mk g n : Nat) : Int) != 0) = true ↔ ∃ q, q < n ∧ f q = true ∧ g q = true := by
  rw [and_num hn, bne_iff_ne]
  constructor
  · intro h
    apply Classical.byContradiction
    intro hno
    apply h
    rw [mk_zero.2 (fun q hq => by
      apply Bool.eq_false_iff.2
      intro e
      simp only [Bool.and_eq_true] at e
      exact hno ⟨q, hq, e.1, e.2⟩)]
    rfl
  · rintro ⟨q, hq, h1, h2⟩ e
    have := mk_zero.1 (show mk (fun j => f j && g j) n = 0 by omega) q hq
    simp [h1, h2] at this
set_option maxRecDepth 100000 in
set_option maxHeartbeats 4000000 in
theorem leading_any (c : Cx) (gb : Nat) (got : List Int) (p : Pat) (F : Nat) (cp : Array Value) (t : Value) (eg : ∀ args w, (callFunc F args).run Tryz.prog w = .ok (.enter F args) w) (i j : Nat) (g : Nat → Bool) (w : World) (hI : Inv c w) (hG : GB c gb got w) (hij : i ≤ j) (hj : j ≤ c.l.length) (hc : EndC c gb p F cp w) :
    Calls Tryz.prog 196 #[.agg #[.func (.func F) #[] cp, t], .pointer (some ⟨c.bt, 0, none⟩), .int .i64 i, .int .i64 j, .int .u64 ((mk g (c.l.length + 1) : Nat) : Int)] w fun e w' => e = .returned (.int .u64 ((mk (leadB p c.l i j g) (c.l.length + 1) : Nat) : Int)) ∧ Inv c w' ∧ GB c gb got w' ∧ KR (c.S gb) w w' := by
  have h40 := hI.len
  have HC := hide hc
  have HK0 := hide ((KR.refl (c.S gb) w).alloc (.cells #[.func (.func F) #[] cp, t] 180))
  have HI0 := hide (hI.alloc (.cells #[.func (.func F) #[] cp, t] 180))
  have HG0 := hide (hG.alloc (.cells #[.func (.func F) #[] cp, t] 180))
  have HB0 := hide (Blk.new w [.func (.func F) #[] cp, t] 180)
  have HNR := hide (Cx.new hI hG)
  have HIJ := hide hij
  have HJ := hide hj
  clear hI hG hc
  generalize hGm : mk g (c.l.length + 1) = Gm
  have HGm := hide hGm
  clear hGm
  go_enter Tryz.func196, Tryz.ntmps196
  go_wp2_with fail
  go_loopw [11, 12] (fun out at_ wr => ∃ k : Nat, i ≤ k ∧ k ≤ j + 1 ∧ at_ = .int .i64 k ∧ out = .int .u64 ((mk (fun q => leadB p c.l i j g q && decide (q < k)) (c.l.length + 1) : Nat) : Int) ∧ Inv c wr ∧ GB c gb got wr ∧ KR (c.S gb) w wr ∧ Blk wr w.heap.size [.func (.func F) #[] cp, t] 180) (fun _ at_ _ => j + 1 - (intOf at_).toNat)
  case atStart =>
    refine ⟨i, Nat.le_refl _, by omega, rfl, ?_, HI0.out, HG0.out, HK0.out, HB0.out⟩
    rw [mk_zero.2 (fun q _ => ?_)]
    · rfl
    · apply Bool.eq_false_iff.2
      intro e
      simp only [Bool.and_eq_true, decide_eq_true_eq] at e
      have := (leadB_iff.1 e.1).1
      omega
  case round =>
    clear HI0 HK0 HB0 HG0
    obtain ⟨k, hk1, hk2, rfl, rfl, hI, hG, hK, hB⟩ := hrel
    have HIr := hide hI
    have HGr := hide hG
    have HKr := hide hK
    have HBr := hide hB
    have x0 : wr.cell? ⟨w.heap.size, 0, none⟩ = some (.func (.func F) #[] cp) := by rw [hB.cell]; rfl
    have hbl := hB.lt
    have k0 : (0 : Int) ≤ (k : Int) := Int.natCast_nonneg _
    by_cases hlt : k ≤ j
    · have HCk := hide (HC.out wr k got hK hI hG (by omega))
      have hb := lead_bit (f := mT p c.l k) (g := g) (n := c.l.length + 1) (by omega)
      rw [HGm.out] at hb
      have HOR := hide (or_num (f := fun q => leadB p c.l i j g q && decide (q < k)) (g := oneB k) (n := c.l.length + 1) (by omega))
      have HPL := hide (fun w' => place_any k (c.l.length + 1) w' (by omega) (by omega))
      have k1 : (k : Int) ≤ (j : Int) := by omega
      have k2 : decide (k ≤ j) = true := decide_eq_true hlt
      by_cases hq : ∃ q, q < c.l.length + 1 ∧ mT p c.l k q = true ∧ g q = true
      · have hb1 := hb.2 hq
        have HEQ : Hid (mk (fun q => (leadB p c.l i j g q && decide (q < k)) || oneB k q) (c.l.length + 1) = mk (fun q => leadB p c.l i j g q && decide (q < k + 1)) (c.l.length + 1)) := mk_ext (fun q hq2 => by
          rw [Bool.eq_iff_iff]
          simp only [Bool.or_eq_true, Bool.and_eq_true, decide_eq_true_eq, oneB]
          constructor
          · rintro (⟨h1, h2⟩ | h)
            · exact ⟨h1, by omega⟩
            · subst h
              obtain ⟨q', a, b, d⟩ := hq
              exact ⟨leadB_iff.2 ⟨hk1, hlt, q', by omega, b, d⟩, by omega⟩
          · rintro ⟨h1, h2⟩
            by_cases e : q = k
            · exact .inr e
            · exact .inl ⟨h1, by omega⟩)
        generalize mk (fun q => leadB p c.l i j g q && decide (q < k)) (c.l.length + 1) = H at HOR ⊢
        generalize mk (mT p c.l k) (c.l.length + 1) = X at hb1 HCk
        generalize mk (oneB k) (c.l.length + 1) = O at HOR HPL
        clear hI hG hK hB hb hq
        go_wp2_with (first
          | (go_at_fn F; refine HCk.out.mono ?_; rintro e w5 ⟨rfl, hI5, hG5, hK5⟩; have HI5 := hide hI5; have HG5 := hide hG5; have HK5 := hide hK5; clear hI5 hG5 hK5)
          | (go_at_call 172; refine (HPL.out _).mono ?_; rintro e w6 ⟨rfl, hw9⟩; have hw8 := hw9.symm; subst hw8; clear hw9))
        go_roundw
        case rel => exact ⟨k + 1, by omega, by omega, by go_num, by rw [HOR.out, HEQ.out], HI5.out, HG5.out, HKr.out.trans HK5.out, HBr.out.kr HK5.out HNR.out⟩
        case measure => simp [intOf]; omega
      · have hb1 : (bits BinOp.and .u64 ((mk (mT p c.l k) (c.l.length + 1) : Nat) : Int) (Gm : Int) != 0) = false := by
          apply Bool.eq_false_iff.2
          intro e
          exact hq (hb.1 e)
        have HEQ : Hid (mk (fun q => leadB p c.l i j g q && decide (q < k)) (c.l.length + 1) = mk (fun q => leadB p c.l i j g q && decide (q < k + 1)) (c.l.length + 1)) := mk_ext (fun q hq2 => by
          rw [Bool.eq_iff_iff]
          simp only [Bool.and_eq_true, decide_eq_true_eq]
          constructor
          · rintro ⟨h1, h2⟩
            exact ⟨h1, by omega⟩
          · rintro ⟨h1, h2⟩
            refine ⟨h1, ?_⟩
            apply Nat.lt_of_le_of_ne (by omega)
            intro e
            subst e
            obtain ⟨_, _, q', a, b, d⟩ := leadB_iff.1 h1
            exact hq ⟨q', by omega, b, d⟩)
        generalize mk (fun q => leadB p c.l i j g q && decide (q < k)) (c.l.length + 1) = H at HEQ HOR ⊢
        generalize mk (mT p c.l k) (c.l.length + 1) = X at hb1 HCk hb
        clear hI hG hK hB hb hq
        go_wp2_with (go_at_fn F; refine HCk.out.mono ?_; rintro e w5 ⟨rfl, hI5, hG5, hK5⟩; have HI5 := hide hI5; have HG5 := hide hG5; have HK5 := hide hK5; clear hI5 hG5 hK5)
        go_roundw
        case rel => exact ⟨k + 1, by omega, by omega, by go_num, by rw [HEQ.out], HI5.out, HG5.out, HKr.out.trans HK5.out, HBr.out.kr HK5.out HNR.out⟩
        case measure => simp [intOf]; omega
    · have HEQ : Hid (mk (fun q => leadB p c.l i j g q && decide (q < k)) (c.l.length + 1) = mk (leadB p c.l i j g) (c.l.length + 1)) := mk_ext (fun q _ => by
        rw [Bool.eq_iff_iff]
        simp only [Bool.and_eq_true, decide_eq_true_eq]
        exact ⟨fun h => h.1, fun h => ⟨h, by have := (leadB_iff.1 h).2.1; omega⟩⟩)
      generalize mk (fun q => leadB p c.l i j g q && decide (q < k)) (c.l.length + 1) = H at HEQ ⊢
      have k1 : ¬ (k : Int) ≤ (j : Int) := by omega
      have k2 : decide (k ≤ j) = false := decide_eq_false hlt
      clear hI hG hK hB
      go_wp2
      go_ret
      exact ⟨by rw [← HEQ.out]; rfl, HIr.out, HGr.out, HKr.out⟩
end Go.Proofs.YtlflfcjbpnnfcaaGreatDoor
/- Taking as much as leads to some places; a group: walks. -/
namespace Go.Proofs.YtlflfcjbpnnfcaaGreatDoor
open Go.Shelf Go.RowKit Go.Lib Brm

theorem len64_any (x : Nat) (w : World) (h : x < 4398046511104) : Calls Tryz.prog 231 #[.int .u64 (x : Int)] w fun e w' => e = .returned (.int .i64 ((Lib.bitLen x : Nat) : Int)) ∧ w' = w := by
  have := Tryz.bits_Len64 (x : Int) w (Int.natCast_nonneg _) (by omega)
  rw [Int.toNat_natCast] at this
  exact this
theorem wrap_small {x : Int} (h0 : -1000000 ≤ x) (h1 : x ≤ 1000000) : IntKind.i64.wrap x = x := by rw [IntKind.wrap_i64]; omega
/-- What a call of a taker comes to. -/
def TakeOk (c : Cx) (p : Pat) : Prop := ∀ (w : World) (gb : Nat) (got : List Int) (G : Nat) (tc : Array Value) (g i j : Nat) (f : Value), Inv c w → GB c gb got w → EV w (c.K gb) c.L p f → TV w (c.K gb) c.L p g (.func (.func G) #[] tc) → mT p c.l i j = true → j ≤ c.l.length → 2 * (g + p.groups) ≤ got.length →
  Calls Tryz.prog G (#[.pointer (some ⟨c.bt, 0, none⟩), .int .i64 i, .int .i64 j] ++ tc) w fun e w' => e = .returned (.tuple #[]) ∧ ∃ got', Tk c.l p g i j got got' ∧ Inv c w' ∧ GB c gb got' w' ∧ KR (c.S gb) w w'
mutual
theorem TV.form {A : Nat → Prop} {w : World} {L : List Pat} : ∀ (p : Pat) (g : Nat) (t : Value), p.Ok → TV w A L p g t → ∃ G tc, t = .func (.func G) #[] tc ∧ ∀ args w, (callFunc G args).run Tryz.prog w = .ok (.enter G args) w
  | .set _, _, t, _, h => ⟨_, _, h, enters_of Tryz.func152 (by kernel_rfl) rfl⟩
  | .row l, _, t, _, h => by obtain ⟨xs, _, bi, lv, rfl, _⟩ := h; exact ⟨_, _, rfl, enters_of Tryz.func195 (by kernel_rfl) rfl⟩
  | .or l, g, t, hk, h => by
    obtain ⟨xs, hl, ⟨h1, f, e⟩ | ⟨_, bi, lv, rfl, _⟩⟩ := h
    · exact TVL.form l g xs hk.1 hl f t e
    · exact ⟨_, _, rfl, enters_of Tryz.func199 (by kernel_rfl) rfl⟩
  | .and l, g, t, hk, h => by
    obtain ⟨xs, hl, ⟨h1, f, e⟩ | ⟨_, rfl⟩⟩ := h
    · exact TVL.form l g xs hk.1 hl f t e
    · exact ⟨_, _, rfl, enters_of Tryz.func152 (by kernel_rfl) rfl⟩
  | .not _, _, t, _, h => ⟨_, _, h, enters_of Tryz.func152 (by kernel_rfl) rfl⟩
  | .many p m n, _, t, _, h => by obtain ⟨b0, b1, b2, f, u, rfl, _⟩ := h; exact ⟨_, _, rfl, enters_of Tryz.func204 (by kernel_rfl) rfl⟩
  | .group p, _, t, _, h => by obtain ⟨b0, b1, f, u, rfl, _⟩ := h; exact ⟨_, _, rfl, enters_of Tryz.func237 (by kernel_rfl) rfl⟩
theorem TVL.form {A : Nat → Prop} {w : World} {L : List Pat} : ∀ (l : List Pat) (g : Nat) (xs : List Value), OkL l → TVL w A L l g xs → ∀ f t, xs = [f, t] → ∃ G tc, t = .func (.func G) #[] tc ∧ ∀ args w, (callFunc G args).run Tryz.prog w = .ok (.enter G args) w
  | [], _, xs, _, h, f, t, e => by rw [show xs = [] from h] at e; cases e
  | p :: l, g, xs, hk, h, f, t, e => by
    obtain ⟨f', t', r, e2, _, _, hT, _⟩ := h
    rw [e] at e2
    cases e2
    exact TV.form p g t hk.1 hT
end
theorem take_later {c : Cx} {p : Pat} (h : TakeOk c p) {w w2 : World} {gb : Nat} {got : List Int} {G : Nat} {tc : Array Value} {g i j : Nat} {f : Value} (hE : EV w (c.K gb) c.L p f) (hT : TV w (c.K gb) c.L p g (.func (.func G) #[] tc)) (hK : KR (c.S gb) w w2) (hI : Inv c w2) (hG : GB c gb got w2) (hm : mT p c.l i j = true) (hj : j ≤ c.l.length) (hn : 2 * (g + p.groups) ≤ got.length) :
    Calls Tryz.prog G (#[.pointer (some ⟨c.bt, 0, none⟩), .int .i64 i, .int .i64 j] ++ tc) w2 fun e w' => e = .returned (.tuple #[]) ∧ ∃ got', Tk c.l p g i j got got' ∧ Inv c w' ∧ GB c gb got' w' ∧ KR (c.S gb) w2 w' :=
  h w2 gb got G tc g i j f hI hG (EV.keep (hK.keeps (A := c.K gb) (fun _ h => h)) p _ hE) (TV.keep (hK.keeps (A := c.K gb) (fun _ h => h)) p g _ hT) hm hj hn
set_option maxRecDepth 100000 in
set_option maxHeartbeats 4000000 in
theorem longest_any (c : Cx) (gb : Nat) (got : List Int) (p : Pat) (F : Nat) (cp : Array Value) (G : Nat) (tc : Array Value) (egF : ∀ args w, (callFunc F args).run Tryz.prog w = .ok (.enter F args) w) (egG : ∀ args w, (callFunc G args).run Tryz.prog w = .ok (.enter G args) w)
    (gn i k : Nat) (g : Nat → Bool) (w : World) (hI : Inv c w) (hG : GB c gb got w) (hc : EndC c gb p F cp w) (hE : EV w (c.K gb) c.L p (.func (.func F) #[] cp)) (hT : TV w (c.K gb) c.L p gn (.func (.func G) #[] tc)) (hok : TakeOk c p) (hk : HiB (fun q => mT p c.l i q && g q) (c.l.length + 1) k) (hi : i ≤ c.l.length) (hn : 2 * (gn + p.groups) ≤ got.length) :
    Calls Tryz.prog 197 #[.agg #[.func (.func F) #[] cp, .func (.func G) #[] tc], .pointer (some ⟨c.bt, 0, none⟩), .int .i64 i, .int .u64 ((mk g (c.l.length + 1) : Nat) : Int)] w fun e w' => e = .returned (.int .i64 k) ∧ ∃ got', Tk c.l p gn i k got got' ∧ Inv c w' ∧ GB c gb got' w' ∧ KR (c.S gb) w w' := by
  have h40 := hI.len
  have HK0 := hide ((KR.refl (c.S gb) w).alloc (.cells #[.func (.func F) #[] cp, .func (.func G) #[] tc] 180))
  have HE := hide (hc _ i got HK0.out (hI.alloc _) (hG.alloc _) hi)
  have HB0 := hide (Blk.new w [.func (.func F) #[] cp, .func (.func G) #[] tc] 180)
  have HNR := hide (Cx.new hI hG)
  have hm : mT p c.l i k = true := by have := hk.2.1; simp only [Bool.and_eq_true] at this; exact this.1
  have HTK := hide (fun (w2 : World) (a : KR (c.S gb) w w2) (b : Inv c w2) (d : GB c gb got w2) => take_later hok hE hT a b d hm (by have := hk.1; omega) hn)
  have HA := hide (and_num (f := mT p c.l i) (g := g) (n := c.l.length + 1) (by omega))
  have HL := hide (fun (w2 : World) => len64_any (mk (fun q => mT p c.l i q && g q) (c.l.length + 1)) w2 (mk_le63 _ (by omega)))
  rw [mk_high (by omega) hk, ← HA.out] at HL
  have hkl := hk.1
  generalize hy : (((k + 1 : Nat) : Int)) = y at HL
  have hy2 : IntKind.i64.wrap (y - 1) = (k : Int) := by rw [← hy, show ((k + 1 : Nat) : Int) - 1 = (k : Int) by omega]; exact wrap_small (by omega) (by omega)
  clear hI hG hc hT hok hk hn hy hm HA hE
  generalize mk g (c.l.length + 1) = Gm at HL ⊢
  generalize mk (mT p c.l i) (c.l.length + 1) = X at HE HL
  go_enter Tryz.func197, Tryz.ntmps197
  go_wp2_with fail
  refine HE.out.mono ?_
  rintro e w1 ⟨rfl, hI1, hG1, hK1⟩
  have HI1 := hide hI1
  have HG1 := hide hG1
  have HK1 := hide (HK0.out.trans hK1)
  have hB1 := HB0.out.kr hK1 HNR.out
  have x1 : w1.cell? ⟨w.heap.size, 1, none⟩ = some (.func (.func G) #[] tc) := by rw [hB1.cell]; rfl
  have hbl := hB1.lt
  clear hI1 hG1 hK1 hB1 HE HB0
  go_wp2_with (go_at_call 231; refine (HL.out _).mono ?_; rintro e w6 ⟨rfl, hw9⟩; have hw8 := hw9.symm; subst hw8; clear hw9)
  refine (HTK.out _ HK1.out HI1.out HG1.out).mono ?_
  rintro e w2 ⟨rfl, got2, h2, hI2, hG2, hK2⟩
  have H2 := hide h2
  have HI2 := hide hI2
  have HG2 := hide hG2
  have HK2 := hide (HK1.out.trans hK2)
  clear h2 hI2 hG2 hK2 HTK
  go_wp2_with fail
  go_ret
  exact ⟨rfl, got2, H2.out, HI2.out, HG2.out, HK2.out⟩
set_option maxRecDepth 100000 in
set_option maxHeartbeats 4000000 in
theorem take_group (c : Cx) (p : Pat) (hp : p.Ok) (ih : TakeOk c p) : TakeOk c (.group p) := by
  intro w gb got G tc g i j f0 hI hG hE0 hT hm hj hn
  obtain ⟨b0, b1, f, u, e, hK0, hK1, hB0, hB1, hu, hE, hT⟩ := hT
  cases e
  obtain ⟨G, tc, rfl, eg⟩ := TV.form p (g + 1) u hp hT
  have hgr : (Pat.group p).groups = p.groups + 1 := rfl
  have HC := hide (ih w gb got G tc (g + 1) i j f hI hG hE hT (by rw [mT_group]; exact hm) hj (by omega))
  have x0 : w.cell? ⟨b0, 1, none⟩ = some (.func (.func G) #[] tc) := by rw [hB0.cell]; rfl
  have hl0 := hB0.lt
  have HB1 := hide hB1
  have HN : Hid (b1 ≠ gb) := fun e => hK1 (.inr e)
  have HN1 := hide hK1
  have hgl := hG.len
  have HLEN := hide (show 2 * g + 2 ≤ got.length by omega)
  have HGV := hide hG.gv
  clear hI hG hT hm hn hE hE0 hu hgr hB0 hB1 ih hp hK0
  show Calls Tryz.prog 237 #[.pointer (some ⟨c.bt, 0, none⟩), .int .i64 i, .int .i64 j, .pointer (some ⟨b0, 0, none⟩), .pointer (some ⟨b1, 0, none⟩)] w _
  go_enter Tryz.func237, Tryz.ntmps237
  go_wp2_with fail
  refine HC.out.mono ?_
  rintro e w2 ⟨rfl, got2, h2, hI2, hG2, hK2⟩
  have hl2 : got2.length = got.length := by have := hG2.gv; rw [HGV.out] at this; simp at this; exact this.symm
  have q0 : (2 * (g : Int)) < (got2.length : Int) := by have := HLEN.out; omega
  have q1 : (2 * (g : Int) + 1) < (got2.length : Int) := by have := HLEN.out; omega
  have q2 : (0 : Int) ≤ 2 * (g : Int) := by omega
  have q3 : (0 : Int) ≤ 2 * (g : Int) + 1 := by omega
  have q4 : IntKind.i64.wrap (2 * (g : Int)) = 2 * (g : Int) := wrap_small (by omega) (by have := HLEN.out; omega)
  have q5 : IntKind.i64.wrap (2 * (g : Int) + 1) = 2 * (g : Int) + 1 := wrap_small (by omega) (by have := HLEN.out; omega)
  have q6 : (2 * (g : Int)).toNat = 2 * g := by omega
  have q7 : (2 * (g : Int) + 1).toNat = 2 * g + 1 := by omega
  have HBT := hide hI2.text
  have HS : ∀ w' : World, KR (fun k => k = gb) w2 w' → w'.cell? ⟨c.bt, 2, none⟩ = some (.slice (some ⟨gb, 0, none⟩) got2.length got2.length) ∧ w'.cell? ⟨b1, 0, none⟩ = some (.int .i64 (g : Int)) := fun w' k => by
    constructor
    · rw [(hI2.text.kr k (fun e => hG2.nbt e.symm)).cell, ← hG2.gv]; rfl
    · rw [((HB1.out.kr hK2 HN1.out).kr k HN.out).cell]; rfl
  have HS := hide HS
  have HI2 := hide hI2
  have HG2 := hide hG2
  have HK2 := hide hK2
  have H2 := hide h2
  have fz := fun n => hG2.blk.frozen n
  have hgbl := hG2.blk.lt
  have hbtl := hI2.text.lt
  have ce : ∀ n : Nat, n < got2.length → ∃ v, w2.cell? ⟨gb, n, none⟩ = some v := fun n hn => ⟨(gInts got2)[n]'(by rw [gInts_len]; exact hn), by rw [hG2.blk.cell]; exact List.getElem?_eq_getElem _⟩
  obtain ⟨v0, ce0⟩ := ce (2 * g) (by omega)
  obtain ⟨v1, ce1⟩ := ce (2 * g + 1) (by omega)
  have f0 := fz (2 * g)
  have f1 := fz (2 * g + 1)
  have HEND := hide (GB.set (hG2.set (2 * g) (i : Int)) (2 * g + 1) (j : Int))
  have HENDI := hide (Inv.setG (hI2.setG hG2 (2 * g) (.int .i64 (i : Int))) (hG2.set (2 * g) (i : Int)) (2 * g + 1) (.int .i64 (j : Int)))
  have HENDK : Hid (KR (c.S gb) w2 ((w2.setCell ⟨gb, 2 * g, none⟩ (.int .i64 (i : Int))).setCell ⟨gb, 2 * g + 1, none⟩ (.int .i64 (j : Int)))) := ((KR.refl _ _).set (p := ⟨gb, 2 * g, none⟩) (.inr rfl) _).set (p := ⟨gb, 2 * g + 1, none⟩) (.inr rfl) _
  clear h2 hI2 hG2 hK2 HC fz ce hl2
  go_wp2_with fail
  refine wp_region_held_drew (S := fun w' : World => w'.cell? ⟨c.bt, 2, none⟩ = some (.slice (some ⟨gb, 0, none⟩) got2.length got2.length) ∧ w'.cell? ⟨b1, 0, none⟩ = some (.int .i64 (g : Int))) (by kernel_rfl) (HS.out _ ((KR.refl _ _).drew)) (fun hHeld => ?_)
  refine wpAnyH_take (i := 0) (oi := _) (v := .pointer (some ⟨c.bt, 0, none⟩)) rfl (by kernel_rfl) (by kernel_rfl) (by kernel_rfl) (fun _ _ _ h => h) (Or.inl ⟨by rfl, by intro w hSw; have hS0 := hSw.1; have hS1 := hSw.2; clear hSw; go_simp⟩) (by assumption) ?_
  try simp only [Act.put, List.setIfInBounds_toArray, List.set_cons_zero, List.set_cons_succ, List.getElem_toArray, List.getElem_cons_zero]
  refine wpAnyH_take (i := 1) (oi := _) (v := .pointer (some ⟨c.bt, 0, none⟩)) rfl (by kernel_rfl) (by kernel_rfl) (by kernel_rfl) (fun _ _ _ h => h) (Or.inl ⟨by rfl, by intro w hSw; have hS0 := hSw.1; have hS1 := hSw.2; clear hSw; go_simp⟩) (by assumption) ?_
  try simp only [Act.put, List.setIfInBounds_toArray, List.set_cons_zero, List.set_cons_succ, List.getElem_toArray, List.getElem_cons_zero, List.getElem_cons_succ]
  refine wpAnyH_take (i := 2) (oi := _) (v := .pointer (some ⟨c.bt, 2, none⟩)) rfl (by kernel_rfl) (by kernel_rfl) (by kernel_rfl) (fun _ _ _ h => h) (Or.inl ⟨by rfl, by intro w hSw; have hS0 := hSw.1; have hS1 := hSw.2; clear hSw; go_simp⟩) (by assumption) ?_
  try simp only [Act.put, List.setIfInBounds_toArray, List.set_cons_zero, List.set_cons_succ, List.getElem_toArray, List.getElem_cons_zero, List.getElem_cons_succ]
  refine wpAnyH_take (i := 3) (oi := _) (v := .slice (some ⟨gb, 0, none⟩) got2.length got2.length) rfl (by kernel_rfl) (by kernel_rfl) (by kernel_rfl) (fun _ _ _ h => h) (Or.inl ⟨by rfl, by intro w hSw; have hS0 := hSw.1; have hS1 := hSw.2; clear hSw; go_simp⟩) (by assumption) ?_
  try simp only [Act.put, List.setIfInBounds_toArray, List.set_cons_zero, List.set_cons_succ, List.getElem_toArray, List.getElem_cons_zero, List.getElem_cons_succ]
  refine wpAnyH_take (i := 4) (oi := _) (v := .int .i64 (g : Int)) rfl (by kernel_rfl) (by kernel_rfl) (by kernel_rfl) (fun _ _ _ h => h) (Or.inl ⟨by rfl, by intro w hSw; have hS0 := hSw.1; have hS1 := hSw.2; clear hSw; go_simp⟩) (by assumption) ?_
  try simp only [Act.put, List.setIfInBounds_toArray, List.set_cons_zero, List.set_cons_succ, List.getElem_toArray, List.getElem_cons_zero, List.getElem_cons_succ]
  refine wpAnyH_take (i := 5) (oi := _) (v := .int .i64 (2 * (g : Int))) rfl (by kernel_rfl) (by kernel_rfl) (by kernel_rfl) (fun _ _ _ h => h) (Or.inl ⟨by rfl, by intro w hSw; have hS0 := hSw.1; have hS1 := hSw.2; clear hSw; go_simp⟩) (by assumption) ?_
  try simp only [Act.put, List.setIfInBounds_toArray, List.set_cons_zero, List.set_cons_succ, List.getElem_toArray, List.getElem_cons_zero, List.getElem_cons_succ]
  refine wpAnyH_take (i := 6) (oi := _) (v := .pointer (some ⟨c.bt, 0, none⟩)) rfl (by kernel_rfl) (by kernel_rfl) (by kernel_rfl) (fun _ _ _ h => h) (Or.inl ⟨by rfl, by intro w hSw; have hS0 := hSw.1; have hS1 := hSw.2; clear hSw; go_simp⟩) (by assumption) ?_
  try simp only [Act.put, List.setIfInBounds_toArray, List.set_cons_zero, List.set_cons_succ, List.getElem_toArray, List.getElem_cons_zero, List.getElem_cons_succ]
  refine wpAnyH_take (i := 7) (oi := _) (v := .pointer (some ⟨c.bt, 0, none⟩)) rfl (by kernel_rfl) (by kernel_rfl) (by kernel_rfl) (fun _ _ _ h => h) (Or.inl ⟨by rfl, by intro w hSw; have hS0 := hSw.1; have hS1 := hSw.2; clear hSw; go_simp⟩) (by assumption) ?_
  try simp only [Act.put, List.setIfInBounds_toArray, List.set_cons_zero, List.set_cons_succ, List.getElem_toArray, List.getElem_cons_zero, List.getElem_cons_succ]
  refine wpAnyH_take (i := 8) (oi := _) (v := .pointer (some ⟨c.bt, 2, none⟩)) rfl (by kernel_rfl) (by kernel_rfl) (by kernel_rfl) (fun _ _ _ h => h) (Or.inl ⟨by rfl, by intro w hSw; have hS0 := hSw.1; have hS1 := hSw.2; clear hSw; go_simp⟩) (by assumption) ?_
  try simp only [Act.put, List.setIfInBounds_toArray, List.set_cons_zero, List.set_cons_succ, List.getElem_toArray, List.getElem_cons_zero, List.getElem_cons_succ]
  refine wpAnyH_take (i := 9) (oi := _) (v := .slice (some ⟨gb, 0, none⟩) got2.length got2.length) rfl (by kernel_rfl) (by kernel_rfl) (by kernel_rfl) (fun _ _ _ h => h) (Or.inl ⟨by rfl, by intro w hSw; have hS0 := hSw.1; have hS1 := hSw.2; clear hSw; go_simp⟩) (by assumption) ?_
  try simp only [Act.put, List.setIfInBounds_toArray, List.set_cons_zero, List.set_cons_succ, List.getElem_toArray, List.getElem_cons_zero, List.getElem_cons_succ]
  refine wpAnyH_take (i := 10) (oi := _) (v := .int .i64 (g : Int)) rfl (by kernel_rfl) (by kernel_rfl) (by kernel_rfl) (fun _ _ _ h => h) (Or.inl ⟨by rfl, by intro w hSw; have hS0 := hSw.1; have hS1 := hSw.2; clear hSw; go_simp⟩) (by assumption) ?_
  try simp only [Act.put, List.setIfInBounds_toArray, List.set_cons_zero, List.set_cons_succ, List.getElem_toArray, List.getElem_cons_zero, List.getElem_cons_succ]
  refine wpAnyH_take (i := 11) (oi := _) (v := .int .i64 (2 * (g : Int))) rfl (by kernel_rfl) (by kernel_rfl) (by kernel_rfl) (fun _ _ _ h => h) (Or.inl ⟨by rfl, by intro w hSw; have hS0 := hSw.1; have hS1 := hSw.2; clear hSw; go_simp⟩) (by assumption) ?_
  try simp only [Act.put, List.setIfInBounds_toArray, List.set_cons_zero, List.set_cons_succ, List.getElem_toArray, List.getElem_cons_zero, List.getElem_cons_succ]
  refine wpAnyH_take (i := 12) (oi := _) (v := .int .i64 (2 * (g : Int) + 1)) rfl (by kernel_rfl) (by kernel_rfl) (by kernel_rfl) (fun _ _ _ h => h) (Or.inl ⟨by rfl, by intro w hSw; have hS0 := hSw.1; have hS1 := hSw.2; clear hSw; go_simp⟩) (by assumption) ?_
  try simp only [Act.put, List.setIfInBounds_toArray, List.set_cons_zero, List.set_cons_succ, List.getElem_toArray, List.getElem_cons_zero, List.getElem_cons_succ]
  refine wpAnyH_take (i := 13) (oi := _) (v := .int .i64 (i : Int)) rfl (by kernel_rfl) (by kernel_rfl) (by kernel_rfl) (fun _ _ _ h => h) (Or.inl ⟨by rfl, by intro w hSw; have hS0 := hSw.1; have hS1 := hSw.2; clear hSw; go_simp⟩) (by assumption) ?_
  try simp only [Act.put, List.setIfInBounds_toArray, List.set_cons_zero, List.set_cons_succ, List.getElem_toArray, List.getElem_cons_zero, List.getElem_cons_succ]
  refine wpAnyH_take (i := 14) (oi := _) (v := .int .i64 (j : Int)) rfl (by kernel_rfl) (by kernel_rfl) (by kernel_rfl) (fun _ _ _ h => h) (Or.inl ⟨by rfl, by intro w hSw; have hS0 := hSw.1; have hS1 := hSw.2; clear hSw; go_simp⟩) (by assumption) ?_
  try simp only [Act.put, List.setIfInBounds_toArray, List.set_cons_zero, List.set_cons_succ, List.getElem_toArray, List.getElem_cons_zero, List.getElem_cons_succ]
  refine wpAnyH_take (i := 15) (oi := _) (v := .pointer (some ⟨gb, 2 * g, none⟩)) rfl (by kernel_rfl) (by kernel_rfl) (by kernel_rfl) (fun _ _ _ h => h) (Or.inl ⟨by rfl, by intro w hSw; have hS0 := hSw.1; have hS1 := hSw.2; clear hSw; go_simp⟩) (by assumption) ?_
  try simp only [Act.put, List.setIfInBounds_toArray, List.set_cons_zero, List.set_cons_succ, List.getElem_toArray, List.getElem_cons_zero, List.getElem_cons_succ]
  refine wpAnyH_ready (rs := [16]) (by kernel_rfl) (by simp) ?_
  refine AllReadyH.cons (o := _) rfl (fun Kc hK => ?_) AllReadyH.nil
  go_simp
  refine hK.out _ _ (HS.out _ (KR.set (R := fun k => k = gb) (p := ⟨gb, 2 * g, none⟩) (KR.refl _ _) rfl _).drew) (fun hHeld => ?_)
  clear hK Kc
  try simp only [Act.put, List.setIfInBounds_toArray, List.set_cons_zero, List.set_cons_succ]
  refine wpAnyH_take (i := 17) (oi := _) (v := .pointer (some ⟨gb, 2 * g + 1, none⟩)) rfl (by kernel_rfl) (by kernel_rfl) (by kernel_rfl) (fun _ _ _ h => h) (Or.inl ⟨by rfl, by intro w hSw; have hS0 := hSw.1; have hS1 := hSw.2; clear hSw; go_simp⟩) (by assumption) ?_
  try simp only [Act.put, List.setIfInBounds_toArray, List.set_cons_zero, List.set_cons_succ, List.getElem_toArray, List.getElem_cons_zero, List.getElem_cons_succ]
  refine wpAnyH_ready (rs := [18]) (by kernel_rfl) (by simp) ?_
  refine AllReadyH.cons (o := _) rfl (fun Kc hK => ?_) AllReadyH.nil
  go_simp
  refine hK.out _ _ (HS.out _ (KR.set (R := fun k => k = gb) (p := ⟨gb, 2 * g + 1, none⟩) (KR.set (R := fun k => k = gb) (p := ⟨gb, 2 * g, none⟩) (KR.refl _ _) rfl _) rfl _).drew) (fun hHeld => ?_)
  clear hK Kc
  try simp only [Act.put, List.setIfInBounds_toArray, List.set_cons_zero, List.set_cons_succ]
  refine wpAnyH_done (by kernel_rfl) ?_ _
  go_wp2_with fail
  go_end0
  exact ⟨rfl, _, ⟨got2, H2.out, rfl⟩, HENDI.out.below (Below.refl _ _).drew, HEND.out.drew, HK2.out.trans HENDK.out.drew⟩
end Go.Proofs.YtlflfcjbpnnfcaaGreatDoor
/- Taking nothing; an or: walks. -/
namespace Go.Proofs.YtlflfcjbpnnfcaaGreatDoor
open Go.Shelf Go.RowKit Go.Lib Brm

set_option maxRecDepth 100000 in
theorem nothing_any (a b d : Value) (w : World) : Calls Tryz.prog 152 #[a, b, d] w fun e w' => e = .returned (.tuple #[]) ∧ w' = w := by
  go_enter Tryz.func152, Tryz.ntmps152
  go_wp2
  go_end0
  exact ⟨rfl, rfl⟩
theorem take_none {c : Cx} {p : Pat} {w : World} {gb : Nat} {got : List Int} {g i j : Nat} (hI : Inv c w) (hG : GB c gb got w) (h : Tk c.l p g i j got got) :
    Calls Tryz.prog 152 (#[.pointer (some ⟨c.bt, 0, none⟩), .int .i64 i, .int .i64 j] ++ #[]) w fun e w' => e = .returned (.tuple #[]) ∧ ∃ got', Tk c.l p g i j got got' ∧ Inv c w' ∧ GB c gb got' w' ∧ KR (c.S gb) w w' :=
  (nothing_any _ _ _ w).mono (fun e w' h2 => by obtain ⟨rfl, rfl⟩ := h2; exact ⟨rfl, got, h, hI, hG, KR.refl _ _⟩)
theorem take_set (c : Cx) (s : List (Int × Int)) : TakeOk c (.set s) := by
  intro w gb got G tc g i j f0 hI hG hE0 hT hm hj hn
  cases (show Value.func (.func G) #[] tc = .func (.func 152) #[] #[] from hT)
  exact take_none hI hG rfl
theorem take_not (c : Cx) (p : Pat) : TakeOk c (.not p) := by
  intro w gb got G tc g i j f0 hI hG hE0 hT hm hj hn
  cases (show Value.func (.func G) #[] tc = .func (.func 152) #[] #[] from hT)
  exact take_none hI hG rfl
theorem take_and (c : Cx) (ps : List Pat) (ih : ∀ p ∈ ps, TakeOk c p) : TakeOk c (.and ps) := by
  intro w gb got G tc g i j f0 hI hG hE0 hT hm hj hn
  obtain ⟨xs, hl, ⟨h1, f, rfl⟩ | ⟨h1, e⟩⟩ := hT
  · match ps, h1 with
    | [p], _ =>
      obtain ⟨f', t', r, e, _, hE, hT, hr⟩ := hl
      cases e
      have hgr : (Pat.and [p]).groups = p.groups := rfl
      exact (ih p (by simp) w gb got G tc g i j _ hI hG hE hT (by rw [and_one]; exact hm) hj (by rw [← hgr]; exact hn)).mono (fun e w' ⟨h1, got', h2, h3⟩ => ⟨h1, got', .inl ⟨rfl, h2⟩, h3⟩)
  · cases e
    refine take_none hI hG ?_
    match ps, h1 with
    | [], _ => exact rfl
    | p :: q :: l, _ => exact .inr ⟨by simp, rfl⟩
theorem groupsL_at : ∀ (ps : List Pat) (k : Nat) (hk : k < ps.length), groupsL (ps.take k) + (ps[k]'hk).groups ≤ groupsL ps
  | p :: ps, 0, _ => by simp [groupsL]
  | p :: ps, k + 1, hk => by
    have := groupsL_at ps k (by simpa using hk)
    simp only [List.take_succ_cons, groupsL, List.getElem_cons_succ]
    omega
theorem TVL.at {w : World} {A : Nat → Prop} {L : List Pat} : ∀ (l : List Pat) (g : Nat) (xs : List Value), TVL w A L l g xs → ∀ (i : Nat) (hi : i < l.length), ∃ f t, EV w A L (l[i]'hi) f ∧ TV w A L (l[i]'hi) (g + groupsL (l.take i)) t ∧ [f, t] = (xs.drop (i * 2)).take 2
  | q :: l, g, xs, h, 0, _ => by
    obtain ⟨f, t, r, rfl, ht, hq, hT, hl⟩ := h
    exact ⟨f, t, hq, by simpa [groupsL] using hT, by simp⟩
  | q :: l, g, xs, h, i + 1, hi => by
    obtain ⟨f, t, r, rfl, ht, hq, hT, hl⟩ := h
    obtain ⟨f', t', hp, hT', e⟩ := TVL.at l _ r hl i (by simpa using hi)
    refine ⟨f', t', by simpa using hp, ?_, ?_⟩
    · simp only [List.getElem_cons_succ, List.take_succ_cons, groupsL]
      rw [← Nat.add_assoc]
      exact hT'
    · rw [e, show (i + 1) * 2 = (i * 2) + 1 + 1 from by omega]
      simp
/-- A part, its two closures. -/
theorem own_part {c : Cx} {gb : Nat} {ps : List Pat} {g : Nat} {xs : List Value} {lv : Value} {w : World} (ho : Own w (c.K gb) 180 2 lv ps.length xs) (hl : TVL w (c.K gb) c.L ps g xs) (hok : OkL ps) (k : Nat) (hk : k < ps.length) (w' : World) (hw' : KR (c.S gb) w w') :
    ∃ F cp G tc b cap, lv = .slice (some ⟨b, 0, none⟩) ps.length cap ∧ b < w'.heap.size ∧ b < w.heap.size ∧ w'.cell? ⟨b, k * 2, none⟩ = some (.func (.func F) #[] cp) ∧ w'.cell? ⟨b, k * 2 + 1, none⟩ = some (.func (.func G) #[] tc) ∧ (∀ args w, (callFunc F args).run Tryz.prog w = .ok (.enter F args) w) ∧ (∀ args w, (callFunc G args).run Tryz.prog w = .ok (.enter G args) w) ∧
      EndC c gb ps[k] F cp w' ∧ EV w' (c.K gb) c.L ps[k] (.func (.func F) #[] cp) ∧ TV w' (c.K gb) c.L ps[k] (g + groupsL (ps.take k)) (.func (.func G) #[] tc) := by
  have hp : ps[k].Ok := (okL_iff ps).1 hok _ (List.getElem_mem hk)
  obtain ⟨f, t, hE, hT, hx⟩ := TVL.at ps g xs hl k hk
  obtain ⟨F, cp, rfl, eg⟩ := EV.form ps[k] f hp hE
  obtain ⟨G, tc, rfl, eg2⟩ := TV.form ps[k] _ t hp hT
  have hkp := hw'.keeps (A := c.K gb) (fun _ h => h)
  obtain ⟨b0, cap0, rfl, hb0, _⟩ := own_two ho hk hx
  obtain ⟨b, cap, e0, hb, _, c0, c1⟩ := own_two (ho.keep hkp) hk hx
  cases e0
  exact ⟨F, cp, G, tc, b0, cap0, rfl, hb, hb0, c0, c1, eg, eg2, (end_call hp hE).later hw', EV.keep hkp _ _ hE, TV.keep hkp _ _ _ hT⟩
theorem tkO_from {x : List Int} {i j : Nat} {a b : List Int} : ∀ (ps : List Pat) (g k : Nat) (hk : k < ps.length), (∀ q (hq : q < k), mT (ps[q]'(by omega)) x i j = false) → mT ps[k] x i j = true → Tk x ps[k] (g + groupsL (ps.take k)) i j a b → TkO x ps g i j a b
  | p :: ps, g, 0, _, _, hm, hT => .inl ⟨hm, by simpa [groupsL] using hT⟩
  | p :: ps, g, k + 1, hk, hf, hm, hT => by
    refine .inr ⟨hf 0 (by omega), tkO_from ps (g + p.groups) k (by simpa using hk) (fun q hq => hf (q + 1) (by omega)) hm ?_⟩
    simp only [List.getElem_cons_succ, List.take_succ_cons, groupsL] at hT
    rw [← Nat.add_assoc] at hT
    exact hT
theorem or_some {ps : List Pat} {x : List Int} {i j : Nat} (h : mT (.or ps) x i j = true) : ∃ k, ∃ hk : k < ps.length, mT ps[k] x i j = true := by
  obtain ⟨h1, h2⟩ := mT_iff.1 h
  obtain ⟨q, hq, hm⟩ := (mtOr_iff).1 h2
  obtain ⟨k, hk, rfl⟩ := List.getElem_of_mem hq
  exact ⟨k, hk, mT_iff.2 ⟨h1, hm⟩⟩
set_option maxRecDepth 100000 in
set_option maxHeartbeats 4000000 in
theorem take_orN (c : Cx) (ps : List Pat) (hok : OkL ps) (ih : ∀ p ∈ ps, TakeOk c p) (w : World) (gb : Nat) (got : List Int) (g i j : Nat) (hI : Inv c w) (hG : GB c gb got w) (bi : Nat) (lv : Value) (xs : List Value) (hbi : Blk w bi [lv] 242) (ho : Own w (c.K gb) 180 2 lv ps.length xs) (hl : TVL w (c.K gb) c.L ps g xs) (h100 : ps.length ≤ 100) (hm : mT (.or ps) c.l i j = true) (hj : j ≤ c.l.length) (hn : 2 * (g + groupsL ps) ≤ got.length) :
    Calls Tryz.prog 199 #[.pointer (some ⟨c.bt, 0, none⟩), .int .i64 i, .int .i64 j, .pointer (some ⟨bi, 0, none⟩)] w fun e w' => e = .returned (.tuple #[]) ∧ ∃ got', TkO c.l ps g i j got got' ∧ Inv c w' ∧ GB c gb got' w' ∧ KR (c.S gb) w w' := by
  have HCALL := hide (own_part ho hl hok)
  obtain ⟨lo, lc, rfl⟩ := ownP_form ho.1
  have y0 := one hbi
  have h40 := hI.len
  have HI := hide hI
  have HG := hide hG
  have HIJ := hide (mT_iff.1 hm).1
  have HSOME := hide (or_some hm)
  have HJ := hide hj
  have HN := hide hn
  have HIH := hide ih
  clear hI hG hbi ho hl ih hok hm hn
  go_enter Tryz.func199, Tryz.ntmps199
  go_wp2_with fail
  go_loopw [11] (fun ix wr => ∃ k : Nat, k ≤ ps.length ∧ ix = .int .i64 k ∧ (∀ q, q < k → ∀ hq : q < ps.length, mT ps[q] c.l i j = false) ∧ Inv c wr ∧ GB c gb got wr ∧ KR (c.S gb) w wr) (fun ix _ => ps.length - (intOf ix).toNat)
  case atStart => exact ⟨0, Nat.zero_le _, rfl, fun q h => by omega, HI.out, HG.out, KR.refl _ _⟩
  case round =>
    obtain ⟨k, hk, rfl, hno, hI, hG, hK⟩ := hrel
    have HNO := hide hno
    have HIr := hide hI
    have HGr := hide hG
    have HKr := hide hK
    have k0 : (0 : Int) ≤ (k : Int) := Int.natCast_nonneg _
    have hlt : k < ps.length := by
      obtain ⟨q, hq, hm⟩ := HSOME.out
      apply Nat.lt_of_not_le
      intro hle
      have := hno q (by omega) hq
      rw [hm] at this; cases this
    obtain ⟨F, cp, G, tc, b, cap, hlv, hbl, _, c0, c1, eg, eg2, hEC, hEV, hTV⟩ := HCALL.out k hlt wr hK
    cases hlv
    have k1 : (k : Int) < (ps.length : Int) := by omega
    have HBE : Hid (b ≠ wr.heap.size) := by show _ ≠ _; omega
    have HKA := hide ((KR.refl (c.S gb) wr).alloc (.cells #[.func (.func F) #[] cp, .func (.func G) #[] tc] 180))
    have HBN := hide (Blk.new wr [.func (.func F) #[] cp, .func (.func G) #[] tc] 180)
    have HNR := hide (Cx.new hI hG)
    have HE := hide (hEC _ i got HKA.out (hI.alloc _) (hG.alloc _) (by have := HIJ.out; omega))
    have HHAS := hide (fun (w2 : World) => has_any2 (mT ps[k] c.l i) j (c.l.length + 1) w2 (by omega) (by omega))
    have HTAKE := hide (fun (w2 : World) (hm : mT ps[k] c.l i j = true) (a : KR (c.S gb) wr w2) (bI : Inv c w2) (d : GB c gb got w2) => take_later (HIH.out ps[k] (List.getElem_mem hlt)) hEV hTV a bI d hm HJ.out (by have := groupsL_at ps k hlt; have := HN.out; omega))
    have HFROM := hide (fun (b : List Int) (hm : mT ps[k] c.l i j = true) => tkO_from (a := got) (b := b) ps g k hlt (fun q hq => hno q hq (by omega)) hm)
    generalize mk (mT ps[k] c.l i) (c.l.length + 1) = X at HE HHAS
    rcases hm : mT ps[k] c.l i j with _ | _
    · rw [hm] at HHAS
      have HM := hide hm
      clear hno hI hG hK hEC hEV hTV HTAKE HFROM hm
      go_wp2_with (first
        | (go_at_fn F; refine HE.out.mono ?_; rintro e w5 ⟨rfl, hI5, hG5, hK5⟩; have HI5 := hide hI5; have HG5 := hide hG5; have HK5 := hide hK5; clear hI5 hG5 hK5)
        | (go_at_call 122; refine (HHAS.out _).mono ?_; rintro e w6 ⟨rfl, hw9⟩; have hw8 := hw9.symm; subst hw8; clear hw9))
      go_roundw
      case rel =>
        refine ⟨k + 1, by omega, by go_num, fun q hq hq2 => ?_, HI5.out, HG5.out, HKr.out.trans (HKA.out.trans HK5.out)⟩
        by_cases e : q = k
        · subst e; exact HM.out
        · exact HNO.out q (by omega) hq2
      case measure => simp [intOf]; omega
    · rw [hm] at HHAS
      have HM := hide hm
      clear hno hI hG hK hEC hEV hTV hm
      go_wp2_with (first
        | (go_at_fn F; refine HE.out.mono ?_; rintro e w5 ⟨rfl, hI5, hG5, hK5⟩; have x1 : w5.cell? ⟨wr.heap.size, 1, none⟩ = some (.func (.func G) #[] tc) := by { rw [(HBN.out.kr hK5 HNR.out).cell]; rfl }; have hbl5 := (HBN.out.kr hK5 HNR.out).lt; have HI5 := hide hI5; have HG5 := hide hG5; have HK5 := hide hK5; clear hI5 hG5 hK5)
        | (go_at_call 122; refine (HHAS.out _).mono ?_; rintro e w6 ⟨rfl, hw9⟩; have hw8 := hw9.symm; subst hw8; clear hw9)
        | (go_at_fn G; refine (HTAKE.out _ HM.out (HKA.out.trans HK5.out) HI5.out HG5.out).mono ?_; rintro e w7 ⟨rfl, got7, h7, hI7, hG7, hK7⟩; have HI7 := hide hI7; have HG7 := hide hG7; have HK7 := hide hK7; have H7 := hide h7; clear hI7 hG7 hK7 h7))
      refine bodyPost_ret (results_none rfl _ _ _) rfl ?_
      exact ⟨rfl, got7, HFROM.out got7 HM.out H7.out, HI7.out, HG7.out, HKr.out.trans (HKA.out.trans (HK5.out.trans HK7.out))⟩
theorem take_or (c : Cx) (ps : List Pat) (hok : OkL ps) (ih : ∀ p ∈ ps, TakeOk c p) : TakeOk c (.or ps) := by
  intro w gb got G tc g i j f0 hI hG hE0 hT hm hj hn
  obtain ⟨xs, hl, ⟨h1, f, rfl⟩ | ⟨h1, bi, lv, e, _, hbi, ho⟩⟩ := hT
  · match ps, h1 with
    | [p], _ =>
      obtain ⟨f', t', r, e, _, hE, hT, hr⟩ := hl
      cases e
      have hgr : (Pat.or [p]).groups = p.groups := rfl
      have hm1 : mT p c.l i j = true := by rw [or_one]; exact hm
      exact (ih p (by simp) w gb got G tc g i j _ hI hG hE hT hm1 hj (by rw [← hgr]; exact hn)).mono (fun e w' ⟨h1, got', h2, h3⟩ => ⟨h1, got', .inl ⟨hm1, h2⟩, h3⟩)
  · cases e
    exact take_orN c ps hok ih w gb got g i j hI hG bi lv xs hbi ho hl hE0.1 hm hj hn
end Go.Proofs.YtlflfcjbpnnfcaaGreatDoor
/- A row takes: a walk. -/
namespace Go.Proofs.YtlflfcjbpnnfcaaGreatDoor
open Go.Shelf Go.RowKit Go.Lib Brm

/-- What is newer than a text may turn. -/
theorem Inv.newer {c : Cx} {w0 w w' : World} {T : Nat → Prop} (h0 : Inv c w0) (h : Inv c w) (k : KR T w w') (hT : ∀ g, T g → w0.heap.size ≤ g) (hs : w0.heap.size ≤ w.heap.size) : Inv c w' := by
  have hn : ∀ g, g < w0.heap.size → ¬ T g := fun g hg hg2 => by have := hT g hg2; omega
  exact {
    len := h.len
    all := h.all
    parts := h.parts
    bound := fun g hg => Nat.lt_of_lt_of_le (h.bound g hg) k.size
    tab := fun j hj => (k.cell (cell_lt (h.tab j hj)) (hn _ (cell_lt (h0.tab j hj)))).trans (h.tab j hj)
    tab2 := h.tab2
    text := h.text.kr k (hn _ h0.text.lt)
    bt := h.bt
    runes := fun j x hx => by
      obtain ⟨b, o, e, hr, hb, hc⟩ := h.runes j x hx
      obtain ⟨b', o', e', _, hb', _⟩ := h0.runes j x hx
      rw [e] at e'
      simp only [Option.some.injEq, Addr.mk.injEq, and_true] at e'
      obtain ⟨rfl, rfl⟩ := e'
      exact ⟨b, o, e, hr, Nat.lt_of_lt_of_le hb k.size, (k.cell (p := ⟨b, o + j, none⟩) hb (hn _ hb')).trans hc⟩
    kb := h.kb
    inj := h.inj
    row := fun j hj => (k.cell (cell_lt (h.row j hj)) (hn _ (cell_lt (h0.row j hj)))).trans (h.row j hj)
    known := fun j q i hj hi => by
      have hjl := (List.getElem?_eq_some_iff.1 hj).1
      have hb0 : c.rb j < w0.heap.size := h0.bound _ ⟨j, hjl, rfl⟩
      have e := k.block (c.rb j) (by omega) (hn _ hb0)
      have := h.known j q i hj hi
      have e1 : w'.cell? ⟨c.rb j, i, none⟩ = w.cell? ⟨c.rb j, i, none⟩ := World.cell?_of_block (w := w) e
      have e2 : w'.frozen? ⟨c.rb j, i, none⟩ = w.frozen? ⟨c.rb j, i, none⟩ := World.frozen?_of_block (w := w) e
      rw [e1, e2]
      exact this }
theorem GB.off {c : Cx} {gb : Nat} {got : List Int} {w w' : World} {T : Nat → Prop} (h : GB c gb got w) (k : KR T w w') (hn : ¬ T gb) : GB c gb got w' := { h with blk := h.blk.kr k hn }
theorem GB.same {c : Cx} {gb : Nat} {got got' : List Int} {w w' : World} (h : GB c gb got w) (h' : GB c gb got' w') : got'.length = got.length := by
  have := h'.gv
  rw [h.gv] at this
  simp at this
  exact this.symm
/-- A row of sets of places, those from one on known. -/
def Beh (w : World) (B n : Nat) (f : Nat → Nat) (k : Nat) : Prop := ∃ cs, Blk w B cs 218 ∧ cs.length = n ∧ ∀ q, k ≤ q → q < n → cs[q]? = some (.int .u64 ((f q : Nat) : Int))
theorem Beh.start (w : World) (n : Nat) (f : Nat → Nat) : Beh (w.alloc (.cells (List.replicate n (.int .u64 0)).toArray 218)) w.heap.size n f n := ⟨_, Blk.new w _ 218, by simp, fun q h1 h2 => by omega⟩
theorem Beh.kr {R : Nat → Prop} {w w' : World} {B n : Nat} {f : Nat → Nat} {k : Nat} (h : Beh w B n f k) (hk : KR R w w') (hn : ¬ R B) : Beh w' B n f k := by obtain ⟨cs, h1, h2, h3⟩ := h; exact ⟨cs, h1.kr hk hn, h2, h3⟩
theorem Beh.lt {w : World} {B n : Nat} {f : Nat → Nat} {k : Nat} (h : Beh w B n f k) : B < w.heap.size := by obtain ⟨cs, h1, _⟩ := h; exact h1.lt
theorem Beh.cell {w : World} {B n : Nat} {f : Nat → Nat} {k : Nat} (h : Beh w B n f k) {q : Nat} (h1 : k ≤ q) (h2 : q < n) : w.cell? ⟨B, q, none⟩ = some (.int .u64 ((f q : Nat) : Int)) := by obtain ⟨cs, a, _, b⟩ := h; rw [a.cell]; exact b q h1 h2
theorem Beh.any {w : World} {B n : Nat} {f : Nat → Nat} {k : Nat} (h : Beh w B n f k) {q : Nat} (h2 : q < n) : (∃ v, w.cell? ⟨B, q, none⟩ = some v) ∧ w.frozen? ⟨B, q, none⟩ = false := by
  obtain ⟨cs, a, b, _⟩ := h
  exact ⟨⟨cs[q]'(by omega), by rw [a.cell]; exact List.getElem?_eq_getElem _⟩, a.frozen q⟩
theorem Beh.set {w : World} {B n : Nat} {f : Nat → Nat} {k : Nat} (h : Beh w B n f (k + 1)) (hk : k < n) : Beh (w.setCell ⟨B, k, none⟩ (.int .u64 ((f k : Nat) : Int))) B n f k := by
  obtain ⟨cs, a, b, d⟩ := h
  refine ⟨_, a.set k _, by simpa using b, fun q h1 h2 => ?_⟩
  by_cases e : q = k
  · subst e; exact List.getElem?_set_self (by omega)
  · rw [List.getElem?_set_ne (by omega)]; exact d q (by omega) h2
/-- From a place on, the parts from k on lead to the end. -/
noncomputable def rowB (ps : List Pat) (x : List Int) (i j k q : Nat) : Bool := decide (i ≤ q) && restT (ps.drop k) x q j
theorem rowB_iff {ps : List Pat} {x : List Int} {i j k q : Nat} : rowB ps x i j k q = true ↔ i ≤ q ∧ q ≤ j ∧ MtRow (ps.drop k) (sub x q j) := by unfold rowB; rw [Bool.and_eq_true, decide_eq_true_iff, restT_iff]
theorem rowB_end {ps : List Pat} {x : List Int} {i j q : Nat} (hij : i ≤ j) (hj : j ≤ x.length) : rowB ps x i j ps.length q = oneB j q := by
  rw [Bool.eq_iff_iff, rowB_iff, List.drop_length]
  unfold oneB
  rw [decide_eq_true_iff]
  constructor
  · rintro ⟨h1, h2, h3⟩
    have := sub_len h2 hj
    rw [show sub x q j = [] from h3] at this
    simp at this; omega
  · rintro rfl; exact ⟨hij, Nat.le_refl _, sub_self _ _⟩
theorem rowB_step {ps : List Pat} {x : List Int} {i j k : Nat} (hj : j ≤ x.length) (hk : k < ps.length) (q : Nat) : leadB ps[k] x i j (rowB ps x i j (k + 1)) q = rowB ps x i j k q := by
  rw [Bool.eq_iff_iff, leadB_iff, rowB_iff, List.drop_eq_getElem_cons hk]
  constructor
  · rintro ⟨h1, h2, r, _, hm, hr⟩
    obtain ⟨_, r2, r3⟩ := rowB_iff.1 hr
    obtain ⟨m1, m2⟩ := mT_iff.1 hm
    exact ⟨h1, h2, (row_cons_iff h2 hj).2 ⟨r, m1, r2, m2, r3⟩⟩
  · rintro ⟨h1, h2, h3⟩
    obtain ⟨r, r1, r2, r3, r4⟩ := (row_cons_iff h2 hj).1 h3
    exact ⟨h1, h2, r, by omega, mT_iff.2 ⟨r1, r3⟩, rowB_iff.2 ⟨by omega, r2, r4⟩⟩
/-- The part at k takes up to some place, and the others go on from there. -/
theorem row_first {ps : List Pat} {x : List Int} {i j k f : Nat} (hj : j ≤ x.length) (hk : k < ps.length) (hf : i ≤ f) (h : restT (ps.drop k) x f j = true) :
    ∃ q, HiB (fun r => mT ps[k] x f r && rowB ps x i j (k + 1) r) (x.length + 1) q ∧ HiB (fun r => mT ps[k] x f r && restT (ps.drop (k + 1)) x r j) (x.length + 1) q ∧ f ≤ q ∧ q ≤ j ∧ restT (ps.drop (k + 1)) x q j = true := by
  obtain ⟨h1, h2⟩ := restT_iff.1 h
  rw [List.drop_eq_getElem_cons hk] at h2
  obtain ⟨r, r1, r2, r3, r4⟩ := (row_cons_iff h1 hj).1 h2
  have hm : mT ps[k] x f r = true := mT_iff.2 ⟨r1, r3⟩
  have hr : restT (ps.drop (k + 1)) x r j = true := restT_iff.2 ⟨r2, r4⟩
  obtain ⟨q, hq⟩ := hi_exists (f := fun r => mT ps[k] x f r && restT (ps.drop (k + 1)) x r j) (x.length + 1) ⟨r, by omega, by simp [hm, hr]⟩
  have hq2 := hq.2.1
  simp only [Bool.and_eq_true] at hq2
  have hfq := (mT_iff.1 hq2.1).1
  refine ⟨q, hq.congr (fun r _ => ?_), hq, hfq, (restT_iff.1 hq2.2).1, hq2.2⟩
  unfold rowB
  cases hmr : mT ps[k] x f r with
  | false => simp
  | true =>
    have := (mT_iff.1 hmr).1
    simp [show i ≤ r by omega]
set_option maxRecDepth 100000 in
set_option maxHeartbeats 4000000 in
theorem take_rowN (c : Cx) (ps : List Pat) (hok : OkL ps) (ih : ∀ p ∈ ps, TakeOk c p) (w : World) (gb : Nat) (got : List Int) (g i j : Nat) (hI : Inv c w) (hG : GB c gb got w) (bi : Nat) (lv : Value) (xs : List Value) (hbK : c.K gb bi) (hbi : Blk w bi [lv] 242) (ho : Own w (c.K gb) 180 2 lv ps.length xs) (hl : TVL w (c.K gb) c.L ps g xs) (h100 : ps.length ≤ 100) (hm : mT (.row ps) c.l i j = true) (hj : j ≤ c.l.length) (hn : 2 * (g + groupsL ps) ≤ got.length) :
    Calls Tryz.prog 195 #[.pointer (some ⟨c.bt, 0, none⟩), .int .i64 i, .int .i64 j, .pointer (some ⟨bi, 0, none⟩)] w fun e w' => e = .returned (.tuple #[]) ∧ ∃ got', TkR c.l ps g i j got got' ∧ Inv c w' ∧ GB c gb got' w' ∧ KR (c.S gb) w w' := by
  have HCALL := hide (own_part ho hl hok)
  obtain ⟨lo, lc, rfl⟩ := ownP_form ho.1
  have y0 := one hbi
  have hbl0 := hbi.lt
  have h40 := hI.len
  have HI := hide hI
  have HG := hide hG
  have HBI := hide hbi
  have HBK := hide hbK
  have hij := (mT_iff.1 hm).1
  have HM := hide hm
  have HJ := hide hj
  have HN := hide hn
  have HIH := hide ih
  have HNR := hide (Cx.new hI hG)
  have hbne : bi ≠ w.heap.size := by omega
  have hbne2 : w.heap.size ≠ bi := by omega
  have HBEH := hide (Beh.start w ps.length (fun q => mk (rowB ps c.l i j (q + 1)) (c.l.length + 1)))
  have HIA := hide (hI.alloc (.cells (List.replicate ps.length (.int .u64 0)).toArray 218))
  have HGA := hide (hG.alloc (.cells (List.replicate ps.length (.int .u64 0)).toArray 218))
  have HKA := hide ((KR.refl (c.S gb) w).alloc (.cells (List.replicate ps.length (.int .u64 0)).toArray 218))
  have y1 : (w.alloc (.cells (List.replicate ps.length (.int .u64 0)).toArray 218)).cell? ⟨bi, 0, none⟩ = some (.slice lo ps.length lc) := one (hbi.alloc _)
  have hs1 : w.heap.size < (w.alloc (.cells (List.replicate ps.length (.int .u64 0)).toArray 218)).heap.size := by simp
  generalize hW : w.alloc (.cells (List.replicate ps.length (.int .u64 0)).toArray 218) = W0 at HBEH HIA HGA HKA y1 hs1
  have HW := hide hW
  generalize hBB : w.heap.size = B at HBEH hbne hbne2 hs1 HNR
  have HBB := hide hBB
  clear hI hG hbi ho hl ih hok hm hn hbK hW
  have HEND : Hid (mk (rowB ps c.l i j ps.length) (c.l.length + 1) = mk (oneB j) (c.l.length + 1)) := mk_ext (fun q _ => rowB_end hij hj)
  have HREST : Hid (restT ps c.l i j = true) := by show _ = _; rw [mT_row]; exact HM.out
  go_enter Tryz.func195, Tryz.ntmps195
  go_wp2_with (first
    | (at_make; refine make_rep rfl _ _ 261 rfl 218 (.int .u64 0) 8 Tryz.underlying261 Tryz.info218 rfl ps.length rfl rfl (by omega) (by omega) ?_; rw [HW.out, HBB.out])
    | (go_at_call 172; refine (place_any j (c.l.length + 1) _ (by omega) (by omega)).mono ?_; rintro e w' ⟨rfl, hw9⟩; have hw8 := hw9.symm; subst hw8; clear hw9))
  go_loopw [8, 9] (fun now ix wr => ∃ k : Nat, k ≤ ps.length ∧ ((k = 0 ∧ ix = .int .i64 (-1)) ∨ ∃ q : Nat, k = q + 1 ∧ ix = .int .i64 q) ∧ now = .int .u64 ((mk (rowB ps c.l i j k) (c.l.length + 1) : Nat) : Int) ∧ Beh wr B ps.length (fun q => mk (rowB ps c.l i j (q + 1)) (c.l.length + 1)) k ∧ Inv c wr ∧ GB c gb got wr ∧ KR (c.S gb) w wr) (fun _ ix _ => (intOf ix + 1).toNat)
  case atStart =>
    refine ⟨ps.length, Nat.le_refl _, ?_, by rw [HEND.out], HBEH.out, HIA.out, HGA.out, HKA.out⟩
    rcases Nat.eq_zero_or_pos ps.length with h0 | h0
    · exact .inl ⟨h0, by rw [h0]; rfl⟩
    · exact .inr ⟨ps.length - 1, by omega, by first | go_num | (congr 1; omega)⟩
  case round =>
    obtain ⟨k, hk, hix, rfl, hBe, hI, hG, hK⟩ := hrel
    have hBw : w.heap.size = B := HBB.out
    rcases hix with ⟨rfl, rfl⟩ | ⟨q, rfl, rfl⟩
    · have HBe := hide hBe
      have HIr := hide hI
      have HGr := hide hG
      have HKr := hide hK
      have y2 : wr.cell? ⟨bi, 0, none⟩ = some (.slice lo ps.length lc) := one (HBI.out.kr hK HBK.out)
      have hbl2 : bi < wr.heap.size := (HBI.out.kr hK HBK.out).lt
      clear hBe hI hG hK
      go_wp2_with fail
      go_loopw [1, 39] (fun fr ix w2 => ∃ k f : Nat, ∃ got2, k ≤ ps.length ∧ ix = .int .i64 k ∧ fr = .int .i64 f ∧ i ≤ f ∧ f ≤ j ∧ restT (ps.drop k) c.l f j = true ∧ (∀ b, TkR c.l (ps.drop k) (g + groupsL (ps.take k)) f j got2 b → TkR c.l ps g i j got b) ∧ Beh w2 B ps.length (fun q => mk (rowB ps c.l i j (q + 1)) (c.l.length + 1)) 0 ∧ Inv c w2 ∧ GB c gb got2 w2 ∧ KR (c.S gb) w w2) (fun _ ix _ => ps.length - (intOf ix).toNat)
      case atStart => exact ⟨0, i, got, Nat.zero_le _, rfl, rfl, Nat.le_refl _, hij, HREST.out, fun b h => by simpa [groupsL] using h, HBe.out, HIr.out, HGr.out, HKr.out⟩
      case round =>
        obtain ⟨k, f, got2, hk2, rfl, rfl, hf1, hf2, hrest, hto, hBe, hI, hG, hK⟩ := hrel
        have k0 : (0 : Int) ≤ (k : Int) := Int.natCast_nonneg _
        by_cases hlt : k < ps.length
        · obtain ⟨F, cp, G, tc, b, cap, hlv, hbl, _, c0, c1, eg, eg2, hEC, hEV, hTV⟩ := HCALL.out k hlt wr hK
          cases hlv
          obtain ⟨r, r1, r2, r3, r4, r5⟩ := row_first (i := i) hj hlt hf1 hrest
          have hlen := HG.out.same hG
          have k1 : (k : Int) < (ps.length : Int) := by omega
          have HKA2 := hide ((KR.refl (c.S gb) wr).alloc (.cells #[.func (.func F) #[] cp, .func (.func G) #[] tc] 180))
          have HBN2 := hide (Blk.new wr [.func (.func F) #[] cp, .func (.func G) #[] tc] 180)
          have HNR2 := hide (Cx.new hI hG)
          have HIA2 := hide (hI.alloc (.cells #[.func (.func F) #[] cp, .func (.func G) #[] tc] 180))
          have HGA2 := hide (hG.alloc (.cells #[.func (.func F) #[] cp, .func (.func G) #[] tc] 180))
          have HLG := hide (fun (w3 : World) (a : KR (c.S gb) wr w3) (bI : Inv c w3) (d : GB c gb got2 w3) => longest_any c gb got2 ps[k] F cp G tc eg eg2 (g + groupsL (ps.take k)) f r (rowB ps c.l i j (k + 1)) w3 bI d (hEC.later a) (EV.keep (a.keeps (A := c.K gb) (fun _ h => h)) _ _ hEV) (TV.keep (a.keeps (A := c.K gb) (fun _ h => h)) _ _ _ hTV) (HIH.out _ (List.getElem_mem hlt)) r1 (by omega) (by have := groupsL_at ps k hlt; have := HN.out; omega))
          have z0 : wr.cell? ⟨B, k, none⟩ = some (.int .u64 ((mk (rowB ps c.l i j (k + 1)) (c.l.length + 1) : Nat) : Int)) := hBe.cell (Nat.zero_le _) hlt
          have hBl := hBe.lt
          have HBe := hide hBe
          have HIr := hide hI
          have HGr := hide hG
          have HKr := hide hK
          have HTO := hide hto
          have HR2 := hide r2
          have HR5 := hide r5
          have HDR : Hid (ps.drop k = ps[k] :: ps.drop (k + 1)) := List.drop_eq_getElem_cons hlt
          have HGS : Hid (groupsL (ps.take (k + 1)) = groupsL (ps.take k) + ps[k].groups) := by show _ = _; rw [List.take_succ_eq_append_getElem hlt, groupsL_snoc]
          have z1 : ∀ w3, KR (c.S gb) wr w3 → w3.cell? ⟨B, k, none⟩ = some (.int .u64 ((mk (rowB ps c.l i j (k + 1)) (c.l.length + 1) : Nat) : Int)) := fun w3 a => (HBe.out.kr a HNR.out).cell (Nat.zero_le _) hlt
          have Z1 := hide z1
          generalize mk (rowB ps c.l i j (k + 1)) (c.l.length + 1) = N at HLG z0 Z1
          clear hrest hto hBe hI hG hK r1 r2 r5 hEC hEV hTV z1
          have HS0 : Hid ((wr.alloc (.cells #[.func (.func F) #[] cp, .func (.func G) #[] tc] 180)).cell? ⟨wr.heap.size, 0, none⟩ = some (.func (.func F) #[] cp) ∧ (wr.alloc (.cells #[.func (.func F) #[] cp, .func (.func G) #[] tc] 180)).cell? ⟨wr.heap.size, 1, none⟩ = some (.func (.func G) #[] tc) ∧ (wr.alloc (.cells #[.func (.func F) #[] cp, .func (.func G) #[] tc] 180)).cell? ⟨B, k, none⟩ = some (.int .u64 (N : Int))) := ⟨HBN2.out.cell 0, HBN2.out.cell 1, Z1.out _ HKA2.out⟩
          go_wp2_with fail
          go_region_held3 (fun w' => w'.cell? ⟨wr.heap.size, 0, none⟩ = some (.func (.func F) #[] cp) ∧ w'.cell? ⟨wr.heap.size, 1, none⟩ = some (.func (.func G) #[] tc) ∧ w'.cell? ⟨B, k, none⟩ = some (.int .u64 (N : Int)))
            (first | exact HS0.out | exact HS5.out)
            (first | (go_at_call 197; refine (HLG.out _ HKA2.out.drew HIA2.out.drew HGA2.out.drew).mono ?_; rintro e w5 ⟨rfl, got5, h5, hI5, hG5, hK5⟩; have HK5 := hide (HKA2.out.drew.trans hK5); have HS5 : Hid (w5.cell? ⟨wr.heap.size, 0, none⟩ = some (.func (.func F) #[] cp) ∧ w5.cell? ⟨wr.heap.size, 1, none⟩ = some (.func (.func G) #[] tc) ∧ w5.cell? ⟨B, k, none⟩ = some (.int .u64 (N : Int))) := ⟨(HBN2.out.drew.kr hK5 HNR2.out).cell 0, (HBN2.out.drew.kr hK5 HNR2.out).cell 1, Z1.out _ HK5.out⟩; have H5 := hide h5; have HI5 := hide hI5; have HG5 := hide hG5; clear h5 hI5 hG5 hK5))
          go_wp2_with fail
          go_roundw
          case rel =>
            refine ⟨k + 1, r, got5, by omega, by go_num, rfl, by omega, r4, HR5.out, fun b hb => HTO.out b ?_, HBe.out.kr HK5.out HNR.out, HI5.out, HG5.out, HKr.out.trans HK5.out⟩
            rw [HDR.out]
            exact ⟨r, got5, HR2.out, H5.out, by rw [HGS.out, ← Nat.add_assoc] at hb; exact hb⟩
          case measure => simp [intOf]; omega
        · have hke : k = ps.length := by omega
          have HT2 : Hid (TkR c.l ps g i j got got2) := hto got2 (by rw [hke, List.drop_length]; exact rfl)
          have HIr := hide hI
          have HGr := hide hG
          have HKr := hide hK
          have k1 : decide (k < ps.length) = false := decide_eq_false hlt
          clear hBe hI hG hK hto hrest hke
          go_wp2_with fail
          go_end0
          exact ⟨rfl, got2, HT2.out, HIr.out, HGr.out, HKr.out⟩
    · have hlt : q < ps.length := by omega
      have q0 : (0 : Int) ≤ (q : Int) := Int.natCast_nonneg _
      have q1 : (q : Int) < (ps.length : Int) := by omega
      obtain ⟨⟨v0, ce⟩, cf⟩ := hBe.any hlt
      have hBl := hBe.lt
      have hset := hBe.set hlt
      have hKS : KR (fun g => g = B) wr (wr.setCell ⟨B, q, none⟩ (.int .u64 ((mk (rowB ps c.l i j (q + 1)) (c.l.length + 1) : Nat) : Int))) := KR.set (R := fun g => g = B) (p := ⟨B, q, none⟩) (KR.refl _ _) rfl _
      have hKS2 : KR (c.S gb) w (wr.setCell ⟨B, q, none⟩ (.int .u64 ((mk (rowB ps c.l i j (q + 1)) (c.l.length + 1) : Nat) : Int))) := hK.setNew (p := ⟨B, q, none⟩) (Nat.le_of_eq HBB.out) _
      have hIS := HI.out.newer hI hKS (fun g h => by rw [h]; exact Nat.le_of_eq HBB.out) hK.size
      have hGS := hG.off hKS (fun e => HNR.out (.inr e.symm))
      obtain ⟨F, cp, G, tc, b, cap, hlv, hbl, hb0, c0, c1, eg, eg2, hEC, hEV, hTV⟩ := HCALL.out q hlt _ hKS2
      cases hlv
      rw [HBB.out] at hb0
      have n1 : b ≠ B := by omega
      have n2 : B ≠ b := by omega
      have hblw : b < wr.heap.size := by omega
      have d0 : wr.cell? ⟨b, q * 2, none⟩ = some (.func (.func F) #[] cp) := (hKS.cell (p := ⟨b, q * 2, none⟩) hblw n1).symm.trans c0
      have d1 : wr.cell? ⟨b, q * 2 + 1, none⟩ = some (.func (.func G) #[] tc) := (hKS.cell (p := ⟨b, q * 2 + 1, none⟩) hblw n1).symm.trans c1
      have y2 : wr.cell? ⟨bi, 0, none⟩ = some (.slice (some ⟨b, 0, none⟩) ps.length lc) := one (HBI.out.kr hK HBK.out)
      have y3 : bi < wr.heap.size := (HBI.out.kr hK HBK.out).lt
      have HLD := hide (leading_any c gb got ps[q] F cp (.func (.func G) #[] tc) eg i j (rowB ps c.l i j (q + 1)) _ hIS hGS hij hj hEC)
      have HSTEP : Hid (mk (leadB ps[q] c.l i j (rowB ps c.l i j (q + 1))) (c.l.length + 1) = mk (rowB ps c.l i j q) (c.l.length + 1)) := mk_ext (fun r _ => rowB_step hj hlt r)
      have HSET := hide hset
      have HKS2 := hide hKS2
      generalize hN : mk (rowB ps c.l i j (q + 1)) (c.l.length + 1) = N at HLD HSET HKS2 ⊢
      clear hBe hI hG hK hset hKS hKS2 hIS hGS hEC hEV hTV hN c0 c1 hbl
      go_wp2_with fail
      refine HLD.out.mono ?_
      rintro e w5 ⟨rfl, hI5, hG5, hK5⟩
      have HI5 := hide hI5
      have HG5 := hide hG5
      have HK5 := hide hK5
      clear hI5 hG5 hK5 HLD
      go_wp2_with fail
      go_roundw
      case rel =>
        refine ⟨q, by omega, ?_, by rw [HSTEP.out], HSET.out.kr HK5.out HNR.out, HI5.out, HG5.out, HKS2.out.trans HK5.out⟩
        cases q with
        | zero => exact .inl ⟨rfl, by first | rfl | go_num⟩
        | succ q => exact .inr ⟨q, rfl, by go_num⟩
      case measure => simp [intOf]; try omega
theorem take_row (c : Cx) (ps : List Pat) (hok : OkL ps) (ih : ∀ p ∈ ps, TakeOk c p) : TakeOk c (.row ps) := by
  intro w gb got G tc g i j f0 hI hG hE0 hT hm hj hn
  obtain ⟨xs, hl, bi, lv, e, hbK, hbi, ho⟩ := hT
  cases e
  exact take_rowN c ps hok ih w gb got g i j hI hG bi lv xs hbK hbi ho hl hE0.1 hm hj hn
end Go.Proofs.YtlflfcjbpnnfcaaGreatDoor
/- The turns behind each turn: a walk. -/
namespace Go.Proofs.YtlflfcjbpnnfcaaGreatDoor
open Go.Shelf Go.RowKit Go.Lib Brm

noncomputable def bhI (p : Pat) (x : List Int) (M T i j k q : Nat) : Bool := decide (i ≤ q) && bhB p x M T k j q
theorem bhI_iff {p : Pat} {x : List Int} {M T i j k q : Nat} : bhI p x M T i j k q = true ↔ i ≤ q ∧ bhB p x M T k j q = true := by unfold bhI; rw [Bool.and_eq_true, decide_eq_true_iff]
theorem bhB_le {p : Pat} {x : List Int} {M T j k q : Nat} (h : bhB p x M T k j q = true) : q ≤ j := by obtain ⟨_, _, _, _, h⟩ := bhB_iff.1 h; exact (repT_iff.1 h).1
theorem bhI_last {p : Pat} {x : List Int} {M T i j q : Nat} (hij : i ≤ j) (hj : j ≤ x.length) (hM : M ≤ T) : bhI p x M T i j T q = oneB j q := by
  unfold bhI oneB
  rw [bhB_last hj hM, Bool.eq_iff_iff, Bool.and_eq_true, decide_eq_true_iff, decide_eq_true_iff]
  constructor
  · exact fun h => h.2
  · rintro rfl; exact ⟨hij, rfl⟩
theorem lead_bh {p : Pat} {x : List Int} {M T i j k r : Nat} : leadB p x i j (bhI p x M T i j (k + 1)) r = true ↔ i ≤ r ∧ ∃ s, s ≤ x.length ∧ mT p x r s = true ∧ bhB p x M T (k + 1) j s = true := by
  rw [leadB_iff]
  constructor
  · rintro ⟨h1, _, s, h3, h4, h5⟩; exact ⟨h1, s, h3, h4, (bhI_iff.1 h5).2⟩
  · rintro ⟨h1, s, h3, h4, h5⟩
    have a := (mT_iff.1 h4).1
    have b := bhB_le h5
    exact ⟨h1, by omega, s, h3, h4, bhI_iff.2 ⟨by omega, h5⟩⟩
theorem bhI_step {p : Pat} {x : List Int} {M T i j k : Nat} (hij : i ≤ j) (hj : j ≤ x.length) (hk : k < T) (hM : M ≤ k) (r : Nat) : (leadB p x i j (bhI p x M T i j (k + 1)) r || oneB j r) = bhI p x M T i j k r := by
  rw [Bool.eq_iff_iff, Bool.or_eq_true, lead_bh, bhI_iff, bhB_more hj hk]
  unfold oneB
  rw [decide_eq_true_iff]
  constructor
  · rintro (⟨h1, h2⟩ | rfl)
    · exact ⟨h1, .inl h2⟩
    · exact ⟨hij, .inr ⟨hM, rfl⟩⟩
  · rintro ⟨h1, h2 | ⟨_, h2⟩⟩
    · exact .inl ⟨h1, h2⟩
    · exact .inr h2
theorem bhI_step2 {p : Pat} {x : List Int} {M T i j k : Nat} (hj : j ≤ x.length) (hk : k < T) (hM : ¬ M ≤ k) (r : Nat) : leadB p x i j (bhI p x M T i j (k + 1)) r = bhI p x M T i j k r := by
  rw [Bool.eq_iff_iff, lead_bh, bhI_iff, bhB_more hj hk]
  constructor
  · rintro ⟨h1, h2⟩; exact ⟨h1, .inl h2⟩
  · rintro ⟨h1, h2 | ⟨h2, _⟩⟩
    · exact ⟨h1, h2⟩
    · exact absurd h2 hM
def BhR (c : Cx) (gb : Nat) (got : List Int) (p : Pat) (M T i j : Nat) (w : World) (e : Ending) (w' : World) : Prop := ∃ B, e = .returned (.slice (some ⟨B, 0, none⟩) T T) ∧ w.heap.size ≤ B ∧ Beh w' B T (fun q => mk (bhI p c.l M T i j (q + 1)) (c.l.length + 1)) 0 ∧ Inv c w' ∧ GB c gb got w' ∧ KR (c.S gb) w w'
set_option maxRecDepth 100000 in
set_option maxHeartbeats 4000000 in
theorem behind_free (c : Cx) (gb : Nat) (got : List Int) (p : Pat) (F : Nat) (cp : Array Value) (t : Value) (eg : ∀ args w, (callFunc F args).run Tryz.prog w = .ok (.enter F args) w) (i j M T : Nat) (w : World) (hI : Inv c w) (hG : GB c gb got w) (hij : i ≤ j) (hj : j ≤ c.l.length) (hc : EndC c gb p F cp w) (hM5 : M ≤ 5) (hT : T = M + (j - i)) :
    Calls Tryz.prog 205 #[.agg #[.func (.func F) #[] cp, t], .pointer (some ⟨c.bt, 0, none⟩), .int .i64 i, .int .i64 j, .int .i64 M, .int .i64 (-1)] w (BhR c gb got p M T i j w) := by
  have hMT : M ≤ T := by omega
  have h40 := hI.len
  have HI := hide hI
  have HG := hide hG
  have HC := hide hc
  have hIA0 := hI.alloc (.cells #[.func (.func F) #[] cp, t] 180)
  have hGA0 := hG.alloc (.cells #[.func (.func F) #[] cp, t] 180)
  have hKA0 := (KR.refl (c.S gb) w).alloc (.cells #[.func (.func F) #[] cp, t] 180)
  have hBA0 := Blk.new w [.func (.func F) #[] cp, t] 180
  have HNA := hide (Cx.new hI hG)
  have HNB := hide (Cx.new hIA0 hGA0)
  have HBEH := hide (Beh.start (w.alloc (.cells #[.func (.func F) #[] cp, t] 180)) T (fun q => mk (bhI p c.l M T i j (q + 1)) (c.l.length + 1)))
  have HIA := hide (hIA0.alloc (.cells (List.replicate T (.int .u64 0)).toArray 218))
  have HGA := hide (hGA0.alloc (.cells (List.replicate T (.int .u64 0)).toArray 218))
  have HKA := hide (hKA0.alloc (.cells (List.replicate T (.int .u64 0)).toArray 218))
  have HBA := hide (hBA0.alloc (.cells (List.replicate T (.int .u64 0)).toArray 218))
  have HBsz : Hid (w.heap.size ≤ (w.alloc (.cells #[.func (.func F) #[] cp, t] 180)).heap.size) := by show _ ≤ _; simp
  have HAB : Hid (w.heap.size ≠ (w.alloc (.cells #[.func (.func F) #[] cp, t] 180)).heap.size) := by show _ ≠ _; simp
  have HEND : Hid (mk (bhI p c.l M T i j T) (c.l.length + 1) = mk (oneB j) (c.l.length + 1)) := mk_ext (fun q _ => bhI_last hij hj hMT)
  generalize hW : (w.alloc (.cells #[.func (.func F) #[] cp, t] 180)).alloc (.cells (List.replicate T (.int .u64 0)).toArray 218) = W0 at HBEH HIA HGA HKA HBA
  generalize hBB : (w.alloc (.cells #[.func (.func F) #[] cp, t] 180)).heap.size = B at HBEH HBsz HAB HNB
  have HW := hide hW
  have HBB := hide hBB
  have HBsz2 : Hid (w.heap.size ≤ B) := HBsz.out
  have t1 : (M : Int) + (j : Int) - (i : Int) = (T : Int) := by omega
  have t2 : IntKind.i64.wrap ((M : Int) + (j : Int)) = (M : Int) + (j : Int) := wrap_small (by omega) (by omega)
  have t3 : IntKind.i64.wrap ((M : Int) + (j : Int) - (i : Int)) = (T : Int) := by rw [t1]; exact wrap_small (by omega) (by omega)
  have hT46 : T ≤ 45 := by omega
  clear hT hMT t1
  unfold BhR
  clear hI hG hc hIA0 hGA0 hKA0 hBA0 hW hBB
  go_enter Tryz.func205, Tryz.ntmps205
  go_wp2_with (first
    | (at_make; refine make_rep rfl _ _ 261 rfl 218 (.int .u64 0) 8 Tryz.underlying261 Tryz.info218 rfl T rfl rfl (by omega) (by omega) ?_; rw [HW.out, HBB.out])
    | (go_at_call 172; refine (place_any j (c.l.length + 1) _ (by omega) (by omega)).mono ?_; rintro e w' ⟨rfl, hw9⟩; have hw8 := hw9.symm; subst hw8; clear hw9))
  go_loopw [15, 16] (fun now ix wr => ∃ k : Nat, k ≤ T ∧ ((k = 0 ∧ ix = .int .i64 (-1)) ∨ ∃ q : Nat, k = q + 1 ∧ ix = .int .i64 q) ∧ now = .int .u64 ((mk (bhI p c.l M T i j k) (c.l.length + 1) : Nat) : Int) ∧ Beh wr B T (fun q => mk (bhI p c.l M T i j (q + 1)) (c.l.length + 1)) k ∧ Inv c wr ∧ GB c gb got wr ∧ KR (c.S gb) w wr ∧ Blk wr w.heap.size [.func (.func F) #[] cp, t] 180) (fun _ ix _ => (intOf ix + 1).toNat)
  case atStart =>
    refine ⟨T, Nat.le_refl _, ?_, by rw [HEND.out], HBEH.out, HIA.out, HGA.out, HKA.out, HBA.out⟩
    rcases Nat.eq_zero_or_pos T with h0 | h0
    · exact .inl ⟨h0, by rw [h0]; rfl⟩
    · exact .inr ⟨T - 1, by omega, by first | go_num | (congr 1; omega)⟩
  case round =>
    obtain ⟨k, hk, hix, rfl, hBe, hI, hG, hK, hBox⟩ := hrel
    rcases hix with ⟨rfl, rfl⟩ | ⟨q, rfl, rfl⟩
    · have HBe := hide hBe
      have HIr := hide hI
      have HGr := hide hG
      have HKr := hide hK
      clear hBe hI hG hK hBox
      go_wp2_with fail
      go_ret
      exact ⟨B, rfl, HBsz.out, HBe.out, HIr.out, HGr.out, HKr.out⟩
    · have hlt : q < T := by omega
      have q0 : (0 : Int) ≤ (q : Int) := Int.natCast_nonneg _
      have q1 : (q : Int) < (T : Int) := by omega
      obtain ⟨⟨v0, ce⟩, cf⟩ := hBe.any hlt
      have hBl := hBe.lt
      have hset := hBe.set hlt
      have hKS : KR (fun g => g = B) wr (wr.setCell ⟨B, q, none⟩ (.int .u64 ((mk (bhI p c.l M T i j (q + 1)) (c.l.length + 1) : Nat) : Int))) := KR.set (R := fun g => g = B) (p := ⟨B, q, none⟩) (KR.refl _ _) rfl _
      have hKS2 : KR (c.S gb) w (wr.setCell ⟨B, q, none⟩ (.int .u64 ((mk (bhI p c.l M T i j (q + 1)) (c.l.length + 1) : Nat) : Int))) := hK.setNew (p := ⟨B, q, none⟩) HBsz.out _
      have hIS := HI.out.newer hI hKS (fun g h => by rw [h]; exact HBsz.out) hK.size
      have hGS := hG.off hKS (fun e => HNB.out (.inr e.symm))
      have d0 : wr.cell? ⟨w.heap.size, 0, none⟩ = some (.func (.func F) #[] cp) := hBox.cell 0
      have d1 : wr.cell? ⟨w.heap.size, 1, none⟩ = some t := hBox.cell 1
      have hAl := hBox.lt
      have HBoxS := hide (hBox.kr hKS (fun e => by have := HAB.out; omega))
      have n1 : w.heap.size ≠ B := HAB.out
      have n2 : B ≠ w.heap.size := HAB.out.symm
      have HLD := hide (leading_any c gb got p F cp t eg i j (bhI p c.l M T i j (q + 1)) _ hIS hGS hij hj (HC.out.later hKS2))
      have HSET := hide hset
      have HKS2 := hide hKS2
      have HOR := hide (or_num (f := leadB p c.l i j (bhI p c.l M T i j (q + 1))) (g := oneB j) (n := c.l.length + 1) (by omega))
      have HPL := hide (fun w' => place_any j (c.l.length + 1) w' (by omega) (by omega))
      have HQ := hide hlt
      by_cases hMq : M ≤ q
      · have m1 : (M : Int) ≤ (q : Int) := by omega
        have m2 : decide (M ≤ q) = true := decide_eq_true hMq
        have HSTEP : Hid (mk (fun r => leadB p c.l i j (bhI p c.l M T i j (q + 1)) r || oneB j r) (c.l.length + 1) = mk (bhI p c.l M T i j q) (c.l.length + 1)) := mk_ext (fun r _ => bhI_step hij hj hlt hMq r)
        generalize hN : mk (bhI p c.l M T i j (q + 1)) (c.l.length + 1) = N at HLD HSET HKS2 HBoxS ⊢
        generalize mk (leadB p c.l i j (bhI p c.l M T i j (q + 1))) (c.l.length + 1) = LD at HLD HOR
        generalize mk (oneB j) (c.l.length + 1) = O at HOR HPL
        clear hBe hI hG hK hset hKS hKS2 hIS hGS hN hBox
        go_wp2_with (first
          | (go_at_call 196; refine HLD.out.mono ?_; rintro e w5 ⟨rfl, hI5, hG5, hK5⟩; have HI5 := hide hI5; have HG5 := hide hG5; have HK5 := hide hK5; clear hI5 hG5 hK5)
          | (go_at_call 172; refine (HPL.out _).mono ?_; rintro e w6 ⟨rfl, hw9⟩; have hw8 := hw9.symm; subst hw8; clear hw9))
        go_roundw
        case rel =>
          refine ⟨q, by omega, ?_, by rw [HOR.out, HSTEP.out], HSET.out.kr HK5.out HNB.out, HI5.out, HG5.out, HKS2.out.trans HK5.out, HBoxS.out.kr HK5.out HNA.out⟩
          cases q with
          | zero => exact .inl ⟨rfl, by first | rfl | go_num⟩
          | succ q => exact .inr ⟨q, rfl, by go_num⟩
        case measure => simp [intOf]; try omega
      · have m1 : ¬ (M : Int) ≤ (q : Int) := by omega
        have m2 : decide (M ≤ q) = false := decide_eq_false hMq
        have HSTEP : Hid (mk (leadB p c.l i j (bhI p c.l M T i j (q + 1))) (c.l.length + 1) = mk (bhI p c.l M T i j q) (c.l.length + 1)) := mk_ext (fun r _ => bhI_step2 hj hlt hMq r)
        generalize hN : mk (bhI p c.l M T i j (q + 1)) (c.l.length + 1) = N at HLD HSET HKS2 HBoxS ⊢
        generalize mk (leadB p c.l i j (bhI p c.l M T i j (q + 1))) (c.l.length + 1) = LD at HLD HOR HSTEP
        clear hBe hI hG hK hset hKS hKS2 hIS hGS hN hBox
        go_wp2_with (go_at_call 196; refine HLD.out.mono ?_; rintro e w5 ⟨rfl, hI5, hG5, hK5⟩; have HI5 := hide hI5; have HG5 := hide hG5; have HK5 := hide hK5; clear hI5 hG5 hK5)
        go_roundw
        case rel =>
          refine ⟨q, by omega, ?_, by rw [HSTEP.out], HSET.out.kr HK5.out HNB.out, HI5.out, HG5.out, HKS2.out.trans HK5.out, HBoxS.out.kr HK5.out HNA.out⟩
          cases q with
          | zero => exact .inl ⟨rfl, by first | rfl | go_num⟩
          | succ q => exact .inr ⟨q, rfl, by go_num⟩
        case measure => simp [intOf]; try omega
set_option maxRecDepth 100000 in
set_option maxHeartbeats 4000000 in
theorem behind_most (c : Cx) (gb : Nat) (got : List Int) (p : Pat) (F : Nat) (cp : Array Value) (t : Value) (eg : ∀ args w, (callFunc F args).run Tryz.prog w = .ok (.enter F args) w) (i j M N0 T : Nat) (w : World) (hI : Inv c w) (hG : GB c gb got w) (hij : i ≤ j) (hj : j ≤ c.l.length) (hc : EndC c gb p F cp w) (hM5 : M ≤ 5) (hN5 : N0 ≤ 5) (hMN : M ≤ N0) (hT : T = min (M + (j - i)) N0) :
    Calls Tryz.prog 205 #[.agg #[.func (.func F) #[] cp, t], .pointer (some ⟨c.bt, 0, none⟩), .int .i64 i, .int .i64 j, .int .i64 M, .int .i64 N0] w (BhR c gb got p M T i j w) := by
  have hMT : M ≤ T := by omega
  have h40 := hI.len
  have HI := hide hI
  have HG := hide hG
  have HC := hide hc
  have hIA0 := hI.alloc (.cells #[.func (.func F) #[] cp, t] 180)
  have hGA0 := hG.alloc (.cells #[.func (.func F) #[] cp, t] 180)
  have hKA0 := (KR.refl (c.S gb) w).alloc (.cells #[.func (.func F) #[] cp, t] 180)
  have hBA0 := Blk.new w [.func (.func F) #[] cp, t] 180
  have HNA := hide (Cx.new hI hG)
  have HNB := hide (Cx.new hIA0 hGA0)
  have HBEH := hide (Beh.start (w.alloc (.cells #[.func (.func F) #[] cp, t] 180)) T (fun q => mk (bhI p c.l M T i j (q + 1)) (c.l.length + 1)))
  have HIA := hide (hIA0.alloc (.cells (List.replicate T (.int .u64 0)).toArray 218))
  have HGA := hide (hGA0.alloc (.cells (List.replicate T (.int .u64 0)).toArray 218))
  have HKA := hide (hKA0.alloc (.cells (List.replicate T (.int .u64 0)).toArray 218))
  have HBA := hide (hBA0.alloc (.cells (List.replicate T (.int .u64 0)).toArray 218))
  have HBsz : Hid (w.heap.size ≤ (w.alloc (.cells #[.func (.func F) #[] cp, t] 180)).heap.size) := by show _ ≤ _; simp
  have HAB : Hid (w.heap.size ≠ (w.alloc (.cells #[.func (.func F) #[] cp, t] 180)).heap.size) := by show _ ≠ _; simp
  have HEND : Hid (mk (bhI p c.l M T i j T) (c.l.length + 1) = mk (oneB j) (c.l.length + 1)) := mk_ext (fun q _ => bhI_last hij hj hMT)
  generalize hW : (w.alloc (.cells #[.func (.func F) #[] cp, t] 180)).alloc (.cells (List.replicate T (.int .u64 0)).toArray 218) = W0 at HBEH HIA HGA HKA HBA
  generalize hBB : (w.alloc (.cells #[.func (.func F) #[] cp, t] 180)).heap.size = B at HBEH HBsz HAB HNB
  have HW := hide hW
  have HBB := hide hBB
  have HBsz2 : Hid (w.heap.size ≤ B) := HBsz.out
  have t2 : IntKind.i64.wrap ((M : Int) + (j : Int)) = (M : Int) + (j : Int) := wrap_small (by omega) (by omega)
  have t3 : IntKind.i64.wrap ((M : Int) + (j : Int) - (i : Int)) = (M : Int) + (j : Int) - (i : Int) := wrap_small (by omega) (by omega)
  have t4 : min ((M : Int) + (j : Int) - (i : Int)) (N0 : Int) = (T : Int) := by omega
  have t5 : ((N0 : Int) != -1) = true := bne_iff_ne.2 (by omega)
  have t6 : ¬ ((N0 : Int) = -1) := by omega
  have hT46 : T ≤ 45 := by omega
  clear hT hMT
  unfold BhR
  clear hI hG hc hIA0 hGA0 hKA0 hBA0 hW hBB
  go_enter Tryz.func205, Tryz.ntmps205
  go_wp2_with (first
    | (at_make; refine make_rep rfl _ _ 261 rfl 218 (.int .u64 0) 8 Tryz.underlying261 Tryz.info218 rfl T rfl rfl (by omega) (by omega) ?_; rw [HW.out, HBB.out])
    | (go_at_call 172; refine (place_any j (c.l.length + 1) _ (by omega) (by omega)).mono ?_; rintro e w' ⟨rfl, hw9⟩; have hw8 := hw9.symm; subst hw8; clear hw9))
  go_loopw [15, 16] (fun now ix wr => ∃ k : Nat, k ≤ T ∧ ((k = 0 ∧ ix = .int .i64 (-1)) ∨ ∃ q : Nat, k = q + 1 ∧ ix = .int .i64 q) ∧ now = .int .u64 ((mk (bhI p c.l M T i j k) (c.l.length + 1) : Nat) : Int) ∧ Beh wr B T (fun q => mk (bhI p c.l M T i j (q + 1)) (c.l.length + 1)) k ∧ Inv c wr ∧ GB c gb got wr ∧ KR (c.S gb) w wr ∧ Blk wr w.heap.size [.func (.func F) #[] cp, t] 180) (fun _ ix _ => (intOf ix + 1).toNat)
  case atStart =>
    refine ⟨T, Nat.le_refl _, ?_, by rw [HEND.out], HBEH.out, HIA.out, HGA.out, HKA.out, HBA.out⟩
    rcases Nat.eq_zero_or_pos T with h0 | h0
    · exact .inl ⟨h0, by rw [h0]; rfl⟩
    · exact .inr ⟨T - 1, by omega, by first | go_num | (congr 1; omega)⟩
  case round =>
    obtain ⟨k, hk, hix, rfl, hBe, hI, hG, hK, hBox⟩ := hrel
    rcases hix with ⟨rfl, rfl⟩ | ⟨q, rfl, rfl⟩
    · have HBe := hide hBe
      have HIr := hide hI
      have HGr := hide hG
      have HKr := hide hK
      clear hBe hI hG hK hBox
      go_wp2_with fail
      go_ret
      exact ⟨B, rfl, HBsz.out, HBe.out, HIr.out, HGr.out, HKr.out⟩
    · have hlt : q < T := by omega
      have q0 : (0 : Int) ≤ (q : Int) := Int.natCast_nonneg _
      have q1 : (q : Int) < (T : Int) := by omega
      obtain ⟨⟨v0, ce⟩, cf⟩ := hBe.any hlt
      have hBl := hBe.lt
      have hset := hBe.set hlt
      have hKS : KR (fun g => g = B) wr (wr.setCell ⟨B, q, none⟩ (.int .u64 ((mk (bhI p c.l M T i j (q + 1)) (c.l.length + 1) : Nat) : Int))) := KR.set (R := fun g => g = B) (p := ⟨B, q, none⟩) (KR.refl _ _) rfl _
      have hKS2 : KR (c.S gb) w (wr.setCell ⟨B, q, none⟩ (.int .u64 ((mk (bhI p c.l M T i j (q + 1)) (c.l.length + 1) : Nat) : Int))) := hK.setNew (p := ⟨B, q, none⟩) HBsz.out _
      have hIS := HI.out.newer hI hKS (fun g h => by rw [h]; exact HBsz.out) hK.size
      have hGS := hG.off hKS (fun e => HNB.out (.inr e.symm))
      have d0 : wr.cell? ⟨w.heap.size, 0, none⟩ = some (.func (.func F) #[] cp) := hBox.cell 0
      have d1 : wr.cell? ⟨w.heap.size, 1, none⟩ = some t := hBox.cell 1
      have hAl := hBox.lt
      have HBoxS := hide (hBox.kr hKS (fun e => by have := HAB.out; omega))
      have n1 : w.heap.size ≠ B := HAB.out
      have n2 : B ≠ w.heap.size := HAB.out.symm
      have HLD := hide (leading_any c gb got p F cp t eg i j (bhI p c.l M T i j (q + 1)) _ hIS hGS hij hj (HC.out.later hKS2))
      have HSET := hide hset
      have HKS2 := hide hKS2
      have HOR := hide (or_num (f := leadB p c.l i j (bhI p c.l M T i j (q + 1))) (g := oneB j) (n := c.l.length + 1) (by omega))
      have HPL := hide (fun w' => place_any j (c.l.length + 1) w' (by omega) (by omega))
      have HQ := hide hlt
      by_cases hMq : M ≤ q
      · have m1 : (M : Int) ≤ (q : Int) := by omega
        have m2 : decide (M ≤ q) = true := decide_eq_true hMq
        have HSTEP : Hid (mk (fun r => leadB p c.l i j (bhI p c.l M T i j (q + 1)) r || oneB j r) (c.l.length + 1) = mk (bhI p c.l M T i j q) (c.l.length + 1)) := mk_ext (fun r _ => bhI_step hij hj hlt hMq r)
        generalize hN : mk (bhI p c.l M T i j (q + 1)) (c.l.length + 1) = N at HLD HSET HKS2 HBoxS ⊢
        generalize mk (leadB p c.l i j (bhI p c.l M T i j (q + 1))) (c.l.length + 1) = LD at HLD HOR
        generalize mk (oneB j) (c.l.length + 1) = O at HOR HPL
        clear hBe hI hG hK hset hKS hKS2 hIS hGS hN hBox
        go_wp2_with (first
          | (go_at_call 196; refine HLD.out.mono ?_; rintro e w5 ⟨rfl, hI5, hG5, hK5⟩; have HI5 := hide hI5; have HG5 := hide hG5; have HK5 := hide hK5; clear hI5 hG5 hK5)
          | (go_at_call 172; refine (HPL.out _).mono ?_; rintro e w6 ⟨rfl, hw9⟩; have hw8 := hw9.symm; subst hw8; clear hw9))
        go_roundw
        case rel =>
          refine ⟨q, by omega, ?_, by rw [HOR.out, HSTEP.out], HSET.out.kr HK5.out HNB.out, HI5.out, HG5.out, HKS2.out.trans HK5.out, HBoxS.out.kr HK5.out HNA.out⟩
          cases q with
          | zero => exact .inl ⟨rfl, by first | rfl | go_num⟩
          | succ q => exact .inr ⟨q, rfl, by go_num⟩
        case measure => simp [intOf]; try omega
      · have m1 : ¬ (M : Int) ≤ (q : Int) := by omega
        have m2 : decide (M ≤ q) = false := decide_eq_false hMq
        have HSTEP : Hid (mk (leadB p c.l i j (bhI p c.l M T i j (q + 1))) (c.l.length + 1) = mk (bhI p c.l M T i j q) (c.l.length + 1)) := mk_ext (fun r _ => bhI_step2 hj hlt hMq r)
        generalize hN : mk (bhI p c.l M T i j (q + 1)) (c.l.length + 1) = N at HLD HSET HKS2 HBoxS ⊢
        generalize mk (leadB p c.l i j (bhI p c.l M T i j (q + 1))) (c.l.length + 1) = LD at HLD HOR HSTEP
        clear hBe hI hG hK hset hKS hKS2 hIS hGS hN hBox
        go_wp2_with (go_at_call 196; refine HLD.out.mono ?_; rintro e w5 ⟨rfl, hI5, hG5, hK5⟩; have HI5 := hide hI5; have HG5 := hide hG5; have HK5 := hide hK5; clear hI5 hG5 hK5)
        go_roundw
        case rel =>
          refine ⟨q, by omega, ?_, by rw [HSTEP.out], HSET.out.kr HK5.out HNB.out, HI5.out, HG5.out, HKS2.out.trans HK5.out, HBoxS.out.kr HK5.out HNA.out⟩
          cases q with
          | zero => exact .inl ⟨rfl, by first | rfl | go_num⟩
          | succ q => exact .inr ⟨q, rfl, by go_num⟩
        case measure => simp [intOf]; try omega
end Go.Proofs.YtlflfcjbpnnfcaaGreatDoor
