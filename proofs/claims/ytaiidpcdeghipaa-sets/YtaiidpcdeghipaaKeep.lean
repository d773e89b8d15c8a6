/- What the law's keep does to its book: a walk. -/
import Derived.Test.YtaiidpcdeghipaaBookSteps
namespace Go.Proofs.Ytaiidpcdeghipaa
open Go.RowKit

theorem Try.info22 : (Try.prog.info? 22).map (fun i => (i.zero, i.size, i.bytes)) = some (some (.slice none 0 0), 1, 24) := by kernel_rfl

/-- Where the lists of a book lie: as before, or in the row that came in, or in new memory. -/
def Loc (w : World) (es es' : List Value) (row : Option Nat) : Prop := ∀ (j : Nat) (e : Value), es'[j]? = some e → es[j]? = some e ∨ e.ownBlock = row ∨ ∀ g, e.ownBlock = some g → w.heap.size < g
theorem loc_push {w : World} {es es' : List Value} {gv : Value} {row : Option Nat} (h : Loc w es es' row) (hg : gv.ownBlock = row ∨ ∀ g, gv.ownBlock = some g → w.heap.size < g) : Loc w es (es' ++ [gv]) row := by
  intro j e hj
  rcases Nat.lt_or_ge j es'.length with hlt | hge
  · rw [List.getElem?_append_left hlt] at hj
    exact h j e hj
  · rw [List.getElem?_append_right hge] at hj
    have : e = gv := by
      have := List.mem_of_getElem? hj
      simpa using this
    subst this
    exact .inr hg
/-- What is known behind the book's own append and store. -/
def Mid (w wr w3 : World) (B Bk : Nat) (n k : Nat) (m : Int) (gv bv3 : Value) (es : List Value) : Prop :=
  BookAt (w3.setCell ⟨Bk, 0, none⟩ bv3) B Bk bv3 (es ++ [gv]) ∧ (w3.setCell ⟨Bk, 0, none⟩ bv3).ownsRow B 27 2 gv (n + k) (cellsR (marks m (n + k))) ∧ (∀ j e, (es ++ [gv])[j]? = some e → Ent (w3.setCell ⟨Bk, 0, none⟩ bv3) B gv (n + k) (markOf j) e) ∧
    (w3.setCell ⟨Bk, 0, none⟩ bv3).heap[w.heap.size]? = some (.cells #[.int .i64 m, .int .i64 0] 27 (0, 0)) ∧ Below B wr (w3.setCell ⟨Bk, 0, none⟩ bv3) ∧ (∀ r, Stays wr (w3.setCell ⟨Bk, 0, none⟩ bv3) r)
theorem keep_mid {w wr w3 : World} {B Bk q : Nat} {row : Option Nat} {m : Int} {gv bv bv3 : Value} {es : List Value} {n k : Nat} {o : Obj} (K : Kept2 w wr B Bk q row n m gv k bv es) (hk : k < 4) (hm : -1 - (q : Int) = m) (hn : n ≤ 500) (hB : B ≤ wr.heap.size)
    (hg : (wr.alloc o).grownBy w3 bv.ownBlock) (h3 : w3.ownsRow B 22 1 bv3 (es.length + 1) (es ++ [gv])) :
    w3.cell? ⟨Bk, 0, none⟩ = some bv ∧ w3.frozen? ⟨Bk, 0, none⟩ = false ∧ Mid w wr w3 B Bk n k m gv bv3 es := by
  have h1 : w3.heap[Bk]? = some (.cells #[bv] 31 (0, 0)) := by
    rw [hg.block Bk (by have := lt_of_heap K.2.2.1; simp; omega) (not_book K.2.2.1 K.2.2.2.2.1 (by decide)), Below.heap_alloc wr o Bk (lt_of_heap K.2.2.1)]; exact K.2.2.1
  exact ⟨by simp [World.cell?, h1], by simp [World.frozen?, h1], kept2_mid K hk hm.symm hn hB hg h3⟩
theorem mid_box {w wr w3 : World} {B Bk n k : Nat} {m : Int} {gv bv3 : Value} {es : List Value} (h : Mid w wr w3 B Bk n k m gv bv3 es) :
    (w3.setCell ⟨Bk, 0, none⟩ bv3).cell? ⟨w.heap.size, 0, none⟩ = some (.int .i64 m) ∧ (w3.setCell ⟨Bk, 0, none⟩ bv3).cell? ⟨w.heap.size, 1, none⟩ = some (.int .i64 0) := by
  have h4 := h.2.2.2.1
  constructor <;> simp [World.cell?, h4]
theorem mid_new (w : World) (a : Addr) (u : Value) (m : Int) : ∀ j x, [Value.int .i64 m, Value.int .i64 0][j]? = some x → ((w.setCell a u).alloc (.cells #[.int .i64 m, .int .i64 0] 27)).cell? ((⟨w.heap.size, 0, none⟩ : Addr).add j) = some x := by
  have e : w.heap.size = (w.setCell a u).heap.size := by simp
  rw [e]
  exact new_cells0 (w.setCell a u) m 0
theorem mid_size {w wr w3 : World} {B Bk n k : Nat} {m : Int} {gv bv3 : Value} {es : List Value} {o : Obj} (h : Mid w wr w3 B Bk n k m gv bv3 es) (hB : B ≤ wr.heap.size) : B ≤ ((w3.setCell ⟨Bk, 0, none⟩ bv3).alloc o).heap.size := by
  have := h.2.2.2.2.1.size
  simp at this ⊢; omega
theorem kept2_book {w wr : World} {B Bk q : Nat} {row : Option Nat} {m : Int} {gv bv : Value} {es : List Value} {n k : Nat} (K : Kept2 w wr B Bk q row n m gv k bv es) : BookAt wr B Bk bv es :=
  ⟨K.2.2.1, K.2.2.2.1, K.2.2.2.2.1, fun j e hj => by obtain ⟨c, hc, ho, _⟩ := K.2.2.2.2.2.1 j e hj; exact ⟨c, hc, ho⟩⟩
theorem one_new (w : World) (u : Value) : ∀ j x, [u][j]? = some x → (w.alloc (.cells #[u] 22)).cell? ((⟨w.heap.size, 0, none⟩ : Addr).add j) = some x := by
  intro j x hj
  match j, hj with
  | 0, hj => simp at hj; subst hj; simp [Addr.add]
theorem own_setc {w : World} {B g N cap : Nat} {l : List (Int × Int)} {k : Nat} {x y : Int} (h : w.ownsRow B 27 2 (.slice (some ⟨g, 0, none⟩) N cap) N (cellsR l)) (hk : k < N) :
    ((w.setCell ⟨g, k * 2, none⟩ (.int .i64 x)).setCell ⟨g, k * 2 + 1, none⟩ (.int .i64 y)).ownsRow B 27 2 (.slice (some ⟨g, 0, none⟩) N cap) N (cellsR (l.set k (x, y))) ∧
    w.grownBy ((w.setCell ⟨g, k * 2, none⟩ (.int .i64 x)).setCell ⟨g, k * 2 + 1, none⟩ (.int .i64 y)) (some g) := by
  have hl : l.length = N := by have := h.1; rw [cellsR_length] at this; omega
  have h1 := h.stored (k * 2) (.int .i64 x)
  have h2 := h1.1.stored (k * 2 + 1) (.int .i64 y)
  rw [cellsR_set l k x y (by omega)] at h2
  exact ⟨h2.1, grown_trans h1.2 h2.2⟩
def inked (m : Int) (k : Nat) (l : List (Int × Int)) : List (Int × Int) := marks m k ++ l.drop k
theorem inked_set {m : Int} {k : Nat} {l : List (Int × Int)} (h : k < l.length) : (inked m k l).set k (m, 0) = inked m (k + 1) l := by
  unfold inked marks
  rw [List.set_append_right _ _ (by simp), List.replicate_succ', List.append_assoc]
  congr 1
  simp only [List.length_replicate, Nat.sub_self]
  rw [List.drop_eq_getElem_cons h]; rfl
theorem inked_all (m : Int) (l : List (Int × Int)) : inked m l.length l = marks m l.length := by simp [inked]

set_option maxRecDepth 100000 in
set_option maxHeartbeats 800000 in
theorem keep_any (B Bk q : Nat) (bv v : Value) (es : List Value) (L : List (Int × Int)) (w : World) (hbk : BookAt w B Bk bv es) (hq : es.length = 4 * q) (hq2 : q ≤ 100) (hv : w.ownsRow B 27 2 v L.length (cellsR L)) (hL : L.length ≤ 500)
    (hB : B ≤ w.heap.size) (hap : ∀ (j : Nat) (e : Value), es[j]? = some e → e.ownBlock = none ∨ e.ownBlock ≠ v.ownBlock) :
    Calls Try.prog 22 #[.pointer (some ⟨Bk, 0, none⟩), v] w fun e w' => e = .returned (.tuple #[]) ∧ ∃ bv' es', es'.length = es.length + 4 ∧ BookAt w' B Bk bv' es' ∧ Below B w w' ∧ Stays w w' v.ownBlock ∧ Loc w es es' v.ownBlock := by
  have HV := hide hv
  have HK := hide hbk
  generalize hrow : v.ownBlock = row at hap ⊢
  have HA := hide hap
  have HR := hide hrow
  clear hrow
  obtain ⟨aob, capb, rfl⟩ := own22_form hbk.2.2.1
  obtain ⟨aov, capv, rfl⟩ := own27_form hv
  have hc : w.cell? ⟨Bk, 0, none⟩ = some (.slice aob es.length capb) := by simp [World.cell?, hbk.1]
  have hBk := lt_of_heap hbk.1
  clear hbk hap
  rw [hq] at hc
  go_enter Try.func22, Try.ntmps22
  go_wp2
  generalize hm : (-1 - (q : Int)) = m
  have HM := hide hm; clear hm
  go_loopw [5] (fun i wr => ∃ k : Nat, k ≤ L.length ∧ i = .int .i64 k ∧ wr.ownsRow B 27 2 (.slice aov L.length capv) L.length (cellsR (inked m k L)) ∧ (w.alloc (.cells #[.int .i64 m, .int .i64 0] 27)).grownBy wr row) (fun i _ => L.length - (intOf i).toNat)
  case atStart => exact ⟨0, Nat.zero_le _, rfl, by simpa [inked, marks] using hv.alloc _, ⟨rfl, rfl, rfl, Nat.le_refl _, fun _ _ _ => rfl⟩⟩
  case round =>
    obtain ⟨k, hk, rfl, hown, hgr⟩ := hrel
    have hsz := hgr.size
    simp at hsz
    by_cases hlt : k < L.length
    · have hil : (inked m k L).length = L.length := by simp [inked, marks]; omega
      have hx := List.getElem?_eq_getElem (l := inked m k L) (i := k) (by omega)
      rcases hown.2 with ⟨_, e0⟩ | ⟨g, cap, cur, e, hbg, _⟩
      · omega
      injection e with ea _ ec
      subst ea; subst ec
      have hrow2 : row = some g := HR.out.symm
      have hgw : g < w.heap.size := (HV.out.lt g rfl).2
      have hbc : ∀ j u, (w.alloc (.cells #[.int .i64 m, .int .i64 0] 27)).cell? ⟨w.heap.size, j, none⟩ = some u → wr.cell? ⟨w.heap.size, j, none⟩ = some u := fun j u hu => hgr.cell hu (by rw [hrow2]; simp; omega)
      have hx0 : wr.cell? ⟨w.heap.size, 0, none⟩ = some (.int .i64 m) := hbc 0 _ (by simp)
      have hx1 : wr.cell? ⟨w.heap.size, 1, none⟩ = some (.int .i64 0) := hbc 1 _ (by simp)
      have hc0 : wr.cell? ⟨g, k * 2, none⟩ = some (.int .i64 ((inked m k L)[k]'(by omega)).1) := by rw [hown.cellAt _ (by omega)]; exact (cellsR_get hx).1
      have hc1 : wr.cell? ⟨g, k * 2 + 1, none⟩ = some (.int .i64 ((inked m k L)[k]'(by omega)).2) := by rw [hown.cellAt _ (by omega)]; exact (cellsR_get hx).2
      have hf0 := hown.frozenAt (k * 2)
      have hf1 := hown.frozenAt (k * 2 + 1)
      generalize ((inked m k L)[k]'(by omega)).1 = z1 at hc0
      generalize ((inked m k L)[k]'(by omega)).2 = z2 at hc1
      clear hx hbc
      have S := own_setc (x := m) (y := 0) hown hlt
      rw [inked_set hlt] at S
      have S1 := hide S
      have HR2 := hide hrow2
      clear S hil hrow2 hbg
      go_wp2
      go_roundw
      case rel => exact ⟨k + 1, by omega, by go_num, S1.out.1, grown_trans hgr (HR2.out ▸ S1.out.2)⟩
      case measure => simp [intOf]; omega
    · have hkn : k = L.length := by omega
      subst hkn
      rw [inked_all] at hown
      have K0 := hide (kept2_start HK.out hq HV.out HR.out HA.out hB hgr hown)
      have hrl : ∀ g, row = some g → g < w.heap.size := fun g e => (HV.out.lt g (HR.out.trans e)).2
      have HRL := hide hrl
      clear hrl hown hgr hc
      obtain ⟨i0, hi, hz0, hz1, hz2⟩ := info_parts Try.info22
      go_wp2
      go_loopw [6, 7] (fun gv i wr => ∃ (k : Nat) (bv' : Value) (es' : List Value), k ≤ 4 ∧ i = .int .i64 k ∧ Kept2 w wr B Bk q row L.length m gv k bv' es' ∧ Loc w es es' row) (fun _ i _ => 4 - (intOf i).toNat)
      case atStart => exact ⟨0, _, es, by omega, rfl, K0.out, fun j e hj => .inl hj⟩
      case round =>
        clear K0 hsz
        obtain ⟨k, bv', es', hk4, rfl, hK, hloc⟩ := hrel
        have HLoc := hide hloc; clear hloc
        have HK2 := hide hK
        by_cases hlt : k < 4
        · obtain ⟨aog, capg, rfl⟩ := own27_form hK.2.1
          have h22 := hK.2.2.2.2.1
          obtain ⟨aob2, capb2, rfl⟩ := own22_form h22
          have hcb : wr.cell? ⟨Bk, 0, none⟩ = some (.slice aob2 es'.length capb2) := by simp [World.cell?, hK.2.2.1]
          have hBw : B ≤ wr.heap.size := Nat.le_trans hB hK.2.2.2.2.2.2.2.2.1.size
          have hel : es'.length ≤ 500 := by have := hK.1; omega
          have hBk2 := lt_of_heap hK.2.2.1
          clear hK
          have HBw := hide hBw
          go_wp2_with (first
            | (at_builtin; refine wpList_append_own _ rfl (.tmp 35) (.tmp 37) 29 rfl B 22 i0 (.slice none 0 0) 1 24 Try.underlying29 hi hz0 hz1 hz2 rfl (by decide) _ _ _ rfl (h22.alloc _) ⟨wr.heap.size, 0, none⟩ 1 1 [.slice aog (L.length + k) capg] rfl rfl (one_new _ _) (by intro u hu; simp at hu; subst hu; rfl) (by unfold maxLen; omega) (by omega) (by simp; omega) ?_; intro bv3 w3 h3 hg3 _; obtain ⟨s1, s2, q4⟩ := keep_mid HK2.out hlt HM.out hL HBw.out hg3 h3; obtain ⟨ao3, cap3, rfl⟩ := own22_form h3; have Q4 := hide q4; obtain ⟨x0, x1⟩ := mid_box q4; clear q4 h3 hg3 hcb h22)
            | (at_builtin; refine append_one rfl (.tmp 41) (.tmp 43) rfl B (L.length + k) _ _ rfl (Q4.out.2.1.alloc _) ⟨w3.heap.size, 0, none⟩ [.int .i64 m, .int .i64 0] rfl rfl (mid_new _ _ _ _) (new_one _ _) (by omega) (mid_size Q4.out HBw.out) ?_; intro v5 w5 ho5 hs5 hb5 hent5 hblk5 hloc5))
          have HE := hide (kept2_step HK2.out HRL.out Q4.out.1 Q4.out.2.1 Q4.out.2.2.1 Q4.out.2.2.2.1 Q4.out.2.2.2.2.1 Q4.out.2.2.2.2.2 (Nat.le_trans HBw.out Q4.out.2.2.2.2.1.size) ho5 hb5 hent5 hblk5 hloc5)
          go_roundw
          case rel => exact ⟨k + 1, _, _, by omega, by go_num, HE.out, loc_push HLoc.out HK2.out.2.2.2.2.2.2.2.1⟩
          case measure => simp [intOf]; omega
        · clear hK
          go_wp2
          go_end0
          exact ⟨rfl, bv', es', by have := HK2.out.1; omega, kept2_book HK2.out, HK2.out.2.2.2.2.2.2.2.2.1, HK2.out.2.2.2.2.2.2.2.2.2, HLoc.out⟩
end Go.Proofs.Ytaiidpcdeghipaa
