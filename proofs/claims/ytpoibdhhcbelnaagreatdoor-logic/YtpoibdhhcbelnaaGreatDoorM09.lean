/- Walks and plain laws, some texts in one. -/
import Derived.Deep.DeepCutAuto
import Derived.Laws.AppendOwnNone
import Derived.Lib.MinMax
import Derived.Test.YtpoibdhhcbelnaaGreatDoorM07
import Derived.Test.YtpoibdhhcbelnaaGreatDoorM08
/- What the reference's join does: a walk. -/
namespace Go.Proofs.YtpoibdhhcbelnaaGreatDoor
open Go.RowKit

/-- A slice of ranges that is nil, or leads to a row. -/
def Sl (w : World) (v : Value) (l : List (Int × Int)) : Prop :=
  (v = .slice none 0 0 ∧ l = []) ∨ ∃ b off cap, v = .slice (some ⟨b, off, none⟩) l.length cap ∧ l.length ≤ cap ∧ b < w.heap.size ∧ Rd w (some ⟨b, off, none⟩) l
theorem own_sl {w : World} {B : Nat} {v : Value} {l : List (Int × Int)} (h : w.ownsRow B 149 2 v l.length (cellsR l)) : Sl w v l := by
  have h' := h
  obtain ⟨ao, cap, rfl, hc, hr⟩ := own_rd h
  rcases h'.2 with ⟨e, h0⟩ | ⟨g, cap', cur, e, hg, hh, _⟩
  · exact .inl ⟨e, List.length_eq_zero_iff.1 h0⟩
  · injection e with e1 _ e3
    subst e1; subst e3
    exact .inr ⟨g, 0, cap, rfl, hc, (h'.lt g rfl).2, hr⟩
theorem Sl.rd {w : World} {v : Value} {l : List (Int × Int)} (h : Sl w v l) : ∃ ao cap, v = .slice ao l.length cap ∧ Rd w ao l ∧ (ao = none → cap = 0) := by
  rcases h with ⟨rfl, rfl⟩ | ⟨b, off, cap, rfl, hc, hlt, hr⟩
  · exact ⟨none, 0, rfl, fun i x hx => by simp at hx, fun _ => rfl⟩
  · exact ⟨_, cap, rfl, hr, fun h => by cases h⟩

def testA (l : List (Int × Int)) (k : Nat) (x1 : Int) : Bool := match l[k]? with | some y => decide (y.2 + 1 < x1) | none => false
def testB (l : List (Int × Int)) (k : Nat) (x2 : Int) : Bool := match l[k]? with | some y => decide (y.1 ≤ x2 + 1) | none => false

end Go.Proofs.YtpoibdhhcbelnaaGreatDoor
/- What the reference's join does at whatever slice, its norm, not and or: walks. -/
namespace Go.Proofs.YtpoibdhhcbelnaaGreatDoor
open Go.RowKit

/-- What norm has made of the first ranges. -/
def NormI (l : List (Int × Int)) (k : Nat) (out : List (Int × Int)) : Prop :=
  Brm.PCanon out ∧ (∀ r, Brm.runeB r = true → Brm.memB out (Brm.up r) = Brm.memB (l.take k) r) ∧ out.length ≤ k
end Go.Proofs.YtpoibdhhcbelnaaGreatDoor
/- What the reference's not and or do: walks. -/
namespace Go.Proofs.YtpoibdhhcbelnaaGreatDoor
open Go.RowKit

set_option maxRecDepth 100000 in
set_option maxHeartbeats 800000 in
theorem rnot_any (ao : Option Addr) (l : List (Int × Int)) (cap : Nat) (w : World) (hcells : Rd w ao l) (hlen : l.length ≤ 1000000) (hl : Brm.PCanon l) :
    Calls Tryz.prog 169 #[.slice ao l.length cap] w fun e w' => ∃ v, e = .returned v ∧ Hands w w' v fun out => Brm.PCanon out ∧ (∀ n, Brm.place n → Brm.memB out n = !Brm.memB l n) ∧ out.length ≤ l.length + 1 := by
  have HC := hide hcells; have HL := hide hl
  clear hcells hl
  obtain ⟨i0, hi, hz0, hz1, hz2⟩ := info_parts Tryz.info149
  have hn0 := hide (Brm.pinv_start HL.out)
  go_enter Tryz.func169, Tryz.ntmps169
  go_wp2
  go_loopw [3, 4, 5] (fun v nx i wr => ∃ (k : Nat) (out : List (Int × Int)) (frm : Int), k ≤ l.length ∧ i = .int .i64 k ∧ nx = .int .i64 frm ∧ Brm.PInv l (l.drop k) out frm ∧ out.length ≤ k ∧ wr.ownsRow w.heap.size 149 2 v out.length (cellsR out) ∧ Below w.heap.size w wr) (fun _ _ i _ => l.length - (intOf i).toNat)
  case atStart => exact ⟨0, [], 0, Nat.zero_le _, rfl, rfl, hn0.out, Nat.zero_le _, World.ownsRow_nil _ _ _ _, Below.refl _ _⟩
  case round =>
    obtain ⟨k, out, frm, hk, rfl, rfl, hinv, hol, hown, hbel⟩ := hrel
    have hsz := hbel.size
    have HI := hide hinv; clear hinv
    have f0 := HI.out.2.2.1
    have f1 := HI.out.2.2.2.1
    by_cases hlt : k < l.length
    · obtain ⟨b, off, rfl, hb, h1, h2⟩ := HC.out k l[k] (List.getElem?_eq_getElem hlt)
      generalize hx : l[k] = x at h1 h2
      have HX : Hid (l[k]? = some x) := by rw [List.getElem?_eq_getElem hlt, hx]; rfl
      clear hx
      have hg := HL.out.1 x (List.mem_of_getElem? HX.out)
      obtain ⟨x1, x2⟩ := x
      unfold Brm.PGood at hg
      simp only at h1 h2 hg
      obtain ⟨g1, g2, g3⟩ := hg
      rw [← hbel.cell (p := ⟨b, _, none⟩) hb] at h1 h2
      have HI2 := hide (drop_cons HX.out ▸ HI.out)
      have HN := hide (Brm.pinv_step HI2.out)
      have e1 : ∀ o c, (wr.alloc o).cell? ⟨b, c, none⟩ = wr.cell? ⟨b, c, none⟩ := fun o c => cell_old o c (by omega)
      by_cases hle : frm < x1
      · have HP : Hid (Brm.putP out frm x1 = out ++ [(frm, x1 - 1)]) := by show Brm.putP out frm x1 = _; unfold Brm.putP; rw [if_pos hle]
        have HB2 := hide hb
        go_wp2_with (at_builtin; refine wpList_append_own _ rfl _ _ 29 rfl w.heap.size 149 i0 (.agg #[.int .i64 0, .int .i64 0]) 2 16 Tryz.underlying29 hi hz0 hz1 hz2 rfl (by decide) _ _ _ rfl (hown.alloc _) ⟨wr.heap.size, 0, none⟩ 1 1 [.int .i64 frm, .int .i64 (x1 - 1)] rfl rfl (new_cells0 _ _ _) (new_one _ _) (by unfold maxLen; omega) (by omega) (by simp; omega) ?_; intro v' w2 hown' hgrow _; have R2 := Below.keep (hbel.alloc (by omega) _) (by simp; omega) (hown.alloc _) hgrow; have hbx : w2.cell? ⟨b, off + k * 2 + 1, none⟩ = some (.int .i64 x2) := (R2.cell (p := ⟨b, _, none⟩) hb).trans ((hbel.cell (p := ⟨b, _, none⟩) hb).symm.trans h2))
        have R1 := own_snoc (y := (frm, x1 - 1)) hown' HP.out
        go_roundw
        case rel => exact ⟨k + 1, Brm.putP out frm x1, x2 + 1, by omega, by go_num, rfl, HN.out, by rw [HP.out]; simp; omega, R1, R2⟩
        case measure => simp [intOf]; omega
      · have HP : Hid (Brm.putP out frm x1 = out) := by show Brm.putP out frm x1 = _; unfold Brm.putP; rw [if_neg hle]; simp
        go_wp2
        go_roundw
        case rel => exact ⟨k + 1, out, x2 + 1, by omega, by go_num, rfl, by have := HN.out; rw [HP.out] at this; exact this, by omega, hown, hbel⟩
        case measure => simp [intOf]; omega
    · have hinv2 : Brm.PInv l [] out frm := by have := HI.out; rwa [List.drop_of_length_le (by omega)] at this
      have HE := hide (Brm.pinv_end hinv2); clear hinv2
      by_cases hle : frm ≤ 1112063
      · go_wp2_with (at_builtin; refine wpList_append_own _ rfl _ _ 29 rfl w.heap.size 149 i0 (.agg #[.int .i64 0, .int .i64 0]) 2 16 Tryz.underlying29 hi hz0 hz1 hz2 rfl (by decide) _ _ _ rfl (hown.alloc _) ⟨wr.heap.size, 0, none⟩ 1 1 [.int .i64 frm, .int .i64 1112063] rfl rfl (new_cells0 _ _ _) (new_one _ _) (by unfold maxLen; omega) (by omega) (by simp; omega) ?_; intro v' w2 hown' hgrow _)
        have HP : Brm.endP out frm = out ++ [(frm, 1112063)] := by unfold Brm.endP; rw [if_pos hle]
        have R1 := own_snoc (y := (frm, 1112063)) hown' HP
        have R2 := Below.keep (hbel.alloc (by omega) _) (by simp; omega) (hown.alloc _) hgrow
        have hE := HE.out
        go_ret
        exact ⟨_, rfl, Brm.endP out frm, ⟨hE.1, hE.2, by rw [HP]; simp; omega⟩, R1, R2⟩
      · have HP : Hid (Brm.endP out frm = out) := by show Brm.endP out frm = out; unfold Brm.endP; rw [if_neg hle]; simp
        go_wp2
        have hE := HE.out
        rw [HP.out] at hE
        go_ret
        exact ⟨_, rfl, out, ⟨hE.1, hE.2, by omega⟩, hown, hbel⟩

end Go.Proofs.YtpoibdhhcbelnaaGreatDoor
/- The reference's calls on sets, and where what they hand back lies: walks. -/
namespace Go.Proofs.YtpoibdhhcbelnaaGreatDoor
open Go.RowKit

/-- A slice of ranges that is nil, or leads to a row in one of some blocks. -/
def SlA (w : World) (A : Nat → Prop) (v : Value) (l : List (Int × Int)) : Prop :=
  (v = .slice none 0 0 ∧ l = []) ∨ ∃ b off cap, v = .slice (some ⟨b, off, none⟩) l.length cap ∧ l.length ≤ cap ∧ A b ∧ b < w.heap.size ∧ Rd w (some ⟨b, off, none⟩) l
theorem SlA.sl {w : World} {A : Nat → Prop} {v : Value} {l : List (Int × Int)} (h : SlA w A v l) : Sl w v l := by
  rcases h with h | ⟨b, off, cap, e, hc, _, hlt, hr⟩
  · exact .inl h
  · exact .inr ⟨b, off, cap, e, hc, hlt, hr⟩
theorem own_slA {w : World} {B : Nat} {A : Nat → Prop} {v : Value} {l : List (Int × Int)} (h : w.ownsRow B 149 2 v l.length (cellsR l)) (hA : ∀ k, B ≤ k → A k) : SlA w A v l := by
  rcases own_sl h with h2 | ⟨b, off, cap, rfl, hc, hlt, hr⟩
  · exact .inl h2
  · rcases h.2 with ⟨e, _⟩ | ⟨g, cap', cur, e, hg, _⟩
    · cases e
    · cases e
      exact .inr ⟨b, 0, cap, rfl, hc, hA b hg, hlt, hr⟩
theorem SlA.mono {w : World} {A A' : Nat → Prop} {v : Value} {l : List (Int × Int)} (h : SlA w A v l) (k : ∀ g, g < w.heap.size → A g → A' g) : SlA w A' v l := by
  rcases h with h | ⟨b, off, cap, e, hc, ha, hlt, hr⟩
  · exact .inl h
  · exact .inr ⟨b, off, cap, e, hc, k b hlt ha, hlt, hr⟩

end Go.Proofs.YtpoibdhhcbelnaaGreatDoor
