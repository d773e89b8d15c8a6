/- What the reference's not and or do: walks. -/
import Derived.Test.YtaiidpcdeghipaaRefNorm
namespace Go.Proofs.Ytaiidpcdeghipaa
open Go.RowKit

set_option maxRecDepth 100000 in
set_option maxHeartbeats 800000 in
theorem rnot_any (ao : Option Addr) (l : List (Int × Int)) (cap : Nat) (w : World) (hcells : Rd w ao l) (hlen : l.length ≤ 1000000) (hl : Brm.PCanon l) :
    Calls Try.prog 37 #[.slice ao l.length cap] w fun e w' => ∃ v, e = .returned v ∧ Hands w w' v fun out => Brm.PCanon out ∧ (∀ n, Brm.place n → Brm.memB out n = !Brm.memB l n) ∧ out.length ≤ l.length + 1 := by
  have HC := hide hcells; have HL := hide hl
  clear hcells hl
  obtain ⟨i0, hi, hz0, hz1, hz2⟩ := info_parts Try.info27
  have hn0 := hide (Brm.pinv_start HL.out)
  go_enter Try.func37, Try.ntmps37
  go_wp2
  go_loopw [3, 4, 5] (fun v nx i wr => ∃ (k : Nat) (out : List (Int × Int)) (frm : Int), k ≤ l.length ∧ i = .int .i64 k ∧ nx = .int .i64 frm ∧ Brm.PInv l (l.drop k) out frm ∧ out.length ≤ k ∧ wr.ownsRow w.heap.size 27 2 v out.length (cellsR out) ∧ Below w.heap.size w wr) (fun _ _ i _ => l.length - (intOf i).toNat)
  case atStart => exact ⟨0, [], 0, Nat.zero_le _, rfl, rfl, hn0.out, Nat.zero_le _, World.ownsRow_nil _ _ _ _, Below.refl _ _⟩
  case round =>
    obtain ⟨k, out, frm, hk, rfl, rfl, hinv, hol, hown, hbel⟩ := hrel
    have hsz := hbel.size
    have HI := hide hinv; clear hinv
    have f0 := HI.out.2.2.1
    have f1 := HI.out.2.2.2.1
    by_cases hlt : k < l.length
    · obtain ⟨b, off, rfl, hb, h1, h2⟩ := HC.out k l[k] (List.getElem?_eq_getElem hlt)
      generalize hx : l[k] = x at h1 h2
      have HX : Hid (l[k]? = some x) := by rw [List.getElem?_eq_getElem hlt, hx]; rfl
      clear hx
      have hg := HL.out.1 x (List.mem_of_getElem? HX.out)
      obtain ⟨x1, x2⟩ := x
      unfold Brm.PGood at hg
      simp only at h1 h2 hg
      obtain ⟨g1, g2, g3⟩ := hg
      rw [← hbel.cell (p := ⟨b, _, none⟩) hb] at h1 h2
      have HI2 := hide (drop_cons HX.out ▸ HI.out)
      have HN := hide (Brm.pinv_step HI2.out)
      have e1 : ∀ o c, (wr.alloc o).cell? ⟨b, c, none⟩ = wr.cell? ⟨b, c, none⟩ := fun o c => cell_old o c (by omega)
      by_cases hle : frm < x1
      · have HP : Hid (Brm.putP out frm x1 = out ++ [(frm, x1 - 1)]) := by show Brm.putP out frm x1 = _; unfold Brm.putP; rw [if_pos hle]
        have HB2 := hide hb
        go_wp2_with (at_builtin; refine wpList_append_own _ rfl _ _ 22 rfl w.heap.size 27 i0 (.agg #[.int .i64 0, .int .i64 0]) 2 16 Try.underlying22 hi hz0 hz1 hz2 rfl (by decide) _ _ _ rfl (hown.alloc _) ⟨wr.heap.size, 0, none⟩ 1 1 [.int .i64 frm, .int .i64 (x1 - 1)] rfl rfl (new_cells0 _ _ _) (new_one _ _) (by unfold maxLen; omega) (by omega) (by simp; omega) ?_; intro v' w2 hown' hgrow _; have R2 := Below.keep (hbel.alloc (by omega) _) (by simp; omega) (hown.alloc _) hgrow; have hbx : w2.cell? ⟨b, off + k * 2 + 1, none⟩ = some (.int .i64 x2) := (R2.cell (p := ⟨b, _, none⟩) hb).trans ((hbel.cell (p := ⟨b, _, none⟩) hb).symm.trans h2))
        have R1 := own_snoc (y := (frm, x1 - 1)) hown' HP.out
        go_roundw
        case rel => exact ⟨k + 1, Brm.putP out frm x1, x2 + 1, by omega, by go_num, rfl, HN.out, by rw [HP.out]; simp; omega, R1, R2⟩
        case measure => simp [intOf]; omega
      · have HP : Hid (Brm.putP out frm x1 = out) := by show Brm.putP out frm x1 = _; unfold Brm.putP; rw [if_neg hle]; simp
        go_wp2
        go_roundw
        case rel => exact ⟨k + 1, out, x2 + 1, by omega, by go_num, rfl, by have := HN.out; rw [HP.out] at this; exact this, by omega, hown, hbel⟩
        case measure => simp [intOf]; omega
    · have hinv2 : Brm.PInv l [] out frm := by have := HI.out; rwa [List.drop_of_length_le (by omega)] at this
      have HE := hide (Brm.pinv_end hinv2); clear hinv2
      by_cases hle : frm ≤ 1112063
      · go_wp2_with (at_builtin; refine wpList_append_own _ rfl _ _ 22 rfl w.heap.size 27 i0 (.agg #[.int .i64 0, .int .i64 0]) 2 16 Try.underlying22 hi hz0 hz1 hz2 rfl (by decide) _ _ _ rfl (hown.alloc _) ⟨wr.heap.size, 0, none⟩ 1 1 [.int .i64 frm, .int .i64 1112063] rfl rfl (new_cells0 _ _ _) (new_one _ _) (by unfold maxLen; omega) (by omega) (by simp; omega) ?_; intro v' w2 hown' hgrow _)
        have HP : Brm.endP out frm = out ++ [(frm, 1112063)] := by unfold Brm.endP; rw [if_pos hle]
        have R1 := own_snoc (y := (frm, 1112063)) hown' HP
        have R2 := Below.keep (hbel.alloc (by omega) _) (by simp; omega) (hown.alloc _) hgrow
        have hE := HE.out
        go_ret
        exact ⟨_, rfl, Brm.endP out frm, ⟨hE.1, hE.2, by rw [HP]; simp; omega⟩, R1, R2⟩
      · have HP : Hid (Brm.endP out frm = out) := by show Brm.endP out frm = out; unfold Brm.endP; rw [if_neg hle]; simp
        go_wp2
        have hE := HE.out
        rw [HP.out] at hE
        go_ret
        exact ⟨_, rfl, out, ⟨hE.1, hE.2, by omega⟩, hown, hbel⟩

set_option maxRecDepth 100000 in
set_option maxHeartbeats 800000 in
theorem ror2_any (v : Value) (bo : Option Addr) (a b : List (Int × Int)) (cb : Nat) (w : World) (ha : Sl w v a) (hb : Rd w bo b) (hal : a.length ≤ 400000) (hbl : b.length ≤ 400000) (hla : Brm.PCanon a) (hlb : Brm.PCanon b) :
    Calls Try.prog 38 #[v, .slice bo b.length cb] w fun e w' => ∃ v out, e = .returned v ∧ Sl w' v out ∧ (Brm.PCanon out ∧ (∀ n, Brm.memB out n = (Brm.memB a n || Brm.memB b n)) ∧ out.length ≤ a.length + b.length) ∧ Below w.heap.size w w' := by
  have HA := hide ha; have HB := hide hb; have HLA := hide hla; have HLB := hide hlb
  clear ha hb hla hlb
  go_enter Try.func38, Try.ntmps38
  go_wp2
  go_loopw [5, 6] (fun u i wr => ∃ (k : Nat) (out : List (Int × Int)), k ≤ b.length ∧ i = .int .i64 k ∧ Sl wr u out ∧ (Brm.PCanon out ∧ (∀ n, Brm.memB out n = (Brm.memB a n || Brm.memB (b.take k) n)) ∧ out.length ≤ a.length + k) ∧ Below w.heap.size w wr) (fun _ i _ => b.length - (intOf i).toNat)
  case atStart => exact ⟨0, a, Nat.zero_le _, rfl, HA.out, ⟨HLA.out, fun n => by simp [Brm.memB], by simp⟩, Below.refl _ _⟩
  case round =>
    obtain ⟨k, out, hk, rfl, hsl, ⟨q1, q2, q3⟩, hbel⟩ := hrel
    have HS := hide hsl; have Q1 := hide q1; have Q2 := hide q2
    clear hsl q1 q2
    have hsz := hbel.size
    by_cases hlt : k < b.length
    · obtain ⟨bb, off, rfl, hbb, h1, h2⟩ := HB.out k b[k] (List.getElem?_eq_getElem hlt)
      generalize hx : b[k] = x at h1 h2
      have HX : Hid (b[k]? = some x) := by rw [List.getElem?_eq_getElem hlt, hx]; rfl
      clear hx
      have HG := hide (HLB.out.1 x (List.mem_of_getElem? HX.out))
      obtain ⟨x1, x2⟩ := x
      simp only at h1 h2
      rw [← hbel.cell (p := ⟨bb, _, none⟩) hbb] at h1 h2
      go_wp2_with fail
      refine (join_any _ out _ _ _ HS.out (by omega) Q1.out HG.out).mono ?_
      rintro e w3 ⟨v3, rfl, out', ⟨p1, p2, p3⟩, o3, b3⟩
      have R2 : Below w.heap.size w w3 := hbel.trans (b3.mono hsz)
      have S1 := hide (own_sl o3)
      have P1 := hide p1
      have P2 : Hid (∀ n, Brm.memB out' n = (Brm.memB a n || Brm.memB (b.take (k + 1)) n)) := fun n => by rw [p2 n, Q2.out n, mem_take_succ HX.out, Bool.or_assoc]
      clear p1 p2 o3
      go_wp2
      go_roundw
      case rel => exact ⟨k + 1, out', by omega, by go_num, S1.out, ⟨P1.out, P2.out, by omega⟩, R2⟩
      case measure => simp [intOf]; omega
    · go_wp2
      go_ret
      exact ⟨_, out, rfl, HS.out, ⟨Q1.out, fun n => by rw [Q2.out n, List.take_of_length_le (by omega)], by omega⟩, hbel⟩
end Go.Proofs.Ytaiidpcdeghipaa
