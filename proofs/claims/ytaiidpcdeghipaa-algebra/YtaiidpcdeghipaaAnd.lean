/- What ranges.And does, over what Form does: a walk. -/
import Derived.Test.YtaiidpcdeghipaaNot
import Derived.BigRegion
import Derived.BigQuiet
import Derived.Deep.QuietTactic
import Derived.Deep.DeepCutAuto
namespace Go.Proofs.Ytaiidpcdeghipaa
open Go.RowKit
def lenOf : Value → Nat | .slice _ n _ => n | _ => 0

theorem and_end {a b A B la lb out : List (Int × Int)} {n : Nat} (h : Brm.AInv A B la lb out) (he : la = [] ∨ lb = []) (hA : Brm.IsForm a A) (hB : Brm.IsForm b B) (hn : out.length ≤ n) :
    Brm.Canon out ∧ (∀ r, Brm.runeB r = true → Brm.memB out r = (Brm.memB a r && Brm.memB b r)) ∧ out.length ≤ n :=
  ⟨(Brm.ainv_end h he).1, fun r hr => by rw [(Brm.ainv_end h he).2 r hr, hA.2 r hr, hB.2 r hr], hn⟩

theorem rd_tail {w : World} {b o na : Nat} {x : Int × Int} {s : List (Int × Int)} (h : Rd w (some ⟨b, o, none⟩) (x :: s)) (hna : s.length + 1 ≤ na) : Rd w (if na = 1 then some ⟨b, o, none⟩ else some ⟨b, o + 2, none⟩) s := by
  intro i y hy
  have hi : i < s.length := (List.getElem?_eq_some_iff.1 hy).1
  rw [if_neg (by omega)]
  obtain ⟨b', o', e, hb, h1, h2⟩ := h (i + 1) y (by simpa using hy)
  simp only [Option.some.injEq, Addr.mk.injEq, and_true] at e
  obtain ⟨rfl, rfl⟩ := e
  refine ⟨b, o + 2, rfl, hb, ?_, ?_⟩
  · rw [show o + 2 + i * 2 = o + (i + 1) * 2 from by omega]; exact h1
  · rw [show o + 2 + i * 2 + 1 = o + (i + 1) * 2 + 1 from by omega]; exact h2


theorem both_if (x1 x2 y1 y2 : Int) : Hid (Brm.both (x1, x2) (y1, y2) = (if x1 < y1 then y1 else x1, if y2 < x2 then y2 else x2)) := by
  show (max x1 y1, min x2 y2) = _
  congr 1
  · split <;> omega
  · split <;> omega
theorem putB_len (out : List (Int × Int)) (x y : Int × Int) : (Brm.putB out x y).length ≤ out.length + 1 := by
  unfold Brm.putB; split <;> simp

set_option maxHeartbeats 1000000 in
theorem and_any (hF : FormSaid) (ao bo : Option Addr) (a b : List (Int × Int)) (ca cb : Nat) (w : World) (ha : Rd w ao a) (hb : Rd w bo b) (hal : a.length ≤ 1000000) (hbl : b.length ≤ 1000000)
    (hok : ∀ x ∈ a, Brm.okB x = true) (hok2 : ∀ x ∈ b, Brm.okB x = true) :
    Calls Try.prog 26 #[.slice ao a.length ca, .slice bo b.length cb] w fun e w' => ∃ v, e = .returned v ∧ Hands w w' v fun out => Brm.Canon out ∧ (∀ r, Brm.runeB r = true → Brm.memB out r = (Brm.memB a r && Brm.memB b r)) ∧ out.length ≤ a.length + b.length := by
  obtain ⟨i0, hi, hz0, hz1, hz2⟩ := info_parts Try.info27
  have HF1 := hide (hF ao a ca w ha hal hok)
  have HF2 := hide (fun w' hw => hF bo b cb w' hw hbl hok2)
  have HB := hide hb
  clear hF ha hok hok2 hb
  go_enter Try.func26, Try.ntmps26
  go_wp2_with fail
  refine HF1.out.mono ?_
  rintro e w1 ⟨v1, rfl, A, ⟨hformA, hAl⟩, hown1, hbel1⟩
  go_wp2_with fail
  refine (HF2.out w1 (HB.out.below hbel1)).mono ?_
  rintro e w2 ⟨v2, rfl, B, ⟨hformB, hBl⟩, hown2, hbel2⟩
  obtain ⟨ao1, cap1, rfl, hcap1, hrd1⟩ := own_rd hown1
  obtain ⟨ao2, cap2, rfl, hcap2, hrd2⟩ := own_rd hown2
  have HA1 := hide (hrd1.below hbel2)
  have HA2 := hide hrd2
  have HFA := hide hformA
  have HFB := hide hformB
  have HS := hide (Brm.ainv_start hformA.1 hformB.1)
  clear hrd1 hrd2 hformA hformB hown1 hown2
  go_wp2
  go_loopw [0, 1, 5] (fun va vb vo wr => ∃ (aoa aob : Option Addr) (na nb : Nat) (la lb out : List (Int × Int)), va = .slice aoa la.length na ∧ vb = .slice aob lb.length nb ∧ la.length ≤ na ∧ lb.length ≤ nb ∧ Rd w2 aoa la ∧ Rd w2 aob lb ∧ Brm.AInv A B la lb out ∧ out.length + la.length + lb.length ≤ A.length + B.length ∧ wr.ownsRow w2.heap.size 27 2 vo out.length (cellsR out) ∧ Below w2.heap.size w2 wr) (fun va vb _ _ => lenOf va + lenOf vb)
  case atStart => exact ⟨_, _, _, _, A, B, [], rfl, rfl, hcap1, hcap2, HA1.out, HA2.out, HS.out, by simp, World.ownsRow_nil _ _ _ _, Below.refl _ _⟩
  case round =>
    obtain ⟨aoa, aob, na, nb, la, lb, out, rfl, rfl, hna, hnb, hra, hrb, hinv, hlen, hown, hbel⟩ := hrel
    have hsz := hbel.size
    have HI := hide hinv; clear hinv
    have HRA := hide hra; have HRB := hide hrb; clear hra hrb
    rcases la with _ | ⟨x, s⟩
    · go_wp2
      go_ret
      exact ⟨_, rfl, out, and_end HI.out (.inl rfl) HFA.out HFB.out (by simp at hlen; omega), own_le hown (Nat.le_trans hbel1.size hbel2.size), (hbel1.trans (hbel2.mono hbel1.size)).trans (hbel.mono (Nat.le_trans hbel1.size hbel2.size))⟩
    rcases lb with _ | ⟨y, t⟩
    · go_wp2
      go_ret
      exact ⟨_, rfl, out, and_end HI.out (.inr rfl) HFA.out HFB.out (by simp at hlen; omega), own_le hown (Nat.le_trans hbel1.size hbel2.size), (hbel1.trans (hbel2.mono hbel1.size)).trans (hbel.mono (Nat.le_trans hbel1.size hbel2.size))⟩
    obtain ⟨b1, o1, rfl, hb1, c1, c2⟩ := HRA.out 0 x rfl
    obtain ⟨b2, o2, rfl, hb2, d1, d2⟩ := HRB.out 0 y rfl
    have C2 := hide c2
    have D2 := hide d2
    rw [← hbel.cell (p := ⟨b1, _, none⟩) hb1] at c1 c2
    rw [← hbel.cell (p := ⟨b2, _, none⟩) hb2] at d1 d2
    simp only [Nat.zero_mul, Nat.add_zero] at c1 c2 d1 d2
    obtain ⟨x1, x2⟩ := x
    obtain ⟨y1, y2⟩ := y
    simp only [List.length_cons] at *
    have e1 : ∀ o c, (wr.alloc o).cell? ⟨b1, c, none⟩ = wr.cell? ⟨b1, c, none⟩ := fun o c => cell_old o c (by omega)
    have e2 : ∀ o c, (wr.alloc o).cell? ⟨b2, c, none⟩ = wr.cell? ⟨b2, c, none⟩ := fun o c => cell_old o c (by omega)
    go_upto_region 4 with fail
    go_cut [6] (fun s wx => ∃ m1 m2 : Int, s = .pointer (some ⟨wr.heap.size, 0, none⟩) ∧ Hid (Brm.both (x1, x2) (y1, y2) = (m1, m2)) ∧ wx = (wr.alloc (.cells #[.int .i64 m1, .int .i64 m2] 27)).drew)
    case first =>
      go_region
      have HM := both_if x1 x2 y1 y2
      generalize (if x1 < y1 then y1 else x1) = m1 at HM ⊢
      generalize (if y2 < x2 then y2 else x2) = m2 at HM ⊢
      go_wp2_with fail
      go_meet
      case rel => exact ⟨_, _, rfl, HM, rfl⟩
    case rest =>
      obtain ⟨m1, m2, rfl, HB, rfl⟩ := hcut
      clear e1 e2
      go_upto_if 42 with fail
      go_cut [5] (fun v wx => wx.ownsRow w2.heap.size 27 2 v (Brm.putB out (x1, x2) (y1, y2)).length (cellsR (Brm.putB out (x1, x2) (y1, y2))) ∧ Below w2.heap.size w2 wx)
      case first =>
        by_cases hle : m1 ≤ m2
        · have HP : Hid (Brm.putB out (x1, x2) (y1, y2) = out ++ [(m1, m2)]) := by
            show Brm.putB out (x1, x2) (y1, y2) = _
            unfold Brm.putB; rw [HB.out, if_pos ((Brm.rise_iff _).2 hle)]
          go_wp2_with (at_builtin; refine wpList_append_own _ rfl _ _ 22 rfl w2.heap.size 27 i0 (.agg #[.int .i64 0, .int .i64 0]) 2 16 Try.underlying22 hi hz0 hz1 hz2 rfl (by decide) _ _ _ rfl ((hown.alloc _).alloc _) ⟨wr.heap.size + 1, 0, none⟩ 1 1 [.int .i64 m1, .int .i64 m2] rfl rfl (new_cells _ _ _ _) (new_one _ _) (by unfold maxLen; omega) (by omega) (by simp; omega) ?_; intro v' w3 hown' hgrow _)
          have R1 := own_snoc (y := (m1, m2)) hown' HP.out
          have R2 := Below.keep ((hbel.alloc (by omega) _).alloc (by simp; omega) _).drew (by simp; omega) ((hown.alloc _).alloc _).drew hgrow
          go_meet
          case rel => exact ⟨R1, R2⟩
        · have HP : Hid (Brm.putB out (x1, x2) (y1, y2) = out) := by
            show Brm.putB out (x1, x2) (y1, y2) = _
            unfold Brm.putB; rw [HB.out, if_neg (by rw [Brm.rise_iff]; exact hle)]; simp
          go_wp2_with fail
          go_meet
          case rel => exact ⟨own_same (hown.alloc _).drew HP.out, (hbel.alloc (by omega) _).drew⟩
      case rest =>
        obtain ⟨R1, R2⟩ := hcut
        clear hown hbel c1 c2 d1 d2
        have hpl := putB_len out (x1, x2) (y1, y2)
        have c2 : wc.cell? ⟨b1, o1 + 1, none⟩ = some (.int .i64 x2) := (R2.cell (p := ⟨b1, _, none⟩) hb1).trans (by simpa using C2.out)
        have d2 : wc.cell? ⟨b2, o2 + 1, none⟩ = some (.int .i64 y2) := (R2.cell (p := ⟨b2, _, none⟩) hb2).trans (by simpa using D2.out)
        go_wp2_with fail
        by_cases hlt : x2 < y2
        · go_quiet (fail)
          go_wp2
          go_roundw
          case rel => exact ⟨_, _, _, _, s, (y1, y2) :: t, Brm.putB out (x1, x2) (y1, y2), rfl, rfl, by omega, by simpa using hnb, rd_tail HRA.out hna, HRB.out, Brm.ainv_left HI.out hlt, by simp only [List.length_cons]; omega, R1, below_drawn R2⟩
          case measure => simp [lenOf]
        · go_quiet (fail)
          go_wp2
          go_roundw
          case rel => exact ⟨_, _, _, _, (x1, x2) :: s, t, Brm.putB out (x1, x2) (y1, y2), rfl, rfl, by simpa using hna, by omega, HRA.out, rd_tail HRB.out hnb, Brm.ainv_right HI.out (by simpa using hlt), by simp only [List.length_cons]; omega, R1, below_drawn R2⟩
          case measure => simp [lenOf]
end Go.Proofs.Ytaiidpcdeghipaa
