/- What the reference's join does at whatever slice, its norm, not and or: walks. -/
import Derived.Test.YtaiidpcdeghipaaJoin
namespace Go.Proofs.Ytaiidpcdeghipaa
open Go.RowKit

set_option maxRecDepth 100000 in
set_option maxHeartbeats 1000000 in
theorem join_nil (x1 x2 : Int) (w : World) (hx : Brm.PGood (x1, x2)) :
    Calls Try.prog 51 #[.slice none 0 0, .agg #[.int .i64 x1, .int .i64 x2]] w fun e w' => ∃ v, e = .returned v ∧ Hands w w' v fun out => Brm.PCanon out ∧ (∀ n, Brm.memB out n = (Brm.memB [] n || Brm.inB (x1, x2) n)) ∧ out.length ≤ 0 + 1 := by
  have HX := hide hx
  clear hx
  obtain ⟨i0, hi, hz0, hz1, hz2⟩ := info_parts Try.info27
  have hd : decide ((0 : Int) < 0) = false := rfl
  go_enter Try.func51, Try.ntmps51
  go_wp2
  go_loopw [5, 6] (fun v i wr => v = .slice none 0 0 ∧ i = .int .i64 0 ∧ ∃ n, wr = (w.alloc (.cells #[.int .i64 x1, .int .i64 x2] 27)).drewN n) (fun _ _ _ => 0)
  case atStart => exact ⟨rfl, rfl, 0, rfl⟩
  case round =>
    obtain ⟨rfl, rfl, n, rfl⟩ := hrel
    go_wp2_with fail
    go_quiet (fail)
    go_wp2
    go_loopw [6] (fun i wr => i = .int .i64 0 ∧ ∃ n, wr = (w.alloc (.cells #[.int .i64 x1, .int .i64 x2] 27)).drewN n) (fun _ _ => 0)
    case atStart => exact ⟨rfl, n + nq, by simp [World.drewN, Nat.add_assoc]⟩
    case round =>
      obtain ⟨rfl, m, rfl⟩ := hrel
      go_wp2_with fail
      go_quiet (fail)
      go_wp2_with (first
        | (at_builtin; refine wpList_append_own _ rfl (.tmp 66) (.tmp 68) 22 rfl (w.heap.size + 1) 27 i0 (.agg #[.int .i64 0, .int .i64 0]) 2 16 Try.underlying22 hi hz0 hz1 hz2 rfl (by decide) _ _ _ rfl (World.ownsRow_nil _ _ _ _) ⟨w.heap.size + 1, 0, none⟩ 1 1 [.int .i64 x1, .int .i64 x2] rfl rfl (new_cells _ _ _ _) (new_one _ _) (by unfold maxLen; omega) (by omega) (by simp) ?_; intro v' w3 hown' hgrow _)
        | (at_builtin; refine wpList_append_own_none rfl (.tmp 70) (.tmp 73) 22 rfl (w.heap.size + 1) 27 i0 2 Try.underlying22 hi _ _ _ rfl hown' rfl ?_))
      have R2 : Below w.heap.size w w3 := ((below_drawn ((Below.refl _ w).alloc (Nat.le_refl _) _)).alloc (by simp) _).grown hgrow (by simp; omega) (fun k e => by cases e)
      go_ret
      exact ⟨v', rfl, [(x1, x2)], ⟨⟨fun z hz => by simp at hz; exact hz ▸ HX.out, by simp⟩, fun n => by simp [Brm.memB], by simp⟩, own_le hown' (Nat.le_succ _), R2⟩

theorem join_any (v : Value) (l : List (Int × Int)) (x1 x2 : Int) (w : World) (h : Sl w v l) (hlen : l.length ≤ 1000000) (hl : Brm.PCanon l) (hx : Brm.PGood (x1, x2)) :
    Calls Try.prog 51 #[v, .agg #[.int .i64 x1, .int .i64 x2]] w fun e w' => ∃ v, e = .returned v ∧ Hands w w' v fun out => Brm.PCanon out ∧ (∀ n, Brm.memB out n = (Brm.memB l n || Brm.inB (x1, x2) n)) ∧ out.length ≤ l.length + 1 := by
  rcases h with ⟨rfl, rfl⟩ | ⟨b, off, cap, rfl, hc, hlt, hr⟩
  · exact join_nil x1 x2 w hx
  · exact join_some b off cap l x1 x2 w hr hlt hc hlen hl hx

/-- What norm has made of the first ranges. -/
def NormI (l : List (Int × Int)) (k : Nat) (out : List (Int × Int)) : Prop :=
  Brm.PCanon out ∧ (∀ r, Brm.runeB r = true → Brm.memB out (Brm.up r) = Brm.memB (l.take k) r) ∧ out.length ≤ k
theorem normi_keep {l out out' : List (Int × Int)} {k : Nat} {x : Int × Int} (h : NormI l k out) (hx : l[k]? = some x) (hok : Brm.okB x = true) (h1 : Brm.PCanon out')
    (h2 : ∀ n, Brm.memB out' n = (Brm.memB out n || Brm.inB (Brm.up x.1, Brm.down x.2) n)) (h3 : out'.length ≤ out.length + 1) : NormI l (k + 1) out' :=
  ⟨h1, fun r hr => by rw [h2, h.2.1 r hr, Brm.lift_in x r hok hr, mem_take_succ hx], by have := h.2.2; omega⟩
theorem normi_drop {l out : List (Int × Int)} {k : Nat} {x : Int × Int} (h : NormI l k out) (hx : l[k]? = some x) (hok : Brm.okB x = true) (hn : ¬ Brm.up x.1 ≤ Brm.down x.2) : NormI l (k + 1) out := by
  refine ⟨h.1, fun r hr => ?_, by have := h.2.2; omega⟩
  rw [h.2.1 r hr, mem_take_succ hx, ← Brm.lift_in x r hok hr]
  have : Brm.inB (Brm.up x.1, Brm.down x.2) (Brm.up r) = false := by
    rw [← Bool.not_eq_true, Brm.in_iff]; simp only; omega
  rw [this, Bool.or_false]

set_option maxRecDepth 100000 in
set_option maxHeartbeats 800000 in
theorem rnorm_any (ao : Option Addr) (l : List (Int × Int)) (cap : Nat) (w : World) (hcells : Rd w ao l) (hlen : l.length ≤ 1000000) (hok : ∀ x ∈ l, Brm.okB x = true) :
    Calls Try.prog 36 #[.slice ao l.length cap] w fun e w' => ∃ v out, e = .returned v ∧ Sl w' v out ∧ NormI l l.length out ∧ Below w.heap.size w w' := by
  have HC := hide hcells; have HK := hide hok
  clear hcells hok
  go_enter Try.func36, Try.ntmps36
  go_wp2
  go_loopw [3, 4] (fun v i wr => ∃ (k : Nat) (out : List (Int × Int)), k ≤ l.length ∧ i = .int .i64 k ∧ Sl wr v out ∧ NormI l k out ∧ Below w.heap.size w wr) (fun _ i _ => l.length - (intOf i).toNat)
  case atStart => exact ⟨0, [], Nat.zero_le _, rfl, .inl ⟨rfl, rfl⟩, ⟨Brm.pcanon_nil, fun _ _ => rfl, by simp⟩, Below.refl _ _⟩
  case round =>
    obtain ⟨k, out, hk, rfl, hsl, hinv, hbel⟩ := hrel
    have hsz := hbel.size
    have HS := hide hsl; have HI := hide hinv
    have hol := hinv.2.2
    clear hsl hinv
    by_cases hlt : k < l.length
    · obtain ⟨b, off, rfl, hb, h1, h2⟩ := HC.out k l[k] (List.getElem?_eq_getElem hlt)
      generalize hx : l[k] = x at h1 h2
      have HX : Hid (l[k]? = some x) := by rw [List.getElem?_eq_getElem hlt, hx]; rfl
      clear hx
      have HOK := hide (HK.out x (List.mem_of_getElem? HX.out))
      have hok2 := HOK.out
      obtain ⟨x1, x2⟩ := x
      simp [Brm.okB] at hok2
      obtain ⟨g1, g2, g3⟩ := hok2
      simp only at h1 h2
      rw [← hbel.cell (p := ⟨b, _, none⟩) hb] at h1 h2
      have i1 : (0 : Int) ≤ (k : Int) := Int.natCast_nonneg _
      have i2 : (k : Int) < (l.length : Int) := by omega
      have hbw : b < wr.heap.size := by omega
      have w1 := World.new_ne wr _ h1
      have w2 := World.new_ne wr _ h2
      go_wp2_with fail
      go_region_held3 (fun w' => w'.cell? ⟨b, off + k * 2, none⟩ = some (.int .i64 x1) ∧ w'.cell? ⟨b, off + k * 2 + 1, none⟩ = some (.int .i64 x2))
        (go_keep)
        ((first
          | (go_at_call 39; refine (up_any _ _ (by omega) (by omega)).mono ?_; rintro e w' ⟨rfl, rfl⟩)
          | (go_at_call 40; refine (down_any _ _ (by omega) (by omega)).mono ?_; rintro e w' ⟨rfl, rfl⟩)))
      all_goals
        by_cases hle : Brm.up x1 ≤ Brm.down x2
        · have HG := hide (Brm.lift_good (x1, x2) HOK.out hle)
          go_wp2_with fail
          refine (join_any _ out _ _ _ (HS.out.below ((Below.refl _ wr).alloc (Nat.le_refl _) _).drew) (by omega) HI.out.1 HG.out).mono ?_
          rintro e w3 ⟨v3, rfl, out', ⟨q1, q2, q3⟩, o3, b3⟩
          have R2 : Below w.heap.size w w3 := (hbel.alloc (by omega) _).drew.trans (b3.mono (by simp; omega))
          have R1 := hide (normi_keep HI.out HX.out HOK.out q1 q2 q3)
          clear q1 q2
          have S1 := hide (own_sl o3)
          go_wp2
          go_roundw
          case rel => exact ⟨k + 1, out', by omega, by go_num, S1.out, R1.out, R2⟩
          case measure => simp [intOf]; omega
        · have R1 := hide (normi_drop HI.out HX.out HOK.out hle)
          go_wp2
          go_roundw
          case rel => exact ⟨k + 1, out, by omega, by go_num, HS.out.below ((Below.refl _ wr).alloc (Nat.le_refl _) _).drew, R1.out, (hbel.alloc (by omega) _).drew⟩
          case measure => simp [intOf]; omega
    · go_wp2
      go_ret
      exact ⟨_, out, rfl, HS.out, (by have e : k = l.length := by omega
                                      exact e ▸ HI.out), hbel⟩
end Go.Proofs.Ytaiidpcdeghipaa
