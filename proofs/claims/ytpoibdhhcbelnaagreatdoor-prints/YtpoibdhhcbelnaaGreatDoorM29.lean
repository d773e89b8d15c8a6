/- The reference's Print: a walk. -/
import Derived.Test.YtpoibdhhcbelnaaGreatDoorM27
import Derived.Test.YtpoibdhhcbelnaaGreatDoorM19
namespace Go.Proofs.YtpoibdhhcbelnaaGreatDoor
open Go.RowKit Brm

/-- What is written of a pattern that was read. -/
def wrOf (op : Option Pat) : List UInt8 := match op with | some p => p.wr | none => []
/-- What Print answers to a pattern's bytes: the text, the error, the place. -/
def PrintR (bs : List UInt8) (t : List UInt8) (er place : Int) : Prop := ∃ op, ReadR bs (er, place, op) ∧ t = wrOf op
theorem printR_unique {bs t t' : List UInt8} {er er' place place' : Int} (h : PrintR bs t er place) (h' : PrintR bs t' er' place') : t' = t ∧ er' = er ∧ place' = place := by
  obtain ⟨op, h1, rfl⟩ := h
  obtain ⟨op', h2, rfl⟩ := h'
  have := readR_unique h1 h2
  simp only [Prod.mk.injEq] at this
  obtain ⟨rfl, rfl, rfl⟩ := this
  exact ⟨rfl, rfl, rfl⟩
theorem readR_some {bs : List UInt8} {er place : Int} {p : Pat} (h : ReadR bs (er, place, some p)) : er = 0 ∧ place = 0 ∧ p.Ok ∧ p.wr.length ≤ 3600 := by
  rcases h with ⟨_, h⟩ | ⟨_, k, _, h⟩ | ⟨hl, l, hr, h⟩
  · simp at h
  · simp at h
  · have hp := orN_pat false (l.length + 1) l (runes_all hr)
    have hlen := runes_len hr
    unfold outcome at h
    cases ho : orN false (l.length + 1) l with
    | bad s => rw [ho] at h; simp at h
    | ok q s =>
      rw [ho] at h hp
      cases s with
      | cons c t => simp at h
      | nil =>
        simp only at h
        split at h
        · simp at h
        · simp only [Prod.mk.injEq, Option.some.injEq] at h
          obtain ⟨rfl, rfl, rfl⟩ := h
          obtain ⟨h1, h2⟩ := hp
          simp only [List.length_nil, Nat.mul_zero, Nat.add_zero, Nat.zero_add] at h2
          exact ⟨rfl, rfl, h1, by omega⟩
theorem readR_none {bs : List UInt8} {er place : Int} (h : ReadR bs (er, place, none)) : er ≠ 0 := by
  rcases h with ⟨_, h⟩ | ⟨_, k, _, h⟩ | ⟨hl, l, hr, h⟩
  · simp at h; omega
  · simp at h; omega
  · unfold outcome at h
    cases ho : orN false (l.length + 1) l with
    | bad s => rw [ho] at h; simp at h; omega
    | ok q s =>
      rw [ho] at h
      cases s with
      | cons c t => simp at h; omega
      | nil =>
        simp only at h
        split at h
        · simp at h; omega
        · simp at h
set_option maxRecDepth 100000 in
set_option maxHeartbeats 1000000 in
theorem print_ref (s : ByteArray) (w : World) (hm : s.size ≤ 9223372036854775807) : Calls Tryz.prog 14 #[.string s] w fun e w' => ∃ t er place, e = .returned (.tuple #[.string t, .int .i64 er, .int .i64 place]) ∧ PrintR (bytesOf s) (bytesOf t) er place ∧ Below w.heap.size w w' := by
  have HR := hide (read_ref s w hm)
  go_enter Tryz.func14, Tryz.ntmps14
  go_wp2_with fail
  refine HR.out.mono ?_
  rintro e w1 ⟨hb1, k, so, sn, sc, lo, ln, lc, mm, nn, rr, gr, er, place, op, hr, rfl, hop⟩
  have HB1 := hide hb1
  have HRR := hide hr
  clear hb1
  cases op with
  | none =>
    have hne : (er == 0) = false := beq_eq_false_iff_ne.2 (readR_none hr)
    clear hr hop
    go_wp2
    refine bodyPost_ret (v := .tuple #[.string ⟨#[]⟩, .int .i64 er, .int .i64 place]) (by simp [results, Tryz.results14, go_sem]) rfl ?_
    exact ⟨_, _, _, rfl, ⟨none, HRR.out, rfl⟩, HB1.out.trans ((new1 _ _).mono HB1.out.size)⟩
  | some p =>
    obtain ⟨rfl, rfl, hok, hlen⟩ := readR_some hr
    obtain ⟨hnv, hgr⟩ := hop
    have HNV := hide hnv
    have HOK := hide hok
    have HLN := hide (show p.wr.length ≤ 4000 by omega)
    clear hr hnv hok hlen hgr
    go_wp2_with fail
    refine (text_all p _ _ 0 _ (HNV.out.alloc _) HLN.out HOK.out).mono ?_
    rintro e w2 ⟨t, rfl, ht, hb2⟩
    have HT := hide ht
    have HB2 := hide hb2
    clear ht hb2
    go_wp2
    refine bodyPost_ret (v := .tuple #[.string t, .int .i64 0, .int .i64 0]) (by simp [results, Tryz.results14, go_sem]) rfl ?_
    exact ⟨t, 0, 0, rfl, ⟨some p, HRR.out, HT.out⟩, HB1.out.trans (((new1 _ _).trans (HB2.out.mono (by simp))).mono HB1.out.size)⟩
end Go.Proofs.YtpoibdhhcbelnaaGreatDoor
