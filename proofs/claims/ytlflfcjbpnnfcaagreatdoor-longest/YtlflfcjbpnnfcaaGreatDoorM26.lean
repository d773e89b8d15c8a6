/- Walks and plain laws, some texts in one. -/
import Derived.Test.YtlflfcjbpnnfcaaGreatDoorM18
import Derived.Test.YtlflfcjbpnnfcaaGreatDoorM16
import Derived.Test.YtlflfcjbpnnfcaaGreatDoorM17
import Derived.Test.YtlflfcjbpnnfcaaGreatDoorM02
/- The program's reader: brackets: a walk. -/
namespace Go.Proofs.YtlflfcjbpnnfcaaGreatDoor
open Go.RowKit Brm

/-- Brackets, item by item. -/
def BrP (w : World) (b : Nat) (s : ByteArray) (l : List Int) (d m : Int) (R : Res (List (Int × Int))) (k : Nat) (v : Value) (wr : World) : Prop :=
  Off b w wr ∧ ∃ l0 s0, PSt wr b s l s0 d m ∧ wr.ownsRow w.heap.size 149 2 v l0.length (cellsR l0) ∧ itemsP k l0 s0 = R ∧ (∀ x ∈ l0, okB x = true) ∧ l0.length + 5 * s0.length ≤ 400 ∧ s0.length < k
theorem range_ne {a : Int} {t q : List Int} {x : List (Int × Int)} (h : rangeP a t = .ok x q) : x ≠ [] := by
  cases t with
  | nil => simp [rangeP] at h; rw [← h.1]; simp
  | cons e t =>
    simp only [rangeP] at h
    split at h
    · cases hs : singleP a t with
      | bad q => rw [hs] at h; simp [Res.map] at h
      | ok y q => rw [hs] at h; simp [Res.map] at h; rw [← h.1]; simp
    · simp at h; rw [← h.1]; simp
theorem class_ne {c : Int} (h : isClass c = true) : classOf c ≠ [] := by
  rcases class_cases h with rfl | rfl | rfl | rfl | rfl | rfl <;> decide
theorem item_ne {r q : List Int} {x : List (Int × Int)} (h : itemP r = .ok x q) : x ≠ [] := by
  cases r with
  | nil => simp [itemP] at h
  | cons c t =>
    simp only [itemP] at h
    split at h
    · cases t with
      | nil => simp [escP, Res.bind] at h
      | cons y t =>
        simp only [escP] at h
        split at h
        · exact range_ne h
        · split at h
          · rename_i hc
            simp [Res.bind] at h
            rw [← h.1]; exact class_ne hc
          · simp [Res.bind] at h
    · split at h
      · simp at h
      · exact range_ne h
theorem own_catR {w : World} {B : Nat} {v : Value} {a c : List (Int × Int)} (h : w.ownsRow B 149 2 v (a.length + c.length) (cellsR a ++ cellsR c)) : w.ownsRow B 149 2 v (a ++ c).length (cellsR (a ++ c)) := by
  rw [List.length_append, cellsR_append]; exact h
/-- The reader's state behind the growth of another row. -/
theorem PSt.grown {w w' : World} {b : Nat} {s : ByteArray} {l r : List Int} {d m : Int} {row : Option Nat} (h : PSt w b s l r d m) (hg : w.grownBy w' row) (hr : ∀ k, row = some k → b < k) : PSt w' b s l r d m := by
  have h7 := h.2.2.2.2.2.1
  refine ⟨Blk.grown h.1 hg (fun e => by have := hr b e.symm; omega), h.2.1, h.2.2.1, h.2.2.2.1, ?_, h.2.2.2.2.2⟩
  have hT := h.2.2.2.2.1
  exact ⟨Nat.le_trans hT.1 hg.size, fun W hW => hT.2 W (fun k hk => (hW k hk).trans (hg.block k (by have := hT.1; omega) (fun e => by have := hr k e.symm; omega)))⟩
set_option maxRecDepth 100000 in
set_option maxHeartbeats 1000000 in
theorem bracket_not (b : Nat) (s : ByteArray) (l : List Int) (d m : Int) (w : World) (s1 : List Int) (h : PSt w b s l (91 :: 94 :: s1) d m) : PGives 285 b s l d m (((itemsP (s1.length + 2) [] s1).map (fun x => notC (form x))).map .set) w := by
  have HS := hide h
  have HO := hide (Off.refl b w)
  have HBb := hide h.1.lt
  have hs60 := h.2.2.2.1
  have hl60 : l.length ≤ 60 := by have := runes_len h.2.2.1; rw [bytes_len] at this; omega
  have hsl := h.2.1.length_le
  skip
  clear h
  obtain ⟨i0, hi, hz0, hz1, hz2⟩ := info_parts Tryz.info149
  generalize hR : itemsP (s1.length + 2) [] s1 = R
  have HR0 := hide hR
  clear hR
  unfold PGives
  go_enter Tryz.func285, Tryz.ntmps285
  go_wp2_with (first
    | (go_at_call 207; refine (step_any b s l _ _ d m _ HS.out).mono ?_; rintro e wt ⟨rfl, hst, hot⟩; replace HS := hide hst; replace HO := hide (HO.out.trans hot); clear hst hot)
    | (go_at_call 159; refine (take_yes b s l _ _ d m _ HS.out).mono ?_; rintro e wt ⟨rfl, hst, hot⟩; replace HS := hide hst; replace HO := hide (HO.out.trans hot); clear hst hot))
  go_loopg [5] (s1.length + 2) (fun k v wr => BrP w b s l d m R k v wr)
  case atStart => exact ⟨HO.out, [], s1, HS.out, World.ownsRow_nil _ _ _ _, HR0.out, by simp, by simp at hsl ⊢; omega, by omega⟩
  case round =>
    clear HO HS HR0
    obtain ⟨ho, l0, s0, hst, hown, heq, hok, hle, hk⟩ := hrel
    have hall := (runes_all hst.2.2.1).suf hst.2.1
    have HO := hide ho
    have HS := hide hst
    have HOWN := hide hown
    have HE := hide heq
    have HOK := hide hok
    have HLE := hide hle
    clear ho hst heq hok
    obtain ⟨k', rfl⟩ : ∃ k', gk = k' + 1 := ⟨gk - 1, by omega⟩
    by_cases h93 : s0.head? = some 93
    · obtain ⟨u, rfl⟩ : ∃ u, s0 = 93 :: u := ⟨_, head_cons h93⟩
      have HR : Hid ((R.map (fun x => notC (form x))).map Pat.set = .ok (.set ((fun x => notC (form x)) l0)) u) := by
        have := HE.out
        simp only [itemsP, List.head?_cons, if_true, List.tail_cons] at this
        show _ = _
        rw [← this]; rfl
      clear h93 hall hown
      have HLN : Hid (l0.length ≤ 1000000) := by show _ ≤ _; omega
      go_wp2_with fail
      refine (take_yes b s l _ _ d m _ HS.out).mono ?_
      rintro e wt ⟨rfl, hst, hot⟩
      have HOW2 := hide (own_block HOWN.out (fun q hq => hot.block q (HOWN.out.lt q hq).2 (by have := (HOWN.out.lt q hq).1; have := HBb.out; omega)))
      replace HS := hide hst
      replace HO := hide (HO.out.trans hot)
      clear hst hot
      obtain ⟨ao, cap, rfl, _, hrd⟩ := own_rd HOW2.out
      have HRD := hide hrd
      clear hrd
      go_wp2_with fail
      refine (pnot_set ao l0 cap _ HRD.out HLN.out HOK.out).mono ?_
      rintro e w6 ⟨v6, rfl, hv6, hb6⟩
      obtain ⟨ao6, cap6, rfl, _, _⟩ := hv6.sl.rd
      have HEN := hide (end_set (HO.out.trans (Off.below hb6)) (hv6.mono (A' := New w) (fun k _ hk => Nat.le_trans HO.out.size hk)) (HS.out.below hb6))
      clear hv6 hb6
      go_wp2
      go_ret2
      rw [HR.out]
      exact HEN.out
    · have HN93 := hide h93
      have hl1 := itemP_list hall
      have htk := itemP_takes s0
      cases hit : itemP s0 with
      | bad s2 =>
        have HRI := hide hit
        have HRB : Hid ((R.map (fun x => notC (form x))).map Pat.set = .bad s2) := by
          have := HE.out
          simp only [itemsP, if_neg h93, hit, Res.bind] at this
          show _ = _
          rw [← this]; rfl
        clear hit hl1 htk h93 hall hown
        go_wp2_with fail
        refine (take_no b s l _ _ d m _ HS.out (by decide) HN93.out).mono ?_
        rintro e wt ⟨rfl, hbt⟩
        replace HS := hide (HS.out.below hbt)
        replace HO := hide (HO.out.trans (Off.below hbt))
        clear hbt
        go_wp2_with fail
        refine (pitem_any b s l d m _ s0 HS.out).mono ?_
        rintro e wi ⟨hoi, hdi⟩
        rw [HRI.out] at hdi
        obtain ⟨hst, rfl⟩ := hdi
        replace HS := hide hst
        replace HO := hide (HO.out.trans hoi)
        clear hst hoi
        go_wp2
        go_ret2
        exact ⟨HO.out, by rw [HRB.out]; exact ⟨rfl, _, HS.out⟩⟩
      | ok x s2 =>
        have HRI := hide hit
        have hne := item_ne hit
        rw [hit] at hl1 htk
        have HX0 := hide hl1
        have HE2 : Hid (itemsP k' (l0 ++ x) s2 = R) := by
          have := HE.out
          simp only [itemsP, if_neg h93, hit, Res.bind] at this
          exact this
        have HLT := hide htk.1
        have hx9 : x.length ≤ 400 := by have := hl1.2; simp at this; omega
        have HX9 := hide hx9
        have hl9 : l0.length ≤ 400 := by omega
        have HL9 := hide hl9
        clear hit hl1 htk h93 hall hown hx9 hl9
        go_wp2_with fail
        refine (take_no b s l _ _ d m _ HS.out (by decide) HN93.out).mono ?_
        rintro e wt ⟨rfl, hbt⟩
        replace HOWN := hide (own_block HOWN.out (fun q hq => hbt.block q (HOWN.out.lt q hq).2))
        replace HS := hide (HS.out.below hbt)
        replace HO := hide (HO.out.trans (Off.below hbt))
        clear hbt
        go_wp2_with fail
        refine (pitem_any b s l d m _ s0 HS.out).mono ?_
        rintro e wi ⟨hoi, hdi⟩
        rw [HRI.out] at hdi
        obtain ⟨hst, vx, rfl, hvx⟩ := hdi
        replace HOWN := hide (own_block HOWN.out (fun q hq => hoi.block q (HOWN.out.lt q hq).2 (by have := (HOWN.out.lt q hq).1; have := HBb.out; omega)))
        replace HS := hide hst
        replace HO := hide (HO.out.trans hoi)
        clear hst hoi
        rcases hvx with ⟨_, e0⟩ | ⟨bb, oo, cc, rfl, hcc, hnew, hblt, hrd⟩
        · exact absurd e0 hne
        have HSC := hide (src_cells hrd (Below.refl _ _) rfl)
        have hsz := HO.out.size
        clear hrd hnew hblt hne hcc
        go_wp2_with (at_builtin; refine wpList_append_own _ rfl _ _ 29 rfl w.heap.size 149 i0 (.agg #[.int .i64 0, .int .i64 0]) 2 16 Tryz.underlying29 hi hz0 hz1 hz2 rfl (by decide) _ _ _ rfl HOWN.out ⟨bb, oo, none⟩ x.length cc (cellsR x) rfl (cellsR_length x) HSC.out (src_one x) (by unfold maxLen; have := HX9.out; have := HL9.out; omega) (by have := HX9.out; have := HL9.out; omega) hsz ?_; intro v3 w3 ho3 hg3 hnil3; have HW3 := hide (own_catR ho3); have HG3 := hide hg3; clear ho3 hg3 hnil3)
        go_roundg k'
        case measure => omega
        case rel =>
          refine ⟨HO.out.grown HG3.out (fun q e => (HOWN.out.lt q e).1), l0 ++ x, s2, ?_, HW3.out, HE2.out, ?_, ?_, ?_⟩
          · exact HS.out.grown HG3.out (fun q e => by have := (HOWN.out.lt q e).1; have := HBb.out; omega)
          · intro y hy
            rcases List.mem_append.1 hy with hy | hy
            · exact HOK.out y hy
            · exact HX0.out.1 y hy
          · have := HLE.out; have := HX0.out.2; rw [List.length_append]; omega
          · have := HLT.out; omega
set_option maxRecDepth 100000 in
set_option maxHeartbeats 1000000 in
theorem bracket_yes (b : Nat) (s : ByteArray) (l : List Int) (d m : Int) (w : World) (s1 : List Int) (h : PSt w b s l (91 :: s1) d m) (hn : s1.head? ≠ some 94) : PGives 285 b s l d m (((itemsP (s1.length + 2) [] s1).map form).map .set) w := by
  have HS := hide h
  have HO := hide (Off.refl b w)
  have HBb := hide h.1.lt
  have hs60 := h.2.2.2.1
  have hl60 : l.length ≤ 60 := by have := runes_len h.2.2.1; rw [bytes_len] at this; omega
  have hsl := h.2.1.length_le
  have HN := hide hn; clear hn
  clear h
  obtain ⟨i0, hi, hz0, hz1, hz2⟩ := info_parts Tryz.info149
  generalize hR : itemsP (s1.length + 2) [] s1 = R
  have HR0 := hide hR
  clear hR
  unfold PGives
  go_enter Tryz.func285, Tryz.ntmps285
  go_wp2_with (first
    | (go_at_call 207; refine (step_any b s l _ _ d m _ HS.out).mono ?_; rintro e wt ⟨rfl, hst, hot⟩; replace HS := hide hst; replace HO := hide (HO.out.trans hot); clear hst hot)
    | (go_at_call 159; refine (take_no b s l _ _ d m _ HS.out (by decide) HN.out).mono ?_; rintro e wt ⟨rfl, hbt⟩; replace HS := hide (HS.out.below hbt); replace HO := hide (HO.out.trans (Off.below hbt)); clear hbt))
  go_loopg [5] (s1.length + 2) (fun k v wr => BrP w b s l d m R k v wr)
  case atStart => exact ⟨HO.out, [], s1, HS.out, World.ownsRow_nil _ _ _ _, HR0.out, by simp, by simp at hsl ⊢; omega, by omega⟩
  case round =>
    clear HO HS HR0
    obtain ⟨ho, l0, s0, hst, hown, heq, hok, hle, hk⟩ := hrel
    have hall := (runes_all hst.2.2.1).suf hst.2.1
    have HO := hide ho
    have HS := hide hst
    have HOWN := hide hown
    have HE := hide heq
    have HOK := hide hok
    have HLE := hide hle
    clear ho hst heq hok
    obtain ⟨k', rfl⟩ : ∃ k', gk = k' + 1 := ⟨gk - 1, by omega⟩
    by_cases h93 : s0.head? = some 93
    · obtain ⟨u, rfl⟩ : ∃ u, s0 = 93 :: u := ⟨_, head_cons h93⟩
      have HR : Hid ((R.map form).map Pat.set = .ok (.set (form l0)) u) := by
        have := HE.out
        simp only [itemsP, List.head?_cons, if_true, List.tail_cons] at this
        show _ = _
        rw [← this]; rfl
      clear h93 hall hown
      have HLN : Hid (l0.length ≤ 1000000) := by show _ ≤ _; omega
      go_wp2_with fail
      refine (take_yes b s l _ _ d m _ HS.out).mono ?_
      rintro e wt ⟨rfl, hst, hot⟩
      have HOW2 := hide (own_block HOWN.out (fun q hq => hot.block q (HOWN.out.lt q hq).2 (by have := (HOWN.out.lt q hq).1; have := HBb.out; omega)))
      replace HS := hide hst
      replace HO := hide (HO.out.trans hot)
      clear hst hot
      obtain ⟨ao, cap, rfl, _, hrd⟩ := own_rd HOW2.out
      have HRD := hide hrd
      clear hrd
      go_wp2_with fail
      refine (form_set ao l0 cap _ HRD.out HLN.out HOK.out).mono ?_
      rintro e w6 ⟨v6, rfl, hv6, hb6⟩
      obtain ⟨ao6, cap6, rfl, _, _⟩ := hv6.sl.rd
      have HEN := hide (end_set (HO.out.trans (Off.below hb6)) (hv6.mono (A' := New w) (fun k _ hk => Nat.le_trans HO.out.size hk)) (HS.out.below hb6))
      clear hv6 hb6
      go_wp2
      go_ret2
      rw [HR.out]
      exact HEN.out
    · have HN93 := hide h93
      have hl1 := itemP_list hall
      have htk := itemP_takes s0
      cases hit : itemP s0 with
      | bad s2 =>
        have HRI := hide hit
        have HRB : Hid ((R.map form).map Pat.set = .bad s2) := by
          have := HE.out
          simp only [itemsP, if_neg h93, hit, Res.bind] at this
          show _ = _
          rw [← this]; rfl
        clear hit hl1 htk h93 hall hown
        go_wp2_with fail
        refine (take_no b s l _ _ d m _ HS.out (by decide) HN93.out).mono ?_
        rintro e wt ⟨rfl, hbt⟩
        replace HS := hide (HS.out.below hbt)
        replace HO := hide (HO.out.trans (Off.below hbt))
        clear hbt
        go_wp2_with fail
        refine (pitem_any b s l d m _ s0 HS.out).mono ?_
        rintro e wi ⟨hoi, hdi⟩
        rw [HRI.out] at hdi
        obtain ⟨hst, rfl⟩ := hdi
        replace HS := hide hst
        replace HO := hide (HO.out.trans hoi)
        clear hst hoi
        go_wp2
        go_ret2
        exact ⟨HO.out, by rw [HRB.out]; exact ⟨rfl, _, HS.out⟩⟩
      | ok x s2 =>
        have HRI := hide hit
        have hne := item_ne hit
        rw [hit] at hl1 htk
        have HX0 := hide hl1
        have HE2 : Hid (itemsP k' (l0 ++ x) s2 = R) := by
          have := HE.out
          simp only [itemsP, if_neg h93, hit, Res.bind] at this
          exact this
        have HLT := hide htk.1
        have hx9 : x.length ≤ 400 := by have := hl1.2; simp at this; omega
        have HX9 := hide hx9
        have hl9 : l0.length ≤ 400 := by omega
        have HL9 := hide hl9
        clear hit hl1 htk h93 hall hown hx9 hl9
        go_wp2_with fail
        refine (take_no b s l _ _ d m _ HS.out (by decide) HN93.out).mono ?_
        rintro e wt ⟨rfl, hbt⟩
        replace HOWN := hide (own_block HOWN.out (fun q hq => hbt.block q (HOWN.out.lt q hq).2))
        replace HS := hide (HS.out.below hbt)
        replace HO := hide (HO.out.trans (Off.below hbt))
        clear hbt
        go_wp2_with fail
        refine (pitem_any b s l d m _ s0 HS.out).mono ?_
        rintro e wi ⟨hoi, hdi⟩
        rw [HRI.out] at hdi
        obtain ⟨hst, vx, rfl, hvx⟩ := hdi
        replace HOWN := hide (own_block HOWN.out (fun q hq => hoi.block q (HOWN.out.lt q hq).2 (by have := (HOWN.out.lt q hq).1; have := HBb.out; omega)))
        replace HS := hide hst
        replace HO := hide (HO.out.trans hoi)
        clear hst hoi
        rcases hvx with ⟨_, e0⟩ | ⟨bb, oo, cc, rfl, hcc, hnew, hblt, hrd⟩
        · exact absurd e0 hne
        have HSC := hide (src_cells hrd (Below.refl _ _) rfl)
        have hsz := HO.out.size
        clear hrd hnew hblt hne hcc
        go_wp2_with (at_builtin; refine wpList_append_own _ rfl _ _ 29 rfl w.heap.size 149 i0 (.agg #[.int .i64 0, .int .i64 0]) 2 16 Tryz.underlying29 hi hz0 hz1 hz2 rfl (by decide) _ _ _ rfl HOWN.out ⟨bb, oo, none⟩ x.length cc (cellsR x) rfl (cellsR_length x) HSC.out (src_one x) (by unfold maxLen; have := HX9.out; have := HL9.out; omega) (by have := HX9.out; have := HL9.out; omega) hsz ?_; intro v3 w3 ho3 hg3 hnil3; have HW3 := hide (own_catR ho3); have HG3 := hide hg3; clear ho3 hg3 hnil3)
        go_roundg k'
        case measure => omega
        case rel =>
          refine ⟨HO.out.grown HG3.out (fun q e => (HOWN.out.lt q e).1), l0 ++ x, s2, ?_, HW3.out, HE2.out, ?_, ?_, ?_⟩
          · exact HS.out.grown HG3.out (fun q e => by have := (HOWN.out.lt q e).1; have := HBb.out; omega)
          · intro y hy
            rcases List.mem_append.1 hy with hy | hy
            · exact HOK.out y hy
            · exact HX0.out.1 y hy
          · have := HLE.out; have := HX0.out.2; rw [List.length_append]; omega
          · have := HLT.out; omega
theorem bracket_any (b : Nat) (s : ByteArray) (l : List Int) (d m : Int) (w : World) (r : List Int) (h : PSt w b s l (91 :: r) d m) : PGives 285 b s l d m ((bracketP r).map .set) w := by
  unfold bracketP
  by_cases h94 : r.head? = some 94
  · obtain ⟨u, rfl⟩ : ∃ u, r = 94 :: u := ⟨_, head_cons h94⟩
    simp only [List.head?_cons, if_true, List.tail_cons, List.length_cons]
    exact bracket_not b s l d m w u h
  · rw [if_neg h94]
    have := bracket_yes b s l d m w r h h94
    rw [← itemsP_more (r.length + 1) [] r (Nat.lt_succ_self _)] at this
    exact this
end Go.Proofs.YtlflfcjbpnnfcaaGreatDoor
/- The program's reader: one deeper: a walk. -/
namespace Go.Proofs.YtlflfcjbpnnfcaaGreatDoor
open Go.RowKit Brm

theorem PSt.deeper {w : World} {b : Nat} {s : ByteArray} {l r : List Int} {d m : Int} (h : PSt w b s l r d m) (h1 : d + 1 ≤ ((l.length - r.length : Nat) : Int)) : PSt ((w.setCell ⟨b, 2, none⟩ (.int .i64 (d + 1))).setCell ⟨b, 3, none⟩ (.int .i64 (max m (d + 1)))) b s l r (d + 1) (max m (d + 1)) := by
  have hb := h.2.2.2.2.2
  exact ⟨(Blk.set h.1 2 _).set 3 _, h.2.1, h.2.2.1, h.2.2.2.1, h.2.2.2.2.1.off (((Off.refl b w).setCell 2 _).setCell 3 _) hb.1, by omega⟩
theorem PSt.setD {w : World} {b : Nat} {s : ByteArray} {l r : List Int} {d m : Int} (h : PSt w b s l r d m) (x : Int) (h0 : 0 ≤ x) (h1 : x ≤ d) : PSt (w.setCell ⟨b, 2, none⟩ (.int .i64 x)) b s l r x m := by
  have hb := h.2.2.2.2.2
  exact ⟨Blk.set h.1 2 _, h.2.1, h.2.2.1, h.2.2.2.1, h.2.2.2.2.1.off ((Off.refl b w).setCell 2 _) hb.1, by omega⟩
theorem PSt.facts {w : World} {b : Nat} {s : ByteArray} {l r : List Int} {d m : Int} (h : PSt w b s l r d m) : 0 ≤ d ∧ d ≤ 60 ∧ 0 ≤ m ∧ m ≤ 60 := by
  have := h.2.2.2.2.2; have h1 := runes_len h.2.2.1; rw [bytes_len] at h1; have := h.2.2.2.1; omega
theorem PSt.drew {w : World} {b : Nat} {s : ByteArray} {l r : List Int} {d m : Int} (h : PSt w b s l r d m) : PSt w.drew b s l r d m := h
/-- A node with one part in it. -/
theorem end_wrap {w0 w : World} {b x : Nat} {s : ByteArray} {l r : List Int} {d m M : Int} {p q : Pat} {K mm nn : Int} (ho : Off b w0 w) (hp : PN w (New w0) p x) (hs : PSt w b s l r d M)
    (hq : ∀ (w' : World) (y : Nat) (lv : Value), New w0 y → Blk w' y [.int .i64 K, .slice none 0 0, lv, .int .i64 mm, .int .i64 nn] 76 → Own w' (New w0) 65 1 lv 1 [Ptr x] → PN w' (New w0) p x → PN w' (New w0) q y) (hM : M = max m (d + q.deep)) :
    Off b w0 ((w.alloc (.cells #[Ptr x] 65)).alloc (.cells #[.int .i64 K, .slice none 0 0, .slice (some ⟨w.heap.size, 0, none⟩) 1 1, .int .i64 mm, .int .i64 nn] 76)) ∧
    EndN b s l d m (.ok q r) w0 ((w.alloc (.cells #[Ptr x] 65)).alloc (.cells #[.int .i64 K, .slice none 0 0, .slice (some ⟨w.heap.size, 0, none⟩) 1 1, .int .i64 mm, .int .i64 nn] 76)) (.returned (.tuple #[Ptr (w.heap.size + 1), .bool true])) := by
  refine ⟨(ho.alloc _).alloc _, w.heap.size + 1, rfl, ?_, ?_⟩
  · have e : (w.alloc (.cells #[Ptr x] 65)).heap.size = w.heap.size + 1 := by simp
    have hb := Blk.new (w.alloc (.cells #[Ptr x] 65)) [.int .i64 K, .slice none 0 0, .slice (some ⟨w.heap.size, 0, none⟩) 1 1, .int .i64 mm, .int .i64 nn] 76
    rw [e] at hb
    have hz := ho.size
    refine hq _ _ (.slice (some ⟨w.heap.size, 0, none⟩) 1 1) (by show w0.heap.size ≤ w.heap.size + 1; omega) hb ?_ ?_
    · exact ((own_ptr w x).mono (A' := New w0) (fun g _ hg => Nat.le_trans hz hg)).keep (Keeps.alloc _ _ _)
    · exact PN.keep ((Keeps.alloc _ _ _).trans (Keeps.alloc _ _ _)) p x hp
  · rw [← hM]; exact (hs.alloc _).alloc _
set_option maxRecDepth 100000 in
set_option maxHeartbeats 1000000 in
theorem inside_not (b : Nat) (s : ByteArray) (l : List Int) (d m : Int) (w : World) (r : List Int) (R : Res Pat) (h : PSt w b s l r d m) (hd : d + 1 ≤ ((l.length - r.length : Nat) : Int))
    (hc : ∀ w', PSt w' b s l r (d + 1) (max m (d + 1)) → PGives 209 b s l (d + 1) (max m (d + 1)) R w') :
    Calls Tryz.prog 241 #[.pointer (some ⟨b, 0, none⟩), .int .i64 4, .func (.func 209) #[.pointer (some ⟨b, 0, none⟩)] #[]] w fun e w' => Off b w w' ∧ EndN b s l d m (R.map Pat.not) w w' e := by
  have HS := hide h
  have HD := hide hd
  obtain ⟨f1, f2, f3, f4⟩ := h.facts
  obtain ⟨c0, c1, c2, c3, hb⟩ := h.cells
  have hf2 := h.1.frozen 2
  have hf3 := h.1.frozen 3
  have HC := hide (hc ((w.setCell ⟨b, 2, none⟩ (.int .i64 (d + 1))).setCell ⟨b, 3, none⟩ (.int .i64 (max m (d + 1)))).drew (h.deeper hd).drew)
  have HOD : Hid (Off b w ((w.setCell ⟨b, 2, none⟩ (.int .i64 (d + 1))).setCell ⟨b, 3, none⟩ (.int .i64 (max m (d + 1)))).drew) := (((Off.refl b w).setCell 2 _).setCell 3 _).drew
  clear h hd hc c0 c1
  go_enter Tryz.func241, Tryz.ntmps241
  go_wp2_with fail
  go_region
  go_wp2_with fail
  refine HC.out.mono ?_
  rintro e w1 ⟨ho1, he1⟩
  have HO := hide (HOD.out.trans ho1)
  clear ho1 c2 c3 hf2 hf3
  generalize hW : ((w.setCell ⟨b, 2, none⟩ (.int .i64 (d + 1))).setCell ⟨b, 3, none⟩ (.int .i64 (max m (d + 1)))).drew = W1 at HC HOD he1
  have HWZ : Hid (w.heap.size ≤ W1.heap.size) := HOD.out.size
  clear hW
  cases R with
  | bad q =>
    obtain ⟨rfl, m', hs1⟩ := he1
    obtain ⟨c0, c1, c2, c3, hb1⟩ := hs1.cells
    have hf2 := hs1.1.frozen 2
    have HS1 := hide (hs1.setD d f1 (by omega))
    have HO1 := hide (HO.out.setCell 2 (.int .i64 d))
    have e1 : d + 1 - 1 = d := by omega
    clear hs1 c0 c1 c3
    go_wp2
    go_ret2
    exact ⟨HO1.out, rfl, _, HS1.out⟩
  | ok p q =>
    obtain ⟨x, rfl, hp1, hs1⟩ := he1
    obtain ⟨c0, c1, c2, c3, hb1⟩ := hs1.cells
    have hf2 := hs1.1.frozen 2
    have hs2 := hs1.setD d f1 (by omega)
    have hp2 : PN (w1.setCell ⟨b, 2, none⟩ (.int .i64 d)) (New w) p x := PN.keep (Keeps.set _ (by show ¬ w.heap.size ≤ b; omega)) p x (PN.mono (fun k _ hk => Nat.le_trans HWZ.out hk) p x hp1)
    have HEN := hide (end_wrap (m := m) (q := Pat.not p) (K := 4) (mm := 0) (nn := 0) (HO.out.setCell 2 (.int .i64 d)) hp2 hs2 (fun w' y lv hy hb ho hp => ⟨hy, lv, x, hb, ho, hp⟩) (by simp only [Pat.deep]; omega))
    have hsz : (w1.setCell ⟨b, 2, none⟩ (.int .i64 d)).heap.size = w1.heap.size := by simp [World.setCell]
    rw [hsz] at HEN
    have e1 : d + 1 - 1 = d := by omega
    clear hs1 hs2 hp2 hp1 c0 c1 c3 hsz
    go_wp2
    go_ret2
    exact HEN.out
set_option maxRecDepth 100000 in
set_option maxHeartbeats 1000000 in
theorem inside_or (b : Nat) (s : ByteArray) (l : List Int) (d m : Int) (w : World) (r : List Int) (R : Res Pat) (h : PSt w b s l r d m) (hd : d + 1 ≤ ((l.length - r.length : Nat) : Int))
    (hc : ∀ w', PSt w' b s l r (d + 1) (max m (d + 1)) → PGives 58 b s l (d + 1) (max m (d + 1)) R w') :
    Calls Tryz.prog 241 #[.pointer (some ⟨b, 0, none⟩), .int .i64 6, .func (.func 58) #[.pointer (some ⟨b, 0, none⟩)] #[]] w fun e w' => Off b w w' ∧ EndN b s l d m (R.map Pat.group) w w' e := by
  have HS := hide h
  have HD := hide hd
  obtain ⟨f1, f2, f3, f4⟩ := h.facts
  obtain ⟨c0, c1, c2, c3, hb⟩ := h.cells
  have hf2 := h.1.frozen 2
  have hf3 := h.1.frozen 3
  have HC := hide (hc ((w.setCell ⟨b, 2, none⟩ (.int .i64 (d + 1))).setCell ⟨b, 3, none⟩ (.int .i64 (max m (d + 1)))).drew (h.deeper hd).drew)
  have HOD : Hid (Off b w ((w.setCell ⟨b, 2, none⟩ (.int .i64 (d + 1))).setCell ⟨b, 3, none⟩ (.int .i64 (max m (d + 1)))).drew) := (((Off.refl b w).setCell 2 _).setCell 3 _).drew
  clear h hd hc c0 c1
  go_enter Tryz.func241, Tryz.ntmps241
  go_wp2_with fail
  go_region
  go_wp2_with fail
  refine HC.out.mono ?_
  rintro e w1 ⟨ho1, he1⟩
  have HO := hide (HOD.out.trans ho1)
  clear ho1 c2 c3 hf2 hf3
  generalize hW : ((w.setCell ⟨b, 2, none⟩ (.int .i64 (d + 1))).setCell ⟨b, 3, none⟩ (.int .i64 (max m (d + 1)))).drew = W1 at HC HOD he1
  have HWZ : Hid (w.heap.size ≤ W1.heap.size) := HOD.out.size
  clear hW
  cases R with
  | bad q =>
    obtain ⟨rfl, m', hs1⟩ := he1
    obtain ⟨c0, c1, c2, c3, hb1⟩ := hs1.cells
    have hf2 := hs1.1.frozen 2
    have HS1 := hide (hs1.setD d f1 (by omega))
    have HO1 := hide (HO.out.setCell 2 (.int .i64 d))
    have e1 : d + 1 - 1 = d := by omega
    clear hs1 c0 c1 c3
    go_wp2
    go_ret2
    exact ⟨HO1.out, rfl, _, HS1.out⟩
  | ok p q =>
    obtain ⟨x, rfl, hp1, hs1⟩ := he1
    obtain ⟨c0, c1, c2, c3, hb1⟩ := hs1.cells
    have hf2 := hs1.1.frozen 2
    have hs2 := hs1.setD d f1 (by omega)
    have hp2 : PN (w1.setCell ⟨b, 2, none⟩ (.int .i64 d)) (New w) p x := PN.keep (Keeps.set _ (by show ¬ w.heap.size ≤ b; omega)) p x (PN.mono (fun k _ hk => Nat.le_trans HWZ.out hk) p x hp1)
    have HEN := hide (end_wrap (m := m) (q := Pat.group p) (K := 6) (mm := 0) (nn := 0) (HO.out.setCell 2 (.int .i64 d)) hp2 hs2 (fun w' y lv hy hb ho hp => ⟨hy, lv, x, hb, ho, hp⟩) (by simp only [Pat.deep]; omega))
    have hsz : (w1.setCell ⟨b, 2, none⟩ (.int .i64 d)).heap.size = w1.heap.size := by simp [World.setCell]
    rw [hsz] at HEN
    have e1 : d + 1 - 1 = d := by omega
    clear hs1 hs2 hp2 hp1 c0 c1 c3 hsz
    go_wp2
    go_ret2
    exact HEN.out
end Go.Proofs.YtlflfcjbpnnfcaaGreatDoor
/- The program's reader: groups, atoms: walks. -/
namespace Go.Proofs.YtlflfcjbpnnfcaaGreatDoor
open Go.RowKit Brm

set_option maxRecDepth 100000 in
set_option maxHeartbeats 1000000 in
theorem group_any (n : Nat) (ih : POrOk n) (b : Nat) (s : ByteArray) (l : List Int) (d m : Int) (w : World) (r : List Int) (h : PSt w b s l (40 :: r) d m) (hn : r.length < n) : PGives 286 b s l d m ((orN true n r).bind fun p q => closeP (.group p) 41 q) w := by
  have HS := hide h
  have HO : Hid (Off b w w) := Off.refl _ _
  have hd : d + 1 ≤ ((l.length - r.length : Nat) : Int) := by have h1 := h.2.2.2.2.2; have h2 := h.2.1.length_le; simp only [List.length_cons] at h1 h2; omega
  have HBb := hide h.lt
  have HC := hide (fun (w' : World) (hw : PSt w' b s l r d m) => inside_or b s l d m w' r (orN true n r) hw hd (fun w2 hw2 => ih b s l r (d + 1) (max m (d + 1)) w2 hw2 hn))
  clear h hd
  generalize orN true n r = RR at HC ⊢
  obtain ⟨R, HM⟩ : ∃ R : Res Pat, Hid (R = RR.bind fun p q => closeP (Pat.group p) 41 q) := ⟨_, rfl⟩
  rw [← HM.out]
  unfold PGives
  go_enter Tryz.func286, Tryz.ntmps286
  go_wp2_with fail
  refine (step_any b s l _ _ d m _ HS.out).mono ?_
  rintro e w1 ⟨rfl, hsi, hoi⟩
  replace HS := hide hsi
  replace HO := hide (HO.out.trans hoi)
  clear hsi hoi
  go_wp2_with fail
  refine (HC.out _ HS.out).mono ?_
  rintro e w2 ⟨ho2, he2⟩
  have HZ1 := hide HO.out.size
  replace HO := hide (HO.out.trans ho2)
  clear ho2
  cases RR with
  | bad q =>
    obtain ⟨rfl, m', hs2⟩ := he2
    have HS2 := hide hs2
    clear hs2
    go_wp2
    go_ret2
    exact ⟨HO.out, by rw [HM.out]; exact ⟨rfl, _, HS2.out⟩⟩
  | ok p q =>
    obtain ⟨x, rfl, hp2, hs2⟩ := he2
    have HS2 := hide hs2
    have HP2 := hide (PN.mono (A' := New w) (fun k _ hk => Nat.le_trans HZ1.out hk) (.group p) x hp2)
    clear hs2 hp2
    by_cases hq : q.head? = some 41
    · obtain ⟨u, rfl⟩ : ∃ u, q = 41 :: u := ⟨_, head_cons hq⟩
      have HR : Hid ((Res.ok p (41 :: u)).bind (fun p q => closeP (Pat.group p) 41 q) = .ok (Pat.group p) u) := by show _ = _; simp [Res.bind, closeP]
      clear hq
      go_wp2_with fail
      refine (take_yes b s l _ _ d _ _ HS2.out).mono ?_
      rintro e w3 ⟨rfl, hs3, ho3⟩
      have HS3 := hide hs3
      have HP3 := hide (PN.keep (Keeps.off ho3 (Nat.not_le_of_lt HBb.out)) (.group p) x HP2.out)
      have HO3 := hide (HO.out.trans ho3)
      clear hs3 ho3
      go_wp2
      go_ret2
      exact ⟨HO3.out, by rw [HM.out, HR.out]; exact ⟨x, rfl, HP3.out, HS3.out⟩⟩
    · have HR : Hid ((Res.ok p q).bind (fun p q => closeP (Pat.group p) 41 q) = .bad q) := by show _ = _; simp [Res.bind, closeP, hq]
      have HQ := hide hq
      clear hq
      go_wp2_with fail
      refine (take_no b s l _ _ d _ _ HS2.out (by decide) HQ.out).mono ?_
      rintro e w3 ⟨rfl, hb3⟩
      have HS3 := hide (HS2.out.below hb3)
      have HO3 := hide (HO.out.trans (Off.below hb3))
      clear hb3
      go_wp2
      go_ret2
      exact ⟨HO3.out, by rw [HM.out, HR.out]; exact ⟨rfl, _, HS3.out⟩⟩
set_option maxRecDepth 100000 in
set_option maxHeartbeats 1000000 in
theorem patom_dot (b : Nat) (s : ByteArray) (l : List Int) (d m : Int) (w : World) (t : List Int) (h : PSt w b s l (46 :: t) d m) : PGives 269 b s l d m (.ok (.set dot) t) w := by
  have HS := hide h
  have HO : Hid (Off b w w) := Off.refl _ _
  clear h
  unfold PGives
  go_enter Tryz.func269, Tryz.ntmps269
  go_wp2_with fail
  refine (look_any b s l _ d m _ HS.out).mono ?_
  rintro e wi ⟨rfl, hbi⟩
  replace HS := hide (HS.out.below hbi)
  replace HO := hide (HO.out.trans (Off.below hbi))
  clear hbi
  simp only [nextP]
  go_wp2_with fail
  refine (step_any b s l _ _ d m _ HS.out).mono ?_
  rintro e wi ⟨rfl, hsi, hoi⟩
  replace HS := hide hsi
  replace HO := hide (HO.out.trans hoi)
  clear hsi hoi
  go_wp2_with fail
  refine (pdot_any _).mono ?_
  rintro e w6 ⟨v6, rfl, hv6, hb6⟩
  obtain ⟨ao, cap, rfl, _, _⟩ := hv6.sl.rd
  have HE := hide (end_set (HO.out.trans (Off.below hb6)) (hv6.mono (A' := New w) (fun k _ hk => Nat.le_trans HO.out.size hk)) (HS.out.below hb6))
  clear hv6 hb6
  go_wp2
  go_ret2
  exact HE.out
set_option maxRecDepth 100000 in
set_option maxHeartbeats 1000000 in
theorem patom_one (b : Nat) (s : ByteArray) (l : List Int) (d m : Int) (w : World) (c : Int) (t : List Int) (hc : atomB c = true) (h : PSt w b s l (c :: t) d m) : PGives 269 b s l d m (.ok (.set [(c, c)]) t) w := by
  have hru := (runes_all h.2.2.1).suf h.2.1 c (by simp)
  have HRN : Hid (Rn c) := .inr hru
  have hc0 : 0 ≤ c := by have := (rune_iff c).1 hru; omega
  have hc1 : c ≤ 1114111 := by have := (rune_iff c).1 hru; omega
  have hsp : special c = false := by simp [atomB] at hc; exact hc.2
  have b1 : (c == 46) = false := beq_eq_false_iff_ne.2 (fun e => by subst e; simp [special] at hsp)
  have b2 : (c == 92) = false := beq_eq_false_iff_ne.2 (fun e => by subst e; simp [special] at hsp)
  have b3 : (c == 91) = false := beq_eq_false_iff_ne.2 (fun e => by subst e; simp [special] at hsp)
  have b4 : (c == 40) = false := beq_eq_false_iff_ne.2 (fun e => by subst e; simp [special] at hsp)
  have HC := hide hc
  clear hc hru hsp
  have HS := hide h
  have HO : Hid (Off b w w) := Off.refl _ _
  clear h
  unfold PGives
  go_enter Tryz.func269, Tryz.ntmps269
  go_wp2_with fail
  refine (look_any b s l _ d m _ HS.out).mono ?_
  rintro e wi ⟨rfl, hbi⟩
  replace HS := hide (HS.out.below hbi)
  replace HO := hide (HO.out.trans (Off.below hbi))
  clear hbi
  simp only [nextP]
  go_wp2_with fail
  refine (isOfAtom_any _ _ HRN.out).mono ?_
  rintro e wi ⟨rfl, hbi⟩
  rw [HC.out]
  replace HS := hide (HS.out.below hbi)
  replace HO := hide (HO.out.trans (Off.below hbi))
  clear hbi
  go_wp2_with fail
  refine (step_any b s l _ _ d m _ HS.out).mono ?_
  rintro e wi ⟨rfl, hsi, hoi⟩
  replace HS := hide hsi
  replace HO := hide (HO.out.trans hoi)
  clear hsi hoi
  go_wp2_with fail
  refine (pone_any c _ hc0 hc1).mono ?_
  rintro e w6 ⟨v6, rfl, hv6, hb6⟩
  obtain ⟨ao, cap, rfl, _, _⟩ := hv6.sl.rd
  have HE := hide (end_set (HO.out.trans (Off.below hb6)) (hv6.mono (A' := New w) (fun k _ hk => Nat.le_trans HO.out.size hk)) (HS.out.below hb6))
  clear hv6 hb6
  go_wp2
  go_ret2
  exact HE.out
set_option maxRecDepth 100000 in
set_option maxHeartbeats 1000000 in
theorem patom_none (b : Nat) (s : ByteArray) (l : List Int) (d m : Int) (w : World) (r : List Int) (hc : atomB (nextP r) = false) (h1 : nextP r ≠ 46) (h2 : nextP r ≠ 92) (h3 : nextP r ≠ 91) (h4 : nextP r ≠ 40) (h : PSt w b s l r d m) : PGives 269 b s l d m (.bad r) w := by
  have HRN : Hid (Rn (nextP r)) := nextP_rn h.2.2.1 h.2.1
  have b1 : (nextP r == 46) = false := beq_eq_false_iff_ne.2 h1
  have b2 : (nextP r == 92) = false := beq_eq_false_iff_ne.2 h2
  have b3 : (nextP r == 91) = false := beq_eq_false_iff_ne.2 h3
  have b4 : (nextP r == 40) = false := beq_eq_false_iff_ne.2 h4
  have HC := hide hc
  clear hc h1 h2 h3 h4
  have HS := hide h
  have HO : Hid (Off b w w) := Off.refl _ _
  clear h
  unfold PGives
  go_enter Tryz.func269, Tryz.ntmps269
  go_wp2_with fail
  refine (look_any b s l _ d m _ HS.out).mono ?_
  rintro e wi ⟨rfl, hbi⟩
  replace HS := hide (HS.out.below hbi)
  replace HO := hide (HO.out.trans (Off.below hbi))
  clear hbi
  generalize nextP r = N at HRN HC b1 b2 b3 b4
  go_wp2_with fail
  refine (isOfAtom_any _ _ HRN.out).mono ?_
  rintro e wi ⟨rfl, hbi⟩
  rw [HC.out]
  replace HS := hide (HS.out.below hbi)
  replace HO := hide (HO.out.trans (Off.below hbi))
  clear hbi
  go_wp2
  go_ret2
  exact ⟨HO.out, rfl, _, HS.out⟩
set_option maxRecDepth 100000 in
set_option maxHeartbeats 1000000 in
theorem patom_esc (b : Nat) (s : ByteArray) (l : List Int) (d m : Int) (w : World) (t : List Int) (h : PSt w b s l (92 :: t) d m) : PGives 269 b s l d m ((escP t).map escPat) w := by
  have HC := hide (fun (w9 : World) (hw : PSt w9 b s l _ d m) => escape_any b s l d m w9 t hw)
  generalize (escP t).map escPat = RR at HC ⊢
  obtain ⟨R, HM⟩ : ∃ R : Res Pat, Hid (R = RR) := ⟨_, rfl⟩
  rw [← HM.out]
  have HS := hide h
  have HO : Hid (Off b w w) := Off.refl _ _
  clear h
  unfold PGives
  go_enter Tryz.func269, Tryz.ntmps269
  go_wp2_with fail
  refine (look_any b s l _ d m _ HS.out).mono ?_
  rintro e wi ⟨rfl, hbi⟩
  replace HS := hide (HS.out.below hbi)
  replace HO := hide (HO.out.trans (Off.below hbi))
  clear hbi
  simp only [nextP]
  go_wp2_with fail
  refine (HC.out _ HS.out).mono ?_
  rintro e w2 ⟨ho2, he2⟩
  have HO2 := hide (HO.out.trans ho2)
  have HZ := hide HO.out.size
  clear ho2
  cases RR with
  | bad q =>
    obtain ⟨rfl, m', hs2⟩ := he2
    have HS2 := hide hs2
    clear hs2
    go_wp2
    go_ret2
    exact ⟨HO2.out, by rw [HM.out]; exact ⟨rfl, _, HS2.out⟩⟩
  | ok p q =>
    obtain ⟨x, rfl, hp2, hs2⟩ := he2
    have HS2 := hide hs2
    have HP2 := hide (PN.mono (A' := New w) (fun k _ hk => Nat.le_trans HZ.out hk) p x hp2)
    clear hs2 hp2
    go_wp2
    go_ret2
    exact ⟨HO2.out, by rw [HM.out]; exact ⟨x, rfl, HP2.out, HS2.out⟩⟩
set_option maxRecDepth 100000 in
set_option maxHeartbeats 1000000 in
theorem patom_brk (b : Nat) (s : ByteArray) (l : List Int) (d m : Int) (w : World) (t : List Int) (h : PSt w b s l (91 :: t) d m) : PGives 269 b s l d m ((bracketP t).map .set) w := by
  have HC := hide (fun (w9 : World) (hw : PSt w9 b s l _ d m) => bracket_any b s l d m w9 t hw)
  generalize (bracketP t).map Pat.set = RR at HC ⊢
  obtain ⟨R, HM⟩ : ∃ R : Res Pat, Hid (R = RR) := ⟨_, rfl⟩
  rw [← HM.out]
  have HS := hide h
  have HO : Hid (Off b w w) := Off.refl _ _
  clear h
  unfold PGives
  go_enter Tryz.func269, Tryz.ntmps269
  go_wp2_with fail
  refine (look_any b s l _ d m _ HS.out).mono ?_
  rintro e wi ⟨rfl, hbi⟩
  replace HS := hide (HS.out.below hbi)
  replace HO := hide (HO.out.trans (Off.below hbi))
  clear hbi
  simp only [nextP]
  go_wp2_with fail
  refine (HC.out _ HS.out).mono ?_
  rintro e w2 ⟨ho2, he2⟩
  have HO2 := hide (HO.out.trans ho2)
  have HZ := hide HO.out.size
  clear ho2
  cases RR with
  | bad q =>
    obtain ⟨rfl, m', hs2⟩ := he2
    have HS2 := hide hs2
    clear hs2
    go_wp2
    go_ret2
    exact ⟨HO2.out, by rw [HM.out]; exact ⟨rfl, _, HS2.out⟩⟩
  | ok p q =>
    obtain ⟨x, rfl, hp2, hs2⟩ := he2
    have HS2 := hide hs2
    have HP2 := hide (PN.mono (A' := New w) (fun k _ hk => Nat.le_trans HZ.out hk) p x hp2)
    clear hs2 hp2
    go_wp2
    go_ret2
    exact ⟨HO2.out, by rw [HM.out]; exact ⟨x, rfl, HP2.out, HS2.out⟩⟩
set_option maxRecDepth 100000 in
set_option maxHeartbeats 1000000 in
theorem patom_grp (n : Nat) (b : Nat) (s : ByteArray) (l : List Int) (d m : Int) (w : World) (ih : POrOk n) (t : List Int) (hn : t.length < n) (h : PSt w b s l (40 :: t) d m) : PGives 269 b s l d m ((orN true n t).bind fun p q => closeP (.group p) 41 q) w := by
  have HC := hide (fun (w9 : World) (hw : PSt w9 b s l _ d m) => group_any n ih b s l d m w9 t hw hn)
  generalize ((orN true n t).bind fun p q => closeP (Pat.group p) 41 q) = RR at HC ⊢
  obtain ⟨R, HM⟩ : ∃ R : Res Pat, Hid (R = RR) := ⟨_, rfl⟩
  rw [← HM.out]
  have HS := hide h
  have HO : Hid (Off b w w) := Off.refl _ _
  clear h
  unfold PGives
  go_enter Tryz.func269, Tryz.ntmps269
  go_wp2_with fail
  refine (look_any b s l _ d m _ HS.out).mono ?_
  rintro e wi ⟨rfl, hbi⟩
  replace HS := hide (HS.out.below hbi)
  replace HO := hide (HO.out.trans (Off.below hbi))
  clear hbi
  simp only [nextP]
  go_wp2_with fail
  refine (HC.out _ HS.out).mono ?_
  rintro e w2 ⟨ho2, he2⟩
  have HO2 := hide (HO.out.trans ho2)
  have HZ := hide HO.out.size
  clear ho2
  cases RR with
  | bad q =>
    obtain ⟨rfl, m', hs2⟩ := he2
    have HS2 := hide hs2
    clear hs2
    go_wp2
    go_ret2
    exact ⟨HO2.out, by rw [HM.out]; exact ⟨rfl, _, HS2.out⟩⟩
  | ok p q =>
    obtain ⟨x, rfl, hp2, hs2⟩ := he2
    have HS2 := hide hs2
    have HP2 := hide (PN.mono (A' := New w) (fun k _ hk => Nat.le_trans HZ.out hk) p x hp2)
    clear hs2 hp2
    go_wp2
    go_ret2
    exact ⟨HO2.out, by rw [HM.out]; exact ⟨x, rfl, HP2.out, HS2.out⟩⟩
theorem patom_any (n : Nat) (ih : POrOk n) (b : Nat) (s : ByteArray) (l : List Int) (d m : Int) (w : World) (r : List Int) (h : PSt w b s l r d m) (hn : r.length ≤ n) : PGives 269 b s l d m (atomP (orN true n) r) w := by
  cases r with
  | nil => exact patom_none b s l d m w [] rfl (by decide) (by decide) (by decide) (by decide) h
  | cons c t =>
    have hru := (runes_all h.2.2.1).suf h.2.1 c (by simp)
    simp only [List.length_cons] at hn
    simp only [atomP]
    by_cases h40 : c = 40
    · subst h40; rw [if_pos rfl]; exact patom_grp n b s l d m w ih t (by omega) h
    rw [if_neg h40]
    by_cases h91 : c = 91
    · subst h91; rw [if_pos rfl]; exact patom_brk b s l d m w t h
    rw [if_neg h91]
    by_cases h46 : c = 46
    · subst h46; rw [if_pos rfl]; exact patom_dot b s l d m w t h
    rw [if_neg h46]
    by_cases h92 : c = 92
    · subst h92; rw [if_pos rfl]; exact patom_esc b s l d m w t h
    rw [if_neg h92]
    cases hs : special c with
    | true =>
      rw [if_pos rfl]
      exact patom_none b s l d m w (c :: t) (by simp [nextP, atomB, hs]) h46 h92 h91 h40 h
    | false =>
      rw [if_neg (by decide)]
      exact patom_one b s l d m w c t (by simp only [atomB, bne, rune_ne hru, hs]; rfl) h
end Go.Proofs.YtlflfcjbpnnfcaaGreatDoor
/- The program's reader: so many times: walks. -/
namespace Go.Proofs.YtlflfcjbpnnfcaaGreatDoor
open Go.RowKit Brm

set_option maxRecDepth 100000 in
set_option maxHeartbeats 400000 in
theorem beginsTimes_any (c : Int) (w : World) : Calls Tryz.prog 270 #[.int .i32 c] w fun e w' => e = .returned (.bool (isTimes c)) ∧ w' = w := by
  go_enter Tryz.func270, Tryz.ntmps270
  go_wp2
  all_goals (go_ret; exact ⟨ret_bool (by rw [Bool.eq_iff_iff]; simp [isTimes]; omega), rfl⟩)
theorem times_next (r : List Int) : isTimes (nextP r) = headIs isTimes r := by
  cases r with
  | nil => rfl
  | cons c t => rfl
set_option maxRecDepth 100000 in
set_option maxHeartbeats 400000 in
theorem timesOf_any (b : Nat) (s : ByteArray) (l : List Int) (d m : Int) (w : World) (w0 : World) (p : Pat) (x : Nat) (r : List Int) (h : PSt w b s l r d (max m (d + p.deep))) (ho : Off b w0 w) (hb0 : b < w0.heap.size) (hp : PN w (New w0) p x) (ht : headIs isTimes r = true) :
    Calls Tryz.prog 271 #[.pointer (some ⟨b, 0, none⟩), Ptr x] w fun e w' => Off b w0 w' ∧ EndN b s l d m ((timesP r).map fun mn => Pat.many p mn.1 mn.2) w0 w' e := by
  have HC := hide (times_any b s l d _ w r h ht)
  have HO := hide ho
  have HP := hide hp
  have HB0 := hide hb0
  clear h ho hp ht hb0
  generalize timesP r = RR at HC ⊢
  obtain ⟨R, HM⟩ : ∃ R : Res Pat, Hid (R = RR.map fun mn => Pat.many p mn.1 mn.2) := ⟨_, rfl⟩
  rw [← HM.out]
  go_enter Tryz.func271, Tryz.ntmps271
  go_wp2_with fail
  refine HC.out.mono ?_
  rintro e w1 ⟨ho1, hd1⟩
  replace HP := hide (PN.keep (Keeps.off ho1 (Nat.not_le_of_lt HB0.out)) p x HP.out)
  replace HO := hide (HO.out.trans ho1)
  clear ho1 HC
  cases RR with
  | bad q =>
    obtain ⟨hs1, v, u, rfl⟩ := hd1
    have HS1 := hide hs1
    clear hs1
    go_wp2
    go_ret2
    exact ⟨HO.out, by rw [HM.out]; exact ⟨rfl, _, HS1.out⟩⟩
  | ok mn q =>
    obtain ⟨hs1, rfl⟩ := hd1
    obtain ⟨mm, nn⟩ := mn
    have HEN := hide (end_wrap (m := m) (q := .many p mm nn) (K := 5) (mm := mm) (nn := nn) HO.out HP.out hs1 (fun w' y lv hy hb ho hp => ⟨hy, lv, x, hb, ho, hp⟩) rfl)
    clear hs1
    go_wp2
    go_ret2
    rw [HM.out]
    exact HEN.out
/-- So many times, round by round. -/
def ManyQ (w : World) (b : Nat) (s : ByteArray) (l : List Int) (d m : Int) (R : Res Pat) (k : Nat) (nv ov : Value) (wr : World) : Prop := Off b w wr ∧
  ((∃ p x s0, nv = Ptr x ∧ ov = .bool true ∧ PN wr (New w) p x ∧ PSt wr b s l s0 d (max m (d + p.deep)) ∧ manyLoop k p s0 = R ∧ s0.length < k) ∨ (∃ q m', nv = .pointer none ∧ ov = .bool false ∧ R = .bad q ∧ PSt wr b s l q d m'))
set_option maxRecDepth 100000 in
set_option maxHeartbeats 1000000 in
theorem pmany_any (n : Nat) (ih : POrOk n) (b : Nat) (s : ByteArray) (l : List Int) (d m : Int) (w : World) (r : List Int) (h : PSt w b s l r d m) (hn : r.length ≤ n) : PGives 240 b s l d m (manyP (orN true n) r) w := by
  have HC := hide (patom_any n ih b s l d m w r h hn)
  have HBb := hide h.lt
  clear h
  have HM : Hid (manyP (orN true n) r = (atomP (orN true n) r).bind fun x s' => manyLoop (s'.length + 1) x s') := rfl
  generalize atomP (orN true n) r = R1 at HC HM
  generalize manyP (orN true n) r = R at HM ⊢
  unfold PGives
  go_enter Tryz.func240, Tryz.ntmps240
  go_wp2_with fail
  refine HC.out.mono ?_
  rintro e w1 ⟨ho1, he1⟩
  have HO1 := hide ho1
  clear ho1 HC
  cases R1 with
  | bad q =>
    obtain ⟨rfl, m', hs1⟩ := he1
    have HS1 := hide hs1
    clear hs1
    have HR0 : Hid (R = .bad q) := HM.out
    clear HM
    go_wp2_with fail
    go_loopg [4, 5] 1 (fun k nv ov wr => ManyQ w b s l d m R k nv ov wr)
    case atStart => exact ⟨HO1.out, .inr ⟨q, m', rfl, rfl, HR0.out, HS1.out⟩⟩
    case round =>
      obtain ⟨ho, hcase⟩ := hrel
      have HO := hide ho
      clear ho
      rcases hcase with ⟨p, x, s0, rfl, rfl, hp, hs, heq, hk⟩ | ⟨q, m', rfl, rfl, hRb, hs⟩
      · have HS := hide hs
        have HP := hide hp
        have HE := hide heq
        have HTN := hide (times_next s0)
        obtain ⟨k', rfl⟩ : ∃ k', gk = k' + 1 := ⟨gk - 1, by omega⟩
        have HK := hide hk
        clear hs hp heq hk
        cases ht : headIs isTimes s0 with
        | false =>
          have HR : Hid (R = .ok p s0) := by have := HE.out; simp only [manyLoop, ht, Bool.false_eq_true, if_false] at this; exact this.symm
          rw [ht] at HTN
          clear ht
          go_wp2_with fail
          refine (look_any b s l s0 d _ _ HS.out).mono ?_
          rintro e wi ⟨rfl, hbi⟩
          replace HS := hide (HS.out.below hbi)
          replace HO := hide (HO.out.trans (Off.below hbi))
          replace HP := hide (PN.keep (Keeps.below hbi) p x HP.out)
          clear hbi
          generalize nextP s0 = NN at HTN
          go_wp2_with fail
          refine (beginsTimes_any NN _).mono ?_
          rintro e wj ⟨rfl, hwj⟩
          have hwk := hwj.symm
          subst hwk
          clear hwj
          rw [HTN.out]
          go_wp2
          go_ret2
          exact ⟨HO.out, by rw [HR.out]; exact ⟨x, rfl, HP.out, HS.out⟩⟩
        | true =>
          have HT := hide ht
          have HTK := hide (timesP_takes s0)
          have HR : Hid ((timesP s0).bind (fun mn s' => manyLoop k' (.many p mn.1 mn.2) s') = R) := by have := HE.out; simp only [manyLoop, ht, if_true] at this; exact this
          rw [ht] at HTN
          clear ht
          go_wp2_with fail
          refine (look_any b s l s0 d _ _ HS.out).mono ?_
          rintro e wi ⟨rfl, hbi⟩
          replace HS := hide (HS.out.below hbi)
          replace HO := hide (HO.out.trans (Off.below hbi))
          replace HP := hide (PN.keep (Keeps.below hbi) p x HP.out)
          clear hbi
          generalize nextP s0 = NN at HTN
          go_wp2_with fail
          refine (beginsTimes_any NN _).mono ?_
          rintro e wj ⟨rfl, hwj⟩
          have hwk := hwj.symm
          subst hwk
          clear hwj
          rw [HTN.out]
          go_wp2_with fail
          refine (timesOf_any b s l d m _ w p x s0 HS.out HO.out HBb.out HP.out HT.out).mono ?_
          rintro e w5 ⟨ho5, he5⟩
          have HO5 := hide ho5
          clear ho5
          generalize timesP s0 = RR at he5 HR HTK
          cases RR with
          | bad q =>
            obtain ⟨rfl, m', hs5⟩ := he5
            have HS5 := hide hs5
            clear hs5
            go_wp2_with fail
            go_roundg k'
            case measure => omega
            case rel => exact ⟨HO5.out, .inr ⟨q, m', rfl, rfl, HR.out.symm, HS5.out⟩⟩
          | ok mn q =>
            obtain ⟨y, rfl, hp5, hs5⟩ := he5
            have HS5 := hide hs5
            have HP5 := hide hp5
            clear hs5 hp5
            go_wp2_with fail
            go_roundg k'
            case measure => omega
            case rel => exact ⟨HO5.out, .inl ⟨.many p mn.1 mn.2, y, q, rfl, rfl, HP5.out, HS5.out, HR.out, by have := HTK.out.1; have := HK.out; omega⟩⟩
      · have HS := hide hs
        have HR := hide hRb
        clear hs hRb
        go_wp2
        go_ret2
        exact ⟨HO.out, by rw [HR.out]; exact ⟨rfl, _, HS.out⟩⟩
  | ok p0 q0 =>
    obtain ⟨x0, rfl, hp1, hs1⟩ := he1
    have HS1 := hide hs1
    have HP1 := hide hp1
    clear hs1 hp1
    have HR0 : Hid (manyLoop (q0.length + 1) p0 q0 = R) := HM.out.symm
    clear HM
    go_wp2_with fail
    go_loopg [4, 5] (q0.length + 1) (fun k nv ov wr => ManyQ w b s l d m R k nv ov wr)
    case atStart => exact ⟨HO1.out, .inl ⟨p0, x0, q0, rfl, rfl, HP1.out, HS1.out, HR0.out, Nat.lt_succ_self _⟩⟩
    case round =>
      obtain ⟨ho, hcase⟩ := hrel
      have HO := hide ho
      clear ho
      rcases hcase with ⟨p, x, s0, rfl, rfl, hp, hs, heq, hk⟩ | ⟨q, m', rfl, rfl, hRb, hs⟩
      · have HS := hide hs
        have HP := hide hp
        have HE := hide heq
        have HTN := hide (times_next s0)
        obtain ⟨k', rfl⟩ : ∃ k', gk = k' + 1 := ⟨gk - 1, by omega⟩
        have HK := hide hk
        clear hs hp heq hk
        cases ht : headIs isTimes s0 with
        | false =>
          have HR : Hid (R = .ok p s0) := by have := HE.out; simp only [manyLoop, ht, Bool.false_eq_true, if_false] at this; exact this.symm
          rw [ht] at HTN
          clear ht
          go_wp2_with fail
          refine (look_any b s l s0 d _ _ HS.out).mono ?_
          rintro e wi ⟨rfl, hbi⟩
          replace HS := hide (HS.out.below hbi)
          replace HO := hide (HO.out.trans (Off.below hbi))
          replace HP := hide (PN.keep (Keeps.below hbi) p x HP.out)
          clear hbi
          generalize nextP s0 = NN at HTN
          go_wp2_with fail
          refine (beginsTimes_any NN _).mono ?_
          rintro e wj ⟨rfl, hwj⟩
          have hwk := hwj.symm
          subst hwk
          clear hwj
          rw [HTN.out]
          go_wp2
          go_ret2
          exact ⟨HO.out, by rw [HR.out]; exact ⟨x, rfl, HP.out, HS.out⟩⟩
        | true =>
          have HT := hide ht
          have HTK := hide (timesP_takes s0)
          have HR : Hid ((timesP s0).bind (fun mn s' => manyLoop k' (.many p mn.1 mn.2) s') = R) := by have := HE.out; simp only [manyLoop, ht, if_true] at this; exact this
          rw [ht] at HTN
          clear ht
          go_wp2_with fail
          refine (look_any b s l s0 d _ _ HS.out).mono ?_
          rintro e wi ⟨rfl, hbi⟩
          replace HS := hide (HS.out.below hbi)
          replace HO := hide (HO.out.trans (Off.below hbi))
          replace HP := hide (PN.keep (Keeps.below hbi) p x HP.out)
          clear hbi
          generalize nextP s0 = NN at HTN
          go_wp2_with fail
          refine (beginsTimes_any NN _).mono ?_
          rintro e wj ⟨rfl, hwj⟩
          have hwk := hwj.symm
          subst hwk
          clear hwj
          rw [HTN.out]
          go_wp2_with fail
          refine (timesOf_any b s l d m _ w p x s0 HS.out HO.out HBb.out HP.out HT.out).mono ?_
          rintro e w5 ⟨ho5, he5⟩
          have HO5 := hide ho5
          clear ho5
          generalize timesP s0 = RR at he5 HR HTK
          cases RR with
          | bad q =>
            obtain ⟨rfl, m', hs5⟩ := he5
            have HS5 := hide hs5
            clear hs5
            go_wp2_with fail
            go_roundg k'
            case measure => omega
            case rel => exact ⟨HO5.out, .inr ⟨q, m', rfl, rfl, HR.out.symm, HS5.out⟩⟩
          | ok mn q =>
            obtain ⟨y, rfl, hp5, hs5⟩ := he5
            have HS5 := hide hs5
            have HP5 := hide hp5
            clear hs5 hp5
            go_wp2_with fail
            go_roundg k'
            case measure => omega
            case rel => exact ⟨HO5.out, .inl ⟨.many p mn.1 mn.2, y, q, rfl, rfl, HP5.out, HS5.out, HR.out, by have := HTK.out.1; have := HK.out; omega⟩⟩
      · have HS := hide hs
        have HR := hide hRb
        clear hs hRb
        go_wp2
        go_ret2
        exact ⟨HO.out, by rw [HR.out]; exact ⟨rfl, _, HS.out⟩⟩
end Go.Proofs.YtlflfcjbpnnfcaaGreatDoor
/- The program's reader: not: a walk. -/
namespace Go.Proofs.YtlflfcjbpnnfcaaGreatDoor
open Go.RowKit Brm

set_option maxRecDepth 100000 in
set_option maxHeartbeats 1000000 in
theorem pnot_tilde (b : Nat) (s : ByteArray) (l : List Int) (d m : Int) (w : World) (t : List Int) (R : Res Pat) (h : PSt w b s l (126 :: t) d m) (ih : ∀ (d m : Int) (w : World), PSt w b s l t d m → PGives 209 b s l d m R w) : PGives 209 b s l d m (R.map .not) w := by
  have HS := hide h
  have HO : Hid (Off b w w) := Off.refl _ _
  have hd : d + 1 ≤ ((l.length - t.length : Nat) : Int) := by have h1 := h.2.2.2.2.2; have h2 := h.2.1.length_le; simp only [List.length_cons] at h1 h2; omega
  have HC := hide (fun (w' : World) (hw : PSt w' b s l t d m) => inside_not b s l d m w' t R hw hd (fun w2 hw2 => ih (d + 1) (max m (d + 1)) w2 hw2))
  clear h hd ih
  obtain ⟨R0, HM⟩ : ∃ R0 : Res Pat, Hid (R0 = R.map Pat.not) := ⟨_, rfl⟩
  rw [← HM.out]
  unfold PGives
  go_enter Tryz.func209, Tryz.ntmps209
  go_wp2_with fail
  refine (take_yes b s l _ _ d m _ HS.out).mono ?_
  rintro e wi ⟨rfl, hsi, hoi⟩
  replace HS := hide hsi
  replace HO := hide (HO.out.trans hoi)
  clear hsi hoi
  go_wp2_with fail
  refine (HC.out _ HS.out).mono ?_
  rintro e w2 ⟨ho2, he2⟩
  have HO2 := hide (HO.out.trans ho2)
  have HZ := hide HO.out.size
  clear ho2 HC
  cases R with
  | bad q =>
    obtain ⟨rfl, m', hs2⟩ := he2
    have HS2 := hide hs2
    clear hs2
    go_wp2
    go_ret2
    exact ⟨HO2.out, by rw [HM.out]; exact ⟨rfl, _, HS2.out⟩⟩
  | ok p q =>
    obtain ⟨x, rfl, hp2, hs2⟩ := he2
    have HS2 := hide hs2
    have HP2 := hide (PN.mono (A' := New w) (fun k _ hk => Nat.le_trans HZ.out hk) (.not p) x hp2)
    clear hs2 hp2
    go_wp2
    go_ret2
    exact ⟨HO2.out, by rw [HM.out]; exact ⟨x, rfl, HP2.out, HS2.out⟩⟩
set_option maxRecDepth 100000 in
set_option maxHeartbeats 1000000 in
theorem pnot_many (n : Nat) (ih : POrOk n) (b : Nat) (s : ByteArray) (l : List Int) (d m : Int) (w : World) (r : List Int) (h : PSt w b s l r d m) (hn : r.length ≤ n) (h1 : r.head? ≠ some 126) : PGives 209 b s l d m (manyP (orN true n) r) w := by
  have HS := hide h
  have HO : Hid (Off b w w) := Off.refl _ _
  have HC := hide (fun (w' : World) (hw : PSt w' b s l r d m) => pmany_any n ih b s l d m w' r hw hn)
  have H1 := hide h1
  clear h h1 hn ih
  generalize manyP (orN true n) r = R at HC ⊢
  obtain ⟨R0, HM⟩ : ∃ R0 : Res Pat, Hid (R0 = R) := ⟨_, rfl⟩
  rw [← HM.out]
  unfold PGives
  go_enter Tryz.func209, Tryz.ntmps209
  go_wp2_with fail
  refine (take_no b s l _ _ d m _ HS.out (by decide) H1.out).mono ?_
  rintro e wi ⟨rfl, hbi⟩
  replace HS := hide (HS.out.below hbi)
  replace HO := hide (HO.out.trans (Off.below hbi))
  clear hbi
  go_wp2_with fail
  refine (HC.out _ HS.out).mono ?_
  rintro e w2 ⟨ho2, he2⟩
  have HO2 := hide (HO.out.trans ho2)
  have HZ := hide HO.out.size
  clear ho2 HC
  cases R with
  | bad q =>
    obtain ⟨rfl, m', hs2⟩ := he2
    have HS2 := hide hs2
    clear hs2
    go_wp2
    go_ret2
    exact ⟨HO2.out, by rw [HM.out]; exact ⟨rfl, _, HS2.out⟩⟩
  | ok p q =>
    obtain ⟨x, rfl, hp2, hs2⟩ := he2
    have HS2 := hide hs2
    have HP2 := hide (PN.mono (A' := New w) (fun k _ hk => Nat.le_trans HZ.out hk) p x hp2)
    clear hs2 hp2
    go_wp2
    go_ret2
    exact ⟨HO2.out, by rw [HM.out]; exact ⟨x, rfl, HP2.out, HS2.out⟩⟩
theorem pnot_any (n : Nat) (ih : POrOk n) : ∀ (r : List Int) (b : Nat) (s : ByteArray) (l : List Int) (d m : Int) (w : World), PSt w b s l r d m → r.length ≤ n → PGives 209 b s l d m (notP (orN true n) r) w
  | [], b, s, l, d, m, w, h, hn => pnot_many n ih b s l d m w [] h hn (by simp)
  | c :: t, b, s, l, d, m, w, h, hn => by
    simp only [notP]
    by_cases hc : c = 126
    · subst hc
      rw [if_pos rfl]
      exact pnot_tilde b s l d m w t _ h (fun d m w hw => pnot_any n ih t b s l d m w hw (by simp only [List.length_cons] at hn; omega))
    · rw [if_neg hc]
      exact pnot_many n ih b s l d m w (c :: t) h hn (by simpa using hc)
end Go.Proofs.YtlflfcjbpnnfcaaGreatDoor
/- The program's reader: rows: a walk. -/
namespace Go.Proofs.YtlflfcjbpnnfcaaGreatDoor
open Go.RowKit Brm

theorem PSt.setOther {w : World} {b : Nat} {s : ByteArray} {l r : List Int} {d m : Int} (h : PSt w b s l r d m) {p : Addr} (hp : b ≠ p.block) (h7 : 7 ≤ p.block) (u : Value) : PSt (w.setCell p u) b s l r d m := by
  have hb := h.2.2.2.2.2
  refine ⟨Blk.setOther h.1 hp _, h.2.1, h.2.2.1, h.2.2.2.1, ?_, hb⟩
  have hT := h.2.2.2.2.1
  exact ⟨by have := hT.1; simpa [World.setCell] using this, fun W hW => hT.2 W (fun k hk => (hW k hk).trans (Below.heap_setCell _ _ _ _ (by omega)))⟩
def beginsB (c : Int) : Bool := [126, 46, 92, 91, 40].contains c || atomB c
theorem begins_iff {s : List Int} (h : AllR s) : beginsB (nextP s) = !rowEnds true s := by
  cases s with
  | nil => rfl
  | cons c t =>
    have hc := (rune_iff c).1 h.head
    simp only [nextP, rowEnds, beginsB, atomB, Bool.true_and]
    rw [Bool.eq_iff_iff]
    simp [special, ends, loose]
    omega
set_option maxRecDepth 100000 in
set_option maxHeartbeats 400000 in
theorem beginsPart_any (c : Int) (w : World) (hr : Rn c) : Calls Tryz.prog 208 #[.int .i32 c] w fun e w' => e = .returned (.bool (beginsB c)) ∧ Below w.heap.size w w' := by
  by_cases h1 : c = 126
  · subst h1; go_enter Tryz.func208, Tryz.ntmps208; go_wp2; go_ret; exact ⟨rfl, Below.refl _ _⟩
  by_cases h2 : c = 46
  · subst h2; go_enter Tryz.func208, Tryz.ntmps208; go_wp2; go_ret; exact ⟨rfl, Below.refl _ _⟩
  by_cases h3 : c = 92
  · subst h3; go_enter Tryz.func208, Tryz.ntmps208; go_wp2; go_ret; exact ⟨rfl, Below.refl _ _⟩
  by_cases h4 : c = 91
  · subst h4; go_enter Tryz.func208, Tryz.ntmps208; go_wp2; go_ret; exact ⟨rfl, Below.refl _ _⟩
  by_cases h5 : c = 40
  · subst h5; go_enter Tryz.func208, Tryz.ntmps208; go_wp2; go_ret; exact ⟨rfl, Below.refl _ _⟩
  have b1 : (c == 126) = false := beq_eq_false_iff_ne.2 h1
  have b2 : (c == 46) = false := beq_eq_false_iff_ne.2 h2
  have b3 : (c == 92) = false := beq_eq_false_iff_ne.2 h3
  have b4 : (c == 91) = false := beq_eq_false_iff_ne.2 h4
  have b5 : (c == 40) = false := beq_eq_false_iff_ne.2 h5
  have HB : Hid (beginsB c = atomB c) := by show _ = _; simp [beginsB, h1, h2, h3, h4, h5]
  have HC := hide (isOfAtom_any c w hr)
  generalize atomB c = B at HB HC
  clear hr h1 h2 h3 h4 h5
  go_enter Tryz.func208, Tryz.ntmps208
  go_wp2_with fail
  refine HC.out.mono ?_
  rintro e w1 ⟨rfl, hb1⟩
  have HB1 := hide hb1
  clear hb1
  go_wp2
  go_ret
  exact ⟨ret_bool HB.out.symm, HB1.out⟩
/-- Rows, part by part. -/
def RowQ (w : World) (b : Nat) (s : ByteArray) (l : List Int) (d m : Int) (n : Nat) (R : Res Pat) (k : Nat) (wr : World) : Prop := Off b w wr ∧
  ∃ L s0 v, PSt wr b s l s0 d (max m (d + deepL L)) ∧ Blk wr w.heap.size [.int .i64 1, .slice none 0 0, v, .int .i64 0, .int .i64 0] 76 ∧ LP w w.heap.size v L wr ∧ rowLoop true (orN true n) k L s0 = R ∧ s0.length < k ∧ L.length + s0.length ≤ 60 ∧ s0.length ≤ n
theorem max_deep {m d : Int} {L : List Pat} {p : Pat} : max (max m (d + (deepL L : Int))) (d + (p.deep : Int)) = max m (d + (deepL (L ++ [p]) : Int)) := by rw [deepL_snoc]; omega
set_option maxRecDepth 100000 in
set_option maxHeartbeats 1000000 in
theorem prow_any (n : Nat) (ih : POrOk n) (b : Nat) (s : ByteArray) (l : List Int) (d m : Int) (w : World) (r : List Int) (h : PSt w b s l r d m) (hn : r.length ≤ n) : PGives 160 b s l d m (rowP true (orN true n) r) w := by
  have hb0 := h.lt
  have h7 := h.2.2.2.2.2.1
  have hl60 : l.length ≤ 60 := by have := runes_len h.2.2.1; rw [bytes_len] at this; have := h.2.2.2.1; omega
  have hrl := h.2.1.length_le
  have HI0 := hide (show RowQ w b s l d m n (rowP true (orN true n) r) (r.length + 1) (w.alloc (.cells #[.int .i64 1, .slice none 0 0, .slice none 0 0, .int .i64 0, .int .i64 0] 76)) from by
    refine ⟨(Off.refl b w).alloc _, [], r, .slice none 0 0, ?_, Blk.new w [.int .i64 1, .slice none 0 0, .slice none 0 0, .int .i64 0, .int .i64 0] 76, LP.nil _ _ _, rfl, by omega, by simp; omega, hn⟩
    have e : max m (d + ((deepL [] : Nat) : Int)) = m := by have := h.2.2.2.2.2; simp [deepL]; omega
    rw [e]; exact h.alloc _)
  have HIH := hide ih
  generalize hR : rowP true (orN true n) r = R at HI0 ⊢
  clear h hR ih hn
  unfold PGives
  go_enter Tryz.func160, Tryz.ntmps160
  go_wp2_with fail
  go_loopg [] (r.length + 1) (fun k wr => RowQ w b s l d m n R k wr)
  case atStart => exact HI0.out
  case round =>
    clear HI0
    obtain ⟨ho, L, s0, v, hs, hx, hlp, heq, hk, h60, hsn⟩ := hrel
    have hall := (runes_all hs.2.2.1).suf hs.2.1
    have HBE := hide (begins_iff hall)
    have HRN : Hid (Rn (nextP s0)) := nextP_rn hs.2.2.1 hs.2.1
    have HO := hide ho
    have HS := hide hs
    have HX := hide hx
    have HLP := hide hlp
    have HE := hide heq
    obtain ⟨k', rfl⟩ : ∃ k', gk = k' + 1 := ⟨gk - 1, by omega⟩
    clear ho hs hx hlp heq hall
    cases hre : rowEnds true s0 with
    | true =>
      have HR : Hid (R = .ok (.row L) s0) := by have := HE.out; simp only [rowLoop, hre, if_true] at this; exact this.symm
      rw [hre] at HBE
      clear hre
      go_wp2_with fail
      refine (look_any b s l s0 d _ _ HS.out).mono ?_
      rintro e wi ⟨rfl, hbi⟩
      replace HS := hide (HS.out.below hbi)
      replace HO := hide (HO.out.trans (Off.below hbi))
      replace HX := hide (HX.out.below hbi)
      replace HLP := hide (HLP.out.keep (Off.below hbi) (.inl hb0))
      clear hbi
      generalize nextP s0 = NN at HBE HRN
      go_wp2_with fail
      refine (beginsPart_any NN _ HRN.out).mono ?_
      rintro e wj ⟨rfl, hbi⟩
      replace HS := hide (HS.out.below hbi)
      replace HO := hide (HO.out.trans (Off.below hbi))
      replace HX := hide (HX.out.below hbi)
      replace HLP := hide (HLP.out.keep (Off.below hbi) (.inl hb0))
      clear hbi
      rw [HBE.out]
      go_wp2
      go_ret2
      obtain ⟨xs, o1, o2⟩ := HLP.out.own
      exact ⟨HO.out, by rw [HR.out]; exact ⟨w.heap.size, rfl, ⟨Nat.le_refl _, by omega, v, xs, HX.out, o1, o2⟩, HS.out⟩⟩
    | false =>
      have HR : Hid ((notP (orN true n) s0).bind (fun p s' => rowLoop true (orN true n) k' (L ++ [p]) s') = R) := by have := HE.out; simp only [rowLoop, hre, Bool.false_eq_true, if_false] at this; exact this
      have HTK := hide (notP_takes (orN_goes true n) s0)
      rw [hre] at HBE
      clear hre
      go_wp2_with fail
      refine (look_any b s l s0 d _ _ HS.out).mono ?_
      rintro e wi ⟨rfl, hbi⟩
      replace HS := hide (HS.out.below hbi)
      replace HO := hide (HO.out.trans (Off.below hbi))
      replace HX := hide (HX.out.below hbi)
      replace HLP := hide (HLP.out.keep (Off.below hbi) (.inl hb0))
      clear hbi
      generalize nextP s0 = NN at HBE HRN
      go_wp2_with fail
      refine (beginsPart_any NN _ HRN.out).mono ?_
      rintro e wj ⟨rfl, hbi⟩
      replace HS := hide (HS.out.below hbi)
      replace HO := hide (HO.out.trans (Off.below hbi))
      replace HX := hide (HX.out.below hbi)
      replace HLP := hide (HLP.out.keep (Off.below hbi) (.inl hb0))
      clear hbi
      rw [HBE.out]
      go_wp2_with fail
      refine (pnot_any n HIH.out s0 b s l d _ _ HS.out hsn).mono ?_
      rintro e w1 ⟨ho1, he1⟩
      generalize notP (orN true n) s0 = RR at he1 HR HTK
      cases RR with
      | bad q =>
        obtain ⟨rfl, m', hs1⟩ := he1
        have HS1 := hide hs1
        have HR2 : Hid (R = .bad q) := HR.out.symm
        replace HO := hide (HO.out.trans ho1)
        clear hs1 ho1
        go_wp2
        go_ret2
        exact ⟨HO.out, by rw [HR2.out]; exact ⟨rfl, _, HS1.out⟩⟩
      | ok p q =>
        obtain ⟨x, rfl, hp1, hs1⟩ := he1
        obtain ⟨xs, l1, l2, l3⟩ := HLP.out
        obtain ⟨ao, cap, rfl⟩ := own65_form l1
        have hsz1 := ho1.size
        have hszw := HO.out.size
        have hx1 := HX.out.off ho1 (by omega)
        have x2 := hx1.cell 2
        simp only [List.getElem?_cons_succ, List.getElem?_cons_zero] at x2
        have hxl := hx1.lt
        have hL1 := own_block l1 (fun q hq => ho1.block q (l1.lt q hq).2 (by have := (l1.lt q hq).1; omega))
        have HL1 := hide hL1
        have HX1 := hide hx1
        have HS1 := hide hs1
        have HP1 := hide hp1
        have HO1 := hide ho1
        have HOW := hide (HO.out.trans ho1)
        have H1 := hide l1
        have H2 := hide l2
        have H3 := hide l3
        have hl9 : L.length ≤ 60 := by omega
        clear hs1 hp1 ho1 l1 l2 l3 hx1 hL1
        go_wp2_with (at_builtin; refine append_ptr rfl (.tmp 23) (.tmp 25) rfl w.heap.size L.length _ _ rfl (HL1.out.alloc _) ⟨w1.heap.size, 0, none⟩ [Ptr x] rfl rfl (ptr_new _ _) (ptr_one _) (by omega) (by simp; omega) ?_; intro v3 w3 ho3 hg3 hl3; obtain ⟨ao3, cap3, rfl⟩ := own65_form ho3; have hx3 := (HX1.out.alloc (.cells #[Ptr x] 65)).grown hg3 (fun e => H2.out e.symm); have hf3 := hx3.frozen 2; have hc3 := hx3.cell 2; simp only [List.getElem?_cons_succ, List.getElem?_cons_zero] at hc3; have hxl3 := hx3.lt; have HX3 := hide hx3; have HO3 := hide ho3; have HG3 := hide hg3; have HL3 := hide hl3; clear ho3 hg3 hl3 hx3)
        go_roundg k'
        case measure => omega
        case rel =>
          have hpush := LP.push (b := b) H1.out H2.out H3.out hb0 (by have := HX1.out.lt; have := HX.out.lt; omega) hszw HO1.out HP1.out HO3.out HG3.out HL3.out
          refine ⟨((HOW.out.alloc _).grown HG3.out (fun q e => (H1.out.lt q e).1)).setNew (Nat.le_refl _) _, L ++ [p], q, _, ?_, HX3.out.set 2 _, hpush.keep ((Off.refl w.heap.size w3).setCell 2 _) (.inr rfl), HR.out, ?_, ?_, ?_⟩
          · rw [← max_deep]
            exact ((HS1.out.alloc _).grown HG3.out (fun q e => by have := (H1.out.lt q e).1; omega)).setOther (p := ⟨w.heap.size, 2, none⟩) (by show b ≠ w.heap.size; omega) (by show 7 ≤ w.heap.size; omega) _
          · have := HTK.out.1; omega
          · have := HTK.out.1; rw [List.length_append]; simp only [List.length_cons, List.length_nil]; omega
          · have := HTK.out.1; omega
end Go.Proofs.YtlflfcjbpnnfcaaGreatDoor
/- The program's reader: parts with a sign between them: walks. -/
namespace Go.Proofs.YtlflfcjbpnnfcaaGreatDoor
open Go.RowKit Brm

/-- Parts with a sign between them, part by part. -/
def JoinQ (w : World) (b : Nat) (s : ByteArray) (l : List Int) (d m : Int) (n : Nat) (part : List Int → Res Pat) (sign : Int) (mk : List Pat → Pat) (R : Res Pat) (k : Nat) (v : Value) (wr : World) : Prop := Off b w wr ∧
  ∃ L s0, PSt wr b s l s0 d (max m (d + deepL L)) ∧ LP w b v L wr ∧ joinLoop part sign mk k L s0 = R ∧ s0.length < k ∧ L.length + s0.length ≤ 60 ∧ s0.length ≤ n
theorem own_head {w : World} {B n : Nat} {v : Value} {xs : List Value} (h : w.ownsRow B 65 1 v (n + 1) xs) : ∃ g cap, v = .slice (some ⟨g, 0, none⟩) (n + 1) cap ∧ B ≤ g ∧ g < w.heap.size := by
  rcases h.2 with ⟨_, h0⟩ | ⟨g, cap, cur, rfl, hg, _⟩
  · omega
  · exact ⟨g, cap, rfl, hg, (h.lt g rfl).2⟩
theorem own_first {w : World} {B n g cap : Nat} {x : Value} {xs : List Value} (h : w.ownsRow B 65 1 (.slice (some ⟨g, 0, none⟩) n cap) n (x :: xs)) : w.cell? ⟨g, 0, none⟩ = some x := by
  have := h.cells rfl 0 x rfl
  rw [Addr.add_lit] at this; simpa using this
set_option maxRecDepth 100000 in
set_option maxHeartbeats 1000000 in
theorem joined_or (n : Nat) (part : List Int → Res Pat) (b : Nat) (s : ByteArray) (l : List Int) (d m : Int) (w : World) (r : List Int) (h : PSt w b s l r d m) (hn : r.length ≤ n)
    (hc : ∀ (r : List Int) (d m : Int) (w : World), PSt w b s l r d m → r.length ≤ n → PGives 105 b s l d m (part r) w) (hgo : ∀ s, Goes (part s) s) :
    Calls Tryz.prog 104 #[.pointer (some ⟨b, 0, none⟩), .int .i32 124, .int .i64 2, .func (.func 105) #[.pointer (some ⟨b, 0, none⟩)] #[]] w fun e w' => Off b w w' ∧ EndN b s l d m (joinLoop part 124 Pat.or (r.length + 1) [] r) w w' e := by
  have hb0 := h.lt
  have hl60 : l.length ≤ 60 := by have := runes_len h.2.2.1; rw [bytes_len] at this; have := h.2.2.2.1; omega
  have hrl := h.2.1.length_le
  have HI0 := hide (show JoinQ w b s l d m n part 124 Pat.or (joinLoop part 124 Pat.or (r.length + 1) [] r) (r.length + 1) (.slice none 0 0) w from by
    refine ⟨Off.refl b w, [], r, ?_, LP.nil _ _ _, rfl, by omega, by simp; omega, hn⟩
    have e : max m (d + ((deepL [] : Nat) : Int)) = m := by have := h.2.2.2.2.2; simp [deepL]; omega
    rw [e]; exact h)
  have HC := hide hc
  have HGO := hide hgo
  generalize hR : joinLoop part 124 Pat.or (r.length + 1) [] r = R at HI0 ⊢
  clear h hR hc hn hgo
  go_enter Tryz.func104, Tryz.ntmps104
  go_wp2_with fail
  go_loopg [10] (r.length + 1) (fun k v wr => JoinQ w b s l d m n part 124 Pat.or R k v wr)
  case atStart => exact HI0.out
  case round =>
    clear HI0
    obtain ⟨ho, L, s0, hs, hlp, heq, hk, h60, hsn⟩ := hrel
    have HO := hide ho
    have HS := hide hs
    have HE := hide heq
    obtain ⟨k', rfl⟩ : ∃ k', gk = k' + 1 := ⟨gk - 1, by omega⟩
    have HGS := hide (HGO.out s0)
    have HR : Hid ((part s0).bind (fun p s' => if s'.head? = some 124 then joinLoop part 124 Pat.or k' (L ++ [p]) s'.tail else .ok (Pat.or (L ++ [p])) s') = R) := by have := HE.out; simp only [joinLoop] at this; exact this
    obtain ⟨xs, l1, l2, l3⟩ := hlp
    obtain ⟨ao, cap, rfl⟩ := own65_form l1
    have H1 := hide l1
    have H2 := hide l2
    have H3 := hide l3
    clear ho hs heq l1 l2 l3
    go_wp2_with fail
    refine (HC.out s0 d _ _ HS.out hsn).mono ?_
    rintro e w1 ⟨ho1, he1⟩
    generalize part s0 = RR at he1 HR HGS
    cases RR with
    | bad q =>
      obtain ⟨rfl, m', hs1⟩ := he1
      have HS1 := hide hs1
      have HR2 : Hid (R = .bad q) := HR.out.symm
      replace HO := hide (HO.out.trans ho1)
      clear hs1 ho1
      go_wp2
      go_ret2
      exact ⟨HO.out, by rw [HR2.out]; exact ⟨rfl, _, HS1.out⟩⟩
    | ok p q =>
      obtain ⟨x, rfl, hp1, hs1⟩ := he1
      have hsz1 := ho1.size
      have hszw := HO.out.size
      have HL1 := hide (own_block H1.out (fun q hq => ho1.block q (H1.out.lt q hq).2 (by have := (H1.out.lt q hq).1; omega)))
      have HS1 := hide hs1
      have HP1 := hide hp1
      have HO1 := hide ho1
      have HOW := hide (HO.out.trans ho1)
      have hl9 : L.length ≤ 60 := by omega
      have hql : q.length ≤ s0.length := (show q <:+ s0 from HGS.out).length_le
      clear hs1 hp1 ho1
      by_cases hq : q.head? = some 124
      · obtain ⟨u, rfl⟩ : ∃ u, q = 124 :: u := ⟨_, head_cons hq⟩
        have HR2 : Hid (joinLoop part 124 Pat.or k' (L ++ [p]) u = R) := by have := HR.out; simp only [Res.bind, List.head?_cons, if_true, List.tail_cons] at this; exact this
        simp only [List.length_cons] at hql
        clear hq
        go_wp2_with (first
          | (at_builtin; refine append_ptr rfl (.tmp 20) (.tmp 22) rfl w.heap.size L.length _ _ rfl (HL1.out.alloc _) ⟨w1.heap.size, 0, none⟩ [Ptr x] rfl rfl (ptr_new _ _) (ptr_one _) (by omega) (by simp; omega) ?_; intro v3 w3 ho3 hg3 hl3; have HS3 := hide ((HS1.out.alloc (.cells #[Ptr x] 65)).grown hg3 (fun q e => by have := (H1.out.lt q e).1; omega)); have HO3 := hide ho3; have HG3 := hide hg3; have HL3 := hide hl3; clear ho3 hg3 hl3)
          | (go_at_call 159; refine (take_yes b s l _ _ d _ _ HS3.out).mono ?_; rintro e w4 ⟨rfl, hs4, ho4⟩; have HS4 := hide hs4; have HO4 := hide ho4; clear hs4 ho4))
        go_roundg k'
        case measure => omega
        case rel =>
          have hpush := LP.push (b := b) H1.out H2.out H3.out hb0 (Nat.lt_of_lt_of_le hb0 hszw) hszw HO1.out HP1.out HO3.out HG3.out HL3.out
          refine ⟨((HOW.out.alloc _).grown HG3.out (fun q e => (H1.out.lt q e).1)).trans HO4.out, L ++ [p], u, ?_, hpush.keep HO4.out (.inl hb0), HR2.out, ?_, ?_, ?_⟩
          · rw [← max_deep]; exact HS4.out
          · omega
          · rw [List.length_append]; simp only [List.length_cons, List.length_nil]; omega
          · omega
      · have HR2 : Hid (R = .ok (Pat.or (L ++ [p])) q) := by have := HR.out; simp only [Res.bind, if_neg hq] at this; exact this.symm
        have HQ := hide hq
        clear hq
        by_cases hL : L = []
        · subst hL
          have hxs : xs = [] := by have := PL.len [] xs H3.out; exact List.length_eq_zero_iff.1 this
          subst hxs
          go_wp2_with (first
            | (at_builtin; refine append_ptr rfl (.tmp 20) (.tmp 22) rfl w.heap.size 0 _ _ rfl (HL1.out.alloc _) ⟨w1.heap.size, 0, none⟩ [Ptr x] rfl rfl (ptr_new _ _) (ptr_one _) (by omega) (by simp; omega) ?_; intro v3 w3 ho3 hg3 hl3; have HS3 := hide ((HS1.out.alloc (.cells #[Ptr x] 65)).grown hg3 (fun q e => by have := (H1.out.lt q e).1; omega)); have HO3 := hide ho3; have HG3 := hide hg3; have HL3 := hide hl3; obtain ⟨g3, cap3, rfl, hg30, hg31⟩ := own_head ho3; have hcell3 := own_first ho3; clear ho3 hg3 hl3)
            | (go_at_call 159; refine (take_no b s l _ _ d _ _ HS3.out (by decide) HQ.out).mono ?_; rintro e w4 ⟨rfl, hb4⟩; have HS4 := hide (HS3.out.below hb4); have HB4 := hide hb4; rw [← hb4.cell (p := ⟨g3, 0, none⟩) hg31] at hcell3; have hg4 := Nat.lt_of_lt_of_le hg31 hb4.size; clear hb4))
          go_ret2
          have hpush := LP.push (b := b) H1.out H2.out H3.out hb0 (Nat.lt_of_lt_of_le hb0 hszw) hszw HO1.out HP1.out HO3.out HG3.out HL3.out
          obtain ⟨ys, o1, o2⟩ := (hpush.keep (Off.below HB4.out) (.inl hb0)).own
          rw [HR2.out]
          refine ⟨((HOW.out.alloc _).grown HG3.out (fun q e => (H1.out.lt q e).1)).trans (Off.below HB4.out), x, rfl, ⟨by simp, ys, o2, .inl ⟨rfl, ?_⟩⟩, ?_⟩
          · obtain ⟨y, r, rfl, _, hr⟩ := o2
            have hr' : r = [] := hr
            subst hr'
            have hy := o1.1.cells rfl 0 (Ptr y) rfl
            rw [Addr.add_lit] at hy
            have hy2 : w4.cell? ⟨g3, 0, none⟩ = some (Ptr y) := by simpa using hy
            rw [hcell3] at hy2
            simp only [Option.some.injEq, Value.pointer.injEq, Addr.mk.injEq, and_true] at hy2
            rw [hy2]
          · have e : max m (d + ((Pat.or ([] ++ [p])).deep : Int)) = max m (d + (deepL ([] ++ [p]) : Int)) := rfl
            rw [e, ← max_deep]; exact HS4.out
        · have hLp : 1 ≤ L.length := by cases L with | nil => exact absurd rfl hL | cons a t => simp
          have hne1 : ¬ L.length + 1 = 1 := by omega
          go_wp2_with (first
            | (at_builtin; refine append_ptr rfl (.tmp 20) (.tmp 22) rfl w.heap.size L.length _ _ rfl (HL1.out.alloc _) ⟨w1.heap.size, 0, none⟩ [Ptr x] rfl rfl (ptr_new _ _) (ptr_one _) (by omega) (by simp; omega) ?_; intro v3 w3 ho3 hg3 hl3; have HS3 := hide ((HS1.out.alloc (.cells #[Ptr x] 65)).grown hg3 (fun q e => by have := (H1.out.lt q e).1; omega)); have HO3 := hide ho3; have HG3 := hide hg3; have HL3 := hide hl3; obtain ⟨g3, cap3, rfl, hg30, hg31⟩ := own_head ho3; clear ho3 hg3 hl3; have hn3 : (((L.length : Nat) : Int) + 1 == 1) = false := beq_eq_false_iff_ne.2 (by omega); have hn4 : ((((L.length + 1 : Nat)) : Int) == 1) = false := beq_eq_false_iff_ne.2 (by omega))
            | (go_at_call 159; refine (take_no b s l _ _ d _ _ HS3.out (by decide) HQ.out).mono ?_; rintro e w4 ⟨rfl, hb4⟩; have HS4 := hide (HS3.out.below hb4); have HB4 := hide hb4; have hg4 := Nat.lt_of_lt_of_le hg31 hb4.size; clear hb4))
          go_ret2
          have hpush := LP.push (b := b) H1.out H2.out H3.out hb0 (Nat.lt_of_lt_of_le hb0 hszw) hszw HO1.out HP1.out HO3.out HG3.out HL3.out
          obtain ⟨ys, o1, o2⟩ := (hpush.keep (Off.below HB4.out) (.inl hb0)).own
          have HOF := ((HOW.out.alloc (.cells #[Ptr x] 65)).grown HG3.out (fun q e => (H1.out.lt q e).1)).trans (Off.below (b := b) HB4.out)
          have hlen : (L ++ [p]).length = L.length + 1 := by simp
          rw [HR2.out]
          refine ⟨HOF.alloc _, w4.heap.size, rfl, ⟨by rw [hlen]; omega, ys, PL.keep (Keeps.alloc _ _ _) _ ys o2, .inr ⟨by rw [hlen]; omega, HOF.size, _, Blk.new w4 [.int .i64 2, .slice none 0 0, .slice (some ⟨g3, 0, none⟩) (L.length + 1) cap3, .int .i64 0, .int .i64 0] 76, o1.keep (Keeps.alloc _ _ _)⟩⟩, ?_⟩
          have e : max m (d + ((Pat.or (L ++ [p])).deep : Int)) = max m (d + (deepL (L ++ [p]) : Int)) := rfl
          rw [e, ← max_deep]; exact HS4.out.alloc _
set_option maxRecDepth 100000 in
set_option maxHeartbeats 1000000 in
theorem joined_and (n : Nat) (part : List Int → Res Pat) (b : Nat) (s : ByteArray) (l : List Int) (d m : Int) (w : World) (r : List Int) (h : PSt w b s l r d m) (hn : r.length ≤ n)
    (hc : ∀ (r : List Int) (d m : Int) (w : World), PSt w b s l r d m → r.length ≤ n → PGives 160 b s l d m (part r) w) (hgo : ∀ s, Goes (part s) s) :
    Calls Tryz.prog 104 #[.pointer (some ⟨b, 0, none⟩), .int .i32 38, .int .i64 3, .func (.func 160) #[.pointer (some ⟨b, 0, none⟩)] #[]] w fun e w' => Off b w w' ∧ EndN b s l d m (joinLoop part 38 Pat.and (r.length + 1) [] r) w w' e := by
  have hb0 := h.lt
  have hl60 : l.length ≤ 60 := by have := runes_len h.2.2.1; rw [bytes_len] at this; have := h.2.2.2.1; omega
  have hrl := h.2.1.length_le
  have HI0 := hide (show JoinQ w b s l d m n part 38 Pat.and (joinLoop part 38 Pat.and (r.length + 1) [] r) (r.length + 1) (.slice none 0 0) w from by
    refine ⟨Off.refl b w, [], r, ?_, LP.nil _ _ _, rfl, by omega, by simp; omega, hn⟩
    have e : max m (d + ((deepL [] : Nat) : Int)) = m := by have := h.2.2.2.2.2; simp [deepL]; omega
    rw [e]; exact h)
  have HC := hide hc
  have HGO := hide hgo
  generalize hR : joinLoop part 38 Pat.and (r.length + 1) [] r = R at HI0 ⊢
  clear h hR hc hn hgo
  go_enter Tryz.func104, Tryz.ntmps104
  go_wp2_with fail
  go_loopg [10] (r.length + 1) (fun k v wr => JoinQ w b s l d m n part 38 Pat.and R k v wr)
  case atStart => exact HI0.out
  case round =>
    clear HI0
    obtain ⟨ho, L, s0, hs, hlp, heq, hk, h60, hsn⟩ := hrel
    have HO := hide ho
    have HS := hide hs
    have HE := hide heq
    obtain ⟨k', rfl⟩ : ∃ k', gk = k' + 1 := ⟨gk - 1, by omega⟩
    have HGS := hide (HGO.out s0)
    have HR : Hid ((part s0).bind (fun p s' => if s'.head? = some 38 then joinLoop part 38 Pat.and k' (L ++ [p]) s'.tail else .ok (Pat.and (L ++ [p])) s') = R) := by have := HE.out; simp only [joinLoop] at this; exact this
    obtain ⟨xs, l1, l2, l3⟩ := hlp
    obtain ⟨ao, cap, rfl⟩ := own65_form l1
    have H1 := hide l1
    have H2 := hide l2
    have H3 := hide l3
    clear ho hs heq l1 l2 l3
    go_wp2_with fail
    refine (HC.out s0 d _ _ HS.out hsn).mono ?_
    rintro e w1 ⟨ho1, he1⟩
    generalize part s0 = RR at he1 HR HGS
    cases RR with
    | bad q =>
      obtain ⟨rfl, m', hs1⟩ := he1
      have HS1 := hide hs1
      have HR2 : Hid (R = .bad q) := HR.out.symm
      replace HO := hide (HO.out.trans ho1)
      clear hs1 ho1
      go_wp2
      go_ret2
      exact ⟨HO.out, by rw [HR2.out]; exact ⟨rfl, _, HS1.out⟩⟩
    | ok p q =>
      obtain ⟨x, rfl, hp1, hs1⟩ := he1
      have hsz1 := ho1.size
      have hszw := HO.out.size
      have HL1 := hide (own_block H1.out (fun q hq => ho1.block q (H1.out.lt q hq).2 (by have := (H1.out.lt q hq).1; omega)))
      have HS1 := hide hs1
      have HP1 := hide hp1
      have HO1 := hide ho1
      have HOW := hide (HO.out.trans ho1)
      have hl9 : L.length ≤ 60 := by omega
      have hql : q.length ≤ s0.length := (show q <:+ s0 from HGS.out).length_le
      clear hs1 hp1 ho1
      by_cases hq : q.head? = some 38
      · obtain ⟨u, rfl⟩ : ∃ u, q = 38 :: u := ⟨_, head_cons hq⟩
        have HR2 : Hid (joinLoop part 38 Pat.and k' (L ++ [p]) u = R) := by have := HR.out; simp only [Res.bind, List.head?_cons, if_true, List.tail_cons] at this; exact this
        simp only [List.length_cons] at hql
        clear hq
        go_wp2_with (first
          | (at_builtin; refine append_ptr rfl (.tmp 20) (.tmp 22) rfl w.heap.size L.length _ _ rfl (HL1.out.alloc _) ⟨w1.heap.size, 0, none⟩ [Ptr x] rfl rfl (ptr_new _ _) (ptr_one _) (by omega) (by simp; omega) ?_; intro v3 w3 ho3 hg3 hl3; have HS3 := hide ((HS1.out.alloc (.cells #[Ptr x] 65)).grown hg3 (fun q e => by have := (H1.out.lt q e).1; omega)); have HO3 := hide ho3; have HG3 := hide hg3; have HL3 := hide hl3; clear ho3 hg3 hl3)
          | (go_at_call 159; refine (take_yes b s l _ _ d _ _ HS3.out).mono ?_; rintro e w4 ⟨rfl, hs4, ho4⟩; have HS4 := hide hs4; have HO4 := hide ho4; clear hs4 ho4))
        go_roundg k'
        case measure => omega
        case rel =>
          have hpush := LP.push (b := b) H1.out H2.out H3.out hb0 (Nat.lt_of_lt_of_le hb0 hszw) hszw HO1.out HP1.out HO3.out HG3.out HL3.out
          refine ⟨((HOW.out.alloc _).grown HG3.out (fun q e => (H1.out.lt q e).1)).trans HO4.out, L ++ [p], u, ?_, hpush.keep HO4.out (.inl hb0), HR2.out, ?_, ?_, ?_⟩
          · rw [← max_deep]; exact HS4.out
          · omega
          · rw [List.length_append]; simp only [List.length_cons, List.length_nil]; omega
          · omega
      · have HR2 : Hid (R = .ok (Pat.and (L ++ [p])) q) := by have := HR.out; simp only [Res.bind, if_neg hq] at this; exact this.symm
        have HQ := hide hq
        clear hq
        by_cases hL : L = []
        · subst hL
          have hxs : xs = [] := by have := PL.len [] xs H3.out; exact List.length_eq_zero_iff.1 this
          subst hxs
          go_wp2_with (first
            | (at_builtin; refine append_ptr rfl (.tmp 20) (.tmp 22) rfl w.heap.size 0 _ _ rfl (HL1.out.alloc _) ⟨w1.heap.size, 0, none⟩ [Ptr x] rfl rfl (ptr_new _ _) (ptr_one _) (by omega) (by simp; omega) ?_; intro v3 w3 ho3 hg3 hl3; have HS3 := hide ((HS1.out.alloc (.cells #[Ptr x] 65)).grown hg3 (fun q e => by have := (H1.out.lt q e).1; omega)); have HO3 := hide ho3; have HG3 := hide hg3; have HL3 := hide hl3; obtain ⟨g3, cap3, rfl, hg30, hg31⟩ := own_head ho3; have hcell3 := own_first ho3; clear ho3 hg3 hl3)
            | (go_at_call 159; refine (take_no b s l _ _ d _ _ HS3.out (by decide) HQ.out).mono ?_; rintro e w4 ⟨rfl, hb4⟩; have HS4 := hide (HS3.out.below hb4); have HB4 := hide hb4; rw [← hb4.cell (p := ⟨g3, 0, none⟩) hg31] at hcell3; have hg4 := Nat.lt_of_lt_of_le hg31 hb4.size; clear hb4))
          go_ret2
          have hpush := LP.push (b := b) H1.out H2.out H3.out hb0 (Nat.lt_of_lt_of_le hb0 hszw) hszw HO1.out HP1.out HO3.out HG3.out HL3.out
          obtain ⟨ys, o1, o2⟩ := (hpush.keep (Off.below HB4.out) (.inl hb0)).own
          rw [HR2.out]
          refine ⟨((HOW.out.alloc _).grown HG3.out (fun q e => (H1.out.lt q e).1)).trans (Off.below HB4.out), x, rfl, ⟨by simp, ys, o2, .inl ⟨rfl, ?_⟩⟩, ?_⟩
          · obtain ⟨y, r, rfl, _, hr⟩ := o2
            have hr' : r = [] := hr
            subst hr'
            have hy := o1.1.cells rfl 0 (Ptr y) rfl
            rw [Addr.add_lit] at hy
            have hy2 : w4.cell? ⟨g3, 0, none⟩ = some (Ptr y) := by simpa using hy
            rw [hcell3] at hy2
            simp only [Option.some.injEq, Value.pointer.injEq, Addr.mk.injEq, and_true] at hy2
            rw [hy2]
          · have e : max m (d + ((Pat.and ([] ++ [p])).deep : Int)) = max m (d + (deepL ([] ++ [p]) : Int)) := rfl
            rw [e, ← max_deep]; exact HS4.out
        · have hLp : 1 ≤ L.length := by cases L with | nil => exact absurd rfl hL | cons a t => simp
          have hne1 : ¬ L.length + 1 = 1 := by omega
          go_wp2_with (first
            | (at_builtin; refine append_ptr rfl (.tmp 20) (.tmp 22) rfl w.heap.size L.length _ _ rfl (HL1.out.alloc _) ⟨w1.heap.size, 0, none⟩ [Ptr x] rfl rfl (ptr_new _ _) (ptr_one _) (by omega) (by simp; omega) ?_; intro v3 w3 ho3 hg3 hl3; have HS3 := hide ((HS1.out.alloc (.cells #[Ptr x] 65)).grown hg3 (fun q e => by have := (H1.out.lt q e).1; omega)); have HO3 := hide ho3; have HG3 := hide hg3; have HL3 := hide hl3; obtain ⟨g3, cap3, rfl, hg30, hg31⟩ := own_head ho3; clear ho3 hg3 hl3; have hn3 : (((L.length : Nat) : Int) + 1 == 1) = false := beq_eq_false_iff_ne.2 (by omega); have hn4 : ((((L.length + 1 : Nat)) : Int) == 1) = false := beq_eq_false_iff_ne.2 (by omega))
            | (go_at_call 159; refine (take_no b s l _ _ d _ _ HS3.out (by decide) HQ.out).mono ?_; rintro e w4 ⟨rfl, hb4⟩; have HS4 := hide (HS3.out.below hb4); have HB4 := hide hb4; have hg4 := Nat.lt_of_lt_of_le hg31 hb4.size; clear hb4))
          go_ret2
          have hpush := LP.push (b := b) H1.out H2.out H3.out hb0 (Nat.lt_of_lt_of_le hb0 hszw) hszw HO1.out HP1.out HO3.out HG3.out HL3.out
          obtain ⟨ys, o1, o2⟩ := (hpush.keep (Off.below HB4.out) (.inl hb0)).own
          have HOF := ((HOW.out.alloc (.cells #[Ptr x] 65)).grown HG3.out (fun q e => (H1.out.lt q e).1)).trans (Off.below (b := b) HB4.out)
          have hlen : (L ++ [p]).length = L.length + 1 := by simp
          rw [HR2.out]
          refine ⟨HOF.alloc _, w4.heap.size, rfl, ⟨by rw [hlen]; omega, ys, PL.keep (Keeps.alloc _ _ _) _ ys o2, .inr ⟨by rw [hlen]; omega, HOF.size, _, Blk.new w4 [.int .i64 3, .slice none 0 0, .slice (some ⟨g3, 0, none⟩) (L.length + 1) cap3, .int .i64 0, .int .i64 0] 76, o1.keep (Keeps.alloc _ _ _)⟩⟩, ?_⟩
          have e : max m (d + ((Pat.and (L ++ [p])).deep : Int)) = max m (d + (deepL (L ++ [p]) : Int)) := rfl
          rw [e, ← max_deep]; exact HS4.out.alloc _
set_option maxRecDepth 100000 in
set_option maxHeartbeats 1000000 in
theorem pand_any (n : Nat) (ih : POrOk n) (b : Nat) (s : ByteArray) (l : List Int) (d m : Int) (w : World) (r : List Int) (h : PSt w b s l r d m) (hn : r.length ≤ n) : PGives 105 b s l d m (andP true (orN true n) r) w := by
  have HC := hide (joined_and n (rowP true (orN true n)) b s l d m w r h hn (fun r d m w h hn => prow_any n ih b s l d m w r h hn) (rowP_goes (orN_goes true n)))
  have HRE : Hid (andP true (orN true n) r = joinLoop (rowP true (orN true n)) 38 Pat.and (r.length + 1) [] r) := rfl
  clear h hn
  rw [HRE.out]
  generalize joinLoop (rowP true (orN true n)) 38 Pat.and (r.length + 1) [] r = RR at HC ⊢
  obtain ⟨R, HM⟩ : ∃ R : Res Pat, Hid (R = RR) := ⟨_, rfl⟩
  rw [← HM.out]
  unfold PGives
  go_enter Tryz.func105, Tryz.ntmps105
  go_wp2_with fail
  refine HC.out.mono ?_
  rintro e w1 ⟨ho1, he1⟩
  have HO1 := hide ho1
  clear ho1 HC HRE
  cases RR with
  | bad q =>
    obtain ⟨rfl, m', hs2⟩ := he1
    have HS2 := hide hs2
    clear hs2
    go_wp2
    go_ret2
    exact ⟨HO1.out, by rw [HM.out]; exact ⟨rfl, _, HS2.out⟩⟩
  | ok p q =>
    obtain ⟨x, rfl, hp2, hs2⟩ := he1
    have HS2 := hide hs2
    have HP2 := hide hp2
    clear hs2 hp2
    go_wp2
    go_ret2
    exact ⟨HO1.out, by rw [HM.out]; exact ⟨x, rfl, HP2.out, HS2.out⟩⟩
set_option maxRecDepth 100000 in
set_option maxHeartbeats 1000000 in
theorem por_any (n : Nat) (ih : POrOk n) (b : Nat) (s : ByteArray) (l : List Int) (d m : Int) (w : World) (r : List Int) (h : PSt w b s l r d m) (hn : r.length ≤ n) : PGives 58 b s l d m (orP true (orN true n) r) w := by
  have HC := hide (joined_or n (andP true (orN true n)) b s l d m w r h hn (fun r d m w h hn => pand_any n ih b s l d m w r h hn) (andP_goes (orN_goes true n)))
  have HRE : Hid (orP true (orN true n) r = joinLoop (andP true (orN true n)) 124 Pat.or (r.length + 1) [] r) := rfl
  clear h hn
  rw [HRE.out]
  generalize joinLoop (andP true (orN true n)) 124 Pat.or (r.length + 1) [] r = RR at HC ⊢
  obtain ⟨R, HM⟩ : ∃ R : Res Pat, Hid (R = RR) := ⟨_, rfl⟩
  rw [← HM.out]
  unfold PGives
  go_enter Tryz.func58, Tryz.ntmps58
  go_wp2_with fail
  refine HC.out.mono ?_
  rintro e w1 ⟨ho1, he1⟩
  have HO1 := hide ho1
  clear ho1 HC HRE
  cases RR with
  | bad q =>
    obtain ⟨rfl, m', hs2⟩ := he1
    have HS2 := hide hs2
    clear hs2
    go_wp2
    go_ret2
    exact ⟨HO1.out, by rw [HM.out]; exact ⟨rfl, _, HS2.out⟩⟩
  | ok p q =>
    obtain ⟨x, rfl, hp2, hs2⟩ := he1
    have HS2 := hide hs2
    have HP2 := hide hp2
    clear hs2 hp2
    go_wp2
    go_ret2
    exact ⟨HO1.out, by rw [HM.out]; exact ⟨x, rfl, HP2.out, HS2.out⟩⟩
theorem por_all : ∀ n, POrOk n
  | 0 => fun _ _ _ _ _ _ _ _ hn => absurd hn (Nat.not_lt_zero _)
  | n + 1 => fun b s l r d m w h hn => por_any n (por_all n) b s l d m w r h (Nat.le_of_lt_succ hn)
end Go.Proofs.YtlflfcjbpnnfcaaGreatDoor
/- The program's reader: the whole of it: walks. -/
namespace Go.Proofs.YtlflfcjbpnnfcaaGreatDoor
open Go.RowKit Brm

/-- The search for a byte that is part of no rune, round by round. -/
def BrokI (w : World) (bs : List UInt8) (k : Nat) (iv : Value) (wr : World) : Prop := ∃ pre : List Int, Chain bs pre ∧ iv = .int .i64 (posOf pre.length bs) ∧ Below w.heap.size w wr ∧ bs.length - posOf pre.length bs ≤ k
set_option maxRecDepth 100000 in
set_option maxHeartbeats 1000000 in
theorem broken_any (s : ByteArray) (w : World) (hT : Tabs w) (hs : s.size ≤ 1000) : Calls Tryz.prog 57 #[.string s] w fun e w' => Below w.heap.size w w' ∧
    ((∃ l, Runes (bytesOf s) l ∧ e = .returned (.tuple #[.int .i64 0, .bool false])) ∨ (∃ k : Nat, Broken (bytesOf s) k ∧ e = .returned (.tuple #[.int .i64 k, .bool true]))) := by
  have HT := hide hT
  have HLEN := hide (bytes_len s)
  clear hT
  go_enter Tryz.func57, Tryz.ntmps57
  go_wp2_with fail
  go_loopg [4] s.size (fun k iv wr => BrokI w (bytesOf s) k iv wr)
  case atStart => exact ⟨[], chain_nil _, rfl, Below.refl _ _, by rw [HLEN.out]; simp⟩
  case round =>
    obtain ⟨pre, hch, rfl, hbel, hk⟩ := hrel
    have hp1 := hch.1
    rw [HLEN.out] at hp1 hk
    have HCH := hide hch
    have HB := hide hbel
    have HDR := hide (bytes_drop s (posOf pre.length (bytesOf s)))
    clear hch hbel
    generalize hP : posOf pre.length (bytesOf s) = P at hp1 hk HDR
    have HP := hide hP
    have i0 : (0 : Int) ≤ (P : Int) := Int.natCast_nonneg _
    have i1 : (P : Int) ≤ (s.size : Int) := by omega
    clear hP
    by_cases hlt : P < s.size
    · have i2 : (P : Int) < (s.size : Int) := by omega
      have hne : (bytesOf s).drop P ≠ [] := by intro e; have := congrArg List.length e; rw [List.length_drop, HLEN.out, List.length_nil] at this; omega
      have hfit := decL_fit hne
      have HC := hide (fun (w' : World) (hw : Tabs w') => dec_any (s.extract P s.size) w' hw (by rw [ext_size]; omega))
      rw [HDR.out] at HC
      have HTW := hide (HT.out.below HB.out)
      by_cases hno : decL ((bytesOf s).drop P) = noRune
      · have HBR : Hid (Broken (bytesOf s) P) := by
          have := HCH.out.2.2 0 (by rw [HP.out]; exact .here hne hno)
          rw [HP.out] at this
          exact this
        rw [hno] at HC
        clear hno hne hfit
        simp only [noRune] at HC
        go_wp2_with (go_at_call 103; refine (HC.out _ HTW.out).mono ?_; rintro e w5 ⟨rfl, hb5⟩; have HB5 := hide hb5; clear hb5)
        go_ret2
        exact ⟨HB.out.trans (HB5.out.mono HB.out.size), .inr ⟨P, HBR.out, rfl⟩⟩
      · have HSN := hide (chain_snoc HCH.out (by rw [HP.out]; exact hne) (by rw [HP.out]; exact hno))
        rw [HP.out] at HSN
        rw [List.length_drop, HLEN.out] at hfit
        generalize hD : decL ((bytesOf s).drop P) = D at HC hno HSN hfit
        obtain ⟨C, Z⟩ := D
        obtain ⟨z1, z2, z3, z4⟩ := hfit
        simp only at z1 z2 z3 z4 HC HSN
        clear hD z4 hne
        by_cases hc : C = 65533
        · have hz : ¬ Z = 1 := fun e => hno (by rw [hc, e]; rfl)
          subst hc
          have b1 : ((Z : Int) == 1) = false := beq_eq_false_iff_ne.2 (by omega)
          have b2 : (Z == 1) = false := beq_eq_false_iff_ne.2 hz
          clear hno
          go_wp2_with (go_at_call 103; refine (HC.out _ HTW.out).mono ?_; rintro e w5 ⟨rfl, hb5⟩; have HB5 := hide hb5; clear hb5)
          go_roundg (gk - 1)
          case measure => omega
          case rel =>
            refine ⟨_, HSN.out.1, ?_, HB.out.trans (HB5.out.mono HB.out.size), ?_⟩
            · rw [List.length_append, List.length_singleton, HSN.out.2]; go_num
            · rw [HLEN.out, List.length_append, List.length_singleton, HSN.out.2]; omega
        · have b1 : ((C : Int) == 65533) = false := beq_eq_false_iff_ne.2 (by omega)
          have b2 : (C == 65533) = false := beq_eq_false_iff_ne.2 hc
          clear hno hc
          go_wp2_with (go_at_call 103; refine (HC.out _ HTW.out).mono ?_; rintro e w5 ⟨rfl, hb5⟩; have HB5 := hide hb5; clear hb5)
          go_roundg (gk - 1)
          case measure => omega
          case rel =>
            refine ⟨_, HSN.out.1, ?_, HB.out.trans (HB5.out.mono HB.out.size), ?_⟩
            · rw [List.length_append, List.length_singleton, HSN.out.2]; go_num
            · rw [HLEN.out, List.length_append, List.length_singleton, HSN.out.2]; omega
    · have i2 : decide ((P : Int) < (s.size : Int)) = false := decide_eq_false (by omega)
      have HRU : Hid (Runes (bytesOf s) pre) := by
        have h9 := HCH.out.2.1 [] (by rw [HP.out, List.drop_eq_nil_of_le (by rw [HLEN.out]; omega)]; exact .nil)
        rw [List.append_nil] at h9
        exact h9
      go_wp2
      go_ret2
      exact ⟨HB.out, .inl ⟨pre, HRU.out, rfl⟩⟩
/-- What syntax.Read hands back. -/
def ReadQ (s : ByteArray) (w : World) (e : Ending) (w' : World) : Prop := Below w.heap.size w w' ∧ ∃ nv er place op, ReadR (bytesOf s) (er, place, op) ∧ e = .returned (.tuple #[nv, .int .i64 er, .int .i64 place]) ∧
  match op with | some p => ∃ x, nv = Ptr x ∧ PN w' (New w) p x | none => nv = .pointer none
set_option maxRecDepth 100000 in
set_option maxHeartbeats 400000 in
theorem pread_long (s : ByteArray) (w : World) (hs : 60 < s.size) (hm : s.size ≤ 9223372036854775807) : Calls Tryz.prog 34 #[.string s] w fun e w' => ReadQ s w e w' := by
  have HS := hide hs
  have hd : decide ((60 : Int) < (s.size : Int)) = true := decide_eq_true (by omega)
  go_enter Tryz.func34, Tryz.ntmps34
  go_wp2
  refine bodyPost_ret (v := .tuple #[.pointer none, .int .i64 2, .int .i64 0]) (by simp [results, Tryz.results34, go_sem]) rfl ?_
  exact ⟨Below.refl _ _, _, 2, 0, none, .inl ⟨by rw [bytes_len]; exact HS.out, rfl⟩, rfl, rfl⟩
theorem lax_bad {l q : List Int} (h : orN true (l.length + 1) l = .bad q) (bs : List UInt8) : outcome bs l = (4, (posOf (l.length - q.length) bs : Int), none) := by
  unfold outcome; rw [or_adj, h]; rfl
theorem lax_more {l t : List Int} {p : Pat} {c : Int} (h : orN true (l.length + 1) l = .ok p (c :: t)) (bs : List UInt8) : outcome bs l = (4, (posOf (l.length - (c :: t).length) bs : Int), none) := by
  unfold outcome; rw [or_adj, h]
  simp only [adj]
  split
  · rename_i h1; split at h1
    · cases h1; rfl
    · cases h1
  · rename_i h1; split at h1
    · cases h1
    · cases h1; rfl
  · rename_i h1; split at h1
    · cases h1
    · cases h1
theorem lax_all {l : List Int} {p : Pat} (h : orN true (l.length + 1) l = .ok p []) (bs : List UInt8) : outcome bs l = if 8 < p.deep then (5, 0, none) else (0, 0, some p) := by
  unfold outcome; rw [or_adj, h]; rfl
set_option maxRecDepth 100000 in
set_option maxHeartbeats 1000000 in
theorem pread_short (s : ByteArray) (w : World) (hT : Tabs w) (hs : s.size ≤ 60) : Calls Tryz.prog 34 #[.string s] w fun e w' => ReadQ s w e w' := by
  have HS := hide hs
  have HL : Hid ((bytesOf s).length ≤ 60) := by show _ ≤ _; rw [bytes_len]; exact hs
  have HC := hide (broken_any s w hT (by omega))
  have HT := hide hT
  have hd : decide ((60 : Int) < (s.size : Int)) = false := decide_eq_false (by omega)
  clear hT
  go_enter Tryz.func34, Tryz.ntmps34
  go_wp2_with fail
  refine HC.out.mono ?_
  rintro e w1 ⟨hb1, hcase⟩
  have HB1 := hide hb1
  have HT1 := hide (HT.out.below hb1)
  clear hb1
  rcases hcase with ⟨l, hru, rfl⟩ | ⟨k, hbr, rfl⟩
  · have HRU := hide hru
    have hst : PSt (w1.alloc (.cells #[.string s, .int .i64 0, .int .i64 0, .int .i64 0] 116)) w1.heap.size s l l 0 0 := by
      refine ⟨?_, List.suffix_refl l, hru, hs, HT1.out.below ((Below.refl _ _).alloc (Nat.le_refl _) _), HT1.out.1, by simp⟩
      have := Blk.new w1 [.string s, .int .i64 0, .int .i64 0, .int .i64 0] 116
      simpa [PRd, posOf] using this
    have HC2 := hide (por_all (l.length + 1) w1.heap.size s l l 0 0 _ hst (Nat.lt_succ_self _))
    clear hru hst
    go_wp2_with fail
    refine HC2.out.mono ?_
    rintro e w2 ⟨ho2, he2⟩
    have HB2 : Hid (Below w.heap.size w w2) := HB1.out.trans ((((Below.refl _ w1).alloc (Nat.le_refl _) _).trans (ho2.toBelow (Nat.le_refl _) (by simp))).mono HB1.out.size)
    clear ho2
    cases hr : orN true (l.length + 1) l with
    | bad q =>
      rw [hr] at he2
      obtain ⟨rfl, m', hs2⟩ := he2
      have HOC := hide (lax_bad hr (bytesOf s))
      obtain ⟨c0, c1, c2, c3, hbl⟩ := hs2.cells
      generalize posOf (l.length - q.length) (bytesOf s) = PO at c1 HOC
      clear hs2 hr c0 c2 c3
      go_wp2_with fail
      go_region
      go_wp2_with fail
      refine bodyPost_ret (v := .tuple #[.pointer none, .int .i64 4, .int .i64 PO]) (by simp [results, Tryz.results34, go_sem]) rfl ?_
      exact ⟨below_drawn HB2.out, _, 4, PO, none, .inr (.inr ⟨HL.out, l, HRU.out, HOC.out.symm⟩), rfl, rfl⟩
    | ok p q =>
      rw [hr] at he2
      obtain ⟨x, rfl, hp2, hs2⟩ := he2
      have HP2 : Hid (PN w2 (New w) p x) := PN.mono (fun k _ hk => by have hk' : (w1.alloc (.cells #[.string s, .int .i64 0, .int .i64 0, .int .i64 0] 116)).heap.size ≤ k := hk; have := HB1.out.size; simp at hk'; show w.heap.size ≤ k; omega) p x hp2
      clear hp2
      cases q with
      | cons c t =>
        have HOC := hide (lax_more hr (bytesOf s))
        have HLK := hide (look_any w1.heap.size s l (c :: t) 0 _ w2 hs2)
        have hrn := (runes_all hs2.2.2.1).suf hs2.2.1 c (by simp)
        have hcn : (c == -1) = false := rune_ne hrn
        have hcm : (c != -1) = true := by rw [bne, hcn]; rfl
        have HS2 := hide hs2
        clear hs2 hr hrn
        simp only [nextP] at HLK
        go_wp2_with fail
        refine HLK.out.mono ?_
        rintro e w3 ⟨rfl, hb3⟩
        obtain ⟨c0, c1, c2, c3, hbl⟩ := (HS2.out.below hb3).cells
        have HB3 := hide (HB2.out.trans (hb3.mono HB2.out.size))
        generalize posOf (l.length - (c :: t).length) (bytesOf s) = PO at c1 HOC
        clear hb3 c0 c2 c3
        go_wp2_with fail
        go_region
        go_wp2_with fail
        refine bodyPost_ret (v := .tuple #[.pointer none, .int .i64 4, .int .i64 PO]) (by simp [results, Tryz.results34, go_sem]) rfl ?_
        exact ⟨below_drawn HB3.out, _, 4, PO, none, .inr (.inr ⟨HL.out, l, HRU.out, HOC.out.symm⟩), rfl, rfl⟩
      | nil =>
        have HOC := hide (lax_all hr (bytesOf s))
        have HLK := hide (look_any w1.heap.size s l [] 0 _ w2 hs2)
        have HS2 := hide hs2
        clear hs2 hr
        simp only [nextP] at HLK
        go_wp2_with fail
        refine HLK.out.mono ?_
        rintro e w3 ⟨rfl, hb3⟩
        have hs3 := HS2.out.below hb3
        obtain ⟨c0, c1, c2, c3, hbl⟩ := hs3.cells
        have HB3 := hide (HB2.out.trans (hb3.mono HB2.out.size))
        have HP3 := hide (PN.keep (Keeps.below hb3) p x HP2.out)
        have em : max 0 (0 + (p.deep : Int)) = (p.deep : Int) := by omega
        rw [em] at c3
        clear hb3 c0 c1 c2 hs3
        by_cases hdp : 8 < p.deep
        · have hd8 : (8 : Int) < (p.deep : Int) := by omega
          rw [if_pos hdp] at HOC
          go_wp2
          refine bodyPost_ret (v := .tuple #[.pointer none, .int .i64 5, .int .i64 0]) (by simp [results, Tryz.results34, go_sem]) rfl ?_
          exact ⟨HB3.out, _, 5, 0, none, .inr (.inr ⟨HL.out, l, HRU.out, HOC.out.symm⟩), rfl, rfl⟩
        · have hd8 : decide ((8 : Int) < (p.deep : Int)) = false := decide_eq_false (by omega)
          rw [if_neg hdp] at HOC
          go_wp2
          refine bodyPost_ret (v := .tuple #[Ptr x, .int .i64 0, .int .i64 0]) (by simp [results, Tryz.results34, go_sem]) rfl ?_
          exact ⟨HB3.out, _, 0, 0, some p, .inr (.inr ⟨HL.out, l, HRU.out, HOC.out.symm⟩), rfl, x, rfl, HP3.out⟩
  · have HBR := hide hbr
    clear hbr
    go_wp2
    refine bodyPost_ret (v := .tuple #[.pointer none, .int .i64 3, .int .i64 k]) (by simp [results, Tryz.results34, go_sem]) rfl ?_
    exact ⟨HB1.out, _, 3, k, none, .inr (.inl ⟨HL.out, k, HBR.out, rfl⟩), rfl, rfl⟩
theorem pread_any (s : ByteArray) (w : World) (hT : Tabs w) (hm : s.size ≤ 9223372036854775807) : Calls Tryz.prog 34 #[.string s] w fun e w' => ReadQ s w e w' := by
  by_cases h : s.size ≤ 60
  · exact pread_short s w hT h
  · exact pread_long s w (by omega) hm
end Go.Proofs.YtlflfcjbpnnfcaaGreatDoor
