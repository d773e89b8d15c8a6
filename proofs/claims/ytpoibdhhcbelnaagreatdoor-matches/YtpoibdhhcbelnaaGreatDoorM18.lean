/- Walks and plain laws, some texts in one. -/
import Derived.Deep.AppendLies
import Derived.Deep.LoopGhost
import Derived.Test.YtpoibdhhcbelnaaGreatDoorM17
/- The reference's atoms: walks. -/
namespace Go.Proofs.YtpoibdhhcbelnaaGreatDoor
open Go.RowKit Brm

set_option maxRecDepth 100000 in
set_option maxHeartbeats 1000000 in
theorem atom_nil (b : Nat) (lv : Value) (l : List Int) (g : Nat) (d m : Int) (w : World) (h : St w b lv l [] g d m) : Gives 278 b lv l g d m (.bad []) w := by
  unfold Gives
  have HS0 := hide h
  have HBb := hide h.1.lt
  obtain ⟨f1, f2, f3, f4, f5, f6⟩ := h.facts
  have hb0 := h.1.lt
  skip
  clear h
  go_enter Tryz.func278, Tryz.ntmps278
  go_wp2_with fail
  refine (next_any _ _ _ _ _ _ _ _ (HS0.out.new (.cells #[.int .i64 0, .slice none 0 0, .slice none 0 0, .int .i64 0, .int .i64 0, .int .i64 0] 32))).mono ?_
  rintro e wn ⟨rfl, hwn⟩
  simp only [nextV]
  have HS := hide ((HS0.out.new (.cells #[.int .i64 0, .slice none 0 0, .slice none 0 0, .int .i64 0, .int .i64 0, .int .i64 0] 32)).drn hwn)
  have HO : Hid (Off b w wn) := ((Off.refl b w).alloc (.cells #[.int .i64 0, .slice none 0 0, .slice none 0 0, .int .i64 0, .int .i64 0, .int .i64 0] 32)).trans (Off.drn hwn)
  have HK := hide ((Blk.new w [.int .i64 0, .slice none 0 0, .slice none 0 0, .int .i64 0, .int .i64 0, .int .i64 0] 32).off (c := b) (Off.drn hwn) (by omega))
  have HZ0 : Hid (w.heap.size + 1 ≤ wn.heap.size) := by have := (Off.drn (b := b) hwn).size; show _ ≤ _; simp at this; omega
  clear hwn
  obtain ⟨c0, c1, c2, c3, c4, c5, hb⟩ := HS.out.cells
  have hf1 := HS.out.1.frozen 1
  have hf3 := HS.out.1.frozen 3
  have hlen := HS.out.2.2.2.1
  skip
  go_wp2_with fail
  refine (fail_any _ _ _ _ _ _ _ _ HS.out).mono ?_
  rintro e wf ⟨rfl, hbad, hof⟩
  have HB := hide hbad
  have HO2 : Hid (Off b w wf) := HO.out.trans hof
  replace HK := hide (HK.out.off hof (by omega))
  clear hbad hof c0 c1 c2 c3 c4 c5 hb hf1 hf3
  obtain ⟨⟨z0, z1, z2, z3, z4, z5⟩, ⟨y0, y1, y2, y3, y4, y5⟩, hw1⟩ := zero_cells HK.out
  try simp at z0 z1 z2 z3 z4 z5 y0 y1 y2 y3 y4 y5 hw1
  go_wp2_with fail
  refine bodyPost_ret (v := .agg #[.int .i64 0, .slice none 0 0, .slice none 0 0, .int .i64 0, .int .i64 0, .int .i64 0]) (by simp [results, Tryz.results278, go_sem, z0, z1, z2, z3, z4, z5]) rfl ⟨0, none, 0, 0, none, 0, 0, 0, 0, 0, rfl, ?_⟩
  exact bad_end HB.out HBb.out HO2.out rfl
set_option maxRecDepth 100000 in
set_option maxHeartbeats 1000000 in
theorem atom_bad (b : Nat) (lv : Value) (l t : List Int) (g : Nat) (d m : Int) (w : World) (c : Int) (hc : runeB c = true) (hs : special c = true) (n1 : ¬ c = 40) (n2 : ¬ c = 91) (n3 : ¬ c = 46) (n4 : ¬ c = 92) (h : St w b lv l (c :: t) g d m) : Gives 278 b lv l g d m (.bad (c :: t)) w := by
  unfold Gives
  have HS0 := hide h
  have HBb := hide h.1.lt
  obtain ⟨f1, f2, f3, f4, f5, f6⟩ := h.facts
  have hb0 := h.1.lt
  have b1 : (c == 40) = false := beq_eq_false_iff_ne.2 n1
  have b2 : (c == 91) = false := beq_eq_false_iff_ne.2 n2
  have b3 : (c == 46) = false := beq_eq_false_iff_ne.2 n3
  have b4 : (c == 92) = false := beq_eq_false_iff_ne.2 n4
  have hr := (rune_iff c).1 hc
  have h0 : (0 : Int) ≤ c := by omega
  clear n1 n2 n3 n4 hc
  clear h
  go_enter Tryz.func278, Tryz.ntmps278
  go_wp2_with fail
  refine (next_any _ _ _ _ _ _ _ _ (HS0.out.new (.cells #[.int .i64 0, .slice none 0 0, .slice none 0 0, .int .i64 0, .int .i64 0, .int .i64 0] 32))).mono ?_
  rintro e wn ⟨rfl, hwn⟩
  simp only [nextV]
  have HS := hide ((HS0.out.new (.cells #[.int .i64 0, .slice none 0 0, .slice none 0 0, .int .i64 0, .int .i64 0, .int .i64 0] 32)).drn hwn)
  have HO : Hid (Off b w wn) := ((Off.refl b w).alloc (.cells #[.int .i64 0, .slice none 0 0, .slice none 0 0, .int .i64 0, .int .i64 0, .int .i64 0] 32)).trans (Off.drn hwn)
  have HK := hide ((Blk.new w [.int .i64 0, .slice none 0 0, .slice none 0 0, .int .i64 0, .int .i64 0, .int .i64 0] 32).off (c := b) (Off.drn hwn) (by omega))
  have HZ0 : Hid (w.heap.size + 1 ≤ wn.heap.size) := by have := (Off.drn (b := b) hwn).size; show _ ≤ _; simp at this; omega
  clear hwn
  obtain ⟨c0, c1, c2, c3, c4, c5, hb⟩ := HS.out.cells
  have hf1 := HS.out.1.frozen 1
  have hf3 := HS.out.1.frozen 3
  have hlen := HS.out.2.2.2.1
  go_wp2_with fail
  refine (among_any _ _ _ (by decide)).mono ?_
  rintro e wa ⟨rfl, rfl⟩
  simp only [amongB_special]
  go_wp2_with fail
  refine (fail_any _ _ _ _ _ _ _ _ HS.out).mono ?_
  rintro e wf ⟨rfl, hbad, hof⟩
  have HB := hide hbad
  have HO2 : Hid (Off b w wf) := HO.out.trans hof
  replace HK := hide (HK.out.off hof (by omega))
  clear hbad hof c0 c1 c2 c3 c4 c5 hb hf1 hf3
  obtain ⟨⟨z0, z1, z2, z3, z4, z5⟩, ⟨y0, y1, y2, y3, y4, y5⟩, hw1⟩ := zero_cells HK.out
  try simp at z0 z1 z2 z3 z4 z5 y0 y1 y2 y3 y4 y5 hw1
  go_wp2_with fail
  refine bodyPost_ret (v := .agg #[.int .i64 0, .slice none 0 0, .slice none 0 0, .int .i64 0, .int .i64 0, .int .i64 0]) (by simp [results, Tryz.results278, go_sem, z0, z1, z2, z3, z4, z5]) rfl ⟨0, none, 0, 0, none, 0, 0, 0, 0, 0, rfl, ?_⟩
  exact bad_end HB.out HBb.out HO2.out rfl
set_option maxRecDepth 100000 in
set_option maxHeartbeats 1000000 in
theorem atom_rune (b : Nat) (lv : Value) (l t : List Int) (g : Nat) (d m : Int) (w : World) (c : Int) (hc : runeB c = true) (hs : special c = false) (h : St w b lv l (c :: t) g d m) : Gives 278 b lv l g d m (.ok (.set [(c, c)]) t) w := by
  unfold Gives
  have HS0 := hide h
  have HBb := hide h.1.lt
  obtain ⟨f1, f2, f3, f4, f5, f6⟩ := h.facts
  have hb0 := h.1.lt
  have b1 : (c == 40) = false := beq_eq_false_iff_ne.2 (by intro e; subst e; simp [special] at hs)
  have b2 : (c == 91) = false := beq_eq_false_iff_ne.2 (by intro e; subst e; simp [special] at hs)
  have b3 : (c == 46) = false := beq_eq_false_iff_ne.2 (by intro e; subst e; simp [special] at hs)
  have b4 : (c == 92) = false := beq_eq_false_iff_ne.2 (by intro e; subst e; simp [special] at hs)
  have hr := (rune_iff c).1 hc
  have h0 : (0 : Int) ≤ c := by omega
  have HC := hide hc
  clear hc
  clear h
  go_enter Tryz.func278, Tryz.ntmps278
  go_wp2_with fail
  refine (next_any _ _ _ _ _ _ _ _ (HS0.out.new (.cells #[.int .i64 0, .slice none 0 0, .slice none 0 0, .int .i64 0, .int .i64 0, .int .i64 0] 32))).mono ?_
  rintro e wn ⟨rfl, hwn⟩
  simp only [nextV]
  have HS := hide ((HS0.out.new (.cells #[.int .i64 0, .slice none 0 0, .slice none 0 0, .int .i64 0, .int .i64 0, .int .i64 0] 32)).drn hwn)
  have HO : Hid (Off b w wn) := ((Off.refl b w).alloc (.cells #[.int .i64 0, .slice none 0 0, .slice none 0 0, .int .i64 0, .int .i64 0, .int .i64 0] 32)).trans (Off.drn hwn)
  have HK := hide ((Blk.new w [.int .i64 0, .slice none 0 0, .slice none 0 0, .int .i64 0, .int .i64 0, .int .i64 0] 32).off (c := b) (Off.drn hwn) (by omega))
  have HZ0 : Hid (w.heap.size + 1 ≤ wn.heap.size) := by have := (Off.drn (b := b) hwn).size; show _ ≤ _; simp at this; omega
  clear hwn
  obtain ⟨c0, c1, c2, c3, c4, c5, hb⟩ := HS.out.cells
  have hf1 := HS.out.1.frozen 1
  have hf3 := HS.out.1.frozen 3
  have hlen := HS.out.2.2.2.1
  go_wp2_with fail
  refine (among_any _ _ _ (by decide)).mono ?_
  rintro e wa ⟨rfl, rfl⟩
  simp only [amongB_special]
  go_wp2_with fail
  refine (one_any _ _ HC.out).mono ?_
  rintro e wo ⟨v1, rfl, hv1, hb1⟩
  have S := HS.out.step
  have HS3 := hide (S.1.below hb1)
  have HO3 : Hid (Off b w wo) := (HO.out.trans S.2).trans (Off.below hb1)
  obtain ⟨so, sn, sc, rfl⟩ := set_isl hv1
  have HV := hide hv1
  replace HK := hide ((HK.out.off S.2 (by omega)).below hb1)
  have HB2 : Hid (w.heap.size < (wa.setCell ⟨b, 1, none⟩ (.int .i64 (((l.length - (c :: t).length : Nat) : Int) + 1))).heap.size) := by have := HZ0.out; show _ < _; simp [World.setCell]; omega
  clear S hv1 hb1 c0 c1 c2 c3 c4 c5 hb hf1 hf3 hlen
  obtain ⟨⟨z0, z1, z2, z3, z4, z5⟩, ⟨y0, y1, y2, y3, y4, y5⟩, hw1⟩ := zero_cells HK.out
  try simp at z0 z1 z2 z3 z4 z5 y0 y1 y2 y3 y4 y5 hw1
  go_wp2_with fail
  refine bodyPost_ret (v := .agg #[.int .i64 1, .slice so sn sc, .slice none 0 0, .int .i64 0, .int .i64 0, .int .i64 0]) (by simp [results, Tryz.results278, go_sem, z0, z1, z2, z3, z4, z5]) rfl ⟨1, so, sn, sc, none, 0, 0, 0, 0, 0, rfl, ?_⟩
  exact set_end HS3.out HV.out HB2.out HBb.out HO3.out HS0.out.2.2.1 rfl
set_option maxRecDepth 100000 in
set_option maxHeartbeats 1000000 in
theorem atom_dot (b : Nat) (lv : Value) (l t : List Int) (g : Nat) (d m : Int) (w : World) (h : St w b lv l (46 :: t) g d m) : Gives 278 b lv l g d m (.ok (.set dot) t) w := by
  unfold Gives
  have HS0 := hide h
  have HBb := hide h.1.lt
  obtain ⟨f1, f2, f3, f4, f5, f6⟩ := h.facts
  have hb0 := h.1.lt
  skip
  clear h
  go_enter Tryz.func278, Tryz.ntmps278
  go_wp2_with fail
  refine (next_any _ _ _ _ _ _ _ _ (HS0.out.new (.cells #[.int .i64 0, .slice none 0 0, .slice none 0 0, .int .i64 0, .int .i64 0, .int .i64 0] 32))).mono ?_
  rintro e wn ⟨rfl, hwn⟩
  simp only [nextV]
  have HS := hide ((HS0.out.new (.cells #[.int .i64 0, .slice none 0 0, .slice none 0 0, .int .i64 0, .int .i64 0, .int .i64 0] 32)).drn hwn)
  have HO : Hid (Off b w wn) := ((Off.refl b w).alloc (.cells #[.int .i64 0, .slice none 0 0, .slice none 0 0, .int .i64 0, .int .i64 0, .int .i64 0] 32)).trans (Off.drn hwn)
  have HK := hide ((Blk.new w [.int .i64 0, .slice none 0 0, .slice none 0 0, .int .i64 0, .int .i64 0, .int .i64 0] 32).off (c := b) (Off.drn hwn) (by omega))
  have HZ0 : Hid (w.heap.size + 1 ≤ wn.heap.size) := by have := (Off.drn (b := b) hwn).size; show _ ≤ _; simp at this; omega
  clear hwn
  obtain ⟨c0, c1, c2, c3, c4, c5, hb⟩ := HS.out.cells
  have hf1 := HS.out.1.frozen 1
  have hf3 := HS.out.1.frozen 3
  have hlen := HS.out.2.2.2.1
  go_wp2_with fail
  refine (dot_any _).mono ?_
  rintro e wo ⟨v1, rfl, hv1, hb1⟩
  have S := HS.out.step
  have HS3 := hide (S.1.below hb1)
  have HO3 : Hid (Off b w wo) := (HO.out.trans S.2).trans (Off.below hb1)
  obtain ⟨so, sn, sc, rfl⟩ := set_isl hv1
  have HV := hide hv1
  replace HK := hide ((HK.out.off S.2 (by omega)).below hb1)
  have HB2 : Hid (w.heap.size < (wn.setCell ⟨b, 1, none⟩ (.int .i64 (((l.length - (46 :: t).length : Nat) : Int) + 1))).heap.size) := by have := HZ0.out; show _ < _; simp [World.setCell]; omega
  clear S hv1 hb1 c0 c1 c2 c3 c4 c5 hb hf1 hf3 hlen
  obtain ⟨⟨z0, z1, z2, z3, z4, z5⟩, ⟨y0, y1, y2, y3, y4, y5⟩, hw1⟩ := zero_cells HK.out
  try simp at z0 z1 z2 z3 z4 z5 y0 y1 y2 y3 y4 y5 hw1
  go_wp2_with fail
  refine bodyPost_ret (v := .agg #[.int .i64 1, .slice so sn sc, .slice none 0 0, .int .i64 0, .int .i64 0, .int .i64 0]) (by simp [results, Tryz.results278, go_sem, z0, z1, z2, z3, z4, z5]) rfl ⟨1, so, sn, sc, none, 0, 0, 0, 0, 0, rfl, ?_⟩
  exact set_end HS3.out HV.out HB2.out HBb.out HO3.out HS0.out.2.2.1 rfl
end Go.Proofs.YtpoibdhhcbelnaaGreatDoor
/- The reference's atoms: walks. -/
namespace Go.Proofs.YtpoibdhhcbelnaaGreatDoor
open Go.RowKit Brm

set_option maxRecDepth 100000 in
set_option maxHeartbeats 1000000 in
theorem atom_sgn (b : Nat) (lv : Value) (l t t' : List Int) (g : Nat) (d m : Int) (w : World) (a : Int) (he : escP t = .ok (.inl a) t') (h : St w b lv l (92 :: t) g d m) : Gives 278 b lv l g d m (.ok (.set [(a, a)]) t') w := by
  unfold Gives
  have HS0 := hide h
  have HBb := hide h.1.lt
  obtain ⟨f1, f2, f3, f4, f5, f6⟩ := h.facts
  have hb0 := h.1.lt
  have HRE := hide he
  clear he
  clear h
  go_enter Tryz.func278, Tryz.ntmps278
  go_wp2_with fail
  refine (next_any _ _ _ _ _ _ _ _ (HS0.out.new (.cells #[.int .i64 0, .slice none 0 0, .slice none 0 0, .int .i64 0, .int .i64 0, .int .i64 0] 32))).mono ?_
  rintro e wn ⟨rfl, hwn⟩
  simp only [nextV]
  have HS := hide ((HS0.out.new (.cells #[.int .i64 0, .slice none 0 0, .slice none 0 0, .int .i64 0, .int .i64 0, .int .i64 0] 32)).drn hwn)
  have HO : Hid (Off b w wn) := ((Off.refl b w).alloc (.cells #[.int .i64 0, .slice none 0 0, .slice none 0 0, .int .i64 0, .int .i64 0, .int .i64 0] 32)).trans (Off.drn hwn)
  have HK := hide ((Blk.new w [.int .i64 0, .slice none 0 0, .slice none 0 0, .int .i64 0, .int .i64 0, .int .i64 0] 32).off (c := b) (Off.drn hwn) (by omega))
  have HZ0 : Hid (w.heap.size + 1 ≤ wn.heap.size) := by have := (Off.drn (b := b) hwn).size; show _ ≤ _; simp at this; omega
  clear hwn
  obtain ⟨c0, c1, c2, c3, c4, c5, hb⟩ := HS.out.cells
  have hf1 := HS.out.1.frozen 1
  have hf3 := HS.out.1.frozen 3
  have hlen := HS.out.2.2.2.1
  go_wp2_with fail
  have S := HS.out.step
  have HZS : Hid (w.heap.size < (wn.setCell ⟨b, 1, none⟩ (.int .i64 (((l.length - (92 :: t).length : Nat) : Int) + 1))).heap.size) := by have := HZ0.out; show _ < _; simp [World.setCell]; omega
  have HS1 := hide S.1
  have HO1 : Hid (Off b w _) := HO.out.trans S.2
  replace HK := hide (HK.out.off S.2 (by omega))
  clear S c0 c1 c2 c3 c4 c5 hb hf1 hf3 hlen
  refine (escaped_any _ _ _ _ _ _ _ _ HS1.out).mono ?_
  rintro e wo ⟨v1, f1, rfl, hoff, hde⟩
  have HO3 : Hid (Off b w wo) := HO1.out.trans hoff
  replace HK := hide (HK.out.off hoff (by omega))
  clear hoff
  rw [HRE.out] at hde
  obtain ⟨hst, rfl, hv1, _⟩ := hde
  have HS3 := hide hst
  obtain ⟨so, sn, sc, rfl⟩ := set_isl hv1
  have HV := hide hv1
  have HB2 := HZS
  clear hst hv1
  obtain ⟨⟨z0, z1, z2, z3, z4, z5⟩, ⟨y0, y1, y2, y3, y4, y5⟩, hw1⟩ := zero_cells HK.out
  try simp at z0 z1 z2 z3 z4 z5 y0 y1 y2 y3 y4 y5 hw1
  go_wp2_with fail
  refine bodyPost_ret (v := .agg #[.int .i64 1, .slice so sn sc, .slice none 0 0, .int .i64 0, .int .i64 0, .int .i64 0]) (by simp [results, Tryz.results278, go_sem, z0, z1, z2, z3, z4, z5]) rfl ⟨1, so, sn, sc, none, 0, 0, 0, 0, 0, rfl, ?_⟩
  exact set_end HS3.out HV.out HB2.out HBb.out HO3.out HS0.out.2.2.1 rfl
set_option maxRecDepth 100000 in
set_option maxHeartbeats 1000000 in
theorem atom_cls (b : Nat) (lv : Value) (l t t' : List Int) (g : Nat) (d m : Int) (w : World) (L : List (Int × Int)) (he : escP t = .ok (.inr L) t') (h : St w b lv l (92 :: t) g d m) : Gives 278 b lv l g d m (.ok (.set L) t') w := by
  unfold Gives
  have HS0 := hide h
  have HBb := hide h.1.lt
  obtain ⟨f1, f2, f3, f4, f5, f6⟩ := h.facts
  have hb0 := h.1.lt
  have HRE := hide he
  clear he
  clear h
  go_enter Tryz.func278, Tryz.ntmps278
  go_wp2_with fail
  refine (next_any _ _ _ _ _ _ _ _ (HS0.out.new (.cells #[.int .i64 0, .slice none 0 0, .slice none 0 0, .int .i64 0, .int .i64 0, .int .i64 0] 32))).mono ?_
  rintro e wn ⟨rfl, hwn⟩
  simp only [nextV]
  have HS := hide ((HS0.out.new (.cells #[.int .i64 0, .slice none 0 0, .slice none 0 0, .int .i64 0, .int .i64 0, .int .i64 0] 32)).drn hwn)
  have HO : Hid (Off b w wn) := ((Off.refl b w).alloc (.cells #[.int .i64 0, .slice none 0 0, .slice none 0 0, .int .i64 0, .int .i64 0, .int .i64 0] 32)).trans (Off.drn hwn)
  have HK := hide ((Blk.new w [.int .i64 0, .slice none 0 0, .slice none 0 0, .int .i64 0, .int .i64 0, .int .i64 0] 32).off (c := b) (Off.drn hwn) (by omega))
  have HZ0 : Hid (w.heap.size + 1 ≤ wn.heap.size) := by have := (Off.drn (b := b) hwn).size; show _ ≤ _; simp at this; omega
  clear hwn
  obtain ⟨c0, c1, c2, c3, c4, c5, hb⟩ := HS.out.cells
  have hf1 := HS.out.1.frozen 1
  have hf3 := HS.out.1.frozen 3
  have hlen := HS.out.2.2.2.1
  go_wp2_with fail
  have S := HS.out.step
  have HZS : Hid (w.heap.size < (wn.setCell ⟨b, 1, none⟩ (.int .i64 (((l.length - (92 :: t).length : Nat) : Int) + 1))).heap.size) := by have := HZ0.out; show _ < _; simp [World.setCell]; omega
  have HS1 := hide S.1
  have HO1 : Hid (Off b w _) := HO.out.trans S.2
  replace HK := hide (HK.out.off S.2 (by omega))
  clear S c0 c1 c2 c3 c4 c5 hb hf1 hf3 hlen
  refine (escaped_any _ _ _ _ _ _ _ _ HS1.out).mono ?_
  rintro e wo ⟨v1, f1, rfl, hoff, hde⟩
  have HO3 : Hid (Off b w wo) := HO1.out.trans hoff
  replace HK := hide (HK.out.off hoff (by omega))
  clear hoff
  rw [HRE.out] at hde
  obtain ⟨hst, rfl, hv1⟩ := hde
  have HS3 := hide hst
  obtain ⟨so, sn, sc, rfl⟩ := set_isl hv1
  have HV := hide hv1
  have HB2 := HZS
  clear hst hv1
  obtain ⟨⟨z0, z1, z2, z3, z4, z5⟩, ⟨y0, y1, y2, y3, y4, y5⟩, hw1⟩ := zero_cells HK.out
  try simp at z0 z1 z2 z3 z4 z5 y0 y1 y2 y3 y4 y5 hw1
  go_wp2_with fail
  refine bodyPost_ret (v := .agg #[.int .i64 1, .slice so sn sc, .slice none 0 0, .int .i64 0, .int .i64 0, .int .i64 0]) (by simp [results, Tryz.results278, go_sem, z0, z1, z2, z3, z4, z5]) rfl ⟨1, so, sn, sc, none, 0, 0, 0, 0, 0, rfl, ?_⟩
  exact set_end HS3.out HV.out HB2.out HBb.out HO3.out HS0.out.2.2.1 rfl
set_option maxRecDepth 100000 in
set_option maxHeartbeats 1000000 in
theorem atom_esc (b : Nat) (lv : Value) (l t t' : List Int) (g : Nat) (d m : Int) (w : World) (he : escP t = .bad t') (h : St w b lv l (92 :: t) g d m) : Gives 278 b lv l g d m (.bad t') w := by
  unfold Gives
  have HS0 := hide h
  have HBb := hide h.1.lt
  obtain ⟨f1, f2, f3, f4, f5, f6⟩ := h.facts
  have hb0 := h.1.lt
  have HRE := hide he
  clear he
  clear h
  go_enter Tryz.func278, Tryz.ntmps278
  go_wp2_with fail
  refine (next_any _ _ _ _ _ _ _ _ (HS0.out.new (.cells #[.int .i64 0, .slice none 0 0, .slice none 0 0, .int .i64 0, .int .i64 0, .int .i64 0] 32))).mono ?_
  rintro e wn ⟨rfl, hwn⟩
  simp only [nextV]
  have HS := hide ((HS0.out.new (.cells #[.int .i64 0, .slice none 0 0, .slice none 0 0, .int .i64 0, .int .i64 0, .int .i64 0] 32)).drn hwn)
  have HO : Hid (Off b w wn) := ((Off.refl b w).alloc (.cells #[.int .i64 0, .slice none 0 0, .slice none 0 0, .int .i64 0, .int .i64 0, .int .i64 0] 32)).trans (Off.drn hwn)
  have HK := hide ((Blk.new w [.int .i64 0, .slice none 0 0, .slice none 0 0, .int .i64 0, .int .i64 0, .int .i64 0] 32).off (c := b) (Off.drn hwn) (by omega))
  have HZ0 : Hid (w.heap.size + 1 ≤ wn.heap.size) := by have := (Off.drn (b := b) hwn).size; show _ ≤ _; simp at this; omega
  clear hwn
  obtain ⟨c0, c1, c2, c3, c4, c5, hb⟩ := HS.out.cells
  have hf1 := HS.out.1.frozen 1
  have hf3 := HS.out.1.frozen 3
  have hlen := HS.out.2.2.2.1
  go_wp2_with fail
  have S := HS.out.step
  have HZS : Hid (w.heap.size < (wn.setCell ⟨b, 1, none⟩ (.int .i64 (((l.length - (92 :: t).length : Nat) : Int) + 1))).heap.size) := by have := HZ0.out; show _ < _; simp [World.setCell]; omega
  have HS1 := hide S.1
  have HO1 : Hid (Off b w _) := HO.out.trans S.2
  replace HK := hide (HK.out.off S.2 (by omega))
  clear S c0 c1 c2 c3 c4 c5 hb hf1 hf3 hlen
  refine (escaped_any _ _ _ _ _ _ _ _ HS1.out).mono ?_
  rintro e wo ⟨v1, f1, rfl, hoff, hde⟩
  have HO3 : Hid (Off b w wo) := HO1.out.trans hoff
  replace HK := hide (HK.out.off hoff (by omega))
  clear hoff
  rw [HRE.out] at hde
  obtain ⟨hst, rfl, rfl⟩ := hde
  have HB := hide hst
  clear hst
  obtain ⟨⟨z0, z1, z2, z3, z4, z5⟩, ⟨y0, y1, y2, y3, y4, y5⟩, hw1⟩ := zero_cells HK.out
  try simp at z0 z1 z2 z3 z4 z5 y0 y1 y2 y3 y4 y5 hw1
  go_wp2_with fail
  refine bodyPost_ret (v := .agg #[.int .i64 1, .slice none 0 0, .slice none 0 0, .int .i64 0, .int .i64 0, .int .i64 0]) (by simp [results, Tryz.results278, go_sem, z0, z1, z2, z3, z4, z5]) rfl ⟨1, none, 0, 0, none, 0, 0, 0, 0, 0, rfl, ?_⟩
  exact bad_end HB.out HBb.out HO3.out rfl
set_option maxRecDepth 100000 in
set_option maxHeartbeats 1000000 in
theorem atom_set (b : Nat) (lv : Value) (l t t' : List Int) (g : Nat) (d m : Int) (w : World) (L : List (Int × Int)) (he : bracketP t = .ok L t') (h : St w b lv l (91 :: t) g d m) : Gives 278 b lv l g d m (.ok (.set L) t') w := by
  unfold Gives
  have HS0 := hide h
  have HBb := hide h.1.lt
  obtain ⟨f1, f2, f3, f4, f5, f6⟩ := h.facts
  have hb0 := h.1.lt
  have HRE := hide he
  clear he
  clear h
  go_enter Tryz.func278, Tryz.ntmps278
  go_wp2_with fail
  refine (next_any _ _ _ _ _ _ _ _ (HS0.out.new (.cells #[.int .i64 0, .slice none 0 0, .slice none 0 0, .int .i64 0, .int .i64 0, .int .i64 0] 32))).mono ?_
  rintro e wn ⟨rfl, hwn⟩
  simp only [nextV]
  have HS := hide ((HS0.out.new (.cells #[.int .i64 0, .slice none 0 0, .slice none 0 0, .int .i64 0, .int .i64 0, .int .i64 0] 32)).drn hwn)
  have HO : Hid (Off b w wn) := ((Off.refl b w).alloc (.cells #[.int .i64 0, .slice none 0 0, .slice none 0 0, .int .i64 0, .int .i64 0, .int .i64 0] 32)).trans (Off.drn hwn)
  have HK := hide ((Blk.new w [.int .i64 0, .slice none 0 0, .slice none 0 0, .int .i64 0, .int .i64 0, .int .i64 0] 32).off (c := b) (Off.drn hwn) (by omega))
  have HZ0 : Hid (w.heap.size + 1 ≤ wn.heap.size) := by have := (Off.drn (b := b) hwn).size; show _ ≤ _; simp at this; omega
  clear hwn
  obtain ⟨c0, c1, c2, c3, c4, c5, hb⟩ := HS.out.cells
  have hf1 := HS.out.1.frozen 1
  have hf3 := HS.out.1.frozen 3
  have hlen := HS.out.2.2.2.1
  go_wp2_with fail
  have S := HS.out.step
  have HZS : Hid (w.heap.size < (wn.setCell ⟨b, 1, none⟩ (.int .i64 (((l.length - (91 :: t).length : Nat) : Int) + 1))).heap.size) := by have := HZ0.out; show _ < _; simp [World.setCell]; omega
  have HS1 := hide S.1
  have HO1 : Hid (Off b w _) := HO.out.trans S.2
  replace HK := hide (HK.out.off S.2 (by omega))
  clear S c0 c1 c2 c3 c4 c5 hb hf1 hf3 hlen
  refine (brackets_any _ _ _ _ _ _ _ _ HS1.out).mono ?_
  rintro e wo ⟨v1, rfl, hoff, hde⟩
  have HO3 : Hid (Off b w wo) := HO1.out.trans hoff
  replace HK := hide (HK.out.off hoff (by omega))
  clear hoff
  rw [HRE.out] at hde
  obtain ⟨hst, hv1⟩ := hde
  have HS3 := hide hst
  obtain ⟨so, sn, sc, rfl⟩ := set_isl hv1
  have HV := hide hv1
  have HB2 := HZS
  clear hst hv1
  obtain ⟨⟨z0, z1, z2, z3, z4, z5⟩, ⟨y0, y1, y2, y3, y4, y5⟩, hw1⟩ := zero_cells HK.out
  try simp at z0 z1 z2 z3 z4 z5 y0 y1 y2 y3 y4 y5 hw1
  go_wp2_with fail
  refine bodyPost_ret (v := .agg #[.int .i64 1, .slice so sn sc, .slice none 0 0, .int .i64 0, .int .i64 0, .int .i64 0]) (by simp [results, Tryz.results278, go_sem, z0, z1, z2, z3, z4, z5]) rfl ⟨1, so, sn, sc, none, 0, 0, 0, 0, 0, rfl, ?_⟩
  exact set_end HS3.out HV.out HB2.out HBb.out HO3.out HS0.out.2.2.1 rfl
set_option maxRecDepth 100000 in
set_option maxHeartbeats 1000000 in
theorem atom_brk (b : Nat) (lv : Value) (l t t' : List Int) (g : Nat) (d m : Int) (w : World) (he : bracketP t = .bad t') (h : St w b lv l (91 :: t) g d m) : Gives 278 b lv l g d m (.bad t') w := by
  unfold Gives
  have HS0 := hide h
  have HBb := hide h.1.lt
  obtain ⟨f1, f2, f3, f4, f5, f6⟩ := h.facts
  have hb0 := h.1.lt
  have HRE := hide he
  clear he
  clear h
  go_enter Tryz.func278, Tryz.ntmps278
  go_wp2_with fail
  refine (next_any _ _ _ _ _ _ _ _ (HS0.out.new (.cells #[.int .i64 0, .slice none 0 0, .slice none 0 0, .int .i64 0, .int .i64 0, .int .i64 0] 32))).mono ?_
  rintro e wn ⟨rfl, hwn⟩
  simp only [nextV]
  have HS := hide ((HS0.out.new (.cells #[.int .i64 0, .slice none 0 0, .slice none 0 0, .int .i64 0, .int .i64 0, .int .i64 0] 32)).drn hwn)
  have HO : Hid (Off b w wn) := ((Off.refl b w).alloc (.cells #[.int .i64 0, .slice none 0 0, .slice none 0 0, .int .i64 0, .int .i64 0, .int .i64 0] 32)).trans (Off.drn hwn)
  have HK := hide ((Blk.new w [.int .i64 0, .slice none 0 0, .slice none 0 0, .int .i64 0, .int .i64 0, .int .i64 0] 32).off (c := b) (Off.drn hwn) (by omega))
  have HZ0 : Hid (w.heap.size + 1 ≤ wn.heap.size) := by have := (Off.drn (b := b) hwn).size; show _ ≤ _; simp at this; omega
  clear hwn
  obtain ⟨c0, c1, c2, c3, c4, c5, hb⟩ := HS.out.cells
  have hf1 := HS.out.1.frozen 1
  have hf3 := HS.out.1.frozen 3
  have hlen := HS.out.2.2.2.1
  go_wp2_with fail
  have S := HS.out.step
  have HZS : Hid (w.heap.size < (wn.setCell ⟨b, 1, none⟩ (.int .i64 (((l.length - (91 :: t).length : Nat) : Int) + 1))).heap.size) := by have := HZ0.out; show _ < _; simp [World.setCell]; omega
  have HS1 := hide S.1
  have HO1 : Hid (Off b w _) := HO.out.trans S.2
  replace HK := hide (HK.out.off S.2 (by omega))
  clear S c0 c1 c2 c3 c4 c5 hb hf1 hf3 hlen
  refine (brackets_any _ _ _ _ _ _ _ _ HS1.out).mono ?_
  rintro e wo ⟨v1, rfl, hoff, hde⟩
  have HO3 : Hid (Off b w wo) := HO1.out.trans hoff
  replace HK := hide (HK.out.off hoff (by omega))
  clear hoff
  rw [HRE.out] at hde
  obtain ⟨hst, so, sn, sc, rfl⟩ := hde
  have HB := hide hst
  clear hst
  obtain ⟨⟨z0, z1, z2, z3, z4, z5⟩, ⟨y0, y1, y2, y3, y4, y5⟩, hw1⟩ := zero_cells HK.out
  try simp at z0 z1 z2 z3 z4 z5 y0 y1 y2 y3 y4 y5 hw1
  go_wp2_with fail
  refine bodyPost_ret (v := .agg #[.int .i64 1, .slice so sn sc, .slice none 0 0, .int .i64 0, .int .i64 0, .int .i64 0]) (by simp [results, Tryz.results278, go_sem, z0, z1, z2, z3, z4, z5]) rfl ⟨1, so, sn, sc, none, 0, 0, 0, 0, 0, rfl, ?_⟩
  exact bad_end HB.out HBb.out HO3.out rfl
end Go.Proofs.YtpoibdhhcbelnaaGreatDoor
/- The reference's groups: walks. -/
namespace Go.Proofs.YtpoibdhhcbelnaaGreatDoor
open Go.RowKit Brm

theorem bad_end2 {w w1 w2 : World} {b : Nat} {lv : Value} {l s : List Int} {g : Nat} {d m : Int} {c0 c1 c2 c3 c4 c5 : Value} {c : List Value} {o : Obj} (h0 : Bad w1 b lv l s d) (hb : b < w.heap.size) (ho : Off b w w1)
    (e : w2 = (put6 w1 w.heap.size c0 c1 c2 c3 c4 c5).alloc o) : Part b lv l g d m (.bad s) w w2 c := by
  subst e
  obtain ⟨i, g1, m1, h⟩ := h0
  exact ⟨(ho.put6 (r := w.heap.size) (Nat.le_refl _) _ _ _ _ _ _).alloc _, i, g1, m1, (h.put6 (r := w.heap.size) (by omega) _ _ _ _ _ _).alloc _⟩
theorem six_cells {w : World} {r : Nat} {k : Int} {so : Option Addr} {sn sc : Nat} {lo : Option Addr} {ln lc : Nat} {mm nn rr : Int} (h : Blk w r (Six k so sn sc lo ln lc mm nn rr) 32) :
    (w.cell? ⟨r, 0, none⟩ = some (.int .i64 k) ∧ w.cell? ⟨r, 1, none⟩ = some (.slice so sn sc) ∧ w.cell? ⟨r, 2, none⟩ = some (.slice lo ln lc) ∧ w.cell? ⟨r, 3, none⟩ = some (.int .i64 mm) ∧ w.cell? ⟨r, 4, none⟩ = some (.int .i64 nn) ∧ w.cell? ⟨r, 5, none⟩ = some (.int .i64 rr)) ∧ r < w.heap.size :=
  ⟨⟨h.cell 0, h.cell 1, h.cell 2, h.cell 3, h.cell 4, h.cell 5⟩, h.lt⟩
theorem put6_size (w : World) (r : Nat) (c0 c1 c2 c3 c4 c5 : Value) : (put6 w r c0 c1 c2 c3 c4 c5).heap.size = w.heap.size := by simp [World.setCell]
/-- A node that has one other is laid into the block of the result. -/
theorem over_end {w wm w2 : World} {A : Nat → Prop} {p : Pat} {g0 : Nat} {k : Int} {so : Option Addr} {sn sc : Nat} {lo : Option Addr} {ln lc : Nat} {mm nn rr : Int} {c0 c1 c2 c3 c4 c5 : Value}
    (hnv : NV wm A p (Six k so sn sc lo ln lc mm nn rr) g0) (hA : ∀ q, A q → w.heap.size < q) (hs : w.heap.size ≤ wm.heap.size)
    (e : w2 = (put6 wm w.heap.size c0 c1 c2 c3 c4 c5).alloc (.cells #[.int .i64 k, .slice so sn sc, .slice lo ln lc, .int .i64 mm, .int .i64 nn, .int .i64 rr] 32)) :
    Own w2 (fun q => w.heap.size ≤ q) 32 6 (.slice (some ⟨wm.heap.size, 0, none⟩) 1 1) 1 (Six k so sn sc lo ln lc mm nn rr) ∧ NV w2 (fun q => w.heap.size ≤ q) p (Six k so sn sc lo ln lc mm nn rr) g0 := by
  subst e
  constructor
  · have h1 := Blk.new (put6 wm w.heap.size c0 c1 c2 c3 c4 c5) (Six k so sn sc lo ln lc mm nn rr) 32
    rw [put6_size] at h1
    exact own_blk h1 rfl hs
  · exact NV.mono (fun q _ hq => by have := hA q hq; omega) p _ g0 (NV.keep (((Keeps.refl A wm).put6 (r := w.heap.size) (fun h => by have := hA _ h; omega) _ _ _ _ _ _).trans (Keeps.alloc _ _ _)) p _ g0 hnv)

set_option maxRecDepth 100000 in
set_option maxHeartbeats 1000000 in
theorem atom_grp (b : Nat) (lv : Value) (l t u : List Int) (g : Nat) (d m : Int) (w : World) (n : Nat) (ih : OrOk n) (hn : t.length < n) (p : Pat) (hr : orN false n t = .ok p (41 :: u)) (h : St w b lv l (40 :: t) g d m) : Gives 278 b lv l g d m (.ok (.group p) u) w := by
  unfold Gives
  have HS0 := hide h
  have HBb := hide h.1.lt
  obtain ⟨f1, f2, f3, f4, f5, f6⟩ := h.facts
  have hb0 := h.1.lt
  have HR := hide hr
  clear h hr
  go_enter Tryz.func278, Tryz.ntmps278
  go_wp2_with fail
  refine (next_any _ _ _ _ _ _ _ _ (HS0.out.new (.cells #[.int .i64 0, .slice none 0 0, .slice none 0 0, .int .i64 0, .int .i64 0, .int .i64 0] 32))).mono ?_
  rintro e wn ⟨rfl, hwn⟩
  simp only [nextV]
  have HS := hide ((HS0.out.new (.cells #[.int .i64 0, .slice none 0 0, .slice none 0 0, .int .i64 0, .int .i64 0, .int .i64 0] 32)).drn hwn)
  have HO : Hid (Off b w wn) := ((Off.refl b w).alloc (.cells #[.int .i64 0, .slice none 0 0, .slice none 0 0, .int .i64 0, .int .i64 0, .int .i64 0] 32)).trans (Off.drn hwn)
  have HK := hide ((Blk.new w [.int .i64 0, .slice none 0 0, .slice none 0 0, .int .i64 0, .int .i64 0, .int .i64 0] 32).off (c := b) (Off.drn hwn) (by omega))
  have HZ0 : Hid (w.heap.size + 1 ≤ wn.heap.size) := by have := (Off.drn (b := b) hwn).size; show _ ≤ _; simp at this; omega
  clear hwn
  obtain ⟨c0, c1, c2, c3, c4, c5, hb⟩ := HS.out.cells
  have hf1 := HS.out.1.frozen 1
  have hf3 := HS.out.1.frozen 3
  have hlen := HS.out.2.2.2.1
  go_wp2_with fail
  have S := HS.out.step
  have HZS : Hid (w.heap.size < ((wn.setCell ⟨b, 1, none⟩ (.int .i64 (((l.length - (40 :: t).length : Nat) : Int) + 1))).setCell ⟨b, 3, none⟩ (.int .i64 ((g : Int) + 1))).heap.size) := by have := HZ0.out; show _ < _; simp [World.setCell]; omega
  have bds := HS.out.2.2.2.2.2
  have hle := HS.out.2.1.length_le
  simp only [List.length_cons] at bds hle
  have e1 : ((g + 1 : Nat) : Int) = (g : Int) + 1 := by omega
  have S2 := S.1.setG ((g : Int) + 1) (by omega) (by omega)
  rw [← e1] at S2
  have HS2 := hide S2
  have HD : Hid (d + 1 ≤ ((l.length - t.length : Nat) : Int)) := by show _ ≤ _; omega
  have HO2 : Hid (Off b w _) := (HO.out.trans S.2).trans ((Off.refl b _).setCell 3 (.int .i64 ((g : Int) + 1)))
  replace HK := hide ((HK.out.off S.2 (by omega)).off ((Off.refl b _).setCell 3 (.int .i64 ((g : Int) + 1))) (by omega))
  clear S S2 bds hle c0 c1 c2 c3 c4 c5 hb hf1 hf3 hlen
  refine (within_ok n ih b lv l t (g + 1) d m _ HS2.out hn HD.out p _ HR.out).mono ?_
  rintro e w1 ⟨k, so, sn, sc, lo, ln, lc, mm, nn, rr, rfl, hoff, hnv, hst⟩
  have HNV := hide hnv
  have HS3 := hide hst
  clear hnv hst
  have HO3 : Hid (Off b w w1) := HO2.out.trans hoff
  replace HK := hide ((HK.out.off hoff (by omega)).alloc (.cells #[.int .i64 k, .slice so sn sc, .slice lo ln lc, .int .i64 mm, .int .i64 nn, .int .i64 rr] 32))
  have HX := hide (Blk.new w1 (Six k so sn sc lo ln lc mm nn rr) 32)
  clear hoff
  go_wp2_with fail
  refine (must_yes _ _ _ _ _ _ _ _ _ (HS3.out.new (.cells #[.int .i64 k, .slice so sn sc, .slice lo ln lc, .int .i64 mm, .int .i64 nn, .int .i64 rr] 32)) (by decide) (by decide)).mono ?_
  rintro e wm ⟨rfl, hst2, hoff2⟩
  have HS4 := hide hst2
  clear hst2
  have HO4 : Hid (Off b w wm) := (HO3.out.alloc _).trans hoff2
  replace HK := hide (HK.out.off hoff2 (by omega))
  have hbx : w1.heap.size ≠ b := by have := HO3.out.size; omega
  replace HX := hide (HX.out.off hoff2 hbx)
  replace HNV := hide (NV.keep ((Keeps.alloc _ _ _).trans (Keeps.off hoff2 (Nat.not_le_of_lt (Nat.lt_trans HBb.out HZS.out)))) p _ _ HNV.out)
  clear hoff2
  obtain ⟨⟨x0, x1, x2, x3, x4, x5⟩, hx⟩ := six_cells HX.out
  obtain ⟨⟨z0, z1, z2, z3, z4, z5⟩, ⟨y0, y1, y2, y3, y4, y5⟩, hw1⟩ := zero_cells HK.out
  try simp at z0 z1 z2 z3 z4 z5 y0 y1 y2 y3 y4 y5 hw1
  go_wp2_with fail
  refine bodyPost_ret (v := .agg #[.int .i64 7, .slice none 0 0, .slice (some ⟨wm.heap.size, 0, none⟩) 1 1, .int .i64 0, .int .i64 0, .int .i64 g]) (by simp [results, Tryz.results278, go_sem, z0, z1, z2, z3, z4, z5, hw1]) rfl ⟨7, none, 0, 0, some ⟨wm.heap.size, 0, none⟩, 1, 1, 0, 0, g, rfl, ?_⟩
  have HF := (HO4.out.put6 (r := w.heap.size) (Nat.le_refl _) (.int .i64 7) (.slice none 0 0) (.slice (some ⟨wm.heap.size, 0, none⟩) 1 1) (.int .i64 0) (.int .i64 0) (.int .i64 g)).alloc (.cells #[.int .i64 k, .slice so sn sc, .slice lo ln lc, .int .i64 mm, .int .i64 nn, .int .i64 rr] 32)
  obtain ⟨o1, o2⟩ := over_end (w := w) HNV.out (fun q hq => Nat.lt_of_lt_of_le HZS.out hq) HO4.out.size rfl
  refine ⟨HF, ⟨_, _, rfl, o1, o2⟩, ?_⟩
  have e2 : ((g + (Pat.group p).groups : Nat) : Int) = ((g + 1 + p.groups : Nat) : Int) := by simp [Pat.groups]; omega
  have e3 : ((Pat.group p).deep : Int) = (p.deep : Int) + 1 := by simp [Pat.deep]
  rw [e2, e3]
  exact St.move HS0.out.2.2.1 HF HS4.out ((HS4.out.1.put6 (r := w.heap.size) (by omega) _ _ _ _ _ _).alloc _)
set_option maxRecDepth 100000 in
set_option maxHeartbeats 1000000 in
theorem atom_open (b : Nat) (lv : Value) (l t u : List Int) (g : Nat) (d m : Int) (w : World) (n : Nat) (ih : OrOk n) (hn : t.length < n) (p : Pat) (hr : orN false n t = .ok p u) (h41 : u.head? ≠ some 41) (h : St w b lv l (40 :: t) g d m) : Gives 278 b lv l g d m (.bad u) w := by
  unfold Gives
  have HS0 := hide h
  have HBb := hide h.1.lt
  obtain ⟨f1, f2, f3, f4, f5, f6⟩ := h.facts
  have hb0 := h.1.lt
  have HR := hide hr
  clear h hr
  have HN := hide h41
  clear h41
  go_enter Tryz.func278, Tryz.ntmps278
  go_wp2_with fail
  refine (next_any _ _ _ _ _ _ _ _ (HS0.out.new (.cells #[.int .i64 0, .slice none 0 0, .slice none 0 0, .int .i64 0, .int .i64 0, .int .i64 0] 32))).mono ?_
  rintro e wn ⟨rfl, hwn⟩
  simp only [nextV]
  have HS := hide ((HS0.out.new (.cells #[.int .i64 0, .slice none 0 0, .slice none 0 0, .int .i64 0, .int .i64 0, .int .i64 0] 32)).drn hwn)
  have HO : Hid (Off b w wn) := ((Off.refl b w).alloc (.cells #[.int .i64 0, .slice none 0 0, .slice none 0 0, .int .i64 0, .int .i64 0, .int .i64 0] 32)).trans (Off.drn hwn)
  have HK := hide ((Blk.new w [.int .i64 0, .slice none 0 0, .slice none 0 0, .int .i64 0, .int .i64 0, .int .i64 0] 32).off (c := b) (Off.drn hwn) (by omega))
  have HZ0 : Hid (w.heap.size + 1 ≤ wn.heap.size) := by have := (Off.drn (b := b) hwn).size; show _ ≤ _; simp at this; omega
  clear hwn
  obtain ⟨c0, c1, c2, c3, c4, c5, hb⟩ := HS.out.cells
  have hf1 := HS.out.1.frozen 1
  have hf3 := HS.out.1.frozen 3
  have hlen := HS.out.2.2.2.1
  go_wp2_with fail
  have S := HS.out.step
  have HZS : Hid (w.heap.size < ((wn.setCell ⟨b, 1, none⟩ (.int .i64 (((l.length - (40 :: t).length : Nat) : Int) + 1))).setCell ⟨b, 3, none⟩ (.int .i64 ((g : Int) + 1))).heap.size) := by have := HZ0.out; show _ < _; simp [World.setCell]; omega
  have bds := HS.out.2.2.2.2.2
  have hle := HS.out.2.1.length_le
  simp only [List.length_cons] at bds hle
  have e1 : ((g + 1 : Nat) : Int) = (g : Int) + 1 := by omega
  have S2 := S.1.setG ((g : Int) + 1) (by omega) (by omega)
  rw [← e1] at S2
  have HS2 := hide S2
  have HD : Hid (d + 1 ≤ ((l.length - t.length : Nat) : Int)) := by show _ ≤ _; omega
  have HO2 : Hid (Off b w _) := (HO.out.trans S.2).trans ((Off.refl b _).setCell 3 (.int .i64 ((g : Int) + 1)))
  replace HK := hide ((HK.out.off S.2 (by omega)).off ((Off.refl b _).setCell 3 (.int .i64 ((g : Int) + 1))) (by omega))
  clear S S2 bds hle c0 c1 c2 c3 c4 c5 hb hf1 hf3 hlen
  refine (within_ok n ih b lv l t (g + 1) d m _ HS2.out hn HD.out p _ HR.out).mono ?_
  rintro e w1 ⟨k, so, sn, sc, lo, ln, lc, mm, nn, rr, rfl, hoff, hnv, hst⟩
  have HNV := hide hnv
  have HS3 := hide hst
  clear hnv hst
  have HO3 : Hid (Off b w w1) := HO2.out.trans hoff
  replace HK := hide ((HK.out.off hoff (by omega)).alloc (.cells #[.int .i64 k, .slice so sn sc, .slice lo ln lc, .int .i64 mm, .int .i64 nn, .int .i64 rr] 32))
  have HX := hide (Blk.new w1 (Six k so sn sc lo ln lc mm nn rr) 32)
  clear hoff
  go_wp2_with fail
  refine (must_no _ _ _ _ _ _ _ _ _ (HS3.out.new (.cells #[.int .i64 k, .slice so sn sc, .slice lo ln lc, .int .i64 mm, .int .i64 nn, .int .i64 rr] 32)) (by decide) (by decide) HN.out).mono ?_
  rintro e wm ⟨rfl, hbd, hoff2⟩
  have HB := hide hbd
  clear hbd
  have HO4 : Hid (Off b w wm) := (HO3.out.alloc _).trans hoff2
  replace HK := hide (HK.out.off hoff2 (by omega))
  have hbx : w1.heap.size ≠ b := by have := HO3.out.size; omega
  replace HX := hide (HX.out.off hoff2 hbx)
  clear hoff2
  obtain ⟨⟨x0, x1, x2, x3, x4, x5⟩, hx⟩ := six_cells HX.out
  obtain ⟨⟨z0, z1, z2, z3, z4, z5⟩, ⟨y0, y1, y2, y3, y4, y5⟩, hw1⟩ := zero_cells HK.out
  try simp at z0 z1 z2 z3 z4 z5 y0 y1 y2 y3 y4 y5 hw1
  go_wp2_with fail
  refine bodyPost_ret (v := .agg #[.int .i64 7, .slice none 0 0, .slice (some ⟨wm.heap.size, 0, none⟩) 1 1, .int .i64 0, .int .i64 0, .int .i64 g]) (by simp [results, Tryz.results278, go_sem, z0, z1, z2, z3, z4, z5, hw1]) rfl ⟨7, none, 0, 0, some ⟨wm.heap.size, 0, none⟩, 1, 1, 0, 0, g, rfl, ?_⟩
  exact bad_end2 HB.out HBb.out HO4.out rfl
set_option maxRecDepth 100000 in
set_option maxHeartbeats 1000000 in
theorem atom_inner (b : Nat) (lv : Value) (l t u : List Int) (g : Nat) (d m : Int) (w : World) (n : Nat) (ih : OrOk n) (hn : t.length < n) (hr : orN false n t = .bad u) (h : St w b lv l (40 :: t) g d m) : Gives 278 b lv l g d m (.bad u) w := by
  unfold Gives
  have HS0 := hide h
  have HBb := hide h.1.lt
  obtain ⟨f1, f2, f3, f4, f5, f6⟩ := h.facts
  have hb0 := h.1.lt
  have HR := hide hr
  clear h hr
  go_enter Tryz.func278, Tryz.ntmps278
  go_wp2_with fail
  refine (next_any _ _ _ _ _ _ _ _ (HS0.out.new (.cells #[.int .i64 0, .slice none 0 0, .slice none 0 0, .int .i64 0, .int .i64 0, .int .i64 0] 32))).mono ?_
  rintro e wn ⟨rfl, hwn⟩
  simp only [nextV]
  have HS := hide ((HS0.out.new (.cells #[.int .i64 0, .slice none 0 0, .slice none 0 0, .int .i64 0, .int .i64 0, .int .i64 0] 32)).drn hwn)
  have HO : Hid (Off b w wn) := ((Off.refl b w).alloc (.cells #[.int .i64 0, .slice none 0 0, .slice none 0 0, .int .i64 0, .int .i64 0, .int .i64 0] 32)).trans (Off.drn hwn)
  have HK := hide ((Blk.new w [.int .i64 0, .slice none 0 0, .slice none 0 0, .int .i64 0, .int .i64 0, .int .i64 0] 32).off (c := b) (Off.drn hwn) (by omega))
  have HZ0 : Hid (w.heap.size + 1 ≤ wn.heap.size) := by have := (Off.drn (b := b) hwn).size; show _ ≤ _; simp at this; omega
  clear hwn
  obtain ⟨c0, c1, c2, c3, c4, c5, hb⟩ := HS.out.cells
  have hf1 := HS.out.1.frozen 1
  have hf3 := HS.out.1.frozen 3
  have hlen := HS.out.2.2.2.1
  go_wp2_with fail
  have S := HS.out.step
  have HZS : Hid (w.heap.size < ((wn.setCell ⟨b, 1, none⟩ (.int .i64 (((l.length - (40 :: t).length : Nat) : Int) + 1))).setCell ⟨b, 3, none⟩ (.int .i64 ((g : Int) + 1))).heap.size) := by have := HZ0.out; show _ < _; simp [World.setCell]; omega
  have bds := HS.out.2.2.2.2.2
  have hle := HS.out.2.1.length_le
  simp only [List.length_cons] at bds hle
  have e1 : ((g + 1 : Nat) : Int) = (g : Int) + 1 := by omega
  have S2 := S.1.setG ((g : Int) + 1) (by omega) (by omega)
  rw [← e1] at S2
  have HS2 := hide S2
  have HD : Hid (d + 1 ≤ ((l.length - t.length : Nat) : Int)) := by show _ ≤ _; omega
  have HO2 : Hid (Off b w _) := (HO.out.trans S.2).trans ((Off.refl b _).setCell 3 (.int .i64 ((g : Int) + 1)))
  replace HK := hide ((HK.out.off S.2 (by omega)).off ((Off.refl b _).setCell 3 (.int .i64 ((g : Int) + 1))) (by omega))
  clear S S2 bds hle c0 c1 c2 c3 c4 c5 hb hf1 hf3 hlen
  refine (within_bad n ih b lv l t (g + 1) d m _ HS2.out hn HD.out _ HR.out).mono ?_
  rintro e w1 ⟨k, so, sn, sc, lo, ln, lc, mm, nn, rr, rfl, hoff, hbd⟩
  have HB := hide hbd
  clear hbd
  have HO3 : Hid (Off b w w1) := HO2.out.trans hoff
  replace HK := hide ((HK.out.off hoff (by omega)).alloc (.cells #[.int .i64 k, .slice so sn sc, .slice lo ln lc, .int .i64 mm, .int .i64 nn, .int .i64 rr] 32))
  have HX := hide (Blk.new w1 (Six k so sn sc lo ln lc mm nn rr) 32)
  clear hoff
  go_wp2_with fail
  refine (must_bad _ _ _ _ _ _ (HB.out.below ((Below.refl _ _).alloc (Nat.le_refl _) (.cells #[.int .i64 k, .slice so sn sc, .slice lo ln lc, .int .i64 mm, .int .i64 nn, .int .i64 rr] 32))) (by decide) (by decide)).mono ?_
  rintro e wm ⟨rfl, hbd, hdr⟩
  have hoff2 : Off b _ wm := Off.drn hdr
  replace HB := hide hbd
  clear hbd hdr
  have HO4 : Hid (Off b w wm) := (HO3.out.alloc _).trans hoff2
  replace HK := hide (HK.out.off hoff2 (by omega))
  have hbx : w1.heap.size ≠ b := by have := HO3.out.size; omega
  replace HX := hide (HX.out.off hoff2 hbx)
  clear hoff2
  obtain ⟨⟨x0, x1, x2, x3, x4, x5⟩, hx⟩ := six_cells HX.out
  obtain ⟨⟨z0, z1, z2, z3, z4, z5⟩, ⟨y0, y1, y2, y3, y4, y5⟩, hw1⟩ := zero_cells HK.out
  try simp at z0 z1 z2 z3 z4 z5 y0 y1 y2 y3 y4 y5 hw1
  go_wp2_with fail
  refine bodyPost_ret (v := .agg #[.int .i64 7, .slice none 0 0, .slice (some ⟨wm.heap.size, 0, none⟩) 1 1, .int .i64 0, .int .i64 0, .int .i64 g]) (by simp [results, Tryz.results278, go_sem, z0, z1, z2, z3, z4, z5, hw1]) rfl ⟨7, none, 0, 0, some ⟨wm.heap.size, 0, none⟩, 1, 1, 0, 0, g, rfl, ?_⟩
  exact bad_end2 HB.out HBb.out HO4.out rfl
end Go.Proofs.YtpoibdhhcbelnaaGreatDoor
/- The reference's "so many times": a walk. -/
namespace Go.Proofs.YtpoibdhhcbelnaaGreatDoor
open Go.RowKit Brm

theorem atom_any (n : Nat) (ih : OrOk n) (b : Nat) (lv : Value) (l s : List Int) (g : Nat) (d m : Int) (w : World) (h : St w b lv l s g d m) (hn : s.length ≤ n) : Gives 278 b lv l g d m (atomP (orN false n) s) w := by
  have hall := h.2.2.2.2.1.suf h.2.1
  cases s with
  | nil => exact atom_nil b lv l g d m w h
  | cons c t =>
    simp only [List.length_cons] at hn
    simp only [atomP]
    by_cases h40 : c = 40
    · subst h40
      simp only [if_true]
      cases hr : orN false n t with
      | bad u => exact atom_inner b lv l t u g d m w n ih (by omega) hr h
      | ok p u =>
        simp only [Res.bind, closeP]
        by_cases h41 : u.head? = some 41
        · rw [if_pos h41]
          obtain ⟨v, rfl⟩ : ∃ v, u = 41 :: v := by cases u with | nil => simp at h41 | cons c t => simp at h41; exact ⟨t, by rw [h41]⟩
          exact atom_grp b lv l t v g d m w n ih (by omega) p hr h
        · rw [if_neg h41]
          exact atom_open b lv l t u g d m w n ih (by omega) p hr h41 h
    · rw [if_neg h40]
      by_cases h91 : c = 91
      · subst h91
        rw [if_pos rfl]
        cases hr : bracketP t with
        | bad u => exact atom_brk b lv l t u g d m w hr h
        | ok L u => exact atom_set b lv l t u g d m w L hr h
      · rw [if_neg h91]
        by_cases h46 : c = 46
        · subst h46
          rw [if_pos rfl]
          exact atom_dot b lv l t g d m w h
        · rw [if_neg h46]
          by_cases h92 : c = 92
          · subst h92
            rw [if_pos rfl]
            cases hr : escP t with
            | bad u => exact atom_esc b lv l t u g d m w hr h
            | ok r u =>
              cases r with
              | inl a => exact atom_sgn b lv l t u g d m w a hr h
              | inr L => exact atom_cls b lv l t u g d m w L hr h
          · rw [if_neg h92]
            by_cases hs : special c = true
            · rw [if_pos hs]
              exact atom_bad b lv l t g d m w c hall.head hs h40 h91 h46 h92 h
            · rw [if_neg hs]
              exact atom_rune b lv l t g d m w c hall.head (by simpa using hs) h

/-- So many times, sign by sign: the node so far lies in the block X. -/
def ManyI (w : World) (X : Nat) (b : Nat) (lv : Value) (l : List Int) (g : Nat) (d m : Int) (R : Res Pat) (j : Nat) (wr : World) : Prop :=
  Off b w wr ∧ Blk wr w.heap.size [.int .i64 0, .slice none 0 0, .slice none 0 0, .int .i64 0, .int .i64 0, .int .i64 0] 32 ∧ ∃ k so sn sc lo ln lc mm nn rr, Blk wr X (Six k so sn sc lo ln lc mm nn rr) 32 ∧
    ((∃ p s0, NV wr (fun q => w.heap.size < q ∧ q ≠ X) p (Six k so sn sc lo ln lc mm nn rr) g ∧ St wr b lv l s0 ((g + p.groups : Nat) : Int) d (max m (d + p.deep)) ∧ manyLoop j p s0 = R ∧ s0.length < j) ∨ (∃ s', Bad wr b lv l s' d ∧ R = .bad s'))
theorem many_end {w wr w2 : World} {X : Nat} {b : Nat} {lv : Value} {l s0 : List Int} {g : Nat} {d m : Int} {p : Pat} {k : Int} {so : Option Addr} {sn sc : Nat} {lo : Option Addr} {ln lc : Nat} {mm nn rr : Int}
    (hnv : NV wr (fun q => w.heap.size < q ∧ q ≠ X) p (Six k so sn sc lo ln lc mm nn rr) g) (hst : St wr b lv l s0 ((g + p.groups : Nat) : Int) d (max m (d + p.deep))) (ho : Off b w wr) (hb : b < w.heap.size) (ht : Txt w b lv l)
    (e : w2 = put6 wr w.heap.size (.int .i64 k) (.slice so sn sc) (.slice lo ln lc) (.int .i64 mm) (.int .i64 nn) (.int .i64 rr)) : Part b lv l g d m (.ok p s0) w w2 (Six k so sn sc lo ln lc mm nn rr) := by
  subst e
  have hF := ho.put6 (r := w.heap.size) (Nat.le_refl _) (.int .i64 k) (.slice so sn sc) (.slice lo ln lc) (.int .i64 mm) (.int .i64 nn) (.int .i64 rr)
  refine ⟨hF, ?_, St.move ht hF hst (hst.1.put6 (r := w.heap.size) (by omega) _ _ _ _ _ _)⟩
  exact NV.mono (fun q _ hq => by omega) p _ g (NV.keep ((Keeps.refl _ wr).put6 (r := w.heap.size) (fun h => by omega) _ _ _ _ _ _) p _ g hnv)
/-- One more sign: the node goes into a new block, another one over it into X. -/
theorem many_step {w wx w2 : World} {X : Nat} {p : Pat} {g : Nat} {k : Int} {so : Option Addr} {sn sc : Nat} {lo : Option Addr} {ln lc : Nat} {mm nn rr m0 n0 : Int}
    (hnv : NV wx (fun q => w.heap.size < q ∧ q ≠ X) p (Six k so sn sc lo ln lc mm nn rr) g) (hX : X < wx.heap.size) (hw : w.heap.size < wx.heap.size)
    (e : w2 = (put6 wx X (.int .i64 6) (.slice none 0 0) (.slice (some ⟨wx.heap.size, 0, none⟩) 1 1) (.int .i64 m0) (.int .i64 n0) (.int .i64 0)).alloc (.cells #[.int .i64 k, .slice so sn sc, .slice lo ln lc, .int .i64 mm, .int .i64 nn, .int .i64 rr] 32)) :
    NV w2 (fun q => w.heap.size < q ∧ q ≠ X) (.many p m0 n0) (Six 6 none 0 0 (some ⟨wx.heap.size, 0, none⟩) 1 1 m0 n0 0) g := by
  subst e
  have h1 := Blk.new (put6 wx X (.int .i64 6) (.slice none 0 0) (.slice (some ⟨wx.heap.size, 0, none⟩) 1 1) (.int .i64 m0) (.int .i64 n0) (.int .i64 0)) (Six k so sn sc lo ln lc mm nn rr) 32
  rw [put6_size] at h1
  refine ⟨_, _, rfl, own_blk h1 rfl ⟨hw, by omega⟩, ?_⟩
  exact NV.keep (((Keeps.refl _ wx).put6 (r := X) (fun h => h.2 rfl) _ _ _ _ _ _).trans (Keeps.alloc _ _ _)) p _ g hnv
theorem blk_over6 {w : World} {r : Nat} {T : TypeId} {cs : List Value} (h : Blk w r cs T) (hl : cs.length = 6) (c0 c1 c2 c3 c4 c5 : Value) : Blk (put6 w r c0 c1 c2 c3 c4 c5) r [c0, c1, c2, c3, c4, c5] T := by
  have := (((((h.set 0 c0).set 1 c1).set 2 c2).set 3 c3).set 4 c4).set 5 c5
  obtain ⟨x0, x1, x2, x3, x4, x5, rfl⟩ : ∃ x0 x1 x2 x3 x4 x5, cs = [x0, x1, x2, x3, x4, x5] := by
    match cs, hl with
    | [x0, x1, x2, x3, x4, x5], _ => exact ⟨_, _, _, _, _, _, rfl⟩
  exact this

set_option maxRecDepth 100000 in
set_option maxHeartbeats 1000000 in
theorem many_any (n : Nat) (ih : OrOk n) (b : Nat) (lv : Value) (l s : List Int) (g : Nat) (d m : Int) (w : World) (h : St w b lv l s g d m) (hn : s.length ≤ n) : Gives 254 b lv l g d m (manyP (orN false n) s) w := by
  unfold Gives
  have HS0 := hide h
  have HBb := hide h.1.lt
  have hb0 := h.1.lt
  have HT := hide h.2.2.1
  have HMP : Hid (manyP (orN false n) s = (atomP (orN false n) s).bind fun x s' => manyLoop (s'.length + 1) x s') := rfl
  clear h
  go_enter Tryz.func254, Tryz.ntmps254
  go_wp2_with fail
  refine (atom_any n ih b lv l s g d m _ (HS0.out.new (.cells #[.int .i64 0, .slice none 0 0, .slice none 0 0, .int .i64 0, .int .i64 0, .int .i64 0] 32)) hn).mono ?_
  rintro e w1 ⟨k0, so0, sn0, sc0, lo0, ln0, lc0, mm0, nn0, rr0, rfl, hoff, hpt⟩
  have HK0 := hide (((Blk.new w [.int .i64 0, .slice none 0 0, .slice none 0 0, .int .i64 0, .int .i64 0, .int .i64 0] 32).off (c := b) hoff (by omega)).alloc (.cells #[.int .i64 k0, .slice so0 sn0 sc0, .slice lo0 ln0 lc0, .int .i64 mm0, .int .i64 nn0, .int .i64 rr0] 32))
  have HO0 : Hid (Off b w (w1.alloc (.cells #[.int .i64 k0, .slice so0 sn0 sc0, .slice lo0 ln0 lc0, .int .i64 mm0, .int .i64 nn0, .int .i64 rr0] 32))) := (((Off.refl b w).alloc (.cells #[.int .i64 0, .slice none 0 0, .slice none 0 0, .int .i64 0, .int .i64 0, .int .i64 0] 32)).trans hoff).alloc _
  have hsz : w.heap.size + 1 ≤ w1.heap.size := by have := hoff.size; simp at this; omega
  have HXb : Hid (b < w1.heap.size ∧ w.heap.size ≤ w1.heap.size ∧ w1.heap.size ≠ w.heap.size) := by show _ ∧ _; omega
  generalize hR : manyP (orN false n) s = R
  have HR := hide hR
  clear hR
  have HI : Hid (∃ j, ManyI w w1.heap.size b lv l g d m R j (w1.alloc (.cells #[.int .i64 k0, .slice so0 sn0 sc0, .slice lo0 ln0 lc0, .int .i64 mm0, .int .i64 nn0, .int .i64 rr0] 32))) := by
    have hX0 := Blk.new w1 (Six k0 so0 sn0 sc0 lo0 ln0 lc0 mm0 nn0 rr0) 32
    have e := HR.out
    rw [HMP.out] at e
    cases ha : atomP (orN false n) s with
    | bad s' =>
      rw [ha] at hpt e
      exact ⟨1, HO0.out, HK0.out, _, _, _, _, _, _, _, _, _, _, hX0, .inr ⟨s', hpt.below ((Below.refl _ _).alloc (Nat.le_refl _) _), e.symm⟩⟩
    | ok p s' =>
      rw [ha] at hpt e
      obtain ⟨hnv, hst⟩ := hpt
      refine ⟨s'.length + 1, HO0.out, HK0.out, _, _, _, _, _, _, _, _, _, _, hX0, .inl ⟨p, s', ?_, hst.new _, e, by omega⟩⟩
      exact NV.keep (Keeps.alloc _ _ _) p _ g (NV.mono (fun q hq hq2 => by simp at hq2; omega) p _ g hnv)
  obtain ⟨j0, hi0⟩ := HI.out
  have HI0 := hide hi0
  clear hi0 HI hoff hpt
  generalize hX : w1.heap.size = X at HXb HI0 hsz
  go_wp2_with fail
  go_loopg [4, 5] j0 (fun j _ _ wr => ManyI w X b lv l g d m R j wr)
  case atStart => exact HI0.out
  case round =>
    clear HI0 HK0 HO0
    obtain ⟨ho, hk0, k, so, sn, sc, lo, ln, lc, mm, nn, rr, hx, hcase⟩ := hrel
    have HO := hide ho
    have HK := hide hk0
    have HX := hide hx
    clear ho hk0 hx
    rcases hcase with ⟨p, s0, hnv, hst, heq, hlt⟩ | ⟨s', hbad, hRb⟩
    · obtain ⟨c0, c1, c2, c3, c4, c5, hb⟩ := hst.cells
      have hall := hst.2.2.2.2.1.suf hst.2.1
      have HS := hide hst
      have HNV := hide hnv
      have HE := hide heq
      have HLT := hide hlt
      clear hst hnv heq
      obtain ⟨j', rfl⟩ : ∃ j', gk = j' + 1 := ⟨gk - 1, by omega⟩
      by_cases ht : headIs isTimes s0 = true
      · cases s0 with
        | nil => simp [headIs] at ht
        | cons c t =>
          have hcc : c = 42 ∨ c = 43 ∨ c = 63 ∨ c = 123 := by simpa [headIs, isTimes] using ht
          clear ht hall
          rcases hcc with rfl | rfl | rfl | rfl
          · have HE2 : Hid (manyLoop j' (.many p (0) (-1)) t = R) := by
              have := HE.out
              simp only [manyLoop, headIs, isTimes] at this
              show manyLoop _ _ _ = _
              simpa [timesP, Res.bind] using this
            go_wp2_with fail
            refine (next_any _ _ _ _ _ _ _ _ HS.out).mono ?_
            rintro e wn ⟨rfl, hwn⟩
            simp only [nextV]
            replace HS := hide (HS.out.drn hwn)
            replace HO := hide (HO.out.trans (Off.drn hwn))
            replace HK := hide (HK.out.off (Off.drn (b := b) hwn) (by have := HBb.out; omega))
            replace HX := hide (HX.out.off (Off.drn (b := b) hwn) (by have := HXb.out; omega))
            replace HNV := hide (NV.keep (Keeps.below hwn.below) _ _ _ HNV.out)
            clear hwn c0 c1 c2 c3 c4 c5 hb
            obtain ⟨c0, c1, c2, c3, c4, c5, hb⟩ := HS.out.cells
            have hf1 := HS.out.1.frozen 1
            have hlen := HS.out.2.2.2.1
            obtain ⟨⟨x0, x1, x2, x3, x4, x5⟩, hxl⟩ := six_cells HX.out
            have xf0 := HX.out.frozen 0
            have xf1 := HX.out.frozen 1
            have xf2 := HX.out.frozen 2
            have xf3 := HX.out.frozen 3
            have xf4 := HX.out.frozen 4
            have xf5 := HX.out.frozen 5
            have HXN := hide HXb.out
            go_wp2_with fail
            have S := HS.out.step
            have HZW : Hid (w.heap.size < wn.heap.size) := HK.out.lt
            go_roundg j'
            case measure => omega
            case rel =>
              have hXr : X ≠ b := by have := HXN.out; omega
              have ho : Off b w _ := (HO.out.trans S.2)
              have hX1 := HX.out.off S.2 hXr
              have e1 : (wn.setCell ⟨b, 1, none⟩ (.int .i64 (((l.length - (42 :: t).length : Nat) : Int) + 1))).heap.size = wn.heap.size := by simp [World.setCell]
              have hnv := NV.keep (Keeps.off (b := b) S.2 (fun h => by have := HBb.out; omega)) _ _ _ HNV.out
              have st := many_step (w := w) (X := X) (m0 := 0) (n0 := -1) hnv (by rw [e1]; exact hxl) (by rw [e1]; exact HZW.out) rfl
              rw [e1] at st
              have F := (ho.put6 (r := X) HXN.out.2.1 (.int .i64 6) (.slice none 0 0) (.slice (some ⟨wn.heap.size, 0, none⟩) 1 1) (.int .i64 (0)) (.int .i64 (-1)) (.int .i64 0)).alloc (.cells #[.int .i64 k, .slice so sn sc, .slice lo ln lc, .int .i64 mm, .int .i64 nn, .int .i64 rr] 32)
              refine ⟨F, ((HK.out.off S.2 (by have := HBb.out; omega)).put6 (r := X) (by have := HXN.out; omega) _ _ _ _ _ _).alloc _, 6, none, 0, 0, some ⟨wn.heap.size, 0, none⟩, 1, 1, 0, -1, 0, (blk_over6 hX1 rfl _ _ _ _ _ _).alloc _, .inl ⟨_, t, st, ?_, HE2.out, ?_⟩⟩
              · exact St.move HT.out F S.1 ((S.1.1.put6 (r := X) (by omega) _ _ _ _ _ _).alloc _)
              · have := HLT.out; simp at this; omega
          · have HE2 : Hid (manyLoop j' (.many p (1) (-1)) t = R) := by
              have := HE.out
              simp only [manyLoop, headIs, isTimes] at this
              show manyLoop _ _ _ = _
              simpa [timesP, Res.bind] using this
            go_wp2_with fail
            refine (next_any _ _ _ _ _ _ _ _ HS.out).mono ?_
            rintro e wn ⟨rfl, hwn⟩
            simp only [nextV]
            replace HS := hide (HS.out.drn hwn)
            replace HO := hide (HO.out.trans (Off.drn hwn))
            replace HK := hide (HK.out.off (Off.drn (b := b) hwn) (by have := HBb.out; omega))
            replace HX := hide (HX.out.off (Off.drn (b := b) hwn) (by have := HXb.out; omega))
            replace HNV := hide (NV.keep (Keeps.below hwn.below) _ _ _ HNV.out)
            clear hwn c0 c1 c2 c3 c4 c5 hb
            obtain ⟨c0, c1, c2, c3, c4, c5, hb⟩ := HS.out.cells
            have hf1 := HS.out.1.frozen 1
            have hlen := HS.out.2.2.2.1
            obtain ⟨⟨x0, x1, x2, x3, x4, x5⟩, hxl⟩ := six_cells HX.out
            have xf0 := HX.out.frozen 0
            have xf1 := HX.out.frozen 1
            have xf2 := HX.out.frozen 2
            have xf3 := HX.out.frozen 3
            have xf4 := HX.out.frozen 4
            have xf5 := HX.out.frozen 5
            have HXN := hide HXb.out
            go_wp2_with fail
            have S := HS.out.step
            have HZW : Hid (w.heap.size < wn.heap.size) := HK.out.lt
            go_roundg j'
            case measure => omega
            case rel =>
              have hXr : X ≠ b := by have := HXN.out; omega
              have ho : Off b w _ := (HO.out.trans S.2)
              have hX1 := HX.out.off S.2 hXr
              have e1 : (wn.setCell ⟨b, 1, none⟩ (.int .i64 (((l.length - (43 :: t).length : Nat) : Int) + 1))).heap.size = wn.heap.size := by simp [World.setCell]
              have hnv := NV.keep (Keeps.off (b := b) S.2 (fun h => by have := HBb.out; omega)) _ _ _ HNV.out
              have st := many_step (w := w) (X := X) (m0 := 1) (n0 := -1) hnv (by rw [e1]; exact hxl) (by rw [e1]; exact HZW.out) rfl
              rw [e1] at st
              have F := (ho.put6 (r := X) HXN.out.2.1 (.int .i64 6) (.slice none 0 0) (.slice (some ⟨wn.heap.size, 0, none⟩) 1 1) (.int .i64 (1)) (.int .i64 (-1)) (.int .i64 0)).alloc (.cells #[.int .i64 k, .slice so sn sc, .slice lo ln lc, .int .i64 mm, .int .i64 nn, .int .i64 rr] 32)
              refine ⟨F, ((HK.out.off S.2 (by have := HBb.out; omega)).put6 (r := X) (by have := HXN.out; omega) _ _ _ _ _ _).alloc _, 6, none, 0, 0, some ⟨wn.heap.size, 0, none⟩, 1, 1, 1, -1, 0, (blk_over6 hX1 rfl _ _ _ _ _ _).alloc _, .inl ⟨_, t, st, ?_, HE2.out, ?_⟩⟩
              · exact St.move HT.out F S.1 ((S.1.1.put6 (r := X) (by omega) _ _ _ _ _ _).alloc _)
              · have := HLT.out; simp at this; omega
          · have HE2 : Hid (manyLoop j' (.many p (0) (1)) t = R) := by
              have := HE.out
              simp only [manyLoop, headIs, isTimes] at this
              show manyLoop _ _ _ = _
              simpa [timesP, Res.bind] using this
            go_wp2_with fail
            refine (next_any _ _ _ _ _ _ _ _ HS.out).mono ?_
            rintro e wn ⟨rfl, hwn⟩
            simp only [nextV]
            replace HS := hide (HS.out.drn hwn)
            replace HO := hide (HO.out.trans (Off.drn hwn))
            replace HK := hide (HK.out.off (Off.drn (b := b) hwn) (by have := HBb.out; omega))
            replace HX := hide (HX.out.off (Off.drn (b := b) hwn) (by have := HXb.out; omega))
            replace HNV := hide (NV.keep (Keeps.below hwn.below) _ _ _ HNV.out)
            clear hwn c0 c1 c2 c3 c4 c5 hb
            obtain ⟨c0, c1, c2, c3, c4, c5, hb⟩ := HS.out.cells
            have hf1 := HS.out.1.frozen 1
            have hlen := HS.out.2.2.2.1
            obtain ⟨⟨x0, x1, x2, x3, x4, x5⟩, hxl⟩ := six_cells HX.out
            have xf0 := HX.out.frozen 0
            have xf1 := HX.out.frozen 1
            have xf2 := HX.out.frozen 2
            have xf3 := HX.out.frozen 3
            have xf4 := HX.out.frozen 4
            have xf5 := HX.out.frozen 5
            have HXN := hide HXb.out
            go_wp2_with fail
            have S := HS.out.step
            have HZW : Hid (w.heap.size < wn.heap.size) := HK.out.lt
            go_roundg j'
            case measure => omega
            case rel =>
              have hXr : X ≠ b := by have := HXN.out; omega
              have ho : Off b w _ := (HO.out.trans S.2)
              have hX1 := HX.out.off S.2 hXr
              have e1 : (wn.setCell ⟨b, 1, none⟩ (.int .i64 (((l.length - (63 :: t).length : Nat) : Int) + 1))).heap.size = wn.heap.size := by simp [World.setCell]
              have hnv := NV.keep (Keeps.off (b := b) S.2 (fun h => by have := HBb.out; omega)) _ _ _ HNV.out
              have st := many_step (w := w) (X := X) (m0 := 0) (n0 := 1) hnv (by rw [e1]; exact hxl) (by rw [e1]; exact HZW.out) rfl
              rw [e1] at st
              have F := (ho.put6 (r := X) HXN.out.2.1 (.int .i64 6) (.slice none 0 0) (.slice (some ⟨wn.heap.size, 0, none⟩) 1 1) (.int .i64 (0)) (.int .i64 (1)) (.int .i64 0)).alloc (.cells #[.int .i64 k, .slice so sn sc, .slice lo ln lc, .int .i64 mm, .int .i64 nn, .int .i64 rr] 32)
              refine ⟨F, ((HK.out.off S.2 (by have := HBb.out; omega)).put6 (r := X) (by have := HXN.out; omega) _ _ _ _ _ _).alloc _, 6, none, 0, 0, some ⟨wn.heap.size, 0, none⟩, 1, 1, 0, 1, 0, (blk_over6 hX1 rfl _ _ _ _ _ _).alloc _, .inl ⟨_, t, st, ?_, HE2.out, ?_⟩⟩
              · exact St.move HT.out F S.1 ((S.1.1.put6 (r := X) (by omega) _ _ _ _ _ _).alloc _)
              · have := HLT.out; simp at this; omega
          · have HCT : Hid (∀ r, countsP t = r → manyLoop (j' + 1) p (123 :: t) = (r.bind fun mn s' => manyLoop j' (.many p mn.1 mn.2) s')) := by
              rintro r rfl
              simp only [manyLoop, headIs, isTimes]
              simp [timesP]
            go_wp2_with fail
            refine (next_any _ _ _ _ _ _ _ _ HS.out).mono ?_
            rintro e wn ⟨rfl, hwn⟩
            simp only [nextV]
            replace HS := hide (HS.out.drn hwn)
            replace HO := hide (HO.out.trans (Off.drn hwn))
            replace HK := hide (HK.out.off (Off.drn (b := b) hwn) (by have := HBb.out; omega))
            replace HX := hide (HX.out.off (Off.drn (b := b) hwn) (by have := HXb.out; omega))
            replace HNV := hide (NV.keep (Keeps.below hwn.below) _ _ _ HNV.out)
            clear hwn c0 c1 c2 c3 c4 c5 hb
            obtain ⟨c0, c1, c2, c3, c4, c5, hb⟩ := HS.out.cells
            have hf1 := HS.out.1.frozen 1
            have hlen := HS.out.2.2.2.1
            have HXN := hide HXb.out
            go_wp2_with fail
            have S := HS.out.step
            have hXr : X ≠ b := by have := HXN.out; omega
            have HZW : Hid (w.heap.size < wn.heap.size) := HK.out.lt
            refine (counts_any _ _ _ _ _ _ _ _ S.1).mono ?_
            rintro e wc ⟨x9, y9, rfl, hoc, hdc⟩
            have HO2 : Hid (Off b w wc) := (HO.out.trans S.2).trans hoc
            have HK2 := hide ((HK.out.off S.2 (by have := HBb.out; omega)).off hoc (by have := HBb.out; omega))
            have HX2 := hide ((HX.out.off S.2 hXr).off hoc hXr)
            have HNV2 := hide (NV.keep ((Keeps.off (b := b) S.2 (fun h => by have := HBb.out; omega)).trans (Keeps.off (b := b) hoc (fun h => by have := HBb.out; omega))) _ _ _ HNV.out)
            have HTK := hide (countsP_takes t)
            clear S hoc c0 c1 c2 c3 c4 c5 hb hf1 hlen HO HK HX HNV
            obtain ⟨⟨x0, x1, x2, x3, x4, x5⟩, hxl⟩ := six_cells HX2.out
            have xf0 := HX2.out.frozen 0
            have xf1 := HX2.out.frozen 1
            have xf2 := HX2.out.frozen 2
            have xf3 := HX2.out.frozen 3
            have xf4 := HX2.out.frozen 4
            have xf5 := HX2.out.frozen 5
            go_wp2_with fail
            have HZC : Hid (w.heap.size < wc.heap.size) := HK2.out.lt
            go_roundg j'
            case measure => omega
            case rel =>
              have F := (HO2.out.put6 (r := X) HXN.out.2.1 (.int .i64 6) (.slice none 0 0) (.slice (some ⟨wc.heap.size, 0, none⟩) 1 1) (.int .i64 x9) (.int .i64 y9) (.int .i64 0)).alloc (.cells #[.int .i64 k, .slice so sn sc, .slice lo ln lc, .int .i64 mm, .int .i64 nn, .int .i64 rr] 32)
              refine ⟨F, (HK2.out.put6 (r := X) (by have := HXN.out; omega) _ _ _ _ _ _).alloc _, 6, none, 0, 0, some ⟨wc.heap.size, 0, none⟩, 1, 1, x9, y9, 0, (blk_over6 HX2.out rfl _ _ _ _ _ _).alloc _, ?_⟩
              cases hct : countsP t with
              | bad s2 =>
                rw [hct] at hdc
                have e := HCT.out _ hct
                obtain ⟨i1, g1, m1, hrd⟩ := hdc.1
                exact .inr ⟨s2, ⟨i1, g1, m1, (hrd.put6 (r := X) (by have := HXN.out; omega) _ _ _ _ _ _).alloc _⟩, by rw [← HE.out, e]; rfl⟩
              | ok mn s2 =>
                rw [hct] at hdc
                have htk := HTK.out
                rw [hct] at htk
                have e := HCT.out _ hct
                obtain ⟨hst2, rfl, rfl⟩ := hdc
                have st := many_step (w := w) (X := X) (m0 := mn.1) (n0 := mn.2) HNV2.out hxl HZC.out rfl
                refine .inl ⟨_, s2, st, St.move HT.out F hst2 ((hst2.1.put6 (r := X) (by have := HXN.out; omega) _ _ _ _ _ _).alloc _), by rw [← HE.out, e]; rfl, ?_⟩
                have := HLT.out
                have := htk.1
                simp only [List.length_cons] at *
                omega
      · have HR2 : Hid (R = .ok p s0) := by
          have := HE.out
          simp only [manyLoop] at this
          rw [if_neg ht] at this
          exact this.symm
        have hx1 : ¬ nextV s0 = 42 ∧ ¬ nextV s0 = 43 ∧ ¬ nextV s0 = 63 ∧ ¬ nextV s0 = 123 := by
          cases s0 with
          | nil => simp [nextV]
          | cons c t => simpa [headIs, isTimes, nextV] using ht
        generalize hv : nextV s0 = x at hx1
        have HVV := hide hv
        have b1 : (x == 42) = false := beq_eq_false_iff_ne.2 hx1.1
        have b2 : (x == 43) = false := beq_eq_false_iff_ne.2 hx1.2.1
        have b3 : (x == 63) = false := beq_eq_false_iff_ne.2 hx1.2.2.1
        have b4 : (x == 123) = false := beq_eq_false_iff_ne.2 hx1.2.2.2
        clear ht hall hx1 hv
        go_wp2_with fail
        refine (next_any _ _ _ _ _ _ _ _ HS.out).mono ?_
        rintro e wn ⟨rfl, hwn⟩
        rw [HVV.out]
        replace HS := hide (HS.out.drn hwn)
        replace HO := hide (HO.out.trans (Off.drn hwn))
        replace HK := hide (HK.out.off (Off.drn (b := b) hwn) (by have := HBb.out; omega))
        replace HX := hide (HX.out.off (Off.drn (b := b) hwn) (by have := HXb.out; omega))
        replace HNV := hide (NV.keep (Keeps.below hwn.below) _ _ _ HNV.out)
        clear hwn c0 c1 c2 c3 c4 c5 hb
        obtain ⟨⟨x0, x1, x2, x3, x4, x5⟩, hxl⟩ := six_cells HX.out
        have xf0 := HX.out.frozen 0
        have xf1 := HX.out.frozen 1
        have xf2 := HX.out.frozen 2
        have xf3 := HX.out.frozen 3
        have xf4 := HX.out.frozen 4
        have xf5 := HX.out.frozen 5
        obtain ⟨⟨z0, z1, z2, z3, z4, z5⟩, ⟨y0, y1, y2, y3, y4, y5⟩, hw1⟩ := zero_cells HK.out
        go_wp2_with fail
        refine bodyPost_ret (v := .agg #[.int .i64 k, .slice so sn sc, .slice lo ln lc, .int .i64 mm, .int .i64 nn, .int .i64 rr]) (by simp [results, Tryz.results254, go_sem, z0, z1, z2, z3, z4, z5]) rfl ⟨k, so, sn, sc, lo, ln, lc, mm, nn, rr, rfl, ?_⟩
        rw [HR.out, HR2.out]
        exact many_end HNV.out HS.out HO.out HBb.out HT.out rfl
    · obtain ⟨i0, g0, m0, c0, c1, c2, c3, c4, c5, hb⟩ := hbad.cells
      have HB := hide hbad
      have HR2 := hide hRb
      generalize l.length - s'.length = kk at c2
      clear hbad hRb c0 c1 c3 c4 c5
      have hd : decide ((kk : Int) < 0) = false := by simp
      obtain ⟨⟨x0, x1, x2, x3, x4, x5⟩, hxl⟩ := six_cells HX.out
      have xf0 := HX.out.frozen 0
      have xf1 := HX.out.frozen 1
      have xf2 := HX.out.frozen 2
      have xf3 := HX.out.frozen 3
      have xf4 := HX.out.frozen 4
      have xf5 := HX.out.frozen 5
      obtain ⟨⟨z0, z1, z2, z3, z4, z5⟩, ⟨y0, y1, y2, y3, y4, y5⟩, hw1⟩ := zero_cells HK.out
      go_wp2_with fail
      refine bodyPost_ret (v := .agg #[.int .i64 k, .slice so sn sc, .slice lo ln lc, .int .i64 mm, .int .i64 nn, .int .i64 rr]) (by simp [results, Tryz.results254, go_sem, z0, z1, z2, z3, z4, z5]) rfl ⟨k, so, sn, sc, lo, ln, lc, mm, nn, rr, rfl, ?_⟩
      rw [HR.out, HR2.out]
      exact bad_end HB.out HBb.out HO.out rfl
end Go.Proofs.YtpoibdhhcbelnaaGreatDoor
/- The reference's "not": a walk. -/
namespace Go.Proofs.YtpoibdhhcbelnaaGreatDoor
open Go.RowKit Brm

/-- What a call handed back is handed on. -/
theorem pass_end {w w1 w2 : World} {b : Nat} {lv : Value} {l : List Int} {g : Nat} {d m : Int} {r : Res Pat} {o : Obj} {k : Int} {so : Option Addr} {sn sc : Nat} {lo : Option Addr} {ln lc : Nat} {mm nn rr : Int}
    (hp : Part b lv l g d m r (w.alloc o) w1 (Six k so sn sc lo ln lc mm nn rr)) (hb : b < w.heap.size) (ht : Txt w b lv l) (e : w2 = put6 w1 w.heap.size (.int .i64 k) (.slice so sn sc) (.slice lo ln lc) (.int .i64 mm) (.int .i64 nn) (.int .i64 rr)) : Part b lv l g d m r w w2 (Six k so sn sc lo ln lc mm nn rr) := by
  subst e
  obtain ⟨ho, hp⟩ := hp
  have hF := (((Off.refl b w).alloc o).trans ho).put6 (r := w.heap.size) (Nat.le_refl _) (.int .i64 k) (.slice so sn sc) (.slice lo ln lc) (.int .i64 mm) (.int .i64 nn) (.int .i64 rr)
  refine ⟨hF, ?_⟩
  cases r with
  | bad s => obtain ⟨i, g1, m1, h⟩ := hp; exact ⟨i, g1, m1, h.put6 (r := w.heap.size) (by omega) _ _ _ _ _ _⟩
  | ok p s =>
    obtain ⟨hnv, hst⟩ := hp
    refine ⟨?_, St.move ht hF hst (hst.1.put6 (r := w.heap.size) (by omega) _ _ _ _ _ _)⟩
    exact NV.mono (fun q _ hq => by simp at hq; omega) p _ g (NV.keep ((Keeps.refl _ w1).put6 (r := w.heap.size) (fun h => by simp at h; omega) _ _ _ _ _ _) p _ g hnv)
theorem part_undrew {w w1 : World} {b : Nat} {lv : Value} {l : List Int} {g : Nat} {d m : Int} {r : Res Pat} {c : List Value} {nd : Nat} (h : Part b lv l g d m r (w.drewN nd) w1 c) : Part b lv l g d m r w w1 c :=
  ⟨⟨h.1.os, h.1.tape, h.1.output, h.1.size, h.1.block⟩, h.2⟩
/-- As over_end, where the node has lain in a block of its own before. -/
theorem over_end2 {w wm w2 : World} {A : Nat → Prop} {p : Pat} {g0 : Nat} {k : Int} {so : Option Addr} {sn sc : Nat} {lo : Option Addr} {ln lc : Nat} {mm nn rr : Int} {c0 c1 c2 c3 c4 c5 : Value} {o : Obj}
    (hnv : NV wm A p (Six k so sn sc lo ln lc mm nn rr) g0) (hA : ∀ q, A q → w.heap.size < q) (hs : w.heap.size ≤ wm.heap.size)
    (e : w2 = ((put6 wm w.heap.size c0 c1 c2 c3 c4 c5).alloc o).alloc (.cells #[.int .i64 k, .slice so sn sc, .slice lo ln lc, .int .i64 mm, .int .i64 nn, .int .i64 rr] 32)) :
    Own w2 (fun q => w.heap.size ≤ q) 32 6 (.slice (some ⟨wm.heap.size + 1, 0, none⟩) 1 1) 1 (Six k so sn sc lo ln lc mm nn rr) ∧ NV w2 (fun q => w.heap.size ≤ q) p (Six k so sn sc lo ln lc mm nn rr) g0 := by
  subst e
  constructor
  · have h1 := Blk.new ((put6 wm w.heap.size c0 c1 c2 c3 c4 c5).alloc o) (Six k so sn sc lo ln lc mm nn rr) 32
    have e1 : ((put6 wm w.heap.size c0 c1 c2 c3 c4 c5).alloc o).heap.size = wm.heap.size + 1 := by simp [World.setCell]
    rw [e1] at h1
    exact own_blk h1 rfl (Nat.le_succ_of_le hs)
  · exact NV.mono (fun q _ hq => by have := hA q hq; omega) p _ g0 (NV.keep ((((Keeps.refl A wm).put6 (r := w.heap.size) (fun h => by have := hA _ h; omega) _ _ _ _ _ _).trans (Keeps.alloc _ _ _)).trans (Keeps.alloc _ _ _)) p _ g0 hnv)

set_option maxRecDepth 100000 in
set_option maxHeartbeats 1000000 in
theorem not_ok (b : Nat) (lv : Value) (l t u : List Int) (g : Nat) (d m : Int) (w : World) (r : Res Pat) (hrec : ∀ w', St w' b lv l t g (d + 1) (max m (d + 1)) → Gives 216 b lv l g (d + 1) (max m (d + 1)) r w') (p : Pat) (hr : r = .ok p u) (h : St w b lv l (126 :: t) g d m) : Gives 216 b lv l g d m (.ok (.not p) u) w := by
  unfold Gives
  have HS0 := hide h
  have HBb := hide h.1.lt
  have HRC := hide hrec
  obtain ⟨f1, f2, f3, f4, f5, f6⟩ := h.facts
  have hb0 := h.1.lt
  subst hr
  clear h hrec
  go_enter Tryz.func216, Tryz.ntmps216
  go_wp2_with fail
  refine (takes_yes _ _ _ _ _ _ _ _ _ (HS0.out.new (.cells #[.int .i64 0, .slice none 0 0, .slice none 0 0, .int .i64 0, .int .i64 0, .int .i64 0] 32)) (by decide) (by decide)).mono ?_
  rintro e wt ⟨rfl, hst, hoff⟩
  have HS := hide hst
  have HO : Hid (Off b w wt) := ((Off.refl b w).alloc (.cells #[.int .i64 0, .slice none 0 0, .slice none 0 0, .int .i64 0, .int .i64 0, .int .i64 0] 32)).trans hoff
  have HK := hide ((Blk.new w [.int .i64 0, .slice none 0 0, .slice none 0 0, .int .i64 0, .int .i64 0, .int .i64 0] 32).off (c := b) hoff (by omega))
  have HD : Hid (d + 1 ≤ ((l.length - t.length : Nat) : Int)) := by have := HS0.out.2.2.2.2.2; have := HS0.out.2.1.length_le; simp only [List.length_cons] at *; show _ ≤ _; omega
  obtain ⟨c0, c1, c2, c3, c4, c5, hb⟩ := hst.cells
  have hf4 := hst.1.frozen 4
  have hf5 := hst.1.frozen 5
  clear hst hoff c0 c1 c2 c3
  go_wp2_with fail
  go_region
  go_wp2_with fail
  have HS2 := hide (HS.out.deeper HD.out).drew
  have HO2 : Hid (Off b w ((wt.setCell ⟨b, 4, none⟩ (.int .i64 (d + 1))).setCell ⟨b, 5, none⟩ (.int .i64 (max m (d + 1)))).drew) := ((HO.out.setCell 4 _).setCell 5 _).drew
  replace HK := hide (((HK.out.setOther (p := ⟨b, 4, none⟩) (by simp; omega) (.int .i64 (d + 1))).setOther (p := ⟨b, 5, none⟩) (by simp; omega) (.int .i64 (max m (d + 1)))).drew)
  have HZS : Hid (w.heap.size < ((wt.setCell ⟨b, 4, none⟩ (.int .i64 (d + 1))).setCell ⟨b, 5, none⟩ (.int .i64 (max m (d + 1)))).drew.heap.size) := HK.out.lt
  refine (HRC.out _ HS2.out).mono ?_
  rintro e w1 ⟨k, so, sn, sc, lo, ln, lc, mm, nn, rr, rfl, hoff, hpt⟩
  replace HO := hide (HO2.out.trans hoff)
  replace HK := hide (HK.out.off hoff (by omega))
  obtain ⟨hnv, hst⟩ := hpt
  have HNV := hide hnv
  have HS3 := hide hst
  clear hnv hst
  clear hoff c4 c5 hf4 hf5
  obtain ⟨c0, c1, c2, c3, c4, c5, hb1⟩ := HS3.out.cells
  have hf4 := HS3.out.1.frozen 4
  obtain ⟨⟨z0, z1, z2, z3, z4, z5⟩, ⟨y0, y1, y2, y3, y4, y5⟩, hw1⟩ := zero_cells HK.out
  try simp at z0 z1 z2 z3 z4 z5 y0 y1 y2 y3 y4 y5 hw1
  go_wp2_with fail
  refine bodyPost_ret (v := .agg #[.int .i64 5, .slice none 0 0, .slice (some ⟨w1.heap.size + 1, 0, none⟩) 1 1, .int .i64 0, .int .i64 0, .int .i64 0]) (by simp [results, Tryz.results216, go_sem, z0, z1, z2, z3, z4, z5, hw1]) rfl ⟨5, none, 0, 0, some ⟨w1.heap.size + 1, 0, none⟩, 1, 1, 0, 0, 0, rfl, ?_⟩
  have HF := (((HO.out.setCell 4 (.int .i64 d)).put6 (r := w.heap.size) (Nat.le_refl _) (.int .i64 5) (.slice none 0 0) (.slice (some ⟨w1.heap.size + 1, 0, none⟩) 1 1) (.int .i64 0) (.int .i64 0) (.int .i64 0)).alloc (.cells #[.int .i64 k, .slice so sn sc, .slice lo ln lc, .int .i64 mm, .int .i64 nn, .int .i64 rr] 32)).alloc (.cells #[.int .i64 k, .slice so sn sc, .slice lo ln lc, .int .i64 mm, .int .i64 nn, .int .i64 rr] 32)
  have e0 : (w1.setCell ⟨b, 4, none⟩ (.int .i64 d)).heap.size = w1.heap.size := by simp [World.setCell]
  have hnv2 := NV.keep (Keeps.set (p := ⟨b, 4, none⟩) (.int .i64 d) (Nat.not_le_of_lt (Nat.lt_trans HBb.out HZS.out))) p _ _ HNV.out
  obtain ⟨o1, o2⟩ := over_end2 (w := w) hnv2 (fun q hq => Nat.lt_of_lt_of_le HZS.out hq) (by rw [e0]; exact HO.out.size) rfl
  rw [e0] at o1
  refine ⟨HF, ⟨_, _, rfl, o1, o2⟩, ?_⟩
  have e2 : ((Pat.not p).groups) = p.groups := by simp [Pat.groups]
  have e3 : ((Pat.not p).deep : Int) = (p.deep : Int) + 1 := by simp [Pat.deep]
  have e : max (max m (d + 1)) (d + 1 + (p.deep : Int)) = max m (d + ((p.deep : Int) + 1)) := by omega
  have S4 := HS3.out.setD d (by omega) (by have := HS3.out.2.2.2.2.2; omega)
  rw [e] at S4
  rw [e2, e3]
  exact St.move HS0.out.2.2.1 HF S4 (((S4.1.put6 (r := w.heap.size) (by omega) _ _ _ _ _ _).alloc _).alloc _)
set_option maxRecDepth 100000 in
set_option maxHeartbeats 1000000 in
theorem not_bad (b : Nat) (lv : Value) (l t u : List Int) (g : Nat) (d m : Int) (w : World) (r : Res Pat) (hrec : ∀ w', St w' b lv l t g (d + 1) (max m (d + 1)) → Gives 216 b lv l g (d + 1) (max m (d + 1)) r w') (hr : r = .bad u) (h : St w b lv l (126 :: t) g d m) : Gives 216 b lv l g d m (.bad u) w := by
  unfold Gives
  have HS0 := hide h
  have HBb := hide h.1.lt
  have HRC := hide hrec
  obtain ⟨f1, f2, f3, f4, f5, f6⟩ := h.facts
  have hb0 := h.1.lt
  subst hr
  clear h hrec
  go_enter Tryz.func216, Tryz.ntmps216
  go_wp2_with fail
  refine (takes_yes _ _ _ _ _ _ _ _ _ (HS0.out.new (.cells #[.int .i64 0, .slice none 0 0, .slice none 0 0, .int .i64 0, .int .i64 0, .int .i64 0] 32)) (by decide) (by decide)).mono ?_
  rintro e wt ⟨rfl, hst, hoff⟩
  have HS := hide hst
  have HO : Hid (Off b w wt) := ((Off.refl b w).alloc (.cells #[.int .i64 0, .slice none 0 0, .slice none 0 0, .int .i64 0, .int .i64 0, .int .i64 0] 32)).trans hoff
  have HK := hide ((Blk.new w [.int .i64 0, .slice none 0 0, .slice none 0 0, .int .i64 0, .int .i64 0, .int .i64 0] 32).off (c := b) hoff (by omega))
  have HD : Hid (d + 1 ≤ ((l.length - t.length : Nat) : Int)) := by have := HS0.out.2.2.2.2.2; have := HS0.out.2.1.length_le; simp only [List.length_cons] at *; show _ ≤ _; omega
  obtain ⟨c0, c1, c2, c3, c4, c5, hb⟩ := hst.cells
  have hf4 := hst.1.frozen 4
  have hf5 := hst.1.frozen 5
  clear hst hoff c0 c1 c2 c3
  go_wp2_with fail
  go_region
  go_wp2_with fail
  have HS2 := hide (HS.out.deeper HD.out).drew
  have HO2 : Hid (Off b w ((wt.setCell ⟨b, 4, none⟩ (.int .i64 (d + 1))).setCell ⟨b, 5, none⟩ (.int .i64 (max m (d + 1)))).drew) := ((HO.out.setCell 4 _).setCell 5 _).drew
  replace HK := hide (((HK.out.setOther (p := ⟨b, 4, none⟩) (by simp; omega) (.int .i64 (d + 1))).setOther (p := ⟨b, 5, none⟩) (by simp; omega) (.int .i64 (max m (d + 1)))).drew)
  have HZS : Hid (w.heap.size < ((wt.setCell ⟨b, 4, none⟩ (.int .i64 (d + 1))).setCell ⟨b, 5, none⟩ (.int .i64 (max m (d + 1)))).drew.heap.size) := HK.out.lt
  refine (HRC.out _ HS2.out).mono ?_
  rintro e w1 ⟨k, so, sn, sc, lo, ln, lc, mm, nn, rr, rfl, hoff, hpt⟩
  replace HO := hide (HO2.out.trans hoff)
  replace HK := hide (HK.out.off hoff (by omega))
  obtain ⟨i1, g1, m1, hrd⟩ := hpt
  have HRD := hide hrd
  clear hrd
  clear hoff c4 c5 hf4 hf5
  have c4 := HRD.out.cell 4
  have hf4 := HRD.out.frozen 4
  have hb1 := HRD.out.lt
  simp at c4
  obtain ⟨⟨z0, z1, z2, z3, z4, z5⟩, ⟨y0, y1, y2, y3, y4, y5⟩, hw1⟩ := zero_cells HK.out
  try simp at z0 z1 z2 z3 z4 z5 y0 y1 y2 y3 y4 y5 hw1
  go_wp2_with fail
  refine bodyPost_ret (v := .agg #[.int .i64 5, .slice none 0 0, .slice (some ⟨w1.heap.size + 1, 0, none⟩) 1 1, .int .i64 0, .int .i64 0, .int .i64 0]) (by simp [results, Tryz.results216, go_sem, z0, z1, z2, z3, z4, z5, hw1]) rfl ⟨5, none, 0, 0, some ⟨w1.heap.size + 1, 0, none⟩, 1, 1, 0, 0, 0, rfl, ?_⟩
  exact ⟨(((HO.out.setCell 4 (.int .i64 d)).put6 (r := w.heap.size) (Nat.le_refl _) _ _ _ _ _ _).alloc _).alloc _, i1, g1, m1, ((((HRD.out.set 4 (.int .i64 d)).put6 (r := w.heap.size) (by omega) _ _ _ _ _ _).alloc _).alloc _)⟩
set_option maxRecDepth 100000 in
set_option maxHeartbeats 1000000 in
theorem not_pass (n : Nat) (ih : OrOk n) (b : Nat) (lv : Value) (l s : List Int) (g : Nat) (d m : Int) (w : World) (h : St w b lv l s g d m) (hn : s.length ≤ n) (h126 : s.head? ≠ some 126) : Gives 216 b lv l g d m (manyP (orN false n) s) w := by
  unfold Gives
  have HS0 := hide h
  have HBb := hide h.1.lt
  have HN := hide h126
  have hb0 := h.1.lt
  clear h h126
  go_enter Tryz.func216, Tryz.ntmps216
  go_wp2_with fail
  refine (takes_no _ _ _ _ _ _ _ _ _ (HS0.out.new (.cells #[.int .i64 0, .slice none 0 0, .slice none 0 0, .int .i64 0, .int .i64 0, .int .i64 0] 32)) (by decide) (by decide) HN.out).mono ?_
  rintro e wt ⟨rfl, hwt⟩
  obtain ⟨nd, rfl⟩ := hwt
  have HS : Hid (St ((w.alloc (.cells #[.int .i64 0, .slice none 0 0, .slice none 0 0, .int .i64 0, .int .i64 0, .int .i64 0] 32)).drewN nd) b lv l s g d m) := HS0.out.new (.cells #[.int .i64 0, .slice none 0 0, .slice none 0 0, .int .i64 0, .int .i64 0, .int .i64 0] 32)
  go_wp2_with fail
  refine (many_any n ih b lv l s g d m _ HS.out hn).mono ?_
  rintro e w1 ⟨k, so, sn, sc, lo, ln, lc, mm, nn, rr, rfl, hpt⟩
  have HP : Hid (Part b lv l g d m (manyP (orN false n) s) (w.alloc (.cells #[.int .i64 0, .slice none 0 0, .slice none 0 0, .int .i64 0, .int .i64 0, .int .i64 0] 32)) w1 (Six k so sn sc lo ln lc mm nn rr)) := part_undrew hpt
  have HK := hide ((Blk.new w [.int .i64 0, .slice none 0 0, .slice none 0 0, .int .i64 0, .int .i64 0, .int .i64 0] 32).off (c := b) (HP.out.1) (by omega))
  clear hpt
  obtain ⟨⟨z0, z1, z2, z3, z4, z5⟩, ⟨y0, y1, y2, y3, y4, y5⟩, hw1⟩ := zero_cells HK.out
  try simp at z0 z1 z2 z3 z4 z5 y0 y1 y2 y3 y4 y5 hw1
  go_wp2_with fail
  refine bodyPost_ret (v := .agg #[.int .i64 k, .slice so sn sc, .slice lo ln lc, .int .i64 mm, .int .i64 nn, .int .i64 rr]) (by simp [results, Tryz.results216, go_sem, z0, z1, z2, z3, z4, z5]) rfl ⟨k, so, sn, sc, lo, ln, lc, mm, nn, rr, rfl, ?_⟩
  exact pass_end HP.out HBb.out HS0.out.2.2.1 rfl
theorem not_any2 (n : Nat) (ih : OrOk n) (b : Nat) (lv : Value) (l : List Int) (g : Nat) : ∀ (s : List Int) (d m : Int) (w : World), St w b lv l s g d m → s.length ≤ n → Gives 216 b lv l g d m (notP (orN false n) s) w
  | [], d, m, w, h, hn => not_pass n ih b lv l [] g d m w h hn (by simp)
  | c :: t, d, m, w, h, hn => by
    simp only [notP]
    by_cases h126 : c = 126
    · subst h126
      rw [if_pos rfl]
      have hrec : ∀ w', St w' b lv l t g (d + 1) (max m (d + 1)) → Gives 216 b lv l g (d + 1) (max m (d + 1)) (notP (orN false n) t) w' := fun w' h' => not_any2 n ih b lv l g t (d + 1) (max m (d + 1)) w' h' (by simp only [List.length_cons] at hn; omega)
      cases hr : notP (orN false n) t with
      | bad u => rw [hr] at hrec; exact not_bad b lv l t u g d m w _ hrec rfl h
      | ok p u => rw [hr] at hrec; exact not_ok b lv l t u g d m w _ hrec p rfl h
    · rw [if_neg h126]
      exact not_pass n ih b lv l (c :: t) g d m w h hn (by simpa using h126)
end Go.Proofs.YtpoibdhhcbelnaaGreatDoor
/- An append of one node to a row that the call owns. -/
namespace Go.Proofs.YtpoibdhhcbelnaaGreatDoor
open Go.RowKit Brm

theorem Tryz.info32 : (Tryz.prog.info? 32).map (fun i => (i.zero, i.size, i.bytes)) = some (some (.agg #[.int .i64 0, .slice none 0 0, .slice none 0 0, .int .i64 0, .int .i64 0, .int .i64 0]), 6, 80) := by kernel_rfl
theorem own_le6 {w : World} {B B' : Nat} {v : Value} {n : Nat} {xs : List Value} (h : w.ownsRow B 32 6 v n xs) (hb : B' ≤ B) : w.ownsRow B' 32 6 v n xs := by
  refine ⟨h.1, ?_⟩
  rcases h.2 with h2 | ⟨g, cap, cur, e, hg, r⟩
  · exact .inl h2
  · exact .inr ⟨g, cap, cur, e, Nat.le_trans hb hg, r⟩
theorem append_node {w : World} {ops : Array Oper} {rest : List Oper} {o : Oper} {a : Act} {Q : Exit → Act → World → Prop} (hgd : o.guard = none) (s x : Operand)
    (ho : o.op = .call { callee := .builtin .append, args := #[s, x], argTypes := #[30, 30] }) (B n : Nat) (v : Value) (xs : List Value) (hs : a.eval s = v) (hown : w.ownsRow B 32 6 v n xs)
    (ad : Addr) (news : List Value) (hx : a.eval x = .slice (some ad) 1 1) (hl : news.length = 6) (hnews : ∀ j u, news[j]? = some u → w.cell? (ad.add j) = some u) (h1 : ∀ u ∈ news, u.oneCell' = true)
    (hn : n ≤ 100000) (hB : B ≤ w.heap.size)
    (h : ∀ v' w', w'.ownsRow B 32 6 v' (n + 1) (xs ++ news) → w.grownBy w' v.ownBlock → (v'.ownBlock = v.ownBlock ∨ ∀ g, v'.ownBlock = some g → w.heap.size ≤ g) →
      wpList Tryz.prog ops Q rest (a.put o.dst v') w') : wpList Tryz.prog ops Q (o :: rest) a w := by
  obtain ⟨i0, hi, hz0, hz1, hz2⟩ := info_parts Tryz.info32
  have hrow := hown
  rcases hown.2 with ⟨rfl, rfl⟩ | ⟨g, cap, cur, rfl, hbg, hg, hnc, hcm, hcs, ht⟩
  · refine wpList_append_grows w hgd s x 30 ho 32 i0 (.agg #[.int .i64 0, .slice none 0 0, .slice none 0 0, .int .i64 0, .int .i64 0, .int .i64 0]) 6 80 Tryz.underlying30 hi hz0 hz1 hz2 rfl (by decide) none 0 0 xs hs (fun _ => ⟨rfl, rfl⟩) hrow.1 (fun b e => by cases e) ad 1 1 news hx hl hnews h1 (by omega) (by unfold maxLen; omega) (by omega) ?_
    intro v' w' ho' hg'
    exact h v' w' (own_le6 ho' hB) ⟨hg'.os, hg'.tape, hg'.output, hg'.size, fun k hk _ => hg'.block k hk (by simp)⟩ (.inr fun g e => (ho'.lt g e).1)
  · by_cases hroom : n + 1 ≤ cap
    · refine wpList_append_fits w hgd s x 30 ho B 32 i0 6 Tryz.underlying30 hi hz1 g n cap xs hs hrow ad 1 1 news hx hl hnews h1 hroom ?_
      intro w' ho' hg'
      exact h _ w' ho' hg' (.inl rfl)
    · refine wpList_append_grows w hgd s x 30 ho 32 i0 (.agg #[.int .i64 0, .slice none 0 0, .slice none 0 0, .int .i64 0, .int .i64 0, .int .i64 0]) 6 80 Tryz.underlying30 hi hz0 hz1 hz2 rfl (by decide) (some ⟨g, 0, none⟩) n cap xs hs (fun e => by cases e) hrow.1 (fun b e j u hj => by cases e; exact hrow.cells rfl j u hj) ad 1 1 news hx hl hnews h1 (by omega) (by unfold maxLen; omega) (by omega) ?_
      intro v' w' ho' hg'
      exact h v' w' (own_le6 ho' hB) ⟨hg'.os, hg'.tape, hg'.output, hg'.size, fun k hk _ => hg'.block k hk (by simp)⟩ (.inr fun g e => (ho'.lt g e).1)
theorem six_one (k : Int) (so : Option Addr) (sn sc : Nat) (lo : Option Addr) (ln lc : Nat) (mm nn rr : Int) : ∀ u ∈ Six k so sn sc lo ln lc mm nn rr, u.oneCell' = true := by
  intro u hu
  simp [Six] at hu
  rcases hu with rfl | rfl | rfl | rfl | rfl | rfl <;> rfl
theorem six_new {w : World} {y : Nat} {k : Int} {so : Option Addr} {sn sc : Nat} {lo : Option Addr} {ln lc : Nat} {mm nn rr : Int} (h : Blk w y (Six k so sn sc lo ln lc mm nn rr) 32) : ∀ j u, (Six k so sn sc lo ln lc mm nn rr)[j]? = some u → w.cell? ((⟨y, 0, none⟩ : Addr).add j) = some u := by
  intro j u hj
  rw [Addr.add_lit, ← hj]
  simpa using h.cell j
theorem six_new2 (w1 : World) (o : Obj) (k : Int) (so : Option Addr) (sn sc : Nat) (lo : Option Addr) (ln lc : Nat) (mm nn rr : Int) : ∀ j u, (Six k so sn sc lo ln lc mm nn rr)[j]? = some u → ((w1.alloc o).alloc (.cells #[.int .i64 k, .slice so sn sc, .slice lo ln lc, .int .i64 mm, .int .i64 nn, .int .i64 rr] 32)).cell? ((⟨w1.heap.size + 1, 0, none⟩ : Addr).add j) = some u := by
  have h := six_new (Blk.new (w1.alloc o) (Six k so sn sc lo ln lc mm nn rr) 32)
  have e : (w1.alloc o).heap.size = w1.heap.size + 1 := by simp
  rw [e] at h
  exact h
theorem own6_form {w : World} {B n : Nat} {v : Value} {xs : List Value} (h : w.ownsRow B 32 6 v n xs) : ∃ ao cap, v = .slice ao n cap := by
  rcases h.2 with ⟨rfl, rfl⟩ | ⟨g, cap, cur, rfl, _⟩ <;> exact ⟨_, _, rfl⟩
end Go.Proofs.YtpoibdhhcbelnaaGreatDoor
/- The reference's rows: a walk. -/
namespace Go.Proofs.YtpoibdhhcbelnaaGreatDoor
open Go.RowKit Brm

/-- The blocks of a list's parts: new ones, not the node's own, not the list's own. -/
def AL (w : World) (X : Nat) (v : Value) (q : Nat) : Prop := w.heap.size + 1 ≤ q ∧ q ≠ X ∧ some q ≠ v.ownBlock
/-- A list of parts that the node in X has. -/
def LI (w : World) (X : Nat) (v : Value) (L : List Pat) (g : Nat) (wr : World) : Prop := ∃ xs, wr.ownsRow (w.heap.size + 1) 32 6 v L.length xs ∧ v.ownBlock ≠ some X ∧ NL wr (AL w X v) L xs g
theorem LI.keep {w wr w' : World} {X : Nat} {v : Value} {L : List Pat} {g : Nat} {b : Nat} (h : LI w X v L g wr) (k : Off b wr w') (hb : b < w.heap.size) : LI w X v L g w' := by
  obtain ⟨xs, h1, h2, h3⟩ := h
  refine ⟨xs, own_block h1 (fun q hq => k.block q (h1.lt q hq).2 (by have := (h1.lt q hq).1; omega)), h2, NL.keep (Keeps.off k (fun hA => by have := hA.1; omega)) L xs g h3⟩
theorem LI.nil (w wr : World) (X g : Nat) : LI w X (.slice none 0 0) [] g wr := ⟨[], World.ownsRow_nil _ _ _ _, by simp [Value.ownBlock], rfl⟩
theorem LI.form {w wr : World} {X : Nat} {v : Value} {L : List Pat} {g : Nat} (h : LI w X v L g wr) : ∃ ao cap, v = .slice ao L.length cap := by
  obtain ⟨xs, h1, _⟩ := h; exact own6_form h1
theorem LI.put {w wr : World} {X : Nat} {v : Value} {L : List Pat} {g : Nat} (h : LI w X v L g wr) (c0 c1 c2 c3 c4 c5 : Value) : LI w X v L g (put6 wr w.heap.size c0 c1 c2 c3 c4 c5) := by
  obtain ⟨xs, h1, h2, h3⟩ := h
  have hk : Keeps (fun q => w.heap.size + 1 ≤ q) wr (put6 wr w.heap.size c0 c1 c2 c3 c4 c5) := (Keeps.refl _ wr).put6 (r := w.heap.size) (by simp) _ _ _ _ _ _
  exact ⟨xs, own_block h1 (fun q hq => hk.2 q (h1.lt q hq).2 (h1.lt q hq).1), h2, NL.keep ((Keeps.refl _ wr).put6 (r := w.heap.size) (fun hA => by have := hA.1; omega) _ _ _ _ _ _) L xs g h3⟩
/-- One more part. -/
theorem LI.push {w wr w1 w3 : World} {X b : Nat} {v v' : Value} {L : List Pat} {g : Nat} {p : Pat} {c : List Value} {xs : List Value} {o1 o2 : Obj}
    (h1 : wr.ownsRow (w.heap.size + 1) 32 6 v L.length xs) (h2 : v.ownBlock ≠ some X) (h3 : NL wr (AL w X v) L xs g) (hb : b < w.heap.size) (hX : X < wr.heap.size) (hw : w.heap.size < wr.heap.size)
    (hoff : Off b wr w1) (hnv : NV w1 (fun q => wr.heap.size ≤ q) p c (g + groupsL L))
    (ho3 : w3.ownsRow (w.heap.size + 1) 32 6 v' (L.length + 1) (xs ++ c)) (hg : ((w1.alloc o1).alloc o2).grownBy w3 v.ownBlock) (hloc : v'.ownBlock = v.ownBlock ∨ ∀ q, v'.ownBlock = some q → ((w1.alloc o1).alloc o2).heap.size ≤ q) :
    LI w X v' (L ++ [p]) g (w3.setCell ⟨X, 2, none⟩ v') := by
  have hX1 : v'.ownBlock ≠ some X := by
    intro e
    rcases hloc with h | h
    · exact h2 (h ▸ e)
    · have h9 := h X e; have := hoff.size; simp at h9; omega
  have hlt : ∀ q, v.ownBlock = some q → q < wr.heap.size := fun q hq => (h1.lt q hq).2
  have hs := hoff.size
  have far : ∀ q, q < w1.heap.size → some q ≠ v.ownBlock → some q ≠ v'.ownBlock := by
    intro q hq hne e
    rcases hloc with h | h
    · exact hne (e.trans h)
    · have := h q e.symm; simp at this; omega
  have kk : Keeps (fun q => w.heap.size + 1 ≤ q ∧ q ≠ X ∧ some q ≠ v.ownBlock) w1 (w3.setCell ⟨X, 2, none⟩ v') :=
    (((Keeps.alloc _ w1 o1).trans (Keeps.alloc _ _ o2)).trans (Keeps.grown hg (fun q e hA => hA.2.2 e.symm))).trans (Keeps.set _ (fun hA => hA.2.1 rfl))
  refine ⟨xs ++ c, ?_, hX1, ?_⟩
  · rw [List.length_append]
    refine own_block ho3 (fun q hq => Below.heap_setCell _ _ _ _ (fun e => hX1 (by rw [hq]; simpa using e)))
  · refine NL.snoc L xs g p c ?_ ?_
    · have a1 := NL.keep (Keeps.off hoff (fun hA => by have := hA.1; omega)) L xs g h3
      have a2 := NL.mono (A' := fun q => (w.heap.size + 1 ≤ q ∧ q ≠ X ∧ some q ≠ v.ownBlock) ∧ some q ≠ v'.ownBlock) (fun q hq hA => ⟨hA, far q hq hA.2.2⟩) L xs g a1
      have a3 := NL.keep (w' := w3.setCell ⟨X, 2, none⟩ v') ⟨kk.1, fun q hq hA => kk.2 q hq hA.1⟩ L xs g a2
      exact NL.mono (fun q _ hA => ⟨hA.1.1, hA.1.2.1, hA.2⟩) L xs g a3
    · have a2 := NV.mono (A' := fun q => (w.heap.size + 1 ≤ q ∧ q ≠ X ∧ some q ≠ v.ownBlock) ∧ some q ≠ v'.ownBlock) (fun q hq hA => by
        have hne : some q ≠ v.ownBlock := fun e => by have := hlt q e.symm; omega
        exact ⟨⟨by omega, by omega, hne⟩, far q hq hne⟩) p c _ hnv
      have a3 := NV.keep (w' := w3.setCell ⟨X, 2, none⟩ v') ⟨kk.1, fun q hq hA => kk.2 q hq hA.1⟩ p c _ a2
      exact NV.mono (fun q _ hA => ⟨hA.1.1, hA.1.2.1, hA.2⟩) p c _ a3
theorem LI.own {w wr : World} {X : Nat} {v : Value} {L : List Pat} {g : Nat} (h : LI w X v L g wr) : ∃ xs, Own wr (fun q => w.heap.size ≤ q) 32 6 v L.length xs ∧ NL wr (fun q => w.heap.size ≤ q) L xs g := by
  obtain ⟨xs, h1, h2, h3⟩ := h
  exact ⟨xs, ⟨own_le6 h1 (Nat.zero_le _), fun q hq => by have := (h1.lt q hq).1; omega⟩, NL.mono (fun q _ hA => by have := hA.1; omega) L xs g h3⟩
/-- Behind the append, and the store of the list: what else there is stands. -/
theorem push_frame {w wr w1 w3 : World} {X b : Nat} {v v' : Value} {L : List Pat} {xs : List Value} {o1 o2 : Obj} (h1 : wr.ownsRow (w.heap.size + 1) 32 6 v L.length xs) (hX : w.heap.size < X) (ho : Off b w wr) (hoff : Off b wr w1) (hg : ((w1.alloc o1).alloc o2).grownBy w3 v.ownBlock) :
    Off b w (w3.setCell ⟨X, 2, none⟩ v') ∧ (∀ q cs T, Blk w1 q cs T → q ≠ X → some q ≠ v.ownBlock → Blk (w3.setCell ⟨X, 2, none⟩ v') q cs T) := by
  refine ⟨((((ho.trans hoff).alloc o1).alloc o2).grown hg (fun q e => by have := (h1.lt q e).1; omega)).setNew (by simp; omega) _, ?_⟩
  intro q cs T hq h1' h2'
  exact (((hq.alloc o1).alloc o2).grown hg h2').setOther (by simpa using h1') _
end Go.Proofs.YtpoibdhhcbelnaaGreatDoor
/- The reference's rows: a walk. -/
namespace Go.Proofs.YtpoibdhhcbelnaaGreatDoor
open Go.RowKit Brm

def RowI (w : World) (b : Nat) (lv : Value) (l : List Int) (g : Nat) (d m : Int) (n : Nat) (R : Res Pat) (j : Nat) (wr : World) : Prop :=
  Off b w wr ∧ Blk wr w.heap.size [.int .i64 0, .slice none 0 0, .slice none 0 0, .int .i64 0, .int .i64 0, .int .i64 0] 32 ∧ ∃ lo ln lc, Blk wr (w.heap.size + 1) (Six 2 none 0 0 lo ln lc 0 0 0) 32 ∧
    ((∃ L s0, LI w (w.heap.size + 1) (.slice lo ln lc) L g wr ∧ St wr b lv l s0 ((g + groupsL L : Nat) : Int) d (max m (d + deepL L)) ∧ L.length + s0.length ≤ 60 ∧ s0.length ≤ n ∧ rowLoop false (orN false n) j L s0 = R ∧ s0.length < j) ∨ (∃ s', Bad wr b lv l s' d ∧ R = .bad s'))
theorem row_end {w wr w2 : World} {b : Nat} {lv : Value} {l s0 : List Int} {g : Nat} {d m : Int} {L : List Pat} {lo : Option Addr} {ln lc X : Nat} {k : Int} {p : Pat}
    (hk : ∀ (w' : World) (A : Nat → Prop) (xs : List Value), Own w' A 32 6 (.slice lo ln lc) L.length xs → NL w' A L xs g → NV w' A p (Six k none 0 0 lo ln lc 0 0 0) g) (hg : p.groups = groupsL L) (hd : p.deep = deepL L)
    (hli : LI w X (.slice lo ln lc) L g wr) (hst : St wr b lv l s0 ((g + groupsL L : Nat) : Int) d (max m (d + deepL L))) (ho : Off b w wr) (hb : b < w.heap.size) (ht : Txt w b lv l)
    (e : w2 = put6 wr w.heap.size (.int .i64 k) (.slice none 0 0) (.slice lo ln lc) (.int .i64 0) (.int .i64 0) (.int .i64 0)) : Part b lv l g d m (.ok p s0) w w2 (Six k none 0 0 lo ln lc 0 0 0) := by
  subst e
  have hF := ho.put6 (r := w.heap.size) (Nat.le_refl _) (.int .i64 k) (.slice none 0 0) (.slice lo ln lc) (.int .i64 0) (.int .i64 0) (.int .i64 0)
  obtain ⟨xs, o1, o2⟩ := (hli.put (.int .i64 k) (.slice none 0 0) (.slice lo ln lc) (.int .i64 0) (.int .i64 0) (.int .i64 0)).own
  refine ⟨hF, hk _ _ xs o1 o2, ?_⟩
  rw [hg, hd]
  exact St.move ht hF hst (hst.1.put6 (r := w.heap.size) (by omega) _ _ _ _ _ _)
theorem row_end_bad {w wr w2 : World} {b : Nat} {lv : Value} {l s : List Int} {g : Nat} {d m : Int} {c : List Value} {c0 c1 c2 c3 c4 c5 : Value} (h0 : Bad wr b lv l s d) (hb : b < w.heap.size) (ho : Off b w wr) (e : w2 = put6 wr w.heap.size c0 c1 c2 c3 c4 c5) : Part b lv l g d m (.bad s) w w2 c := bad_end h0 hb ho e

set_option maxRecDepth 100000 in
set_option maxHeartbeats 1000000 in
theorem row_any (n : Nat) (ih : OrOk n) (b : Nat) (lv : Value) (l s : List Int) (g : Nat) (d m : Int) (w : World) (h : St w b lv l s g d m) (hn : s.length ≤ n) : Gives 167 b lv l g d m (rowP false (orN false n) s) w := by
  unfold Gives
  have HS0 := hide h
  have HBb := hide h.1.lt
  have hb0 := h.1.lt
  have HT := hide h.2.2.1
  have hls := h.2.1.length_le
  have hl60 := h.2.2.2.1
  have HM : Hid (St w b lv l s ((g + groupsL [] : Nat) : Int) d (max m (d + deepL []))) := by
    have e : max m (d + ((deepL [] : Nat) : Int)) = m := by have := h.2.2.2.2.2; simp [deepL]; omega
    show St _ _ _ _ _ _ _ _
    rw [e]; exact h
  have HI0 := hide (show RowI w b lv l g d m n (rowP false (orN false n) s) (s.length + 1) ((w.alloc (.cells #[.int .i64 0, .slice none 0 0, .slice none 0 0, .int .i64 0, .int .i64 0, .int .i64 0] 32)).alloc (.cells #[.int .i64 2, .slice none 0 0, .slice none 0 0, .int .i64 0, .int .i64 0, .int .i64 0] 32)) from by
    refine ⟨((Off.refl b w).alloc _).alloc _, (Blk.new w [.int .i64 0, .slice none 0 0, .slice none 0 0, .int .i64 0, .int .i64 0, .int .i64 0] 32).alloc _, none, 0, 0, ?_, .inl ⟨[], s, LI.nil _ _ _ _, (HM.out.new _).new _, by simp; omega, hn, rfl, by omega⟩⟩
    have := Blk.new (w.alloc (.cells #[.int .i64 0, .slice none 0 0, .slice none 0 0, .int .i64 0, .int .i64 0, .int .i64 0] 32)) (Six 2 none 0 0 none 0 0 0 0 0) 32
    have e : (w.alloc (.cells #[.int .i64 0, .slice none 0 0, .slice none 0 0, .int .i64 0, .int .i64 0, .int .i64 0] 32)).heap.size = w.heap.size + 1 := by simp
    rw [e] at this
    exact this)
  generalize hR : rowP false (orN false n) s = R at HI0
  have HR := hide hR
  clear h hR
  go_enter Tryz.func167, Tryz.ntmps167
  go_wp2_with fail
  go_loopg [4, 5] (s.length + 1) (fun j _ _ wr => RowI w b lv l g d m n R j wr)
  case atStart => exact HI0.out
  case round =>
    clear HI0 HM
    obtain ⟨ho, hk0, lo, ln, lc, hx, hcase⟩ := hrel
    have HO := hide ho
    have HK := hide hk0
    have HX := hide hx
    clear ho hk0 hx
    rcases hcase with ⟨L, s0, hli, hst, h60, hsn, heq, hlt⟩ | ⟨s', hbad, hRb⟩
    · have hall := hst.2.2.2.2.1.suf hst.2.1
      have HS := hide hst
      have HLI := hide hli
      have HE := hide heq
      have HLT := hide hlt
      have HLN := hide hsn
      clear hst hli heq
      obtain ⟨j', rfl⟩ : ∃ j', gk = j' + 1 := ⟨gk - 1, by omega⟩
      cases s0 with
      | nil =>
        have HR2 : Hid (R = .ok (.row L) []) := by have := HE.out; simp only [rowLoop, rowEnds, if_true] at this; exact this.symm
        go_wp2_with fail
        refine (next_any _ _ _ _ _ _ _ _ HS.out).mono ?_
        rintro e wn ⟨rfl, hwn⟩
        simp only [nextV]
        have hon : Off b wr wn := Off.drn hwn
        replace HS := hide (HS.out.drn hwn)
        replace HO := hide (HO.out.trans hon)
        replace HK := hide (HK.out.off hon (by omega))
        replace HX := hide (HX.out.off hon (by omega))
        replace HLI := hide (HLI.out.keep hon hb0)
        clear hwn hon
        obtain ⟨⟨x0, x1, x2, x3, x4, x5⟩, hxl⟩ := six_cells HX.out
        obtain ⟨⟨z0, z1, z2, z3, z4, z5⟩, ⟨y0, y1, y2, y3, y4, y5⟩, hw1⟩ := zero_cells HK.out
        try simp at z0 z1 z2 z3 z4 z5 y0 y1 y2 y3 y4 y5 hw1
        go_wp2_with fail
        refine bodyPost_ret (v := .agg #[.int .i64 2, .slice none 0 0, .slice lo ln lc, .int .i64 0, .int .i64 0, .int .i64 0]) (by simp [results, Tryz.results167, go_sem, z0, z1, z2, z3, z4, z5]) rfl ⟨2, none, 0, 0, lo, ln, lc, 0, 0, 0, rfl, ?_⟩
        rw [HR2.out]
        exact row_end (fun _ _ xs o1 o2 => ⟨_, xs, rfl, o1, o2⟩) (by simp [Pat.groups]) (by simp [Pat.deep]) HLI.out HS.out HO.out HBb.out HT.out rfl
      | cons c t =>
        by_cases he : ends c = true
        · have HR2 : Hid (R = .ok (.row L) (c :: t)) := by have := HE.out; simp only [rowLoop, rowEnds, he, Bool.true_or, if_true] at this; exact this.symm
          have hcc : c = 124 ∨ c = 38 ∨ c = 41 := by simpa [ends] using he
          clear he hall
          rcases hcc with rfl | rfl | rfl
          · go_wp2_with fail
            refine (next_any _ _ _ _ _ _ _ _ HS.out).mono ?_
            rintro e wn ⟨rfl, hwn⟩
            simp only [nextV]
            have hon : Off b wr wn := Off.drn hwn
            replace HS := hide (HS.out.drn hwn)
            replace HO := hide (HO.out.trans hon)
            replace HK := hide (HK.out.off hon (by omega))
            replace HX := hide (HX.out.off hon (by omega))
            replace HLI := hide (HLI.out.keep hon hb0)
            clear hwn hon
            obtain ⟨⟨x0, x1, x2, x3, x4, x5⟩, hxl⟩ := six_cells HX.out
            obtain ⟨⟨z0, z1, z2, z3, z4, z5⟩, ⟨y0, y1, y2, y3, y4, y5⟩, hw1⟩ := zero_cells HK.out
            try simp at z0 z1 z2 z3 z4 z5 y0 y1 y2 y3 y4 y5 hw1
            go_wp2_with fail
            refine bodyPost_ret (v := .agg #[.int .i64 2, .slice none 0 0, .slice lo ln lc, .int .i64 0, .int .i64 0, .int .i64 0]) (by simp [results, Tryz.results167, go_sem, z0, z1, z2, z3, z4, z5]) rfl ⟨2, none, 0, 0, lo, ln, lc, 0, 0, 0, rfl, ?_⟩
            rw [HR2.out]
            exact row_end (fun _ _ xs o1 o2 => ⟨_, xs, rfl, o1, o2⟩) (by simp [Pat.groups]) (by simp [Pat.deep]) HLI.out HS.out HO.out HBb.out HT.out rfl
          · go_wp2_with fail
            refine (next_any _ _ _ _ _ _ _ _ HS.out).mono ?_
            rintro e wn ⟨rfl, hwn⟩
            simp only [nextV]
            have hon : Off b wr wn := Off.drn hwn
            replace HS := hide (HS.out.drn hwn)
            replace HO := hide (HO.out.trans hon)
            replace HK := hide (HK.out.off hon (by omega))
            replace HX := hide (HX.out.off hon (by omega))
            replace HLI := hide (HLI.out.keep hon hb0)
            clear hwn hon
            obtain ⟨⟨x0, x1, x2, x3, x4, x5⟩, hxl⟩ := six_cells HX.out
            obtain ⟨⟨z0, z1, z2, z3, z4, z5⟩, ⟨y0, y1, y2, y3, y4, y5⟩, hw1⟩ := zero_cells HK.out
            try simp at z0 z1 z2 z3 z4 z5 y0 y1 y2 y3 y4 y5 hw1
            go_wp2_with fail
            refine bodyPost_ret (v := .agg #[.int .i64 2, .slice none 0 0, .slice lo ln lc, .int .i64 0, .int .i64 0, .int .i64 0]) (by simp [results, Tryz.results167, go_sem, z0, z1, z2, z3, z4, z5]) rfl ⟨2, none, 0, 0, lo, ln, lc, 0, 0, 0, rfl, ?_⟩
            rw [HR2.out]
            exact row_end (fun _ _ xs o1 o2 => ⟨_, xs, rfl, o1, o2⟩) (by simp [Pat.groups]) (by simp [Pat.deep]) HLI.out HS.out HO.out HBb.out HT.out rfl
          · go_wp2_with fail
            refine (next_any _ _ _ _ _ _ _ _ HS.out).mono ?_
            rintro e wn ⟨rfl, hwn⟩
            simp only [nextV]
            have hon : Off b wr wn := Off.drn hwn
            replace HS := hide (HS.out.drn hwn)
            replace HO := hide (HO.out.trans hon)
            replace HK := hide (HK.out.off hon (by omega))
            replace HX := hide (HX.out.off hon (by omega))
            replace HLI := hide (HLI.out.keep hon hb0)
            clear hwn hon
            obtain ⟨⟨x0, x1, x2, x3, x4, x5⟩, hxl⟩ := six_cells HX.out
            obtain ⟨⟨z0, z1, z2, z3, z4, z5⟩, ⟨y0, y1, y2, y3, y4, y5⟩, hw1⟩ := zero_cells HK.out
            try simp at z0 z1 z2 z3 z4 z5 y0 y1 y2 y3 y4 y5 hw1
            go_wp2_with fail
            refine bodyPost_ret (v := .agg #[.int .i64 2, .slice none 0 0, .slice lo ln lc, .int .i64 0, .int .i64 0, .int .i64 0]) (by simp [results, Tryz.results167, go_sem, z0, z1, z2, z3, z4, z5]) rfl ⟨2, none, 0, 0, lo, ln, lc, 0, 0, 0, rfl, ?_⟩
            rw [HR2.out]
            exact row_end (fun _ _ xs o1 o2 => ⟨_, xs, rfl, o1, o2⟩) (by simp [Pat.groups]) (by simp [Pat.deep]) HLI.out HS.out HO.out HBb.out HT.out rfl
        · have he' : ends c = false := by simpa using he
          have hr := (rune_iff c).1 hall.head
          have h0 : ¬ c < 0 := by omega
          have hd0 : decide (c < 0) = false := by simpa using h0
          have hcc : ¬ c = 124 ∧ ¬ c = 38 ∧ ¬ c = 41 := by simpa [ends] using he
          have b1 : (c == 124) = false := beq_eq_false_iff_ne.2 hcc.1
          have b2 : (c == 38) = false := beq_eq_false_iff_ne.2 hcc.2.1
          have b3 : (c == 41) = false := beq_eq_false_iff_ne.2 hcc.2.2
          have HE2 : Hid ((notP (orN false n) (c :: t)).bind (fun p s' => rowLoop false (orN false n) j' (L ++ [p]) s') = R) := by
            have := HE.out
            simp only [rowLoop, rowEnds, he', Bool.false_and, Bool.or_self, Bool.false_eq_true, if_false] at this
            exact this
          have HTK := hide (notP_takes (orN_goes false n) (c :: t))
          clear he he' hall hcc HE
          go_wp2_with fail
          refine (next_any _ _ _ _ _ _ _ _ HS.out).mono ?_
          rintro e wn ⟨rfl, hwn⟩
          simp only [nextV]
          have hon : Off b wr wn := Off.drn hwn
          replace HS := hide (HS.out.drn hwn)
          replace HO := hide (HO.out.trans hon)
          replace HK := hide (HK.out.off hon (by omega))
          replace HX := hide (HX.out.off hon (by omega))
          replace HLI := hide (HLI.out.keep hon hb0)
          clear hwn hon
          go_wp2_with fail
          refine (not_any2 n ih b lv l _ _ _ _ _ HS.out HLN.out).mono ?_
          rintro e w1 ⟨k, so, sn, sc, lo1, ln1, lc1, mm, nn, rr, rfl, hoff, hpt⟩
          have HOF := hide hoff
          have HX1 := hide ((HX.out.off hoff (by omega)).alloc (.cells #[.int .i64 k, .slice so sn sc, .slice lo1 ln1 lc1, .int .i64 mm, .int .i64 nn, .int .i64 rr] 32))
          have HY := hide ((Blk.new w1 (Six k so sn sc lo1 ln1 lc1 mm nn rr) 32))
          have HP := hide hpt
          have HXW : Hid (w.heap.size + 1 < wn.heap.size) := HX.out.lt
          have HWN : Hid (wn.heap.size ≤ w1.heap.size) := hoff.size
          clear hoff hpt
          obtain ⟨⟨x0, x1, x2, x3, x4, x5⟩, hxl⟩ := six_cells HX1.out
          have xf2 := HX1.out.frozen 2
          obtain ⟨xs, q1, q2, q3⟩ := HLI.out
          have HQ1 := hide q1
          have HQ3 := hide q3
          have HVX := hide q2
          have hown := own_block q1 (fun q hq => HOF.out.block q (q1.lt q hq).2 (by have := (q1.lt q hq).1; omega))
          have HOW := hide ((hown.alloc (.cells #[.int .i64 k, .slice so sn sc, .slice lo1 ln1 lc1, .int .i64 mm, .int .i64 nn, .int .i64 rr] 32)).alloc (.cells #[.int .i64 k, .slice so sn sc, .slice lo1 ln1 lc1, .int .i64 mm, .int .i64 nn, .int .i64 rr] 32))
          have HVB : Hid (∀ q, (Value.slice lo ln lc).ownBlock = some q → w.heap.size + 1 ≤ q) := fun q hq => (q1.lt q hq).1
          clear hown q1 q2 q3
          go_wp2_with (at_builtin; refine append_node rfl (.tmp 27) (.tmp 29) rfl (w.heap.size + 1) L.length _ _ rfl HOW.out ⟨w1.heap.size + 1, 0, none⟩ (Six k so sn sc lo1 ln1 lc1 mm nn rr) rfl rfl (six_new2 _ _ _ _ _ _ _ _ _ _ _ _) (six_one _ _ _ _ _ _ _ _ _ _) (by omega) (by have := HXW.out; have := HWN.out; simp; omega) ?_; intro v' w3 ho3 hg3 hloc3; have HO3 := hide ho3; have HG3 := hide hg3; have HL3 := hide hloc3; clear ho3 hg3 hloc3; obtain ⟨ao3, cap3, rfl⟩ := own6_form HO3.out; have HX3 := hide (((HX1.out).alloc (.cells #[.int .i64 k, .slice so sn sc, .slice lo1 ln1 lc1, .int .i64 mm, .int .i64 nn, .int .i64 rr] 32)).grown HG3.out (fun e => HVX.out e.symm)); obtain ⟨⟨_, _, x2b, _, _, _⟩, hxl3⟩ := six_cells HX3.out; have xf2b := HX3.out.frozen 2)
          go_roundg j'
          case measure => omega
          case rel =>
            obtain ⟨F1, F2⟩ := push_frame (v' := .slice ao3 (L.length + 1) cap3) HQ1.out (Nat.lt_succ_self _) HO.out HOF.out HG3.out
            have hvb : some b ≠ (Value.slice lo ln lc).ownBlock := fun e => by have := HVB.out b e.symm; omega
            have hvr : some w.heap.size ≠ (Value.slice lo ln lc).ownBlock := fun e => by have := HVB.out _ e.symm; omega
            refine ⟨F1, F2 _ _ _ (HK.out.off HOF.out (by omega)) (by omega) hvr, ao3, L.length + 1, cap3, HX3.out.set 2 _, ?_⟩
            have hp := HP.out
            have htk := HTK.out
            have he := HE2.out
            cases hr : notP (orN false n) (c :: t) with
            | bad s2 =>
              rw [hr] at hp he
              obtain ⟨i1, g1, m1, hrd⟩ := hp
              exact .inr ⟨s2, ⟨i1, g1, m1, F2 _ _ _ hrd (by omega) hvb⟩, he.symm⟩
            | ok p s2 =>
              rw [hr] at hp he htk
              obtain ⟨hnv, hst⟩ := hp
              have hl := htk.1
              have hlt2 := HLT.out
              simp only [List.length_cons] at hl h60 hsn hlt2
              have e1 : (g + groupsL L) + p.groups = g + groupsL (L ++ [p]) := by rw [groupsL_snoc]; omega
              have e2 : max (max m (d + (deepL L : Int))) (d + (p.deep : Int)) = max m (d + (deepL (L ++ [p]) : Int)) := by rw [deepL_snoc]; omega
              rw [e1, e2] at hst
              refine .inl ⟨L ++ [p], s2, LI.push HQ1.out HVX.out HQ3.out hb0 HXW.out (Nat.lt_trans (Nat.lt_succ_self _) HXW.out) HOF.out hnv HO3.out HG3.out HL3.out, St.move HT.out F1 hst (F2 _ _ _ hst.1 (by omega) hvb), ?_, by omega, he, by omega⟩
              rw [List.length_append]; simp; omega
    · have HB := hide hbad
      have HR2 := hide hRb
      clear hbad hRb
      go_wp2_with fail
      refine (next_bad _ _ _ _ _ HB.out).mono ?_
      rintro e wn ⟨rfl, hwn⟩
      have hon : Off b wr wn := Off.drn hwn
      replace HB := hide (HB.out.off hwn)
      replace HO := hide (HO.out.trans hon)
      replace HK := hide (HK.out.off hon (by omega))
      replace HX := hide (HX.out.off hon (by omega))
      clear hwn hon
      obtain ⟨⟨x0, x1, x2, x3, x4, x5⟩, hxl⟩ := six_cells HX.out
      obtain ⟨⟨z0, z1, z2, z3, z4, z5⟩, ⟨y0, y1, y2, y3, y4, y5⟩, hw1⟩ := zero_cells HK.out
      try simp at z0 z1 z2 z3 z4 z5 y0 y1 y2 y3 y4 y5 hw1
      go_wp2_with fail
      refine bodyPost_ret (v := .agg #[.int .i64 2, .slice none 0 0, .slice lo ln lc, .int .i64 0, .int .i64 0, .int .i64 0]) (by simp [results, Tryz.results167, go_sem, z0, z1, z2, z3, z4, z5]) rfl ⟨2, none, 0, 0, lo, ln, lc, 0, 0, 0, rfl, ?_⟩
      rw [HR2.out]
      exact row_end_bad HB.out HBb.out HO.out rfl
end Go.Proofs.YtpoibdhhcbelnaaGreatDoor
