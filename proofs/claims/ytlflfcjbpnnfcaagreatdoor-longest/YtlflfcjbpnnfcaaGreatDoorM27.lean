/- Whatever pattern: its closures are made. -/
import Derived.Test.YtlflfcjbpnnfcaaGreatDoorM25
import Derived.Test.YtlflfcjbpnnfcaaGreatDoorM22
import Derived.Test.YtlflfcjbpnnfcaaGreatDoorM26
import Derived.Test.YtlflfcjbpnnfcaaGreatDoorM17
namespace Go.Proofs.YtlflfcjbpnnfcaaGreatDoor
open Go.Shelf Go.RowKit Go.Lib Brm

theorem single_or {p : Pat} {w w' : World} {lo B bm k g : Nat} {L : List Pat} {e : Ending} (h : PartQ p lo B bm k g L w e w') : PartQ (.or [p]) lo B bm k g L w e w' := by
  obtain ⟨F, cp, G, tc, rfl, hE, hT, hO, hM⟩ := h
  exact ⟨F, cp, G, tc, rfl, ⟨by simp, _, ⟨_, _, [], rfl, ⟨G, tc, rfl⟩, hE, rfl⟩, .inl ⟨rfl, _, rfl⟩⟩, ⟨_, ⟨_, _, [], rfl, ⟨G, tc, rfl⟩, hE, hT, rfl⟩, .inl ⟨rfl, _, rfl⟩⟩, hO, by simpa [subs, subsL, Pat.groups, groupsL] using hM⟩
theorem single_and {p : Pat} {w w' : World} {lo B bm k g : Nat} {L : List Pat} {e : Ending} (h : PartQ p lo B bm k g L w e w') : PartQ (.and [p]) lo B bm k g L w e w' := by
  obtain ⟨F, cp, G, tc, rfl, hE, hT, hO, hM⟩ := h
  exact ⟨F, cp, G, tc, rfl, ⟨by simp, _, ⟨_, _, [], rfl, ⟨G, tc, rfl⟩, hE, rfl⟩, .inl ⟨rfl, _, rfl⟩⟩, ⟨_, ⟨_, _, [], rfl, ⟨G, tc, rfl⟩, hE, hT, rfl⟩, .inl ⟨rfl, _, rfl⟩⟩, hO, by simpa [subs, subsL, Pat.groups, groupsL] using hM⟩
mutual
theorem part_all : ∀ (p : Pat), p.Ok → PartOk p
  | .set s, _ => part_set s
  | .row l, h => by
    have ih := part_allL l h
    intro lo B bm b k g L w hB hN hm hL hk hg
    obtain ⟨hb, h100, lv, xs, hnb, ho, hP⟩ := hN
    have e8 : (subs (.row l)).length = (subsL l).length + 1 := by simp [subs]
    refine (part_row l ih lo B bm b k g L w hB hb lv xs hnb ho hP h100 hm hL (by omega) hg).mono ?_
    rintro e w' ⟨F, cp, G, tc, rfl, ⟨ys, hE, hR, hTL, hBx⟩, hO, hM⟩
    exact ⟨F, cp, G, tc, rfl, ⟨h100, ys, hE, hR⟩, ⟨ys, hTL, hBx⟩, hO, by rw [e8]; exact hM⟩
  | .or l, h => by
    have ih := part_allL l h.1
    intro lo B bm b k g L w hB hN hm hL hk hg
    obtain ⟨h100, xs, hP, ⟨h1, rfl⟩ | ⟨hn, hb, lv, hnb, ho⟩⟩ := hN
    · obtain ⟨p, rfl⟩ := List.length_eq_one_iff.1 h1
      obtain ⟨x, r, e, hp, _⟩ := hP
      cases e
      have e8 : subs (.or [p]) = subs p := by simp [subs, subsL]
      rw [e8] at hL hk
      exact (ih p (by simp) lo B bm b k g L w hB hp hm hL hk (by simpa [Pat.groups, groupsL] using hg)).mono (fun _ _ h => single_or h)
    · have e7 : subs (.or l) = subsL l ++ [.or l] := by simp only [subs, if_neg hn]
      have e8 : (subs (.or l)).length = (subsL l).length + 1 := by rw [e7]; simp
      refine (part_or l ih lo B bm b k g L w hB hb lv xs hnb ho hP h100 hm (by rw [e7] at hL; exact hL) (by omega) hg).mono ?_
      rintro e w' ⟨F, cp, G, tc, rfl, ⟨ys, hE, hR, hTL, hBx⟩, hO, hM⟩
      exact ⟨F, cp, G, tc, rfl, ⟨h100, ys, hE, .inr ⟨hn, hR⟩⟩, ⟨ys, hTL, .inr ⟨hn, hBx⟩⟩, hO, by rw [e8]; exact hM⟩
  | .and l, h => by
    have ih := part_allL l h.1
    intro lo B bm b k g L w hB hN hm hL hk hg
    obtain ⟨h100, xs, hP, ⟨h1, rfl⟩ | ⟨hn, hb, lv, hnb, ho⟩⟩ := hN
    · obtain ⟨p, rfl⟩ := List.length_eq_one_iff.1 h1
      obtain ⟨x, r, e, hp, _⟩ := hP
      cases e
      have e8 : subs (.and [p]) = subs p := by simp [subs, subsL]
      rw [e8] at hL hk
      exact (ih p (by simp) lo B bm b k g L w hB hp hm hL hk (by simpa [Pat.groups, groupsL] using hg)).mono (fun _ _ h => single_and h)
    · have e7 : subs (.and l) = subsL l ++ [.and l] := by simp only [subs, if_neg hn]
      have e8 : (subs (.and l)).length = (subsL l).length + 1 := by rw [e7]; simp
      refine (part_and l ih lo B bm b k g L w hB hb lv xs hnb ho hP h100 hm (by rw [e7] at hL; exact hL) (by omega) hg).mono ?_
      rintro e w' ⟨F, cp, G, tc, rfl, ⟨ys, hE, hR, hTL, hBx⟩, hO, hM⟩
      exact ⟨F, cp, G, tc, rfl, ⟨h100, ys, hE, .inr ⟨hn, hR⟩⟩, ⟨ys, hTL, .inr ⟨hn, hBx⟩⟩, hO, by rw [e8]; exact hM⟩
  | .not p, h => part_not p h (part_all p h)
  | .many p m n, h => part_many p m n h.1 (part_all p h.1)
  | .group p, h => part_group p (part_all p h)
theorem part_allL : ∀ (l : List Pat), OkL l → ∀ p ∈ l, PartOk p
  | [], _ => fun p h => by cases h
  | q :: l, hk => by
    have hq := part_all q hk.1
    have hl := part_allL l hk.2
    intro p h
    rcases List.mem_cons.1 h with rfl | h
    · exact hq
    · exact hl p h
end
theorem readR_few {bs : List UInt8} {er place : Int} {p : Pat} (h : ReadR bs (er, place, some p)) : (subs p).length ≤ 1000 ∧ p.groups ≤ 1000 := by
  rcases h with ⟨_, h⟩ | ⟨_, _, _, h⟩ | ⟨h60, l, hl, h⟩
  · cases h
  · cases h
  · have hlen := runes_len hl
    unfold outcome at h
    have h1 := orN_cnt false (l.length + 1) l
    have h2 := orN_grp false (l.length + 1) l
    split at h
    · cases h
    · cases h
    · rename_i q heq
      rw [heq] at h1 h2
      split at h
      · cases h
      · cases h
        have h1' : (subs p).length + 3 * 0 ≤ 1 + 3 * l.length := h1
        have h2' : p.groups + 3 * 0 ≤ 1 + 3 * l.length := h2
        omega
set_option maxRecDepth 100000 in
set_option maxHeartbeats 4000000 in
theorem mnew_any (p : Pat) (hok : p.Ok) (lo b : Nat) (w : World) (hlo : lo ≤ w.heap.size) (hN : PN w (fun x => lo ≤ x) p b) (hc : (subs p).length ≤ 1000) (hg : p.groups ≤ 1000) : Calls Tryz.prog 50 #[.pointer (some ⟨b, 0, none⟩)] w fun e w' => ∃ bp, e = .returned (Ptr bp) ∧ PT w' (fun x => lo ≤ x) p bp ∧ Below w.heap.size w w' ∧ w.heap.size ≤ bp ∧ PK w' (fun x => lo ≤ x) p bp := by
  have hN1 : Below w.heap.size w (w.alloc (.cells #[.int .i64 0, .int .i64 0] 174)) := (Below.refl _ _).alloc (Nat.le_refl _) _
  have hm1 : Mkr (w.alloc (.cells #[.int .i64 0, .int .i64 0] 174)) w.heap.size 0 0 := Blk.new w [.int .i64 0, .int .i64 0] 174
  have HC := hide (part_all p hok lo w.heap.size w.heap.size b 0 0 (subs p) (w.alloc (.cells #[.int .i64 0, .int .i64 0] 174)) (Nat.le_refl _) (PN.keep (Keeps.below hN1) p b (PN.mono (fun q hq h => ⟨h, hq⟩) p b hN)) hm1 (fun i q hi => by simpa using hi) (by omega) (by omega))
  have HN1 := hide hN1
  have HCN := hide hc
  have HGN := hide hg
  clear hN hN1 hm1 hc hg
  go_enter Tryz.func50, Tryz.ntmps50
  go_wp2_with fail
  generalize hW : w.alloc (.cells #[.int .i64 0, .int .i64 0] 174) = W1 at HC HN1 ⊢
  clear hW
  refine HC.out.mono ?_
  rintro e w3 ⟨F, cp, G, tc, rfl, hE3, hT3, hO3, hM3⟩
  have HT3 := hide hT3
  simp only [Nat.zero_add] at hM3
  obtain ⟨m0, m1⟩ := two hM3
  have hml := hM3.lt
  have hne : w.heap.size ≠ w3.heap.size := by omega
  have HE3 := hide hE3
  have HO3 := hide hO3
  have hs3 := hO3.size
  have hs1 := HN1.out.size
  have x0 : (w3.alloc (.cells #[.func (.func F) #[] cp, .func (.func G) #[] tc] 180)).cell? ⟨w3.heap.size, 0, none⟩ = some (.func (.func F) #[] cp) := (two (Blk.new w3 [.func (.func F) #[] cp, .func (.func G) #[] tc] 180)).1
  have x1 : (w3.alloc (.cells #[.func (.func F) #[] cp, .func (.func G) #[] tc] 180)).cell? ⟨w3.heap.size, 1, none⟩ = some (.func (.func G) #[] tc) := (two (Blk.new w3 [.func (.func F) #[] cp, .func (.func G) #[] tc] 180)).2
  have hN4 : Below w3.heap.size w3 (w3.alloc (.cells #[.func (.func F) #[] cp, .func (.func G) #[] tc] 180)) := (Below.refl _ _).alloc (Nat.le_refl _) _
  have y0 := (hN4.cell (p := ⟨w.heap.size, 0, none⟩) hml).trans m0
  have y1 := (hN4.cell (p := ⟨w.heap.size, 1, none⟩) hml).trans m1
  have HN4 := hide hN4
  clear hE3 hT3 hO3 hM3 hN4
  go_wp2_with fail
  generalize hW : w3.alloc (.cells #[.func (.func F) #[] cp, .func (.func G) #[] tc] 180) = W4 at x0 x1 y0 y1 HN4 ⊢
  clear hW m0 m1
  have hs4 := HN4.out.size
  try go_region
  try go_wp2_with fail
  go_ret
  have hN5 : Below W4.heap.size W4 (W4.drew.alloc (.cells #[.func (.func F) #[] cp, .func (.func G) #[] tc, .int .i64 (subs p).length, .int .i64 p.groups] 183)) := (Below.refl _ W4).drew.alloc (Nat.le_refl _) _
  have hE9 : EV (W4.drew.alloc (.cells #[.func (.func F) #[] cp, .func (.func G) #[] tc, .int .i64 (subs p).length, .int .i64 p.groups] 183)) (fun x => lo ≤ x) (subs p) p (.func (.func F) #[] cp) := EV.mono (fun q _ ha => by rcases ha with ha | ha; exact ha.1; show lo ≤ q; omega) p _ (EV.keep ((Keeps.below HN4.out).trans (Keeps.below hN5)) p _ HE3.out)
  have hT9 : TV (W4.drew.alloc (.cells #[.func (.func F) #[] cp, .func (.func G) #[] tc, .int .i64 (subs p).length, .int .i64 p.groups] 183)) (fun x => lo ≤ x) (subs p) p 0 (.func (.func G) #[] tc) := TV.mono (fun q _ ha => by rcases ha with ha | ha; exact ha.1; show lo ≤ q; omega) p _ _ (TV.keep ((Keeps.below HN4.out).trans (Keeps.below hN5)) p _ _ HT3.out)
  exact ⟨W4.heap.size, rfl, ⟨by show lo ≤ _; omega, _, _, _, Blk.new W4.drew [.func (.func F) #[] cp, .func (.func G) #[] tc, .int .i64 (subs p).length, .int .i64 p.groups] 183, hE9, HCN.out⟩, (HN1.out.trans (HO3.out.toBelow (Nat.le_refl _) hs1)).trans ((HN4.out.mono (by omega)).trans (hN5.mono (by omega))), by omega, ⟨by show lo ≤ _; omega, _, _, Blk.new W4.drew [.func (.func F) #[] cp, .func (.func G) #[] tc, .int .i64 (subs p).length, .int .i64 p.groups] 183, ⟨_, _, rfl⟩, hE9, hT9, HCN.out, HGN.out⟩⟩
end Go.Proofs.YtlflfcjbpnnfcaaGreatDoor
