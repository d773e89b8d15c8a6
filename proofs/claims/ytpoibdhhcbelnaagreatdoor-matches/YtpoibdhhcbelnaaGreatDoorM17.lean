/- Walks and plain laws, some texts in one. -/
import Derived.Deep.LoopGhost
import Derived.Test.YtpoibdhhcbelnaaGreatDoorM09
import Derived.Test.YtpoibdhhcbelnaaGreatDoorM10
/- The reference's sets as sets in their one form: walks. -/
namespace Go.Proofs.YtpoibdhhcbelnaaGreatDoor
open Go.RowKit Brm

theorem SetV.sl {w : World} {A : Nat → Prop} {v : Value} {s : List (Int × Int)} (h : SetV w A v s) : ∃ q, PCanon q ∧ told q = s ∧ SlA w A v q := h
theorem SetV.canon {w : World} {A : Nat → Prop} {v : Value} {s : List (Int × Int)} (h : SetV w A v s) : Canon s := by obtain ⟨q, h1, rfl, _⟩ := h; exact told_canon h1
theorem setv_of {w : World} {A : Nat → Prop} {v : Value} {q s : List (Int × Int)} (h : SlA w A v q) (hq : PCanon q) (e : told q = s) : SetV w A v s := ⟨q, hq, e, h⟩
theorem told_len (q : List (Int × Int)) : (told q).length = q.length := by simp [told]
theorem form_cat {a b : List (Int × Int)} (ha : ∀ x ∈ a, okB x = true) (hb : ∀ x ∈ b, okB x = true) : form (form a ++ form b) = form (a ++ b) := by
  have h1 := canon_ok (form_is ha).1
  have h2 := canon_ok (form_is hb).1
  have hab : ∀ x ∈ a ++ b, okB x = true := fun x hx => by rcases List.mem_append.1 hx with h | h; exact ha x h; exact hb x h
  have hfab : ∀ x ∈ form a ++ form b, okB x = true := fun x hx => by rcases List.mem_append.1 hx with h | h; exact h1 x h; exact h2 x h
  refine form_unique hab ⟨(form_is hfab).1, fun r hr => ?_⟩
  rw [(form_is hfab).2 r hr, mem_append, mem_append, (form_is ha).2 r hr, (form_is hb).2 r hr]

theorem norm_set (ao : Option Addr) (l : List (Int × Int)) (cap : Nat) (w : World) (hcells : Rd w ao l) (hlen : l.length ≤ 1000000) (hok : ∀ x ∈ l, okB x = true) :
    Calls Tryz.prog 321 #[.slice ao l.length cap] w fun e w' => ∃ v, e = .returned v ∧ SetV w' (fun k => w.heap.size ≤ k) v (form l) ∧ Below w.heap.size w w' := by
  refine (rnormA ao l cap w hcells hlen hok).mono ?_
  rintro e w' ⟨v, out, rfl, hs, hn, hb⟩
  refine ⟨v, rfl, setv_of hs hn.1 (form_unique hok ⟨told_canon hn.1, fun r hr => ?_⟩), hb⟩
  rw [told_mem hn.1 r hr, hn.2.1 r hr, List.take_length]
theorem not_set (A : Nat → Prop) (v : Value) (s : List (Int × Int)) (w : World) (h : SetV w A v s) (hlen : s.length ≤ 1000000) :
    Calls Tryz.prog 169 #[v] w fun e w' => ∃ v', e = .returned v' ∧ SetV w' (fun k => w.heap.size ≤ k) v' (notC s) ∧ Below w.heap.size w w' := by
  obtain ⟨q, hq, rfl, hs⟩ := h
  obtain ⟨ao, cap, rfl, hr, _⟩ := (SlA.sl hs).rd
  rw [told_len] at hlen
  refine (rnot_any ao q cap w hr hlen hq).mono ?_
  rintro e w' ⟨v', rfl, out, ⟨h1, h2, h3⟩, ho, hb⟩
  refine ⟨v', rfl, setv_of (own_slA ho (fun k hk => hk)) h1 (notC_unique (told_canon hq) (told_canon h1) (fun r hr => ?_)), hb⟩
  rw [told_mem h1 r hr, told_mem hq r hr, h2 _ (back_up hr).2.1]
theorem or_set (A : Nat → Prop) (v u : Value) (s t : List (Int × Int)) (w : World) (A' : Nat → Prop) (h : SetV w A v s) (h2 : SetV w A' u t) (hA : ∀ k, w.heap.size ≤ k → A k) (hs : s.length ≤ 400000) (ht : t.length ≤ 400000) :
    Calls Tryz.prog 312 #[v, u] w fun e w' => ∃ v', e = .returned v' ∧ SetV w' A v' (form (s ++ t)) ∧ Below w.heap.size w w' := by
  obtain ⟨q, hq, rfl, hsl⟩ := h
  obtain ⟨p, hp, rfl, hpl⟩ := h2
  obtain ⟨bo, cb, rfl, hr, _⟩ := (SlA.sl hpl).rd
  rw [told_len] at hs ht
  refine (rorA A v bo q p cb w hsl hA hr hs ht hq hp).mono ?_
  rintro e w' ⟨v', out, rfl, ho, ⟨h1, h2, h3⟩, hb⟩
  have ok : ∀ x ∈ told q ++ told p, okB x = true := fun x hx => by
    rcases List.mem_append.1 hx with h | h
    · exact canon_ok (told_canon hq) x h
    · exact canon_ok (told_canon hp) x h
  refine ⟨v', rfl, setv_of ho h1 (form_unique ok ⟨told_canon h1, fun r hr => ?_⟩), hb⟩
  rw [told_mem h1 r hr, h2, mem_append, told_mem hq r hr, told_mem hp r hr]

theorem rd_one (w : World) (x y : Int) : Rd (w.alloc (.cells #[.int .i64 x, .int .i64 y] 149)) (some ⟨w.heap.size, 0, none⟩) [(x, y)] := by
  intro i z hz
  match i, hz with
  | 0, hz => simp at hz; subst hz; exact ⟨_, _, rfl, by simp, by simp, by simp⟩
set_option maxRecDepth 100000 in
set_option maxHeartbeats 400000 in
theorem one_any (c : Int) (w : World) (hc : runeB c = true) : Calls Tryz.prog 170 #[.int .i64 c] w fun e w' => ∃ v, e = .returned v ∧ SetV w' (fun k => w.heap.size ≤ k) v [(c, c)] ∧ Below w.heap.size w w' := by
  have HC := hide hc
  have hb := (rune_iff c).1 hc
  clear hc
  go_enter Tryz.func170, Tryz.ntmps170
  go_wp2_with (go_at_call 74; refine (up_any _ _ (by omega) (by omega)).mono ?_; rintro e w' ⟨rfl, rfl⟩)
  go_ret
  obtain ⟨h1, h2, h3⟩ := back_up HC.out
  refine ⟨_, rfl, setv_of (q := [(up c, up c)]) (.inr ⟨_, 0, 1, rfl, by simp, Nat.le_refl _, by simp, rd_one _ _ _⟩) ⟨fun x hx => by simp at hx; subst hx; exact ⟨h2.1, Int.le_refl _, h2.2⟩, by simp⟩ (by simp [told, h1]), (Below.refl _ _).alloc (Nat.le_refl _) _⟩
theorem one_ten : Canon [((10 : Int), (10 : Int))] := canon_one (by decide)
set_option maxRecDepth 100000 in
set_option maxHeartbeats 400000 in
theorem dot_any (w : World) : Calls Tryz.prog 119 #[] w fun e w' => ∃ v, e = .returned v ∧ SetV w' (fun k => w.heap.size ≤ k) v dot ∧ Below w.heap.size w w' := by
  go_enter Tryz.func119, Tryz.ntmps119
  go_wp2_with (first
    | (go_at_call 170; refine (one_any _ _ (by decide)).mono ?_; rintro e w1 ⟨v1, rfl, hv1, hb1⟩; have HV := hide hv1; have HB := hide hb1; clear hv1 hb1)
    | (go_at_call 169; refine (not_set _ _ _ _ HV.out (by decide)).mono ?_; rintro e w2 ⟨v2, rfl, hv2, hb2⟩; have HV2 := hide hv2; have HB2 := hide hb2; clear hv2 hb2))
  go_ret
  exact ⟨_, rfl, HV2.out.mono (fun k _ hk => Nat.le_trans HB.out.size hk), HB.out.trans (HB2.out.mono HB.out.size)⟩
end Go.Proofs.YtpoibdhhcbelnaaGreatDoor
/- The reference's classes: walks. -/
namespace Go.Proofs.YtpoibdhhcbelnaaGreatDoor
open Go.RowKit Brm

theorem rd_lit (w : World) (l : List (Int × Int)) : Rd (w.alloc (.cells (cellsR l).toArray 149)) (some ⟨w.heap.size, 0, none⟩) l := by
  intro i x hx
  have hg := cellsR_get hx
  refine ⟨_, _, rfl, by simp, ?_, ?_⟩
  · rw [(Blk.new w (cellsR l) 149).cell]; simpa using hg.1
  · rw [(Blk.new w (cellsR l) 149).cell]; simpa using hg.2
theorem form_digits : form [(48, 57)] = digits := by decide
theorem form_words : form [(48, 57), (65, 90), (97, 122), (95, 95)] = words := by decide
theorem form_spaces : form [(9, 10), (13, 13), (32, 32)] = spaces := by decide
set_option maxRecDepth 100000 in
set_option maxHeartbeats 400000 in
theorem class_d (w : World) : Calls Tryz.prog 314 #[.int .i64 100] w fun e w' => ∃ v, e = .returned v ∧ SetV w' (fun k => w.heap.size ≤ k) v digits ∧ Below w.heap.size w w' := by
  go_enter Tryz.func314, Tryz.ntmps314
  go_wp2_with (go_at_call 321; refine (norm_set _ [(48, 57)] _ _ (rd_lit w [(48, 57)]) (by decide) (by decide)).mono ?_; rintro e w1 ⟨v1, rfl, hv1, hb1⟩; have HV := hide hv1; have HB := hide hb1; clear hv1 hb1)
  go_ret
  have e := HV.out
  rw [form_digits] at e
  have hb := ((Below.refl _ w).alloc (Nat.le_refl _) _).trans (HB.out.mono (by simp))
  exact ⟨_, rfl, e.mono (fun k _ hk => by simp at hk; omega), hb⟩
set_option maxRecDepth 100000 in
set_option maxHeartbeats 400000 in
theorem class_w (w : World) : Calls Tryz.prog 314 #[.int .i64 119] w fun e w' => ∃ v, e = .returned v ∧ SetV w' (fun k => w.heap.size ≤ k) v words ∧ Below w.heap.size w w' := by
  go_enter Tryz.func314, Tryz.ntmps314
  go_wp2_with (go_at_call 321; refine (norm_set _ [(48, 57), (65, 90), (97, 122), (95, 95)] _ _ (rd_lit w [(48, 57), (65, 90), (97, 122), (95, 95)]) (by decide) (by decide)).mono ?_; rintro e w1 ⟨v1, rfl, hv1, hb1⟩; have HV := hide hv1; have HB := hide hb1; clear hv1 hb1)
  go_ret
  have e := HV.out
  rw [form_words] at e
  have hb := ((Below.refl _ w).alloc (Nat.le_refl _) _).trans (HB.out.mono (by simp))
  exact ⟨_, rfl, e.mono (fun k _ hk => by simp at hk; omega), hb⟩
set_option maxRecDepth 100000 in
set_option maxHeartbeats 400000 in
theorem class_s (w : World) : Calls Tryz.prog 314 #[.int .i64 115] w fun e w' => ∃ v, e = .returned v ∧ SetV w' (fun k => w.heap.size ≤ k) v spaces ∧ Below w.heap.size w w' := by
  go_enter Tryz.func314, Tryz.ntmps314
  go_wp2_with (go_at_call 321; refine (norm_set _ [(9, 10), (13, 13), (32, 32)] _ _ (rd_lit w [(9, 10), (13, 13), (32, 32)]) (by decide) (by decide)).mono ?_; rintro e w1 ⟨v1, rfl, hv1, hb1⟩; have HV := hide hv1; have HB := hide hb1; clear hv1 hb1)
  go_ret
  have e := HV.out
  rw [form_spaces] at e
  have hb := ((Below.refl _ w).alloc (Nat.le_refl _) _).trans (HB.out.mono (by simp))
  exact ⟨_, rfl, e.mono (fun k _ hk => by simp at hk; omega), hb⟩
set_option maxRecDepth 100000 in
set_option maxHeartbeats 400000 in
theorem class_D (w : World) : Calls Tryz.prog 314 #[.int .i64 68] w fun e w' => ∃ v, e = .returned v ∧ SetV w' (fun k => w.heap.size ≤ k) v (notC digits) ∧ Below w.heap.size w w' := by
  go_enter Tryz.func314, Tryz.ntmps314
  go_wp2_with (first
    | (go_at_call 314; refine (class_d _).mono ?_; rintro e w1 ⟨v1, rfl, hv1, hb1⟩; have HV := hide hv1; have HB := hide hb1; clear hv1 hb1)
    | (go_at_call 169; refine (not_set _ _ _ _ HV.out (by decide)).mono ?_; rintro e w2 ⟨v2, rfl, hv2, hb2⟩; have HV2 := hide hv2; have HB2 := hide hb2; clear hv2 hb2))
  go_ret
  exact ⟨_, rfl, HV2.out.mono (fun k _ hk => Nat.le_trans HB.out.size hk), HB.out.trans (HB2.out.mono HB.out.size)⟩
set_option maxRecDepth 100000 in
set_option maxHeartbeats 400000 in
theorem class_W (w : World) : Calls Tryz.prog 314 #[.int .i64 87] w fun e w' => ∃ v, e = .returned v ∧ SetV w' (fun k => w.heap.size ≤ k) v (notC words) ∧ Below w.heap.size w w' := by
  go_enter Tryz.func314, Tryz.ntmps314
  go_wp2_with (first
    | (go_at_call 314; refine (class_w _).mono ?_; rintro e w1 ⟨v1, rfl, hv1, hb1⟩; have HV := hide hv1; have HB := hide hb1; clear hv1 hb1)
    | (go_at_call 169; refine (not_set _ _ _ _ HV.out (by decide)).mono ?_; rintro e w2 ⟨v2, rfl, hv2, hb2⟩; have HV2 := hide hv2; have HB2 := hide hb2; clear hv2 hb2))
  go_ret
  exact ⟨_, rfl, HV2.out.mono (fun k _ hk => Nat.le_trans HB.out.size hk), HB.out.trans (HB2.out.mono HB.out.size)⟩
set_option maxRecDepth 100000 in
set_option maxHeartbeats 400000 in
theorem class_S (w : World) : Calls Tryz.prog 314 #[.int .i64 83] w fun e w' => ∃ v, e = .returned v ∧ SetV w' (fun k => w.heap.size ≤ k) v (notC spaces) ∧ Below w.heap.size w w' := by
  go_enter Tryz.func314, Tryz.ntmps314
  go_wp2_with (first
    | (go_at_call 314; refine (class_s _).mono ?_; rintro e w1 ⟨v1, rfl, hv1, hb1⟩; have HV := hide hv1; have HB := hide hb1; clear hv1 hb1)
    | (go_at_call 169; refine (not_set _ _ _ _ HV.out (by decide)).mono ?_; rintro e w2 ⟨v2, rfl, hv2, hb2⟩; have HV2 := hide hv2; have HB2 := hide hb2; clear hv2 hb2))
  go_ret
  exact ⟨_, rfl, HV2.out.mono (fun k _ hk => Nat.le_trans HB.out.size hk), HB.out.trans (HB2.out.mono HB.out.size)⟩
theorem class_any (c : Int) (w : World) (hc : isClass c = true) : Calls Tryz.prog 314 #[.int .i64 c] w fun e w' => ∃ v, e = .returned v ∧ SetV w' (fun k => w.heap.size ≤ k) v (classOf c) ∧ Below w.heap.size w w' := by
  rcases class_cases hc with rfl | rfl | rfl | rfl | rfl | rfl
  · exact class_d w
  · exact class_w w
  · exact class_s w
  · exact class_D w
  · exact class_W w
  · exact class_S w
end Go.Proofs.YtpoibdhhcbelnaaGreatDoor
/- The reference's signs and classes behind a backslash, and a rune behind -: walks. -/
namespace Go.Proofs.YtpoibdhhcbelnaaGreatDoor
open Go.RowKit Brm

theorem St.below {w w' : World} {b : Nat} {lv : Value} {l s : List Int} {g d m : Int} (h : St w b lv l s g d m) (k : Below w.heap.size w w') : St w' b lv l s g d m :=
  ⟨h.1.below k, h.2.1, Own.keep h.2.2.1 (Keeps.below k), h.2.2.2⟩
theorem Bad.below {w w' : World} {b : Nat} {lv : Value} {l s : List Int} {d : Int} (h : Bad w b lv l s d) (k : Below w.heap.size w w') : Bad w' b lv l s d := by
  obtain ⟨i, g, m, h1⟩ := h; exact ⟨i, g, m, h1.below k⟩
def EscV (w' : World) (A : Nat → Prop) (v : Value) (f : Bool) (r : Int ⊕ List (Int × Int)) : Prop := match r with | .inl a => f = true ∧ SetV w' A v [(a, a)] ∧ runeB a = true | .inr L => f = false ∧ SetV w' A v L
theorem sign_isRune {c : Int} (h : isSign c = true) : runeB (signOf c) = true := rune_of (by have := sign_rune h; omega) (sign_rune h).2

set_option maxRecDepth 100000 in
set_option maxHeartbeats 1000000 in
theorem escaped_any (b : Nat) (lv : Value) (l s : List Int) (g d m : Int) (w : World) (h : St w b lv l s g d m) :
    Calls Tryz.prog 301 #[.pointer (some ⟨b, 0, none⟩), .bool true] w fun e w' => ∃ v f, e = .returned (.tuple #[v, .bool f]) ∧ Off b w w' ∧ Done b lv l g d m (escP s) w' (fun r => EscV w' (fun k => w.heap.size ≤ k) v f r) (v = .slice none 0 0 ∧ f = false) := by
  have HS := hide h
  have HO := hide (Off.refl b w)
  have hall := h.2.2.2.2.1.suf h.2.1
  cases s with
  | nil =>
    clear h hall
    have hd : decide ((0 : Int) ≤ -1) = false := by decide
    go_enter Tryz.func301, Tryz.ntmps301
    go_wp2_with (first
      | (go_at_call 168; refine (next_any _ _ _ _ _ _ _ _ HS.out).mono ?_; rintro e wn ⟨rfl, hwn⟩; replace HS := hide (HS.out.drn hwn); replace HO := hide (HO.out.trans (Off.drn hwn)); clear hwn; simp only [nextV])
      | (go_at_call 65; refine (fail_any _ _ _ _ _ _ _ _ HS.out).mono ?_; rintro e wf ⟨rfl, hwf, hof⟩; have HB := hide hwf; replace HO := hide (HO.out.trans hof); clear hwf hof))
    go_ret2
    exact ⟨_, _, rfl, HO.out, HB.out, rfl, rfl⟩
  | cons c t =>
    have hr := (rune_iff c).1 hall.head
    have h0 : (0 : Int) ≤ c := by omega
    clear h hall
    by_cases hs : isSign c = true
    · have HR : Hid (escP (c :: t) = .ok (.inl (signOf c)) t) := by show _ = _; simp only [escP]; rw [if_pos hs]
      have HRN := hide (sign_isRune hs)
      go_enter Tryz.func301, Tryz.ntmps301
      go_wp2_with (first
        | (go_at_call 168; refine (next_any _ _ _ _ _ _ _ _ HS.out).mono ?_; rintro e wn ⟨rfl, hwn⟩; replace HS := hide (HS.out.drn hwn); replace HO := hide (HO.out.trans (Off.drn hwn)); clear hwn; obtain ⟨c0, c1, c2, c3, c4, c5, hb⟩ := HS.out.cells; have hf := HS.out.1.frozen 1; have hlen := HS.out.2.2.2.1; simp only [nextV])
        | (go_at_call 171; refine (among_any _ _ _ (by decide)).mono ?_; rintro e wa ⟨rfl, rfl⟩; simp only [amongB_signs])
        | (go_at_call 313; refine (sign_any _ _).mono ?_; rintro e wa ⟨rfl, rfl⟩)
        | (go_at_call 170; refine (one_any _ _ HRN.out).mono ?_; rintro e wo ⟨v1, rfl, hv1, hb1⟩; have HV := hide hv1; have HB1 := hide hb1; clear hv1 hb1))
      go_ret2
      have S := HS.out.step
      refine ⟨_, _, rfl, (HO.out.trans S.2).trans (Off.below HB1.out), ?_⟩
      rw [HR.out]
      exact ⟨S.1.below HB1.out, rfl, HV.out.mono (fun k _ hk => by have := HO.out.size; simp at hk; omega), HRN.out⟩
    · have hs' : isSign c = false := by simpa using hs
      by_cases hk : isClass c = true
      · have HR : Hid (escP (c :: t) = .ok (.inr (classOf c)) t) := by show _ = _; simp only [escP]; rw [if_neg hs, if_pos hk]
        have HCL := hide hk
        go_enter Tryz.func301, Tryz.ntmps301
        go_wp2_with (first
          | (go_at_call 168; refine (next_any _ _ _ _ _ _ _ _ HS.out).mono ?_; rintro e wn ⟨rfl, hwn⟩; replace HS := hide (HS.out.drn hwn); replace HO := hide (HO.out.trans (Off.drn hwn)); clear hwn; obtain ⟨c0, c1, c2, c3, c4, c5, hb⟩ := HS.out.cells; have hf := HS.out.1.frozen 1; have hlen := HS.out.2.2.2.1; simp only [nextV])
          | (go_at_call 171; refine (among_any _ _ _ (by decide)).mono ?_; rintro e wa ⟨rfl, rfl⟩; simp only [amongB_signs, amongB_classes])
          | (go_at_call 314; refine (class_any _ _ HCL.out).mono ?_; rintro e wo ⟨v1, rfl, hv1, hb1⟩; have HV := hide hv1; have HB1 := hide hb1; clear hv1 hb1))
        go_ret2
        have S := HS.out.step
        refine ⟨_, _, rfl, (HO.out.trans S.2).trans (Off.below HB1.out), ?_⟩
        rw [HR.out]
        exact ⟨S.1.below HB1.out, rfl, HV.out.mono (fun k _ hk => by have := HO.out.size; simp at hk; omega)⟩
      · have hk' : isClass c = false := by simpa using hk
        have HR : Hid (escP (c :: t) = .bad (c :: t)) := by show _ = _; simp only [escP]; rw [if_neg hs, if_neg hk]
        go_enter Tryz.func301, Tryz.ntmps301
        go_wp2_with (first
          | (go_at_call 168; refine (next_any _ _ _ _ _ _ _ _ HS.out).mono ?_; rintro e wn ⟨rfl, hwn⟩; replace HS := hide (HS.out.drn hwn); replace HO := hide (HO.out.trans (Off.drn hwn)); clear hwn; simp only [nextV])
          | (go_at_call 171; refine (among_any _ _ _ (by decide)).mono ?_; rintro e wa ⟨rfl, rfl⟩; simp only [amongB_signs, amongB_classes])
          | (go_at_call 65; refine (fail_any _ _ _ _ _ _ _ _ HS.out).mono ?_; rintro e wf ⟨rfl, hwf, hof⟩; have HB := hide hwf; replace HO := hide (HO.out.trans hof); clear hwf hof))
        go_ret2
        refine ⟨_, _, rfl, HO.out, ?_⟩
        rw [HR.out]
        exact ⟨HB.out, rfl, rfl⟩

set_option maxRecDepth 100000 in
set_option maxHeartbeats 1000000 in
theorem single_any (b : Nat) (lv : Value) (l s : List Int) (least g d m : Int) (w : World) (h : St w b lv l s g d m) :
    Calls Tryz.prog 320 #[.pointer (some ⟨b, 0, none⟩), .int .i64 least] w fun e w' => ∃ x : Int, e = .returned (.int .i64 x) ∧ Off b w w' ∧ Done b lv l g d m (singleP least s) w' (fun y => x = y) (x = least) := by
  have HS := hide h
  have HO := hide (Off.refl b w)
  have hall := h.2.2.2.2.1.suf h.2.1
  cases s with
  | nil =>
    clear h hall
    have hd : decide ((0 : Int) ≤ -1) = false := by decide
    go_enter Tryz.func320, Tryz.ntmps320
    go_wp2_with (first
      | (go_at_call 168; refine (next_any _ _ _ _ _ _ _ _ HS.out).mono ?_; rintro e wn ⟨rfl, hwn⟩; replace HS := hide (HS.out.drn hwn); replace HO := hide (HO.out.trans (Off.drn hwn)); clear hwn; simp only [nextV])
      | (go_at_call 65; refine (fail_any _ _ _ _ _ _ _ _ HS.out).mono ?_; rintro e wf ⟨rfl, hwf, hof⟩; have HB := hide hwf; replace HO := hide (HO.out.trans hof); clear hwf hof))
    go_ret
    exact ⟨_, rfl, HO.out, HB.out, rfl⟩
  | cons c t =>
    have hr := (rune_iff c).1 hall.head
    have h0 : (0 : Int) ≤ c := by omega
    have hall2 := hall.tail
    clear h hall
    by_cases h92 : c = 92
    · subst h92
      by_cases hle : least ≤ 126
      · cases t with
        | nil =>
          have HR : Hid (singleP least [92] = .bad []) := by show _ = _; simp only [singleP, if_true, if_pos hle, signP]
          have hd : decide ((0 : Int) ≤ -1) = false := by decide
          clear hall2
          go_enter Tryz.func320, Tryz.ntmps320
          go_wp2_with (first
            | (go_at_call 168; refine (next_any _ _ _ _ _ _ _ _ HS.out).mono ?_; rintro e wn ⟨rfl, hwn⟩; replace HS := hide (HS.out.drn hwn); replace HO := hide (HO.out.trans (Off.drn hwn)); clear hwn; obtain ⟨c0, c1, c2, c3, c4, c5, hb⟩ := HS.out.cells; have hf := HS.out.1.frozen 1; have hlen := HS.out.2.2.2.1; simp only [nextV])
            | (go_at_call 168; refine (next_any _ _ _ _ _ _ _ _ (HS.out.step).1).mono ?_; rintro e wn2 ⟨rfl, hwn⟩; replace HO := hide ((HO.out.trans HS.out.step.2).trans (Off.drn hwn)); replace HS := hide ((HS.out.step).1.drn hwn); clear hwn c0 c1 c2 c3 c4 c5 hb hf hlen; simp only [nextV])
            | (go_at_call 65; refine (fail_any _ _ _ _ _ _ _ _ HS.out).mono ?_; rintro e wf ⟨rfl, hwf, hof⟩; have HB := hide hwf; replace HO := hide (HO.out.trans hof); clear hwf hof))
          go_ret
          exact ⟨_, rfl, HO.out, by rw [HR.out]; exact ⟨HB.out, rfl⟩⟩
        | cons e2 u =>
          have hr2 := (rune_iff e2).1 hall2.head
          have h02 : (0 : Int) ≤ e2 := by omega
          clear hall2
          by_cases hs : isSign e2 = true
          · have hsr := sign_rune hs
            generalize hso : signOf e2 = so at hsr
            by_cases hge : least ≤ so
            · have HR : Hid (singleP least (92 :: e2 :: u) = .ok so u) := by show _ = _; simp only [singleP, if_true, if_pos hle, signP, hs, hso, decide_eq_true hge, Bool.and_self]
              have HSO := hide hso
              clear hso
              go_enter Tryz.func320, Tryz.ntmps320
              go_wp2_with (first
                | (go_at_call 168; refine (next_any _ _ _ _ _ _ _ _ HS.out).mono ?_; rintro e wn ⟨rfl, hwn⟩; replace HS := hide (HS.out.drn hwn); replace HO := hide (HO.out.trans (Off.drn hwn)); clear hwn; obtain ⟨c0, c1, c2, c3, c4, c5, hb⟩ := HS.out.cells; have hf := HS.out.1.frozen 1; have hlen := HS.out.2.2.2.1; simp only [nextV])
                | (go_at_call 168; refine (next_any _ _ _ _ _ _ _ _ (HS.out.step).1).mono ?_; rintro e wn2 ⟨rfl, hwn⟩; replace HO := hide ((HO.out.trans HS.out.step.2).trans (Off.drn hwn)); replace HS := hide ((HS.out.step).1.drn hwn); clear hwn c0 c1 c2 c3 c4 c5 hb hf hlen; obtain ⟨c0, c1, c2, c3, c4, c5, hb⟩ := HS.out.cells; have hf := HS.out.1.frozen 1; have hlen := HS.out.2.2.2.1; simp only [nextV])
                | (go_at_call 171; refine (among_any _ _ _ (by decide)).mono ?_; rintro e wa ⟨rfl, rfl⟩; simp only [amongB_signs])
                | (go_at_call 313; refine (sign_any _ _).mono ?_; rintro e wa ⟨rfl, rfl⟩; rw [HSO.out]))
              go_ret
              have S := HS.out.step
              exact ⟨_, rfl, HO.out.trans S.2, by rw [HR.out]; exact ⟨S.1, rfl⟩⟩
            · have hged : decide (least ≤ so) = false := by simpa using hge
              have HR : Hid (singleP least (92 :: e2 :: u) = .bad (e2 :: u)) := by show _ = _; simp [singleP, hle, signP, hs, hso, hge]
              have HSO := hide hso
              clear hso hge
              go_enter Tryz.func320, Tryz.ntmps320
              go_wp2_with (first
                | (go_at_call 168; refine (next_any _ _ _ _ _ _ _ _ HS.out).mono ?_; rintro e wn ⟨rfl, hwn⟩; replace HS := hide (HS.out.drn hwn); replace HO := hide (HO.out.trans (Off.drn hwn)); clear hwn; obtain ⟨c0, c1, c2, c3, c4, c5, hb⟩ := HS.out.cells; have hf := HS.out.1.frozen 1; have hlen := HS.out.2.2.2.1; simp only [nextV])
                | (go_at_call 168; refine (next_any _ _ _ _ _ _ _ _ (HS.out.step).1).mono ?_; rintro e wn2 ⟨rfl, hwn⟩; replace HO := hide ((HO.out.trans HS.out.step.2).trans (Off.drn hwn)); replace HS := hide ((HS.out.step).1.drn hwn); clear hwn c0 c1 c2 c3 c4 c5 hb hf hlen; simp only [nextV])
                | (go_at_call 171; refine (among_any _ _ _ (by decide)).mono ?_; rintro e wa ⟨rfl, rfl⟩; simp only [amongB_signs])
                | (go_at_call 313; refine (sign_any _ _).mono ?_; rintro e wa ⟨rfl, rfl⟩; rw [HSO.out])
                | (go_at_call 65; refine (fail_any _ _ _ _ _ _ _ _ HS.out).mono ?_; rintro e wf ⟨rfl, hwf, hof⟩; have HB := hide hwf; replace HO := hide (HO.out.trans hof); clear hwf hof))
              go_ret
              exact ⟨_, rfl, HO.out, by rw [HR.out]; exact ⟨HB.out, rfl⟩⟩
          · have hs' : isSign e2 = false := by simpa using hs
            have HR : Hid (singleP least (92 :: e2 :: u) = .bad (e2 :: u)) := by show _ = _; simp [singleP, hle, signP, hs']
            go_enter Tryz.func320, Tryz.ntmps320
            go_wp2_with (first
              | (go_at_call 168; refine (next_any _ _ _ _ _ _ _ _ HS.out).mono ?_; rintro e wn ⟨rfl, hwn⟩; replace HS := hide (HS.out.drn hwn); replace HO := hide (HO.out.trans (Off.drn hwn)); clear hwn; obtain ⟨c0, c1, c2, c3, c4, c5, hb⟩ := HS.out.cells; have hf := HS.out.1.frozen 1; have hlen := HS.out.2.2.2.1; simp only [nextV])
              | (go_at_call 168; refine (next_any _ _ _ _ _ _ _ _ (HS.out.step).1).mono ?_; rintro e wn2 ⟨rfl, hwn⟩; replace HO := hide ((HO.out.trans HS.out.step.2).trans (Off.drn hwn)); replace HS := hide ((HS.out.step).1.drn hwn); clear hwn c0 c1 c2 c3 c4 c5 hb hf hlen; simp only [nextV])
              | (go_at_call 171; refine (among_any _ _ _ (by decide)).mono ?_; rintro e wa ⟨rfl, rfl⟩; simp only [amongB_signs])
              | (go_at_call 65; refine (fail_any _ _ _ _ _ _ _ _ HS.out).mono ?_; rintro e wf ⟨rfl, hwf, hof⟩; have HB := hide hwf; replace HO := hide (HO.out.trans hof); clear hwf hof))
            go_ret
            exact ⟨_, rfl, HO.out, by rw [HR.out]; exact ⟨HB.out, rfl⟩⟩
      · have hd : decide (least ≤ 126) = false := by simpa using hle
        have hin : inner 92 = true := by decide
        have HR : Hid (singleP least (92 :: t) = .bad (92 :: t)) := by show _ = _; simp only [singleP, if_true, if_neg hle]
        clear hle
        go_enter Tryz.func320, Tryz.ntmps320
        go_wp2_with (first
          | (go_at_call 168; refine (next_any _ _ _ _ _ _ _ _ HS.out).mono ?_; rintro e wn ⟨rfl, hwn⟩; replace HS := hide (HS.out.drn hwn); replace HO := hide (HO.out.trans (Off.drn hwn)); clear hwn; simp only [nextV])
          | (go_at_call 171; refine (among_any _ _ _ (by decide)).mono ?_; rintro e wa ⟨rfl, rfl⟩; simp only [amongB_inner])
          | (go_at_call 65; refine (fail_any _ _ _ _ _ _ _ _ HS.out).mono ?_; rintro e wf ⟨rfl, hwf, hof⟩; have HB := hide hwf; replace HO := hide (HO.out.trans hof); clear hwf hof))
        go_ret
        exact ⟨_, rfl, HO.out, by rw [HR.out]; exact ⟨HB.out, rfl⟩⟩
    · have hb92 : (c == 92) = false := beq_eq_false_iff_ne.2 h92
      by_cases hi : inner c = true
      · have HR : Hid (singleP least (c :: t) = .bad (c :: t)) := by show _ = _; simp [singleP, h92, hi]
        clear h92
        go_enter Tryz.func320, Tryz.ntmps320
        go_wp2_with (first
          | (go_at_call 168; refine (next_any _ _ _ _ _ _ _ _ HS.out).mono ?_; rintro e wn ⟨rfl, hwn⟩; replace HS := hide (HS.out.drn hwn); replace HO := hide (HO.out.trans (Off.drn hwn)); clear hwn; simp only [nextV])
          | (go_at_call 171; refine (among_any _ _ _ (by decide)).mono ?_; rintro e wa ⟨rfl, rfl⟩; simp only [amongB_inner])
          | (go_at_call 65; refine (fail_any _ _ _ _ _ _ _ _ HS.out).mono ?_; rintro e wf ⟨rfl, hwf, hof⟩; have HB := hide hwf; replace HO := hide (HO.out.trans hof); clear hwf hof))
        go_ret
        exact ⟨_, rfl, HO.out, by rw [HR.out]; exact ⟨HB.out, rfl⟩⟩
      · have hi' : inner c = false := by simpa using hi
        by_cases hge : least ≤ c
        · have HR : Hid (singleP least (c :: t) = .ok c t) := by show _ = _; simp [singleP, h92, hi', hge]
          clear h92
          go_enter Tryz.func320, Tryz.ntmps320
          go_wp2_with (first
            | (go_at_call 168; refine (next_any _ _ _ _ _ _ _ _ HS.out).mono ?_; rintro e wn ⟨rfl, hwn⟩; replace HS := hide (HS.out.drn hwn); replace HO := hide (HO.out.trans (Off.drn hwn)); clear hwn; obtain ⟨c0, c1, c2, c3, c4, c5, hb⟩ := HS.out.cells; have hf := HS.out.1.frozen 1; have hlen := HS.out.2.2.2.1; simp only [nextV])
            | (go_at_call 171; refine (among_any _ _ _ (by decide)).mono ?_; rintro e wa ⟨rfl, rfl⟩; simp only [amongB_inner]))
          go_ret
          have S := HS.out.step
          exact ⟨_, rfl, HO.out.trans S.2, by rw [HR.out]; exact ⟨S.1, rfl⟩⟩
        · have hged : decide (least ≤ c) = false := by simpa using hge
          have HR : Hid (singleP least (c :: t) = .bad (c :: t)) := by show _ = _; simp [singleP, h92, hi', hge]
          clear h92 hge
          go_enter Tryz.func320, Tryz.ntmps320
          go_wp2_with (first
            | (go_at_call 168; refine (next_any _ _ _ _ _ _ _ _ HS.out).mono ?_; rintro e wn ⟨rfl, hwn⟩; replace HS := hide (HS.out.drn hwn); replace HO := hide (HO.out.trans (Off.drn hwn)); clear hwn; simp only [nextV])
            | (go_at_call 171; refine (among_any _ _ _ (by decide)).mono ?_; rintro e wa ⟨rfl, rfl⟩; simp only [amongB_inner])
            | (go_at_call 65; refine (fail_any _ _ _ _ _ _ _ _ HS.out).mono ?_; rintro e wf ⟨rfl, hwf, hof⟩; have HB := hide hwf; replace HO := hide (HO.out.trans hof); clear hwf hof))
          go_ret
          exact ⟨_, rfl, HO.out, by rw [HR.out]; exact ⟨HB.out, rfl⟩⟩
end Go.Proofs.YtpoibdhhcbelnaaGreatDoor
/- The reference's items of brackets: a walk. -/
namespace Go.Proofs.YtpoibdhhcbelnaaGreatDoor
open Go.RowKit Brm

theorem one_cells {w : World} {A : Nat → Prop} {v : Value} {a : Int} (h : SetV w A v [(a, a)]) : ∃ b1 off1 cap1 x1, v = .slice (some ⟨b1, off1, none⟩) 1 cap1 ∧ w.cell? ⟨b1, off1, none⟩ = some (.int .i64 x1) ∧ back x1 = a ∧ 0 ≤ x1 ∧ x1 ≤ 1112063 ∧ b1 < w.heap.size := by
  obtain ⟨q, hq, e, hs⟩ := h.sl
  cases q with
  | nil => simp [told] at e
  | cons x q =>
    cases q with
    | cons y q => simp [told] at e
    | nil =>
      simp [told] at e
      rcases hs with ⟨_, h0⟩ | ⟨b1, off1, cap1, rfl, hc, _, hlt, hr⟩
      · cases h0
      · obtain ⟨b', off', e', hb', h1, h2⟩ := hr 0 x rfl
        cases e'
        have hg := hq.1 x (by simp)
        exact ⟨b1, off1, cap1, x.1, rfl, by simpa using h1, e.1, hg.1, by have := hg.2; omega, hlt⟩
theorem back_any2 (n : Int) (w : World) (h0 : 0 ≤ n) (h1 : n ≤ 1112063) : Calls Tryz.prog 81 #[.int .i64 n] w fun e w' => e = .returned (.int .i64 (back n)) ∧ w' = w := back_any n w h0 (by omega)
theorem form_one {a : Int} (h : runeB a = true) : form [(a, a)] = [(a, a)] := form_canon (canon_one h)
theorem form_pair_len (a b : Int) : (form [(a, b)]).length ≤ 1 := form_len [(a, b)]
theorem setv_nil (w : World) (A : Nat → Prop) : SetV w A (.slice none 0 0) [] := ⟨[], pcanon_nil, rfl, .inl ⟨rfl, rfl⟩⟩
/-- What an item is handed back as. -/
def ItemV (w' : World) (A : Nat → Prop) (v : Value) : Prop := ∃ s0, SetV w' A v s0 ∧ s0.length ≤ 1

set_option maxRecDepth 100000 in
set_option maxHeartbeats 2000000 in
theorem item_any (b : Nat) (lv : Value) (l s : List Int) (g d m : Int) (w : World) (h : St w b lv l s g d m) :
    Calls Tryz.prog 311 #[.pointer (some ⟨b, 0, none⟩)] w fun e w' => ∃ v, e = .returned v ∧ Off b w w' ∧ Done b lv l g d m (itemP s) w' (fun x => SetV w' (fun k => w.heap.size ≤ k) v (form x)) (ItemV w' (fun k => w.heap.size ≤ k) v) := by
  have HS := hide h
  have HO := hide (Off.refl b w)
  have hall := h.2.2.2.2.1.suf h.2.1
  cases s with
  | nil =>
    clear h hall
    have hd : decide ((0 : Int) ≤ -1) = false := by decide
    go_enter Tryz.func311, Tryz.ntmps311
    go_wp2_with (first
      | (go_at_call 168; refine (next_any _ _ _ _ _ _ _ _ HS.out).mono ?_; rintro e wn ⟨rfl, hwn⟩; replace HS := hide (HS.out.drn hwn); replace HO := hide (HO.out.trans (Off.drn hwn)); clear hwn; simp only [nextV])
      | (go_at_call 65; refine (fail_any _ _ _ _ _ _ _ _ HS.out).mono ?_; rintro e wf ⟨rfl, hwf, hof⟩; have HB := hide hwf; replace HO := hide (HO.out.trans hof); clear hwf hof))
    go_ret
    exact ⟨_, rfl, HO.out, HB.out, [], setv_nil _ _, by simp⟩
  | cons c t =>
    have HA := hide hall
    have hr := (rune_iff c).1 hall.head
    have h0 : (0 : Int) ≤ c := by omega
    clear h hall
    by_cases h92 : c = 92
    · subst h92
      cases he : escP t with
      | bad t' =>
        have HRE := hide he
        have HR : Hid (itemP (92 :: t) = .bad t') := by show _ = _; simp only [itemP, if_true, he, Res.bind]
        clear he
        go_enter Tryz.func311, Tryz.ntmps311
        go_wp2_with (first
          | (go_at_call 168; refine (next_any _ _ _ _ _ _ _ _ HS.out).mono ?_; rintro e wn ⟨rfl, hwn⟩; replace HS := hide (HS.out.drn hwn); replace HO := hide (HO.out.trans (Off.drn hwn)); clear hwn; obtain ⟨c0, c1, c2, c3, c4, c5, hb⟩ := HS.out.cells; have hf := HS.out.1.frozen 1; have hlen := HS.out.2.2.2.1; simp only [nextV])
          | (go_at_call 301; refine (escaped_any _ _ _ _ _ _ _ _ HS.out.step.1).mono ?_; rintro e we ⟨v1, f1, rfl, hoe, hde⟩; have HW := hide HO.out.size; replace HO := hide ((HO.out.trans HS.out.step.2).trans hoe); clear hoe c0 c1 c2 c3 c4 c5 hb hf hlen; rw [HRE.out] at hde; obtain ⟨hbd, rfl, rfl⟩ := hde; have HB := hide hbd; clear hbd))
        go_ret
        exact ⟨_, rfl, HO.out, by rw [HR.out]; exact ⟨HB.out, [], setv_nil _ _, by simp⟩⟩
      | ok r t' =>
        have HRE := hide he
        cases r with
        | inr L =>
          have HR : Hid (itemP (92 :: t) = .ok L t') := by show _ = _; simp only [itemP, if_true, he, Res.bind]
          clear he
          go_enter Tryz.func311, Tryz.ntmps311
          go_wp2_with (first
            | (go_at_call 168; refine (next_any _ _ _ _ _ _ _ _ HS.out).mono ?_; rintro e wn ⟨rfl, hwn⟩; replace HS := hide (HS.out.drn hwn); replace HO := hide (HO.out.trans (Off.drn hwn)); clear hwn; obtain ⟨c0, c1, c2, c3, c4, c5, hb⟩ := HS.out.cells; have hf := HS.out.1.frozen 1; have hlen := HS.out.2.2.2.1; simp only [nextV])
            | (go_at_call 301; refine (escaped_any _ _ _ _ _ _ _ _ HS.out.step.1).mono ?_; rintro e we ⟨v1, f1, rfl, hoe, hde⟩; have HW := hide HO.out.size; replace HO := hide ((HO.out.trans HS.out.step.2).trans hoe); clear hoe c0 c1 c2 c3 c4 c5 hb hf hlen; rw [HRE.out] at hde; obtain ⟨hst, rfl, hsv⟩ := hde; have HV := hide hsv; clear hsv; replace HS := hide hst; clear hst))
          go_ret
          refine ⟨_, rfl, HO.out, ?_⟩
          rw [HR.out]
          have hv := HV.out
          refine ⟨HS.out, ?_⟩
          show SetV _ _ _ (form _)
          rw [form_canon hv.canon]
          exact hv.mono (fun k _ hk => by have := HW.out; simp [World.setCell] at hk; omega)
        | inl a =>
          have HR : Hid (itemP (92 :: t) = rangeP a t') := by show _ = _; simp only [itemP, if_true, he, Res.bind]
          clear he
          have HRN : Hid (runeB a = true) := by
            have := HRE.out
            cases t with
            | nil => simp [escP] at this
            | cons e2 u2 =>
              simp only [escP] at this
              split at this
              · rename_i hs; cases this; exact sign_isRune hs
              · split at this <;> cases this
          have HSF : Hid (t' <:+ t) := by
            have := escP_takes t
            rw [HRE.out] at this
            exact this.2
          by_cases h45 : t'.head? = some 45
          · obtain ⟨u, rfl⟩ : ∃ u, t' = 45 :: u := by cases t' with | nil => simp at h45 | cons c t => simp at h45; exact ⟨t, by rw [h45]⟩
            clear h45
            cases hs : singleP a u with
            | bad u' =>
              have HR2 : Hid (rangeP a (45 :: u) = .bad u') := by show _ = _; simp only [rangeP, if_true, hs, Res.map]
              have HRS := hide hs
              clear hs
              have HOK := hide (ok_pair HRN.out HRN.out (Int.le_refl a))
              go_enter Tryz.func311, Tryz.ntmps311
              go_wp2_with (first
                | (go_at_call 168; refine (next_any _ _ _ _ _ _ _ _ HS.out).mono ?_; rintro e wn ⟨rfl, hwn⟩; replace HS := hide (HS.out.drn hwn); replace HO := hide (HO.out.trans (Off.drn hwn)); clear hwn; obtain ⟨c0, c1, c2, c3, c4, c5, hb⟩ := HS.out.cells; have hf := HS.out.1.frozen 1; have hlen := HS.out.2.2.2.1; simp only [nextV])
                | (go_at_call 301; refine (escaped_any _ _ _ _ _ _ _ _ HS.out.step.1).mono ?_; rintro e we ⟨v1, f1, rfl, hoe, hde⟩; replace HO := hide ((HO.out.trans HS.out.step.2).trans hoe); clear hoe c0 c1 c2 c3 c4 c5 hb hf hlen; rw [HRE.out] at hde; obtain ⟨hst, rfl, hsv, hra⟩ := hde; obtain ⟨b1, off1, cap1, x1, rfl, hcx, hbk, hx0, hx1, hb1⟩ := one_cells hsv; have HBK := hide hbk; have HRA := hide hra; replace HS := hide hst; obtain ⟨c0, c1, c2, c3, c4, c5, hb⟩ := HS.out.cells; clear hst hsv hbk hra c0 c1 c3 c4 c5)
                | (go_at_call 81; refine (back_any2 _ _ hx0 hx1).mono ?_; rintro e wb ⟨rfl, rfl⟩; rw [HBK.out])
                | (go_at_call 117; refine (takes_yes _ _ _ _ _ _ _ _ _ HS.out (by decide) (by decide)).mono ?_; rintro e wt ⟨rfl, hwt, hot⟩; replace HO := hide (HO.out.trans hot); replace HS := hide hwt; clear hwt hot)
                | (go_at_call 320; refine (single_any _ _ _ _ _ _ _ _ _ HS.out).mono ?_; rintro e ws ⟨xs, rfl, hos, hds⟩; replace HO := hide (HO.out.trans hos); clear hos; rw [HRS.out] at hds; obtain ⟨hst, rfl⟩ := hds; have HB := hide hst; clear hst)
                | (go_at_call 321; refine (norm_set _ [(_, _)] _ _ (rd_one _ _ _) (by simp) HOK.out).mono ?_; rintro e wo ⟨v2, rfl, hv2, hb2⟩; have HV := hide hv2; have HB1 := hide hb2; clear hv2 hb2))
              go_ret
              refine ⟨_, rfl, HO.out.trans ((Off.refl _ _).alloc _ |>.trans (Off.below HB1.out)), ?_⟩
              rw [HR.out, HR2.out]
              exact ⟨(HB.out.below ((Below.refl _ _).alloc (Nat.le_refl _) _)).below HB1.out, _, HV.out.mono (fun k _ hk => by have := HO.out.size; simp at hk; omega), form_pair_len _ _⟩
            | ok b2 u' =>
              have HR2 : Hid (rangeP a (45 :: u) = .ok [(a, b2)] u') := by show _ = _; simp only [rangeP, if_true, hs, Res.map]
              have HRS := hide hs
              have hnum := singleP_num (least := a) (HA.out.tail.suf HSF.out).tail
              rw [hs] at hnum
              have HOK := hide (ok_pair HRN.out hnum.2 hnum.1)
              clear hnum
              clear hs
              go_enter Tryz.func311, Tryz.ntmps311
              go_wp2_with (first
                | (go_at_call 168; refine (next_any _ _ _ _ _ _ _ _ HS.out).mono ?_; rintro e wn ⟨rfl, hwn⟩; replace HS := hide (HS.out.drn hwn); replace HO := hide (HO.out.trans (Off.drn hwn)); clear hwn; obtain ⟨c0, c1, c2, c3, c4, c5, hb⟩ := HS.out.cells; have hf := HS.out.1.frozen 1; have hlen := HS.out.2.2.2.1; simp only [nextV])
                | (go_at_call 301; refine (escaped_any _ _ _ _ _ _ _ _ HS.out.step.1).mono ?_; rintro e we ⟨v1, f1, rfl, hoe, hde⟩; replace HO := hide ((HO.out.trans HS.out.step.2).trans hoe); clear hoe c0 c1 c2 c3 c4 c5 hb hf hlen; rw [HRE.out] at hde; obtain ⟨hst, rfl, hsv, hra⟩ := hde; obtain ⟨b1, off1, cap1, x1, rfl, hcx, hbk, hx0, hx1, hb1⟩ := one_cells hsv; have HBK := hide hbk; have HRA := hide hra; replace HS := hide hst; obtain ⟨c0, c1, c2, c3, c4, c5, hb⟩ := HS.out.cells; clear hst hsv hbk hra c0 c1 c3 c4 c5)
                | (go_at_call 81; refine (back_any2 _ _ hx0 hx1).mono ?_; rintro e wb ⟨rfl, rfl⟩; rw [HBK.out])
                | (go_at_call 117; refine (takes_yes _ _ _ _ _ _ _ _ _ HS.out (by decide) (by decide)).mono ?_; rintro e wt ⟨rfl, hwt, hot⟩; replace HO := hide (HO.out.trans hot); replace HS := hide hwt; clear hwt hot)
                | (go_at_call 320; refine (single_any _ _ _ _ _ _ _ _ _ HS.out).mono ?_; rintro e ws ⟨xs, rfl, hos, hds⟩; replace HO := hide (HO.out.trans hos); clear hos; rw [HRS.out] at hds; obtain ⟨hst, rfl⟩ := hds; replace HS := hide hst; clear hst)
                | (go_at_call 321; refine (norm_set _ [(_, _)] _ _ (rd_one _ _ _) (by simp) HOK.out).mono ?_; rintro e wo ⟨v2, rfl, hv2, hb2⟩; have HV := hide hv2; have HB1 := hide hb2; clear hv2 hb2))
              go_ret
              refine ⟨_, rfl, HO.out.trans ((Off.refl _ _).alloc _ |>.trans (Off.below HB1.out)), ?_⟩
              rw [HR.out, HR2.out]
              exact ⟨(HS.out.below ((Below.refl _ _).alloc (Nat.le_refl _) _)).below HB1.out, HV.out.mono (fun k _ hk => by have := HO.out.size; simp at hk; omega)⟩
          · have HR2 : Hid (rangeP a t' = .ok [(a, a)] t') := by
              show _ = _
              cases t' with
              | nil => rfl
              | cons e2 u2 => simp only [rangeP]; rw [if_neg (by simpa using h45)]
            have HN := hide h45
            clear h45
            go_enter Tryz.func311, Tryz.ntmps311
            go_wp2_with (first
              | (go_at_call 168; refine (next_any _ _ _ _ _ _ _ _ HS.out).mono ?_; rintro e wn ⟨rfl, hwn⟩; replace HS := hide (HS.out.drn hwn); replace HO := hide (HO.out.trans (Off.drn hwn)); clear hwn; obtain ⟨c0, c1, c2, c3, c4, c5, hb⟩ := HS.out.cells; have hf := HS.out.1.frozen 1; have hlen := HS.out.2.2.2.1; simp only [nextV])
              | (go_at_call 301; refine (escaped_any _ _ _ _ _ _ _ _ HS.out.step.1).mono ?_; rintro e we ⟨v1, f1, rfl, hoe, hde⟩; replace HO := hide ((HO.out.trans HS.out.step.2).trans hoe); clear hoe c0 c1 c2 c3 c4 c5 hb hf hlen; rw [HRE.out] at hde; obtain ⟨hst, rfl, hsv, hra⟩ := hde; obtain ⟨b1, off1, cap1, x1, rfl, hcx, hbk, hx0, hx1, hb1⟩ := one_cells hsv; have HBK := hide hbk; have HRA := hide hra; replace HS := hide hst; obtain ⟨c0, c1, c2, c3, c4, c5, hb⟩ := HS.out.cells; clear hst hsv hbk hra c0 c1 c3 c4 c5)
              | (go_at_call 81; refine (back_any2 _ _ hx0 hx1).mono ?_; rintro e wb ⟨rfl, rfl⟩; rw [HBK.out])
              | (go_at_call 117; refine (takes_no _ _ _ _ _ _ _ _ _ HS.out (by decide) (by decide) HN.out).mono ?_; rintro e wt ⟨rfl, hwt⟩; replace HO := hide (HO.out.trans (Off.drn hwt)); replace HS := hide (HS.out.drn hwt); clear hwt)
              | (go_at_call 170; refine (one_any _ _ HRA.out).mono ?_; rintro e wo ⟨v1, rfl, hv1, hb1⟩; have HV := hide hv1; have HB1 := hide hb1; clear hv1 hb1))
            go_ret
            refine ⟨_, rfl, HO.out.trans (Off.below HB1.out), ?_⟩
            rw [HR.out, HR2.out]
            refine ⟨HS.out.below HB1.out, ?_⟩
            show SetV _ _ _ (form _)
            rw [form_one HRA.out]
            exact HV.out.mono (fun k _ hk => by have := HO.out.size; omega)
    · have hb92 : (c == 92) = false := beq_eq_false_iff_ne.2 h92
      by_cases hi : inner c = true
      · have HR : Hid (itemP (c :: t) = .bad (c :: t)) := by show _ = _; simp [itemP, h92, hi]
        clear h92
        go_enter Tryz.func311, Tryz.ntmps311
        go_wp2_with (first
          | (go_at_call 168; refine (next_any _ _ _ _ _ _ _ _ HS.out).mono ?_; rintro e wn ⟨rfl, hwn⟩; replace HS := hide (HS.out.drn hwn); replace HO := hide (HO.out.trans (Off.drn hwn)); clear hwn; simp only [nextV])
          | (go_at_call 171; refine (among_any _ _ _ (by decide)).mono ?_; rintro e wa ⟨rfl, rfl⟩; simp only [amongB_inner])
          | (go_at_call 65; refine (fail_any _ _ _ _ _ _ _ _ HS.out).mono ?_; rintro e wf ⟨rfl, hwf, hof⟩; have HB := hide hwf; replace HO := hide (HO.out.trans hof); clear hwf hof))
        go_ret
        exact ⟨_, rfl, HO.out, by rw [HR.out]; exact ⟨HB.out, [], setv_nil _ _, by simp⟩⟩
      · have hi' : inner c = false := by simpa using hi
        have HR : Hid (itemP (c :: t) = rangeP c t) := by show _ = _; simp [itemP, h92, hi']
        have HRA := hide HA.out.head
        clear h92 hi
        by_cases h45 : t.head? = some 45
        · obtain ⟨u, rfl⟩ : ∃ u, t = 45 :: u := by cases t with | nil => simp at h45 | cons c t => simp at h45; exact ⟨t, by rw [h45]⟩
          clear h45
          cases hs : singleP c u with
          | bad u' =>
            have HR2 : Hid (rangeP c (45 :: u) = .bad u') := by show _ = _; simp only [rangeP, if_true, hs, Res.map]
            have HRS := hide hs
            clear hs
            have HOK := hide (ok_pair HRA.out HRA.out (Int.le_refl c))
            go_enter Tryz.func311, Tryz.ntmps311
            go_wp2_with (first
              | (go_at_call 168; refine (next_any _ _ _ _ _ _ _ _ HS.out).mono ?_; rintro e wn ⟨rfl, hwn⟩; replace HS := hide (HS.out.drn hwn); replace HO := hide (HO.out.trans (Off.drn hwn)); clear hwn; obtain ⟨c0, c1, c2, c3, c4, c5, hb⟩ := HS.out.cells; have hf := HS.out.1.frozen 1; have hlen := HS.out.2.2.2.1; simp only [nextV])
              | (go_at_call 171; refine (among_any _ _ _ (by decide)).mono ?_; rintro e wa ⟨rfl, rfl⟩; simp only [amongB_inner])
              | (go_at_call 117; refine (takes_yes _ _ _ _ _ _ _ _ _ HS.out.step.1 (by decide) (by decide)).mono ?_; rintro e wt ⟨rfl, hwt, hot⟩; replace HO := hide ((HO.out.trans HS.out.step.2).trans hot); replace HS := hide hwt; clear hwt hot)
              | (go_at_call 320; refine (single_any _ _ _ _ _ _ _ _ _ HS.out).mono ?_; rintro e ws ⟨xs, rfl, hos, hds⟩; replace HO := hide (HO.out.trans hos); clear hos; rw [HRS.out] at hds; obtain ⟨hst, rfl⟩ := hds; have HB := hide hst; clear hst)
              | (go_at_call 321; refine (norm_set _ [(_, _)] _ _ (rd_one _ _ _) (by simp) HOK.out).mono ?_; rintro e wo ⟨v2, rfl, hv2, hb2⟩; have HV := hide hv2; have HB1 := hide hb2; clear hv2 hb2))
            go_ret
            refine ⟨_, rfl, HO.out.trans ((Off.refl _ _).alloc _ |>.trans (Off.below HB1.out)), ?_⟩
            rw [HR.out, HR2.out]
            exact ⟨(HB.out.below ((Below.refl _ _).alloc (Nat.le_refl _) _)).below HB1.out, _, HV.out.mono (fun k _ hk => by have := HO.out.size; simp at hk; omega), form_pair_len _ _⟩
          | ok b2 u' =>
            have HR2 : Hid (rangeP c (45 :: u) = .ok [(c, b2)] u') := by show _ = _; simp only [rangeP, if_true, hs, Res.map]
            have HRS := hide hs
            have hnum := singleP_num (least := c) HA.out.tail.tail
            rw [hs] at hnum
            have HOK := hide (ok_pair HRA.out hnum.2 hnum.1)
            clear hnum
            clear hs
            go_enter Tryz.func311, Tryz.ntmps311
            go_wp2_with (first
              | (go_at_call 168; refine (next_any _ _ _ _ _ _ _ _ HS.out).mono ?_; rintro e wn ⟨rfl, hwn⟩; replace HS := hide (HS.out.drn hwn); replace HO := hide (HO.out.trans (Off.drn hwn)); clear hwn; obtain ⟨c0, c1, c2, c3, c4, c5, hb⟩ := HS.out.cells; have hf := HS.out.1.frozen 1; have hlen := HS.out.2.2.2.1; simp only [nextV])
              | (go_at_call 171; refine (among_any _ _ _ (by decide)).mono ?_; rintro e wa ⟨rfl, rfl⟩; simp only [amongB_inner])
              | (go_at_call 117; refine (takes_yes _ _ _ _ _ _ _ _ _ HS.out.step.1 (by decide) (by decide)).mono ?_; rintro e wt ⟨rfl, hwt, hot⟩; replace HO := hide ((HO.out.trans HS.out.step.2).trans hot); replace HS := hide hwt; clear hwt hot)
              | (go_at_call 320; refine (single_any _ _ _ _ _ _ _ _ _ HS.out).mono ?_; rintro e ws ⟨xs, rfl, hos, hds⟩; replace HO := hide (HO.out.trans hos); clear hos; rw [HRS.out] at hds; obtain ⟨hst, rfl⟩ := hds; replace HS := hide hst; clear hst)
              | (go_at_call 321; refine (norm_set _ [(_, _)] _ _ (rd_one _ _ _) (by simp) HOK.out).mono ?_; rintro e wo ⟨v2, rfl, hv2, hb2⟩; have HV := hide hv2; have HB1 := hide hb2; clear hv2 hb2))
            go_ret
            refine ⟨_, rfl, HO.out.trans ((Off.refl _ _).alloc _ |>.trans (Off.below HB1.out)), ?_⟩
            rw [HR.out, HR2.out]
            exact ⟨(HS.out.below ((Below.refl _ _).alloc (Nat.le_refl _) _)).below HB1.out, HV.out.mono (fun k _ hk => by have := HO.out.size; simp at hk; omega)⟩
        · have HR2 : Hid (rangeP c t = .ok [(c, c)] t) := by
            show _ = _
            cases t with
            | nil => rfl
            | cons e2 u2 => simp only [rangeP]; rw [if_neg (by simpa using h45)]
          have HN := hide h45
          clear h45
          go_enter Tryz.func311, Tryz.ntmps311
          go_wp2_with (first
            | (go_at_call 168; refine (next_any _ _ _ _ _ _ _ _ HS.out).mono ?_; rintro e wn ⟨rfl, hwn⟩; replace HS := hide (HS.out.drn hwn); replace HO := hide (HO.out.trans (Off.drn hwn)); clear hwn; obtain ⟨c0, c1, c2, c3, c4, c5, hb⟩ := HS.out.cells; have hf := HS.out.1.frozen 1; have hlen := HS.out.2.2.2.1; simp only [nextV])
            | (go_at_call 171; refine (among_any _ _ _ (by decide)).mono ?_; rintro e wa ⟨rfl, rfl⟩; simp only [amongB_inner])
            | (go_at_call 117; refine (takes_no _ _ _ _ _ _ _ _ _ HS.out.step.1 (by decide) (by decide) HN.out).mono ?_; rintro e wt ⟨rfl, hwt⟩; replace HO := hide ((HO.out.trans HS.out.step.2).trans (Off.drn hwt)); replace HS := hide (HS.out.step.1.drn hwt); clear hwt)
            | (go_at_call 170; refine (one_any _ _ HRA.out).mono ?_; rintro e wo ⟨v1, rfl, hv1, hb1⟩; have HV := hide hv1; have HB1 := hide hb1; clear hv1 hb1))
          go_ret
          refine ⟨_, rfl, HO.out.trans (Off.below HB1.out), ?_⟩
          rw [HR.out, HR2.out]
          refine ⟨HS.out.below HB1.out, ?_⟩
          show SetV _ _ _ (form _)
          rw [form_one HRA.out]
          exact HV.out.mono (fun k _ hk => by have := HO.out.size; omega)
end Go.Proofs.YtpoibdhhcbelnaaGreatDoor
/- The reference's brackets: a walk. -/
namespace Go.Proofs.YtpoibdhhcbelnaaGreatDoor
open Go.RowKit Brm

/-- Brackets, item by item: how many more at most; what is there so far; what it all comes to. -/
def BrI (w : World) (b : Nat) (lv : Value) (l : List Int) (g d m : Int) (R : Res (List (Int × Int))) (k : Nat) (v : Value) (wr : World) : Prop :=
  Off b w wr ∧ ((∃ l0 s0, St wr b lv l s0 g d m ∧ SetV wr (fun k => w.heap.size ≤ k) v (form l0) ∧ itemsP k l0 s0 = R ∧ (∀ x ∈ l0, okB x = true) ∧ l0.length + 5 * s0.length ≤ 400 ∧ s0.length < k) ∨
    (∃ s' t', Bad wr b lv l s' d ∧ R = .bad s' ∧ SetV wr (fun k => w.heap.size ≤ k) v t' ∧ t'.length ≤ 500))
/-- How brackets end. -/
def BrV (b : Nat) (lv : Value) (l : List Int) (g d m : Int) (w w' : World) (v : Value) (f : List (Int × Int) → List (Int × Int)) (R : Res (List (Int × Int))) : Prop :=
  Off b w w' ∧ Done b lv l g d m (R.map f) w' (fun x => SetV w' (fun k => w.heap.size ≤ k) v x) (IsSl v)

theorem itemsP_more : ∀ (n : Nat) (l : List (Int × Int)) (s : List Int), s.length < n → itemsP n l s = itemsP (n + 1) l s
  | 0, _, s, h => by omega
  | n + 1, l, s, h => by
    rw [itemsP, itemsP]
    split
    · rfl
    · have h2 := itemP_takes s
      cases hi : itemP s with
      | bad s' => rfl
      | ok x s' =>
        rw [hi] at h2
        have := h2.1
        exact itemsP_more n _ s' (by omega)

set_option maxRecDepth 100000 in
set_option maxHeartbeats 1000000 in
theorem brackets_not (b : Nat) (lv : Value) (l s1 : List Int) (g d m : Int) (w : World) (h : St w b lv l (94 :: s1) g d m) :
    Calls Tryz.prog 300 #[.pointer (some ⟨b, 0, none⟩)] w fun e w' => ∃ v, e = .returned v ∧ BrV b lv l g d m w w' v (fun x => notC (form x)) (itemsP (s1.length + 2) [] s1) := by
  have HS := hide h
  have HO := hide (Off.refl b w)
  have HBb := hide h.1.lt
  have hl60 := h.2.2.2.1
  have hsl := h.2.1.length_le
  skip
  clear h
  generalize hR : itemsP (s1.length + 2) [] s1 = R
  have HR0 := hide hR
  clear hR
  go_enter Tryz.func300, Tryz.ntmps300
  go_wp2_with (go_at_call 117; refine (takes_yes _ _ _ _ _ _ _ _ _ HS.out (by decide) (by decide)).mono ?_; rintro e wt ⟨rfl, hwt, hot⟩; replace HS := hide hwt; replace HO := hide (HO.out.trans hot); clear hwt hot)
  go_loopg [4] (s1.length + 2) (fun k v wr => BrI w b lv l g d m R k v wr)
  case atStart => exact ⟨HO.out, .inl ⟨[], s1, HS.out, setv_nil _ _, HR0.out, by simp, by simp at hsl ⊢; omega, by omega⟩⟩
  case round =>
    clear HO HS HR0
    obtain ⟨ho, hcase⟩ := hrel
    have HO := hide ho
    clear ho
    rcases hcase with ⟨l0, s0, hst, hsv, heq, hok, hle, hk⟩ | ⟨s', t', hbad, hR, hsv, ht⟩
    · obtain ⟨c0, c1, c2, c3, c4, c5, hb⟩ := hst.cells
      have hall := hst.2.2.2.2.1.suf hst.2.1
      have HS := hide hst
      have HV := hide hsv
      have HE := hide heq
      have HOK := hide hok
      have HLE := hide hle
      have HLN : Hid ((form l0).length ≤ 1000000) := by have := form_len l0; show _ ≤ _; omega
      clear hst hsv heq hok c0 c1 c3 c4 c5
      obtain ⟨k', rfl⟩ : ∃ k', gk = k' + 1 := ⟨gk - 1, by omega⟩
      by_cases h93 : s0.head? = some 93
      · obtain ⟨u, rfl⟩ : ∃ u, s0 = 93 :: u := by cases s0 with | nil => simp at h93 | cons c t => simp at h93; exact ⟨t, by rw [h93]⟩
        have HR : Hid (R.map (fun x => notC (form x)) = .ok ((fun x => notC (form x)) l0) u) := by
          have := HE.out
          simp only [itemsP, List.head?_cons, if_true, List.tail_cons] at this
          show _ = _
          rw [← this]; rfl
        clear h93 hall
        go_wp2_with (first
          | (go_at_call 117; refine (takes_yes _ _ _ _ _ _ _ _ _ HS.out (by decide) (by decide)).mono ?_; rintro e wt ⟨rfl, hwt, hot⟩; replace HS := hide hwt; replace HO := hide (HO.out.trans hot); replace HV := hide (HV.out.keep (Keeps.off hot (Nat.not_le_of_lt HBb.out))); clear hwt hot)
          | (go_at_call 169; refine (not_set _ _ _ _ HV.out HLN.out).mono ?_; rintro e wz ⟨v4, rfl, hv4, hb4⟩; have HV4 := hide hv4; have HB4 := hide hb4; clear hv4 hb4))
        go_ret
        exact ⟨_, rfl, HO.out.trans (Off.below HB4.out), by rw [HR.out]; exact ⟨HS.out.below HB4.out, HV4.out.mono (fun k _ hk => by have := HO.out.size; omega)⟩⟩
      · have HN93 := hide h93
        have hl1 := itemP_list hall
        have htk := itemP_takes s0
        cases hi : itemP s0 with
        | ok x s2 =>
          have HRI := hide hi
          rw [hi] at hl1 htk
          have HX0 := hide hl1
          have HL1 : Hid ((form l0).length ≤ 400000) := by have := form_len l0; show _ ≤ _; omega
          have HL2 : Hid ((form x).length ≤ 400000) := by have := form_len x; have := hl1.2; show _ ≤ _; simp at this; omega
          have HE2 : Hid (itemsP k' (l0 ++ x) s2 = R) := by
            have := HE.out
            simp only [itemsP, if_neg h93, hi, Res.bind] at this
            exact this
          have HLT := hide htk.1
          clear hi hl1 htk h93 hall
          go_wp2_with (first
            | (go_at_call 117; refine (takes_no _ _ _ _ _ _ _ _ _ HS.out (by decide) (by decide) HN93.out).mono ?_; rintro e wt ⟨rfl, hwt⟩; replace HS := hide (HS.out.drn hwt); replace HO := hide (HO.out.trans (Off.drn hwt)); replace HV := hide (HV.out.keep (Keeps.below hwt.below)); clear hwt)
            | (go_at_call 311; refine (item_any _ _ _ _ _ _ _ _ HS.out).mono ?_; rintro e wi ⟨vi, rfl, hoi, hdi⟩; have HV1 := hide (HV.out.keep (Keeps.off hoi (Nat.not_le_of_lt HBb.out))); replace HO := hide (HO.out.trans hoi); have HZ := hide hoi.size; clear hoi; rw [HRI.out] at hdi; obtain ⟨hst, hsv2⟩ := hdi; replace HS := hide hst; have HX := hide hsv2; clear hst hsv2)
            | (go_at_call 312; refine (or_set _ _ _ _ _ _ _ HV1.out HX.out (fun k hk => Nat.le_trans HO.out.size hk) HL1.out HL2.out).mono ?_; rintro e wr2 ⟨v3, rfl, hv3, hb3⟩; have HV3 := hide hv3; have HB3 := hide hb3; clear hv3 hb3))
          have HF := hide (form_cat HOK.out HX0.out.1)
          go_roundg k'
          case measure => omega
          case rel =>
            refine ⟨HO.out.trans (Off.below HB3.out), .inl ⟨l0 ++ x, s2, HS.out.below HB3.out, ?_, HE2.out, ?_, ?_, ?_⟩⟩
            · rw [← HF.out]; exact HV3.out
            · intro y hy
              rcases List.mem_append.1 hy with hy | hy
              · exact HOK.out y hy
              · exact HX0.out.1 y hy
            · have := HLE.out; have := HX0.out.2; rw [List.length_append]; omega
            · have := HLT.out; omega
        | bad s2 =>
          have HRI := hide hi
          have HL1 : Hid ((form l0).length ≤ 400000) := by have := form_len l0; show _ ≤ _; omega
          have HRB : Hid (R = .bad s2) := by
            have := HE.out
            simp only [itemsP, if_neg h93, hi, Res.bind] at this
            exact this.symm
          have HLF : Hid ((form l0).length ≤ 400) := by have := form_len l0; show _ ≤ _; omega
          clear hi hl1 htk h93 hall
          go_wp2_with (first
            | (go_at_call 117; refine (takes_no _ _ _ _ _ _ _ _ _ HS.out (by decide) (by decide) HN93.out).mono ?_; rintro e wt ⟨rfl, hwt⟩; replace HS := hide (HS.out.drn hwt); replace HO := hide (HO.out.trans (Off.drn hwt)); replace HV := hide (HV.out.keep (Keeps.below hwt.below)); clear hwt)
            | (go_at_call 311; refine (item_any _ _ _ _ _ _ _ _ HS.out).mono ?_; rintro e wi ⟨vi, rfl, hoi, hdi⟩; have HV1 := hide (HV.out.keep (Keeps.off hoi (Nat.not_le_of_lt HBb.out))); replace HO := hide (HO.out.trans hoi); have HZ := hide hoi.size; clear hoi; rw [HRI.out] at hdi; obtain ⟨hst, t2, hsv2, ht2⟩ := hdi; have HB := hide hst; have HX := hide hsv2; clear hst hsv2)
            | (go_at_call 312; refine (or_set _ _ _ _ _ _ _ HV1.out HX.out (fun k hk => Nat.le_trans HO.out.size hk) HL1.out (by omega)).mono ?_; rintro e wr2 ⟨v3, rfl, hv3, hb3⟩; have HV3 := hide hv3; have HB3 := hide hb3; clear hv3 hb3))
          go_roundg k'
          case measure => omega
          case rel =>
            refine ⟨HO.out.trans (Off.below HB3.out), .inr ⟨s2, _, HB.out.below HB3.out, HRB.out, HV3.out, ?_⟩⟩
            have := HLF.out
            have h3 := form_len (form l0 ++ t2)
            rw [List.length_append] at h3
            omega
    · obtain ⟨i0, g0, m0, c0, c1, c2, c3, c4, c5, hb⟩ := hbad.cells
      have HB := hide hbad
      have HV := hide hsv
      have HR : Hid (R.map (fun x => notC (form x)) = .bad s') := by show _ = _; rw [hR]; rfl
      have HLN : Hid (t'.length ≤ 1000000) := by show _ ≤ _; omega
      generalize l.length - s'.length = kk at c2
      clear hbad hsv hR c0 c1 c3 c4 c5
      have hd : decide ((kk : Int) < 0) = false := by simp
      go_wp2_with (go_at_call 169; refine (not_set _ _ _ _ HV.out HLN.out).mono ?_; rintro e wz ⟨v4, rfl, hv4, hb4⟩; have HV4 := hide hv4; have HB4 := hide hb4; clear hv4 hb4)
      go_ret
      exact ⟨_, rfl, HO.out.trans (Off.below HB4.out), by rw [HR.out]; exact ⟨HB.out.below HB4.out, set_isl HV4.out⟩⟩

set_option maxRecDepth 100000 in
set_option maxHeartbeats 1000000 in
theorem brackets_yes (b : Nat) (lv : Value) (l s1 : List Int) (g d m : Int) (w : World) (h : St w b lv l s1 g d m) (hn : s1.head? ≠ some 94) :
    Calls Tryz.prog 300 #[.pointer (some ⟨b, 0, none⟩)] w fun e w' => ∃ v, e = .returned v ∧ BrV b lv l g d m w w' v form (itemsP (s1.length + 2) [] s1) := by
  have HS := hide h
  have HO := hide (Off.refl b w)
  have HBb := hide h.1.lt
  have hl60 := h.2.2.2.1
  have hsl := h.2.1.length_le
  have HN := hide hn; clear hn
  clear h
  generalize hR : itemsP (s1.length + 2) [] s1 = R
  have HR0 := hide hR
  clear hR
  go_enter Tryz.func300, Tryz.ntmps300
  go_wp2_with (go_at_call 117; refine (takes_no _ _ _ _ _ _ _ _ _ HS.out (by decide) (by decide) HN.out).mono ?_; rintro e wt ⟨rfl, hwt⟩; replace HS := hide (HS.out.drn hwt); replace HO := hide (HO.out.trans (Off.drn hwt)); clear hwt)
  go_loopg [4] (s1.length + 2) (fun k v wr => BrI w b lv l g d m R k v wr)
  case atStart => exact ⟨HO.out, .inl ⟨[], s1, HS.out, setv_nil _ _, HR0.out, by simp, by simp at hsl ⊢; omega, by omega⟩⟩
  case round =>
    clear HO HS HR0
    obtain ⟨ho, hcase⟩ := hrel
    have HO := hide ho
    clear ho
    rcases hcase with ⟨l0, s0, hst, hsv, heq, hok, hle, hk⟩ | ⟨s', t', hbad, hR, hsv, ht⟩
    · obtain ⟨c0, c1, c2, c3, c4, c5, hb⟩ := hst.cells
      have hall := hst.2.2.2.2.1.suf hst.2.1
      have HS := hide hst
      have HV := hide hsv
      have HE := hide heq
      have HOK := hide hok
      have HLE := hide hle
      have HLN : Hid ((form l0).length ≤ 1000000) := by have := form_len l0; show _ ≤ _; omega
      clear hst hsv heq hok c0 c1 c3 c4 c5
      obtain ⟨k', rfl⟩ : ∃ k', gk = k' + 1 := ⟨gk - 1, by omega⟩
      by_cases h93 : s0.head? = some 93
      · obtain ⟨u, rfl⟩ : ∃ u, s0 = 93 :: u := by cases s0 with | nil => simp at h93 | cons c t => simp at h93; exact ⟨t, by rw [h93]⟩
        have HR : Hid (R.map form = .ok (form l0) u) := by
          have := HE.out
          simp only [itemsP, List.head?_cons, if_true, List.tail_cons] at this
          show _ = _
          rw [← this]; rfl
        clear h93 hall
        go_wp2_with (go_at_call 117; refine (takes_yes _ _ _ _ _ _ _ _ _ HS.out (by decide) (by decide)).mono ?_; rintro e wt ⟨rfl, hwt, hot⟩; replace HS := hide hwt; replace HO := hide (HO.out.trans hot); replace HV := hide (HV.out.keep (Keeps.off hot (Nat.not_le_of_lt HBb.out))); clear hwt hot)
        go_ret
        exact ⟨_, rfl, HO.out, by rw [HR.out]; exact ⟨HS.out, HV.out⟩⟩
      · have HN93 := hide h93
        have hl1 := itemP_list hall
        have htk := itemP_takes s0
        cases hi : itemP s0 with
        | ok x s2 =>
          have HRI := hide hi
          rw [hi] at hl1 htk
          have HX0 := hide hl1
          have HL1 : Hid ((form l0).length ≤ 400000) := by have := form_len l0; show _ ≤ _; omega
          have HL2 : Hid ((form x).length ≤ 400000) := by have := form_len x; have := hl1.2; show _ ≤ _; simp at this; omega
          have HE2 : Hid (itemsP k' (l0 ++ x) s2 = R) := by
            have := HE.out
            simp only [itemsP, if_neg h93, hi, Res.bind] at this
            exact this
          have HLT := hide htk.1
          clear hi hl1 htk h93 hall
          go_wp2_with (first
            | (go_at_call 117; refine (takes_no _ _ _ _ _ _ _ _ _ HS.out (by decide) (by decide) HN93.out).mono ?_; rintro e wt ⟨rfl, hwt⟩; replace HS := hide (HS.out.drn hwt); replace HO := hide (HO.out.trans (Off.drn hwt)); replace HV := hide (HV.out.keep (Keeps.below hwt.below)); clear hwt)
            | (go_at_call 311; refine (item_any _ _ _ _ _ _ _ _ HS.out).mono ?_; rintro e wi ⟨vi, rfl, hoi, hdi⟩; have HV1 := hide (HV.out.keep (Keeps.off hoi (Nat.not_le_of_lt HBb.out))); replace HO := hide (HO.out.trans hoi); have HZ := hide hoi.size; clear hoi; rw [HRI.out] at hdi; obtain ⟨hst, hsv2⟩ := hdi; replace HS := hide hst; have HX := hide hsv2; clear hst hsv2)
            | (go_at_call 312; refine (or_set _ _ _ _ _ _ _ HV1.out HX.out (fun k hk => Nat.le_trans HO.out.size hk) HL1.out HL2.out).mono ?_; rintro e wr2 ⟨v3, rfl, hv3, hb3⟩; have HV3 := hide hv3; have HB3 := hide hb3; clear hv3 hb3))
          have HF := hide (form_cat HOK.out HX0.out.1)
          go_roundg k'
          case measure => omega
          case rel =>
            refine ⟨HO.out.trans (Off.below HB3.out), .inl ⟨l0 ++ x, s2, HS.out.below HB3.out, ?_, HE2.out, ?_, ?_, ?_⟩⟩
            · rw [← HF.out]; exact HV3.out
            · intro y hy
              rcases List.mem_append.1 hy with hy | hy
              · exact HOK.out y hy
              · exact HX0.out.1 y hy
            · have := HLE.out; have := HX0.out.2; rw [List.length_append]; omega
            · have := HLT.out; omega
        | bad s2 =>
          have HRI := hide hi
          have HL1 : Hid ((form l0).length ≤ 400000) := by have := form_len l0; show _ ≤ _; omega
          have HRB : Hid (R = .bad s2) := by
            have := HE.out
            simp only [itemsP, if_neg h93, hi, Res.bind] at this
            exact this.symm
          have HLF : Hid ((form l0).length ≤ 400) := by have := form_len l0; show _ ≤ _; omega
          clear hi hl1 htk h93 hall
          go_wp2_with (first
            | (go_at_call 117; refine (takes_no _ _ _ _ _ _ _ _ _ HS.out (by decide) (by decide) HN93.out).mono ?_; rintro e wt ⟨rfl, hwt⟩; replace HS := hide (HS.out.drn hwt); replace HO := hide (HO.out.trans (Off.drn hwt)); replace HV := hide (HV.out.keep (Keeps.below hwt.below)); clear hwt)
            | (go_at_call 311; refine (item_any _ _ _ _ _ _ _ _ HS.out).mono ?_; rintro e wi ⟨vi, rfl, hoi, hdi⟩; have HV1 := hide (HV.out.keep (Keeps.off hoi (Nat.not_le_of_lt HBb.out))); replace HO := hide (HO.out.trans hoi); have HZ := hide hoi.size; clear hoi; rw [HRI.out] at hdi; obtain ⟨hst, t2, hsv2, ht2⟩ := hdi; have HB := hide hst; have HX := hide hsv2; clear hst hsv2)
            | (go_at_call 312; refine (or_set _ _ _ _ _ _ _ HV1.out HX.out (fun k hk => Nat.le_trans HO.out.size hk) HL1.out (by omega)).mono ?_; rintro e wr2 ⟨v3, rfl, hv3, hb3⟩; have HV3 := hide hv3; have HB3 := hide hb3; clear hv3 hb3))
          go_roundg k'
          case measure => omega
          case rel =>
            refine ⟨HO.out.trans (Off.below HB3.out), .inr ⟨s2, _, HB.out.below HB3.out, HRB.out, HV3.out, ?_⟩⟩
            have := HLF.out
            have h3 := form_len (form l0 ++ t2)
            rw [List.length_append] at h3
            omega
    · obtain ⟨i0, g0, m0, c0, c1, c2, c3, c4, c5, hb⟩ := hbad.cells
      have HB := hide hbad
      have HV := hide hsv
      have HR : Hid (R.map form = .bad s') := by show _ = _; rw [hR]; rfl
      have HLN : Hid (t'.length ≤ 1000000) := by show _ ≤ _; omega
      generalize l.length - s'.length = kk at c2
      clear hbad hsv hR c0 c1 c3 c4 c5
      have hd : decide ((kk : Int) < 0) = false := by simp
      go_wp2_with fail
      go_ret
      exact ⟨_, rfl, HO.out, by rw [HR.out]; exact ⟨HB.out, set_isl HV.out⟩⟩

theorem brackets_any (b : Nat) (lv : Value) (l s : List Int) (g d m : Int) (w : World) (h : St w b lv l s g d m) :
    Calls Tryz.prog 300 #[.pointer (some ⟨b, 0, none⟩)] w fun e w' => ∃ v, e = .returned v ∧ Off b w w' ∧ Done b lv l g d m (bracketP s) w' (fun x => SetV w' (fun k => w.heap.size ≤ k) v x) (IsSl v) := by
  unfold bracketP
  by_cases h94 : s.head? = some 94
  · obtain ⟨s1, rfl⟩ : ∃ t, s = 94 :: t := by cases s with | nil => simp at h94 | cons c t => simp at h94; exact ⟨t, by rw [h94]⟩
    rw [if_pos h94]
    exact brackets_not b lv l s1 g d m w h
  · rw [if_neg h94]
    refine (brackets_yes b lv l s g d m w h h94).mono ?_
    rintro e w' ⟨v, rfl, ho, hd⟩
    refine ⟨v, rfl, ho, ?_⟩
    rw [itemsP_more (s.length + 1) [] s (by omega)]
    exact hd
end Go.Proofs.YtpoibdhhcbelnaaGreatDoor
/- The reference's counts: a walk. -/
namespace Go.Proofs.YtpoibdhhcbelnaaGreatDoor
open Go.RowKit Brm

set_option maxRecDepth 100000 in
set_option maxHeartbeats 1000000 in
theorem counts_any (b : Nat) (lv : Value) (l s : List Int) (g d m : Int) (w : World) (h : St w b lv l s g d m) :
    Calls Tryz.prog 279 #[.pointer (some ⟨b, 0, none⟩)] w fun e w' => ∃ x y : Int, e = .returned (.tuple #[.int .i64 x, .int .i64 y]) ∧ Off b w w' ∧ Done b lv l g d m (countsP s) w' (fun mn => x = mn.1 ∧ y = mn.2) True := by
  have HS := hide h
  have HO := hide (Off.refl b w)
  have hn1 := countP_num 0 s
  clear h
  cases hr1 : countP 0 s with
  | bad s1 =>
    have HR : Hid (countsP s = .bad s1) := by show _ = _; unfold countsP; rw [hr1]; rfl
    have HR1 := hide hr1
    clear hr1 hn1
    go_enter Tryz.func279, Tryz.ntmps279
    go_wp2_with (first
      | (go_at_call 302; refine (count_any _ _ _ _ _ _ _ _ _ HS.out (by decide) (by decide)).mono ?_; rintro e wc ⟨v, rfl, hoc, hdc⟩; replace HO := hide (HO.out.trans hoc); clear hoc; rw [HR1.out] at hdc; obtain ⟨hdc, rfl⟩ := hdc; have HB := hide hdc; clear hdc HR1)
      | (go_at_call 117; refine (takes_bad _ _ _ _ _ _ HB.out (by decide) (by decide)).mono ?_; rintro e wt ⟨rfl, hwt⟩; replace HB := hide (HB.out.off hwt); replace HO := hide (HO.out.trans (Off.drn hwt)); clear hwt)
      | (go_at_call 299; refine (must_bad _ _ _ _ _ _ HB.out (by decide) (by decide)).mono ?_; rintro e wm ⟨rfl, hwm, hom⟩; replace HB := hide hwm; replace HO := hide (HO.out.trans (Off.drn hom)); clear hwm hom))
    go_ret2
    exact ⟨_, _, rfl, HO.out, by rw [HR.out]; exact ⟨HB.out, trivial⟩⟩
  | ok m0 s1 =>
    rw [hr1] at hn1
    simp only at hn1
    obtain ⟨g1, g2⟩ := hn1
    have HR1 := hide hr1
    by_cases h44 : s1.head? = some 44
    · obtain ⟨t, rfl⟩ : ∃ t, s1 = 44 :: t := by cases s1 with | nil => simp at h44 | cons c t => simp at h44; exact ⟨t, by rw [h44]⟩
      clear h44
      by_cases h125 : t.head? = some 125
      · obtain ⟨u, rfl⟩ : ∃ u, t = 125 :: u := by cases t with | nil => simp at h125 | cons c t => simp at h125; exact ⟨t, by rw [h125]⟩
        have HR : Hid (countsP s = .ok (m0, -1) u) := by show _ = _; unfold countsP; rw [hr1]; rfl
        clear hr1 h125
        go_enter Tryz.func279, Tryz.ntmps279
        go_wp2_with (first
          | (go_at_call 302; refine (count_any _ _ _ _ _ _ _ _ _ HS.out (by decide) (by decide)).mono ?_; rintro e wc ⟨v, rfl, hoc, hdc⟩; replace HO := hide (HO.out.trans hoc); clear hoc; rw [HR1.out] at hdc; obtain ⟨hdc, rfl⟩ := hdc; replace HS := hide hdc; clear hdc HR1)
          | (go_at_call 117; refine (takes_yes _ _ _ _ _ _ _ _ _ HS.out (by decide) (by decide)).mono ?_; rintro e wt ⟨rfl, hwt, hot⟩; replace HS := hide hwt; replace HO := hide (HO.out.trans hot); clear hwt hot)
          | (go_at_call 168; refine (next_any _ _ _ _ _ _ _ _ HS.out).mono ?_; rintro e wn ⟨rfl, hwn⟩; replace HS := hide (HS.out.drn hwn); replace HO := hide (HO.out.trans (Off.drn hwn)); clear hwn; simp only [nextV])
          | (go_at_call 299; refine (must_yes _ _ _ _ _ _ _ _ _ HS.out (by decide) (by decide)).mono ?_; rintro e wm ⟨rfl, hwm, hom⟩; replace HS := hide hwm; replace HO := hide (HO.out.trans hom); clear hwm hom))
        go_ret2
        exact ⟨_, _, rfl, HO.out, by rw [HR.out]; exact ⟨HS.out, rfl, rfl⟩⟩
      · have HX := hide (head_ne h125 (by decide))
        have hx : (nextV t == 125) = false := beq_eq_false_iff_ne.2 HX.out
        have hnv : ∃ x, nextV t = x := ⟨_, rfl⟩
        obtain ⟨x, hxe⟩ := hnv
        rw [hxe] at hx
        have HXE := hide hxe
        clear hxe HX
        cases hr2 : countP m0 t with
        | bad s2 =>
          have HR : Hid (countsP s = .bad s2) := by show _ = _; unfold countsP; rw [hr1]; simp only [Res.bind, List.head?_cons, if_true, List.tail_cons, if_neg h125, hr2]
          have HR2 := hide hr2
          clear hr1 hr2 h125
          go_enter Tryz.func279, Tryz.ntmps279
          go_wp2_with (first
            | (go_at_call 302; refine (count_any _ _ _ _ _ _ _ _ _ HS.out (by decide) (by decide)).mono ?_; rintro e wc ⟨v, rfl, hoc, hdc⟩; replace HO := hide (HO.out.trans hoc); clear hoc; rw [HR1.out] at hdc; obtain ⟨hdc, rfl⟩ := hdc; replace HS := hide hdc; clear hdc HR1)
            | (go_at_call 117; refine (takes_yes _ _ _ _ _ _ _ _ _ HS.out (by decide) (by decide)).mono ?_; rintro e wt ⟨rfl, hwt, hot⟩; replace HS := hide hwt; replace HO := hide (HO.out.trans hot); clear hwt hot)
            | (go_at_call 168; refine (next_any _ _ _ _ _ _ _ _ HS.out).mono ?_; rintro e wn ⟨rfl, hwn⟩; replace HS := hide (HS.out.drn hwn); replace HO := hide (HO.out.trans (Off.drn hwn)); clear hwn; rw [HXE.out])
            | (go_at_call 302; refine (count_any _ _ _ _ _ _ _ _ _ HS.out g1 g2).mono ?_; rintro e wc ⟨v, rfl, hoc, hdc⟩; replace HO := hide (HO.out.trans hoc); clear hoc; rw [HR2.out] at hdc; obtain ⟨hdc, rfl⟩ := hdc; have HB := hide hdc; clear hdc HR2)
            | (go_at_call 299; refine (must_bad _ _ _ _ _ _ HB.out (by decide) (by decide)).mono ?_; rintro e wm ⟨rfl, hwm, hom⟩; replace HB := hide hwm; replace HO := hide (HO.out.trans (Off.drn hom)); clear hwm hom))
          go_ret2
          exact ⟨_, _, rfl, HO.out, by rw [HR.out]; exact ⟨HB.out, trivial⟩⟩
        | ok n0 s2 =>
          have HR2 := hide hr2
          by_cases hcl : s2.head? = some 125
          · obtain ⟨u, rfl⟩ : ∃ u, s2 = 125 :: u := by cases s2 with | nil => simp at hcl | cons c t => simp at hcl; exact ⟨t, by rw [hcl]⟩
            have HR : Hid (countsP s = .ok (m0, n0) u) := by show _ = _; unfold countsP; rw [hr1]; simp only [Res.bind, List.head?_cons, if_true, List.tail_cons, if_neg h125, hr2, closeP]
            clear hr1 hr2 h125 hcl
            go_enter Tryz.func279, Tryz.ntmps279
            go_wp2_with (first
              | (go_at_call 302; refine (count_any _ _ _ _ _ _ _ _ _ HS.out (by decide) (by decide)).mono ?_; rintro e wc ⟨v, rfl, hoc, hdc⟩; replace HO := hide (HO.out.trans hoc); clear hoc; rw [HR1.out] at hdc; obtain ⟨hdc, rfl⟩ := hdc; replace HS := hide hdc; clear hdc HR1)
              | (go_at_call 117; refine (takes_yes _ _ _ _ _ _ _ _ _ HS.out (by decide) (by decide)).mono ?_; rintro e wt ⟨rfl, hwt, hot⟩; replace HS := hide hwt; replace HO := hide (HO.out.trans hot); clear hwt hot)
              | (go_at_call 168; refine (next_any _ _ _ _ _ _ _ _ HS.out).mono ?_; rintro e wn ⟨rfl, hwn⟩; replace HS := hide (HS.out.drn hwn); replace HO := hide (HO.out.trans (Off.drn hwn)); clear hwn; rw [HXE.out])
              | (go_at_call 302; refine (count_any _ _ _ _ _ _ _ _ _ HS.out g1 g2).mono ?_; rintro e wc ⟨v, rfl, hoc, hdc⟩; replace HO := hide (HO.out.trans hoc); clear hoc; rw [HR2.out] at hdc; obtain ⟨hdc, rfl⟩ := hdc; replace HS := hide hdc; clear hdc HR2)
              | (go_at_call 299; refine (must_yes _ _ _ _ _ _ _ _ _ HS.out (by decide) (by decide)).mono ?_; rintro e wm ⟨rfl, hwm, hom⟩; replace HS := hide hwm; replace HO := hide (HO.out.trans hom); clear hwm hom))
            go_ret2
            exact ⟨_, _, rfl, HO.out, by rw [HR.out]; exact ⟨HS.out, rfl, rfl⟩⟩
          · have HR : Hid (countsP s = .bad s2) := by show _ = _; unfold countsP; rw [hr1]; simp only [Res.bind, List.head?_cons, if_true, List.tail_cons, if_neg h125, hr2, closeP, if_neg hcl]
            have HN := hide hcl
            clear hr1 hr2 h125 hcl
            go_enter Tryz.func279, Tryz.ntmps279
            go_wp2_with (first
              | (go_at_call 302; refine (count_any _ _ _ _ _ _ _ _ _ HS.out (by decide) (by decide)).mono ?_; rintro e wc ⟨v, rfl, hoc, hdc⟩; replace HO := hide (HO.out.trans hoc); clear hoc; rw [HR1.out] at hdc; obtain ⟨hdc, rfl⟩ := hdc; replace HS := hide hdc; clear hdc HR1)
              | (go_at_call 117; refine (takes_yes _ _ _ _ _ _ _ _ _ HS.out (by decide) (by decide)).mono ?_; rintro e wt ⟨rfl, hwt, hot⟩; replace HS := hide hwt; replace HO := hide (HO.out.trans hot); clear hwt hot)
              | (go_at_call 168; refine (next_any _ _ _ _ _ _ _ _ HS.out).mono ?_; rintro e wn ⟨rfl, hwn⟩; replace HS := hide (HS.out.drn hwn); replace HO := hide (HO.out.trans (Off.drn hwn)); clear hwn; rw [HXE.out])
              | (go_at_call 302; refine (count_any _ _ _ _ _ _ _ _ _ HS.out g1 g2).mono ?_; rintro e wc ⟨v, rfl, hoc, hdc⟩; replace HO := hide (HO.out.trans hoc); clear hoc; rw [HR2.out] at hdc; obtain ⟨hdc, rfl⟩ := hdc; replace HS := hide hdc; clear hdc HR2)
              | (go_at_call 299; refine (must_no _ _ _ _ _ _ _ _ _ HS.out (by decide) (by decide) HN.out).mono ?_; rintro e wm ⟨rfl, hwm, hom⟩; have HB := hide hwm; replace HO := hide (HO.out.trans hom); clear hwm hom))
            go_ret2
            exact ⟨_, _, rfl, HO.out, by rw [HR.out]; exact ⟨HB.out, trivial⟩⟩
    · have HN4 := hide h44
      by_cases hcl : s1.head? = some 125
      · obtain ⟨u, rfl⟩ : ∃ u, s1 = 125 :: u := by cases s1 with | nil => simp at hcl | cons c t => simp at hcl; exact ⟨t, by rw [hcl]⟩
        have HR : Hid (countsP s = .ok (m0, m0) u) := by show _ = _; unfold countsP; rw [hr1]; rfl
        clear hr1 h44 hcl
        go_enter Tryz.func279, Tryz.ntmps279
        go_wp2_with (first
          | (go_at_call 302; refine (count_any _ _ _ _ _ _ _ _ _ HS.out (by decide) (by decide)).mono ?_; rintro e wc ⟨v, rfl, hoc, hdc⟩; replace HO := hide (HO.out.trans hoc); clear hoc; rw [HR1.out] at hdc; obtain ⟨hdc, rfl⟩ := hdc; replace HS := hide hdc; clear hdc HR1)
          | (go_at_call 117; refine (takes_no _ _ _ _ _ _ _ _ _ HS.out (by decide) (by decide) HN4.out).mono ?_; rintro e wt ⟨rfl, hwt⟩; replace HS := hide (HS.out.drn hwt); replace HO := hide (HO.out.trans (Off.drn hwt)); clear hwt)
          | (go_at_call 299; refine (must_yes _ _ _ _ _ _ _ _ _ HS.out (by decide) (by decide)).mono ?_; rintro e wm ⟨rfl, hwm, hom⟩; replace HS := hide hwm; replace HO := hide (HO.out.trans hom); clear hwm hom))
        go_ret2
        exact ⟨_, _, rfl, HO.out, by rw [HR.out]; exact ⟨HS.out, rfl, rfl⟩⟩
      · have HR : Hid (countsP s = .bad s1) := by show _ = _; unfold countsP; rw [hr1]; simp only [Res.bind, if_neg h44, closeP, if_neg hcl]
        have HN := hide hcl
        clear hr1 h44 hcl
        go_enter Tryz.func279, Tryz.ntmps279
        go_wp2_with (first
          | (go_at_call 302; refine (count_any _ _ _ _ _ _ _ _ _ HS.out (by decide) (by decide)).mono ?_; rintro e wc ⟨v, rfl, hoc, hdc⟩; replace HO := hide (HO.out.trans hoc); clear hoc; rw [HR1.out] at hdc; obtain ⟨hdc, rfl⟩ := hdc; replace HS := hide hdc; clear hdc HR1)
          | (go_at_call 117; refine (takes_no _ _ _ _ _ _ _ _ _ HS.out (by decide) (by decide) HN4.out).mono ?_; rintro e wt ⟨rfl, hwt⟩; replace HS := hide (HS.out.drn hwt); replace HO := hide (HO.out.trans (Off.drn hwt)); clear hwt)
          | (go_at_call 299; refine (must_no _ _ _ _ _ _ _ _ _ HS.out (by decide) (by decide) HN.out).mono ?_; rintro e wm ⟨rfl, hwm, hom⟩; have HB := hide hwm; replace HO := hide (HO.out.trans hom); clear hwm hom))
        go_ret2
        exact ⟨_, _, rfl, HO.out, by rw [HR.out]; exact ⟨HB.out, trivial⟩⟩
end Go.Proofs.YtpoibdhhcbelnaaGreatDoor
/- The reference's grammar: what each rule's call does, and the way deeper: a walk. -/
namespace Go.Proofs.YtpoibdhhcbelnaaGreatDoor
open Go.RowKit Brm

def Part (b : Nat) (lv : Value) (l : List Int) (g : Nat) (d m : Int) (r : Res Pat) (w w' : World) (c : List Value) : Prop :=
  Off b w w' ∧ match r with
  | .ok p s => NV w' (fun k => w.heap.size ≤ k) p c g ∧ St w' b lv l s ((g + p.groups : Nat) : Int) d (max m (d + p.deep))
  | .bad s => Bad w' b lv l s d
/-- A call that hands a pattern back. -/
def Gives (F : Nat) (b : Nat) (lv : Value) (l : List Int) (g : Nat) (d m : Int) (r : Res Pat) (w : World) : Prop :=
  Calls Tryz.prog F #[.pointer (some ⟨b, 0, none⟩)] w fun e w' => ∃ k so sn sc lo ln lc mm nn rr, e = .returned (.agg #[.int .i64 k, .slice so sn sc, .slice lo ln lc, .int .i64 mm, .int .i64 nn, .int .i64 rr]) ∧
    Part b lv l g d m r w w' (Six k so sn sc lo ln lc mm nn rr)
def OrOk (n : Nat) : Prop := ∀ (b : Nat) (lv : Value) (l s : List Int) (g : Nat) (d m : Int) (w : World), St w b lv l s g d m → s.length < n → Gives 64 b lv l g d m (orN false n s) w

theorem St.setD {w : World} {b : Nat} {lv : Value} {l s : List Int} {g d m : Int} (h : St w b lv l s g d m) (x : Int) (h0 : 0 ≤ x) (h1 : x ≤ m) : St (w.setCell ⟨b, 4, none⟩ (.int .i64 x)) b lv l s g x m :=
  ⟨h.1.set 4 _, h.2.1, h.2.2.1.off ((Off.refl _ _).setCell 4 _), h.2.2.2.1, h.2.2.2.2.1, by have := h.2.2.2.2.2; omega⟩
theorem St.deeper {w : World} {b : Nat} {lv : Value} {l s : List Int} {g d m : Int} (h : St w b lv l s g d m) (h1 : d + 1 ≤ ((l.length - s.length : Nat) : Int)) : St ((w.setCell ⟨b, 4, none⟩ (.int .i64 (d + 1))).setCell ⟨b, 5, none⟩ (.int .i64 (max m (d + 1)))) b lv l s g (d + 1) (max m (d + 1)) :=
  ⟨(h.1.set 4 _).set 5 _, h.2.1, h.2.2.1.off (((Off.refl _ _).setCell 4 _).setCell 5 _), h.2.2.2.1, h.2.2.2.2.1, by have := h.2.2.2.2.2; omega⟩
theorem St.setG {w : World} {b : Nat} {lv : Value} {l s : List Int} {g d m : Int} (h : St w b lv l s g d m) (x : Int) (h0 : 0 ≤ x) (h1 : x ≤ ((l.length - s.length : Nat) : Int)) : St (w.setCell ⟨b, 3, none⟩ (.int .i64 x)) b lv l s x d m :=
  ⟨h.1.set 3 _, h.2.1, h.2.2.1.off ((Off.refl _ _).setCell 3 _), h.2.2.2.1, h.2.2.2.2.1, h0, h1, h.2.2.2.2.2.2.2⟩
theorem Bad.setD {w : World} {b : Nat} {lv : Value} {l s : List Int} {d : Int} (h : Bad w b lv l s d) (x : Int) : Bad (w.setCell ⟨b, 4, none⟩ (.int .i64 x)) b lv l s x := by
  obtain ⟨i, g, m, h⟩ := h; exact ⟨i, g, m, h.set 4 _⟩
theorem St.facts {w : World} {b : Nat} {lv : Value} {l s : List Int} {g d m : Int} (h : St w b lv l s g d m) : 0 ≤ g ∧ g ≤ 60 ∧ 0 ≤ d ∧ d ≤ 60 ∧ 0 ≤ m ∧ m ≤ 60 := by
  have := h.2.2.2.2.2; have := h.2.2.2.1; omega
theorem St.drew {w : World} {b : Nat} {lv : Value} {l s : List Int} {g d m : Int} (h : St w b lv l s g d m) : St w.drew b lv l s g d m := h
/-- Cells of the call's own. -/
theorem St.new {w : World} {b : Nat} {lv : Value} {l s : List Int} {g d m : Int} (h : St w b lv l s g d m) (o : Obj) : St (w.alloc o) b lv l s g d m := h.below ((Below.refl _ _).alloc (Nat.le_refl _) _)

/-- A node laid into a block. -/
abbrev put6 (w : World) (r : Nat) (c0 c1 c2 c3 c4 c5 : Value) : World := (((((w.setCell ⟨r, 0, none⟩ c0).setCell ⟨r, 1, none⟩ c1).setCell ⟨r, 2, none⟩ c2).setCell ⟨r, 3, none⟩ c3).setCell ⟨r, 4, none⟩ c4).setCell ⟨r, 5, none⟩ c5
theorem Blk.put6 {w : World} {b r : Nat} {cs : List Value} {T : TypeId} (h : Blk w b cs T) (hr : b ≠ r) (c0 c1 c2 c3 c4 c5 : Value) : Blk (put6 w r c0 c1 c2 c3 c4 c5) b cs T :=
  (((((h.setOther hr _).setOther hr _).setOther hr _).setOther hr _).setOther hr _).setOther hr _
theorem Off.put6 {b r : Nat} {a w : World} (h : Off b a w) (hr : a.heap.size ≤ r) (c0 c1 c2 c3 c4 c5 : Value) : Off b a (put6 w r c0 c1 c2 c3 c4 c5) :=
  (((((h.setNew hr _).setNew hr _).setNew hr _).setNew hr _).setNew hr _).setNew hr _
theorem Keeps.put6 {A : Nat → Prop} {a w : World} {r : Nat} (h : Keeps A a w) (hr : ¬ A r) (c0 c1 c2 c3 c4 c5 : Value) : Keeps A a (put6 w r c0 c1 c2 c3 c4 c5) :=
  (((((h.trans (Keeps.set _ hr)).trans (Keeps.set _ hr)).trans (Keeps.set _ hr)).trans (Keeps.set _ hr)).trans (Keeps.set _ hr)).trans (Keeps.set _ hr)
theorem St.move {w0 w1 w2 : World} {b : Nat} {lv : Value} {l s : List Int} {g d m : Int} (h0 : Txt w0 b lv l) (ho : Off b w0 w2) (h1 : St w1 b lv l s g d m) (h2 : Rdr w2 b lv ((l.length - s.length : Nat) : Int) (-1) g d m) : St w2 b lv l s g d m :=
  ⟨h2, h1.2.1, h0.off ho, h1.2.2.2⟩
theorem zero_cells {w : World} {r : Nat} (h : Blk w r [.int .i64 0, .slice none 0 0, .slice none 0 0, .int .i64 0, .int .i64 0, .int .i64 0] 32) :
    (w.cell? ⟨r, 0, none⟩ = some (.int .i64 0) ∧ w.cell? ⟨r, 1, none⟩ = some (.slice none 0 0) ∧ w.cell? ⟨r, 2, none⟩ = some (.slice none 0 0) ∧ w.cell? ⟨r, 3, none⟩ = some (.int .i64 0) ∧ w.cell? ⟨r, 4, none⟩ = some (.int .i64 0) ∧ w.cell? ⟨r, 5, none⟩ = some (.int .i64 0)) ∧
    (w.frozen? ⟨r, 0, none⟩ = false ∧ w.frozen? ⟨r, 1, none⟩ = false ∧ w.frozen? ⟨r, 2, none⟩ = false ∧ w.frozen? ⟨r, 3, none⟩ = false ∧ w.frozen? ⟨r, 4, none⟩ = false ∧ w.frozen? ⟨r, 5, none⟩ = false) ∧ r < w.heap.size :=
  ⟨⟨h.cell 0, h.cell 1, h.cell 2, h.cell 3, h.cell 4, h.cell 5⟩, ⟨h.frozen 0, h.frozen 1, h.frozen 2, h.frozen 3, h.frozen 4, h.frozen 5⟩, h.lt⟩

set_option maxRecDepth 100000 in
set_option maxHeartbeats 1000000 in
theorem within_ok (n : Nat) (ih : OrOk n) (b : Nat) (lv : Value) (l s : List Int) (g : Nat) (d m : Int) (w : World) (h : St w b lv l s g d m) (hn : s.length < n) (hd : d + 1 ≤ ((l.length - s.length : Nat) : Int)) (p : Pat) (s' : List Int) (hr : orN false n s = .ok p s') :
    Calls Tryz.prog 298 #[.pointer (some ⟨b, 0, none⟩)] w fun e w' => ∃ k so sn sc lo ln lc mm nn rr, e = .returned (.agg #[.int .i64 k, .slice so sn sc, .slice lo ln lc, .int .i64 mm, .int .i64 nn, .int .i64 rr]) ∧
      Off b w w' ∧ NV w' (fun k => w.heap.size ≤ k) p (Six k so sn sc lo ln lc mm nn rr) g ∧ St w' b lv l s' ((g + p.groups : Nat) : Int) d (max m (d + (p.deep + 1))) := by
  have HS := hide h
  have HD := hide hd
  obtain ⟨f1, f2, f3, f4, f5, f6⟩ := h.facts
  obtain ⟨c0, c1, c2, c3, c4, c5, hb⟩ := h.cells
  have hf4 := h.1.frozen 4
  have hf5 := h.1.frozen 5
  have HR := hide hr
  clear h hd hr c0 c1 c2 c3
  go_enter Tryz.func298, Tryz.ntmps298
  go_wp2_with fail
  go_region
  go_wp2_with fail
  have HS2 := hide (((HS.out.deeper HD.out).new (.cells #[.int .i64 0, .slice none 0 0, .slice none 0 0, .int .i64 0, .int .i64 0, .int .i64 0] 32)).drew)
  have HK := hide (Blk.new ((w.setCell ⟨b, 4, none⟩ (.int .i64 (d + 1))).setCell ⟨b, 5, none⟩ (.int .i64 (max m (d + 1)))) [.int .i64 0, .slice none 0 0, .slice none 0 0, .int .i64 0, .int .i64 0, .int .i64 0] 32).drew
  refine (ih b lv l s g (d + 1) (max m (d + 1)) _ HS2.out hn).mono ?_
  rintro e w1 ⟨k, so, sn, sc, lo, ln, lc, mm, nn, rr, rfl, hoff, hpt⟩
  rw [HR.out] at hpt
  obtain ⟨hnv, hst⟩ := hpt
  have HN := hide hnv
  have HS3 := hide hst
  clear hnv hst
  have HO2 := hide hoff
  have HK2 := hide (HK.out.off (w' := w1) hoff (by simp; omega))
  clear hoff c4 c5 hf4 hf5
  obtain ⟨c0, c1, c2, c3, c4, c5, hb1⟩ := HS3.out.cells
  have hf4 := HS3.out.1.frozen 4
  obtain ⟨⟨z0, z1, z2, z3, z4, z5⟩, ⟨y0, y1, y2, y3, y4, y5⟩, hw1⟩ := zero_cells HK2.out
  simp at z0 z1 z2 z3 z4 z5 y0 y1 y2 y3 y4 y5 hw1
  go_wp2_with fail
  refine bodyPost_ret (v := .agg #[.int .i64 k, .slice so sn sc, .slice lo ln lc, .int .i64 mm, .int .i64 nn, .int .i64 rr]) (by simp [results, Tryz.results298, go_sem, z0, z1, z2, z3, z4, z5, hw1]) rfl ⟨k, so, sn, sc, lo, ln, lc, mm, nn, rr, rfl, ?_⟩
  have HF0 : Off b w w1 := Off.trans ((((Off.refl b w).setCell 4 _).setCell 5 _).alloc _).drew HO2.out
  have HF := ((HF0.setCell 4 (.int .i64 d)).put6 (r := w.heap.size) (Nat.le_refl _) (.int .i64 k) (.slice so sn sc) (.slice lo ln lc) (.int .i64 mm) (.int .i64 nn) (.int .i64 rr)).alloc (.cells #[.int .i64 k, .slice so sn sc, .slice lo ln lc, .int .i64 mm, .int .i64 nn, .int .i64 rr] 32)
  have RB := ((HS3.out.1.set 4 (.int .i64 d)).put6 (r := w.heap.size) (by omega) (.int .i64 k) (.slice so sn sc) (.slice lo ln lc) (.int .i64 mm) (.int .i64 nn) (.int .i64 rr)).alloc (.cells #[.int .i64 k, .slice so sn sc, .slice lo ln lc, .int .i64 mm, .int .i64 nn, .int .i64 rr] 32)
  have e : max (max m (d + 1)) (d + 1 + (p.deep : Int)) = max m (d + ((p.deep : Int) + 1)) := by omega
  have S4 := HS3.out.setD d (by omega) (by have := HS3.out.2.2.2.2.2; omega)
  rw [e] at S4
  refine ⟨HF, ?_, St.move HS.out.2.2.1 HF S4 (by rw [← e]; exact RB)⟩
  refine NV.mono (fun q _ hq => by simp at hq; omega) p _ g (NV.keep ?_ p _ g HN.out)
  exact (((Keeps.set _ (by simp; omega)).put6 (r := w.heap.size) (by simp) _ _ _ _ _ _)).trans (Keeps.alloc _ _ _)
set_option maxRecDepth 100000 in
set_option maxHeartbeats 1000000 in
theorem within_bad (n : Nat) (ih : OrOk n) (b : Nat) (lv : Value) (l s : List Int) (g : Nat) (d m : Int) (w : World) (h : St w b lv l s g d m) (hn : s.length < n) (hd : d + 1 ≤ ((l.length - s.length : Nat) : Int)) (s' : List Int) (hr : orN false n s = .bad s') :
    Calls Tryz.prog 298 #[.pointer (some ⟨b, 0, none⟩)] w fun e w' => ∃ k so sn sc lo ln lc mm nn rr, e = .returned (.agg #[.int .i64 k, .slice so sn sc, .slice lo ln lc, .int .i64 mm, .int .i64 nn, .int .i64 rr]) ∧
      Off b w w' ∧ Bad w' b lv l s' d := by
  have HS := hide h
  have HD := hide hd
  obtain ⟨f1, f2, f3, f4, f5, f6⟩ := h.facts
  obtain ⟨c0, c1, c2, c3, c4, c5, hb⟩ := h.cells
  have hf4 := h.1.frozen 4
  have hf5 := h.1.frozen 5
  have HR := hide hr
  clear h hd hr c0 c1 c2 c3
  go_enter Tryz.func298, Tryz.ntmps298
  go_wp2_with fail
  go_region
  go_wp2_with fail
  have HS2 := hide (((HS.out.deeper HD.out).new (.cells #[.int .i64 0, .slice none 0 0, .slice none 0 0, .int .i64 0, .int .i64 0, .int .i64 0] 32)).drew)
  have HK := hide (Blk.new ((w.setCell ⟨b, 4, none⟩ (.int .i64 (d + 1))).setCell ⟨b, 5, none⟩ (.int .i64 (max m (d + 1)))) [.int .i64 0, .slice none 0 0, .slice none 0 0, .int .i64 0, .int .i64 0, .int .i64 0] 32).drew
  refine (ih b lv l s g (d + 1) (max m (d + 1)) _ HS2.out hn).mono ?_
  rintro e w1 ⟨k, so, sn, sc, lo, ln, lc, mm, nn, rr, rfl, hoff, hpt⟩
  rw [HR.out] at hpt
  have HS3 := hide hpt
  clear hpt
  have HO2 := hide hoff
  have HK2 := hide (HK.out.off (w' := w1) hoff (by simp; omega))
  clear hoff c4 c5 hf4 hf5
  obtain ⟨i1, g1, m1, hrd⟩ := HS3.out
  have c4 := hrd.cell 4
  have hf4 := hrd.frozen 4
  have hb1 := hrd.lt
  have HRD := hide hrd
  clear hrd
  simp at c4
  obtain ⟨⟨z0, z1, z2, z3, z4, z5⟩, ⟨y0, y1, y2, y3, y4, y5⟩, hw1⟩ := zero_cells HK2.out
  simp at z0 z1 z2 z3 z4 z5 y0 y1 y2 y3 y4 y5 hw1
  go_wp2_with fail
  refine bodyPost_ret (v := .agg #[.int .i64 k, .slice so sn sc, .slice lo ln lc, .int .i64 mm, .int .i64 nn, .int .i64 rr]) (by simp [results, Tryz.results298, go_sem, z0, z1, z2, z3, z4, z5, hw1]) rfl ⟨k, so, sn, sc, lo, ln, lc, mm, nn, rr, rfl, ?_⟩
  have HF0 : Off b w w1 := Off.trans ((((Off.refl b w).setCell 4 _).setCell 5 _).alloc _).drew HO2.out
  have HF := ((HF0.setCell 4 (.int .i64 d)).put6 (r := w.heap.size) (Nat.le_refl _) (.int .i64 k) (.slice so sn sc) (.slice lo ln lc) (.int .i64 mm) (.int .i64 nn) (.int .i64 rr)).alloc (.cells #[.int .i64 k, .slice so sn sc, .slice lo ln lc, .int .i64 mm, .int .i64 nn, .int .i64 rr] 32)
  have RB := ((HRD.out.set 4 (.int .i64 d)).put6 (r := w.heap.size) (by omega) (.int .i64 k) (.slice so sn sc) (.slice lo ln lc) (.int .i64 mm) (.int .i64 nn) (.int .i64 rr)).alloc (.cells #[.int .i64 k, .slice so sn sc, .slice lo ln lc, .int .i64 mm, .int .i64 nn, .int .i64 rr] 32)
  exact ⟨HF, i1, g1, m1, RB⟩
end Go.Proofs.YtpoibdhhcbelnaaGreatDoor
/- The reference's atoms: a walk. -/
namespace Go.Proofs.YtpoibdhhcbelnaaGreatDoor
open Go.RowKit Brm

theorem own_blk {w : World} {A : Nat → Prop} {y : Nat} {cs : List Value} (h : Blk w y cs 32) (hl : cs.length = 6) (hA : A y) : Own w A 32 6 (.slice (some ⟨y, 0, none⟩) 1 1) 1 cs := by
  refine ⟨⟨by omega, .inr ⟨y, 1, cs.toArray, rfl, Nat.zero_le _, h, Nat.le_refl _, by unfold maxLen; omega, by simp [hl], ?_⟩⟩, fun g hg => ?_⟩
  · simp only [Nat.one_mul]
    rw [List.take_of_length_le (by simp [hl])]
  · simp [Value.ownBlock] at hg; exact hg ▸ hA
/-- A set is laid into the block of the result. -/
theorem set_end {w w1 w2 : World} {b : Nat} {lv : Value} {l s : List Int} {g : Nat} {d m : Int} {B : Nat} {so : Option Addr} {sn sc : Nat} {x : List (Int × Int)} (h0 : St w1 b lv l s g d m) (hv : SetV w1 (fun k => B ≤ k) (.slice so sn sc) x) (hB : w.heap.size < B) (hb : b < w.heap.size) (ho : Off b w w1) (ht : Txt w b lv l)
    (e : w2 = put6 w1 w.heap.size (.int .i64 1) (.slice so sn sc) (.slice none 0 0) (.int .i64 0) (.int .i64 0) (.int .i64 0)) : Part b lv l g d m (.ok (.set x) s) w w2 (Six 1 so sn sc none 0 0 0 0 0) := by
  subst e
  have hF := ho.put6 (r := w.heap.size) (Nat.le_refl _) (.int .i64 1) (.slice so sn sc) (.slice none 0 0) (.int .i64 0) (.int .i64 0) (.int .i64 0)
  have hmx : max m (d + ((Pat.set x).deep : Int)) = m := by have := h0.2.2.2.2.2; simp [Pat.deep]; omega
  have hgx : ((g + (Pat.set x).groups : Nat) : Int) = g := by simp [Pat.groups]
  refine ⟨hF, ⟨_, rfl, ?_⟩, ?_⟩
  · exact (hv.keep ((Keeps.refl _ w1).put6 (r := w.heap.size) (by simp; omega) (.int .i64 1) (.slice so sn sc) (.slice none 0 0) (.int .i64 0) (.int .i64 0) (.int .i64 0))).mono (fun q _ hq => by omega)
  · rw [hmx, hgx]
    exact St.move ht hF h0 (h0.1.put6 (r := w.heap.size) (by omega) (.int .i64 1) (.slice so sn sc) (.slice none 0 0) (.int .i64 0) (.int .i64 0) (.int .i64 0))
/-- Something that has gone wrong is laid into the block of the result. -/
theorem bad_end {w w1 w2 : World} {b : Nat} {lv : Value} {l s : List Int} {g : Nat} {d m : Int} {c0 c1 c2 c3 c4 c5 : Value} {c : List Value} (h0 : Bad w1 b lv l s d) (hb : b < w.heap.size) (ho : Off b w w1)
    (e : w2 = put6 w1 w.heap.size c0 c1 c2 c3 c4 c5) : Part b lv l g d m (.bad s) w w2 c := by
  subst e
  obtain ⟨i, g1, m1, h⟩ := h0
  exact ⟨ho.put6 (r := w.heap.size) (Nat.le_refl _) _ _ _ _ _ _, i, g1, m1, h.put6 (r := w.heap.size) (by omega) _ _ _ _ _ _⟩
end Go.Proofs.YtpoibdhhcbelnaaGreatDoor
