/- Walks and plain laws, some texts in one. -/
import Derived.Laws.Cover4
import Derived.Test.YtpoibdhhcbelnaaGreatDoorM22
import Derived.Test.YtpoibdhhcbelnaaGreatDoorM19
import Derived.Test.YtpoibdhhcbelnaaGreatDoorM23
import Derived.Test.YtpoibdhhcbelnaaGreatDoorM17
/- The program's writing: runes and ranges: walks. -/
namespace Go.Proofs.YtpoibdhhcbelnaaGreatDoor
open Go.RowKit Brm

/-- What a call hands back: the bytes of a string. -/
def Str (bs : List UInt8) (w : World) (e : Ending) (w' : World) : Prop := ∃ t, e = .returned (.string t) ∧ bytesOf t = bs ∧ Below w.heap.size w w'
end Go.Proofs.YtpoibdhhcbelnaaGreatDoor
/- The program's reader: items: walks. -/
namespace Go.Proofs.YtpoibdhhcbelnaaGreatDoor
open Go.RowKit Brm

def ClassAt (r : List Int) : Prop := ∃ c t, r = 92 :: c :: t ∧ isClass c = true
theorem class_no (b : Nat) (s : ByteArray) (l : List Int) (d m : Int) (w : World) (r : List Int) (h : PSt w b s l r d m) (h1 : ¬ ClassAt r) : Calls Tryz.prog 304 #[.pointer (some ⟨b, 0, none⟩)] w fun e w' => badS e ∧ Below w.heap.size w w' := by
  by_cases h92 : nextP r = 92
  · cases r with
    | nil => simp [nextP] at h92
    | cons c t =>
      simp only [nextP] at h92
      subst h92
      refine class_other b s l d m w t h ?_
      cases t with
      | nil => rfl
      | cons c t =>
        cases hc : isClass c with
        | false => exact hc
        | true => exact absurd ⟨c, t, rfl, hc⟩ h1
  · exact class_none b s l d m w r h h92
theorem class_sign {c : Int} (h : isClass c = true) : isSign c = false := by
  rcases class_cases h with rfl | rfl | rfl | rfl | rfl | rfl <;> rfl
theorem item_class {c : Int} {t : List Int} (h : isClass c = true) : itemP (92 :: c :: t) = .ok (classOf c) t := by
  simp [itemP, escP, class_sign h, h, Res.bind]
theorem item_else {r : List Int} (hr : AllR r) (h : ¬ ClassAt r) : itemP r = (singleP 0 r).bind fun a q => rangeP a q := by
  cases r with
  | nil => rfl
  | cons c t =>
    simp only [itemP, singleP]
    by_cases h92 : c = 92
    · subst h92
      simp only [if_true]
      rw [if_pos (by decide)]
      cases t with
      | nil => rfl
      | cons x t =>
        simp only [escP, signP]
        cases hs : isSign x with
        | true =>
          have := sign_rune hs
          have h0 : (0 : Int) ≤ signOf x := by omega
          simp [Res.bind, h0]
        | false =>
          cases hc : isClass x with
          | true => exact absurd ⟨x, t, rfl, hc⟩ h
          | false => simp [Res.bind]
    · have hx := (rune_iff c).1 hr.head
      have h0 : (0 : Int) ≤ c := by omega
      simp only [if_neg h92]
      cases hi : inner c with
      | true => simp [Res.bind]
      | false => simp [h0, Res.bind]
set_option maxRecDepth 100000 in
set_option maxHeartbeats 400000 in
theorem item_yes (b : Nat) (s : ByteArray) (l : List Int) (d m : Int) (w : World) (c : Int) (t : List Int) (h : PSt w b s l (92 :: c :: t) d m) (hc : isClass c = true) : Calls Tryz.prog 306 #[.pointer (some ⟨b, 0, none⟩)] w fun e w' => Off b w w' ∧ DoneP b s l d m (itemP (92 :: c :: t)) w' e (fun x e => okS w w' x e) badS := by
  have HC := hide (class_yes b s l d m w c t h hc)
  have HR := hide (item_class (t := t) hc)
  clear h hc
  go_enter Tryz.func306, Tryz.ntmps306
  go_wp2_with fail
  refine HC.out.mono ?_
  rintro e w1 ⟨⟨v1, rfl, hv1⟩, hs1, ho1⟩
  obtain ⟨ao, cap, rfl, _, _⟩ := hv1.sl.rd
  have HV := hide hv1
  have HS := hide hs1
  have HO := hide ho1
  clear hv1 hs1 ho1
  go_wp2
  go_ret2
  exact ⟨HO.out, by rw [HR.out]; exact ⟨HS.out, _, rfl, HV.out⟩⟩
set_option maxRecDepth 100000 in
set_option maxHeartbeats 400000 in
theorem item_no (b : Nat) (s : ByteArray) (l : List Int) (d m : Int) (w : World) (r : List Int) (h : PSt w b s l r d m) (hc : ¬ ClassAt r) : Calls Tryz.prog 306 #[.pointer (some ⟨b, 0, none⟩)] w fun e w' => Off b w w' ∧ DoneP b s l d m (itemP r) w' e (fun x e => okS w w' x e) badS := by
  have HC := hide (class_no b s l d m w r h hc)
  have hall := (runes_all h.2.2.1).suf h.2.1
  have HA := hide hall
  have HR := hide (item_else hall hc)
  have HNU := hide (singleP_num (least := 0) hall)
  have HTK := hide (singleP_takes 0 r)
  have HS := hide h
  have HO : Hid (Off b w w) := Off.refl _ _
  clear h hc hall
  go_enter Tryz.func306, Tryz.ntmps306
  go_wp2_with fail
  refine HC.out.mono ?_
  rintro e wi ⟨rfl, hbi⟩
  replace HS := hide (HS.out.below hbi)
  replace HO := hide (HO.out.trans (Off.below hbi))
  clear hbi
  go_wp2_with fail
  refine (single_any2 b s l d m _ r 0 HS.out).mono ?_
  rintro e w2 ⟨ho2, hd2⟩
  replace HO := hide (HO.out.trans ho2)
  clear ho2 HC
  generalize singleP 0 r = RR at HR hd2 HNU HTK
  cases RR with
  | bad q =>
    obtain ⟨hs2, v, rfl⟩ := hd2
    have HS2 := hide hs2
    clear hs2
    go_wp2
    go_ret2
    exact ⟨HO.out, by rw [HR.out]; exact ⟨HS2.out, rfl⟩⟩
  | ok low q =>
    obtain ⟨hs2, rfl⟩ := hd2
    replace HS := hide hs2
    obtain ⟨hlow0, hlow1⟩ := HNU.out
    have hlow2 : low ≤ 1114111 := by have := (rune_iff low).1 hlow1; omega
    have HLR := hide hlow1
    have HQA := hide ((HA.out).suf (HTK.out).2)
    clear hs2 hlow1
    by_cases hq : q.head? = some 45
    · cases q with
      | nil => simp at hq
      | cons c q =>
        simp only [List.head?_cons, Option.some.injEq] at hq
        subst hq
        go_wp2_with fail
        refine (take_yes b s l _ _ d m _ HS.out).mono ?_
        rintro e wi ⟨rfl, hsi, hoi⟩
        replace HS := hide hsi
        replace HO := hide (HO.out.trans hoi)
        clear hsi hoi
        have HR2 : Hid (itemP r = (singleP low q).map fun b => [(low, b)]) := by show _ = _; rw [HR.out]; simp [Res.bind, rangeP]
        have HNU2 := hide (singleP_num (least := low) HQA.out.tail)
        go_wp2_with fail
        refine (single_any2 b s l d m _ q low HS.out).mono ?_
        rintro e w3 ⟨ho3, hd3⟩
        replace HO := hide (HO.out.trans ho3)
        clear ho3
        generalize singleP low q = R3 at HR2 hd3 HNU2
        cases R3 with
        | bad q3 =>
          obtain ⟨hs3, v, rfl⟩ := hd3
          have HS3 := hide hs3
          clear hs3
          go_wp2
          go_ret2
          exact ⟨HO.out, by rw [HR2.out]; exact ⟨HS3.out, rfl⟩⟩
        | ok high q3 =>
          obtain ⟨hs3, rfl⟩ := hd3
          obtain ⟨hh0, hh1⟩ := HNU2.out
          have hh2 : high ≤ 1114111 := by have := (rune_iff high).1 hh1; omega
          have hh3 : 0 ≤ high := by omega
          have HS3 := hide (hs3.alloc (.cells (cellsR [(low, high)]).toArray 149))
          have HN := hide (new_sla w3 [(low, high)])
          have HO3 := hide (HO.out.alloc (.cells (cellsR [(low, high)]).toArray 149))
          have HSZ := hide HO.out.size
          clear hs3 hh0 hh1
          go_wp2
          go_ret2
          refine ⟨HO3.out, by rw [HR2.out]; exact ⟨HS3.out, _, rfl, SlA.mono HN.out (fun k _ hk => Nat.le_trans HSZ.out hk)⟩⟩
    · have HR2 : Hid (itemP r = .ok [(low, low)] q) := by
        show _ = _
        rw [HR.out]
        cases q with
        | nil => rfl
        | cons c q =>
          have : ¬ c = 45 := by simpa using hq
          simp [Res.bind, rangeP, this]
      have HQ := hide hq
      clear hq
      go_wp2_with fail
      refine (take_no b s l _ _ d m _ HS.out (by decide) HQ.out).mono ?_
      rintro e wi ⟨rfl, hbi⟩
      replace HS := hide (HS.out.below hbi)
      replace HO := hide (HO.out.trans (Off.below hbi))
      clear hbi
      go_wp2_with fail
      rename_i w5
      refine (pone_any low _ hlow0 hlow2).mono ?_
      rintro e w6 ⟨v6, rfl, hv6, hb6⟩
      obtain ⟨ao, cap, rfl, _, _⟩ := hv6.sl.rd
      have HSZ := hide HO.out.size
      have HV6 : Hid (SlA w6 (New w) _ [(low, low)]) := hv6.mono (fun k _ hk => Nat.le_trans HSZ.out hk)
      have HS6 := hide (HS.out.below hb6)
      have HO6 := hide (HO.out.trans (Off.below hb6))
      clear hv6 hb6
      go_wp2
      go_ret2
      exact ⟨HO6.out, by rw [HR2.out]; exact ⟨HS6.out, _, rfl, HV6.out⟩⟩
theorem pitem_any (b : Nat) (s : ByteArray) (l : List Int) (d m : Int) (w : World) (r : List Int) (h : PSt w b s l r d m) : Calls Tryz.prog 306 #[.pointer (some ⟨b, 0, none⟩)] w fun e w' => Off b w w' ∧ DoneP b s l d m (itemP r) w' e (fun x e => okS w w' x e) badS := by
  by_cases hc : ClassAt r
  · obtain ⟨c, t, rfl, hc⟩ := hc
    exact item_yes b s l d m w c t h hc
  · exact item_no b s l d m w r h hc
end Go.Proofs.YtpoibdhhcbelnaaGreatDoor
/- The program's reader: what stands behind a backslash: a walk. -/
namespace Go.Proofs.YtpoibdhhcbelnaaGreatDoor
open Go.RowKit Brm

def escPat (e : Int ⊕ List (Int × Int)) : Pat := match e with | .inl a => .set [(a, a)] | .inr l => .set l
theorem esc_class {c : Int} {t : List Int} (h : isClass c = true) : (escP (c :: t)).map escPat = .ok (.set (classOf c)) t := by
  simp [escP, class_sign h, h, Res.map, escPat]
theorem esc_else {r : List Int} (h : ¬ ClassAt (92 :: r)) : (escP r).map escPat = (signR 0 r).map fun a => .set [(a, a)] := by
  unfold signR
  rw [if_pos (by decide)]
  cases r with
  | nil => rfl
  | cons x t =>
    simp only [escP, signP]
    cases hs : isSign x with
    | true =>
      have := sign_rune hs
      have h0 : (0 : Int) ≤ signOf x := by omega
      simp [Res.map, h0, escPat]
    | false =>
      cases hc : isClass x with
      | true => exact absurd ⟨x, t, rfl, hc⟩ h
      | false => simp [Res.map]
theorem max_same {m d : Int} (h : d ≤ m) : max m (d + ((0 : Nat) : Int)) = m := by omega
/-- A node of a set. -/
theorem pn_set {w0 w : World} {sv : Value} {x : List (Int × Int)} (hs : SlA w (New w0) sv x) (hw : w0.heap.size ≤ w.heap.size) : PN (w.alloc (.cells #[.int .i64 0, sv, .slice none 0 0, .int .i64 0, .int .i64 0] 76)) (New w0) (.set x) w.heap.size :=
  ⟨hw, sv, Blk.new w [.int .i64 0, sv, .slice none 0 0, .int .i64 0, .int .i64 0] 76, hs.keep (Keeps.alloc _ _ _)⟩
/-- What a set's node is handed back as. -/
theorem end_set {w0 w : World} {b : Nat} {s : ByteArray} {l r : List Int} {d m : Int} {sv : Value} {x : List (Int × Int)} (ho : Off b w0 w) (hs : SlA w (New w0) sv x) (hp : PSt w b s l r d m) :
    Off b w0 (w.alloc (.cells #[.int .i64 0, sv, .slice none 0 0, .int .i64 0, .int .i64 0] 76)) ∧ EndN b s l d m (.ok (.set x) r) w0 (w.alloc (.cells #[.int .i64 0, sv, .slice none 0 0, .int .i64 0, .int .i64 0] 76)) (.returned (.tuple #[Ptr w.heap.size, .bool true])) := by
  refine ⟨ho.alloc _, w.heap.size, rfl, pn_set hs ho.size, ?_⟩
  have h := hp.alloc (.cells #[.int .i64 0, sv, .slice none 0 0, .int .i64 0, .int .i64 0] 76)
  have hd : d ≤ m := hp.2.2.2.2.2.2.2.2.2.2
  show PSt _ b s l r d (max m (d + ((0 : Nat) : Int)))
  rw [max_same hd]
  exact h
set_option maxRecDepth 100000 in
set_option maxHeartbeats 400000 in
theorem escape_yes (b : Nat) (s : ByteArray) (l : List Int) (d m : Int) (w : World) (c : Int) (t : List Int) (h : PSt w b s l (92 :: c :: t) d m) (hc : isClass c = true) : PGives 284 b s l d m ((escP (c :: t)).map escPat) w := by
  have HC := hide (class_yes b s l d m w c t h hc)
  have HR := hide (esc_class (t := t) hc)
  clear h hc
  unfold PGives
  rw [HR.out]
  go_enter Tryz.func284, Tryz.ntmps284
  go_wp2_with fail
  refine HC.out.mono ?_
  rintro e w1 ⟨⟨v1, rfl, hv1⟩, hs1, ho1⟩
  obtain ⟨ao, cap, rfl, _, _⟩ := hv1.sl.rd
  have HE := hide (end_set ho1 hv1 hs1)
  clear hv1 hs1 ho1
  go_wp2
  go_ret2
  exact HE.out
set_option maxRecDepth 100000 in
set_option maxHeartbeats 400000 in
theorem escape_no (b : Nat) (s : ByteArray) (l : List Int) (d m : Int) (w : World) (r : List Int) (h : PSt w b s l (92 :: r) d m) (hc : ¬ ClassAt (92 :: r)) : PGives 284 b s l d m ((escP r).map escPat) w := by
  have HC := hide (class_no b s l d m w (92 :: r) h hc)
  have HR := hide (esc_else hc)
  have HNU := hide (signP_num 0 r)
  have HS := hide h
  have HO : Hid (Off b w w) := Off.refl _ _
  clear h hc
  have HSG := hide (fun w' hw => sign_any2 b s l d m w' r 0 hw)
  have hsr : signR 0 r = signP 0 r := if_pos (by decide)
  rw [hsr] at HSG HR
  clear hsr
  generalize signP 0 r = RR at HSG HNU HR
  generalize (escP r).map escPat = R at HR ⊢
  unfold PGives
  go_enter Tryz.func284, Tryz.ntmps284
  go_wp2_with fail
  refine HC.out.mono ?_
  rintro e wi ⟨rfl, hbi⟩
  replace HS := hide (HS.out.below hbi)
  replace HO := hide (HO.out.trans (Off.below hbi))
  clear hbi
  go_wp2_with fail
  refine (HSG.out _ HS.out).mono ?_
  rintro e w2 ⟨ho2, hd2⟩
  replace HO := hide (HO.out.trans ho2)
  clear ho2 HC
  cases RR with
  | bad q =>
    obtain ⟨hs2, v, rfl⟩ := hd2
    have HS2 := hide hs2
    clear hs2
    go_wp2
    go_ret2
    exact ⟨HO.out, by rw [HR.out]; exact ⟨rfl, _, HS2.out⟩⟩
  | ok low q =>
    obtain ⟨hs2, rfl⟩ := hd2
    replace HS := hide hs2
    obtain ⟨hlow0, hlow1⟩ := HNU.out
    have hlow2 : low ≤ 1114111 := by have := (rune_iff low).1 hlow1; omega
    clear hs2 hlow1
    go_wp2_with fail
    refine (pone_any low _ hlow0 hlow2).mono ?_
    rintro e w6 ⟨v6, rfl, hv6, hb6⟩
    obtain ⟨ao, cap, rfl, _, _⟩ := hv6.sl.rd
    have HE := hide (end_set (HO.out.trans (Off.below hb6)) (hv6.mono (A' := New w) (fun k _ hk => Nat.le_trans HO.out.size hk)) (HS.out.below hb6))
    clear hv6 hb6
    go_wp2
    go_ret2
    rw [HR.out]
    exact HE.out
theorem escape_any (b : Nat) (s : ByteArray) (l : List Int) (d m : Int) (w : World) (r : List Int) (h : PSt w b s l (92 :: r) d m) : PGives 284 b s l d m ((escP r).map escPat) w := by
  by_cases hc : ClassAt (92 :: r)
  · obtain ⟨c, t, e, hc⟩ := hc
    cases e
    exact escape_yes b s l d m w c t h hc
  · exact escape_no b s l d m w r h hc
end Go.Proofs.YtpoibdhhcbelnaaGreatDoor
/- The program's reader: brackets: a walk. -/
namespace Go.Proofs.YtpoibdhhcbelnaaGreatDoor
open Go.RowKit Brm

/-- Brackets, item by item. -/
def BrP (w : World) (b : Nat) (s : ByteArray) (l : List Int) (d m : Int) (R : Res (List (Int × Int))) (k : Nat) (v : Value) (wr : World) : Prop :=
  Off b w wr ∧ ∃ l0 s0, PSt wr b s l s0 d m ∧ wr.ownsRow w.heap.size 149 2 v l0.length (cellsR l0) ∧ itemsP k l0 s0 = R ∧ (∀ x ∈ l0, okB x = true) ∧ l0.length + 5 * s0.length ≤ 400 ∧ s0.length < k
theorem range_ne {a : Int} {t q : List Int} {x : List (Int × Int)} (h : rangeP a t = .ok x q) : x ≠ [] := by
  cases t with
  | nil => simp [rangeP] at h; rw [← h.1]; simp
  | cons e t =>
    simp only [rangeP] at h
    split at h
    · cases hs : singleP a t with
      | bad q => rw [hs] at h; simp [Res.map] at h
      | ok y q => rw [hs] at h; simp [Res.map] at h; rw [← h.1]; simp
    · simp at h; rw [← h.1]; simp
theorem class_ne {c : Int} (h : isClass c = true) : classOf c ≠ [] := by
  rcases class_cases h with rfl | rfl | rfl | rfl | rfl | rfl <;> decide
theorem item_ne {r q : List Int} {x : List (Int × Int)} (h : itemP r = .ok x q) : x ≠ [] := by
  cases r with
  | nil => simp [itemP] at h
  | cons c t =>
    simp only [itemP] at h
    split at h
    · cases t with
      | nil => simp [escP, Res.bind] at h
      | cons y t =>
        simp only [escP] at h
        split at h
        · exact range_ne h
        · split at h
          · rename_i hc
            simp [Res.bind] at h
            rw [← h.1]; exact class_ne hc
          · simp [Res.bind] at h
    · split at h
      · simp at h
      · exact range_ne h
theorem own_catR {w : World} {B : Nat} {v : Value} {a c : List (Int × Int)} (h : w.ownsRow B 149 2 v (a.length + c.length) (cellsR a ++ cellsR c)) : w.ownsRow B 149 2 v (a ++ c).length (cellsR (a ++ c)) := by
  rw [List.length_append, cellsR_append]; exact h
/-- The reader's state behind the growth of another row. -/
theorem PSt.grown {w w' : World} {b : Nat} {s : ByteArray} {l r : List Int} {d m : Int} {row : Option Nat} (h : PSt w b s l r d m) (hg : w.grownBy w' row) (hr : ∀ k, row = some k → b < k) : PSt w' b s l r d m := by
  have h7 := h.2.2.2.2.2.1
  refine ⟨Blk.grown h.1 hg (fun e => by have := hr b e.symm; omega), h.2.1, h.2.2.1, h.2.2.2.1, ?_, h.2.2.2.2.2⟩
  have hT := h.2.2.2.2.1
  exact ⟨Nat.le_trans hT.1 hg.size, fun W hW => hT.2 W (fun k hk => (hW k hk).trans (hg.block k (by have := hT.1; omega) (fun e => by have := hr k e.symm; omega)))⟩
set_option maxRecDepth 100000 in
set_option maxHeartbeats 1000000 in
theorem bracket_not (b : Nat) (s : ByteArray) (l : List Int) (d m : Int) (w : World) (s1 : List Int) (h : PSt w b s l (91 :: 94 :: s1) d m) : PGives 285 b s l d m (((itemsP (s1.length + 2) [] s1).map (fun x => notC (form x))).map .set) w := by
  have HS := hide h
  have HO := hide (Off.refl b w)
  have HBb := hide h.1.lt
  have hs60 := h.2.2.2.1
  have hl60 : l.length ≤ 60 := by have := runes_len h.2.2.1; rw [bytes_len] at this; omega
  have hsl := h.2.1.length_le
  skip
  clear h
  obtain ⟨i0, hi, hz0, hz1, hz2⟩ := info_parts Tryz.info149
  generalize hR : itemsP (s1.length + 2) [] s1 = R
  have HR0 := hide hR
  clear hR
  unfold PGives
  go_enter Tryz.func285, Tryz.ntmps285
  go_wp2_with (first
    | (go_at_call 207; refine (step_any b s l _ _ d m _ HS.out).mono ?_; rintro e wt ⟨rfl, hst, hot⟩; replace HS := hide hst; replace HO := hide (HO.out.trans hot); clear hst hot)
    | (go_at_call 159; refine (take_yes b s l _ _ d m _ HS.out).mono ?_; rintro e wt ⟨rfl, hst, hot⟩; replace HS := hide hst; replace HO := hide (HO.out.trans hot); clear hst hot))
  go_loopg [5] (s1.length + 2) (fun k v wr => BrP w b s l d m R k v wr)
  case atStart => exact ⟨HO.out, [], s1, HS.out, World.ownsRow_nil _ _ _ _, HR0.out, by simp, by simp at hsl ⊢; omega, by omega⟩
  case round =>
    clear HO HS HR0
    obtain ⟨ho, l0, s0, hst, hown, heq, hok, hle, hk⟩ := hrel
    have hall := (runes_all hst.2.2.1).suf hst.2.1
    have HO := hide ho
    have HS := hide hst
    have HOWN := hide hown
    have HE := hide heq
    have HOK := hide hok
    have HLE := hide hle
    clear ho hst heq hok
    obtain ⟨k', rfl⟩ : ∃ k', gk = k' + 1 := ⟨gk - 1, by omega⟩
    by_cases h93 : s0.head? = some 93
    · obtain ⟨u, rfl⟩ : ∃ u, s0 = 93 :: u := ⟨_, head_cons h93⟩
      have HR : Hid ((R.map (fun x => notC (form x))).map Pat.set = .ok (.set ((fun x => notC (form x)) l0)) u) := by
        have := HE.out
        simp only [itemsP, List.head?_cons, if_true, List.tail_cons] at this
        show _ = _
        rw [← this]; rfl
      clear h93 hall hown
      have HLN : Hid (l0.length ≤ 1000000) := by show _ ≤ _; omega
      go_wp2_with fail
      refine (take_yes b s l _ _ d m _ HS.out).mono ?_
      rintro e wt ⟨rfl, hst, hot⟩
      have HOW2 := hide (own_block HOWN.out (fun q hq => hot.block q (HOWN.out.lt q hq).2 (by have := (HOWN.out.lt q hq).1; have := HBb.out; omega)))
      replace HS := hide hst
      replace HO := hide (HO.out.trans hot)
      clear hst hot
      obtain ⟨ao, cap, rfl, _, hrd⟩ := own_rd HOW2.out
      have HRD := hide hrd
      clear hrd
      go_wp2_with fail
      refine (pnot_set ao l0 cap _ HRD.out HLN.out HOK.out).mono ?_
      rintro e w6 ⟨v6, rfl, hv6, hb6⟩
      obtain ⟨ao6, cap6, rfl, _, _⟩ := hv6.sl.rd
      have HEN := hide (end_set (HO.out.trans (Off.below hb6)) (hv6.mono (A' := New w) (fun k _ hk => Nat.le_trans HO.out.size hk)) (HS.out.below hb6))
      clear hv6 hb6
      go_wp2
      go_ret2
      rw [HR.out]
      exact HEN.out
    · have HN93 := hide h93
      have hl1 := itemP_list hall
      have htk := itemP_takes s0
      cases hit : itemP s0 with
      | bad s2 =>
        have HRI := hide hit
        have HRB : Hid ((R.map (fun x => notC (form x))).map Pat.set = .bad s2) := by
          have := HE.out
          simp only [itemsP, if_neg h93, hit, Res.bind] at this
          show _ = _
          rw [← this]; rfl
        clear hit hl1 htk h93 hall hown
        go_wp2_with fail
        refine (take_no b s l _ _ d m _ HS.out (by decide) HN93.out).mono ?_
        rintro e wt ⟨rfl, hbt⟩
        replace HS := hide (HS.out.below hbt)
        replace HO := hide (HO.out.trans (Off.below hbt))
        clear hbt
        go_wp2_with fail
        refine (pitem_any b s l d m _ s0 HS.out).mono ?_
        rintro e wi ⟨hoi, hdi⟩
        rw [HRI.out] at hdi
        obtain ⟨hst, rfl⟩ := hdi
        replace HS := hide hst
        replace HO := hide (HO.out.trans hoi)
        clear hst hoi
        go_wp2
        go_ret2
        exact ⟨HO.out, by rw [HRB.out]; exact ⟨rfl, _, HS.out⟩⟩
      | ok x s2 =>
        have HRI := hide hit
        have hne := item_ne hit
        rw [hit] at hl1 htk
        have HX0 := hide hl1
        have HE2 : Hid (itemsP k' (l0 ++ x) s2 = R) := by
          have := HE.out
          simp only [itemsP, if_neg h93, hit, Res.bind] at this
          exact this
        have HLT := hide htk.1
        have hx9 : x.length ≤ 400 := by have := hl1.2; simp at this; omega
        have HX9 := hide hx9
        have hl9 : l0.length ≤ 400 := by omega
        have HL9 := hide hl9
        clear hit hl1 htk h93 hall hown hx9 hl9
        go_wp2_with fail
        refine (take_no b s l _ _ d m _ HS.out (by decide) HN93.out).mono ?_
        rintro e wt ⟨rfl, hbt⟩
        replace HOWN := hide (own_block HOWN.out (fun q hq => hbt.block q (HOWN.out.lt q hq).2))
        replace HS := hide (HS.out.below hbt)
        replace HO := hide (HO.out.trans (Off.below hbt))
        clear hbt
        go_wp2_with fail
        refine (pitem_any b s l d m _ s0 HS.out).mono ?_
        rintro e wi ⟨hoi, hdi⟩
        rw [HRI.out] at hdi
        obtain ⟨hst, vx, rfl, hvx⟩ := hdi
        replace HOWN := hide (own_block HOWN.out (fun q hq => hoi.block q (HOWN.out.lt q hq).2 (by have := (HOWN.out.lt q hq).1; have := HBb.out; omega)))
        replace HS := hide hst
        replace HO := hide (HO.out.trans hoi)
        clear hst hoi
        rcases hvx with ⟨_, e0⟩ | ⟨bb, oo, cc, rfl, hcc, hnew, hblt, hrd⟩
        · exact absurd e0 hne
        have HSC := hide (src_cells hrd (Below.refl _ _) rfl)
        have hsz := HO.out.size
        clear hrd hnew hblt hne hcc
        go_wp2_with (at_builtin; refine wpList_append_own _ rfl _ _ 29 rfl w.heap.size 149 i0 (.agg #[.int .i64 0, .int .i64 0]) 2 16 Tryz.underlying29 hi hz0 hz1 hz2 rfl (by decide) _ _ _ rfl HOWN.out ⟨bb, oo, none⟩ x.length cc (cellsR x) rfl (cellsR_length x) HSC.out (src_one x) (by unfold maxLen; have := HX9.out; have := HL9.out; omega) (by have := HX9.out; have := HL9.out; omega) hsz ?_; intro v3 w3 ho3 hg3 hnil3; have HW3 := hide (own_catR ho3); have HG3 := hide hg3; clear ho3 hg3 hnil3)
        go_roundg k'
        case measure => omega
        case rel =>
          refine ⟨HO.out.grown HG3.out (fun q e => (HOWN.out.lt q e).1), l0 ++ x, s2, ?_, HW3.out, HE2.out, ?_, ?_, ?_⟩
          · exact HS.out.grown HG3.out (fun q e => by have := (HOWN.out.lt q e).1; have := HBb.out; omega)
          · intro y hy
            rcases List.mem_append.1 hy with hy | hy
            · exact HOK.out y hy
            · exact HX0.out.1 y hy
          · have := HLE.out; have := HX0.out.2; rw [List.length_append]; omega
          · have := HLT.out; omega
set_option maxRecDepth 100000 in
set_option maxHeartbeats 1000000 in
theorem bracket_yes (b : Nat) (s : ByteArray) (l : List Int) (d m : Int) (w : World) (s1 : List Int) (h : PSt w b s l (91 :: s1) d m) (hn : s1.head? ≠ some 94) : PGives 285 b s l d m (((itemsP (s1.length + 2) [] s1).map form).map .set) w := by
  have HS := hide h
  have HO := hide (Off.refl b w)
  have HBb := hide h.1.lt
  have hs60 := h.2.2.2.1
  have hl60 : l.length ≤ 60 := by have := runes_len h.2.2.1; rw [bytes_len] at this; omega
  have hsl := h.2.1.length_le
  have HN := hide hn; clear hn
  clear h
  obtain ⟨i0, hi, hz0, hz1, hz2⟩ := info_parts Tryz.info149
  generalize hR : itemsP (s1.length + 2) [] s1 = R
  have HR0 := hide hR
  clear hR
  unfold PGives
  go_enter Tryz.func285, Tryz.ntmps285
  go_wp2_with (first
    | (go_at_call 207; refine (step_any b s l _ _ d m _ HS.out).mono ?_; rintro e wt ⟨rfl, hst, hot⟩; replace HS := hide hst; replace HO := hide (HO.out.trans hot); clear hst hot)
    | (go_at_call 159; refine (take_no b s l _ _ d m _ HS.out (by decide) HN.out).mono ?_; rintro e wt ⟨rfl, hbt⟩; replace HS := hide (HS.out.below hbt); replace HO := hide (HO.out.trans (Off.below hbt)); clear hbt))
  go_loopg [5] (s1.length + 2) (fun k v wr => BrP w b s l d m R k v wr)
  case atStart => exact ⟨HO.out, [], s1, HS.out, World.ownsRow_nil _ _ _ _, HR0.out, by simp, by simp at hsl ⊢; omega, by omega⟩
  case round =>
    clear HO HS HR0
    obtain ⟨ho, l0, s0, hst, hown, heq, hok, hle, hk⟩ := hrel
    have hall := (runes_all hst.2.2.1).suf hst.2.1
    have HO := hide ho
    have HS := hide hst
    have HOWN := hide hown
    have HE := hide heq
    have HOK := hide hok
    have HLE := hide hle
    clear ho hst heq hok
    obtain ⟨k', rfl⟩ : ∃ k', gk = k' + 1 := ⟨gk - 1, by omega⟩
    by_cases h93 : s0.head? = some 93
    · obtain ⟨u, rfl⟩ : ∃ u, s0 = 93 :: u := ⟨_, head_cons h93⟩
      have HR : Hid ((R.map form).map Pat.set = .ok (.set (form l0)) u) := by
        have := HE.out
        simp only [itemsP, List.head?_cons, if_true, List.tail_cons] at this
        show _ = _
        rw [← this]; rfl
      clear h93 hall hown
      have HLN : Hid (l0.length ≤ 1000000) := by show _ ≤ _; omega
      go_wp2_with fail
      refine (take_yes b s l _ _ d m _ HS.out).mono ?_
      rintro e wt ⟨rfl, hst, hot⟩
      have HOW2 := hide (own_block HOWN.out (fun q hq => hot.block q (HOWN.out.lt q hq).2 (by have := (HOWN.out.lt q hq).1; have := HBb.out; omega)))
      replace HS := hide hst
      replace HO := hide (HO.out.trans hot)
      clear hst hot
      obtain ⟨ao, cap, rfl, _, hrd⟩ := own_rd HOW2.out
      have HRD := hide hrd
      clear hrd
      go_wp2_with fail
      refine (form_set ao l0 cap _ HRD.out HLN.out HOK.out).mono ?_
      rintro e w6 ⟨v6, rfl, hv6, hb6⟩
      obtain ⟨ao6, cap6, rfl, _, _⟩ := hv6.sl.rd
      have HEN := hide (end_set (HO.out.trans (Off.below hb6)) (hv6.mono (A' := New w) (fun k _ hk => Nat.le_trans HO.out.size hk)) (HS.out.below hb6))
      clear hv6 hb6
      go_wp2
      go_ret2
      rw [HR.out]
      exact HEN.out
    · have HN93 := hide h93
      have hl1 := itemP_list hall
      have htk := itemP_takes s0
      cases hit : itemP s0 with
      | bad s2 =>
        have HRI := hide hit
        have HRB : Hid ((R.map form).map Pat.set = .bad s2) := by
          have := HE.out
          simp only [itemsP, if_neg h93, hit, Res.bind] at this
          show _ = _
          rw [← this]; rfl
        clear hit hl1 htk h93 hall hown
        go_wp2_with fail
        refine (take_no b s l _ _ d m _ HS.out (by decide) HN93.out).mono ?_
        rintro e wt ⟨rfl, hbt⟩
        replace HS := hide (HS.out.below hbt)
        replace HO := hide (HO.out.trans (Off.below hbt))
        clear hbt
        go_wp2_with fail
        refine (pitem_any b s l d m _ s0 HS.out).mono ?_
        rintro e wi ⟨hoi, hdi⟩
        rw [HRI.out] at hdi
        obtain ⟨hst, rfl⟩ := hdi
        replace HS := hide hst
        replace HO := hide (HO.out.trans hoi)
        clear hst hoi
        go_wp2
        go_ret2
        exact ⟨HO.out, by rw [HRB.out]; exact ⟨rfl, _, HS.out⟩⟩
      | ok x s2 =>
        have HRI := hide hit
        have hne := item_ne hit
        rw [hit] at hl1 htk
        have HX0 := hide hl1
        have HE2 : Hid (itemsP k' (l0 ++ x) s2 = R) := by
          have := HE.out
          simp only [itemsP, if_neg h93, hit, Res.bind] at this
          exact this
        have HLT := hide htk.1
        have hx9 : x.length ≤ 400 := by have := hl1.2; simp at this; omega
        have HX9 := hide hx9
        have hl9 : l0.length ≤ 400 := by omega
        have HL9 := hide hl9
        clear hit hl1 htk h93 hall hown hx9 hl9
        go_wp2_with fail
        refine (take_no b s l _ _ d m _ HS.out (by decide) HN93.out).mono ?_
        rintro e wt ⟨rfl, hbt⟩
        replace HOWN := hide (own_block HOWN.out (fun q hq => hbt.block q (HOWN.out.lt q hq).2))
        replace HS := hide (HS.out.below hbt)
        replace HO := hide (HO.out.trans (Off.below hbt))
        clear hbt
        go_wp2_with fail
        refine (pitem_any b s l d m _ s0 HS.out).mono ?_
        rintro e wi ⟨hoi, hdi⟩
        rw [HRI.out] at hdi
        obtain ⟨hst, vx, rfl, hvx⟩ := hdi
        replace HOWN := hide (own_block HOWN.out (fun q hq => hoi.block q (HOWN.out.lt q hq).2 (by have := (HOWN.out.lt q hq).1; have := HBb.out; omega)))
        replace HS := hide hst
        replace HO := hide (HO.out.trans hoi)
        clear hst hoi
        rcases hvx with ⟨_, e0⟩ | ⟨bb, oo, cc, rfl, hcc, hnew, hblt, hrd⟩
        · exact absurd e0 hne
        have HSC := hide (src_cells hrd (Below.refl _ _) rfl)
        have hsz := HO.out.size
        clear hrd hnew hblt hne hcc
        go_wp2_with (at_builtin; refine wpList_append_own _ rfl _ _ 29 rfl w.heap.size 149 i0 (.agg #[.int .i64 0, .int .i64 0]) 2 16 Tryz.underlying29 hi hz0 hz1 hz2 rfl (by decide) _ _ _ rfl HOWN.out ⟨bb, oo, none⟩ x.length cc (cellsR x) rfl (cellsR_length x) HSC.out (src_one x) (by unfold maxLen; have := HX9.out; have := HL9.out; omega) (by have := HX9.out; have := HL9.out; omega) hsz ?_; intro v3 w3 ho3 hg3 hnil3; have HW3 := hide (own_catR ho3); have HG3 := hide hg3; clear ho3 hg3 hnil3)
        go_roundg k'
        case measure => omega
        case rel =>
          refine ⟨HO.out.grown HG3.out (fun q e => (HOWN.out.lt q e).1), l0 ++ x, s2, ?_, HW3.out, HE2.out, ?_, ?_, ?_⟩
          · exact HS.out.grown HG3.out (fun q e => by have := (HOWN.out.lt q e).1; have := HBb.out; omega)
          · intro y hy
            rcases List.mem_append.1 hy with hy | hy
            · exact HOK.out y hy
            · exact HX0.out.1 y hy
          · have := HLE.out; have := HX0.out.2; rw [List.length_append]; omega
          · have := HLT.out; omega
theorem bracket_any (b : Nat) (s : ByteArray) (l : List Int) (d m : Int) (w : World) (r : List Int) (h : PSt w b s l (91 :: r) d m) : PGives 285 b s l d m ((bracketP r).map .set) w := by
  unfold bracketP
  by_cases h94 : r.head? = some 94
  · obtain ⟨u, rfl⟩ : ∃ u, r = 94 :: u := ⟨_, head_cons h94⟩
    simp only [List.head?_cons, if_true, List.tail_cons, List.length_cons]
    exact bracket_not b s l d m w u h
  · rw [if_neg h94]
    have := bracket_yes b s l d m w r h h94
    rw [← itemsP_more (r.length + 1) [] r (Nat.lt_succ_self _)] at this
    exact this
end Go.Proofs.YtpoibdhhcbelnaaGreatDoor
/- The program's reader: one deeper: a walk. -/
namespace Go.Proofs.YtpoibdhhcbelnaaGreatDoor
open Go.RowKit Brm

theorem PSt.deeper {w : World} {b : Nat} {s : ByteArray} {l r : List Int} {d m : Int} (h : PSt w b s l r d m) (h1 : d + 1 ≤ ((l.length - r.length : Nat) : Int)) : PSt ((w.setCell ⟨b, 2, none⟩ (.int .i64 (d + 1))).setCell ⟨b, 3, none⟩ (.int .i64 (max m (d + 1)))) b s l r (d + 1) (max m (d + 1)) := by
  have hb := h.2.2.2.2.2
  exact ⟨(Blk.set h.1 2 _).set 3 _, h.2.1, h.2.2.1, h.2.2.2.1, h.2.2.2.2.1.off (((Off.refl b w).setCell 2 _).setCell 3 _) hb.1, by omega⟩
theorem PSt.setD {w : World} {b : Nat} {s : ByteArray} {l r : List Int} {d m : Int} (h : PSt w b s l r d m) (x : Int) (h0 : 0 ≤ x) (h1 : x ≤ d) : PSt (w.setCell ⟨b, 2, none⟩ (.int .i64 x)) b s l r x m := by
  have hb := h.2.2.2.2.2
  exact ⟨Blk.set h.1 2 _, h.2.1, h.2.2.1, h.2.2.2.1, h.2.2.2.2.1.off ((Off.refl b w).setCell 2 _) hb.1, by omega⟩
theorem PSt.facts {w : World} {b : Nat} {s : ByteArray} {l r : List Int} {d m : Int} (h : PSt w b s l r d m) : 0 ≤ d ∧ d ≤ 60 ∧ 0 ≤ m ∧ m ≤ 60 := by
  have := h.2.2.2.2.2; have h1 := runes_len h.2.2.1; rw [bytes_len] at h1; have := h.2.2.2.1; omega
theorem PSt.drew {w : World} {b : Nat} {s : ByteArray} {l r : List Int} {d m : Int} (h : PSt w b s l r d m) : PSt w.drew b s l r d m := h
/-- A node with one part in it. -/
theorem end_wrap {w0 w : World} {b x : Nat} {s : ByteArray} {l r : List Int} {d m M : Int} {p q : Pat} {K mm nn : Int} (ho : Off b w0 w) (hp : PN w (New w0) p x) (hs : PSt w b s l r d M)
    (hq : ∀ (w' : World) (y : Nat) (lv : Value), New w0 y → Blk w' y [.int .i64 K, .slice none 0 0, lv, .int .i64 mm, .int .i64 nn] 76 → Own w' (New w0) 65 1 lv 1 [Ptr x] → PN w' (New w0) p x → PN w' (New w0) q y) (hM : M = max m (d + q.deep)) :
    Off b w0 ((w.alloc (.cells #[Ptr x] 65)).alloc (.cells #[.int .i64 K, .slice none 0 0, .slice (some ⟨w.heap.size, 0, none⟩) 1 1, .int .i64 mm, .int .i64 nn] 76)) ∧
    EndN b s l d m (.ok q r) w0 ((w.alloc (.cells #[Ptr x] 65)).alloc (.cells #[.int .i64 K, .slice none 0 0, .slice (some ⟨w.heap.size, 0, none⟩) 1 1, .int .i64 mm, .int .i64 nn] 76)) (.returned (.tuple #[Ptr (w.heap.size + 1), .bool true])) := by
  refine ⟨(ho.alloc _).alloc _, w.heap.size + 1, rfl, ?_, ?_⟩
  · have e : (w.alloc (.cells #[Ptr x] 65)).heap.size = w.heap.size + 1 := by simp
    have hb := Blk.new (w.alloc (.cells #[Ptr x] 65)) [.int .i64 K, .slice none 0 0, .slice (some ⟨w.heap.size, 0, none⟩) 1 1, .int .i64 mm, .int .i64 nn] 76
    rw [e] at hb
    have hz := ho.size
    refine hq _ _ (.slice (some ⟨w.heap.size, 0, none⟩) 1 1) (by show w0.heap.size ≤ w.heap.size + 1; omega) hb ?_ ?_
    · exact ((own_ptr w x).mono (A' := New w0) (fun g _ hg => Nat.le_trans hz hg)).keep (Keeps.alloc _ _ _)
    · exact PN.keep ((Keeps.alloc _ _ _).trans (Keeps.alloc _ _ _)) p x hp
  · rw [← hM]; exact (hs.alloc _).alloc _
set_option maxRecDepth 100000 in
set_option maxHeartbeats 1000000 in
theorem inside_not (b : Nat) (s : ByteArray) (l : List Int) (d m : Int) (w : World) (r : List Int) (R : Res Pat) (h : PSt w b s l r d m) (hd : d + 1 ≤ ((l.length - r.length : Nat) : Int))
    (hc : ∀ w', PSt w' b s l r (d + 1) (max m (d + 1)) → PGives 209 b s l (d + 1) (max m (d + 1)) R w') :
    Calls Tryz.prog 241 #[.pointer (some ⟨b, 0, none⟩), .int .i64 4, .func (.func 209) #[.pointer (some ⟨b, 0, none⟩)] #[]] w fun e w' => Off b w w' ∧ EndN b s l d m (R.map Pat.not) w w' e := by
  have HS := hide h
  have HD := hide hd
  obtain ⟨f1, f2, f3, f4⟩ := h.facts
  obtain ⟨c0, c1, c2, c3, hb⟩ := h.cells
  have hf2 := h.1.frozen 2
  have hf3 := h.1.frozen 3
  have HC := hide (hc ((w.setCell ⟨b, 2, none⟩ (.int .i64 (d + 1))).setCell ⟨b, 3, none⟩ (.int .i64 (max m (d + 1)))).drew (h.deeper hd).drew)
  have HOD : Hid (Off b w ((w.setCell ⟨b, 2, none⟩ (.int .i64 (d + 1))).setCell ⟨b, 3, none⟩ (.int .i64 (max m (d + 1)))).drew) := (((Off.refl b w).setCell 2 _).setCell 3 _).drew
  clear h hd hc c0 c1
  go_enter Tryz.func241, Tryz.ntmps241
  go_wp2_with fail
  go_region
  go_wp2_with fail
  refine HC.out.mono ?_
  rintro e w1 ⟨ho1, he1⟩
  have HO := hide (HOD.out.trans ho1)
  clear ho1 c2 c3 hf2 hf3
  generalize hW : ((w.setCell ⟨b, 2, none⟩ (.int .i64 (d + 1))).setCell ⟨b, 3, none⟩ (.int .i64 (max m (d + 1)))).drew = W1 at HC HOD he1
  have HWZ : Hid (w.heap.size ≤ W1.heap.size) := HOD.out.size
  clear hW
  cases R with
  | bad q =>
    obtain ⟨rfl, m', hs1⟩ := he1
    obtain ⟨c0, c1, c2, c3, hb1⟩ := hs1.cells
    have hf2 := hs1.1.frozen 2
    have HS1 := hide (hs1.setD d f1 (by omega))
    have HO1 := hide (HO.out.setCell 2 (.int .i64 d))
    have e1 : d + 1 - 1 = d := by omega
    clear hs1 c0 c1 c3
    go_wp2
    go_ret2
    exact ⟨HO1.out, rfl, _, HS1.out⟩
  | ok p q =>
    obtain ⟨x, rfl, hp1, hs1⟩ := he1
    obtain ⟨c0, c1, c2, c3, hb1⟩ := hs1.cells
    have hf2 := hs1.1.frozen 2
    have hs2 := hs1.setD d f1 (by omega)
    have hp2 : PN (w1.setCell ⟨b, 2, none⟩ (.int .i64 d)) (New w) p x := PN.keep (Keeps.set _ (by show ¬ w.heap.size ≤ b; omega)) p x (PN.mono (fun k _ hk => Nat.le_trans HWZ.out hk) p x hp1)
    have HEN := hide (end_wrap (m := m) (q := Pat.not p) (K := 4) (mm := 0) (nn := 0) (HO.out.setCell 2 (.int .i64 d)) hp2 hs2 (fun w' y lv hy hb ho hp => ⟨hy, lv, x, hb, ho, hp⟩) (by simp only [Pat.deep]; omega))
    have hsz : (w1.setCell ⟨b, 2, none⟩ (.int .i64 d)).heap.size = w1.heap.size := by simp [World.setCell]
    rw [hsz] at HEN
    have e1 : d + 1 - 1 = d := by omega
    clear hs1 hs2 hp2 hp1 c0 c1 c3 hsz
    go_wp2
    go_ret2
    exact HEN.out
set_option maxRecDepth 100000 in
set_option maxHeartbeats 1000000 in
theorem inside_or (b : Nat) (s : ByteArray) (l : List Int) (d m : Int) (w : World) (r : List Int) (R : Res Pat) (h : PSt w b s l r d m) (hd : d + 1 ≤ ((l.length - r.length : Nat) : Int))
    (hc : ∀ w', PSt w' b s l r (d + 1) (max m (d + 1)) → PGives 58 b s l (d + 1) (max m (d + 1)) R w') :
    Calls Tryz.prog 241 #[.pointer (some ⟨b, 0, none⟩), .int .i64 6, .func (.func 58) #[.pointer (some ⟨b, 0, none⟩)] #[]] w fun e w' => Off b w w' ∧ EndN b s l d m (R.map Pat.group) w w' e := by
  have HS := hide h
  have HD := hide hd
  obtain ⟨f1, f2, f3, f4⟩ := h.facts
  obtain ⟨c0, c1, c2, c3, hb⟩ := h.cells
  have hf2 := h.1.frozen 2
  have hf3 := h.1.frozen 3
  have HC := hide (hc ((w.setCell ⟨b, 2, none⟩ (.int .i64 (d + 1))).setCell ⟨b, 3, none⟩ (.int .i64 (max m (d + 1)))).drew (h.deeper hd).drew)
  have HOD : Hid (Off b w ((w.setCell ⟨b, 2, none⟩ (.int .i64 (d + 1))).setCell ⟨b, 3, none⟩ (.int .i64 (max m (d + 1)))).drew) := (((Off.refl b w).setCell 2 _).setCell 3 _).drew
  clear h hd hc c0 c1
  go_enter Tryz.func241, Tryz.ntmps241
  go_wp2_with fail
  go_region
  go_wp2_with fail
  refine HC.out.mono ?_
  rintro e w1 ⟨ho1, he1⟩
  have HO := hide (HOD.out.trans ho1)
  clear ho1 c2 c3 hf2 hf3
  generalize hW : ((w.setCell ⟨b, 2, none⟩ (.int .i64 (d + 1))).setCell ⟨b, 3, none⟩ (.int .i64 (max m (d + 1)))).drew = W1 at HC HOD he1
  have HWZ : Hid (w.heap.size ≤ W1.heap.size) := HOD.out.size
  clear hW
  cases R with
  | bad q =>
    obtain ⟨rfl, m', hs1⟩ := he1
    obtain ⟨c0, c1, c2, c3, hb1⟩ := hs1.cells
    have hf2 := hs1.1.frozen 2
    have HS1 := hide (hs1.setD d f1 (by omega))
    have HO1 := hide (HO.out.setCell 2 (.int .i64 d))
    have e1 : d + 1 - 1 = d := by omega
    clear hs1 c0 c1 c3
    go_wp2
    go_ret2
    exact ⟨HO1.out, rfl, _, HS1.out⟩
  | ok p q =>
    obtain ⟨x, rfl, hp1, hs1⟩ := he1
    obtain ⟨c0, c1, c2, c3, hb1⟩ := hs1.cells
    have hf2 := hs1.1.frozen 2
    have hs2 := hs1.setD d f1 (by omega)
    have hp2 : PN (w1.setCell ⟨b, 2, none⟩ (.int .i64 d)) (New w) p x := PN.keep (Keeps.set _ (by show ¬ w.heap.size ≤ b; omega)) p x (PN.mono (fun k _ hk => Nat.le_trans HWZ.out hk) p x hp1)
    have HEN := hide (end_wrap (m := m) (q := Pat.group p) (K := 6) (mm := 0) (nn := 0) (HO.out.setCell 2 (.int .i64 d)) hp2 hs2 (fun w' y lv hy hb ho hp => ⟨hy, lv, x, hb, ho, hp⟩) (by simp only [Pat.deep]; omega))
    have hsz : (w1.setCell ⟨b, 2, none⟩ (.int .i64 d)).heap.size = w1.heap.size := by simp [World.setCell]
    rw [hsz] at HEN
    have e1 : d + 1 - 1 = d := by omega
    clear hs1 hs2 hp2 hp1 c0 c1 c3 hsz
    go_wp2
    go_ret2
    exact HEN.out
end Go.Proofs.YtpoibdhhcbelnaaGreatDoor
/- The program's reader: groups, atoms: walks. -/
namespace Go.Proofs.YtpoibdhhcbelnaaGreatDoor
open Go.RowKit Brm

set_option maxRecDepth 100000 in
set_option maxHeartbeats 1000000 in
theorem group_any (n : Nat) (ih : POrOk n) (b : Nat) (s : ByteArray) (l : List Int) (d m : Int) (w : World) (r : List Int) (h : PSt w b s l (40 :: r) d m) (hn : r.length < n) : PGives 286 b s l d m ((orN true n r).bind fun p q => closeP (.group p) 41 q) w := by
  have HS := hide h
  have HO : Hid (Off b w w) := Off.refl _ _
  have hd : d + 1 ≤ ((l.length - r.length : Nat) : Int) := by have h1 := h.2.2.2.2.2; have h2 := h.2.1.length_le; simp only [List.length_cons] at h1 h2; omega
  have HBb := hide h.lt
  have HC := hide (fun (w' : World) (hw : PSt w' b s l r d m) => inside_or b s l d m w' r (orN true n r) hw hd (fun w2 hw2 => ih b s l r (d + 1) (max m (d + 1)) w2 hw2 hn))
  clear h hd
  generalize orN true n r = RR at HC ⊢
  obtain ⟨R, HM⟩ : ∃ R : Res Pat, Hid (R = RR.bind fun p q => closeP (Pat.group p) 41 q) := ⟨_, rfl⟩
  rw [← HM.out]
  unfold PGives
  go_enter Tryz.func286, Tryz.ntmps286
  go_wp2_with fail
  refine (step_any b s l _ _ d m _ HS.out).mono ?_
  rintro e w1 ⟨rfl, hsi, hoi⟩
  replace HS := hide hsi
  replace HO := hide (HO.out.trans hoi)
  clear hsi hoi
  go_wp2_with fail
  refine (HC.out _ HS.out).mono ?_
  rintro e w2 ⟨ho2, he2⟩
  have HZ1 := hide HO.out.size
  replace HO := hide (HO.out.trans ho2)
  clear ho2
  cases RR with
  | bad q =>
    obtain ⟨rfl, m', hs2⟩ := he2
    have HS2 := hide hs2
    clear hs2
    go_wp2
    go_ret2
    exact ⟨HO.out, by rw [HM.out]; exact ⟨rfl, _, HS2.out⟩⟩
  | ok p q =>
    obtain ⟨x, rfl, hp2, hs2⟩ := he2
    have HS2 := hide hs2
    have HP2 := hide (PN.mono (A' := New w) (fun k _ hk => Nat.le_trans HZ1.out hk) (.group p) x hp2)
    clear hs2 hp2
    by_cases hq : q.head? = some 41
    · obtain ⟨u, rfl⟩ : ∃ u, q = 41 :: u := ⟨_, head_cons hq⟩
      have HR : Hid ((Res.ok p (41 :: u)).bind (fun p q => closeP (Pat.group p) 41 q) = .ok (Pat.group p) u) := by show _ = _; simp [Res.bind, closeP]
      clear hq
      go_wp2_with fail
      refine (take_yes b s l _ _ d _ _ HS2.out).mono ?_
      rintro e w3 ⟨rfl, hs3, ho3⟩
      have HS3 := hide hs3
      have HP3 := hide (PN.keep (Keeps.off ho3 (Nat.not_le_of_lt HBb.out)) (.group p) x HP2.out)
      have HO3 := hide (HO.out.trans ho3)
      clear hs3 ho3
      go_wp2
      go_ret2
      exact ⟨HO3.out, by rw [HM.out, HR.out]; exact ⟨x, rfl, HP3.out, HS3.out⟩⟩
    · have HR : Hid ((Res.ok p q).bind (fun p q => closeP (Pat.group p) 41 q) = .bad q) := by show _ = _; simp [Res.bind, closeP, hq]
      have HQ := hide hq
      clear hq
      go_wp2_with fail
      refine (take_no b s l _ _ d _ _ HS2.out (by decide) HQ.out).mono ?_
      rintro e w3 ⟨rfl, hb3⟩
      have HS3 := hide (HS2.out.below hb3)
      have HO3 := hide (HO.out.trans (Off.below hb3))
      clear hb3
      go_wp2
      go_ret2
      exact ⟨HO3.out, by rw [HM.out, HR.out]; exact ⟨rfl, _, HS3.out⟩⟩
set_option maxRecDepth 100000 in
set_option maxHeartbeats 1000000 in
theorem patom_dot (b : Nat) (s : ByteArray) (l : List Int) (d m : Int) (w : World) (t : List Int) (h : PSt w b s l (46 :: t) d m) : PGives 269 b s l d m (.ok (.set dot) t) w := by
  have HS := hide h
  have HO : Hid (Off b w w) := Off.refl _ _
  clear h
  unfold PGives
  go_enter Tryz.func269, Tryz.ntmps269
  go_wp2_with fail
  refine (look_any b s l _ d m _ HS.out).mono ?_
  rintro e wi ⟨rfl, hbi⟩
  replace HS := hide (HS.out.below hbi)
  replace HO := hide (HO.out.trans (Off.below hbi))
  clear hbi
  simp only [nextP]
  go_wp2_with fail
  refine (step_any b s l _ _ d m _ HS.out).mono ?_
  rintro e wi ⟨rfl, hsi, hoi⟩
  replace HS := hide hsi
  replace HO := hide (HO.out.trans hoi)
  clear hsi hoi
  go_wp2_with fail
  refine (pdot_any _).mono ?_
  rintro e w6 ⟨v6, rfl, hv6, hb6⟩
  obtain ⟨ao, cap, rfl, _, _⟩ := hv6.sl.rd
  have HE := hide (end_set (HO.out.trans (Off.below hb6)) (hv6.mono (A' := New w) (fun k _ hk => Nat.le_trans HO.out.size hk)) (HS.out.below hb6))
  clear hv6 hb6
  go_wp2
  go_ret2
  exact HE.out
set_option maxRecDepth 100000 in
set_option maxHeartbeats 1000000 in
theorem patom_one (b : Nat) (s : ByteArray) (l : List Int) (d m : Int) (w : World) (c : Int) (t : List Int) (hc : atomB c = true) (h : PSt w b s l (c :: t) d m) : PGives 269 b s l d m (.ok (.set [(c, c)]) t) w := by
  have hru := (runes_all h.2.2.1).suf h.2.1 c (by simp)
  have HRN : Hid (Rn c) := .inr hru
  have hc0 : 0 ≤ c := by have := (rune_iff c).1 hru; omega
  have hc1 : c ≤ 1114111 := by have := (rune_iff c).1 hru; omega
  have hsp : special c = false := by simp [atomB] at hc; exact hc.2
  have b1 : (c == 46) = false := beq_eq_false_iff_ne.2 (fun e => by subst e; simp [special] at hsp)
  have b2 : (c == 92) = false := beq_eq_false_iff_ne.2 (fun e => by subst e; simp [special] at hsp)
  have b3 : (c == 91) = false := beq_eq_false_iff_ne.2 (fun e => by subst e; simp [special] at hsp)
  have b4 : (c == 40) = false := beq_eq_false_iff_ne.2 (fun e => by subst e; simp [special] at hsp)
  have HC := hide hc
  clear hc hru hsp
  have HS := hide h
  have HO : Hid (Off b w w) := Off.refl _ _
  clear h
  unfold PGives
  go_enter Tryz.func269, Tryz.ntmps269
  go_wp2_with fail
  refine (look_any b s l _ d m _ HS.out).mono ?_
  rintro e wi ⟨rfl, hbi⟩
  replace HS := hide (HS.out.below hbi)
  replace HO := hide (HO.out.trans (Off.below hbi))
  clear hbi
  simp only [nextP]
  go_wp2_with fail
  refine (isOfAtom_any _ _ HRN.out).mono ?_
  rintro e wi ⟨rfl, hbi⟩
  rw [HC.out]
  replace HS := hide (HS.out.below hbi)
  replace HO := hide (HO.out.trans (Off.below hbi))
  clear hbi
  go_wp2_with fail
  refine (step_any b s l _ _ d m _ HS.out).mono ?_
  rintro e wi ⟨rfl, hsi, hoi⟩
  replace HS := hide hsi
  replace HO := hide (HO.out.trans hoi)
  clear hsi hoi
  go_wp2_with fail
  refine (pone_any c _ hc0 hc1).mono ?_
  rintro e w6 ⟨v6, rfl, hv6, hb6⟩
  obtain ⟨ao, cap, rfl, _, _⟩ := hv6.sl.rd
  have HE := hide (end_set (HO.out.trans (Off.below hb6)) (hv6.mono (A' := New w) (fun k _ hk => Nat.le_trans HO.out.size hk)) (HS.out.below hb6))
  clear hv6 hb6
  go_wp2
  go_ret2
  exact HE.out
set_option maxRecDepth 100000 in
set_option maxHeartbeats 1000000 in
theorem patom_none (b : Nat) (s : ByteArray) (l : List Int) (d m : Int) (w : World) (r : List Int) (hc : atomB (nextP r) = false) (h1 : nextP r ≠ 46) (h2 : nextP r ≠ 92) (h3 : nextP r ≠ 91) (h4 : nextP r ≠ 40) (h : PSt w b s l r d m) : PGives 269 b s l d m (.bad r) w := by
  have HRN : Hid (Rn (nextP r)) := nextP_rn h.2.2.1 h.2.1
  have b1 : (nextP r == 46) = false := beq_eq_false_iff_ne.2 h1
  have b2 : (nextP r == 92) = false := beq_eq_false_iff_ne.2 h2
  have b3 : (nextP r == 91) = false := beq_eq_false_iff_ne.2 h3
  have b4 : (nextP r == 40) = false := beq_eq_false_iff_ne.2 h4
  have HC := hide hc
  clear hc h1 h2 h3 h4
  have HS := hide h
  have HO : Hid (Off b w w) := Off.refl _ _
  clear h
  unfold PGives
  go_enter Tryz.func269, Tryz.ntmps269
  go_wp2_with fail
  refine (look_any b s l _ d m _ HS.out).mono ?_
  rintro e wi ⟨rfl, hbi⟩
  replace HS := hide (HS.out.below hbi)
  replace HO := hide (HO.out.trans (Off.below hbi))
  clear hbi
  generalize nextP r = N at HRN HC b1 b2 b3 b4
  go_wp2_with fail
  refine (isOfAtom_any _ _ HRN.out).mono ?_
  rintro e wi ⟨rfl, hbi⟩
  rw [HC.out]
  replace HS := hide (HS.out.below hbi)
  replace HO := hide (HO.out.trans (Off.below hbi))
  clear hbi
  go_wp2
  go_ret2
  exact ⟨HO.out, rfl, _, HS.out⟩
set_option maxRecDepth 100000 in
set_option maxHeartbeats 1000000 in
theorem patom_esc (b : Nat) (s : ByteArray) (l : List Int) (d m : Int) (w : World) (t : List Int) (h : PSt w b s l (92 :: t) d m) : PGives 269 b s l d m ((escP t).map escPat) w := by
  have HC := hide (fun (w9 : World) (hw : PSt w9 b s l _ d m) => escape_any b s l d m w9 t hw)
  generalize (escP t).map escPat = RR at HC ⊢
  obtain ⟨R, HM⟩ : ∃ R : Res Pat, Hid (R = RR) := ⟨_, rfl⟩
  rw [← HM.out]
  have HS := hide h
  have HO : Hid (Off b w w) := Off.refl _ _
  clear h
  unfold PGives
  go_enter Tryz.func269, Tryz.ntmps269
  go_wp2_with fail
  refine (look_any b s l _ d m _ HS.out).mono ?_
  rintro e wi ⟨rfl, hbi⟩
  replace HS := hide (HS.out.below hbi)
  replace HO := hide (HO.out.trans (Off.below hbi))
  clear hbi
  simp only [nextP]
  go_wp2_with fail
  refine (HC.out _ HS.out).mono ?_
  rintro e w2 ⟨ho2, he2⟩
  have HO2 := hide (HO.out.trans ho2)
  have HZ := hide HO.out.size
  clear ho2
  cases RR with
  | bad q =>
    obtain ⟨rfl, m', hs2⟩ := he2
    have HS2 := hide hs2
    clear hs2
    go_wp2
    go_ret2
    exact ⟨HO2.out, by rw [HM.out]; exact ⟨rfl, _, HS2.out⟩⟩
  | ok p q =>
    obtain ⟨x, rfl, hp2, hs2⟩ := he2
    have HS2 := hide hs2
    have HP2 := hide (PN.mono (A' := New w) (fun k _ hk => Nat.le_trans HZ.out hk) p x hp2)
    clear hs2 hp2
    go_wp2
    go_ret2
    exact ⟨HO2.out, by rw [HM.out]; exact ⟨x, rfl, HP2.out, HS2.out⟩⟩
set_option maxRecDepth 100000 in
set_option maxHeartbeats 1000000 in
theorem patom_brk (b : Nat) (s : ByteArray) (l : List Int) (d m : Int) (w : World) (t : List Int) (h : PSt w b s l (91 :: t) d m) : PGives 269 b s l d m ((bracketP t).map .set) w := by
  have HC := hide (fun (w9 : World) (hw : PSt w9 b s l _ d m) => bracket_any b s l d m w9 t hw)
  generalize (bracketP t).map Pat.set = RR at HC ⊢
  obtain ⟨R, HM⟩ : ∃ R : Res Pat, Hid (R = RR) := ⟨_, rfl⟩
  rw [← HM.out]
  have HS := hide h
  have HO : Hid (Off b w w) := Off.refl _ _
  clear h
  unfold PGives
  go_enter Tryz.func269, Tryz.ntmps269
  go_wp2_with fail
  refine (look_any b s l _ d m _ HS.out).mono ?_
  rintro e wi ⟨rfl, hbi⟩
  replace HS := hide (HS.out.below hbi)
  replace HO := hide (HO.out.trans (Off.below hbi))
  clear hbi
  simp only [nextP]
  go_wp2_with fail
  refine (HC.out _ HS.out).mono ?_
  rintro e w2 ⟨ho2, he2⟩
  have HO2 := hide (HO.out.trans ho2)
  have HZ := hide HO.out.size
  clear ho2
  cases RR with
  | bad q =>
    obtain ⟨rfl, m', hs2⟩ := he2
    have HS2 := hide hs2
    clear hs2
    go_wp2
    go_ret2
    exact ⟨HO2.out, by rw [HM.out]; exact ⟨rfl, _, HS2.out⟩⟩
  | ok p q =>
    obtain ⟨x, rfl, hp2, hs2⟩ := he2
    have HS2 := hide hs2
    have HP2 := hide (PN.mono (A' := New w) (fun k _ hk => Nat.le_trans HZ.out hk) p x hp2)
    clear hs2 hp2
    go_wp2
    go_ret2
    exact ⟨HO2.out, by rw [HM.out]; exact ⟨x, rfl, HP2.out, HS2.out⟩⟩
set_option maxRecDepth 100000 in
set_option maxHeartbeats 1000000 in
theorem patom_grp (n : Nat) (b : Nat) (s : ByteArray) (l : List Int) (d m : Int) (w : World) (ih : POrOk n) (t : List Int) (hn : t.length < n) (h : PSt w b s l (40 :: t) d m) : PGives 269 b s l d m ((orN true n t).bind fun p q => closeP (.group p) 41 q) w := by
  have HC := hide (fun (w9 : World) (hw : PSt w9 b s l _ d m) => group_any n ih b s l d m w9 t hw hn)
  generalize ((orN true n t).bind fun p q => closeP (Pat.group p) 41 q) = RR at HC ⊢
  obtain ⟨R, HM⟩ : ∃ R : Res Pat, Hid (R = RR) := ⟨_, rfl⟩
  rw [← HM.out]
  have HS := hide h
  have HO : Hid (Off b w w) := Off.refl _ _
  clear h
  unfold PGives
  go_enter Tryz.func269, Tryz.ntmps269
  go_wp2_with fail
  refine (look_any b s l _ d m _ HS.out).mono ?_
  rintro e wi ⟨rfl, hbi⟩
  replace HS := hide (HS.out.below hbi)
  replace HO := hide (HO.out.trans (Off.below hbi))
  clear hbi
  simp only [nextP]
  go_wp2_with fail
  refine (HC.out _ HS.out).mono ?_
  rintro e w2 ⟨ho2, he2⟩
  have HO2 := hide (HO.out.trans ho2)
  have HZ := hide HO.out.size
  clear ho2
  cases RR with
  | bad q =>
    obtain ⟨rfl, m', hs2⟩ := he2
    have HS2 := hide hs2
    clear hs2
    go_wp2
    go_ret2
    exact ⟨HO2.out, by rw [HM.out]; exact ⟨rfl, _, HS2.out⟩⟩
  | ok p q =>
    obtain ⟨x, rfl, hp2, hs2⟩ := he2
    have HS2 := hide hs2
    have HP2 := hide (PN.mono (A' := New w) (fun k _ hk => Nat.le_trans HZ.out hk) p x hp2)
    clear hs2 hp2
    go_wp2
    go_ret2
    exact ⟨HO2.out, by rw [HM.out]; exact ⟨x, rfl, HP2.out, HS2.out⟩⟩
theorem patom_any (n : Nat) (ih : POrOk n) (b : Nat) (s : ByteArray) (l : List Int) (d m : Int) (w : World) (r : List Int) (h : PSt w b s l r d m) (hn : r.length ≤ n) : PGives 269 b s l d m (atomP (orN true n) r) w := by
  cases r with
  | nil => exact patom_none b s l d m w [] rfl (by decide) (by decide) (by decide) (by decide) h
  | cons c t =>
    have hru := (runes_all h.2.2.1).suf h.2.1 c (by simp)
    simp only [List.length_cons] at hn
    simp only [atomP]
    by_cases h40 : c = 40
    · subst h40; rw [if_pos rfl]; exact patom_grp n b s l d m w ih t (by omega) h
    rw [if_neg h40]
    by_cases h91 : c = 91
    · subst h91; rw [if_pos rfl]; exact patom_brk b s l d m w t h
    rw [if_neg h91]
    by_cases h46 : c = 46
    · subst h46; rw [if_pos rfl]; exact patom_dot b s l d m w t h
    rw [if_neg h46]
    by_cases h92 : c = 92
    · subst h92; rw [if_pos rfl]; exact patom_esc b s l d m w t h
    rw [if_neg h92]
    cases hs : special c with
    | true =>
      rw [if_pos rfl]
      exact patom_none b s l d m w (c :: t) (by simp [nextP, atomB, hs]) h46 h92 h91 h40 h
    | false =>
      rw [if_neg (by decide)]
      exact patom_one b s l d m w c t (by simp only [atomB, bne, rune_ne hru, hs]; rfl) h
end Go.Proofs.YtpoibdhhcbelnaaGreatDoor
/- The program's reader: so many times: walks. -/
namespace Go.Proofs.YtpoibdhhcbelnaaGreatDoor
open Go.RowKit Brm

set_option maxRecDepth 100000 in
set_option maxHeartbeats 400000 in
theorem beginsTimes_any (c : Int) (w : World) : Calls Tryz.prog 270 #[.int .i32 c] w fun e w' => e = .returned (.bool (isTimes c)) ∧ w' = w := by
  go_enter Tryz.func270, Tryz.ntmps270
  go_wp2
  all_goals (go_ret; exact ⟨ret_bool (by rw [Bool.eq_iff_iff]; simp [isTimes]; omega), rfl⟩)
theorem times_next (r : List Int) : isTimes (nextP r) = headIs isTimes r := by
  cases r with
  | nil => rfl
  | cons c t => rfl
set_option maxRecDepth 100000 in
set_option maxHeartbeats 400000 in
theorem timesOf_any (b : Nat) (s : ByteArray) (l : List Int) (d m : Int) (w : World) (w0 : World) (p : Pat) (x : Nat) (r : List Int) (h : PSt w b s l r d (max m (d + p.deep))) (ho : Off b w0 w) (hb0 : b < w0.heap.size) (hp : PN w (New w0) p x) (ht : headIs isTimes r = true) :
    Calls Tryz.prog 271 #[.pointer (some ⟨b, 0, none⟩), Ptr x] w fun e w' => Off b w0 w' ∧ EndN b s l d m ((timesP r).map fun mn => Pat.many p mn.1 mn.2) w0 w' e := by
  have HC := hide (times_any b s l d _ w r h ht)
  have HO := hide ho
  have HP := hide hp
  have HB0 := hide hb0
  clear h ho hp ht hb0
  generalize timesP r = RR at HC ⊢
  obtain ⟨R, HM⟩ : ∃ R : Res Pat, Hid (R = RR.map fun mn => Pat.many p mn.1 mn.2) := ⟨_, rfl⟩
  rw [← HM.out]
  go_enter Tryz.func271, Tryz.ntmps271
  go_wp2_with fail
  refine HC.out.mono ?_
  rintro e w1 ⟨ho1, hd1⟩
  replace HP := hide (PN.keep (Keeps.off ho1 (Nat.not_le_of_lt HB0.out)) p x HP.out)
  replace HO := hide (HO.out.trans ho1)
  clear ho1 HC
  cases RR with
  | bad q =>
    obtain ⟨hs1, v, u, rfl⟩ := hd1
    have HS1 := hide hs1
    clear hs1
    go_wp2
    go_ret2
    exact ⟨HO.out, by rw [HM.out]; exact ⟨rfl, _, HS1.out⟩⟩
  | ok mn q =>
    obtain ⟨hs1, rfl⟩ := hd1
    obtain ⟨mm, nn⟩ := mn
    have HEN := hide (end_wrap (m := m) (q := .many p mm nn) (K := 5) (mm := mm) (nn := nn) HO.out HP.out hs1 (fun w' y lv hy hb ho hp => ⟨hy, lv, x, hb, ho, hp⟩) rfl)
    clear hs1
    go_wp2
    go_ret2
    rw [HM.out]
    exact HEN.out
/-- So many times, round by round. -/
def ManyQ (w : World) (b : Nat) (s : ByteArray) (l : List Int) (d m : Int) (R : Res Pat) (k : Nat) (nv ov : Value) (wr : World) : Prop := Off b w wr ∧
  ((∃ p x s0, nv = Ptr x ∧ ov = .bool true ∧ PN wr (New w) p x ∧ PSt wr b s l s0 d (max m (d + p.deep)) ∧ manyLoop k p s0 = R ∧ s0.length < k) ∨ (∃ q m', nv = .pointer none ∧ ov = .bool false ∧ R = .bad q ∧ PSt wr b s l q d m'))
set_option maxRecDepth 100000 in
set_option maxHeartbeats 1000000 in
theorem pmany_any (n : Nat) (ih : POrOk n) (b : Nat) (s : ByteArray) (l : List Int) (d m : Int) (w : World) (r : List Int) (h : PSt w b s l r d m) (hn : r.length ≤ n) : PGives 240 b s l d m (manyP (orN true n) r) w := by
  have HC := hide (patom_any n ih b s l d m w r h hn)
  have HBb := hide h.lt
  clear h
  have HM : Hid (manyP (orN true n) r = (atomP (orN true n) r).bind fun x s' => manyLoop (s'.length + 1) x s') := rfl
  generalize atomP (orN true n) r = R1 at HC HM
  generalize manyP (orN true n) r = R at HM ⊢
  unfold PGives
  go_enter Tryz.func240, Tryz.ntmps240
  go_wp2_with fail
  refine HC.out.mono ?_
  rintro e w1 ⟨ho1, he1⟩
  have HO1 := hide ho1
  clear ho1 HC
  cases R1 with
  | bad q =>
    obtain ⟨rfl, m', hs1⟩ := he1
    have HS1 := hide hs1
    clear hs1
    have HR0 : Hid (R = .bad q) := HM.out
    clear HM
    go_wp2_with fail
    go_loopg [4, 5] 1 (fun k nv ov wr => ManyQ w b s l d m R k nv ov wr)
    case atStart => exact ⟨HO1.out, .inr ⟨q, m', rfl, rfl, HR0.out, HS1.out⟩⟩
    case round =>
      obtain ⟨ho, hcase⟩ := hrel
      have HO := hide ho
      clear ho
      rcases hcase with ⟨p, x, s0, rfl, rfl, hp, hs, heq, hk⟩ | ⟨q, m', rfl, rfl, hRb, hs⟩
      · have HS := hide hs
        have HP := hide hp
        have HE := hide heq
        have HTN := hide (times_next s0)
        obtain ⟨k', rfl⟩ : ∃ k', gk = k' + 1 := ⟨gk - 1, by omega⟩
        have HK := hide hk
        clear hs hp heq hk
        cases ht : headIs isTimes s0 with
        | false =>
          have HR : Hid (R = .ok p s0) := by have := HE.out; simp only [manyLoop, ht, Bool.false_eq_true, if_false] at this; exact this.symm
          rw [ht] at HTN
          clear ht
          go_wp2_with fail
          refine (look_any b s l s0 d _ _ HS.out).mono ?_
          rintro e wi ⟨rfl, hbi⟩
          replace HS := hide (HS.out.below hbi)
          replace HO := hide (HO.out.trans (Off.below hbi))
          replace HP := hide (PN.keep (Keeps.below hbi) p x HP.out)
          clear hbi
          generalize nextP s0 = NN at HTN
          go_wp2_with fail
          refine (beginsTimes_any NN _).mono ?_
          rintro e wj ⟨rfl, hwj⟩
          have hwk := hwj.symm
          subst hwk
          clear hwj
          rw [HTN.out]
          go_wp2
          go_ret2
          exact ⟨HO.out, by rw [HR.out]; exact ⟨x, rfl, HP.out, HS.out⟩⟩
        | true =>
          have HT := hide ht
          have HTK := hide (timesP_takes s0)
          have HR : Hid ((timesP s0).bind (fun mn s' => manyLoop k' (.many p mn.1 mn.2) s') = R) := by have := HE.out; simp only [manyLoop, ht, if_true] at this; exact this
          rw [ht] at HTN
          clear ht
          go_wp2_with fail
          refine (look_any b s l s0 d _ _ HS.out).mono ?_
          rintro e wi ⟨rfl, hbi⟩
          replace HS := hide (HS.out.below hbi)
          replace HO := hide (HO.out.trans (Off.below hbi))
          replace HP := hide (PN.keep (Keeps.below hbi) p x HP.out)
          clear hbi
          generalize nextP s0 = NN at HTN
          go_wp2_with fail
          refine (beginsTimes_any NN _).mono ?_
          rintro e wj ⟨rfl, hwj⟩
          have hwk := hwj.symm
          subst hwk
          clear hwj
          rw [HTN.out]
          go_wp2_with fail
          refine (timesOf_any b s l d m _ w p x s0 HS.out HO.out HBb.out HP.out HT.out).mono ?_
          rintro e w5 ⟨ho5, he5⟩
          have HO5 := hide ho5
          clear ho5
          generalize timesP s0 = RR at he5 HR HTK
          cases RR with
          | bad q =>
            obtain ⟨rfl, m', hs5⟩ := he5
            have HS5 := hide hs5
            clear hs5
            go_wp2_with fail
            go_roundg k'
            case measure => omega
            case rel => exact ⟨HO5.out, .inr ⟨q, m', rfl, rfl, HR.out.symm, HS5.out⟩⟩
          | ok mn q =>
            obtain ⟨y, rfl, hp5, hs5⟩ := he5
            have HS5 := hide hs5
            have HP5 := hide hp5
            clear hs5 hp5
            go_wp2_with fail
            go_roundg k'
            case measure => omega
            case rel => exact ⟨HO5.out, .inl ⟨.many p mn.1 mn.2, y, q, rfl, rfl, HP5.out, HS5.out, HR.out, by have := HTK.out.1; have := HK.out; omega⟩⟩
      · have HS := hide hs
        have HR := hide hRb
        clear hs hRb
        go_wp2
        go_ret2
        exact ⟨HO.out, by rw [HR.out]; exact ⟨rfl, _, HS.out⟩⟩
  | ok p0 q0 =>
    obtain ⟨x0, rfl, hp1, hs1⟩ := he1
    have HS1 := hide hs1
    have HP1 := hide hp1
    clear hs1 hp1
    have HR0 : Hid (manyLoop (q0.length + 1) p0 q0 = R) := HM.out.symm
    clear HM
    go_wp2_with fail
    go_loopg [4, 5] (q0.length + 1) (fun k nv ov wr => ManyQ w b s l d m R k nv ov wr)
    case atStart => exact ⟨HO1.out, .inl ⟨p0, x0, q0, rfl, rfl, HP1.out, HS1.out, HR0.out, Nat.lt_succ_self _⟩⟩
    case round =>
      obtain ⟨ho, hcase⟩ := hrel
      have HO := hide ho
      clear ho
      rcases hcase with ⟨p, x, s0, rfl, rfl, hp, hs, heq, hk⟩ | ⟨q, m', rfl, rfl, hRb, hs⟩
      · have HS := hide hs
        have HP := hide hp
        have HE := hide heq
        have HTN := hide (times_next s0)
        obtain ⟨k', rfl⟩ : ∃ k', gk = k' + 1 := ⟨gk - 1, by omega⟩
        have HK := hide hk
        clear hs hp heq hk
        cases ht : headIs isTimes s0 with
        | false =>
          have HR : Hid (R = .ok p s0) := by have := HE.out; simp only [manyLoop, ht, Bool.false_eq_true, if_false] at this; exact this.symm
          rw [ht] at HTN
          clear ht
          go_wp2_with fail
          refine (look_any b s l s0 d _ _ HS.out).mono ?_
          rintro e wi ⟨rfl, hbi⟩
          replace HS := hide (HS.out.below hbi)
          replace HO := hide (HO.out.trans (Off.below hbi))
          replace HP := hide (PN.keep (Keeps.below hbi) p x HP.out)
          clear hbi
          generalize nextP s0 = NN at HTN
          go_wp2_with fail
          refine (beginsTimes_any NN _).mono ?_
          rintro e wj ⟨rfl, hwj⟩
          have hwk := hwj.symm
          subst hwk
          clear hwj
          rw [HTN.out]
          go_wp2
          go_ret2
          exact ⟨HO.out, by rw [HR.out]; exact ⟨x, rfl, HP.out, HS.out⟩⟩
        | true =>
          have HT := hide ht
          have HTK := hide (timesP_takes s0)
          have HR : Hid ((timesP s0).bind (fun mn s' => manyLoop k' (.many p mn.1 mn.2) s') = R) := by have := HE.out; simp only [manyLoop, ht, if_true] at this; exact this
          rw [ht] at HTN
          clear ht
          go_wp2_with fail
          refine (look_any b s l s0 d _ _ HS.out).mono ?_
          rintro e wi ⟨rfl, hbi⟩
          replace HS := hide (HS.out.below hbi)
          replace HO := hide (HO.out.trans (Off.below hbi))
          replace HP := hide (PN.keep (Keeps.below hbi) p x HP.out)
          clear hbi
          generalize nextP s0 = NN at HTN
          go_wp2_with fail
          refine (beginsTimes_any NN _).mono ?_
          rintro e wj ⟨rfl, hwj⟩
          have hwk := hwj.symm
          subst hwk
          clear hwj
          rw [HTN.out]
          go_wp2_with fail
          refine (timesOf_any b s l d m _ w p x s0 HS.out HO.out HBb.out HP.out HT.out).mono ?_
          rintro e w5 ⟨ho5, he5⟩
          have HO5 := hide ho5
          clear ho5
          generalize timesP s0 = RR at he5 HR HTK
          cases RR with
          | bad q =>
            obtain ⟨rfl, m', hs5⟩ := he5
            have HS5 := hide hs5
            clear hs5
            go_wp2_with fail
            go_roundg k'
            case measure => omega
            case rel => exact ⟨HO5.out, .inr ⟨q, m', rfl, rfl, HR.out.symm, HS5.out⟩⟩
          | ok mn q =>
            obtain ⟨y, rfl, hp5, hs5⟩ := he5
            have HS5 := hide hs5
            have HP5 := hide hp5
            clear hs5 hp5
            go_wp2_with fail
            go_roundg k'
            case measure => omega
            case rel => exact ⟨HO5.out, .inl ⟨.many p mn.1 mn.2, y, q, rfl, rfl, HP5.out, HS5.out, HR.out, by have := HTK.out.1; have := HK.out; omega⟩⟩
      · have HS := hide hs
        have HR := hide hRb
        clear hs hRb
        go_wp2
        go_ret2
        exact ⟨HO.out, by rw [HR.out]; exact ⟨rfl, _, HS.out⟩⟩
end Go.Proofs.YtpoibdhhcbelnaaGreatDoor
/- The program's reader: not: a walk. -/
namespace Go.Proofs.YtpoibdhhcbelnaaGreatDoor
open Go.RowKit Brm

set_option maxRecDepth 100000 in
set_option maxHeartbeats 1000000 in
theorem pnot_tilde (b : Nat) (s : ByteArray) (l : List Int) (d m : Int) (w : World) (t : List Int) (R : Res Pat) (h : PSt w b s l (126 :: t) d m) (ih : ∀ (d m : Int) (w : World), PSt w b s l t d m → PGives 209 b s l d m R w) : PGives 209 b s l d m (R.map .not) w := by
  have HS := hide h
  have HO : Hid (Off b w w) := Off.refl _ _
  have hd : d + 1 ≤ ((l.length - t.length : Nat) : Int) := by have h1 := h.2.2.2.2.2; have h2 := h.2.1.length_le; simp only [List.length_cons] at h1 h2; omega
  have HC := hide (fun (w' : World) (hw : PSt w' b s l t d m) => inside_not b s l d m w' t R hw hd (fun w2 hw2 => ih (d + 1) (max m (d + 1)) w2 hw2))
  clear h hd ih
  obtain ⟨R0, HM⟩ : ∃ R0 : Res Pat, Hid (R0 = R.map Pat.not) := ⟨_, rfl⟩
  rw [← HM.out]
  unfold PGives
  go_enter Tryz.func209, Tryz.ntmps209
  go_wp2_with fail
  refine (take_yes b s l _ _ d m _ HS.out).mono ?_
  rintro e wi ⟨rfl, hsi, hoi⟩
  replace HS := hide hsi
  replace HO := hide (HO.out.trans hoi)
  clear hsi hoi
  go_wp2_with fail
  refine (HC.out _ HS.out).mono ?_
  rintro e w2 ⟨ho2, he2⟩
  have HO2 := hide (HO.out.trans ho2)
  have HZ := hide HO.out.size
  clear ho2 HC
  cases R with
  | bad q =>
    obtain ⟨rfl, m', hs2⟩ := he2
    have HS2 := hide hs2
    clear hs2
    go_wp2
    go_ret2
    exact ⟨HO2.out, by rw [HM.out]; exact ⟨rfl, _, HS2.out⟩⟩
  | ok p q =>
    obtain ⟨x, rfl, hp2, hs2⟩ := he2
    have HS2 := hide hs2
    have HP2 := hide (PN.mono (A' := New w) (fun k _ hk => Nat.le_trans HZ.out hk) (.not p) x hp2)
    clear hs2 hp2
    go_wp2
    go_ret2
    exact ⟨HO2.out, by rw [HM.out]; exact ⟨x, rfl, HP2.out, HS2.out⟩⟩
set_option maxRecDepth 100000 in
set_option maxHeartbeats 1000000 in
theorem pnot_many (n : Nat) (ih : POrOk n) (b : Nat) (s : ByteArray) (l : List Int) (d m : Int) (w : World) (r : List Int) (h : PSt w b s l r d m) (hn : r.length ≤ n) (h1 : r.head? ≠ some 126) : PGives 209 b s l d m (manyP (orN true n) r) w := by
  have HS := hide h
  have HO : Hid (Off b w w) := Off.refl _ _
  have HC := hide (fun (w' : World) (hw : PSt w' b s l r d m) => pmany_any n ih b s l d m w' r hw hn)
  have H1 := hide h1
  clear h h1 hn ih
  generalize manyP (orN true n) r = R at HC ⊢
  obtain ⟨R0, HM⟩ : ∃ R0 : Res Pat, Hid (R0 = R) := ⟨_, rfl⟩
  rw [← HM.out]
  unfold PGives
  go_enter Tryz.func209, Tryz.ntmps209
  go_wp2_with fail
  refine (take_no b s l _ _ d m _ HS.out (by decide) H1.out).mono ?_
  rintro e wi ⟨rfl, hbi⟩
  replace HS := hide (HS.out.below hbi)
  replace HO := hide (HO.out.trans (Off.below hbi))
  clear hbi
  go_wp2_with fail
  refine (HC.out _ HS.out).mono ?_
  rintro e w2 ⟨ho2, he2⟩
  have HO2 := hide (HO.out.trans ho2)
  have HZ := hide HO.out.size
  clear ho2 HC
  cases R with
  | bad q =>
    obtain ⟨rfl, m', hs2⟩ := he2
    have HS2 := hide hs2
    clear hs2
    go_wp2
    go_ret2
    exact ⟨HO2.out, by rw [HM.out]; exact ⟨rfl, _, HS2.out⟩⟩
  | ok p q =>
    obtain ⟨x, rfl, hp2, hs2⟩ := he2
    have HS2 := hide hs2
    have HP2 := hide (PN.mono (A' := New w) (fun k _ hk => Nat.le_trans HZ.out hk) p x hp2)
    clear hs2 hp2
    go_wp2
    go_ret2
    exact ⟨HO2.out, by rw [HM.out]; exact ⟨x, rfl, HP2.out, HS2.out⟩⟩
theorem pnot_any (n : Nat) (ih : POrOk n) : ∀ (r : List Int) (b : Nat) (s : ByteArray) (l : List Int) (d m : Int) (w : World), PSt w b s l r d m → r.length ≤ n → PGives 209 b s l d m (notP (orN true n) r) w
  | [], b, s, l, d, m, w, h, hn => pnot_many n ih b s l d m w [] h hn (by simp)
  | c :: t, b, s, l, d, m, w, h, hn => by
    simp only [notP]
    by_cases hc : c = 126
    · subst hc
      rw [if_pos rfl]
      exact pnot_tilde b s l d m w t _ h (fun d m w hw => pnot_any n ih t b s l d m w hw (by simp only [List.length_cons] at hn; omega))
    · rw [if_neg hc]
      exact pnot_many n ih b s l d m w (c :: t) h hn (by simpa using hc)
end Go.Proofs.YtpoibdhhcbelnaaGreatDoor
