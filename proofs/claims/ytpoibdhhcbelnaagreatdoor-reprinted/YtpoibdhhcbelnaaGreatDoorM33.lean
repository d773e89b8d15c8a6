/- Walks and plain laws, some texts in one. -/
import Derived.Test.YtpoibdhhcbelnaaGreatDoorM29
import Derived.Test.YtpoibdhhcbelnaaGreatDoorM21
import Derived.Test.YtpoibdhhcbelnaaGreatDoorM02
/- The program's reader: rows: a walk. -/
namespace Go.Proofs.YtpoibdhhcbelnaaGreatDoor
open Go.RowKit Brm

theorem PSt.setOther {w : World} {b : Nat} {s : ByteArray} {l r : List Int} {d m : Int} (h : PSt w b s l r d m) {p : Addr} (hp : b ≠ p.block) (h7 : 7 ≤ p.block) (u : Value) : PSt (w.setCell p u) b s l r d m := by
  have hb := h.2.2.2.2.2
  refine ⟨Blk.setOther h.1 hp _, h.2.1, h.2.2.1, h.2.2.2.1, ?_, hb⟩
  have hT := h.2.2.2.2.1
  exact ⟨by have := hT.1; simpa [World.setCell] using this, fun W hW => hT.2 W (fun k hk => (hW k hk).trans (Below.heap_setCell _ _ _ _ (by omega)))⟩
def beginsB (c : Int) : Bool := [126, 46, 92, 91, 40].contains c || atomB c
theorem begins_iff {s : List Int} (h : AllR s) : beginsB (nextP s) = !rowEnds true s := by
  cases s with
  | nil => rfl
  | cons c t =>
    have hc := (rune_iff c).1 h.head
    simp only [nextP, rowEnds, beginsB, atomB, Bool.true_and]
    rw [Bool.eq_iff_iff]
    simp [special, ends, loose]
    omega
set_option maxRecDepth 100000 in
set_option maxHeartbeats 400000 in
theorem beginsPart_any (c : Int) (w : World) (hr : Rn c) : Calls Tryz.prog 208 #[.int .i32 c] w fun e w' => e = .returned (.bool (beginsB c)) ∧ Below w.heap.size w w' := by
  by_cases h1 : c = 126
  · subst h1; go_enter Tryz.func208, Tryz.ntmps208; go_wp2; go_ret; exact ⟨rfl, Below.refl _ _⟩
  by_cases h2 : c = 46
  · subst h2; go_enter Tryz.func208, Tryz.ntmps208; go_wp2; go_ret; exact ⟨rfl, Below.refl _ _⟩
  by_cases h3 : c = 92
  · subst h3; go_enter Tryz.func208, Tryz.ntmps208; go_wp2; go_ret; exact ⟨rfl, Below.refl _ _⟩
  by_cases h4 : c = 91
  · subst h4; go_enter Tryz.func208, Tryz.ntmps208; go_wp2; go_ret; exact ⟨rfl, Below.refl _ _⟩
  by_cases h5 : c = 40
  · subst h5; go_enter Tryz.func208, Tryz.ntmps208; go_wp2; go_ret; exact ⟨rfl, Below.refl _ _⟩
  have b1 : (c == 126) = false := beq_eq_false_iff_ne.2 h1
  have b2 : (c == 46) = false := beq_eq_false_iff_ne.2 h2
  have b3 : (c == 92) = false := beq_eq_false_iff_ne.2 h3
  have b4 : (c == 91) = false := beq_eq_false_iff_ne.2 h4
  have b5 : (c == 40) = false := beq_eq_false_iff_ne.2 h5
  have HB : Hid (beginsB c = atomB c) := by show _ = _; simp [beginsB, h1, h2, h3, h4, h5]
  have HC := hide (isOfAtom_any c w hr)
  generalize atomB c = B at HB HC
  clear hr h1 h2 h3 h4 h5
  go_enter Tryz.func208, Tryz.ntmps208
  go_wp2_with fail
  refine HC.out.mono ?_
  rintro e w1 ⟨rfl, hb1⟩
  have HB1 := hide hb1
  clear hb1
  go_wp2
  go_ret
  exact ⟨ret_bool HB.out.symm, HB1.out⟩
/-- Rows, part by part. -/
def RowQ (w : World) (b : Nat) (s : ByteArray) (l : List Int) (d m : Int) (n : Nat) (R : Res Pat) (k : Nat) (wr : World) : Prop := Off b w wr ∧
  ∃ L s0 v, PSt wr b s l s0 d (max m (d + deepL L)) ∧ Blk wr w.heap.size [.int .i64 1, .slice none 0 0, v, .int .i64 0, .int .i64 0] 76 ∧ LP w w.heap.size v L wr ∧ rowLoop true (orN true n) k L s0 = R ∧ s0.length < k ∧ L.length + s0.length ≤ 60 ∧ s0.length ≤ n
theorem max_deep {m d : Int} {L : List Pat} {p : Pat} : max (max m (d + (deepL L : Int))) (d + (p.deep : Int)) = max m (d + (deepL (L ++ [p]) : Int)) := by rw [deepL_snoc]; omega
set_option maxRecDepth 100000 in
set_option maxHeartbeats 1000000 in
theorem prow_any (n : Nat) (ih : POrOk n) (b : Nat) (s : ByteArray) (l : List Int) (d m : Int) (w : World) (r : List Int) (h : PSt w b s l r d m) (hn : r.length ≤ n) : PGives 160 b s l d m (rowP true (orN true n) r) w := by
  have hb0 := h.lt
  have h7 := h.2.2.2.2.2.1
  have hl60 : l.length ≤ 60 := by have := runes_len h.2.2.1; rw [bytes_len] at this; have := h.2.2.2.1; omega
  have hrl := h.2.1.length_le
  have HI0 := hide (show RowQ w b s l d m n (rowP true (orN true n) r) (r.length + 1) (w.alloc (.cells #[.int .i64 1, .slice none 0 0, .slice none 0 0, .int .i64 0, .int .i64 0] 76)) from by
    refine ⟨(Off.refl b w).alloc _, [], r, .slice none 0 0, ?_, Blk.new w [.int .i64 1, .slice none 0 0, .slice none 0 0, .int .i64 0, .int .i64 0] 76, LP.nil _ _ _, rfl, by omega, by simp; omega, hn⟩
    have e : max m (d + ((deepL [] : Nat) : Int)) = m := by have := h.2.2.2.2.2; simp [deepL]; omega
    rw [e]; exact h.alloc _)
  have HIH := hide ih
  generalize hR : rowP true (orN true n) r = R at HI0 ⊢
  clear h hR ih hn
  unfold PGives
  go_enter Tryz.func160, Tryz.ntmps160
  go_wp2_with fail
  go_loopg [] (r.length + 1) (fun k wr => RowQ w b s l d m n R k wr)
  case atStart => exact HI0.out
  case round =>
    clear HI0
    obtain ⟨ho, L, s0, v, hs, hx, hlp, heq, hk, h60, hsn⟩ := hrel
    have hall := (runes_all hs.2.2.1).suf hs.2.1
    have HBE := hide (begins_iff hall)
    have HRN : Hid (Rn (nextP s0)) := nextP_rn hs.2.2.1 hs.2.1
    have HO := hide ho
    have HS := hide hs
    have HX := hide hx
    have HLP := hide hlp
    have HE := hide heq
    obtain ⟨k', rfl⟩ : ∃ k', gk = k' + 1 := ⟨gk - 1, by omega⟩
    clear ho hs hx hlp heq hall
    cases hre : rowEnds true s0 with
    | true =>
      have HR : Hid (R = .ok (.row L) s0) := by have := HE.out; simp only [rowLoop, hre, if_true] at this; exact this.symm
      rw [hre] at HBE
      clear hre
      go_wp2_with fail
      refine (look_any b s l s0 d _ _ HS.out).mono ?_
      rintro e wi ⟨rfl, hbi⟩
      replace HS := hide (HS.out.below hbi)
      replace HO := hide (HO.out.trans (Off.below hbi))
      replace HX := hide (HX.out.below hbi)
      replace HLP := hide (HLP.out.keep (Off.below hbi) (.inl hb0))
      clear hbi
      generalize nextP s0 = NN at HBE HRN
      go_wp2_with fail
      refine (beginsPart_any NN _ HRN.out).mono ?_
      rintro e wj ⟨rfl, hbi⟩
      replace HS := hide (HS.out.below hbi)
      replace HO := hide (HO.out.trans (Off.below hbi))
      replace HX := hide (HX.out.below hbi)
      replace HLP := hide (HLP.out.keep (Off.below hbi) (.inl hb0))
      clear hbi
      rw [HBE.out]
      go_wp2
      go_ret2
      obtain ⟨xs, o1, o2⟩ := HLP.out.own
      exact ⟨HO.out, by rw [HR.out]; exact ⟨w.heap.size, rfl, ⟨Nat.le_refl _, by omega, v, xs, HX.out, o1, o2⟩, HS.out⟩⟩
    | false =>
      have HR : Hid ((notP (orN true n) s0).bind (fun p s' => rowLoop true (orN true n) k' (L ++ [p]) s') = R) := by have := HE.out; simp only [rowLoop, hre, Bool.false_eq_true, if_false] at this; exact this
      have HTK := hide (notP_takes (orN_goes true n) s0)
      rw [hre] at HBE
      clear hre
      go_wp2_with fail
      refine (look_any b s l s0 d _ _ HS.out).mono ?_
      rintro e wi ⟨rfl, hbi⟩
      replace HS := hide (HS.out.below hbi)
      replace HO := hide (HO.out.trans (Off.below hbi))
      replace HX := hide (HX.out.below hbi)
      replace HLP := hide (HLP.out.keep (Off.below hbi) (.inl hb0))
      clear hbi
      generalize nextP s0 = NN at HBE HRN
      go_wp2_with fail
      refine (beginsPart_any NN _ HRN.out).mono ?_
      rintro e wj ⟨rfl, hbi⟩
      replace HS := hide (HS.out.below hbi)
      replace HO := hide (HO.out.trans (Off.below hbi))
      replace HX := hide (HX.out.below hbi)
      replace HLP := hide (HLP.out.keep (Off.below hbi) (.inl hb0))
      clear hbi
      rw [HBE.out]
      go_wp2_with fail
      refine (pnot_any n HIH.out s0 b s l d _ _ HS.out hsn).mono ?_
      rintro e w1 ⟨ho1, he1⟩
      generalize notP (orN true n) s0 = RR at he1 HR HTK
      cases RR with
      | bad q =>
        obtain ⟨rfl, m', hs1⟩ := he1
        have HS1 := hide hs1
        have HR2 : Hid (R = .bad q) := HR.out.symm
        replace HO := hide (HO.out.trans ho1)
        clear hs1 ho1
        go_wp2
        go_ret2
        exact ⟨HO.out, by rw [HR2.out]; exact ⟨rfl, _, HS1.out⟩⟩
      | ok p q =>
        obtain ⟨x, rfl, hp1, hs1⟩ := he1
        obtain ⟨xs, l1, l2, l3⟩ := HLP.out
        obtain ⟨ao, cap, rfl⟩ := own65_form l1
        have hsz1 := ho1.size
        have hszw := HO.out.size
        have hx1 := HX.out.off ho1 (by omega)
        have x2 := hx1.cell 2
        simp only [List.getElem?_cons_succ, List.getElem?_cons_zero] at x2
        have hxl := hx1.lt
        have hL1 := own_block l1 (fun q hq => ho1.block q (l1.lt q hq).2 (by have := (l1.lt q hq).1; omega))
        have HL1 := hide hL1
        have HX1 := hide hx1
        have HS1 := hide hs1
        have HP1 := hide hp1
        have HO1 := hide ho1
        have HOW := hide (HO.out.trans ho1)
        have H1 := hide l1
        have H2 := hide l2
        have H3 := hide l3
        have hl9 : L.length ≤ 60 := by omega
        clear hs1 hp1 ho1 l1 l2 l3 hx1 hL1
        go_wp2_with (at_builtin; refine append_ptr rfl (.tmp 23) (.tmp 25) rfl w.heap.size L.length _ _ rfl (HL1.out.alloc _) ⟨w1.heap.size, 0, none⟩ [Ptr x] rfl rfl (ptr_new _ _) (ptr_one _) (by omega) (by simp; omega) ?_; intro v3 w3 ho3 hg3 hl3; obtain ⟨ao3, cap3, rfl⟩ := own65_form ho3; have hx3 := (HX1.out.alloc (.cells #[Ptr x] 65)).grown hg3 (fun e => H2.out e.symm); have hf3 := hx3.frozen 2; have hc3 := hx3.cell 2; simp only [List.getElem?_cons_succ, List.getElem?_cons_zero] at hc3; have hxl3 := hx3.lt; have HX3 := hide hx3; have HO3 := hide ho3; have HG3 := hide hg3; have HL3 := hide hl3; clear ho3 hg3 hl3 hx3)
        go_roundg k'
        case measure => omega
        case rel =>
          have hpush := LP.push (b := b) H1.out H2.out H3.out hb0 (by have := HX1.out.lt; have := HX.out.lt; omega) hszw HO1.out HP1.out HO3.out HG3.out HL3.out
          refine ⟨((HOW.out.alloc _).grown HG3.out (fun q e => (H1.out.lt q e).1)).setNew (Nat.le_refl _) _, L ++ [p], q, _, ?_, HX3.out.set 2 _, hpush.keep ((Off.refl w.heap.size w3).setCell 2 _) (.inr rfl), HR.out, ?_, ?_, ?_⟩
          · rw [← max_deep]
            exact ((HS1.out.alloc _).grown HG3.out (fun q e => by have := (H1.out.lt q e).1; omega)).setOther (p := ⟨w.heap.size, 2, none⟩) (by show b ≠ w.heap.size; omega) (by show 7 ≤ w.heap.size; omega) _
          · have := HTK.out.1; omega
          · have := HTK.out.1; rw [List.length_append]; simp only [List.length_cons, List.length_nil]; omega
          · have := HTK.out.1; omega
end Go.Proofs.YtpoibdhhcbelnaaGreatDoor
/- The program's reader: parts with a sign between them: walks. -/
namespace Go.Proofs.YtpoibdhhcbelnaaGreatDoor
open Go.RowKit Brm

/-- Parts with a sign between them, part by part. -/
def JoinQ (w : World) (b : Nat) (s : ByteArray) (l : List Int) (d m : Int) (n : Nat) (part : List Int → Res Pat) (sign : Int) (mk : List Pat → Pat) (R : Res Pat) (k : Nat) (v : Value) (wr : World) : Prop := Off b w wr ∧
  ∃ L s0, PSt wr b s l s0 d (max m (d + deepL L)) ∧ LP w b v L wr ∧ joinLoop part sign mk k L s0 = R ∧ s0.length < k ∧ L.length + s0.length ≤ 60 ∧ s0.length ≤ n
theorem own_head {w : World} {B n : Nat} {v : Value} {xs : List Value} (h : w.ownsRow B 65 1 v (n + 1) xs) : ∃ g cap, v = .slice (some ⟨g, 0, none⟩) (n + 1) cap ∧ B ≤ g ∧ g < w.heap.size := by
  rcases h.2 with ⟨_, h0⟩ | ⟨g, cap, cur, rfl, hg, _⟩
  · omega
  · exact ⟨g, cap, rfl, hg, (h.lt g rfl).2⟩
theorem own_first {w : World} {B n g cap : Nat} {x : Value} {xs : List Value} (h : w.ownsRow B 65 1 (.slice (some ⟨g, 0, none⟩) n cap) n (x :: xs)) : w.cell? ⟨g, 0, none⟩ = some x := by
  have := h.cells rfl 0 x rfl
  rw [Addr.add_lit] at this; simpa using this
set_option maxRecDepth 100000 in
set_option maxHeartbeats 1000000 in
theorem joined_or (n : Nat) (part : List Int → Res Pat) (b : Nat) (s : ByteArray) (l : List Int) (d m : Int) (w : World) (r : List Int) (h : PSt w b s l r d m) (hn : r.length ≤ n)
    (hc : ∀ (r : List Int) (d m : Int) (w : World), PSt w b s l r d m → r.length ≤ n → PGives 105 b s l d m (part r) w) (hgo : ∀ s, Goes (part s) s) :
    Calls Tryz.prog 104 #[.pointer (some ⟨b, 0, none⟩), .int .i32 124, .int .i64 2, .func (.func 105) #[.pointer (some ⟨b, 0, none⟩)] #[]] w fun e w' => Off b w w' ∧ EndN b s l d m (joinLoop part 124 Pat.or (r.length + 1) [] r) w w' e := by
  have hb0 := h.lt
  have hl60 : l.length ≤ 60 := by have := runes_len h.2.2.1; rw [bytes_len] at this; have := h.2.2.2.1; omega
  have hrl := h.2.1.length_le
  have HI0 := hide (show JoinQ w b s l d m n part 124 Pat.or (joinLoop part 124 Pat.or (r.length + 1) [] r) (r.length + 1) (.slice none 0 0) w from by
    refine ⟨Off.refl b w, [], r, ?_, LP.nil _ _ _, rfl, by omega, by simp; omega, hn⟩
    have e : max m (d + ((deepL [] : Nat) : Int)) = m := by have := h.2.2.2.2.2; simp [deepL]; omega
    rw [e]; exact h)
  have HC := hide hc
  have HGO := hide hgo
  generalize hR : joinLoop part 124 Pat.or (r.length + 1) [] r = R at HI0 ⊢
  clear h hR hc hn hgo
  go_enter Tryz.func104, Tryz.ntmps104
  go_wp2_with fail
  go_loopg [10] (r.length + 1) (fun k v wr => JoinQ w b s l d m n part 124 Pat.or R k v wr)
  case atStart => exact HI0.out
  case round =>
    clear HI0
    obtain ⟨ho, L, s0, hs, hlp, heq, hk, h60, hsn⟩ := hrel
    have HO := hide ho
    have HS := hide hs
    have HE := hide heq
    obtain ⟨k', rfl⟩ : ∃ k', gk = k' + 1 := ⟨gk - 1, by omega⟩
    have HGS := hide (HGO.out s0)
    have HR : Hid ((part s0).bind (fun p s' => if s'.head? = some 124 then joinLoop part 124 Pat.or k' (L ++ [p]) s'.tail else .ok (Pat.or (L ++ [p])) s') = R) := by have := HE.out; simp only [joinLoop] at this; exact this
    obtain ⟨xs, l1, l2, l3⟩ := hlp
    obtain ⟨ao, cap, rfl⟩ := own65_form l1
    have H1 := hide l1
    have H2 := hide l2
    have H3 := hide l3
    clear ho hs heq l1 l2 l3
    go_wp2_with fail
    refine (HC.out s0 d _ _ HS.out hsn).mono ?_
    rintro e w1 ⟨ho1, he1⟩
    generalize part s0 = RR at he1 HR HGS
    cases RR with
    | bad q =>
      obtain ⟨rfl, m', hs1⟩ := he1
      have HS1 := hide hs1
      have HR2 : Hid (R = .bad q) := HR.out.symm
      replace HO := hide (HO.out.trans ho1)
      clear hs1 ho1
      go_wp2
      go_ret2
      exact ⟨HO.out, by rw [HR2.out]; exact ⟨rfl, _, HS1.out⟩⟩
    | ok p q =>
      obtain ⟨x, rfl, hp1, hs1⟩ := he1
      have hsz1 := ho1.size
      have hszw := HO.out.size
      have HL1 := hide (own_block H1.out (fun q hq => ho1.block q (H1.out.lt q hq).2 (by have := (H1.out.lt q hq).1; omega)))
      have HS1 := hide hs1
      have HP1 := hide hp1
      have HO1 := hide ho1
      have HOW := hide (HO.out.trans ho1)
      have hl9 : L.length ≤ 60 := by omega
      have hql : q.length ≤ s0.length := (show q <:+ s0 from HGS.out).length_le
      clear hs1 hp1 ho1
      by_cases hq : q.head? = some 124
      · obtain ⟨u, rfl⟩ : ∃ u, q = 124 :: u := ⟨_, head_cons hq⟩
        have HR2 : Hid (joinLoop part 124 Pat.or k' (L ++ [p]) u = R) := by have := HR.out; simp only [Res.bind, List.head?_cons, if_true, List.tail_cons] at this; exact this
        simp only [List.length_cons] at hql
        clear hq
        go_wp2_with (first
          | (at_builtin; refine append_ptr rfl (.tmp 20) (.tmp 22) rfl w.heap.size L.length _ _ rfl (HL1.out.alloc _) ⟨w1.heap.size, 0, none⟩ [Ptr x] rfl rfl (ptr_new _ _) (ptr_one _) (by omega) (by simp; omega) ?_; intro v3 w3 ho3 hg3 hl3; have HS3 := hide ((HS1.out.alloc (.cells #[Ptr x] 65)).grown hg3 (fun q e => by have := (H1.out.lt q e).1; omega)); have HO3 := hide ho3; have HG3 := hide hg3; have HL3 := hide hl3; clear ho3 hg3 hl3)
          | (go_at_call 159; refine (take_yes b s l _ _ d _ _ HS3.out).mono ?_; rintro e w4 ⟨rfl, hs4, ho4⟩; have HS4 := hide hs4; have HO4 := hide ho4; clear hs4 ho4))
        go_roundg k'
        case measure => omega
        case rel =>
          have hpush := LP.push (b := b) H1.out H2.out H3.out hb0 (Nat.lt_of_lt_of_le hb0 hszw) hszw HO1.out HP1.out HO3.out HG3.out HL3.out
          refine ⟨((HOW.out.alloc _).grown HG3.out (fun q e => (H1.out.lt q e).1)).trans HO4.out, L ++ [p], u, ?_, hpush.keep HO4.out (.inl hb0), HR2.out, ?_, ?_, ?_⟩
          · rw [← max_deep]; exact HS4.out
          · omega
          · rw [List.length_append]; simp only [List.length_cons, List.length_nil]; omega
          · omega
      · have HR2 : Hid (R = .ok (Pat.or (L ++ [p])) q) := by have := HR.out; simp only [Res.bind, if_neg hq] at this; exact this.symm
        have HQ := hide hq
        clear hq
        by_cases hL : L = []
        · subst hL
          have hxs : xs = [] := by have := PL.len [] xs H3.out; exact List.length_eq_zero_iff.1 this
          subst hxs
          go_wp2_with (first
            | (at_builtin; refine append_ptr rfl (.tmp 20) (.tmp 22) rfl w.heap.size 0 _ _ rfl (HL1.out.alloc _) ⟨w1.heap.size, 0, none⟩ [Ptr x] rfl rfl (ptr_new _ _) (ptr_one _) (by omega) (by simp; omega) ?_; intro v3 w3 ho3 hg3 hl3; have HS3 := hide ((HS1.out.alloc (.cells #[Ptr x] 65)).grown hg3 (fun q e => by have := (H1.out.lt q e).1; omega)); have HO3 := hide ho3; have HG3 := hide hg3; have HL3 := hide hl3; obtain ⟨g3, cap3, rfl, hg30, hg31⟩ := own_head ho3; have hcell3 := own_first ho3; clear ho3 hg3 hl3)
            | (go_at_call 159; refine (take_no b s l _ _ d _ _ HS3.out (by decide) HQ.out).mono ?_; rintro e w4 ⟨rfl, hb4⟩; have HS4 := hide (HS3.out.below hb4); have HB4 := hide hb4; rw [← hb4.cell (p := ⟨g3, 0, none⟩) hg31] at hcell3; have hg4 := Nat.lt_of_lt_of_le hg31 hb4.size; clear hb4))
          go_ret2
          have hpush := LP.push (b := b) H1.out H2.out H3.out hb0 (Nat.lt_of_lt_of_le hb0 hszw) hszw HO1.out HP1.out HO3.out HG3.out HL3.out
          obtain ⟨ys, o1, o2⟩ := (hpush.keep (Off.below HB4.out) (.inl hb0)).own
          rw [HR2.out]
          refine ⟨((HOW.out.alloc _).grown HG3.out (fun q e => (H1.out.lt q e).1)).trans (Off.below HB4.out), x, rfl, ⟨by simp, ys, o2, .inl ⟨rfl, ?_⟩⟩, ?_⟩
          · obtain ⟨y, r, rfl, _, hr⟩ := o2
            have hr' : r = [] := hr
            subst hr'
            have hy := o1.1.cells rfl 0 (Ptr y) rfl
            rw [Addr.add_lit] at hy
            have hy2 : w4.cell? ⟨g3, 0, none⟩ = some (Ptr y) := by simpa using hy
            rw [hcell3] at hy2
            simp only [Option.some.injEq, Value.pointer.injEq, Addr.mk.injEq, and_true] at hy2
            rw [hy2]
          · have e : max m (d + ((Pat.or ([] ++ [p])).deep : Int)) = max m (d + (deepL ([] ++ [p]) : Int)) := rfl
            rw [e, ← max_deep]; exact HS4.out
        · have hLp : 1 ≤ L.length := by cases L with | nil => exact absurd rfl hL | cons a t => simp
          have hne1 : ¬ L.length + 1 = 1 := by omega
          go_wp2_with (first
            | (at_builtin; refine append_ptr rfl (.tmp 20) (.tmp 22) rfl w.heap.size L.length _ _ rfl (HL1.out.alloc _) ⟨w1.heap.size, 0, none⟩ [Ptr x] rfl rfl (ptr_new _ _) (ptr_one _) (by omega) (by simp; omega) ?_; intro v3 w3 ho3 hg3 hl3; have HS3 := hide ((HS1.out.alloc (.cells #[Ptr x] 65)).grown hg3 (fun q e => by have := (H1.out.lt q e).1; omega)); have HO3 := hide ho3; have HG3 := hide hg3; have HL3 := hide hl3; obtain ⟨g3, cap3, rfl, hg30, hg31⟩ := own_head ho3; clear ho3 hg3 hl3; have hn3 : (((L.length : Nat) : Int) + 1 == 1) = false := beq_eq_false_iff_ne.2 (by omega); have hn4 : ((((L.length + 1 : Nat)) : Int) == 1) = false := beq_eq_false_iff_ne.2 (by omega))
            | (go_at_call 159; refine (take_no b s l _ _ d _ _ HS3.out (by decide) HQ.out).mono ?_; rintro e w4 ⟨rfl, hb4⟩; have HS4 := hide (HS3.out.below hb4); have HB4 := hide hb4; have hg4 := Nat.lt_of_lt_of_le hg31 hb4.size; clear hb4))
          go_ret2
          have hpush := LP.push (b := b) H1.out H2.out H3.out hb0 (Nat.lt_of_lt_of_le hb0 hszw) hszw HO1.out HP1.out HO3.out HG3.out HL3.out
          obtain ⟨ys, o1, o2⟩ := (hpush.keep (Off.below HB4.out) (.inl hb0)).own
          have HOF := ((HOW.out.alloc (.cells #[Ptr x] 65)).grown HG3.out (fun q e => (H1.out.lt q e).1)).trans (Off.below (b := b) HB4.out)
          have hlen : (L ++ [p]).length = L.length + 1 := by simp
          rw [HR2.out]
          refine ⟨HOF.alloc _, w4.heap.size, rfl, ⟨by rw [hlen]; omega, ys, PL.keep (Keeps.alloc _ _ _) _ ys o2, .inr ⟨by rw [hlen]; omega, HOF.size, _, Blk.new w4 [.int .i64 2, .slice none 0 0, .slice (some ⟨g3, 0, none⟩) (L.length + 1) cap3, .int .i64 0, .int .i64 0] 76, o1.keep (Keeps.alloc _ _ _)⟩⟩, ?_⟩
          have e : max m (d + ((Pat.or (L ++ [p])).deep : Int)) = max m (d + (deepL (L ++ [p]) : Int)) := rfl
          rw [e, ← max_deep]; exact HS4.out.alloc _
set_option maxRecDepth 100000 in
set_option maxHeartbeats 1000000 in
theorem joined_and (n : Nat) (part : List Int → Res Pat) (b : Nat) (s : ByteArray) (l : List Int) (d m : Int) (w : World) (r : List Int) (h : PSt w b s l r d m) (hn : r.length ≤ n)
    (hc : ∀ (r : List Int) (d m : Int) (w : World), PSt w b s l r d m → r.length ≤ n → PGives 160 b s l d m (part r) w) (hgo : ∀ s, Goes (part s) s) :
    Calls Tryz.prog 104 #[.pointer (some ⟨b, 0, none⟩), .int .i32 38, .int .i64 3, .func (.func 160) #[.pointer (some ⟨b, 0, none⟩)] #[]] w fun e w' => Off b w w' ∧ EndN b s l d m (joinLoop part 38 Pat.and (r.length + 1) [] r) w w' e := by
  have hb0 := h.lt
  have hl60 : l.length ≤ 60 := by have := runes_len h.2.2.1; rw [bytes_len] at this; have := h.2.2.2.1; omega
  have hrl := h.2.1.length_le
  have HI0 := hide (show JoinQ w b s l d m n part 38 Pat.and (joinLoop part 38 Pat.and (r.length + 1) [] r) (r.length + 1) (.slice none 0 0) w from by
    refine ⟨Off.refl b w, [], r, ?_, LP.nil _ _ _, rfl, by omega, by simp; omega, hn⟩
    have e : max m (d + ((deepL [] : Nat) : Int)) = m := by have := h.2.2.2.2.2; simp [deepL]; omega
    rw [e]; exact h)
  have HC := hide hc
  have HGO := hide hgo
  generalize hR : joinLoop part 38 Pat.and (r.length + 1) [] r = R at HI0 ⊢
  clear h hR hc hn hgo
  go_enter Tryz.func104, Tryz.ntmps104
  go_wp2_with fail
  go_loopg [10] (r.length + 1) (fun k v wr => JoinQ w b s l d m n part 38 Pat.and R k v wr)
  case atStart => exact HI0.out
  case round =>
    clear HI0
    obtain ⟨ho, L, s0, hs, hlp, heq, hk, h60, hsn⟩ := hrel
    have HO := hide ho
    have HS := hide hs
    have HE := hide heq
    obtain ⟨k', rfl⟩ : ∃ k', gk = k' + 1 := ⟨gk - 1, by omega⟩
    have HGS := hide (HGO.out s0)
    have HR : Hid ((part s0).bind (fun p s' => if s'.head? = some 38 then joinLoop part 38 Pat.and k' (L ++ [p]) s'.tail else .ok (Pat.and (L ++ [p])) s') = R) := by have := HE.out; simp only [joinLoop] at this; exact this
    obtain ⟨xs, l1, l2, l3⟩ := hlp
    obtain ⟨ao, cap, rfl⟩ := own65_form l1
    have H1 := hide l1
    have H2 := hide l2
    have H3 := hide l3
    clear ho hs heq l1 l2 l3
    go_wp2_with fail
    refine (HC.out s0 d _ _ HS.out hsn).mono ?_
    rintro e w1 ⟨ho1, he1⟩
    generalize part s0 = RR at he1 HR HGS
    cases RR with
    | bad q =>
      obtain ⟨rfl, m', hs1⟩ := he1
      have HS1 := hide hs1
      have HR2 : Hid (R = .bad q) := HR.out.symm
      replace HO := hide (HO.out.trans ho1)
      clear hs1 ho1
      go_wp2
      go_ret2
      exact ⟨HO.out, by rw [HR2.out]; exact ⟨rfl, _, HS1.out⟩⟩
    | ok p q =>
      obtain ⟨x, rfl, hp1, hs1⟩ := he1
      have hsz1 := ho1.size
      have hszw := HO.out.size
      have HL1 := hide (own_block H1.out (fun q hq => ho1.block q (H1.out.lt q hq).2 (by have := (H1.out.lt q hq).1; omega)))
      have HS1 := hide hs1
      have HP1 := hide hp1
      have HO1 := hide ho1
      have HOW := hide (HO.out.trans ho1)
      have hl9 : L.length ≤ 60 := by omega
      have hql : q.length ≤ s0.length := (show q <:+ s0 from HGS.out).length_le
      clear hs1 hp1 ho1
      by_cases hq : q.head? = some 38
      · obtain ⟨u, rfl⟩ : ∃ u, q = 38 :: u := ⟨_, head_cons hq⟩
        have HR2 : Hid (joinLoop part 38 Pat.and k' (L ++ [p]) u = R) := by have := HR.out; simp only [Res.bind, List.head?_cons, if_true, List.tail_cons] at this; exact this
        simp only [List.length_cons] at hql
        clear hq
        go_wp2_with (first
          | (at_builtin; refine append_ptr rfl (.tmp 20) (.tmp 22) rfl w.heap.size L.length _ _ rfl (HL1.out.alloc _) ⟨w1.heap.size, 0, none⟩ [Ptr x] rfl rfl (ptr_new _ _) (ptr_one _) (by omega) (by simp; omega) ?_; intro v3 w3 ho3 hg3 hl3; have HS3 := hide ((HS1.out.alloc (.cells #[Ptr x] 65)).grown hg3 (fun q e => by have := (H1.out.lt q e).1; omega)); have HO3 := hide ho3; have HG3 := hide hg3; have HL3 := hide hl3; clear ho3 hg3 hl3)
          | (go_at_call 159; refine (take_yes b s l _ _ d _ _ HS3.out).mono ?_; rintro e w4 ⟨rfl, hs4, ho4⟩; have HS4 := hide hs4; have HO4 := hide ho4; clear hs4 ho4))
        go_roundg k'
        case measure => omega
        case rel =>
          have hpush := LP.push (b := b) H1.out H2.out H3.out hb0 (Nat.lt_of_lt_of_le hb0 hszw) hszw HO1.out HP1.out HO3.out HG3.out HL3.out
          refine ⟨((HOW.out.alloc _).grown HG3.out (fun q e => (H1.out.lt q e).1)).trans HO4.out, L ++ [p], u, ?_, hpush.keep HO4.out (.inl hb0), HR2.out, ?_, ?_, ?_⟩
          · rw [← max_deep]; exact HS4.out
          · omega
          · rw [List.length_append]; simp only [List.length_cons, List.length_nil]; omega
          · omega
      · have HR2 : Hid (R = .ok (Pat.and (L ++ [p])) q) := by have := HR.out; simp only [Res.bind, if_neg hq] at this; exact this.symm
        have HQ := hide hq
        clear hq
        by_cases hL : L = []
        · subst hL
          have hxs : xs = [] := by have := PL.len [] xs H3.out; exact List.length_eq_zero_iff.1 this
          subst hxs
          go_wp2_with (first
            | (at_builtin; refine append_ptr rfl (.tmp 20) (.tmp 22) rfl w.heap.size 0 _ _ rfl (HL1.out.alloc _) ⟨w1.heap.size, 0, none⟩ [Ptr x] rfl rfl (ptr_new _ _) (ptr_one _) (by omega) (by simp; omega) ?_; intro v3 w3 ho3 hg3 hl3; have HS3 := hide ((HS1.out.alloc (.cells #[Ptr x] 65)).grown hg3 (fun q e => by have := (H1.out.lt q e).1; omega)); have HO3 := hide ho3; have HG3 := hide hg3; have HL3 := hide hl3; obtain ⟨g3, cap3, rfl, hg30, hg31⟩ := own_head ho3; have hcell3 := own_first ho3; clear ho3 hg3 hl3)
            | (go_at_call 159; refine (take_no b s l _ _ d _ _ HS3.out (by decide) HQ.out).mono ?_; rintro e w4 ⟨rfl, hb4⟩; have HS4 := hide (HS3.out.below hb4); have HB4 := hide hb4; rw [← hb4.cell (p := ⟨g3, 0, none⟩) hg31] at hcell3; have hg4 := Nat.lt_of_lt_of_le hg31 hb4.size; clear hb4))
          go_ret2
          have hpush := LP.push (b := b) H1.out H2.out H3.out hb0 (Nat.lt_of_lt_of_le hb0 hszw) hszw HO1.out HP1.out HO3.out HG3.out HL3.out
          obtain ⟨ys, o1, o2⟩ := (hpush.keep (Off.below HB4.out) (.inl hb0)).own
          rw [HR2.out]
          refine ⟨((HOW.out.alloc _).grown HG3.out (fun q e => (H1.out.lt q e).1)).trans (Off.below HB4.out), x, rfl, ⟨by simp, ys, o2, .inl ⟨rfl, ?_⟩⟩, ?_⟩
          · obtain ⟨y, r, rfl, _, hr⟩ := o2
            have hr' : r = [] := hr
            subst hr'
            have hy := o1.1.cells rfl 0 (Ptr y) rfl
            rw [Addr.add_lit] at hy
            have hy2 : w4.cell? ⟨g3, 0, none⟩ = some (Ptr y) := by simpa using hy
            rw [hcell3] at hy2
            simp only [Option.some.injEq, Value.pointer.injEq, Addr.mk.injEq, and_true] at hy2
            rw [hy2]
          · have e : max m (d + ((Pat.and ([] ++ [p])).deep : Int)) = max m (d + (deepL ([] ++ [p]) : Int)) := rfl
            rw [e, ← max_deep]; exact HS4.out
        · have hLp : 1 ≤ L.length := by cases L with | nil => exact absurd rfl hL | cons a t => simp
          have hne1 : ¬ L.length + 1 = 1 := by omega
          go_wp2_with (first
            | (at_builtin; refine append_ptr rfl (.tmp 20) (.tmp 22) rfl w.heap.size L.length _ _ rfl (HL1.out.alloc _) ⟨w1.heap.size, 0, none⟩ [Ptr x] rfl rfl (ptr_new _ _) (ptr_one _) (by omega) (by simp; omega) ?_; intro v3 w3 ho3 hg3 hl3; have HS3 := hide ((HS1.out.alloc (.cells #[Ptr x] 65)).grown hg3 (fun q e => by have := (H1.out.lt q e).1; omega)); have HO3 := hide ho3; have HG3 := hide hg3; have HL3 := hide hl3; obtain ⟨g3, cap3, rfl, hg30, hg31⟩ := own_head ho3; clear ho3 hg3 hl3; have hn3 : (((L.length : Nat) : Int) + 1 == 1) = false := beq_eq_false_iff_ne.2 (by omega); have hn4 : ((((L.length + 1 : Nat)) : Int) == 1) = false := beq_eq_false_iff_ne.2 (by omega))
            | (go_at_call 159; refine (take_no b s l _ _ d _ _ HS3.out (by decide) HQ.out).mono ?_; rintro e w4 ⟨rfl, hb4⟩; have HS4 := hide (HS3.out.below hb4); have HB4 := hide hb4; have hg4 := Nat.lt_of_lt_of_le hg31 hb4.size; clear hb4))
          go_ret2
          have hpush := LP.push (b := b) H1.out H2.out H3.out hb0 (Nat.lt_of_lt_of_le hb0 hszw) hszw HO1.out HP1.out HO3.out HG3.out HL3.out
          obtain ⟨ys, o1, o2⟩ := (hpush.keep (Off.below HB4.out) (.inl hb0)).own
          have HOF := ((HOW.out.alloc (.cells #[Ptr x] 65)).grown HG3.out (fun q e => (H1.out.lt q e).1)).trans (Off.below (b := b) HB4.out)
          have hlen : (L ++ [p]).length = L.length + 1 := by simp
          rw [HR2.out]
          refine ⟨HOF.alloc _, w4.heap.size, rfl, ⟨by rw [hlen]; omega, ys, PL.keep (Keeps.alloc _ _ _) _ ys o2, .inr ⟨by rw [hlen]; omega, HOF.size, _, Blk.new w4 [.int .i64 3, .slice none 0 0, .slice (some ⟨g3, 0, none⟩) (L.length + 1) cap3, .int .i64 0, .int .i64 0] 76, o1.keep (Keeps.alloc _ _ _)⟩⟩, ?_⟩
          have e : max m (d + ((Pat.and (L ++ [p])).deep : Int)) = max m (d + (deepL (L ++ [p]) : Int)) := rfl
          rw [e, ← max_deep]; exact HS4.out.alloc _
set_option maxRecDepth 100000 in
set_option maxHeartbeats 1000000 in
theorem pand_any (n : Nat) (ih : POrOk n) (b : Nat) (s : ByteArray) (l : List Int) (d m : Int) (w : World) (r : List Int) (h : PSt w b s l r d m) (hn : r.length ≤ n) : PGives 105 b s l d m (andP true (orN true n) r) w := by
  have HC := hide (joined_and n (rowP true (orN true n)) b s l d m w r h hn (fun r d m w h hn => prow_any n ih b s l d m w r h hn) (rowP_goes (orN_goes true n)))
  have HRE : Hid (andP true (orN true n) r = joinLoop (rowP true (orN true n)) 38 Pat.and (r.length + 1) [] r) := rfl
  clear h hn
  rw [HRE.out]
  generalize joinLoop (rowP true (orN true n)) 38 Pat.and (r.length + 1) [] r = RR at HC ⊢
  obtain ⟨R, HM⟩ : ∃ R : Res Pat, Hid (R = RR) := ⟨_, rfl⟩
  rw [← HM.out]
  unfold PGives
  go_enter Tryz.func105, Tryz.ntmps105
  go_wp2_with fail
  refine HC.out.mono ?_
  rintro e w1 ⟨ho1, he1⟩
  have HO1 := hide ho1
  clear ho1 HC HRE
  cases RR with
  | bad q =>
    obtain ⟨rfl, m', hs2⟩ := he1
    have HS2 := hide hs2
    clear hs2
    go_wp2
    go_ret2
    exact ⟨HO1.out, by rw [HM.out]; exact ⟨rfl, _, HS2.out⟩⟩
  | ok p q =>
    obtain ⟨x, rfl, hp2, hs2⟩ := he1
    have HS2 := hide hs2
    have HP2 := hide hp2
    clear hs2 hp2
    go_wp2
    go_ret2
    exact ⟨HO1.out, by rw [HM.out]; exact ⟨x, rfl, HP2.out, HS2.out⟩⟩
set_option maxRecDepth 100000 in
set_option maxHeartbeats 1000000 in
theorem por_any (n : Nat) (ih : POrOk n) (b : Nat) (s : ByteArray) (l : List Int) (d m : Int) (w : World) (r : List Int) (h : PSt w b s l r d m) (hn : r.length ≤ n) : PGives 58 b s l d m (orP true (orN true n) r) w := by
  have HC := hide (joined_or n (andP true (orN true n)) b s l d m w r h hn (fun r d m w h hn => pand_any n ih b s l d m w r h hn) (andP_goes (orN_goes true n)))
  have HRE : Hid (orP true (orN true n) r = joinLoop (andP true (orN true n)) 124 Pat.or (r.length + 1) [] r) := rfl
  clear h hn
  rw [HRE.out]
  generalize joinLoop (andP true (orN true n)) 124 Pat.or (r.length + 1) [] r = RR at HC ⊢
  obtain ⟨R, HM⟩ : ∃ R : Res Pat, Hid (R = RR) := ⟨_, rfl⟩
  rw [← HM.out]
  unfold PGives
  go_enter Tryz.func58, Tryz.ntmps58
  go_wp2_with fail
  refine HC.out.mono ?_
  rintro e w1 ⟨ho1, he1⟩
  have HO1 := hide ho1
  clear ho1 HC HRE
  cases RR with
  | bad q =>
    obtain ⟨rfl, m', hs2⟩ := he1
    have HS2 := hide hs2
    clear hs2
    go_wp2
    go_ret2
    exact ⟨HO1.out, by rw [HM.out]; exact ⟨rfl, _, HS2.out⟩⟩
  | ok p q =>
    obtain ⟨x, rfl, hp2, hs2⟩ := he1
    have HS2 := hide hs2
    have HP2 := hide hp2
    clear hs2 hp2
    go_wp2
    go_ret2
    exact ⟨HO1.out, by rw [HM.out]; exact ⟨x, rfl, HP2.out, HS2.out⟩⟩
theorem por_all : ∀ n, POrOk n
  | 0 => fun _ _ _ _ _ _ _ _ hn => absurd hn (Nat.not_lt_zero _)
  | n + 1 => fun b s l r d m w h hn => por_any n (por_all n) b s l d m w r h (Nat.le_of_lt_succ hn)
end Go.Proofs.YtpoibdhhcbelnaaGreatDoor
/- The program's reader: the whole of it: walks. -/
namespace Go.Proofs.YtpoibdhhcbelnaaGreatDoor
open Go.RowKit Brm

/-- The search for a byte that is part of no rune, round by round. -/
def BrokI (w : World) (bs : List UInt8) (k : Nat) (iv : Value) (wr : World) : Prop := ∃ pre : List Int, Chain bs pre ∧ iv = .int .i64 (posOf pre.length bs) ∧ Below w.heap.size w wr ∧ bs.length - posOf pre.length bs ≤ k
set_option maxRecDepth 100000 in
set_option maxHeartbeats 1000000 in
theorem broken_any (s : ByteArray) (w : World) (hT : Tabs w) (hs : s.size ≤ 1000) : Calls Tryz.prog 57 #[.string s] w fun e w' => Below w.heap.size w w' ∧
    ((∃ l, Runes (bytesOf s) l ∧ e = .returned (.tuple #[.int .i64 0, .bool false])) ∨ (∃ k : Nat, Broken (bytesOf s) k ∧ e = .returned (.tuple #[.int .i64 k, .bool true]))) := by
  have HT := hide hT
  have HLEN := hide (bytes_len s)
  clear hT
  go_enter Tryz.func57, Tryz.ntmps57
  go_wp2_with fail
  go_loopg [4] s.size (fun k iv wr => BrokI w (bytesOf s) k iv wr)
  case atStart => exact ⟨[], chain_nil _, rfl, Below.refl _ _, by rw [HLEN.out]; simp⟩
  case round =>
    obtain ⟨pre, hch, rfl, hbel, hk⟩ := hrel
    have hp1 := hch.1
    rw [HLEN.out] at hp1 hk
    have HCH := hide hch
    have HB := hide hbel
    have HDR := hide (bytes_drop s (posOf pre.length (bytesOf s)))
    clear hch hbel
    generalize hP : posOf pre.length (bytesOf s) = P at hp1 hk HDR
    have HP := hide hP
    have i0 : (0 : Int) ≤ (P : Int) := Int.natCast_nonneg _
    have i1 : (P : Int) ≤ (s.size : Int) := by omega
    clear hP
    by_cases hlt : P < s.size
    · have i2 : (P : Int) < (s.size : Int) := by omega
      have hne : (bytesOf s).drop P ≠ [] := by intro e; have := congrArg List.length e; rw [List.length_drop, HLEN.out, List.length_nil] at this; omega
      have hfit := decL_fit hne
      have HC := hide (fun (w' : World) (hw : Tabs w') => dec_any (s.extract P s.size) w' hw (by rw [ext_size]; omega))
      rw [HDR.out] at HC
      have HTW := hide (HT.out.below HB.out)
      by_cases hno : decL ((bytesOf s).drop P) = noRune
      · have HBR : Hid (Broken (bytesOf s) P) := by
          have := HCH.out.2.2 0 (by rw [HP.out]; exact .here hne hno)
          rw [HP.out] at this
          exact this
        rw [hno] at HC
        clear hno hne hfit
        simp only [noRune] at HC
        go_wp2_with (go_at_call 103; refine (HC.out _ HTW.out).mono ?_; rintro e w5 ⟨rfl, hb5⟩; have HB5 := hide hb5; clear hb5)
        go_ret2
        exact ⟨HB.out.trans (HB5.out.mono HB.out.size), .inr ⟨P, HBR.out, rfl⟩⟩
      · have HSN := hide (chain_snoc HCH.out (by rw [HP.out]; exact hne) (by rw [HP.out]; exact hno))
        rw [HP.out] at HSN
        rw [List.length_drop, HLEN.out] at hfit
        generalize hD : decL ((bytesOf s).drop P) = D at HC hno HSN hfit
        obtain ⟨C, Z⟩ := D
        obtain ⟨z1, z2, z3, z4⟩ := hfit
        simp only at z1 z2 z3 z4 HC HSN
        clear hD z4 hne
        by_cases hc : C = 65533
        · have hz : ¬ Z = 1 := fun e => hno (by rw [hc, e]; rfl)
          subst hc
          have b1 : ((Z : Int) == 1) = false := beq_eq_false_iff_ne.2 (by omega)
          have b2 : (Z == 1) = false := beq_eq_false_iff_ne.2 hz
          clear hno
          go_wp2_with (go_at_call 103; refine (HC.out _ HTW.out).mono ?_; rintro e w5 ⟨rfl, hb5⟩; have HB5 := hide hb5; clear hb5)
          go_roundg (gk - 1)
          case measure => omega
          case rel =>
            refine ⟨_, HSN.out.1, ?_, HB.out.trans (HB5.out.mono HB.out.size), ?_⟩
            · rw [List.length_append, List.length_singleton, HSN.out.2]; go_num
            · rw [HLEN.out, List.length_append, List.length_singleton, HSN.out.2]; omega
        · have b1 : ((C : Int) == 65533) = false := beq_eq_false_iff_ne.2 (by omega)
          have b2 : (C == 65533) = false := beq_eq_false_iff_ne.2 hc
          clear hno hc
          go_wp2_with (go_at_call 103; refine (HC.out _ HTW.out).mono ?_; rintro e w5 ⟨rfl, hb5⟩; have HB5 := hide hb5; clear hb5)
          go_roundg (gk - 1)
          case measure => omega
          case rel =>
            refine ⟨_, HSN.out.1, ?_, HB.out.trans (HB5.out.mono HB.out.size), ?_⟩
            · rw [List.length_append, List.length_singleton, HSN.out.2]; go_num
            · rw [HLEN.out, List.length_append, List.length_singleton, HSN.out.2]; omega
    · have i2 : decide ((P : Int) < (s.size : Int)) = false := decide_eq_false (by omega)
      have HRU : Hid (Runes (bytesOf s) pre) := by
        have h9 := HCH.out.2.1 [] (by rw [HP.out, List.drop_eq_nil_of_le (by rw [HLEN.out]; omega)]; exact .nil)
        rw [List.append_nil] at h9
        exact h9
      go_wp2
      go_ret2
      exact ⟨HB.out, .inl ⟨pre, HRU.out, rfl⟩⟩
/-- What syntax.Read hands back. -/
def ReadQ (s : ByteArray) (w : World) (e : Ending) (w' : World) : Prop := Below w.heap.size w w' ∧ ∃ nv er place op, ReadR (bytesOf s) (er, place, op) ∧ e = .returned (.tuple #[nv, .int .i64 er, .int .i64 place]) ∧
  match op with | some p => ∃ x, nv = Ptr x ∧ PN w' (New w) p x | none => nv = .pointer none
set_option maxRecDepth 100000 in
set_option maxHeartbeats 400000 in
theorem pread_long (s : ByteArray) (w : World) (hs : 60 < s.size) (hm : s.size ≤ 9223372036854775807) : Calls Tryz.prog 34 #[.string s] w fun e w' => ReadQ s w e w' := by
  have HS := hide hs
  have hd : decide ((60 : Int) < (s.size : Int)) = true := decide_eq_true (by omega)
  go_enter Tryz.func34, Tryz.ntmps34
  go_wp2
  refine bodyPost_ret (v := .tuple #[.pointer none, .int .i64 2, .int .i64 0]) (by simp [results, Tryz.results34, go_sem]) rfl ?_
  exact ⟨Below.refl _ _, _, 2, 0, none, .inl ⟨by rw [bytes_len]; exact HS.out, rfl⟩, rfl, rfl⟩
theorem lax_bad {l q : List Int} (h : orN true (l.length + 1) l = .bad q) (bs : List UInt8) : outcome bs l = (4, (posOf (l.length - q.length) bs : Int), none) := by
  unfold outcome; rw [or_adj, h]; rfl
theorem lax_more {l t : List Int} {p : Pat} {c : Int} (h : orN true (l.length + 1) l = .ok p (c :: t)) (bs : List UInt8) : outcome bs l = (4, (posOf (l.length - (c :: t).length) bs : Int), none) := by
  unfold outcome; rw [or_adj, h]
  simp only [adj]
  split
  · rename_i h1; split at h1
    · cases h1; rfl
    · cases h1
  · rename_i h1; split at h1
    · cases h1
    · cases h1; rfl
  · rename_i h1; split at h1
    · cases h1
    · cases h1
theorem lax_all {l : List Int} {p : Pat} (h : orN true (l.length + 1) l = .ok p []) (bs : List UInt8) : outcome bs l = if 8 < p.deep then (5, 0, none) else (0, 0, some p) := by
  unfold outcome; rw [or_adj, h]; rfl
set_option maxRecDepth 100000 in
set_option maxHeartbeats 1000000 in
theorem pread_short (s : ByteArray) (w : World) (hT : Tabs w) (hs : s.size ≤ 60) : Calls Tryz.prog 34 #[.string s] w fun e w' => ReadQ s w e w' := by
  have HS := hide hs
  have HL : Hid ((bytesOf s).length ≤ 60) := by show _ ≤ _; rw [bytes_len]; exact hs
  have HC := hide (broken_any s w hT (by omega))
  have HT := hide hT
  have hd : decide ((60 : Int) < (s.size : Int)) = false := decide_eq_false (by omega)
  clear hT
  go_enter Tryz.func34, Tryz.ntmps34
  go_wp2_with fail
  refine HC.out.mono ?_
  rintro e w1 ⟨hb1, hcase⟩
  have HB1 := hide hb1
  have HT1 := hide (HT.out.below hb1)
  clear hb1
  rcases hcase with ⟨l, hru, rfl⟩ | ⟨k, hbr, rfl⟩
  · have HRU := hide hru
    have hst : PSt (w1.alloc (.cells #[.string s, .int .i64 0, .int .i64 0, .int .i64 0] 116)) w1.heap.size s l l 0 0 := by
      refine ⟨?_, List.suffix_refl l, hru, hs, HT1.out.below ((Below.refl _ _).alloc (Nat.le_refl _) _), HT1.out.1, by simp⟩
      have := Blk.new w1 [.string s, .int .i64 0, .int .i64 0, .int .i64 0] 116
      simpa [PRd, posOf] using this
    have HC2 := hide (por_all (l.length + 1) w1.heap.size s l l 0 0 _ hst (Nat.lt_succ_self _))
    clear hru hst
    go_wp2_with fail
    refine HC2.out.mono ?_
    rintro e w2 ⟨ho2, he2⟩
    have HB2 : Hid (Below w.heap.size w w2) := HB1.out.trans ((((Below.refl _ w1).alloc (Nat.le_refl _) _).trans (ho2.toBelow (Nat.le_refl _) (by simp))).mono HB1.out.size)
    clear ho2
    cases hr : orN true (l.length + 1) l with
    | bad q =>
      rw [hr] at he2
      obtain ⟨rfl, m', hs2⟩ := he2
      have HOC := hide (lax_bad hr (bytesOf s))
      obtain ⟨c0, c1, c2, c3, hbl⟩ := hs2.cells
      generalize posOf (l.length - q.length) (bytesOf s) = PO at c1 HOC
      clear hs2 hr c0 c2 c3
      go_wp2_with fail
      go_region
      go_wp2_with fail
      refine bodyPost_ret (v := .tuple #[.pointer none, .int .i64 4, .int .i64 PO]) (by simp [results, Tryz.results34, go_sem]) rfl ?_
      exact ⟨below_drawn HB2.out, _, 4, PO, none, .inr (.inr ⟨HL.out, l, HRU.out, HOC.out.symm⟩), rfl, rfl⟩
    | ok p q =>
      rw [hr] at he2
      obtain ⟨x, rfl, hp2, hs2⟩ := he2
      have HP2 : Hid (PN w2 (New w) p x) := PN.mono (fun k _ hk => by have hk' : (w1.alloc (.cells #[.string s, .int .i64 0, .int .i64 0, .int .i64 0] 116)).heap.size ≤ k := hk; have := HB1.out.size; simp at hk'; show w.heap.size ≤ k; omega) p x hp2
      clear hp2
      cases q with
      | cons c t =>
        have HOC := hide (lax_more hr (bytesOf s))
        have HLK := hide (look_any w1.heap.size s l (c :: t) 0 _ w2 hs2)
        have hrn := (runes_all hs2.2.2.1).suf hs2.2.1 c (by simp)
        have hcn : (c == -1) = false := rune_ne hrn
        have hcm : (c != -1) = true := by rw [bne, hcn]; rfl
        have HS2 := hide hs2
        clear hs2 hr hrn
        simp only [nextP] at HLK
        go_wp2_with fail
        refine HLK.out.mono ?_
        rintro e w3 ⟨rfl, hb3⟩
        obtain ⟨c0, c1, c2, c3, hbl⟩ := (HS2.out.below hb3).cells
        have HB3 := hide (HB2.out.trans (hb3.mono HB2.out.size))
        generalize posOf (l.length - (c :: t).length) (bytesOf s) = PO at c1 HOC
        clear hb3 c0 c2 c3
        go_wp2_with fail
        go_region
        go_wp2_with fail
        refine bodyPost_ret (v := .tuple #[.pointer none, .int .i64 4, .int .i64 PO]) (by simp [results, Tryz.results34, go_sem]) rfl ?_
        exact ⟨below_drawn HB3.out, _, 4, PO, none, .inr (.inr ⟨HL.out, l, HRU.out, HOC.out.symm⟩), rfl, rfl⟩
      | nil =>
        have HOC := hide (lax_all hr (bytesOf s))
        have HLK := hide (look_any w1.heap.size s l [] 0 _ w2 hs2)
        have HS2 := hide hs2
        clear hs2 hr
        simp only [nextP] at HLK
        go_wp2_with fail
        refine HLK.out.mono ?_
        rintro e w3 ⟨rfl, hb3⟩
        have hs3 := HS2.out.below hb3
        obtain ⟨c0, c1, c2, c3, hbl⟩ := hs3.cells
        have HB3 := hide (HB2.out.trans (hb3.mono HB2.out.size))
        have HP3 := hide (PN.keep (Keeps.below hb3) p x HP2.out)
        have em : max 0 (0 + (p.deep : Int)) = (p.deep : Int) := by omega
        rw [em] at c3
        clear hb3 c0 c1 c2 hs3
        by_cases hdp : 8 < p.deep
        · have hd8 : (8 : Int) < (p.deep : Int) := by omega
          rw [if_pos hdp] at HOC
          go_wp2
          refine bodyPost_ret (v := .tuple #[.pointer none, .int .i64 5, .int .i64 0]) (by simp [results, Tryz.results34, go_sem]) rfl ?_
          exact ⟨HB3.out, _, 5, 0, none, .inr (.inr ⟨HL.out, l, HRU.out, HOC.out.symm⟩), rfl, rfl⟩
        · have hd8 : decide ((8 : Int) < (p.deep : Int)) = false := decide_eq_false (by omega)
          rw [if_neg hdp] at HOC
          go_wp2
          refine bodyPost_ret (v := .tuple #[Ptr x, .int .i64 0, .int .i64 0]) (by simp [results, Tryz.results34, go_sem]) rfl ?_
          exact ⟨HB3.out, _, 0, 0, some p, .inr (.inr ⟨HL.out, l, HRU.out, HOC.out.symm⟩), rfl, x, rfl, HP3.out⟩
  · have HBR := hide hbr
    clear hbr
    go_wp2
    refine bodyPost_ret (v := .tuple #[.pointer none, .int .i64 3, .int .i64 k]) (by simp [results, Tryz.results34, go_sem]) rfl ?_
    exact ⟨HB1.out, _, 3, k, none, .inr (.inl ⟨HL.out, k, HBR.out, rfl⟩), rfl, rfl⟩
theorem pread_any (s : ByteArray) (w : World) (hT : Tabs w) (hm : s.size ≤ 9223372036854775807) : Calls Tryz.prog 34 #[.string s] w fun e w' => ReadQ s w e w' := by
  by_cases h : s.size ≤ 60
  · exact pread_short s w hT h
  · exact pread_long s w (by omega) hm
end Go.Proofs.YtpoibdhhcbelnaaGreatDoor
