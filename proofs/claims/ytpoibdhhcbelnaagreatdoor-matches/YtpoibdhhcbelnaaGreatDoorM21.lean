/- Walks and plain laws, some texts in one. -/
import Derived.Lib.IndexBytes
import Derived.Test.YtpoibdhhcbelnaaGreatDoorM20
/- The reference's runes of a text: a walk. -/
namespace Go.Proofs.YtpoibdhhcbelnaaGreatDoor
open Go.RowKit Brm

theorem Tryz.info3 : (Tryz.prog.info? 3).map (fun i => (i.zero, i.size, i.bytes)) = some (some (.int .i64 0), 1, 8) := by kernel_rfl
theorem own_le3 {w : World} {B B' : Nat} {v : Value} {n : Nat} {xs : List Value} (h : w.ownsRow B 3 1 v n xs) (hb : B' ≤ B) : w.ownsRow B' 3 1 v n xs := by
  refine ⟨h.1, ?_⟩
  rcases h.2 with h2 | ⟨g, cap, cur, e, hg, r⟩
  · exact .inl h2
  · exact .inr ⟨g, cap, cur, e, Nat.le_trans hb hg, r⟩
theorem append_int {w : World} {ops : Array Oper} {rest : List Oper} {o : Oper} {a : Act} {Q : Exit → Act → World → Prop} (hgd : o.guard = none) (s x : Operand)
    (ho : o.op = .call { callee := .builtin .append, args := #[s, x], argTypes := #[48, 48] }) (B n : Nat) (v : Value) (xs : List Value) (hs : a.eval s = v) (hown : w.ownsRow B 3 1 v n xs)
    (ad : Addr) (news : List Value) (hx : a.eval x = .slice (some ad) 1 1) (hl : news.length = 1) (hnews : ∀ j u, news[j]? = some u → w.cell? (ad.add j) = some u) (h1 : ∀ u ∈ news, u.oneCell' = true)
    (hn : n ≤ 100000) (hB : B ≤ w.heap.size)
    (h : ∀ v' w', w'.ownsRow B 3 1 v' (n + 1) (xs ++ news) → w.grownBy w' v.ownBlock → (v'.ownBlock = v.ownBlock ∨ ∀ g, v'.ownBlock = some g → w.heap.size ≤ g) →
      wpList Tryz.prog ops Q rest (a.put o.dst v') w') : wpList Tryz.prog ops Q (o :: rest) a w := by
  obtain ⟨i0, hi, hz0, hz1, hz2⟩ := info_parts Tryz.info3
  have hrow := hown
  rcases hown.2 with ⟨rfl, rfl⟩ | ⟨g, cap, cur, rfl, hbg, hg, hnc, hcm, hcs, ht⟩
  · refine wpList_append_grows w hgd s x 48 ho 3 i0 (.int .i64 0) 1 8 Tryz.underlying48 hi hz0 hz1 hz2 rfl (by decide) none 0 0 xs hs (fun _ => ⟨rfl, rfl⟩) hrow.1 (fun b e => by cases e) ad 1 1 news hx hl hnews h1 (by omega) (by unfold maxLen; omega) (by omega) ?_
    intro v' w' ho' hg'
    exact h v' w' (own_le3 ho' hB) ⟨hg'.os, hg'.tape, hg'.output, hg'.size, fun k hk _ => hg'.block k hk (by simp)⟩ (.inr fun g e => (ho'.lt g e).1)
  · by_cases hroom : n + 1 ≤ cap
    · refine wpList_append_fits w hgd s x 48 ho B 3 i0 1 Tryz.underlying48 hi hz1 g n cap xs hs hrow ad 1 1 news hx hl hnews h1 hroom ?_
      intro w' ho' hg'
      exact h _ w' ho' hg' (.inl rfl)
    · refine wpList_append_grows w hgd s x 48 ho 3 i0 (.int .i64 0) 1 8 Tryz.underlying48 hi hz0 hz1 hz2 rfl (by decide) (some ⟨g, 0, none⟩) n cap xs hs (fun e => by cases e) hrow.1 (fun b e j u hj => by cases e; exact hrow.cells rfl j u hj) ad 1 1 news hx hl hnews h1 (by omega) (by unfold maxLen; omega) (by omega) ?_
      intro v' w' ho' hg'
      exact h v' w' (own_le3 ho' hB) ⟨hg'.os, hg'.tape, hg'.output, hg'.size, fun k hk _ => hg'.block k hk (by simp)⟩ (.inr fun g e => (ho'.lt g e).1)

theorem int_new (w : World) (c : Int) : ∀ j u, [Value.int .i64 c][j]? = some u → (w.alloc (.cells #[.int .i64 c] 3)).cell? ((⟨w.heap.size, 0, none⟩ : Addr).add j) = some u := by
  intro j u hj
  match j, hj with
  | 0, hj => simp at hj; subst hj; simp [Addr.add]
theorem int_one (c : Int) : ∀ u ∈ [Value.int .i64 c], u.oneCell' = true := by
  intro u hu; simp at hu; subst hu; rfl
theorem own3_form {w : World} {B n : Nat} {v : Value} {xs : List Value} (h : w.ownsRow B 3 1 v n xs) : ∃ ao cap, v = .slice ao n cap := by
  rcases h.2 with ⟨rfl, rfl⟩ | ⟨g, cap, cur, rfl, _⟩ <;> exact ⟨_, _, rfl⟩
theorem bytes_drop (s : ByteArray) (i : Nat) : bytesOf (s.extract i s.size) = (bytesOf s).drop i := by
  unfold bytesOf
  rw [ByteArray.data_extract]
  simp [Array.toList_extract, List.extract_eq_take_drop]
  rw [List.take_of_length_le]
  simp
/-- Some runes of a text have been read. -/
def Chain (bs : List UInt8) (pre : List Int) : Prop := posOf pre.length bs ≤ bs.length ∧ (∀ l, Runes (bs.drop (posOf pre.length bs)) l → Runes bs (pre ++ l)) ∧ ∀ k, Broken (bs.drop (posOf pre.length bs)) k → Broken bs (posOf pre.length bs + k)
theorem chain_nil (bs : List UInt8) : Chain bs [] := ⟨by simp [posOf], fun l h => by simpa [posOf] using h, fun k h => by simpa [posOf] using h⟩
theorem chain_snoc {bs : List UInt8} {pre : List Int} (h : Chain bs pre) (hne : bs.drop (posOf pre.length bs) ≠ []) (hn : decL (bs.drop (posOf pre.length bs)) ≠ noRune) :
    Chain bs (pre ++ [((decL (bs.drop (posOf pre.length bs))).1 : Int)]) ∧ posOf (pre.length + 1) bs = posOf pre.length bs + (decL (bs.drop (posOf pre.length bs))).2 := by
  have hf := decL_fit hne
  have e : posOf (pre ++ [((decL (bs.drop (posOf pre.length bs))).1 : Int)]).length bs = posOf pre.length bs + (decL (bs.drop (posOf pre.length bs))).2 := by
    rw [List.length_append, List.length_singleton, posOf_succ]
  refine ⟨⟨?_, ?_, ?_⟩, posOf_succ _ _⟩
  · rw [e]; have := hf.2.1; rw [List.length_drop] at this; have := h.1; omega
  · intro l hl
    rw [e, ← List.drop_drop] at hl
    rw [List.append_assoc]
    exact h.2.1 _ (.cons hne (c := (decL (bs.drop (posOf pre.length bs))).1) (n := (decL (bs.drop (posOf pre.length bs))).2) rfl hn hl)
  · intro k hk
    rw [e, ← List.drop_drop] at hk
    have := h.2.2 _ (.later hne (c := (decL (bs.drop (posOf pre.length bs))).1) (n := (decL (bs.drop (posOf pre.length bs))).2) rfl hn hk)
    rw [e, Nat.add_assoc]; exact this
/-- The places where runes begin. -/
def posns (bs : List UInt8) (n : Nat) : List Int := (List.range n).map fun t => (posOf t bs : Int)
theorem posns_succ (bs : List UInt8) (n : Nat) : posns bs (n + 1) = posns bs n ++ [(posOf n bs : Int)] := by simp [posns, List.range_succ]
def ints (l : List Int) : List Value := l.map fun c => .int .i64 c
def RunesI (w : World) (bs : List UInt8) (j : Nat) (ov av iv : Value) (wr : World) : Prop := ∃ pre : List Int, Chain bs pre ∧ iv = .int .i64 (posOf pre.length bs) ∧ wr.ownsRow w.heap.size 3 1 ov pre.length (ints pre) ∧ wr.ownsRow w.heap.size 3 1 av pre.length (ints (posns bs pre.length)) ∧ (ov.ownBlock = none ∨ ov.ownBlock ≠ av.ownBlock) ∧ Below w.heap.size w wr ∧ bs.length - posOf pre.length bs ≤ j ∧ pre.length ≤ posOf pre.length bs
end Go.Proofs.YtpoibdhhcbelnaaGreatDoor
/- The reference's runes of a text: a walk. -/
namespace Go.Proofs.YtpoibdhhcbelnaaGreatDoor
open Go.RowKit Brm

theorem first_pair {bs : List UInt8} (h : decL bs ≠ noRune) : firstR bs = (((decL bs).2 : Int), ((decL bs).1 : Int)) := by unfold firstR; rw [if_neg h]
theorem kept_other {wr w1 : World} {B n : Nat} {ov av : Value} {xs : List Value} {o : Obj} (ha : wr.ownsRow B 3 1 av n xs) (hne : ov.ownBlock = none ∨ ov.ownBlock ≠ av.ownBlock) (hg : (wr.alloc o).grownBy w1 ov.ownBlock) : w1.ownsRow B 3 1 av n xs := by
  refine (ha.alloc o).kept hg ?_
  rcases hne with h | h
  · cases hb : av.ownBlock with
    | none => exact .inl rfl
    | some q => exact .inr (by rw [h]; simp)
  · exact .inr (fun e => h e.symm)
theorem runes_step {w wr w1 w2 : World} {bs : List UInt8} {pre : List Int} {ov av ov' av' : Value} {c : Int} {p : Nat} {o1 o2 : Obj} (hp : posOf pre.length bs = p)
    (h2 : wr.ownsRow w.heap.size 3 1 av pre.length (ints (posns bs pre.length))) (hne : ov.ownBlock = none ∨ ov.ownBlock ≠ av.ownBlock)
    (a1 : w1.ownsRow w.heap.size 3 1 ov' (pre.length + 1) (ints pre ++ [.int .i64 c])) (g1 : (wr.alloc o1).grownBy w1 ov.ownBlock) (l1 : ov'.ownBlock = ov.ownBlock ∨ ∀ g, ov'.ownBlock = some g → (wr.alloc o1).heap.size ≤ g)
    (a2 : w2.ownsRow w.heap.size 3 1 av' (pre.length + 1) (ints (posns bs pre.length) ++ [.int .i64 p])) (g2 : (w1.alloc o2).grownBy w2 av.ownBlock) (l2 : av'.ownBlock = av.ownBlock ∨ ∀ g, av'.ownBlock = some g → (w1.alloc o2).heap.size ≤ g) :
    w2.ownsRow w.heap.size 3 1 ov' (pre ++ [c]).length (ints (pre ++ [c])) ∧ w2.ownsRow w.heap.size 3 1 av' (pre ++ [c]).length (ints (posns bs (pre ++ [c]).length)) ∧ (ov'.ownBlock = none ∨ ov'.ownBlock ≠ av'.ownBlock) := by
  have e1 : ints (pre ++ [c]) = ints pre ++ [.int .i64 c] := by simp [ints]
  have e2 : ints (posns bs (pre.length + 1)) = ints (posns bs pre.length) ++ [.int .i64 p] := by rw [posns_succ, hp]; simp [ints]
  have hs := g1.size
  simp at hs
  have hav : ∀ g, av.ownBlock = some g → g < wr.heap.size := fun g hg => (h2.lt g hg).2
  have hov' : ∀ g, ov'.ownBlock = some g → some g ≠ av.ownBlock := by
    intro g hg e
    rcases l1 with l | l
    · rcases hne with hn | hn
      · rw [l, hn] at hg; cases hg
      · exact hn (l ▸ hg.trans e)
    · have := l g hg; have := hav g e.symm; simp at *; omega
  have sep : ov'.ownBlock = none ∨ ov'.ownBlock ≠ av'.ownBlock := by
    cases hb : ov'.ownBlock with
    | none => exact .inl rfl
    | some g =>
      right
      intro e
      rcases l2 with l | l
      · exact hov' g hb (e.trans l)
      · have := l g e.symm; have := (a1.lt g hb).2; simp at *; omega
  rw [List.length_append, List.length_singleton, e1, e2]
  refine ⟨(a1.alloc o2).kept g2 ?_, a2, sep⟩
  cases hb : ov'.ownBlock with
  | none => exact .inl rfl
  | some g => exact .inr (hov' g hb)
set_option maxRecDepth 100000 in
set_option maxHeartbeats 1000000 in
theorem runes_walk (s : ByteArray) (w : World) (hs : s.size ≤ 1000) : Calls Tryz.prog 63 #[.string s] w fun e w' => Below w.heap.size w w' ∧
    ((∃ l v1 v2, Runes (bytesOf s) l ∧ e = .returned (.tuple #[v1, v2, .int .i64 (-1)]) ∧ w'.ownsRow w.heap.size 3 1 v1 l.length (ints l) ∧ w'.ownsRow w.heap.size 3 1 v2 (l.length + 1) (ints (posns (bytesOf s) (l.length + 1)))) ∨
     (∃ k : Nat, Broken (bytesOf s) k ∧ e = .returned (.tuple #[.slice none 0 0, .slice none 0 0, .int .i64 k]))) := by
  have HLEN := hide (bytes_len s)
  go_enter Tryz.func63, Tryz.ntmps63
  go_wp2
  go_loopg [5, 6, 7] s.size (fun k ov av iv wr => RunesI w (bytesOf s) k ov av iv wr)
  case atStart => exact ⟨[], chain_nil _, rfl, World.ownsRow_nil _ _ _ _, World.ownsRow_nil _ _ _ _, .inl rfl, Below.refl _ _, by rw [HLEN.out]; simp [posOf], by simp⟩
  case round =>
    obtain ⟨pre, hch, rfl, ho, ha, hne, hbel, hk, hpl⟩ := hrel
    have hp1 := hch.1
    rw [HLEN.out] at hp1 hk
    have HCH := hide hch
    have HO := hide ho
    have HA := hide ha
    have HNE := hide hne
    have HBL := hide hbel
    have hsz := hbel.size
    obtain ⟨oo, oc, rfl⟩ := own3_form ho
    obtain ⟨ao, ac, rfl⟩ := own3_form ha
    generalize hp : posOf pre.length (bytesOf s) = p at hp1 hk hpl
    have HP := hide hp
    clear hch ho ha hne hbel hp
    by_cases hlt : p < s.size
    · have hne2 : (bytesOf s).drop p ≠ [] := by
        intro e
        have := List.drop_eq_nil_iff.1 e
        rw [HLEN.out] at this; omega
      have HNE2 := hide hne2
      have hfit := decL_fit hne2
      have i0 : (0 : Int) ≤ (p : Int) := Int.natCast_nonneg _
      have i1 : (p : Int) ≤ (s.size : Int) := by omega
      have i2 : (p : Int) < (s.size : Int) := by omega
      have HES : Hid ((s.extract p s.size).size = s.size - p) := by show _ = _; simp
      by_cases hd : decL ((bytesOf s).drop p) = noRune
      · have HF : Hid (firstR (bytesOf (s.extract p s.size)) = (0, 0)) := by show _ = _; rw [bytes_drop]; exact first_bad hd
        have HD := hide hd
        clear hne2 hfit hd
        go_wp2_with (go_at_call 115; refine (first_any _ _ (by rw [HES.out]; omega) (by rw [HES.out]; omega)).mono ?_; rintro e w' ⟨rfl, rfl⟩; rw [HF.out])
        refine bodyPost_ret (v := .tuple #[.slice none 0 0, .slice none 0 0, .int .i64 p]) (by simp [results, Tryz.results63, go_sem]) rfl ⟨HBL.out, .inr ⟨p, ?_, rfl⟩⟩
        have := HCH.out.2.2 0
        rw [HP.out] at this
        exact this (.here HNE2.out HD.out)
      · have HF : Hid (firstR (bytesOf (s.extract p s.size)) = (((decL ((bytesOf s).drop p)).2 : Int), ((decL ((bytesOf s).drop p)).1 : Int))) := by show _ = _; rw [bytes_drop]; exact first_pair hd
        have hch2 := HCH.out
        have HCS : Hid (Chain (bytesOf s) (pre ++ [((decL ((bytesOf s).drop p)).1 : Int)]) ∧ posOf (pre.length + 1) (bytesOf s) = p + (decL ((bytesOf s).drop p)).2) := by
          have := chain_snoc hch2 (by rw [HP.out]; exact hne2) (by rw [HP.out]; exact hd)
          rw [HP.out] at this
          exact this
        generalize hc9 : (decL ((bytesOf s).drop p)).1 = c9 at HF HCS hfit
        generalize hn9 : (decL ((bytesOf s).drop p)).2 = n9 at HF HCS hfit
        have n1 := hfit.1
        have n4 := hfit.2.2.1
        have nb : (n9 == 0) = false := beq_eq_false_iff_ne.2 (by omega)
        have nz : ((n9 : Int) == 0) = false := beq_eq_false_iff_ne.2 (by omega)
        have hpr : pre.length ≤ 1000 := by omega
        clear hne2 hfit hd hch2 hc9 hn9 nb
        go_wp2_with (first
          | (go_at_call 115; refine (first_any _ _ (by rw [HES.out]; omega) (by rw [HES.out]; omega)).mono ?_; rintro e w' ⟨rfl, hww⟩; have hww2 := hww.symm; subst hww2; rw [HF.out])
          | (at_builtin; refine append_int rfl (.tmp 24) (.tmp 26) rfl w.heap.size pre.length _ _ rfl (HO.out.alloc _) ⟨wr.heap.size, 0, none⟩ [.int .i64 c9] rfl rfl (int_new _ _) (int_one _) (by omega) (by simp; omega) ?_; intro v1 w1 ho1 hg1 hl1; have H1 := hide ho1; have G1 := hide hg1; have L1 := hide hl1; have hs1 := hg1.size; simp at hs1; have HA1 := hide (kept_other HA.out HNE.out hg1); clear ho1 hg1 hl1)
          | (at_builtin; refine append_int rfl (.tmp 28) (.tmp 30) rfl w.heap.size pre.length _ _ rfl (HA1.out.alloc _) ⟨w1.heap.size, 0, none⟩ [.int .i64 p] rfl rfl (int_new _ _) (int_one _) (by omega) (by simp; omega) ?_; intro v2 w2 ho2 hg2 hl2; have H2 := hide ho2; have G2 := hide hg2; have L2 := hide hl2; clear ho2 hg2 hl2))
        obtain ⟨R1, R2, R3⟩ := runes_step HP.out HA.out HNE.out H1.out G1.out L1.out H2.out G2.out L2.out
        have RB : Below w.heap.size w w2 := ((HBL.out.alloc hsz _).grown G1.out (by simp; omega) (fun q e => (HO.out.lt q e).1)).alloc (by omega) _ |>.grown G2.out (by simp; omega) (fun q e => (HA.out.lt q e).1)
        go_roundg (gk - 1)
        case measure => omega
        case rel =>
          refine ⟨pre ++ [(c9 : Int)], HCS.out.1, ?_, R1, R2, R3, RB, ?_, ?_⟩
          · rw [List.length_append, List.length_singleton, HCS.out.2]; go_num
          · rw [List.length_append, List.length_singleton, HCS.out.2, HLEN.out]; omega
          · rw [List.length_append, List.length_singleton, HCS.out.2]; omega
    · have hpe : p = s.size := by omega
      subst hpe
      have HRR : Hid (Runes (bytesOf s) pre) := by
        have := HCH.out.2.1 []
        rw [HP.out, ← HLEN.out, List.drop_length, List.append_nil] at this
        exact this .nil
      have hpr : pre.length ≤ 1000 := by omega
      go_wp2_with (at_builtin; refine append_int rfl (.tmp 36) (.tmp 39) rfl w.heap.size pre.length _ _ rfl (HA.out.alloc _) ⟨wr.heap.size, 0, none⟩ [.int .i64 s.size] rfl rfl (int_new _ _) (int_one _) (by omega) (by simp; omega) ?_; intro v2 w2 ho2 hg2 hl2; have H2 := hide ho2; have G2 := hide hg2; clear ho2 hg2 hl2)
      refine bodyPost_ret (v := .tuple #[.slice oo pre.length oc, v2, .int .i64 (-1)]) (by simp [results, Tryz.results63, go_sem]) rfl ⟨(HBL.out.alloc hsz _).grown G2.out (by simp; omega) (fun q e => (HA.out.lt q e).1), .inl ⟨pre, _, _, HRR.out, rfl, (HO.out.alloc _).kept G2.out HNE.out, ?_⟩⟩
      rw [posns_succ, HP.out]
      have := H2.out
      simpa [ints] using this
end Go.Proofs.YtpoibdhhcbelnaaGreatDoor
/- The reference's reading of a pattern: a walk. -/
namespace Go.Proofs.YtpoibdhhcbelnaaGreatDoor
open Go.RowKit Brm

/-- What the runes of a pattern come to: error, place, pattern. -/
def outcome (bs : List UInt8) (l : List Int) : Int × Int × Option Pat := match orN false (l.length + 1) l with
  | .bad s => (4, (posOf (l.length - s.length) bs : Int), none)
  | .ok _ (_ :: t) => (4, (posOf (l.length - (t.length + 1)) bs : Int), none)
  | .ok p [] => if 8 < p.deep then (5, 0, none) else (0, 0, some p)
/-- What a pattern's bytes come to. -/
def ReadR (bs : List UInt8) (r : Int × Int × Option Pat) : Prop :=
  (60 < bs.length ∧ r = (2, 0, none)) ∨ (bs.length ≤ 60 ∧ ∃ k : Nat, Broken bs k ∧ r = (3, (k : Int), none)) ∨ (bs.length ≤ 60 ∧ ∃ l, Runes bs l ∧ r = outcome bs l)
theorem readR_unique {bs : List UInt8} {r r' : Int × Int × Option Pat} (h : ReadR bs r) (h' : ReadR bs r') : r' = r := by
  rcases h with ⟨a, rfl⟩ | ⟨a, k, hk, rfl⟩ | ⟨a, l, hl, rfl⟩ <;> rcases h' with ⟨a', rfl⟩ | ⟨a', k', hk', rfl⟩ | ⟨a', l', hl', rfl⟩
  · rfl
  · omega
  · omega
  · omega
  · rw [broken_unique hk hk']
  · exact absurd hk (runes_not_broken hl' k)
  · omega
  · exact absurd hk' (runes_not_broken hl k')
  · rw [runes_unique hl hl']
/-- What the reference's Read hands back. -/
def ReadV (s : ByteArray) (w : World) (e : Ending) (w' : World) : Prop := Below w.heap.size w w' ∧ ∃ k so sn sc lo ln lc mm nn rr gr er place op, ReadR (bytesOf s) (er, place, op) ∧
  e = .returned (.tuple #[.agg #[.int .i64 k, .slice so sn sc, .slice lo ln lc, .int .i64 mm, .int .i64 nn, .int .i64 rr], .int .i64 gr, .int .i64 er, .int .i64 place]) ∧
  match op with | some p => NV w' (fun q => w.heap.size ≤ q) p (Six k so sn sc lo ln lc mm nn rr) 0 ∧ gr = (p.groups : Int) | none => gr = 0
set_option maxRecDepth 100000 in
set_option maxHeartbeats 1000000 in
theorem read_long (s : ByteArray) (w : World) (hs : 60 < s.size) (hm : s.size ≤ 9223372036854775807) : Calls Tryz.prog 36 #[.string s] w fun e w' => ReadV s w e w' := by
  have HS := hide hs
  have hi : (60 : Int) < (s.size : Int) := by omega
  go_enter Tryz.func36, Tryz.ntmps36
  go_wp2_with fail
  refine bodyPost_ret (v := .tuple #[.agg #[.int .i64 0, .slice none 0 0, .slice none 0 0, .int .i64 0, .int .i64 0, .int .i64 0], .int .i64 0, .int .i64 2, .int .i64 0]) (by simp [results, Tryz.results36, go_sem]) rfl ?_
  exact ⟨(Below.refl _ _).alloc (Nat.le_refl _) _, 0, none, 0, 0, none, 0, 0, 0, 0, 0, 0, 2, 0, none, .inl ⟨by rw [bytes_len]; exact HS.out, rfl⟩, rfl, rfl⟩
theorem below6 {B : Nat} {a w : World} (h : Below B a w) (c0 c1 c2 c3 c4 c5 : Value) : Below B a (put6 w B c0 c1 c2 c3 c4 c5) :=
  (((((h.setCell (Nat.le_refl _) _).setCell (Nat.le_refl _) _).setCell (Nat.le_refl _) _).setCell (Nat.le_refl _) _).setCell (Nat.le_refl _) _).setCell (Nat.le_refl _) _
theorem fin_bad {w w2 : World} (h : Below w.heap.size w w2) (o : Obj) (c0 c1 c2 c3 c4 c5 : Value) :
    Below w.heap.size w (((((((w2.alloc o).setCell ⟨w.heap.size, 0, none⟩ c0).setCell ⟨w.heap.size, 1, none⟩ c1).setCell ⟨w.heap.size, 2, none⟩ c2).setCell ⟨w.heap.size, 3, none⟩ c3).setCell ⟨w.heap.size, 4, none⟩ c4).setCell ⟨w.heap.size, 5, none⟩ c5).drew :=
  (below6 (h.alloc h.size o) c0 c1 c2 c3 c4 c5).drew
theorem fin_bad3 {w w2 : World} (h : Below w.heap.size w w2) (c0 c1 c2 c3 c4 c5 : Value) :
    Below w.heap.size w ((((((w2.setCell ⟨w.heap.size, 0, none⟩ c0).setCell ⟨w.heap.size, 1, none⟩ c1).setCell ⟨w.heap.size, 2, none⟩ c2).setCell ⟨w.heap.size, 3, none⟩ c3).setCell ⟨w.heap.size, 4, none⟩ c4).setCell ⟨w.heap.size, 5, none⟩ c5).drew :=
  (below6 h c0 c1 c2 c3 c4 c5).drew
theorem fin_deep {w w2 : World} (h : Below w.heap.size w w2) (o : Obj) (c0 c1 c2 c3 c4 c5 : Value) :
    Below w.heap.size w (((((((w2.alloc o).setCell ⟨w.heap.size, 0, none⟩ c0).setCell ⟨w.heap.size, 1, none⟩ c1).setCell ⟨w.heap.size, 2, none⟩ c2).setCell ⟨w.heap.size, 3, none⟩ c3).setCell ⟨w.heap.size, 4, none⟩ c4).setCell ⟨w.heap.size, 5, none⟩ c5) :=
  below6 (h.alloc h.size o) c0 c1 c2 c3 c4 c5
theorem fin_nv {w w2 : World} {A : Nat → Prop} {p : Pat} {c : List Value} {g : Nat} (h : NV w2 A p c g) (hA : ∀ q, A q → w.heap.size < q) (o : Obj) (c0 c1 c2 c3 c4 c5 : Value) :
    NV (((((((w2.alloc o).setCell ⟨w.heap.size, 0, none⟩ c0).setCell ⟨w.heap.size, 1, none⟩ c1).setCell ⟨w.heap.size, 2, none⟩ c2).setCell ⟨w.heap.size, 3, none⟩ c3).setCell ⟨w.heap.size, 4, none⟩ c4).setCell ⟨w.heap.size, 5, none⟩ c5).drew (fun q => w.heap.size ≤ q) p c g :=
  NV.mono (fun q _ hq => Nat.le_of_lt (hA q hq)) p c g (NV.keep ((Keeps.alloc A w2 o).put6 (r := w.heap.size) (fun h => Nat.lt_irrefl _ (hA _ h)) c0 c1 c2 c3 c4 c5).drew p c g h)
theorem own3_cell {w : World} {B n t : Nat} {pa : Option Addr} {pc : Nat} {xs : List Int} (h : w.ownsRow B 3 1 (.slice pa n pc) n (ints xs)) (x : Int) (ht : xs[t]? = some x) : ∃ bp, pa = some ⟨bp, 0, none⟩ ∧ w.cell? ⟨bp, t, none⟩ = some (.int .i64 x) ∧ bp < w.heap.size ∧ B ≤ bp ∧ t < n := by
  have hl := h.1
  have htl : t < xs.length := (List.getElem?_eq_some_iff.1 ht).1
  simp [ints] at hl
  rcases h.2 with ⟨_, h0⟩ | ⟨g, cap, cur, e, hg, hh, r⟩
  · omega
  · cases e
    have := h.cells rfl t (.int .i64 x) (by simp [ints, ht])
    rw [Addr.add_lit] at this
    exact ⟨g, rfl, by simpa using this, (h.lt g rfl).2, hg, by omega⟩
theorem posns_at (bs : List UInt8) {n t : Nat} (h : t < n) : (posns bs n)[t]? = some (posOf t bs : Int) := by simp [posns, h]
set_option maxRecDepth 100000 in
set_option maxHeartbeats 2000000 in
theorem read_short (s : ByteArray) (w : World) (hs : s.size ≤ 60) : Calls Tryz.prog 36 #[.string s] w fun e w' => ReadV s w e w' := by
  have HS := hide hs
  have hi : decide ((60 : Int) < (s.size : Int)) = false := decide_eq_false (by omega)
  go_enter Tryz.func36, Tryz.ntmps36
  go_wp2_with fail
  refine (runes_walk s _ (by omega)).mono ?_
  rintro e w1 ⟨hb1, hcase⟩
  have HB1 := hide hb1
  have HK1 := hide ((Blk.new w [.int .i64 0, .slice none 0 0, .slice none 0 0, .int .i64 0, .int .i64 0, .int .i64 0] 32).below hb1)
  have hsz1 : w.heap.size + 1 ≤ w1.heap.size := by have := hb1.size; simp at this; omega
  clear hb1
  rcases hcase with ⟨l, v1, v2, hru, rfl, ho1, ho2⟩ | ⟨k, hbr, rfl⟩
  · have HRU := hide hru
    have HO1 := hide ho1
    have HO2 := hide ho2
    have hl60 : l.length ≤ 60 := by have := runes_len hru; rw [bytes_len] at this; omega
    obtain ⟨oo, oc, rfl⟩ := own3_form ho1
    obtain ⟨pa, pc, rfl⟩ := own3_form ho2
    clear hru ho1 ho2
    go_wp2_with fail
    have HT : Hid (Txt (w1.alloc (.cells #[.slice oo l.length oc, .int .i64 0, .int .i64 (-1), .int .i64 0, .int .i64 0, .int .i64 0] 127)) w1.heap.size (.slice oo l.length oc) l) := ⟨own_le3 (HO1.out.alloc _) (Nat.zero_le _), fun q hq => by have := (HO1.out.lt q hq).2; simp; omega⟩
    have hst : St (w1.alloc (.cells #[.slice oo l.length oc, .int .i64 0, .int .i64 (-1), .int .i64 0, .int .i64 0, .int .i64 0] 127)) w1.heap.size (.slice oo l.length oc) l l ((0 : Nat) : Int) 0 0 := by
      refine ⟨?_, List.suffix_refl l, HT.out, hl60, runes_all HRU.out, by simp⟩
      have := Blk.new w1 [.slice oo l.length oc, .int .i64 0, .int .i64 (-1), .int .i64 0, .int .i64 0, .int .i64 0] 127
      simpa [Rdr] using this
    refine (or_all (l.length + 1) w1.heap.size (.slice oo l.length oc) l l 0 0 0 _ hst (Nat.lt_succ_self _)).mono ?_
    rintro e w2 ⟨k, so, sn, sc, lo, ln, lc, mm, nn, rr, rfl, hoff, hpt⟩
    have HOF := hide hoff
    have HK2 := hide (((HK1.out.alloc (.cells #[.slice oo l.length oc, .int .i64 0, .int .i64 (-1), .int .i64 0, .int .i64 0, .int .i64 0] 127)).off hoff (by omega)).alloc (.cells #[.int .i64 k, .slice so sn sc, .slice lo ln lc, .int .i64 mm, .int .i64 nn, .int .i64 rr] 32))
    have HB2 : Hid (Below w.heap.size w w2) := ((Below.refl _ w).alloc (Nat.le_refl _) _).trans ((HB1.out.mono (by simp)).trans (((Below.refl _ w1).alloc (Nat.le_refl _) (.cells #[.slice oo l.length oc, .int .i64 0, .int .i64 (-1), .int .i64 0, .int .i64 0, .int .i64 0] 127)).mono (by omega) |>.trans (hoff.toBelow (by omega) (by simp; omega))))
    have HP2 : Hid (w2.ownsRow (w.heap.size + 1) 3 1 (.slice pa (l.length + 1) pc) (l.length + 1) (ints (posns (bytesOf s) (l.length + 1)))) := by
      have h9 := HO2.out
      have e9 : (w.alloc (.cells #[.int .i64 0, .slice none 0 0, .slice none 0 0, .int .i64 0, .int .i64 0, .int .i64 0] 32)).heap.size = w.heap.size + 1 := by simp
      rw [e9] at h9
      exact own_block (h9.alloc (.cells #[.slice oo l.length oc, .int .i64 0, .int .i64 (-1), .int .i64 0, .int .i64 0, .int .i64 0] 127)) (fun q hq => hoff.block q (by have := (h9.lt q hq).2; simp; omega) (by have := (h9.lt q hq).2; omega))
    have HPQ : Hid (∀ q, (Value.slice pa (l.length + 1) pc).ownBlock = some q → q < w1.heap.size) := fun q hq => (HO2.out.lt q hq).2
    have hw2 : w1.heap.size < w2.heap.size := by have := hoff.size; simp at this; omega
    clear hst hoff
    cases hr : orN false (l.length + 1) l with
    | bad s2 =>
      rw [hr] at hpt
      have HOC : Hid (outcome (bytesOf s) l = (4, (posOf (l.length - s2.length) (bytesOf s) : Int), none)) := by show _ = _; unfold outcome; rw [hr]
      obtain ⟨i1, g1, m1, hrd⟩ := hpt
      have ht := posns_at (bytesOf s) (n := l.length + 1) (t := l.length - s2.length) (by omega)
      obtain ⟨bp, rfl, hpc, hbp, hbl, htl⟩ := own3_cell HP2.out _ ht
      have c2 := hrd.cell 2
      simp at c2
      have hbb := hrd.lt
      generalize hti : l.length - s2.length = ti at c2 hpc htl HOC
      generalize hpo : posOf ti (bytesOf s) = po at hpc HOC
      have i0 : (0 : Int) ≤ (ti : Int) := Int.natCast_nonneg _
      have i1 : (ti : Int) < (l.length : Int) + 1 := by omega
      have d1 : decide ((ti : Int) < 0) = false := decide_eq_false (by omega)
      obtain ⟨⟨z0, z1, z2, z3, z4, z5⟩, ⟨y0, y1, y2, y3, y4, y5⟩, hw3⟩ := zero_cells HK2.out
      clear ht hti hpo
      go_wp2_with fail
      go_region
      go_wp2_with fail
      refine bodyPost_ret (v := .tuple #[.agg #[.int .i64 0, .slice none 0 0, .slice none 0 0, .int .i64 0, .int .i64 0, .int .i64 0], .int .i64 0, .int .i64 4, .int .i64 po]) (by simp [results, Tryz.results36, go_sem, z0, z1, z2, z3, z4, z5]) rfl ?_
      refine ⟨?_, 0, none, 0, 0, none, 0, 0, 0, 0, 0, 0, 4, po, none, .inr (.inr ⟨by rw [bytes_len]; exact HS.out, l, HRU.out, HOC.out.symm⟩), rfl, rfl⟩
      exact fin_bad HB2.out _ _ _ _ _ _ _
    | ok p s2 =>
      rw [hr] at hpt
      obtain ⟨hnv, hst2⟩ := hpt
      cases s2 with
      | cons c t =>
        have HOC : Hid (outcome (bytesOf s) l = (4, (posOf (l.length - (t.length + 1)) (bytesOf s) : Int), none)) := by show _ = _; unfold outcome; rw [hr]
        have hsuf := hst2.2.1.length_le
        obtain ⟨c0, c1, c2, c3, c4, c5, hbb⟩ := hst2.cells
        have i2 : ((l.length - (c :: t).length : Nat) : Int) < (l.length : Int) := by simp only [List.length_cons] at hsuf ⊢; omega
        generalize hti0 : l.length - (c :: t).length = ti0 at c1 i2
        have HST2 := hide hst2
        clear hnv hst2 hti0 c3 c4 c5
        go_wp2_with fail
        refine (fail_any _ _ _ _ _ _ _ _ (HST2.out.new (.cells #[.int .i64 k, .slice so sn sc, .slice lo ln lc, .int .i64 mm, .int .i64 nn, .int .i64 rr] 32))).mono ?_
        rintro e w3 ⟨rfl, hbad, hof⟩
        have HB3 : Hid (Below w.heap.size w w3) := (HB2.out.alloc (by omega) (.cells #[.int .i64 k, .slice so sn sc, .slice lo ln lc, .int .i64 mm, .int .i64 nn, .int .i64 rr] 32)).trans (hof.toBelow (by omega) (by simp; omega))
        replace HK2 := hide (HK2.out.off hof (by omega))
        have HP3 : Hid (w3.ownsRow (w.heap.size + 1) 3 1 (.slice pa (l.length + 1) pc) (l.length + 1) (ints (posns (bytesOf s) (l.length + 1)))) :=
          own_block (HP2.out.alloc (.cells #[.int .i64 k, .slice so sn sc, .slice lo ln lc, .int .i64 mm, .int .i64 nn, .int .i64 rr] 32)) (fun q hq => hof.block q (by have := (HP2.out.lt q hq).2; simp; omega) (by have := HPQ.out q hq; omega))
        have hw3s : w2.heap.size < w3.heap.size := by have := hof.size; simp at this; omega
        clear hof c0 c1 c2 hbb
        obtain ⟨i1, g1, m1, hrd⟩ := hbad
        have ht := posns_at (bytesOf s) (n := l.length + 1) (t := l.length - (t.length + 1)) (by omega)
        obtain ⟨bp, rfl, hpc, hbp, hbl, htl⟩ := own3_cell HP3.out _ ht
        have c2 := hrd.cell 2
        simp only [List.length_cons] at c2
        simp at c2
        have hbb := hrd.lt
        generalize hti : l.length - (t.length + 1) = ti at c2 hpc htl HOC
        generalize hpo : posOf ti (bytesOf s) = po at hpc HOC
        have i0 : (0 : Int) ≤ (ti : Int) := Int.natCast_nonneg _
        have i1 : (ti : Int) < (l.length : Int) + 1 := by omega
        have d1 : decide ((ti : Int) < 0) = false := decide_eq_false (by omega)
        obtain ⟨⟨z0, z1, z2, z3, z4, z5⟩, ⟨y0, y1, y2, y3, y4, y5⟩, hw3⟩ := zero_cells HK2.out
        clear ht hti hpo
        go_wp2_with fail
        go_region
        go_wp2_with fail
        refine bodyPost_ret (v := .tuple #[.agg #[.int .i64 0, .slice none 0 0, .slice none 0 0, .int .i64 0, .int .i64 0, .int .i64 0], .int .i64 0, .int .i64 4, .int .i64 po]) (by simp [results, Tryz.results36, go_sem, z0, z1, z2, z3, z4, z5]) rfl ?_
        refine ⟨?_, 0, none, 0, 0, none, 0, 0, 0, 0, 0, 0, 4, po, none, .inr (.inr ⟨by rw [bytes_len]; exact HS.out, l, HRU.out, HOC.out.symm⟩), rfl, rfl⟩
        exact fin_bad3 HB3.out _ _ _ _ _ _
      | nil =>
        obtain ⟨c0, c1, c2, c3, c4, c5, hbb⟩ := hst2.cells
        simp only [List.length_nil, Nat.sub_zero] at c1
        have em : max 0 (0 + (p.deep : Int)) = (p.deep : Int) := by omega
        rw [em] at c5
        have eg : ((0 + p.groups : Nat) : Int) = (p.groups : Int) := by simp
        rw [eg] at c3
        have d2 : decide ((l.length : Int) < (l.length : Int)) = false := decide_eq_false (by omega)
        obtain ⟨⟨z0, z1, z2, z3, z4, z5⟩, ⟨y0, y1, y2, y3, y4, y5⟩, hw3⟩ := zero_cells HK2.out
        have HNV := hide hnv
        have HPD := hide (hst2.facts)
        clear hnv hst2
        by_cases hdp : 8 < p.deep
        · have HOC : Hid (outcome (bytesOf s) l = (5, 0, none)) := by show _ = _; unfold outcome; rw [hr]; simp only [if_pos hdp]
          have hd8 : (8 : Int) < (p.deep : Int) := by omega
          go_wp2_with fail
          refine bodyPost_ret (v := .tuple #[.agg #[.int .i64 0, .slice none 0 0, .slice none 0 0, .int .i64 0, .int .i64 0, .int .i64 0], .int .i64 0, .int .i64 5, .int .i64 0]) (by simp [results, Tryz.results36, go_sem, z0, z1, z2, z3, z4, z5]) rfl ?_
          refine ⟨?_, 0, none, 0, 0, none, 0, 0, 0, 0, 0, 0, 5, 0, none, .inr (.inr ⟨by rw [bytes_len]; exact HS.out, l, HRU.out, HOC.out.symm⟩), rfl, rfl⟩
          exact fin_deep HB2.out _ _ _ _ _ _ _
        · have HOC : Hid (outcome (bytesOf s) l = (0, 0, some p)) := by show _ = _; unfold outcome; rw [hr]; simp only [if_neg hdp]
          have hd8 : decide ((8 : Int) < (p.deep : Int)) = false := decide_eq_false (by omega)
          go_wp2_with fail
          go_region
          go_wp2_with fail
          refine bodyPost_ret (v := .tuple #[.agg #[.int .i64 k, .slice so sn sc, .slice lo ln lc, .int .i64 mm, .int .i64 nn, .int .i64 rr], .int .i64 p.groups, .int .i64 0, .int .i64 0]) (by simp [results, Tryz.results36, go_sem, z0, z1, z2, z3, z4, z5]) rfl ?_
          exact ⟨fin_bad HB2.out _ _ _ _ _ _ _, k, so, sn, sc, lo, ln, lc, mm, nn, rr, p.groups, 0, 0, some p, .inr (.inr ⟨by rw [bytes_len]; exact HS.out, l, HRU.out, HOC.out.symm⟩), rfl, fin_nv HNV.out (fun q hq => by simp at hq; omega) _ _ _ _ _ _ _, rfl⟩
  · have HBR := hide hbr
    clear hbr
    obtain ⟨⟨z0, z1, z2, z3, z4, z5⟩, ⟨y0, y1, y2, y3, y4, y5⟩, hw1⟩ := zero_cells HK1.out
    have hk0 : (0 : Int) ≤ (k : Int) := Int.natCast_nonneg _
    go_wp2_with fail
    refine bodyPost_ret (v := .tuple #[.agg #[.int .i64 0, .slice none 0 0, .slice none 0 0, .int .i64 0, .int .i64 0, .int .i64 0], .int .i64 0, .int .i64 3, .int .i64 k]) (by simp [results, Tryz.results36, go_sem, z0, z1, z2, z3, z4, z5]) rfl ?_
    refine ⟨?_, 0, none, 0, 0, none, 0, 0, 0, 0, 0, 0, 3, k, none, .inr (.inl ⟨by rw [bytes_len]; exact HS.out, k, HBR.out, rfl⟩), rfl, rfl⟩
    have hb := ((Below.refl _ w).alloc (Nat.le_refl _) (.cells #[.int .i64 0, .slice none 0 0, .slice none 0 0, .int .i64 0, .int .i64 0, .int .i64 0] 32)).trans (HB1.out.mono (by simp))
    exact (((((hb.setCell (Nat.le_refl _) _).setCell (Nat.le_refl _) _).setCell (Nat.le_refl _) _).setCell (Nat.le_refl _) _).setCell (Nat.le_refl _) _).setCell (Nat.le_refl _) _
theorem read_ref (s : ByteArray) (w : World) (hm : s.size ≤ 9223372036854775807) : Calls Tryz.prog 36 #[.string s] w fun e w' => ReadV s w e w' := by
  by_cases h : s.size ≤ 60
  · exact read_short s w h
  · exact read_long s w (by omega) hm
end Go.Proofs.YtpoibdhhcbelnaaGreatDoor
