/- Walks and plain laws, some texts in one. -/
import Derived.Test.YtlflfcjbpnnfcaaGreatDoorM22
/- Many times: a walk; all that take. -/
namespace Go.Proofs.YtlflfcjbpnnfcaaGreatDoor
open Go.Shelf Go.RowKit Go.Lib Brm

theorem behindT_any (c : Cx) (gb : Nat) (got : List Int) (p : Pat) (F : Nat) (cp : Array Value) (t : Value) (eg : ∀ args w, (callFunc F args).run Tryz.prog w = .ok (.enter F args) w) (i j M : Nat) (n : Int) (w : World) (hI : Inv c w) (hG : GB c gb got w) (hij : i ≤ j) (hj : j ≤ c.l.length) (hc : EndC c gb p F cp w) (hM5 : M ≤ 5) (hn : n = -1 ∨ ((M : Int) ≤ n ∧ n ≤ 5)) :
    Calls Tryz.prog 205 #[.agg #[.func (.func F) #[] cp, t], .pointer (some ⟨c.bt, 0, none⟩), .int .i64 i, .int .i64 j, .int .i64 M, .int .i64 n] w (BhR c gb got p M (turnsN (M : Int) n i j) i j w) := by
  rcases hn with rfl | ⟨h1, h2⟩
  · exact behind_free c gb got p F cp t eg i j M _ w hI hG hij hj hc hM5 (by simp [turnsN])
  · obtain ⟨N0, rfl⟩ : ∃ N0 : Nat, n = (N0 : Int) := ⟨n.toNat, by omega⟩
    exact behind_most c gb got p F cp t eg i j M N0 _ w hI hG hij hj hc hM5 (by omega) (by omega) (by simp only [turnsN]; rw [if_neg (by omega)]; simp)
/-- One turn. -/
def StepM (x : List Int) (p : Pat) (M T j g : Nat) : Nat → Nat → Nat → List Int → List Int → Prop := fun t' i' k a b => HiB (fun q => mT p x i' q && bhB p x M T (t' + 1) j q) (x.length + 1) k ∧ Tk x p g i' k a b
theorem turnsN_le {M i j : Nat} {n : Int} (hM : M ≤ 5) (hj : j ≤ 40) : turnsN (M : Int) n i j ≤ 45 := by
  unfold turnsN
  split <;> omega
theorem turn_hi {p : Pat} {x : List Int} {M T i j f t k : Nat} (hf : i ≤ f) (h : HiB (fun q => mT p x f q && bhB p x M T t j q) (x.length + 1) k) : HiB (fun q => mT p x f q && bhI p x M T i j t q) (x.length + 1) k := h.congr (fun q _ => by
  unfold bhI
  cases hm : mT p x f q with
  | false => simp
  | true =>
    have := (mT_iff.1 hm).1
    simp [show i ≤ q by omega])
set_option maxRecDepth 100000 in
set_option maxHeartbeats 4000000 in
theorem take_manyN (c : Cx) (p : Pat) (M : Nat) (n : Int) (hM5 : M ≤ 5) (hn5 : n = -1 ∨ ((M : Int) ≤ n ∧ n ≤ 5)) (ih : TakeOk c p) (w : World) (gb : Nat) (got : List Int) (g i j : Nat) (hI : Inv c w) (hG : GB c gb got w) (b0 b1 b2 : Nat) (F : Nat) (cp : Array Value) (G : Nat) (tc : Array Value) (eg : ∀ args w, (callFunc F args).run Tryz.prog w = .ok (.enter F args) w) (eg2 : ∀ args w, (callFunc G args).run Tryz.prog w = .ok (.enter G args) w)
    (hK0 : c.K gb b0) (hK1 : c.K gb b1) (hB0 : Blk w b0 [.func (.func F) #[] cp, .func (.func G) #[] tc] 180) (hB1 : Blk w b1 [.int .i64 M] 3) (hB2 : Blk w b2 [.int .i64 n] 3) (hEC : EndC c gb p F cp w) (hE : EV w (c.K gb) c.L p (.func (.func F) #[] cp)) (hT : TV w (c.K gb) c.L p g (.func (.func G) #[] tc)) (hm : mT (.many p M n) c.l i j = true) (hj : j ≤ c.l.length) (hn : 2 * (g + p.groups) ≤ got.length) :
    Calls Tryz.prog 204 #[.pointer (some ⟨c.bt, 0, none⟩), .int .i64 i, .int .i64 j, .pointer (some ⟨b0, 0, none⟩), .pointer (some ⟨b1, 0, none⟩), .pointer (some ⟨b2, 0, none⟩)] w fun e w' => e = .returned (.tuple #[]) ∧ ∃ got', Tk c.l (.many p M n) g i j got got' ∧ Inv c w' ∧ GB c gb got' w' ∧ KR (c.S gb) w w' := by
  have hij := (mT_iff.1 hm).1
  have h40 := hI.len
  have HBH := hide (behindT_any c gb got p F cp (.func (.func G) #[] tc) eg i j M n w hI hG hij hj hEC hM5 hn5)
  have HST := hide (turns_start hj (Int.natCast_nonneg _) (by omega) hm)
  rw [Int.toNat_natCast] at HST
  have HTK : Hid (∀ t c9 b9, Turns (StepM c.l p M (turnsN (M : Int) n i j) j g) j i 0 got t c9 → ((t < M ∧ Tk c.l p g j j c9 b9) ∨ (¬ t < M ∧ b9 = c9)) → Tk c.l (.many p M n) g i j got b9) := fun t c9 b9 h1 h2 => ⟨t, c9, h1, h2⟩
  have hT45 : turnsN (M : Int) n i j ≤ 45 := turnsN_le hM5 (by omega)
  generalize hT0 : turnsN (M : Int) n i j = T at HBH HST HTK hT45
  have x0 : w.cell? ⟨b0, 0, none⟩ = some (.func (.func F) #[] cp) := hB0.cell 0
  have x1 : w.cell? ⟨b0, 1, none⟩ = some (.func (.func G) #[] tc) := hB0.cell 1
  have x2 := one hB1
  have x3 := one hB2
  have hl0 := hB0.lt
  have hl1 := hB1.lt
  have hl2 := hB2.lt
  have HG := hide hG
  have HIH := hide ih
  have HEC := hide hEC
  have HE := hide hE
  have HT := hide hT
  have HN := hide hn
  have HB0 := hide hB0
  have HB1 := hide hB1
  have HK0 := hide hK0
  have HK1 := hide hK1
  have HBND : Hid (∀ g, c.S gb g → g < w.heap.size) := fun g h => by
    rcases h with h | h
    · exact hI.bound g h
    · rw [h]; exact hG.blk.lt
  clear hI hG hEC hE hT hn hB0 hB1 hB2 hK0 hK1 ih hm hT0
  unfold BhR at HBH
  go_enter Tryz.func204, Tryz.ntmps204
  go_wp2_with fail
  refine HBH.out.mono ?_
  rintro e w1 ⟨B, rfl, hBs, hBe, hI1, hG1, hK1⟩
  have HBe := hide hBe
  have HI1 := hide hI1
  have HG1 := hide hG1
  have HK1' := hide hK1
  have HNB : Hid (¬ c.S gb B) := fun h => by have := HBND.out B h; omega
  clear hBe hI1 hG1 hK1 HBH
  go_wp2_with fail
  go_loopw [1, 10] (fun fr tn wr => ∃ f t : Nat, ∃ got2, fr = .int .i64 f ∧ tn = .int .i64 t ∧ i ≤ f ∧ f ≤ j ∧ bhB p c.l M T t j f = true ∧ (∀ t' c', Turns (StepM c.l p M T j g) j f t got2 t' c' → Turns (StepM c.l p M T j g) j i 0 got t' c') ∧ Beh wr B T (fun q => mk (bhI p c.l M T i j (q + 1)) (c.l.length + 1)) 0 ∧ Inv c wr ∧ GB c gb got2 wr ∧ KR (c.S gb) w wr) (fun fr _ _ => j - (intOf fr).toNat)
  case atStart => exact ⟨i, 0, got, rfl, rfl, Nat.le_refl _, hij, HST.out, fun _ _ h => h, HBe.out, HI1.out, HG1.out, HK1'.out⟩
  case round =>
    obtain ⟨f, t, got2, rfl, rfl, hf1, hf2, hbh, hto, hBe, hI, hG, hK⟩ := hrel
    have f0 : (0 : Int) ≤ (f : Int) := Int.natCast_nonneg _
    have t0 : (0 : Int) ≤ (t : Int) := Int.natCast_nonneg _
    have hlen := HG.out.same hG
    have hBl := hBe.lt
    have hb0 := HB0.out.kr hK HK0.out
    have hb1 := HB1.out.kr hK HK1.out
    have y0 : wr.cell? ⟨b0, 0, none⟩ = some (.func (.func F) #[] cp) := hb0.cell 0
    have y1 : wr.cell? ⟨b0, 1, none⟩ = some (.func (.func G) #[] tc) := hb0.cell 1
    have y2 := one hb1
    have z0l := hb0.lt
    have z1l := hb1.lt
    have htc := hK.keeps (A := c.K gb) (fun _ h => h)
    have hEC := HEC.out.later hK
    have hEV := EV.keep htc _ _ HE.out
    have hTV := TV.keep htc _ _ _ HT.out
    have HIr := hide hI
    have HGr := hide hG
    have HKr := hide hK
    have HTO := hide hto
    have HBEr := hide hBe
    by_cases hlt : f < j
    · obtain ⟨ht, k, k1, k2, k3, k4, k5⟩ := turn_first hj hlt hbh
      have f1 : (f : Int) < (j : Int) := by omega
      have t1 : (t : Int) < (T : Int) := by omega
      have HLG := hide (fun (w3 : World) (a : KR (c.S gb) wr w3) (bI : Inv c w3) (d : GB c gb got2 w3) => longest_any c gb got2 p F cp G tc eg eg2 g f k (bhI p c.l M T i j (t + 1)) w3 bI d (hEC.later a) (EV.keep (a.keeps (A := c.K gb) (fun _ h => h)) _ _ hEV) (TV.keep (a.keeps (A := c.K gb) (fun _ h => h)) _ _ _ hTV) HIH.out (turn_hi hf1 k1) (by omega) (by rw [hlen]; exact HN.out))
      have z0 : wr.cell? ⟨B, t, none⟩ = some (.int .u64 ((mk (bhI p c.l M T i j (t + 1)) (c.l.length + 1) : Nat) : Int)) := hBe.cell (Nat.zero_le _) ht
      have Z1 : Hid (∀ w3, KR (c.S gb) wr w3 → w3.cell? ⟨B, t, none⟩ = some (.int .u64 ((mk (bhI p c.l M T i j (t + 1)) (c.l.length + 1) : Nat) : Int))) := fun w3 a => (HBEr.out.kr a HNB.out).cell (Nat.zero_le _) ht
      have Z2 : Hid (∀ w3, KR (c.S gb) wr w3 → w3.cell? ⟨b0, 0, none⟩ = some (.func (.func F) #[] cp) ∧ w3.cell? ⟨b0, 1, none⟩ = some (.func (.func G) #[] tc)) := fun w3 a => ⟨((HB0.out.kr HKr.out HK0.out).kr a HK0.out).cell 0, ((HB0.out.kr HKr.out HK0.out).kr a HK0.out).cell 1⟩
      have HSTEP := hide k1
      have HK5' := hide k5
      generalize mk (bhI p c.l M T i j (t + 1)) (c.l.length + 1) = N at HLG z0 Z1
      have HS0 : Hid (wr.cell? ⟨b0, 0, none⟩ = some (.func (.func F) #[] cp) ∧ wr.cell? ⟨b0, 1, none⟩ = some (.func (.func G) #[] tc) ∧ wr.cell? ⟨B, t, none⟩ = some (.int .u64 (N : Int))) := ⟨y0, y1, z0⟩
      clear hBe hI hG hK hto hbh hEC hEV hTV htc hb0 hb1 k1 k5 hlen
      go_wp2_with fail
      go_region_held3 (fun w' => w'.cell? ⟨b0, 0, none⟩ = some (.func (.func F) #[] cp) ∧ w'.cell? ⟨b0, 1, none⟩ = some (.func (.func G) #[] tc) ∧ w'.cell? ⟨B, t, none⟩ = some (.int .u64 (N : Int)))
        (first | exact HS0.out | exact HS5.out)
        (first | (go_at_call 197; refine (HLG.out _ (KR.refl _ _).drew HIr.out.drew HGr.out.drew).mono ?_; rintro e w5 ⟨rfl, got5, h5, hI5, hG5, hK5⟩; have HK5 := hide (((KR.refl (c.S gb) wr).drew).trans hK5); have HS5 : Hid (w5.cell? ⟨b0, 0, none⟩ = some (.func (.func F) #[] cp) ∧ w5.cell? ⟨b0, 1, none⟩ = some (.func (.func G) #[] tc) ∧ w5.cell? ⟨B, t, none⟩ = some (.int .u64 (N : Int))) := ⟨(Z2.out _ HK5.out).1, (Z2.out _ HK5.out).2, Z1.out _ HK5.out⟩; have H5 := hide h5; have HI5 := hide hI5; have HG5 := hide hG5; clear h5 hI5 hG5 hK5))
      go_wp2_with fail
      go_roundw
      case rel =>
        exact ⟨k, t + 1, got5, rfl, by go_num, by omega, k3, HK5'.out, fun t' c' h => HTO.out t' c' (.turn hlt ⟨HSTEP.out, H5.out⟩ h), HBEr.out.kr HK5.out HNB.out, HI5.out, HG5.out, HKr.out.trans HK5.out⟩
      case measure => simp [intOf]; omega
    · have hfe : f = j := by omega
      subst hfe
      have f1 : decide (f < f) = false := decide_eq_false (Nat.lt_irrefl _)
      by_cases hM : t < M
      · have m1 : (t : Int) < (M : Int) := by omega
        have hmm := turns_owed hbh hM
        have HTAKE := hide (HIH.out wr gb got2 G tc g f f _ hI hG hEV hTV hmm hj (by rw [hlen]; exact HN.out))
        have HTT := hide (hto t got2 (.done t got2))
        clear hBe hI hG hK hto hbh hEC hEV hTV htc hb0 hb1 hlen hmm
        go_wp2_with fail
        refine HTAKE.out.mono ?_
        rintro e w5 ⟨rfl, got5, h5, hI5, hG5, hK5⟩
        have H5 := hide h5
        have HI5 := hide hI5
        have HG5 := hide hG5
        have HK5 := hide hK5
        clear h5 hI5 hG5 hK5
        go_wp2_with fail
        go_end0
        exact ⟨rfl, got5, HTK.out t got2 got5 HTT.out (.inl ⟨hM, H5.out⟩), HI5.out, HG5.out, HKr.out.trans HK5.out⟩
      · have m1 : ¬ (t : Int) < (M : Int) := by omega
        have m2 : decide (t < M) = false := decide_eq_false hM
        have HTT := hide (hto t got2 (.done t got2))
        clear hBe hI hG hK hto hbh hEC hEV hTV htc hb0 hb1 hlen
        go_wp2_with fail
        go_end0
        exact ⟨rfl, got2, HTK.out t got2 got2 HTT.out (.inr ⟨hM, rfl⟩), HIr.out, HGr.out, HKr.out⟩
theorem take_many (c : Cx) (p : Pat) (m n : Int) (hk : (Pat.many p m n).Ok) (ih : TakeOk c p) : TakeOk c (.many p m n) := by
  intro w gb got G tc g i j f0 hI hG hE0 hT hm hj hn
  obtain ⟨hp, hm0, hm5, hnn⟩ := hk
  obtain ⟨b0, b1, b2, f, u, e, hK0, hK1, hK2, hB0, hB1, hB2, hu, hE, hT⟩ := hT
  cases e
  obtain ⟨F, cp, rfl, eg⟩ := EV.form p f hp hE
  obtain ⟨G, tc, rfl, eg2⟩ := TV.form p g u hp hT
  obtain ⟨M, rfl⟩ : ∃ M : Nat, m = (M : Int) := ⟨m.toNat, by omega⟩
  exact take_manyN c p M n (by omega) hnn ih w gb got g i j hI hG b0 b1 b2 F cp G tc eg eg2 hK0 hK1 hB0 hB1 hB2 (end_call hp hE) hE hT hm hj hn
mutual
theorem takes_all (c : Cx) : ∀ (p : Pat), p.Ok → TakeOk c p
  | .set s, _ => take_set c s
  | .row l, h => take_row c l h (takes_allL c l h)
  | .or l, h => take_or c l h.1 (takes_allL c l h.1)
  | .and l, h => take_and c l (takes_allL c l h.1)
  | .not p, _ => take_not c p
  | .many p m n, h => take_many c p m n h (takes_all c p h.1)
  | .group p, h => take_group c p h (takes_all c p h)
theorem takes_allL (c : Cx) : ∀ (l : List Pat), OkL l → ∀ p ∈ l, TakeOk c p
  | [], _ => fun p h => by cases h
  | q :: l, hk => by
    have hq := takes_all c q hk.1
    have hl := takes_allL c l hk.2
    intro p h
    rcases List.mem_cons.1 h with rfl | h
    · exact hq
    · exact hl p h
end
end Go.Proofs.YtlflfcjbpnnfcaaGreatDoor
/- The groups of a text: a walk. -/
namespace Go.Proofs.YtlflfcjbpnnfcaaGreatDoor
open Go.Shelf Go.RowKit Go.Lib Brm

theorem Below.ofKR {B : Nat} {S : Nat → Prop} {w w2 w3 : World} (h : Below B w w2) (k : KR S w2 w3) (hS : ∀ g, S g → B ≤ g) (hB : B ≤ w2.heap.size) : Below B w w3 :=
  ⟨k.os.trans h.os, k.tape.trans h.tape, k.output.trans h.output, Nat.le_trans h.size k.size, fun i hi => (k.block i (by omega) (fun hs => by have := hS i hs; omega)).trans (h.block i hi)⟩
/-- The text is given groups. -/
theorem Inv.regroup {c : Cx} {w : World} (h : Inv c w) (v : Value) (h2 : c.bt ≠ 2) (hk : c.kb ≠ c.bt) (hao : ∀ b o, c.ao = some ⟨b, o, none⟩ → c.l ≠ [] → b ≠ c.bt) : Inv { c with gv := v } (w.setCell ⟨c.bt, 2, none⟩ v) := by
  have hkr : KR (fun g => g = c.bt) w (w.setCell ⟨c.bt, 2, none⟩ v) := KR.set (R := fun g => g = c.bt) (p := ⟨c.bt, 2, none⟩) (KR.refl _ _) rfl v
  exact {
    len := h.len
    all := h.all
    parts := h.parts
    bound := fun g hg => Nat.lt_of_lt_of_le (h.bound g hg) hkr.size
    tab := fun j hj => (hkr.cell (cell_lt (h.tab j hj)) (fun e => h2 e.symm)).trans (h.tab j hj)
    tab2 := h.tab2
    text := h.text.set 2 v
    bt := h.bt
    runes := fun j x hx => by obtain ⟨b, o, e, hr, hb, hc⟩ := h.runes j x hx; exact ⟨b, o, e, hr, Nat.lt_of_lt_of_le hb hkr.size, (hkr.cell (p := ⟨b, o + j, none⟩) hb (hao b o e (fun h0 => by rw [h0] at hx; cases hx))).trans hc⟩
    kb := h.kb
    inj := h.inj
    row := fun j hj => (hkr.cell (cell_lt (h.row j hj)) hk).trans (h.row j hj)
    known := fun j q i hj hi => by
      have hjl := (List.getElem?_eq_some_iff.1 hj).1
      have hne : c.rb j ≠ c.bt := fun e => h.bt ⟨j, hjl, e⟩
      have e := hkr.block (c.rb j) (h.bound _ ⟨j, hjl, rfl⟩) hne
      have e1 : (w.setCell ⟨c.bt, 2, none⟩ v).cell? ⟨c.rb j, i, none⟩ = w.cell? ⟨c.rb j, i, none⟩ := World.cell?_of_block (w := w) e
      have e2 : (w.setCell ⟨c.bt, 2, none⟩ v).frozen? ⟨c.rb j, i, none⟩ = w.frozen? ⟨c.rb j, i, none⟩ := World.frozen?_of_block (w := w) e
      show (w.setCell ⟨c.bt, 2, none⟩ v).frozen? ⟨c.rb j, i, none⟩ = false ∧ _
      rw [e2]
      refine ⟨(h.known j q i hj hi).1, ?_⟩
      show (w.setCell ⟨c.bt, 2, none⟩ v).cell? ⟨c.rb j, i, none⟩ = _ ∨ (w.setCell ⟨c.bt, 2, none⟩ v).cell? ⟨c.rb j, i, none⟩ = _
      rw [e1]
      exact (h.known j q i hj hi).2 }
set_option maxRecDepth 100000 in
set_option maxHeartbeats 4000000 in
theorem mtext_any2 (w : World) (bp : Nat) (L : List Pat) (f t : Value) (g : Int) (l : List Int) (ao : Option Addr) (rc : Nat) (hbp : Blk w bp [f, t, .int .i64 L.length, .int .i64 g] 183) (hl : l.length ≤ 40) (hall : AllR l) (hL : L.length ≤ 1000) (htab : TabAt 2 Lib.deBruijn64tab w) (hru : RunesA w (fun _ => False) ao l) :
    Calls Tryz.prog 70 #[.pointer (some ⟨bp, 0, none⟩), .slice ao l.length rc] w fun e w' => ∃ w1, e = .returned (.pointer (some ⟨w1.heap.size, 0, none⟩)) ∧ Inv (cx0 w w1 L l ao rc) w' ∧ Below w.heap.size w w' ∧ w1.heap.size = w.heap.size + 1 + L.length := by
  obtain ⟨x0, x1, x2, x3⟩ := four hbp
  have HT := hide (fun (w1 : World) (hT : TK w w1 L.length (l.length + 1) L.length) => inv_new (rc := rc) hT hl hall (by omega) htab hru)
  have HC := hide (table_any L.length (l.length + 1) w (by omega) (by omega))
  have HB := hide (fun (w1 : World) (hT : TK w w1 L.length (l.length + 1) L.length) => hT.1.alloc hT.1.size (.cells #[.slice ao l.length rc, .slice (some ⟨w.heap.size, 0, none⟩) L.length L.length, .slice none 0 0] 188))
  clear hbp hall htab hru
  go_enter Tryz.func70, Tryz.ntmps70
  go_wp2_with (go_at_call 123; refine (by simpa using HC.out : Calls Tryz.prog 123 #[.int .i64 L.length, .int .i64 ((l.length : Int) + 1)] w _).mono ?_; rintro e w1 ⟨rfl, hT⟩; have HTK := hide hT; clear hT)
  go_ret
  exact ⟨w1, rfl, HT.out w1 HTK.out, HB.out w1 HTK.out, HTK.out.2.1⟩
set_option maxRecDepth 100000 in
set_option maxHeartbeats 4000000 in
theorem matches_any2 (c : Cx) (p : Pat) (hok : p.Ok) (w : World) (bp : Nat) (F : Nat) (cp : Array Value) (t : Value) (k9 g : Int) (hA : c.A bp) (hbp : Blk w bp [.func (.func F) #[] cp, t, .int .i64 k9, .int .i64 g] 183) (eg : ∀ args w, (callFunc F args).run Tryz.prog w = .ok (.enter F args) w) (hI : Inv c w) (hE : EV w c.A c.L p (.func (.func F) #[] cp)) :
    Calls Tryz.prog 69 #[.pointer (some ⟨bp, 0, none⟩), .pointer (some ⟨c.bt, 0, none⟩)] w fun e w' => e = .returned (.bool (mT p c.l 0 c.l.length)) ∧ Inv c w' ∧ KR c.R w w' := by
  obtain ⟨x0, _, _, _⟩ := four hbp
  obtain ⟨y0, _, _⟩ := three hI.text
  have hbl := hbp.lt
  have htl := hI.text.lt
  have h40 := hI.len
  have HBT := hide hI.bt
  have HA := hide hA
  have HI := hide hI
  have HC := hide (fun (w' : World) (hk : KR c.R w w') (h' : Inv c w') => (show Calls Tryz.prog F (#[.pointer (some ⟨c.bt, 0, none⟩), .int .i64 0] ++ cp) w' _ from ends_all c p hok w' F cp 0 h' (EV.keep (hk.keeps (A := c.A) (fun g h => h)) p _ hE) (Nat.zero_le _)))
  have HH := hide (fun (w' : World) => has_any2 (mT p c.l 0) c.l.length (c.l.length + 1) w' (Nat.lt_succ_self _) (by omega))
  generalize mk (mT p c.l 0) (c.l.length + 1) = M at HC HH
  generalize mT p c.l 0 c.l.length = B at HH ⊢
  clear hbp hI hE hA
  go_enter Tryz.func69, Tryz.ntmps69
  go_wp2_with fail
  go_region_held3 (fun w' => Inv c w' ∧ KR c.R w w' ∧ w'.cell? ⟨bp, 0, none⟩ = some (.func (.func F) #[] cp) ∧ w'.cell? ⟨c.bt, 0, none⟩ = some (.slice c.ao c.l.length c.rc))
    (first | exact ⟨HI.out.drew, (KR.refl _ _).drew, x0, y0⟩ | exact ⟨HI5.out, HK5.out, (HK5.out.cell (p := ⟨bp, 0, none⟩) hbl HA.out).trans x0, (HK5.out.cell (p := ⟨c.bt, 0, none⟩) htl HBT.out).trans y0⟩)
    (first
      | (go_at_call 122; refine (HH.out _).mono ?_; rintro e w6 ⟨rfl, hw9⟩; have hw8 := hw9.symm; subst hw8; clear hw9)
      | (go_at_fn F; refine (HC.out _ (‹Inv c _ ∧ KR c.R w _ ∧ _›.2.1) (‹Inv c _ ∧ KR c.R w _ ∧ _›.1)).mono ?_; rintro e w5 ⟨rfl, hI5, hK5⟩; have HI5 := hide hI5; have HK5 := hide ((‹Inv c _ ∧ KR c.R w _ ∧ _›.2.1).trans hK5); clear hI5 hK5))
  all_goals (go_wp2_with fail; go_ret; exact ⟨rfl, HI5.out, HK5.out⟩)
/-- As many as are set to -1, the others 0. -/
def gotK (n k : Nat) : List Int := (List.range n).map (fun q => if q < k then -1 else 0)
theorem gotK_len (n k : Nat) : (gotK n k).length = n := by simp [gotK]
theorem gotK_set {n k : Nat} (h : k < n) : (gotK n k).set k (-1) = gotK n (k + 1) := by
  apply List.ext_getElem?
  intro q
  by_cases e : q = k
  · subst e
    rw [List.getElem?_set_self (by rw [gotK_len]; exact h)]
    simp [gotK, h]
  · rw [List.getElem?_set_ne (by omega)]
    unfold gotK
    by_cases hq : q < n
    · simp only [List.getElem?_map, List.getElem?_range hq, Option.map_some]
      by_cases h1 : q < k
      · simp [h1, show q < k + 1 by omega]
      · simp [h1, show ¬ q < k + 1 by omega]
    · rw [List.getElem?_eq_none (by simp; omega), List.getElem?_eq_none (by simp; omega)]
theorem gotK_zero (n : Nat) : gInts (gotK n 0) = List.replicate n (.int .i64 0) := by
  apply List.ext_getElem?
  intro q
  simp only [gInts, gotK, List.map_map, List.getElem?_map, List.getElem?_replicate]
  by_cases hq : q < n
  · simp [hq]
  · rw [List.getElem?_eq_none (by simp; omega)]; simp [hq]
theorem gotK_all (n : Nat) : gotK n n = List.replicate n (-1) := by
  apply List.ext_getElem?
  intro q
  simp only [gotK, List.getElem?_map, List.getElem?_replicate]
  by_cases hq : q < n
  · simp [hq]
  · rw [List.getElem?_eq_none (by simp; omega)]; simp [hq]
end Go.Proofs.YtlflfcjbpnnfcaaGreatDoor
/- The groups of a text: a walk. -/
namespace Go.Proofs.YtlflfcjbpnnfcaaGreatDoor
open Go.Shelf Go.RowKit Go.Lib Brm

theorem Tryz.infoInt : (Tryz.prog.info? 3).map (fun i => (i.zero, i.size, i.bytes)) = some (some (.int .i64 0), 1, 8) := by kernel_rfl
def GrpR (p : Pat) (l : List Int) (w : World) (e : Ending) (w' : World) : Prop := Below w.heap.size w w' ∧
  ((mT p l 0 l.length = false ∧ e = .returned (.tuple #[.slice none 0 0, .bool false])) ∨
   (mT p l 0 l.length = true ∧ ∃ gb got, e = .returned (.tuple #[.slice (some ⟨gb, 0, none⟩) got.length got.length, .bool true]) ∧ w.heap.size ≤ gb ∧ Blk w' gb (gInts got) 3 ∧ got.length = 2 * p.groups ∧ Tk l p 0 0 l.length (List.replicate (2 * p.groups) (-1)) got))
/-- The groups are laid: all but the new block and the text stands. -/
theorem lay_groups {w w1 w3 W4 : World} {L : List Pat} {l : List Int} {ao : Option Addr} {rc n : Nat} (hs : w1.heap.size = w.heap.size + 1 + L.length) (h2 : 2 < w.heap.size) (hao : ∀ b o, ao = some ⟨b, o, none⟩ → l ≠ [] → b < w.heap.size) (hI : Inv (cx0 w w1 L l ao rc) w3) (hb : Below w.heap.size w w3) (hn : n ≤ 100000) (hW : w3.alloc (.cells (List.replicate n (.int .i64 0)).toArray 3) = W4) :
    Inv { cx0 w w1 L l ao rc with gv := .slice (some ⟨w3.heap.size, 0, none⟩) n n } (W4.setCell ⟨w1.heap.size, 2, none⟩ (.slice (some ⟨w3.heap.size, 0, none⟩) n n)) ∧ GB { cx0 w w1 L l ao rc with gv := .slice (some ⟨w3.heap.size, 0, none⟩) n n } w3.heap.size (gotK n 0) (W4.setCell ⟨w1.heap.size, 2, none⟩ (.slice (some ⟨w3.heap.size, 0, none⟩) n n)) ∧ Below w.heap.size w (W4.setCell ⟨w1.heap.size, 2, none⟩ (.slice (some ⟨w3.heap.size, 0, none⟩) n n)) ∧ W4.cell? ⟨w1.heap.size, 2, none⟩ = some (.slice none 0 0) ∧ W4.frozen? ⟨w1.heap.size, 2, none⟩ = false ∧ w1.heap.size < W4.heap.size := by
  subst hW
  have hbt : w1.heap.size < w3.heap.size := hI.text.lt
  have hIA := hI.alloc (.cells (List.replicate n (.int .i64 0)).toArray 3)
  refine ⟨hIA.regroup _ (by show w1.heap.size ≠ 2; omega) (by show w.heap.size ≠ w1.heap.size; omega) (fun b o e hne => by have := hao b o e hne; show b ≠ w1.heap.size; omega), ?_, ?_, hIA.text.cell 2, hIA.text.frozen 2, hIA.text.lt⟩
  · exact {
      blk := by rw [gotK_zero]; exact (Blk.new w3 _ 3).setOther (p := ⟨w1.heap.size, 2, none⟩) (by show w3.heap.size ≠ w1.heap.size; omega) _
      gv := by rw [gotK_len]
      nr := fun h => Nat.lt_irrefl _ (hI.bound _ h)
      nbt := by show w3.heap.size ≠ w1.heap.size; omega
      nkb := by show w3.heap.size ≠ w.heap.size; omega
      nao := fun b o e hne => by have := hao b o e hne; have := hb.size; omega
      n2 := by omega
      len := by rw [gotK_len]; exact hn }
  · exact Below.ofKR (hb.alloc hb.size _) (KR.set (R := fun g => g = w1.heap.size) (p := ⟨w1.heap.size, 2, none⟩) (KR.refl _ _) rfl _) (fun g e => by rw [e]; omega) (by have := hb.size; simp; omega)
set_option maxRecDepth 100000 in
set_option maxHeartbeats 4000000 in
theorem groups_any (p : Pat) (hok : p.Ok) (w : World) (A : Nat → Prop) (bp : Nat) (l : List Int) (ao : Option Addr) (rc : Nat) (hP : PK w A p bp) (hl : l.length ≤ 40) (hall : AllR l) (htab : TabAt 2 Lib.deBruijn64tab w) (hru : RunesA w (fun _ => False) ao l) :
    Calls Tryz.prog 52 #[.pointer (some ⟨bp, 0, none⟩), .slice ao l.length rc] w (GrpR p l w) := by
  obtain ⟨hAb, f, t, hbp, ht, hE, hT, hL, hG⟩ := hP
  obtain ⟨F, cp, rfl, eg⟩ := EV.form p f hok hE
  obtain ⟨G, tc, rfl, eg2⟩ := TV.form p 0 t hok hT
  have HT := hide (mtext_any2 w bp (subs p) _ _ _ l ao rc hbp hl hall hL htab hru)
  have h2 : 2 < w.heap.size := cell_lt (htab 0 (by decide))
  have hao : ∀ b o, ao = some ⟨b, o, none⟩ → l ≠ [] → b < w.heap.size := fun b o e hne => by
    obtain ⟨x, hx⟩ : ∃ x, l[0]? = some x := by cases l with | nil => exact absurd rfl hne | cons a _ => exact ⟨a, rfl⟩
    obtain ⟨b', o', e', _, hb, _⟩ := hru 0 x hx
    rw [e] at e'; cases e'; exact hb
  have HM : Hid (∀ w1 w2, Inv (cx0 w w1 (subs p) l ao rc) w2 → Below w.heap.size w w2 → Calls Tryz.prog 69 #[.pointer (some ⟨bp, 0, none⟩), .pointer (some ⟨w1.heap.size, 0, none⟩)] w2 fun e w' => e = .returned (.bool (mT p l 0 l.length)) ∧ Inv (cx0 w w1 (subs p) l ao rc) w' ∧ Below w.heap.size w w') := fun w1 w2 h2 hb2 =>
    (matches_any2 (cx0 w w1 (subs p) l ao rc) p hok w2 bp F cp _ _ _ (fun h => by have := cx0_R h; have := hbp.lt; omega) (hbp.below hb2) eg h2 (EV.keep (Keeps.below hb2) p _ (EV.mono (fun g hg _ h => by have := cx0_R h; omega) p _ hE))).mono (fun e w' h5 => ⟨h5.1, h5.2.1, Below.ofKR hb2 h5.2.2 (fun g h => by have := cx0_R h; omega) hb2.size⟩)
  have HLAY := hide (fun (w1 w3 W4 : World) (hs : w1.heap.size = w.heap.size + 1 + (subs p).length) (hI : Inv (cx0 w w1 (subs p) l ao rc) w3) (hb : Below w.heap.size w w3) (hW : w3.alloc (.cells (List.replicate (2 * p.groups) (.int .i64 0)).toArray 3) = W4) => lay_groups hs h2 hao hI hb (by omega) hW)
  have HTAKE : Hid (∀ (w1 w4 : World) (gv : Value) (gb : Nat) (got : List Int), mT p l 0 l.length = true → w.heap.size ≤ gb → Inv { cx0 w w1 (subs p) l ao rc with gv := gv } w4 → GB { cx0 w w1 (subs p) l ao rc with gv := gv } gb got w4 → Below w.heap.size w w4 → got.length = 2 * p.groups →
      Calls Tryz.prog G (#[.pointer (some ⟨w1.heap.size, 0, none⟩), .int .i64 0, .int .i64 (l.length : Int)] ++ tc) w4 fun e w' => e = .returned (.tuple #[]) ∧ ∃ got', Tk l p 0 0 l.length got got' ∧ Inv { cx0 w w1 (subs p) l ao rc with gv := gv } w' ∧ GB { cx0 w w1 (subs p) l ao rc with gv := gv } gb got' w' ∧ Below w.heap.size w w') := fun w1 w4 gv gb got hm hgb hI4 hG4 hb4 hgl =>
    have hcS : ∀ g, Cx.S { cx0 w w1 (subs p) l ao rc with gv := gv } gb g → w.heap.size ≤ g := fun g h => by
      rcases h with h | h
      · have := cx0_R (w := w) (w1 := w1) (L := subs p) (l := l) (ao := ao) (rc := rc) (g := g) h; omega
      · omega
    ((takes_all { cx0 w w1 (subs p) l ao rc with gv := gv } p hok) w4 gb got G tc 0 0 l.length (.func (.func F) #[] cp) hI4 hG4 (EV.keep (Keeps.below hb4) p _ (EV.mono (fun g hg _ h => by have := hcS g h; omega) p _ hE)) (TV.keep (Keeps.below hb4) p 0 _ (TV.mono (fun g hg _ h => by have := hcS g h; omega) p 0 _ hT)) hm (Nat.le_refl _) (by omega)).mono (fun e w' ⟨h1, got', h3, h4, h5, h6⟩ => ⟨h1, got', h3, h4, h5, Below.ofKR hb4 h6 hcS hb4.size⟩)
  have x1 : w.cell? ⟨bp, 1, none⟩ = some (.func (.func G) #[] tc) := hbp.cell 1
  have x3 : w.cell? ⟨bp, 3, none⟩ = some (.int .i64 p.groups) := hbp.cell 3
  have hbl := hbp.lt
  have HBP := hide hbp
  have hG1 : (p.groups : Int) ≤ 1000 := by omega
  generalize hn : 2 * p.groups = n at HLAY HTAKE
  have q4 : IntKind.i64.wrap (2 * (p.groups : Int)) = (n : Int) := by rw [← hn, wrap_small (by omega) (by omega)]; omega
  have hn2 : n ≤ 2000 := by omega
  have HNE := hide hn
  clear hbp hE hT hall htab hru hAb ht hao hn
  unfold GrpR
  rcases hm : mT p l 0 l.length with _ | _
  · rw [hm] at HM
    clear HTAKE HLAY
    go_enter Tryz.func52, Tryz.ntmps52
    go_wp2_with (first
      | (go_at_call 70; refine HT.out.mono ?_; rintro e w2 ⟨w1, rfl, hI2, hb2, hs⟩; have HI2 := hide hI2; have HB2 := hide hb2; have HS := hide hs; clear hI2 hb2 hs)
      | (go_at_call 69; refine (HM.out w1 _ HI2.out HB2.out).mono ?_; rintro e w3 ⟨rfl, hI3, hb3⟩; have HI3 := hide hI3; have HB3 := hide hb3; clear hI3 hb3))
    refine bodyPost_ret (v := .tuple #[.slice none 0 0, .bool false]) (by simp [results, Tryz.results52, go_sem]) rfl ?_
    exact ⟨HB3.out, .inl ⟨trivial, rfl⟩⟩
  · rw [hm] at HM
    have HTAKE := hide (fun w1 w4 gv gb got => HTAKE.out w1 w4 gv gb got hm)
    clear hm
    go_enter Tryz.func52, Tryz.ntmps52
    go_wp2_with (first
      | (go_at_call 70; refine HT.out.mono ?_; rintro e w2 ⟨w1, rfl, hI2, hb2, hs⟩; have HI2 := hide hI2; have HB2 := hide hb2; have HS := hide hs; clear hI2 hb2 hs)
      | (go_at_call 69; refine (HM.out w1 _ HI2.out HB2.out).mono ?_; rintro e w3 ⟨rfl, hI3, hb3⟩; have y3 : w3.cell? ⟨bp, 3, none⟩ = some (.int .i64 p.groups) := (HBP.out.below hb3).cell 3; have hbl3 := (HBP.out.below hb3).lt; have hbt3 : w1.heap.size < w3.heap.size := hI3.text.lt; have HI3 := hide hI3; have HB3 := hide hb3; clear hI3 hb3)
      | (at_make; refine make_rep rfl _ _ 48 rfl 3 (.int .i64 0) 8 Tryz.underlying48 Tryz.infoInt rfl n rfl rfl (by omega) (by omega) ?_; generalize hW : w3.alloc (.cells (List.replicate n (.int .i64 0)).toArray 3) = W4; obtain ⟨hI4, hG4, hb4, z0, z1, z2⟩ := HLAY.out w1 w3 W4 HS.out HI3.out HB3.out hW; have HI4 := hide hI4; have HG4 := hide hG4; have HB4 := hide hb4; have HGE : Hid (w.heap.size ≤ w3.heap.size) := HB3.out.size; clear hI4 hG4 hb4 hW))
    go_loopw [29] (fun ix wr => ∃ k : Nat, k ≤ n ∧ ix = .int .i64 k ∧ Inv { cx0 w w1 (subs p) l ao rc with gv := .slice (some ⟨w3.heap.size, 0, none⟩) n n } wr ∧ GB { cx0 w w1 (subs p) l ao rc with gv := .slice (some ⟨w3.heap.size, 0, none⟩) n n } w3.heap.size (gotK n k) wr ∧ Below w.heap.size w wr) (fun ix _ => n - (intOf ix).toNat)
    case atStart => exact ⟨0, Nat.zero_le _, rfl, HI4.out, HG4.out, HB4.out⟩
    case round =>
      obtain ⟨k, hk, rfl, hI, hG, hb⟩ := hrel
      have k0 : (0 : Int) ≤ (k : Int) := Int.natCast_nonneg _
      have y0 : wr.cell? ⟨w1.heap.size, 2, none⟩ = some (.slice (some ⟨w3.heap.size, 0, none⟩) n n) := hI.text.cell 2
      have y1 : w1.heap.size < wr.heap.size := hI.text.lt
      have HIr := hide hI
      have HGr := hide hG
      have HBr := hide hb
      by_cases hlt : k < n
      · have k1 : (k : Int) < (n : Int) := by omega
        have y2 : wr.cell? ⟨w3.heap.size, k, none⟩ = some (.int .i64 0) := by
          rw [hG.blk.cell]
          apply gInts_at
          simp [gotK, hlt]
        have y3 := hG.blk.frozen k
        have y4 := hG.blk.lt
        have HI5 := hide (hI.setG hG k (.int .i64 (-1)))
        have hG5 := hG.set k (-1)
        rw [gotK_set hlt] at hG5
        have HG5 := hide hG5
        have HB5 := hide (Below.ofKR hb (KR.set (R := fun g => g = w3.heap.size) (p := ⟨w3.heap.size, k, none⟩) (KR.refl _ _) rfl (.int .i64 (-1))) (fun g e => by rw [e]; exact HGE.out) hb.size)
        clear hI hG hb hG5
        go_wp2_with fail
        go_roundw
        case rel => exact ⟨k + 1, by omega, by go_num, HI5.out, HG5.out, HB5.out⟩
        case measure => simp [intOf]; omega
      · have hke : k = n := by omega
        subst hke
        have k1 : decide (k < k) = false := decide_eq_false hlt
        have x1r : wr.cell? ⟨bp, 1, none⟩ = some (.func (.func G) #[] tc) := (HBP.out.below hb).cell 1
        have hblr := (HBP.out.below hb).lt
        have HTK := hide (HTAKE.out w1 wr _ _ _ HGE.out hI hG hb (gotK_len _ _))
        clear hI hG hb
        go_wp2_with fail
        refine HTK.out.mono ?_
        rintro e w5 ⟨rfl, got', h5, hI5, hG5, hb5⟩
        have u0 : w5.cell? ⟨w1.heap.size, 2, none⟩ = some (.slice (some ⟨w3.heap.size, 0, none⟩) k k) := hI5.text.cell 2
        have u1 : w1.heap.size < w5.heap.size := hI5.text.lt
        have H5 := hide h5
        have HB5 := hide hb5
        have HBLK := hide hG5.blk
        have HLEN := hide (HGr.out.same hG5)
        clear h5 hI5 hG5 hb5 HTK
        go_wp2_with fail
        refine bodyPost_ret (v := .tuple #[.slice (some ⟨w3.heap.size, 0, none⟩) k k, .bool true]) (by simp [results, Tryz.results52, go_sem]) rfl ?_
        have hl9 := HLEN.out
        rw [gotK_len] at hl9
        refine ⟨HB5.out, .inr ⟨trivial, w3.heap.size, got', by rw [hl9], HGE.out, HBLK.out, by rw [hl9, HNE.out], ?_⟩⟩
        rw [HNE.out, ← gotK_all]
        exact H5.out
end Go.Proofs.YtlflfcjbpnnfcaaGreatDoor
