/- Walks and plain laws, some texts in one. -/
import Derived.Deep.LoopGhost
import Derived.Deep.RegionHeld3
import Derived.Laws.EntriesVeiled
import Derived.Laws.OwnMore
import Derived.Test.YtlflfcjbpnnfcaaGreatDoorM31
import Derived.Test.YtlflfcjbpnnfcaaGreatDoorM09
/- What is kept of the rests: a name finds what was made before: walks. -/
namespace Go.Proofs.YtlflfcjbpnnfcaaGreatDoor
open Go.Shelf Go.RowKit Go.Lib

/-- Of what was there, only blocks of S may have turned. -/
structure But (S : Nat → Prop) (w w' : World) : Prop where
  os : w'.os = w.os
  tape : w'.tape = w.tape
  output : w'.output = w.output
  size : w.heap.size ≤ w'.heap.size
  block : ∀ k, k < w.heap.size → ¬ S k → w'.heap[k]? = w.heap[k]?
theorem But.refl (S : Nat → Prop) (w : World) : But S w w := ⟨rfl, rfl, rfl, Nat.le_refl _, fun _ _ _ => rfl⟩
theorem But.trans {S : Nat → Prop} {a b c : World} (h : But S a b) (k : But S b c) : But S a c :=
  ⟨k.os.trans h.os, k.tape.trans h.tape, k.output.trans h.output, Nat.le_trans h.size k.size, fun i hi hn => (k.block i (Nat.lt_of_lt_of_le hi h.size) hn).trans (h.block i hi hn)⟩
theorem But.mono {S T : Nat → Prop} {a b : World} (h : But S a b) (k : ∀ i, i < a.heap.size → S i → T i) : But T a b := ⟨h.os, h.tape, h.output, h.size, fun i hi hn => h.block i hi (fun hs => hn (k i hi hs))⟩
theorem But.below {S : Nat → Prop} {w w' : World} (h : Below w.heap.size w w') : But S w w' := ⟨h.os, h.tape, h.output, h.size, fun k hk _ => h.block k hk⟩
theorem But.toBelow {S : Nat → Prop} {B : Nat} {w w' : World} (h : But S w w') (hS : ∀ k, S k → B ≤ k) (hB : B ≤ w.heap.size) : Below B w w' := ⟨h.os, h.tape, h.output, h.size, fun k hk => h.block k (by omega) (fun hs => by have := hS k hs; omega)⟩
theorem But.setCell {S : Nat → Prop} {a w : World} (h : But S a w) {p : Addr} (hp : S p.block ∨ a.heap.size ≤ p.block) (u : Value) : But S a (w.setCell p u) :=
  ⟨h.os, h.tape, h.output, by have := h.size; simpa [World.setCell] using this, fun k hk hn => (Below.heap_setCell _ _ _ _ (fun e => by subst e; rcases hp with hp | hp; exact hn hp; omega)).trans (h.block k hk hn)⟩
theorem But.turned {S : Nat → Prop} {a w w' : World} {b : Nat} (h : But S a w) (ht : w.mapTurned w' b) (hp : S b) : But S a w' := by
  have hg := ht.grown
  exact h.trans ⟨hg.os, hg.tape, hg.output, hg.size, fun k hk hn => hg.block k hk (fun e => by injection e with e; subst e; exact hn hp)⟩
theorem Blk.but {S : Nat → Prop} {w w' : World} {b : Nat} {cs : List Value} {T : TypeId} (h : Blk w b cs T) (k : But S w w') (hn : ¬ S b) : Blk w' b cs T := (k.block b h.lt hn).trans h
theorem Blk.turned {w w' : World} {b c : Nat} {cs : List Value} {T : TypeId} (h : Blk w b cs T) (ht : w.mapTurned w' c) (hne : b ≠ c) : Blk w' b cs T := (ht.grown.block b h.lt (fun e => by injection e with e; exact hne e)).trans h

set_option maxRecDepth 100000 in
set_option maxHeartbeats 1000000 in
theorem remember_any (F : Nat) (cp : Array Value) (w : World) : Calls Tryz.prog 180 #[.func (.func F) #[] cp] w fun e w' => ∃ k b mm, e = .returned (.func (.func 220) #[] #[.pointer (some ⟨k, 0, none⟩), .pointer (some ⟨b, 0, none⟩)]) ∧
    Below w.heap.size w w' ∧ (w.heap.size ≤ k ∧ w.heap.size ≤ b ∧ w.heap.size ≤ mm ∧ k ≠ mm ∧ b ≠ mm ∧ k ≠ b) ∧ Blk w' b [.func (.func F) #[] cp] 167 ∧ Blk w' k [.map (some mm)] 289 ∧ w'.heap[mm]? = some (.map #[] 0) := by
  have hmm := @run_makeMap Tryz.prog
  go_enter Tryz.func180, Tryz.ntmps180
  go_wp2_with fail
  go_ret
  refine ⟨w.heap.size + 1 + 1, w.heap.size, w.heap.size + 1, rfl, (((Below.refl _ w).alloc (Nat.le_refl _) _).alloc (by simp) _).alloc (by simp; omega) _, by omega, ?_, ?_, ?_⟩
  · exact (((Blk.new w [.func (.func F) #[] cp] 167).alloc _).alloc _)
  · have := Blk.new ((w.alloc (.cells #[.func (.func F) #[] cp] 167)).alloc (.map #[] 0)) [.map (some (w.heap.size + 1))] 289
    simpa using this
  · rw [Below.heap_alloc _ _ _ (by simp)]
    have := (MapKept.heap_alloc (w.alloc (.cells #[.func (.func F) #[] cp] 167)) (.map #[] 0)).1
    simpa using this
/-- Numbers in memory. -/
def IntsW (w : World) (a : Option Addr) (ns : List Int) : Prop := ∀ j x, ns[j]? = some x → ∃ bb off, a = some ⟨bb, off, none⟩ ∧ bb < w.heap.size ∧ w.cell? ⟨bb, off + j, none⟩ = some (.int .i64 x) ∧ -9223372036854775808 ≤ x ∧ x ≤ 9223372036854775807
theorem IntsW.below {w w' : World} {a : Option Addr} {raw : List Int} (h : IntsW w a raw) (k : Below w.heap.size w w') : IntsW w' a raw := by
  intro j x hx
  obtain ⟨bb, off, rfl, hb, hc, hr⟩ := h j x hx
  exact ⟨bb, off, rfl, Nat.lt_of_lt_of_le hb k.size, (k.cell (p := ⟨bb, _, none⟩) hb).trans hc, hr⟩
/-- Rests in memory, and their numbers. -/
def PtsW (w : World) (a : Option Addr) (ps : List Nat) (num : Nat → Int) : Prop := ∀ j y, ps[j]? = some y → ∃ bb off, a = some ⟨bb, off, none⟩ ∧ bb < w.heap.size ∧ y < w.heap.size ∧ w.cell? ⟨bb, off + j, none⟩ = some (.pointer (some ⟨y, 0, none⟩)) ∧ w.cell? ⟨y, 0, none⟩ = some (.int .i64 (num y)) ∧ -9223372036854775808 ≤ num y ∧ num y ≤ 9223372036854775807
theorem PtsW.below {w w' : World} {a : Option Addr} {ps : List Nat} {num : Nat → Int} (h : PtsW w a ps num) (k : Below w.heap.size w w') : PtsW w' a ps num := by
  intro j x hx
  obtain ⟨bb, off, rfl, hb, hy, hc, hn, hr⟩ := h j x hx
  exact ⟨bb, off, rfl, Nat.lt_of_lt_of_le hb k.size, Nat.lt_of_lt_of_le hy k.size, (k.cell (p := ⟨bb, _, none⟩) hb).trans hc, (k.cell (p := ⟨x, _, none⟩) hy).trans hn, hr⟩
def tailOf (ns : List Int) : List UInt8 := (ns.map fun n => 32 :: Lib.itoa n).flatten
def nameOf (kd : Int) (ns qs : List Int) : List UInt8 := Lib.itoa kd ++ tailOf ns ++ tailOf qs
theorem tailOf_snoc (ns : List Int) (n : Int) : tailOf (ns ++ [n]) = tailOf ns ++ (32 :: Lib.itoa n) := by simp [tailOf]
theorem take_snocL {α : Type} {l : List α} {i : Nat} {x : α} (h : l[i]? = some x) : l.take (i + 1) = l.take i ++ [x] := by
  obtain ⟨hl, rfl⟩ := List.getElem?_eq_some_iff.1 h
  exact List.take_succ_eq_append_getElem hl
/-- The maker: its map and its two rests. -/
def MS (w : World) (m bm : Nat) (nn ee : Option Nat) (f : List UInt8 → Option Nat) (n : Nat) : Prop := Blk w m [.map (some bm), NPtr nn, NPtr ee] 224 ∧ MapN w bm f n ∧ m ≠ bm
theorem MS.below {w w' : World} {m bm : Nat} {nn ee : Option Nat} {f : List UInt8 → Option Nat} {n : Nat} (h : MS w m bm nn ee f n) (k : Below w.heap.size w w') : MS w' m bm nn ee f n := ⟨h.1.below k, h.2.1.below k, h.2.2⟩
def RestB (w : World) (x : Nat) (num kd : Int) (pa : Option Addr) (pn pc : Nat) (en : Bool) (fv : Value) : Prop := Blk w x [.int .i64 num, .int .i64 kd, .slice pa pn pc, .bool en, fv] 169
def NameI (w : World) (pre : List UInt8) (z : Nat) (ns : List Int) (j : Nat) (nv iv : Value) (wr : World) : Prop := ∃ (i : Nat) (s : ByteArray), iv = .int .i64 (i : Int) ∧ i ≤ ns.length ∧ ns.length - i ≤ j ∧ nv = .string s ∧ bytesOf s = pre ++ tailOf (ns.take i) ∧ s.size ≤ z + 22 * i ∧ Below w.heap.size w wr
set_option maxRecDepth 100000 in
set_option maxHeartbeats 4000000 in
theorem keep_any (m bm : Nat) (nn ee : Option Nat) (f : List UInt8 → Option Nat) (n : Nat) (x : Nat) (n0 kd : Int) (pa : Option Addr) (pc : Nat) (en : Bool) (F : Nat) (cp : Array Value) (ma : Option Addr) (mc : Nat) (ns : List Int) (ps : List Nat) (num : Nat → Int) (w : World)
    (hM : MS w m bm nn ee f n) (hx : RestB w x n0 kd pa ps.length pc en (.func (.func F) #[] cp)) (hxm : x ≠ m) (hxb : x ≠ bm) (hns : IntsW w ma ns) (hps : PtsW w pa ps num) (hP : PowT w) (hk0 : 0 ≤ kd) (hk9 : kd ≤ 9) (hl1 : ns.length ≤ 1000) (hl2 : ps.length ≤ 1000) (hn : n ≤ 1000000000) :
    Calls Tryz.prog 129 #[.pointer (some ⟨m, 0, none⟩), .pointer (some ⟨x, 0, none⟩), .slice ma ns.length mc] w fun e w' =>
      match f (nameOf kd ns (ps.map num)) with
      | some y => e = .returned (.pointer (some ⟨y, 0, none⟩)) ∧ Below w.heap.size w w'
      | none => e = .returned (.pointer (some ⟨x, 0, none⟩)) ∧ But (fun k => k = x ∨ k = bm) w w' ∧ MS w' m bm nn ee (put f (nameOf kd ns (ps.map num)) x) (n + 1) ∧ ∃ fv, RestB w' x n kd pa ps.length pc en fv := by
  have HM := hide hM
  have HX := hide hx
  have HNS := hide hns
  have HPS := hide hps
  have HP := hide hP
  have x0 : w.cell? ⟨x, 1, none⟩ = some (.int .i64 kd) := hx.cell 1
  have hxl := hx.lt
  clear hM hx hns hps hP
  obtain ⟨NM, hNM⟩ : ∃ NM, nameOf kd ns (ps.map num) = NM := ⟨_, rfl⟩
  rw [hNM]
  have HNM := hide hNM
  obtain ⟨R, hR⟩ : ∃ R, f NM = R := ⟨_, rfl⟩
  rw [hR]
  have HR := hide hR
  clear hNM hR
  go_enter Tryz.func129, Tryz.ntmps129
  go_wp2_with fail
  refine (itoa_gen kd (by omega) (by omega) _ HP.out).mono ?_
  rintro e w1 ⟨rfl, hb1⟩
  have HB1 := hide hb1
  have HZ := hide (itoaB_size kd (by omega) (by omega))
  clear hb1
  go_wp2_with fail
  go_loopg [7, 21] ns.length (fun j nv iv wr => NameI w (Lib.itoa kd) 21 ns j nv iv wr)
  case atStart => exact ⟨0, _, rfl, Nat.zero_le _, by omega, rfl, by simp [itoaB_bytes, tailOf], by have := HZ.out; omega, HB1.out⟩
  case round =>
    obtain ⟨i, s, rfl, hi, hj, rfl, hs, hsz, hb⟩ := hrel
    have HS := hide hs
    have HB := hide hb
    clear hs hb
    have i0 : (0 : Int) ≤ (i : Int) := Int.natCast_nonneg _
    by_cases hlt : i < ns.length
    · have i1 : (i : Int) < (ns.length : Int) := by omega
      obtain ⟨y, hy⟩ : ∃ y, ns[i]? = some y := ⟨_, List.getElem?_eq_getElem hlt⟩
      obtain ⟨bb, off, rfl, hbb, hcell, hr0, hr1⟩ := (HNS.out.below HB.out) i y hy
      have HTK := hide (take_snocL hy)
      have HPT := hide (HP.out.below HB.out)
      clear hy
      go_wp2_with fail
      refine (itoa_gen y hr0 hr1 _ HPT.out).mono ?_
      rintro e w2 ⟨rfl, hb2⟩
      have HB2 := hide hb2
      have hz2 := itoaB_size y hr0 hr1
      have l1 : 1 + (itoaB y).size ≤ 9223372036854775807 := by omega
      have l2 : s.size + (1 + (itoaB y).size) ≤ 9223372036854775807 := by omega
      have l3 : s.size + (ByteArray.mk #[32] ++ itoaB y).size ≤ 9223372036854775807 := by rw [ByteArray.size_append]; exact l2
      have HY := hide (itoaB_bytes y)
      generalize itoaB y = t at *
      clear hb2
      go_wp2_with fail
      go_roundg (gk - 1)
      case measure => omega
      case rel =>
        refine ⟨i + 1, _, by go_num, by omega, by omega, rfl, ?_, ?_, HB.out.trans (HB2.out.mono HB.out.size)⟩
        · rw [bytes_add, bytes_add, HS.out, HTK.out, tailOf_snoc, HY.out, List.append_assoc]; rfl
        · rw [ByteArray.size_append, ByteArray.size_append]
          have : (ByteArray.mk #[32]).size = 1 := rfl
          omega
    · have d1 : decide ((i : Int) < (ns.length : Int)) = false := decide_eq_false (by omega)
      have hie : i = ns.length := by omega
      have HS1 : Hid (bytesOf s = Lib.itoa kd ++ tailOf ns) := by have h := HS.out; rw [hie, List.take_length] at h; exact h
      have hs1 : s.size ≤ 22021 := by omega
      have HXr := hide (Blk.below HX.out (HB.out))
      have x2 : wr.cell? ⟨x, 2, none⟩ = some (.slice pa ps.length pc) := (HB.out.cell (p := ⟨x, 2, none⟩) hxl).trans (Blk.cell HX.out 2)
      have hxl2 : x < wr.heap.size := Nat.lt_of_lt_of_le hxl HB.out.size
      have HIE := hide hie
      have d0 : decide (i < ns.length) = false := decide_eq_false hlt
      clear hsz hie hlt hj hi HS
      go_wp2_with fail
      go_loopg [7, 36] ps.length (fun j nv iv wr => NameI w (Lib.itoa kd ++ tailOf ns) 22021 (ps.map num) j nv iv wr)
      case atStart => exact ⟨0, _, rfl, Nat.zero_le _, by simp, rfl, by rw [HS1.out]; simp [tailOf], by omega, HB.out⟩
      case round =>
        obtain ⟨q, t, rfl, hq, hj, rfl, ht, htz, hbt⟩ := hrel
        rw [List.length_map] at hq hj
        have HT := hide ht
        have HBT := hide hbt
        clear ht hbt
        have q0 : (0 : Int) ≤ (q : Int) := Int.natCast_nonneg _
        by_cases hlt : q < ps.length
        · have q1 : (q : Int) < (ps.length : Int) := by omega
          obtain ⟨y, hy⟩ : ∃ y, ps[q]? = some y := ⟨_, List.getElem?_eq_getElem hlt⟩
          obtain ⟨bb, off, rfl, hbb, hyl, hcell, hcn, hr0, hr1⟩ := (HPS.out.below HBT.out) q y hy
          have HTK := hide (take_snocL (show (ps.map num)[q]? = some (num y) by rw [List.getElem?_map, hy]; rfl))
          have HPT := hide (HP.out.below HBT.out)
          generalize num y = ny at *
          clear hy
          go_wp2_with fail
          refine (itoa_gen ny hr0 hr1 _ HPT.out).mono ?_
          rintro e w2 ⟨rfl, hb2⟩
          have HB2 := hide hb2
          have hz2 := itoaB_size ny hr0 hr1
          have l1 : 1 + (itoaB ny).size ≤ 9223372036854775807 := by omega
          have l2 : t.size + (1 + (itoaB ny).size) ≤ 9223372036854775807 := by omega
          have l3 : t.size + (ByteArray.mk #[32] ++ itoaB ny).size ≤ 9223372036854775807 := by rw [ByteArray.size_append]; exact l2
          have HY := hide (itoaB_bytes ny)
          generalize itoaB ny = u at *
          clear hb2
          go_wp2_with fail
          go_roundg (gk - 1)
          case measure => omega
          case rel =>
            refine ⟨q + 1, _, by go_num, by rw [List.length_map]; omega, by rw [List.length_map]; omega, rfl, ?_, ?_, HBT.out.trans (HB2.out.mono HBT.out.size)⟩
            · rw [bytes_add, bytes_add, HT.out, HTK.out, tailOf_snoc, HY.out, List.append_assoc]; rfl
            · rw [ByteArray.size_append, ByteArray.size_append]
              have : (ByteArray.mk #[32]).size = 1 := rfl
              omega
        · have d2 : decide ((q : Int) < (ps.length : Int)) = false := decide_eq_false (by omega)
          have HN : Hid (bytesOf t = nameOf kd ns (ps.map num)) := by
            have h := HT.out
            rw [List.take_of_length_le (by rw [List.length_map]; omega)] at h
            exact h
          have ht1 : t.size ≤ maxLen := by unfold maxLen; omega
          have d0' : decide (q < ps.length) = false := decide_eq_false hlt
          clear HT htz hlt hj hq
          have hMr := HM.out.below HBT.out
          have HMr := hide hMr
          have m0 : wr.cell? ⟨m, 0, none⟩ = some (.map (some bm)) := hMr.1.cell 0
          have ht2 : f (bytesOf t) = R := by rw [HN.out, HNM.out]; exact HR.out
          have hlook := hMr.2.1.look t ht1
          rw [ht2] at hlook
          have HT2 := hide ht2
          clear hMr ht2
          cases R with
          | some y =>
            go_wp2_with fail
            go_ret
            exact ⟨rfl, HBT.out⟩
          | none =>
            have HXt := hide (Blk.below HX.out HBT.out)
            have hlen := HMr.out.2.1.len 3
            have f0 := HXt.out.frozen 0
            have x4 : wr.cell? ⟨x, 4, none⟩ = some (.func (.func F) #[] cp) := HXt.out.cell 4
            have x00 : wr.cell? ⟨x, 0, none⟩ = some (.int .i64 n0) := HXt.out.cell 0
            have hxl3 := HXt.out.lt
            have hml := HMr.out.1.lt
            go_wp2_with fail
            have hbt1 : But (fun k => k = x ∨ k = bm) wr (wr.setCell ⟨x, 0, none⟩ (.int .i64 n)) := (But.refl _ _).setCell (.inl (.inl rfl)) _
            have hx1 : Blk (wr.setCell ⟨x, 0, none⟩ (.int .i64 n)) x _ 169 := HXt.out.set 0 (.int .i64 n)
            have hm1 : Blk (wr.setCell ⟨x, 0, none⟩ (.int .i64 n)) m _ 224 := HMr.out.1.setOther (p := ⟨x, 0, none⟩) (Ne.symm hxm) _
            have hp1 : MapN (wr.setCell ⟨x, 0, none⟩ (.int .i64 n)) bm f n := HMr.out.2.1.block (Below.heap_setCell _ _ _ _ (Ne.symm hxb))
            generalize wr.setCell ⟨x, 0, none⟩ (.int .i64 n) = W1 at *
            refine (remember_any F cp W1).mono ?_
            rintro e w5 ⟨k, b, mm, rfl, hb5, hge, _, _, _⟩
            have hx5 := hx1.below hb5
            have hm5 := hm1.below hb5
            have hp5 := hp1.below hb5
            have HBT5 := hide (hbt1.trans (But.below hb5))
            have f4 := hx5.frozen 4
            have x54 : w5.cell? ⟨x, 4, none⟩ = some (.func (.func F) #[] cp) := hx5.cell 4
            have m5 : w5.cell? ⟨m, 0, none⟩ = some (.map (some bm)) := hm5.cell 0
            have hx6 := hx5.set 4 (.func (.func 220) #[] #[.pointer (some ⟨k, 0, none⟩), .pointer (some ⟨b, 0, none⟩)])
            have hm6 := hm5.setOther (p := ⟨x, 4, none⟩) (Ne.symm hxm) (.func (.func 220) #[] #[.pointer (some ⟨k, 0, none⟩), .pointer (some ⟨b, 0, none⟩)])
            have hp6 : MapN (w5.setCell ⟨x, 4, none⟩ (.func (.func 220) #[] #[.pointer (some ⟨k, 0, none⟩), .pointer (some ⟨b, 0, none⟩)])) bm f n := hp5.block (Below.heap_setCell _ _ _ _ (Ne.symm hxb))
            have hxl5 := hx5.lt
            have hml5 := hm5.lt
            obtain ⟨w7, hrun, hp7, ht7⟩ := hp6.store t ht1 (by unfold maxLen; omega) HT2.out x
            have HP7 := hide hp7
            have HT7 := hide ht7
            have HX6 := hide hx6
            have HM6 := hide hm6
            clear hx1 hm1 hp1 hb5 hge hx5 hm5 hp5 hx6 hm6 hp6 hp7 ht7 hbt1 hlook hlen x4 f0 x00
            go_wp2_with fail
            go_ret
            refine ⟨rfl, (But.below HBT.out).trans ((HBT5.out.setCell (p := ⟨x, 4, none⟩) (.inl (.inl rfl)) _).turned HT7.out (.inr rfl)), ⟨HM6.out.turned HT7.out HM.out.2.2, ?_, HM.out.2.2⟩, _, HX6.out.turned HT7.out hxb⟩
            rw [← HNM.out, ← HN.out]
            exact HP7.out
end Go.Proofs.YtlflfcjbpnnfcaaGreatDoor
/- A heap of one: walks. -/
namespace Go.Proofs.YtlflfcjbpnnfcaaGreatDoor
open Go.Shelf Go.RowKit

theorem Tryz.info163 : (Tryz.prog.info? 163).map (fun i => (i.zero, i.size, i.bytes)) = some (some (.agg #[.slice none 0 0, .pointer none, .pointer none]), 3, 40) := by kernel_rfl
/-- What is begun: no text yet, and what is left of two patterns. -/
abbrev begunV (r s : Nat) : Value := .agg #[.slice none 0 0, .pointer (some ⟨r, 0, none⟩), .pointer (some ⟨s, 0, none⟩)]
abbrev begunL (r s : Nat) : List Value := [.slice none 0 0, .pointer (some ⟨r, 0, none⟩), .pointer (some ⟨s, 0, none⟩)]
/-- A heap that has one. -/
def Heap1 (w : World) (B bn r s : Nat) : Prop := ∃ g c, Blk w bn [.slice (some ⟨g, 0, none⟩) 1 c] 156 ∧ w.ownsRow B 163 3 (.slice (some ⟨g, 0, none⟩) 1 c) 1 (begunL r s)
theorem But.grown {S : Nat → Prop} {a w w' : World} {row : Option Nat} (h : But S a w) (hg : w.grownBy w' row) (hr : ∀ k, row = some k → S k ∨ a.heap.size ≤ k) : But S a w' :=
  ⟨hg.os.trans h.os, hg.tape.trans h.tape, hg.output.trans h.output, Nat.le_trans h.size hg.size, fun k hk hn => (hg.block k (Nat.lt_of_lt_of_le hk h.size) (fun e => by rcases hr k e.symm with h1 | h1; exact hn h1; omega)).trans (h.block k hk hn)⟩
theorem begun_cells (w : World) (r s : Nat) : ∀ j u, (begunL r s)[j]? = some u → (w.alloc (.cells #[.slice none 0 0, .pointer (some ⟨r, 0, none⟩), .pointer (some ⟨s, 0, none⟩)] 163)).drew.cell? ((⟨w.heap.size, 0, none⟩ : Addr).add j) = some u := by
  intro j u hj
  match j, hj with
  | 0, hj => simp at hj; subst hj; simp [Addr.add]
  | 1, hj => simp at hj; subst hj; simp [Addr.add]
  | 2, hj => simp at hj; subst hj; simp [Addr.add]
theorem begun_one (r s : Nat) : ∀ u ∈ begunL r s, u.oneCell' = true := by
  intro u hu; simp at hu; rcases hu with rfl | rfl | rfl <;> rfl
theorem own163_one {w : World} {B : Nat} {v : Value} {xs : List Value} (h : w.ownsRow B 163 3 v 1 xs) : ∃ g c, v = .slice (some ⟨g, 0, none⟩) 1 c ∧ B ≤ g := by
  rcases h.2 with ⟨_, h0⟩ | ⟨g, cap, cur, rfl, hg, hh, r⟩
  · omega
  · exact ⟨g, cap, rfl, hg⟩
theorem assert_begun (v : Value) (w : World) : (Instr.typeAssert (.iface 163 v) 20 163 false).run Tryz.prog w = .ok v w := by
  simp [Instr.typeAssert, run_underlying Tryz.underlying163, Result.andThen]
set_option maxRecDepth 100000 in
set_option maxHeartbeats 4000000 in
theorem push_method (B bn b0 r s : Nat) (w : World) (hn : Blk w bn [.slice (some ⟨b0, 0, none⟩) 0 0] 156) (hb : Blk w b0 [] 163) (hB : B ≤ bn) (hB0 : B ≤ b0) :
    Calls Tryz.prog 348 #[.pointer (some ⟨bn, 0, none⟩), .iface 163 (begunV r s)] w fun e w' => e = .returned (.tuple #[]) ∧ Heap1 w' B bn r s ∧ But (fun k => k = bn ∨ k = b0) w w' := by
  obtain ⟨i0, hi, hz0, hz1, hz2⟩ := info_parts Tryz.info163
  have c0 : w.cell? ⟨bn, 0, none⟩ = some (.slice (some ⟨b0, 0, none⟩) 0 0) := hn.cell 0
  have hl := hn.lt
  have hbl := hb.lt
  have hne : bn ≠ b0 := fun e => by subst e; have h9 := hn.symm.trans hb; simp at h9
  have hown : w.ownsRow B 163 3 (.slice (some ⟨b0, 0, none⟩) 0 0) 0 [] := ⟨rfl, .inr ⟨b0, 0, #[], rfl, hB0, hb, Nat.le_refl _, Nat.zero_le _, rfl, rfl⟩⟩
  have HN := hide hn
  have HOWN := hide hown
  have hta := assert_begun (begunV r s)
  clear hn hb hown
  go_enter Tryz.func348, Tryz.ntmps348
  go_wp2_with fail
  refine wp_region_held_drew (S := fun _ : World => True) (by kernel_rfl) trivial (fun hHeld => ?_)
  refine wpAnyH_take (i := 0) (oi := _) (v := .pointer (some ⟨bn, 0, none⟩)) rfl (by kernel_rfl) (by kernel_rfl) (by kernel_rfl) (fun _ _ _ h => h) (Or.inl ⟨by rfl, by intro w hSw; go_simp⟩) trivial ?_
  try simp only [Act.put, List.setIfInBounds_toArray, List.set_cons_zero, List.set_cons_succ, List.getElem_toArray, List.getElem_cons_zero]
  refine wpAnyH_take (i := 1) (oi := _) (v := .pointer (some ⟨bn, 0, none⟩)) rfl (by kernel_rfl) (by kernel_rfl) (by kernel_rfl) (fun _ _ _ h => h) (Or.inl ⟨by rfl, by intro w hSw; go_simp⟩) trivial ?_
  try simp only [Act.put, List.setIfInBounds_toArray, List.set_cons_zero, List.set_cons_succ, List.getElem_toArray, List.getElem_cons_zero, List.getElem_cons_succ]
  refine wpAnyH_take (i := 2) (oi := _) (v := .pointer (some ⟨bn, 0, none⟩)) rfl (by kernel_rfl) (by kernel_rfl) (by kernel_rfl) (fun _ _ _ h => h) (Or.inl ⟨by rfl, by intro w hSw; go_simp⟩) trivial ?_
  try simp only [Act.put, List.setIfInBounds_toArray, List.set_cons_zero, List.set_cons_succ, List.getElem_toArray, List.getElem_cons_zero, List.getElem_cons_succ]
  refine wpAnyH_take (i := 4) (oi := _) (v := .iface 163 (begunV r s)) rfl (by kernel_rfl) (by kernel_rfl) (by kernel_rfl) (fun _ _ _ h => h) (Or.inl ⟨by rfl, by intro w hSw; go_simp⟩) trivial ?_
  try simp only [Act.put, List.setIfInBounds_toArray, List.set_cons_zero, List.set_cons_succ, List.getElem_toArray, List.getElem_cons_zero, List.getElem_cons_succ]
  refine wpAnyH_take (i := 5) (oi := _) (v := begunV r s) rfl (by kernel_rfl) (by kernel_rfl) (by kernel_rfl) (fun _ _ _ h => h) (Or.inl ⟨by rfl, by intro w hSw; go_simp⟩) trivial ?_
  try simp only [Act.put, List.setIfInBounds_toArray, List.set_cons_zero, List.set_cons_succ, List.getElem_toArray, List.getElem_cons_zero, List.getElem_cons_succ]
  refine wpAnyH_ready (rs := [3, 6]) (by kernel_rfl) (by simp) ?_
  refine AllReadyH.cons (o := _) rfl (fun Kc hK => ?_) ?_
  · go_simp
    refine hK.out _ _ trivial (fun hHeld => ?_)
    clear hK Kc
    try simp only [Act.put, List.setIfInBounds_toArray, List.set_cons_zero, List.set_cons_succ]
    refine wpAnyH_ready (rs := [6]) (by kernel_rfl) (by simp) ?_
    refine AllReadyH.cons (o := _) rfl (fun Kc hK => ?_) ?_
    · go_simp
      refine hK.out _ _ trivial (fun hHeld => ?_)
      clear hK Kc
      try simp only [Act.put, List.setIfInBounds_toArray, List.set_cons_zero, List.set_cons_succ]
      refine wpAnyH_ready (rs := [7]) (by kernel_rfl) (by simp) ?_
      refine AllReadyH.cons (o := _) rfl (fun Kc hK => ?_) ?_
      · rw [if_pos (by rfl)]
        refine wp_append_own _ _ _ 156 rfl B 163 i0 (.agg #[.slice none 0 0, .pointer none, .pointer none]) 3 40 Tryz.underlying156 hi hz0 hz1 hz2 rfl (by decide) _ _ _ rfl (HOWN.out.alloc _) ⟨w.heap.size, 0, none⟩ 1 1 (begunL r s) rfl rfl (begun_cells w r s) (begun_one r s) (by unfold maxLen; omega) (by omega) (by simp; omega) ?_
        intro v' w3 hown' hgrow _
        obtain ⟨g, cc, rfl, hg⟩ := own163_one hown'
        have hn3 := ((HN.out.alloc (.cells #[.slice none 0 0, .pointer (some ⟨r, 0, none⟩), .pointer (some ⟨s, 0, none⟩)] 163)).drew).grown hgrow (fun e => by injection e with e; exact hne e)
        have hb3 : But (fun k => k = bn ∨ k = b0) w w3 := (But.below (((Below.refl w.heap.size w).alloc (Nat.le_refl _) (.cells #[.slice none 0 0, .pointer (some ⟨r, 0, none⟩), .pointer (some ⟨s, 0, none⟩)] 163)).drew)).grown hgrow (fun k e => by cases e; exact .inl (.inr rfl))
        have f3 := hn3.frozen 0
        have c3 : w3.cell? ⟨bn, 0, none⟩ = some (.slice (some ⟨b0, 0, none⟩) 0 0) := hn3.cell 0
        have hgn : g ≠ bn := fun e => by
          subst e
          obtain ⟨_, h9⟩ := hown'
          rcases h9 with ⟨h9, _⟩ | ⟨g9, c9, cur9, e9, _, hh9, _⟩
          · cases h9
          · cases e9; have h8 := hn3.symm.trans hh9; simp at h8
        have HOWN3 := hide hown'
        have HN3 := hide hn3
        have HB3 := hide hb3
        have hl3 := hn3.lt
        refine hK.out _ _ trivial (fun hHeld => ?_)
        clear hK Kc hgrow hown' hn3 hb3
        try simp only [Act.put, List.setIfInBounds_toArray, List.set_cons_zero, List.set_cons_succ, List.getElem_toArray, List.getElem_cons_zero, List.getElem_cons_succ]
        refine wpAnyH_take (i := 8) (oi := _) (v := .pointer (some ⟨bn, 0, none⟩)) rfl (by kernel_rfl) (by kernel_rfl) (by kernel_rfl) (fun _ _ _ h => h) (Or.inl ⟨by rfl, by intro w hSw; go_simp⟩) trivial ?_
        try simp only [Act.put, List.setIfInBounds_toArray, List.set_cons_zero, List.set_cons_succ, List.getElem_toArray, List.getElem_cons_zero, List.getElem_cons_succ]
        refine wpAnyH_ready (rs := [9]) (by kernel_rfl) (by simp) ?_
        refine AllReadyH.cons (o := _) rfl (fun Kc hK => ?_) ?_
        · go_simp
          refine hK.out _ _ trivial (fun hHeld => ?_)
          clear hK Kc
          try simp only [Act.put, List.setIfInBounds_toArray, List.set_cons_zero, List.set_cons_succ]
          refine wpAnyH_done (by kernel_rfl) ?_ _
          go_wp2_with fail
          go_end0
          exact ⟨rfl, ⟨g, cc, HN3.out.set 0 _, ownsRow_setCell_other HOWN3.out (a := ⟨bn, 0, none⟩) (fun e => by injection e with e; exact hgn e) _⟩, HB3.out.setCell (p := ⟨bn, 0, none⟩) (.inl (.inl rfl)) _⟩
        · exact AllReadyH.nil
      · exact AllReadyH.nil
    · exact AllReadyH.nil
  refine AllReadyH.cons (o := _) rfl (fun Kc hK => ?_) ?_
  · go_simp
    refine hK.out _ _ trivial (fun hHeld => ?_)
    clear hK Kc
    try simp only [Act.put, List.setIfInBounds_toArray, List.set_cons_zero, List.set_cons_succ]
    refine wpAnyH_ready (rs := [3]) (by kernel_rfl) (by simp) ?_
    refine AllReadyH.cons (o := _) rfl (fun Kc hK => ?_) ?_
    · go_simp
      refine hK.out _ _ trivial (fun hHeld => ?_)
      clear hK Kc
      try simp only [Act.put, List.setIfInBounds_toArray, List.set_cons_zero, List.set_cons_succ]
      refine wpAnyH_ready (rs := [7]) (by kernel_rfl) (by simp) ?_
      refine AllReadyH.cons (o := _) rfl (fun Kc hK => ?_) ?_
      · rw [if_pos (by rfl)]
        refine wp_append_own _ _ _ 156 rfl B 163 i0 (.agg #[.slice none 0 0, .pointer none, .pointer none]) 3 40 Tryz.underlying156 hi hz0 hz1 hz2 rfl (by decide) _ _ _ rfl (HOWN.out.alloc _) ⟨w.heap.size, 0, none⟩ 1 1 (begunL r s) rfl rfl (begun_cells w r s) (begun_one r s) (by unfold maxLen; omega) (by omega) (by simp; omega) ?_
        intro v' w3 hown' hgrow _
        obtain ⟨g, cc, rfl, hg⟩ := own163_one hown'
        have hn3 := ((HN.out.alloc (.cells #[.slice none 0 0, .pointer (some ⟨r, 0, none⟩), .pointer (some ⟨s, 0, none⟩)] 163)).drew).grown hgrow (fun e => by injection e with e; exact hne e)
        have hb3 : But (fun k => k = bn ∨ k = b0) w w3 := (But.below (((Below.refl w.heap.size w).alloc (Nat.le_refl _) (.cells #[.slice none 0 0, .pointer (some ⟨r, 0, none⟩), .pointer (some ⟨s, 0, none⟩)] 163)).drew)).grown hgrow (fun k e => by cases e; exact .inl (.inr rfl))
        have f3 := hn3.frozen 0
        have c3 : w3.cell? ⟨bn, 0, none⟩ = some (.slice (some ⟨b0, 0, none⟩) 0 0) := hn3.cell 0
        have hgn : g ≠ bn := fun e => by
          subst e
          obtain ⟨_, h9⟩ := hown'
          rcases h9 with ⟨h9, _⟩ | ⟨g9, c9, cur9, e9, _, hh9, _⟩
          · cases h9
          · cases e9; have h8 := hn3.symm.trans hh9; simp at h8
        have HOWN3 := hide hown'
        have HN3 := hide hn3
        have HB3 := hide hb3
        have hl3 := hn3.lt
        refine hK.out _ _ trivial (fun hHeld => ?_)
        clear hK Kc hgrow hown' hn3 hb3
        try simp only [Act.put, List.setIfInBounds_toArray, List.set_cons_zero, List.set_cons_succ, List.getElem_toArray, List.getElem_cons_zero, List.getElem_cons_succ]
        refine wpAnyH_take (i := 8) (oi := _) (v := .pointer (some ⟨bn, 0, none⟩)) rfl (by kernel_rfl) (by kernel_rfl) (by kernel_rfl) (fun _ _ _ h => h) (Or.inl ⟨by rfl, by intro w hSw; go_simp⟩) trivial ?_
        try simp only [Act.put, List.setIfInBounds_toArray, List.set_cons_zero, List.set_cons_succ, List.getElem_toArray, List.getElem_cons_zero, List.getElem_cons_succ]
        refine wpAnyH_ready (rs := [9]) (by kernel_rfl) (by simp) ?_
        refine AllReadyH.cons (o := _) rfl (fun Kc hK => ?_) ?_
        · go_simp
          refine hK.out _ _ trivial (fun hHeld => ?_)
          clear hK Kc
          try simp only [Act.put, List.setIfInBounds_toArray, List.set_cons_zero, List.set_cons_succ]
          refine wpAnyH_done (by kernel_rfl) ?_ _
          go_wp2_with fail
          go_end0
          exact ⟨rfl, ⟨g, cc, HN3.out.set 0 _, ownsRow_setCell_other HOWN3.out (a := ⟨bn, 0, none⟩) (fun e => by injection e with e; exact hgn e) _⟩, HB3.out.setCell (p := ⟨bn, 0, none⟩) (.inl (.inl rfl)) _⟩
        · exact AllReadyH.nil
      · exact AllReadyH.nil
    · exact AllReadyH.nil
  · exact AllReadyH.nil
end Go.Proofs.YtlflfcjbpnnfcaaGreatDoor
/- A heap of one, by container/heap: walks. -/
namespace Go.Proofs.YtlflfcjbpnnfcaaGreatDoor
open Go.Shelf Go.RowKit

set_option maxRecDepth 100000 in
set_option maxHeartbeats 4000000 in
theorem up_one (h : Value) (w : World) : Calls Tryz.prog 136 #[h, .int .i64 0] w fun e w' => e = .returned (.tuple #[]) ∧ w' = w := by
  go_enter Tryz.func136, Tryz.ntmps136
  go_wp2_with fail
  go_loopg [1] 1 (fun _ iv wr => iv = .int .i64 0 ∧ wr = w)
  case atStart => exact ⟨rfl, rfl⟩
  case round =>
    obtain ⟨rfl, hw⟩ := hrel
    subst hw
    go_wp2
    go_end0
    exact ⟨rfl, rfl⟩
set_option maxRecDepth 100000 in
set_option maxHeartbeats 4000000 in
theorem down_one (h : Value) (w : World) : Calls Tryz.prog 142 #[h, .int .i64 0, .int .i64 0] w fun e w' => (∃ v, e = .returned v) ∧ w' = w := by
  go_enter Tryz.func142, Tryz.ntmps142
  go_wp2_with fail
  go_loopg [7] 1 (fun _ iv wr => iv = .int .i64 0 ∧ wr = w)
  case atStart => exact ⟨rfl, rfl⟩
  case round =>
    obtain ⟨rfl, hw⟩ := hrel
    subst hw
    go_wp2
    go_ret
    exact ⟨⟨_, rfl⟩, rfl⟩
theorem meth_push (b : Nat) (w : World) : (method 483 154 (.pointer (some ⟨b, 0, none⟩)) "Push").run Tryz.prog w = .ok (348, .pointer (some ⟨b, 0, none⟩)) w := by kernel_rfl
theorem meth_pop (b : Nat) (w : World) : (method 483 154 (.pointer (some ⟨b, 0, none⟩)) "Pop").run Tryz.prog w = .ok (347, .pointer (some ⟨b, 0, none⟩)) w := by kernel_rfl
theorem wrap_some (a : Addr) (x y : String) (w : World) : (Builtin.ssaWrapNilChk_ #[154] 154 #[.pointer (some a), strVal x, strVal y]).run Tryz.prog w = .ok (.pointer (some a)) w := rfl
theorem meth_len (b : Nat) (w : World) (v : Value) (h : w.cell? ⟨b, 0, none⟩ = some v) : (method 483 154 (.pointer (some ⟨b, 0, none⟩)) "Len").run Tryz.prog w = .ok (93, v) w := by
  have hk : (Tryz.prog.info? 154).map (fun i => (i.methods.find? (·.name == "Len")).map fun m => (m.path.isEmpty, m.func)) = some (some (true, some (93, false))) := by kernel_rfl
  cases hi : Tryz.prog.info? 154 with
  | none => rw [hi] at hk; cases hk
  | some i =>
    rw [hi] at hk
    simp only [Option.map_some, Option.some.injEq] at hk
    cases hf : i.methods.find? (·.name == "Len") with
    | none => rw [hf] at hk; cases hk
    | some m =>
      rw [hf] at hk
      simp only [Option.map_some, Option.some.injEq, Prod.mk.injEq] at hk
      obtain ⟨hp, hm⟩ := hk
      have hp2 : m.path = #[] := Array.isEmpty_iff.1 hp
      unfold method
      simp [typeInfo, hi, hf, hm, hp2, follow, receiverAt, run_underlying Tryz.underlying154, Place.get, wrap_some, asAddr, loadVar, go_sem, h, Tryz.isAgg156, Result.andThen]
set_option maxRecDepth 100000 in
set_option maxHeartbeats 400000 in
theorem len_any (a : Option Addr) (n c : Nat) (w : World) : Calls Tryz.prog 93 #[.slice a n c] w fun e w' => e = .returned (.int .i64 n) ∧ w' = w := by
  go_enter Tryz.func93, Tryz.ntmps93
  go_wp2
  go_ret
  exact ⟨rfl, rfl⟩
set_option maxRecDepth 100000 in
set_option maxHeartbeats 4000000 in
theorem push_any (B bn b0 r s : Nat) (w : World) (hn : Blk w bn [.slice (some ⟨b0, 0, none⟩) 0 0] 156) (hb : Blk w b0 [] 163) (hB : B ≤ bn) (hB0 : B ≤ b0) :
    Calls Tryz.prog 91 #[.iface 154 (.pointer (some ⟨bn, 0, none⟩)), .iface 163 (begunV r s)] w fun e w' => e = .returned (.tuple #[]) ∧ Heap1 w' B bn r s ∧ But (fun k => k = bn ∨ k = b0) w w' := by
  have HP := hide (push_method B bn b0 r s w hn hb hB hB0)
  have hm1 := meth_push bn
  have hm2 := meth_len bn
  have HU := hide (up_one (.iface 154 (.pointer (some ⟨bn, 0, none⟩))))
  clear hn hb
  go_enter Tryz.func91, Tryz.ntmps91
  go_wp2_with fail
  refine HP.out.mono ?_
  rintro e w1 ⟨rfl, ⟨g, c, hn1, ho1⟩, hb1⟩
  have c1 : w1.cell? ⟨bn, 0, none⟩ = some (.slice (some ⟨g, 0, none⟩) 1 c) := hn1.cell 0
  have hm3 := hm2 w1 _ c1
  have HN1 := hide hn1
  have HO1 := hide ho1
  have HB1 := hide hb1
  clear hn1 ho1 hb1 hm2
  go_wp2_with (first | (go_at_call 93; refine (len_any _ _ _ _).mono ?_; rintro e w' ⟨rfl, hw⟩; have hw8 := hw.symm; subst hw8; clear hw) | (go_at_call 136; refine (HU.out _).mono ?_; rintro e w' ⟨rfl, hw⟩; have hw8 := hw.symm; subst hw8; clear hw))
  go_end0
  exact ⟨rfl, ⟨g, c, HN1.out, HO1.out⟩, HB1.out⟩
theorem cell_self {w : World} {b i : Nat} {cs : List Value} {T : TypeId} {v : Value} (h : Blk w b cs T) (hv : cs[i]? = some v) : Blk (w.setCell ⟨b, i, none⟩ v) b cs T := by
  have h1 := h.set i v
  have e : cs.set i v = cs := by
    obtain ⟨hl, rfl⟩ := List.getElem?_eq_some_iff.1 hv
    exact List.set_getElem_self hl
  rw [e] at h1
  exact h1
theorem own163_blk {w : World} {B g c : Nat} {r s : Nat} (h : w.ownsRow B 163 3 (.slice (some ⟨g, 0, none⟩) 1 c) 1 (begunL r s)) : ∃ rest, Blk w g (begunL r s ++ rest) 163 ∧ 1 ≤ c ∧ c ≤ maxLen ∧ (begunL r s ++ rest).length = c * 3 ∧ B ≤ g := by
  obtain ⟨h1, h2⟩ := h
  rcases h2 with ⟨h2, _⟩ | ⟨g', cap, cur, e, hg, hh, hc, hm, hs, ht⟩
  · cases h2
  · cases e
    refine ⟨cur.toList.drop 3, ?_, hc, hm, ?_, hg⟩
    · unfold Blk
      rw [← ht, List.take_append_drop]
      simpa using hh
    · rw [← ht, List.take_append_drop]; simpa using hs
theorem blk_own {w : World} {B g c : Nat} {r s : Nat} {rest : List Value} (h : Blk w g (begunL r s ++ rest) 163) (h1 : 1 ≤ c) (h2 : c ≤ maxLen) (h3 : (begunL r s ++ rest).length = c * 3) (h4 : B ≤ g) : w.ownsRow B 163 3 (.slice (some ⟨g, 0, none⟩) 1 c) 1 (begunL r s) :=
  ⟨rfl, .inr ⟨g, c, (begunL r s ++ rest).toArray, rfl, h4, h, h1, h2, by simpa using h3, by simp⟩⟩
theorem swap_fin {w : World} {g r s : Nat} {rest : List Value} (hb : Blk w g (begunL r s ++ rest) 163) : Blk ((((((w.setCell ⟨g, 0, none⟩ (.slice none 0 0)).setCell ⟨g, 1, none⟩ (.pointer (some ⟨r, 0, none⟩))).setCell ⟨g, 2, none⟩ (.pointer (some ⟨s, 0, none⟩))).setCell ⟨g, 0, none⟩ (.slice none 0 0)).setCell ⟨g, 1, none⟩ (.pointer (some ⟨r, 0, none⟩))).setCell ⟨g, 2, none⟩ (.pointer (some ⟨s, 0, none⟩))).drew g (begunL r s ++ rest) 163 ∧ Off g w ((((((w.setCell ⟨g, 0, none⟩ (.slice none 0 0)).setCell ⟨g, 1, none⟩ (.pointer (some ⟨r, 0, none⟩))).setCell ⟨g, 2, none⟩ (.pointer (some ⟨s, 0, none⟩))).setCell ⟨g, 0, none⟩ (.slice none 0 0)).setCell ⟨g, 1, none⟩ (.pointer (some ⟨r, 0, none⟩))).setCell ⟨g, 2, none⟩ (.pointer (some ⟨s, 0, none⟩))).drew := by
  have h1 := cell_self (i := 0) (v := .slice none 0 0) hb rfl
  have h2 := cell_self (i := 1) (v := .pointer (some ⟨r, 0, none⟩)) h1 rfl
  have h3 := cell_self (i := 2) (v := .pointer (some ⟨s, 0, none⟩)) h2 rfl
  have h4 := cell_self (i := 0) (v := .slice none 0 0) h3 rfl
  have h5 := cell_self (i := 1) (v := .pointer (some ⟨r, 0, none⟩)) h4 rfl
  have h6 := cell_self (i := 2) (v := .pointer (some ⟨s, 0, none⟩)) h5 rfl
  refine ⟨h6.drew, ?_⟩
  have o1 := (Off.refl g w).setCell 0 (.slice none 0 0)
  have o2 := o1.setCell 1 (.pointer (some ⟨r, 0, none⟩))
  have o3 := o2.setCell 2 (.pointer (some ⟨s, 0, none⟩))
  have o4 := o3.setCell 0 (.slice none 0 0)
  have o5 := o4.setCell 1 (.pointer (some ⟨r, 0, none⟩))
  have o6 := o5.setCell 2 (.pointer (some ⟨s, 0, none⟩))
  exact o6.drew
set_option maxRecDepth 100000 in
set_option maxHeartbeats 4000000 in
theorem swap_one (B g c r s : Nat) (w : World) (h : w.ownsRow B 163 3 (.slice (some ⟨g, 0, none⟩) 1 c) 1 (begunL r s)) :
    Calls Tryz.prog 349 #[.slice (some ⟨g, 0, none⟩) 1 c, .int .i64 0, .int .i64 0] w fun e w' => e = .returned (.tuple #[]) ∧ w'.ownsRow B 163 3 (.slice (some ⟨g, 0, none⟩) 1 c) 1 (begunL r s) ∧ Off g w w' := by
  obtain ⟨rest, hb, h1, h2, h3, h4⟩ := own163_blk h
  have c0 : w.cell? ⟨g, 0, none⟩ = some (.slice none 0 0) := hb.cell 0
  have c1 : w.cell? ⟨g, 1, none⟩ = some (.pointer (some ⟨r, 0, none⟩)) := hb.cell 1
  have c2 : w.cell? ⟨g, 2, none⟩ = some (.pointer (some ⟨s, 0, none⟩)) := hb.cell 2
  have f0 := hb.frozen 0
  have f1 := hb.frozen 1
  have f2 := hb.frozen 2
  have hl := hb.lt
  have HB := hide hb
  clear h hb
  go_enter Tryz.func349, Tryz.ntmps349
  go_wp2_with fail
  go_region
  go_wp2_with fail
  go_end0
  have hfin := swap_fin HB.out
  refine ⟨rfl, ?_, hfin.2⟩
  exact blk_own hfin.1 h1 h2 h3 h4
set_option maxRecDepth 100000 in
set_option maxHeartbeats 4000000 in
theorem pop_method (B bn g c r s : Nat) (w : World) (hn : Blk w bn [.slice (some ⟨g, 0, none⟩) 1 c] 156) (h : w.ownsRow B 163 3 (.slice (some ⟨g, 0, none⟩) 1 c) 1 (begunL r s)) :
    Calls Tryz.prog 347 #[.pointer (some ⟨bn, 0, none⟩)] w fun e w' => e = .returned (.iface 163 (begunV r s)) ∧ Blk w' bn [.slice (some ⟨g, 0, none⟩) 0 c] 156 ∧ But (fun k => k = bn) w w' := by
  obtain ⟨rest, hb, h1, h2, h3, h4⟩ := own163_blk h
  have b0 : w.cell? ⟨bn, 0, none⟩ = some (.slice (some ⟨g, 0, none⟩) 1 c) := hn.cell 0
  have c0 : w.cell? ⟨g, 0, none⟩ = some (.slice none 0 0) := hb.cell 0
  have c1 : w.cell? ⟨g, 1, none⟩ = some (.pointer (some ⟨r, 0, none⟩)) := hb.cell 1
  have c2 : w.cell? ⟨g, 2, none⟩ = some (.pointer (some ⟨s, 0, none⟩)) := hb.cell 2
  have hl := hb.lt
  have hnl := hn.lt
  have hfn := hn.frozen 0
  have hc1 : (1 : Int) ≤ (c : Int) := by omega
  have hc0 : (0 : Int) ≤ (c : Int) := by omega
  have HN := hide hn
  clear h hb hn
  go_enter Tryz.func347, Tryz.ntmps347
  go_wp2_with fail
  go_ret
  refine ⟨rfl, ?_, ?_⟩
  · exact (HN.out.set 0 (.slice (some ⟨g, 0, none⟩) 0 c)).alloc _
  · have e1 := (But.refl (fun k => k = bn) w).setCell (p := ⟨bn, 0, none⟩) (.inl rfl) (.slice (some ⟨g, 0, none⟩) 0 c)
    exact e1.trans (But.below ((Below.refl _ _).alloc (Nat.le_refl _) _))
theorem meth_swap (b : Nat) (w : World) (v : Value) (h : w.cell? ⟨b, 0, none⟩ = some v) : (method 483 154 (.pointer (some ⟨b, 0, none⟩)) "Swap").run Tryz.prog w = .ok (349, v) w := by
  have hk : (Tryz.prog.info? 154).map (fun i => (i.methods.find? (·.name == "Swap")).map fun m => (m.path.isEmpty, m.func)) = some (some (true, some (349, false))) := by kernel_rfl
  cases hi : Tryz.prog.info? 154 with
  | none => rw [hi] at hk; cases hk
  | some i =>
    rw [hi] at hk
    simp only [Option.map_some, Option.some.injEq] at hk
    cases hf : i.methods.find? (·.name == "Swap") with
    | none => rw [hf] at hk; cases hk
    | some m =>
      rw [hf] at hk
      simp only [Option.map_some, Option.some.injEq, Prod.mk.injEq] at hk
      obtain ⟨hp, hm⟩ := hk
      have hp2 : m.path = #[] := Array.isEmpty_iff.1 hp
      unfold method
      simp [typeInfo, hi, hf, hm, hp2, follow, receiverAt, run_underlying Tryz.underlying154, Place.get, wrap_some, asAddr, loadVar, go_sem, h, Tryz.isAgg156, Result.andThen]
set_option maxRecDepth 100000 in
set_option maxHeartbeats 4000000 in
theorem pop_any (B bn g c r s : Nat) (w : World) (hn : Blk w bn [.slice (some ⟨g, 0, none⟩) 1 c] 156) (ho : w.ownsRow B 163 3 (.slice (some ⟨g, 0, none⟩) 1 c) 1 (begunL r s)) :
    Calls Tryz.prog 94 #[.iface 154 (.pointer (some ⟨bn, 0, none⟩))] w fun e w' => e = .returned (.iface 163 (begunV r s)) ∧ Blk w' bn [.slice (some ⟨g, 0, none⟩) 0 c] 156 ∧ But (fun k => k = bn ∨ k = g) w w' := by
  obtain ⟨rest, hb, _⟩ := own163_blk ho
  have hgn : bn ≠ g := fun e => by subst e; have h8 := hn.symm.trans hb; simp at h8
  have c0 : w.cell? ⟨bn, 0, none⟩ = some (.slice (some ⟨g, 0, none⟩) 1 c) := hn.cell 0
  have hm1 := meth_len bn w _ c0
  have hm2 := meth_swap bn w _ c0
  have hm3 := meth_pop bn
  have HSW := hide (swap_one B g c r s w ho)
  have HN := hide hn
  clear hn ho hb
  go_enter Tryz.func94, Tryz.ntmps94
  go_wp2_with (go_at_call 93; refine (len_any _ _ _ _).mono ?_; rintro e w' ⟨rfl, hw⟩; have hw8 := hw.symm; subst hw8; clear hw)
  refine HSW.out.mono ?_
  rintro e w1 ⟨rfl, ho1, hoff⟩
  have hn1 := HN.out.off hoff hgn
  have HPOP := hide (pop_method B bn g c r s w1 hn1 ho1)
  have HB1 : Hid (But (fun k => k = bn ∨ k = g) w w1) := ⟨hoff.os, hoff.tape, hoff.output, hoff.size, fun k hk hne => hoff.block k hk (fun e => hne (.inr e))⟩
  have HD := hide (down_one (.iface 154 (.pointer (some ⟨bn, 0, none⟩))) w1)
  clear hn1 ho1 hoff
  go_wp2_with fail
  refine HD.out.mono ?_
  rintro e w2 ⟨⟨v, rfl⟩, hw⟩
  have hw8 := hw.symm
  subst hw8
  clear hw
  go_wp2_with fail
  refine HPOP.out.mono ?_
  rintro e w3 ⟨rfl, hn3, hb3⟩
  have HN3 := hide hn3
  have HB3 := hide hb3
  clear hn3 hb3
  go_wp2_with fail
  go_ret
  exact ⟨rfl, HN3.out, HB1.out.trans (HB3.out.mono fun i _ h => .inl h)⟩
end Go.Proofs.YtlflfcjbpnnfcaaGreatDoor
