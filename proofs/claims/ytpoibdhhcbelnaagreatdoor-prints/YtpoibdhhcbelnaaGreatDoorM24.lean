/- The program's writing: runes and ranges: walks. -/
import Derived.Laws.Cover4
import Derived.Test.YtpoibdhhcbelnaaGreatDoorM20
import Derived.Test.YtpoibdhhcbelnaaGreatDoorM17
import Derived.Test.YtpoibdhhcbelnaaGreatDoorM23
namespace Go.Proofs.YtpoibdhhcbelnaaGreatDoor
open Go.RowKit Brm

theorem ofInt_byte {n : Nat} : ((n : Int)).toNat.toUInt8 = UInt8.ofNat n := by rw [Int.toNat_natCast]
theorem enc_bytes {c : Int} (hc : runeB c = true) : bytesOf (Utf8.encode c) = Lib.encodeRune c := by
  have h := (rune_iff c).1 hc
  obtain ⟨n, rfl⟩ : ∃ n : Nat, c = (n : Int) := ⟨c.toNat, by omega⟩
  have hv : Utf8.valid (n : Int) = true := by simp [Utf8.valid]; omega
  unfold Utf8.encode Lib.encodeRune
  simp only [hv, if_true, Int.toNat_natCast]
  by_cases a1 : n < 128
  · rw [if_pos a1, Lib.encodeRuneZ_one (by omega) (by omega)]; simp [bytesOf]
  · rw [if_neg a1]
    by_cases a2 : n < 2048
    · rw [if_pos a2, Lib.encodeRuneZ_two (by omega) (by omega)]
      simp only [bytesOf, List.map_cons, List.map_nil]
      have e1 : (192 + (n : Int) / 64).toNat = 192 + n / 64 := by omega
      have e2 : (128 + (n : Int) % 64).toNat = 128 + n % 64 := by omega
      rw [e1, e2]
    · rw [if_neg a2]
      by_cases a3 : n < 65536
      · rw [if_pos a3, Lib.encodeRuneZ_three (by omega)]
        simp only [bytesOf, List.map_cons, List.map_nil]
        have e1 : (224 + (n : Int) / 4096).toNat = 224 + n / 4096 := by omega
        have e2 : (128 + (n : Int) / 64 % 64).toNat = 128 + n / 64 % 64 := by omega
        have e3 : (128 + (n : Int) % 64).toNat = 128 + n % 64 := by omega
        rw [e1, e2, e3]
      · rw [if_neg a3, Lib.encodeRuneZ_four (by omega) (by omega)]
        simp only [bytesOf, List.map_cons, List.map_nil]
        have e1 : (240 + (n : Int) / 262144).toNat = 240 + n / 262144 := by omega
        have e2 : (128 + (n : Int) / 4096 % 64).toNat = 128 + n / 4096 % 64 := by omega
        have e3 : (128 + (n : Int) / 64 % 64).toNat = 128 + n / 64 % 64 := by omega
        have e4 : (128 + (n : Int) % 64).toNat = 128 + n % 64 := by omega
        rw [e1, e2, e3, e4]
/-- What a call hands back: the bytes of a string. -/
def Str (bs : List UInt8) (w : World) (e : Ending) (w' : World) : Prop := ∃ t, e = .returned (.string t) ∧ bytesOf t = bs ∧ Below w.heap.size w w'
set_option maxRecDepth 100000 in
set_option maxHeartbeats 400000 in
theorem wrune_any (c : Int) (m : ByteArray) (w : World) (B : Bool) (hc : runeB c = true) (hcon : ∀ w, Calls Tryz.prog 163 #[.string m, .int .i32 c] w fun e w' => e = .returned (.bool B) ∧ Below w.heap.size w w') :
    Calls Tryz.prog 109 #[.int .i64 c, .string m] w fun e w' => Str (Brm.written (fun _ => B) c) w e w' := by
  by_cases h1 : c = 10
  · subst h1; go_enter Tryz.func109, Tryz.ntmps109; go_wp2; go_ret; exact ⟨_, rfl, rfl, Below.refl _ _⟩
  by_cases h2 : c = 9
  · subst h2; go_enter Tryz.func109, Tryz.ntmps109; go_wp2; go_ret; exact ⟨_, rfl, rfl, Below.refl _ _⟩
  by_cases h3 : c = 13
  · subst h3; go_enter Tryz.func109, Tryz.ntmps109; go_wp2; go_ret; exact ⟨_, rfl, rfl, Below.refl _ _⟩
  have b1 : (c == 10) = false := beq_eq_false_iff_ne.2 h1
  have b2 : (c == 9) = false := beq_eq_false_iff_ne.2 h2
  have b3 : (c == 13) = false := beq_eq_false_iff_ne.2 h3
  have hr := (rune_iff c).1 hc
  have c0 : 0 ≤ c := by omega
  have c1 : c ≤ 1114111 := by omega
  have HE := hide (enc_bytes hc)
  have hz := encode_size_le c
  have HC := hide (hcon w)
  cases B with
  | true =>
    have HW : Hid (Brm.written (fun _ => true) c = 92 :: Lib.encodeRune c) := by show _ = _; unfold Brm.written; rw [if_neg h1, if_neg h2, if_neg h3]; rfl
    clear h1 h2 h3 hc hr hcon
    go_enter Tryz.func109, Tryz.ntmps109
    go_wp2_with fail
    refine HC.out.mono ?_
    rintro e w1 ⟨rfl, hb⟩
    have HB := hide hb
    clear hb
    go_wp2
    go_ret
    exact ⟨_, rfl, by rw [HW.out, bytes_add, HE.out]; rfl, HB.out⟩
  | false =>
    have HW : Hid (Brm.written (fun _ => false) c = Lib.encodeRune c) := by show _ = _; unfold Brm.written; rw [if_neg h1, if_neg h2, if_neg h3]; rfl
    clear h1 h2 h3 hc hr hcon
    go_enter Tryz.func109, Tryz.ntmps109
    go_wp2_with fail
    refine HC.out.mono ?_
    rintro e w1 ⟨rfl, hb⟩
    have HB := hide hb
    clear hb
    go_wp2
    go_ret
    exact ⟨_, rfl, by rw [HW.out, HE.out], HB.out⟩
theorem written_at (f g : Int → Bool) (c : Int) (h : f c = g c) : Brm.written f c = Brm.written g c := by unfold Brm.written; rw [h]
theorem wrune_special (c : Int) (w : World) (hc : runeB c = true) : Calls Tryz.prog 109 #[.int .i64 c, .string { data := #[124, 38, 126, 42, 43, 63, 123, 125, 46, 92, 91, 93, 40, 41] }] w fun e w' => Str (Brm.written special c) w e w' := by
  have := wrune_any c _ w (special c) hc (fun w => has_special c w hc)
  rw [written_at (fun _ => special c) special c rfl] at this
  exact this
theorem wrune_inner (c : Int) (w : World) (hc : runeB c = true) : Calls Tryz.prog 109 #[.int .i64 c, .string { data := #[91, 93, 92, 45, 94] }] w fun e w' => Str (Brm.written inner c) w e w' := by
  have := wrune_any c _ w (inner c) hc (fun w => has_inner c w hc)
  rw [written_at (fun _ => inner c) inner c rfl] at this
  exact this
theorem written_len (f : Int → Bool) (c : Int) : (Brm.written f c).length ≤ 5 := by
  have := enc_len c
  unfold Brm.written; repeat' split
  all_goals first | (simp; done) | (simp; omega) | omega
set_option maxRecDepth 100000 in
set_option maxHeartbeats 1000000 in
theorem wrange_any (lo hi : Int) (w : World) (hl : runeB lo = true) (hh : runeB hi = true) : Calls Tryz.prog 111 #[.agg #[.int .i64 lo, .int .i64 hi]] w fun e w' => Str (wrRange (lo, hi)) w e w' := by
  have HC1 := hide (fun w => wrune_inner lo w hl)
  have HC2 := hide (fun w => wrune_inner hi w hh)
  have HLA := hide (written_len inner lo)
  have HLB := hide (written_len inner hi)
  have hlr := (rune_iff lo).1 hl
  have l0 : 0 ≤ lo := by omega
  have l1 : lo ≤ 1114111 := by omega
  have HAF := hide (fun w => after_any lo w l0 l1)
  have HN := hide (new1 w (.cells #[.int .i64 lo, .int .i64 hi] 149))
  have HB0 := hide (Blk.new w [.int .i64 lo, .int .i64 hi] 149)
  have HWR : Hid (wrRange (lo, hi) = if hi = lo then Brm.written inner lo else if hi = after lo then Brm.written inner lo ++ Brm.written inner hi else Brm.written inner lo ++ (45 :: Brm.written inner hi)) := rfl
  clear hl hh hlr
  go_enter Tryz.func111, Tryz.ntmps111
  go_wp2_with fail
  generalize hW : w.alloc (.cells #[.int .i64 lo, .int .i64 hi] 149) = W0 at HN HB0
  have x0 := HB0.out.cell 0
  have x1 := HB0.out.cell 1
  have hbl := HB0.out.lt
  simp only [List.getElem?_cons_succ, List.getElem?_cons_zero] at x0 x1
  clear hW
  go_region_held3 (fun w' => Below W0.heap.size W0 w' ∧ w'.cell? ⟨w.heap.size, 0, none⟩ = some (.int .i64 lo) ∧ w'.cell? ⟨w.heap.size, 1, none⟩ = some (.int .i64 hi))
    (first | exact ⟨(Below.refl _ _).drew, x0, x1⟩ | exact ⟨by assumption, (Below.cell (by assumption) hbl).trans x0, (Below.cell (by assumption) hbl).trans x1⟩)
    ((first
      | (go_at_call 109; refine (HC1.out _).mono ?_; rintro e w5 ⟨t5, rfl, ht5, hb5⟩; have hb6 : Below W0.heap.size W0 w5 := (‹Below W0.heap.size W0 _ ∧ _›.1).trans (hb5.mono (‹Below W0.heap.size W0 _ ∧ _›.1).size); have HT5 := hide ht5; have z5 : t5.size ≤ 5 := (by rw [← bytes_len, ht5]; exact HLA.out); clear ht5 hb5 HC1)
      | (go_at_call 109; refine (HC2.out _).mono ?_; rintro e w7 ⟨t7, rfl, ht7, hb7⟩; have hb8 : Below W0.heap.size W0 w7 := hb6.trans (hb7.mono hb6.size); have HT7 := hide ht7; have z7 : t7.size ≤ 5 := (by rw [← bytes_len, ht7]; exact HLB.out); clear ht7 hb7)))
  have y0 := (hb8.cell (p := ⟨w.heap.size, 0, none⟩) hbl).trans x0
  have y1 := (hb8.cell (p := ⟨w.heap.size, 1, none⟩) hbl).trans x1
  have hbl7 : w.heap.size < w7.heap.size := Nat.lt_of_lt_of_le hbl hb8.size
  have HB8 := hide (HN.out.trans (hb8.mono HN.out.size))
  clear hb6 hb8 x0 x1 hbl
  by_cases h1 : hi = lo
  · subst h1
    replace HWR := hide (HWR.out.trans (if_pos rfl))
    go_wp2
    go_ret
    exact ⟨_, rfl, by rw [HWR.out, HT5.out], HB8.out⟩
  · have b1 : (hi == lo) = false := beq_eq_false_iff_ne.2 h1
    replace HWR := hide (HWR.out.trans (if_neg h1))
    by_cases h2 : hi = after lo
    · have b2 : (hi == after lo) = true := beq_iff_eq.2 h2
      replace HWR := hide (HWR.out.trans (if_pos h2))
      generalize after lo = AF at b2 HAF h2
      clear h1 h2
      go_wp2_with (go_at_call 131; refine (HAF.out _).mono ?_; rintro e w9 ⟨rfl, hw9⟩; have hwA := hw9.symm; subst hwA; clear hw9)
      go_ret
      exact ⟨_, rfl, by rw [HWR.out, bytes_add, HT5.out, HT7.out], HB8.out⟩
    · have b2 : (hi == after lo) = false := beq_eq_false_iff_ne.2 h2
      replace HWR := hide (HWR.out.trans (if_neg h2))
      generalize after lo = AF at b2 HAF h2
      clear h1 h2
      go_wp2_with (go_at_call 131; refine (HAF.out _).mono ?_; rintro e w9 ⟨rfl, hw9⟩; have hwA := hw9.symm; subst hwA; clear hw9)
      go_ret
      exact ⟨_, rfl, by rw [HWR.out, bytes_add, bytes_add, HT5.out, HT7.out]; simp [bytesOf], HB8.out⟩
end Go.Proofs.YtpoibdhhcbelnaaGreatDoor
