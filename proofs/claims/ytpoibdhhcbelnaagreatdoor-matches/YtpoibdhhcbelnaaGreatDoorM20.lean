/- The reference's first rune of a text: a walk. -/
import Derived.Test.YtpoibdhhcbelnaaGreatDoorM19
import Derived.Test.YtpoibdhhcbelnaaGreatDoorM04
import Derived.Test.YtpoibdhhcbelnaaGreatDoorM05
namespace Go.Proofs.YtpoibdhhcbelnaaGreatDoor
open Go.RowKit Brm

theorem byteAt_of {s : ByteArray} {k : Nat} (h : k < s.size) : byteAt (bytesOf s) k = s[k].toNat := by
  unfold byteAt bytesOf
  rw [List.getD_eq_getElem?_getD, List.getElem?_eq_getElem (by simpa using h)]; rfl
theorem ret_two {a b c d : Int} (h : (a, b) = (c, d)) : Ending.returned (.tuple #[.int .i64 a, .int .i64 b]) = .returned (.tuple #[.int .i64 c, .int .i64 d]) := by cases h; rfl
/-- What the first bytes say, behind the loop. -/
theorem first_end {bs : List UInt8} {sz least base : Nat} (hs : Brm.sizeOf (byteAt bs 0) = sz) (hl : Brm.leastOf (byteAt bs 0) = least) (hb : Brm.baseOf (byteAt bs 0) = base) (h2 : 2 ≤ sz) (hz : sz ≤ bs.length) (hc : contTo bs sz) :
    (okRune least (numTo bs base sz) = true → firstR bs = ((sz : Int), (numTo bs base sz : Int))) ∧ (okRune least (numTo bs base sz) = false → firstR bs = (0, 0)) := by
  have h := dec_high (bs := bs) (by omega)
  rw [hs, hl, hb] at h
  constructor
  · intro ho
    rcases h with ⟨h1, h3, _⟩ | ⟨_, h3⟩
    · unfold firstR; rw [if_neg h3, h1]
    · exact absurd ⟨hz, hc, ho⟩ h3
  · intro ho
    rcases h with ⟨_, _, _, _, h3⟩ | ⟨h1, _⟩
    · rw [ho] at h3; cases h3
    · exact first_bad h1
theorem first_short {bs : List UInt8} {sz : Nat} (hs : Brm.sizeOf (byteAt bs 0) = sz) (h2 : 2 ≤ sz) (hz : ¬ sz ≤ bs.length) : firstR bs = (0, 0) := by
  rcases dec_high (bs := bs) (by omega) with ⟨_, _, h3, _⟩ | ⟨h1, _⟩
  · rw [hs] at h3; exact absurd h3 hz
  · exact first_bad h1
theorem first_cut {bs : List UInt8} {sz j : Nat} (hs : Brm.sizeOf (byteAt bs 0) = sz) (h2 : 2 ≤ sz) (h1 : 1 ≤ j) (hj : j < sz) (hc : contB (byteAt bs j) = false) : firstR bs = (0, 0) := by
  rcases dec_high (bs := bs) (by omega) with ⟨_, _, _, h3, _⟩ | ⟨h1', _⟩
  · rw [hs] at h3; have := h3 j h1 hj; rw [hc] at this; cases this
  · exact first_bad h1'
theorem numTo_succ (bs : List UInt8) (base j : Nat) (h : 1 ≤ j) : numTo bs base (j + 1) = 64 * numTo bs base j + (byteAt bs j - 128) := by
  cases j with
  | zero => omega
  | succ j => rfl
/-- The number so far is small. -/
theorem numTo_cap {bs : List UInt8} {base : Nat} (h0 : byteAt bs 0 - base < 64) {j : Nat} (h1 : 1 ≤ j) (h4 : j ≤ 4) (hc : contTo bs j) : numTo bs base j < 16777216 := by
  have n1 : numTo bs base 1 = byteAt bs 0 - base := rfl
  have n2 : numTo bs base 2 = 64 * numTo bs base 1 + (byteAt bs 1 - 128) := rfl
  have n3 : numTo bs base 3 = 64 * numTo bs base 2 + (byteAt bs 2 - 128) := rfl
  have n4 : numTo bs base 4 = 64 * numTo bs base 3 + (byteAt bs 3 - 128) := rfl
  have b1 := byteAt_lt bs 1
  have b2 := byteAt_lt bs 2
  have b3 := byteAt_lt bs 3
  have : j = 1 ∨ j = 2 ∨ j = 3 ∨ j = 4 := by omega
  rcases this with rfl | rfl | rfl | rfl
  · omega
  · omega
  · have := cont_iff.1 (hc 1 (by omega) (by omega)); have := cont_iff.1 (hc 2 (by omega) (by omega)); omega
  · have := cont_iff.1 (hc 1 (by omega) (by omega)); have := cont_iff.1 (hc 2 (by omega) (by omega)); have := cont_iff.1 (hc 3 (by omega) (by omega)); omega
theorem contTo_succ {bs : List UInt8} {j : Nat} (h : contTo bs j) (hc : contB (byteAt bs j) = true) : contTo bs (j + 1) := by
  intro i h1 h2
  by_cases e : i = j
  · subst e; exact hc
  · exact h i h1 (by omega)

set_option maxRecDepth 100000 in
set_option maxHeartbeats 400000 in
theorem first_one (s : ByteArray) (w : World) (h1 : 1 ≤ s.size) (ha : (s[0].toNat : Int) < 128) : Calls Tryz.prog 115 #[.string s] w fun e w' => e = .returned (.tuple #[.int .i64 (firstR (bytesOf s)).1, .int .i64 (firstR (bytesOf s)).2]) ∧ w' = w := by
  have HF : Hid (firstR (bytesOf s) = ((1 : Int), (s[0].toNat : Int))) := by
    show _ = _
    rw [first_low (by rw [byteAt_of (by omega)]; omega), byteAt_of (by omega)]
  have q0 : (0 : Int) ≤ (s[0].toNat : Int) := Int.natCast_nonneg _
  have hz : (0 : Int) < (s.size : Int) := by omega
  go_enter Tryz.func115, Tryz.ntmps115
  go_wp2
  go_ret2
  exact ⟨ret_two (by rw [HF.out]), rfl⟩
set_option maxRecDepth 100000 in
set_option maxHeartbeats 400000 in
theorem first_zero (s : ByteArray) (w : World) (h1 : 1 ≤ s.size) (ha : 128 ≤ (s[0].toNat : Int)) (hn : (s[0].toNat : Int) < 192 ∨ 248 ≤ (s[0].toNat : Int)) : Calls Tryz.prog 115 #[.string s] w fun e w' => e = .returned (.tuple #[.int .i64 (firstR (bytesOf s)).1, .int .i64 (firstR (bytesOf s)).2]) ∧ w' = w := by
  have HF : Hid (firstR (bytesOf s) = (0, 0)) := by
    show _ = _
    refine first_bad (dec_none ?_)
    rw [byteAt_of (by omega)]; omega
  have q1 : (s[0].toNat : Int) ≤ 255 := by have := s[0].toNat_lt; omega
  have hz : (0 : Int) < (s.size : Int) := by omega
  rcases hn with hn | hn
  all_goals
    go_enter Tryz.func115, Tryz.ntmps115
    go_wp2
    go_ret2
    exact ⟨ret_two (by rw [HF.out]), rfl⟩
set_option maxRecDepth 100000 in
set_option maxHeartbeats 1000000 in
theorem first_two (s : ByteArray) (w : World) (h1 : 1 ≤ s.size) (hsz : s.size ≤ 1000) (ha : 192 ≤ (s[0].toNat : Int)) (hb : (s[0].toNat : Int) < 224) : Calls Tryz.prog 115 #[.string s] w fun e w' => e = .returned (.tuple #[.int .i64 (firstR (bytesOf s)).1, .int .i64 (firstR (bytesOf s)).2]) ∧ w' = w := by
  have e0 := byteAt_of (s := s) (k := 0) (by omega)
  have S1 : Hid (Brm.sizeOf (byteAt (bytesOf s) 0) = 2) := by show _ = _; rw [e0]; unfold Brm.sizeOf; (repeat' split) <;> omega
  have S2 : Hid (Brm.leastOf (byteAt (bytesOf s) 0) = 128) := by show _ = _; rw [e0]; unfold Brm.leastOf; (repeat' split) <;> omega
  have S3 : Hid (Brm.baseOf (byteAt (bytesOf s) 0) = 192) := by show _ = _; rw [e0]; unfold Brm.baseOf; (repeat' split) <;> omega
  have S4 : Hid (byteAt (bytesOf s) 0 - 192 < 64) := by show _ < _; rw [e0]; omega
  have E0 : Hid ((s[0].toNat : Int) - 192 = (numTo (bytesOf s) 192 1 : Int)) := by show _ = _; show _ = ((byteAt (bytesOf s) 0 - 192 : Nat) : Int); rw [e0]; omega
  have hz : (0 : Int) < (s.size : Int) := by omega
  clear e0
  by_cases hs : 2 ≤ s.size
  · have hs2 : ((2 : Nat) : Int) ≤ (s.size : Int) := by omega
    go_enter Tryz.func115, Tryz.ntmps115
    go_wp2
    go_loop [7, 8] (fun c i => ∃ j : Nat, 1 ≤ j ∧ j ≤ 2 ∧ i = .int .i64 j ∧ c = .int .i64 (numTo (bytesOf s) 192 j) ∧ contTo (bytesOf s) j) (fun _ i => 2 - (intOf i).toNat)
    case atStart => exact ⟨1, by omega, by omega, rfl, by rw [E0.out], fun i a1 a2 => by omega⟩
    case round =>
      obtain ⟨j, j1, j2, rfl, rfl, hc⟩ := hrel
      have HC := hide hc
      have hcap := numTo_cap S4.out j1 (by omega) hc
      generalize hN : numTo (bytesOf s) 192 j = N at hcap
      have HN := hide hN
      clear hc hN
      by_cases hlt : j < 2
      · have hjs : j < s.size := by omega
        have e1 := byteAt_of hjs
        have q0 : (0 : Int) ≤ (s[j].toNat : Int) := Int.natCast_nonneg _
        have q1 : (s[j].toNat : Int) ≤ 255 := by have := s[j].toNat_lt; omega
        have i0 : (0 : Int) ≤ (j : Int) := Int.natCast_nonneg _
        have i1 : (j : Int) < (s.size : Int) := by omega
        have i2 : (j : Int) < 2 := by omega
        by_cases hlo : (s[j].toNat : Int) < 128
        · have HX := hide (first_cut S1.out (by omega) j1 hlt (by rw [e1]; simp [contB]; omega))
          clear e1
          go_wp2
          go_ret2
          exact ⟨ret_two (by rw [HX.out]), rfl⟩
        · by_cases hhi : 191 < (s[j].toNat : Int)
          · have HX := hide (first_cut S1.out (by omega) j1 hlt (by rw [e1]; simp [contB]; omega))
            have hd : decide ((s[j].toNat : Int) < 128) = false := by simpa using hlo
            clear e1
            go_wp2
            go_ret2
            exact ⟨ret_two (by rw [HX.out]), rfl⟩
          · have HCC := hide (contTo_succ HC.out (by rw [e1]; simp [contB]; omega))
            have HNN : Hid ((numTo (bytesOf s) 192 (j + 1) : Int) = 64 * (N : Int) + (s[j].toNat : Int) - 128) := by
              show _ = _
              rw [numTo_succ _ _ _ j1, HN.out, e1]; omega
            have hd : decide ((s[j].toNat : Int) < 128) = false := by simpa using hlo
            have hd2 : decide (191 < (s[j].toNat : Int)) = false := by simpa using hhi
            clear e1
            go_wp2
            go_round
            case rel => exact ⟨j + 1, by omega, by omega, by go_num, by rw [HNN.out], HCC.out⟩
            case measure => simp [intOf]; omega
      · have hje : j = 2 := by omega
        subst hje
        obtain ⟨F1, F2⟩ := first_end S1.out S2.out S3.out (by omega) (by rw [bytes_len]; exact hs) HC.out
        rw [HN.out] at F1 F2
        have HF1 := hide F1
        have HF2 := hide F2
        clear F1 F2
        by_cases g1 : (N : Int) < 128
        · go_wp2
          go_ret2
          exact ⟨ret_two (by rw [HF2.out (by rw [← Bool.not_eq_true, okRune_iff]; omega)]), rfl⟩
        · have d1 : decide ((N : Int) < 128) = false := decide_eq_false (by omega)
          by_cases g2 : (1114111 : Int) < (N : Int)
          · go_wp2
            go_ret2
            exact ⟨ret_two (by rw [HF2.out (by rw [← Bool.not_eq_true, okRune_iff]; omega)]), rfl⟩
          · have d2 : decide (1114111 < (N : Int)) = false := decide_eq_false (by omega)
            by_cases g3 : (55296 : Int) ≤ (N : Int)
            · by_cases g4 : (N : Int) < 57344
              · go_wp2
                go_ret2
                exact ⟨ret_two (by rw [HF2.out (by rw [← Bool.not_eq_true, okRune_iff]; omega)]), rfl⟩
              · have d4 : decide ((N : Int) < 57344) = false := decide_eq_false (by omega)
                go_wp2
                go_ret2
                exact ⟨ret_two (by rw [HF1.out (okRune_iff.2 (by omega))]; exact Prod.ext (by simp) (by simp)), rfl⟩
            · have d3 : decide (55296 ≤ (N : Int)) = false := decide_eq_false (by omega)
              go_wp2
              go_ret2
              exact ⟨ret_two (by rw [HF1.out (okRune_iff.2 (by omega))]; exact Prod.ext (by simp) (by simp)), rfl⟩
  · have HX := hide (first_short S1.out (by omega) (by rw [bytes_len]; exact hs))
    have hs2 : (s.size : Int) < 2 := by omega
    go_enter Tryz.func115, Tryz.ntmps115
    go_wp2
    go_ret2
    exact ⟨ret_two (by rw [HX.out]), rfl⟩
set_option maxRecDepth 100000 in
set_option maxHeartbeats 1000000 in
theorem first_three (s : ByteArray) (w : World) (h1 : 1 ≤ s.size) (hsz : s.size ≤ 1000) (ha : 224 ≤ (s[0].toNat : Int)) (hb : (s[0].toNat : Int) < 240) : Calls Tryz.prog 115 #[.string s] w fun e w' => e = .returned (.tuple #[.int .i64 (firstR (bytesOf s)).1, .int .i64 (firstR (bytesOf s)).2]) ∧ w' = w := by
  have e0 := byteAt_of (s := s) (k := 0) (by omega)
  have S1 : Hid (Brm.sizeOf (byteAt (bytesOf s) 0) = 3) := by show _ = _; rw [e0]; unfold Brm.sizeOf; (repeat' split) <;> omega
  have S2 : Hid (Brm.leastOf (byteAt (bytesOf s) 0) = 2048) := by show _ = _; rw [e0]; unfold Brm.leastOf; (repeat' split) <;> omega
  have S3 : Hid (Brm.baseOf (byteAt (bytesOf s) 0) = 224) := by show _ = _; rw [e0]; unfold Brm.baseOf; (repeat' split) <;> omega
  have S4 : Hid (byteAt (bytesOf s) 0 - 224 < 64) := by show _ < _; rw [e0]; omega
  have E0 : Hid ((s[0].toNat : Int) - 224 = (numTo (bytesOf s) 224 1 : Int)) := by show _ = _; show _ = ((byteAt (bytesOf s) 0 - 224 : Nat) : Int); rw [e0]; omega
  have hz : (0 : Int) < (s.size : Int) := by omega
  clear e0
  by_cases hs : 3 ≤ s.size
  · have hs2 : ((3 : Nat) : Int) ≤ (s.size : Int) := by omega
    go_enter Tryz.func115, Tryz.ntmps115
    go_wp2
    go_loop [7, 8] (fun c i => ∃ j : Nat, 1 ≤ j ∧ j ≤ 3 ∧ i = .int .i64 j ∧ c = .int .i64 (numTo (bytesOf s) 224 j) ∧ contTo (bytesOf s) j) (fun _ i => 3 - (intOf i).toNat)
    case atStart => exact ⟨1, by omega, by omega, rfl, by rw [E0.out], fun i a1 a2 => by omega⟩
    case round =>
      obtain ⟨j, j1, j2, rfl, rfl, hc⟩ := hrel
      have HC := hide hc
      have hcap := numTo_cap S4.out j1 (by omega) hc
      generalize hN : numTo (bytesOf s) 224 j = N at hcap
      have HN := hide hN
      clear hc hN
      by_cases hlt : j < 3
      · have hjs : j < s.size := by omega
        have e1 := byteAt_of hjs
        have q0 : (0 : Int) ≤ (s[j].toNat : Int) := Int.natCast_nonneg _
        have q1 : (s[j].toNat : Int) ≤ 255 := by have := s[j].toNat_lt; omega
        have i0 : (0 : Int) ≤ (j : Int) := Int.natCast_nonneg _
        have i1 : (j : Int) < (s.size : Int) := by omega
        have i2 : (j : Int) < 3 := by omega
        by_cases hlo : (s[j].toNat : Int) < 128
        · have HX := hide (first_cut S1.out (by omega) j1 hlt (by rw [e1]; simp [contB]; omega))
          clear e1
          go_wp2
          go_ret2
          exact ⟨ret_two (by rw [HX.out]), rfl⟩
        · by_cases hhi : 191 < (s[j].toNat : Int)
          · have HX := hide (first_cut S1.out (by omega) j1 hlt (by rw [e1]; simp [contB]; omega))
            have hd : decide ((s[j].toNat : Int) < 128) = false := by simpa using hlo
            clear e1
            go_wp2
            go_ret2
            exact ⟨ret_two (by rw [HX.out]), rfl⟩
          · have HCC := hide (contTo_succ HC.out (by rw [e1]; simp [contB]; omega))
            have HNN : Hid ((numTo (bytesOf s) 224 (j + 1) : Int) = 64 * (N : Int) + (s[j].toNat : Int) - 128) := by
              show _ = _
              rw [numTo_succ _ _ _ j1, HN.out, e1]; omega
            have hd : decide ((s[j].toNat : Int) < 128) = false := by simpa using hlo
            have hd2 : decide (191 < (s[j].toNat : Int)) = false := by simpa using hhi
            clear e1
            go_wp2
            go_round
            case rel => exact ⟨j + 1, by omega, by omega, by go_num, by rw [HNN.out], HCC.out⟩
            case measure => simp [intOf]; omega
      · have hje : j = 3 := by omega
        subst hje
        obtain ⟨F1, F2⟩ := first_end S1.out S2.out S3.out (by omega) (by rw [bytes_len]; exact hs) HC.out
        rw [HN.out] at F1 F2
        have HF1 := hide F1
        have HF2 := hide F2
        clear F1 F2
        by_cases g1 : (N : Int) < 2048
        · go_wp2
          go_ret2
          exact ⟨ret_two (by rw [HF2.out (by rw [← Bool.not_eq_true, okRune_iff]; omega)]), rfl⟩
        · have d1 : decide ((N : Int) < 2048) = false := decide_eq_false (by omega)
          by_cases g2 : (1114111 : Int) < (N : Int)
          · go_wp2
            go_ret2
            exact ⟨ret_two (by rw [HF2.out (by rw [← Bool.not_eq_true, okRune_iff]; omega)]), rfl⟩
          · have d2 : decide (1114111 < (N : Int)) = false := decide_eq_false (by omega)
            by_cases g3 : (55296 : Int) ≤ (N : Int)
            · by_cases g4 : (N : Int) < 57344
              · go_wp2
                go_ret2
                exact ⟨ret_two (by rw [HF2.out (by rw [← Bool.not_eq_true, okRune_iff]; omega)]), rfl⟩
              · have d4 : decide ((N : Int) < 57344) = false := decide_eq_false (by omega)
                go_wp2
                go_ret2
                exact ⟨ret_two (by rw [HF1.out (okRune_iff.2 (by omega))]; exact Prod.ext (by simp) (by simp)), rfl⟩
            · have d3 : decide (55296 ≤ (N : Int)) = false := decide_eq_false (by omega)
              go_wp2
              go_ret2
              exact ⟨ret_two (by rw [HF1.out (okRune_iff.2 (by omega))]; exact Prod.ext (by simp) (by simp)), rfl⟩
  · have HX := hide (first_short S1.out (by omega) (by rw [bytes_len]; exact hs))
    have hs2 : (s.size : Int) < 3 := by omega
    go_enter Tryz.func115, Tryz.ntmps115
    go_wp2
    go_ret2
    exact ⟨ret_two (by rw [HX.out]), rfl⟩
set_option maxRecDepth 100000 in
set_option maxHeartbeats 1000000 in
theorem first_four (s : ByteArray) (w : World) (h1 : 1 ≤ s.size) (hsz : s.size ≤ 1000) (ha : 240 ≤ (s[0].toNat : Int)) (hb : (s[0].toNat : Int) < 248) : Calls Tryz.prog 115 #[.string s] w fun e w' => e = .returned (.tuple #[.int .i64 (firstR (bytesOf s)).1, .int .i64 (firstR (bytesOf s)).2]) ∧ w' = w := by
  have e0 := byteAt_of (s := s) (k := 0) (by omega)
  have S1 : Hid (Brm.sizeOf (byteAt (bytesOf s) 0) = 4) := by show _ = _; rw [e0]; unfold Brm.sizeOf; (repeat' split) <;> omega
  have S2 : Hid (Brm.leastOf (byteAt (bytesOf s) 0) = 65536) := by show _ = _; rw [e0]; unfold Brm.leastOf; (repeat' split) <;> omega
  have S3 : Hid (Brm.baseOf (byteAt (bytesOf s) 0) = 240) := by show _ = _; rw [e0]; unfold Brm.baseOf; (repeat' split) <;> omega
  have S4 : Hid (byteAt (bytesOf s) 0 - 240 < 64) := by show _ < _; rw [e0]; omega
  have E0 : Hid ((s[0].toNat : Int) - 240 = (numTo (bytesOf s) 240 1 : Int)) := by show _ = _; show _ = ((byteAt (bytesOf s) 0 - 240 : Nat) : Int); rw [e0]; omega
  have hz : (0 : Int) < (s.size : Int) := by omega
  clear e0
  by_cases hs : 4 ≤ s.size
  · have hs2 : ((4 : Nat) : Int) ≤ (s.size : Int) := by omega
    go_enter Tryz.func115, Tryz.ntmps115
    go_wp2
    go_loop [7, 8] (fun c i => ∃ j : Nat, 1 ≤ j ∧ j ≤ 4 ∧ i = .int .i64 j ∧ c = .int .i64 (numTo (bytesOf s) 240 j) ∧ contTo (bytesOf s) j) (fun _ i => 4 - (intOf i).toNat)
    case atStart => exact ⟨1, by omega, by omega, rfl, by rw [E0.out], fun i a1 a2 => by omega⟩
    case round =>
      obtain ⟨j, j1, j2, rfl, rfl, hc⟩ := hrel
      have HC := hide hc
      have hcap := numTo_cap S4.out j1 (by omega) hc
      generalize hN : numTo (bytesOf s) 240 j = N at hcap
      have HN := hide hN
      clear hc hN
      by_cases hlt : j < 4
      · have hjs : j < s.size := by omega
        have e1 := byteAt_of hjs
        have q0 : (0 : Int) ≤ (s[j].toNat : Int) := Int.natCast_nonneg _
        have q1 : (s[j].toNat : Int) ≤ 255 := by have := s[j].toNat_lt; omega
        have i0 : (0 : Int) ≤ (j : Int) := Int.natCast_nonneg _
        have i1 : (j : Int) < (s.size : Int) := by omega
        have i2 : (j : Int) < 4 := by omega
        by_cases hlo : (s[j].toNat : Int) < 128
        · have HX := hide (first_cut S1.out (by omega) j1 hlt (by rw [e1]; simp [contB]; omega))
          clear e1
          go_wp2
          go_ret2
          exact ⟨ret_two (by rw [HX.out]), rfl⟩
        · by_cases hhi : 191 < (s[j].toNat : Int)
          · have HX := hide (first_cut S1.out (by omega) j1 hlt (by rw [e1]; simp [contB]; omega))
            have hd : decide ((s[j].toNat : Int) < 128) = false := by simpa using hlo
            clear e1
            go_wp2
            go_ret2
            exact ⟨ret_two (by rw [HX.out]), rfl⟩
          · have HCC := hide (contTo_succ HC.out (by rw [e1]; simp [contB]; omega))
            have HNN : Hid ((numTo (bytesOf s) 240 (j + 1) : Int) = 64 * (N : Int) + (s[j].toNat : Int) - 128) := by
              show _ = _
              rw [numTo_succ _ _ _ j1, HN.out, e1]; omega
            have hd : decide ((s[j].toNat : Int) < 128) = false := by simpa using hlo
            have hd2 : decide (191 < (s[j].toNat : Int)) = false := by simpa using hhi
            clear e1
            go_wp2
            go_round
            case rel => exact ⟨j + 1, by omega, by omega, by go_num, by rw [HNN.out], HCC.out⟩
            case measure => simp [intOf]; omega
      · have hje : j = 4 := by omega
        subst hje
        obtain ⟨F1, F2⟩ := first_end S1.out S2.out S3.out (by omega) (by rw [bytes_len]; exact hs) HC.out
        rw [HN.out] at F1 F2
        have HF1 := hide F1
        have HF2 := hide F2
        clear F1 F2
        by_cases g1 : (N : Int) < 65536
        · go_wp2
          go_ret2
          exact ⟨ret_two (by rw [HF2.out (by rw [← Bool.not_eq_true, okRune_iff]; omega)]), rfl⟩
        · have d1 : decide ((N : Int) < 65536) = false := decide_eq_false (by omega)
          by_cases g2 : (1114111 : Int) < (N : Int)
          · go_wp2
            go_ret2
            exact ⟨ret_two (by rw [HF2.out (by rw [← Bool.not_eq_true, okRune_iff]; omega)]), rfl⟩
          · have d2 : decide (1114111 < (N : Int)) = false := decide_eq_false (by omega)
            by_cases g3 : (55296 : Int) ≤ (N : Int)
            · by_cases g4 : (N : Int) < 57344
              · go_wp2
                go_ret2
                exact ⟨ret_two (by rw [HF2.out (by rw [← Bool.not_eq_true, okRune_iff]; omega)]), rfl⟩
              · have d4 : decide ((N : Int) < 57344) = false := decide_eq_false (by omega)
                go_wp2
                go_ret2
                exact ⟨ret_two (by rw [HF1.out (okRune_iff.2 (by omega))]; exact Prod.ext (by simp) (by simp)), rfl⟩
            · have d3 : decide (55296 ≤ (N : Int)) = false := decide_eq_false (by omega)
              go_wp2
              go_ret2
              exact ⟨ret_two (by rw [HF1.out (okRune_iff.2 (by omega))]; exact Prod.ext (by simp) (by simp)), rfl⟩
  · have HX := hide (first_short S1.out (by omega) (by rw [bytes_len]; exact hs))
    have hs2 : (s.size : Int) < 4 := by omega
    go_enter Tryz.func115, Tryz.ntmps115
    go_wp2
    go_ret2
    exact ⟨ret_two (by rw [HX.out]), rfl⟩
theorem first_any (s : ByteArray) (w : World) (h1 : 1 ≤ s.size) (hsz : s.size ≤ 1000) : Calls Tryz.prog 115 #[.string s] w fun e w' => e = .returned (.tuple #[.int .i64 (firstR (bytesOf s)).1, .int .i64 (firstR (bytesOf s)).2]) ∧ w' = w := by
  by_cases a1 : (s[0].toNat : Int) < 128
  · exact first_one s w h1 a1
  · by_cases a2 : (s[0].toNat : Int) < 192
    · exact first_zero s w h1 (by omega) (.inl a2)
    · by_cases a3 : (s[0].toNat : Int) < 224
      · exact first_two s w h1 hsz (by omega) a3
      · by_cases a4 : (s[0].toNat : Int) < 240
        · exact first_three s w h1 hsz (by omega) a4
        · by_cases a5 : (s[0].toNat : Int) < 248
          · exact first_four s w h1 hsz (by omega) a5
          · exact first_zero s w h1 (by omega) (.inr (by omega))
end Go.Proofs.YtpoibdhhcbelnaaGreatDoor
