/- What the calls of package sets do: walks. -/
import Derived.Test.YtaiidpcdeghipaaHas
import Derived.Test.YtaiidpcdeghipaaAnd
namespace Go.Proofs.Ytaiidpcdeghipaa
open Go.RowKit

theorem set_parts {l : List (Int × Int)} (h : Brm.setB l = true) : l.length ≤ 40 ∧ ∀ x ∈ l, Brm.okB x = true := by
  simp [Brm.setB] at h
  exact ⟨h.1, fun x hx => h.2 x.1 x.2 hx⟩

set_option maxHeartbeats 400000 in
theorem norm_no (ao : Option Addr) (l : List (Int × Int)) (cap : Nat) (w : World) (h : Rd w ao l) (hs : Brm.setB l = false) :
    Calls Try.prog 5 #[.slice ao l.length cap] w fun e w' => e = .returned (.tuple #[.slice none 0 0, .int .i64 1]) ∧ Below w.heap.size w w' := by
  have HI := hide (isSet_any ao l cap w h)
  clear h
  rw [hs] at HI
  go_enter Try.func5, Try.ntmps5
  go_wp2_with (go_at_call 13; refine HI.out.mono ?_; rintro e w1 ⟨rfl, hb⟩)
  go_ret2
  exact ⟨rfl, hb⟩

set_option maxHeartbeats 400000 in
theorem norm_yes (ao : Option Addr) (l : List (Int × Int)) (cap : Nat) (w : World) (h : Rd w ao l) (hs : Brm.setB l = true) :
    Calls Try.prog 5 #[.slice ao l.length cap] w fun e w' => ∃ v, e = .returned (.tuple #[v, .int .i64 0]) ∧ Hands w w' v fun out => Brm.IsForm l out ∧ out.length ≤ l.length := by
  have HI := hide (isSet_any ao l cap w h)
  have hp := set_parts hs
  have HF := hide (fun w1 hb => form_any ao l cap w1 (h.below hb) (by omega) hp.2)
  clear h hp
  rw [hs] at HI
  go_enter Try.func5, Try.ntmps5
  go_wp2_with (first | (go_at_call 13; refine HI.out.mono ?_; rintro e w1 ⟨rfl, hb⟩) | (go_at_call 14; refine (HF.out _ hb).mono ?_; rintro e w2 ⟨v, rfl, out, hok, hown, hb2⟩))
  go_ret2
  exact ⟨v, rfl, out, hok, own_le hown hb.size, hb.trans (hb2.mono hb.size)⟩

set_option maxHeartbeats 400000 in
theorem snot_no (ao : Option Addr) (l : List (Int × Int)) (cap : Nat) (w : World) (h : Rd w ao l) (hs : Brm.setB l = false) :
    Calls Try.prog 9 #[.slice ao l.length cap] w fun e w' => e = .returned (.tuple #[.slice none 0 0, .int .i64 1]) ∧ Below w.heap.size w w' := by
  have HI := hide (isSet_any ao l cap w h)
  clear h
  rw [hs] at HI
  go_enter Try.func9, Try.ntmps9
  go_wp2_with (go_at_call 13; refine HI.out.mono ?_; rintro e w1 ⟨rfl, hb⟩)
  go_ret2
  exact ⟨rfl, hb⟩

set_option maxHeartbeats 400000 in
theorem snot_yes (ao : Option Addr) (l : List (Int × Int)) (cap : Nat) (w : World) (h : Rd w ao l) (hs : Brm.setB l = true) :
    Calls Try.prog 9 #[.slice ao l.length cap] w fun e w' => ∃ v, e = .returned (.tuple #[v, .int .i64 0]) ∧ Hands w w' v fun out => Brm.Canon out ∧ (∀ r, Brm.runeB r = true → Brm.memB out r = !Brm.memB l r) ∧ out.length ≤ l.length + 1 := by
  have HI := hide (isSet_any ao l cap w h)
  have hp := set_parts hs
  have HF := hide (fun w1 hb => not_any form_any ao l cap w1 (h.below hb) (by omega) hp.2)
  clear h hp
  rw [hs] at HI
  go_enter Try.func9, Try.ntmps9
  go_wp2_with (first | (go_at_call 13; refine HI.out.mono ?_; rintro e w1 ⟨rfl, hb⟩) | (go_at_call 27; refine (HF.out _ hb).mono ?_; rintro e w2 ⟨v, rfl, out, hok, hown, hb2⟩))
  go_ret2
  exact ⟨v, rfl, out, hok, own_le hown hb.size, hb.trans (hb2.mono hb.size)⟩

set_option maxHeartbeats 400000 in
theorem shas_no (ao : Option Addr) (l : List (Int × Int)) (cap : Nat) (r : Int) (w : World) (h : Rd w ao l) (hs : Brm.setB l = false) :
    Calls Try.prog 12 #[.slice ao l.length cap, .int .i64 r] w fun e w' => e = .returned (.tuple #[.bool false, .int .i64 1]) ∧ Below w.heap.size w w' := by
  have HI := hide (isSet_any ao l cap w h)
  clear h
  rw [hs] at HI
  go_enter Try.func12, Try.ntmps12
  go_wp2_with (go_at_call 13; refine HI.out.mono ?_; rintro e w1 ⟨rfl, hb⟩)
  go_ret2
  exact ⟨rfl, hb⟩

set_option maxHeartbeats 400000 in
theorem shas_yes (ao : Option Addr) (l : List (Int × Int)) (cap : Nat) (r : Int) (w : World) (h : Rd w ao l) (hs : Brm.setB l = true) :
    Calls Try.prog 12 #[.slice ao l.length cap, .int .i64 r] w fun e w' => e = .returned (.tuple #[.bool (Brm.runeB r && Brm.memB l r), .int .i64 0]) ∧ Below w.heap.size w w' := by
  have HI := hide (isSet_any ao l cap w h)
  have hp := set_parts hs
  have HF := hide (fun w1 hb => has_any ao l cap r w1 (h.below hb) (by omega))
  clear h hp
  rw [hs] at HI
  generalize (Brm.runeB r && Brm.memB l r) = m at HF ⊢
  go_enter Try.func12, Try.ntmps12
  go_wp2_with (first | (go_at_call 13; refine HI.out.mono ?_; rintro e w1 ⟨rfl, hb⟩) | (go_at_call 28; refine (HF.out _ hb).mono ?_; rintro e w2 ⟨rfl, hb2⟩))
  go_ret2
  exact ⟨rfl, hb.trans (hb2.mono hb.size)⟩

/- Or and And: two sets. -/
set_option maxHeartbeats 400000 in
theorem sor_no (ao bo : Option Addr) (a b : List (Int × Int)) (ca cb : Nat) (w : World) (ha : Rd w ao a) (hb : Rd w bo b) (hs : (Brm.setB a && Brm.setB b) = false) :
    Calls Try.prog 7 #[.slice ao a.length ca, .slice bo b.length cb] w fun e w' => e = .returned (.tuple #[.slice none 0 0, .int .i64 1]) ∧ Below w.heap.size w w' := by
  have HI := hide (isSet_any ao a ca w ha)
  have HJ := hide (fun w1 h1 => isSet_any bo b cb w1 (hb.below h1))
  clear ha hb
  by_cases h1 : Brm.setB a = true
  · have h2 : Brm.setB b = false := by simpa [h1] using hs
    rw [h1] at HI
    rw [h2] at HJ
    clear hs
    go_enter Try.func7, Try.ntmps7
    go_wp2_with fail
    refine HI.out.mono ?_
    rintro e w1 ⟨rfl, hb1⟩
    go_wp2_with fail
    refine (HJ.out _ hb1).mono ?_
    rintro e w2 ⟨rfl, hb2⟩
    go_wp2
    go_ret2
    exact ⟨rfl, hb1.trans (hb2.mono hb1.size)⟩
  · have h2 : Brm.setB a = false := by simpa using h1
    rw [h2] at HI
    clear hs h1
    go_enter Try.func7, Try.ntmps7
    go_wp2_with fail
    refine HI.out.mono ?_
    rintro e w1 ⟨rfl, hb1⟩
    go_wp2
    go_ret2
    exact ⟨rfl, hb1⟩

set_option maxHeartbeats 400000 in
theorem sor_yes (ao bo : Option Addr) (a b : List (Int × Int)) (ca cb : Nat) (w : World) (ha : Rd w ao a) (hb : Rd w bo b) (h1 : Brm.setB a = true) (h2 : Brm.setB b = true) (na : ao = none → ca = 0) (nb : bo = none → cb = 0) :
    Calls Try.prog 7 #[.slice ao a.length ca, .slice bo b.length cb] w fun e w' => ∃ v, e = .returned (.tuple #[v, .int .i64 0]) ∧ Hands w w' v fun out => Brm.IsForm (a ++ b) out ∧ out.length ≤ a.length + b.length := by
  have HI := hide (isSet_any ao a ca w ha)
  have HJ := hide (fun w1 h1 => isSet_any bo b cb w1 (hb.below h1))
  have p1 := set_parts h1
  have p2 := set_parts h2
  have HF := hide (fun w1 h => ror_any ao bo a b ca cb w1 (ha.below h) (hb.below h) (by omega) (by omega) p1.2 p2.2 na nb)
  rw [h1] at HI
  rw [h2] at HJ
  clear ha hb p1 p2 na nb
  go_enter Try.func7, Try.ntmps7
  go_wp2_with fail
  refine HI.out.mono ?_
  rintro e w1 ⟨rfl, hb1⟩
  go_wp2_with fail
  refine (HJ.out _ hb1).mono ?_
  rintro e w2 ⟨rfl, hb2⟩
  go_wp2_with fail
  have hb3 := hb1.trans (hb2.mono hb1.size)
  refine (HF.out _ hb3).mono ?_
  rintro e w3 ⟨v, rfl, out, hok, hown, hb4⟩
  go_wp2
  go_ret2
  exact ⟨v, rfl, out, hok, own_le hown hb3.size, hb3.trans (hb4.mono hb3.size)⟩

set_option maxHeartbeats 400000 in
theorem sand_no (ao bo : Option Addr) (a b : List (Int × Int)) (ca cb : Nat) (w : World) (ha : Rd w ao a) (hb : Rd w bo b) (hs : (Brm.setB a && Brm.setB b) = false) :
    Calls Try.prog 8 #[.slice ao a.length ca, .slice bo b.length cb] w fun e w' => e = .returned (.tuple #[.slice none 0 0, .int .i64 1]) ∧ Below w.heap.size w w' := by
  have HI := hide (isSet_any ao a ca w ha)
  have HJ := hide (fun w1 h1 => isSet_any bo b cb w1 (hb.below h1))
  clear ha hb
  by_cases h1 : Brm.setB a = true
  · have h2 : Brm.setB b = false := by simpa [h1] using hs
    rw [h1] at HI
    rw [h2] at HJ
    clear hs
    go_enter Try.func8, Try.ntmps8
    go_wp2_with fail
    refine HI.out.mono ?_
    rintro e w1 ⟨rfl, hb1⟩
    go_wp2_with fail
    refine (HJ.out _ hb1).mono ?_
    rintro e w2 ⟨rfl, hb2⟩
    go_wp2
    go_ret2
    exact ⟨rfl, hb1.trans (hb2.mono hb1.size)⟩
  · have h2 : Brm.setB a = false := by simpa using h1
    rw [h2] at HI
    clear hs h1
    go_enter Try.func8, Try.ntmps8
    go_wp2_with fail
    refine HI.out.mono ?_
    rintro e w1 ⟨rfl, hb1⟩
    go_wp2
    go_ret2
    exact ⟨rfl, hb1⟩

set_option maxHeartbeats 400000 in
theorem sand_yes (ao bo : Option Addr) (a b : List (Int × Int)) (ca cb : Nat) (w : World) (ha : Rd w ao a) (hb : Rd w bo b) (h1 : Brm.setB a = true) (h2 : Brm.setB b = true) :
    Calls Try.prog 8 #[.slice ao a.length ca, .slice bo b.length cb] w fun e w' => ∃ v, e = .returned (.tuple #[v, .int .i64 0]) ∧ Hands w w' v fun out => Brm.Canon out ∧ (∀ r, Brm.runeB r = true → Brm.memB out r = (Brm.memB a r && Brm.memB b r)) ∧ out.length ≤ a.length + b.length := by
  have HI := hide (isSet_any ao a ca w ha)
  have HJ := hide (fun w1 h1 => isSet_any bo b cb w1 (hb.below h1))
  have p1 := set_parts h1
  have p2 := set_parts h2
  have HF := hide (fun w1 h => and_any form_any ao bo a b ca cb w1 (ha.below h) (hb.below h) (by omega) (by omega) p1.2 p2.2)
  rw [h1] at HI
  rw [h2] at HJ
  clear ha hb p1 p2
  go_enter Try.func8, Try.ntmps8
  go_wp2_with fail
  refine HI.out.mono ?_
  rintro e w1 ⟨rfl, hb1⟩
  go_wp2_with fail
  refine (HJ.out _ hb1).mono ?_
  rintro e w2 ⟨rfl, hb2⟩
  go_wp2_with fail
  have hb3 := hb1.trans (hb2.mono hb1.size)
  refine (HF.out _ hb3).mono ?_
  rintro e w3 ⟨v, rfl, out, hok, hown, hb4⟩
  go_wp2
  go_ret2
  exact ⟨v, rfl, out, hok, own_le hown hb3.size, hb3.trans (hb4.mono hb3.size)⟩
end Go.Proofs.Ytaiidpcdeghipaa
