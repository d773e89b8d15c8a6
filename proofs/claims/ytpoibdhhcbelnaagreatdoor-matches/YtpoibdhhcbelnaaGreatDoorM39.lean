/- The program's Print, and the law Prints: walks. -/
import Derived.Test.YtpoibdhhcbelnaaGreatDoorM33
import Derived.Test.YtpoibdhhcbelnaaGreatDoorM31
import Derived.Test.YtpoibdhhcbelnaaGreatDoorM34
namespace Go.Proofs.YtpoibdhhcbelnaaGreatDoor
open Go.RowKit Brm

set_option maxRecDepth 100000 in
set_option maxHeartbeats 1000000 in
theorem print_prog (s : ByteArray) (w : World) (hT : Tabs w) (hm : s.size ≤ 9223372036854775807) : Calls Tryz.prog 13 #[.string s] w fun e w' => ∃ t er place, e = .returned (.tuple #[.string t, .int .i64 er, .int .i64 place]) ∧ PrintR (bytesOf s) (bytesOf t) er place ∧ Below w.heap.size w w' := by
  have HR := hide (pread_any s w hT hm)
  clear hT hm
  go_enter Tryz.func13, Tryz.ntmps13
  go_wp2_with fail
  refine HR.out.mono ?_
  rintro e w1 ⟨hb1, nv, er, place, op, hr, rfl, hop⟩
  have HB1 := hide hb1
  have HRR := hide hr
  clear hb1
  cases op with
  | none =>
    have hne : (er == 0) = false := beq_eq_false_iff_ne.2 (readR_none hr)
    have hop2 : nv = .pointer none := hop
    subst hop2
    clear hr hop
    go_wp2
    refine bodyPost_ret (v := .tuple #[.string ⟨#[]⟩, .int .i64 er, .int .i64 place]) (by simp [results, Tryz.results13, go_sem]) rfl ?_
    exact ⟨_, _, _, rfl, ⟨none, HRR.out, rfl⟩, HB1.out⟩
  | some p =>
    obtain ⟨rfl, rfl, hok, hlen⟩ := readR_some hr
    obtain ⟨x, rfl, hp⟩ := hop
    have HC := hide (write_all p _ x w1 hp (by omega) hok)
    clear hr hp hok hlen
    go_wp2_with fail
    refine HC.out.mono ?_
    rintro e w2 ⟨t, rfl, ht, hb2⟩
    have HT := hide ht
    have HB2 := hide hb2
    clear ht hb2
    go_wp2
    refine bodyPost_ret (v := .tuple #[.string t, .int .i64 0, .int .i64 0]) (by simp [results, Tryz.results13, go_sem]) rfl ?_
    exact ⟨t, 0, 0, rfl, ⟨some p, HRR.out, HT.out⟩, HB1.out.trans (HB2.out.mono HB1.out.size)⟩
/-- Letters below 128 are their own runes. -/
theorem ascii_runes : ∀ (bs : List UInt8), (∀ x ∈ bs, x.toNat < 128) → Runes bs (bs.map fun x => (x.toNat : Int))
  | [], _ => .nil
  | b :: bs, h => by
    have hb : b.toNat < 128 := h b (by simp)
    have hd : decL (b :: bs) = (b.toNat, 1) := decL_low (bs := b :: bs) hb
    refine .cons (by simp) hd ?_ ?_
    · intro e; simp [noRune] at e; omega
    · simpa using ascii_runes bs (fun x hx => h x (by simp [hx]))
def exampleIn : List UInt8 := [97, 123, 48, 44, 49, 125, 91, 98, 45, 98, 120, 93, 124, 92, 100, 123, 50, 44, 50, 125]
def exampleOut : List UInt8 := [97, 63, 91, 98, 120, 93, 124, 91, 48, 45, 57, 93, 123, 50, 125]
def examplePat : Pat := match orN false 21 (exampleIn.map fun x => (x.toNat : Int)) with | .ok p _ => p | .bad _ => .row []
theorem example_print : PrintR exampleIn exampleOut 0 0 :=
  ⟨some examplePat, .inr (.inr ⟨by decide, _, ascii_runes exampleIn (by decide), by kernel_rfl⟩), by kernel_rfl⟩
set_option maxRecDepth 100000 in
set_option maxHeartbeats 1000000 in
theorem prints_walk (s : ByteArray) (w : World) (hT : Tabs w) (hm : s.size ≤ 9223372036854775807) : Calls Tryz.prog 3 #[.string s] w fun e w' => e = .returned (.bool true) ∧ Below w.heap.size w w' := by
  have HT := hide hT
  have HM := hide hm
  have HEX := hide example_print
  clear hT hm
  go_enter Tryz.func3, Tryz.ntmps3
  go_wp2_with fail
  refine (print_prog _ w HT.out (by decide)).mono ?_
  rintro e w1 ⟨t1, er1, pl1, rfl, hp1, hb1⟩
  obtain ⟨u1, u2, u3⟩ := printR_unique HEX.out hp1
  have ht1 : t1 = ⟨exampleOut.toArray⟩ := bytes_ext (by rw [u1]; rfl)
  subst ht1 u2 u3
  have HB1 := hide hb1
  clear hp1 hb1 u1
  go_wp2_with fail
  refine (print_prog s w1 (HT.out.below HB1.out) HM.out).mono ?_
  rintro e w2 ⟨t2, er2, pl2, rfl, hp2, hb2⟩
  have HP2 := hide hp2
  have HB2 := hide (HB1.out.trans (hb2.mono HB1.out.size))
  clear hp2 hb2
  go_wp2_with fail
  refine (print_ref s w2 HM.out).mono ?_
  rintro e w3 ⟨t3, er3, pl3, rfl, hp3, hb3⟩
  obtain ⟨v1, v2, v3⟩ := printR_unique HP2.out hp3
  have ht3 : t3 = t2 := bytes_ext v1
  subst ht3 v2 v3
  have HB3 := hide (HB2.out.trans (hb3.mono HB2.out.size))
  clear hp3 hb3 v1 HP2
  go_wp2
  go_ret
  exact ⟨rfl, HB3.out⟩
end Go.Proofs.YtpoibdhhcbelnaaGreatDoor
