/- The program's Print, and the law Prints: walks. -/
import Derived.Test.YtpoibdhhcbelnaaGreatDoorM33
import Derived.Test.YtpoibdhhcbelnaaGreatDoorM31
import Derived.Test.YtpoibdhhcbelnaaGreatDoorM34
namespace Go.Proofs.YtpoibdhhcbelnaaGreatDoor
open Go.RowKit Brm

set_option maxRecDepth 100000 in
set_option maxHeartbeats 1000000 in
theorem print_prog (s : ByteArray) (w : World) (hT : Tabs w) (hm : s.size ≤ 9223372036854775807) : Calls Tryz.prog 13 #[.string s] w fun e w' => ∃ t er place, e = .returned (.tuple #[.string t, .int .i64 er, .int .i64 place]) ∧ PrintR (bytesOf s) (bytesOf t) er place ∧ Below w.heap.size w w' := by
  have HR := hide (pread_any s w hT hm)
  clear hT hm
  go_enter Tryz.func13, Tryz.ntmps13
  go_wp2_with fail
  refine HR.out.mono ?_
  rintro e w1 ⟨hb1, nv, er, place, op, hr, rfl, hop⟩
  have HB1 := hide hb1
  have HRR := hide hr
  clear hb1
  cases op with
  | none =>
    have hne : (er == 0) = false := beq_eq_false_iff_ne.2 (readR_none hr)
    have hop2 : nv = .pointer none := hop
    subst hop2
    clear hr hop
    go_wp2
    refine bodyPost_ret (v := .tuple #[.string ⟨#[]⟩, .int .i64 er, .int .i64 place]) (by simp [results, Tryz.results13, go_sem]) rfl ?_
    exact ⟨_, _, _, rfl, ⟨none, HRR.out, rfl⟩, HB1.out⟩
  | some p =>
    obtain ⟨rfl, rfl, hok, hlen⟩ := readR_some hr
    obtain ⟨x, rfl, hp⟩ := hop
    have HC := hide (write_all p _ x w1 hp (by omega) hok)
    clear hr hp hok hlen
    go_wp2_with fail
    refine HC.out.mono ?_
    rintro e w2 ⟨t, rfl, ht, hb2⟩
    have HT := hide ht
    have HB2 := hide hb2
    clear ht hb2
    go_wp2
    refine bodyPost_ret (v := .tuple #[.string t, .int .i64 0, .int .i64 0]) (by simp [results, Tryz.results13, go_sem]) rfl ?_
    exact ⟨t, 0, 0, rfl, ⟨some p, HRR.out, HT.out⟩, HB1.out.trans (HB2.out.mono HB1.out.size)⟩
/-- Letters below 128 are their own runes. -/
theorem ascii_runes : ∀ (bs : List UInt8), (∀ x ∈ bs, x.toNat < 128) → Runes bs (bs.map fun x => (x.toNat : Int))
  | [], _ => .nil
  | b :: bs, h => by
    have hb : b.toNat < 128 := h b (by simp)
    have hd : decL (b :: bs) = (b.toNat, 1) := decL_low (bs := b :: bs) hb
    refine .cons (by simp) hd ?_ ?_
    · intro e; simp [noRune] at e; omega
    · simpa using ascii_runes bs (fun x hx => h x (by simp [hx]))
def exampleIn : List UInt8 := [97, 123, 48, 44, 49, 125, 91, 98, 45, 98, 120, 93, 124, 92, 100, 123, 50, 44, 50, 125]
def exampleOut : List UInt8 := [97, 63, 91, 98, 120, 93, 124, 91, 48, 45, 57, 93, 123, 50, 125]
def examplePat : Pat := match orN false 21 (exampleIn.map fun x => (x.toNat : Int)) with | .ok p _ => p | .bad _ => .row []
end Go.Proofs.YtpoibdhhcbelnaaGreatDoor
