/- Walks and plain laws, some texts in one. -/
import Derived.BigRegion
import Derived.Test.YtlflfcjbpnnfcaaGreatDoorM29
import Derived.Test.YtlflfcjbpnnfcaaGreatDoorM40
/- The program lives: a pattern of every kind matches one text and not another: a walk. -/
namespace Go.Proofs.YtlflfcjbpnnfcaaGreatDoor
open Go.Shelf Go.RowKit Go.Lib Brm

def livesIn : List UInt8 := [126, 40, 46, 42, 97, 97, 46, 42, 41, 38, 97, 46, 42, 98]
def livesPat : Pat := match orN false 15 (livesIn.map fun x => (x.toNat : Int)) with | .ok p _ => p | .bad _ => .row []
def dotS : Pat := .many (.set dot) 0 (-1)
def chr (c : Int) : Pat := .set [(c, c)]
theorem chr_one (c : Int) : (chr c).Mt [c] := ⟨c, rfl, by simp [memB, inB]⟩
theorem chr_is {c : Int} {t : List Int} (h : (chr c).Mt t) : t = [c] := by
  obtain ⟨d, rfl, hd⟩ := h
  simp [memB, inB] at hd
  rw [show d = c by omega]
end Go.Proofs.YtlflfcjbpnnfcaaGreatDoor
/- Both sides read a pattern: a walk. -/
namespace Go.Proofs.YtlflfcjbpnnfcaaGreatDoor
open Go.Shelf Go.RowKit Go.Lib Brm

abbrev Z6 : List Value := [.int .i64 0, .slice none 0 0, .slice none 0 0, .int .i64 0, .int .i64 0, .int .i64 0]
/-- What both sides come to: the same fault, or the same pattern. -/
def MadeQ (w : World) (e : Ending) (w' : World) : Prop := Below w.heap.size w w' ∧ ∃ (nv : Value) (k : Int) (so : Option Addr) (sn sc : Nat) (lo : Option Addr) (ln lc : Nat) (mm nn rr gr : Int) (op : Option Pat), e = .returned (.tuple #[nv, .agg #[.int .i64 k, .slice so sn sc, .slice lo ln lc, .int .i64 mm, .int .i64 nn, .int .i64 rr], .int .i64 gr, .bool true]) ∧
  match op with | some p => p.Ok ∧ p.wr.length ≤ 4000 ∧ (∃ bx A, nv = Ptr bx ∧ RX w' A p bx) ∧ NV w' (fun _ => True) p (Six k so sn sc lo ln lc mm nn rr) 0 ∧ gr = (p.groups : Int) | none => nv = .pointer none
end Go.Proofs.YtlflfcjbpnnfcaaGreatDoor
