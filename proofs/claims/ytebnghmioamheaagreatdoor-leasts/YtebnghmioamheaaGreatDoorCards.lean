/-
  DERIVED. GIVEN WITH THE SEED: THE CARDS: each row of YtebnghmioamheaaGreatDoorRows.lean that lists a variable, with what it lists TIED to the program's text (the seventh form; the later family's looks); each row that meets fmt, with fmt's text TOLD by the authors' own Lean function (tested against real Go, not proved from fmt's source: count such statements apart). THE CARD IS WHAT COUNTS. Prove the row's statement (the work); the ties are given (YtebnghmioamheaaGreatDoorTie.lean); close each card by the builder's one call (the guide's Derived/Test/ToyasCard.lean, 'card_holds'). Laid BY PROGRAM, IN A SANDBOX (cutbox-door.mjs). By AI agents, Wed Nov 11 2026. No macro, syntax, notation, axiom, sorry.
-/
import Derived.Test.YtebnghmioamheaaGreatDoorRows
import GoSem.ClaimSeven
namespace Go.Proofs.YtebnghmioamheaaGreatDoor
namespace Rows

/-- THE TIED CARD OF 'bramblelaw.Leasts'. -/
def leastsCard : Claim7 := { stood := { row := leastsRow, standIns := [], harness := (true, "4702f6b0dc2831f7cf5032b9448d42eff096b50dcf787b65b33d617e173915b9"), looks := true }, kinds := [], alts := [], laidByText := true, laidKinds := [.data, .data, .data, .data, .pinned, .pinned], laidTests := true, laidLooks := .later }
def LeastsCardSaid : Prop := Claim7.holds Tryz.pinned (.plain (OpenSpec.ofChange leastsSpec)) leastsCard

/-- THE TIED CARD OF 'bramblelaw.Differs'. -/
def differsCard : Claim7 := { stood := { row := differsRow, standIns := [], harness := (true, "4702f6b0dc2831f7cf5032b9448d42eff096b50dcf787b65b33d617e173915b9"), looks := true }, kinds := [], alts := [], laidByText := true, laidKinds := [.data, .data, .data, .data, .pinned, .pinned], laidTests := true, laidLooks := .later }
def DiffersCardSaid : Prop := Claim7.holds Tryz.pinned (.plain (OpenSpec.ofChange differsSpec)) differsCard

/-- THE SECOND FORM's CARD OF 'bramblelaw.Leasts'. -/
def leastsUptoCard : Claim7 := { stood := { row := leastsUptoRow, standIns := [], harness := (true, "4702f6b0dc2831f7cf5032b9448d42eff096b50dcf787b65b33d617e173915b9"), looks := true }, kinds := [], alts := [], laidByText := true, laidKinds := [.data, .data, .data, .data, .pinned, .pinned], laidTests := true, laidLooks := .later }
def LeastsUptoCardSaid : Prop := Claim7.holds Tryz.pinned (.plain (OpenSpec.upto leastsSpec)) leastsUptoCard

/-- THE SECOND FORM's CARD OF 'bramblelaw.Differs'. -/
def differsUptoCard : Claim7 := { stood := { row := differsUptoRow, standIns := [], harness := (true, "4702f6b0dc2831f7cf5032b9448d42eff096b50dcf787b65b33d617e173915b9"), looks := true }, kinds := [], alts := [], laidByText := true, laidKinds := [.data, .data, .data, .data, .pinned, .pinned], laidTests := true, laidLooks := .later }
def DiffersUptoCardSaid : Prop := Claim7.holds Tryz.pinned (.plain (OpenSpec.upto differsSpec)) differsUptoCard
end Rows
end Go.Proofs.YtebnghmioamheaaGreatDoor
