/-
  DERIVED. GIVEN WITH THE SEED: THE CARDS: each row of YtpoibdhhcbelnaaGreatDoorRows.lean that lists a variable, with what it lists TIED to the program's text (the seventh form; the later family's looks); each row that meets fmt, with fmt's text TOLD by the authors' own Lean function (tested against real Go, not proved from fmt's source: count such statements apart). THE CARD IS WHAT COUNTS. Prove the row's statement (the work); the ties are given (YtpoibdhhcbelnaaGreatDoorTie.lean); close each card by the builder's one call (the guide's Derived/Test/ToyasCard.lean, 'card_holds'). Laid BY PROGRAM, IN A SANDBOX (cutbox-door.mjs). By AI agents, Wed Nov 11 2026. No macro, syntax, notation, axiom, sorry.
-/
import Derived.Test.YtpoibdhhcbelnaaGreatDoorRows
import GoSem.ClaimSeven
namespace Go.Proofs.YtpoibdhhcbelnaaGreatDoor
namespace Rows

/-- THE TIED CARD OF 'bramblelaw.Prints'. -/
def printsCard : Claim7 := { stood := { row := printsRow, standIns := [], harness := (true, "61afd2ccfc527c392a4c9d4fc7f9ea50139762ef201e7f3ce93a5facdf6a1362"), looks := true }, kinds := [], alts := [], laidByText := true, laidKinds := [.data, .data, .data, .data, .pinned, .pinned], laidTests := true, laidLooks := .later }
def PrintsCardSaid : Prop := Claim7.holds Tryz.pinned (.plain (OpenSpec.ofChange printsSpec)) printsCard

/-- THE TIED CARD OF 'bramblelaw.Matches'. -/
def matchesCard : Claim7 := { stood := { row := matchesRow, standIns := [], harness := (true, "61afd2ccfc527c392a4c9d4fc7f9ea50139762ef201e7f3ce93a5facdf6a1362"), looks := true }, kinds := [], alts := [], laidByText := true, laidKinds := [.data, .data, .pinned, .pinned], laidTests := true, laidLooks := .later }
def MatchesCardSaid : Prop := Claim7.holds Tryz.pinned (.plain (OpenSpec.ofChange matchesSpec)) matchesCard

/-- THE TIED CARD OF 'bramblelaw.Leasts'. -/
def leastsCard : Claim7 := { stood := { row := leastsRow, standIns := [], harness := (true, "61afd2ccfc527c392a4c9d4fc7f9ea50139762ef201e7f3ce93a5facdf6a1362"), looks := true }, kinds := [], alts := [], laidByText := true, laidKinds := [.data, .data, .data, .data, .pinned, .pinned], laidTests := true, laidLooks := .later }
def LeastsCardSaid : Prop := Claim7.holds Tryz.pinned (.plain (OpenSpec.ofChange leastsSpec)) leastsCard

/-- THE TIED CARD OF 'bramblelaw.Differs'. -/
def differsCard : Claim7 := { stood := { row := differsRow, standIns := [], harness := (true, "61afd2ccfc527c392a4c9d4fc7f9ea50139762ef201e7f3ce93a5facdf6a1362"), looks := true }, kinds := [], alts := [], laidByText := true, laidKinds := [.data, .data, .data, .data, .pinned, .pinned], laidTests := true, laidLooks := .later }
def DiffersCardSaid : Prop := Claim7.holds Tryz.pinned (.plain (OpenSpec.ofChange differsSpec)) differsCard

/-- THE TIED CARD OF 'bramblelaw.Grouped'. -/
def groupedCard : Claim7 := { stood := { row := groupedRow, standIns := [], harness := (true, "61afd2ccfc527c392a4c9d4fc7f9ea50139762ef201e7f3ce93a5facdf6a1362"), looks := true }, kinds := [], alts := [], laidByText := true, laidKinds := [.data, .data, .data, .data, .pinned, .pinned], laidTests := true, laidLooks := .later }
def GroupedCardSaid : Prop := Claim7.holds Tryz.pinned (.plain (OpenSpec.ofChange groupedSpec)) groupedCard

/-- THE TIED CARD OF 'bramblekeep.Reprinted'. -/
def reprintedCard : Claim7 := { stood := { row := reprintedRow, standIns := [], harness := (true, "61afd2ccfc527c392a4c9d4fc7f9ea50139762ef201e7f3ce93a5facdf6a1362"), looks := true }, kinds := [], alts := [], laidByText := true, laidKinds := [.data, .data, .data, .data, .pinned, .pinned], laidTests := true, laidLooks := .later }
def ReprintedCardSaid : Prop := Claim7.holds Tryz.pinned (.plain (OpenSpec.ofChange reprintedSpec)) reprintedCard

/-- THE TIED CARD OF 'bramblekeep.Logic'. -/
def logicCard : Claim7 := { stood := { row := logicRow, standIns := [], harness := (true, "61afd2ccfc527c392a4c9d4fc7f9ea50139762ef201e7f3ce93a5facdf6a1362"), looks := true }, kinds := [], alts := [], laidByText := true, laidKinds := [.data, .data, .data, .data, .pinned, .pinned], laidTests := true, laidLooks := .later }
def LogicCardSaid : Prop := Claim7.holds Tryz.pinned (.plain (OpenSpec.ofChange logicSpec)) logicCard

/-- THE TIED CARD OF 'bramblekeep.Shortest'. -/
def shortestCard : Claim7 := { stood := { row := shortestRow, standIns := [], harness := (true, "61afd2ccfc527c392a4c9d4fc7f9ea50139762ef201e7f3ce93a5facdf6a1362"), looks := true }, kinds := [], alts := [], laidByText := true, laidKinds := [.data, .data, .data, .data, .pinned, .pinned], laidTests := true, laidLooks := .later }
def ShortestCardSaid : Prop := Claim7.holds Tryz.pinned (.plain (OpenSpec.ofChange shortestSpec)) shortestCard

/-- THE TIED CARD OF 'bramblekeep.Told'. -/
def toldCard : Claim7 := { stood := { row := toldRow, standIns := [], harness := (true, "61afd2ccfc527c392a4c9d4fc7f9ea50139762ef201e7f3ce93a5facdf6a1362"), looks := true }, kinds := [], alts := [], laidByText := true, laidKinds := [.data, .data, .data, .data, .pinned, .pinned], laidTests := true, laidLooks := .later }
def ToldCardSaid : Prop := Claim7.holds Tryz.pinned (.plain (OpenSpec.ofChange toldSpec)) toldCard

/-- THE TIED CARD OF 'bramblekeep.Within'. -/
def withinCard : Claim7 := { stood := { row := withinRow, standIns := [], harness := (true, "61afd2ccfc527c392a4c9d4fc7f9ea50139762ef201e7f3ce93a5facdf6a1362"), looks := true }, kinds := [], alts := [], laidByText := true, laidKinds := [.data, .data, .data, .data, .pinned, .pinned], laidTests := true, laidLooks := .later }
def WithinCardSaid : Prop := Claim7.holds Tryz.pinned (.plain (OpenSpec.ofChange withinSpec)) withinCard

/-- THE SECOND FORM's CARD OF 'bramblelaw.Prints'. -/
def printsUptoCard : Claim7 := { stood := { row := printsUptoRow, standIns := [], harness := (true, "61afd2ccfc527c392a4c9d4fc7f9ea50139762ef201e7f3ce93a5facdf6a1362"), looks := true }, kinds := [], alts := [], laidByText := true, laidKinds := [.data, .data, .data, .data, .pinned, .pinned], laidTests := true, laidLooks := .later }
def PrintsUptoCardSaid : Prop := Claim7.holds Tryz.pinned (.plain (OpenSpec.upto printsSpec)) printsUptoCard

/-- THE SECOND FORM's CARD OF 'bramblelaw.Matches'. -/
def matchesUptoCard : Claim7 := { stood := { row := matchesUptoRow, standIns := [], harness := (true, "61afd2ccfc527c392a4c9d4fc7f9ea50139762ef201e7f3ce93a5facdf6a1362"), looks := true }, kinds := [], alts := [], laidByText := true, laidKinds := [.data, .data, .pinned, .pinned], laidTests := true, laidLooks := .later }
def MatchesUptoCardSaid : Prop := Claim7.holds Tryz.pinned (.plain (OpenSpec.upto matchesSpec)) matchesUptoCard

/-- THE SECOND FORM's CARD OF 'bramblelaw.Leasts'. -/
def leastsUptoCard : Claim7 := { stood := { row := leastsUptoRow, standIns := [], harness := (true, "61afd2ccfc527c392a4c9d4fc7f9ea50139762ef201e7f3ce93a5facdf6a1362"), looks := true }, kinds := [], alts := [], laidByText := true, laidKinds := [.data, .data, .data, .data, .pinned, .pinned], laidTests := true, laidLooks := .later }
def LeastsUptoCardSaid : Prop := Claim7.holds Tryz.pinned (.plain (OpenSpec.upto leastsSpec)) leastsUptoCard

/-- THE SECOND FORM's CARD OF 'bramblelaw.Differs'. -/
def differsUptoCard : Claim7 := { stood := { row := differsUptoRow, standIns := [], harness := (true, "61afd2ccfc527c392a4c9d4fc7f9ea50139762ef201e7f3ce93a5facdf6a1362"), looks := true }, kinds := [], alts := [], laidByText := true, laidKinds := [.data, .data, .data, .data, .pinned, .pinned], laidTests := true, laidLooks := .later }
def DiffersUptoCardSaid : Prop := Claim7.holds Tryz.pinned (.plain (OpenSpec.upto differsSpec)) differsUptoCard

/-- THE SECOND FORM's CARD OF 'bramblelaw.Grouped'. -/
def groupedUptoCard : Claim7 := { stood := { row := groupedUptoRow, standIns := [], harness := (true, "61afd2ccfc527c392a4c9d4fc7f9ea50139762ef201e7f3ce93a5facdf6a1362"), looks := true }, kinds := [], alts := [], laidByText := true, laidKinds := [.data, .data, .data, .data, .pinned, .pinned], laidTests := true, laidLooks := .later }
def GroupedUptoCardSaid : Prop := Claim7.holds Tryz.pinned (.plain (OpenSpec.upto groupedSpec)) groupedUptoCard

/-- THE SECOND FORM's CARD OF 'bramblekeep.Reprinted'. -/
def reprintedUptoCard : Claim7 := { stood := { row := reprintedUptoRow, standIns := [], harness := (true, "61afd2ccfc527c392a4c9d4fc7f9ea50139762ef201e7f3ce93a5facdf6a1362"), looks := true }, kinds := [], alts := [], laidByText := true, laidKinds := [.data, .data, .data, .data, .pinned, .pinned], laidTests := true, laidLooks := .later }
def ReprintedUptoCardSaid : Prop := Claim7.holds Tryz.pinned (.plain (OpenSpec.upto reprintedSpec)) reprintedUptoCard

/-- THE SECOND FORM's CARD OF 'bramblekeep.Logic'. -/
def logicUptoCard : Claim7 := { stood := { row := logicUptoRow, standIns := [], harness := (true, "61afd2ccfc527c392a4c9d4fc7f9ea50139762ef201e7f3ce93a5facdf6a1362"), looks := true }, kinds := [], alts := [], laidByText := true, laidKinds := [.data, .data, .data, .data, .pinned, .pinned], laidTests := true, laidLooks := .later }
def LogicUptoCardSaid : Prop := Claim7.holds Tryz.pinned (.plain (OpenSpec.upto logicSpec)) logicUptoCard

/-- THE SECOND FORM's CARD OF 'bramblekeep.Shortest'. -/
def shortestUptoCard : Claim7 := { stood := { row := shortestUptoRow, standIns := [], harness := (true, "61afd2ccfc527c392a4c9d4fc7f9ea50139762ef201e7f3ce93a5facdf6a1362"), looks := true }, kinds := [], alts := [], laidByText := true, laidKinds := [.data, .data, .data, .data, .pinned, .pinned], laidTests := true, laidLooks := .later }
def ShortestUptoCardSaid : Prop := Claim7.holds Tryz.pinned (.plain (OpenSpec.upto shortestSpec)) shortestUptoCard

/-- THE SECOND FORM's CARD OF 'bramblekeep.Told'. -/
def toldUptoCard : Claim7 := { stood := { row := toldUptoRow, standIns := [], harness := (true, "61afd2ccfc527c392a4c9d4fc7f9ea50139762ef201e7f3ce93a5facdf6a1362"), looks := true }, kinds := [], alts := [], laidByText := true, laidKinds := [.data, .data, .data, .data, .pinned, .pinned], laidTests := true, laidLooks := .later }
def ToldUptoCardSaid : Prop := Claim7.holds Tryz.pinned (.plain (OpenSpec.upto toldSpec)) toldUptoCard

/-- THE SECOND FORM's CARD OF 'bramblekeep.Within'. -/
def withinUptoCard : Claim7 := { stood := { row := withinUptoRow, standIns := [], harness := (true, "61afd2ccfc527c392a4c9d4fc7f9ea50139762ef201e7f3ce93a5facdf6a1362"), looks := true }, kinds := [], alts := [], laidByText := true, laidKinds := [.data, .data, .data, .data, .pinned, .pinned], laidTests := true, laidLooks := .later }
def WithinUptoCardSaid : Prop := Claim7.holds Tryz.pinned (.plain (OpenSpec.upto withinSpec)) withinUptoCard
end Rows
end Go.Proofs.YtpoibdhhcbelnaaGreatDoor
