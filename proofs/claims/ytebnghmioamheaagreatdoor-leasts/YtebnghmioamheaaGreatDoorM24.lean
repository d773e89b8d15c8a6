import Derived.Shelf.Strings.OnBuilder
import Derived.Shelf.Strconv.Itoa3
import Derived.Test.YtebnghmioamheaaGreatDoorProg
set_option linter.all false
namespace Go.Proofs.YtebnghmioamheaaGreatDoor
open Go.Shelf Go.RowKit
def nT:Go.Shelf.Ren:=⟨fun|171=>106|243=>142|246=>174|283=>189|284=>190|285=>191|286=>192|129=>154|317=>207|318=>208|319=>209|320=>210|337=>224|338=>164|n=>n,fun|3=>3|9=>9|2=>2|4=>4|171=>248|0=>0|53=>183|37=>93|5=>5|173=>250|212=>264|51=>225|20=>20|213=>265|46=>182|232=>278|233=>244|n=>n,fun|17=>3|18=>4|19=>2|n=>n⟩
theorem FI:Go.Proofs.Lays.n171 Tryz.prog nT:=by constructor<;>(try intro)<;>kernel_rfl
