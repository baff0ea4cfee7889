/-
  The walk of the closure that cuts a list off: how many there are, and each of them.
-/
import Derived.Test.YtegkhhegapnkpaaDoorKWCutR
import Derived.Test.YtegkhhegapnkpaaDoorKWAppR
import Derived.Maps.AppendAt
import Derived.WideShapes
import Derived.Deep.CutRange
import Derived.Lib.SmallJoins
open Go Go.RowKit
namespace WW
open BB
def zS : Nat → Value := fun _ => .string ⟨#[]⟩
end WW
namespace Go.Proofs.YtegkhhegapnkpaaDoor
open WW BB
end Go.Proofs.YtegkhhegapnkpaaDoor
