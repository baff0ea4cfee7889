/-
  The cuts of a tag and of a signature.
-/
import Derived.Test.YtegkhhegapnkpaaDoorKRState
import Derived.Test.YtegkhhegapnkpaaDoorKWAppR
import Derived.Maps.AppendAt
import Derived.WideShapes
import Derived.Deep.CutRange
import Derived.Lib.SmallJoins
import Derived.Deep.RegionHeld3
section
open Go Go.RowKit
namespace WW
open BB
def zS : Nat → Value := fun _ => .string ⟨#[]⟩
end WW
namespace Go.Proofs.YtegkhhegapnkpaaDoor
open WW BB
end Go.Proofs.YtegkhhegapnkpaaDoor
end
section
open Go Go.RowKit
namespace WW
open BB
def zQ : Nat → Value := fun i => if i = 0 then .int .i64 0 else if i = 1 then .int .i64 0 else .string ⟨#[]⟩
end WW
namespace Go.Proofs.YtegkhhegapnkpaaDoor
open WW BB
end Go.Proofs.YtegkhhegapnkpaaDoor
end
section
open Go Go.RowKit
namespace Go.Proofs.YtegkhhegapnkpaaDoor
open WW BB
/-- a request, from cell o on -/
def reqR (o : Nat) : RelT (Int × Int × ByteArray) := fun d _ _ _ f f' => f' = put (put (put f o (.int .i64 d.1)) (o + 1) (.int .i64 d.2.1)) (o + 2) (.string d.2.2)
end Go.Proofs.YtegkhhegapnkpaaDoor
end
