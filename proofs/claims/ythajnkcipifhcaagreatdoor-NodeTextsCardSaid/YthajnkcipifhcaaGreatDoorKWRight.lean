/-
  The walks of the reference's RightSig, RightCert and RightBlock.
-/
import Derived.Test.YthajnkcipifhcaaGreatDoorKWFewB
import Derived.Test.YthajnkcipifhcaaGreatDoorKZMath
open Go Go.RowKit
namespace WW
open BB
/-- a right signature -/
def rightSig (f : Int) (ts : List ByteArray) : Bool := (ts.take 10).all (fun t => decide (t.size = 16)) && (decide (0 ≤ f) && decide (f < 7) && decide (ts.length ≤ 7))
end WW
namespace Go.Proofs.YthajnkcipifhcaaGreatDoor
open WW BB
end Go.Proofs.YthajnkcipifhcaaGreatDoor
