/-
  The walks of the reference's requests, Block and Core; of wire.Core.
-/
import Derived.Test.YthajnkcipifhcaaGreatDoorKRState
import Derived.Deep.RegionHeld3
import Derived.Deep.CutRange
section
open Go Go.RowKit
namespace WW
open BB
theorem app_nil (a : ByteArray) : a ++ catB [] = a := ba_ext (by rw [ByteArray.data_append, Array.toList_append]; simp [catB, flat])
end WW
namespace Go.Proofs.YthajnkcipifhcaaGreatDoor
open WW BB
end Go.Proofs.YthajnkcipifhcaaGreatDoor
end
section
open Go Go.RowKit
namespace WW
open BB
/-- a block's core -/
def coreB (v p cv : Int) (k : ByteArray) (m : List (Int × Int × ByteArray)) : ByteArray := num v ++ num p ++ num cv ++ k ++ listB (reqsB m)
end WW
namespace Go.Proofs.YthajnkcipifhcaaGreatDoor
open WW BB
end Go.Proofs.YthajnkcipifhcaaGreatDoor
end
