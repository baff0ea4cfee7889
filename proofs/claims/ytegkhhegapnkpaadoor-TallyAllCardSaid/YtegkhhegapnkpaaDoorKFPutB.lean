/-
  The walk of the reference's Put.
-/
import Derived.Test.YtegkhhegapnkpaaDoorKFAdopt
import Derived.Test.YtegkhhegapnkpaaDoorKGMath
import Derived.Deep.RegionHeld3
import Derived.Deep.CutRange
import Derived.Test.YtegkhhegapnkpaaDoorKEHolds
import Derived.Test.YtegkhhegapnkpaaDoorKPlanG
open Go Go.RowKit
namespace FF
open WW BB
/-- the call's three boxes: the forest, the block, the result -/
structure PqS (w : World) (g : Nat) (f1 f2 f3 : Nat → Value) (w' : World) : Prop where
  below : Below w.heap.size w w'
  lo : w.heap.size = g
  a : Blk w' g 4 f1
  b : Blk w' (g + 1) 6 f2
  c : Blk w' (g + 1 + 1) 4 f3
theorem PqS.on {w : World} {g : Nat} {f1 f2 f3 : Nat → Value} {w1 w2 : World} (h : PqS w g f1 f2 f3 w1) (hb : Below w1.heap.size w1 w2) : PqS w g f1 f2 f3 w2 :=
  ⟨h.below.trans (hb.mono h.below.size), h.lo, h.a.below hb h.a.lt, h.b.below hb h.b.lt, h.c.below hb h.c.lt⟩
end FF
namespace Go.Proofs.YtegkhhegapnkpaaDoor
open FF JJ CC WW BB
end Go.Proofs.YtegkhhegapnkpaaDoor
