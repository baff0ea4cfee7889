/-
  The walk of the law WireApart.
-/
import Derived.Test.YtegkhhegapnkpaaDoorKRState
import Derived.Test.YtegkhhegapnkpaaDoorKWords
import Derived.OrdersHeld
import Derived.Test.YtegkhhegapnkpaaDoorKPlanE
import Derived.Test.YtegkhhegapnkpaaDoorKJBox
import Derived.Deep.CutRange
import Derived.Deep.QuietTactic
import Derived.BigQuiet
open Go Go.RowKit
namespace WW
open BB
/-- a block's cells -/
abbrev bc (v p cv : Int) (k : ByteArray) (sv rv : Value) : List Value := [.int .i64 v, .int .i64 p, .int .i64 cv, .string k, sv, rv]
/-- two blocks in boxes -/
structure Two2 (w : World) (g : Nat) (A B : List Value) (wr : World) : Prop where
  a : BoxAt w g A wr
  b : BoxAt w (g + 1) B wr
theorem Two2.on {w w1 w2 : World} {g : Nat} {A B : List Value} (h : Two2 w g A B w1) (hb : Below w1.heap.size w1 w2) : Two2 w g A B w2 := ⟨h.a.on hb, h.b.on hb⟩
end WW
namespace Go.Proofs.YtegkhhegapnkpaaDoor
open WW BB
end Go.Proofs.YtegkhhegapnkpaaDoor
