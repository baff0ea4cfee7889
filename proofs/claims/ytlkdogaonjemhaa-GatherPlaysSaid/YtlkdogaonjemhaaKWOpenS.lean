/-
  What comes in, opened: lists of tags, and signatures.
-/
import Derived.Test.YtlkdogaonjemhaaRows
import Derived.Test.YtlkdogaonjemhaaKSlHi
import Derived.Test.YtlkdogaonjemhaaChecked
import Derived.SliceStrings
import Derived.Lib.SmallJoins
import Derived.Deep.Slices
import Derived.Deep.Strs
open Go Go.RowKit
namespace Go.Proofs.Ytlkdogaonjemhaa
open WW BB Go.WideShapes Go.ChangeShapes Go.Deep
section
variable {H : Type} {enc : TypeId × Value → H} {W : World}
abbrev TrodW (enc : TypeId × Value → H) (W : World) (fuel : Nat) (t : TypeId) (cs : List Value) (x : DataW H × List MemPlace) : Prop := DataW.trod enc Try.prog W 0 (fun _ => true) true fuel t cs = some x
theorem len_max {n : Nat} (h : n ≤ maxLen) : n ≤ 9223372036854775807 := h
theorem cells_str : Try.prog.cellsOf 9 = 1 := by kernel_rfl
end
end Go.Proofs.Ytlkdogaonjemhaa
