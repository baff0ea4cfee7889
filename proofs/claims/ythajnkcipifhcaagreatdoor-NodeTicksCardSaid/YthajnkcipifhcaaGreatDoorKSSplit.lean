/-
  The walk of the reference's Split: the records of bytes.
-/
import Derived.Test.YthajnkcipifhcaaGreatDoorKZMath
import Derived.Test.YthajnkcipifhcaaGreatDoorKERefS
import Derived.Test.YthajnkcipifhcaaGreatDoorKPlanN
import Derived.Laws.AppendOwnNone
open Go Go.RowKit
namespace SS
open WW BB CC
end SS
namespace Go.Proofs.YthajnkcipifhcaaGreatDoor
open SS CC WW BB
theorem sinfo_str : (Tryz.prog.info? 9).map (fun i => (i.zero, i.size, i.bytes)) = some (some (.string ⟨#[]⟩), 1, 16) := by kernel_rfl
end Go.Proofs.YthajnkcipifhcaaGreatDoor
