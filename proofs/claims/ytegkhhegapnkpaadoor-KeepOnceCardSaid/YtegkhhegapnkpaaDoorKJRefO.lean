/-
  The walk of the reference's Once.
-/
import Derived.Test.YtegkhhegapnkpaaDoorKJRefT
import Derived.Test.YtegkhhegapnkpaaDoorKJUnlike
import Derived.Test.YtegkhhegapnkpaaDoorKJRow
import Derived.Test.YtegkhhegapnkpaaDoorKPlanG
import Derived.Test.YtegkhhegapnkpaaDoorKPlanE
open Go Go.RowKit
namespace JJ
open BB WW
theorem cellsR_one (l : List Rq) : ∀ u ∈ cellsR l, u.oneCell' = true := by
  intro u hu
  unfold cellsR at hu
  rw [List.mem_flatten] at hu
  obtain ⟨c, hc, hu⟩ := hu
  obtain ⟨x, _, rfl⟩ := List.mem_map.1 hc
  simp only [List.mem_cons, List.not_mem_nil, or_false] at hu
  rcases hu with rfl | rfl | rfl <;> rfl
end JJ
namespace Go.Proofs.YtegkhhegapnkpaaDoor
open JJ WW BB
end Go.Proofs.YtegkhhegapnkpaaDoor
