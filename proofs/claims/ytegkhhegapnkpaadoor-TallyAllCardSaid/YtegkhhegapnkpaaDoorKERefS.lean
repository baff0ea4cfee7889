/-
  The walk of the reference's signature of a vote.
-/
import Derived.Test.YtegkhhegapnkpaaDoorKEText
import Derived.Test.YtegkhhegapnkpaaDoorKPlanE
import Derived.Test.YtegkhhegapnkpaaDoorKLNum
open Go Go.RowKit
namespace CC
open MM WW BB
/-- a node's tags of a text, for the first i nodes -/
def tagsTo (s : ByteArray) (f : Int) (t : ByteArray) (i : Nat) : List ByteArray := (List.range i).map fun (j : Nat) => tagB s f (j : Int) t
theorem tags_len (s : ByteArray) (f : Int) (t : ByteArray) (i : Nat) : (tagsTo s f t i).length = i := by unfold tagsTo; simp
theorem own_base {e : TypeId} {w : World} {B B' c : Nat} {v : Value} {n : Nat} {xs : List Value} (h : w.ownsRow B e c v n xs) (hB : B' ≤ B) : w.ownsRow B' e c v n xs := by
  refine ⟨h.1, ?_⟩
  rcases h.2 with h | ⟨g, cap, cur, h1, h2, h3⟩
  · exact Or.inl h
  · exact Or.inr ⟨g, cap, cur, h1, Nat.le_trans hB h2, h3⟩
end CC
namespace Go.Proofs.YtegkhhegapnkpaaDoor
open CC MM WW BB
end Go.Proofs.YtegkhhegapnkpaaDoor
