/-
  The walk of the reference's signature of a vote.
-/
import Derived.Test.YthajnkcipifhcaaGreatDoorKEText
import Derived.Test.YthajnkcipifhcaaGreatDoorKPlanN
import Derived.Test.YthajnkcipifhcaaGreatDoorKLNum
open Go Go.RowKit
namespace CC
open MM WW BB
theorem own_base {e : TypeId} {w : World} {B B' c : Nat} {v : Value} {n : Nat} {xs : List Value} (h : w.ownsRow B e c v n xs) (hB : B' ≤ B) : w.ownsRow B' e c v n xs := by
  refine ⟨h.1, ?_⟩
  rcases h.2 with h | ⟨g, cap, cur, h1, h2, h3⟩
  · exact Or.inl h
  · exact Or.inr ⟨g, cap, cur, h1, Nat.le_trans hB h2, h3⟩
end CC
namespace Go.Proofs.YthajnkcipifhcaaGreatDoor
open CC MM WW BB
end Go.Proofs.YthajnkcipifhcaaGreatDoor
