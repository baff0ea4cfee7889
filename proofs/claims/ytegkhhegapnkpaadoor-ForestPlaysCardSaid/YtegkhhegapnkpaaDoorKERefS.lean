/-
  The walk of the reference's signature of a vote.
-/
import Derived.Test.YtegkhhegapnkpaaDoorKEText
import Derived.Test.YtegkhhegapnkpaaDoorKPlanE
import Derived.Test.YtegkhhegapnkpaaDoorKEEq
open Go Go.RowKit
namespace CC
open MM WW BB
/-- strings of the call's own -/
theorem strs_own {e : TypeId} {w : World} {base : Nat} {v : Value} {l : List ByteArray} (h : w.ownsRow base e 1 v l.length (l.map Value.string)) : StrsAt w v l := by
  rcases h.2 with ⟨rfl, h0⟩ | ⟨g, cap, cur, rfl, hg, hh, hn, hcm, hsz, htk⟩
  · exact ⟨none, 0, by rw [h0], Or.inl (List.eq_nil_of_length_eq_zero h0)⟩
  · refine ⟨_, cap, rfl, Or.inr ⟨g, 0, rfl, (Array.getElem?_eq_some_iff.1 hh).1, fun i hi => ?_⟩⟩
    have e1 : (l.map Value.string)[i]? = some (.string (l.getD i ⟨#[]⟩)) := by simp [List.getD, List.getElem?_eq_getElem hi]
    rw [← htk, List.getElem?_take_of_lt (by omega), Array.getElem?_toList] at e1
    unfold World.cell?; rw [hh]; simpa using e1
end CC
namespace Go.Proofs.YtegkhhegapnkpaaDoor
open CC MM WW BB
end Go.Proofs.YtegkhhegapnkpaaDoor
