/-
  The walks of what tells whether two certificates are the same.
-/
import Derived.Test.YtegkhhegapnkpaaDoorKLOpen
import Derived.BigQuiet
import Derived.WalkSmall
import Derived.Test.YtegkhhegapnkpaaDoorKJBox
section
open Go Go.RowKit
namespace WW
open BB
theorem row_keep {w w' : World} {e : TypeId} {lo k m : Nat} {sv : Value} {xs : List Value} (h : w.ownsRow lo e k sv m xs) (hk : ∀ c, sv.ownBlock = some c → w'.heap[c]? = w.heap[c]?) : w'.ownsRow lo e k sv m xs := by
  obtain ⟨h1, h2 | ⟨g, cap, cur, hv, hb, hc, rest⟩⟩ := h
  · exact ⟨h1, Or.inl h2⟩
  · subst hv
    exact ⟨h1, Or.inr ⟨g, cap, cur, rfl, hb, (hk g rfl).trans hc, rest⟩⟩
end WW
namespace Go.Proofs.YtegkhhegapnkpaaDoor
open WW BB
end Go.Proofs.YtegkhhegapnkpaaDoor
end
section
open Go Go.RowKit
namespace CC
open WW BB
theorem ba_toList {a b : ByteArray} (h : a.toList = b.toList) : a = b := by
  rw [ByteArray.toList_eq, ByteArray.toList_eq] at h
  cases a; cases b; congr 1; exact Array.toList_inj.1 h
theorem list_ne_at {α : Type} {l m : List α} {d : α} {i : Nat} (h : l.getD i d ≠ m.getD i d) : l ≠ m := by rintro rfl; exact h rfl
theorem list_eq_at {α : Type} {l m : List α} {d : α} (hl : l.length = m.length) (h : ∀ i, i < l.length → l.getD i d = m.getD i d) : l = m := by
  apply List.ext_getElem hl
  intro i h1 h2
  have := h i h1
  simpa [List.getD, List.getElem?_eq_getElem h1, List.getElem?_eq_getElem h2] using this
end CC
namespace Go.Proofs.YtegkhhegapnkpaaDoor
open CC WW BB
end Go.Proofs.YtegkhhegapnkpaaDoor
end
