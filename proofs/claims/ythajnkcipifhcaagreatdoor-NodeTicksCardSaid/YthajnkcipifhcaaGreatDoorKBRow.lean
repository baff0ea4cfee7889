/-
  A slice of bytes of the call's own, as []byte(s) and append leave it.
-/
import Derived.Test.YthajnkcipifhcaaGreatDoorKCallsW
import Derived.ArgAppend
import Derived.Laws.IdiomStrings
open Go Go.RowKit
namespace BB
/-- v is a slice over the bytes A, in a block of its own from base on -/
def BRow (e : TypeId) (w : World) (base : Nat) (v : Value) (A : List UInt8) : Prop :=
  ∃ g cap cur fr, v = .slice (some ⟨g, 0, none⟩) A.length cap ∧ base ≤ g ∧ w.heap[g]? = some (.cells cur e fr) ∧ cur.size = cap ∧ A.length ≤ cap ∧ (fr = (0, 0) ∨ cap ≤ fr.1) ∧
    ∀ j, j < A.length → cur[j]? = some (.int .u8 (sb A j : Int))
section
variable {e : TypeId} {w w' : World} {base B : Nat} {v : Value} {A : List UInt8}
theorem BRow.below (h : BRow e w base v A) (hb : Below B w w') (hB : w.heap.size ≤ B) : BRow e w' base v A := by
  obtain ⟨g, cap, cur, fr, rfl, hg, hh, r⟩ := h
  have hlt : g < w.heap.size := by
    rcases Nat.lt_or_ge g w.heap.size with h | h
    · exact h
    · rw [Array.getElem?_eq_none h] at hh; cases hh
  exact ⟨g, cap, cur, fr, rfl, hg, (hb.block g (by omega)).trans hh, r⟩
section
variable {P : Program} {ops : Array Oper} {Q : Exit → Act → World → Prop} {a : Act} {rest : List Oper} {o : Oper}
end
end
end BB
