/-
  The walks of the reference's requests, Block and Core; of wire.Core.
-/
import Derived.Test.YtbakceglaadfpaaDoorKWCutR
import Derived.Deep.RegionHeld3
import Derived.Deep.CutRange
open Go Go.RowKit
namespace WW
open BB
theorem box6_on {w w1 w2 : World} {g : Nat} {v0 v1 v2 v3 v4 v5 : Value} (h : w1.cell? ⟨g, 0, none⟩ = some v0 ∧ w1.cell? ⟨g, 1, none⟩ = some v1 ∧ w1.cell? ⟨g, 2, none⟩ = some v2 ∧ w1.cell? ⟨g, 3, none⟩ = some v3 ∧ w1.cell? ⟨g, 4, none⟩ = some v4 ∧ w1.cell? ⟨g, 5, none⟩ = some v5 ∧ BoxAt w g [v0, v1, v2, v3, v4, v5] w1) (hb : Below w1.heap.size w1 w2) :
    w2.cell? ⟨g, 0, none⟩ = some v0 ∧ w2.cell? ⟨g, 1, none⟩ = some v1 ∧ w2.cell? ⟨g, 2, none⟩ = some v2 ∧ w2.cell? ⟨g, 3, none⟩ = some v3 ∧ w2.cell? ⟨g, 4, none⟩ = some v4 ∧ w2.cell? ⟨g, 5, none⟩ = some v5 ∧ BoxAt w g [v0, v1, v2, v3, v4, v5] w2 :=
  have k := h.2.2.2.2.2.2.on hb
  ⟨k.cell 0 _ rfl, k.cell 1 _ rfl, k.cell 2 _ rfl, k.cell 3 _ rfl, k.cell 4 _ rfl, k.cell 5 _ rfl, k⟩
/-- a block's core -/
def coreB (v p cv : Int) (k : ByteArray) (m : List (Int × Int × ByteArray)) : ByteArray := num v ++ num p ++ num cv ++ k ++ listB (reqsB m)
end WW
namespace Go.Proofs.YtbakceglaadfpaaDoor
open WW BB
end Go.Proofs.YtbakceglaadfpaaDoor
