/-
  The walk of the reference's Twice.
-/
import Derived.Test.YthajnkcipifhcaaGreatDoorKCallsW
import Derived.Test.YthajnkcipifhcaaGreatDoorKWFew
import Derived.Test.YthajnkcipifhcaaGreatDoorKLNum
open Go Go.RowKit
namespace JJ
open BB WW
theorem reqs_at {w wr : World} {l : List Rq} (hb : Below w.heap.size w wr) {b off : Nat} (hbw : b < w.heap.size) (hc : ∀ i, i < l.length → w.cell? ⟨b, off + i * 3, none⟩ = some (.int .i64 (l.getD i (0, 0, ⟨#[]⟩)).1) ∧ w.cell? ⟨b, off + i * 3 + 1, none⟩ = some (.int .i64 (l.getD i (0, 0, ⟨#[]⟩)).2.1) ∧ w.cell? ⟨b, off + i * 3 + 2, none⟩ = some (.string (l.getD i (0, 0, ⟨#[]⟩)).2.2)) (i : Nat) (hi : i < l.length) :
    wr.cell? ⟨b, off + i * 3, none⟩ = some (.int .i64 (l.getD i r0).1) ∧ wr.cell? ⟨b, off + i * 3 + 1, none⟩ = some (.int .i64 (l.getD i r0).2.1) ∧ wr.cell? ⟨b, off + i * 3 + 2, none⟩ = some (.string (l.getD i r0).2.2) := by
  obtain ⟨h1, h2, h3⟩ := hc i hi
  exact ⟨(hb.cell (p := ⟨b, off + i * 3, none⟩) hbw).trans h1, (hb.cell (p := ⟨b, off + i * 3 + 1, none⟩) hbw).trans h2, (hb.cell (p := ⟨b, off + i * 3 + 2, none⟩) hbw).trans h3⟩
end JJ
namespace Go.Proofs.YthajnkcipifhcaaGreatDoor
open JJ WW BB
end Go.Proofs.YthajnkcipifhcaaGreatDoor
