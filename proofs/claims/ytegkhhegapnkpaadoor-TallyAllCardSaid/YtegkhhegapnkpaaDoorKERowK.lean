/-
  A row of signatures, and the worlds that the library's sort passes through. No program is named here.
-/
import Derived.Test.YtegkhhegapnkpaaDoorKERow
import Derived.Shelf.SlSortCmp.InsertionK
open Go Go.RowKit
namespace CC
open BB WW
open Go.Sort Go.Proofs
theorem row_of_holds {w : World} {b o : Nat} {d : Array Sg} (h : HoldsK encS 2 w b o d) (hl : b < w.heap.size) : SgRow w b o d.size (fun i => d[i]!) := by
  refine ⟨hl, fun i hi => ?_, fun i hi => ?_, fun i hi => ?_, fun i hi => ?_⟩
  · exact (h.cell (c := 0) hi (by omega)).1
  · exact (h.cell (c := 1) hi (by omega)).1
  · exact (h.cell (c := 0) hi (by omega)).2
  · exact (h.cell (c := 1) hi (by omega)).2
theorem holds_of_row {w : World} {b o : Nat} {d : Array Sg} (h : SgRow w b o d.size (fun i => d[i]!)) : HoldsK encS 2 w b o d := by
  intro t ht
  have ht' : t < d.size * 2 := by simpa using ht
  rw [get_flatK _ _ _ _ ht']
  have hq : t / 2 < d.size := by omega
  rcases Nat.mod_two_eq_zero_or_one t with e | e
  · have e2 : o + t = o + t / 2 * 2 := by omega
    rw [e, e2]
    exact ⟨h.at0 _ hq, h.f0 _ hq⟩
  · have e2 : o + t = o + t / 2 * 2 + 1 := by omega
    rw [e, e2]
    exact ⟨h.at1 _ hq, h.f1 _ hq⟩
theorem keep_sort {w : World} {b o m : Nat} {d : Array Sg} {os : Array Obj} : Keep b w (sortWorldK encS 2 w b o m d os) := by
  refine ⟨?_, fun k hk hb => ?_, rfl, rfl, rfl⟩
  · simp [sortWorldK, grow, putRowK, putRow, mapBlock, Sort.ahead]
  · unfold sortWorldK
    rw [heap_grow_old _ _ (by simpa [putRowK, putRow, mapBlock, Sort.ahead] using hk)]
    have : b ≠ k := fun e => hb e.symm
    simp [putRowK, putRow, mapBlock, Sort.ahead, Array.getElem?_modify, this]
theorem row_sort {w : World} {b o m : Nat} {d dk : Array Sg} {os : Array Obj} (h : SgRow w b o d.size (fun i => d[i]!)) (hs : dk.size = d.size) : SgRow (sortWorldK encS 2 w b o m dk os) b o dk.size (fun i => dk[i]!) :=
  row_of_holds (holdsK_sortWorldK_c encS 2 w b o d dk m os (holds_of_row h) h.lt hs) (Nat.lt_of_lt_of_le h.lt (size_sortWorldK_c encS 2 w b o m dk os))
end CC
