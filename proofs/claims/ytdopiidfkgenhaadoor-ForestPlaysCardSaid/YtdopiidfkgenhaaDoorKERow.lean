/-
  A row of signatures in memory that may be written. No program is named here.
-/
import Derived.Test.YtdopiidfkgenhaaDoorKEIns
import Derived.Shelf.SlSortCmp.InsertionK
open Go Go.RowKit
namespace CC
open BB WW
theorem cset_same {w : World} {a : Addr} {u v : Value} (h : w.cell? a = some u) : (w.setCell a v).cell? a = some v := World.cell?_setCell_same (w := w) (a := a) (v := v) h
theorem cset_other {w : World} {a c : Addr} {v : Value} (h : a ≠ c) : (w.setCell a v).cell? c = w.cell? c := World.cell?_setCell_other (w := w) (a := a) (v := v) (b := c) h
/-- n signatures, D, in block b from cell o on; they may be written -/
structure SgRow (w : World) (b o n : Nat) (D : Nat → Sg) : Prop where
  lt : b < w.heap.size
  at0 : ∀ i, i < n → w.cell? ⟨b, o + i * 2, none⟩ = some (.int .i64 (D i).1)
  at1 : ∀ i, i < n → w.cell? ⟨b, o + i * 2 + 1, none⟩ = some (tvS (D i))
  f0 : ∀ i, i < n → w.frozen? ⟨b, o + i * 2, none⟩ = false
  f1 : ∀ i, i < n → w.frozen? ⟨b, o + i * 2 + 1, none⟩ = false
section
variable {w w' : World} {b o n : Nat} {D : Nat → Sg}
theorem SgRow.of_heap (h : SgRow w b o n D) (e : w'.heap[b]? = w.heap[b]?) : SgRow w' b o n D := by
  have hl : b < w'.heap.size := by
    rcases Nat.lt_or_ge b w'.heap.size with g | g
    · exact g
    · rw [Array.getElem?_eq_none g, Array.getElem?_eq_getElem h.lt] at e; cases e
  exact ⟨hl, fun i hi => (World.cell?_of_block (a := ⟨b, _, none⟩) e).trans (h.at0 i hi), fun i hi => (World.cell?_of_block (a := ⟨b, _, none⟩) e).trans (h.at1 i hi),
    fun i hi => (World.frozen?_of_block (a := ⟨b, _, none⟩) e).trans (h.f0 i hi), fun i hi => (World.frozen?_of_block (a := ⟨b, _, none⟩) e).trans (h.f1 i hi)⟩
theorem SgRow.keep {c : Nat} (h : SgRow w b o n D) (k : Keep c w w') (hc : b ≠ c) : SgRow w' b o n D := h.of_heap (k.block b h.lt hc)
theorem SgRow.below (h : SgRow w b o n D) (k : Below w.heap.size w w') : SgRow w' b o n D := h.of_heap (k.block b h.lt)
theorem SgRow.drew (h : SgRow w b o n D) (q : Nat) : SgRow (w.drewN q) b o n D := h.of_heap rfl
theorem SgRow.congr (h : SgRow w b o n D) (E : Nat → Sg) (e : ∀ i, i < n → D i = E i) : SgRow w b o n E :=
  ⟨h.lt, fun i hi => by rw [h.at0 i hi, e i hi], fun i hi => by rw [h.at1 i hi, e i hi], h.f0, h.f1⟩
theorem SgRow.sub (h : SgRow w b o n D) (m : Nat) (hm : m ≤ n) : SgRow w b o m D :=
  ⟨h.lt, fun i hi => h.at0 i (by omega), fun i hi => h.at1 i (by omega), fun i hi => h.f0 i (by omega), fun i hi => h.f1 i (by omega)⟩
theorem frozen_setCell (w : World) (a c : Addr) (v : Value) : (w.setCell a v).frozen? c = w.frozen? c := by
  unfold World.frozen? World.setCell
  simp only [Array.getElem?_modify]
  by_cases e : a.block = c.block
  · rw [if_pos e]
    rcases w.heap[c.block]? with _ | ob
    · rfl
    · cases ob <;> rfl
  · rw [if_neg e]
theorem SgRow.set1 (h : SgRow w b o n D) (i : Nat) (hi : i < n) (t : Option Addr × Nat) (ts : List ByteArray) : SgRow (w.setCell ⟨b, o + i * 2 + 1, none⟩ (.slice t.1 ts.length t.2)) b o n (put D i ((D i).1, t, ts)) := by
  refine ⟨by simpa [World.setCell] using h.lt, fun j hj => ?_, fun j hj => ?_, fun j hj => (frozen_setCell _ _ _ _).trans (h.f0 j hj), fun j hj => (frozen_setCell _ _ _ _).trans (h.f1 j hj)⟩
  · rw [cset_other (by intro e; injection e with _ e; omega), h.at0 j hj]
    unfold put; split
    · rename_i e; subst e; rfl
    · rfl
  · by_cases e : j = i
    · subst e
      rw [cset_same (h.at1 j hj), put_same]; rfl
    · rw [cset_other (by intro e'; injection e' with _ e'; omega), h.at1 j hj, put_other _ _ e]
theorem SgRow.set (h : SgRow w b o n D) (i : Nat) (hi : i < n) (x : Sg) : SgRow ((w.setCell ⟨b, o + i * 2, none⟩ (.int .i64 x.1)).setCell ⟨b, o + i * 2 + 1, none⟩ (tvS x)) b o n (put D i x) := by
  refine ⟨by simpa [World.setCell] using h.lt, fun j hj => ?_, fun j hj => ?_, fun j hj => ?_, fun j hj => ?_⟩
  · rw [cset_other (by intro e; injection e with _ e; omega)]
    by_cases e : j = i
    · subst e
      rw [cset_same (h.at0 j hj), put_same]
    · rw [cset_other (by intro e'; injection e' with _ e'; omega), h.at0 j hj, put_other _ _ e]
  · by_cases e : j = i
    · subst e
      rw [cset_same (u := tvS (D j)) (by rw [cset_other (by intro e'; injection e' with _ e'; omega)]; exact h.at1 j hj), put_same]
    · rw [cset_other (by intro e'; injection e' with _ e'; omega), cset_other (by intro e'; injection e' with _ e'; omega), h.at1 j hj, put_other _ _ e]
  · rw [frozen_setCell, frozen_setCell]; exact h.f0 j hj
  · rw [frozen_setCell, frozen_setCell]; exact h.f1 j hj
theorem keep_set (w : World) (b o : Nat) (u : Value) : Keep b w (w.setCell ⟨b, o, none⟩ u) := (Upd.set w b o u).keep
theorem keep_drew (w : World) (b q : Nat) : Keep b w (w.drewN q) := ⟨Nat.le_refl _, fun _ _ _ => rfl, rfl, rfl, rfl⟩
end
open Go.Sort Go.Proofs
theorem row_of_holds {w : World} {b o : Nat} {d : Array Sg} (h : HoldsK encS 2 w b o d) (hl : b < w.heap.size) : SgRow w b o d.size (fun i => d[i]!) := by
  refine ⟨hl, fun i hi => ?_, fun i hi => ?_, fun i hi => ?_, fun i hi => ?_⟩
  · exact (h.cell (c := 0) hi (by omega)).1
  · exact (h.cell (c := 1) hi (by omega)).1
  · exact (h.cell (c := 0) hi (by omega)).2
  · exact (h.cell (c := 1) hi (by omega)).2
theorem holds_of_row {w : World} {b o : Nat} {d : Array Sg} (h : SgRow w b o d.size (fun i => d[i]!)) : HoldsK encS 2 w b o d := by
  intro t ht
  have ht' : t < d.size * 2 := by simpa using ht
  rw [get_flatK _ _ _ _ ht']
  have hq : t / 2 < d.size := by omega
  rcases Nat.mod_two_eq_zero_or_one t with e | e
  · have e2 : o + t = o + t / 2 * 2 := by omega
    rw [e, e2]
    exact ⟨h.at0 _ hq, h.f0 _ hq⟩
  · have e2 : o + t = o + t / 2 * 2 + 1 := by omega
    rw [e, e2]
    exact ⟨h.at1 _ hq, h.f1 _ hq⟩
theorem keep_sort {w : World} {b o m : Nat} {d : Array Sg} {os : Array Obj} : Keep b w (sortWorldK encS 2 w b o m d os) := by
  refine ⟨?_, fun k hk hb => ?_, rfl, rfl, rfl⟩
  · simp [sortWorldK, grow, putRowK, putRow, mapBlock, Sort.ahead]
  · unfold sortWorldK
    rw [heap_grow_old _ _ (by simpa [putRowK, putRow, mapBlock, Sort.ahead] using hk)]
    have : b ≠ k := fun e => hb e.symm
    simp [putRowK, putRow, mapBlock, Sort.ahead, Array.getElem?_modify, this]
theorem row_sort {w : World} {b o m : Nat} {d dk : Array Sg} {os : Array Obj} (h : SgRow w b o d.size (fun i => d[i]!)) (hs : dk.size = d.size) : SgRow (sortWorldK encS 2 w b o m dk os) b o dk.size (fun i => dk[i]!) :=
  row_of_holds (holdsK_sortWorldK_c encS 2 w b o d dk m os (holds_of_row h) h.lt hs) (Nat.lt_of_lt_of_le h.lt (size_sortWorldK_c encS 2 w b o m dk os))
end CC
