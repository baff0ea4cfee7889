/-
  A row of signatures in memory that may be written. No program is named here.
-/
import Derived.Test.YthajnkcipifhcaaGreatDoorKCallsW
import Derived.Sort.LotA
section
open Go Go.RowKit
namespace CC
/-- a signature as it stands in memory: its node, its tags' slice, its tags -/
abbrev Sg := Int × (Option Addr × Nat) × List ByteArray
/-- its tags, as a slice -/
def tvS (x : Sg) : Value := .slice x.2.1.1 x.2.2.length x.2.1.2
/-- a signature's cells -/
def encS (x : Sg) : List Value := [.int .i64 x.1, tvS x]
instance instSg : Inhabited Sg := ⟨(0, (none, 0), [])⟩
def s0 : Sg := (0, (none, 0), [])
/-- the j-th is the first of its node (the one ahead is another's) -/
def kp (d : List Sg) (j : Nat) : Bool := decide (j = 0 ∨ (d.getD j s0).1 ≠ (d.getD (j - 1) s0).1)
end CC
end
section
open Go Go.RowKit
namespace CC
open BB WW
theorem cset_same {w : World} {a : Addr} {u v : Value} (h : w.cell? a = some u) : (w.setCell a v).cell? a = some v := World.cell?_setCell_same (w := w) (a := a) (v := v) h
theorem cset_other {w : World} {a c : Addr} {v : Value} (h : a ≠ c) : (w.setCell a v).cell? c = w.cell? c := World.cell?_setCell_other (w := w) (a := a) (v := v) (b := c) h
/-- n signatures, D, in block b from cell o on; they may be written -/
structure SgRow (w : World) (b o n : Nat) (D : Nat → Sg) : Prop where
  lt : b < w.heap.size
  at0 : ∀ i, i < n → w.cell? ⟨b, o + i * 2, none⟩ = some (.int .i64 (D i).1)
  at1 : ∀ i, i < n → w.cell? ⟨b, o + i * 2 + 1, none⟩ = some (tvS (D i))
  f0 : ∀ i, i < n → w.frozen? ⟨b, o + i * 2, none⟩ = false
  f1 : ∀ i, i < n → w.frozen? ⟨b, o + i * 2 + 1, none⟩ = false
section
variable {w w' : World} {b o n : Nat} {D : Nat → Sg}
theorem SgRow.of_heap (h : SgRow w b o n D) (e : w'.heap[b]? = w.heap[b]?) : SgRow w' b o n D := by
  have hl : b < w'.heap.size := by
    rcases Nat.lt_or_ge b w'.heap.size with g | g
    · exact g
    · rw [Array.getElem?_eq_none g, Array.getElem?_eq_getElem h.lt] at e; cases e
  exact ⟨hl, fun i hi => (World.cell?_of_block (a := ⟨b, _, none⟩) e).trans (h.at0 i hi), fun i hi => (World.cell?_of_block (a := ⟨b, _, none⟩) e).trans (h.at1 i hi),
    fun i hi => (World.frozen?_of_block (a := ⟨b, _, none⟩) e).trans (h.f0 i hi), fun i hi => (World.frozen?_of_block (a := ⟨b, _, none⟩) e).trans (h.f1 i hi)⟩
theorem SgRow.keep {c : Nat} (h : SgRow w b o n D) (k : Keep c w w') (hc : b ≠ c) : SgRow w' b o n D := h.of_heap (k.block b h.lt hc)
theorem SgRow.below (h : SgRow w b o n D) (k : Below w.heap.size w w') : SgRow w' b o n D := h.of_heap (k.block b h.lt)
theorem SgRow.drew (h : SgRow w b o n D) (q : Nat) : SgRow (w.drewN q) b o n D := h.of_heap rfl
theorem SgRow.congr (h : SgRow w b o n D) (E : Nat → Sg) (e : ∀ i, i < n → D i = E i) : SgRow w b o n E :=
  ⟨h.lt, fun i hi => by rw [h.at0 i hi, e i hi], fun i hi => by rw [h.at1 i hi, e i hi], h.f0, h.f1⟩
theorem SgRow.sub (h : SgRow w b o n D) (m : Nat) (hm : m ≤ n) : SgRow w b o m D :=
  ⟨h.lt, fun i hi => h.at0 i (by omega), fun i hi => h.at1 i (by omega), fun i hi => h.f0 i (by omega), fun i hi => h.f1 i (by omega)⟩
theorem frozen_setCell (w : World) (a c : Addr) (v : Value) : (w.setCell a v).frozen? c = w.frozen? c := by
  unfold World.frozen? World.setCell
  simp only [Array.getElem?_modify]
  by_cases e : a.block = c.block
  · rw [if_pos e]
    rcases w.heap[c.block]? with _ | ob
    · rfl
    · cases ob <;> rfl
  · rw [if_neg e]
theorem SgRow.set1 (h : SgRow w b o n D) (i : Nat) (hi : i < n) (t : Option Addr × Nat) (ts : List ByteArray) : SgRow (w.setCell ⟨b, o + i * 2 + 1, none⟩ (.slice t.1 ts.length t.2)) b o n (put D i ((D i).1, t, ts)) := by
  refine ⟨by simpa [World.setCell] using h.lt, fun j hj => ?_, fun j hj => ?_, fun j hj => (frozen_setCell _ _ _ _).trans (h.f0 j hj), fun j hj => (frozen_setCell _ _ _ _).trans (h.f1 j hj)⟩
  · rw [cset_other (by intro e; injection e with _ e; omega), h.at0 j hj]
    unfold put; split
    · rename_i e; subst e; rfl
    · rfl
  · by_cases e : j = i
    · subst e
      rw [cset_same (h.at1 j hj), put_same]; rfl
    · rw [cset_other (by intro e'; injection e' with _ e'; omega), h.at1 j hj, put_other _ _ e]
theorem SgRow.set (h : SgRow w b o n D) (i : Nat) (hi : i < n) (x : Sg) : SgRow ((w.setCell ⟨b, o + i * 2, none⟩ (.int .i64 x.1)).setCell ⟨b, o + i * 2 + 1, none⟩ (tvS x)) b o n (put D i x) := by
  refine ⟨by simpa [World.setCell] using h.lt, fun j hj => ?_, fun j hj => ?_, fun j hj => ?_, fun j hj => ?_⟩
  · rw [cset_other (by intro e; injection e with _ e; omega)]
    by_cases e : j = i
    · subst e
      rw [cset_same (h.at0 j hj), put_same]
    · rw [cset_other (by intro e'; injection e' with _ e'; omega), h.at0 j hj, put_other _ _ e]
  · by_cases e : j = i
    · subst e
      rw [cset_same (u := tvS (D j)) (by rw [cset_other (by intro e'; injection e' with _ e'; omega)]; exact h.at1 j hj), put_same]
    · rw [cset_other (by intro e'; injection e' with _ e'; omega), cset_other (by intro e'; injection e' with _ e'; omega), h.at1 j hj, put_other _ _ e]
  · rw [frozen_setCell, frozen_setCell]; exact h.f0 j hj
  · rw [frozen_setCell, frozen_setCell]; exact h.f1 j hj
end
end CC
end
