/-
  The walk of what keeps of requests the first ones of each client and number.
-/
import Derived.Test.YthajnkcipifhcaaGreatDoorKCallsW
import Derived.Test.YthajnkcipifhcaaGreatDoorKWFew
import Derived.Test.YthajnkcipifhcaaGreatDoorKWAppR
import Derived.Test.YthajnkcipifhcaaGreatDoorKLNum
import Derived.Maps.OwnOps
import Derived.Maps.OwnSet
import Derived.Maps.Ext
import Derived.DeepKeys4
import Derived.Laws.AppendOwn
open Go Go.RowKit
namespace JJ
open BB WW Go.Maps
/-- numbers of 64 bits -/
def In64 (x : Int × Int) : Prop := (-9223372036854775808 ≤ x.1 ∧ x.1 ≤ 9223372036854775807) ∧ -9223372036854775808 ≤ x.2 ∧ x.2 ≤ 9223372036854775807
/-- how a client and a number are spelled as a key -/
def keyQ (x : Int × Int) : Lit := .string (keyBytes [.int .i64 x.1, .int .i64 x.2])
/-- D is the set of ks -/
structure SetIs (D : DataW Unit) (ks : List (Int × Int)) : Prop where
  tidy : Tidy D
  has : ∀ x, In64 x → Maps.has D (keyQ x) = decide (x ∈ ks)
/-- the cells of requests -/
def cellsR (l : List Rq) : List Value := (l.map fun r => [.int .i64 r.1, .int .i64 r.2.1, .string r.2.2]).flatten
theorem cellsR_len (l : List Rq) : (cellsR l).length = l.length * 3 := by
  induction l with
  | nil => rfl
  | cons x r ih => show ([_, _, _] ++ cellsR r).length = _; rw [List.length_append, ih, List.length_cons]; simp; omega
theorem cellsR_at : ∀ (l : List Rq) (i : Nat), i < l.length → (cellsR l)[i * 3]? = some (.int .i64 (l.getD i r0).1) ∧ (cellsR l)[i * 3 + 1]? = some (.int .i64 (l.getD i r0).2.1) ∧ (cellsR l)[i * 3 + 2]? = some (.string (l.getD i r0).2.2)
  | [], i, h => by simp at h
  | x :: r, 0, _ => ⟨rfl, rfl, rfl⟩
  | x :: r, i + 1, h => by
    have ih := cellsR_at r i (by simpa using h)
    have e : ∀ j, (cellsR (x :: r))[(i + 1) * 3 + j]? = (cellsR r)[i * 3 + j]? := fun j => by
      show ([Value.int .i64 x.1, .int .i64 x.2.1, .string x.2.2] ++ cellsR r)[(i + 1) * 3 + j]? = _
      rw [show (i + 1) * 3 + j = 3 + (i * 3 + j) by omega, List.getElem?_append_right (by simp)]
      simp
    refine ⟨?_, ?_, ?_⟩
    · rw [show (i + 1) * 3 = (i + 1) * 3 + 0 from rfl, e 0]; simpa [List.getD] using ih.1
    · rw [e 1]; simpa [List.getD] using ih.2.1
    · rw [e 2]; simpa [List.getD] using ih.2.2
theorem reqs_of_own {w : World} {B : Nat} {e : TypeId} {v : Value} {l : List Rq} (h : w.ownsRow B e 3 v l.length (cellsR l)) : ReqsAt w v l := by
  rcases h.2 with ⟨rfl, h0⟩ | ⟨g, cap, cur, rfl, hg, hh, hn, hcm, hsz, htk⟩
  · exact ⟨none, 0, by rw [h0], Or.inl (List.eq_nil_of_length_eq_zero h0)⟩
  · have hcell : ∀ j u, j < l.length * 3 → (cellsR l)[j]? = some u → w.cell? ⟨g, j, none⟩ = some u := fun j u hj hu => by
      rw [← htk, List.getElem?_take_of_lt hj, Array.getElem?_toList] at hu
      unfold World.cell?; rw [hh]; simpa using hu
    refine ⟨_, cap, rfl, Or.inr ⟨g, 0, rfl, (Array.getElem?_eq_some_iff.1 hh).1, fun i hi => ?_⟩⟩
    obtain ⟨h1, h2, h3⟩ := cellsR_at l i hi
    simp only [Nat.zero_add]
    exact ⟨hcell _ _ (by omega) h1, hcell _ _ (by omega) h2, hcell _ _ (by omega) h3⟩
end JJ
namespace Go.Proofs.YthajnkcipifhcaaGreatDoor
open JJ BB WW Go.Maps Go.WideMaps
/-- the loop's state: of the i first requests -/
structure UnSt (w0 : World) (n : Nat) (l : List Rq) (i : Nat) (x : Value) (wr : World) : Prop where
  map : ∃ D : DataW Unit, wr.ownsMap Tryz.prog 247 unitElem w0.heap.size i D ∧ SetIs D ((onceN n (l.take i)).map keyR)
  row : wr.ownsRow (w0.heap.size + 1) 41 3 x (onceN n (l.take i)).length (cellsR (onceN n (l.take i)))
  below : Below w0.heap.size w0 wr
  size : w0.heap.size + 1 ≤ wr.heap.size
  shape : ∃ a c, x = .slice a (onceN n (l.take i)).length c
theorem map_heap {w w' : World} {k b n : Nat} {D : DataW Unit} (h : w.ownsMap Tryz.prog k unitElem b n D) (e : w'.heap[b]? = w.heap[b]?) : w'.ownsMap Tryz.prog k unitElem b n D := by
  obtain ⟨es, clock, hb, r⟩ := h
  exact ⟨es, clock, e.trans hb, r⟩
/-- nothing comes -/
theorem UnSt.skip {w0 wr w' : World} {n i : Nat} {l : List Rq} {x : Value} (h : UnSt w0 n l i x wr) (hb : Below wr.heap.size wr w') (he : onceN n (l.take (i + 1)) = onceN n (l.take i)) : UnSt w0 n l (i + 1) x w' := by
  obtain ⟨D, h1, h2⟩ := h.map
  refine ⟨⟨D, (map_heap h1 (hb.block _ h1.lt)).mono (Nat.le_succ _), by rw [he]; exact h2⟩, ?_, h.below.trans (hb.mono h.below.size), Nat.le_trans h.size hb.size, by rw [he]; exact h.shape⟩
  rw [he]
  exact row_keep h.row fun c hc => hb.block c (h.row.lt c hc).2
end Go.Proofs.YthajnkcipifhcaaGreatDoor
