/-
  The walk of what keeps of requests the first ones of each client and number.
-/
import Derived.Test.YtegkhhegapnkpaaDoorKCallsW
import Derived.Test.YtegkhhegapnkpaaDoorKWFew
import Derived.Test.YtegkhhegapnkpaaDoorKWAppR
import Derived.Test.YtegkhhegapnkpaaDoorKLNum
import Derived.Maps.OwnOps
import Derived.Maps.OwnSet
import Derived.Maps.Ext
import Derived.DeepKeys4
import Derived.Laws.AppendOwn
open Go Go.RowKit
namespace JJ
open BB WW Go.Maps
theorem getD_mem' {α : Type} (l : List α) (d : α) (i : Nat) (h : i < l.length) : l.getD i d ∈ l := by
  rw [List.getD_eq_getElem?_getD, List.getElem?_eq_getElem h]; exact List.getElem_mem h
/-- numbers of 64 bits -/
def In64 (x : Int × Int) : Prop := (-9223372036854775808 ≤ x.1 ∧ x.1 ≤ 9223372036854775807) ∧ -9223372036854775808 ≤ x.2 ∧ x.2 ≤ 9223372036854775807
/-- how a client and a number are spelled as a key -/
def keyQ (x : Int × Int) : Lit := .string (keyBytes [.int .i64 x.1, .int .i64 x.2])
/-- D is the set of ks -/
structure SetIs (D : DataW Unit) (ks : List (Int × Int)) : Prop where
  tidy : Tidy D
  has : ∀ x, In64 x → Maps.has D (keyQ x) = decide (x ∈ ks)
/-- the cells of requests -/
def cellsR (l : List Rq) : List Value := (l.map fun r => [.int .i64 r.1, .int .i64 r.2.1, .string r.2.2]).flatten
end JJ
namespace Go.Proofs.YtegkhhegapnkpaaDoor
open JJ BB WW Go.Maps Go.WideMaps
/-- the loop's state: of the i first requests -/
structure UnSt (w0 : World) (n : Nat) (l : List Rq) (i : Nat) (x : Value) (wr : World) : Prop where
  map : ∃ D : DataW Unit, wr.ownsMap Tryd.prog 185 unitElem w0.heap.size i D ∧ SetIs D ((onceN n (l.take i)).map keyR)
  row : wr.ownsRow (w0.heap.size + 1) 34 3 x (onceN n (l.take i)).length (cellsR (onceN n (l.take i)))
  below : Below w0.heap.size w0 wr
  size : w0.heap.size + 1 ≤ wr.heap.size
  shape : ∃ a c, x = .slice a (onceN n (l.take i)).length c
theorem map_heap {w w' : World} {k b n : Nat} {D : DataW Unit} (h : w.ownsMap Tryd.prog k unitElem b n D) (e : w'.heap[b]? = w.heap[b]?) : w'.ownsMap Tryd.prog k unitElem b n D := by
  obtain ⟨es, clock, hb, r⟩ := h
  exact ⟨es, clock, e.trans hb, r⟩
/-- nothing comes -/
theorem UnSt.skip {w0 wr w' : World} {n i : Nat} {l : List Rq} {x : Value} (h : UnSt w0 n l i x wr) (hb : Below wr.heap.size wr w') (he : onceN n (l.take (i + 1)) = onceN n (l.take i)) : UnSt w0 n l (i + 1) x w' := by
  obtain ⟨D, h1, h2⟩ := h.map
  refine ⟨⟨D, (map_heap h1 (hb.block _ h1.lt)).mono (Nat.le_succ _), by rw [he]; exact h2⟩, ?_, h.below.trans (hb.mono h.below.size), Nat.le_trans h.size hb.size, by rw [he]; exact h.shape⟩
  rw [he]
  exact row_keep h.row fun c hc => hb.block c (h.row.lt c hc).2
end Go.Proofs.YtegkhhegapnkpaaDoor
