/-
  The walk of the law BlockDigests.
-/
import Derived.Test.YtegkhhegapnkpaaDoorKEEq
import Derived.Test.YtegkhhegapnkpaaDoorKWFewB
import Derived.Test.YtegkhhegapnkpaaDoorKWLawB
import Derived.Test.YtegkhhegapnkpaaDoorKJUnlike
import Derived.Test.YtegkhhegapnkpaaDoorKJCopy
import Derived.Test.YtegkhhegapnkpaaDoorKPlanE
import Derived.Test.YtegkhhegapnkpaaDoorKJFirst
import Derived.Test.YtegkhhegapnkpaaDoorKJBox
import Derived.Test.YtegkhhegapnkpaaDoorKWReqLaw
import Derived.Test.YtegkhhegapnkpaaDoorKWords
import Derived.OrdersHeld
import Derived.Test.YtegkhhegapnkpaaDoorKWApart
section
open Go Go.RowKit
namespace JJ
open CC BB WW MM
/-- a block of a size that is read -/
def SmallB (k : ByteArray) (l : List (Int × List ByteArray)) (m : List Rq) : Prop := k.size ≤ 1000 ∧ SmallS l ∧ SmallR m ∧ (flat (sigsB l)).length + (flat (reqsB m)).length ≤ 900000
theorem SmallB.block {v p cv : Int} {k : ByteArray} {l : List (Int × List ByteArray)} {m : List Rq} (h : SmallB k l m) : (blockB v p cv k l m).size ≤ 1000000 := by
  obtain ⟨h1, _, _, h2⟩ := h
  unfold blockB
  simp only [ByteArray.size_append, num_size, certB_size, flat_size]
  omega
/-- the six cells of a block's box, and what was as it was -/
def Six (base g : Nat) (v0 v1 v2 v3 v4 v5 : Value) (w w' : World) : Prop :=
  w'.cell? ⟨g, 0, none⟩ = some v0 ∧ w'.cell? ⟨g, 1, none⟩ = some v1 ∧ w'.cell? ⟨g, 2, none⟩ = some v2 ∧ w'.cell? ⟨g, 3, none⟩ = some v3 ∧ w'.cell? ⟨g, 4, none⟩ = some v4 ∧ w'.cell? ⟨g, 5, none⟩ = some v5 ∧ Below base w w' ∧ base ≤ w'.heap.size
theorem Six.on {base g : Nat} {v0 v1 v2 v3 v4 v5 : Value} {w w1 w2 : World} (h : Six base g v0 v1 v2 v3 v4 v5 w w1) (hb : Below w1.heap.size w1 w2) : Six base g v0 v1 v2 v3 v4 v5 w w2 := keep6 h hb
theorem Six.below {base g : Nat} {v0 v1 v2 v3 v4 v5 : Value} {w w1 : World} (h : Six base g v0 v1 v2 v3 v4 v5 w w1) : Below base w w1 := h.2.2.2.2.2.2.1
theorem Six.same {base g : Nat} {v0 v1 v2 v3 v4 v5 : Value} {w w1 w2 : World} (h : Six base g v0 v1 v2 v3 v4 v5 w w1) (hs : Same w1 w2) : Six base g v0 v1 v2 v3 v4 v5 w w2 := h.on (hs.below _)
theorem Six.mk {w : World} (v0 v1 v2 v3 v4 v5 : Value) (t : TypeId) : Six w.heap.size w.heap.size v0 v1 v2 v3 v4 v5 w (w.alloc (.cells #[v0, v1, v2, v3, v4, v5] t)) := by
  have k := box_mk w [v0, v1, v2, v3, v4, v5] t
  exact ⟨k.cell 0 _ rfl, k.cell 1 _ rfl, k.cell 2 _ rfl, k.cell 3 _ rfl, k.cell 4 _ rfl, k.cell 5 _ rfl, k.below, k.below.size⟩
end JJ
namespace Go.Proofs.YtegkhhegapnkpaaDoor
open JJ CC WW BB MM
end Go.Proofs.YtegkhhegapnkpaaDoor
end
section
open Go Go.RowKit
namespace JJ
open CC BB WW MM
theorem few_smallB {k : ByteArray} {l : List (Int × List ByteArray)} {m : List Rq} (h : fewBlock k l m = true) : SmallB k l m := by
  obtain ⟨h1, h2, h3, _, _⟩ := few_block h
  obtain ⟨h4, h5⟩ := few_flat h
  exact ⟨by omega, h1, h2, by omega⟩
end JJ
namespace Go.Proofs.YtegkhhegapnkpaaDoor
open JJ CC WW BB MM
theorem fewblock6_is (v p cv : Int) (k : ByteArray) (sv rv : Value) (l : List (Int × List ByteArray)) (m : List Rq) (b : Bool) (hb : fewBlock k l m = b) (w : World) (hv : SigsAt w sv l) (hr : ReqsAt w rv m) (hn : MemS l) (hk : k.size ≤ 9223372036854775807) (hm : m.length ≤ 9223372036854775807) :
    Calls Tryd.prog 88 #[.agg #[.int .i64 v, .int .i64 p, .int .i64 cv, .string k, sv, rv]] w fun e w' => e = .returned (.bool b) ∧ Below w.heap.size w w' := hb ▸ fewblock_any v p cv k sv rv l m w hv hr hn hk hm
end Go.Proofs.YtegkhhegapnkpaaDoor
end
