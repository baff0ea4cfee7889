/-
  The walk of the law BlockDigests.
-/
import Derived.Test.YtbakceglaadfpaaDoorKLNum
import Derived.Test.YtbakceglaadfpaaDoorKWFew
import Derived.Test.YtbakceglaadfpaaDoorKWLawB
import Derived.Test.YtbakceglaadfpaaDoorKJUnlike
import Derived.Test.YtbakceglaadfpaaDoorKJCopy
import Derived.Test.YtbakceglaadfpaaDoorKPlanE
import Derived.Test.YtbakceglaadfpaaDoorKJDig
import Derived.Test.YtbakceglaadfpaaDoorKJBox
import Derived.Test.YtbakceglaadfpaaDoorKWCutR
import Derived.Test.YtbakceglaadfpaaDoorKWApart
section
open Go Go.RowKit
namespace JJ
open CC BB WW MM
theorem right_64 {v p cv : Int} {k : ByteArray} {l : List (Int × List ByteArray)} {m : List Rq} (h : rightBlock v p cv k l m = true) : ∀ r ∈ m, In64 (keyR r) := by
  unfold rightBlock at h
  simp only [Bool.and_eq_true, decide_eq_true_eq, List.all_eq_true] at h
  intro r hr
  have := h.2 r hr
  unfold rightR at this
  unfold In64 keyR
  constructor
  · constructor <;> (show _ ≤ _; omega)
  · constructor <;> (show _ ≤ _; omega)
theorem sigsB_le {l : List (Int × List ByteArray)} (h : SmallS l) : (flat (sigsB l)).length ≤ 500000 := h.2.1
theorem certB_small {v : Int} {k : ByteArray} {l : List (Int × List ByteArray)} (hk : k.size ≤ 1000) (h : SmallS l) : (certB v k l).size ≤ 1000000 := by
  rw [certB_size]; have := h.2.1; omega
/-- a block of a size that is read -/
def SmallB (k : ByteArray) (l : List (Int × List ByteArray)) (m : List Rq) : Prop := k.size ≤ 1000 ∧ SmallS l ∧ SmallR m ∧ (flat (sigsB l)).length + (flat (reqsB m)).length ≤ 900000
theorem SmallB.block {v p cv : Int} {k : ByteArray} {l : List (Int × List ByteArray)} {m : List Rq} (h : SmallB k l m) : (blockB v p cv k l m).size ≤ 1000000 := by
  obtain ⟨h1, _, _, h2⟩ := h
  unfold blockB
  simp only [ByteArray.size_append, num_size, certB_size, flat_size]
  omega
theorem right_smallB6 {v p cv : Int} {k : ByteArray} {l : List (Int × List ByteArray)} {m : List Rq} (h : rightBlock v p cv k l m = true) : SmallB k l m := by
  obtain ⟨h1, h2, h3, _, h5⟩ := right_smallB h
  refine ⟨by omega, h1, h2, ?_⟩
  unfold rightBlock at h
  simp only [Bool.and_eq_true, decide_eq_true_eq, List.all_eq_true] at h
  have := flat_le 72 (reqsB m) (fun x hx => by
    unfold reqsB at hx
    obtain ⟨p, hp, rfl⟩ := List.mem_map.1 hx
    have h4 := (h.2 p hp).2.2.2.2
    rw [reqB_size]; omega)
  have e : (reqsB m).length = m.length := by unfold reqsB; rw [List.length_map]
  have := h1.2.1
  omega
/-- the six cells of a block's box, and what was as it was -/
def Six (base g : Nat) (v0 v1 v2 v3 v4 v5 : Value) (w w' : World) : Prop :=
  w'.cell? ⟨g, 0, none⟩ = some v0 ∧ w'.cell? ⟨g, 1, none⟩ = some v1 ∧ w'.cell? ⟨g, 2, none⟩ = some v2 ∧ w'.cell? ⟨g, 3, none⟩ = some v3 ∧ w'.cell? ⟨g, 4, none⟩ = some v4 ∧ w'.cell? ⟨g, 5, none⟩ = some v5 ∧ Below base w w' ∧ base ≤ w'.heap.size
theorem Six.on {base g : Nat} {v0 v1 v2 v3 v4 v5 : Value} {w w1 w2 : World} (h : Six base g v0 v1 v2 v3 v4 v5 w w1) (hb : Below w1.heap.size w1 w2) : Six base g v0 v1 v2 v3 v4 v5 w w2 := keep6 h hb
theorem Six.below {base g : Nat} {v0 v1 v2 v3 v4 v5 : Value} {w w1 : World} (h : Six base g v0 v1 v2 v3 v4 v5 w w1) : Below base w w1 := h.2.2.2.2.2.2.1
theorem Six.same {base g : Nat} {v0 v1 v2 v3 v4 v5 : Value} {w w1 w2 : World} (h : Six base g v0 v1 v2 v3 v4 v5 w w1) (hs : Same w1 w2) : Six base g v0 v1 v2 v3 v4 v5 w w2 := h.on (hs.below _)
theorem Six.mk {w : World} (v0 v1 v2 v3 v4 v5 : Value) (t : TypeId) : Six w.heap.size w.heap.size v0 v1 v2 v3 v4 v5 w (w.alloc (.cells #[v0, v1, v2, v3, v4, v5] t)) := by
  have k := box_mk w [v0, v1, v2, v3, v4, v5] t
  exact ⟨k.cell 0 _ rfl, k.cell 1 _ rfl, k.cell 2 _ rfl, k.cell 3 _ rfl, k.cell 4 _ rfl, k.cell 5 _ rfl, k.below, k.below.size⟩
end JJ
namespace Go.Proofs.YtbakceglaadfpaaDoor
open JJ CC WW BB MM
end Go.Proofs.YtbakceglaadfpaaDoor
end
section
open Go Go.RowKit
namespace JJ
open CC BB WW MM
theorem few_smallB {k : ByteArray} {l : List (Int × List ByteArray)} {m : List Rq} (h : fewBlock k l m = true) : SmallB k l m := by
  obtain ⟨h1, h2, h3, _, _⟩ := few_block h
  obtain ⟨h4, h5⟩ := few_flat h
  exact ⟨by omega, h1, h2, by omega⟩
theorem few_one {f : Int} {ts : List ByteArray} (h : fewSig ts = true) : SmallS [(f, ts)] := by
  have : fewCert ⟨#[]⟩ [(f, ts)] = true := by unfold fewCert; simp [h]; exact Nat.zero_le _
  exact (few_smallS this).1
theorem cells6 {w w' : World} {g y : Nat} {v0 v1 v2 v3 v4 v5 u0 u1 u2 u3 u4 u5 : Value} (h : BS w g [v0, v1, v2, v3, v4, v5] y [u0, u1, u2, u3, u4, u5] w') :
    (w'.cell? ⟨g, 0, none⟩ = some v0 ∧ w'.cell? ⟨g, 1, none⟩ = some v1 ∧ w'.cell? ⟨g, 2, none⟩ = some v2 ∧ w'.cell? ⟨g, 3, none⟩ = some v3 ∧ w'.cell? ⟨g, 4, none⟩ = some v4 ∧ w'.cell? ⟨g, 5, none⟩ = some v5) ∧
    w'.cell? ⟨y, 0, none⟩ = some u0 ∧ w'.cell? ⟨y, 1, none⟩ = some u1 ∧ w'.cell? ⟨y, 2, none⟩ = some u2 ∧ w'.cell? ⟨y, 3, none⟩ = some u3 ∧ w'.cell? ⟨y, 4, none⟩ = some u4 ∧ w'.cell? ⟨y, 5, none⟩ = some u5 :=
  ⟨⟨h.a.cell 0 _ rfl, h.a.cell 1 _ rfl, h.a.cell 2 _ rfl, h.a.cell 3 _ rfl, h.a.cell 4 _ rfl, h.a.cell 5 _ rfl⟩, h.b 0 _ rfl, h.b 1 _ rfl, h.b 2 _ rfl, h.b 3 _ rfl, h.b 4 _ rfl, h.b 5 _ rfl⟩
/-- the cells of a block -/
def bC (v p cv : Value) (k : ByteArray) (s r : Value) : Nat → Value := fun i => if i = 0 then v else if i = 1 then p else if i = 2 then cv else if i = 3 then .string k else if i = 4 then s else r
theorem bC_row (v p cv : Value) (k : ByteArray) (s r : Value) : #[v, p, cv, .string k, s, r] = row 6 (bC v p cv k s r) := by rfl
end JJ
namespace Go.Proofs.YtbakceglaadfpaaDoor
open JJ CC WW BB MM
end Go.Proofs.YtbakceglaadfpaaDoor
end
