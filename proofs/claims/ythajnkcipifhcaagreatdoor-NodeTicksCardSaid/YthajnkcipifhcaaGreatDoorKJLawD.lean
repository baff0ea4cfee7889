/-
  The walk of the law BlockDigests.
-/
import Derived.Test.YthajnkcipifhcaaGreatDoorKLNum
import Derived.Test.YthajnkcipifhcaaGreatDoorKWFew
import Derived.Test.YthajnkcipifhcaaGreatDoorKWMsgLaw
import Derived.Test.YthajnkcipifhcaaGreatDoorKJUnlike
import Derived.Test.YthajnkcipifhcaaGreatDoorKJCopy
import Derived.Test.YthajnkcipifhcaaGreatDoorKPlanN
import Derived.Test.YthajnkcipifhcaaGreatDoorKJDig
import Derived.Test.YthajnkcipifhcaaGreatDoorKCallsW
import Derived.Test.YthajnkcipifhcaaGreatDoorKRState
import Derived.Test.YthajnkcipifhcaaGreatDoorKWApart
section
open Go Go.RowKit
namespace JJ
open CC BB WW MM
/-- a block of a size that is read -/
def SmallB (k : ByteArray) (l : List (Int × List ByteArray)) (m : List Rq) : Prop := k.size ≤ 1000 ∧ SmallS l ∧ SmallR m ∧ (flat (sigsB l)).length + (flat (reqsB m)).length ≤ 900000
theorem SmallB.block {v p cv : Int} {k : ByteArray} {l : List (Int × List ByteArray)} {m : List Rq} (h : SmallB k l m) : (blockB v p cv k l m).size ≤ 1000000 := by
  obtain ⟨h1, _, _, h2⟩ := h
  unfold blockB
  simp only [ByteArray.size_append, num_size, certB_size, flat_size]
  omega
/-- the six cells of a block's box, and what was as it was -/
def Six (base g : Nat) (v0 v1 v2 v3 v4 v5 : Value) (w w' : World) : Prop :=
  w'.cell? ⟨g, 0, none⟩ = some v0 ∧ w'.cell? ⟨g, 1, none⟩ = some v1 ∧ w'.cell? ⟨g, 2, none⟩ = some v2 ∧ w'.cell? ⟨g, 3, none⟩ = some v3 ∧ w'.cell? ⟨g, 4, none⟩ = some v4 ∧ w'.cell? ⟨g, 5, none⟩ = some v5 ∧ Below base w w' ∧ base ≤ w'.heap.size
theorem Six.on {base g : Nat} {v0 v1 v2 v3 v4 v5 : Value} {w w1 w2 : World} (h : Six base g v0 v1 v2 v3 v4 v5 w w1) (hb : Below w1.heap.size w1 w2) : Six base g v0 v1 v2 v3 v4 v5 w w2 := keep6 h hb
theorem Six.below {base g : Nat} {v0 v1 v2 v3 v4 v5 : Value} {w w1 : World} (h : Six base g v0 v1 v2 v3 v4 v5 w w1) : Below base w w1 := h.2.2.2.2.2.2.1
theorem Six.same {base g : Nat} {v0 v1 v2 v3 v4 v5 : Value} {w w1 w2 : World} (h : Six base g v0 v1 v2 v3 v4 v5 w w1) (hs : Same w1 w2) : Six base g v0 v1 v2 v3 v4 v5 w w2 := h.on (hs.below _)
theorem Six.mk {w : World} (v0 v1 v2 v3 v4 v5 : Value) (t : TypeId) : Six w.heap.size w.heap.size v0 v1 v2 v3 v4 v5 w (w.alloc (.cells #[v0, v1, v2, v3, v4, v5] t)) := by
  have k := box_mk w [v0, v1, v2, v3, v4, v5] t
  exact ⟨k.cell 0 _ rfl, k.cell 1 _ rfl, k.cell 2 _ rfl, k.cell 3 _ rfl, k.cell 4 _ rfl, k.cell 5 _ rfl, k.below, k.below.size⟩
end JJ
namespace Go.Proofs.YthajnkcipifhcaaGreatDoor
open JJ CC WW BB MM
end Go.Proofs.YthajnkcipifhcaaGreatDoor
end
section
open Go Go.RowKit
namespace JJ
open CC BB WW MM
theorem reqs_nil (w : World) : ReqsAt w (.slice none 0 0) [] := ⟨none, 0, rfl, Or.inl rfl⟩
end JJ
namespace Go.Proofs.YthajnkcipifhcaaGreatDoor
open JJ CC WW BB MM
end Go.Proofs.YthajnkcipifhcaaGreatDoor
end
section
open Go Go.RowKit
namespace JJ
open CC BB WW MM
theorem cells6 {w w' : World} {g y : Nat} {v0 v1 v2 v3 v4 v5 u0 u1 u2 u3 u4 u5 : Value} (h : BS w g [v0, v1, v2, v3, v4, v5] y [u0, u1, u2, u3, u4, u5] w') :
    (w'.cell? ⟨g, 0, none⟩ = some v0 ∧ w'.cell? ⟨g, 1, none⟩ = some v1 ∧ w'.cell? ⟨g, 2, none⟩ = some v2 ∧ w'.cell? ⟨g, 3, none⟩ = some v3 ∧ w'.cell? ⟨g, 4, none⟩ = some v4 ∧ w'.cell? ⟨g, 5, none⟩ = some v5) ∧
    w'.cell? ⟨y, 0, none⟩ = some u0 ∧ w'.cell? ⟨y, 1, none⟩ = some u1 ∧ w'.cell? ⟨y, 2, none⟩ = some u2 ∧ w'.cell? ⟨y, 3, none⟩ = some u3 ∧ w'.cell? ⟨y, 4, none⟩ = some u4 ∧ w'.cell? ⟨y, 5, none⟩ = some u5 :=
  ⟨⟨h.a.cell 0 _ rfl, h.a.cell 1 _ rfl, h.a.cell 2 _ rfl, h.a.cell 3 _ rfl, h.a.cell 4 _ rfl, h.a.cell 5 _ rfl⟩, h.b 0 _ rfl, h.b 1 _ rfl, h.b 2 _ rfl, h.b 3 _ rfl, h.b 4 _ rfl, h.b 5 _ rfl⟩
end JJ
namespace Go.Proofs.YthajnkcipifhcaaGreatDoor
open JJ CC WW BB MM
end Go.Proofs.YthajnkcipifhcaaGreatDoor
end
