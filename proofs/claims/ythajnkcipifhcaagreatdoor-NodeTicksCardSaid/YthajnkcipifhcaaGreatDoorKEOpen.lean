/-
  What comes in to the laws of certificates, opened.
-/
import Derived.Test.YthajnkcipifhcaaGreatDoorRows
import Derived.Test.YthajnkcipifhcaaGreatDoorKWFew
import Derived.Test.YthajnkcipifhcaaGreatDoorKCallsW
import Derived.Test.YthajnkcipifhcaaGreatDoorChecked
import Derived.SliceStrings
import Derived.Lib.SmallJoins
import Derived.Deep.Slices
import Derived.Deep.Strs
import Derived.Test.YthajnkcipifhcaaGreatDoorKLNum
import Derived.ChangeSlices
import Derived.WideKeyPair
import Derived.WideKeyArr2
import Derived.Laws.IdiomArrays
import Derived.OpenShut
open Go Go.RowKit
namespace CC
open BB WW
/-- v is a slice of the bytes l -/
def NatsAt (w : World) (v : Value) (l : List Nat) : Prop :=
  ∃ a0 cap, v = .slice a0 l.length cap ∧ l.length ≤ 9223372036854775807 ∧ (∀ x ∈ l, x < 256) ∧ (l = [] ∨ ∃ b off, a0 = some ⟨b, off, none⟩ ∧ b < w.heap.size ∧ ∀ i, i < l.length → w.cell? ⟨b, off + i, none⟩ = some (.int .u8 (l.getD i 0 : Nat)))
theorem NatsAt.later {w w' : World} {v : Value} {l : List Nat} (h : NatsAt w v l) (hb : Below w.heap.size w w') : NatsAt w' v l := by
  obtain ⟨a0, cap, rfl, hn, hm, h | ⟨b, off, rfl, hl, hc⟩⟩ := h
  · exact ⟨a0, cap, rfl, hn, hm, Or.inl h⟩
  · exact ⟨_, cap, rfl, hn, hm, Or.inr ⟨b, off, rfl, Nat.lt_of_lt_of_le hl hb.size, fun i hi => (hb.cell (p := ⟨b, off + i, none⟩) hl).trans (hc i hi)⟩⟩
theorem wf_u8 {a : Int} (wa : (Lit.int .u8 a).wf = true) : 0 ≤ a ∧ a < 256 := by
  simp [Lit.wf, IntKind.min, IntKind.max, IntKind.bits, IntKind.signed] at wa
  omega
end CC
namespace Go.Proofs.YthajnkcipifhcaaGreatDoor
open CC WW BB Go.WideShapes Go.ChangeShapes Go.Deep
section
variable {H : Type} {enc : TypeId × Value → H} {W : World} {v : Value} {d : DataW H} {p : List MemPlace}
set_option maxRecDepth 100000 in
theorem openv_u8 (h : DataW.Trod enc Tryz.prog W 0 (fun _ => true) true 5 v d p) (hval : Value.okWide Tryz.prog W .any 0 5 v) : ∃ a : Nat, v = .int .u8 (a : Int) ∧ a < 256 := by
  obtain ⟨a, rfl, _, _, wf⟩ := open_int Tryz.underlying5 hval h
  have hw := wf_u8 wf
  obtain ⟨m, rfl⟩ := Int.eq_ofNat_of_zero_le hw.1
  exact ⟨m, rfl, by omega⟩
end
end Go.Proofs.YthajnkcipifhcaaGreatDoor
