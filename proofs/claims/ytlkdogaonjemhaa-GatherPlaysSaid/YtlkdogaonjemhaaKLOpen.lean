/-
  Slices of ints: what they are, and how they come in.
-/
import Derived.Test.YtlkdogaonjemhaaRows
import Derived.Test.YtlkdogaonjemhaaKSlHi
import Derived.Test.YtlkdogaonjemhaaChecked
import Derived.ChangeSlices
import Derived.Lib.SmallJoins
import Derived.Deep.Slices
open Go Go.RowKit
namespace WW
/-- v is a slice of the ints l -/
def IntsAt (w : World) (v : Value) (l : List Int) : Prop :=
  ∃ a0 cap, v = .slice a0 l.length cap ∧ l.length ≤ 9223372036854775807 ∧ (l = [] ∨ ∃ b off, a0 = some ⟨b, off, none⟩ ∧ b < w.heap.size ∧ ∀ i, i < l.length → w.cell? ⟨b, off + i, none⟩ = some (.int .i64 (l.getD i 0)))
theorem IntsAt.later {w w' : World} {v : Value} {l : List Int} (h : IntsAt w v l) (hb : Below w.heap.size w w') : IntsAt w' v l := by
  obtain ⟨a0, cap, rfl, hn, h | ⟨b, off, rfl, hl, hc⟩⟩ := h
  · exact ⟨a0, cap, rfl, hn, Or.inl h⟩
  · exact ⟨_, cap, rfl, hn, Or.inr ⟨b, off, rfl, Nat.lt_of_lt_of_le hl hb.size, fun i hi => (hb.cell (p := ⟨b, off + i, none⟩) hl).trans (hc i hi)⟩⟩
theorem IntsAt.len {w : World} {v : Value} {l : List Int} (h : IntsAt w v l) : l.length ≤ 9223372036854775807 := by
  obtain ⟨_, _, _, hn, _⟩ := h; exact hn
end WW
namespace Go.Proofs.Ytlkdogaonjemhaa
open WW BB Go.WideShapes Go.ChangeShapes Go.Deep
section
variable {H : Type} {enc : TypeId × Value → H} {W : World}
set_option maxRecDepth 100000 in
theorem open_ints {fuel : Nat} {cs : List Value} {x : DataW H × List MemPlace} (h : DataW.trod enc Try.prog W 0 (fun _ => true) true fuel 38 cs = some x) : ∃ sv l, cs = [sv] ∧ IntsAt W sv l := by
  rcases Go.ChangeShapes.open_ints Try.underlying38 Try.underlying3 (by kernel_rfl) h with ⟨hcs, hx⟩ | ⟨a, len, cap, zs, hcs, _, hl, hm, hz, hx, hcell, hws⟩
  · exact ⟨_, [], hcs, none, 0, rfl, by simp, Or.inl rfl⟩
  · simp only [if_true] at hz
    have hm' : cap ≤ 9223372036854775807 := hm
    refine ⟨_, zs.take len, hcs, some a, cap, by rw [List.length_take_of_le (by omega)], by rw [List.length_take_of_le (by omega)]; omega, ?_⟩
    by_cases hl0 : len = 0
    · exact Or.inl (by subst hl0; rfl)
    · refine Or.inr ?_
      obtain ⟨b, off, spot⟩ := a
      have hspot : spot = none := by simpa [Addr.add] using World.cell?_spot (hcell 0 (by omega))
      subst hspot
      refine ⟨b, off, rfl, ?_, fun i hi => ?_⟩
      · have := hcell 0 (by omega)
        exact World.block_lt_of_cell? W _ this
      · rw [List.length_take_of_le (by omega)] at hi
        rw [← add_plain, hcell i (by omega)]
        simp only [List.getD_eq_getElem?_getD, List.getElem?_take_of_lt hi]
end
end Go.Proofs.Ytlkdogaonjemhaa
