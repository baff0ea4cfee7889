/-
  What comes in, opened: lists of tags, of signatures, of requests; certificates and blocks.
-/
import Derived.Test.YtlkdogaonjemhaaRows
import Derived.Test.YtlkdogaonjemhaaKWBlock
import Derived.Test.YtlkdogaonjemhaaKWNumCut
import Derived.Deep.RegionHeld3
import Derived.Test.YtlkdogaonjemhaaKWOpenS
import Derived.SliceStrings
import Derived.Lib.SmallJoins
import Derived.Deep.Slices
import Derived.Deep.Strs
open Go Go.RowKit
namespace Go.Proofs.Ytlkdogaonjemhaa
open WW BB Go.WideShapes Go.ChangeShapes Go.Deep
section
variable {H : Type} {enc : TypeId × Value → H} {W : World}
/-- a slice's elements, one by one -/
theorem open_each {α : Type} {t e : TypeId} {fuel : Nat} {cs : List Value} {x : DataW H × List MemPlace} (k : Nat) (dflt : α) (R : List Value → α → Prop) (ht : Try.prog.underlying t = some (.slice e)) (hk : Try.prog.cellsOf e = k) (hk0 : 0 < k)
    (h : TrodW enc W fuel t cs x) (each : ∀ n cs' y, TrodW enc W n e cs' y → ∃ a, R cs' a) :
    ∃ a0 cap, ∃ l : List α, cs = [.slice a0 l.length cap] ∧ l.length ≤ 9223372036854775807 ∧ (l = [] ∨ ∃ b off, a0 = some ⟨b, off, none⟩ ∧ b < W.heap.size ∧ ∀ i, i < l.length → ∃ cs' : List Value, cs'.length = k ∧ R cs' (l.getD i dflt) ∧ ∀ j, j < k → W.cell? ⟨b, off + i * k + j, none⟩ = cs'[j]?) := by
  rcases open_slice ht h with ⟨rfl, _⟩ | ⟨a, len, cap, m, n, D, Pl, rfl, _, hl, hm, hmm, _, hx⟩
  · exact ⟨none, 0, [], rfl, by simp, Or.inl rfl⟩
  simp only [if_true] at hmm
  have hx' : ∀ i, i < len → ∃ a1 : α, ∃ cs' : List Value, W.cells? 0 (a.add (i * k)) k = some cs' ∧ R cs' a1 := fun i hi => by
    obtain ⟨cs', h1, h2⟩ := hx i (by omega)
    rw [hk] at h1
    obtain ⟨a1, ha⟩ := each n cs' _ h2
    exact ⟨a1, cs', h1, ha⟩
  haveI : Inhabited α := ⟨dflt⟩
  obtain ⟨f, hf⟩ := choose_lt hx'
  refine ⟨some a, cap, (List.range len).map f, by simp, by simp; exact Nat.le_trans hl (len_max hm), ?_⟩
  by_cases hl0 : len = 0
  · exact Or.inl (by subst hl0; rfl)
  refine Or.inr ?_
  obtain ⟨b, off, spot⟩ := a
  have hspot : spot = none := by
    obtain ⟨cs', h1, _⟩ := hf 0 (by omega)
    obtain ⟨_, h3, h4⟩ := World.cells?_some h1
    have h5 := h4 0 (by omega)
    rw [List.getElem?_eq_getElem (by omega)] at h5
    simpa [Addr.add] using World.cell?_spot h5
  subst hspot
  have hcell : ∀ i, i < len → ∃ cs' : List Value, cs'.length = k ∧ R cs' (f i) ∧ ∀ j, j < k → W.cell? ⟨b, off + i * k + j, none⟩ = cs'[j]? := fun i hi => by
    obtain ⟨cs', h1, h2⟩ := hf i hi
    obtain ⟨_, h3, h4⟩ := World.cells?_some h1
    refine ⟨cs', h3, h2, fun j hj => ?_⟩
    rw [← h4 j hj, add_plain, add_plain]
  refine ⟨b, off, rfl, ?_, fun i hi => ?_⟩
  · obtain ⟨cs', h3, _, h4⟩ := hcell 0 (by omega)
    have h5 := h4 0 hk0
    rw [List.getElem?_eq_getElem (by omega)] at h5
    exact World.block_lt_of_cell? W _ h5
  · have hi' : i < len := by simpa using hi
    have e : ((List.range len).map f).getD i dflt = f i := by
      rw [List.getD_eq_getElem?_getD, List.getElem?_eq_getElem (by simpa using hi')]; simp
    rw [e]
    exact hcell i hi'
theorem cells_int : Try.prog.cellsOf 3 = 1 := by kernel_rfl
end
end Go.Proofs.Ytlkdogaonjemhaa
