/-
  Blocks, and the calls of the law, that come in: opened.
-/
import Derived.Test.YtnahebfhhcebpaaKEOpen
import Derived.Test.YtnahebfhhcebpaaKJUnlike
import Derived.Test.YtnahebfhhcebpaaKTApp
open Go Go.RowKit
namespace FF
open WW BB
/-- v is a slice of the law's calls: a place, and whether to prune -/
def OpsAt (w : World) (v : Value) (l : List (Nat × Bool)) : Prop :=
  ∃ a0 cap, v = .slice a0 l.length cap ∧ (l = [] ∨ ∃ b off, a0 = some ⟨b, off, none⟩ ∧ b < w.heap.size ∧
    ∀ i, i < l.length → w.cell? ⟨b, off + i * 2, none⟩ = some (.int .u8 ((l.getD i (0, false)).1 : Int)) ∧ w.cell? ⟨b, off + i * 2 + 1, none⟩ = some (.bool (l.getD i (0, false)).2))
end FF
namespace Go.Proofs.Ytnahebfhhcebpaa
open FF JJ CC WW BB Go.WideShapes Go.ChangeShapes Go.Deep
section
variable {H : Type} {enc : TypeId × Value → H} {W : World} {v : Value} {d : DataW H} {p : List MemPlace}
theorem cells_blk : Try.prog.cellsOf 51 = 6 := by kernel_rfl
set_option maxRecDepth 100000 in
theorem openv_blocks (hval : Value.okWide Try.prog W .any 0 27 v) (h : DataW.Trod enc Try.prog W 0 (fun _ => true) true 27 v d p) :
    ∃ M : List Bv, BvAt W v M ∧ (∀ x ∈ M, MemI x.1) ∧ M.length ≤ 9223372036854775807 := by
  obtain ⟨s0, len, scap, rfl⟩ := okWide_slice Try.underlying27 hval
  obtain ⟨fuel, hf⟩ := h
  obtain ⟨a0, cap, l, hc, hm, hl⟩ := open_each (α := Bv) 6 vb0 (fun cs' a => cs' = encB a ∧ InnB W a ∧ MemI a.1) Try.underlying27 cells_blk (by omega) hf (fun n cs' y hy => by
    obtain ⟨v', p', cv, k, sv, rv, l, m, hc, h1, h2, h3, h4, h5⟩ := open_block hy
    exact ⟨((((v', p'), ((cv, k), l)), m), sv, rv), hc, ⟨h1, h2⟩, h3, h4, h5⟩)
  have hc : [Value.slice s0 len scap] = [.slice a0 l.length cap] := hc
  simp only [List.cons.injEq, and_true] at hc
  rw [hc]
  refine ⟨l, ⟨a0, cap, rfl, ?_⟩, fun x hx => ?_, hm⟩
  · rcases hl with hl | ⟨b, off, hb, hlt, hx⟩
    · exact Or.inl hl
    · refine Or.inr ⟨b, off, hb, hlt, fun i hi => ?_⟩
      obtain ⟨cs', h1, ⟨rfl, h2, _⟩, h4⟩ := hx i hi
      exact ⟨fun j u hu => by
        have hj : j < (encB (l.getD i vb0)).length := (List.getElem?_eq_some_iff.1 hu).1
        rw [h4 j hj]; exact hu, h2⟩
  · rcases hl with hl | ⟨b, off, hb, hlt, hx2⟩
    · subst hl; cases hx
    · obtain ⟨i, hi, rfl⟩ := List.getElem_of_mem hx
      obtain ⟨cs', h1, ⟨_, _, h2⟩, h4⟩ := hx2 i hi
      rwa [getD_at hi] at h2
end
end Go.Proofs.Ytnahebfhhcebpaa
