/-
  What comes in to the laws of memories, opened.
-/
import Derived.Test.YtnahebfhhcebpaaKGOpenB
import Derived.Test.YtnahebfhhcebpaaKWOpen
import Derived.OpenShut
import Derived.Test.YtnahebfhhcebpaaKTSame
open Go Go.RowKit
namespace TT
theorem wf_i64t {n : Int} (h : (Lit.int .i64 n).wf = true) : -9223372036854775808 ≤ n ∧ n ≤ 9223372036854775807 := by
  simp [Lit.wf, IntKind.min, IntKind.max, IntKind.signed, IntKind.bits] at h
  omega
end TT
namespace Go.Proofs.Ytnahebfhhcebpaa
open TT SS RR FF JJ CC WW BB Go.WideShapes Go.ChangeShapes Go.Deep
section
variable {H : Type} {enc : TypeId × Value → H} {W : World} {v : Value} {d : DataW H} {p : List MemPlace}
theorem trod_struct6 {P : Program} {w : World} {base : Nat} {spare : Nat → Bool} {held : Bool} {t : TypeId} {f0 f1 f2 f3 f4 f5 : Field} {fuel : Nat} {cs : List Value} {x : DataW H × List MemPlace} (ht : P.underlying t = some (.struct #[f0, f1, f2, f3, f4, f5])) (h : DataW.trod enc P w base spare held fuel t cs = some x) :
    ∃ y0 y1 y2 y3 y4 y5 n, cs.length = P.cellsOf t ∧ DataW.trod enc P w base spare held n f0.type ((cs.drop f0.offset).take (P.cellsOf f0.type)) = some y0 ∧ DataW.trod enc P w base spare held n f1.type ((cs.drop f1.offset).take (P.cellsOf f1.type)) = some y1 ∧
      DataW.trod enc P w base spare held n f2.type ((cs.drop f2.offset).take (P.cellsOf f2.type)) = some y2 ∧ DataW.trod enc P w base spare held n f3.type ((cs.drop f3.offset).take (P.cellsOf f3.type)) = some y3 ∧
      DataW.trod enc P w base spare held n f4.type ((cs.drop f4.offset).take (P.cellsOf f4.type)) = some y4 ∧ DataW.trod enc P w base spare held n f5.type ((cs.drop f5.offset).take (P.cellsOf f5.type)) = some y5 := by
  obtain ⟨xs, n, _, rfl, hl, hlen, hf⟩ := DataW.trod_struct ht h
  match xs, hlen with
  | [y0, y1, y2, y3, y4, y5], _ => exact ⟨y0, y1, y2, y3, y4, y5, n, hl, by simpa using hf 0 f0 rfl, by simpa using hf 1 f1 rfl, by simpa using hf 2 f2 rfl, by simpa using hf 3 f3 rfl, by simpa using hf 4 f4 rfl, by simpa using hf 5 f5 rfl⟩
set_option maxRecDepth 100000 in
theorem openv_strs (hval : Value.okWide Try.prog W .any 0 22 v) (h : DataW.Trod enc Try.prog W 0 (fun _ => true) true 22 v d p) : ∃ l, StrsAt W v l := by
  obtain ⟨s0, len, scap, rfl⟩ := okWide_slice Try.underlying22 hval
  obtain ⟨fuel, hf⟩ := h
  obtain ⟨sv, l, hc, h1, h2⟩ := open_strs hf
  have hc : [_] = [sv] := hc
  simp only [List.cons.injEq, and_true] at hc
  exact ⟨l, hc ▸ h1⟩
set_option maxRecDepth 100000 in
theorem open_bvs {fuel : Nat} {cs : List Value} {x : DataW H × List MemPlace} (h : TrodW enc W fuel 27 cs x) : ∃ sv, ∃ M : List Bv, cs = [sv] ∧ BvAt W sv M ∧ (∀ x ∈ M, MemI x.1) ∧ M.length ≤ 9223372036854775807 := by
  obtain ⟨a0, cap, l, hc, hm, hl⟩ := open_each (α := Bv) 6 vb0 (fun cs' a => cs' = encB a ∧ InnB W a ∧ MemI a.1) Try.underlying27 cells_blk (by omega) h (fun n cs' y hy => by
    obtain ⟨v', p', cv, k, sv, rv, l, m, hc, h1, h2, h3, h4, h5⟩ := open_block hy
    exact ⟨((((v', p'), ((cv, k), l)), m), sv, rv), hc, ⟨h1, h2⟩, h3, h4, h5⟩)
  refine ⟨_, l, hc, ⟨a0, cap, rfl, ?_⟩, fun x hx => ?_, hm⟩
  · rcases hl with hl | ⟨b, off, hb, hlt, hx⟩
    · exact Or.inl hl
    · refine Or.inr ⟨b, off, hb, hlt, fun i hi => ?_⟩
      obtain ⟨cs', h1, ⟨rfl, h2, _⟩, h4⟩ := hx i hi
      exact ⟨fun j u hu => by
        have hj : j < (encB (l.getD i vb0)).length := (List.getElem?_eq_some_iff.1 hu).1
        rw [h4 j hj]; exact hu, h2⟩
  · rcases hl with hl | ⟨b, off, hb, hlt, hx2⟩
    · subst hl; cases hx
    · obtain ⟨i, hi, rfl⟩ := List.getElem_of_mem hx
      obtain ⟨cs', h1, ⟨_, _, h2⟩, h4⟩ := hx2 i hi
      rwa [getD_at hi] at h2
/-- a save, opened -/
def OpR10 (W : World) (cs : List Value) (o : Op10) : Prop := cs = [.int .i64 o.s.1, .int .i64 o.s.2, o.lv, .bool o.fz, .int .i64 o.n, .bool o.cr, .int .i64 o.kp] ∧ BvAt W o.lv o.L ∧ MemT10 o
end
end Go.Proofs.Ytnahebfhhcebpaa
