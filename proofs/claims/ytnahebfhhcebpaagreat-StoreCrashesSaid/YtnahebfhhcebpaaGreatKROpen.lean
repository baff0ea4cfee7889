/-
  A state that comes in, opened.
-/
import Derived.Test.YtnahebfhhcebpaaGreatKWOpen
import Derived.OpenShut
open Go Go.RowKit
namespace Go.Proofs.YtnahebfhhcebpaaGreat
open WW BB Go.WideShapes Go.ChangeShapes Go.Deep
section
variable {H : Type} {enc : TypeId × Value → H} {W : World} {v : Value} {d : DataW H} {p : List MemPlace}
theorem cells_state : Tryz.prog.cellsOf 33 = 2 := by kernel_rfl
set_option maxRecDepth 100000 in
theorem openv_state (hval : Value.okWide Tryz.prog W .any 0 33 v) (h : DataW.Trod enc Tryz.prog W 0 (fun _ => true) true 33 v d p) : ∃ a b, v = .agg #[.int .i64 a, .int .i64 b] := by
  obtain ⟨cs, rfl, _⟩ := okWide_struct Tryz.underlying33 hval
  obtain ⟨fuel, hf⟩ := h
  obtain ⟨y0, y1, n, _, hl, h0, h1⟩ := trod_struct2 Tryz.underlying33 hf
  rw [cells_state] at hl
  obtain ⟨l⟩ := cs
  have hl : l.length = 2 := hl
  match l, hl with
  | [u0, u1], _ =>
    obtain ⟨a, ea, _, _⟩ := DataW.trod_int Tryz.underlying3 h0
    obtain ⟨b, eb, _, _⟩ := DataW.trod_int Tryz.underlying3 h1
    have ea : [u0] = [.int .i64 a] := ea
    have eb : [u1] = [.int .i64 b] := eb
    simp only [List.cons.injEq, and_true] at ea eb
    exact ⟨a, b, by rw [ea, eb]⟩
end
end Go.Proofs.YtnahebfhhcebpaaGreat
