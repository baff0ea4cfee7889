/-
  A state that comes in, opened.
-/
import Derived.Test.YtegkhhegapnkpaaDoorKWOpen
import Derived.OpenShut
open Go Go.RowKit
namespace Go.Proofs.YtegkhhegapnkpaaDoor
open WW BB Go.WideShapes Go.ChangeShapes Go.Deep
section
variable {H : Type} {enc : TypeId × Value → H} {W : World} {v : Value} {d : DataW H} {p : List MemPlace}
theorem cells_state : Tryd.prog.cellsOf 72 = 2 := by kernel_rfl
set_option maxRecDepth 100000 in
theorem openv_state (hval : Value.okWide Tryd.prog W .any 0 72 v) (h : DataW.Trod enc Tryd.prog W 0 (fun _ => true) true 72 v d p) : ∃ a b, v = .agg #[.int .i64 a, .int .i64 b] := by
  obtain ⟨cs, rfl, _⟩ := okWide_struct Tryd.underlying72 hval
  obtain ⟨fuel, hf⟩ := h
  obtain ⟨y0, y1, n, _, hl, h0, h1⟩ := trod_struct2 Tryd.underlying72 hf
  rw [cells_state] at hl
  obtain ⟨l⟩ := cs
  have hl : l.length = 2 := hl
  match l, hl with
  | [u0, u1], _ =>
    obtain ⟨a, ea, _, _⟩ := DataW.trod_int Tryd.underlying3 h0
    obtain ⟨b, eb, _, _⟩ := DataW.trod_int Tryd.underlying3 h1
    have ea : [u0] = [.int .i64 a] := ea
    have eb : [u1] = [.int .i64 b] := eb
    simp only [List.cons.injEq, and_true] at ea eb
    exact ⟨a, b, by rw [ea, eb]⟩
end
end Go.Proofs.YtegkhhegapnkpaaDoor
