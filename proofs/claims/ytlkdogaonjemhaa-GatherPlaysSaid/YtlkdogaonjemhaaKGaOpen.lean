/-
  What comes in to the laws of gathers, opened.
-/
import Derived.Test.YtlkdogaonjemhaaKWOpen
import Derived.Test.YtlkdogaonjemhaaKEOpen
import Derived.Test.YtlkdogaonjemhaaKGaLawR
open Go Go.RowKit
namespace GA
theorem wf_i64g {n : Int} (h : (Lit.int .i64 n).wf = true) : -9223372036854775808 ≤ n ∧ n ≤ 9223372036854775807 := by
  simp [Lit.wf, IntKind.min, IntKind.max, IntKind.signed, IntKind.bits] at h
  omega
end GA
namespace Go.Proofs.Ytlkdogaonjemhaa
open GA FF CC WW BB Go.WideShapes Go.ChangeShapes Go.Deep
section
variable {H : Type} {enc : TypeId × Value → H} {W : World} {v : Value} {d : DataW H} {p : List MemPlace}
theorem cells_op16 : Try.prog.cellsOf 28 = 2 := by kernel_rfl
set_option maxRecDepth 100000 in
theorem openv_pair16 (hval : Value.okWide Try.prog W .any 0 36 v) (h : DataW.Trod enc Try.prog W 0 (fun _ => true) true 36 v d p) : ∃ a b, v = .agg #[.int .i64 a, .int .i64 b] ∧ (-9223372036854775808 ≤ a ∧ a ≤ 9223372036854775807) ∧ -9223372036854775808 ≤ b ∧ b ≤ 9223372036854775807 := by
  obtain ⟨a, b, rfl, _, _, h1, h2⟩ := Go.WideMaps.open_pair (k := 36) (e := 3) ⟨Try.underlying36, by kernel_rfl, by kernel_rfl, by kernel_rfl⟩ Try.underlying3 hval h
  exact ⟨a, b, rfl, wf_i64g h1, wf_i64g h2⟩
set_option maxRecDepth 100000 in
theorem openv_ops16 (hval : Value.okWide Try.prog W .any 0 22 v) (h : DataW.Trod enc Try.prog W 0 (fun _ => true) true 22 v d p) :
    ∃ l : List OpG, OpsGAt W v l ∧ MemG l := by
  obtain ⟨s0, len, scap, rfl⟩ := okWide_slice Try.underlying22 hval
  obtain ⟨fuel, hf⟩ := h
  have hcap : len ≤ scap := by
    rcases open_slice Try.underlying22 hf with ⟨hcs, _⟩ | ⟨a', len', cap', m, n', D, Pl, hcs, _, hl, _⟩
    · have hcs : [_] = [_] := hcs
      simp only [List.cons.injEq, and_true, Value.slice.injEq] at hcs
      obtain ⟨_, h, _⟩ := hcs
      omega
    · have hcs : [_] = [_] := hcs
      simp only [List.cons.injEq, and_true, Value.slice.injEq] at hcs
      obtain ⟨_, h, h'⟩ := hcs
      omega
  obtain ⟨a0, cap, l, hc, hm, hl⟩ := open_each (α := OpG) 2 opG0 (fun cs' a => cs' = [.int .i64 a.1, .int .i64 a.2] ∧ (-9223372036854775808 ≤ a.1 ∧ a.1 ≤ 9223372036854775807) ∧ -9223372036854775808 ≤ a.2 ∧ a.2 ≤ 9223372036854775807) Try.underlying22 cells_op16 (by omega) hf (fun n cs' y hy => by
    obtain ⟨y0, y1, n, _, hl, h0, h1⟩ := trod_struct2 Try.underlying28 hy
    rw [cells_op16] at hl
    match cs', hl with
    | [u0, u1], _ =>
      obtain ⟨a, ea, _, wa⟩ := DataW.trod_int Try.underlying3 h0
      obtain ⟨b, eb, _, wb⟩ := DataW.trod_int Try.underlying3 h1
      have ea : [u0] = [.int .i64 a] := ea
      have eb : [u1] = [.int .i64 b] := eb
      simp only [List.cons.injEq, and_true] at ea eb
      exact ⟨(a, b), by rw [ea, eb], wf_i64g wa, wf_i64g wb⟩)
  have hc : [Value.slice s0 len scap] = [.slice a0 l.length cap] := hc
  simp only [List.cons.injEq, and_true] at hc
  injection hc with e1 e2 e3
  subst e1 e2 e3
  refine ⟨l, ⟨s0, scap, rfl, hcap, ?_⟩, hm, fun o ho => ?_⟩
  · rcases hl with hl | ⟨b, off, hb, hlt, hx⟩
    · exact Or.inl hl
    · refine Or.inr ⟨b, off, hb, hlt, fun i hi => ?_⟩
      obtain ⟨cs', h1, ⟨rfl, _⟩, h4⟩ := hx i hi
      exact ⟨h4 0 (by omega), h4 1 (by omega)⟩
  · rcases hl with hl | ⟨b, off, hb, hlt, hx⟩
    · subst hl; cases ho
    · obtain ⟨i, hi, rfl⟩ := List.getElem_of_mem ho
      obtain ⟨cs', h1, ⟨_, h2⟩, h4⟩ := hx i hi
      rw [List.getD_eq_getElem?_getD, List.getElem?_eq_getElem hi] at h2
      exact h2
end
end Go.Proofs.Ytlkdogaonjemhaa
