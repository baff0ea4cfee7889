/-
  What comes in to the laws of timers, opened.
-/
import Derived.Test.YtjabihkfflnndaaKWOpen
import Derived.Test.YtjabihkfflnndaaKEOpen
import Derived.Test.YtjabihkfflnndaaKTiLawH
open Go Go.RowKit
namespace TI
theorem wf_i64t {n : Int} (h : (Lit.int .i64 n).wf = true) : -9223372036854775808 ≤ n ∧ n ≤ 9223372036854775807 := by
  simp [Lit.wf, IntKind.min, IntKind.max, IntKind.signed, IntKind.bits] at h
  omega
theorem wf_u8t {n : Int} (h : (Lit.int .u8 n).wf = true) : 0 ≤ n ∧ n < 256 := by
  simp [Lit.wf, IntKind.min, IntKind.max, IntKind.signed, IntKind.bits] at h
  omega
end TI
namespace Go.Proofs.Ytjabihkfflnndaa
open TI FF CC WW BB Go.WideShapes Go.ChangeShapes Go.Deep
section
variable {H : Type} {enc : TypeId × Value → H} {W : World} {v : Value} {d : DataW H} {p : List MemPlace}
theorem cells_op15 : Try.prog.cellsOf 32 = 2 := by kernel_rfl
set_option maxRecDepth 100000 in
theorem openv_opsT (hval : Value.okWide Try.prog W .any 0 22 v) (h : DataW.Trod enc Try.prog W 0 (fun _ => true) true 22 v d p) :
    ∃ l : List OpT, OpsTAt W v l ∧ MemT15 l := by
  obtain ⟨s0, len, scap, rfl⟩ := okWide_slice Try.underlying22 hval
  obtain ⟨fuel, hf⟩ := h
  obtain ⟨a0, cap, l, hc, hm, hl⟩ := open_each (α := OpT) 2 opT0 (fun cs' a => cs' = [.int .u8 (a.1 : Int), .int .i64 a.2] ∧ a.1 < 256 ∧ -9223372036854775808 ≤ a.2 ∧ a.2 ≤ 9223372036854775807) Try.underlying22 cells_op15 (by omega) hf (fun n cs' y hy => by
    obtain ⟨y0, y1, n, _, hl, h0, h1⟩ := trod_struct2 Try.underlying32 hy
    rw [cells_op15] at hl
    match cs', hl with
    | [u0, u1], _ =>
      obtain ⟨a, ea, _, wa⟩ := DataW.trod_int Try.underlying5 h0
      obtain ⟨b, eb, _, wb⟩ := DataW.trod_int Try.underlying3 h1
      have ea : [u0] = [.int .u8 a] := ea
      have eb : [u1] = [.int .i64 b] := eb
      simp only [List.cons.injEq, and_true] at ea eb
      have hw := wf_u8t wa
      obtain ⟨m, rfl⟩ := Int.eq_ofNat_of_zero_le hw.1
      exact ⟨(m, b), by rw [ea, eb], by show m < 256; omega, wf_i64t wb⟩)
  have hc : [Value.slice s0 len scap] = [.slice a0 l.length cap] := hc
  simp only [List.cons.injEq, and_true] at hc
  rw [hc]
  refine ⟨l, ⟨a0, cap, rfl, ?_⟩, hm, fun o ho => ?_⟩
  · rcases hl with hl | ⟨b, off, hb, hlt, hx⟩
    · exact Or.inl hl
    · refine Or.inr ⟨b, off, hb, hlt, fun i hi => ?_⟩
      obtain ⟨cs', h1, ⟨rfl, _⟩, h4⟩ := hx i hi
      exact ⟨h4 0 (by omega), h4 1 (by omega)⟩
  · rcases hl with hl | ⟨b, off, hb, hlt, hx⟩
    · subst hl; cases ho
    · obtain ⟨i, hi, rfl⟩ := List.getElem_of_mem ho
      obtain ⟨cs', h1, ⟨_, h2⟩, h4⟩ := hx i hi
      rw [List.getD_eq_getElem?_getD, List.getElem?_eq_getElem hi] at h2
      exact h2
end
end Go.Proofs.Ytjabihkfflnndaa
