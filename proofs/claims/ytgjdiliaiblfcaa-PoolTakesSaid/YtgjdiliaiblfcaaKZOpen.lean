/-
  What comes in to the laws of pools, opened.
-/
import Derived.Test.YtgjdiliaiblfcaaKWOpen
import Derived.Test.YtgjdiliaiblfcaaKEOpen
import Derived.Test.YtgjdiliaiblfcaaKZTw
open Go Go.RowKit
namespace ZZ
theorem wf_i64z {n : Int} (h : (Lit.int .i64 n).wf = true) : -9223372036854775808 ≤ n ∧ n ≤ 9223372036854775807 := by
  simp [Lit.wf, IntKind.min, IntKind.max, IntKind.signed, IntKind.bits] at h
  omega
theorem wf_u8z {n : Int} (h : (Lit.int .u8 n).wf = true) : 0 ≤ n ∧ n < 256 := by
  simp [Lit.wf, IntKind.min, IntKind.max, IntKind.signed, IntKind.bits] at h
  omega
end ZZ
namespace Go.Proofs.Ytgjdiliaiblfcaa
open ZZ FF JJ CC WW BB Go.WideShapes Go.ChangeShapes Go.Deep
section
variable {H : Type} {enc : TypeId × Value → H} {W : World} {v : Value} {d : DataW H} {p : List MemPlace}
theorem cells_op12 : Try.prog.cellsOf 35 = 5 := by kernel_rfl
/-- a call, opened -/
def OpR12 (W : World) (cs : List Value) (o : OpP) : Prop := cs = [.int .u8 (o.k : Int), .int .i64 o.r.1, .int .i64 o.r.2.1, .string o.r.2.2, o.lv] ∧ ReqsAt W o.lv o.l ∧ o.l.length ≤ 9223372036854775807 ∧ o.r.2.2.size ≤ 9223372036854775807 ∧ o.k < 256
set_option maxRecDepth 100000 in
theorem open_op12 {fuel : Nat} {cs : List Value} {x : DataW H × List MemPlace} (h : TrodW enc W fuel 35 cs x) : ∃ o : OpP, OpR12 W cs o := by
  obtain ⟨y0, y1, y2, n, _, hl, h0, h1, h2⟩ := trod_struct3 Try.underlying35 h
  rw [cells_op12] at hl
  match cs, hl with
  | [u0, u1, u2, u3, u4], _ =>
    obtain ⟨a, ea, _, wa⟩ := DataW.trod_int Try.underlying5 h0
    have h1 : TrodW enc W n 33 [u1, u2, u3] y1 := h1
    obtain ⟨c, q, s, er, hz⟩ := open_req h1
    obtain ⟨lv, L, e2, hb, hm⟩ := open_reqs (cs := [u4]) h2
    have ea : [u0] = [.int .u8 a] := ea
    simp only [List.cons.injEq, and_true] at ea er e2
    have hw := wf_u8z wa
    obtain ⟨m, rfl⟩ := Int.eq_ofNat_of_zero_le hw.1
    exact ⟨⟨m, (c, q, s), lv, L⟩, by rw [ea, er.1, er.2.1, er.2.2, e2], hb, hm, hz, by show m < 256; omega⟩
set_option maxRecDepth 100000 in
theorem openv_ops12 (hval : Value.okWide Try.prog W .any 0 22 v) (h : DataW.Trod enc Try.prog W 0 (fun _ => true) true 22 v d p) :
    ∃ l : List OpP, OpsZ W v l ∧ MemZ l := by
  obtain ⟨s0, len, scap, rfl⟩ := okWide_slice Try.underlying22 hval
  obtain ⟨fuel, hf⟩ := h
  obtain ⟨a0, cap, l, hc, hm, hl⟩ := open_each (α := OpP) 5 opP0 (OpR12 W) Try.underlying22 cells_op12 (by omega) hf (fun n cs' y hy => open_op12 hy)
  have hc : [Value.slice s0 len scap] = [.slice a0 l.length cap] := hc
  simp only [List.cons.injEq, and_true] at hc
  rw [hc]
  refine ⟨l, ⟨a0, cap, rfl, ?_⟩, hm, fun o ho => ?_⟩
  · rcases hl with hl | ⟨b, off, hb, hlt, hx⟩
    · exact Or.inl hl
    · refine Or.inr ⟨b, off, hb, hlt, fun i hi => ?_⟩
      obtain ⟨cs', h1, ⟨rfl, h2, _⟩, h4⟩ := hx i hi
      exact ⟨h4 0 (by omega), h4 1 (by omega), h4 2 (by omega), h4 3 (by omega), h4 4 (by omega), h2⟩
  · rcases hl with hl | ⟨b, off, hb, hlt, hx2⟩
    · subst hl; cases ho
    · obtain ⟨i, hi, rfl⟩ := List.getElem_of_mem ho
      obtain ⟨cs', h1, ⟨_, _, h2⟩, h4⟩ := hx2 i hi
      rw [List.getD_eq_getElem?_getD, List.getElem?_eq_getElem hi] at h2
      exact h2
set_option maxRecDepth 100000 in
theorem openv_req12 (hval : Value.okWide Try.prog W .any 0 33 v) (h : DataW.Trod enc Try.prog W 0 (fun _ => true) true 33 v d p) :
    ∃ (c q : Int) (s : ByteArray), v = .agg #[.int .i64 c, .int .i64 q, .string s] ∧ s.size ≤ 9223372036854775807 := by
  obtain ⟨cs, rfl, _⟩ := okWide_struct Try.underlying33 hval
  obtain ⟨fuel, hf⟩ := h
  obtain ⟨c, q, s, hc, hz⟩ := open_req hf
  refine ⟨c, q, s, ?_, hz⟩
  have hc : cs.toList = _ := hc
  rw [show cs = cs.toList.toArray by simp, hc]
set_option maxRecDepth 100000 in
theorem openv_reqs12 (hval : Value.okWide Try.prog W .any 0 27 v) (h : DataW.Trod enc Try.prog W 0 (fun _ => true) true 27 v d p) : ∃ l : List Rq, ReqsAt W v l := by
  obtain ⟨s0, len, scap, rfl⟩ := okWide_slice Try.underlying27 hval
  obtain ⟨fuel, hf⟩ := h
  obtain ⟨rv, l, hc, h1, _⟩ := open_reqs hf
  have hc : [_] = [rv] := hc
  simp only [List.cons.injEq, and_true] at hc
  exact ⟨l, hc ▸ h1⟩
end
end Go.Proofs.Ytgjdiliaiblfcaa
