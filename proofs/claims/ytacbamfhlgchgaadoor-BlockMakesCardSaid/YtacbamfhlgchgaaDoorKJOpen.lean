/-
  What comes in to the laws of blocks, opened.
-/
import Derived.Test.YtacbamfhlgchgaaDoorKEOpen
import Derived.Test.YtacbamfhlgchgaaDoorKJUnlike
open Go Go.RowKit
namespace Go.Proofs.YtacbamfhlgchgaaDoor
open JJ CC WW BB Go.WideShapes Go.ChangeShapes Go.Deep
section
variable {H : Type} {enc : TypeId × Value → H} {W : World} {v : Value} {d : DataW H} {p : List MemPlace}
set_option maxRecDepth 100000 in
theorem openv_block (hval : Value.okWide Tryd.prog W .any 0 29 v) (h : DataW.Trod enc Tryd.prog W 0 (fun _ => true) true 29 v d p) :
    ∃ v' p' cv k sv rv l m, v = .agg #[.int .i64 v', .int .i64 p', .int .i64 cv, .string k, sv, rv] ∧ SigsAt W sv l ∧ ReqsAt W rv m ∧ MemS l ∧ k.size ≤ 9223372036854775807 ∧ m.length ≤ 9223372036854775807 := by
  obtain ⟨cs, rfl, _⟩ := okWide_struct Tryd.underlying29 hval
  obtain ⟨fuel, hf⟩ := h
  obtain ⟨v', p', cv, k, sv, rv, l, m, hc, hF⟩ := open_block hf
  refine ⟨v', p', cv, k, sv, rv, l, m, ?_, hF⟩
  have hc : cs.toList = _ := hc
  rw [show cs = cs.toList.toArray by simp, hc]
set_option maxRecDepth 100000 in
theorem open_req64 {fuel : Nat} {cs : List Value} {x : DataW H × List MemPlace} (h : TrodW enc W fuel 34 cs x) : ∃ r : Rq, cs = [.int .i64 r.1, .int .i64 r.2.1, .string r.2.2] ∧ In64 (keyR r) := by
  obtain ⟨y0, y1, y2, n, _, hl, h0, h1, h2⟩ := trod_struct3 Tryd.underlying34 h
  rw [cells_req] at hl
  match cs, hl with
  | [u0, u1, u2], _ =>
    obtain ⟨c, hc, _, wc⟩ := DataW.trod_int Tryd.underlying3 h0
    obtain ⟨q, hq, _, wq⟩ := DataW.trod_int Tryd.underlying3 h1
    obtain ⟨s, hs, _, hm⟩ := DataW.trod_string Tryd.underlying9 h2
    have e0 : [u0] = [.int .i64 c] := hc
    have e1 : [u1] = [.int .i64 q] := hq
    have e2 : [u2] = [.string s] := hs
    simp only [List.cons.injEq, and_true] at e0 e1 e2
    exact ⟨(c, q, s), by rw [e0, e1, e2], wf_i64 wc, wf_i64 wq⟩
set_option maxRecDepth 100000 in
theorem openv_reqs (hval : Value.okWide Tryd.prog W .any 0 25 v) (h : DataW.Trod enc Tryd.prog W 0 (fun _ => true) true 25 v d p) :
    ∃ l : List Rq, ReqsAt W v l ∧ l.length ≤ 9223372036854775807 ∧ ∀ r ∈ l, In64 (keyR r) := by
  obtain ⟨s0, len, scap, rfl⟩ := okWide_slice Tryd.underlying25 hval
  obtain ⟨fuel, hf⟩ := h
  obtain ⟨a0, cap, l, hc, hm, hl⟩ := open_each (α := Rq) 3 (0, 0, ⟨#[]⟩) (fun cs' a => cs' = [.int .i64 a.1, .int .i64 a.2.1, .string a.2.2] ∧ In64 (keyR a)) Tryd.underlying25 cells_req (by omega) hf (fun n cs' y hy => open_req64 hy)
  have hc : [Value.slice s0 len scap] = [.slice a0 l.length cap] := hc
  simp only [List.cons.injEq, and_true] at hc
  rw [hc]
  refine ⟨l, ⟨a0, cap, rfl, ?_⟩, hm, fun r hr => ?_⟩
  · rcases hl with hl | ⟨b, off, hb, hlt, hx⟩
    · exact Or.inl hl
    · refine Or.inr ⟨b, off, hb, hlt, fun i hi => ?_⟩
      obtain ⟨cs', h1, ⟨rfl, _⟩, h4⟩ := hx i hi
      exact ⟨h4 0 (by omega), h4 1 (by omega), h4 2 (by omega)⟩
  · rcases hl with hl | ⟨b, off, hb, hlt, hx⟩
    · subst hl; cases hr
    · obtain ⟨i, hi, rfl⟩ := List.getElem_of_mem hr
      obtain ⟨cs', h1, ⟨_, h2⟩, h4⟩ := hx i hi
      rw [show l.getD i (0, 0, ⟨#[]⟩) = l[i] by simp [List.getD, List.getElem?_eq_getElem hi]] at h2
      exact h2
end
end Go.Proofs.YtacbamfhlgchgaaDoor
