/-
  What comes in to the laws of ledgers, opened: requests with their room, batches.
-/
import Derived.Test.YtbakceglaadfpaaDoorKWOpen
import Derived.Test.YtbakceglaadfpaaDoorKLeLawP
open Go Go.RowKit
namespace LE
theorem wf_i64l {n : Int} (h : (Lit.int .i64 n).wf = true) : -9223372036854775808 ≤ n ∧ n ≤ 9223372036854775807 := by
  simp [Lit.wf, IntKind.min, IntKind.max, IntKind.signed, IntKind.bits] at h
  omega
end LE
namespace Go.Proofs.YtbakceglaadfpaaDoor
open LE FF JJ CC WW BB Go.WideShapes Go.ChangeShapes Go.Deep
section
variable {H : Type} {enc : TypeId × Value → H} {W : World} {v : Value} {d : DataW H} {p : List MemPlace}
theorem cells_bat : Tryd.prog.cellsOf 27 = 1 := by kernel_rfl
set_option maxRecDepth 100000 in
theorem open_req13 {fuel : Nat} {cs : List Value} {x : DataW H × List MemPlace} (h : TrodW enc W fuel 34 cs x) : ∃ r : Rq, cs = [.int .i64 r.1, .int .i64 r.2.1, .string r.2.2] ∧ r.2.2.size ≤ 9223372036854775807 ∧ In64 (keyR r) := by
  obtain ⟨y0, y1, y2, n, _, hl, h0, h1, h2⟩ := trod_struct3 Tryd.underlying34 h
  rw [cells_req] at hl
  match cs, hl with
  | [u0, u1, u2], _ =>
    obtain ⟨c, hc, _, wc⟩ := DataW.trod_int Tryd.underlying3 h0
    obtain ⟨q, hq, _, wq⟩ := DataW.trod_int Tryd.underlying3 h1
    obtain ⟨s, hs, _, hm⟩ := DataW.trod_string Tryd.underlying9 h2
    have e0 : [u0] = [.int .i64 c] := hc
    have e1 : [u1] = [.int .i64 q] := hq
    have e2 : [u2] = [.string s] := hs
    simp only [List.cons.injEq, and_true] at e0 e1 e2
    exact ⟨(c, q, s), by rw [e0, e1, e2], len_max hm, wf_i64l wc, wf_i64l wq⟩
set_option maxRecDepth 100000 in
theorem open_reqsm {fuel : Nat} {cs : List Value} {x : DataW H × List MemPlace} (h : TrodW enc W fuel 27 cs x) : ∃ rv l, cs = [rv] ∧ ReqsAt W rv l ∧ MemRq l := by
  obtain ⟨a0, cap, l, rfl, hm, hl⟩ := open_each (α := Int × Int × ByteArray) 3 (0, 0, ⟨#[]⟩) (fun cs' a => cs' = [.int .i64 a.1, .int .i64 a.2.1, .string a.2.2] ∧ a.2.2.size ≤ 9223372036854775807 ∧ In64 (keyR a)) Tryd.underlying27 cells_req (by omega) h (fun n cs' y hy => open_req13 hy)
  refine ⟨_, l, rfl, ⟨a0, cap, rfl, ?_⟩, hm, fun r hr => ?_⟩
  · rcases hl with hl | ⟨b, off, hb, hlt, hc⟩
    · exact Or.inl hl
    · refine Or.inr ⟨b, off, hb, hlt, fun i hi => ?_⟩
      obtain ⟨cs', h1, ⟨rfl, _⟩, h4⟩ := hc i hi
      exact ⟨h4 0 (by omega), h4 1 (by omega), h4 2 (by omega)⟩
  · rcases hl with hl | ⟨b, off, hb, hlt, hc⟩
    · subst hl; cases hr
    · obtain ⟨i, hi, rfl⟩ := List.getElem_of_mem hr
      obtain ⟨cs', h1, ⟨_, h2⟩, h4⟩ := hc i hi
      rw [List.getD_eq_getElem?_getD, List.getElem?_eq_getElem hi] at h2
      exact h2
set_option maxRecDepth 100000 in
theorem openv_reqsm (hval : Value.okWide Tryd.prog W .any 0 27 v) (h : DataW.Trod enc Tryd.prog W 0 (fun _ => true) true 27 v d p) : ∃ l : List Rq, ReqsAt W v l ∧ MemRq l ∧ ∀ a n c, v = .slice a n c → n ≤ c := by
  obtain ⟨s0, len, scap, rfl⟩ := okWide_slice Tryd.underlying27 hval
  obtain ⟨fuel, hf⟩ := h
  obtain ⟨rv, l, hc, h1, h2⟩ := open_reqsm hf
  have hc : [_] = [rv] := hc
  simp only [List.cons.injEq, and_true] at hc
  refine ⟨l, hc ▸ h1, h2, fun a n c e => ?_⟩
  injection e with _ e2 e3
  subst e2 e3
  rcases open_slice Tryd.underlying27 hf with ⟨hcs, _⟩ | ⟨a', len', cap', m, n', D, Pl, hcs, _, hl, _⟩
  · have hcs : [_] = [_] := hcs
    simp only [List.cons.injEq, and_true, Value.slice.injEq] at hcs
    obtain ⟨_, h, _⟩ := hcs
    omega
  · have hcs : [_] = [_] := hcs
    simp only [List.cons.injEq, and_true, Value.slice.injEq] at hcs
    obtain ⟨_, h, h'⟩ := hcs
    omega
set_option maxRecDepth 100000 in
theorem openv_bats (hval : Value.okWide Tryd.prog W .any 0 22 v) (h : DataW.Trod enc Tryd.prog W 0 (fun _ => true) true 22 v d p) : ∃ L : List Bt, BatsAt W v L ∧ MemBt L := by
  obtain ⟨s0, len, scap, rfl⟩ := okWide_slice Tryd.underlying22 hval
  obtain ⟨fuel, hf⟩ := h
  obtain ⟨a0, cap, L, hc, hm, hl⟩ := open_each (α := Bt) 1 bt0 (fun cs' a => cs' = [a.1] ∧ ReqsAt W a.1 a.2 ∧ MemRq a.2) Tryd.underlying22 cells_bat (by omega) hf (fun n cs' y hy => by
    obtain ⟨rv, l, h1, h2, h3⟩ := open_reqsm hy
    exact ⟨(rv, l), h1, h2, h3⟩)
  have hc : [Value.slice s0 len scap] = [.slice a0 L.length cap] := hc
  simp only [List.cons.injEq, and_true] at hc
  rw [hc]
  refine ⟨L, ⟨a0, cap, rfl, ?_⟩, hm, fun o ho => ?_⟩
  · rcases hl with hl | ⟨b, off, hb, hlt, hx⟩
    · exact Or.inl hl
    · refine Or.inr ⟨b, off, hb, hlt, fun i hi => ?_⟩
      obtain ⟨cs', h1, ⟨rfl, h2, _⟩, h4⟩ := hx i hi
      have h5 := h4 0 (by omega)
      rw [Nat.mul_one, Nat.add_zero] at h5
      exact ⟨h5, h2⟩
  · rcases hl with hl | ⟨b, off, hb, hlt, hx⟩
    · subst hl; cases ho
    · obtain ⟨i, hi, rfl⟩ := List.getElem_of_mem ho
      obtain ⟨cs', h1, ⟨_, _, h2⟩, h4⟩ := hx i hi
      rw [List.getD_eq_getElem?_getD, List.getElem?_eq_getElem hi] at h2
      exact h2
end
end Go.Proofs.YtbakceglaadfpaaDoor
