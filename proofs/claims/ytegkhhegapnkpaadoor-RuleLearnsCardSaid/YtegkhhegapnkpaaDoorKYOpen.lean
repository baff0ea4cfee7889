/-
  What comes in to the laws of layer 11, opened: a slice of strings with its room.
-/
import Derived.Test.YtegkhhegapnkpaaDoorKEOpen
import Derived.Test.YtegkhhegapnkpaaDoorKJUnlike
import Derived.Test.YtegkhhegapnkpaaDoorKYChd
import Derived.Test.YtegkhhegapnkpaaDoorKWOpenS
section
open Go Go.RowKit
namespace Go.Proofs.YtegkhhegapnkpaaDoor
open FF JJ CC WW BB Go.WideShapes Go.ChangeShapes Go.Deep
section
variable {H : Type} {enc : TypeId × Value → H} {W : World} {v : Value} {d : DataW H} {p : List MemPlace}
theorem cells_tri : Tryd.prog.cellsOf 36 = 3 := by kernel_rfl
set_option maxRecDepth 100000 in
theorem open_tri {fuel : Nat} {cs : List Value} {x : DataW H × List MemPlace} (h : TrodW enc W fuel 36 cs x) : ∃ r : Nat × Nat × Nat, cs = [.int .u8 (r.1 : Int), .int .u8 (r.2.1 : Int), .int .u8 (r.2.2 : Int)] ∧ r.1 < 256 ∧ r.2.1 < 256 ∧ r.2.2 < 256 := by
  have hl : cs.length = 3 := by
    have h : DataW.trod enc Tryd.prog W 0 (fun _ => true) true fuel 36 cs = some x := h
    cases fuel with
    | zero => simp [DataW.trod] at h
    | succ n =>
      unfold DataW.trod at h
      rw [Tryd.underlying36] at h
      by_cases hc : cs.length = Tryd.prog.cellsOf 36
      · rw [hc]; exact cells_tri
      · simp [hc] at h
  match cs, hl with
  | [u0, u1, u2], _ =>
    obtain ⟨y0, y1, y2, n, _, h0, h1, h2⟩ := Go.ChangeShapes.trod_array3 Tryd.underlying36 (by kernel_rfl) h
    obtain ⟨a, rfl, ha⟩ := open_u8 h0
    obtain ⟨b, rfl, hb⟩ := open_u8 h1
    obtain ⟨c, rfl, hc⟩ := open_u8 h2
    exact ⟨(a, b, c), rfl, ha, hb, hc⟩
set_option maxRecDepth 100000 in
theorem openv_tris (hval : Value.okWide Tryd.prog W .any 0 37 v) (h : DataW.Trod enc Tryd.prog W 0 (fun _ => true) true 37 v d p) :
    ∃ l : List (Nat × Nat × Nat), TriAt W v l ∧ ∀ i, (l.getD i (0, 0, 0)).1 < 256 ∧ (l.getD i (0, 0, 0)).2.1 < 256 ∧ (l.getD i (0, 0, 0)).2.2 < 256 := by
  obtain ⟨s0, len, scap, rfl⟩ := okWide_slice Tryd.underlying37 hval
  obtain ⟨fuel, hf⟩ := h
  obtain ⟨a0, cap, l, hc, hm, hl⟩ := open_each (α := Nat × Nat × Nat) 3 (0, 0, 0) (fun cs' a => cs' = [.int .u8 (a.1 : Int), .int .u8 (a.2.1 : Int), .int .u8 (a.2.2 : Int)] ∧ a.1 < 256 ∧ a.2.1 < 256 ∧ a.2.2 < 256) Tryd.underlying37 cells_tri (by omega) hf (fun n cs' y hy => open_tri hy)
  have hc : [Value.slice s0 len scap] = [.slice a0 l.length cap] := hc
  simp only [List.cons.injEq, and_true] at hc
  rw [hc]
  refine ⟨l, ⟨a0, cap, rfl, ?_⟩, fun i => ?_⟩
  · rcases hl with hl | ⟨b, off, hb, hlt, hx⟩
    · exact Or.inl hl
    · refine Or.inr ⟨b, off, hb, hlt, fun i hi => ?_⟩
      obtain ⟨cs', h1, ⟨rfl, _⟩, h4⟩ := hx i hi
      exact ⟨h4 0 (by omega), h4 1 (by omega), h4 2 (by omega)⟩
  · by_cases hi : i < l.length
    · rcases hl with hl | ⟨b, off, hb, hlt, hx⟩
      · subst hl; simp at hi
      · obtain ⟨cs', h1, ⟨_, h2⟩, h4⟩ := hx i hi
        exact h2
    · rw [List.getD_eq_getElem?_getD, List.getElem?_eq_none (by omega)]
      decide
end
end Go.Proofs.YtegkhhegapnkpaaDoor
end
section
open Go Go.RowKit
namespace Go.Proofs.YtegkhhegapnkpaaDoor
open FF JJ CC WW BB Go.WideShapes Go.ChangeShapes Go.Deep
section
variable {H : Type} {enc : TypeId × Value → H} {W : World} {v : Value} {d : DataW H} {p : List MemPlace}
set_option maxRecDepth 100000 in
theorem openv_strsc (hval : Value.okWide Tryd.prog W .any 0 44 v) (h : DataW.Trod enc Tryd.prog W 0 (fun _ => true) true 44 v d p) : ∃ (l : List ByteArray) (a : Option Addr) (c : Nat), v = .slice a l.length c ∧ l.length ≤ c ∧ StrsAt W (.slice a l.length c) l := by
  obtain ⟨s0, len, scap, rfl⟩ := okWide_slice Tryd.underlying44 hval
  obtain ⟨fuel, hf⟩ := h
  obtain ⟨sv, l, hc, h1, h2⟩ := open_strs hf
  have hc1 : [_] = [sv] := hc
  simp only [List.cons.injEq, and_true] at hc1
  subst hc1
  obtain ⟨a, c, he, h3⟩ := h1
  injection he with e1 e2 e3
  subst e1 e2 e3
  have hcap : l.length ≤ scap := by
    rcases open_strings Tryd.underlying44 Tryd.underlying9 cells_str hf with ⟨hcs, _⟩ | ⟨a', len', cap', ss, hcs, _, hl, _⟩
    · have hcs : [_] = [_] := hcs
      simp only [List.cons.injEq, and_true, Value.slice.injEq] at hcs
      obtain ⟨_, h, _⟩ := hcs
      omega
    · have hcs : [_] = [_] := hcs
      simp only [List.cons.injEq, and_true, Value.slice.injEq] at hcs
      obtain ⟨_, h, h'⟩ := hcs
      omega
  exact ⟨l, s0, scap, rfl, hcap, s0, scap, rfl, h3⟩
end
end Go.Proofs.YtegkhhegapnkpaaDoor
end
