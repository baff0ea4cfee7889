/-
  What comes in to the laws of forests, opened.
-/
import Derived.Test.YtlpnggdghmccjaaDoorKEOpen
import Derived.Test.YtlpnggdghmccjaaDoorKJUnlike
import Derived.Test.YtlpnggdghmccjaaDoorKGTwin
open Go Go.RowKit
namespace Go.Proofs.YtlpnggdghmccjaaDoor
open FF JJ CC WW BB Go.WideShapes Go.ChangeShapes Go.Deep
section
variable {H : Type} {enc : TypeId × Value → H} {W : World} {v : Value} {d : DataW H} {p : List MemPlace}
theorem cells_tri : Tryd.prog.cellsOf 60 = 3 := by kernel_rfl
set_option maxRecDepth 100000 in
theorem open_tri {fuel : Nat} {cs : List Value} {x : DataW H × List MemPlace} (h : TrodW enc W fuel 60 cs x) : ∃ r : Nat × Nat × Nat, cs = [.int .u8 (r.1 : Int), .int .u8 (r.2.1 : Int), .int .u8 (r.2.2 : Int)] ∧ r.1 < 256 ∧ r.2.1 < 256 ∧ r.2.2 < 256 := by
  have hl : cs.length = 3 := by
    have h : DataW.trod enc Tryd.prog W 0 (fun _ => true) true fuel 60 cs = some x := h
    cases fuel with
    | zero => simp [DataW.trod] at h
    | succ n =>
      unfold DataW.trod at h
      rw [Tryd.underlying60] at h
      by_cases hc : cs.length = Tryd.prog.cellsOf 60
      · rw [hc]; exact cells_tri
      · simp [hc] at h
  match cs, hl with
  | [u0, u1, u2], _ =>
    obtain ⟨y0, y1, y2, n, _, h0, h1, h2⟩ := Go.ChangeShapes.trod_array3 Tryd.underlying60 (by kernel_rfl) h
    obtain ⟨a, rfl, ha⟩ := open_u8 h0
    obtain ⟨b, rfl, hb⟩ := open_u8 h1
    obtain ⟨c, rfl, hc⟩ := open_u8 h2
    exact ⟨(a, b, c), rfl, ha, hb, hc⟩
set_option maxRecDepth 100000 in
theorem openv_tris (hval : Value.okWide Tryd.prog W .any 0 22 v) (h : DataW.Trod enc Tryd.prog W 0 (fun _ => true) true 22 v d p) :
    ∃ l : List (Nat × Nat × Nat), TriAt W v l ∧ ∀ i, (l.getD i (0, 0, 0)).1 < 256 ∧ (l.getD i (0, 0, 0)).2.1 < 256 ∧ (l.getD i (0, 0, 0)).2.2 < 256 := by
  obtain ⟨s0, len, scap, rfl⟩ := okWide_slice Tryd.underlying22 hval
  obtain ⟨fuel, hf⟩ := h
  obtain ⟨a0, cap, l, hc, hm, hl⟩ := open_each (α := Nat × Nat × Nat) 3 (0, 0, 0) (fun cs' a => cs' = [.int .u8 (a.1 : Int), .int .u8 (a.2.1 : Int), .int .u8 (a.2.2 : Int)] ∧ a.1 < 256 ∧ a.2.1 < 256 ∧ a.2.2 < 256) Tryd.underlying22 cells_tri (by omega) hf (fun n cs' y hy => open_tri hy)
  have hc : [Value.slice s0 len scap] = [.slice a0 l.length cap] := hc
  simp only [List.cons.injEq, and_true] at hc
  rw [hc]
  refine ⟨l, ⟨a0, cap, rfl, ?_⟩, fun i => ?_⟩
  · rcases hl with hl | ⟨b, off, hb, hlt, hx⟩
    · exact Or.inl hl
    · refine Or.inr ⟨b, off, hb, hlt, fun i hi => ?_⟩
      obtain ⟨cs', h1, ⟨rfl, _⟩, h4⟩ := hx i hi
      exact ⟨h4 0 (by omega), h4 1 (by omega), h4 2 (by omega)⟩
  · by_cases hi : i < l.length
    · rcases hl with hl | ⟨b, off, hb, hlt, hx⟩
      · subst hl; simp at hi
      · obtain ⟨cs', h1, ⟨_, h2⟩, h4⟩ := hx i hi
        exact h2
    · rw [List.getD_eq_getElem?_getD, List.getElem?_eq_none (by omega)]
      decide
end
end Go.Proofs.YtlpnggdghmccjaaDoor
