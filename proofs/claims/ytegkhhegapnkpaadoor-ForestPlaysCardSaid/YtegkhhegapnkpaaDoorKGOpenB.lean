/-
  Blocks, and the calls of the law, that come in: opened.
-/
import Derived.Test.YtegkhhegapnkpaaDoorKEOpen
import Derived.Test.YtegkhhegapnkpaaDoorKJUnlike
import Derived.Test.YtegkhhegapnkpaaDoorKGFew
section
open Go Go.RowKit
namespace Go.Proofs.YtegkhhegapnkpaaDoor
open FF JJ CC WW BB Go.WideShapes Go.ChangeShapes Go.Deep
section
variable {H : Type} {enc : TypeId × Value → H} {W : World} {v : Value} {d : DataW H} {p : List MemPlace}
theorem cells_tri : Tryd.prog.cellsOf 36 = 3 := by kernel_rfl
set_option maxRecDepth 100000 in
theorem open_tri {fuel : Nat} {cs : List Value} {x : DataW H × List MemPlace} (h : TrodW enc W fuel 36 cs x) : ∃ r : Nat × Nat × Nat, cs = [.int .u8 (r.1 : Int), .int .u8 (r.2.1 : Int), .int .u8 (r.2.2 : Int)] ∧ r.1 < 256 ∧ r.2.1 < 256 ∧ r.2.2 < 256 := by
  have hl : cs.length = 3 := by
    have h : DataW.trod enc Tryd.prog W 0 (fun _ => true) true fuel 36 cs = some x := h
    cases fuel with
    | zero => simp [DataW.trod] at h
    | succ n =>
      unfold DataW.trod at h
      rw [Tryd.underlying36] at h
      by_cases hc : cs.length = Tryd.prog.cellsOf 36
      · rw [hc]; exact cells_tri
      · simp [hc] at h
  match cs, hl with
  | [u0, u1, u2], _ =>
    obtain ⟨y0, y1, y2, n, _, h0, h1, h2⟩ := Go.ChangeShapes.trod_array3 Tryd.underlying36 (by kernel_rfl) h
    obtain ⟨a, rfl, ha⟩ := open_u8 h0
    obtain ⟨b, rfl, hb⟩ := open_u8 h1
    obtain ⟨c, rfl, hc⟩ := open_u8 h2
    exact ⟨(a, b, c), rfl, ha, hb, hc⟩
set_option maxRecDepth 100000 in
theorem openv_tris (hval : Value.okWide Tryd.prog W .any 0 37 v) (h : DataW.Trod enc Tryd.prog W 0 (fun _ => true) true 37 v d p) :
    ∃ l : List (Nat × Nat × Nat), TriAt W v l ∧ ∀ i, (l.getD i (0, 0, 0)).1 < 256 ∧ (l.getD i (0, 0, 0)).2.1 < 256 ∧ (l.getD i (0, 0, 0)).2.2 < 256 := by
  obtain ⟨s0, len, scap, rfl⟩ := okWide_slice Tryd.underlying37 hval
  obtain ⟨fuel, hf⟩ := h
  obtain ⟨a0, cap, l, hc, hm, hl⟩ := open_each (α := Nat × Nat × Nat) 3 (0, 0, 0) (fun cs' a => cs' = [.int .u8 (a.1 : Int), .int .u8 (a.2.1 : Int), .int .u8 (a.2.2 : Int)] ∧ a.1 < 256 ∧ a.2.1 < 256 ∧ a.2.2 < 256) Tryd.underlying37 cells_tri (by omega) hf (fun n cs' y hy => open_tri hy)
  have hc : [Value.slice s0 len scap] = [.slice a0 l.length cap] := hc
  simp only [List.cons.injEq, and_true] at hc
  rw [hc]
  refine ⟨l, ⟨a0, cap, rfl, ?_⟩, fun i => ?_⟩
  · rcases hl with hl | ⟨b, off, hb, hlt, hx⟩
    · exact Or.inl hl
    · refine Or.inr ⟨b, off, hb, hlt, fun i hi => ?_⟩
      obtain ⟨cs', h1, ⟨rfl, _⟩, h4⟩ := hx i hi
      exact ⟨h4 0 (by omega), h4 1 (by omega), h4 2 (by omega)⟩
  · by_cases hi : i < l.length
    · rcases hl with hl | ⟨b, off, hb, hlt, hx⟩
      · subst hl; simp at hi
      · obtain ⟨cs', h1, ⟨_, h2⟩, h4⟩ := hx i hi
        exact h2
    · rw [List.getD_eq_getElem?_getD, List.getElem?_eq_none (by omega)]
      decide
end
end Go.Proofs.YtegkhhegapnkpaaDoor
end
section
open Go Go.RowKit
namespace FF
open WW BB
/-- v is a slice of the law's calls: a place, and whether to prune -/
def OpsAt (w : World) (v : Value) (l : List (Nat × Bool)) : Prop :=
  ∃ a0 cap, v = .slice a0 l.length cap ∧ (l = [] ∨ ∃ b off, a0 = some ⟨b, off, none⟩ ∧ b < w.heap.size ∧
    ∀ i, i < l.length → w.cell? ⟨b, off + i * 2, none⟩ = some (.int .u8 ((l.getD i (0, false)).1 : Int)) ∧ w.cell? ⟨b, off + i * 2 + 1, none⟩ = some (.bool (l.getD i (0, false)).2))
end FF
namespace Go.Proofs.YtegkhhegapnkpaaDoor
open FF JJ CC WW BB Go.WideShapes Go.ChangeShapes Go.Deep
section
variable {H : Type} {enc : TypeId × Value → H} {W : World} {v : Value} {d : DataW H} {p : List MemPlace}
theorem cells_blk : Tryd.prog.cellsOf 29 = 6 := by kernel_rfl
set_option maxRecDepth 100000 in
theorem openv_blocks (hval : Value.okWide Tryd.prog W .any 0 38 v) (h : DataW.Trod enc Tryd.prog W 0 (fun _ => true) true 38 v d p) :
    ∃ M : List Bv, BvAt W v M ∧ (∀ x ∈ M, MemI x.1) ∧ M.length ≤ 9223372036854775807 := by
  obtain ⟨s0, len, scap, rfl⟩ := okWide_slice Tryd.underlying38 hval
  obtain ⟨fuel, hf⟩ := h
  obtain ⟨a0, cap, l, hc, hm, hl⟩ := open_each (α := Bv) 6 vb0 (fun cs' a => cs' = encB a ∧ InnB W a ∧ MemI a.1) Tryd.underlying38 cells_blk (by omega) hf (fun n cs' y hy => by
    obtain ⟨v', p', cv, k, sv, rv, l, m, hc, h1, h2, h3, h4, h5⟩ := open_block hy
    exact ⟨((((v', p'), ((cv, k), l)), m), sv, rv), hc, ⟨h1, h2⟩, h3, h4, h5⟩)
  have hc : [Value.slice s0 len scap] = [.slice a0 l.length cap] := hc
  simp only [List.cons.injEq, and_true] at hc
  rw [hc]
  refine ⟨l, ⟨a0, cap, rfl, ?_⟩, fun x hx => ?_, hm⟩
  · rcases hl with hl | ⟨b, off, hb, hlt, hx⟩
    · exact Or.inl hl
    · refine Or.inr ⟨b, off, hb, hlt, fun i hi => ?_⟩
      obtain ⟨cs', h1, ⟨rfl, h2, _⟩, h4⟩ := hx i hi
      exact ⟨fun j u hu => by
        have hj : j < (encB (l.getD i vb0)).length := (List.getElem?_eq_some_iff.1 hu).1
        rw [h4 j hj]; exact hu, h2⟩
  · rcases hl with hl | ⟨b, off, hb, hlt, hx2⟩
    · subst hl; cases hx
    · obtain ⟨i, hi, rfl⟩ := List.getElem_of_mem hx
      obtain ⟨cs', h1, ⟨_, _, h2⟩, h4⟩ := hx2 i hi
      rwa [getD_at hi] at h2
theorem cells_op : Tryd.prog.cellsOf 57 = 2 := by kernel_rfl
set_option maxRecDepth 100000 in
theorem open_op {fuel : Nat} {cs : List Value} {x : DataW H × List MemPlace} (h : TrodW enc W fuel 57 cs x) : ∃ r : Nat × Bool, (cs = [.int .u8 (r.1 : Int), .bool r.2]) ∧ r.1 < 256 := by
  obtain ⟨y0, y1, n, _, hl, h0, h1⟩ := trod_struct2 Tryd.underlying57 h
  rw [cells_op] at hl
  match cs, hl with
  | [u0, u1], _ =>
    obtain ⟨a, e0, ha⟩ := open_u8 (c := u0) h0
    obtain ⟨b, hb, _⟩ := DataW.trod_bool Tryd.underlying4 h1
    have e1 : [u1] = [.bool b] := hb
    simp only [List.cons.injEq, and_true] at e1
    exact ⟨(a, b), by rw [e0, e1], ha⟩
set_option maxRecDepth 100000 in
theorem openv_ops (hval : Value.okWide Tryd.prog W .any 0 50 v) (h : DataW.Trod enc Tryd.prog W 0 (fun _ => true) true 50 v d p) :
    ∃ l : List (Nat × Bool), OpsAt W v l ∧ l.length ≤ 9223372036854775807 ∧ ∀ i, (l.getD i (0, false)).1 < 256 := by
  obtain ⟨s0, len, scap, rfl⟩ := okWide_slice Tryd.underlying50 hval
  obtain ⟨fuel, hf⟩ := h
  obtain ⟨a0, cap, l, hc, hm, hl⟩ := open_each (α := Nat × Bool) 2 (0, false) (fun cs' a => (cs' = [.int .u8 (a.1 : Int), .bool a.2]) ∧ a.1 < 256) Tryd.underlying50 cells_op (by omega) hf (fun n cs' y hy => open_op hy)
  have hc : [Value.slice s0 len scap] = [.slice a0 l.length cap] := hc
  simp only [List.cons.injEq, and_true] at hc
  rw [hc]
  refine ⟨l, ⟨a0, cap, rfl, ?_⟩, hm, fun i => ?_⟩
  · rcases hl with hl | ⟨b, off, hb, hlt, hx⟩
    · exact Or.inl hl
    · refine Or.inr ⟨b, off, hb, hlt, fun i hi => ?_⟩
      obtain ⟨cs', h1, ⟨rfl, _⟩, h4⟩ := hx i hi
      exact ⟨h4 0 (by omega), h4 1 (by omega)⟩
  · by_cases hi : i < l.length
    · rcases hl with hl | ⟨b, off, hb, hlt, hx⟩
      · subst hl; simp at hi
      · obtain ⟨cs', h1, ⟨_, h2⟩, h4⟩ := hx i hi
        exact h2
    · rw [List.getD_eq_getElem?_getD, List.getElem?_eq_none (by omega)]
      decide
end
end Go.Proofs.YtegkhhegapnkpaaDoor
end
