/-
  What comes in to the laws of layer 18, opened: messages.
-/
import Derived.Test.YthajnkcipifhcaaGreatDoorKWOpenM
import Derived.Test.YthajnkcipifhcaaGreatDoorKEOpen
import Derived.Test.YthajnkcipifhcaaGreatDoorKITaBelow
open Go Go.RowKit
namespace Go.Proofs.YthajnkcipifhcaaGreatDoor
open NO QU FF CC WW BB Go.WideShapes Go.ChangeShapes Go.Deep
section
variable {H : Type} {enc : TypeId × Value → H} {W : World} {v : Value} {d : DataW H} {p : List MemPlace}
theorem cells_msg18 : Tryz.prog.cellsOf 43 = 21 := by kernel_rfl
set_option maxRecDepth 100000 in
theorem openv_msgs18 (hval : Value.okWide Tryz.prog W .any 0 22 v) (h : DataW.Trod enc Tryz.prog W 0 (fun _ => true) true 22 v d p) : ∃ l : List Mo, MsM W v l ∧ MemMo l := by
  obtain ⟨s0, len, scap, rfl⟩ := okWide_slice Tryz.underlying22 hval
  obtain ⟨fuel, hf⟩ := h
  obtain ⟨a0, cap, l, hc, hm, hl⟩ := open_each (α := Mo) 21 mo0 (fun cs' o => cs' = encMo o ∧ MgAt W o.f o.m ∧ MemM o.m.x o.m.c o.m.s) Tryz.underlying22 cells_msg18 (by omega) hf (fun n cs' y hy => by
    obtain ⟨f, k, fr, dst, v', hh, xx, c, s, r, ix, tg, s9, r10, s13, t15, hc, hM, hmm⟩ := open_msg hy
    exact ⟨⟨f, ⟨k, fr, dst, v', hh, xx, c, s, r, ix, tg, s9, r10, s13, t15⟩⟩, hc, hM, hmm⟩)
  have hc : [Value.slice s0 len scap] = [.slice a0 l.length cap] := hc
  simp only [List.cons.injEq, and_true] at hc
  rw [hc]
  have hin : ∀ o ∈ l, MgAt W o.f o.m ∧ MemM o.m.x o.m.c o.m.s := fun o ho => by
    rcases hl with hl | ⟨b, off, hb, hlt, hx⟩
    · subst hl; cases ho
    · obtain ⟨i, hi, rfl⟩ := List.getElem_of_mem ho
      obtain ⟨cs', h1, ⟨_, h2⟩, h4⟩ := hx i hi
      rw [List.getD_eq_getElem?_getD, List.getElem?_eq_getElem hi] at h2
      exact h2
  refine ⟨l, ⟨⟨a0, cap, rfl, ?_⟩, fun o ho => (hin o ho).1⟩, hm, fun o ho => (hin o ho).2⟩
  rcases hl with hl | ⟨b, off, hb, hlt, hx⟩
  · exact Or.inl hl
  · refine Or.inr ⟨b, off, hb, trivial, hlt, fun i hi j u hu => ?_⟩
    obtain ⟨cs', h1, ⟨rfl, _⟩, h4⟩ := hx i hi
    have hj : j < 21 := by rw [← h1]; exact (List.getElem?_eq_some_iff.1 hu).1
    rw [h4 j hj]; exact hu
end
end Go.Proofs.YthajnkcipifhcaaGreatDoor
