/-
  What comes in to the laws of logs, opened. (No type of the wire is named: they may lack at the seat.)
-/
import Derived.Test.YtggpiajmelhblaaRows
import Derived.Test.YtggpiajmelhblaaKJMath
import Derived.Test.YtggpiajmelhblaaChecked
import Derived.Test.YtggpiajmelhblaaKSLawR
import Derived.SliceStrings
import Derived.Lib.SmallJoins
import Derived.Deep.Slices
import Derived.Deep.Strs
import Derived.ChangeSlices
import Derived.WideKeyPair
import Derived.OpenShut
open Go Go.RowKit
namespace SS
theorem wf_u8s {a : Int} (wa : (Lit.int .u8 a).wf = true) : 0 ≤ a ∧ a < 256 := by
  simp [Lit.wf, IntKind.min, IntKind.max, IntKind.bits, IntKind.signed] at wa
  omega
theorem wf_i64s {n : Int} (h : (Lit.int .i64 n).wf = true) : -9223372036854775808 ≤ n ∧ n ≤ 9223372036854775807 := by
  simp [Lit.wf, IntKind.min, IntKind.max, IntKind.signed, IntKind.bits] at h
  omega
end SS
namespace Go.Proofs.Ytggpiajmelhblaa
open SS WW BB Go.WideShapes Go.ChangeShapes Go.Deep
section
variable {H : Type} {enc : TypeId × Value → H} {W : World}
abbrev TrodS (enc : TypeId × Value → H) (W : World) (fuel : Nat) (t : TypeId) (cs : List Value) (x : DataW H × List MemPlace) : Prop := DataW.trod enc Try.prog W 0 (fun _ => true) true fuel t cs = some x
theorem len_max9 {n : Nat} (h : n ≤ maxLen) : n ≤ 9223372036854775807 := h
/-- a slice's elements, one by one -/
theorem open_each9 {α : Type} {t e : TypeId} {fuel : Nat} {cs : List Value} {x : DataW H × List MemPlace} (k : Nat) (dflt : α) (R : List Value → α → Prop) (ht : Try.prog.underlying t = some (.slice e)) (hk : Try.prog.cellsOf e = k) (hk0 : 0 < k)
    (h : TrodS enc W fuel t cs x) (each : ∀ n cs' y, TrodS enc W n e cs' y → ∃ a, R cs' a) :
    ∃ a0 cap, ∃ l : List α, cs = [.slice a0 l.length cap] ∧ l.length ≤ 9223372036854775807 ∧ (l = [] ∨ ∃ b off, a0 = some ⟨b, off, none⟩ ∧ b < W.heap.size ∧ ∀ i, i < l.length → ∃ cs' : List Value, cs'.length = k ∧ R cs' (l.getD i dflt) ∧ ∀ j, j < k → W.cell? ⟨b, off + i * k + j, none⟩ = cs'[j]?) := by
  rcases open_slice ht h with ⟨rfl, _⟩ | ⟨a, len, cap, m, n, D, Pl, rfl, _, hl, hm, hmm, _, hx⟩
  · exact ⟨none, 0, [], rfl, by simp, Or.inl rfl⟩
  simp only [if_true] at hmm
  have hx' : ∀ i, i < len → ∃ a1 : α, ∃ cs' : List Value, W.cells? 0 (a.add (i * k)) k = some cs' ∧ R cs' a1 := fun i hi => by
    obtain ⟨cs', h1, h2⟩ := hx i (by omega)
    rw [hk] at h1
    obtain ⟨a1, ha⟩ := each n cs' _ h2
    exact ⟨a1, cs', h1, ha⟩
  haveI : Inhabited α := ⟨dflt⟩
  obtain ⟨f, hf⟩ := choose_lt hx'
  refine ⟨some a, cap, (List.range len).map f, by simp, by simp; exact Nat.le_trans hl (len_max9 hm), ?_⟩
  by_cases hl0 : len = 0
  · exact Or.inl (by subst hl0; rfl)
  refine Or.inr ?_
  obtain ⟨b, off, spot⟩ := a
  have hspot : spot = none := by
    obtain ⟨cs', h1, _⟩ := hf 0 (by omega)
    obtain ⟨_, h3, h4⟩ := World.cells?_some h1
    have h5 := h4 0 (by omega)
    rw [List.getElem?_eq_getElem (by omega)] at h5
    simpa [Addr.add] using World.cell?_spot h5
  subst hspot
  have hcell : ∀ i, i < len → ∃ cs' : List Value, cs'.length = k ∧ R cs' (f i) ∧ ∀ j, j < k → W.cell? ⟨b, off + i * k + j, none⟩ = cs'[j]? := fun i hi => by
    obtain ⟨cs', h1, h2⟩ := hf i hi
    obtain ⟨_, h3, h4⟩ := World.cells?_some h1
    refine ⟨cs', h3, h2, fun j hj => ?_⟩
    rw [← h4 j hj, add_plain, add_plain]
  refine ⟨b, off, rfl, ?_, fun i hi => ?_⟩
  · obtain ⟨cs', h3, _, h4⟩ := hcell 0 (by omega)
    have h5 := h4 0 hk0
    rw [List.getElem?_eq_getElem (by omega)] at h5
    exact World.block_lt_of_cell? W _ h5
  · have hi' : i < len := by simpa using hi
    have e : ((List.range len).map f).getD i dflt = f i := by
      rw [List.getD_eq_getElem?_getD, List.getElem?_eq_getElem (by simpa using hi')]; simp
    rw [e]
    exact hcell i hi'
theorem cells_op9 : Try.prog.cellsOf 33 = 3 := by kernel_rfl
/-- a call, opened -/
def OpR (cs : List Value) (r : Op9) : Prop := cs = [.int .u8 (r.1 : Int), .string r.2.1, .int .i64 r.2.2] ∧ r.1 < 256 ∧ r.2.1.size ≤ 9223372036854775807 ∧ -9223372036854775808 ≤ r.2.2 ∧ r.2.2 ≤ 9223372036854775807
set_option maxRecDepth 100000 in
theorem open_op9 {fuel : Nat} {cs : List Value} {x : DataW H × List MemPlace} (h : TrodS enc W fuel 33 cs x) : ∃ r : Op9, OpR cs r := by
  obtain ⟨y0, y1, y2, n, _, hl, h0, h1, h2⟩ := trod_struct3 Try.underlying33 h
  rw [cells_op9] at hl
  match cs, hl with
  | [u0, u1, u2], _ =>
    obtain ⟨a, ha, _, wa⟩ := DataW.trod_int Try.underlying5 h0
    obtain ⟨s, hs, _, hm⟩ := DataW.trod_string Try.underlying9 h1
    obtain ⟨q, hq, _, wq⟩ := DataW.trod_int Try.underlying3 h2
    have e0 : [u0] = [.int .u8 a] := ha
    have e1 : [u1] = [.string s] := hs
    have e2 : [u2] = [.int .i64 q] := hq
    simp only [List.cons.injEq, and_true] at e0 e1 e2
    have hw := wf_u8s wa
    obtain ⟨m, rfl⟩ := Int.eq_ofNat_of_zero_le hw.1
    have hq2 := wf_i64s wq
    exact ⟨(m, s, q), by rw [e0, e1, e2], by simp only; omega, len_max9 hm, hq2.1, hq2.2⟩
set_option maxRecDepth 100000 in
theorem openv_ops9 {v : Value} {d : DataW H} {p : List MemPlace} (hval : Value.okWide Try.prog W .any 0 22 v) (h : DataW.Trod enc Try.prog W 0 (fun _ => true) true 22 v d p) :
    ∃ l : List Op9, OpsS W v l ∧ MemOps l := by
  obtain ⟨s0, len, scap, rfl⟩ := okWide_slice Try.underlying22 hval
  obtain ⟨fuel, hf⟩ := h
  obtain ⟨a0, cap, l, hc, hm, hl⟩ := open_each9 (α := Op9) 3 op0 OpR Try.underlying22 cells_op9 (by omega) hf (fun n cs' y hy => open_op9 hy)
  have hc : [Value.slice s0 len scap] = [.slice a0 l.length cap] := hc
  simp only [List.cons.injEq, and_true] at hc
  rw [hc]
  refine ⟨l, ⟨a0, cap, rfl, ?_⟩, hm, fun i => ?_⟩
  · rcases hl with hl | ⟨b, off, hb, hlt, hx⟩
    · exact Or.inl hl
    · refine Or.inr ⟨b, off, hb, hlt, fun i hi => ?_⟩
      obtain ⟨cs', h1, ⟨rfl, _⟩, h4⟩ := hx i hi
      exact ⟨h4 0 (by omega), h4 1 (by omega), h4 2 (by omega)⟩
  · by_cases hi : i < l.length
    · rcases hl with hl | ⟨b, off, hb, hlt, hx⟩
      · subst hl; simp at hi
      · obtain ⟨cs', h1, ⟨_, h2⟩, h4⟩ := hx i hi
        exact h2
    · rw [List.getD_eq_getElem?_getD, List.getElem?_eq_none (by omega)]
      exact ⟨by decide, by decide, by decide, by decide⟩
theorem openv_pair9 {v : Value} {d : DataW H} {p : List MemPlace} (hval : Value.okWide Try.prog W .any 0 43 v) (h : DataW.Trod enc Try.prog W 0 (fun _ => true) true 43 v d p) :
    ∃ a b, v = .agg #[.int .i64 a, .int .i64 b] ∧ (-9223372036854775808 ≤ a ∧ a ≤ 9223372036854775807) ∧ -9223372036854775808 ≤ b ∧ b ≤ 9223372036854775807 := by
  obtain ⟨a, b, rfl, _, _, h1, h2⟩ := Go.WideMaps.open_pair (k := 43) (e := 3) ⟨Try.underlying43, by kernel_rfl, by kernel_rfl, by kernel_rfl⟩ Try.underlying3 hval h
  exact ⟨a, b, rfl, wf_i64s h1, wf_i64s h2⟩
end
end Go.Proofs.Ytggpiajmelhblaa
