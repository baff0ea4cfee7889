/-
  What comes in to the laws of certificates, opened.
-/
import Derived.Test.YtphlpgdbngbplaaKWOpen
import Derived.Test.YtphlpgdbngbplaaKLNum
import Derived.ChangeSlices
import Derived.WideKeyPair
import Derived.WideKeyArr2
import Derived.Laws.IdiomArrays
import Derived.OpenShut
open Go Go.RowKit
namespace CC
open BB WW
/-- v is a slice of the bytes l -/
def NatsAt (w : World) (v : Value) (l : List Nat) : Prop :=
  ∃ a0 cap, v = .slice a0 l.length cap ∧ l.length ≤ 9223372036854775807 ∧ (∀ x ∈ l, x < 256) ∧ (l = [] ∨ ∃ b off, a0 = some ⟨b, off, none⟩ ∧ b < w.heap.size ∧ ∀ i, i < l.length → w.cell? ⟨b, off + i, none⟩ = some (.int .u8 (l.getD i 0 : Nat)))
theorem NatsAt.later {w w' : World} {v : Value} {l : List Nat} (h : NatsAt w v l) (hb : Below w.heap.size w w') : NatsAt w' v l := by
  obtain ⟨a0, cap, rfl, hn, hm, h | ⟨b, off, rfl, hl, hc⟩⟩ := h
  · exact ⟨a0, cap, rfl, hn, hm, Or.inl h⟩
  · exact ⟨_, cap, rfl, hn, hm, Or.inr ⟨b, off, rfl, Nat.lt_of_lt_of_le hl hb.size, fun i hi => (hb.cell (p := ⟨b, off + i, none⟩) hl).trans (hc i hi)⟩⟩
theorem wf_u8 {a : Int} (wa : (Lit.int .u8 a).wf = true) : 0 ≤ a ∧ a < 256 := by
  simp [Lit.wf, IntKind.min, IntKind.max, IntKind.bits, IntKind.signed] at wa
  omega
end CC
namespace Go.Proofs.Ytphlpgdbngbplaa
open CC WW BB Go.WideShapes Go.ChangeShapes Go.Deep
section
variable {H : Type} {enc : TypeId × Value → H} {W : World} {v : Value} {d : DataW H} {p : List MemPlace}
set_option maxRecDepth 100000 in
theorem openv_cert (hval : Value.okWide Try.prog W .any 0 32 v) (h : DataW.Trod enc Try.prog W 0 (fun _ => true) true 32 v d p) :
    ∃ v' k sv l, v = .agg #[.int .i64 v', .string k, sv] ∧ SigsAt W sv l ∧ MemS l ∧ k.size ≤ 9223372036854775807 := by
  obtain ⟨cs, rfl, _⟩ := okWide_struct Try.underlying32 hval
  obtain ⟨fuel, hf⟩ := h
  obtain ⟨v', k, sv, l, hc, hF⟩ := open_cert hf
  refine ⟨v', k, sv, l, ?_, hF⟩
  have hc : cs.toList = _ := hc
  rw [show cs = cs.toList.toArray by simp, hc]
set_option maxRecDepth 100000 in
theorem openv_sigs (hval : Value.okWide Try.prog W .any 0 30 v) (h : DataW.Trod enc Try.prog W 0 (fun _ => true) true 30 v d p) :
    ∃ l, SigsAt W v l ∧ MemS l := by
  obtain ⟨a0, len, cap, rfl⟩ := okWide_slice Try.underlying30 hval
  obtain ⟨fuel, hf⟩ := h
  obtain ⟨sv, l, hc, hS⟩ := open_sigs hf
  have hc : [_] = [sv] := hc
  simp only [List.cons.injEq, and_true] at hc
  exact ⟨l, hc ▸ hS⟩
set_option maxRecDepth 100000 in
theorem openv_sig5 (hval : Value.okWide Try.prog W .any 0 38 v) (h : DataW.Trod enc Try.prog W 0 (fun _ => true) true 38 v d p) :
    ∃ f tv ts, v = .agg #[.int .i64 f, tv] ∧ StrsAt W tv ts ∧ ts.length ≤ 9223372036854775807 := by
  obtain ⟨cs, rfl, _⟩ := okWide_struct Try.underlying38 hval
  obtain ⟨fuel, hf⟩ := h
  obtain ⟨f, tv, ts, hc, hF⟩ := open_sig hf
  refine ⟨f, tv, ts, ?_, hF⟩
  have hc : cs.toList = _ := hc
  rw [show cs = cs.toList.toArray by simp, hc]
theorem open_u8 {n : Nat} {c : Value} {y : DataW H × List MemPlace} (hc : DataW.trod enc Try.prog W 0 (fun _ => true) true n 5 [c] = some y) : ∃ a : Nat, c = .int .u8 (a : Int) ∧ a < 256 := by
  obtain ⟨a, ea, _, wa⟩ := DataW.trod_int Try.underlying5 hc
  have e0 : [c] = [.int .u8 a] := ea
  simp only [List.cons.injEq, and_true] at e0
  have hw := wf_u8 wa
  obtain ⟨m, rfl⟩ := Int.eq_ofNat_of_zero_le hw.1
  exact ⟨m, e0, by omega⟩
set_option maxRecDepth 100000 in
theorem openv_u8 (h : DataW.Trod enc Try.prog W 0 (fun _ => true) true 5 v d p) (hval : Value.okWide Try.prog W .any 0 5 v) : ∃ a : Nat, v = .int .u8 (a : Int) ∧ a < 256 := by
  obtain ⟨a, rfl, _, _, wf⟩ := open_int Try.underlying5 hval h
  have hw := wf_u8 wf
  obtain ⟨m, rfl⟩ := Int.eq_ofNat_of_zero_le hw.1
  exact ⟨m, rfl, by omega⟩
theorem cells_u8x : Try.prog.cellsOf 5 = 1 := by kernel_rfl
end
end Go.Proofs.Ytphlpgdbngbplaa
