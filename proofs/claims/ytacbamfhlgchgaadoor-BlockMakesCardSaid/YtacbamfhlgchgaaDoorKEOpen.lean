/-
  What comes in to the laws of certificates, opened.
-/
import Derived.Test.YtacbamfhlgchgaaDoorKWOpen
import Derived.Test.YtacbamfhlgchgaaDoorKESig
import Derived.ChangeSlices
import Derived.WideKeyPair
import Derived.WideKeyArr2
import Derived.Laws.IdiomArrays
import Derived.OpenShut
open Go Go.RowKit
namespace CC
open BB WW
/-- v is a slice of the bytes l -/
def NatsAt (w : World) (v : Value) (l : List Nat) : Prop :=
  ∃ a0 cap, v = .slice a0 l.length cap ∧ l.length ≤ 9223372036854775807 ∧ (∀ x ∈ l, x < 256) ∧ (l = [] ∨ ∃ b off, a0 = some ⟨b, off, none⟩ ∧ b < w.heap.size ∧ ∀ i, i < l.length → w.cell? ⟨b, off + i, none⟩ = some (.int .u8 (l.getD i 0 : Nat)))
theorem NatsAt.later {w w' : World} {v : Value} {l : List Nat} (h : NatsAt w v l) (hb : Below w.heap.size w w') : NatsAt w' v l := by
  obtain ⟨a0, cap, rfl, hn, hm, h | ⟨b, off, rfl, hl, hc⟩⟩ := h
  · exact ⟨a0, cap, rfl, hn, hm, Or.inl h⟩
  · exact ⟨_, cap, rfl, hn, hm, Or.inr ⟨b, off, rfl, Nat.lt_of_lt_of_le hl hb.size, fun i hi => (hb.cell (p := ⟨b, off + i, none⟩) hl).trans (hc i hi)⟩⟩
theorem wf_u8 {a : Int} (wa : (Lit.int .u8 a).wf = true) : 0 ≤ a ∧ a < 256 := by
  simp [Lit.wf, IntKind.min, IntKind.max, IntKind.bits, IntKind.signed] at wa
  omega
end CC
namespace Go.Proofs.YtacbamfhlgchgaaDoor
open CC WW BB Go.WideShapes Go.ChangeShapes Go.Deep
section
variable {H : Type} {enc : TypeId × Value → H} {W : World} {v : Value} {d : DataW H} {p : List MemPlace}
set_option maxRecDepth 100000 in
theorem openv_cert (hval : Value.okWide Tryd.prog W .any 0 24 v) (h : DataW.Trod enc Tryd.prog W 0 (fun _ => true) true 24 v d p) :
    ∃ v' k sv l, v = .agg #[.int .i64 v', .string k, sv] ∧ SigsAt W sv l ∧ MemS l ∧ k.size ≤ 9223372036854775807 := by
  obtain ⟨cs, rfl, _⟩ := okWide_struct Tryd.underlying24 hval
  obtain ⟨fuel, hf⟩ := h
  obtain ⟨v', k, sv, l, hc, hF⟩ := open_cert hf
  refine ⟨v', k, sv, l, ?_, hF⟩
  have hc : cs.toList = _ := hc
  rw [show cs = cs.toList.toArray by simp, hc]
set_option maxRecDepth 100000 in
theorem openv_sigs (hval : Value.okWide Tryd.prog W .any 0 22 v) (h : DataW.Trod enc Tryd.prog W 0 (fun _ => true) true 22 v d p) :
    ∃ l, SigsAt W v l ∧ MemS l := by
  obtain ⟨a0, len, cap, rfl⟩ := okWide_slice Tryd.underlying22 hval
  obtain ⟨fuel, hf⟩ := h
  obtain ⟨sv, l, hc, hS⟩ := open_sigs hf
  have hc : [_] = [sv] := hc
  simp only [List.cons.injEq, and_true] at hc
  exact ⟨l, hc ▸ hS⟩
set_option maxRecDepth 100000 in
theorem openv_sig5 (hval : Value.okWide Tryd.prog W .any 0 42 v) (h : DataW.Trod enc Tryd.prog W 0 (fun _ => true) true 42 v d p) :
    ∃ f tv ts, v = .agg #[.int .i64 f, tv] ∧ StrsAt W tv ts ∧ ts.length ≤ 9223372036854775807 := by
  obtain ⟨cs, rfl, _⟩ := okWide_struct Tryd.underlying42 hval
  obtain ⟨fuel, hf⟩ := h
  obtain ⟨f, tv, ts, hc, hF⟩ := open_sig hf
  refine ⟨f, tv, ts, ?_, hF⟩
  have hc : cs.toList = _ := hc
  rw [show cs = cs.toList.toArray by simp, hc]
theorem open_u8 {n : Nat} {c : Value} {y : DataW H × List MemPlace} (hc : DataW.trod enc Tryd.prog W 0 (fun _ => true) true n 5 [c] = some y) : ∃ a : Nat, c = .int .u8 (a : Int) ∧ a < 256 := by
  obtain ⟨a, ea, _, wa⟩ := DataW.trod_int Tryd.underlying5 hc
  have e0 : [c] = [.int .u8 a] := ea
  simp only [List.cons.injEq, and_true] at e0
  have hw := wf_u8 wa
  obtain ⟨m, rfl⟩ := Int.eq_ofNat_of_zero_le hw.1
  exact ⟨m, e0, by omega⟩
set_option maxRecDepth 100000 in
theorem openv_u8 (h : DataW.Trod enc Tryd.prog W 0 (fun _ => true) true 5 v d p) (hval : Value.okWide Tryd.prog W .any 0 5 v) : ∃ a : Nat, v = .int .u8 (a : Int) ∧ a < 256 := by
  obtain ⟨a, rfl, _, _, wf⟩ := open_int Tryd.underlying5 hval h
  have hw := wf_u8 wf
  obtain ⟨m, rfl⟩ := Int.eq_ofNat_of_zero_le hw.1
  exact ⟨m, rfl, by omega⟩
theorem cells_u8x : Tryd.prog.cellsOf 5 = 1 := by kernel_rfl
set_option maxRecDepth 100000 in
theorem openv_bytes (hval : Value.okWide Tryd.prog W .any 0 60 v) (h : DataW.Trod enc Tryd.prog W 0 (fun _ => true) true 60 v d p) : ∃ l, NatsAt W v l := by
  obtain ⟨a0, len, cap, rfl⟩ := okWide_slice Tryd.underlying60 hval
  obtain ⟨fuel, hf⟩ := h
  rcases Go.ChangeShapes.open_ints Tryd.underlying60 Tryd.underlying5 cells_u8x hf with ⟨hcs, hx⟩ | ⟨a, len', cap', zs, hcs, _, hl, hm, hz, hx, hcell, hws⟩
  · have hcs : [Value.slice a0 len cap] = [.slice none 0 0] := hcs
    simp only [List.cons.injEq, and_true] at hcs
    rw [hcs]
    exact ⟨[], none, 0, rfl, by simp, by simp, Or.inl rfl⟩
  · have hcs : [Value.slice a0 len cap] = [.slice (some a) len' cap'] := hcs
    simp only [List.cons.injEq, and_true] at hcs
    rw [hcs]
    simp only [if_true] at hz
    have hm' : cap' ≤ 9223372036854775807 := hm
    have hlen : ((zs.take len').map Int.toNat).length = len' := by rw [List.length_map, List.length_take_of_le (by omega)]
    have hget : ∀ i, i < len' → (((zs.take len').map Int.toNat).getD i 0 : Nat) = (zs.getD i 0).toNat := fun i hi => by
      simp [List.getD, List.getElem?_take_of_lt hi, List.getElem?_eq_getElem (show i < zs.length by omega)]
    have hr : ∀ x ∈ zs, 0 ≤ x ∧ x < 256 := fun x hx => wf_u8 (hws x hx)
    refine ⟨(zs.take len').map Int.toNat, some a, cap', by rw [hlen], by rw [hlen]; omega, fun x hx => ?_, ?_⟩
    · obtain ⟨y, hy, rfl⟩ := List.mem_map.1 hx
      have := hr y (List.mem_of_mem_take hy)
      omega
    · by_cases hl0 : len' = 0
      · exact Or.inl (by subst hl0; rfl)
      · refine Or.inr ?_
        obtain ⟨b, off, spot⟩ := a
        have hspot : spot = none := by simpa [Addr.add] using World.cell?_spot (hcell 0 (by omega))
        subst hspot
        refine ⟨b, off, rfl, World.block_lt_of_cell? W _ (hcell 0 (by omega)), fun i hi => ?_⟩
        rw [hlen] at hi
        rw [← add_plain, hcell i (by omega), hget i hi]
        have := hr (zs.getD i 0) (by rw [List.getD_eq_getElem?_getD, List.getElem?_eq_getElem (by omega)]; exact List.getElem_mem (by omega))
        congr 2; omega
end
end Go.Proofs.YtacbamfhlgchgaaDoor
