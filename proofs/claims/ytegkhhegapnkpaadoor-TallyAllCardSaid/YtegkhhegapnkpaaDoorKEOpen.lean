/-
  What comes in to the laws of certificates, opened.
-/
import Derived.Test.YtegkhhegapnkpaaDoorKWOpen
import Derived.Test.YtegkhhegapnkpaaDoorKLNum
import Derived.ChangeSlices
import Derived.WideKeyPair
import Derived.WideKeyArr2
import Derived.Laws.IdiomArrays
import Derived.OpenShut
open Go Go.RowKit
namespace CC
open BB WW
/-- v is a slice of the bytes l -/
def NatsAt (w : World) (v : Value) (l : List Nat) : Prop :=
  ∃ a0 cap, v = .slice a0 l.length cap ∧ l.length ≤ 9223372036854775807 ∧ (∀ x ∈ l, x < 256) ∧ (l = [] ∨ ∃ b off, a0 = some ⟨b, off, none⟩ ∧ b < w.heap.size ∧ ∀ i, i < l.length → w.cell? ⟨b, off + i, none⟩ = some (.int .u8 (l.getD i 0 : Nat)))
theorem NatsAt.later {w w' : World} {v : Value} {l : List Nat} (h : NatsAt w v l) (hb : Below w.heap.size w w') : NatsAt w' v l := by
  obtain ⟨a0, cap, rfl, hn, hm, h | ⟨b, off, rfl, hl, hc⟩⟩ := h
  · exact ⟨a0, cap, rfl, hn, hm, Or.inl h⟩
  · exact ⟨_, cap, rfl, hn, hm, Or.inr ⟨b, off, rfl, Nat.lt_of_lt_of_le hl hb.size, fun i hi => (hb.cell (p := ⟨b, off + i, none⟩) hl).trans (hc i hi)⟩⟩
theorem wf_u8 {a : Int} (wa : (Lit.int .u8 a).wf = true) : 0 ≤ a ∧ a < 256 := by
  simp [Lit.wf, IntKind.min, IntKind.max, IntKind.bits, IntKind.signed] at wa
  omega
end CC
namespace Go.Proofs.YtegkhhegapnkpaaDoor
open CC WW BB Go.WideShapes Go.ChangeShapes Go.Deep
section
variable {H : Type} {enc : TypeId × Value → H} {W : World} {v : Value} {d : DataW H} {p : List MemPlace}
set_option maxRecDepth 100000 in
theorem openv_u8x2 (hval : Value.okWide Tryd.prog W .any 0 64 v) (h : DataW.Trod enc Tryd.prog W 0 (fun _ => true) true 64 v d p) :
    ∃ a b : Nat, v = .agg #[.int .u8 (a : Int), .int .u8 (b : Int)] ∧ a < 256 ∧ b < 256 := by
  obtain ⟨a, b, rfl, _, _, h1, h2⟩ := Go.WideMaps.open_pair (k := 64) (e := 5) ⟨Tryd.underlying64, by kernel_rfl, by kernel_rfl, by kernel_rfl⟩ Tryd.underlying5 hval h
  have h1 := wf_u8 h1
  have h2 := wf_u8 h2
  obtain ⟨a, rfl⟩ := Int.eq_ofNat_of_zero_le h1.1
  obtain ⟨b, rfl⟩ := Int.eq_ofNat_of_zero_le h2.1
  exact ⟨a, b, rfl, by omega, by omega⟩
set_option maxRecDepth 100000 in
theorem openv_u8 (h : DataW.Trod enc Tryd.prog W 0 (fun _ => true) true 5 v d p) (hval : Value.okWide Tryd.prog W .any 0 5 v) : ∃ a : Nat, v = .int .u8 (a : Int) ∧ a < 256 := by
  obtain ⟨a, rfl, _, _, wf⟩ := open_int Tryd.underlying5 hval h
  have hw := wf_u8 wf
  obtain ⟨m, rfl⟩ := Int.eq_ofNat_of_zero_le hw.1
  exact ⟨m, rfl, by omega⟩
theorem cells_u8x : Tryd.prog.cellsOf 5 = 1 := by kernel_rfl
set_option maxRecDepth 100000 in
theorem openv_bytes (hval : Value.okWide Tryd.prog W .any 0 110 v) (h : DataW.Trod enc Tryd.prog W 0 (fun _ => true) true 110 v d p) : ∃ l, NatsAt W v l := by
  obtain ⟨a0, len, cap, rfl⟩ := okWide_slice Tryd.underlying110 hval
  obtain ⟨fuel, hf⟩ := h
  rcases Go.ChangeShapes.open_ints Tryd.underlying110 Tryd.underlying5 cells_u8x hf with ⟨hcs, hx⟩ | ⟨a, len', cap', zs, hcs, _, hl, hm, hz, hx, hcell, hws⟩
  · have hcs : [Value.slice a0 len cap] = [.slice none 0 0] := hcs
    simp only [List.cons.injEq, and_true] at hcs
    rw [hcs]
    exact ⟨[], none, 0, rfl, by simp, by simp, Or.inl rfl⟩
  · have hcs : [Value.slice a0 len cap] = [.slice (some a) len' cap'] := hcs
    simp only [List.cons.injEq, and_true] at hcs
    rw [hcs]
    simp only [if_true] at hz
    have hm' : cap' ≤ 9223372036854775807 := hm
    have hlen : ((zs.take len').map Int.toNat).length = len' := by rw [List.length_map, List.length_take_of_le (by omega)]
    have hget : ∀ i, i < len' → (((zs.take len').map Int.toNat).getD i 0 : Nat) = (zs.getD i 0).toNat := fun i hi => by
      simp [List.getD, List.getElem?_take_of_lt hi, List.getElem?_eq_getElem (show i < zs.length by omega)]
    have hr : ∀ x ∈ zs, 0 ≤ x ∧ x < 256 := fun x hx => wf_u8 (hws x hx)
    refine ⟨(zs.take len').map Int.toNat, some a, cap', by rw [hlen], by rw [hlen]; omega, fun x hx => ?_, ?_⟩
    · obtain ⟨y, hy, rfl⟩ := List.mem_map.1 hx
      have := hr y (List.mem_of_mem_take hy)
      omega
    · by_cases hl0 : len' = 0
      · exact Or.inl (by subst hl0; rfl)
      · refine Or.inr ?_
        obtain ⟨b, off, spot⟩ := a
        have hspot : spot = none := by simpa [Addr.add] using World.cell?_spot (hcell 0 (by omega))
        subst hspot
        refine ⟨b, off, rfl, World.block_lt_of_cell? W _ (hcell 0 (by omega)), fun i hi => ?_⟩
        rw [hlen] at hi
        rw [← add_plain, hcell i (by omega), hget i hi]
        have := hr (zs.getD i 0) (by rw [List.getD_eq_getElem?_getD, List.getElem?_eq_getElem (by omega)]; exact List.getElem_mem (by omega))
        congr 2; omega
end
end Go.Proofs.YtegkhhegapnkpaaDoor
