/-
  What comes in, opened: lists of tags, and signatures.
-/
import Derived.Test.YthajnkcipifhcaaGreatDoorRows
import Derived.Test.YthajnkcipifhcaaGreatDoorKCallsW
import Derived.Test.YthajnkcipifhcaaGreatDoorChecked
import Derived.SliceStrings
import Derived.Lib.SmallJoins
import Derived.Deep.Slices
import Derived.Deep.Strs
open Go Go.RowKit
namespace Go.Proofs.YthajnkcipifhcaaGreatDoor
open WW BB Go.WideShapes Go.ChangeShapes Go.Deep
section
variable {H : Type} {enc : TypeId × Value → H} {W : World}
abbrev TrodW (enc : TypeId × Value → H) (W : World) (fuel : Nat) (t : TypeId) (cs : List Value) (x : DataW H × List MemPlace) : Prop := DataW.trod enc Tryz.prog W 0 (fun _ => true) true fuel t cs = some x
theorem len_max {n : Nat} (h : n ≤ maxLen) : n ≤ 9223372036854775807 := h
theorem cells_str : Tryz.prog.cellsOf 9 = 1 := by kernel_rfl
theorem cells_sig : Tryz.prog.cellsOf 39 = 2 := by kernel_rfl
set_option maxRecDepth 100000 in
theorem open_strs {fuel : Nat} {cs : List Value} {x : DataW H × List MemPlace} (h : TrodW enc W fuel 37 cs x) : ∃ sv l, cs = [sv] ∧ StrsAt W sv l ∧ l.length ≤ 9223372036854775807 := by
  rcases open_strings Tryz.underlying37 Tryz.underlying9 cells_str h with ⟨hcs, hx⟩ | ⟨a, len, cap, ss, hcs, _, hl, hm, hz, hx, hcell, hws⟩
  · exact ⟨_, [], hcs, ⟨none, 0, rfl, Or.inl rfl⟩, by simp⟩
  · simp only [if_true] at hz
    refine ⟨_, ss.take len, hcs, ⟨some a, cap, by rw [List.length_take_of_le (by omega)], ?_⟩, by rw [List.length_take_of_le (by omega)]; exact Nat.le_trans hl (len_max hm)⟩
    by_cases hl0 : len = 0
    · exact Or.inl (by subst hl0; rfl)
    · refine Or.inr ?_
      obtain ⟨b, off, spot⟩ := a
      have hspot : spot = none := by simpa [Addr.add] using World.cell?_spot (hcell 0 (by omega))
      subst hspot
      refine ⟨b, off, rfl, ?_, fun i hi => ?_⟩
      · have := hcell 0 (by omega)
        exact World.block_lt_of_cell? W _ this
      · rw [List.length_take_of_le (by omega)] at hi
        rw [← add_plain, hcell i (by omega)]
        simp only [List.getD_eq_getElem?_getD, List.getElem?_take_of_lt hi]
        rfl
set_option maxRecDepth 100000 in
theorem open_sig {fuel : Nat} {cs : List Value} {x : DataW H × List MemPlace} (h : TrodW enc W fuel 39 cs x) : ∃ f tv ts, cs = [.int .i64 f, tv] ∧ StrsAt W tv ts ∧ ts.length ≤ 9223372036854775807 := by
  obtain ⟨y0, y1, n, _, hl, h0, h1⟩ := trod_struct2 Tryz.underlying39 h
  rw [cells_sig] at hl
  match cs, hl with
  | [u0, u1], _ =>
    obtain ⟨f, hf, _⟩ := DataW.trod_int Tryz.underlying3 h0
    obtain ⟨tv, ts, htv, hts, hm⟩ := open_strs h1
    have e0 : [u0] = [.int .i64 f] := hf
    have e1 : [u1] = [tv] := htv
    simp only [List.cons.injEq, and_true] at e0 e1
    exact ⟨f, tv, ts, by rw [e0, e1], hts, hm⟩
end
end Go.Proofs.YthajnkcipifhcaaGreatDoor
