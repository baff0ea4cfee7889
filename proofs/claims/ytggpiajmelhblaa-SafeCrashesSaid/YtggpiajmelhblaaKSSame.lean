/-
  The walk of the reference's comparison of two lists.
-/
import Derived.Test.YtggpiajmelhblaaKFAt
import Derived.Test.YtggpiajmelhblaaKPlanS
import Derived.Test.YtggpiajmelhblaaKERefS
import Derived.Test.YtggpiajmelhblaaKJUnlike
section
open Go Go.RowKit
namespace FF
open WW BB
/-- a slice of strings, cell by cell -/
theorem strs_cell {w wr : World} {a0 : Option Addr} {n c : Nat} {l : List ByteArray} (h : StrsAt w (.slice a0 n c) l) (hb : Below w.heap.size w wr) (i : Nat) (hi : i < l.length) : ∃ b off, a0 = some ⟨b, off, none⟩ ∧ b < w.heap.size ∧ wr.cell? ⟨b, off + i, none⟩ = some (.string (l.getD i ⟨#[]⟩)) := by
  obtain ⟨a1, c1, he, h | ⟨b, off, h1, h2, h3⟩⟩ := h
  · subst h; simp at hi
  · injection he with e1 _ _
    subst h1
    exact ⟨b, off, e1, h2, (hb.cell (p := ⟨b, off + i, none⟩) h2).trans (h3 i hi)⟩
theorem strs_len {w : World} {a0 : Option Addr} {n c : Nat} {l : List ByteArray} (h : StrsAt w (.slice a0 n c) l) : n = l.length := by
  obtain ⟨a1, c1, he, _⟩ := h
  injection he
theorem strs_shape {w : World} {v : Value} {l : List ByteArray} (h : StrsAt w v l) : ∃ a c, v = .slice a l.length c := by
  obtain ⟨a, c, rfl, _⟩ := h; exact ⟨a, c, rfl⟩
/-- the first place of a string, or none -/
theorem find_hit {l : List ByteArray} {h : ByteArray} (i : Nat) (hi : i < l.length) (hn : ∀ j, j < i → l.getD j ⟨#[]⟩ ≠ h) (he : l.getD i ⟨#[]⟩ = h) : l.findIdx? (fun x => decide (x = h)) = some i := by
  rw [List.findIdx?_eq_some_iff_getElem]
  refine ⟨hi, by simpa [List.getD, List.getElem?_eq_getElem hi] using he, fun j hj => ?_⟩
  have := hn j hj
  simpa [List.getD, List.getElem?_eq_getElem (show j < l.length by omega)] using this
theorem find_none {l : List ByteArray} {h : ByteArray} (hn : ∀ j, j < l.length → l.getD j ⟨#[]⟩ ≠ h) : l.findIdx? (fun x => decide (x = h)) = none := by
  rw [List.findIdx?_eq_none_iff]
  intro x hx
  obtain ⟨j, hj, rfl⟩ := List.getElem_of_mem hx
  have := hn j hj
  simpa [List.getD, List.getElem?_eq_getElem hj] using this
theorem take_rev {l : List ByteArray} {i k : Nat} (hk : k < i) (hi : i ≤ l.length) : (l.take i).reverse.take (i - k) = (l.take i).reverse.take (i - (k + 1)) ++ [l.getD k ⟨#[]⟩] := by
  have h1 : i - (k + 1) < (l.take i).reverse.length := by simp; omega
  rw [show i - k = (i - (k + 1)) + 1 by omega, List.take_add_one, List.getElem?_eq_getElem h1]
  congr 1
  simp only [Option.toList_some, List.cons.injEq, and_true]
  rw [List.getElem_reverse, List.getElem_take]
  have h2 : (l.take i).length - 1 - (i - (k + 1)) = k := by simp; omega
  simp only [h2]
  simp [List.getD, List.getElem?_eq_getElem (show k < l.length by omega)]
end FF
namespace Go.Proofs.Ytggpiajmelhblaa
open FF JJ CC WW BB
end Go.Proofs.Ytggpiajmelhblaa
end
section
open Go Go.RowKit
namespace Go.Proofs.Ytggpiajmelhblaa
open FF JJ CC WW BB
set_option maxRecDepth 100000 in
set_option maxHeartbeats 4000000 in
theorem rsame9_any (l m : List ByteArray) (v u : Value) (w : World) (hv : StrsAt w v l) (hu : StrsAt w u m) (hl : l.length ≤ 1000000000) :
    Calls Try.prog 14 #[v, u] w fun e w' => e = .returned (.bool (decide (l = m))) ∧ Below w.heap.size w w' := by
  have HV := Lib.hid hv
  have HU := Lib.hid hu
  have HL := Lib.hid hl
  obtain ⟨a0, cap, rfl⟩ := strs_shape hv
  obtain ⟨b0, bap, rfl⟩ := strs_shape hu
  clear hl hv hu
  by_cases hlm : l.length = m.length
  · have HLM := Lib.hid hlm
    have t0 : ((l.length : Int) != (m.length : Int)) = false := by rw [hlm]; simp
    clear hlm
    obtain ⟨X, hX⟩ : ∃ X, decide (l = m) = X := ⟨_, rfl⟩
    have HX := Lib.hid hX
    rw [hX]
    clear hX
    go_enter Try.func14, Try.ntmps14
    go_wp2_with fail
    clear t0
    go_loopw [5] (fun v wr => ∃ i : Nat, i ≤ l.length ∧ v = .int .i64 (i : Int) ∧ (∀ j, j < i → l.getD j ⟨#[]⟩ = m.getD j ⟨#[]⟩) ∧ Below w.heap.size w wr) (fun v _ => l.length - (intOf v).toNat)
    case atStart => exact ⟨0, Nat.zero_le _, rfl, fun j hj => absurd hj (Nat.not_lt_zero _), Below.refl _ _⟩
    case round =>
      obtain ⟨i, hi, rfl, hal, hb⟩ := hrel
      have HALL := Lib.hid hal
      have HB := Lib.hid hb
      have i0 : (0 : Int) ≤ (i : Int) := by omega
      have ib : (i : Int) ≤ 1000000000 := by have := HL.out; omega
      clear hal hb
      by_cases hlt : i < l.length
      · have hlt' : (i : Int) < (l.length : Int) := by omega
        have hlt2 : (i : Int) < (m.length : Int) := by rw [← HLM.out]; omega
        have HLT := Lib.hid hlt
        obtain ⟨gb, off, rfl, hbw, -⟩ := strs_cell HV.out HB.out i hlt
        obtain ⟨gb2, off2, rfl, hbw2, -⟩ := strs_cell HU.out HB.out i (by omega)
        obtain ⟨x, hx⟩ : ∃ x, l.getD i ⟨#[]⟩ = x := ⟨_, rfl⟩
        obtain ⟨y, hy⟩ : ∃ y, m.getD i ⟨#[]⟩ = y := ⟨_, rfl⟩
        have HXY := Lib.hid (And.intro hx hy)
        have C1 := Lib.hid (show ∀ w', Below w.heap.size w w' → w'.cell? ⟨gb, off + i, none⟩ = some (.string x) from fun w' h => by
          obtain ⟨b', o', he, _, hc⟩ := strs_cell HV.out h i hlt
          injection he with he; injection he with e1 e2; subst e1 e2; rw [hc, hx])
        have C2 := Lib.hid (show ∀ w', Below w.heap.size w w' → w'.cell? ⟨gb2, off2 + i, none⟩ = some (.string y) from fun w' h => by
          obtain ⟨b', o', he, _, hc⟩ := strs_cell HU.out h i (by rw [← HLM.out]; exact hlt)
          injection he with he; injection he with e1 e2; subst e1 e2; rw [hc, hy])
        clear hi hlt hbw hbw2 hx hy
        go_wp2_with fail
        by_cases he : x = y
        · have t1 : (x.toList == y.toList) = true := by rw [he]; simp
          have HE := Lib.hid he
          clear he
          refine plan_abs (fun wx => Below w.heap.size w wx) [(true, 0), (true, 1), (true, 2), (true, 3), (true, 4), (true, 5), (true, 6), (true, 7), (true, 8)] (by kernel_rfl) (by kernel_rfl) (fun _ _ d _ _ h => by cases d <;> exact h) fun w5 hs5 => ⟨HB.out.trans ((hs5.below _).mono HB.out.size), ?_⟩
          have B5 := Lib.hid (HB.out.trans ((hs5.below _).mono HB.out.size))
          clear hs5
          iterate 9 (refine pl_run _ ?_ rfl rfl ?_ ?_; rotate_left; (focus (intro w' hS; have c0 := C1.out w' hS; have c1 := C2.out w' hS; go_simp; exact rfl)); simp only [Act.put, List.setIfInBounds_toArray, List.set_cons_zero, List.set_cons_succ, List.getElem_toArray, List.getElem_cons_zero, List.getElem_cons_succ])
          refine pl_end ?_
          go_wp2_with fail
          go_roundw
          case rel => exact ⟨i + 1, by have := HLT.out; omega, by go_num, fun j hj => if h : j = i then by subst h; rw [HXY.out.1, HXY.out.2]; exact HE.out else HALL.out j (by omega), B5.out⟩
          case measure => have := HLT.out; simp [intOf]; omega
        · have t1 := ba_beq he
          have HE := Lib.hid he
          clear he
          refine plan_abs (fun wx => Below w.heap.size w wx) [(true, 0), (true, 1), (true, 2), (true, 3), (true, 4), (true, 5), (true, 6), (true, 7), (true, 8)] (by kernel_rfl) (by kernel_rfl) (fun _ _ d _ _ h => by cases d <;> exact h) fun w5 hs5 => ⟨HB.out.trans ((hs5.below _).mono HB.out.size), ?_⟩
          have B5 := Lib.hid (HB.out.trans ((hs5.below _).mono HB.out.size))
          clear hs5
          iterate 9 (refine pl_run _ ?_ rfl rfl ?_ ?_; rotate_left; (focus (intro w' hS; have c0 := C1.out w' hS; have c1 := C2.out w' hS; go_simp; exact rfl)); simp only [Act.put, List.setIfInBounds_toArray, List.set_cons_zero, List.set_cons_succ, List.getElem_toArray, List.getElem_cons_zero, List.getElem_cons_succ])
          refine pl_end ?_
          go_wp2_with fail
          go_ret
          refine ⟨?_, B5.out⟩
          have hne : l ≠ m := list_ne_at (d := ⟨#[]⟩) (i := i) (by rw [HXY.out.1, HXY.out.2]; exact HE.out)
          rw [← HX.out]; simp [hne]
      · obtain rfl : i = l.length := by omega
        have hlt' : ¬ (l.length : Int) < (l.length : Int) := by omega
        clear hi hlt
        go_wp2_with fail
        go_ret
        refine ⟨?_, HB.out⟩
        have he : l = m := list_eq_at HLM.out HALL.out
        rw [← HX.out]; simp [he]
  · have t0 : ((l.length : Int) != (m.length : Int)) = true := by rw [bne_iff_ne]; omega
    have HLM := Lib.hid hlm
    clear hlm
    go_enter Try.func14, Try.ntmps14
    go_wp2_with fail
    go_ret
    refine ⟨?_, Below.refl _ _⟩
    have hne : l ≠ m := by rintro rfl; exact HLM.out rfl
    simp [hne]
end Go.Proofs.Ytggpiajmelhblaa
end
