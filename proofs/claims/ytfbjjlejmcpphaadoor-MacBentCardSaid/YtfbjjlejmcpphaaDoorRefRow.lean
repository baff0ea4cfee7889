/-
  The walks of the document's answer: how the words begin, a round's row, a letter's place.
-/
import Derived.Test.YtfbjjlejmcpphaaDoorRef
import Derived.Test.YtfbjjlejmcpphaaDoorOrd
open Go Go.RowKit
namespace BB
def letter (n : Nat) : Nat := if n < 10 then 48 + n else 87 + n
/-- a round's row, as letters -/
def rowS (r : Nat) : ByteArray := ⟨((List.range 16).map fun j => UInt8.ofNat (letter (sg (r * 16 + j)))).toArray⟩
theorem rowS_size (r : Nat) : (rowS r).size = 16 := by simp [rowS, ByteArray.size]
theorem rowS_at (r j : Nat) (hj : j < 16) : (rowS r)[j]? = some (UInt8.ofNat (letter (sg (r * 16 + j)))) := by
  have : (rowS r).data[j]? = some (UInt8.ofNat (letter (sg (r * 16 + j)))) := by simp [rowS, hj]
  rw [← this]
  show _ = (rowS r).data[j]?
  rfl
theorem letter_nat (n : Nat) (h : n < 16) : (UInt8.ofNat (letter n)).toNat = letter n := by
  unfold letter; split <;> simp <;> omega
theorem hold_build {P : Program} {ops : Array Oper} {Q : Exit → Act → World → Prop} {a : Act} {w : World} {rest : List Oper} {o : Oper} {T : TypeId} {parts : Array (Nat × Operand)} (_ho : o.op = .build T parts) (h : Held (wpList P ops Q (o :: rest) a w)) : wpList P ops Q (o :: rest) a w := h
theorem hold_index {P : Program} {ops : Array Oper} {Q : Exit → Act → World → Prop} {a : Act} {w : World} {rest : List Oper} {o : Oper} {T : TypeId} {x y : Operand} (_ho : o.op = .index T x y) (h : Held (wpList P ops Q (o :: rest) a w)) : wpList P ops Q (o :: rest) a w := h
end BB
namespace Go.Proofs.YtfbjjlejmcpphaaDoor
open BB
theorem agg_q8 (w : World) : (isAgg 48).run Tryd.prog w = .ok true w := by kernel_rfl
theorem size_q8 (w : World) : (Go.sizeOf 48).run Tryd.prog w = .ok 8 w := by kernel_rfl
theorem iv_any (w : World) : Calls Tryd.prog 28 #[] w fun e w' => e = .returned (.agg (row 8 (cw .u64 iv))) ∧ Below w.heap.size w w' := by
  go_enter Tryd.func28, Tryd.ntmps28
  go_wp2_with (with_reducible refine hold_store (.tmp 0) (.tmp 1) rfl ?_)
  refine wpl_store (.tmp 0) (.tmp 1) w.heap.size 0 8 8 (cw .u64 fun _ => 0) (cw .u64 iv) rfl rfl rfl rfl (size_q8 _) (Blk.new' rfl rfl) (by omega) (fun _ _ => rfl) ?_
  intro w1 h1
  go_wp2_with fail
  have h4 : Blk w1 w.heap.size 8 (cw .u64 iv) := h1.1.congr _ fun i hi => by simp [hi]
  exact body_row (p := 0) (by kernel_rfl) rfl (agg_q8 _) (size_q8 _) h4.cells (by omega) rfl ⟨rfl, ((Below.refl _ _).alloc (Nat.le_refl _) _).trans (h1.2.below (Nat.le_refl _))⟩
theorem place_any (n : Nat) (hn : n < 16) (w : World) : Calls Tryd.prog 36 #[.int .u8 (letter n : Int)] w fun e w' => e = .returned (.int .i64 (n : Int)) ∧ w' = w := by
  by_cases h : n < 10
  · have e : letter n = 48 + n := by unfold letter; rw [if_pos h]
    rw [e]
    have h1 : ¬ (97 : Int) ≤ ((48 + n : Nat) : Int) := by omega
    have h2 : ((48 + n : Nat) : Int) - 48 = (n : Int) := by omega
    have h3 : ((48 + n : Nat) : Int) ≤ 200 := by omega
    have h4 : (0 : Int) ≤ ((48 + n : Nat) : Int) := by omega
    clear e
    generalize ((48 + n : Nat) : Int) = z at *
    go_enter Tryd.func36, Tryd.ntmps36
    go_wp2
    go_ret
    exact ⟨ret_int (by omega), rfl⟩
  · have e : letter n = 87 + n := by unfold letter; rw [if_neg h]
    rw [e]
    have h1 : (97 : Int) ≤ ((87 + n : Nat) : Int) := by omega
    have h2 : ((87 + n : Nat) : Int) - 97 + 10 = (n : Int) := by omega
    have h3 : ((87 + n : Nat) : Int) ≤ 200 := by omega
    clear e
    generalize ((87 + n : Nat) : Int) = z at *
    go_enter Tryd.func36, Tryd.ntmps36
    go_wp2
    go_ret
    exact ⟨ret_int (by omega), rfl⟩
def rowsV : Value := .agg (row 10 fun r => .string (rowS r))
theorem rowr_0 (w : World) : Calls Tryd.prog 34 #[.int .i64 0] w fun e w' => e = .returned (.string (rowS 0)) ∧ w' = w := by
  go_enter Tryd.func34, Tryd.ntmps34
  go_wp2_with (with_reducible refine hold_build rfl ?_)
  refine wpl_value (v := rowsV) (w' := w) rfl (by kernel_rfl) ?_
  go_wp2_with (with_reducible refine hold_index rfl ?_)
  refine wpl_value (v := .string (rowS 0)) (w' := w) rfl (by kernel_rfl) ?_
  go_wp2_with fail
  go_ret
  exact ⟨rfl, rfl⟩
theorem rowr_1 (w : World) : Calls Tryd.prog 34 #[.int .i64 1] w fun e w' => e = .returned (.string (rowS 1)) ∧ w' = w := by
  go_enter Tryd.func34, Tryd.ntmps34
  go_wp2_with (with_reducible refine hold_build rfl ?_)
  refine wpl_value (v := rowsV) (w' := w) rfl (by kernel_rfl) ?_
  go_wp2_with (with_reducible refine hold_index rfl ?_)
  refine wpl_value (v := .string (rowS 1)) (w' := w) rfl (by kernel_rfl) ?_
  go_wp2_with fail
  go_ret
  exact ⟨rfl, rfl⟩
theorem rowr_2 (w : World) : Calls Tryd.prog 34 #[.int .i64 2] w fun e w' => e = .returned (.string (rowS 2)) ∧ w' = w := by
  go_enter Tryd.func34, Tryd.ntmps34
  go_wp2_with (with_reducible refine hold_build rfl ?_)
  refine wpl_value (v := rowsV) (w' := w) rfl (by kernel_rfl) ?_
  go_wp2_with (with_reducible refine hold_index rfl ?_)
  refine wpl_value (v := .string (rowS 2)) (w' := w) rfl (by kernel_rfl) ?_
  go_wp2_with fail
  go_ret
  exact ⟨rfl, rfl⟩
theorem rowr_3 (w : World) : Calls Tryd.prog 34 #[.int .i64 3] w fun e w' => e = .returned (.string (rowS 3)) ∧ w' = w := by
  go_enter Tryd.func34, Tryd.ntmps34
  go_wp2_with (with_reducible refine hold_build rfl ?_)
  refine wpl_value (v := rowsV) (w' := w) rfl (by kernel_rfl) ?_
  go_wp2_with (with_reducible refine hold_index rfl ?_)
  refine wpl_value (v := .string (rowS 3)) (w' := w) rfl (by kernel_rfl) ?_
  go_wp2_with fail
  go_ret
  exact ⟨rfl, rfl⟩
theorem rowr_4 (w : World) : Calls Tryd.prog 34 #[.int .i64 4] w fun e w' => e = .returned (.string (rowS 4)) ∧ w' = w := by
  go_enter Tryd.func34, Tryd.ntmps34
  go_wp2_with (with_reducible refine hold_build rfl ?_)
  refine wpl_value (v := rowsV) (w' := w) rfl (by kernel_rfl) ?_
  go_wp2_with (with_reducible refine hold_index rfl ?_)
  refine wpl_value (v := .string (rowS 4)) (w' := w) rfl (by kernel_rfl) ?_
  go_wp2_with fail
  go_ret
  exact ⟨rfl, rfl⟩
theorem rowr_5 (w : World) : Calls Tryd.prog 34 #[.int .i64 5] w fun e w' => e = .returned (.string (rowS 5)) ∧ w' = w := by
  go_enter Tryd.func34, Tryd.ntmps34
  go_wp2_with (with_reducible refine hold_build rfl ?_)
  refine wpl_value (v := rowsV) (w' := w) rfl (by kernel_rfl) ?_
  go_wp2_with (with_reducible refine hold_index rfl ?_)
  refine wpl_value (v := .string (rowS 5)) (w' := w) rfl (by kernel_rfl) ?_
  go_wp2_with fail
  go_ret
  exact ⟨rfl, rfl⟩
theorem rowr_6 (w : World) : Calls Tryd.prog 34 #[.int .i64 6] w fun e w' => e = .returned (.string (rowS 6)) ∧ w' = w := by
  go_enter Tryd.func34, Tryd.ntmps34
  go_wp2_with (with_reducible refine hold_build rfl ?_)
  refine wpl_value (v := rowsV) (w' := w) rfl (by kernel_rfl) ?_
  go_wp2_with (with_reducible refine hold_index rfl ?_)
  refine wpl_value (v := .string (rowS 6)) (w' := w) rfl (by kernel_rfl) ?_
  go_wp2_with fail
  go_ret
  exact ⟨rfl, rfl⟩
theorem rowr_7 (w : World) : Calls Tryd.prog 34 #[.int .i64 7] w fun e w' => e = .returned (.string (rowS 7)) ∧ w' = w := by
  go_enter Tryd.func34, Tryd.ntmps34
  go_wp2_with (with_reducible refine hold_build rfl ?_)
  refine wpl_value (v := rowsV) (w' := w) rfl (by kernel_rfl) ?_
  go_wp2_with (with_reducible refine hold_index rfl ?_)
  refine wpl_value (v := .string (rowS 7)) (w' := w) rfl (by kernel_rfl) ?_
  go_wp2_with fail
  go_ret
  exact ⟨rfl, rfl⟩
theorem rowr_8 (w : World) : Calls Tryd.prog 34 #[.int .i64 8] w fun e w' => e = .returned (.string (rowS 8)) ∧ w' = w := by
  go_enter Tryd.func34, Tryd.ntmps34
  go_wp2_with (with_reducible refine hold_build rfl ?_)
  refine wpl_value (v := rowsV) (w' := w) rfl (by kernel_rfl) ?_
  go_wp2_with (with_reducible refine hold_index rfl ?_)
  refine wpl_value (v := .string (rowS 8)) (w' := w) rfl (by kernel_rfl) ?_
  go_wp2_with fail
  go_ret
  exact ⟨rfl, rfl⟩
theorem rowr_9 (w : World) : Calls Tryd.prog 34 #[.int .i64 9] w fun e w' => e = .returned (.string (rowS 9)) ∧ w' = w := by
  go_enter Tryd.func34, Tryd.ntmps34
  go_wp2_with (with_reducible refine hold_build rfl ?_)
  refine wpl_value (v := rowsV) (w' := w) rfl (by kernel_rfl) ?_
  go_wp2_with (with_reducible refine hold_index rfl ?_)
  refine wpl_value (v := .string (rowS 9)) (w' := w) rfl (by kernel_rfl) ?_
  go_wp2_with fail
  go_ret
  exact ⟨rfl, rfl⟩
theorem rowr_any (r : Nat) (hr : r < 10) (w : World) : Calls Tryd.prog 34 #[.int .i64 (r : Int)] w fun e w' => e = .returned (.string (rowS r)) ∧ w' = w := by
  match r, hr with
  | 0, _ => exact rowr_0 w
  | 1, _ => exact rowr_1 w
  | 2, _ => exact rowr_2 w
  | 3, _ => exact rowr_3 w
  | 4, _ => exact rowr_4 w
  | 5, _ => exact rowr_5 w
  | 6, _ => exact rowr_6 w
  | 7, _ => exact rowr_7 w
  | 8, _ => exact rowr_8 w
  | 9, _ => exact rowr_9 w
  | r + 10, h => omega
end Go.Proofs.YtfbjjlejmcpphaaDoor
