/-
  A block's words, as sums of bytes: plain arithmetic.
-/
import Derived.Test.YtigoaokpodggcaaDoorKRefMix
section
open Go Go.RowKit
namespace BB
def letter (n : Nat) : Nat := if n < 10 then 48 + n else 87 + n
/-- a round's row, as letters -/
def rowS (r : Nat) : ByteArray := ⟨((List.range 16).map fun j => UInt8.ofNat (letter (sg (r * 16 + j)))).toArray⟩
theorem rowS_size (r : Nat) : (rowS r).size = 16 := by simp [rowS, ByteArray.size]
theorem rowS_at (r j : Nat) (hj : j < 16) : (rowS r)[j]? = some (UInt8.ofNat (letter (sg (r * 16 + j)))) := by
  have : (rowS r).data[j]? = some (UInt8.ofNat (letter (sg (r * 16 + j)))) := by simp [rowS, hj]
  rw [← this]
  show _ = (rowS r).data[j]?
  rfl
theorem letter_nat (n : Nat) (h : n < 16) : (UInt8.ofNat (letter n)).toNat = letter n := by
  unfold letter; split <;> simp <;> omega
theorem hold_build {P : Program} {ops : Array Oper} {Q : Exit → Act → World → Prop} {a : Act} {w : World} {rest : List Oper} {o : Oper} {T : TypeId} {parts : Array (Nat × Operand)} (_ho : o.op = .build T parts) (h : Held (wpList P ops Q (o :: rest) a w)) : wpList P ops Q (o :: rest) a w := h
theorem hold_index {P : Program} {ops : Array Oper} {Q : Exit → Act → World → Prop} {a : Act} {w : World} {rest : List Oper} {o : Oper} {T : TypeId} {x y : Operand} (_ho : o.op = .index T x y) (h : Held (wpList P ops Q (o :: rest) a w)) : wpList P ops Q (o :: rest) a w := h
end BB
namespace Go.Proofs.YtigoaokpodggcaaDoor
open BB
theorem agg_q8 (w : World) : (isAgg 65).run Tryd.prog w = .ok true w := by kernel_rfl
theorem size_q8 (w : World) : (Go.sizeOf 65).run Tryd.prog w = .ok 8 w := by kernel_rfl
theorem iv_any (w : World) : Calls Tryd.prog 40 #[] w fun e w' => e = .returned (.agg (row 8 (cw .u64 iv))) ∧ Below w.heap.size w w' := by
  go_enter Tryd.func40, Tryd.ntmps40
  go_wp2_with (with_reducible refine hold_store (.tmp 0) (.tmp 1) rfl ?_)
  refine wpl_store (.tmp 0) (.tmp 1) w.heap.size 0 8 8 (cw .u64 fun _ => 0) (cw .u64 iv) rfl rfl rfl rfl (size_q8 _) (Blk.new' rfl rfl) (by omega) (fun _ _ => rfl) ?_
  intro w1 h1
  go_wp2_with fail
  have h4 : Blk w1 w.heap.size 8 (cw .u64 iv) := h1.1.congr _ fun i hi => by simp [hi]
  exact body_row (p := 0) (by kernel_rfl) rfl (agg_q8 _) (size_q8 _) h4.cells (by omega) rfl ⟨rfl, ((Below.refl _ _).alloc (Nat.le_refl _) _).trans (h1.2.below (Nat.le_refl _))⟩
theorem place_any (n : Nat) (hn : n < 16) (w : World) : Calls Tryd.prog 60 #[.int .u8 (letter n : Int)] w fun e w' => e = .returned (.int .i64 (n : Int)) ∧ w' = w := by
  by_cases h : n < 10
  · have e : letter n = 48 + n := by unfold letter; rw [if_pos h]
    rw [e]
    have h1 : ¬ (97 : Int) ≤ ((48 + n : Nat) : Int) := by omega
    have h2 : ((48 + n : Nat) : Int) - 48 = (n : Int) := by omega
    have h3 : ((48 + n : Nat) : Int) ≤ 200 := by omega
    have h4 : (0 : Int) ≤ ((48 + n : Nat) : Int) := by omega
    clear e
    generalize ((48 + n : Nat) : Int) = z at *
    go_enter Tryd.func60, Tryd.ntmps60
    go_wp2
    go_ret
    exact ⟨ret_int (by omega), rfl⟩
  · have e : letter n = 87 + n := by unfold letter; rw [if_neg h]
    rw [e]
    have h1 : (97 : Int) ≤ ((87 + n : Nat) : Int) := by omega
    have h2 : ((87 + n : Nat) : Int) - 97 + 10 = (n : Int) := by omega
    have h3 : ((87 + n : Nat) : Int) ≤ 200 := by omega
    clear e
    generalize ((87 + n : Nat) : Int) = z at *
    go_enter Tryd.func60, Tryd.ntmps60
    go_wp2
    go_ret
    exact ⟨ret_int (by omega), rfl⟩
def rowsV : Value := .agg (row 10 fun r => .string (rowS r))
theorem rowr_0 (w : World) : Calls Tryd.prog 58 #[.int .i64 0] w fun e w' => e = .returned (.string (rowS 0)) ∧ w' = w := by
  go_enter Tryd.func58, Tryd.ntmps58
  go_wp2_with (with_reducible refine hold_build rfl ?_)
  refine wpl_value (v := rowsV) (w' := w) rfl (by kernel_rfl) ?_
  go_wp2_with (with_reducible refine hold_index rfl ?_)
  refine wpl_value (v := .string (rowS 0)) (w' := w) rfl (by kernel_rfl) ?_
  go_wp2_with fail
  go_ret
  exact ⟨rfl, rfl⟩
theorem rowr_1 (w : World) : Calls Tryd.prog 58 #[.int .i64 1] w fun e w' => e = .returned (.string (rowS 1)) ∧ w' = w := by
  go_enter Tryd.func58, Tryd.ntmps58
  go_wp2_with (with_reducible refine hold_build rfl ?_)
  refine wpl_value (v := rowsV) (w' := w) rfl (by kernel_rfl) ?_
  go_wp2_with (with_reducible refine hold_index rfl ?_)
  refine wpl_value (v := .string (rowS 1)) (w' := w) rfl (by kernel_rfl) ?_
  go_wp2_with fail
  go_ret
  exact ⟨rfl, rfl⟩
theorem rowr_2 (w : World) : Calls Tryd.prog 58 #[.int .i64 2] w fun e w' => e = .returned (.string (rowS 2)) ∧ w' = w := by
  go_enter Tryd.func58, Tryd.ntmps58
  go_wp2_with (with_reducible refine hold_build rfl ?_)
  refine wpl_value (v := rowsV) (w' := w) rfl (by kernel_rfl) ?_
  go_wp2_with (with_reducible refine hold_index rfl ?_)
  refine wpl_value (v := .string (rowS 2)) (w' := w) rfl (by kernel_rfl) ?_
  go_wp2_with fail
  go_ret
  exact ⟨rfl, rfl⟩
theorem rowr_3 (w : World) : Calls Tryd.prog 58 #[.int .i64 3] w fun e w' => e = .returned (.string (rowS 3)) ∧ w' = w := by
  go_enter Tryd.func58, Tryd.ntmps58
  go_wp2_with (with_reducible refine hold_build rfl ?_)
  refine wpl_value (v := rowsV) (w' := w) rfl (by kernel_rfl) ?_
  go_wp2_with (with_reducible refine hold_index rfl ?_)
  refine wpl_value (v := .string (rowS 3)) (w' := w) rfl (by kernel_rfl) ?_
  go_wp2_with fail
  go_ret
  exact ⟨rfl, rfl⟩
theorem rowr_4 (w : World) : Calls Tryd.prog 58 #[.int .i64 4] w fun e w' => e = .returned (.string (rowS 4)) ∧ w' = w := by
  go_enter Tryd.func58, Tryd.ntmps58
  go_wp2_with (with_reducible refine hold_build rfl ?_)
  refine wpl_value (v := rowsV) (w' := w) rfl (by kernel_rfl) ?_
  go_wp2_with (with_reducible refine hold_index rfl ?_)
  refine wpl_value (v := .string (rowS 4)) (w' := w) rfl (by kernel_rfl) ?_
  go_wp2_with fail
  go_ret
  exact ⟨rfl, rfl⟩
theorem rowr_5 (w : World) : Calls Tryd.prog 58 #[.int .i64 5] w fun e w' => e = .returned (.string (rowS 5)) ∧ w' = w := by
  go_enter Tryd.func58, Tryd.ntmps58
  go_wp2_with (with_reducible refine hold_build rfl ?_)
  refine wpl_value (v := rowsV) (w' := w) rfl (by kernel_rfl) ?_
  go_wp2_with (with_reducible refine hold_index rfl ?_)
  refine wpl_value (v := .string (rowS 5)) (w' := w) rfl (by kernel_rfl) ?_
  go_wp2_with fail
  go_ret
  exact ⟨rfl, rfl⟩
theorem rowr_6 (w : World) : Calls Tryd.prog 58 #[.int .i64 6] w fun e w' => e = .returned (.string (rowS 6)) ∧ w' = w := by
  go_enter Tryd.func58, Tryd.ntmps58
  go_wp2_with (with_reducible refine hold_build rfl ?_)
  refine wpl_value (v := rowsV) (w' := w) rfl (by kernel_rfl) ?_
  go_wp2_with (with_reducible refine hold_index rfl ?_)
  refine wpl_value (v := .string (rowS 6)) (w' := w) rfl (by kernel_rfl) ?_
  go_wp2_with fail
  go_ret
  exact ⟨rfl, rfl⟩
theorem rowr_7 (w : World) : Calls Tryd.prog 58 #[.int .i64 7] w fun e w' => e = .returned (.string (rowS 7)) ∧ w' = w := by
  go_enter Tryd.func58, Tryd.ntmps58
  go_wp2_with (with_reducible refine hold_build rfl ?_)
  refine wpl_value (v := rowsV) (w' := w) rfl (by kernel_rfl) ?_
  go_wp2_with (with_reducible refine hold_index rfl ?_)
  refine wpl_value (v := .string (rowS 7)) (w' := w) rfl (by kernel_rfl) ?_
  go_wp2_with fail
  go_ret
  exact ⟨rfl, rfl⟩
theorem rowr_8 (w : World) : Calls Tryd.prog 58 #[.int .i64 8] w fun e w' => e = .returned (.string (rowS 8)) ∧ w' = w := by
  go_enter Tryd.func58, Tryd.ntmps58
  go_wp2_with (with_reducible refine hold_build rfl ?_)
  refine wpl_value (v := rowsV) (w' := w) rfl (by kernel_rfl) ?_
  go_wp2_with (with_reducible refine hold_index rfl ?_)
  refine wpl_value (v := .string (rowS 8)) (w' := w) rfl (by kernel_rfl) ?_
  go_wp2_with fail
  go_ret
  exact ⟨rfl, rfl⟩
theorem rowr_9 (w : World) : Calls Tryd.prog 58 #[.int .i64 9] w fun e w' => e = .returned (.string (rowS 9)) ∧ w' = w := by
  go_enter Tryd.func58, Tryd.ntmps58
  go_wp2_with (with_reducible refine hold_build rfl ?_)
  refine wpl_value (v := rowsV) (w' := w) rfl (by kernel_rfl) ?_
  go_wp2_with (with_reducible refine hold_index rfl ?_)
  refine wpl_value (v := .string (rowS 9)) (w' := w) rfl (by kernel_rfl) ?_
  go_wp2_with fail
  go_ret
  exact ⟨rfl, rfl⟩
theorem rowr_any (r : Nat) (hr : r < 10) (w : World) : Calls Tryd.prog 58 #[.int .i64 (r : Int)] w fun e w' => e = .returned (.string (rowS r)) ∧ w' = w := by
  match r, hr with
  | 0, _ => exact rowr_0 w
  | 1, _ => exact rowr_1 w
  | 2, _ => exact rowr_2 w
  | 3, _ => exact rowr_3 w
  | 4, _ => exact rowr_4 w
  | 5, _ => exact rowr_5 w
  | 6, _ => exact rowr_6 w
  | 7, _ => exact rowr_7 w
  | 8, _ => exact rowr_8 w
  | 9, _ => exact rowr_9 w
  | r + 10, h => omega
end Go.Proofs.YtigoaokpodggcaaDoor
end
section
open Go Go.RowKit
namespace BB
theorem wstep_before (B : Nat → Nat) (j k : Nat) (h : k ≤ 4 * j) : wstep B k j = 0 := by
  induction k with
  | zero => rfl
  | succ k ih =>
    show put (wstep B k) (k / 4) _ j = 0
    rw [put_other _ _ (by omega)]
    exact ih (by omega)
theorem wstep_behind (B : Nat → Nat) (j d : Nat) : wstep B (4 * j + 4 + d) j = wstep B (4 * j + 4) j := by
  induction d with
  | zero => rfl
  | succ d ih =>
    show put (wstep B (4 * j + 4 + d)) ((4 * j + 4 + d) / 4) _ j = _
    rw [put_other _ _ (by omega)]
    exact ih
theorem wstep_at (B : Nat → Nat) (j t : Nat) (ht : t < 4) : wstep B (4 * j + t + 1) j = wstep B (4 * j + t) j ||| BitVec.ofNat 32 (B (4 * j + t)) <<< (8 * t) := by
  show put (wstep B (4 * j + t)) ((4 * j + t) / 4) _ j = _
  rw [show (4 * j + t) / 4 = j by omega, show (4 * j + t) % 4 = t by omega, put_same]
theorem or_part (x : BitVec 32) (b n : Nat) (hx : x.toNat < 2 ^ n) (hb : b * 2 ^ n < 2 ^ 32) : (x ||| BitVec.ofNat 32 b <<< n).toNat = x.toNat + b * 2 ^ n := by
  have h1 : b < 2 ^ 32 := Nat.lt_of_le_of_lt (Nat.le_mul_of_pos_right b (Nat.two_pow_pos n)) hb
  rw [BitVec.toNat_or, BitVec.toNat_shiftLeft, BitVec.toNat_ofNat, Nat.mod_eq_of_lt h1, Nat.shiftLeft_eq, Nat.mod_eq_of_lt hb, Nat.or_comm, Nat.mul_comm b, ← Nat.two_pow_add_eq_or_of_lt hx, Nat.add_comm]
/-- the words as sums of bytes, the greatest byte first -/
def wpart (B : Nat → Nat) (i : Nat) : Nat → Nat
  | 0 => 0
  | t + 1 => wpart B i t * 256 + B (4 * i + (3 - t))
theorem wstep_sum (B : Nat → Nat) (hB : ∀ i, B i < 256) (j : Nat) (hj : j < 16) : (wstep B 64 j).toNat = wpart B j 4 := by
  have e : 64 = 4 * j + 4 + (60 - 4 * j) := by omega
  rw [e, wstep_behind]
  have h0 := hB (4 * j)
  have h1 := hB (4 * j + 1)
  have h2 := hB (4 * j + 2)
  have h3 := hB (4 * j + 3)
  have w0 : (wstep B (4 * j) j).toNat = 0 := by rw [wstep_before B j _ (Nat.le_refl _)]; rfl
  have w1 : (wstep B (4 * j + 1) j).toNat = B (4 * j) := by
    have := wstep_at B j 0 (by decide)
    simp only [Nat.add_zero] at this
    rw [this, or_part _ _ _ (by rw [w0]; decide) (by simp; omega), w0]; simp
  have w2 : (wstep B (4 * j + 2) j).toNat = B (4 * j) + B (4 * j + 1) * 256 := by
    have := wstep_at B j 1 (by decide)
    rw [show 4 * j + 2 = 4 * j + 1 + 1 by omega, this, or_part _ _ _ (by rw [w1]; simp; omega) (by simp; omega), w1]
  have w3 : (wstep B (4 * j + 3) j).toNat = B (4 * j) + B (4 * j + 1) * 256 + B (4 * j + 2) * 65536 := by
    have := wstep_at B j 2 (by decide)
    rw [show 4 * j + 3 = 4 * j + 2 + 1 by omega, this, or_part _ _ _ (by rw [w2]; simp; omega) (by simp; omega), w2]
  have w4 := wstep_at B j 3 (by decide)
  rw [show 4 * j + 4 = 4 * j + 3 + 1 by omega, w4, or_part _ _ _ (by rw [w3]; simp; omega) (by simp; omega), w3]
  simp only [wpart]
  simp
  omega
theorem wpart_lt (B : Nat → Nat) (hB : ∀ i, B i < 256) (i t : Nat) : wpart B i t < 256 ^ t := by
  induction t with
  | zero => simp [wpart]
  | succ t ih =>
    have := hB (4 * i + (3 - t))
    simp only [wpart, Nat.pow_succ]
    omega
theorem pl_low (i : Nat) (h : i < 4) : pl (i * 4) = i ∧ pl (i * 4 + 1) = 4 + i ∧ pl (i * 4 + 2) = 8 + i ∧ pl (i * 4 + 3) = 12 + i := by
  match i, h with
  | 0, _ => decide
  | 1, _ => decide
  | 2, _ => decide
  | 3, _ => decide
theorem pl_high (i : Nat) (h : i < 4) : pl ((4 + i) * 4) = i ∧ pl ((4 + i) * 4 + 1) = 4 + (i + 1) % 4 ∧ pl ((4 + i) * 4 + 2) = 8 + (i + 2) % 4 ∧ pl ((4 + i) * 4 + 3) = 12 + (i + 3) % 4 := by
  match i, h with
  | 0, _ => decide
  | 1, _ => decide
  | 2, _ => decide
  | 3, _ => decide
end BB
end
