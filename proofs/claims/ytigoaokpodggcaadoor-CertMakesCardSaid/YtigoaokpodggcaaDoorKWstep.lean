/-
  A block's words, as sums of bytes: plain arithmetic.
-/
import Derived.Test.YtigoaokpodggcaaDoorKLOpen
import Derived.Test.YtigoaokpodggcaaDoorRows
section
open Go Go.RowKit
namespace BB
def ivL : List (BitVec 32) := [0x6a09e667, 0xbb67ae85, 0x3c6ef372, 0xa54ff53a, 0x510e527f, 0x9b05688c, 0x1f83d9ab, 0x5be0cd19]
def iv (i : Nat) : BitVec 32 := ivL.getD i 0
def sgL : List Nat := [
  0, 1, 2, 3, 4, 5, 6, 7, 8, 9, 10, 11, 12, 13, 14, 15,
  14, 10, 4, 8, 9, 15, 13, 6, 1, 12, 0, 2, 11, 7, 5, 3,
  11, 8, 12, 0, 5, 2, 15, 13, 10, 14, 3, 6, 7, 1, 9, 4,
  7, 9, 3, 1, 13, 12, 11, 14, 2, 6, 5, 10, 4, 0, 15, 8,
  9, 0, 5, 7, 2, 4, 10, 15, 14, 1, 11, 12, 6, 8, 3, 13,
  2, 12, 6, 10, 0, 11, 8, 3, 4, 13, 7, 5, 15, 14, 1, 9,
  12, 5, 1, 15, 14, 13, 4, 10, 0, 7, 6, 3, 9, 2, 8, 11,
  13, 11, 7, 14, 12, 1, 3, 9, 5, 0, 15, 4, 8, 6, 2, 10,
  6, 15, 14, 9, 11, 3, 0, 8, 12, 2, 13, 7, 1, 4, 10, 5,
  10, 2, 8, 4, 7, 6, 1, 5, 15, 11, 9, 14, 3, 12, 13, 0]
def sg (i : Nat) : Nat := sgL.getD i 0
def plL : List Nat := [0, 4, 8, 12, 1, 5, 9, 13, 2, 6, 10, 14, 3, 7, 11, 15, 0, 5, 10, 15, 1, 6, 11, 12, 2, 7, 8, 13, 3, 4, 9, 14]
def pl (i : Nat) : Nat := plL.getD i 0
theorem getD_lt (l : List Nat) (c : Nat) (hc : 0 < c) (h : ∀ x ∈ l, x < c) (i : Nat) : l.getD i 0 < c := by
  rcases Nat.lt_or_ge i l.length with g | g
  · rw [List.getD_eq_getElem?_getD, List.getElem?_eq_getElem g]; exact h _ (List.getElem_mem g)
  · rw [List.getD_eq_getElem?_getD, List.getElem?_eq_none g]; exact hc
set_option maxRecDepth 10000 in
theorem sg_lt (i : Nat) : sg i < 16 := getD_lt _ _ (by decide) (by decide) i
theorem pl_lt (i : Nat) : pl i < 16 := getD_lt _ _ (by decide) (by decide) i
/-- the words that the first k bytes make -/
def wstep (B : Nat → Nat) : Nat → Nat → BitVec 32
  | 0 => fun _ => 0
  | k + 1 => put (wstep B k) (k / 4) (wstep B k (k / 4) ||| BitVec.ofNat 32 (B k) <<< (8 * (k % 4)))
def vinit (h : Nat → BitVec 32) : Nat → Nat → BitVec 32
  | 0 => fun _ => 0
  | k + 1 => put (put (vinit h k) k (h k)) (8 + k) (iv k)
def vcount (h : Nat → BitVec 32) (n : Nat) : Nat → BitVec 32 :=
  put (put (vinit h 8) 12 (vinit h 8 12 ^^^ BitVec.ofNat 32 n)) 13 (vinit h 8 13 ^^^ BitVec.ofNat 32 (n / 4294967296))
def vstart (h : Nat → BitVec 32) (n : Nat) (last : Bool) : Nat → BitVec 32 :=
  if last then put (vcount h n) 14 (vcount h n 14 ^^^ 0xffffffff) else vcount h n
def inner (M : Nat → BitVec 32) (r : Nat) (v : Nat → BitVec 32) : Nat → Nat → BitVec 32
  | 0 => v
  | k + 1 => gmix (inner M r v k) (pl (k * 4)) (pl (k * 4 + 1)) (pl (k * 4 + 2)) (pl (k * 4 + 3)) (M (sg (r * 16 + 2 * k))) (M (sg (r * 16 + (2 * k + 1))))
def outer (M : Nat → BitVec 32) (v : Nat → BitVec 32) : Nat → Nat → BitVec 32
  | 0 => v
  | r + 1 => inner M r (outer M v r) 8
def fin (h v : Nat → BitVec 32) : Nat → Nat → BitVec 32
  | 0 => h
  | k + 1 => put (fin h v k) k (fin h v k k ^^^ (v k ^^^ v (8 + k)))
/-- the eight words behind a block -/
def comp (h : Nat → BitVec 32) (B : Nat → Nat) (n : Nat) (last : Bool) : Nat → BitVec 32 :=
  fin h (outer (wstep B 64) (vstart h n last) 10) 8
theorem xor_lo (x : BitVec 32) (n : Nat) : Value.int .u32 (bits .xor .u32 (x.toNat : Int) ((n : Int) % 4294967296)) = .int .u32 ((x ^^^ BitVec.ofNat 32 n).toNat : Int) := by rw [xor_n]
theorem xor_hi (x : BitVec 32) (n : Nat) : Value.int .u32 (bits .xor .u32 (x.toNat : Int) ((n : Int) / 4294967296 % 4294967296)) = .int .u32 ((x ^^^ BitVec.ofNat 32 (n / 4294967296)).toNat : Int) := by
  rw [show (n : Int) / 4294967296 = ((n / 4294967296 : Nat) : Int) by omega, xor_n]
theorem xor_all (x : BitVec 32) : Value.int .u32 (bits .xor .u32 (x.toNat : Int) 4294967295) = .int .u32 ((x ^^^ 0xffffffff).toNat : Int) := by
  rw [← bvxor]; rfl
end BB
end
section
open Go Go.RowKit
namespace BB
theorem ror_sum (x : BitVec 32) (n : Nat) (hn : n < 32) : (ror n x).toNat = x.toNat % 2 ^ n * 2 ^ (32 - n) + x.toNat / 2 ^ n := by
  unfold ror
  rw [BitVec.or_comm, BitVec.toNat_or, BitVec.toNat_shiftLeft, BitVec.toNat_ushiftRight, Nat.shiftRight_eq_div_pow, Nat.shiftLeft_eq]
  have e : 2 ^ 32 = 2 ^ n * 2 ^ (32 - n) := by rw [← Nat.pow_add]; congr 1; omega
  have h1 : x.toNat * 2 ^ (32 - n) % 2 ^ 32 = 2 ^ (32 - n) * (x.toNat % 2 ^ n) := by
    rw [e, Nat.mul_mod_mul_right, Nat.mul_comm]
  have h2 : x.toNat / 2 ^ n < 2 ^ (32 - n) := by
    rw [Nat.div_lt_iff_lt_mul (Nat.two_pow_pos n), Nat.mul_comm, ← e]
    exact x.isLt
  rw [h1, ← Nat.two_pow_add_eq_or_of_lt h2, Nat.mul_comm]
theorem right_nat (X n : Nat) (hn : n ≤ 32) (hX : X < 2 ^ 32) : (X * 2 ^ 32 + X) / 2 ^ n % 2 ^ 32 = X % 2 ^ n * 2 ^ (32 - n) + X / 2 ^ n := by
  have e : 2 ^ 32 = 2 ^ n * 2 ^ (32 - n) := by rw [← Nat.pow_add]; congr 1; omega
  rw [e] at hX ⊢
  have hA : 0 < 2 ^ n := Nat.two_pow_pos n
  generalize 2 ^ n = A at *
  generalize 2 ^ (32 - n) = B at *
  have hq : X / A < B := by rw [Nat.div_lt_iff_lt_mul hA, Nat.mul_comm]; exact hX
  have hr : X % A < A := Nat.mod_lt _ hA
  have h1 : (X * (A * B) + X) / A = X * B + X / A := by
    rw [show X * (A * B) + X = A * (X * B) + X by rw [Nat.mul_left_comm], Nat.mul_add_div hA]
  have h2 : X * B + X / A = A * B * (X / A) + (X % A * B + X / A) := by
    have := Nat.div_add_mod X A
    calc X * B + X / A = (A * (X / A) + X % A) * B + X / A := by rw [this]
      _ = _ := by rw [Nat.add_mul, Nat.mul_right_comm, Nat.add_assoc]
  rw [h1, h2, Nat.mul_add_mod]
  apply Nat.mod_eq_of_lt
  have h3 : (X % A + 1) * B ≤ A * B := Nat.mul_le_mul_right B hr
  rw [Nat.add_mul, Nat.one_mul] at h3
  omega
theorem right_code (x : BitVec 32) (n : Nat) (hn : n < 32) (Q : Int) (hQ : Q = ((2 ^ n : Nat) : Int)) : ((x.toNat : Int) * 4294967296 + (x.toNat : Int)) / Q % 4294967296 = ((ror n x).toNat : Int) := by
  rw [ror_sum x n hn, ← right_nat x.toNat n (by omega) x.isLt, hQ]
  simp
end BB
namespace Go.Proofs.YtigoaokpodggcaaDoor
open BB
theorem right_any (x : BitVec 32) (n : Nat) (hn : n = 16 ∨ n = 12 ∨ n = 8 ∨ n = 7) (w : World) :
    Calls Tryd.prog 73 #[.int .u64 (x.toNat : Int), .int .u64 (n : Int)] w fun e w' => e = .returned (.int .u64 ((ror n x).toNat : Int)) ∧ w' = w := by
  have hx := x.isLt
  have w1 : IntKind.u64.wrap ((x.toNat : Int) * 4294967296) = (x.toNat : Int) * 4294967296 := by rw [IntKind.wrap_u64]; omega
  have w2 : IntKind.u64.wrap ((x.toNat : Int) * 4294967296 + (x.toNat : Int)) = (x.toNat : Int) * 4294967296 + (x.toNat : Int) := by rw [IntKind.wrap_u64]; omega
  clear hx
  rcases hn with rfl | rfl | rfl | rfl
  · go_enter Tryd.func73, Tryd.ntmps73
    go_wp2
    go_ret
    exact ⟨ret_int (right_code x 16 (by decide) _ (by decide)), rfl⟩
  · go_enter Tryd.func73, Tryd.ntmps73
    go_wp2
    go_ret
    exact ⟨ret_int (right_code x 12 (by decide) _ (by decide)), rfl⟩
  · go_enter Tryd.func73, Tryd.ntmps73
    go_wp2
    go_ret
    exact ⟨ret_int (right_code x 8 (by decide) _ (by decide)), rfl⟩
  · go_enter Tryd.func73, Tryd.ntmps73
    go_wp2
    go_ret
    exact ⟨ret_int (right_code x 7 (by decide) _ (by decide)), rfl⟩
end Go.Proofs.YtigoaokpodggcaaDoor
end
section
open Go Go.RowKit
namespace BB
theorem bvwrap64 (a : BitVec 32) : IntKind.u64.wrap (a.toNat : Int) = (a.toNat : Int) := by
  have := a.isLt; rw [IntKind.wrap_u64]; omega
theorem bvxor64 (a b : BitVec 32) : bits .xor .u64 (a.toNat : Int) (b.toNat : Int) = ((a ^^^ b).toNat : Int) := by
  have ha := a.isLt
  have hb := b.isLt
  rw [bits_xor_u64_nat _ _ (by omega) (by omega), BitVec.toNat_xor]
theorem sum2_wrap (a b : BitVec 32) : IntKind.u64.wrap ((a.toNat : Int) + (b.toNat : Int)) = (a.toNat : Int) + (b.toNat : Int) := by
  have ha := a.isLt
  have hb := b.isLt
  rw [IntKind.wrap_u64]; omega
theorem sum3_wrap (a b c : BitVec 32) : IntKind.u64.wrap ((a.toNat : Int) + (b.toNat : Int) + (c.toNat : Int)) = (a.toNat : Int) + (b.toNat : Int) + (c.toNat : Int) := by
  have ha := a.isLt
  have hb := b.isLt
  have hc := c.isLt
  rw [IntKind.wrap_u64]; omega
theorem sum3_code (a b c : BitVec 32) : Value.int .u64 (((a.toNat : Int) + ((b.toNat : Int) + (c.toNat : Int))) % 4294967296) = .int .u64 ((a + (b + c)).toNat : Int) := by
  have : ((a.toNat : Int) + ((b.toNat : Int) + (c.toNat : Int))) % 4294967296 = ((a + (b + c)).toNat : Int) := by
    rw [BitVec.toNat_add, BitVec.toNat_add]; omega
  rw [this]
theorem sum2_code (a b : BitVec 32) : Value.int .u64 (((a.toNat : Int) + (b.toNat : Int)) % 4294967296) = .int .u64 ((a + b).toNat : Int) := by
  have : ((a.toNat : Int) + (b.toNat : Int)) % 4294967296 = ((a + b).toNat : Int) := by
    rw [BitVec.toNat_add]; omega
  rw [this]
theorem sum2_mod (a b : BitVec 32) : ((a.toNat : Int) + (b.toNat : Int)).tmod 4294967296 = ((a + b).toNat : Int) := by
  rw [Int.tmod_eq_emod_of_nonneg (by omega), BitVec.toNat_add]; omega
theorem sum3_mod (a b c : BitVec 32) : ((a.toNat : Int) + (b.toNat : Int) + (c.toNat : Int)).tmod 4294967296 = ((a + (b + c)).toNat : Int) := by
  rw [Int.tmod_eq_emod_of_nonneg (by omega), BitVec.toNat_add, BitVec.toNat_add]; omega
end BB
namespace Go.Proofs.YtigoaokpodggcaaDoor
open BB
theorem agg_q16 (w : World) : (isAgg 80).run Tryd.prog w = .ok true w := by kernel_rfl
theorem size_q16 (w : World) : (Go.sizeOf 80).run Tryd.prog w = .ok 16 w := by kernel_rfl
set_option maxRecDepth 100000 in
set_option maxHeartbeats 4000000 in
theorem rmix_any (v : Nat → BitVec 32) (a b c d : Nat) (ha : a < 16) (hb : b < 16) (hc : c < 16) (hd : d < 16) (x y : BitVec 32) (w : World) :
    Calls Tryd.prog 59 #[.agg (row 16 (cw .u64 v)), .int .i64 (a : Int), .int .i64 (b : Int), .int .i64 (c : Int), .int .i64 (d : Int), .int .u64 (x.toNat : Int), .int .u64 (y.toNat : Int)] w
      fun e w' => e = .returned (.agg (row 16 (cw .u64 (gmix v a b c d x y)))) ∧ Below w.heap.size w w' := by
  have ha' : (a : Int) < 16 := by omega
  have hb' : (b : Int) < 16 := by omega
  have hc' : (c : Int) < 16 := by omega
  have hd' : (d : Int) < 16 := by omega
  go_enter Tryd.func59, Tryd.ntmps59
  go_wp2_with fail
  obtain ⟨W0, hW0⟩ : ∃ W0, W0 = ((w.alloc (.cells (row 16 (cw .u64 v)) 80)).alloc (.cells (row 16 (cw .u64 fun _ => 0)) 80)) := ⟨_, rfl⟩
  have HB0 : Hid (Below w.heap.size w W0) := by
    rw [hW0]; exact ((Below.refl _ _).alloc (Nat.le_refl _) _).alloc (by simp) _
  have HR0 : Hid (Blk W0 (w.heap.size + 1) 16 (cw .u64 fun _ => 0)) := by
    rw [hW0]; exact Blk.new' (by simp) rfl
  refine abs_wp (MS W0 w.heap.size 16 (cw .u64 v)) ?_ ?_
  · have : MS W0 w.heap.size 16 (cw .u64 v) W0 := MS.mk (by rw [hW0]; exact (Blk.new' rfl rfl).alloc _)
    rw [hW0] at this ⊢
    exact this
  clear hW0
  intro w1 S1
  refine tail_abs 12 (by kernel_rfl) (by kernel_rfl) fun w2 hs => ?_
  have S2 := S1.same hs
  have va : w2.cell? ⟨w.heap.size, a, none⟩ = some (.int .u64 ((v a).toNat : Int)) := S2.get a ha
  have vb : w2.cell? ⟨w.heap.size, b, none⟩ = some (.int .u64 ((v b).toNat : Int)) := S2.get b hb
  have fa := S2.frz a
  have e1 := sum2_wrap (v a) (v b)
  have e2 := sum3_wrap (v a) (v b) x
  have e3 := sum3_mod (v a) (v b) x
  simp only [List.take_succ_cons, List.take_zero, List.drop_succ_cons, List.drop_zero]
  clear hs S1
  clear w1
  repeat still_step
  refine wpStill_nil ?_
  clear e1 e2 e3
  go_wp2_with fail
  refine abs_wp (MS W0 w.heap.size 16 (cw .u64 (add3 v a b x))) (S2.set' a _ _ (cw_put .u64 v a _ _ (sum3_code _ _ _))) ?_
  clear va vb fa S2
  clear w2
  generalize E0 : add3 v a b x = v1
  have H0 := Lib.hid E0
  clear E0
  intro w1 S1
  refine tail_abs 10 (by kernel_rfl) (by kernel_rfl) fun w2 hs => ?_
  have S2 := S1.same hs
  have va : w2.cell? ⟨w.heap.size, d, none⟩ = some (.int .u64 ((v1 d).toNat : Int)) := S2.get d hd
  have vb : w2.cell? ⟨w.heap.size, a, none⟩ = some (.int .u64 ((v1 a).toNat : Int)) := S2.get a ha
  have fa := S2.frz d
  simp only [List.take_succ_cons, List.take_zero, List.drop_succ_cons, List.drop_zero]
  clear hs S1
  clear w1
  repeat still_step
  refine wpStill_step (fun K hK => ?_)
  go_simp
  rw [bvxor64]
  refine ⟨.int .u64 ((ror 16 (v1 d ^^^ v1 a)).toNat : Int), right_any (v1 d ^^^ v1 a) 16 (by simp) w2, ?_⟩
  refine hK _ ?_
  clear hK K
  repeat still_step
  refine wpStill_nil ?_
  go_wp2_with fail
  refine abs_wp (MS W0 w.heap.size 16 (cw .u64 (turn 16 v1 d a))) (S2.set' d _ _ (cw_put .u64 v1 d _ _ rfl)) ?_
  clear va vb fa S2
  clear w2
  generalize E1 : turn 16 v1 d a = v2
  have H1 := Lib.hid E1
  clear E1
  intro w1 S1
  refine tail_abs 10 (by kernel_rfl) (by kernel_rfl) fun w2 hs => ?_
  have S2 := S1.same hs
  have va : w2.cell? ⟨w.heap.size, c, none⟩ = some (.int .u64 ((v2 c).toNat : Int)) := S2.get c hc
  have vb : w2.cell? ⟨w.heap.size, d, none⟩ = some (.int .u64 ((v2 d).toNat : Int)) := S2.get d hd
  have fa := S2.frz c
  have e1 := sum2_wrap (v2 c) (v2 d)
  have e3 := sum2_mod (v2 c) (v2 d)
  simp only [List.take_succ_cons, List.take_zero, List.drop_succ_cons, List.drop_zero]
  clear hs S1
  clear w1
  repeat still_step
  refine wpStill_nil ?_
  clear e1 e3
  go_wp2_with fail
  refine abs_wp (MS W0 w.heap.size 16 (cw .u64 (add2 v2 c d))) (S2.set' c _ _ (cw_put .u64 v2 c _ _ (sum2_code _ _))) ?_
  clear va vb fa S2
  clear w2
  generalize E2 : add2 v2 c d = v3
  have H2 := Lib.hid E2
  clear E2
  intro w1 S1
  refine tail_abs 10 (by kernel_rfl) (by kernel_rfl) fun w2 hs => ?_
  have S2 := S1.same hs
  have va : w2.cell? ⟨w.heap.size, b, none⟩ = some (.int .u64 ((v3 b).toNat : Int)) := S2.get b hb
  have vb : w2.cell? ⟨w.heap.size, c, none⟩ = some (.int .u64 ((v3 c).toNat : Int)) := S2.get c hc
  have fa := S2.frz b
  simp only [List.take_succ_cons, List.take_zero, List.drop_succ_cons, List.drop_zero]
  clear hs S1
  clear w1
  repeat still_step
  refine wpStill_step (fun K hK => ?_)
  go_simp
  rw [bvxor64]
  refine ⟨.int .u64 ((ror 12 (v3 b ^^^ v3 c)).toNat : Int), right_any (v3 b ^^^ v3 c) 12 (by simp) w2, ?_⟩
  refine hK _ ?_
  clear hK K
  repeat still_step
  refine wpStill_nil ?_
  go_wp2_with fail
  refine abs_wp (MS W0 w.heap.size 16 (cw .u64 (turn 12 v3 b c))) (S2.set' b _ _ (cw_put .u64 v3 b _ _ rfl)) ?_
  clear va vb fa S2
  clear w2
  generalize E3 : turn 12 v3 b c = v4
  have H3 := Lib.hid E3
  clear E3
  intro w1 S1
  refine tail_abs 12 (by kernel_rfl) (by kernel_rfl) fun w2 hs => ?_
  have S2 := S1.same hs
  have va : w2.cell? ⟨w.heap.size, a, none⟩ = some (.int .u64 ((v4 a).toNat : Int)) := S2.get a ha
  have vb : w2.cell? ⟨w.heap.size, b, none⟩ = some (.int .u64 ((v4 b).toNat : Int)) := S2.get b hb
  have fa := S2.frz a
  have e1 := sum2_wrap (v4 a) (v4 b)
  have e2 := sum3_wrap (v4 a) (v4 b) y
  have e3 := sum3_mod (v4 a) (v4 b) y
  simp only [List.take_succ_cons, List.take_zero, List.drop_succ_cons, List.drop_zero]
  clear hs S1
  clear w1
  repeat still_step
  refine wpStill_nil ?_
  clear e1 e2 e3
  go_wp2_with fail
  refine abs_wp (MS W0 w.heap.size 16 (cw .u64 (add3 v4 a b y))) (S2.set' a _ _ (cw_put .u64 v4 a _ _ (sum3_code _ _ _))) ?_
  clear va vb fa S2
  clear w2
  generalize E4 : add3 v4 a b y = v5
  have H4 := Lib.hid E4
  clear E4
  intro w1 S1
  refine tail_abs 10 (by kernel_rfl) (by kernel_rfl) fun w2 hs => ?_
  have S2 := S1.same hs
  have va : w2.cell? ⟨w.heap.size, d, none⟩ = some (.int .u64 ((v5 d).toNat : Int)) := S2.get d hd
  have vb : w2.cell? ⟨w.heap.size, a, none⟩ = some (.int .u64 ((v5 a).toNat : Int)) := S2.get a ha
  have fa := S2.frz d
  simp only [List.take_succ_cons, List.take_zero, List.drop_succ_cons, List.drop_zero]
  clear hs S1
  clear w1
  repeat still_step
  refine wpStill_step (fun K hK => ?_)
  go_simp
  rw [bvxor64]
  refine ⟨.int .u64 ((ror 8 (v5 d ^^^ v5 a)).toNat : Int), right_any (v5 d ^^^ v5 a) 8 (by simp) w2, ?_⟩
  refine hK _ ?_
  clear hK K
  repeat still_step
  refine wpStill_nil ?_
  go_wp2_with fail
  refine abs_wp (MS W0 w.heap.size 16 (cw .u64 (turn 8 v5 d a))) (S2.set' d _ _ (cw_put .u64 v5 d _ _ rfl)) ?_
  clear va vb fa S2
  clear w2
  generalize E5 : turn 8 v5 d a = v6
  have H5 := Lib.hid E5
  clear E5
  intro w1 S1
  refine tail_abs 10 (by kernel_rfl) (by kernel_rfl) fun w2 hs => ?_
  have S2 := S1.same hs
  have va : w2.cell? ⟨w.heap.size, c, none⟩ = some (.int .u64 ((v6 c).toNat : Int)) := S2.get c hc
  have vb : w2.cell? ⟨w.heap.size, d, none⟩ = some (.int .u64 ((v6 d).toNat : Int)) := S2.get d hd
  have fa := S2.frz c
  have e1 := sum2_wrap (v6 c) (v6 d)
  have e3 := sum2_mod (v6 c) (v6 d)
  simp only [List.take_succ_cons, List.take_zero, List.drop_succ_cons, List.drop_zero]
  clear hs S1
  clear w1
  repeat still_step
  refine wpStill_nil ?_
  clear e1 e3
  go_wp2_with fail
  refine abs_wp (MS W0 w.heap.size 16 (cw .u64 (add2 v6 c d))) (S2.set' c _ _ (cw_put .u64 v6 c _ _ (sum2_code _ _))) ?_
  clear va vb fa S2
  clear w2
  generalize E6 : add2 v6 c d = v7
  have H6 := Lib.hid E6
  clear E6
  intro w1 S1
  refine tail_abs 10 (by kernel_rfl) (by kernel_rfl) fun w2 hs => ?_
  have S2 := S1.same hs
  have va : w2.cell? ⟨w.heap.size, b, none⟩ = some (.int .u64 ((v7 b).toNat : Int)) := S2.get b hb
  have vb : w2.cell? ⟨w.heap.size, c, none⟩ = some (.int .u64 ((v7 c).toNat : Int)) := S2.get c hc
  have fa := S2.frz b
  simp only [List.take_succ_cons, List.take_zero, List.drop_succ_cons, List.drop_zero]
  clear hs S1
  clear w1
  repeat still_step
  refine wpStill_step (fun K hK => ?_)
  go_simp
  rw [bvxor64]
  refine ⟨.int .u64 ((ror 7 (v7 b ^^^ v7 c)).toNat : Int), right_any (v7 b ^^^ v7 c) 7 (by simp) w2, ?_⟩
  refine hK _ ?_
  clear hK K
  repeat still_step
  refine wpStill_nil ?_
  go_wp2_with (with_reducible refine hold_load (.tmp 7) rfl ?_)
  refine abs_list (MS W0 w.heap.size 16 (cw .u64 (turn 7 v7 b c))) (S2.set' b _ _ (cw_put .u64 v7 b _ _ rfl)) ?_
  clear va vb fa S2
  clear w2
  generalize E7 : turn 7 v7 b c = v8
  have H7 := Lib.hid E7
  clear E7
  intro w1 S1
  refine wpl_load (.tmp 7) w.heap.size 0 16 16 (cw .u64 v8) rfl rfl rfl (agg_q16 _) (size_q16 _) S1.1.cells (by omega) ?_
  have R1 := Blk.upd HR0.out S1.2 (by omega)
  go_wp2_with (with_reducible refine hold_store (.tmp 14) (.tmp 99) rfl ?_)
  refine wpl_store (.tmp 14) (.tmp 99) (w.heap.size + 1) 0 16 16 (cw .u64 fun _ => 0) (cw .u64 v8) rfl rfl rfl (by simp [Act.eval]) (size_q16 _) R1 (by omega) (fun _ _ => rfl) ?_
  intro w3 h3
  go_wp2_with fail
  have h4 : Blk w3 (w.heap.size + 1) 16 (cw .u64 v8) := h3.1.congr _ fun i hi => by simp [hi]
  refine body_row (p := 14) (by kernel_rfl) rfl (agg_q16 _) (size_q16 _) h4.cells (by omega) rfl ⟨?_, (HB0.out.trans (S1.2.below (Nat.le_refl _))).trans (h3.2.below (by omega))⟩
  unfold gmix
  rw [H0.out, H1.out, H2.out, H3.out, H4.out, H5.out, H6.out, H7.out]
end Go.Proofs.YtigoaokpodggcaaDoor
end
section
open Go Go.RowKit
namespace BB
def letter (n : Nat) : Nat := if n < 10 then 48 + n else 87 + n
/-- a round's row, as letters -/
def rowS (r : Nat) : ByteArray := ⟨((List.range 16).map fun j => UInt8.ofNat (letter (sg (r * 16 + j)))).toArray⟩
theorem rowS_size (r : Nat) : (rowS r).size = 16 := by simp [rowS, ByteArray.size]
theorem rowS_at (r j : Nat) (hj : j < 16) : (rowS r)[j]? = some (UInt8.ofNat (letter (sg (r * 16 + j)))) := by
  have : (rowS r).data[j]? = some (UInt8.ofNat (letter (sg (r * 16 + j)))) := by simp [rowS, hj]
  rw [← this]
  show _ = (rowS r).data[j]?
  rfl
theorem letter_nat (n : Nat) (h : n < 16) : (UInt8.ofNat (letter n)).toNat = letter n := by
  unfold letter; split <;> simp <;> omega
theorem hold_build {P : Program} {ops : Array Oper} {Q : Exit → Act → World → Prop} {a : Act} {w : World} {rest : List Oper} {o : Oper} {T : TypeId} {parts : Array (Nat × Operand)} (_ho : o.op = .build T parts) (h : Held (wpList P ops Q (o :: rest) a w)) : wpList P ops Q (o :: rest) a w := h
theorem hold_index {P : Program} {ops : Array Oper} {Q : Exit → Act → World → Prop} {a : Act} {w : World} {rest : List Oper} {o : Oper} {T : TypeId} {x y : Operand} (_ho : o.op = .index T x y) (h : Held (wpList P ops Q (o :: rest) a w)) : wpList P ops Q (o :: rest) a w := h
end BB
namespace Go.Proofs.YtigoaokpodggcaaDoor
open BB
theorem agg_q8 (w : World) : (isAgg 65).run Tryd.prog w = .ok true w := by kernel_rfl
theorem size_q8 (w : World) : (Go.sizeOf 65).run Tryd.prog w = .ok 8 w := by kernel_rfl
theorem iv_any (w : World) : Calls Tryd.prog 40 #[] w fun e w' => e = .returned (.agg (row 8 (cw .u64 iv))) ∧ Below w.heap.size w w' := by
  go_enter Tryd.func40, Tryd.ntmps40
  go_wp2_with (with_reducible refine hold_store (.tmp 0) (.tmp 1) rfl ?_)
  refine wpl_store (.tmp 0) (.tmp 1) w.heap.size 0 8 8 (cw .u64 fun _ => 0) (cw .u64 iv) rfl rfl rfl rfl (size_q8 _) (Blk.new' rfl rfl) (by omega) (fun _ _ => rfl) ?_
  intro w1 h1
  go_wp2_with fail
  have h4 : Blk w1 w.heap.size 8 (cw .u64 iv) := h1.1.congr _ fun i hi => by simp [hi]
  exact body_row (p := 0) (by kernel_rfl) rfl (agg_q8 _) (size_q8 _) h4.cells (by omega) rfl ⟨rfl, ((Below.refl _ _).alloc (Nat.le_refl _) _).trans (h1.2.below (Nat.le_refl _))⟩
theorem place_any (n : Nat) (hn : n < 16) (w : World) : Calls Tryd.prog 60 #[.int .u8 (letter n : Int)] w fun e w' => e = .returned (.int .i64 (n : Int)) ∧ w' = w := by
  by_cases h : n < 10
  · have e : letter n = 48 + n := by unfold letter; rw [if_pos h]
    rw [e]
    have h1 : ¬ (97 : Int) ≤ ((48 + n : Nat) : Int) := by omega
    have h2 : ((48 + n : Nat) : Int) - 48 = (n : Int) := by omega
    have h3 : ((48 + n : Nat) : Int) ≤ 200 := by omega
    have h4 : (0 : Int) ≤ ((48 + n : Nat) : Int) := by omega
    clear e
    generalize ((48 + n : Nat) : Int) = z at *
    go_enter Tryd.func60, Tryd.ntmps60
    go_wp2
    go_ret
    exact ⟨ret_int (by omega), rfl⟩
  · have e : letter n = 87 + n := by unfold letter; rw [if_neg h]
    rw [e]
    have h1 : (97 : Int) ≤ ((87 + n : Nat) : Int) := by omega
    have h2 : ((87 + n : Nat) : Int) - 97 + 10 = (n : Int) := by omega
    have h3 : ((87 + n : Nat) : Int) ≤ 200 := by omega
    clear e
    generalize ((87 + n : Nat) : Int) = z at *
    go_enter Tryd.func60, Tryd.ntmps60
    go_wp2
    go_ret
    exact ⟨ret_int (by omega), rfl⟩
def rowsV : Value := .agg (row 10 fun r => .string (rowS r))
theorem rowr_0 (w : World) : Calls Tryd.prog 58 #[.int .i64 0] w fun e w' => e = .returned (.string (rowS 0)) ∧ w' = w := by
  go_enter Tryd.func58, Tryd.ntmps58
  go_wp2_with (with_reducible refine hold_build rfl ?_)
  refine wpl_value (v := rowsV) (w' := w) rfl (by kernel_rfl) ?_
  go_wp2_with (with_reducible refine hold_index rfl ?_)
  refine wpl_value (v := .string (rowS 0)) (w' := w) rfl (by kernel_rfl) ?_
  go_wp2_with fail
  go_ret
  exact ⟨rfl, rfl⟩
theorem rowr_1 (w : World) : Calls Tryd.prog 58 #[.int .i64 1] w fun e w' => e = .returned (.string (rowS 1)) ∧ w' = w := by
  go_enter Tryd.func58, Tryd.ntmps58
  go_wp2_with (with_reducible refine hold_build rfl ?_)
  refine wpl_value (v := rowsV) (w' := w) rfl (by kernel_rfl) ?_
  go_wp2_with (with_reducible refine hold_index rfl ?_)
  refine wpl_value (v := .string (rowS 1)) (w' := w) rfl (by kernel_rfl) ?_
  go_wp2_with fail
  go_ret
  exact ⟨rfl, rfl⟩
theorem rowr_2 (w : World) : Calls Tryd.prog 58 #[.int .i64 2] w fun e w' => e = .returned (.string (rowS 2)) ∧ w' = w := by
  go_enter Tryd.func58, Tryd.ntmps58
  go_wp2_with (with_reducible refine hold_build rfl ?_)
  refine wpl_value (v := rowsV) (w' := w) rfl (by kernel_rfl) ?_
  go_wp2_with (with_reducible refine hold_index rfl ?_)
  refine wpl_value (v := .string (rowS 2)) (w' := w) rfl (by kernel_rfl) ?_
  go_wp2_with fail
  go_ret
  exact ⟨rfl, rfl⟩
theorem rowr_3 (w : World) : Calls Tryd.prog 58 #[.int .i64 3] w fun e w' => e = .returned (.string (rowS 3)) ∧ w' = w := by
  go_enter Tryd.func58, Tryd.ntmps58
  go_wp2_with (with_reducible refine hold_build rfl ?_)
  refine wpl_value (v := rowsV) (w' := w) rfl (by kernel_rfl) ?_
  go_wp2_with (with_reducible refine hold_index rfl ?_)
  refine wpl_value (v := .string (rowS 3)) (w' := w) rfl (by kernel_rfl) ?_
  go_wp2_with fail
  go_ret
  exact ⟨rfl, rfl⟩
theorem rowr_4 (w : World) : Calls Tryd.prog 58 #[.int .i64 4] w fun e w' => e = .returned (.string (rowS 4)) ∧ w' = w := by
  go_enter Tryd.func58, Tryd.ntmps58
  go_wp2_with (with_reducible refine hold_build rfl ?_)
  refine wpl_value (v := rowsV) (w' := w) rfl (by kernel_rfl) ?_
  go_wp2_with (with_reducible refine hold_index rfl ?_)
  refine wpl_value (v := .string (rowS 4)) (w' := w) rfl (by kernel_rfl) ?_
  go_wp2_with fail
  go_ret
  exact ⟨rfl, rfl⟩
theorem rowr_5 (w : World) : Calls Tryd.prog 58 #[.int .i64 5] w fun e w' => e = .returned (.string (rowS 5)) ∧ w' = w := by
  go_enter Tryd.func58, Tryd.ntmps58
  go_wp2_with (with_reducible refine hold_build rfl ?_)
  refine wpl_value (v := rowsV) (w' := w) rfl (by kernel_rfl) ?_
  go_wp2_with (with_reducible refine hold_index rfl ?_)
  refine wpl_value (v := .string (rowS 5)) (w' := w) rfl (by kernel_rfl) ?_
  go_wp2_with fail
  go_ret
  exact ⟨rfl, rfl⟩
theorem rowr_6 (w : World) : Calls Tryd.prog 58 #[.int .i64 6] w fun e w' => e = .returned (.string (rowS 6)) ∧ w' = w := by
  go_enter Tryd.func58, Tryd.ntmps58
  go_wp2_with (with_reducible refine hold_build rfl ?_)
  refine wpl_value (v := rowsV) (w' := w) rfl (by kernel_rfl) ?_
  go_wp2_with (with_reducible refine hold_index rfl ?_)
  refine wpl_value (v := .string (rowS 6)) (w' := w) rfl (by kernel_rfl) ?_
  go_wp2_with fail
  go_ret
  exact ⟨rfl, rfl⟩
theorem rowr_7 (w : World) : Calls Tryd.prog 58 #[.int .i64 7] w fun e w' => e = .returned (.string (rowS 7)) ∧ w' = w := by
  go_enter Tryd.func58, Tryd.ntmps58
  go_wp2_with (with_reducible refine hold_build rfl ?_)
  refine wpl_value (v := rowsV) (w' := w) rfl (by kernel_rfl) ?_
  go_wp2_with (with_reducible refine hold_index rfl ?_)
  refine wpl_value (v := .string (rowS 7)) (w' := w) rfl (by kernel_rfl) ?_
  go_wp2_with fail
  go_ret
  exact ⟨rfl, rfl⟩
theorem rowr_8 (w : World) : Calls Tryd.prog 58 #[.int .i64 8] w fun e w' => e = .returned (.string (rowS 8)) ∧ w' = w := by
  go_enter Tryd.func58, Tryd.ntmps58
  go_wp2_with (with_reducible refine hold_build rfl ?_)
  refine wpl_value (v := rowsV) (w' := w) rfl (by kernel_rfl) ?_
  go_wp2_with (with_reducible refine hold_index rfl ?_)
  refine wpl_value (v := .string (rowS 8)) (w' := w) rfl (by kernel_rfl) ?_
  go_wp2_with fail
  go_ret
  exact ⟨rfl, rfl⟩
theorem rowr_9 (w : World) : Calls Tryd.prog 58 #[.int .i64 9] w fun e w' => e = .returned (.string (rowS 9)) ∧ w' = w := by
  go_enter Tryd.func58, Tryd.ntmps58
  go_wp2_with (with_reducible refine hold_build rfl ?_)
  refine wpl_value (v := rowsV) (w' := w) rfl (by kernel_rfl) ?_
  go_wp2_with (with_reducible refine hold_index rfl ?_)
  refine wpl_value (v := .string (rowS 9)) (w' := w) rfl (by kernel_rfl) ?_
  go_wp2_with fail
  go_ret
  exact ⟨rfl, rfl⟩
theorem rowr_any (r : Nat) (hr : r < 10) (w : World) : Calls Tryd.prog 58 #[.int .i64 (r : Int)] w fun e w' => e = .returned (.string (rowS r)) ∧ w' = w := by
  match r, hr with
  | 0, _ => exact rowr_0 w
  | 1, _ => exact rowr_1 w
  | 2, _ => exact rowr_2 w
  | 3, _ => exact rowr_3 w
  | 4, _ => exact rowr_4 w
  | 5, _ => exact rowr_5 w
  | 6, _ => exact rowr_6 w
  | 7, _ => exact rowr_7 w
  | 8, _ => exact rowr_8 w
  | 9, _ => exact rowr_9 w
  | r + 10, h => omega
end Go.Proofs.YtigoaokpodggcaaDoor
end
section
open Go Go.RowKit
namespace BB
theorem wstep_before (B : Nat → Nat) (j k : Nat) (h : k ≤ 4 * j) : wstep B k j = 0 := by
  induction k with
  | zero => rfl
  | succ k ih =>
    show put (wstep B k) (k / 4) _ j = 0
    rw [put_other _ _ (by omega)]
    exact ih (by omega)
theorem wstep_behind (B : Nat → Nat) (j d : Nat) : wstep B (4 * j + 4 + d) j = wstep B (4 * j + 4) j := by
  induction d with
  | zero => rfl
  | succ d ih =>
    show put (wstep B (4 * j + 4 + d)) ((4 * j + 4 + d) / 4) _ j = _
    rw [put_other _ _ (by omega)]
    exact ih
theorem wstep_at (B : Nat → Nat) (j t : Nat) (ht : t < 4) : wstep B (4 * j + t + 1) j = wstep B (4 * j + t) j ||| BitVec.ofNat 32 (B (4 * j + t)) <<< (8 * t) := by
  show put (wstep B (4 * j + t)) ((4 * j + t) / 4) _ j = _
  rw [show (4 * j + t) / 4 = j by omega, show (4 * j + t) % 4 = t by omega, put_same]
theorem or_part (x : BitVec 32) (b n : Nat) (hx : x.toNat < 2 ^ n) (hb : b * 2 ^ n < 2 ^ 32) : (x ||| BitVec.ofNat 32 b <<< n).toNat = x.toNat + b * 2 ^ n := by
  have h1 : b < 2 ^ 32 := Nat.lt_of_le_of_lt (Nat.le_mul_of_pos_right b (Nat.two_pow_pos n)) hb
  rw [BitVec.toNat_or, BitVec.toNat_shiftLeft, BitVec.toNat_ofNat, Nat.mod_eq_of_lt h1, Nat.shiftLeft_eq, Nat.mod_eq_of_lt hb, Nat.or_comm, Nat.mul_comm b, ← Nat.two_pow_add_eq_or_of_lt hx, Nat.add_comm]
/-- the words as sums of bytes, the greatest byte first -/
def wpart (B : Nat → Nat) (i : Nat) : Nat → Nat
  | 0 => 0
  | t + 1 => wpart B i t * 256 + B (4 * i + (3 - t))
theorem wstep_sum (B : Nat → Nat) (hB : ∀ i, B i < 256) (j : Nat) (hj : j < 16) : (wstep B 64 j).toNat = wpart B j 4 := by
  have e : 64 = 4 * j + 4 + (60 - 4 * j) := by omega
  rw [e, wstep_behind]
  have h0 := hB (4 * j)
  have h1 := hB (4 * j + 1)
  have h2 := hB (4 * j + 2)
  have h3 := hB (4 * j + 3)
  have w0 : (wstep B (4 * j) j).toNat = 0 := by rw [wstep_before B j _ (Nat.le_refl _)]; rfl
  have w1 : (wstep B (4 * j + 1) j).toNat = B (4 * j) := by
    have := wstep_at B j 0 (by decide)
    simp only [Nat.add_zero] at this
    rw [this, or_part _ _ _ (by rw [w0]; decide) (by simp; omega), w0]; simp
  have w2 : (wstep B (4 * j + 2) j).toNat = B (4 * j) + B (4 * j + 1) * 256 := by
    have := wstep_at B j 1 (by decide)
    rw [show 4 * j + 2 = 4 * j + 1 + 1 by omega, this, or_part _ _ _ (by rw [w1]; simp; omega) (by simp; omega), w1]
  have w3 : (wstep B (4 * j + 3) j).toNat = B (4 * j) + B (4 * j + 1) * 256 + B (4 * j + 2) * 65536 := by
    have := wstep_at B j 2 (by decide)
    rw [show 4 * j + 3 = 4 * j + 2 + 1 by omega, this, or_part _ _ _ (by rw [w2]; simp; omega) (by simp; omega), w2]
  have w4 := wstep_at B j 3 (by decide)
  rw [show 4 * j + 4 = 4 * j + 3 + 1 by omega, w4, or_part _ _ _ (by rw [w3]; simp; omega) (by simp; omega), w3]
  simp only [wpart]
  simp
  omega
theorem wpart_lt (B : Nat → Nat) (hB : ∀ i, B i < 256) (i t : Nat) : wpart B i t < 256 ^ t := by
  induction t with
  | zero => simp [wpart]
  | succ t ih =>
    have := hB (4 * i + (3 - t))
    simp only [wpart, Nat.pow_succ]
    omega
theorem pl_low (i : Nat) (h : i < 4) : pl (i * 4) = i ∧ pl (i * 4 + 1) = 4 + i ∧ pl (i * 4 + 2) = 8 + i ∧ pl (i * 4 + 3) = 12 + i := by
  match i, h with
  | 0, _ => decide
  | 1, _ => decide
  | 2, _ => decide
  | 3, _ => decide
theorem pl_high (i : Nat) (h : i < 4) : pl ((4 + i) * 4) = i ∧ pl ((4 + i) * 4 + 1) = 4 + (i + 1) % 4 ∧ pl ((4 + i) * 4 + 2) = 8 + (i + 2) % 4 ∧ pl ((4 + i) * 4 + 3) = 12 + (i + 3) % 4 := by
  match i, h with
  | 0, _ => decide
  | 1, _ => decide
  | 2, _ => decide
  | 3, _ => decide
end BB
end
