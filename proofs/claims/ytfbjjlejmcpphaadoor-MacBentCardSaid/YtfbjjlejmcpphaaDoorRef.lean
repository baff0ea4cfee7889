/-
  The walks of the document's answer: turned right, a mix, how the words begin, a row, a place.
-/
import Derived.Test.YtfbjjlejmcpphaaDoorComp
import Derived.Test.YtfbjjlejmcpphaaDoorRows
open Go Go.RowKit
namespace BB
theorem ror_sum (x : BitVec 32) (n : Nat) (hn : n < 32) : (ror n x).toNat = x.toNat % 2 ^ n * 2 ^ (32 - n) + x.toNat / 2 ^ n := by
  unfold ror
  rw [BitVec.or_comm, BitVec.toNat_or, BitVec.toNat_shiftLeft, BitVec.toNat_ushiftRight, Nat.shiftRight_eq_div_pow, Nat.shiftLeft_eq]
  have e : 2 ^ 32 = 2 ^ n * 2 ^ (32 - n) := by rw [← Nat.pow_add]; congr 1; omega
  have h1 : x.toNat * 2 ^ (32 - n) % 2 ^ 32 = 2 ^ (32 - n) * (x.toNat % 2 ^ n) := by
    rw [e, Nat.mul_mod_mul_right, Nat.mul_comm]
  have h2 : x.toNat / 2 ^ n < 2 ^ (32 - n) := by
    rw [Nat.div_lt_iff_lt_mul (Nat.two_pow_pos n), Nat.mul_comm, ← e]
    exact x.isLt
  rw [h1, ← Nat.two_pow_add_eq_or_of_lt h2, Nat.mul_comm]
theorem right_nat (X n : Nat) (hn : n ≤ 32) (hX : X < 2 ^ 32) : (X * 2 ^ 32 + X) / 2 ^ n % 2 ^ 32 = X % 2 ^ n * 2 ^ (32 - n) + X / 2 ^ n := by
  have e : 2 ^ 32 = 2 ^ n * 2 ^ (32 - n) := by rw [← Nat.pow_add]; congr 1; omega
  rw [e] at hX ⊢
  have hA : 0 < 2 ^ n := Nat.two_pow_pos n
  generalize 2 ^ n = A at *
  generalize 2 ^ (32 - n) = B at *
  have hq : X / A < B := by rw [Nat.div_lt_iff_lt_mul hA, Nat.mul_comm]; exact hX
  have hr : X % A < A := Nat.mod_lt _ hA
  have h1 : (X * (A * B) + X) / A = X * B + X / A := by
    rw [show X * (A * B) + X = A * (X * B) + X by rw [Nat.mul_left_comm], Nat.mul_add_div hA]
  have h2 : X * B + X / A = A * B * (X / A) + (X % A * B + X / A) := by
    have := Nat.div_add_mod X A
    calc X * B + X / A = (A * (X / A) + X % A) * B + X / A := by rw [this]
      _ = _ := by rw [Nat.add_mul, Nat.mul_right_comm, Nat.add_assoc]
  rw [h1, h2, Nat.mul_add_mod]
  apply Nat.mod_eq_of_lt
  have h3 : (X % A + 1) * B ≤ A * B := Nat.mul_le_mul_right B hr
  rw [Nat.add_mul, Nat.one_mul] at h3
  omega
theorem right_code (x : BitVec 32) (n : Nat) (hn : n < 32) (Q : Int) (hQ : Q = ((2 ^ n : Nat) : Int)) : ((x.toNat : Int) * 4294967296 + (x.toNat : Int)) / Q % 4294967296 = ((ror n x).toNat : Int) := by
  rw [ror_sum x n hn, ← right_nat x.toNat n (by omega) x.isLt, hQ]
  simp
end BB
namespace Go.Proofs.YtfbjjlejmcpphaaDoor
open BB
theorem right_any (x : BitVec 32) (n : Nat) (hn : n = 16 ∨ n = 12 ∨ n = 8 ∨ n = 7) (w : World) :
    Calls Tryd.prog 39 #[.int .u64 (x.toNat : Int), .int .u64 (n : Int)] w fun e w' => e = .returned (.int .u64 ((ror n x).toNat : Int)) ∧ w' = w := by
  have hx := x.isLt
  have w1 : IntKind.u64.wrap ((x.toNat : Int) * 4294967296) = (x.toNat : Int) * 4294967296 := by rw [IntKind.wrap_u64]; omega
  have w2 : IntKind.u64.wrap ((x.toNat : Int) * 4294967296 + (x.toNat : Int)) = (x.toNat : Int) * 4294967296 + (x.toNat : Int) := by rw [IntKind.wrap_u64]; omega
  clear hx
  rcases hn with rfl | rfl | rfl | rfl
  · go_enter Tryd.func39, Tryd.ntmps39
    go_wp2
    go_ret
    exact ⟨ret_int (right_code x 16 (by decide) _ (by decide)), rfl⟩
  · go_enter Tryd.func39, Tryd.ntmps39
    go_wp2
    go_ret
    exact ⟨ret_int (right_code x 12 (by decide) _ (by decide)), rfl⟩
  · go_enter Tryd.func39, Tryd.ntmps39
    go_wp2
    go_ret
    exact ⟨ret_int (right_code x 8 (by decide) _ (by decide)), rfl⟩
  · go_enter Tryd.func39, Tryd.ntmps39
    go_wp2
    go_ret
    exact ⟨ret_int (right_code x 7 (by decide) _ (by decide)), rfl⟩
end Go.Proofs.YtfbjjlejmcpphaaDoor
