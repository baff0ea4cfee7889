/-
  A block's words, as sums of bytes: plain arithmetic.
-/
import Derived.Test.YtfbjjlejmcpphaaDoorComp
open Go Go.RowKit
namespace BB
theorem wstep_before (B : Nat → Nat) (j k : Nat) (h : k ≤ 4 * j) : wstep B k j = 0 := by
  induction k with
  | zero => rfl
  | succ k ih =>
    show put (wstep B k) (k / 4) _ j = 0
    rw [put_other _ _ (by omega)]
    exact ih (by omega)
theorem wstep_behind (B : Nat → Nat) (j d : Nat) : wstep B (4 * j + 4 + d) j = wstep B (4 * j + 4) j := by
  induction d with
  | zero => rfl
  | succ d ih =>
    show put (wstep B (4 * j + 4 + d)) ((4 * j + 4 + d) / 4) _ j = _
    rw [put_other _ _ (by omega)]
    exact ih
theorem wstep_at (B : Nat → Nat) (j t : Nat) (ht : t < 4) : wstep B (4 * j + t + 1) j = wstep B (4 * j + t) j ||| BitVec.ofNat 32 (B (4 * j + t)) <<< (8 * t) := by
  show put (wstep B (4 * j + t)) ((4 * j + t) / 4) _ j = _
  rw [show (4 * j + t) / 4 = j by omega, show (4 * j + t) % 4 = t by omega, put_same]
theorem or_part (x : BitVec 32) (b n : Nat) (hx : x.toNat < 2 ^ n) (hb : b * 2 ^ n < 2 ^ 32) : (x ||| BitVec.ofNat 32 b <<< n).toNat = x.toNat + b * 2 ^ n := by
  have h1 : b < 2 ^ 32 := Nat.lt_of_le_of_lt (Nat.le_mul_of_pos_right b (Nat.two_pow_pos n)) hb
  rw [BitVec.toNat_or, BitVec.toNat_shiftLeft, BitVec.toNat_ofNat, Nat.mod_eq_of_lt h1, Nat.shiftLeft_eq, Nat.mod_eq_of_lt hb, Nat.or_comm, Nat.mul_comm b, ← Nat.two_pow_add_eq_or_of_lt hx, Nat.add_comm]
/-- the words as sums of bytes, the greatest byte first -/
def wpart (B : Nat → Nat) (i : Nat) : Nat → Nat
  | 0 => 0
  | t + 1 => wpart B i t * 256 + B (4 * i + (3 - t))
theorem wstep_sum (B : Nat → Nat) (hB : ∀ i, B i < 256) (j : Nat) (hj : j < 16) : (wstep B 64 j).toNat = wpart B j 4 := by
  have e : 64 = 4 * j + 4 + (60 - 4 * j) := by omega
  rw [e, wstep_behind]
  have h0 := hB (4 * j)
  have h1 := hB (4 * j + 1)
  have h2 := hB (4 * j + 2)
  have h3 := hB (4 * j + 3)
  have w0 : (wstep B (4 * j) j).toNat = 0 := by rw [wstep_before B j _ (Nat.le_refl _)]; rfl
  have w1 : (wstep B (4 * j + 1) j).toNat = B (4 * j) := by
    have := wstep_at B j 0 (by decide)
    simp only [Nat.add_zero] at this
    rw [this, or_part _ _ _ (by rw [w0]; decide) (by simp; omega), w0]; simp
  have w2 : (wstep B (4 * j + 2) j).toNat = B (4 * j) + B (4 * j + 1) * 256 := by
    have := wstep_at B j 1 (by decide)
    rw [show 4 * j + 2 = 4 * j + 1 + 1 by omega, this, or_part _ _ _ (by rw [w1]; simp; omega) (by simp; omega), w1]
  have w3 : (wstep B (4 * j + 3) j).toNat = B (4 * j) + B (4 * j + 1) * 256 + B (4 * j + 2) * 65536 := by
    have := wstep_at B j 2 (by decide)
    rw [show 4 * j + 3 = 4 * j + 2 + 1 by omega, this, or_part _ _ _ (by rw [w2]; simp; omega) (by simp; omega), w2]
  have w4 := wstep_at B j 3 (by decide)
  rw [show 4 * j + 4 = 4 * j + 3 + 1 by omega, w4, or_part _ _ _ (by rw [w3]; simp; omega) (by simp; omega), w3]
  simp only [wpart]
  simp
  omega
theorem wpart_lt (B : Nat → Nat) (hB : ∀ i, B i < 256) (i t : Nat) : wpart B i t < 256 ^ t := by
  induction t with
  | zero => simp [wpart]
  | succ t ih =>
    have := hB (4 * i + (3 - t))
    simp only [wpart, Nat.pow_succ]
    omega
theorem pl_low (i : Nat) (h : i < 4) : pl (i * 4) = i ∧ pl (i * 4 + 1) = 4 + i ∧ pl (i * 4 + 2) = 8 + i ∧ pl (i * 4 + 3) = 12 + i := by
  match i, h with
  | 0, _ => decide
  | 1, _ => decide
  | 2, _ => decide
  | 3, _ => decide
theorem pl_high (i : Nat) (h : i < 4) : pl ((4 + i) * 4) = i ∧ pl ((4 + i) * 4 + 1) = 4 + (i + 1) % 4 ∧ pl ((4 + i) * 4 + 2) = 8 + (i + 2) % 4 ∧ pl ((4 + i) * 4 + 3) = 12 + (i + 3) % 4 := by
  match i, h with
  | 0, _ => decide
  | 1, _ => decide
  | 2, _ => decide
  | 3, _ => decide
end BB
