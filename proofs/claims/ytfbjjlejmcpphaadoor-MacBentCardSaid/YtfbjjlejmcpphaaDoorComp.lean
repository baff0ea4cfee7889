/-
  What a block makes of the eight words: plain functions, the same for the code and for the document's answer.
-/
import Derived.Test.YtfbjjlejmcpphaaDoorBase
open Go Go.RowKit
namespace BB
def ivL : List (BitVec 32) := [0x6a09e667, 0xbb67ae85, 0x3c6ef372, 0xa54ff53a, 0x510e527f, 0x9b05688c, 0x1f83d9ab, 0x5be0cd19]
def iv (i : Nat) : BitVec 32 := ivL.getD i 0
def sgL : List Nat := [
  0, 1, 2, 3, 4, 5, 6, 7, 8, 9, 10, 11, 12, 13, 14, 15,
  14, 10, 4, 8, 9, 15, 13, 6, 1, 12, 0, 2, 11, 7, 5, 3,
  11, 8, 12, 0, 5, 2, 15, 13, 10, 14, 3, 6, 7, 1, 9, 4,
  7, 9, 3, 1, 13, 12, 11, 14, 2, 6, 5, 10, 4, 0, 15, 8,
  9, 0, 5, 7, 2, 4, 10, 15, 14, 1, 11, 12, 6, 8, 3, 13,
  2, 12, 6, 10, 0, 11, 8, 3, 4, 13, 7, 5, 15, 14, 1, 9,
  12, 5, 1, 15, 14, 13, 4, 10, 0, 7, 6, 3, 9, 2, 8, 11,
  13, 11, 7, 14, 12, 1, 3, 9, 5, 0, 15, 4, 8, 6, 2, 10,
  6, 15, 14, 9, 11, 3, 0, 8, 12, 2, 13, 7, 1, 4, 10, 5,
  10, 2, 8, 4, 7, 6, 1, 5, 15, 11, 9, 14, 3, 12, 13, 0]
def sg (i : Nat) : Nat := sgL.getD i 0
def plL : List Nat := [0, 4, 8, 12, 1, 5, 9, 13, 2, 6, 10, 14, 3, 7, 11, 15, 0, 5, 10, 15, 1, 6, 11, 12, 2, 7, 8, 13, 3, 4, 9, 14]
def pl (i : Nat) : Nat := plL.getD i 0
theorem getD_lt (l : List Nat) (c : Nat) (hc : 0 < c) (h : ∀ x ∈ l, x < c) (i : Nat) : l.getD i 0 < c := by
  rcases Nat.lt_or_ge i l.length with g | g
  · rw [List.getD_eq_getElem?_getD, List.getElem?_eq_getElem g]; exact h _ (List.getElem_mem g)
  · rw [List.getD_eq_getElem?_getD, List.getElem?_eq_none g]; exact hc
set_option maxRecDepth 10000 in
theorem sg_lt (i : Nat) : sg i < 16 := getD_lt _ _ (by decide) (by decide) i
theorem pl_lt (i : Nat) : pl i < 16 := getD_lt _ _ (by decide) (by decide) i
/-- the words that the first k bytes make -/
def wstep (B : Nat → Nat) : Nat → Nat → BitVec 32
  | 0 => fun _ => 0
  | k + 1 => put (wstep B k) (k / 4) (wstep B k (k / 4) ||| BitVec.ofNat 32 (B k) <<< (8 * (k % 4)))
def vinit (h : Nat → BitVec 32) : Nat → Nat → BitVec 32
  | 0 => fun _ => 0
  | k + 1 => put (put (vinit h k) k (h k)) (8 + k) (iv k)
def vcount (h : Nat → BitVec 32) (n : Nat) : Nat → BitVec 32 :=
  put (put (vinit h 8) 12 (vinit h 8 12 ^^^ BitVec.ofNat 32 n)) 13 (vinit h 8 13 ^^^ BitVec.ofNat 32 (n / 4294967296))
def vstart (h : Nat → BitVec 32) (n : Nat) (last : Bool) : Nat → BitVec 32 :=
  if last then put (vcount h n) 14 (vcount h n 14 ^^^ 0xffffffff) else vcount h n
def inner (M : Nat → BitVec 32) (r : Nat) (v : Nat → BitVec 32) : Nat → Nat → BitVec 32
  | 0 => v
  | k + 1 => gmix (inner M r v k) (pl (k * 4)) (pl (k * 4 + 1)) (pl (k * 4 + 2)) (pl (k * 4 + 3)) (M (sg (r * 16 + 2 * k))) (M (sg (r * 16 + (2 * k + 1))))
def outer (M : Nat → BitVec 32) (v : Nat → BitVec 32) : Nat → Nat → BitVec 32
  | 0 => v
  | r + 1 => inner M r (outer M v r) 8
def fin (h v : Nat → BitVec 32) : Nat → Nat → BitVec 32
  | 0 => h
  | k + 1 => put (fin h v k) k (fin h v k k ^^^ (v k ^^^ v (8 + k)))
/-- the eight words behind a block -/
def comp (h : Nat → BitVec 32) (B : Nat → Nat) (n : Nat) (last : Bool) : Nat → BitVec 32 :=
  fin h (outer (wstep B 64) (vstart h n last) 10) 8
theorem xor_lo (x : BitVec 32) (n : Nat) : Value.int .u32 (bits .xor .u32 (x.toNat : Int) ((n : Int) % 4294967296)) = .int .u32 ((x ^^^ BitVec.ofNat 32 n).toNat : Int) := by rw [xor_n]
theorem xor_hi (x : BitVec 32) (n : Nat) : Value.int .u32 (bits .xor .u32 (x.toNat : Int) ((n : Int) / 4294967296 % 4294967296)) = .int .u32 ((x ^^^ BitVec.ofNat 32 (n / 4294967296)).toNat : Int) := by
  rw [show (n : Int) / 4294967296 = ((n / 4294967296 : Nat) : Int) by omega, xor_n]
theorem xor_all (x : BitVec 32) : Value.int .u32 (bits .xor .u32 (x.toNat : Int) 4294967295) = .int .u32 ((x ^^^ 0xffffffff).toNat : Int) := by
  rw [← bvxor]; rfl
end BB
