/-
  Plain lemmas: a word's four bytes; the digest's text by fours.
-/
import Derived.Test.YtfbjjlejmcpphaaDoorSum
open Go Go.RowKit
namespace BB
theorem conv4 {P : Program} (w : World) (src dst e : TypeId) (hs : P.underlying src = some (.slice e)) (he : P.underlying e = some (.int .u8)) (hd : P.underlying dst = some .string) (a b c d : Int) :
    (convert src dst (.slice (some ⟨w.heap.size, 0, none⟩) 4 4)).run P (w.alloc (.cells #[.int .u8 a, .int .u8 b, .int .u8 c, .int .u8 d] e)) = .ok (.string (strOfNums [a, b, c, d])) (w.alloc (.cells #[.int .u8 a, .int .u8 b, .int .u8 c, .int .u8 d] e)) := by
  refine run_convert_bytes_arg _ src e hs he _ 0 4 4 [a, b, c, d] rfl (fun i hi => ?_) dst hd
  have hn : (w.alloc (.cells #[.int .u8 a, .int .u8 b, .int .u8 c, .int .u8 d] e)).heap[w.heap.size]? = some (.cells #[.int .u8 a, .int .u8 b, .int .u8 c, .int .u8 d] e) := by show (w.heap.push _)[w.heap.size]? = _; simp
  rw [Nat.zero_add]
  match i, hi with
  | 0, _ => unfold World.cell?; rw [hn]; rfl
  | 1, _ => unfold World.cell?; rw [hn]; rfl
  | 2, _ => unfold World.cell?; rw [hn]; rfl
  | 3, _ => unfold World.cell?; rw [hn]; rfl
/-- a word's four bytes, the lowest first -/
def quad (x : BitVec 32) : ByteArray := ⟨#[UInt8.ofNat (x.toNat % 256), UInt8.ofNat (x.toNat / 256 % 256), UInt8.ofNat (x.toNat / 65536 % 256), UInt8.ofNat (x.toNat / 16777216 % 256)]⟩
theorem quad_nums (x : BitVec 32) : strOfNums [(x.toNat : Int) % 256, (x.toNat : Int) / 256 % 256, (x.toNat : Int) / 65536 % 256, (x.toNat : Int) / 16777216] = quad x := by
  have hx := x.isLt
  unfold quad strOfNums
  generalize x.toNat = n at *
  have e1 : ((n : Int) / 16777216).toNat = n / 16777216 % 256 := by omega
  have e2 : ((n : Int) / 65536 % 256).toNat = n / 65536 % 256 := by omega
  have e3 : ((n : Int) / 256 % 256).toNat = n / 256 % 256 := by omega
  have e4 : ((n : Int) % 256).toNat = n % 256 := by omega
  simp only [List.map_cons, List.map_nil, e1, e2, e3, e4]
theorem outL_len (v : Nat → BitVec 32) : (outL v).length = 32 := by simp [outL]
theorem outL_get (v : Nat → BitVec 32) (i : Nat) (h : i < 32) : (outL v)[i]? = some (UInt8.ofNat (obyte v i)) := by
  simp [outL, h]
theorem quad_take (v : Nat → BitVec 32) (k : Nat) (h : k < 8) : (outL v).take (4 * k) ++ (quad (v k)).data.toList = (outL v).take (4 * (k + 1)) := by
  have hl := outL_len v
  apply List.ext_getElem?
  intro j
  by_cases h1 : j < 4 * k
  · rw [List.getElem?_append_left (by simp; omega), List.getElem?_take_of_lt h1, List.getElem?_take_of_lt (by omega)]
  · rw [List.getElem?_append_right (by simp; omega)]
    have ht : (List.take (4 * k) (outL v)).length = 4 * k := by simp; omega
    rw [ht]
    by_cases h2 : j < 4 * (k + 1)
    · rw [List.getElem?_take_of_lt h2, outL_get v j (by omega)]
      have hc : j - 4 * k = 0 ∨ j - 4 * k = 1 ∨ j - 4 * k = 2 ∨ j - 4 * k = 3 := by omega
      rcases hc with h3 | h3 | h3 | h3
      · have : j = 4 * k := by omega
        subst this
        simp [quad, obyte, show 4 * k / 4 = k by omega]
      · obtain rfl : j = 4 * k + 1 := by omega
        simp [quad, obyte, show (4 * k + 1) / 4 = k by omega, show (4 * k + 1) % 4 = 1 by omega]
      · obtain rfl : j = 4 * k + 2 := by omega
        simp [quad, obyte, show (4 * k + 2) / 4 = k by omega, show (4 * k + 2) % 4 = 2 by omega]
      · obtain rfl : j = 4 * k + 3 := by omega
        simp [quad, obyte, show (4 * k + 3) / 4 = k by omega, show (4 * k + 3) % 4 = 3 by omega]
    · rw [List.getElem?_eq_none (by simp [quad]; omega), List.getElem?_eq_none (by simp; omega)]
theorem out_take8 (v : Nat → BitVec 32) : (⟨((outL v).take (4 * 8)).toArray⟩ : ByteArray) = outS v := by
  unfold outS; rw [List.take_of_length_le (by simp [outL])]
theorem quad_snoc (v : Nat → BitVec 32) (k : Nat) (h : k < 8) : Value.string (⟨((outL v).take (4 * k)).toArray⟩ ++ quad (v k)) = .string ⟨((outL v).take (4 * (k + 1))).toArray⟩ := by
  congr 1
  apply ByteArray.ext
  apply Array.toList_inj.1
  rw [← quad_take v k h]
  simp
end BB
