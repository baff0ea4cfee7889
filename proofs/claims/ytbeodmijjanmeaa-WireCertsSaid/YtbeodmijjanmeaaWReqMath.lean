/-
  Plain lemmas: what is read has just these bytes; right requests come again.
-/
import Derived.Test.YtbeodmijjanmeaaWReqRead
import Derived.Test.YtbeodmijjanmeaaWText
open Go Go.RowKit
namespace WW
open BB
theorem ba_ext {a b : ByteArray} (h : a.data.toList = b.data.toList) : a = b := ByteArray.ext (Array.toList_inj.1 h)
theorem ba_list (a : ByteArray) : a.data.toList.length = a.size := by rw [Array.length_toList]; rfl
theorem be4_list (n : Nat) : (be4 n).data.toList = [UInt8.ofNat (n / 16777216), UInt8.ofNat (n / 65536), UInt8.ofNat (n / 256), UInt8.ofNat n] := rfl
theorem rd4_be4 (n : Nat) (h : n < 4294967296) (r : ByteArray) : rd4 (be4 n ++ r) = n := by
  unfold rd4
  rw [ByteArray.data_append, Array.toList_append, be4_list]
  simp only [List.cons_append, List.nil_append, List.getD_cons_zero, List.getD_cons_succ, UInt8.toNat_ofNat']
  have d1 : n / 65536 / 256 = n / 16777216 := Nat.div_div_eq_div_mul n 65536 256
  have d2 : n / 256 / 256 = n / 65536 := Nat.div_div_eq_div_mul n 256 256
  omega
theorem drop_be4 (n : Nat) (r : ByteArray) : (be4 n ++ r).extract 4 (be4 n ++ r).size = r := by
  apply ba_ext
  have hr := ba_list r
  have hs : (be4 n ++ r).size = 4 + r.size := by rw [ByteArray.size_append]; rfl
  rw [hs, ByteArray.data_extract, Array.toList_extract, ByteArray.data_append, Array.toList_append, be4_list, List.extract_eq_take_drop]
  show List.take (4 + r.size - 4) r.data.toList = r.data.toList
  exact List.take_of_length_le (by omega)
theorem numSp_put (lo hi : Int) (n : Nat) (h : n < 4294967296) (r : ByteArray) : numSp lo hi (be4 n ++ r) = if (n : Int) < lo ∨ hi < (n : Int) then none else some (r, n) := by
  unfold numSp
  rw [if_neg (by rw [ByteArray.size_append]; show ¬ 4 + r.size < 4; omega), rd4_be4 n h, drop_be4]
theorem list4 (l : List UInt8) (h : 4 ≤ l.length) : ∃ a b c d r, l = a :: b :: c :: d :: r := by
  match l, h with
  | a :: b :: c :: d :: r, _ => exact ⟨a, b, c, d, r, rfl⟩
theorem u8_of (x : UInt8) (n : Nat) (h : n % 256 = x.toNat) : UInt8.ofNat n = x := by
  apply UInt8.toNat_inj.1; simp [h]
theorem numSp_sound {lo hi : Int} {b r : ByteArray} {N : Nat} (h : numSp lo hi b = some (r, N)) : b = be4 N ++ r ∧ lo ≤ (N : Int) ∧ (N : Int) ≤ hi := by
  unfold numSp at h
  split at h
  · cases h
  · split at h
    · cases h
    · rename_i h4 hr
      injection h with h; injection h with h1 h2
      refine ⟨?_, by omega, by omega⟩
      apply ba_ext
      have hl := ba_list b
      obtain ⟨x0, x1, x2, x3, t, ht⟩ := list4 b.data.toList (by omega)
      have hN : N = x0.toNat * 16777216 + x1.toNat * 65536 + x2.toNat * 256 + x3.toNat := by
        rw [← h2]; unfold rd4; rw [ht]; rfl
      have l0 := UInt8.toNat_lt x0
      have l1 := UInt8.toNat_lt x1
      have l2 := UInt8.toNat_lt x2
      have l3 := UInt8.toNat_lt x3
      have e0 : UInt8.ofNat (N / 16777216) = x0 := u8_of _ _ (by omega)
      have e1 : UInt8.ofNat (N / 65536) = x1 := u8_of _ _ (by omega)
      have e2 : UInt8.ofNat (N / 256) = x2 := u8_of _ _ (by omega)
      have e3 : UInt8.ofNat N = x3 := u8_of _ _ (by omega)
      rw [ByteArray.data_append, Array.toList_append, be4_list, e0, e1, e2, e3, ← h1, ByteArray.data_extract, Array.toList_extract, ht, List.extract_eq_take_drop]
      have hs : b.size = t.length + 4 := by rw [← hl, ht]; simp
      simp [hs]
theorem bytesSp_put (s r : ByteArray) : bytesSp s.size (s ++ r) = some (r, s) := by
  unfold bytesSp
  rw [if_neg (by rw [ByteArray.size_append]; omega)]
  congr 2
  · apply ba_ext
    have hr := ba_list r
    have hs := ba_list s
    rw [ByteArray.data_extract, Array.toList_extract, ByteArray.data_append, Array.toList_append, ByteArray.size_append, List.extract_eq_take_drop, List.drop_left' hs]
    exact List.take_of_length_le (by omega)
  · apply ba_ext
    have hs := ba_list s
    rw [ByteArray.data_extract, Array.toList_extract, ByteArray.data_append, Array.toList_append, List.extract_eq_take_drop, List.drop_zero, Nat.sub_zero, List.take_left' hs]
theorem bytesSp_sound {N : Nat} {b r s : ByteArray} (h : bytesSp N b = some (r, s)) : b = s ++ r ∧ s.size = N := by
  unfold bytesSp at h
  split at h
  · cases h
  · injection h with h; injection h with h1 h2
    constructor
    · apply ba_ext
      rw [← h1, ← h2, ByteArray.data_append, Array.toList_append, ByteArray.data_extract, ByteArray.data_extract, Array.toList_extract, Array.toList_extract, List.extract_eq_take_drop, List.extract_eq_take_drop]
      have := ba_list b
      rw [List.drop_zero, Nat.sub_zero, List.take_of_length_le (l := b.data.toList.drop N) (by simp), List.take_append_drop]
    · rw [← h2]; simp; omega
end WW
