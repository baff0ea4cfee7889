/-
  The walk of the law WireNumbers.
-/
import Derived.Test.YtbeodmijjanmeaaWText
open Go Go.RowKit
namespace WW
theorem toList_be4 (n : Nat) : (be4 n).toList = [UInt8.ofNat (n / 16777216), UInt8.ofNat (n / 65536), UInt8.ofNat (n / 256), UInt8.ofNat n] := by
  rw [ByteArray.toList_eq]; rfl
theorem u8_lt (a b : Nat) : (UInt8.ofNat a < UInt8.ofNat b) ↔ a % 256 < b % 256 := by
  rw [UInt8.lt_iff_toNat_lt]; simp
theorem u8_eq (a b : Nat) : (UInt8.ofNat a = UInt8.ofNat b) ↔ a % 256 = b % 256 := by
  rw [← UInt8.toNat_inj]; simp
theorem recompose (n : Nat) (h : n < 4294967296) : n = 16777216 * (n / 16777216 % 256) + 65536 * (n / 65536 % 256) + 256 * (n / 256 % 256) + n % 256 := by
  have d1 : n / 65536 / 256 = n / 16777216 := Nat.div_div_eq_div_mul n 65536 256
  have d2 : n / 256 / 256 = n / 65536 := Nat.div_div_eq_div_mul n 256 256
  omega
theorem be4_less (a b : Nat) (ha : a < 4294967296) (hb : b < 4294967296) : Op.bytesLess (be4 a).toList (be4 b).toList = decide (a < b) := by
  rw [toList_be4, toList_be4, Bool.eq_iff_iff]
  simp only [Op.bytesLess, Bool.or_eq_true, Bool.and_eq_true, decide_eq_true_eq, beq_iff_eq, u8_lt, u8_eq]
  have ra := recompose a ha
  have rb := recompose b hb
  have l1 : a / 16777216 % 256 < 256 := Nat.mod_lt _ (by decide)
  have l2 : a / 65536 % 256 < 256 := Nat.mod_lt _ (by decide)
  have l3 : a / 256 % 256 < 256 := Nat.mod_lt _ (by decide)
  have l4 : a % 256 < 256 := Nat.mod_lt _ (by decide)
  have m1 : b / 16777216 % 256 < 256 := Nat.mod_lt _ (by decide)
  have m2 : b / 65536 % 256 < 256 := Nat.mod_lt _ (by decide)
  have m3 : b / 256 % 256 < 256 := Nat.mod_lt _ (by decide)
  have m4 : b % 256 < 256 := Nat.mod_lt _ (by decide)
  generalize a / 16777216 % 256 = x1 at *
  generalize a / 65536 % 256 = x2 at *
  generalize a / 256 % 256 = x3 at *
  generalize a % 256 = x4 at *
  generalize b / 16777216 % 256 = y1 at *
  generalize b / 65536 % 256 = y2 at *
  generalize b / 256 % 256 = y3 at *
  generalize b % 256 = y4 at *
  simp only [Bool.false_eq_true, and_false, or_false]
  omega
theorem be4_same (a b : Nat) (ha : a < 4294967296) (hb : b < 4294967296) : ((be4 a).toList == (be4 b).toList) = decide (a = b) := by
  rw [toList_be4, toList_be4, Bool.eq_iff_iff]
  simp only [List.cons_beq_cons, beq_iff_eq, Bool.and_eq_true, decide_eq_true_eq, u8_eq, beq_self_eq_true, and_true]
  constructor
  · rintro ⟨h1, h2, h3, h4⟩
    rw [recompose a ha, recompose b hb, h1, h2, h3, h4]
  · rintro rfl; exact ⟨rfl, rfl, rfl, rfl⟩
end WW
namespace Go.Proofs.Ytbeodmijjanmeaa
open WW
set_option maxRecDepth 100000 in
set_option maxHeartbeats 1000000 in
theorem numbers_in (a b : Nat) (s : ByteArray) (ha : (a : Int) ≤ 2147483647) (hb : (b : Int) ≤ 2147483647) (w : World) :
    Calls Try.prog 3 #[.int .i64 a, .int .i64 b, .string s] w fun e w' => e = .returned (.bool true) ∧ Below w.heap.size w w' := by
  have a0 : (0 : Int) ≤ (a : Int) := by omega
  have b0 : (0 : Int) ≤ (b : Int) := by omega
  have s1 := be4_size a
  have s2 := be4_size b
  have HL := Lib.hid (be4_less a b (by omega) (by omega))
  have HE := Lib.hid (be4_same a b (by omega) (by omega))
  have HEI : Hid (((be4 a).toList == (be4 b).toList) = ((a : Int) == (b : Int))) := by
    show _ = _
    rw [HE.out, Bool.eq_iff_iff, decide_eq_true_iff, beq_iff_eq]; omega
  by_cases hs : s.size ≤ 100
  · have t1 : (s.size : Int) ≤ 100 := by omega
    have HS := Lib.hid hs
    clear hs
    go_enter Try.func3, Try.ntmps3
    go_wp2_with fail
    refine (number_in a ha _).mono ?_
    rintro e w1 ⟨rfl, hb1⟩
    go_wp2_with fail
    refine (number_in b hb _).mono ?_
    rintro e w2 ⟨rfl, hb2⟩
    go_wp2_with fail
    refine (awake_any _).mono ?_
    rintro e w3 ⟨rfl, hb3⟩
    go_wp2_with fail
    refine (text_any s (by have := HS.out; omega) _).mono ?_
    rintro e w4 ⟨rfl, hb4⟩
    go_wp2_with fail
    refine (rtext_any s (by have := HS.out; omega) _).mono ?_
    rintro e w5 ⟨rfl, hb5⟩
    have B := Lib.hid ((((hb1.trans (hb2.mono hb1.size)).trans (hb3.mono (hb1.trans (hb2.mono hb1.size)).size)).trans (hb4.mono ((hb1.trans (hb2.mono hb1.size)).trans (hb3.mono (hb1.trans (hb2.mono hb1.size)).size)).size)))
    have B5 := Lib.hid (B.out.trans (hb5.mono B.out.size))
    clear hb1 hb2 hb3 hb4 hb5 B
    have hl := HL.out
    have he := HEI.out
    go_wp2_with fail
    refine (rnumber_in a ha _).mono ?_
    rintro e w6 ⟨rfl, hb6⟩
    go_wp2_with fail
    go_ret
    exact ⟨rfl, B5.out.trans (hb6.mono B5.out.size)⟩
  · have t1 : (100 : Int) < (s.size : Int) := by omega
    clear hs
    go_enter Try.func3, Try.ntmps3
    go_wp2_with fail
    refine (number_in a ha _).mono ?_
    rintro e w1 ⟨rfl, hb1⟩
    go_wp2_with fail
    refine (number_in b hb _).mono ?_
    rintro e w2 ⟨rfl, hb2⟩
    go_wp2_with fail
    refine (awake_any _).mono ?_
    rintro e w3 ⟨rfl, hb3⟩
    have B5 := Lib.hid ((hb1.trans (hb2.mono hb1.size)).trans (hb3.mono (hb1.trans (hb2.mono hb1.size)).size))
    clear hb1 hb2 hb3
    have hl := HL.out
    have he := HEI.out
    go_wp2_with fail
    refine (rnumber_in a ha _).mono ?_
    rintro e w6 ⟨rfl, hb6⟩
    go_wp2_with fail
    go_ret
    exact ⟨rfl, B5.out.trans (hb6.mono B5.out.size)⟩
/-- one of the two numbers has no bytes of its own -/
def OutB (a b : Int) : Prop := a < 0 ∨ ¬ a < 0 ∧ (b < 0 ∨ ¬ b < 0 ∧ (2147483647 < a ∨ ¬ 2147483647 < a ∧ 2147483647 < b))
set_option maxRecDepth 100000 in
set_option maxHeartbeats 4000000 in
theorem numbers_out (a b : Int) (s : ByteArray) (h : OutB a b) (w : World) :
    Calls Try.prog 3 #[.int .i64 a, .int .i64 b, .string s] w fun e w' => e = .returned (.bool true) ∧ Below w.heap.size w w' := by
  have s1 := num_size a
  have s2 := num_size b
  by_cases hs : s.size ≤ 100
  · have t1 : (s.size : Int) ≤ 100 := by omega
    have HS := Lib.hid hs
    clear hs
    have H := Lib.hid h
    clear h
    go_enter Try.func3, Try.ntmps3
    go_wp2_with fail
    refine (number_any a _).mono ?_
    rintro e w1 ⟨rfl, hb1⟩
    go_wp2_with fail
    refine (number_any b _).mono ?_
    rintro e w2 ⟨rfl, hb2⟩
    go_wp2_with fail
    refine (awake_any _).mono ?_
    rintro e w3 ⟨rfl, hb3⟩
    go_wp2_with fail
    refine (text_any s (by have := HS.out; omega) _).mono ?_
    rintro e w4 ⟨rfl, hb4⟩
    go_wp2_with fail
    refine (rtext_any s (by have := HS.out; omega) _).mono ?_
    rintro e w5 ⟨rfl, hb5⟩
    have B := Lib.hid ((((hb1.trans (hb2.mono hb1.size)).trans (hb3.mono (hb1.trans (hb2.mono hb1.size)).size)).trans (hb4.mono ((hb1.trans (hb2.mono hb1.size)).trans (hb3.mono (hb1.trans (hb2.mono hb1.size)).size)).size)))
    have B5 := Lib.hid (B.out.trans (hb5.mono B.out.size))
    clear hb1 hb2 hb3 hb4 hb5 B
    have h := H.out
    rcases h with h | ⟨h0, h | ⟨h1, h | ⟨h2, h⟩⟩⟩
    all_goals
      go_wp2_with fail
      go_ret
      exact ⟨rfl, B5.out⟩
  · have t1 : (100 : Int) < (s.size : Int) := by omega
    clear hs
    have H := Lib.hid h
    clear h
    go_enter Try.func3, Try.ntmps3
    go_wp2_with fail
    refine (number_any a _).mono ?_
    rintro e w1 ⟨rfl, hb1⟩
    go_wp2_with fail
    refine (number_any b _).mono ?_
    rintro e w2 ⟨rfl, hb2⟩
    go_wp2_with fail
    refine (awake_any _).mono ?_
    rintro e w3 ⟨rfl, hb3⟩
    have B5 := Lib.hid ((hb1.trans (hb2.mono hb1.size)).trans (hb3.mono (hb1.trans (hb2.mono hb1.size)).size))
    clear hb1 hb2 hb3
    have h := H.out
    rcases h with h | ⟨h0, h | ⟨h1, h | ⟨h2, h⟩⟩⟩
    all_goals
      go_wp2_with fail
      go_ret
      exact ⟨rfl, B5.out⟩
theorem numbers_walk (a b : Int) (s : ByteArray) (w : World) :
    Calls Try.prog 3 #[.int .i64 a, .int .i64 b, .string s] w fun e w' => e = .returned (.bool true) ∧ Below w.heap.size w w' := by
  by_cases h : OutB a b
  · exact numbers_out a b s h w
  · unfold OutB at h
    obtain ⟨x, rfl⟩ := Int.eq_ofNat_of_zero_le (show 0 ≤ a by omega)
    obtain ⟨y, rfl⟩ := Int.eq_ofNat_of_zero_le (show 0 ≤ b by omega)
    exact numbers_in x y s (by omega) (by omega) w
end Go.Proofs.Ytbeodmijjanmeaa
