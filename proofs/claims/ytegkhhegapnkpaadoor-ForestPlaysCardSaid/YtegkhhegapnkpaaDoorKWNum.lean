/-
  Numbers and texts as bytes: the code's, and the reference's.
-/
import Derived.Test.YtegkhhegapnkpaaDoorChecked
import Derived.Test.YtegkhhegapnkpaaDoorKJBox
import Derived.WalkKit
import Derived.Lib.Hide
import Derived.WalkSpells
import Derived.WalkLawsBesides
open Go Go.RowKit
namespace WW
def be4 (n : Nat) : ByteArray := ⟨#[UInt8.ofNat (n / 16777216), UInt8.ofNat (n / 65536), UInt8.ofNat (n / 256), UInt8.ofNat n]⟩
/-- a number's bytes -/
def num (n : Int) : ByteArray := be4 (if n < 0 ∨ 2147483647 < n then 0 else n.toNat)
theorem u8_mod (k : Nat) : UInt8.ofNat (k % 256) = UInt8.ofNat k := by
  apply UInt8.toNat_inj.1; simp
theorem be4_nums (n : Nat) : strOfNums [(n : Int) / 16777216, (n : Int) / 65536 % 256, (n : Int) / 256 % 256, (n : Int) % 256] = be4 n := by
  have e1 : ((n : Int) / 16777216).toNat = n / 16777216 := by omega
  have e2 : ((n : Int) / 65536 % 256).toNat = n / 65536 % 256 := by omega
  have e3 : ((n : Int) / 256 % 256).toNat = n / 256 % 256 := by omega
  have e4 : ((n : Int) % 256).toNat = n % 256 := by omega
  unfold strOfNums be4
  simp only [List.map_cons, List.map_nil, e1, e2, e3, e4, u8_mod]
theorem conv4 {P : Program} (w : World) (src dst e : TypeId) (hs : P.underlying src = some (.slice e)) (he : P.underlying e = some (.int .u8)) (hd : P.underlying dst = some .string) (a b c d : Int) :
    (convert src dst (.slice (some ⟨w.heap.size, 0, none⟩) 4 4)).run P (w.alloc (.cells #[.int .u8 a, .int .u8 b, .int .u8 c, .int .u8 d] e)) = .ok (.string (strOfNums [a, b, c, d])) (w.alloc (.cells #[.int .u8 a, .int .u8 b, .int .u8 c, .int .u8 d] e)) := by
  refine run_convert_bytes_arg _ src e hs he _ 0 4 4 [a, b, c, d] rfl (fun i hi => ?_) dst hd
  rw [Nat.zero_add]
  apply cell_new
  match i, hi with
  | 0, _ => rfl
  | 1, _ => rfl
  | 2, _ => rfl
  | 3, _ => rfl
end WW
namespace Go.Proofs.YtegkhhegapnkpaaDoor
open WW
set_option maxRecDepth 100000 in
set_option maxHeartbeats 1000000 in
theorem number_in (n : Nat) (hn : (n : Int) ≤ 2147483647) (w : World) :
    Calls Tryd.prog 121 #[.int .i64 n] w fun e w' => e = .returned (.string (be4 n)) ∧ Below w.heap.size w w' := by
  have h0 : (0 : Int) ≤ (n : Int) := by omega
  have hc := conv4 (P := Tryd.prog) w 110 9 5 (by kernel_rfl) (by kernel_rfl) (by kernel_rfl) ((n : Int) / 16777216) ((n : Int) / 65536 % 256) ((n : Int) / 256 % 256) ((n : Int) % 256)
  rw [be4_nums] at hc
  go_enter Tryd.func121, Tryd.ntmps121
  go_wp2_with fail
  go_ret
  exact ⟨rfl, (Below.refl _ _).alloc (Nat.le_refl _) _⟩
set_option maxRecDepth 100000 in
set_option maxHeartbeats 1000000 in
theorem number_out (n : Int) (hn : n < 0 ∨ 2147483647 < n) (w : World) :
    Calls Tryd.prog 121 #[.int .i64 n] w fun e w' => e = .returned (.string (be4 0)) ∧ Below w.heap.size w w' := by
  have hc := conv4 (P := Tryd.prog) w 110 9 5 (by kernel_rfl) (by kernel_rfl) (by kernel_rfl) 0 0 0 0
  rw [show strOfNums [0, 0, 0, 0] = be4 0 from be4_nums 0] at hc
  rcases hn with hn | hn
  · go_enter Tryd.func121, Tryd.ntmps121
    go_wp2_with fail
    go_ret
    exact ⟨rfl, (Below.refl _ _).alloc (Nat.le_refl _) _⟩
  · have h0 : 0 ≤ n := by omega
    go_enter Tryd.func121, Tryd.ntmps121
    go_wp2_with fail
    go_ret
    exact ⟨rfl, (Below.refl _ _).alloc (Nat.le_refl _) _⟩
theorem number_any (n : Int) (w : World) :
    Calls Tryd.prog 121 #[.int .i64 n] w fun e w' => e = .returned (.string (num n)) ∧ Below w.heap.size w w' := by
  unfold num
  by_cases h : n < 0 ∨ 2147483647 < n
  · rw [if_pos h]; exact number_out n h w
  · rw [if_neg h]
    obtain ⟨k, rfl⟩ := Int.eq_ofNat_of_zero_le (show 0 ≤ n by omega)
    exact number_in k (by omega) w
set_option maxRecDepth 100000 in
set_option maxHeartbeats 1000000 in
theorem rnumber_in (n : Nat) (hn : (n : Int) ≤ 2147483647) (w : World) :
    Calls Tryd.prog 74 #[.int .i64 n] w fun e w' => e = .returned (.string (be4 n)) ∧ Below w.heap.size w w' := by
  have h0 : (0 : Int) ≤ (n : Int) := by omega
  have hc := conv4 (P := Tryd.prog) w 110 9 5 (by kernel_rfl) (by kernel_rfl) (by kernel_rfl) ((n : Int) / 16777216) ((n : Int) / 65536 % 256) ((n : Int) / 256 % 256) ((n : Int) % 256)
  rw [be4_nums] at hc
  go_enter Tryd.func74, Tryd.ntmps74
  go_wp2_with fail
  go_ret
  exact ⟨rfl, (Below.refl _ _).alloc (Nat.le_refl _) _⟩
set_option maxRecDepth 100000 in
set_option maxHeartbeats 1000000 in
theorem rnumber_out (n : Int) (hn : n < 0 ∨ 2147483647 < n) (w : World) :
    Calls Tryd.prog 74 #[.int .i64 n] w fun e w' => e = .returned (.string (be4 0)) ∧ Below w.heap.size w w' := by
  have hc := conv4 (P := Tryd.prog) w 110 9 5 (by kernel_rfl) (by kernel_rfl) (by kernel_rfl) 0 0 0 0
  rw [show strOfNums [0, 0, 0, 0] = be4 0 from be4_nums 0] at hc
  rcases hn with hn | hn
  · go_enter Tryd.func74, Tryd.ntmps74
    go_wp2_with fail
    go_ret
    exact ⟨rfl, (Below.refl _ _).alloc (Nat.le_refl _) _⟩
  · have h0 : 0 ≤ n := by omega
    go_enter Tryd.func74, Tryd.ntmps74
    go_wp2_with fail
    go_ret
    exact ⟨rfl, (Below.refl _ _).alloc (Nat.le_refl _) _⟩
theorem rnumber_any (n : Int) (w : World) :
    Calls Tryd.prog 74 #[.int .i64 n] w fun e w' => e = .returned (.string (num n)) ∧ Below w.heap.size w w' := by
  unfold num
  by_cases h : n < 0 ∨ 2147483647 < n
  · rw [if_pos h]; exact rnumber_out n h w
  · rw [if_neg h]
    obtain ⟨k, rfl⟩ := Int.eq_ofNat_of_zero_le (show 0 ≤ n by omega)
    exact rnumber_in k (by omega) w
end Go.Proofs.YtegkhhegapnkpaaDoor
