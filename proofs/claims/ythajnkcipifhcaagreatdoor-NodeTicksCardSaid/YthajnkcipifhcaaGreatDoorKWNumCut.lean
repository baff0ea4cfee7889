/-
  The walk of the closure that cuts a number off.
-/
import Derived.Test.YthajnkcipifhcaaGreatDoorChecked
import Derived.Test.YthajnkcipifhcaaGreatDoorKCallsW
import Derived.WalkKit
import Derived.Lib.Hide
import Derived.WalkSpells
import Derived.WalkLawsBesides
section
open Go Go.RowKit
namespace WW
def be4 (n : Nat) : ByteArray := ⟨#[UInt8.ofNat (n / 16777216), UInt8.ofNat (n / 65536), UInt8.ofNat (n / 256), UInt8.ofNat n]⟩
/-- a number's bytes -/
def num (n : Int) : ByteArray := be4 (if n < 0 ∨ 2147483647 < n then 0 else n.toNat)
theorem u8_mod (k : Nat) : UInt8.ofNat (k % 256) = UInt8.ofNat k := by
  apply UInt8.toNat_inj.1; simp
theorem be4_nums (n : Nat) : strOfNums [(n : Int) / 16777216, (n : Int) / 65536 % 256, (n : Int) / 256 % 256, (n : Int) % 256] = be4 n := by
  have e1 : ((n : Int) / 16777216).toNat = n / 16777216 := by omega
  have e2 : ((n : Int) / 65536 % 256).toNat = n / 65536 % 256 := by omega
  have e3 : ((n : Int) / 256 % 256).toNat = n / 256 % 256 := by omega
  have e4 : ((n : Int) % 256).toNat = n % 256 := by omega
  unfold strOfNums be4
  simp only [List.map_cons, List.map_nil, e1, e2, e3, e4, u8_mod]
theorem conv4 {P : Program} (w : World) (src dst e : TypeId) (hs : P.underlying src = some (.slice e)) (he : P.underlying e = some (.int .u8)) (hd : P.underlying dst = some .string) (a b c d : Int) :
    (convert src dst (.slice (some ⟨w.heap.size, 0, none⟩) 4 4)).run P (w.alloc (.cells #[.int .u8 a, .int .u8 b, .int .u8 c, .int .u8 d] e)) = .ok (.string (strOfNums [a, b, c, d])) (w.alloc (.cells #[.int .u8 a, .int .u8 b, .int .u8 c, .int .u8 d] e)) := by
  refine run_convert_bytes_arg _ src e hs he _ 0 4 4 [a, b, c, d] rfl (fun i hi => ?_) dst hd
  rw [Nat.zero_add]
  apply cell_new
  match i, hi with
  | 0, _ => rfl
  | 1, _ => rfl
  | 2, _ => rfl
  | 3, _ => rfl
end WW
namespace Go.Proofs.YthajnkcipifhcaaGreatDoor
open WW
set_option maxRecDepth 100000 in
set_option maxHeartbeats 1000000 in
theorem number_in (n : Nat) (hn : (n : Int) ≤ 2147483647) (w : World) :
    Calls Tryz.prog 60 #[.int .i64 n] w fun e w' => e = .returned (.string (be4 n)) ∧ Below w.heap.size w w' := by
  have h0 : (0 : Int) ≤ (n : Int) := by omega
  have hc := conv4 (P := Tryz.prog) w 99 9 5 (by kernel_rfl) (by kernel_rfl) (by kernel_rfl) ((n : Int) / 16777216) ((n : Int) / 65536 % 256) ((n : Int) / 256 % 256) ((n : Int) % 256)
  rw [be4_nums] at hc
  go_enter Tryz.func60, Tryz.ntmps60
  go_wp2_with fail
  go_ret
  exact ⟨rfl, (Below.refl _ _).alloc (Nat.le_refl _) _⟩
set_option maxRecDepth 100000 in
set_option maxHeartbeats 1000000 in
theorem number_out (n : Int) (hn : n < 0 ∨ 2147483647 < n) (w : World) :
    Calls Tryz.prog 60 #[.int .i64 n] w fun e w' => e = .returned (.string (be4 0)) ∧ Below w.heap.size w w' := by
  have hc := conv4 (P := Tryz.prog) w 99 9 5 (by kernel_rfl) (by kernel_rfl) (by kernel_rfl) 0 0 0 0
  rw [show strOfNums [0, 0, 0, 0] = be4 0 from be4_nums 0] at hc
  rcases hn with hn | hn
  · go_enter Tryz.func60, Tryz.ntmps60
    go_wp2_with fail
    go_ret
    exact ⟨rfl, (Below.refl _ _).alloc (Nat.le_refl _) _⟩
  · have h0 : 0 ≤ n := by omega
    go_enter Tryz.func60, Tryz.ntmps60
    go_wp2_with fail
    go_ret
    exact ⟨rfl, (Below.refl _ _).alloc (Nat.le_refl _) _⟩
theorem number_any (n : Int) (w : World) :
    Calls Tryz.prog 60 #[.int .i64 n] w fun e w' => e = .returned (.string (num n)) ∧ Below w.heap.size w w' := by
  unfold num
  by_cases h : n < 0 ∨ 2147483647 < n
  · rw [if_pos h]; exact number_out n h w
  · rw [if_neg h]
    obtain ⟨k, rfl⟩ := Int.eq_ofNat_of_zero_le (show 0 ≤ n by omega)
    exact number_in k (by omega) w
end Go.Proofs.YthajnkcipifhcaaGreatDoor
end
section
open Go Go.RowKit
namespace WW
open BB
/-- the number that four bytes are -/
def rd4 (b : ByteArray) : Nat := (b.data.toList.getD 0 0).toNat * 16777216 + (b.data.toList.getD 1 0).toNat * 65536 + (b.data.toList.getD 2 0).toNat * 256 + (b.data.toList.getD 3 0).toNat
theorem or_words (x0 x1 x2 x3 : Nat) (h1 : x1 < 256) (h2 : x2 < 256) (h3 : x3 < 256) : ((x0 * 16777216 ||| x1 * 65536) ||| x2 * 256) ||| x3 = x0 * 16777216 + x1 * 65536 + x2 * 256 + x3 := by
  have e1 := Nat.two_pow_add_eq_or_of_lt (b := x1 * 65536) (i := 24) (by omega) x0
  have e2 := Nat.two_pow_add_eq_or_of_lt (b := x2 * 256) (i := 16) (by omega) (x0 * 256 + x1)
  have e3 := Nat.two_pow_add_eq_or_of_lt (b := x3) (i := 8) (by omega) (x0 * 65536 + x1 * 256 + x2)
  rw [show x0 * 16777216 = 2 ^ 24 * x0 by omega, ← e1, show 2 ^ 24 * x0 + x1 * 65536 = 2 ^ 16 * (x0 * 256 + x1) by omega, ← e2, show 2 ^ 16 * (x0 * 256 + x1) + x2 * 256 = 2 ^ 8 * (x0 * 65536 + x1 * 256 + x2) by omega, ← e3]
theorem or_u32 (a b : Nat) (ha : a < 4294967296) (hb : b < 4294967296) : bits .or .u32 (a : Int) (b : Int) = ((a ||| b : Nat) : Int) := by
  have := bvor (BitVec.ofNat 32 a) (BitVec.ofNat 32 b)
  rw [BitVec.toNat_or, BitVec.toNat_ofNat, BitVec.toNat_ofNat, Nat.mod_eq_of_lt ha, Nat.mod_eq_of_lt hb] at this
  exact this
theorem rd_word (x0 x1 x2 x3 : Nat) (h0 : x0 < 256) (h1 : x1 < 256) (h2 : x2 < 256) (h3 : x3 < 256) :
    IntKind.i64.wrap (bits .or .u32 (bits .or .u32 (bits .or .u32 (IntKind.u32.wrap (IntKind.u32.wrap (x0 : Int) * 16777216)) (IntKind.u32.wrap (IntKind.u32.wrap (x1 : Int) * 65536))) (IntKind.u32.wrap (IntKind.u32.wrap (x2 : Int) * 256))) (IntKind.u32.wrap (x3 : Int))) =
      ((x0 * 16777216 + x1 * 65536 + x2 * 256 + x3 : Nat) : Int) := by
  have w0 : IntKind.u32.wrap (IntKind.u32.wrap (x0 : Int) * 16777216) = ((x0 * 16777216 : Nat) : Int) := by rw [IntKind.wrap_u32', IntKind.wrap_u32']; omega
  have w1 : IntKind.u32.wrap (IntKind.u32.wrap (x1 : Int) * 65536) = ((x1 * 65536 : Nat) : Int) := by rw [IntKind.wrap_u32', IntKind.wrap_u32']; omega
  have w2 : IntKind.u32.wrap (IntKind.u32.wrap (x2 : Int) * 256) = ((x2 * 256 : Nat) : Int) := by rw [IntKind.wrap_u32', IntKind.wrap_u32']; omega
  have w3 : IntKind.u32.wrap (x3 : Int) = (x3 : Int) := by rw [IntKind.wrap_u32']; omega
  have e := or_words x0 x1 x2 x3 h1 h2 h3
  have e1 : x0 * 16777216 ||| x1 * 65536 = x0 * 16777216 + x1 * 65536 := by
    rw [show x0 * 16777216 = 2 ^ 24 * x0 by omega, ← Nat.two_pow_add_eq_or_of_lt (by omega)]
  have e2 : (x0 * 16777216 ||| x1 * 65536) ||| x2 * 256 = x0 * 16777216 + x1 * 65536 + x2 * 256 := by
    rw [e1, show x0 * 16777216 + x1 * 65536 = 2 ^ 16 * (x0 * 256 + x1) by omega, ← Nat.two_pow_add_eq_or_of_lt (by omega)]
  rw [w0, w1, w2, w3, or_u32 _ _ (by omega) (by omega), or_u32 _ _ (by rw [e1]; omega) (by omega), or_u32 _ _ (by rw [e2]; omega) (by omega), e]
  exact IntWalk.i64_in _ (by omega)
theorem get_byte (b : ByteArray) (i : Nat) (h : i < b.size) : b[i] = b.data.toList.getD i 0 := by
  show b.data[i] = _
  have hs : i < b.data.size := h
  simp only [List.getD_eq_getElem?_getD, Array.getElem?_toList, Array.getElem?_eq_getElem hs, Option.getD_some]
theorem rd4_code (b : ByteArray) (h0 : 0 < b.size) (h1 : 1 < b.size) (h2 : 2 < b.size) (h3 : 3 < b.size) :
    IntKind.i64.wrap (bits .or .u32 (bits .or .u32 (bits .or .u32 (IntKind.u32.wrap (IntKind.u32.wrap (b[0].toNat : Int) * 16777216)) (IntKind.u32.wrap (IntKind.u32.wrap (b[1].toNat : Int) * 65536))) (IntKind.u32.wrap (IntKind.u32.wrap (b[2].toNat : Int) * 256))) (IntKind.u32.wrap (b[3].toNat : Int))) = (rd4 b : Int) := by
  rw [rd_word _ _ _ _ (UInt8.toNat_lt _) (UInt8.toNat_lt _) (UInt8.toNat_lt _) (UInt8.toNat_lt _), get_byte, get_byte, get_byte, get_byte]
  rfl
theorem rd4_lt (b : ByteArray) : rd4 b < 4294967296 := by
  unfold rd4
  have h0 := UInt8.toNat_lt (b.data.toList.getD 0 0)
  have h1 := UInt8.toNat_lt (b.data.toList.getD 1 0)
  have h2 := UInt8.toNat_lt (b.data.toList.getD 2 0)
  have h3 := UInt8.toNat_lt (b.data.toList.getD 3 0)
  omega
/-- what is cut off: a number from lo to hi -/
def numSp (lo hi : Int) (b : ByteArray) : Option (ByteArray × Nat) := if b.size < 4 then none else if (rd4 b : Int) < lo ∨ hi < (rd4 b : Int) then none else some (b.extract 4 b.size, rd4 b)
end WW
namespace Go.Proofs.YthajnkcipifhcaaGreatDoor
open WW BB
set_option maxRecDepth 100000 in
set_option maxHeartbeats 2000000 in
theorem numc_short (b : ByteArray) (vp vq vr : Value) (w : World) (h4 : b.size < 4) :
    Calls Tryz.prog 305 #[.string b, vp, vq, vr] w fun e w' => e = .returned (.tuple #[.string ⟨#[]⟩, .bool false]) ∧ w = w' := by
  have g4 : (b.size : Int) < 4 := by omega
  clear h4
  go_enter Tryz.func305, Tryz.ntmps305
  go_wp2_with fail
  go_ret2
  exact ⟨rfl, rfl⟩
set_option maxRecDepth 100000 in
set_option maxHeartbeats 2000000 in
theorem numc_out (b : ByteArray) (p q : Nat) (lo hi : Int) (w : World) (h4 : 4 ≤ b.size) (hout : (rd4 b : Int) < lo ∨ ¬ (rd4 b : Int) < lo ∧ hi < (rd4 b : Int))
    (hp : w.cell? ⟨p, 0, none⟩ = some (.int .i64 lo)) (hq : w.cell? ⟨q, 0, none⟩ = some (.int .i64 hi)) (vr : Value) :
    Calls Tryz.prog 305 #[.string b, .pointer (some ⟨p, 0, none⟩), .pointer (some ⟨q, 0, none⟩), vr] w fun e w' => e = .returned (.tuple #[.string ⟨#[]⟩, .bool false]) ∧ Same w w' := by
  have n0 : 0 < b.size := by omega
  have n1 : 1 < b.size := by omega
  have n2 : 2 < b.size := by omega
  have n3 : 3 < b.size := by omega
  have g0 : (0 : Int) < (b.size : Int) := by omega
  have g1 : (1 : Int) < (b.size : Int) := by omega
  have g2 : (2 : Int) < (b.size : Int) := by omega
  have g3 : (3 : Int) < (b.size : Int) := by omega
  have g4 : ¬ (b.size : Int) < 4 := by omega
  have E := Lib.hid (rd4_code b n0 n1 n2 n3)
  clear h4
  go_enter Tryz.func305, Tryz.ntmps305
  go_wp2_with fail
  refine quiet_abs (by kernel_rfl) (by kernel_rfl) fun w2 hs2 => ?_
  repeat still_step
  refine wpStill_nil ?_
  rw [E.out]
  have hp2 := (hs2.cell ⟨p, 0, none⟩).trans hp
  have hq2 := (hs2.cell ⟨q, 0, none⟩).trans hq
  clear hp hq
  have N0 : (0 : Int) ≤ (rd4 b : Int) := by omega
  obtain ⟨N, hN⟩ : ∃ N, rd4 b = N := ⟨_, rfl⟩
  rw [hN] at hout N0 ⊢
  rcases hout with h | ⟨h1, h⟩
  · go_wp2_with fail
    go_ret2
    exact ⟨rfl, hs2⟩
  · go_wp2_with fail
    go_ret2
    exact ⟨rfl, hs2⟩
set_option maxRecDepth 100000 in
set_option maxHeartbeats 2000000 in
theorem numc_yes (b : ByteArray) (p q r t o n : Nat) (lo hi : Int) (f : Nat → Value) (w : World) (h4 : 4 ≤ b.size) (hlo : ¬ (rd4 b : Int) < lo) (hhi : ¬ hi < (rd4 b : Int))
    (hp : w.cell? ⟨p, 0, none⟩ = some (.int .i64 lo)) (hq : w.cell? ⟨q, 0, none⟩ = some (.int .i64 hi)) (hr : w.cell? ⟨r, 0, none⟩ = some (.pointer (some ⟨t, o, none⟩)))
    (ht : Blk w t n f) (ho : o < n) :
    Calls Tryz.prog 305 #[.string b, .pointer (some ⟨p, 0, none⟩), .pointer (some ⟨q, 0, none⟩), .pointer (some ⟨r, 0, none⟩)] w fun e w' =>
      e = .returned (.tuple #[.string (b.extract 4 b.size), .bool true]) ∧ MS w t n (put f o (.int .i64 (rd4 b : Int))) w' := by
  have n0 : 0 < b.size := by omega
  have n1 : 1 < b.size := by omega
  have n2 : 2 < b.size := by omega
  have n3 : 3 < b.size := by omega
  have g0 : (0 : Int) < (b.size : Int) := by omega
  have g1 : (1 : Int) < (b.size : Int) := by omega
  have g2 : (2 : Int) < (b.size : Int) := by omega
  have g3 : (3 : Int) < (b.size : Int) := by omega
  have g4 : ¬ (b.size : Int) < 4 := by omega
  have E := Lib.hid (rd4_code b n0 n1 n2 n3)
  have HT := Lib.hid ht
  have HO := Lib.hid ho
  clear ht ho
  go_enter Tryz.func305, Tryz.ntmps305
  go_wp2_with fail
  refine quiet_abs (by kernel_rfl) (by kernel_rfl) fun w2 hs2 => ?_
  repeat still_step
  refine wpStill_nil ?_
  rw [E.out]
  have hp2 := (hs2.cell ⟨p, 0, none⟩).trans hp
  have hq2 := (hs2.cell ⟨q, 0, none⟩).trans hq
  have hr2 := (hs2.cell ⟨r, 0, none⟩).trans hr
  have ht2 := (HT.out.same hs2).get o HO.out
  have hf2 := (HT.out.same hs2).frz o
  have M2 := Lib.hid ((MS.mk HT.out).same hs2)
  clear hp hq hr hs2 HT
  have N0 : (0 : Int) ≤ (rd4 b : Int) := by omega
  obtain ⟨N, hN⟩ : ∃ N, rd4 b = N := ⟨_, rfl⟩
  have HN := Lib.hid hN
  rw [hN] at hlo hhi N0 ⊢
  clear hN
  go_wp2_with fail
  go_ret2
  refine ⟨rfl, ?_⟩
  rw [HN.out]
  exact M2.out.set o _
end Go.Proofs.YthajnkcipifhcaaGreatDoor
end
