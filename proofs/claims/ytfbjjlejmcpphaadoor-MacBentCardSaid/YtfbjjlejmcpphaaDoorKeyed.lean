/-
  The walks of the code's digest with a key, Keyed and Tag.
-/
import Derived.Test.YtfbjjlejmcpphaaDoorNewKey
import Derived.Test.YtfbjjlejmcpphaaDoorPlain
open Go Go.RowKit
namespace BB
/-- the digest of b with a key -/
def kdg (key b : ByteArray) : ByteArray := outS ((st0 key.data.toList).feed b.data.toList).done
theorem kdg_size (key b : ByteArray) : (kdg key b).size = 32 := by simp [kdg, outS, outL, ByteArray.size]
theorem nil_of_size (K : ByteArray) (h : K.size = 0) : K = ⟨#[]⟩ := by
  cases K with
  | mk d =>
    have : d.size = 0 := h
    rw [Array.size_eq_zero_iff.1 this]
end BB
namespace Go.Proofs.YtfbjjlejmcpphaaDoor
open BB
theorem new_any (K : ByteArray) (h32 : K.size ≤ 32) (w : World) (hT : Tabs w) :
    Calls Tryd.prog 31 #[.string K] w fun e w' => e = .returned (.pointer (some ⟨w.heap.size, 0, none⟩)) ∧ Below w.heap.size w w' ∧ Dg w' w.heap.size (st0 K.data.toList) := by
  by_cases h : K.size = 0
  · obtain rfl := nil_of_size K h
    exact new_none w hT
  · exact new_short K (by omega) h32 w hT
theorem st0_ok64 (l : List UInt8) : ∃ L, L ≤ 64 ∧ (st0 l).Ok L := ⟨_, by split <;> omega, st0_ok l⟩
set_option maxRecDepth 100000 in
set_option maxHeartbeats 1000000 in
theorem digest_any (key b : ByteArray) (hk : key.size ≤ 32) (hb : b.size < 1099511627776) (w : World) (hT : Tabs w) :
    Calls Tryd.prog 27 #[.string key, .string b] w fun e w' => e = .returned (.string (kdg key b)) ∧ Below w.heap.size w w' := by
  have HT := Lib.hid hT
  have HL := Lib.hid hb
  have HK := Lib.hid hk
  obtain ⟨L, hL, hO⟩ := st0_ok64 key.data.toList
  have HO := Lib.hid hO
  have HLL := Lib.hid hL
  clear hT hb hk hO hL
  go_enter Tryd.func27, Tryd.ntmps27
  go_wp2_with fail
  refine (new_any key HK.out w HT.out).mono ?_
  rintro e w1 ⟨rfl, hb1, hd1⟩
  have HT1 := Lib.hid (HT.out.below hb1 (Nat.le_refl _))
  have HN := Lib.hid (noTab_new w HT.out)
  have HD1 := Lib.hid hd1
  have HB1 := Lib.hid hb1
  clear hb1 hd1
  go_wp2_with fail
  refine (write_any w.heap.size (st0 key.data.toList) L HO.out b (by have := HL.out; have := HLL.out; omega) w1 HD1.out HT1.out HN.out).mono ?_
  rintro e w2 ⟨rfl, hk2, hd2⟩
  have HD2 := Lib.hid hd2
  have HK2 := Lib.hid hk2
  clear hk2 hd2
  go_wp2_with fail
  have HO2 := Lib.hid (HO.out.feed b.data.toList)
  refine (dsum_any w.heap.size _ _ HO2.out (by have := HL.out; have := HLL.out; simp; omega) w2 HD2.out (HT1.out.keep HK2.out HN.out) HN.out).mono ?_
  rintro e w3 ⟨rfl, hb3⟩
  go_wp2_with fail
  go_ret
  exact ⟨rfl, (HB1.out.trans (HK2.out.below (Nat.le_refl _) HB1.out.size)).trans (hb3.mono (Nat.le_trans HB1.out.size HK2.out.size))⟩
set_option maxRecDepth 100000 in
set_option maxHeartbeats 1000000 in
theorem keyed_ok (key b : ByteArray) (hk : key.size ≤ 32) (hb : b.size < 1099511627776) (w : World) (hT : Tabs w) :
    Calls Tryd.prog 30 #[.string key, .string b] w fun e w' => e = .returned (.tuple #[.string (kdg key b), .int .i64 0]) ∧ Below w.heap.size w w' := by
  have k1 : ¬ (32 : Int) < (key.size : Int) := by omega
  have HT := Lib.hid hT
  have HL := Lib.hid hb
  have HK := Lib.hid hk
  clear hT hb hk
  go_enter Tryd.func30, Tryd.ntmps30
  go_wp2_with fail
  refine (digest_any key b HK.out HL.out w HT.out).mono ?_
  rintro e w1 ⟨rfl, hb1⟩
  go_wp2_with fail
  go_ret2
  exact ⟨rfl, hb1⟩
set_option maxRecDepth 100000 in
theorem keyed_err (key b : ByteArray) (hk : 32 < key.size) (w : World) :
    Calls Tryd.prog 30 #[.string key, .string b] w fun e w' => e = .returned (.tuple #[.string ⟨#[]⟩, .int .i64 1]) ∧ w = w' := by
  have k1 : (32 : Int) < (key.size : Int) := by omega
  clear hk
  go_enter Tryd.func30, Tryd.ntmps30
  go_wp2_with fail
  go_ret2
  exact ⟨rfl, rfl⟩
set_option maxRecDepth 100000 in
theorem tag_err (key b : ByteArray) (hk : 32 < key.size) (w : World) :
    Calls Tryd.prog 24 #[.string key, .string b] w fun e w' => e = .returned (.string ⟨#[]⟩) ∧ w = w' := by
  go_enter Tryd.func24, Tryd.ntmps24
  go_wp2_with fail
  refine (keyed_err key b hk w).mono ?_
  rintro e w1 ⟨rfl, rfl⟩
  go_wp2_with fail
  go_ret
  exact ⟨rfl, rfl⟩
set_option maxRecDepth 100000 in
theorem tag_ok (key b : ByteArray) (hk : key.size ≤ 32) (hb : b.size < 1099511627776) (w : World) (hT : Tabs w) :
    Calls Tryd.prog 24 #[.string key, .string b] w fun e w' => e = .returned (.string ((kdg key b).extract 0 16)) ∧ Below w.heap.size w w' := by
  have hs := kdg_size key b
  have HS := Lib.hid hs
  clear hs
  go_enter Tryd.func24, Tryd.ntmps24
  go_wp2_with fail
  refine (keyed_ok key b hk hb w hT).mono ?_
  rintro e w1 ⟨rfl, hb1⟩
  have hs := HS.out
  go_wp2_with fail
  go_ret
  exact ⟨rfl, hb1⟩
end Go.Proofs.YtfbjjlejmcpphaaDoor
