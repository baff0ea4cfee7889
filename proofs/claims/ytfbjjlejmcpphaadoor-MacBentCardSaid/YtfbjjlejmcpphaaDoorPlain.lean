/-
  The walks of the code's digest and Sum, without a key.
-/
import Derived.Test.YtfbjjlejmcpphaaDoorNew
open Go Go.RowKit
namespace BB
/-- the digest of b, without a key -/
def dg (b : ByteArray) : ByteArray := outS ((st0 []).feed b.data.toList).done
theorem dsize (b : ByteArray) : (dg b).size = 32 := by simp [dg, outS, outL, ByteArray.size]
end BB
namespace Go.Proofs.YtfbjjlejmcpphaaDoor
open BB
theorem noTab_new (w : World) (hT : Tabs w) : NoTab w.heap.size := ⟨Nat.ne_of_gt hT.l1, Nat.ne_of_gt hT.l2, Nat.ne_of_gt hT.l3⟩
set_option maxRecDepth 100000 in
set_option maxHeartbeats 1000000 in
theorem digest_none (b : ByteArray) (hb : b.size < 1099511627776) (w : World) (hT : Tabs w) :
    Calls Tryd.prog 27 #[.string ⟨#[]⟩, .string b] w fun e w' => e = .returned (.string (dg b)) ∧ Below w.heap.size w w' := by
  have HT := Lib.hid hT
  have HL := Lib.hid hb
  have HO := Lib.hid (st0_ok [])
  clear hT hb
  go_enter Tryd.func27, Tryd.ntmps27
  go_wp2_with fail
  refine (new_none w HT.out).mono ?_
  rintro e w1 ⟨rfl, hb1, hd1⟩
  have HT1 := Lib.hid (HT.out.below hb1 (Nat.le_refl _))
  have HN := Lib.hid (noTab_new w HT.out)
  have HD1 := Lib.hid hd1
  have HB1 := Lib.hid hb1
  clear hb1 hd1
  go_wp2_with fail
  refine (write_any w.heap.size (st0 []) 0 HO.out b (by have := HL.out; omega) w1 HD1.out HT1.out HN.out).mono ?_
  rintro e w2 ⟨rfl, hk2, hd2⟩
  have HD2 := Lib.hid hd2
  have HK2 := Lib.hid hk2
  clear hk2 hd2
  go_wp2_with fail
  have HO2 := Lib.hid (HO.out.feed b.data.toList)
  refine (dsum_any w.heap.size _ _ HO2.out (by have := HL.out; simp; omega) w2 HD2.out (HT1.out.keep HK2.out HN.out) HN.out).mono ?_
  rintro e w3 ⟨rfl, hb3⟩
  go_wp2_with fail
  go_ret
  exact ⟨rfl, (HB1.out.trans (HK2.out.below (Nat.le_refl _) HB1.out.size)).trans (hb3.mono (Nat.le_trans HB1.out.size HK2.out.size))⟩
set_option maxRecDepth 100000 in
set_option maxHeartbeats 1000000 in
theorem sum_any (b : ByteArray) (hb : b.size < 1099511627776) (w : World) (hT : Tabs w) :
    Calls Tryd.prog 18 #[.string b] w fun e w' => e = .returned (.string (dg b)) ∧ Below w.heap.size w w' := by
  go_enter Tryd.func18, Tryd.ntmps18
  go_wp2_with fail
  refine (digest_none b hb w hT).mono ?_
  rintro e w1 ⟨rfl, hb1⟩
  go_wp2_with fail
  go_ret
  exact ⟨rfl, hb1⟩
end Go.Proofs.YtfbjjlejmcpphaaDoor
