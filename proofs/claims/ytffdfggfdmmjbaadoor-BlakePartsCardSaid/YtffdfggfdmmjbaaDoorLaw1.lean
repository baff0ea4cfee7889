/-
  The walks of the laws BlakeSums and BlakeKeyed.
-/
import Derived.Test.YtffdfggfdmmjbaaDoorRefSum
import Derived.Test.YtffdfggfdmmjbaaDoorApart
import Derived.Test.YtffdfggfdmmjbaaDoorKeyed
import Derived.Deep.RegionHeld3
open Go Go.RowKit
namespace BB
theorem rk_eq (K s : ByteArray) (hk : K.size ≤ 32) : outS (rdone K.size (kblock K.data.toList ++ s.data.toList)) = kdg K s := by
  unfold kdg
  rw [done_eq _ _ (by simpa using hk)]
  simp
theorem dg_kdg (s : ByteArray) : kdg ⟨#[]⟩ s = dg s := rfl
end BB
namespace Go.Proofs.YtffdfggfdmmjbaaDoor
open BB
theorem rsum_kdg (K s : ByteArray) (hk : K.size ≤ 32) (hs : s.size < 1000000) (w : World) :
    Calls Tryd.prog 10 #[.string K, .string s] w fun e w' => e = .returned (.string (kdg K s)) ∧ Below w.heap.size w w' := by
  rw [← rk_eq K s hk]; exact rsum_any K s hk hs w
theorem rsum_dg (s : ByteArray) (hs : s.size < 1000000) (w : World) :
    Calls Tryd.prog 10 #[.string ⟨#[]⟩, .string s] w fun e w' => e = .returned (.string (dg s)) ∧ Below w.heap.size w w' :=
  rsum_kdg ⟨#[]⟩ s (Nat.zero_le _) hs w
set_option maxRecDepth 100000 in
set_option maxHeartbeats 1000000 in
theorem sums_walk (b : ByteArray) (w : World) (hT : Tabs w) :
    Calls Tryd.prog 3 #[.string b] w fun e w' => e = .returned (.bool true) ∧ Below w.heap.size w w' := by
  have HT := Lib.hid hT
  clear hT
  by_cases h : b.size ≤ 2000
  · have a1 : ¬ (2000 : Int) < (b.size : Int) := by omega
    have H := Lib.hid h
    clear h
    go_enter Tryd.func3, Tryd.ntmps3
    go_wp2_with fail
    refine (awake_any w HT.out).mono ?_
    rintro e w1 ⟨rfl, hb1⟩
    have HB1 := Lib.hid hb1
    clear hb1
    go_wp2_with fail
    refine (sum_any b (by have := H.out; omega) w1 (HT.out.below HB1.out (Nat.le_refl _))).mono ?_
    rintro e w2 ⟨rfl, hb2⟩
    have HB2 := Lib.hid (HB1.out.trans (hb2.mono HB1.out.size))
    clear hb2 HB1
    go_wp2_with fail
    refine (rsum_dg b (by have := H.out; omega) w2).mono ?_
    rintro e w3 ⟨rfl, hb3⟩
    go_wp2_with fail
    go_ret
    exact ⟨rfl, HB2.out.trans (hb3.mono HB2.out.size)⟩
  · have a1 : (2000 : Int) < (b.size : Int) := by omega
    clear h
    go_enter Tryd.func3, Tryd.ntmps3
    go_wp2_with fail
    refine (awake_any w HT.out).mono ?_
    rintro e w1 ⟨rfl, hb1⟩
    have HB1 := Lib.hid hb1
    clear hb1
    go_wp2_with fail
    refine (awake_any w1 (HT.out.below HB1.out (Nat.le_refl _))).mono ?_
    rintro e w2 ⟨rfl, hb2⟩
    go_wp2_with fail
    go_ret
    exact ⟨rfl, HB1.out.trans (hb2.mono HB1.out.size)⟩
set_option maxRecDepth 100000 in
set_option maxHeartbeats 1000000 in
theorem keyed_walk (key b : ByteArray) (w : World) (hT : Tabs w) :
    Calls Tryd.prog 4 #[.string key, .string b] w fun e w' => e = .returned (.bool true) ∧ Below w.heap.size w w' := by
  have HT := Lib.hid hT
  clear hT
  by_cases h : b.size ≤ 1000
  · by_cases hk : key.size ≤ 100
    · have a1 : ¬ (1000 : Int) < (b.size : Int) := by omega
      have a2 : ¬ (100 : Int) < (key.size : Int) := by omega
      have H := Lib.hid h
      clear h
      by_cases hs : key.size ≤ 32
      · have a3 : ¬ (32 : Int) < (key.size : Int) := by omega
        have HK := Lib.hid hs
        clear hk hs
        go_enter Tryd.func4, Tryd.ntmps4
        go_wp2_with fail
        refine (awake_any w HT.out).mono ?_
        rintro e w1 ⟨rfl, hb1⟩
        have HB1 := Lib.hid hb1
        clear hb1
        go_wp2_with fail
        refine (keyed_ok key b HK.out (by have := H.out; omega) w1 (HT.out.below HB1.out (Nat.le_refl _))).mono ?_
        rintro e w2 ⟨rfl, hb2⟩
        have HB2 := Lib.hid (HB1.out.trans (hb2.mono HB1.out.size))
        clear hb2 HB1
        go_wp2_with fail
        refine (rsum_kdg key b HK.out (by have := H.out; omega) w2).mono ?_
        rintro e w3 ⟨rfl, hb3⟩
        have HB3 := Lib.hid (HB2.out.trans (hb3.mono HB2.out.size))
        clear hb3 HB2
        have hs := kdg_size key b
        have HS := Lib.hid hs
        clear hs
        have b4 : Below w.heap.size w w3.drew := HB3.out.drew
        clear HB3
        have hs := HS.out
        go_wp2_with fail
        go_region_held3 (fun w' => Below w.heap.size w w') (first | assumption | exact hb5) ((go_at_call 12; refine (tag_ok key b HK.out (by have := H.out; omega) _ (HT.out.below (by assumption) (Nat.le_refl _))).mono ?_; rintro e w4 ⟨rfl, hb4⟩; have hb5 := Below.trans (by assumption : Below w.heap.size w _) (hb4.mono (Below.size (by assumption)))))
        go_wp2_with fail
        go_ret
        exact ⟨rfl, hb5⟩
      · have a3 : (32 : Int) < (key.size : Int) := by omega
        have HK := Lib.hid hs
        clear hk hs
        go_enter Tryd.func4, Tryd.ntmps4
        go_wp2_with fail
        refine (awake_any w HT.out).mono ?_
        rintro e w1 ⟨rfl, hb1⟩
        have HB1 := Lib.hid hb1
        clear hb1
        go_wp2_with fail
        refine (keyed_err key b (by have := HK.out; omega) w1).mono ?_
        rintro e w2 ⟨rfl, rfl⟩
        go_wp2_with fail
        refine (tag_err key b (by have := HK.out; omega) w1).mono ?_
        rintro e w2 ⟨rfl, rfl⟩
        go_wp2_with fail
        go_ret
        exact ⟨rfl, HB1.out⟩
    · have a1 : ¬ (1000 : Int) < (b.size : Int) := by omega
      have a2 : (100 : Int) < (key.size : Int) := by omega
      clear h hk
      go_enter Tryd.func4, Tryd.ntmps4
      go_wp2_with fail
      refine (awake_any w HT.out).mono ?_
      rintro e w1 ⟨rfl, hb1⟩
      have HB1 := Lib.hid hb1
      clear hb1
      go_wp2_with fail
      refine (awake_any w1 (HT.out.below HB1.out (Nat.le_refl _))).mono ?_
      rintro e w2 ⟨rfl, hb2⟩
      go_wp2_with fail
      go_ret
      exact ⟨rfl, HB1.out.trans (hb2.mono HB1.out.size)⟩
  · have a1 : (1000 : Int) < (b.size : Int) := by omega
    clear h
    go_enter Tryd.func4, Tryd.ntmps4
    go_wp2_with fail
    refine (awake_any w HT.out).mono ?_
    rintro e w1 ⟨rfl, hb1⟩
    have HB1 := Lib.hid hb1
    clear hb1
    go_wp2_with fail
    refine (awake_any w1 (HT.out.below HB1.out (Nat.le_refl _))).mono ?_
    rintro e w2 ⟨rfl, hb2⟩
    go_wp2_with fail
    go_ret
    exact ⟨rfl, HB1.out.trans (hb2.mono HB1.out.size)⟩
end Go.Proofs.YtffdfggfdmmjbaaDoor
