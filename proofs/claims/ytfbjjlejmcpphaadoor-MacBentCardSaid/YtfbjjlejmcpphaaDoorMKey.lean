/-
  The key of two nodes, and a tag: the code's, and the reference's.
-/
import Derived.Test.YtfbjjlejmcpphaaDoorLaw1
import Derived.Test.YtfbjjlejmcpphaaDoorWText
open Go Go.RowKit
namespace MM
open WW BB
/-- the node as which this one has its keys -/
def endn (x : Int) : Int := if x < 0 then 0 else if 20 < x then 0 else x
/-- what a key is the digest of -/
def keyT (s : ByteArray) (a b : Int) : ByteArray := ⟨#[75]⟩ ++ txt s ++ num (min a b) ++ num (max a b)
theorem keyT_size (s : ByteArray) (a b : Int) : (keyT s a b).size = 13 + s.size := by
  have h1 : (⟨#[75]⟩ : ByteArray).size = 1 := rfl
  simp only [keyT, ByteArray.size_append, num_size, txt_size, h1]; omega
/-- a key, of nodes from 0 to 20 -/
def keyB (s : ByteArray) (a b : Int) : ByteArray := dg (keyT s a b)
theorem keyB_size (s : ByteArray) (a b : Int) : (keyB s a b).size = 32 := dsize _
theorem keyB_comm (s : ByteArray) (a b : Int) : keyB s a b = keyB s b a := by
  unfold keyB keyT; rw [Int.min_comm, Int.max_comm]
/-- a tag -/
def tagB (s : ByteArray) (a b : Int) (t : ByteArray) : ByteArray := (kdg (keyB s a b) t).extract 0 16
theorem tagB_size (s : ByteArray) (a b : Int) (t : ByteArray) : (tagB s a b t).size = 16 := by
  unfold tagB; rw [ByteArray.size_extract, kdg_size]; rfl
theorem endn_in (x : Int) : 0 ≤ endn x ∧ endn x ≤ 20 := by unfold endn; split <;> (try split) <;> omega
theorem endn_id (x : Int) (h0 : 0 ≤ x) (h1 : x ≤ 20) : endn x = x := by
  unfold endn; rw [if_neg (by omega), if_neg (by omega)]
end MM
namespace Go.Proofs.YtfbjjlejmcpphaaDoor
open MM WW BB
set_option maxRecDepth 100000 in
theorem end_any (x : Int) (w : World) :
    Calls Tryd.prog 17 #[.int .i64 x] w fun e w' => e = .returned (.int .i64 (endn x)) ∧ w = w' := by
  by_cases h0 : x < 0
  · have e : endn x = 0 := by unfold endn; rw [if_pos h0]
    rw [e]
    go_enter Tryd.func17, Tryd.ntmps17
    go_wp2_with fail
    go_ret
    exact ⟨rfl, rfl⟩
  · by_cases h1 : 20 < x
    · have e : endn x = 0 := by unfold endn; rw [if_neg h0, if_pos h1]
      rw [e]
      go_enter Tryd.func17, Tryd.ntmps17
      go_wp2_with fail
      go_ret
      exact ⟨rfl, rfl⟩
    · have e : endn x = x := by unfold endn; rw [if_neg h0, if_neg h1]
      rw [e]
      go_enter Tryd.func17, Tryd.ntmps17
      go_wp2_with fail
      go_ret
      exact ⟨rfl, rfl⟩
set_option maxRecDepth 100000 in
set_option maxHeartbeats 2000000 in
theorem key_any (s : ByteArray) (a b : Int) (hs : s.size ≤ 1000) (w : World) (hT : Tabs w) :
    Calls Tryd.prog 8 #[.string s, .int .i64 a, .int .i64 b] w fun e w' => e = .returned (.string (keyB s (endn a) (endn b))) ∧ Below w.heap.size w w' := by
  have h1 : ¬ 9223372036854775807 < (⟨#[75]⟩ : ByteArray).size + (txt s).size := by rw [txt_size, show (⟨#[75]⟩ : ByteArray).size = 1 from rfl]; omega
  have HS := Lib.hid hs
  have HT := Lib.hid hT
  obtain ⟨p, hp⟩ : ∃ p, endn a = p := ⟨_, rfl⟩
  obtain ⟨q, hq⟩ : ∃ q, endn b = q := ⟨_, rfl⟩
  have HP := Lib.hid hp
  have HQ := Lib.hid hq
  rw [hp, hq]
  clear hs hT hp hq
  rcases Int.lt_trichotomy q p with hpq | hpq | hpq
  · have HM := Lib.hid (show keyT s p q = ⟨#[75]⟩ ++ txt s ++ num q ++ num p by unfold keyT; rw [Int.min_eq_right (by omega), Int.max_eq_left (by omega)])
    have h2 : ¬ 9223372036854775807 < (⟨#[75]⟩ : ByteArray).size + (txt s).size + (num q).size := by rw [txt_size, num_size, show (⟨#[75]⟩ : ByteArray).size = 1 from rfl]; have := HS.out; omega
    have h3 : ¬ 9223372036854775807 < (⟨#[75]⟩ : ByteArray).size + (txt s).size + (num q).size + (num p).size := by rw [txt_size, num_size, num_size, show (⟨#[75]⟩ : ByteArray).size = 1 from rfl]; have := HS.out; omega
    go_enter Tryd.func8, Tryd.ntmps8
    go_wp2_with fail
    refine (end_any a w).mono ?_
    rintro e w' ⟨rfl, rfl⟩
    rw [HP.out]
    go_wp2_with fail
    refine (end_any b w).mono ?_
    rintro e w' ⟨rfl, rfl⟩
    rw [HQ.out]
    go_wp2_with fail
    refine (text_any s (by have := HS.out; omega) _).mono ?_
    rintro e w1 ⟨rfl, hb1⟩
    have B1 := Lib.hid hb1
    clear hb1
    go_wp2_with fail
    refine (number_any q _).mono ?_
    rintro e w2 ⟨rfl, hb2⟩
    have B2 := Lib.hid (B1.out.trans (hb2.mono B1.out.size))
    clear hb2 B1
    go_wp2_with fail
    refine (number_any p _).mono ?_
    rintro e w3 ⟨rfl, hb3⟩
    have B3 := Lib.hid (B2.out.trans (hb3.mono B2.out.size))
    clear hb3 B2
    go_wp2_with fail
    rw [← HM.out]
    refine (sum_any (keyT s p q) (by have := HS.out; rw [keyT_size]; omega) _ (HT.out.below B3.out (Nat.le_refl _))).mono ?_
    rintro e w4 ⟨rfl, hb4⟩
    have B4 := Lib.hid (B3.out.trans (hb4.mono B3.out.size))
    clear hb4 B3
    go_wp2_with fail
    go_ret
    exact ⟨rfl, B4.out⟩
  · subst hpq
    have HM := Lib.hid (show keyT s q q = ⟨#[75]⟩ ++ txt s ++ num q ++ num q by unfold keyT; rw [Int.min_eq_left (by omega), Int.max_eq_right (by omega)])
    have h2 : ¬ 9223372036854775807 < (⟨#[75]⟩ : ByteArray).size + (txt s).size + (num q).size := by rw [txt_size, num_size, show (⟨#[75]⟩ : ByteArray).size = 1 from rfl]; have := HS.out; omega
    have h3 : ¬ 9223372036854775807 < (⟨#[75]⟩ : ByteArray).size + (txt s).size + (num q).size + (num q).size := by simp only [txt_size, num_size]; rw [show (⟨#[75]⟩ : ByteArray).size = 1 from rfl]; have := HS.out; omega
    go_enter Tryd.func8, Tryd.ntmps8
    go_wp2_with fail
    refine (end_any a w).mono ?_
    rintro e w' ⟨rfl, rfl⟩
    rw [HP.out]
    go_wp2_with fail
    refine (end_any b w).mono ?_
    rintro e w' ⟨rfl, rfl⟩
    rw [HQ.out]
    go_wp2_with fail
    refine (text_any s (by have := HS.out; omega) _).mono ?_
    rintro e w1 ⟨rfl, hb1⟩
    have B1 := Lib.hid hb1
    clear hb1
    go_wp2_with fail
    refine (number_any q _).mono ?_
    rintro e w2 ⟨rfl, hb2⟩
    have B2 := Lib.hid (B1.out.trans (hb2.mono B1.out.size))
    clear hb2 B1
    go_wp2_with fail
    refine (number_any q _).mono ?_
    rintro e w3 ⟨rfl, hb3⟩
    have B3 := Lib.hid (B2.out.trans (hb3.mono B2.out.size))
    clear hb3 B2
    go_wp2_with fail
    rw [← HM.out]
    refine (sum_any (keyT s q q) (by have := HS.out; rw [keyT_size]; omega) _ (HT.out.below B3.out (Nat.le_refl _))).mono ?_
    rintro e w4 ⟨rfl, hb4⟩
    have B4 := Lib.hid (B3.out.trans (hb4.mono B3.out.size))
    clear hb4 B3
    go_wp2_with fail
    go_ret
    exact ⟨rfl, B4.out⟩
  · have HM := Lib.hid (show keyT s p q = ⟨#[75]⟩ ++ txt s ++ num p ++ num q by unfold keyT; rw [Int.min_eq_left (by omega), Int.max_eq_right (by omega)])
    have h2 : ¬ 9223372036854775807 < (⟨#[75]⟩ : ByteArray).size + (txt s).size + (num p).size := by rw [txt_size, num_size, show (⟨#[75]⟩ : ByteArray).size = 1 from rfl]; have := HS.out; omega
    have h3 : ¬ 9223372036854775807 < (⟨#[75]⟩ : ByteArray).size + (txt s).size + (num p).size + (num q).size := by simp only [txt_size, num_size]; rw [show (⟨#[75]⟩ : ByteArray).size = 1 from rfl]; have := HS.out; omega
    go_enter Tryd.func8, Tryd.ntmps8
    go_wp2_with fail
    refine (end_any a w).mono ?_
    rintro e w' ⟨rfl, rfl⟩
    rw [HP.out]
    go_wp2_with fail
    refine (end_any b w).mono ?_
    rintro e w' ⟨rfl, rfl⟩
    rw [HQ.out]
    go_wp2_with fail
    refine (text_any s (by have := HS.out; omega) _).mono ?_
    rintro e w1 ⟨rfl, hb1⟩
    have B1 := Lib.hid hb1
    clear hb1
    go_wp2_with fail
    refine (number_any p _).mono ?_
    rintro e w2 ⟨rfl, hb2⟩
    have B2 := Lib.hid (B1.out.trans (hb2.mono B1.out.size))
    clear hb2 B1
    go_wp2_with fail
    refine (number_any q _).mono ?_
    rintro e w3 ⟨rfl, hb3⟩
    have B3 := Lib.hid (B2.out.trans (hb3.mono B2.out.size))
    clear hb3 B2
    go_wp2_with fail
    rw [← HM.out]
    refine (sum_any (keyT s p q) (by have := HS.out; rw [keyT_size]; omega) _ (HT.out.below B3.out (Nat.le_refl _))).mono ?_
    rintro e w4 ⟨rfl, hb4⟩
    have B4 := Lib.hid (B3.out.trans (hb4.mono B3.out.size))
    clear hb4 B3
    go_wp2_with fail
    go_ret
    exact ⟨rfl, B4.out⟩
set_option maxRecDepth 100000 in
set_option maxHeartbeats 1000000 in
theorem mtag_any (s : ByteArray) (a b : Int) (t : ByteArray) (hs : s.size ≤ 1000) (ht : t.size ≤ 100000) (w : World) (hT : Tabs w) :
    Calls Tryd.prog 10 #[.string s, .int .i64 a, .int .i64 b, .string t] w fun e w' => e = .returned (.string (tagB s (endn a) (endn b) t)) ∧ Below w.heap.size w w' := by
  have HS := Lib.hid hs
  have HL := Lib.hid ht
  have HT := Lib.hid hT
  clear hs hT ht
  go_enter Tryd.func10, Tryd.ntmps10
  go_wp2_with fail
  refine (key_any s a b HS.out w HT.out).mono ?_
  rintro e w1 ⟨rfl, hb1⟩
  have B1 := Lib.hid hb1
  clear hb1
  go_wp2_with fail
  refine (tag_ok (keyB s (endn a) (endn b)) t (by rw [keyB_size]; omega) (by have := HL.out; omega) _ (HT.out.below B1.out (Nat.le_refl _))).mono ?_
  rintro e w2 ⟨rfl, hb2⟩
  have B2 := Lib.hid (B1.out.trans (hb2.mono B1.out.size))
  clear hb2 B1
  go_wp2_with fail
  go_ret
  exact ⟨rfl, B2.out⟩
set_option maxRecDepth 100000 in
set_option maxHeartbeats 1000000 in
theorem rkey_le (s : ByteArray) (a b : Int) (hab : a ≤ b) (hs : s.size ≤ 1000) (w : World) :
    Calls Tryd.prog 9 #[.string s, .int .i64 a, .int .i64 b] w fun e w' => e = .returned (.string (keyB s a b)) ∧ Below w.heap.size w w' := by
  have h1 : ¬ 9223372036854775807 < (⟨#[75]⟩ : ByteArray).size + (txt s).size := by rw [txt_size, show (⟨#[75]⟩ : ByteArray).size = 1 from rfl]; omega
  have h2 : ¬ 9223372036854775807 < (⟨#[75]⟩ : ByteArray).size + (txt s).size + (num a).size := by rw [txt_size, num_size, show (⟨#[75]⟩ : ByteArray).size = 1 from rfl]; omega
  have h3 : ¬ 9223372036854775807 < (⟨#[75]⟩ : ByteArray).size + (txt s).size + (num a).size + (num b).size := by rw [txt_size, num_size, num_size, show (⟨#[75]⟩ : ByteArray).size = 1 from rfl]; omega
  have hn : ¬ b < a := by omega
  have HS := Lib.hid hs
  have HM := Lib.hid (show keyT s a b = ⟨#[75]⟩ ++ txt s ++ num a ++ num b by unfold keyT; rw [Int.min_eq_left hab, Int.max_eq_right hab])
  clear hs hab
  go_enter Tryd.func9, Tryd.ntmps9
  go_wp2_with fail
  refine (rtext_any s (by have := HS.out; omega) _).mono ?_
  rintro e w1 ⟨rfl, hb1⟩
  have B1 := Lib.hid hb1
  clear hb1
  go_wp2_with fail
  refine (rnumber_any _ _).mono ?_
  rintro e w2 ⟨rfl, hb2⟩
  have B2 := Lib.hid (B1.out.trans (hb2.mono B1.out.size))
  clear hb2 B1
  go_wp2_with fail
  refine (rnumber_any _ _).mono ?_
  rintro e w3 ⟨rfl, hb3⟩
  have B3 := Lib.hid (B2.out.trans (hb3.mono B2.out.size))
  clear hb3 B2
  go_wp2_with fail
  rw [← HM.out]
  refine (rsum_dg (keyT s a b) (by have := HS.out; rw [keyT_size]; omega) _).mono ?_
  rintro e w4 ⟨rfl, hb4⟩
  have B4 := Lib.hid (B3.out.trans (hb4.mono B3.out.size))
  clear hb4 B3
  go_wp2_with fail
  go_ret
  exact ⟨rfl, B4.out⟩
set_option maxRecDepth 100000 in
theorem rkey_any (s : ByteArray) (a b : Int) (hs : s.size ≤ 1000) (w : World) :
    Calls Tryd.prog 9 #[.string s, .int .i64 a, .int .i64 b] w fun e w' => e = .returned (.string (keyB s a b)) ∧ Below w.heap.size w w' := by
  by_cases h : b < a
  · rw [keyB_comm]
    have HK := Lib.hid (fun wx => rkey_le s b a (by omega) hs wx)
    clear hs
    go_enter Tryd.func9, Tryd.ntmps9
    go_wp2_with fail
    refine (HK.out _).mono ?_
    rintro e w1 ⟨rfl, hb1⟩
    go_wp2_with fail
    go_ret
    exact ⟨rfl, hb1⟩
  · exact rkey_le s a b (by omega) hs w
set_option maxRecDepth 100000 in
set_option maxHeartbeats 1000000 in
theorem rtag_any (s : ByteArray) (a b : Int) (t : ByteArray) (hs : s.size ≤ 1000) (ht : t.size ≤ 100000) (w : World) :
    Calls Tryd.prog 11 #[.string s, .int .i64 a, .int .i64 b, .string t] w fun e w' => e = .returned (.string (tagB s a b t)) ∧ Below w.heap.size w w' := by
  have HS := Lib.hid hs
  have HL := Lib.hid ht
  have HZ := Lib.hid (kdg_size (keyB s a b) t)
  clear hs ht
  go_enter Tryd.func11, Tryd.ntmps11
  go_wp2_with fail
  refine (rkey_any s a b HS.out w).mono ?_
  rintro e w1 ⟨rfl, hb1⟩
  have B1 := Lib.hid hb1
  clear hb1
  go_wp2_with fail
  refine (rsum_kdg (keyB s a b) t (by rw [keyB_size]; omega) (by have := HL.out; omega) _).mono ?_
  rintro e w2 ⟨rfl, hb2⟩
  have B2 := Lib.hid (B1.out.trans (hb2.mono B1.out.size))
  clear hb2 B1
  have hz := HZ.out
  go_wp2_with fail
  go_ret
  exact ⟨rfl, B2.out⟩
end Go.Proofs.YtfbjjlejmcpphaaDoor
