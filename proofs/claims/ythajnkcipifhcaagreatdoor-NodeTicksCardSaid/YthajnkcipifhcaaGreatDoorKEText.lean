/-
  A vote's text, and the first certificate: the code's, and the reference's.
-/
import Derived.Test.YthajnkcipifhcaaGreatDoorKRefSum
import Derived.Test.YthajnkcipifhcaaGreatDoorKFHash
import Derived.Deep.RegionHeld3
import Derived.Test.YthajnkcipifhcaaGreatDoorKWFewS
section
open Go Go.RowKit
namespace MM
open WW BB
/-- the node as which this one has its keys -/
def endn (x : Int) : Int := if x < 0 then 0 else if 20 < x then 0 else x
/-- what a key is the digest of -/
def keyT (s : ByteArray) (a b : Int) : ByteArray := ⟨#[75]⟩ ++ txt s ++ num (min a b) ++ num (max a b)
theorem keyT_size (s : ByteArray) (a b : Int) : (keyT s a b).size = 13 + s.size := by
  have h1 : (⟨#[75]⟩ : ByteArray).size = 1 := rfl
  simp only [keyT, ByteArray.size_append, num_size, txt_size, h1]; omega
/-- a key, of nodes from 0 to 20 -/
def keyB (s : ByteArray) (a b : Int) : ByteArray := dg (keyT s a b)
theorem keyB_size (s : ByteArray) (a b : Int) : (keyB s a b).size = 32 := dsize _
/-- a tag -/
def tagB (s : ByteArray) (a b : Int) (t : ByteArray) : ByteArray := (kdg (keyB s a b) t).extract 0 16
theorem tagB_size (s : ByteArray) (a b : Int) (t : ByteArray) : (tagB s a b t).size = 16 := by
  unfold tagB; rw [ByteArray.size_extract, kdg_size]; rfl
end MM
namespace Go.Proofs.YthajnkcipifhcaaGreatDoor
open MM WW BB
set_option maxRecDepth 100000 in
theorem end_any (x : Int) (w : World) :
    Calls Tryz.prog 278 #[.int .i64 x] w fun e w' => e = .returned (.int .i64 (endn x)) ∧ w = w' := by
  by_cases h0 : x < 0
  · have e : endn x = 0 := by unfold endn; rw [if_pos h0]
    rw [e]
    go_enter Tryz.func278, Tryz.ntmps278
    go_wp2_with fail
    go_ret
    exact ⟨rfl, rfl⟩
  · by_cases h1 : 20 < x
    · have e : endn x = 0 := by unfold endn; rw [if_neg h0, if_pos h1]
      rw [e]
      go_enter Tryz.func278, Tryz.ntmps278
      go_wp2_with fail
      go_ret
      exact ⟨rfl, rfl⟩
    · have e : endn x = x := by unfold endn; rw [if_neg h0, if_neg h1]
      rw [e]
      go_enter Tryz.func278, Tryz.ntmps278
      go_wp2_with fail
      go_ret
      exact ⟨rfl, rfl⟩
set_option maxRecDepth 100000 in
set_option maxHeartbeats 2000000 in
theorem key_any (s : ByteArray) (a b : Int) (hs : s.size ≤ 1000) (w : World) (hT : Tabs w) :
    Calls Tryz.prog 230 #[.string s, .int .i64 a, .int .i64 b] w fun e w' => e = .returned (.string (keyB s (endn a) (endn b))) ∧ Below w.heap.size w w' := by
  have h1 : ¬ 9223372036854775807 < (⟨#[75]⟩ : ByteArray).size + (txt s).size := by rw [txt_size, show (⟨#[75]⟩ : ByteArray).size = 1 from rfl]; omega
  have HS := Lib.hid hs
  have HT := Lib.hid hT
  obtain ⟨p, hp⟩ : ∃ p, endn a = p := ⟨_, rfl⟩
  obtain ⟨q, hq⟩ : ∃ q, endn b = q := ⟨_, rfl⟩
  have HP := Lib.hid hp
  have HQ := Lib.hid hq
  rw [hp, hq]
  clear hs hT hp hq
  rcases Int.lt_trichotomy q p with hpq | hpq | hpq
  · have HM := Lib.hid (show keyT s p q = ⟨#[75]⟩ ++ txt s ++ num q ++ num p by unfold keyT; rw [Int.min_eq_right (by omega), Int.max_eq_left (by omega)])
    have h2 : ¬ 9223372036854775807 < (⟨#[75]⟩ : ByteArray).size + (txt s).size + (num q).size := by rw [txt_size, num_size, show (⟨#[75]⟩ : ByteArray).size = 1 from rfl]; have := HS.out; omega
    have h3 : ¬ 9223372036854775807 < (⟨#[75]⟩ : ByteArray).size + (txt s).size + (num q).size + (num p).size := by rw [txt_size, num_size, num_size, show (⟨#[75]⟩ : ByteArray).size = 1 from rfl]; have := HS.out; omega
    go_enter Tryz.func230, Tryz.ntmps230
    go_wp2_with fail
    refine (end_any a w).mono ?_
    rintro e w' ⟨rfl, rfl⟩
    rw [HP.out]
    go_wp2_with fail
    refine (end_any b w).mono ?_
    rintro e w' ⟨rfl, rfl⟩
    rw [HQ.out]
    go_wp2_with fail
    refine (text_any s (by have := HS.out; omega) _).mono ?_
    rintro e w1 ⟨rfl, hb1⟩
    have B1 := Lib.hid hb1
    clear hb1
    go_wp2_with fail
    refine (number_any q _).mono ?_
    rintro e w2 ⟨rfl, hb2⟩
    have B2 := Lib.hid (B1.out.trans (hb2.mono B1.out.size))
    clear hb2 B1
    go_wp2_with fail
    refine (number_any p _).mono ?_
    rintro e w3 ⟨rfl, hb3⟩
    have B3 := Lib.hid (B2.out.trans (hb3.mono B2.out.size))
    clear hb3 B2
    go_wp2_with fail
    rw [← HM.out]
    refine (sum_any (keyT s p q) (by have := HS.out; rw [keyT_size]; omega) _ (HT.out.below B3.out (Nat.le_refl _))).mono ?_
    rintro e w4 ⟨rfl, hb4⟩
    have B4 := Lib.hid (B3.out.trans (hb4.mono B3.out.size))
    clear hb4 B3
    go_wp2_with fail
    go_ret
    exact ⟨rfl, B4.out⟩
  · subst hpq
    have HM := Lib.hid (show keyT s q q = ⟨#[75]⟩ ++ txt s ++ num q ++ num q by unfold keyT; rw [Int.min_eq_left (by omega), Int.max_eq_right (by omega)])
    have h2 : ¬ 9223372036854775807 < (⟨#[75]⟩ : ByteArray).size + (txt s).size + (num q).size := by rw [txt_size, num_size, show (⟨#[75]⟩ : ByteArray).size = 1 from rfl]; have := HS.out; omega
    have h3 : ¬ 9223372036854775807 < (⟨#[75]⟩ : ByteArray).size + (txt s).size + (num q).size + (num q).size := by simp only [txt_size, num_size]; rw [show (⟨#[75]⟩ : ByteArray).size = 1 from rfl]; have := HS.out; omega
    go_enter Tryz.func230, Tryz.ntmps230
    go_wp2_with fail
    refine (end_any a w).mono ?_
    rintro e w' ⟨rfl, rfl⟩
    rw [HP.out]
    go_wp2_with fail
    refine (end_any b w).mono ?_
    rintro e w' ⟨rfl, rfl⟩
    rw [HQ.out]
    go_wp2_with fail
    refine (text_any s (by have := HS.out; omega) _).mono ?_
    rintro e w1 ⟨rfl, hb1⟩
    have B1 := Lib.hid hb1
    clear hb1
    go_wp2_with fail
    refine (number_any q _).mono ?_
    rintro e w2 ⟨rfl, hb2⟩
    have B2 := Lib.hid (B1.out.trans (hb2.mono B1.out.size))
    clear hb2 B1
    go_wp2_with fail
    refine (number_any q _).mono ?_
    rintro e w3 ⟨rfl, hb3⟩
    have B3 := Lib.hid (B2.out.trans (hb3.mono B2.out.size))
    clear hb3 B2
    go_wp2_with fail
    rw [← HM.out]
    refine (sum_any (keyT s q q) (by have := HS.out; rw [keyT_size]; omega) _ (HT.out.below B3.out (Nat.le_refl _))).mono ?_
    rintro e w4 ⟨rfl, hb4⟩
    have B4 := Lib.hid (B3.out.trans (hb4.mono B3.out.size))
    clear hb4 B3
    go_wp2_with fail
    go_ret
    exact ⟨rfl, B4.out⟩
  · have HM := Lib.hid (show keyT s p q = ⟨#[75]⟩ ++ txt s ++ num p ++ num q by unfold keyT; rw [Int.min_eq_left (by omega), Int.max_eq_right (by omega)])
    have h2 : ¬ 9223372036854775807 < (⟨#[75]⟩ : ByteArray).size + (txt s).size + (num p).size := by rw [txt_size, num_size, show (⟨#[75]⟩ : ByteArray).size = 1 from rfl]; have := HS.out; omega
    have h3 : ¬ 9223372036854775807 < (⟨#[75]⟩ : ByteArray).size + (txt s).size + (num p).size + (num q).size := by simp only [txt_size, num_size]; rw [show (⟨#[75]⟩ : ByteArray).size = 1 from rfl]; have := HS.out; omega
    go_enter Tryz.func230, Tryz.ntmps230
    go_wp2_with fail
    refine (end_any a w).mono ?_
    rintro e w' ⟨rfl, rfl⟩
    rw [HP.out]
    go_wp2_with fail
    refine (end_any b w).mono ?_
    rintro e w' ⟨rfl, rfl⟩
    rw [HQ.out]
    go_wp2_with fail
    refine (text_any s (by have := HS.out; omega) _).mono ?_
    rintro e w1 ⟨rfl, hb1⟩
    have B1 := Lib.hid hb1
    clear hb1
    go_wp2_with fail
    refine (number_any p _).mono ?_
    rintro e w2 ⟨rfl, hb2⟩
    have B2 := Lib.hid (B1.out.trans (hb2.mono B1.out.size))
    clear hb2 B1
    go_wp2_with fail
    refine (number_any q _).mono ?_
    rintro e w3 ⟨rfl, hb3⟩
    have B3 := Lib.hid (B2.out.trans (hb3.mono B2.out.size))
    clear hb3 B2
    go_wp2_with fail
    rw [← HM.out]
    refine (sum_any (keyT s p q) (by have := HS.out; rw [keyT_size]; omega) _ (HT.out.below B3.out (Nat.le_refl _))).mono ?_
    rintro e w4 ⟨rfl, hb4⟩
    have B4 := Lib.hid (B3.out.trans (hb4.mono B3.out.size))
    clear hb4 B3
    go_wp2_with fail
    go_ret
    exact ⟨rfl, B4.out⟩
set_option maxRecDepth 100000 in
set_option maxHeartbeats 1000000 in
theorem mtag_any (s : ByteArray) (a b : Int) (t : ByteArray) (hs : s.size ≤ 1000) (ht : t.size ≤ 100000) (w : World) (hT : Tabs w) :
    Calls Tryz.prog 168 #[.string s, .int .i64 a, .int .i64 b, .string t] w fun e w' => e = .returned (.string (tagB s (endn a) (endn b) t)) ∧ Below w.heap.size w w' := by
  have HS := Lib.hid hs
  have HL := Lib.hid ht
  have HT := Lib.hid hT
  clear hs hT ht
  go_enter Tryz.func168, Tryz.ntmps168
  go_wp2_with fail
  refine (key_any s a b HS.out w HT.out).mono ?_
  rintro e w1 ⟨rfl, hb1⟩
  have B1 := Lib.hid hb1
  clear hb1
  go_wp2_with fail
  refine (tag_ok (keyB s (endn a) (endn b)) t (by rw [keyB_size]; omega) (by have := HL.out; omega) _ (HT.out.below B1.out (Nat.le_refl _))).mono ?_
  rintro e w2 ⟨rfl, hb2⟩
  have B2 := Lib.hid (B1.out.trans (hb2.mono B1.out.size))
  clear hb2 B1
  go_wp2_with fail
  go_ret
  exact ⟨rfl, B2.out⟩
end Go.Proofs.YthajnkcipifhcaaGreatDoor
end
section
open Go Go.RowKit
namespace CC
open MM WW BB
/-- a vote's text -/
def textB (v : Int) (k : ByteArray) : ByteArray := ⟨#[86]⟩ ++ num v ++ k
/-- the first block's digest -/
def firstD : ByteArray := dg ⟨#[102, 105, 114, 115, 116]⟩
theorem firstD_size : firstD.size = 32 := dsize _
/-- the cells of a certificate -/
def cC (v : Value) (k : ByteArray) (s : Value) : Nat → Value := fun i => if i = 0 then v else if i = 1 then .string k else s
theorem cC_row (v : Value) (k : ByteArray) (s : Value) : #[v, .string k, s] = row 3 (cC v k s) := by rfl
end CC
namespace Go.Proofs.YthajnkcipifhcaaGreatDoor
open CC MM WW BB
set_option maxRecDepth 100000 in
set_option maxHeartbeats 1000000 in
theorem first_any (w : World) (hT : Tabs w) : Calls Tryz.prog 37 #[] w fun e w' => e = .returned (.agg #[.int .i64 0, .string firstD, .slice none 0 0]) ∧ Below w.heap.size w w' := by
  have HT := Lib.hid hT
  clear hT
  go_enter Tryz.func37, Tryz.ntmps37
  go_wp2_with fail
  obtain ⟨a, ha⟩ : ∃ a, w.heap.size = a := ⟨_, rfl⟩
  have k0 : Blk (w.alloc (.cells #[.int .i64 0, .string ⟨#[]⟩, .slice none 0 0] 33)) a 3 (cC (.int .i64 0) ⟨#[]⟩ (.slice none 0 0)) := Blk.new' ha.symm (cC_row _ _ _)
  have b0 := (Below.refl w.heap.size w).alloc (Nat.le_refl _) (.cells #[.int .i64 0, .string ⟨#[]⟩, .slice none 0 0] 33)
  have HT1 := Lib.hid (HT.out.below b0 (Nat.le_refl _))
  rw [ha] at b0 ⊢
  have HAA := Lib.hid ha
  clear ha
  generalize w.alloc (.cells #[.int .i64 0, .string ⟨#[]⟩, .slice none 0 0] 33) = w1 at *
  refine (sum_any ⟨#[102, 105, 114, 115, 116]⟩ (by decide) w1 HT1.out).mono ?_
  rintro e w2 ⟨rfl, hb2⟩
  have B2 := Lib.hid (b0.trans (hb2.mono (Nat.le_of_lt k0.lt)))
  have K2 := Lib.hid (k0.below hb2 k0.lt)
  clear b0 k0 hb2
  have c0 : w2.cell? ⟨a, 0, none⟩ = some (.int .i64 0) := K2.out.get 0 (by omega)
  have g0 := K2.out.frz 0
  have c1 : w2.cell? ⟨a, 1, none⟩ = some (.string ⟨#[]⟩) := K2.out.get 1 (by omega)
  have g1 := K2.out.frz 1
  have c2 : w2.cell? ⟨a, 2, none⟩ = some (.slice none 0 0) := K2.out.get 2 (by omega)
  have g2 := K2.out.frz 2
  go_wp2_with fail
  have k3 := ((K2.out.set 0 (.int .i64 0)).set 1 (.string firstD)).set 2 (.slice none 0 0)
  have q0 := k3.get 0 (by omega)
  have q1 := k3.get 1 (by omega)
  have q2 := k3.get 2 (by omega)
  rw [show put (put (put (cC (.int .i64 0) ⟨#[]⟩ (.slice none 0 0)) 0 (.int .i64 0)) 1 (.string firstD)) 2 (.slice none 0 0) 0 = .int .i64 0 from rfl] at q0
  rw [show put (put (put (cC (.int .i64 0) ⟨#[]⟩ (.slice none 0 0)) 0 (.int .i64 0)) 1 (.string firstD)) 2 (.slice none 0 0) 1 = .string firstD from rfl] at q1
  rw [show put (put (put (cC (.int .i64 0) ⟨#[]⟩ (.slice none 0 0)) 0 (.int .i64 0)) 1 (.string firstD)) 2 (.slice none 0 0) 2 = .slice none 0 0 from rfl] at q2
  unfold firstD at q0 q1 q2 ⊢
  refine bodyPost_ret (v := .agg #[.int .i64 0, .string (dg ⟨#[102, 105, 114, 115, 116]⟩), .slice none 0 0]) (by simp [results, Tryz.results37, go_sem, q0, q1, q2]) rfl ⟨rfl, ?_⟩
  rw [HAA.out]
  exact B2.out.trans ((((Upd.set _ _ _ _).trans (Upd.set _ _ _ _)).trans (Upd.set _ _ _ _)).below (Nat.le_refl _))
end Go.Proofs.YthajnkcipifhcaaGreatDoor
end
