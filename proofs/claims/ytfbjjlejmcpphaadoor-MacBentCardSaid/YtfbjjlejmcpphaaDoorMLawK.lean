/-
  The walk of the law MacKeys.
-/
import Derived.Test.YtfbjjlejmcpphaaDoorMSign
open Go Go.RowKit
namespace MM
open WW BB
/-- p is the node as which x has its keys -/
def EndC (x p : Int) : Prop := (x < 0 ∧ 0 = p) ∨ (¬ x < 0 ∧ 20 < x ∧ 0 = p) ∨ (¬ x < 0 ∧ ¬ 20 < x ∧ x = p)
theorem endC_of (x p : Int) (h : endn x = p) : EndC x p := by
  unfold EndC
  unfold endn at h
  by_cases h0 : x < 0
  · rw [if_pos h0] at h; exact Or.inl ⟨h0, h⟩
  · rw [if_neg h0] at h
    by_cases h1 : 20 < x
    · rw [if_pos h1] at h; exact Or.inr (Or.inl ⟨h0, h1, h⟩)
    · rw [if_neg h1] at h; exact Or.inr (Or.inr ⟨h0, h1, h⟩)
end MM
namespace Go.Proofs.YtfbjjlejmcpphaaDoor
open MM WW BB
theorem key_is (s : ByteArray) (a b : Int) (K : ByteArray) (hk : keyB s (endn a) (endn b) = K) (hs : s.size ≤ 1000) (w : World) (hT : Tabs w) :
    Calls Tryd.prog 8 #[.string s, .int .i64 a, .int .i64 b] w fun e w' => e = .returned (.string K) ∧ Below w.heap.size w w' := hk ▸ key_any s a b hs w hT
theorem rkey_is (s : ByteArray) (a b : Int) (K : ByteArray) (hk : keyB s a b = K) (hs : s.size ≤ 1000) (w : World) :
    Calls Tryd.prog 9 #[.string s, .int .i64 a, .int .i64 b] w fun e w' => e = .returned (.string K) ∧ Below w.heap.size w w' := hk ▸ rkey_any s a b hs w
theorem mtag_is (s : ByteArray) (a b : Int) (t G : ByteArray) (hk : tagB s (endn a) (endn b) t = G) (hs : s.size ≤ 1000) (ht : t.size ≤ 100000) (w : World) (hT : Tabs w) :
    Calls Tryd.prog 10 #[.string s, .int .i64 a, .int .i64 b, .string t] w fun e w' => e = .returned (.string G) ∧ Below w.heap.size w w' := hk ▸ mtag_any s a b t hs ht w hT
theorem rtag_is (s : ByteArray) (a b : Int) (t G : ByteArray) (hk : tagB s a b t = G) (hs : s.size ≤ 1000) (ht : t.size ≤ 100000) (w : World) :
    Calls Tryd.prog 11 #[.string s, .int .i64 a, .int .i64 b, .string t] w fun e w' => e = .returned (.string G) ∧ Below w.heap.size w w' := hk ▸ rtag_any s a b t hs ht w
set_option maxRecDepth 100000 in
set_option maxHeartbeats 1000000 in
theorem awake3_any (w : World) : Calls Tryd.prog 7 #[] w fun e w' => e = .returned (.bool true) ∧ Below w.heap.size w w' := by
  go_enter Tryd.func7, Tryd.ntmps7
  go_wp2_with fail
  refine (sign_err ⟨#[]⟩ 0 0 ⟨#[]⟩ (by decide) w).mono ?_
  rintro e w1 ⟨rfl, hb1⟩
  have B1 := Lib.hid hb1
  clear hb1
  go_wp2_with fail
  refine (nodes_any 4 _).mono ?_
  rintro e w2 ⟨rfl, rfl⟩
  have e4 : nodesB 4 = true := by decide
  rw [e4]
  go_wp2_with fail
  go_ret
  have hz := B1.out.size
  refine ⟨rfl, ?_⟩
  exact B1.out.alloc hz _
set_option maxRecDepth 100000 in
set_option maxHeartbeats 4000000 in
theorem mkeys_in (s t : ByteArray) (a b : Int) (hs : s.size ≤ 100) (ht : t.size ≤ 100) (w : World) (hT : Tabs w) :
    Calls Tryd.prog 3 #[.string s, .string t, .agg #[.int .i64 a, .int .i64 b]] w fun e w' => e = .returned (.bool true) ∧ Below w.heap.size w w' := by
  have t1 : ¬ (100 : Int) < (s.size : Int) := by omega
  have t2 : ¬ (100 : Int) < (t.size : Int) := by omega
  obtain ⟨p, hp⟩ : ∃ p, endn a = p := ⟨_, rfl⟩
  obtain ⟨q, hq⟩ : ∃ q, endn b = q := ⟨_, rfl⟩
  have CP := Lib.hid (endC_of a p hp)
  have CQ := Lib.hid (endC_of b q hq)
  obtain ⟨K, hK⟩ : ∃ K, keyB s p q = K := ⟨_, rfl⟩
  obtain ⟨G, hG⟩ : ∃ G, tagB s p q t = G := ⟨_, rfl⟩
  have K1 := Lib.hid (show keyB s (endn a) (endn b) = K by rw [hp, hq, hK])
  have K2 := Lib.hid (show keyB s (endn b) (endn a) = K by rw [hp, hq, keyB_comm, hK])
  have K3 := Lib.hid hK
  have G1 := Lib.hid (show tagB s (endn a) (endn b) t = G by rw [hp, hq, hG])
  have G3 := Lib.hid hG
  have HS := Lib.hid (show s.size ≤ 1000 by omega)
  have HL := Lib.hid (show t.size ≤ 100000 by omega)
  have HT := Lib.hid hT
  clear hs ht hp hq hK hG hT
  go_enter Tryd.func3, Tryd.ntmps3
  go_wp2_with fail
  have X0 := Lib.hid (box_mk w [.int .i64 a, .int .i64 b] 22)
  obtain ⟨g, hg⟩ : ∃ g, w.heap.size = g := ⟨_, rfl⟩
  rw [hg] at X0
  have HG := Lib.hid hg
  rw [hg]
  clear hg
  generalize w.alloc (.cells #[.int .i64 a, .int .i64 b] 22) = w0 at *
  refine (awake3_any w0).mono ?_
  rintro e w1 ⟨rfl, hb1⟩
  have X1 := Lib.hid (X0.out.on hb1)
  clear X0 hb1
  have c0 := X1.out.cell 0 _ rfl
  have c1 := X1.out.cell 1 _ rfl
  go_wp2_with fail
  go_quiet (fail)
  have X2 : ∀ m, Hid (BoxAt w g [.int .i64 a, .int .i64 b] (w1.drewN m)) := fun m => Lib.hid (X1.out.on (below_drewN (Below.refl _ _) m))
  clear X1
  rcases CP.out with ⟨x1, x0⟩ | ⟨x1, x2, x0⟩ | ⟨x1, x2, x0⟩
  all_goals
    subst x0
    rcases CQ.out with ⟨y1, y0⟩ | ⟨y1, y2, y0⟩ | ⟨y1, y2, y0⟩
    all_goals
      subst y0
      clear CP CQ
      go_wp2_with fail
      refine (key_is s a b K K1.out HS.out _ (HT.out.below (X2 _).out.below (Nat.le_refl _))).mono ?_
      rintro e w2 ⟨rfl, hb2⟩
      have X3 := Lib.hid ((X2 _).out.on hb2)
      clear hb2 c0 c1
      have c0 := X3.out.cell 0 _ rfl
      have c1 := X3.out.cell 1 _ rfl
      go_wp2_with fail
      refine (rkey_is s _ _ K K3.out HS.out _).mono ?_
      rintro e w3 ⟨rfl, hb3⟩
      have X4 := Lib.hid (X3.out.on hb3)
      clear hb3 c0 c1 X3
      have c0 := X4.out.cell 0 _ rfl
      have c1 := X4.out.cell 1 _ rfl
      go_wp2_with fail
      refine (key_is s b a K K2.out HS.out _ (HT.out.below X4.out.below (Nat.le_refl _))).mono ?_
      rintro e w4 ⟨rfl, hb4⟩
      have X5 := Lib.hid (X4.out.on hb4)
      clear hb4 c0 c1 X4
      have c0 := X5.out.cell 0 _ rfl
      have c1 := X5.out.cell 1 _ rfl
      go_wp2_with fail
      refine (mtag_is s a b t G G1.out HS.out HL.out _ (HT.out.below X5.out.below (Nat.le_refl _))).mono ?_
      rintro e w5 ⟨rfl, hb5⟩
      have X6 := Lib.hid (X5.out.on hb5)
      clear hb5 c0 c1 X5
      go_wp2_with fail
      refine (rtag_is s _ _ t G G3.out HS.out HL.out _).mono ?_
      rintro e w6 ⟨rfl, hb6⟩
      have X7 := Lib.hid (X6.out.on hb6)
      clear hb6 X6
      go_wp2_with fail
      go_ret
      exact ⟨rfl, X7.out.below⟩
set_option maxRecDepth 100000 in
set_option maxHeartbeats 1000000 in
theorem mkeys_walk (s t : ByteArray) (a b : Int) (w : World) (hT : Tabs w) :
    Calls Tryd.prog 3 #[.string s, .string t, .agg #[.int .i64 a, .int .i64 b]] w fun e w' => e = .returned (.bool true) ∧ Below w.heap.size w w' := by
  by_cases hs : s.size ≤ 100
  · by_cases ht : t.size ≤ 100
    · exact mkeys_in s t a b hs ht w hT
    · have t1 : ¬ (100 : Int) < (s.size : Int) := by omega
      have t2 : (100 : Int) < (t.size : Int) := by omega
      clear hs ht hT
      go_enter Tryd.func3, Tryd.ntmps3
      go_wp2_with fail
      have B0 := Lib.hid ((Below.refl w.heap.size w).alloc (Nat.le_refl _) (.cells #[.int .i64 a, .int .i64 b] 22))
      generalize w.alloc (.cells #[.int .i64 a, .int .i64 b] 22) = w0 at *
      refine (awake3_any w0).mono ?_
      rintro e w1 ⟨rfl, hb1⟩
      have B1 := Lib.hid (B0.out.trans (hb1.mono B0.out.size))
      clear hb1 B0
      go_wp2_with fail
      refine (awake3_any w1).mono ?_
      rintro e w2 ⟨rfl, hb2⟩
      have B2 := Lib.hid (B1.out.trans (hb2.mono B1.out.size))
      clear hb2 B1
      go_wp2_with fail
      go_ret
      exact ⟨rfl, B2.out⟩
  · have t1 : (100 : Int) < (s.size : Int) := by omega
    clear hs hT
    go_enter Tryd.func3, Tryd.ntmps3
    go_wp2_with fail
    have B0 := Lib.hid ((Below.refl w.heap.size w).alloc (Nat.le_refl _) (.cells #[.int .i64 a, .int .i64 b] 22))
    generalize w.alloc (.cells #[.int .i64 a, .int .i64 b] 22) = w0 at *
    refine (awake3_any w0).mono ?_
    rintro e w1 ⟨rfl, hb1⟩
    have B1 := Lib.hid (B0.out.trans (hb1.mono B0.out.size))
    clear hb1 B0
    go_wp2_with fail
    refine (awake3_any w1).mono ?_
    rintro e w2 ⟨rfl, hb2⟩
    have B2 := Lib.hid (B1.out.trans (hb2.mono B1.out.size))
    clear hb2 B1
    go_wp2_with fail
    go_ret
    exact ⟨rfl, B2.out⟩
end Go.Proofs.YtfbjjlejmcpphaaDoor
