/-
  The walk of the law WireRequests.
-/
import Derived.Test.YtbeodmijjanmeaaWReqMath2
open Go Go.RowKit
namespace WW
open BB
/-- a request that isn't right, by the first thing that is wrong -/
def WrongR (c q : Int) (s : ByteArray) : Prop := c < 0 ∨ 0 ≤ c ∧ (4 ≤ c ∨ c < 4 ∧ (q < 1 ∨ 1 ≤ q ∧ (2147483647 < q ∨ q ≤ 2147483647 ∧ (40 : Int) < (s.size : Int))))
theorem wrong_of {c q : Int} {s : ByteArray} (h : ¬ rightR c q s) : WrongR c q s := by unfold rightR at h; unfold WrongR; omega
/-- a request in block g, and what was as it was -/
structure Req1 (w0 : World) (g : Nat) (c q : Int) (s : ByteArray) (w : World) : Prop where
  below : Below w0.heap.size w0 w
  lt : g < w.heap.size
  cells : w.cell? ⟨g, 0, none⟩ = some (.int .i64 c) ∧ w.cell? ⟨g, 1, none⟩ = some (.int .i64 q) ∧ w.cell? ⟨g, 2, none⟩ = some (.string s)
theorem req1_mk (w : World) (c q : Int) (s : ByteArray) (t : TypeId) : Req1 w w.heap.size c q s (w.alloc (.cells #[.int .i64 c, .int .i64 q, .string s] t)) :=
  ⟨(Below.refl _ _).alloc (Nat.le_refl _) _, by simp, cell_new _ _ _ _ _ rfl, cell_new _ _ _ _ _ rfl, cell_new _ _ _ _ _ rfl⟩
theorem Req1.on {w0 w w' : World} {g : Nat} {c q : Int} {s : ByteArray} (h : Req1 w0 g c q s w) (hb : Below w.heap.size w w') : Req1 w0 g c q s w' :=
  ⟨h.below.trans (hb.mono h.below.size), Nat.lt_of_lt_of_le h.lt hb.size, (hb.cell (p := ⟨g, 0, none⟩) h.lt).trans h.cells.1, (hb.cell (p := ⟨g, 1, none⟩) h.lt).trans h.cells.2.1, (hb.cell (p := ⟨g, 2, none⟩) h.lt).trans h.cells.2.2⟩
end WW
namespace Go.Proofs.Ytbeodmijjanmeaa
open WW BB
set_option maxRecDepth 100000 in
set_option maxHeartbeats 1000000 in
theorem right_yes (c q : Int) (s : ByteArray) (h : rightR c q s) (w : World) :
    Calls Try.prog 21 #[.agg #[.int .i64 c, .int .i64 q, .string s]] w fun e w' => e = .returned (.bool true) ∧ Below w.heap.size w w' := by
  obtain ⟨h1, h2, h3, h4, h5⟩ := h
  have h5 : (s.size : Int) ≤ 40 := by omega
  go_enter Try.func21, Try.ntmps21
  go_wp2_with fail
  go_ret
  exact ⟨rfl, (Below.refl _ _).alloc (Nat.le_refl _) _⟩
set_option maxRecDepth 100000 in
set_option maxHeartbeats 1000000 in
theorem right_no (c q : Int) (s : ByteArray) (h : WrongR c q s) (w : World) :
    Calls Try.prog 21 #[.agg #[.int .i64 c, .int .i64 q, .string s]] w fun e w' => e = .returned (.bool false) ∧ Below w.heap.size w w' := by
  rcases h with h1 | ⟨h1, h2 | ⟨h2, h3 | ⟨h3, h4 | ⟨h4, h5⟩⟩⟩⟩
  all_goals
    go_enter Try.func21, Try.ntmps21
    go_wp2_with fail
    go_ret
    exact ⟨by first | rfl | (show Ending.returned (.bool (decide ((s.size : Int) ≤ 40))) = _; rw [decide_eq_false (by omega)]), (Below.refl _ _).alloc (Nat.le_refl _) _⟩
set_option maxRecDepth 100000 in
set_option maxHeartbeats 2000000 in
theorem requests_long (c q : Int) (s : ByteArray) (h : 60 < s.size) (w : World) :
    Calls Try.prog 5 #[.agg #[.int .i64 c, .int .i64 q, .string s]] w fun e w' => e = .returned (.bool true) ∧ Below w.heap.size w w' := by
  have h1 : (60 : Int) < (s.size : Int) := by omega
  clear h
  go_enter Try.func5, Try.ntmps5
  go_wp2_with fail
  have c2 := cell_new w #[.int .i64 c, .int .i64 q, .string s] 34 2 _ rfl
  have b0 : Below w.heap.size w (w.alloc (.cells #[.int .i64 c, .int .i64 q, .string s] 34)) := (Below.refl _ _).alloc (Nat.le_refl _) _
  generalize w.alloc (.cells #[.int .i64 c, .int .i64 q, .string s] 34) = w0 at *
  refine (awake_any _).mono ?_
  rintro e w1 ⟨rfl, hb1⟩
  have c21 := (hb1.cell (p := ⟨w.heap.size, 2, none⟩) (World.block_lt_of_cell? w0 _ c2)).trans c2
  have B1 := Lib.hid (b0.trans (hb1.mono b0.size))
  clear c2 b0 hb1
  go_wp2_with fail
  refine (awake_any _).mono ?_
  rintro e w2 ⟨rfl, hb2⟩
  have B2 := Lib.hid (B1.out.trans (hb2.mono B1.out.size))
  clear hb2
  go_wp2_with fail
  go_ret
  exact ⟨rfl, B2.out⟩
set_option maxRecDepth 100000 in
set_option maxHeartbeats 4000000 in
theorem requests_right (c q : Nat) (s : ByteArray) (hs : s.size ≤ 60) (hr : rightR c q s) (w : World) :
    Calls Try.prog 5 #[.agg #[.int .i64 c, .int .i64 q, .string s]] w fun e w' => e = .returned (.bool true) ∧ Below w.heap.size w w' := by
  have h1 : ¬ (60 : Int) < (s.size : Int) := by omega
  have HS := Lib.hid hs
  have HR := Lib.hid hr
  clear hs hr
  go_enter Try.func5, Try.ntmps5
  go_wp2_with fail
  have K0 : Hid (Req1 w w.heap.size c q s (w.alloc (.cells #[.int .i64 c, .int .i64 q, .string s] 34))) := Lib.hid (req1_mk w c q s _)
  generalize w.alloc (.cells #[.int .i64 c, .int .i64 q, .string s] 34) = w0 at *
  obtain ⟨g, hg⟩ : ∃ g, w.heap.size = g := ⟨_, rfl⟩
  rw [hg] at K0 ⊢
  have HG := Lib.hid hg
  clear hg
  refine (awake_any _).mono ?_
  rintro e w1 ⟨rfl, hb1⟩
  have K1 := Lib.hid (K0.out.on hb1)
  clear hb1 K0
  obtain ⟨c0, c1, c2⟩ := K1.out.cells
  go_wp2_with fail
  clear c0 c1 c2
  refine (request_any c q s (by have := HS.out; omega) _).mono ?_
  rintro e w2 ⟨rfl, hb2⟩
  have K2 := Lib.hid (K1.out.on hb2)
  clear hb2 K1
  go_wp2_with fail
  refine (readreq_any (reqB c q s) (by rw [reqB_size]; have := HS.out; omega) _).mono ?_
  rintro e w3 ⟨rfl, hb3⟩
  have K3 := Lib.hid (K2.out.on hb3)
  clear hb3 K2
  rw [reqRd_put c q s HR.out]
  unfold reqAns
  have KA := Lib.hid (K3.out.on ((Below.refl _ _).alloc (Nat.le_refl _) (.cells #[.int .i64 c, .int .i64 q, .string s] 34)))
  have YA := Lib.hid (req1_mk w3 c q s 34)
  obtain ⟨c0, c1, c2⟩ := KA.out.cells
  go_wp2_with fail
  clear c0 c1 c2
  generalize w3.alloc (.cells #[.int .i64 c, .int .i64 q, .string s] 34) = w4 at *
  generalize w3.heap.size = y at *
  refine (rrequest_any c q s (by have := HS.out; omega) _).mono ?_
  rintro e w5 ⟨rfl, hb5⟩
  have K5 := Lib.hid (KA.out.on hb5)
  have Y5 := Lib.hid (YA.out.on hb5)
  clear hb5 KA YA
  obtain ⟨c0, c1, c2⟩ := K5.out.cells
  go_wp2_with fail
  clear c0 c1 c2
  refine (right_yes c q s HR.out _).mono ?_
  rintro e w6 ⟨rfl, hb6⟩
  have K6 := Lib.hid (K5.out.on hb6)
  have Y6 := Lib.hid (Y5.out.on hb6)
  clear hb6 K5 Y5
  obtain ⟨c0, c1, c2⟩ := K6.out.cells
  obtain ⟨y0, y1, y2⟩ := Y6.out.cells
  go_wp2_with fail
  go_ret
  exact ⟨rfl, K6.out.below⟩
set_option maxRecDepth 100000 in
set_option maxHeartbeats 4000000 in
theorem requests_none (c q : Int) (s : ByteArray) (hs : s.size ≤ 60) (hr : WrongR c q s) (hn : reqRd (reqB c q s) = none) (w : World) :
    Calls Try.prog 5 #[.agg #[.int .i64 c, .int .i64 q, .string s]] w fun e w' => e = .returned (.bool true) ∧ Below w.heap.size w w' := by
  have h1 : ¬ (60 : Int) < (s.size : Int) := by omega
  have HS := Lib.hid hs
  have HR := Lib.hid hr
  have HN := Lib.hid hn
  clear hs hr hn
  go_enter Try.func5, Try.ntmps5
  go_wp2_with fail
  have K0 : Hid (Req1 w w.heap.size c q s (w.alloc (.cells #[.int .i64 c, .int .i64 q, .string s] 34))) := Lib.hid (req1_mk w c q s _)
  generalize w.alloc (.cells #[.int .i64 c, .int .i64 q, .string s] 34) = w0 at *
  obtain ⟨g, hg⟩ : ∃ g, w.heap.size = g := ⟨_, rfl⟩
  rw [hg] at K0 ⊢
  have HG := Lib.hid hg
  clear hg
  refine (awake_any _).mono ?_
  rintro e w1 ⟨rfl, hb1⟩
  have K1 := Lib.hid (K0.out.on hb1)
  clear hb1 K0
  obtain ⟨c0, c1, c2⟩ := K1.out.cells
  go_wp2_with fail
  clear c0 c1 c2
  refine (request_any c q s (by have := HS.out; omega) _).mono ?_
  rintro e w2 ⟨rfl, hb2⟩
  have K2 := Lib.hid (K1.out.on hb2)
  clear hb2 K1
  go_wp2_with fail
  refine (readreq_any (reqB c q s) (by rw [reqB_size]; have := HS.out; omega) _).mono ?_
  rintro e w3 ⟨rfl, hb3⟩
  have K3 := Lib.hid (K2.out.on hb3)
  clear hb3 K2
  rw [HN.out]
  unfold reqAns
  have KA := Lib.hid (K3.out.on ((Below.refl _ _).alloc (Nat.le_refl _) (.cells #[.int .i64 0, .int .i64 0, .string ⟨#[]⟩] 34)))
  have YA := Lib.hid (req1_mk w3 0 0 ⟨#[]⟩ 34)
  obtain ⟨c0, c1, c2⟩ := KA.out.cells
  go_wp2_with fail
  clear c0 c1 c2
  generalize w3.alloc (.cells #[.int .i64 0, .int .i64 0, .string ⟨#[]⟩] 34) = w4 at *
  generalize w3.heap.size = y at *
  refine (rrequest_any c q s (by have := HS.out; omega) _).mono ?_
  rintro e w5 ⟨rfl, hb5⟩
  have K5 := Lib.hid (KA.out.on hb5)
  have Y5 := Lib.hid (YA.out.on hb5)
  clear hb5 KA YA
  obtain ⟨c0, c1, c2⟩ := K5.out.cells
  go_wp2_with fail
  clear c0 c1 c2
  refine (right_no c q s HR.out _).mono ?_
  rintro e w6 ⟨rfl, hb6⟩
  have K6 := Lib.hid (K5.out.on hb6)
  have Y6 := Lib.hid (Y5.out.on hb6)
  clear hb6 K5 Y5
  obtain ⟨c0, c1, c2⟩ := K6.out.cells
  obtain ⟨y0, y1, y2⟩ := Y6.out.cells
  go_wp2_with fail
  go_ret
  exact ⟨rfl, K6.out.below⟩
set_option maxRecDepth 100000 in
set_option maxHeartbeats 4000000 in
theorem requests_some (c q : Int) (s : ByteArray) (hs : s.size ≤ 60) (hr : WrongR c q s) (c' q' : Nat) (s' : ByteArray) (hn : reqRd (reqB c q s) = some (c', q', s')) (hr' : rightR c' q' s') (he : reqB c' q' s' = reqB c q s) (w : World) :
    Calls Try.prog 5 #[.agg #[.int .i64 c, .int .i64 q, .string s]] w fun e w' => e = .returned (.bool true) ∧ Below w.heap.size w w' := by
  have h1 : ¬ (60 : Int) < (s.size : Int) := by omega
  have HS := Lib.hid hs
  have HR := Lib.hid hr
  have HN := Lib.hid hn
  have HR' := Lib.hid hr'
  have HE := Lib.hid he
  clear hs hr hn hr' he
  go_enter Try.func5, Try.ntmps5
  go_wp2_with fail
  have K0 : Hid (Req1 w w.heap.size c q s (w.alloc (.cells #[.int .i64 c, .int .i64 q, .string s] 34))) := Lib.hid (req1_mk w c q s _)
  generalize w.alloc (.cells #[.int .i64 c, .int .i64 q, .string s] 34) = w0 at *
  obtain ⟨g, hg⟩ : ∃ g, w.heap.size = g := ⟨_, rfl⟩
  rw [hg] at K0 ⊢
  have HG := Lib.hid hg
  clear hg
  refine (awake_any _).mono ?_
  rintro e w1 ⟨rfl, hb1⟩
  have K1 := Lib.hid (K0.out.on hb1)
  clear hb1 K0
  obtain ⟨c0, c1, c2⟩ := K1.out.cells
  go_wp2_with fail
  clear c0 c1 c2
  refine (request_any c q s (by have := HS.out; omega) _).mono ?_
  rintro e w2 ⟨rfl, hb2⟩
  have K2 := Lib.hid (K1.out.on hb2)
  clear hb2 K1
  go_wp2_with fail
  refine (readreq_any (reqB c q s) (by rw [reqB_size]; have := HS.out; omega) _).mono ?_
  rintro e w3 ⟨rfl, hb3⟩
  have K3 := Lib.hid (K2.out.on hb3)
  clear hb3 K2
  rw [HN.out]
  unfold reqAns
  have KA := Lib.hid (K3.out.on ((Below.refl _ _).alloc (Nat.le_refl _) (.cells #[.int .i64 c', .int .i64 q', .string s'] 34)))
  have YA := Lib.hid (req1_mk w3 c' q' s' 34)
  obtain ⟨c0, c1, c2⟩ := KA.out.cells
  go_wp2_with fail
  clear c0 c1 c2
  generalize w3.alloc (.cells #[.int .i64 c', .int .i64 q', .string s'] 34) = w4 at *
  generalize w3.heap.size = y at *
  refine (rrequest_any c q s (by have := HS.out; omega) _).mono ?_
  rintro e w5 ⟨rfl, hb5⟩
  have K5 := Lib.hid (KA.out.on hb5)
  have Y5 := Lib.hid (YA.out.on hb5)
  clear hb5 KA YA
  obtain ⟨c0, c1, c2⟩ := K5.out.cells
  go_wp2_with fail
  clear c0 c1 c2
  refine (right_no c q s HR.out _).mono ?_
  rintro e w6 ⟨rfl, hb6⟩
  have K6 := Lib.hid (K5.out.on hb6)
  have Y6 := Lib.hid (Y5.out.on hb6)
  clear hb6 K5 Y5
  obtain ⟨c0, c1, c2⟩ := K6.out.cells
  obtain ⟨y0, y1, y2⟩ := Y6.out.cells
  go_wp2_with fail
  clear c0 c1 c2 y0 y1 y2
  refine (right_yes c' q' s' HR'.out _).mono ?_
  rintro e w7 ⟨rfl, hb7⟩
  have K7 := Lib.hid (K6.out.on hb7)
  have Y7 := Lib.hid (Y6.out.on hb7)
  clear hb7 K6 Y6
  obtain ⟨y0, y1, y2⟩ := Y7.out.cells
  go_wp2_with fail
  clear y0 y1 y2
  refine (rrequest_any c' q' s' (by have := HR'.out.2.2.2.2; omega) _).mono ?_
  rintro e w8 ⟨rfl, hb8⟩
  have K8 := Lib.hid (K7.out.on hb8)
  clear hb8 K7 Y7
  rw [HE.out]
  go_wp2_with fail
  go_ret
  exact ⟨rfl, K8.out.below⟩
theorem requests_walk (c q : Int) (s : ByteArray) (w : World) :
    Calls Try.prog 5 #[.agg #[.int .i64 c, .int .i64 q, .string s]] w fun e w' => e = .returned (.bool true) ∧ Below w.heap.size w w' := by
  by_cases hs : s.size ≤ 60
  · by_cases hr : rightR c q s
    · obtain ⟨x, rfl⟩ := Int.eq_ofNat_of_zero_le hr.1
      obtain ⟨y, rfl⟩ := Int.eq_ofNat_of_zero_le (show 0 ≤ q from Int.le_trans (by decide) hr.2.2.1)
      exact requests_right x y s hs hr w
    · have hw := wrong_of hr
      rcases hn : reqRd (reqB c q s) with _ | ⟨c', q', s'⟩
      · exact requests_none c q s hs hw hn w
      · obtain ⟨h1, h2⟩ := reqRd_sound hn
        exact requests_some c q s hs hw c' q' s' hn h2 h1.symm w
  · exact requests_long c q s (by omega) w
end Go.Proofs.Ytbeodmijjanmeaa
