/-
  The laws of layer 15, of the code that landed.
-/
import Derived.Test.YtjabihkfflnndaaKTiLawH
import Derived.Test.YtjabihkfflnndaaKPlanS
section
open Go Go.RowKit
namespace TI
open RR FF WW BB
/-- the code's timer: how many views are below, how many failed, how many ticks went by -/
def timL (t : Tim) : List Value := [.int .i64 (t.1 - 1), .int .i64 t.2.1, .int .i64 (spanF t.2.1 - t.2.2)]
def At15 (O : Nat → Prop) (w : World) (g : Nat) (t : Tim) : Prop := Blk w g 3 (rowL (timL t)) ∧ ∀ b, O b ↔ b = g
theorem at15_keep {O : Nat → Prop} {w w' : World} {g : Nat} {t : Tim} (h : At15 O w g t) (hk : Keeps O w w') : At15 O w' g t :=
  ⟨h.1.of_heap (hk.block g ((h.2 g).2 rfl) h.1.lt), h.2⟩
theorem at15_lt {O : Nat → Prop} {w : World} {g : Nat} {t : Tim} (h : At15 O w g t) : ∀ b, O b → b < w.heap.size := fun b hb => by
  rw [(h.2 b).1 hb]; exact h.1.lt
theorem at15_upd {O : Nat → Prop} {w w' : World} {g : Nat} {t t' : Tim} (h : At15 O w g t) (hB : Blk w' g 3 (rowL (timL t'))) (hu : Upd g w w') : Next15 At15 O w g t' w' :=
  ⟨O, ⟨hB, h.2⟩, Keeps.upd hu fun b hb e => hb ((h.2 b).2 e), fun _ => Or.inl⟩
theorem at15_same {O : Nat → Prop} {w w' : World} {g : Nat} {t : Tim} (h : At15 O w g t) (hb : Below w.heap.size w w') : Next15 At15 O w g t w' :=
  ⟨O, at15_keep h (Keeps.of hb), Keeps.of hb, fun _ => Or.inl⟩
theorem at15_rise {O : Nat → Prop} {w w2 w' : World} {g : Nat} {t t' : Tim} (h : At15 O w g t) (hb : Below w.heap.size w w2) (hB : Blk w' g 3 (rowL (timL t'))) (hu : Upd g w2 w') : Next15 At15 O w g t' w' :=
  ⟨O, ⟨hB, h.2⟩, (Keeps.of hb).trans (Keeps.upd hu fun b hb e => hb ((h.2 b).2 e)), fun _ => Or.inl⟩
theorem Next15.after {O : Nat → Prop} {w w1 w' : World} {g : Nat} {t : Tim} (h : Next15 At15 O w1 g t w') (hb : Keeps (fun b => ¬ O b) w w1) : Next15 At15 O w g t w' := by
  obtain ⟨O', h1, h2, h3⟩ := h
  exact ⟨O', h1, hb.trans h2, fun b hO => (h3 b hO).imp_right (Nat.le_trans hb.b0.size)⟩
end TI
namespace Go.Proofs.Ytjabihkfflnndaa
open TI RR FF WW BB
set_option maxRecDepth 100000 in
set_option maxHeartbeats 1000000 in
theorem view15 (O : Nat → Prop) (w : World) (g : Nat) (t : Tim) (h : At15 O w g t) (hi : 1 ≤ t.1 ∧ t.1 ≤ 1000001) : Calls Try.prog 11 #[.pointer (some ⟨g, 0, none⟩)] w fun e w' => e = .returned (.int .i64 t.1) ∧ Below w.heap.size w w' := by
  obtain ⟨a, b, c⟩ := t
  obtain ⟨c0, c1, c2⟩ := cells3 h.1
  have hi' : 1 ≤ a ∧ a ≤ 1000001 := hi
  have hw : IntKind.i64.wrap (a - 1 + 1) = a := by rw [IntKind.wrap_i64]; omega
  clear hi
  simp only at c0 c1 c2
  go_enter Try.func11, Try.ntmps11
  go_wp2_with fail
  go_ret
  exact ⟨rfl, Below.refl _ _⟩
set_option maxRecDepth 100000 in
set_option maxHeartbeats 1000000 in
theorem fails15 (O : Nat → Prop) (w : World) (g : Nat) (t : Tim) (h : At15 O w g t) : Calls Try.prog 13 #[.pointer (some ⟨g, 0, none⟩)] w fun e w' => e = .returned (.int .i64 t.2.1) ∧ Below w.heap.size w w' := by
  obtain ⟨a, b, c⟩ := t
  obtain ⟨c0, c1, c2⟩ := cells3 h.1
  simp only at c0 c1 c2
  go_enter Try.func13, Try.ntmps13
  go_wp2_with fail
  go_ret
  exact ⟨rfl, Below.refl _ _⟩
set_option maxRecDepth 100000 in
set_option maxHeartbeats 1000000 in
theorem halted15 (O : Nat → Prop) (w : World) (g : Nat) (t : Tim) (h : At15 O w g t) (hi : 1 ≤ t.1 ∧ t.1 ≤ 1000001) : Calls Try.prog 15 #[.pointer (some ⟨g, 0, none⟩)] w fun e w' => e = .returned (.bool (decide (1000000 < t.1))) ∧ Below w.heap.size w w' := by
  have hd : (t.1 == 1000001) = decide (1000000 < t.1) := by
    have := hi.2
    by_cases hc : t.1 = 1000001
    · rw [decide_eq_true (by omega), beq_iff_eq]; exact hc
    · rw [decide_eq_false (by omega), beq_eq_false_iff_ne]; exact hc
  go_enter Try.func15, Try.ntmps15
  go_wp2_with fail
  refine (view15 O w g t h hi).mono ?_
  rintro e w1 ⟨rfl, hb⟩
  have HB := Lib.hid hb
  have HD := Lib.hid hd
  clear hb h hi hd
  go_wp2_with fail
  go_ret
  exact ⟨by rw [← HD.out]; rfl, HB.out⟩
set_option maxRecDepth 100000 in
set_option maxHeartbeats 1000000 in
/-- bits.Len(4) -/
theorem len4_15 (w : World) : Calls Try.prog 21 #[.int .u64 4] w fun e w' => e = .returned (.int .i64 3) ∧ Below w.heap.size w w' := by
  go_enter Try.func21, Try.ntmps21
  go_wp2_with fail
  refine Calls.mono (R := fun e w' => e = .returned (.int .i64 3) ∧ Below w.heap.size w w') ?_ ?_
  · go_enter Try.func24, Try.ntmps24
    go_wp2_with fail
    go_ret
    exact ⟨by kernel_rfl, Below.refl _ _⟩
  · rintro e w1 ⟨rfl, hb⟩
    go_wp2_with fail
    go_ret
    exact ⟨rfl, hb⟩
set_option maxRecDepth 100000 in
set_option maxHeartbeats 1000000 in
theorem span15 (w : World) (k : Int) (hk : -9223372036854775808 ≤ k ∧ k ≤ 9223372036854775807) : Calls Try.prog 16 #[.int .i64 k] w fun e w' => e = .returned (.int .i64 (spanF k)) ∧ Below w.heap.size w w' := by
  obtain ⟨d, hd, hs⟩ : ∃ d : Int, min (max k 0) 3 = d ∧ (d = 0 ∧ spanF k = 4 ∨ d = 1 ∧ spanF k = 8 ∨ d = 2 ∧ spanF k = 16 ∨ d = 3 ∧ spanF k = 16) := by
    refine ⟨_, rfl, ?_⟩
    unfold spanF
    by_cases h0 : k ≤ 0
    · rw [if_pos h0]; omega
    · rw [if_neg h0]
      by_cases h1 : k = 1
      · rw [if_pos h1]; omega
      · rw [if_neg h1]; omega
  have HS := Lib.hid hs
  clear hs hk
  go_enter Try.func16, Try.ntmps16
  go_wp2_with fail
  refine (len4_15 w).mono ?_
  rintro e w1 ⟨rfl, hb⟩
  have HB := Lib.hid hb
  clear hb
  go_upto_region 2 with fail
  obtain ⟨rfl, h⟩ | ⟨rfl, h⟩ | ⟨rfl, h⟩ | ⟨rfl, h⟩ := HS.out
  all_goals
    have HE := Lib.hid h
    clear h hd
    go_wp2_with fail
    go_ret
    exact ⟨by rw [HE.out]; rfl, HB.out⟩
set_option maxRecDepth 100000 in
set_option maxHeartbeats 4000000 in
theorem left15 (O : Nat → Prop) (w : World) (g : Nat) (t : Tim) (h : At15 O w g t) (hi : -9223372036854775808 ≤ t.2.1 ∧ t.2.1 ≤ 9223372036854775807) (hc : 0 ≤ t.2.2 ∧ t.2.2 ≤ 16) : Calls Try.prog 14 #[.pointer (some ⟨g, 0, none⟩)] w fun e w' => e = .returned (.int .i64 t.2.2) ∧ Below w.heap.size w w' := by
  obtain ⟨a, b, c⟩ := t
  have H1 := Lib.hid (show Blk w g 3 (rowL [.int .i64 (a - 1), .int .i64 b, .int .i64 (spanF b - c)]) from h.1)
  have hw : IntKind.i64.wrap (spanF b - (spanF b - c)) = c := by
    have := span_bound b
    have h1 : 0 ≤ c ∧ c ≤ 16 := hc
    rw [IntKind.wrap_i64]; omega
  have hb1 : -9223372036854775808 ≤ b ∧ b ≤ 9223372036854775807 := hi
  have HB1 := Lib.hid hb1
  clear h hi hc hb1
  go_enter Try.func14, Try.ntmps14
  go_upto_region 1 with fail
  refine plan_abs (fun wx => Below w.heap.size w wx ∧ Blk wx g 3 (rowL [.int .i64 (a - 1), .int .i64 b, .int .i64 (spanF b - c)])) [(true, 0), (true, 1), (true, 2), (true, 3), (true, 5), (true, 6), (true, 7), (true, 8), (false, 4), (true, 9), (true, 10)] (by kernel_rfl) (by kernel_rfl) (fun _ _ d _ _ h => by cases d <;> exact h) fun w5 hs5 => ⟨⟨hs5.below _, H1.out.same hs5⟩, ?_⟩
  have B5 := Lib.hid (hs5.below w.heap.size)
  have R5 := Lib.hid (H1.out.same hs5)
  clear hs5
  iterate 8 (refine pl_run _ ?_ rfl rfl ?_ ?_; rotate_left; (focus (intro w' hS; obtain ⟨c0, c1, c2⟩ := cells3 hS.2; go_simp; exact rfl)); simp only [Act.put, List.setIfInBounds_toArray, List.set_cons_zero, List.set_cons_succ, List.getElem_toArray, List.getElem_cons_zero, List.getElem_cons_succ])
  refine pl_call1 _ rfl rfl (by go_simp) (span15 w5 b HB1.out) (fun w9 hb => ⟨B5.out.trans (hb.mono B5.out.size), R5.out.below hb R5.out.lt⟩) fun w6 hb6 => ?_
  have B6 := Lib.hid (B5.out.trans (hb6.mono B5.out.size))
  clear hb6
  simp only [Act.put, List.setIfInBounds_toArray, List.set_cons_zero, List.set_cons_succ, List.getElem_toArray, List.getElem_cons_zero, List.getElem_cons_succ]
  iterate 1 (refine pl_run _ ?_ rfl rfl ?_ ?_; rotate_left; (focus (intro w' hS; go_simp; exact rfl)); simp only [Act.put, List.setIfInBounds_toArray, List.set_cons_zero, List.set_cons_succ, List.getElem_toArray, List.getElem_cons_zero, List.getElem_cons_succ])
  iterate 1 (refine pl_run _ ?_ rfl rfl ?_ ?_; rotate_left; (focus (intro w' hS; go_simp; exact rfl)); simp only [Act.put, List.setIfInBounds_toArray, List.set_cons_zero, List.set_cons_succ, List.getElem_toArray, List.getElem_cons_zero, List.getElem_cons_succ])
  refine pl_end ?_
  go_wp2_with fail
  go_ret
  exact ⟨rfl, B6.out⟩
/-- a view begun, behind so many that failed -/
def riseT (t : Tim) (v k : Int) : Tim × Bool := if t.1 = 1000001 then (t, false) else if v ≤ t.1 then (t, false) else ((min v 1000001, k, spanF k), true)
set_option maxRecDepth 100000 in
set_option maxHeartbeats 4000000 in
theorem rise15 (O : Nat → Prop) (w : World) (g : Nat) (t : Tim) (v k : Int) (h : At15 O w g t) (hi : 1 ≤ t.1 ∧ t.1 ≤ 1000001) : Calls Try.prog 22 #[.pointer (some ⟨g, 0, none⟩), .int .i64 v, .int .i64 k] w fun e w' => e = .returned (.bool (riseT t v k).2) ∧ Next15 At15 O w g (riseT t v k).1 w' := by
  have H0 := Lib.hid h
  have HI := Lib.hid hi
  clear h hi
  go_enter Try.func22, Try.ntmps22
  go_wp2_with fail
  refine (halted15 O w g t H0.out HI.out).mono ?_
  rintro e w1 ⟨rfl, hb1⟩
  have B1 := Lib.hid hb1
  have H1 := Lib.hid (at15_keep H0.out (Keeps.of hb1))
  clear hb1
  by_cases h0 : t.1 = 1000001
  · have d0 : decide (1000000 < t.1) = true := decide_eq_true (by omega)
    have HE := Lib.hid (show riseT t v k = (t, false) by unfold riseT; rw [if_pos h0])
    clear h0
    go_wp2_with fail
    go_ret
    exact ⟨by rw [HE.out]; rfl, by rw [HE.out]; exact at15_same H0.out B1.out⟩
  · have d0 : decide (1000000 < t.1) = false := decide_eq_false (by have := HI.out.2; omega)
    have H00 := Lib.hid h0
    clear h0
    go_wp2_with fail
    refine (view15 O w1 g t H1.out HI.out).mono ?_
    rintro e w2 ⟨rfl, hb2⟩
    have K2 := Lib.hid (at15_keep H1.out (Keeps.of hb2))
    have B2 := Lib.hid (B1.out.trans (hb2.mono B1.out.size))
    clear hb2
    by_cases hv : v ≤ t.1
    · have dv : decide (v ≤ t.1) = true := decide_eq_true hv
      have HE := Lib.hid (show riseT t v k = (t, false) by unfold riseT; rw [if_neg H00.out, if_pos hv])
      clear hv
      go_wp2_with fail
      go_ret
      exact ⟨by rw [HE.out]; rfl, by rw [HE.out]; exact at15_same H0.out B2.out⟩
    · have dv : decide (v ≤ t.1) = false := decide_eq_false hv
      have HE := Lib.hid (show riseT t v k = ((min v 1000001, k, spanF k), true) by unfold riseT; rw [if_neg H00.out, if_neg hv])
      have hw : IntKind.i64.wrap (min v 1000001 - 1) = min v 1000001 - 1 := by have := HI.out.1; rw [IntKind.wrap_i64]; omega
      clear hv
      obtain ⟨c0, c1, c2⟩ := cells3 K2.out.1
      have z0 := K2.out.1.frz 0
      have z1 := K2.out.1.frz 1
      have z2 := K2.out.1.frz 2
      go_wp2_with fail
      go_ret
      obtain ⟨xi, ui⟩ := rset3 K2.out.1 (.int .i64 (min v 1000001 - 1)) (.int .i64 k) (.int .i64 0)
      refine ⟨by rw [HE.out]; rfl, ?_⟩
      rw [HE.out]
      refine at15_rise H0.out B2.out ?_ ui
      show Blk _ g 3 (rowL [.int .i64 (min v 1000001 - 1), .int .i64 k, .int .i64 (spanF k - spanF k)])
      rw [Int.sub_self]
      exact xi
set_option maxRecDepth 100000 in
set_option maxHeartbeats 1000000 in
theorem enter15 (O : Nat → Prop) (w : World) (g : Nat) (t : Tim) (v : Int) (h : At15 O w g t) (hi : 1 ≤ t.1 ∧ t.1 ≤ 1000001) : Calls Try.prog 19 #[.pointer (some ⟨g, 0, none⟩), .int .i64 v] w fun e w' => e = .returned (.bool (enterT t v).2) ∧ Next15 At15 O w g (enterT t v).1 w' := by
  have he : riseT t v 0 = enterT t v := rfl
  have H := rise15 O w g t v 0 h hi
  rw [he] at H
  have HH := Lib.hid H
  clear H he h hi
  go_enter Try.func19, Try.ntmps19
  go_wp2_with fail
  refine HH.out.mono ?_
  rintro e w1 ⟨rfl, hn⟩
  have HN := Lib.hid hn
  clear hn
  go_wp2_with fail
  go_ret
  exact ⟨rfl, HN.out⟩
set_option maxRecDepth 100000 in
set_option maxHeartbeats 1000000 in
theorem jump15 (O : Nat → Prop) (w : World) (g : Nat) (t : Tim) (v : Int) (h : At15 O w g t) (hi : 1 ≤ t.1 ∧ t.1 ≤ 1000001) : Calls Try.prog 20 #[.pointer (some ⟨g, 0, none⟩), .int .i64 v] w fun e w' => e = .returned (.bool (jumpT t v).2) ∧ Next15 At15 O w g (jumpT t v).1 w' := by
  have he : riseT t v t.2.1 = jumpT t v := rfl
  have H := rise15 O w g t v t.2.1 h hi
  rw [he] at H
  have HH := Lib.hid H
  obtain ⟨c0, c1, c2⟩ := cells3 h.1
  clear H he h hi
  go_enter Try.func20, Try.ntmps20
  go_wp2_with fail
  refine HH.out.mono ?_
  rintro e w1 ⟨rfl, hn⟩
  have HN := Lib.hid hn
  clear hn c0 c1 c2
  go_wp2_with fail
  go_ret
  exact ⟨rfl, HN.out⟩
set_option maxRecDepth 100000 in
set_option maxHeartbeats 1000000 in
theorem new15 (w : World) (v : Int) : Calls Try.prog 8 #[.int .i64 v] w fun e w' => ∃ g O, e = .returned (.pointer (some ⟨g, 0, none⟩)) ∧ At15 O w' g (newT v) ∧ (∀ b, O b → w.heap.size ≤ b) ∧ Below w.heap.size w w' := by
  go_enter Try.func8, Try.ntmps8
  go_upto_region 2 with fail
  have hb := (Below.refl w.heap.size w).alloc (Nat.le_refl _) (.cells #[.int .i64 0, .int .i64 0, .int .i64 0] 41)
  have hB : Blk (w.alloc (.cells #[.int .i64 0, .int .i64 0, .int .i64 0] 41)) w.heap.size 3 (rowL (timL (1, 0, 4))) := Blk.new' rfl rfl
  generalize hw1 : w.alloc (.cells #[.int .i64 0, .int .i64 0, .int .i64 0] 41) = w1 at hb hB ⊢
  obtain ⟨g, hg⟩ : ∃ g, w.heap.size = g := ⟨_, rfl⟩
  have HB := Lib.hid hb
  have HA := Lib.hid (show At15 (fun b => b = w.heap.size) w1 w.heap.size (1, 0, 4) from ⟨hB, fun _ => Iff.rfl⟩)
  clear hb hB hw1
  have HG := Lib.hid hg
  rw [hg] at HA ⊢
  clear hg
  go_wp2_with fail
  refine (enter15 _ w1 g (1, 0, 4) v HA.out (by decide)).mono ?_
  rintro e w2 ⟨rfl, hn⟩
  have HN := Lib.hid hn
  clear hn
  go_wp2_with fail
  go_ret
  have e0 : (enterT (1, 0, 4) v).1 = newT v := by
    unfold enterT newT clampV
    rw [if_neg (by decide)]
    simp only
    by_cases h : v ≤ 1
    · rw [if_pos h, show min (max v 1) 1000001 = 1 by omega]
    · rw [if_neg h, show min (max v 1) 1000001 = min v 1000001 by omega]
  obtain ⟨O', h1, h2, h3⟩ := HN.out
  rw [e0] at h1
  have hs := HB.out.size
  have hG := HG.out
  exact ⟨g, O', rfl, h1, fun b hO => by have := h3 b hO; omega, HB.out.trans (low15 h2 (fun b hb hO => by omega) hs)⟩
set_option maxRecDepth 100000 in
set_option maxHeartbeats 4000000 in
theorem tick15 (O : Nat → Prop) (w : World) (g : Nat) (t : Tim) (h : At15 O w g t) (hi : InvT t) : Calls Try.prog 18 #[.pointer (some ⟨g, 0, none⟩)] w fun e w' => e = .returned (.bool (tickT t).2) ∧ Next15 At15 O w g (tickT t).1 w' := by
  obtain ⟨a, b, c⟩ := t
  have H0 := Lib.hid h
  have HI := Lib.hid (show 1 ≤ a ∧ a ≤ 1000001 ∧ 0 ≤ b ∧ b < a ∧ 1 ≤ c ∧ c ≤ 16 from hi)
  have HS := Lib.hid (span_bound b)
  clear h hi
  go_enter Try.func18, Try.ntmps18
  go_wp2_with fail
  refine (halted15 O w g (a, b, c) H0.out ⟨HI.out.1, HI.out.2.1⟩).mono ?_
  rintro e w1 ⟨rfl, hb1⟩
  have B1 := Lib.hid hb1
  have H1 := Lib.hid (at15_keep H0.out (Keeps.of hb1))
  clear hb1
  by_cases h0 : a = 1000001
  · have d0 : decide (1000000 < a) = true := decide_eq_true (by omega)
    have HE := Lib.hid (show tickT (a, b, c) = ((a, b, c), false) by unfold tickT; rw [if_pos h0])
    clear h0
    go_wp2_with fail
    go_ret
    exact ⟨by rw [HE.out]; rfl, by rw [HE.out]; exact at15_same H0.out B1.out⟩
  · have d0 : decide (1000000 < a) = false := decide_eq_false (by have := HI.out.2.1; omega)
    have H00 := Lib.hid h0
    have hw : IntKind.i64.wrap (spanF b - c + 1) = spanF b - c + 1 := by have := HI.out; have := HS.out; rw [IntKind.wrap_i64]; omega
    obtain ⟨c0, c1, c2⟩ := cells3 H1.out.1
    have z2 := H1.out.1.frz 2
    clear h0
    go_upto_region 4 with fail
    have U2 := Lib.hid (Upd.set w1 g 2 (.int .i64 (spanF b - c + 1)))
    have R2 := Lib.hid (show Blk (w1.setCell ⟨g, 2, none⟩ (.int .i64 (spanF b - c + 1))) g 3 (rowL (timL (a, b, c - 1))) from (H1.out.1.set 2 _).congr _ fun i hi => by
      match i, hi with
      | 0, _ => rfl
      | 1, _ => rfl
      | 2, _ => show Value.int .i64 (spanF b - c + 1) = .int .i64 (spanF b - (c - 1)); rw [show spanF b - (c - 1) = spanF b - c + 1 by omega])
    generalize hw2 : w1.setCell ⟨g, 2, none⟩ (.int .i64 (spanF b - c + 1)) = w2 at U2 R2 ⊢
    have K2 := Lib.hid (show Next15 At15 O w g (a, b, c - 1) w2 from at15_rise H0.out B1.out R2.out U2.out)
    have A2 := Lib.hid (show At15 O w2 g (a, b, c - 1) from ⟨R2.out, H0.out.2⟩)
    clear hw2 c0 c1 c2 z2 hw
    go_wp2_with fail
    refine (left15 O w2 g (a, b, c - 1) A2.out (by have := HI.out; show -9223372036854775808 ≤ b ∧ b ≤ 9223372036854775807; omega) (by have := HI.out; show 0 ≤ c - 1 ∧ c - 1 ≤ 16; omega)).mono ?_
    rintro e w3 ⟨rfl, hb3⟩
    have A3 := Lib.hid (at15_keep A2.out (Keeps.of hb3))
    have N3 := Lib.hid (Next15.after (at15_same A3.out (Below.refl _ _)) (K2.out.choose_spec.2.1.trans (Keeps.of hb3)))
    have Q3 := Lib.hid (K2.out.choose_spec.2.1.trans (Keeps.of hb3))
    clear hb3
    by_cases hc : 1 < c
    · have dc : decide (1 < c) = true := decide_eq_true hc
      have HE := Lib.hid (show tickT (a, b, c) = ((a, b, c - 1), false) by unfold tickT; rw [if_neg H00.out, if_pos hc])
      clear hc
      go_wp2_with fail
      go_ret
      exact ⟨by rw [HE.out]; rfl, by rw [HE.out]; exact N3.out⟩
    · have dc : decide (1 < c) = false := decide_eq_false hc
      have HE := Lib.hid (show tickT (a, b, c) = riseT (a, b, c - 1) (a + 1) (b + 1) by
        unfold tickT riseT
        have := HI.out
        have := H00.out
        rw [if_neg H00.out, if_neg hc, if_neg H00.out, if_neg (by show ¬ a + 1 ≤ a; omega), show min (a + 1) 1000001 = a + 1 by omega])
      have hwa : IntKind.i64.wrap (a + 1) = a + 1 := by have := HI.out; rw [IntKind.wrap_i64]; omega
      have hwb : IntKind.i64.wrap (b + 1) = b + 1 := by have := HI.out; rw [IntKind.wrap_i64]; omega
      clear hc
      go_upto_region 6 with fail
      refine planS_abs (fun wx => Keeps (fun b => ¬ O b) w wx ∧ At15 O wx g (a, b, c - 1)) (fun wx => Next15 At15 O w g (tickT (a, b, c)).1 wx) 9 8 [(true, 0), (true, 1), (true, 4), (true, 5), (true, 6), (true, 7), (true, 8), (false, 2), (true, 3)] [(true, 10)] (by kernel_rfl) (by kernel_rfl) (fun _ _ d _ _ h => by cases d <;> exact h) fun w5 hs5 => ⟨⟨Q3.out.trans (Keeps.of (hs5.below _)), at15_keep A3.out (Keeps.of (hs5.below _))⟩, ?_⟩
      have Q5 := Lib.hid (Q3.out.trans (Keeps.of (hs5.below _)))
      have A5 := Lib.hid (at15_keep A3.out (Keeps.of (hs5.below _)))
      clear hs5
      iterate 7 (refine ps_run _ ?_ rfl rfl ?_ ?_; rotate_left; (focus (intro w' hS; obtain ⟨c0, c1, c2⟩ := cells3 hS.2.1; go_simp; exact rfl)); simp only [Act.put, List.setIfInBounds_toArray, List.set_cons_zero, List.set_cons_succ, List.getElem_toArray, List.getElem_cons_zero, List.getElem_cons_succ])
      refine ps_call (R := fun u w' => u = .int .i64 a ∧ Below w5.heap.size w5 w') _ rfl rfl (by go_simp) ((view15 O w5 g (a, b, c - 1) A5.out ⟨HI.out.1, HI.out.2.1⟩).mono fun _ _ ⟨he, hr⟩ => ⟨_, he, rfl, hr⟩) (fun _ _ hR => ⟨Q5.out.trans (Keeps.of hR.2), at15_keep A5.out (Keeps.of hR.2)⟩) ?_
      rintro _ w6 ⟨rfl, hb6⟩
      have Q6 := Lib.hid (Q5.out.trans (Keeps.of hb6))
      have A6 := Lib.hid (at15_keep A5.out (Keeps.of hb6))
      clear hb6
      simp only [Act.put, List.setIfInBounds_toArray, List.set_cons_zero, List.set_cons_succ, List.getElem_toArray, List.getElem_cons_zero, List.getElem_cons_succ]
      iterate 1 (refine ps_run _ ?_ rfl rfl ?_ ?_; rotate_left; (focus (intro w' hS; go_simp; exact rfl)); simp only [Act.put, List.setIfInBounds_toArray, List.set_cons_zero, List.set_cons_succ, List.getElem_toArray, List.getElem_cons_zero, List.getElem_cons_succ])
      refine ps_turn (R := fun u w' => u = .bool (tickT (a, b, c)).2 ∧ Next15 At15 O w g (tickT (a, b, c)).1 w') _ rfl rfl (by go_simp) ((rise15 O w6 g (a, b, c - 1) (a + 1) (b + 1) A6.out ⟨HI.out.1, HI.out.2.1⟩).mono fun _ _ ⟨he, hr⟩ => ⟨_, he, by rw [HE.out], by rw [HE.out]; exact hr.after Q6.out⟩) (fun _ _ hR => hR.2) ?_
      rintro _ w7 ⟨rfl, hn7⟩
      have N7 := Lib.hid hn7
      clear hn7
      simp only [Act.put, List.setIfInBounds_toArray, List.set_cons_zero, List.set_cons_succ, List.getElem_toArray, List.getElem_cons_zero, List.getElem_cons_succ]
      iterate 1 (refine pl_run _ ?_ rfl rfl ?_ ?_; rotate_left; (focus (intro w' hS; go_simp; exact rfl)); simp only [Act.put, List.setIfInBounds_toArray, List.set_cons_zero, List.set_cons_succ, List.getElem_toArray, List.getElem_cons_zero, List.getElem_cons_succ])
      refine pl_end ?_
      go_wp2_with fail
      go_ret
      exact ⟨rfl, N7.out⟩
end Go.Proofs.Ytjabihkfflnndaa
end
section
open Go Go.RowKit
namespace Go.Proofs.Ytjabihkfflnndaa
open TI RR FF WW BB
/-- what the code's calls answer -/
def theCode15 : Code15 where
  At := At15
  keep := at15_keep
  lt := at15_lt
  new := fun w v _ => new15 w v
  span := span15
  view := fun O w g t h hi => view15 O w g t h ⟨hi.1, hi.2.1⟩
  fails := fun O w g t h _ => fails15 O w g t h
  left := fun O w g t h hi => left15 O w g t h (by obtain ⟨_, h2, h3, h4, _⟩ := hi; omega) (by obtain ⟨_, _, _, _, h5, h6⟩ := hi; omega)
  halted := fun O w g t h hi => halted15 O w g t h ⟨hi.1, hi.2.1⟩
  tick := tick15
  enter := fun O w g t v h hi _ => enter15 O w g t v h ⟨hi.1, hi.2.1⟩
  jump := fun O w g t v h hi _ => jump15 O w g t v h ⟨hi.1, hi.2.1⟩
end Go.Proofs.Ytjabihkfflnndaa
end
section
open Go Go.RowKit
namespace Go.Proofs.Ytjabihkfflnndaa
open TI FF WW BB
theorem lawStim (n : Int) (w : World) (hn : -9223372036854775808 ≤ n ∧ n ≤ 9223372036854775807) : Calls Try.prog 4 #[.int .i64 n] w fun e w' => e = .returned (.bool true) ∧ Below w.heap.size w w' := lawS15 theCode15 n w hn
theorem lawFtim (n : Nat) (w : World) (hn : n < 256) : Calls Try.prog 5 #[.int .u8 (n : Int)] w fun e w' => e = .returned (.bool true) ∧ Below w.heap.size w w' := lawF15 theCode15 n w hn
theorem lawHtim (l : List OpT) (v : Value) (w : World) (hv : OpsTAt w v l) (hm : MemT15 l) : Calls Try.prog 6 #[v] w fun e w' => e = .returned (.bool true) ∧ Below w.heap.size w w' := lawH15 theCode15 l v w hv hm
theorem lawPtim (n : Int) (l : List OpT) (v : Value) (w : World) (hn : -9223372036854775808 ≤ n ∧ n ≤ 9223372036854775807) (hv : OpsTAt w v l) (hm : MemT15 l) : Calls Try.prog 3 #[.int .i64 n, v] w fun e w' => e = .returned (.bool true) ∧ Below w.heap.size w w' := lawP15 theCode15 n l v w hn hv hm
end Go.Proofs.Ytjabihkfflnndaa
end
