/-
  What is caught up with is the view that is the so-manieth from above: numbers alone (for a code that asks count.Top). No walk is here.
-/
import Derived.Test.YtlkdogaonjemhaaKGaLawR
import Derived.Test.YtlkdogaonjemhaaKPlanE
import Derived.Test.YtlkdogaonjemhaaKLNum
section
open Go Go.RowKit
namespace GA
open RR FF WW BB
/-- the views as cells -/
def vwG (t : List Int) : Nat → Value := fun i => .int .i64 (t.getD i 0)
/-- the code's gathering: a box with one slice, and its row -/
def At16 (O : Nat → Prop) (w : World) (g : Nat) (t : List Int) : Prop :=
  ∃ v, Blk w g 1 (rowL [.slice (some ⟨v, 0, none⟩) t.length t.length]) ∧ Blk w v t.length (vwG t) ∧ v ≠ g ∧ ∀ b, O b ↔ b = g ∨ b = v
theorem at16_keep {O : Nat → Prop} {w w' : World} {g : Nat} {t : List Int} (h : At16 O w g t) (hk : Keeps O w w') : At16 O w' g t := by
  obtain ⟨v, h1, h2, h3, h4⟩ := h
  exact ⟨v, h1.of_heap (hk.block g ((h4 g).2 (.inl rfl)) h1.lt), h2.of_heap (hk.block v ((h4 v).2 (.inr rfl)) h2.lt), h3, h4⟩
theorem at16_lt {O : Nat → Prop} {w : World} {g : Nat} {t : List Int} (h : At16 O w g t) : ∀ b, O b → b < w.heap.size := fun b hb => by
  obtain ⟨v, h1, h2, _, h4⟩ := h
  rcases (h4 b).1 hb with rfl | rfl
  · exact h1.lt
  · exact h2.lt
theorem at16_same {O : Nat → Prop} {w w' : World} {g : Nat} {t : List Int} (h : At16 O w g t) (hb : Below w.heap.size w w') : Next16 At16 O w g t w' :=
  ⟨O, at16_keep h (Keeps.of hb), Keeps.of hb, fun _ => Or.inl⟩
theorem ints_vw {w : World} {v : Nat} {t : List Int} (h : Blk w v t.length (vwG t)) (hl : t.length ≤ 9223372036854775807) : IntsAt w (.slice (some ⟨v, 0, none⟩) t.length t.length) t :=
  ⟨_, _, rfl, hl, .inr ⟨v, 0, rfl, h.lt, fun i hi => by rw [Nat.zero_add]; exact h.get i hi⟩⟩
theorem vw_set {w : World} {v : Nat} {t : List Int} (h : Blk w v t.length (vwG t)) {i : Nat} (x : Int) (hi : i < t.length) : Blk (w.setCell ⟨v, i, none⟩ (.int .i64 x)) v (t.set i x).length (vwG (t.set i x)) := by
  rw [List.length_set]
  refine (h.set i _).congr _ fun j hj => ?_
  unfold put vwG
  by_cases e : j = i
  · subst e; rw [if_pos rfl, List.getD_eq_getElem?_getD, List.getElem?_set]; simp [hi]
  · rw [if_neg e, List.getD_eq_getElem?_getD, List.getD_eq_getElem?_getD, List.getElem?_set, if_neg (fun h => e h.symm)]
theorem in_take (t : List Int) {i : Nat} (h : i < t.length) (x : Int) : inG (t.take (i + 1)) x = inG (t.take i) x + if t.getD i 0 = x then 1 else 0 := by
  unfold inG
  rw [List.take_add_one, List.getElem?_eq_getElem h, List.countP_append, List.getD_eq_getElem?_getD, List.getElem?_eq_getElem h]
  simp [List.countP_cons]
theorem below_eq {w w' : World} (h : w = w') : Below w.heap.size w w' := h ▸ Below.refl _ _
end GA
namespace Go.Proofs.Ytlkdogaonjemhaa
open GA RR FF WW BB
set_option maxRecDepth 100000 in
set_option maxHeartbeats 1000000 in
theorem has16 (O : Nat → Prop) (w : World) (g : Nat) (t : List Int) (x : Int) (h : At16 O w g t) : Calls Try.prog 17 #[.pointer (some ⟨g, 0, none⟩), .int .i64 x] w fun e w' => e = .returned (.bool (decide (0 ≤ x ∧ x < (t.length : Int)))) ∧ w = w' := by
  obtain ⟨v, h1, _⟩ := h
  have c0 : w.cell? ⟨g, 0, none⟩ = some (.slice (some ⟨v, 0, none⟩) t.length t.length) := h1.get 0 (by omega)
  clear h1
  by_cases hx : 0 ≤ x
  · by_cases hl : x < (t.length : Int)
    · rw [show decide (0 ≤ x ∧ x < (t.length : Int)) = true from decide_eq_true ⟨hx, hl⟩]
      go_enter Try.func17, Try.ntmps17
      go_wp2_with fail
      go_ret
      exact ⟨rfl, rfl⟩
    · rw [show decide (0 ≤ x ∧ x < (t.length : Int)) = false from decide_eq_false fun h => hl h.2]
      go_enter Try.func17, Try.ntmps17
      go_wp2_with fail
      go_ret
      exact ⟨rfl, rfl⟩
  · rw [show decide (0 ≤ x ∧ x < (t.length : Int)) = false from decide_eq_false fun h => hx h.1]
    go_enter Try.func17, Try.ntmps17
    go_wp2_with fail
    go_ret
    exact ⟨rfl, rfl⟩
set_option maxRecDepth 100000 in
set_option maxHeartbeats 1000000 in
theorem at16 (O : Nat → Prop) (w : World) (g : Nat) (t : List Int) (x : Int) (h : At16 O w g t) (hi : InvG t) : Calls Try.prog 8 #[.pointer (some ⟨g, 0, none⟩), .int .i64 x] w fun e w' => e = .returned (.int .i64 (atG t x)) ∧ Below w.heap.size w w' := by
  have H0 := Lib.hid h
  by_cases hx : 0 ≤ x ∧ x < (t.length : Int)
  · obtain ⟨m, rfl⟩ : ∃ m : Nat, x = (m : Int) := ⟨x.toNat, by omega⟩
    have hm : m < t.length := by omega
    have d0 : decide (0 ≤ (m : Int) ∧ (m : Int) < (t.length : Int)) = true := decide_eq_true hx
    have HE := Lib.hid (show atG t (m : Int) = t.getD m 0 by unfold atG; rw [if_pos hx.1]; rfl)
    have hb := Lib.hid (show (t.length : Int) ≤ 7 by have := hi.2.1; omega)
    obtain ⟨v, h1, h2, _⟩ := h
    have c0 : w.cell? ⟨g, 0, none⟩ = some (.slice (some ⟨v, 0, none⟩) t.length t.length) := h1.get 0 (by omega)
    have c1 : w.cell? ⟨v, m, none⟩ = some (.int .i64 (t.getD m 0)) := h2.get m hm
    obtain ⟨u, hu⟩ : ∃ u, t.getD m 0 = u := ⟨_, rfl⟩
    rw [hu] at c1 HE
    clear h1 h2 hi hu
    go_enter Try.func8, Try.ntmps8
    go_wp2_with fail
    refine (has16 O w g t (m : Int) H0.out).mono ?_
    rintro e w1 ⟨rfl, rfl⟩
    rw [d0]
    clear d0
    go_wp2_with fail
    go_ret
    exact ⟨by rw [HE.out]; rfl, Below.refl _ _⟩
  · have d0 : decide (0 ≤ x ∧ x < (t.length : Int)) = false := decide_eq_false hx
    have HE := Lib.hid (show atG t x = 0 by
      unfold atG
      split
      · rw [List.getD_eq_getElem?_getD, List.getElem?_eq_none (by omega)]; rfl
      · rfl)
    clear hx h
    go_enter Try.func8, Try.ntmps8
    go_wp2_with fail
    refine (has16 O w g t x H0.out).mono ?_
    rintro e w1 ⟨rfl, rfl⟩
    rw [d0]
    clear d0
    go_wp2_with fail
    go_ret
    exact ⟨by rw [HE.out]; rfl, Below.refl _ _⟩
set_option maxRecDepth 100000 in
set_option maxHeartbeats 2000000 in
theorem put16 (O : Nat → Prop) (w : World) (g : Nat) (t : List Int) (x v : Int) (h : At16 O w g t) (hi : InvG t) : Calls Try.prog 10 #[.pointer (some ⟨g, 0, none⟩), .int .i64 x, .int .i64 v] w fun e w' => e = .returned (.bool (okG t x v)) ∧ Next16 At16 O w g (putG t x v) w' := by
  have H0 := Lib.hid h
  have HN := Lib.hid (at16_same h (Below.refl _ _))
  by_cases hx : 0 ≤ x ∧ x < (t.length : Int)
  · obtain ⟨m, rfl⟩ : ∃ m : Nat, x = (m : Int) := ⟨x.toNat, by omega⟩
    have hm : m < t.length := by omega
    have d0 : decide (0 ≤ (m : Int) ∧ (m : Int) < (t.length : Int)) = true := decide_eq_true hx
    have HE := Lib.hid (show atG t (m : Int) = t.getD m 0 by unfold atG; rw [if_pos hx.1]; rfl)
    have hb : (t.length : Int) ≤ 7 := by have := hi.2.1; omega
    have hml : (m : Int) < (t.length : Int) := hx.2
    obtain ⟨a, h1, h2, h3, h4⟩ := h
    have c0 : w.cell? ⟨g, 0, none⟩ = some (.slice (some ⟨a, 0, none⟩) t.length t.length) := h1.get 0 (by omega)
    have c1 : w.cell? ⟨a, m, none⟩ = some (.int .i64 (t.getD m 0)) := h2.get m hm
    have z1 := h2.frz m
    have HB1 := Lib.hid h1
    have HB2 := Lib.hid h2
    have HNE := Lib.hid h3
    have HO := Lib.hid h4
    have HM := Lib.hid hm
    have HX := Lib.hid hx
    obtain ⟨u, hu⟩ : ∃ u, t.getD m 0 = u := ⟨_, rfl⟩
    rw [hu] at c1 HE
    clear h1 h2 h3 h4 hi hx hu
    by_cases hv : 1000000 < v
    · have dv : decide (1000000 < v) = true := decide_eq_true hv
      have HK := Lib.hid (show okG t (m : Int) v = false from decide_eq_false fun h => by have := h.2.2.1; omega)
      clear hv
      go_enter Try.func10, Try.ntmps10
      go_wp2_with fail
      refine (has16 O w g t (m : Int) H0.out).mono ?_
      rintro e w1 ⟨rfl, rfl⟩
      rw [d0]
      clear d0
      go_wp2_with fail
      go_ret
      exact ⟨by rw [HK.out]; rfl, by rw [show putG t (m : Int) v = t by unfold putG; rw [HK.out]; rfl]; exact HN.out⟩
    · have dv : decide (1000000 < v) = false := decide_eq_false hv
      have hv' : v ≤ 1000000 := by omega
      clear hv
      by_cases hw : v ≤ u
      · have dw : decide (v ≤ u) = true := decide_eq_true hw
        have HK := Lib.hid (show okG t (m : Int) v = false from decide_eq_false fun h => by have := h.2.2.2; rw [HE.out] at this; omega)
        clear hw
        go_enter Try.func10, Try.ntmps10
        go_wp2_with fail
        refine (has16 O w g t (m : Int) H0.out).mono ?_
        rintro e w1 ⟨rfl, rfl⟩
        rw [d0]
        clear d0
        go_wp2_with fail
        go_ret
        exact ⟨by rw [HK.out]; rfl, by rw [show putG t (m : Int) v = t by unfold putG; rw [HK.out]; rfl]; exact HN.out⟩
      · have dw : decide (v ≤ u) = false := decide_eq_false hw
        have HK := Lib.hid (show okG t (m : Int) v = true from decide_eq_true ⟨HX.out.1, HX.out.2, hv', by rw [HE.out]; omega⟩)
        clear hw
        go_enter Try.func10, Try.ntmps10
        go_wp2_with fail
        refine (has16 O w g t (m : Int) H0.out).mono ?_
        rintro e w1 ⟨rfl, rfl⟩
        rw [d0]
        clear d0
        go_wp2_with fail
        go_ret
        refine ⟨by rw [HK.out]; rfl, ?_⟩
        rw [show putG t (m : Int) v = t.set m v by unfold putG; rw [HK.out]; rfl]
        have hu := Upd.set w a m (.int .i64 v)
        refine ⟨O, ⟨a, ?_, vw_set HB2.out v HM.out, HNE.out, HO.out⟩, Keeps.upd hu fun b hb e => hb ((HO.out b).2 (.inr e)), fun _ => .inl⟩
        rw [List.length_set]
        exact HB1.out.set_other _ _ (fun e => HNE.out e.symm)
  · have d0 : decide (0 ≤ x ∧ x < (t.length : Int)) = false := decide_eq_false hx
    have HK := Lib.hid (show okG t x v = false from decide_eq_false fun h => hx ⟨h.1, h.2.1⟩)
    clear hx h
    go_enter Try.func10, Try.ntmps10
    go_wp2_with fail
    refine (has16 O w g t x H0.out).mono ?_
    rintro e w1 ⟨rfl, rfl⟩
    rw [d0]
    clear d0
    go_wp2_with fail
    go_ret
    exact ⟨by rw [HK.out]; rfl, by rw [show putG t x v = t by unfold putG; rw [HK.out]; rfl]; exact HN.out⟩
set_option maxRecDepth 100000 in
set_option maxHeartbeats 2000000 in
theorem in16 (O : Nat → Prop) (w : World) (g : Nat) (t : List Int) (x : Int) (h : At16 O w g t) (hi : InvG t) : Calls Try.prog 13 #[.pointer (some ⟨g, 0, none⟩), .int .i64 x] w fun e w' => e = .returned (.int .i64 (inG t x : Int)) ∧ w = w' := by
  obtain ⟨a, h1, h2, _⟩ := h
  have c0 : w.cell? ⟨g, 0, none⟩ = some (.slice (some ⟨a, 0, none⟩) t.length t.length) := h1.get 0 (by omega)
  have HB2 := Lib.hid h2
  have hb : (t.length : Int) ≤ 7 := by have := hi.2.1; omega
  clear h1 h2 hi
  go_enter Try.func13, Try.ntmps13
  go_wp2_with fail
  go_loopw [5, 13] (fun x' y wr => ∃ i : Nat, i ≤ t.length ∧ x' = .int .i64 (inG (t.take i) x : Int) ∧ y = .int .i64 (i : Int) ∧ w = wr) (fun _ y _ => t.length - (intOf y).toNat)
  case atStart => exact ⟨0, Nat.zero_le _, rfl, rfl, rfl⟩
  case round =>
    obtain ⟨i, hi, rfl, rfl, rfl⟩ := hrel
    have HII := Lib.hid hi
    have i0 : (0 : Int) ≤ (i : Int) := by omega
    have ib : (i : Int) ≤ 7 := by omega
    clear hi
    by_cases hlt : i < t.length
    · have hlt' : (i : Int) < (t.length : Int) := by omega
      have HLT := Lib.hid hlt
      have c1 : w.cell? ⟨a, i, none⟩ = some (.int .i64 (t.getD i 0)) := HB2.out.get i hlt
      have HST := Lib.hid (in_take t hlt x)
      have HK := Lib.hid (show inG (t.take i) x ≤ i from Nat.le_trans List.countP_le_length (by rw [List.length_take]; omega))
      obtain ⟨u, hu⟩ : ∃ u, t.getD i 0 = u := ⟨_, rfl⟩
      obtain ⟨K, hK⟩ : ∃ K, inG (t.take i) x = K := ⟨_, rfl⟩
      rw [hK] at HST HK ⊢
      rw [hu] at c1 HST
      have k0 : (0 : Int) ≤ (K : Int) := by omega
      have kb : (K : Int) ≤ 7 := by have := HK.out; omega
      clear hlt hu hK
      by_cases h1 : u = x
      · have e1 : (u == x) = true := by rw [beq_iff_eq]; exact h1
        have HB := Lib.hid (show inG (t.take (i + 1)) x = K + 1 by rw [HST.out, if_pos h1])
        clear h1
        go_wp2_with fail
        go_roundw
        case rel => exact ⟨i + 1, HLT.out, by rw [HB.out]; go_num, by go_num, trivial⟩
        case measure => have := HLT.out; simp [intOf]; omega
      · have e1 : (u == x) = false := by rw [beq_eq_false_iff_ne]; exact h1
        have HB := Lib.hid (show inG (t.take (i + 1)) x = K by rw [HST.out, if_neg h1]; omega)
        clear h1
        go_wp2_with fail
        go_roundw
        case rel => exact ⟨i + 1, HLT.out, by rw [HB.out], by go_num, trivial⟩
        case measure => have := HLT.out; simp [intOf]; omega
    · obtain rfl : i = t.length := by have := HII.out; omega
      have hlt' : ¬ (t.length : Int) < (t.length : Int) := by omega
      have HT := Lib.hid (show t.take t.length = t from List.take_length)
      clear hlt
      go_wp2_with fail
      go_ret
      exact ⟨by first | rfl | (rw [HT.out]; rfl), rfl⟩
set_option maxRecDepth 100000 in
set_option maxHeartbeats 4000000 in
theorem ready16 (O : Nat → Prop) (w : World) (g : Nat) (t : List Int) (x : Int) (h : At16 O w g t) (hi : InvG t) : Calls Try.prog 14 #[.pointer (some ⟨g, 0, none⟩), .int .i64 x] w fun e w' => e = .returned (.bool (readyG t x)) ∧ Below w.heap.size w w' := by
  have H0 := Lib.hid h
  have HI := Lib.hid hi
  have HR := Lib.hid (show readyG t x = decide (quorumI (t.length : Int) ≤ (inG t x : Int)) by
    have := hi.1
    unfold readyG readyG.quorumG quorumI
    rw [if_neg (show ¬ (t.length : Int) < 1 by omega)])
  have hb : (t.length : Int) ≤ 7 := by have := hi.2.1; omega
  obtain ⟨a, h1, _⟩ := h
  have H1 := Lib.hid h1
  clear h1 hi
  go_enter Try.func14, Try.ntmps14
  go_upto_region 1 with fail
  refine plan_abs (fun wx => Below w.heap.size w wx) [(true, 0), (true, 1), (true, 3), (true, 4), (true, 5), (true, 6), (true, 7), (false, 2), (false, 8), (true, 9), (true, 10)] (by kernel_rfl) (by kernel_rfl) (fun _ _ d _ _ h => by cases d <;> exact h) fun w5 hs5 => ⟨hs5.below _, ?_⟩
  have B5 := Lib.hid (hs5.below w.heap.size)
  clear hs5
  iterate 7 (refine pl_run _ ?_ rfl rfl ?_ ?_; rotate_left; (focus (intro w' hS; have c0 := (H1.out.below hS H1.out.lt).get 0 (by omega); go_simp; exact rfl)); simp only [Act.put, List.setIfInBounds_toArray, List.set_cons_zero, List.set_cons_succ, List.getElem_toArray, List.getElem_cons_zero, List.getElem_cons_succ])
  refine pl_call1 _ rfl rfl (by go_simp) ((in16 O w5 g t x (at16_keep H0.out (Keeps.of B5.out)) HI.out).mono fun e w' ⟨h1, h2⟩ => ⟨h1, below_eq h2⟩) (fun w9 hb => (B5.out.trans (hb.mono B5.out.size))) fun w6 hb6 => ?_
  have B6 := Lib.hid (B5.out.trans (hb6.mono B5.out.size))
  clear hb6
  simp only [Act.put, List.setIfInBounds_toArray, List.set_cons_zero, List.set_cons_succ, List.getElem_toArray, List.getElem_cons_zero, List.getElem_cons_succ]
  refine pl_call1 _ rfl rfl (by go_simp) ((cquorum_any (t.length : Int) (by omega) w6).mono fun e w' ⟨h1, h2⟩ => ⟨h1, below_eq h2⟩) (fun w9 hb => (B6.out.trans (hb.mono B6.out.size))) fun w7 hb7 => ?_
  have B7 := Lib.hid (B6.out.trans (hb7.mono B6.out.size))
  clear hb7
  simp only [Act.put, List.setIfInBounds_toArray, List.set_cons_zero, List.set_cons_succ, List.getElem_toArray, List.getElem_cons_zero, List.getElem_cons_succ]
  iterate 2 (refine pl_run _ ?_ rfl rfl ?_ ?_; rotate_left; (focus (intro w' hS; go_simp; exact rfl)); simp only [Act.put, List.setIfInBounds_toArray, List.set_cons_zero, List.set_cons_succ, List.getElem_toArray, List.getElem_cons_zero, List.getElem_cons_succ])
  refine pl_end ?_
  go_wp2_with fail
  go_ret
  exact ⟨by rw [HR.out]; rfl, B7.out⟩
set_option maxRecDepth 100000 in
set_option maxHeartbeats 2000000 in
theorem new16 (w : World) (n : Int) : Calls Try.prog 7 #[.int .i64 n] w fun e w' => ∃ g O, e = .returned (.pointer (some ⟨g, 0, none⟩)) ∧ At16 O w' g (newG n) ∧ (∀ b, O b → w.heap.size ≤ b) ∧ Below w.heap.size w w' := by
  obtain ⟨m, hm⟩ : ∃ m, clampN n = m := ⟨_, rfl⟩
  have hk : min (max n 1) 7 = (m : Int) := by rw [← hm, clampN_is]
  have HM := Lib.hid (show 1 ≤ m ∧ m ≤ 7 from hm ▸ clampN_le n)
  have HN := Lib.hid (show newG n = List.replicate m 0 by unfold newG; rw [hm])
  have mb : (m : Int) ≤ 7 := by have := HM.out; omega
  have m0 : 0 ≤ (m : Int) := by omega
  clear hm
  go_enter Try.func7, Try.ntmps7
  go_wp2_with (with_reducible refine hold_make rfl ?_)
  refine wpl_make (.tmp 5) (.tmp 5) 38 3 (.int .i64 0) 8 m rfl rfl (by show _ = Value.int .i64 (m : Int); rw [← hk]; rfl) (by show _ = Value.int .i64 (m : Int); rw [← hk]; rfl) (by kernel_rfl) info_int (by rfl) (by have := HM.out; omega) (by have := HM.out; omega) ?_
  obtain ⟨a, ha⟩ : ∃ a, w.heap.size = a := ⟨_, rfl⟩
  have b0 := (Below.refl w.heap.size w).alloc (Nat.le_refl _) (.cells (madeCells #[.int .i64 0] m) 3)
  have k0 : Blk (w.alloc (.cells (madeCells #[.int .i64 0] m) 3)) a m (fun _ => .int .i64 0) := Blk.new' ha.symm (made_row _ _)
  have z1 : (w.alloc (.cells (madeCells #[.int .i64 0] m) 3)).heap.size = a + 1 := by simp [ha]
  rw [ha] at b0 ⊢
  generalize w.alloc (.cells (madeCells #[.int .i64 0] m) 3) = w1 at *
  have HA := Lib.hid ha
  have B0 := Lib.hid b0
  have K0 := Lib.hid k0
  have Z1 := Lib.hid z1
  clear ha b0 k0 z1
  go_wp2_with fail
  go_ret
  have b1 := B0.out.alloc (by rw [Z1.out]; omega) (.cells #[.slice (some ⟨a, 0, none⟩) m m] 40)
  refine ⟨w1.heap.size, fun b => b = w1.heap.size ∨ b = a, rfl, ⟨a, ?_, ?_, by rw [Z1.out]; omega, fun _ => Iff.rfl⟩, fun b hb => by have := Z1.out; have := HA.out; rcases hb with rfl | rfl <;> omega, HA.out ▸ b1⟩
  · rw [HN.out, List.length_replicate]; exact Blk.new' rfl rfl
  · rw [HN.out, List.length_replicate]
    refine (K0.out.alloc _).congr _ fun i hi => ?_
    unfold vwG
    rw [List.getD_eq_getElem?_getD, List.getElem?_replicate, if_pos hi]; rfl
end Go.Proofs.Ytlkdogaonjemhaa
end
section
open Go Go.RowKit
namespace GA
open WW
theorem up_parts (g : List Int) (c : Int) : upG g c = aboveI g c + likeI g c := by
  induction g with
  | nil => rfl
  | cons u g ih =>
    unfold upG aboveI likeI at ih ⊢
    rw [List.countP_cons, List.countP_cons, List.countP_cons, ih]
    by_cases h1 : c ≤ u
    · by_cases h2 : u = c
      · have h3 : ¬ c < u := by omega
        simp [h2]; omega
      · have h3 : c < u := by omega
        simp [h1, h2, h3]; omega
    · have h2 : ¬ u = c := by omega
      have h3 : ¬ c < u := by omega
      simp [h1, h2, h3]
theorem above_up (g : List Int) (c : Int) : aboveI g c = upG g (c + 1) := by
  unfold aboveI upG
  exact List.countP_congr fun u _ => by rw [decide_eq_true_iff, decide_eq_true_iff]; omega
theorem faults_lt {g : List Int} (h : InvG g) : 0 ≤ faultsI (g.length : Int) ∧ faultsI (g.length : Int) < (g.length : Int) := by
  have := h.1
  unfold faultsI
  rw [if_neg (by omega)]
  omega
theorem catch_up {g : List Int} (h : InvG g) : faultsI (g.length : Int) < (upG g (catchG g) : Int) := by
  rcases (catch_ge g _).1 (Int.le_refl (catchG g)) with h' | h'
  · have h0 := catch_bound h
    have e : catchG g = 0 := by omega
    rw [e]
    have : upG g 0 = g.length := List.countP_eq_length.2 fun u hu => by rw [decide_eq_true_iff]; exact (h.2.2 u hu).1
    rw [this]; exact (faults_lt h).2
  · exact h'
theorem catch_above (g : List Int) (h : InvG g) : (upG g (catchG g + 1) : Int) ≤ faultsI (g.length : Int) := by
  have h0 := catch_bound h
  by_cases hc : (upG g (catchG g + 1) : Int) ≤ faultsI (g.length : Int)
  · exact hc
  · have := (catch_ge g (catchG g + 1)).2 (.inr (by omega)); omega
/-- what is caught up with is the greatest but for the faults -/
theorem catch_top {g : List Int} (h : InvG g) : catchG g = topI g (faultsI (g.length : Int) + 1) := by
  have hu := catch_up h
  have ha := catch_above g h
  have hp := up_parts g (catchG g)
  have hab := above_up g (catchG g)
  have hok : topOk g (faultsI (g.length : Int) + 1) (catchG g) = true := by
    unfold topOk; rw [decide_eq_true_iff]; omega
  have hin : catchG g ∈ g := by
    have hl : 0 < likeI g (catchG g) := by omega
    obtain ⟨u, hm, he⟩ := List.countP_pos_iff.1 hl
    rw [← of_decide_eq_true he]; exact hm
  have only : ∀ y, topOk g (faultsI (g.length : Int) + 1) y = true → y = catchG g := fun y hy => by
    unfold topOk at hy
    rw [decide_eq_true_iff] at hy
    have hp' := up_parts g y
    have hab' := above_up g y
    have h1 : y ≤ catchG g := (catch_ge g y).2 (.inr (by omega))
    by_cases h2 : y = catchG g
    · exact h2
    · have := up_le g (show y + 1 ≤ catchG g by omega); omega
  unfold topI
  rcases hf : g.find? (topOk g (faultsI (g.length : Int) + 1)) with _ | y
  · rw [List.find?_eq_none] at hf
    exact absurd hok (hf _ hin)
  · exact (only y (List.find?_some hf)).symm
theorem catch_room {g : List Int} (h : InvG g) : 1 ≤ faultsI (g.length : Int) + 1 ∧ faultsI (g.length : Int) + 1 ≤ (g.length : Int) := by
  have := faults_lt h; omega
end GA
end
