/-
  The walk of the reference's adopt: orphans whose parents are there.
-/
import Derived.Test.YtgjdiliaiblfcaaKZTw
import Derived.Test.YtgjdiliaiblfcaaKYSame
import Derived.Test.YtgjdiliaiblfcaaKJBox
section
open Go Go.RowKit
namespace Go.Proofs.Ytgjdiliaiblfcaa
open ZZ RR FF JJ CC WW BB
set_option maxRecDepth 100000 in
set_option maxHeartbeats 16000000 in
theorem lawP12 (C : Code12) (l : List OpP) (v : Value) (w : World) (hv : OpsZ w v l) (hm : MemZ l) :
    Calls Try.prog 3 #[v] w fun e w' => e = .returned (.bool true) ∧ Below w.heap.size w w' := by
  have HV := Lib.hid hv
  have HM := Lib.hid hm
  obtain ⟨a0, cap, rfl, _⟩ := hv
  clear hm
  go_enter Try.func3, Try.ntmps3
  go_wp2_with fail
  refine (awake12_any C w).mono ?_
  rintro e w1 ⟨rfl, hb1⟩
  have B1 := Lib.hid hb1
  clear hb1
  go_wp2_with fail
  refine (few12_any l _ 60 w1 (HV.out.later B1.out) HM.out).mono ?_
  rintro e w2 ⟨X, rfl, hX, hb2⟩
  have B2 := Lib.hid (B1.out.trans (hb2.mono B1.out.size))
  have HX := Lib.hid hX
  clear hX hb2
  cases X with
  | false =>
    go_wp2_with fail
    refine (awake12_any C w2).mono ?_
    rintro e wz ⟨rfl, hbz⟩
    have BZ := Lib.hid (B2.out.trans (hbz.mono B2.out.size))
    go_wp2_with fail
    go_ret
    exact ⟨rfl, BZ.out⟩
  | true =>
  have HFEW := Lib.hid (show l.length ≤ 60 ∧ ∀ i, i < l.length → i < 200 → FewZ (l.getD i opP0) from ⟨by have := (HX.out rfl).1; omega, (HX.out rfl).2⟩)
  go_wp2_with fail
  refine (C.new w2).mono ?_
  rintro e w3 ⟨g, O, rfl, h3, ho3, hb3⟩
  have T0 := Lib.hid (show TwZ C w (w3.alloc (.cells #[.slice none 0 0, .slice none 0 0] 29)) w3.heap.size g ([], []) ([], []) from
    ⟨O, C.keep h3 (Keeps.of ((Below.refl _ _).alloc (Nat.le_refl _) _)), fun b hb => ⟨Nat.le_trans B2.out.size (ho3 b hb), fun e => by have := C.lt h3 b hb; omega⟩,
     ⟨_, _, Blk.new' rfl (row2_ _ _), fun w' _ => ⟨⟨none, 0, rfl, Or.inl rfl⟩, ⟨none, 0, rfl, Or.inl rfl⟩⟩⟩, (B2.out.trans (hb3.mono B2.out.size)).alloc (Nat.le_trans B2.out.size hb3.size) _, Nat.le_trans B2.out.size hb3.size, by simp⟩)
  obtain ⟨y, hy⟩ : ∃ y, w3.heap.size = y := ⟨_, rfl⟩
  obtain ⟨w4, hw4⟩ : ∃ w4, w3.alloc (.cells #[.slice none 0 0, .slice none 0 0] 29) = w4 := ⟨_, rfl⟩
  have HW4 := Lib.hid hw4
  have HYY := Lib.hid hy
  rw [hw4, hy] at T0
  clear h3 ho3 hb3 hw4 hy
  go_upto_region 5 with fail
  rw [HW4.out, HYY.out]
  go_wp2_with fail
  go_loopw [5] (fun x wr => ∃ (i : Nat) (p : Po), i ≤ l.length ∧ x = .int .i64 (i : Int) ∧ TwZ C w wr y g p p ∧ InvP p ∧ p.2.length ≤ 10 * i) (fun x _ => l.length - (intOf x).toNat)
  case atStart => exact ⟨0, ([], []), Nat.zero_le _, rfl, T0.out, inv_none, Nat.le_refl _⟩
  case round =>
    obtain ⟨i, p, hi, rfl, ht, hI, hp⟩ := hrel
    have HT := Lib.hid ht
    have HI := Lib.hid hI
    have HP := Lib.hid hp
    have HIL := Lib.hid hi
    have i0 : (0 : Int) ≤ (i : Int) := by omega
    have ib : (i : Int) ≤ 60 := by have := HFEW.out.1; omega
    clear ht hI hp hi
    by_cases hlt : i < l.length
    · have hlt' : (i : Int) < (l.length : Int) := by omega
      have HLT := Lib.hid hlt
      obtain ⟨lb, loff, rfl, _, _, hat⟩ := opsZ_at HV.out i hlt
      obtain ⟨P, hP⟩ : ∃ P, l.getD i opP0 = P := ⟨_, rfl⟩
      have HAT := Lib.hid (show ∀ wx, Below w.heap.size w wx → OpZ wx lb (loff + i * 5) P from fun wx hb => by
        have h := hat wx hb
        rw [hP] at h
        exact h)
      have HPF := Lib.hid (show FewZ P by rw [← hP]; exact HFEW.out.2 i hlt (by have := HFEW.out.1; omega))
      have HMP := Lib.hid (show P.l.length ≤ 9223372036854775807 ∧ P.r.2.2.size ≤ 9223372036854775807 ∧ P.k < 256 from HM.out.2 P (by rw [← hP, List.getD_eq_getElem?_getD, List.getElem?_eq_getElem hlt]; exact List.getElem_mem hlt))
      clear hlt hat hP
      go_wp2_with fail
      refine plan2_abs (fun wx => Below w.heap.size w wx) [(true, 0), (true, 1), (true, 2), (true, 3), (true, 4), (true, 6), (true, 7), (true, 8), (true, 9), (false, 5), (false, 10)] [(true, 11), (true, 12), (true, 13), (true, 15), (true, 16), (true, 17), (false, 14), (true, 18), (true, 19)] (by kernel_rfl) (by kernel_rfl) (fun _ _ d _ _ h => by cases d <;> exact h) fun w5 hs5 => ⟨HT.out.below.trans ((hs5.below _).mono HT.out.below.size), ?_⟩
      have T5 := Lib.hid (HT.out.low (hs5.below _))
      clear hs5
      iterate 9 (refine p2_run _ ?_ rfl rfl ?_ ?_; rotate_left; (focus (intro w' hS; obtain ⟨c0, c1, c2, c3, c4, _⟩ := HAT.out w' hS; go_simp; exact rfl)); simp only [Act.put, List.setIfInBounds_toArray, List.set_cons_zero, List.set_cons_succ, List.getElem_toArray, List.getElem_cons_zero, List.getElem_cons_succ])
      refine p2_call (R := fun u w' => u = .int .i64 (callP p P).2 ∧ TwZ C w w' y g (callP p P).1 p) _ rfl rfl (by go_simp; rfl) ((code_tw T5.out HI.out (by have := HP.out; omega) P (fun wx hb => (HAT.out wx hb).2.2.2.2.2) (by have := HPF.out.1; omega) HMP.out.2.1).mono fun e w' h => ⟨_, h.1, rfl, h.2⟩) (fun u w' h => h.2.below) fun u w6 hr => ?_
      obtain ⟨rfl, h6⟩ := hr
      have T6 := Lib.hid h6
      clear h6
      simp only [Act.put, List.setIfInBounds_toArray, List.set_cons_zero, List.set_cons_succ, List.getElem_toArray, List.getElem_cons_zero, List.getElem_cons_succ]
      refine p2_call (R := fun u w' => u = .int .i64 (callP p P).2 ∧ TwZ C w w' y g (callP p P).1 (callP p P).1) _ rfl rfl (by go_simp; rfl) ((ref_tw T6.out ⟨by have := HI.out.1; omega, by have := HP.out; omega⟩ P (fun wx hb => (HAT.out wx hb).2.2.2.2.2) (by have := HPF.out.1; omega)).mono fun e w' h => ⟨_, h.1, rfl, h.2⟩) (fun u w' h => h.2.below) fun u w7 hr => ?_
      obtain ⟨rfl, h7⟩ := hr
      have T7 := Lib.hid h7
      have HI2 := Lib.hid (inv_call HI.out P)
      have HP2 := Lib.hid (show (callP p P).1.2.length ≤ 10 * (i + 1) by have := done_len p P HPF.out.1; have := HP.out; omega)
      clear h7
      simp only [Act.put, List.setIfInBounds_toArray, List.set_cons_zero, List.set_cons_succ, List.getElem_toArray, List.getElem_cons_zero, List.getElem_cons_succ]
      obtain ⟨E, hE⟩ : ∃ E, (callP p P).2 = E := ⟨_, rfl⟩
      rw [hE]
      clear hE
      obtain ⟨p', hp'⟩ : ∃ p', (callP p P).1 = p' := ⟨_, rfl⟩
      rw [hp'] at T7 HI2 HP2
      clear hp'
      obtain ⟨wa, wc, dv, hB, hD⟩ := T7.out.box
      have HB := Lib.hid hB
      clear hB hD
      refine p2_turn (fun wx => Below w.heap.size w wx ∧ wx.heap[y]? = w7.heap[y]?) (fun _ h => h.1) ⟨T7.out.below, rfl⟩ ?_
      have tE : (E != E) = false := by simp
      iterate 6 (refine pl_run _ ?_ rfl rfl ?_ ?_; rotate_left; (focus (intro w' hS; obtain ⟨g0, g1⟩ := RR.cells2 (HB.out.of_heap hS.2); go_simp; exact rfl)); simp only [Act.put, List.setIfInBounds_toArray, List.set_cons_zero, List.set_cons_succ, List.getElem_toArray, List.getElem_cons_zero, List.getElem_cons_succ])
      obtain ⟨O7, hO7⟩ := T7.out.code
      refine pl_call1 (v := .int .i64 (p'.1.length : Int)) (R := fun w' => Below w7.heap.size w7 w') _ rfl rfl (by go_simp) (C.len O7 w7 g p' hO7 HI2.out) (fun w' h => ⟨(T7.out.low h).below, h.block y HB.out.lt⟩) fun w8 hb8 => ?_
      have T8 := Lib.hid (T7.out.low hb8)
      clear hb8 hO7
      simp only [Act.put, List.setIfInBounds_toArray, List.set_cons_zero, List.set_cons_succ, List.getElem_toArray, List.getElem_cons_zero, List.getElem_cons_succ]
      iterate 2 (refine pl_run _ ?_ rfl rfl ?_ ?_; rotate_left; (focus (intro w' hS; go_simp; exact rfl)); simp only [Act.put, List.setIfInBounds_toArray, List.set_cons_zero, List.set_cons_succ, List.getElem_toArray, List.getElem_cons_zero, List.getElem_cons_succ])
      refine pl_end ?_
      clear tE
      go_wp2_with fail
      go_roundw
      case rel => exact ⟨i + 1, p', by have := HLT.out; omega, by go_num, T8.out, HI2.out, HP2.out⟩
      case measure => have := HLT.out; simp [intOf]; omega
    · obtain rfl : i = l.length := by have := HIL.out; omega
      have hlt' : ¬ (l.length : Int) < (l.length : Int) := by omega
      clear hlt
      go_wp2_with fail
      go_loopw [6] (fun x ws => ∃ j : Nat, j ≤ l.length ∧ x = .int .i64 (j : Int) ∧ TwZ C w ws y g p p) (fun x _ => l.length - (intOf x).toNat)
      case atStart => exact ⟨0, Nat.zero_le _, rfl, HT.out⟩
      case round =>
        obtain ⟨j, hj, rfl, ht⟩ := hrel
        have HT2 := Lib.hid ht
        have HJL := Lib.hid hj
        have j0 : (0 : Int) ≤ (j : Int) := by omega
        have jb : (j : Int) ≤ 60 := by have := HFEW.out.1; omega
        obtain ⟨wa, wc, dv, hB, hD⟩ := ht.box
        have HB := Lib.hid hB
        have HD := Lib.hid hD
        obtain ⟨OJ, hOJ⟩ := ht.code
        have HOJ := Lib.hid hOJ
        clear ht hj hB hD hOJ
        by_cases hlt : j < l.length
        · have hlt' : (j : Int) < (l.length : Int) := by omega
          have HLT := Lib.hid hlt
          obtain ⟨lb, loff, rfl, _, _, hat⟩ := opsZ_at HV.out j hlt
          obtain ⟨P, hP⟩ : ∃ P, l.getD j opP0 = P := ⟨_, rfl⟩
          have HAT := Lib.hid (show ∀ wx, Below w.heap.size w wx → OpZ wx lb (loff + j * 5) P from fun wx hb => by
            have h := hat wx hb
            rw [hP] at h
            exact h)
          clear hlt hat hP
          go_wp2_with fail
          refine plan_abs (fun wx => Below wr.heap.size wr wx) [(true, 0), (true, 1), (true, 2), (true, 3), (true, 4), (true, 5), (true, 6), (true, 7), (true, 8), (true, 9), (true, 10), (true, 11), (true, 12), (true, 14), (true, 15), (true, 16), (true, 17), (true, 18), (true, 19), (true, 20), (false, 13), (false, 21), (true, 22)] (by kernel_rfl) (by kernel_rfl) (fun _ _ d _ _ h => by cases d <;> exact h) fun w5 hs5 => ⟨hs5.below _, ?_⟩
          have Y5 := Lib.hid (show Below wr.heap.size wr w5 from hs5.below _)
          clear hs5
          iterate 20 (refine pl_run _ ?_ rfl rfl ?_ ?_; rotate_left; (focus (intro w' hS; obtain ⟨c0, c1, c2, c3, c4, _⟩ := HAT.out w' (HT2.out.low hS).below; obtain ⟨g0, g1⟩ := RR.cells2 (HB.out.below hS HB.out.lt); go_simp; exact rfl)); simp only [Act.put, List.setIfInBounds_toArray, List.set_cons_zero, List.set_cons_succ, List.getElem_toArray, List.getElem_cons_zero, List.getElem_cons_succ])
          obtain ⟨X, hX⟩ : ∃ X, hasR p.1 (P.r.1, P.r.2.1) = X := ⟨_, rfl⟩
          refine pl_call1 (v := .bool X) (R := fun w' => Below w5.heap.size w5 w') _ rfl rfl (by go_simp) (hX ▸ C.has OJ w5 g p P.r.1 P.r.2.1 (C.keep HOJ.out (Keeps.of Y5.out)) HI.out) (fun w' h => Y5.out.trans (h.mono Y5.out.size)) fun w6 hb6 => ?_
          have Y6 := Lib.hid (Y5.out.trans (hb6.mono Y5.out.size))
          clear hb6
          simp only [Act.put, List.setIfInBounds_toArray, List.set_cons_zero, List.set_cons_succ, List.getElem_toArray, List.getElem_cons_zero, List.getElem_cons_succ]
          refine pl_call1 (v := .bool X) (R := fun w' => Below w6.heap.size w6 w') _ rfl rfl (by go_simp; rfl) (rhas_any p.1 _ P.r X hX w6 (HD.out w6 Y6.out) (by have := HI.out.1; omega)) (fun w' h => Y6.out.trans (h.mono Y6.out.size)) fun w7 hb7 => ?_
          have Y7 := Lib.hid (Y6.out.trans (hb7.mono Y6.out.size))
          clear hb7 hX
          simp only [Act.put, List.setIfInBounds_toArray, List.set_cons_zero, List.set_cons_succ, List.getElem_toArray, List.getElem_cons_zero, List.getElem_cons_succ]
          have tX : (X != X) = false := by simp
          iterate 1 (refine pl_run _ ?_ rfl rfl ?_ ?_; rotate_left; (focus (intro w' hS; go_simp; exact rfl)); simp only [Act.put, List.setIfInBounds_toArray, List.set_cons_zero, List.set_cons_succ, List.getElem_toArray, List.getElem_cons_zero, List.getElem_cons_succ])
          refine pl_end ?_
          clear tX
          go_wp2_with fail
          go_roundw
          case rel => exact ⟨j + 1, by have := HLT.out; omega, by go_num, HT2.out.low Y7.out⟩
          case measure => have := HLT.out; simp [intOf]; omega
        · obtain rfl : j = l.length := by have := HJL.out; omega
          clear hlt
          go_wp2_with fail
          refine plan_abs (fun wx => Below wr.heap.size wr wx) [(true, 0), (true, 2), (true, 3), (false, 1), (false, 4), (true, 5)] (by kernel_rfl) (by kernel_rfl) (fun _ _ d _ _ h => by cases d <;> exact h) fun w5 hs5 => ⟨hs5.below _, ?_⟩
          have Y5 := Lib.hid (show Below wr.heap.size wr w5 from hs5.below _)
          clear hs5
          iterate 3 (refine pl_run _ ?_ rfl rfl ?_ ?_; rotate_left; (focus (intro w' hS; obtain ⟨g0, g1⟩ := RR.cells2 (HB.out.below hS HB.out.lt); go_simp; exact rfl)); simp only [Act.put, List.setIfInBounds_toArray, List.set_cons_zero, List.set_cons_succ, List.getElem_toArray, List.getElem_cons_zero, List.getElem_cons_succ])
          refine pl_call (R := fun u w' => ReqsAt w' u p.1 ∧ Below w5.heap.size w5 w') _ rfl rfl (by go_simp) ((C.all OJ w5 g p (C.keep HOJ.out (Keeps.of Y5.out)) HI.out).mono fun e w' ⟨u, h1, h2, h3⟩ => ⟨u, h1, h2, h3⟩) (fun u w' h => Y5.out.trans (h.2.mono Y5.out.size)) fun u w6 hr => ?_
          obtain ⟨hq, hb6⟩ := hr
          have HQ := Lib.hid hq
          have Y6 := Lib.hid (Y5.out.trans (hb6.mono Y5.out.size))
          clear hq hb6
          simp only [Act.put, List.setIfInBounds_toArray, List.set_cons_zero, List.set_cons_succ, List.getElem_toArray, List.getElem_cons_zero, List.getElem_cons_succ]
          have HSM := rsame11_any p.1 p.1 u _ w6 HQ.out (HD.out w6 Y6.out) (by have := HI.out.1; omega)
          rw [decide_eq_true (rfl : p.1 = p.1)] at HSM
          refine pl_call1 (v := .bool true) (R := fun w' => Below w6.heap.size w6 w') _ rfl rfl (by go_simp) HSM (fun w' h => Y6.out.trans (h.mono Y6.out.size)) fun w7 hb7 => ?_
          clear HSM
          have Y7 := Lib.hid (Y6.out.trans (hb7.mono Y6.out.size))
          clear hb7
          simp only [Act.put, List.setIfInBounds_toArray, List.set_cons_zero, List.set_cons_succ, List.getElem_toArray, List.getElem_cons_zero, List.getElem_cons_succ]
          iterate 1 (refine pl_run _ ?_ rfl rfl ?_ ?_; rotate_left; (focus (intro w' hS; go_simp; exact rfl)); simp only [Act.put, List.setIfInBounds_toArray, List.set_cons_zero, List.set_cons_succ, List.getElem_toArray, List.getElem_cons_zero, List.getElem_cons_succ])
          refine pl_end ?_
          go_wp2_with fail
          go_ret
          exact ⟨rfl, (HT2.out.low Y7.out).below⟩
end Go.Proofs.Ytgjdiliaiblfcaa
end
section
open Go Go.RowKit
namespace ZZ
open FF JJ WW BB
theorem reqs_take {w : World} {a : Option Addr} {n c : Nat} {l : List Rq} (h : ReqsAt w (.slice a n c) l) (k c' : Nat) (hk : k ≤ l.length) : ReqsAt w (.slice a k c') (l.take k) := by
  have hl : (l.take k).length = k := by rw [List.length_take]; omega
  obtain ⟨a0, cap, e, h⟩ := h
  injection e with e1 e2 e3
  subst e1
  refine ⟨a, c', by rw [hl], ?_⟩
  rcases h with rfl | ⟨b, off, rfl, hb, hc⟩
  · exact .inl (by simp)
  · refine .inr ⟨b, off, rfl, hb, fun i hi => ?_⟩
    rw [hl] at hi
    have e : (l.take k).getD i r0 = l.getD i r0 := by
      rw [List.getD_eq_getElem?_getD, List.getD_eq_getElem?_getD, List.getElem?_take, if_pos hi]
    have e2 : (l.take k).getD i (0, 0, ⟨#[]⟩) = l.getD i (0, 0, ⟨#[]⟩) := e
    rw [e2]
    exact hc i (by omega)
theorem own_cap {w : World} {base n k c : Nat} {e : TypeId} {a : Option Addr} {xs : List Value} (h : w.ownsRow base e k (.slice a n c) n xs) : n ≤ c := by
  rcases h.2 with ⟨h1, h2⟩ | ⟨q, cap, cur, h1, _, _, h4, _⟩
  · omega
  · injection h1 with _ _ h1; omega
end ZZ
namespace Go.Proofs.Ytgjdiliaiblfcaa
open ZZ RR FF JJ CC WW BB
theorem under_tq (w : World) : (underlying 27).run Try.prog w = .ok (.slice 33) w := by kernel_rfl
theorem size_tq (w : World) : (Go.sizeOf 33).run Try.prog w = .ok 3 w := by kernel_rfl
set_option maxRecDepth 100000 in
set_option maxHeartbeats 16000000 in
theorem lawT12 (C : Code12) (l : List OpP) (m : List Rq) (v u : Value) (n : Int) (w : World) (hv : OpsZ w v l) (hm : MemZ l) (hu : ReqsAt w u m) (hn : -9223372036854775808 ≤ n ∧ n ≤ 9223372036854775807) :
    Calls Try.prog 4 #[v, .int .i64 n, u] w fun e w' => e = .returned (.bool true) ∧ Below w.heap.size w w' := by
  have HV := Lib.hid hv
  have HM := Lib.hid hm
  have HU := Lib.hid hu
  have HNN := Lib.hid hn
  obtain ⟨a0, cap, rfl, _⟩ := hv
  obtain ⟨ba, bc, rfl⟩ := reqs_sl hu
  clear hm hn hu
  go_enter Try.func4, Try.ntmps4
  go_wp2_with fail
  refine (awake12_any C w).mono ?_
  rintro e w1 ⟨rfl, hb1⟩
  have B1 := Lib.hid hb1
  clear hb1
  go_wp2_with fail
  refine (few12_any l _ 40 w1 (HV.out.later B1.out) HM.out).mono ?_
  rintro e w2 ⟨X, rfl, hX, hb2⟩
  have B2 := Lib.hid (B1.out.trans (hb2.mono B1.out.size))
  have HX := Lib.hid hX
  clear hX hb2
  cases X with
  | false =>
    go_wp2_with fail
    refine (awake12_any C w2).mono ?_
    rintro e wz ⟨rfl, hbz⟩
    have BZ := Lib.hid (B2.out.trans (hbz.mono B2.out.size))
    go_wp2_with fail
    go_ret
    exact ⟨rfl, BZ.out⟩
  | true =>
  have HFEW := Lib.hid (show l.length ≤ 40 ∧ ∀ i, i < l.length → i < 200 → FewZ (l.getD i opP0) from ⟨by have := (HX.out rfl).1; omega, (HX.out rfl).2⟩)
  by_cases h20 : (20 : Int) < (m.length : Int)
  · go_wp2_with fail
    refine (awake12_any C w2).mono ?_
    rintro e wz ⟨rfl, hbz⟩
    have BZ := Lib.hid (B2.out.trans (hbz.mono B2.out.size))
    go_wp2_with fail
    go_ret
    exact ⟨rfl, BZ.out⟩
  have HM20 := Lib.hid (show m.length ≤ 20 by omega)
  have d20 : decide ((20 : Int) < (m.length : Int)) = false := decide_eq_false h20
  clear h20
  go_wp2_with fail
  refine (C.new w2).mono ?_
  rintro e w3 ⟨g, O, rfl, h3, ho3, hb3⟩
  have T0 := Lib.hid (show TwZ C w (w3.alloc (.cells #[.slice none 0 0, .slice none 0 0] 29)) w3.heap.size g ([], []) ([], []) from
    ⟨O, C.keep h3 (Keeps.of ((Below.refl _ _).alloc (Nat.le_refl _) _)), fun b hb => ⟨Nat.le_trans B2.out.size (ho3 b hb), fun e => by have := C.lt h3 b hb; omega⟩,
     ⟨_, _, Blk.new' rfl (row2_ _ _), fun w' _ => ⟨⟨none, 0, rfl, Or.inl rfl⟩, ⟨none, 0, rfl, Or.inl rfl⟩⟩⟩, (B2.out.trans (hb3.mono B2.out.size)).alloc (Nat.le_trans B2.out.size hb3.size) _, Nat.le_trans B2.out.size hb3.size, by simp⟩)
  obtain ⟨y, hy⟩ : ∃ y, w3.heap.size = y := ⟨_, rfl⟩
  obtain ⟨w4, hw4⟩ : ∃ w4, w3.alloc (.cells #[.slice none 0 0, .slice none 0 0] 29) = w4 := ⟨_, rfl⟩
  have HW4 := Lib.hid hw4
  have HYY := Lib.hid hy
  rw [hw4, hy] at T0
  clear h3 ho3 hb3 hw4 hy
  go_upto_region 5 with fail
  rw [HW4.out, HYY.out]
  go_wp2_with fail
  go_loopw [9] (fun x wr => ∃ (i : Nat) (p : Po), i ≤ l.length ∧ x = .int .i64 (i : Int) ∧ TwZ C w wr y g p p ∧ InvP p ∧ p.2.length ≤ 10 * i) (fun x _ => l.length - (intOf x).toNat)
  case atStart => exact ⟨0, ([], []), Nat.zero_le _, rfl, T0.out, inv_none, Nat.le_refl _⟩
  case round =>
    obtain ⟨i, p, hi, rfl, ht, hI, hp⟩ := hrel
    have HT := Lib.hid ht
    have HI := Lib.hid hI
    have HP := Lib.hid hp
    have HIL := Lib.hid hi
    have i0 : (0 : Int) ≤ (i : Int) := by omega
    have ib : (i : Int) ≤ 40 := by have := HFEW.out.1; omega
    clear ht hI hp hi
    by_cases hlt : i < l.length
    · have hlt' : (i : Int) < (l.length : Int) := by omega
      have HLT := Lib.hid hlt
      obtain ⟨lb, loff, rfl, _, _, hat⟩ := opsZ_at HV.out i hlt
      obtain ⟨P, hP⟩ : ∃ P, l.getD i opP0 = P := ⟨_, rfl⟩
      have HAT := Lib.hid (show ∀ wx, Below w.heap.size w wx → OpZ wx lb (loff + i * 5) P from fun wx hb => by
        have h := hat wx hb
        rw [hP] at h
        exact h)
      have HPF := Lib.hid (show FewZ P by rw [← hP]; exact HFEW.out.2 i hlt (by have := HFEW.out.1; omega))
      have HMP := Lib.hid (show P.l.length ≤ 9223372036854775807 ∧ P.r.2.2.size ≤ 9223372036854775807 ∧ P.k < 256 from HM.out.2 P (by rw [← hP, List.getD_eq_getElem?_getD, List.getElem?_eq_getElem hlt]; exact List.getElem_mem hlt))
      clear hlt hat hP
      obtain ⟨c0, c1, c2, c3, c4, hrq⟩ := HAT.out wr HT.out.below
      obtain ⟨pa, pc, hps⟩ := reqs_sl hrq
      have HPS := Lib.hid hps
      have HC := Lib.hid (code_tw HT.out HI.out (by have := HP.out; omega) P (fun wx hb => (HAT.out wx hb).2.2.2.2.2) (by have := HPF.out.1; omega) HMP.out.2.1)
      unfold opZV at HC
      rw [hps] at c4 HC
      clear hrq hps
      go_wp2_with fail
      refine HC.out.mono ?_
      rintro e w5 ⟨rfl, h5⟩
      have T5 := Lib.hid h5
      clear h5 HC c0 c1 c2 c3 c4
      obtain ⟨c0, c1, c2, c3, c4, _⟩ := HAT.out w5 T5.out.below
      have HR := Lib.hid (ref_tw T5.out ⟨by have := HI.out.1; omega, by have := HP.out; omega⟩ P (fun wx hb => (HAT.out wx hb).2.2.2.2.2) (by have := HPF.out.1; omega))
      unfold opZV at HR
      rw [HPS.out] at c4 HR
      go_wp2_with fail
      refine HR.out.mono ?_
      rintro e w6 ⟨rfl, h6⟩
      have T6 := Lib.hid h6
      have HI2 := Lib.hid (inv_call HI.out P)
      have HP2 := Lib.hid (show (callP p P).1.2.length ≤ 10 * (i + 1) by have := done_len p P HPF.out.1; have := HP.out; omega)
      clear h6 HR c0 c1 c2 c3 c4
      go_wp2_with fail
      go_roundw
      case rel => exact ⟨i + 1, (callP p P).1, by have := HLT.out; omega, by go_num, T6.out, HI2.out, HP2.out⟩
      case measure => have := HLT.out; simp [intOf]; omega
    · obtain rfl : i = l.length := by have := HIL.out; omega
      have hlt' : ¬ (l.length : Int) < (l.length : Int) := by omega
      clear hlt
      obtain ⟨wa, wc, dv, hB, hD⟩ := HT.out.box
      have HB := Lib.hid hB
      have HD := Lib.hid hD
      obtain ⟨OJ, hOJ⟩ := HT.out.code
      have HOJ := Lib.hid hOJ
      obtain ⟨g0, g1⟩ := RR.cells2 hB
      clear hB hD hOJ
      have HBT := Lib.hid (rbut_any p.1 m _ _ wr (HD.out wr (Below.refl _ _)) (HU.out.later HT.out.below) (by have := HI.out.1; omega) (by have := HM20.out; omega))
      go_wp2_with fail
      refine HBT.out.mono ?_
      rintro e w5 ⟨x, rfl, hrow, hb5⟩
      obtain ⟨xa, xc, rfl⟩ := own_slZ hrow
      have HRW := Lib.hid (reqs_of_own hrow)
      have HCAP := Lib.hid (own_cap hrow)
      have Y5 := Lib.hid hb5
      obtain ⟨bu, hbu⟩ : ∃ bu, butR p.1 m = bu := ⟨_, rfl⟩
      rw [hbu] at HRW HCAP
      rw [hbu]
      have HBU := Lib.hid hbu
      have HBL := Lib.hid (show bu.length ≤ 12 by rw [← hbu]; have := but_len p.1 m; have := HI.out.1; omega)
      clear hrow hb5 HBT hbu g0 g1
      obtain ⟨k, hk⟩ : ∃ k : Nat, min n.toNat bu.length = k := ⟨_, rfl⟩
      have HK := Lib.hid hk
      have HKL := Lib.hid (show k ≤ bu.length by rw [← hk]; exact Nat.min_le_right _ _)
      have e1 : min (max n 0) (bu.length : Int) = (k : Int) := by omega
      clear hk
      go_wp2_with (with_reducible refine hold_slice11 rfl ?_)
      refine wpl_slice_hi11 (.tmp 46) (.tmp 51) (by rfl) rfl (by rfl) (by rfl) (under_tq _) (size_tq _) (by have := HKL.out; have := HCAP.out; omega) ?_
      clear e1
      go_wp2_with fail
      have HEQL := Lib.hid (show bu.take n.toNat = bu.take k by
        rw [← HK.out]
        by_cases h : n.toNat ≤ bu.length
        · rw [Nat.min_eq_left h]
        · rw [Nat.min_eq_right (by omega), List.take_length, List.take_of_length_le (by omega)])
      refine plan_abs (fun wx => Below wr.heap.size wr wx) [(true, 0), (true, 1), (true, 2), (true, 4), (false, 3), (false, 5), (true, 6), (true, 7), (true, 9), (true, 10), (false, 8), (false, 11), (true, 12), (true, 13)] (by kernel_rfl) (by kernel_rfl) (fun _ _ d _ _ h => by cases d <;> exact h) fun w6 hs6 => ⟨Y5.out.trans ((hs6.below _).mono Y5.out.size), ?_⟩
      have Y6 := Lib.hid (Y5.out.trans ((hs6.below _).mono Y5.out.size))
      have HRW6 := Lib.hid (HRW.out.later (hs6.below w5.heap.size))
      clear hs6
      iterate 4 (refine pl_run _ ?_ rfl rfl ?_ ?_; rotate_left; (focus (intro w' hS; go_simp; exact rfl)); simp only [Act.put, List.setIfInBounds_toArray, List.set_cons_zero, List.set_cons_succ, List.getElem_toArray, List.getElem_cons_zero, List.getElem_cons_succ])
      refine pl_call (R := fun u w' => ReqsAt w' u (bu.take k) ∧ Below w6.heap.size w6 w') _ rfl rfl (by go_simp) ((C.take OJ w6 g p n _ m (C.keep HOJ.out (Keeps.of Y6.out)) HI.out (by have := HP.out; omega) (HU.out.later ((HT.out.low Y6.out).below)) (by have := HM20.out; omega) HNN.out).mono fun e w' ⟨u, h1, h2, h3⟩ => ⟨u, h1, by rw [HBU.out, HEQL.out] at h2; exact h2, h3⟩) (fun u w' h => Y6.out.trans (h.2.mono Y6.out.size)) fun u6 w7 hr => ?_
      obtain ⟨hq, hb7⟩ := hr
      have HQ := Lib.hid hq
      have Y7 := Lib.hid (Y6.out.trans (hb7.mono Y6.out.size))
      have HW7 := Lib.hid (reqs_take (HRW6.out.later hb7) k xc HKL.out)
      clear hq hb7
      simp only [Act.put, List.setIfInBounds_toArray, List.set_cons_zero, List.set_cons_succ, List.getElem_toArray, List.getElem_cons_zero, List.getElem_cons_succ]
      have HSM := rsame11_any (bu.take k) (bu.take k) u6 _ w7 HQ.out HW7.out (by rw [List.length_take]; have := HBL.out; omega)
      rw [decide_eq_true (rfl : bu.take k = bu.take k)] at HSM
      refine pl_call1 (v := .bool true) (R := fun w' => Below w7.heap.size w7 w') _ rfl rfl (by go_simp) HSM (fun w' h => Y7.out.trans (h.mono Y7.out.size)) fun w8 hb8 => ?_
      have Y8 := Lib.hid (Y7.out.trans (hb8.mono Y7.out.size))
      clear hb8 HSM
      simp only [Act.put, List.setIfInBounds_toArray, List.set_cons_zero, List.set_cons_succ, List.getElem_toArray, List.getElem_cons_zero, List.getElem_cons_succ]
      iterate 4 (refine pl_run _ ?_ rfl rfl ?_ ?_; rotate_left; (focus (intro w' hS; obtain ⟨g0, g1⟩ := RR.cells2 (HB.out.below hS HB.out.lt); go_simp; exact rfl)); simp only [Act.put, List.setIfInBounds_toArray, List.set_cons_zero, List.set_cons_succ, List.getElem_toArray, List.getElem_cons_zero, List.getElem_cons_succ])
      refine pl_call (R := fun u w' => ReqsAt w' u p.1 ∧ Below w8.heap.size w8 w') _ rfl rfl (by go_simp) ((C.all OJ w8 g p (C.keep HOJ.out (Keeps.of Y8.out)) HI.out).mono fun e w' ⟨u, h1, h2, h3⟩ => ⟨u, h1, h2, h3⟩) (fun u w' h => Y8.out.trans (h.2.mono Y8.out.size)) fun u9 w9 hr => ?_
      obtain ⟨hq, hb9⟩ := hr
      have HQ9 := Lib.hid hq
      have Y9 := Lib.hid (Y8.out.trans (hb9.mono Y8.out.size))
      clear hq hb9
      simp only [Act.put, List.setIfInBounds_toArray, List.set_cons_zero, List.set_cons_succ, List.getElem_toArray, List.getElem_cons_zero, List.getElem_cons_succ]
      have HSM := rsame11_any p.1 p.1 u9 _ w9 HQ9.out (HD.out w9 Y9.out) (by have := HI.out.1; omega)
      rw [decide_eq_true (rfl : p.1 = p.1)] at HSM
      refine pl_call1 (v := .bool true) (R := fun w' => Below w9.heap.size w9 w') _ rfl rfl (by go_simp) HSM (fun w' h => Y9.out.trans (h.mono Y9.out.size)) fun wA hbA => ?_
      have YA := Lib.hid (Y9.out.trans (hbA.mono Y9.out.size))
      clear hbA HSM
      simp only [Act.put, List.setIfInBounds_toArray, List.set_cons_zero, List.set_cons_succ, List.getElem_toArray, List.getElem_cons_zero, List.getElem_cons_succ]
      iterate 2 (refine pl_run _ ?_ rfl rfl ?_ ?_; rotate_left; (focus (intro w' hS; go_simp; exact rfl)); simp only [Act.put, List.setIfInBounds_toArray, List.set_cons_zero, List.set_cons_succ, List.getElem_toArray, List.getElem_cons_zero, List.getElem_cons_succ])
      refine pl_end ?_
      go_wp2_with fail
      go_ret
      exact ⟨rfl, (HT.out.low YA.out).below⟩
end Go.Proofs.Ytgjdiliaiblfcaa
end
section
open Go Go.RowKit
namespace Go.Proofs.Ytgjdiliaiblfcaa
open ZZ RR FF JJ CC WW BB
/-- the code's pool, all that it writes behind W -/
def OnZ (C : Code12) (W w : World) (g : Nat) (p : Po) : Prop := (∃ O, C.At O w g p ∧ ∀ b, O b → W.heap.size ≤ b) ∧ True ∧ Below W.heap.size W w
section
variable {C : Code12} {W w w' : World} {g : Nat} {p : Po}
theorem OnZ.low (h : OnZ C W w g p) (hb : Below w.heap.size w w') : OnZ C W w' g p := by
  obtain ⟨⟨O, h1, h2⟩, _, h3⟩ := h
  exact ⟨⟨O, C.keep h1 (Keeps.of hb), h2⟩, trivial, h3.trans (hb.mono h3.size)⟩
theorem OnZ.next {O : Nat → Prop} {p' : Po} (h3 : Below W.heap.size W w) (h2 : ∀ b, O b → W.heap.size ≤ b) (hn : Next12 C.At O w g p' w') : OnZ C W w' g p' := by
  obtain ⟨O', g1, g2, g3⟩ := hn
  exact ⟨⟨O', g1, fun b hb => (g3 b hb).elim (h2 b) fun h => Nat.le_trans h3.size h⟩, trivial, h3.trans (keeps_lowZ g2 (fun b hb ho => by have := h2 b ho; omega) h3.size)⟩
theorem call_on (h : OnZ C W w g p) (hI : InvP p) (hp : p.2.length ≤ 1000) (o : OpP) (ho : ∀ w', Below W.heap.size W w' → ReqsAt w' o.lv o.l) (hl : o.l.length ≤ 20) (hz : o.r.2.2.size ≤ 9223372036854775807) :
    Calls Try.prog 10 #[.pointer (some ⟨g, 0, none⟩), opZV o] w fun e w' => e = .returned (.int .i64 (callP p o).2) ∧ OnZ C W w' g (callP p o).1 := by
  obtain ⟨⟨O, h1, h2⟩, _, h3⟩ := h
  exact (call_any C O _ w g p o h1 hI hp (dep_below h3 ho) (fun b hb hO => by have := h2 b hO; omega) hl hz).mono fun e w' ⟨he, hn⟩ => ⟨he, OnZ.next h3 h2 hn⟩
theorem add_on (h : OnZ C W w g p) (hI : InvP p) (hp : p.2.length ≤ 1000) (r : Rq) (hz : r.2.2.size ≤ 9223372036854775807) :
    Calls Try.prog 20 #[.pointer (some ⟨g, 0, none⟩), rqV r] w fun e w' => e = .returned (.int .i64 (addP p r).2) ∧ OnZ C W w' g (addP p r).1 := by
  obtain ⟨⟨O, h1, h2⟩, _, h3⟩ := h
  exact (C.add O w g p r h1 hI hp hz).mono fun e w' ⟨he, hn⟩ => ⟨he, OnZ.next h3 h2 hn⟩
/-- one request is done: it comes as a new slice -/
theorem done_on (h : OnZ C W w g p) (hI : InvP p) (hp : p.2.length ≤ 1000) (r : Rq) (t : TypeId) :
    Calls Try.prog 19 #[.pointer (some ⟨g, 0, none⟩), .slice (some ⟨w.heap.size, 0, none⟩) 1 1] (w.alloc (.cells #[.int .i64 r.1, .int .i64 r.2.1, .string r.2.2] t)) fun e w' => e = .returned (.tuple #[]) ∧ OnZ C W w' g (doneP p [r]) := by
  obtain ⟨⟨O, h1, h2⟩, _, h3⟩ := h
  have hb : Below w.heap.size w (w.alloc (.cells #[.int .i64 r.1, .int .i64 r.2.1, .string r.2.2] t)) := (Below.refl _ _).alloc (Nat.le_refl _) _
  have hq : Blk (w.alloc (.cells #[.int .i64 r.1, .int .i64 r.2.1, .string r.2.2] t)) w.heap.size 3 (rowL [.int .i64 r.1, .int .i64 r.2.1, .string r.2.2]) := Blk.new' rfl (row3_ _ _ _)
  refine (C.done O (fun b => b = w.heap.size) _ g p _ [r] (C.keep h1 (Keeps.of hb)) hI hp (by show 1 ≤ 20; omega) (fun w' hk => ?_) (fun b hb ho => by have := C.lt h1 b ho; omega)).mono fun e w' ⟨he, hn⟩ => ⟨he, OnZ.next (h3.trans (hb.mono h3.size)) h2 hn⟩
  have hq' := hq.of_heap (hk.block w.heap.size rfl hq.lt)
  obtain ⟨c0, c1, c2⟩ := RR.cells3 hq'
  refine ⟨_, _, rfl, Or.inr ⟨w.heap.size, 0, rfl, hq'.lt, fun i hi => ?_⟩⟩
  obtain rfl : i = 0 := by have hi : i < 1 := hi; omega
  exact ⟨c0, c1, c2⟩
end
set_option maxRecDepth 100000 in
set_option maxHeartbeats 16000000 in
theorem lawD12 (C : Code12) (l more : List OpP) (v u : Value) (rc rq : Int) (rb : ByteArray) (w : World) (hv : OpsZ w v l) (hm : MemZ l) (hu : OpsZ w u more) (hn : MemZ more) (hz : rb.size ≤ 9223372036854775807) :
    Calls Try.prog 5 #[v, u, .agg #[.int .i64 rc, .int .i64 rq, .string rb]] w fun e w' => e = .returned (.bool true) ∧ Below w.heap.size w w' := by
  have HV := Lib.hid hv
  have HM := Lib.hid hm
  have HU := Lib.hid hu
  have HMU := Lib.hid hn
  have HZ := Lib.hid hz
  obtain ⟨a0, cap, rfl, _⟩ := hv
  obtain ⟨b0, bap, rfl, _⟩ := hu
  have HX1 := Lib.hid ((Below.refl w.heap.size w).alloc (Nat.le_refl _) (.cells #[.int .i64 rc, .int .i64 rq, .string rb] 33))
  have HQ1 := Lib.hid (show Blk (w.alloc (.cells #[.int .i64 rc, .int .i64 rq, .string rb] 33)) w.heap.size 3 (rowL [.int .i64 rc, .int .i64 rq, .string rb]) from Blk.new' rfl (row3_ _ _ _))
  obtain ⟨n, hnn⟩ : ∃ n, w.heap.size = n := ⟨_, rfl⟩
  have HN := Lib.hid hnn
  obtain ⟨W, hW⟩ : ∃ W, w.alloc (.cells #[.int .i64 rc, .int .i64 rq, .string rb] 33) = W := ⟨_, rfl⟩
  have HW := Lib.hid hW
  rw [hW] at HX1 HQ1
  rw [hnn] at HQ1
  clear hm hn hz hW hnn
  go_enter Try.func5, Try.ntmps5
  go_upto_region 1 with fail
  rw [HW.out, HN.out]
  go_wp2_with fail
  refine (awake12_any C W).mono ?_
  rintro e w1 ⟨rfl, hb1⟩
  have B1 := Lib.hid hb1
  clear hb1
  go_wp2_with fail
  refine (few12_any l _ 40 w1 (HV.out.later (HX1.out.trans (B1.out.mono HX1.out.size))) HM.out).mono ?_
  rintro e w2 ⟨X, rfl, hX, hb2⟩
  have B2 := Lib.hid (B1.out.trans (hb2.mono B1.out.size))
  have HX := Lib.hid hX
  clear hX hb2
  cases X with
  | false =>
    obtain ⟨wq, hwq⟩ : ∃ wq, w2 = wq := ⟨_, rfl⟩
    subst hwq
    have BQ := B2
    go_wp2_with fail
    refine (awake12_any C w2).mono ?_
    rintro e wz ⟨rfl, hbz⟩
    have BZ := Lib.hid (BQ.out.trans (hbz.mono BQ.out.size))
    go_wp2_with fail
    go_ret
    exact ⟨rfl, HX1.out.trans (BZ.out.mono HX1.out.size)⟩
  | true =>
  have HFEW := Lib.hid (show l.length ≤ 40 ∧ ∀ i, i < l.length → i < 200 → FewZ (l.getD i opP0) from ⟨by have := (HX.out rfl).1; omega, (HX.out rfl).2⟩)
  go_wp2_with fail
  refine (few12_any more _ 20 w2 (HU.out.later (HX1.out.trans (B2.out.mono HX1.out.size))) HMU.out).mono ?_
  rintro e w3 ⟨X, rfl, hX, hb3⟩
  have B3 := Lib.hid (B2.out.trans (hb3.mono B2.out.size))
  have HX3 := Lib.hid hX
  clear hX hb3
  cases X with
  | false =>
    have BQ := B3
    go_wp2_with fail
    refine (awake12_any C w3).mono ?_
    rintro e wz ⟨rfl, hbz⟩
    have BZ := Lib.hid (BQ.out.trans (hbz.mono BQ.out.size))
    go_wp2_with fail
    go_ret
    exact ⟨rfl, HX1.out.trans (BZ.out.mono HX1.out.size)⟩
  | true =>
  have HFEM := Lib.hid (show more.length ≤ 20 ∧ ∀ i, i < more.length → i < 200 → FewZ (more.getD i opP0) from ⟨by have := (HX3.out rfl).1; omega, (HX3.out rfl).2⟩)
  go_wp2_with fail
  refine (C.new w3).mono ?_
  rintro e w4 ⟨g, O, rfl, h4, ho4, hb4⟩
  have T0 := Lib.hid (show OnZ C W w4 g ([], []) from ⟨⟨O, h4, fun b hb => Nat.le_trans B3.out.size (ho4 b hb)⟩, trivial, B3.out.trans (hb4.mono B3.out.size)⟩)
  clear h4 ho4 hb4
  go_wp2_with fail
  go_loopw [8] (fun x wr => ∃ (i : Nat) (p : Po), i ≤ l.length ∧ x = .int .i64 (i : Int) ∧ OnZ C W wr g p ∧ InvP p ∧ p.2.length ≤ 10 * i) (fun x _ => l.length - (intOf x).toNat)
  case atStart => exact ⟨0, ([], []), Nat.zero_le _, rfl, T0.out, inv_none, Nat.le_refl _⟩
  case round =>
    obtain ⟨i, p, hi, rfl, ht, hI, hp⟩ := hrel
    have HT := Lib.hid ht
    have HI := Lib.hid hI
    have HP := Lib.hid hp
    have HIL := Lib.hid hi
    have i0 : (0 : Int) ≤ (i : Int) := by omega
    have ib : (i : Int) ≤ 40 := by have := HFEW.out.1; omega
    clear ht hI hp hi
    by_cases hlt : i < l.length
    · have hlt' : (i : Int) < (l.length : Int) := by omega
      have HLT := Lib.hid hlt
      obtain ⟨lb, loff, rfl, _, _, hat⟩ := opsZ_at HV.out i hlt
      obtain ⟨P, hP⟩ : ∃ P, l.getD i opP0 = P := ⟨_, rfl⟩
      have HAT := Lib.hid (show ∀ wx, Below w.heap.size w wx → OpZ wx lb (loff + i * 5) P from fun wx hb => by
        have h := hat wx hb
        rw [hP] at h
        exact h)
      have HPF := Lib.hid (show FewZ P by rw [← hP]; exact HFEW.out.2 i hlt (by have := HFEW.out.1; omega))
      have HMP := Lib.hid (show P.l.length ≤ 9223372036854775807 ∧ P.r.2.2.size ≤ 9223372036854775807 ∧ P.k < 256 from HM.out.2 P (by rw [← hP, List.getD_eq_getElem?_getD, List.getElem?_eq_getElem hlt]; exact List.getElem_mem hlt))
      obtain ⟨c0, c1, c2, c3, c4, hrq⟩ := HAT.out wr (HX1.out.trans (HT.out.2.2.mono HX1.out.size))
      obtain ⟨pa, pc, hps⟩ := reqs_sl hrq
      have HCALL := Lib.hid (call_on HT.out HI.out (by have := HP.out; omega) P (fun wx hb => (HAT.out wx (HX1.out.trans (hb.mono HX1.out.size))).2.2.2.2.2) (by have := HPF.out.1; omega) HMP.out.2.1)
      unfold opZV at HCALL
      rw [hps] at c4 HCALL
      clear hlt hat hP hrq hps
      go_wp2_with fail
      refine HCALL.out.mono ?_
      rintro e w5 ⟨rfl, h5⟩
      have T5 := Lib.hid h5
      have HI2 := Lib.hid (inv_call HI.out P)
      have HP2 := Lib.hid (show (callP p P).1.2.length ≤ 10 * (i + 1) by have := done_len p P HPF.out.1; have := HP.out; omega)
      clear h5 HCALL c0 c1 c2 c3 c4
      go_wp2_with fail
      go_roundw
      case rel => exact ⟨i + 1, (callP p P).1, by have := HLT.out; omega, by go_num, T5.out, HI2.out, HP2.out⟩
      case measure => have := HLT.out; simp [intOf]; omega
    · obtain rfl : i = l.length := by have := HIL.out; omega
      have hlt' : ¬ (l.length : Int) < (l.length : Int) := by omega
      clear hlt
      obtain ⟨d0, d1, d2⟩ := RR.cells3 (HQ1.out.below HT.out.2.2 HQ1.out.lt)
      have HD := Lib.hid (done_on HT.out HI.out (by have := HP.out; omega) (rc, rq, rb) 33)
      simp only at HD
      go_wp2_with fail
      refine HD.out.mono ?_
      rintro e w5 ⟨rfl, h5⟩
      have T5 := Lib.hid h5
      clear h5 HD d0 d1 d2
      have HK0 := Lib.hid (show hasR (doneP p [(rc, rq, rb)]).2 (rc, rq) = true by
        show hasR (p.2 ++ [(rc, rq, rb)]) (rc, rq) = true
        rw [has_app]
        have : hasR [(rc, rq, rb)] (rc, rq) = true := by unfold hasR; exact decide_eq_true (by simp [keyR])
        rw [this]; simp)
      have HI0 := Lib.hid (inv_done HI.out [(rc, rq, rb)])
      have HP0 := Lib.hid (show (doneP p [(rc, rq, rb)]).2.length ≤ 500 by
        show (p.2 ++ [(rc, rq, rb)]).length ≤ 500
        rw [List.length_append]; have := HP.out; have : [(rc, rq, rb)].length = 1 := rfl; omega)
      go_wp2_with fail
      go_loopw [9] (fun x ws => ∃ (j : Nat) (q : Po), j ≤ more.length ∧ x = .int .i64 (j : Int) ∧ OnZ C W ws g q ∧ InvP q ∧ q.2.length ≤ 500 + 10 * j ∧ hasR q.2 (rc, rq) = true) (fun x _ => more.length - (intOf x).toNat)
      case atStart => exact ⟨0, _, Nat.zero_le _, rfl, T5.out, HI0.out, HP0.out, HK0.out⟩
      case round =>
        obtain ⟨j, q, hj, rfl, ht, hI, hp, hk⟩ := hrel
        have HT := Lib.hid ht
        have HI := Lib.hid hI
        have HP := Lib.hid hp
        have HK := Lib.hid hk
        have HJL := Lib.hid hj
        have j0 : (0 : Int) ≤ (j : Int) := by omega
        have jb : (j : Int) ≤ 20 := by have := HFEM.out.1; omega
        clear ht hI hp hj hk
        by_cases hlt : j < more.length
        · have hlt' : (j : Int) < (more.length : Int) := by omega
          have HLT := Lib.hid hlt
          obtain ⟨lb, loff, rfl, _, _, hat⟩ := opsZ_at HU.out j hlt
          obtain ⟨P, hP⟩ : ∃ P, more.getD j opP0 = P := ⟨_, rfl⟩
          have HAT := Lib.hid (show ∀ wx, Below w.heap.size w wx → OpZ wx lb (loff + j * 5) P from fun wx hb => by
            have h := hat wx hb
            rw [hP] at h
            exact h)
          have HPF := Lib.hid (show FewZ P by rw [← hP]; exact HFEM.out.2 j hlt (by have := HFEM.out.1; omega))
          have HMP := Lib.hid (show P.l.length ≤ 9223372036854775807 ∧ P.r.2.2.size ≤ 9223372036854775807 ∧ P.k < 256 from HMU.out.2 P (by rw [← hP, List.getD_eq_getElem?_getD, List.getElem?_eq_getElem hlt]; exact List.getElem_mem hlt))
          obtain ⟨c0, c1, c2, c3, c4, hrq⟩ := HAT.out wr (HX1.out.trans (HT.out.2.2.mono HX1.out.size))
          obtain ⟨pa, pc, hps⟩ := reqs_sl hrq
          have HCALL := Lib.hid (call_on HT.out HI.out (by have := HP.out; omega) P (fun wx hb => (HAT.out wx (HX1.out.trans (hb.mono HX1.out.size))).2.2.2.2.2) (by have := HPF.out.1; omega) HMP.out.2.1)
          unfold opZV at HCALL
          rw [hps] at c4 HCALL
          clear hlt hat hP hrq hps
          go_wp2_with fail
          refine HCALL.out.mono ?_
          rintro e w6 ⟨rfl, h6⟩
          have T6 := Lib.hid h6
          have HI2 := Lib.hid (inv_call HI.out P)
          have HP2 := Lib.hid (show (callP q P).1.2.length ≤ 500 + 10 * (j + 1) by have := done_len q P HPF.out.1; have := HP.out; omega)
          have HK2 := Lib.hid (has_call q P _ HK.out)
          clear h6 HCALL c0 c1 c2 c3 c4
          go_wp2_with fail
          go_roundw
          case rel => exact ⟨j + 1, (callP q P).1, by have := HLT.out; omega, by go_num, T6.out, HI2.out, HP2.out, HK2.out⟩
          case measure => have := HLT.out; simp [intOf]; omega
        · obtain rfl : j = more.length := by have := HJL.out; omega
          have hlt2 : ¬ (more.length : Int) < (more.length : Int) := by omega
          clear hlt
          obtain ⟨d0, d1, d2⟩ := RR.cells3 (HQ1.out.below HT.out.2.2 HQ1.out.lt)
          have HA := Lib.hid (add_on HT.out HI.out (by have := HP.out; omega) (rc, rq, rb) HZ.out)
          obtain ⟨E, hE⟩ : ∃ E, (addP q (rc, rq, rb)).2 = E := ⟨_, rfl⟩
          have HDA := Lib.hid (done_adds (p := q) (rc, rq, rb) HK.out)
          rw [HDA.out.1, hE] at HA
          have HEE := Lib.hid (show E = 1 ∨ E = 9 from hE ▸ HDA.out.2)
          unfold rqV at HA
          simp only at HA
          clear hE
          go_wp2_with fail
          refine HA.out.mono ?_
          rintro e w6 ⟨rfl, h6⟩
          have T6 := Lib.hid h6
          clear h6 HA d0 d1 d2
          obtain ⟨d0, d1, d2⟩ := RR.cells3 (HQ1.out.below T6.out.2.2 HQ1.out.lt)
          obtain ⟨⟨O6, hO6, _⟩, _⟩ := T6.out
          have HC6 := Lib.hid (C.has O6 w6 g q rc rq hO6 HI.out)
          rw [done_waits HI.out HK.out] at HC6
          clear hO6
          go_wp2_with fail
          refine HC6.out.mono ?_
          rintro e w7 ⟨rfl, hb7⟩
          have T7 := Lib.hid (T6.out.low hb7)
          clear hb7 HC6 d0 d1 d2
          obtain ⟨⟨O7, hO7, _⟩, _⟩ := T7.out
          have HC7 := Lib.hid (C.len O7 w7 g q hO7 HI.out)
          have HL12 := Lib.hid HI.out.1
          clear hO7
          have t12 : ((q.1.length : Nat) : Int) ≤ 12 := by have := HL12.out; omega
          rcases HEE.out with rfl | rfl
          all_goals
            go_wp2_with fail
            refine HC7.out.mono ?_
            rintro e w8 ⟨rfl, hb8⟩
            have T8 := Lib.hid (T7.out.low hb8)
            clear hb8 HC7
            go_wp2_with fail
            go_ret
            exact ⟨rfl, HX1.out.trans (T8.out.2.2.mono HX1.out.size)⟩
end Go.Proofs.Ytgjdiliaiblfcaa
end
section
open Go Go.RowKit
namespace ZZ
open FF JJ WW BB
def rqI (i : Nat) : Rq := (((i % 4 : Nat) : Int), (i : Int), ⟨#[]⟩)
/-- the requests of the numbers a + 1 to a + n -/
def wK (a n : Nat) : List Rq := (List.range n).map fun j => rqI (a + j + 1)
def xS (s : Nat) : List Rq := (List.range s).map fun (j : Nat) => ((1 : Int), 100 + (j : Int), (⟨#[]⟩ : ByteArray))
theorem wK_len (a n : Nat) : (wK a n).length = n := by unfold wK; rw [List.length_map, List.length_range]
theorem xS_len (s : Nat) : (xS s).length = s := by unfold xS; rw [List.length_map, List.length_range]
theorem wK_snoc (a n : Nat) : wK a (n + 1) = wK a n ++ [rqI (a + n + 1)] := by unfold wK; rw [List.range_succ, List.map_append]; rfl
theorem xS_snoc (s : Nat) : xS (s + 1) = xS s ++ [(1, 100 + (s : Int), ⟨#[]⟩)] := by unfold xS; rw [List.range_succ, List.map_append]; rfl
theorem wK_cons (a n : Nat) : wK a (n + 1) = rqI (a + 1) :: wK (a + 1) n := by
  unfold wK
  rw [List.range_succ_eq_map, List.map_cons, List.map_map]
  congr 1
  apply List.map_congr_left
  intro j _
  show rqI (a + (j + 1) + 1) = rqI (a + 1 + j + 1)
  rw [show a + (j + 1) + 1 = a + 1 + j + 1 by omega]
theorem wK_seq {a n : Nat} {r : Rq} (h : r ∈ wK a n) : (a : Int) < r.2.1 ∧ r.2.1 ≤ (a + n : Nat) := by
  unfold wK at h
  obtain ⟨j, hj, rfl⟩ := List.mem_map.1 h
  have hj := List.mem_range.1 hj
  show (a : Int) < ((a + j + 1 : Nat) : Int) ∧ ((a + j + 1 : Nat) : Int) ≤ ((a + n : Nat) : Int)
  omega
theorem xS_seq {s : Nat} {r : Rq} (h : r ∈ xS s) : 100 ≤ r.2.1 ∧ r.2.1 < 100 + (s : Int) := by
  unfold xS at h
  obtain ⟨j, hj, rfl⟩ := List.mem_map.1 h
  have hj := List.mem_range.1 hj
  show (100 : Int) ≤ 100 + (j : Int) ∧ 100 + (j : Int) < 100 + (s : Int)
  omega
theorem has_seq {l : List Rq} {k : Int × Int} (h : ∀ r ∈ l, r.2.1 ≠ k.2) : hasR l k = false := by
  unfold hasR
  rw [decide_eq_false_iff_not]
  intro hk
  obtain ⟨r, hr, he⟩ := List.mem_map.1 hk
  exact h r hr (congrArg Prod.snd he)
theorem good_i (i : Nat) (h1 : 1 ≤ i) (h2 : i ≤ 1000) : goodR (rqI i) := by
  refine ⟨?_, ?_, ?_, ?_, ?_⟩
  · show (0 : Int) ≤ ((i % 4 : Nat) : Int); omega
  · show ((i % 4 : Nat) : Int) < 4; omega
  · show (1 : Int) ≤ (i : Int); omega
  · show (i : Int) ≤ 2147483647; omega
  · show (0 : Nat) ≤ 40; omega
/-- it is filled -/
theorem full_add (j : Nat) (hj : j < 20) : addP (wK 0 (min j 12), []) (rqI (j + 1)) = ((wK 0 (min (j + 1) 12), []), if (12 : Int) < ((j + 1 : Nat) : Int) then 7 else 0) := by
  unfold addP
  rw [if_neg (fun h => h (good_i (j + 1) (by omega) (by omega))), if_neg (by rw [show hasR ((wK 0 (min j 12), []) : Po).2 _ = false from has_nil _]; decide)]
  rw [if_neg (by
    rw [show hasR ((wK 0 (min j 12), []) : Po).1 (keyR (rqI (j + 1))) = false from has_seq fun r hr => by
      have := (wK_seq hr).2
      show r.2.1 ≠ ((j + 1 : Nat) : Int)
      omega]; decide)]
  by_cases h : 12 ≤ j
  · rw [if_pos (by show (wK 0 (min j 12)).length = 12; rw [wK_len]; omega), if_pos (by omega), Nat.min_eq_right h, Nat.min_eq_right (by omega)]
  · rw [if_neg (by show ¬ (wK 0 (min j 12)).length = 12; rw [wK_len]; omega), if_neg (by omega), Nat.min_eq_left (by omega), Nat.min_eq_left (by omega), wK_snoc]
    simp
/-- the first one is done -/
theorem full_done (K t : Nat) (h : t < K) : doneP (wK t (K - t), wK 0 t) [rqI (t + 1)] = (wK (t + 1) (K - (t + 1)), wK 0 (t + 1)) := by
  unfold doneP
  simp only
  congr 1
  · rw [show K - t = (K - (t + 1)) + 1 by omega, wK_cons]
    unfold butR
    rw [List.filter_cons, if_neg (by
      have : hasR [rqI (t + 1)] (keyR (rqI (t + 1))) = true := by unfold hasR; exact decide_eq_true (by simp)
      rw [this]; decide)]
    rw [List.filter_eq_self.2]
    intro r hr
    rw [show hasR [rqI (t + 1)] (keyR r) = false from has_seq fun x hx => by
      rw [List.mem_singleton.1 hx]
      have := (wK_seq hr).1
      show ((t + 1 : Nat) : Int) ≠ r.2.1
      omega]; rfl
  · rw [wK_snoc, Nat.zero_add]
/-- it is filled again -/
theorem full_more (K d s : Nat) (hd : d ≤ K) (hK : K ≤ 12) (hs : s < 12 - K + d) : addP (wK d (K - d) ++ xS s, wK 0 d) (1, 100 + (s : Int), ⟨#[]⟩) = ((wK d (K - d) ++ xS (s + 1), wK 0 d), 0) := by
  have hk : ∀ r ∈ wK d (K - d) ++ xS s, r.2.1 ≠ 100 + (s : Int) := fun r hr => by
    rcases List.mem_append.1 hr with hr | hr
    · have := (wK_seq hr).2; omega
    · have := (xS_seq hr).2; omega
  unfold addP
  rw [if_neg (fun h => h ⟨by show (0 : Int) ≤ 1; omega, by show (1 : Int) < 4; omega, by show (1 : Int) ≤ 100 + (s : Int); omega, by show 100 + (s : Int) ≤ 2147483647; omega, by show (0 : Nat) ≤ 40; omega⟩)]
  have h2 : hasR ((wK d (K - d) ++ xS s, wK 0 d) : Po).2 (keyR (1, 100 + (s : Int), ⟨#[]⟩)) = false := has_seq fun r hr => by
    have := (wK_seq hr).2
    show r.2.1 ≠ 100 + (s : Int)
    omega
  rw [if_neg (by rw [h2]; decide)]
  rw [if_neg (by rw [show hasR ((wK d (K - d) ++ xS s, wK 0 d) : Po).1 (keyR (1, 100 + (s : Int), ⟨#[]⟩)) = false from has_seq hk]; decide)]
  rw [if_neg (by show ¬ (wK d (K - d) ++ xS s).length = 12; rw [List.length_append, wK_len, xS_len]; omega), xS_snoc]
  simp
/-- and is full -/
theorem full_end (K d : Nat) (hd : d ≤ K) (hK : K ≤ 12) : (wK d (K - d) ++ xS (12 - K + d)).length = 12 ∧ addP (wK d (K - d) ++ xS (12 - K + d), wK 0 d) (2, 500, ⟨#[]⟩) = ((wK d (K - d) ++ xS (12 - K + d), wK 0 d), 7) := by
  have hl : (wK d (K - d) ++ xS (12 - K + d)).length = 12 := by rw [List.length_append, wK_len, xS_len]; omega
  refine ⟨hl, ?_⟩
  unfold addP
  rw [if_neg (fun h => h ⟨by show (0 : Int) ≤ 2; omega, by show (2 : Int) < 4; omega, by show (1 : Int) ≤ 500; omega, by show (500 : Int) ≤ 2147483647; omega, by show (0 : Nat) ≤ 40; omega⟩)]
  have h2 : hasR ((wK d (K - d) ++ xS (12 - K + d), wK 0 d) : Po).2 (keyR (2, 500, ⟨#[]⟩)) = false := has_seq fun r hr => by
    have := (wK_seq hr).2
    show r.2.1 ≠ 500
    omega
  have h3 : hasR ((wK d (K - d) ++ xS (12 - K + d), wK 0 d) : Po).1 (keyR (2, 500, ⟨#[]⟩)) = false := has_seq fun r hr => by
    show r.2.1 ≠ 500
    rcases List.mem_append.1 hr with hr | hr
    · have := (wK_seq hr).2; omega
    · have := (xS_seq hr).2; omega
  rw [if_neg (by rw [h2]; decide), if_neg (by rw [h3]; decide)]
  rw [if_pos hl]
end ZZ
end
section
open Go Go.RowKit
namespace Go.Proofs.Ytgjdiliaiblfcaa
open ZZ RR FF JJ CC WW BB
theorem OnZ.at_ {C : Code12} {W w : World} {g : Nat} {p : Po} (h : OnZ C W w g p) : ∃ O, C.At O w g p := by
  obtain ⟨⟨O, h, _⟩, _⟩ := h
  exact ⟨O, h⟩
set_option maxRecDepth 100000 in
set_option maxHeartbeats 16000000 in
theorem lawF12 (C : Code12) (n m : Nat) (w : World) (hn : n < 256) (hm : m < 256) :
    Calls Try.prog 6 #[.int .u8 (n : Int), .int .u8 (m : Int)] w fun e w' => e = .returned (.bool true) ∧ Below w.heap.size w w' := by
  obtain ⟨k, hk⟩ : ∃ k, n % 20 = k := ⟨_, rfl⟩
  have e1 : ((n : Nat) : Int).tmod 20 = (k : Int) := by rw [← hk, Int.tmod_eq_emod_of_nonneg (by omega)]; simp
  have hk19 : k ≤ 19 := by omega
  have hw1 : IntKind.u8.wrap (k : Int) = (k : Int) := by rw [IntKind.wrap_u8]; omega
  have hw2 : IntKind.i64.wrap (k : Int) = (k : Int) := by rw [IntKind.wrap_i64]; omega
  have HK := Lib.hid hk19
  have HMM := Lib.hid hm
  clear hn hk hk19 hm
  go_enter Try.func6, Try.ntmps6
  go_wp2_with fail
  refine (awake12_any C w).mono ?_
  rintro e w1 ⟨rfl, hb1⟩
  have B1 := Lib.hid hb1
  clear hb1
  go_wp2_with fail
  refine (C.new w1).mono ?_
  rintro e w2 ⟨g, O, rfl, h2, ho2, hb2⟩
  have T0 := Lib.hid (show OnZ C w w2 g (wK 0 (min 0 12), []) from ⟨⟨O, h2, fun b hb => Nat.le_trans B1.out.size (ho2 b hb)⟩, trivial, B1.out.trans (hb2.mono B1.out.size)⟩)
  clear h2 ho2 hb2
  go_wp2_with fail
  clear e1 hw1 hw2
  go_loopw [7] (fun x wr => ∃ j : Nat, j ≤ k ∧ x = .int .i64 ((j + 1 : Nat) : Int) ∧ OnZ C w wr g (wK 0 (min j 12), []) ∧ InvP (wK 0 (min j 12), [])) (fun x _ => k + 1 - (intOf x).toNat)
  case atStart => exact ⟨0, Nat.zero_le _, rfl, T0.out, inv_none⟩
  case round =>
    obtain ⟨j, hj, rfl, ht, hI⟩ := hrel
    have HT := Lib.hid ht
    have HI := Lib.hid hI
    have HJ := Lib.hid hj
    have j0 : (1 : Int) ≤ ((j + 1 : Nat) : Int) := by omega
    have jb : ((j + 1 : Nat) : Int) ≤ 20 := by have := HK.out; omega
    obtain ⟨i, hi⟩ : ∃ i : Nat, j + 1 = i := ⟨_, rfl⟩
    have HIJ := Lib.hid hi
    rw [hi] at j0 jb ⊢
    clear ht hI hj
    by_cases hlt : i ≤ k
    · have hlt' : (i : Int) ≤ (k : Int) := by omega
      have HLT := Lib.hid hlt
      have em : ((i : Nat) : Int).tmod 4 = ((i % 4 : Nat) : Int) := by rw [Int.tmod_eq_emod_of_nonneg (by omega)]; simp
      have HA := Lib.hid (add_on HT.out HI.out (Nat.zero_le _) (rqI i) (by show (0 : Nat) ≤ _; omega))
      have HFA := Lib.hid (show addP (wK 0 (min j 12), []) (rqI i) = ((wK 0 (min (j + 1) 12), []), if (12 : Int) < (i : Int) then 7 else 0) by rw [← hi]; exact full_add j (by have := HK.out; omega))
      have HI2 := Lib.hid (show InvP (wK 0 (min (j + 1) 12), []) by have := inv_add HI.out (rqI i); rw [HFA.out] at this; exact this)
      rw [HFA.out] at HA
      unfold rqV rqI at HA
      simp only at HA
      clear hlt hi
      by_cases h12 : (12 : Int) < (i : Int)
      · rw [if_pos h12] at HA
        go_wp2_with fail
        refine HA.out.mono ?_
        rintro e w5 ⟨rfl, h5⟩
        have T5 := Lib.hid h5
        clear h5 HA em h12
        go_wp2_with fail
        go_roundw
        case rel => exact ⟨j + 1, by have := HIJ.out; have := HLT.out; omega, by have := HIJ.out; go_num, T5.out, HI2.out⟩
        case measure => have := HIJ.out; have := HLT.out; simp [intOf]; omega
      · rw [if_neg h12] at HA
        go_wp2_with fail
        refine HA.out.mono ?_
        rintro e w5 ⟨rfl, h5⟩
        have T5 := Lib.hid h5
        clear h5 HA em h12
        go_wp2_with fail
        go_roundw
        case rel => exact ⟨j + 1, by have := HIJ.out; have := HLT.out; omega, by have := HIJ.out; go_num, T5.out, HI2.out⟩
        case measure => have := HIJ.out; have := HLT.out; simp [intOf]; omega
    · obtain rfl : j = k := by have := HJ.out; omega
      have hlt' : ¬ (i : Int) ≤ (j : Int) := by omega
      clear hlt hi
      obtain ⟨K, hKK⟩ : ∃ K, min j 12 = K := ⟨_, rfl⟩
      have HKK := Lib.hid (show K ≤ 12 by omega)
      obtain ⟨d, hd⟩ : ∃ d, m % (K + 1) = d := ⟨_, rfl⟩
      have HDK := Lib.hid (show d ≤ K by rw [← hd]; exact Nat.le_of_lt_succ (Nat.mod_lt m (Nat.succ_pos K)))
      have emn : min (j : Int) 12 = (K : Int) := by omega
      have hw3 : IntKind.i64.wrap (m : Int) = (m : Int) := IntWalk.i64_in _ ⟨by omega, by have := HMM.out; omega⟩
      have hw4 : IntKind.i64.wrap ((K : Int) + 1) = (K : Int) + 1 := IntWalk.i64_in _ ⟨by omega, by have := HKK.out; omega⟩
      have hne : ((K : Int) + 1 == 0) = false := by rw [beq_eq_false_iff_ne]; omega
      have e2 : ((m : Nat) : Int).tmod ((K : Int) + 1) = (d : Int) := by rw [← hd, Int.tmod_eq_emod_of_nonneg (by omega)]; simp
      have S0 := Lib.hid (show OnZ C w wr g (wK 0 (K - 0), wK 0 0) by have := HT.out; rw [hKK] at this; exact this)
      have SI0 := Lib.hid (show InvP (wK 0 (K - 0), wK 0 0) by have := HI.out; rw [hKK] at this; exact this)
      clear hd hKK
      go_wp2_with fail
      go_loopw [10] (fun x ws => ∃ t : Nat, t ≤ d ∧ x = .int .i64 ((t + 1 : Nat) : Int) ∧ OnZ C w ws g (wK t (K - t), wK 0 t) ∧ InvP (wK t (K - t), wK 0 t)) (fun x _ => d + 1 - (intOf x).toNat)
      case atStart => exact ⟨0, Nat.zero_le _, rfl, S0.out, SI0.out⟩
      case round =>
        obtain ⟨t, htd, rfl, ht, hI⟩ := hrel
        have HT := Lib.hid ht
        have HI := Lib.hid hI
        have HTD := Lib.hid htd
        have j0 : (1 : Int) ≤ ((t + 1 : Nat) : Int) := by omega
        have jb : ((t + 1 : Nat) : Int) ≤ 20 := by have := HDK.out; have := HKK.out; omega
        obtain ⟨i, hi⟩ : ∃ i : Nat, t + 1 = i := ⟨_, rfl⟩
        have HIT := Lib.hid hi
        rw [hi] at j0 jb ⊢
        clear ht hI htd
        by_cases hlt : i ≤ d
        · have hlt3 : (i : Int) ≤ (d : Int) := by omega
          have HLT := Lib.hid hlt
          have em : ((i : Nat) : Int).tmod 4 = ((i % 4 : Nat) : Int) := by rw [Int.tmod_eq_emod_of_nonneg (by omega)]; simp
          have HA := Lib.hid (done_on HT.out HI.out (by show (wK 0 t).length ≤ 1000; rw [wK_len]; have := HTD.out; have := HDK.out; have := HKK.out; omega) (rqI i) 33)
          have HFD := Lib.hid (show doneP (wK t (K - t), wK 0 t) [rqI i] = (wK i (K - i), wK 0 i) by rw [← hi]; exact full_done K t (by have := HDK.out; omega))
          have HI2 := Lib.hid (show InvP (wK i (K - i), wK 0 i) by have := inv_done HI.out [rqI i]; rw [HFD.out] at this; exact this)
          rw [HFD.out] at HA
          unfold rqI at HA
          simp only at HA
          clear hlt hi
          go_wp2_with fail
          refine HA.out.mono ?_
          rintro e w5 ⟨rfl, h5⟩
          have T5 := Lib.hid h5
          clear h5 HA em
          go_wp2_with fail
          go_roundw
          case rel => exact ⟨i, HLT.out, by go_num, T5.out, HI2.out⟩
          case measure => have := HIT.out; have := HLT.out; simp [intOf]; omega
        · obtain rfl : t = d := by have := HTD.out; omega
          have hlt3 : ¬ (i : Int) ≤ (t : Int) := by omega
          clear hlt hi
          obtain ⟨O3, hO3⟩ := HT.out.at_
          have HC := Lib.hid (C.len O3 wr g _ hO3 HI.out)
          rw [show (((wK t (K - t), wK 0 t) : Po).1.length : Int) = (K : Int) - (t : Int) by show ((wK t (K - t)).length : Int) = _; rw [wK_len]; have := HDK.out; omega] at HC
          have hw5 : IntKind.i64.wrap ((K : Int) - (t : Int)) = (K : Int) - (t : Int) := IntWalk.i64_in _ ⟨by have := HDK.out; have := HKK.out; omega, by have := HDK.out; have := HKK.out; omega⟩
          have hw6 : IntKind.i64.wrap (12 - (K : Int)) = 12 - (K : Int) := IntWalk.i64_in _ ⟨by have := HKK.out; omega, by have := HKK.out; omega⟩
          have hw7 : IntKind.i64.wrap (12 - (K : Int) + (t : Int)) = 12 - (K : Int) + (t : Int) := IntWalk.i64_in _ ⟨by have := HDK.out; have := HKK.out; omega, by have := HDK.out; have := HKK.out; omega⟩
          have tq : (((K : Int) - (t : Int)) != ((K : Int) - (t : Int))) = false := by simp
          clear hO3
          go_wp2_with fail
          refine HC.out.mono ?_
          rintro e w6 ⟨rfl, hb6⟩
          have T6 := Lib.hid (show OnZ C w w6 g (wK t (K - t) ++ xS 0, wK 0 t) from by
            have h := HT.out.low hb6
            rw [show wK t (K - t) ++ xS 0 = wK t (K - t) from List.append_nil _]
            exact h)
          have SI6 := Lib.hid (show InvP (wK t (K - t) ++ xS 0, wK 0 t) from by
            rw [show wK t (K - t) ++ xS 0 = wK t (K - t) from List.append_nil _]
            exact HI.out)
          clear hb6 HC
          go_wp2_with fail
          clear tq
          go_loopw [11] (fun x wu => ∃ s : Nat, s ≤ 12 - K + t ∧ x = .int .i64 (s : Int) ∧ OnZ C w wu g (wK t (K - t) ++ xS s, wK 0 t) ∧ InvP (wK t (K - t) ++ xS s, wK 0 t)) (fun x _ => 12 - K + t - (intOf x).toNat)
          case atStart => exact ⟨0, Nat.zero_le _, rfl, T6.out, SI6.out⟩
          case round =>
            obtain ⟨s, hs, rfl, ht, hI⟩ := hrel
            have HT := Lib.hid ht
            have HI := Lib.hid hI
            have HS := Lib.hid hs
            have s0 : (0 : Int) ≤ (s : Int) := by omega
            have sb : (s : Int) ≤ 24 := by have := HDK.out; have := HKK.out; omega
            clear ht hI hs
            by_cases hlt : s < 12 - K + t
            · have hlt3 : (s : Int) < 12 - (K : Int) + (t : Int) := by have := HKK.out; omega
              have HLT := Lib.hid hlt
              have hw8 : IntKind.i64.wrap (100 + (s : Int)) = 100 + (s : Int) := IntWalk.i64_in _ ⟨by omega, by omega⟩
              have HA := Lib.hid (add_on HT.out HI.out (by show (wK 0 t).length ≤ 1000; rw [wK_len]; have := HDK.out; have := HKK.out; omega) (1, 100 + (s : Int), ⟨#[]⟩) (by show (0 : Nat) ≤ _; omega))
              have HFM := Lib.hid (full_more K t s HDK.out HKK.out hlt)
              have HI2 := Lib.hid (show InvP (wK t (K - t) ++ xS (s + 1), wK 0 t) by have := inv_add HI.out (1, 100 + (s : Int), ⟨#[]⟩); rw [HFM.out] at this; exact this)
              rw [HFM.out] at HA
              unfold rqV at HA
              simp only at HA
              clear hlt
              go_wp2_with fail
              refine HA.out.mono ?_
              rintro e w7 ⟨rfl, h7⟩
              have T7 := Lib.hid h7
              clear h7 HA hw8
              go_wp2_with fail
              go_roundw
              case rel => exact ⟨s + 1, by have := HLT.out; omega, by go_num, T7.out, HI2.out⟩
              case measure => have := HLT.out; simp [intOf]; omega
            · obtain rfl : s = 12 - K + t := by have := HS.out; omega
              have hlt3 : ¬ ((12 - K + t : Nat) : Int) < 12 - (K : Int) + (t : Int) := by have := HKK.out; omega
              clear hlt
              obtain ⟨hl12, hfe⟩ := full_end K t HDK.out HKK.out
              have HFE := Lib.hid hfe
              obtain ⟨O4, hO4⟩ := HT.out.at_
              have HC := Lib.hid (C.len O4 wr g _ hO4 HI.out)
              rw [show (((wK t (K - t) ++ xS (12 - K + t), wK 0 t) : Po).1.length : Int) = 12 by show ((wK t (K - t) ++ xS (12 - K + t)).length : Int) = 12; rw [hl12]; rfl] at HC
              clear hl12 hfe hO4
              go_wp2_with fail
              refine HC.out.mono ?_
              rintro e w8 ⟨rfl, hb8⟩
              have T8 := Lib.hid (HT.out.low hb8)
              clear hb8 HC
              have HA := Lib.hid (add_on T8.out HI.out (by show (wK 0 t).length ≤ 1000; rw [wK_len]; have := HDK.out; have := HKK.out; omega) (2, 500, ⟨#[]⟩) (by show (0 : Nat) ≤ _; omega))
              rw [HFE.out] at HA
              unfold rqV at HA
              simp only at HA
              go_wp2_with fail
              refine HA.out.mono ?_
              rintro e w9 ⟨rfl, h9⟩
              have T9 := Lib.hid h9
              clear h9 HA
              go_wp2_with fail
              go_ret
              exact ⟨rfl, T9.out.2.2⟩
end Go.Proofs.Ytgjdiliaiblfcaa
end
section
open Go Go.RowKit
namespace FF
open WW BB
theorem ready_hit {F : Fo} (i : Nat) (hi : i < F.orph.length) (hn : ∀ j, j < i → hasF F (parI (F.orph.getD j i0).2) = false) (he : hasF F (parI (F.orph.getD i i0).2) = true) : readyF F = some i := by
  unfold readyF
  rw [List.findIdx?_eq_some_iff_getElem]
  refine ⟨hi, by simpa [List.getD, List.getElem?_eq_getElem hi] using he, fun j hj => ?_⟩
  have := hn j hj
  simpa [List.getD, List.getElem?_eq_getElem (show j < F.orph.length by omega)] using this
theorem ready_none {F : Fo} (hn : ∀ j, j < F.orph.length → hasF F (parI (F.orph.getD j i0).2) = false) : readyF F = none := by
  unfold readyF
  rw [List.findIdx?_eq_none_iff]
  intro x hx
  obtain ⟨j, hj, rfl⟩ := List.getElem_of_mem hx
  have := hn j hj
  simpa [List.getD, List.getElem?_eq_getElem hj] using this
theorem stand_root (F : Fo) (x : It) : (standF F x).1.root = F.root := by unfold standF; split; rfl; split <;> rfl
theorem stand_height (F : Fo) (x : It) : (standF F x).1.height = F.height := by unfold standF; split; rfl; split <;> rfl
theorem stand_orph (F : Fo) (x : It) : (standF F x).1.orph = F.orph := by unfold standF; split; rfl; split <;> rfl
theorem stand_len (F : Fo) (x : It) (h : F.nodes.length ≤ 1000) : (standF F x).1.nodes.length ≤ 1000 := by
  unfold standF
  split
  · exact h
  · split
    · exact h
    · simp only [List.length_append, List.length_singleton]; omega
theorem adopt_root : ∀ (m : Nat) (F : Fo), (adoptF m F).root = F.root ∧ (adoptF m F).height = F.height
  | 0, F => ⟨rfl, rfl⟩
  | m + 1, F => by
    unfold adoptF
    split
    · exact ⟨rfl, rfl⟩
    · rename_i i _
      obtain ⟨h1, h2⟩ := adopt_root m (standF { F with orph := F.orph.eraseIdx i } (F.orph.getD i i0)).1
      rw [h1, h2, stand_root, stand_height]; exact ⟨rfl, rfl⟩
/-- the call's two boxes: the forest, the result -/
structure AdS (w : World) (g : Nat) (f1 f3 : Nat → Value) (w' : World) : Prop where
  below : Below w.heap.size w w'
  lo : w.heap.size = g
  a : Blk w' g 4 f1
  c : Blk w' (g + 1) 4 f3
theorem AdS.on {w : World} {g : Nat} {f1 f3 : Nat → Value} {w1 w2 : World} (h : AdS w g f1 f3 w1) (hb : Below w1.heap.size w1 w2) : AdS w g f1 f3 w2 :=
  ⟨h.below.trans (hb.mono h.below.size), h.lo, h.a.below hb h.a.lt, h.c.below hb h.c.lt⟩
theorem AdS.mk2 (w : World) (cs es : List Value) (t s : TypeId) (h1 : cs.toArray = row 4 (rowL cs)) (h3 : es.toArray = row 4 (rowL es)) : AdS w w.heap.size (rowL cs) (rowL es) ((w.alloc (.cells cs.toArray t)).alloc (.cells es.toArray s)) := by
  have b1 := (Below.refl w.heap.size w).alloc (Nat.le_refl _) (.cells cs.toArray t)
  have b2 := b1.alloc b1.size (.cells es.toArray s)
  exact ⟨b2, rfl, (Blk.new' rfl h1).alloc _, Blk.new' (by simp) h3⟩
theorem erase_same (L : List Iv) (i : Nat) (hi : i < L.length) : (L.take (i + 1)).eraseIdx i = (L.take i).eraseIdx i := by
  rw [List.take_add_one, List.getElem?_eq_getElem hi, List.eraseIdx_append_of_length_le (by simp; omega)]
  have : (L.take i).length = i := by simp; omega
  rw [this, Nat.sub_self, List.eraseIdx_of_length_le (l := L.take i) (by omega)]
  simp
theorem erase_more (L : List Iv) (i k : Nat) (hk : k < L.length) (hne : k ≠ i) : (L.take (k + 1)).eraseIdx i = (L.take k).eraseIdx i ++ [L.getD k v0] := by
  have e : L.take (k + 1) = L.take k ++ [L.getD k v0] := by
    rw [List.take_add_one, List.getElem?_eq_getElem hk]; simp [List.getD, List.getElem?_eq_getElem hk]
  have hlen : (L.take k).length = k := by simp; omega
  rw [e]
  by_cases h : i < k
  · rw [List.eraseIdx_append_of_lt_length (by omega)]
  · rw [List.eraseIdx_append_of_length_le (by omega), List.eraseIdx_of_length_le (l := L.take k) (by omega), hlen]
    rw [List.eraseIdx_of_length_le (l := [L.getD k v0]) (by simp; omega)]
theorem erase_mem {L : List Iv} {i k : Nat} {x : Iv} (h : x ∈ (L.take k).eraseIdx i) : x ∈ L := List.mem_of_mem_take (List.mem_of_mem_eraseIdx h)
theorem map_erase : ∀ (L : List Iv) (i : Nat), (L.eraseIdx i).map Prod.fst = (L.map Prod.fst).eraseIdx i
  | [], _ => rfl
  | x :: r, 0 => rfl
  | x :: r, i + 1 => by
    show x.1 :: (r.eraseIdx i).map Prod.fst = x.1 :: (r.map Prod.fst).eraseIdx i
    rw [map_erase r i]
/-- behind the orphan that was found: its box, and the others -/
structure AdI (w : World) (g : Nat) (f1 f3 fx : Nat → Value) (y : Nat) (e : TypeId) (L : List Iv) (v : Value) (w' : World) : Prop where
  s : AdS w g f1 f3 w'
  x : Blk w' y 7 fx
  lo : g + 1 < y
  row : w'.ownsRow (y + 1) e 7 v L.length (cellsV L)
  shape : ∃ a c, v = .slice a L.length c
theorem cells7_new (w : World) (x : Iv) (t : TypeId) : ∀ j u, (encV x)[j]? = some u → (w.alloc (.cells (encV x).toArray t)).cell? ((⟨w.heap.size, 0, none⟩ : Addr).add j) = some u := by
  intro j u hj
  rw [Addr.add_lit, Nat.zero_add]
  exact cell_new w _ t j _ (by simpa using hj)
end FF
namespace Go.Proofs.Ytgjdiliaiblfcaa
open FF JJ CC WW BB
end Go.Proofs.Ytgjdiliaiblfcaa
end
