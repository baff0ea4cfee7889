/-
  The walk of the law BlockMakes.
-/
import Derived.Test.YtacbamfhlgchgaaDoorKJAwake
import Derived.Test.YtacbamfhlgchgaaDoorKJRefO
import Derived.Test.YtacbamfhlgchgaaDoorKJBox
import Derived.Test.YtacbamfhlgchgaaDoorKPlanE
import Derived.Test.YtacbamfhlgchgaaDoorKWRef1
import Derived.Test.YtacbamfhlgchgaaDoorKWFew
import Derived.Test.YtacbamfhlgchgaaDoorKWApart
open Go Go.RowKit
namespace JJ
open CC BB WW MM
theorem cells3_6 {w w' : World} {g y : Nat} {v0 v1 v2 u0 u1 u2 u3 u4 u5 : Value} (h : BS w g [v0, v1, v2] y [u0, u1, u2, u3, u4, u5] w') :
    (w'.cell? ⟨g, 0, none⟩ = some v0 ∧ w'.cell? ⟨g, 1, none⟩ = some v1 ∧ w'.cell? ⟨g, 2, none⟩ = some v2) ∧
    w'.cell? ⟨y, 0, none⟩ = some u0 ∧ w'.cell? ⟨y, 1, none⟩ = some u1 ∧ w'.cell? ⟨y, 2, none⟩ = some u2 ∧ w'.cell? ⟨y, 3, none⟩ = some u3 ∧ w'.cell? ⟨y, 4, none⟩ = some u4 ∧ w'.cell? ⟨y, 5, none⟩ = some u5 :=
  ⟨⟨h.a.cell 0 _ rfl, h.a.cell 1 _ rfl, h.a.cell 2 _ rfl⟩, h.b 0 _ rfl, h.b 1 _ rfl, h.b 2 _ rfl, h.b 3 _ rfl, h.b 4 _ rfl, h.b 5 _ rfl⟩
end JJ
namespace Go.Proofs.YtacbamfhlgchgaaDoor
open JJ CC WW BB MM
theorem fewcert6_is (v : Int) (k : ByteArray) (sv : Value) (l : List (Int × List ByteArray)) (b : Bool) (hb : fewCert k l = b) (w : World) (hv : SigsAt w sv l) (hn : MemS l) (hk : k.size ≤ 9223372036854775807) :
    Calls Tryd.prog 5 #[.agg #[.int .i64 v, .string k, sv]] w fun e w' => e = .returned (.bool b) ∧ Below w.heap.size w w' := hb ▸ fewcert_any v k sv l w hv hn hk
set_option maxRecDepth 100000 in
set_option maxHeartbeats 8000000 in
theorem lawn_big (view cv : Int) (k : ByteArray) (sv rv : Value) (l : List (Int × List ByteArray)) (m : List Rq) (w : World) (hv : SigsAt w sv l) (hn : MemS l) (hk : k.size ≤ 9223372036854775807) (hr : ReqsAt w rv m)
    (h : 20 < m.length ∨ m.length ≤ 20 ∧ fewCert k l = false) (hT : Tabs w) :
    Calls Tryd.prog 3 #[.int .i64 view, .agg #[.int .i64 cv, .string k, sv], rv] w fun e w' => e = .returned (.bool true) ∧ Below w.heap.size w w' := by
  have HT := Lib.hid hT
  have HV := Lib.hid hv
  have HN := Lib.hid (And.intro hn hk)
  obtain ⟨a0, cap, rfl, _⟩ := hv
  obtain ⟨a1, cap1, rfl, _⟩ := hr
  clear hT hn hk
  have X0 := Lib.hid (show BoxAt w w.heap.size [.int .i64 cv, .string k, .slice a0 l.length cap] (w.alloc (.cells #[.int .i64 cv, .string k, .slice a0 l.length cap] 24)) from box_mk w [.int .i64 cv, .string k, .slice a0 l.length cap] 24)
  rcases h with h | ⟨h, h2⟩
  · have t1 : (20 : Int) < (m.length : Int) := by omega
    clear h
    go_enter Tryd.func3, Tryd.ntmps3
    go_wp2_with fail
    refine (awake6_any _ (tabs_on HT.out X0.out.below)).mono ?_
    rintro e w2 ⟨rfl, hb2⟩
    have X2 := Lib.hid (X0.out.on hb2)
    clear hb2
    go_wp2_with fail
    refine (awake6_any _ (tabs_on HT.out X2.out.below)).mono ?_
    rintro e w4 ⟨rfl, hb4⟩
    have X4 := Lib.hid (X2.out.on hb4)
    clear hb4
    go_wp2_with fail
    go_ret
    exact ⟨rfl, X4.out.below⟩
  · have t1 : ¬ (20 : Int) < (m.length : Int) := by omega
    have HF := Lib.hid h2
    clear h h2
    go_enter Tryd.func3, Tryd.ntmps3
    go_wp2_with fail
    refine (awake6_any _ (tabs_on HT.out X0.out.below)).mono ?_
    rintro e w2 ⟨rfl, hb2⟩
    have X2 := Lib.hid (X0.out.on hb2)
    have c0 := X2.out.cell 0 _ rfl
    have c1 := X2.out.cell 1 _ rfl
    have c2 := X2.out.cell 2 _ rfl
    clear hb2
    go_wp2_with fail
    refine (fewcert6_is cv k _ l _ HF.out w2 (HV.out.later X2.out.below) HN.out.1 HN.out.2).mono ?_
    rintro e w3 ⟨rfl, hb3⟩
    have X3 := Lib.hid (X2.out.on hb3)
    clear hb3 c0 c1 c2
    go_wp2_with fail
    refine (awake6_any _ (tabs_on HT.out X3.out.below)).mono ?_
    rintro e w4 ⟨rfl, hb4⟩
    have X4 := Lib.hid (X3.out.on hb4)
    clear hb4
    go_wp2_with fail
    go_ret
    exact ⟨rfl, X4.out.below⟩
set_option maxRecDepth 100000 in
set_option maxHeartbeats 32000000 in
theorem lawn_in (view cv : Int) (k : ByteArray) (sv rv : Value) (l : List (Int × List ByteArray)) (m : List Rq) (w : World) (hv : SigsAt w sv l) (hn : MemS l) (hr : ReqsAt w rv m) (h64 : ∀ r ∈ m, In64 (keyR r))
    (h : m.length ≤ 20) (hf : fewCert k l = true) (hT : Tabs w) :
    Calls Tryd.prog 3 #[.int .i64 view, .agg #[.int .i64 cv, .string k, sv], rv] w fun e w' => e = .returned (.bool true) ∧ Below w.heap.size w w' := by
  have HT := Lib.hid hT
  have HV := Lib.hid hv
  have HR := Lib.hid hr
  have HN := Lib.hid hn
  have HF := Lib.hid hf
  have HM := Lib.hid h
  have H64 := Lib.hid h64
  have HSM := Lib.hid (few_smallS hf)
  obtain ⟨a0, cap, rfl, _⟩ := hv
  obtain ⟨a1, cap1, rfl, _⟩ := hr
  have t1 : ¬ (20 : Int) < (m.length : Int) := by omega
  clear hT hn hf h h64
  have X0 := Lib.hid (show BoxAt w w.heap.size [.int .i64 cv, .string k, .slice a0 l.length cap] (w.alloc (.cells #[.int .i64 cv, .string k, .slice a0 l.length cap] 24)) from box_mk w [.int .i64 cv, .string k, .slice a0 l.length cap] 24)
  obtain ⟨g, hg⟩ : ∃ g, w.heap.size = g := ⟨_, rfl⟩
  have HG := Lib.hid hg
  go_enter Tryd.func3, Tryd.ntmps3
  go_wp2_with fail
  rw [hg] at X0
  clear hg
  refine (awake6_any _ (tabs_on HT.out X0.out.below)).mono ?_
  rintro e w2 ⟨rfl, hb2⟩
  have X2 := Lib.hid (X0.out.on hb2)
  have c0 := X2.out.cell 0 _ rfl
  have c1 := X2.out.cell 1 _ rfl
  have c2 := X2.out.cell 2 _ rfl
  clear hb2
  go_wp2_with fail
  refine (fewcert6_is cv k _ l _ HF.out w2 (HV.out.later X2.out.below) HN.out (by have := HSM.out; omega)).mono ?_
  rintro e w3 ⟨rfl, hb3⟩
  have X3 := Lib.hid (X2.out.on hb3)
  clear hb3 c0 c1 c2 X0 X2
  go_wp2_with fail
  clear t1
  go_loopw [7] (fun x wx => ∃ n : Nat, 1 ≤ n ∧ n ≤ 8 ∧ x = .int .i64 (n : Int) ∧ BoxAt w g [.int .i64 cv, .string k, .slice a0 l.length cap] wx) (fun x _ => 8 - (intOf x).toNat)
  case atStart => exact ⟨1, Nat.le_refl _, by omega, rfl, X3.out⟩
  case round =>
    obtain ⟨n, hn1, hn8, rfl, hx⟩ := hrel
    have XR := Lib.hid hx
    have HN1 := Lib.hid (And.intro hn1 hn8)
    have n1 : (1 : Int) ≤ (n : Int) := by omega
    have n8 : (n : Int) ≤ 8 := by omega
    clear hx hn1 hn8
    by_cases hlt : n ≤ 7
    · have t2 : (n : Int) ≤ 7 := by omega
      have HLT := Lib.hid hlt
      have c0 := XR.out.cell 0 _ rfl
      have c1 := XR.out.cell 1 _ rfl
      have c2 := XR.out.cell 2 _ rfl
      clear hlt
      go_wp2_with fail
      refine (make6_any view (n : Int) cv k _ _ l m wr (HV.out.later XR.out.below) (HR.out.later XR.out.below) HSM.out.1.1 (fun p hp => by
        obtain ⟨i, hi, rfl⟩ := List.getElem_of_mem hp
        have := (HSM.out.1.2.2 i hi).2
        rw [show l.getD i (0, []) = l[i] by simp [List.getD, List.getElem?_eq_getElem hi]] at this
        exact this) (by have := HM.out; omega) H64.out).mono ?_
      rintro e w4 ⟨d0, dc, e0, ec, rfl, hs4, hr4, hb4⟩
      obtain ⟨O, hO⟩ : ∃ O, onceN 3 m = O := ⟨_, rfl⟩
      have HO := Lib.hid hO
      have HOL := Lib.hid (show O.length ≤ 3 by rw [← hO]; exact onceN_len 3 m)
      obtain ⟨p, hp⟩ : ∃ p, leaderI view (n : Int) = p := ⟨_, rfl⟩
      have HP := Lib.hid hp
      rw [hO, hp]
      rw [hO] at hr4
      have X4 := Lib.hid (XR.out.on hb4)
      have A5 := Lib.hid ((Below.refl w4.heap.size w4).alloc (Nat.le_refl _) (.cells #[.int .i64 view, .int .i64 p, .int .i64 cv, .string k, .slice d0 l.length dc, .slice e0 O.length ec] 29))
      have S5 := Lib.hid (show BS w g [.int .i64 cv, .string k, .slice a0 l.length cap] w4.heap.size [.int .i64 view, .int .i64 p, .int .i64 cv, .string k, .slice d0 l.length dc, .slice e0 O.length ec] (w4.alloc (.cells #[.int .i64 view, .int .i64 p, .int .i64 cv, .string k, .slice d0 l.length dc, .slice e0 O.length ec] 29)) from
        ⟨X4.out.on A5.out, (box_mk w4 [.int .i64 view, .int .i64 p, .int .i64 cv, .string k, .slice d0 l.length dc, .slice e0 O.length ec] 29).cell, by simp⟩)
      have SS5 := Lib.hid (hs4.later A5.out)
      have SR5 := Lib.hid (hr4.later A5.out)
      clear hs4 hr4 hb4 hp hO c0 c1 c2 X4
      go_upto_region 7 with fail
      generalize w4.alloc (.cells #[.int .i64 view, .int .i64 p, .int .i64 cv, .string k, .slice d0 l.length dc, .slice e0 O.length ec] 29) = w5 at *
      obtain ⟨y, hy⟩ : ∃ y, w4.heap.size = y := ⟨_, rfl⟩
      rw [hy] at S5 ⊢
      clear hy A5
      have T8 := Lib.hid (show p = if 0 < view then view % (n : Int) else 0 by
        rw [← HP.out]; unfold leaderI
        split
        · rename_i h; rw [if_neg (by omega)]
        · rename_i h
          split
          · rfl
          · have : view = 0 := by omega
            subst this; simp)
      have CCB := Lib.hid (fun wx (hb : Below w5.heap.size w5 wx) => rcert_any cv k _ l wx (SS5.out.later hb) (by have := HSM.out; omega) HSM.out.1)
      have CCC := Lib.hid (fun wx (hb : Below w.heap.size w wx) => rcert_any cv k _ l wx (HV.out.later hb) (by have := HSM.out; omega) HSM.out.1)
      obtain ⟨CB, hCB⟩ : ∃ CB, certB cv k l = CB := ⟨_, rfl⟩
      rw [hCB] at CCB CCC
      clear hCB
      by_cases hvw : 0 < view
      · have v0 : (0 : Int) ≤ view := by omega
        have nz : ¬ (n : Int) = 0 := by omega
        have t9 : (p != view % (n : Int)) = false := by rw [T8.out, if_pos hvw]; simp
        go_upto_region 10 with fail
        obtain ⟨ld, hld⟩ : ∃ ld, view % (n : Int) = ld := ⟨_, rfl⟩
        rw [hld] at t9 ⊢
        have T9 := Lib.hid t9
        clear hld t9
        go_wp2_with fail
        refine (ronce_any m _ w5 (HR.out.later S5.out.a.below) (by have := HM.out; omega)).mono ?_
        rintro e w6 ⟨u, rfl, hu6, hb6⟩
        rw [HO.out] at hu6
        obtain ⟨u0, ucap, rfl⟩ := reqs_shape hu6
        have S6 := Lib.hid (S5.out.on hb6)
        have UU6 := Lib.hid hu6
        have SR6 := Lib.hid (SR5.out.later hb6)
        have L6 := Lib.hid hb6
        clear hb6 hu6
        go_upto_region 11 with fail
        have t9 := T9.out
        refine plan_abs (fun wx => BS w g [.int .i64 cv, .string k, .slice a0 l.length cap] y [.int .i64 view, .int .i64 p, .int .i64 cv, .string k, .slice d0 l.length dc, .slice e0 O.length ec] wx) [(true, 0), (true, 1), (true, 2), (true, 3), (true, 4), (true, 5), (true, 6), (true, 7), (true, 8), (true, 9), (true, 10), (true, 11), (true, 12), (true, 14), (false, 13), (false, 15), (true, 16), (true, 17), (true, 18), (true, 19), (true, 20), (true, 21), (true, 22), (true, 23), (true, 24), (true, 25)] (by kernel_rfl) (by kernel_rfl) (fun _ _ d _ _ h => by cases d <;> exact h) fun w7 hs7 => ⟨S6.out.same hs7, ?_⟩
        have S7 := Lib.hid (S6.out.same hs7)
        have L7 := Lib.hid (L6.out.trans ((hs7.below w6.heap.size).mono L6.out.size))
        have E7 := Lib.hid (hs7.below w6.heap.size)
        clear hs7
        iterate 14 (refine pl_run _ ?_ rfl rfl ?_ ?_; rotate_left; (focus (intro w' hS; obtain ⟨⟨q0, q1, q2⟩, y0, y1, y2, y3, y4, y5⟩ := cells3_6 hS; go_simp; exact rfl)); simp only [Act.put, List.setIfInBounds_toArray, List.set_cons_zero, List.set_cons_succ, List.getElem_toArray, List.getElem_cons_zero, List.getElem_cons_succ])
        refine pl_call1 _ rfl rfl (by go_simp) (CCB.out w7 L7.out) (fun w' hb => S7.out.on hb) fun w8 hb8 => ?_
        have S8 := Lib.hid (S7.out.on hb8)
        have E8 := Lib.hid (E7.out.trans (hb8.mono E7.out.size))
        clear hb8
        simp only [Act.put, List.setIfInBounds_toArray, List.set_cons_zero, List.set_cons_succ, List.getElem_toArray, List.getElem_cons_zero, List.getElem_cons_succ]
        refine pl_call1 _ rfl rfl (by go_simp) (CCC.out w8 S8.out.a.below) (fun w' hb => S8.out.on hb) fun w9 hb9 => ?_
        have S9 := Lib.hid (S8.out.on hb9)
        have UU9 := Lib.hid (UU6.out.later (E8.out.trans (hb9.mono E8.out.size)))
        have SR9 := Lib.hid (SR6.out.later (E8.out.trans (hb9.mono E8.out.size)))
        clear hb9
        simp only [Act.put, List.setIfInBounds_toArray, List.set_cons_zero, List.set_cons_succ, List.getElem_toArray, List.getElem_cons_zero, List.getElem_cons_succ]
        iterate 10 (refine pl_run _ ?_ rfl rfl ?_ ?_; rotate_left; (focus (intro w' hS; obtain ⟨⟨q0, q1, q2⟩, y0, y1, y2, y3, y4, y5⟩ := cells3_6 hS; go_simp; exact rfl)); simp only [Act.put, List.setIfInBounds_toArray, List.set_cons_zero, List.set_cons_succ, List.getElem_toArray, List.getElem_cons_zero, List.getElem_cons_succ])
        refine pl_end ?_
        go_wp2_with fail
        go_loopw [11] (fun x wx => ∃ i : Nat, i ≤ O.length ∧ x = .int .i64 (i : Int) ∧ BS w g [.int .i64 cv, .string k, .slice a0 l.length cap] y [.int .i64 view, .int .i64 p, .int .i64 cv, .string k, .slice d0 l.length dc, .slice e0 O.length ec] wx ∧ ReqsAt wx (.slice u0 O.length ucap) O ∧ ReqsAt wx (.slice e0 O.length ec) O) (fun x _ => O.length - (intOf x).toNat)
        case atStart => exact ⟨0, Nat.zero_le _, rfl, S9.out, UU9.out, SR9.out⟩
        case round =>
          obtain ⟨i, hi, rfl, hS, hU, hE⟩ := hrel
          have SI := Lib.hid hS
          have UI := Lib.hid hU
          have EI := Lib.hid hE
          have i0 : (0 : Int) ≤ (i : Int) := by omega
          have ib : (i : Int) ≤ 3 := by have := HOL.out; omega
          clear hS hU hE
          by_cases hli : i < O.length
          · have hli' : (i : Int) < (O.length : Int) := by omega
            have HLI := Lib.hid hli
            obtain ⟨x1, c1, he1, hv | ⟨b1, o1, rfl, hbw1, hcell1⟩⟩ := UI.out
            · rw [hv] at hli; simp at hli
            injection he1 with z1 _ z3
            subst z1 z3
            obtain ⟨x2, c2, he2, hv | ⟨b2, o2, rfl, hbw2, hcell2⟩⟩ := EI.out
            · rw [hv] at hli; simp at hli
            injection he2 with z1 _ z3
            subst z1 z3
            obtain ⟨p0, p1, p2⟩ := hcell1 i hli
            obtain ⟨r0', r1, r2⟩ := hcell2 i hli
            obtain ⟨⟨q0, q1, q2⟩, y0, y1, y2, y3, y4, y5⟩ := cells3_6 SI.out
            obtain ⟨rr, hrr⟩ : ∃ rr, O.getD i (0, 0, ⟨#[]⟩) = rr := ⟨_, rfl⟩
            rw [hrr] at p0 p1 p2 r0' r1 r2
            obtain ⟨c, s, t⟩ := rr
            have e1 : (c == c) = true := by simp
            have e2 : (s == s) = true := by simp
            have e3 : (t.toList == t.toList) = true := by simp
            clear hi hli hrr hcell1 hcell2 hbw1 hbw2
            go_wp2_with fail
            go_quiet (fail)
            go_wp2_with fail
            go_roundw
            case rel => exact ⟨i + 1, by have := HLI.out; omega, by go_num, SI.out.same (Same.drewN _ _), UI.out.later ((Same.drewN _ _).below _), EI.out.later ((Same.drewN _ _).below _)⟩
            case measure => have := HLI.out; simp [intOf]; omega
          · obtain rfl : i = O.length := by omega
            have hli' : ¬ (O.length : Int) < (O.length : Int) := by omega
            clear hi hli
            go_wp2_with fail
            go_roundw
            case rel => exact ⟨n + 1, by omega, by have := HLT.out; omega, by go_num, SI.out.a⟩
            case measure => have := HLT.out; simp [intOf]; omega
      · have t9 : (p != 0) = false := by rw [T8.out, if_neg hvw]; simp
        go_upto_region 10 with fail
        have T9 := Lib.hid t9
        clear t9
        go_wp2_with fail
        refine (ronce_any m _ w5 (HR.out.later S5.out.a.below) (by have := HM.out; omega)).mono ?_
        rintro e w6 ⟨u, rfl, hu6, hb6⟩
        rw [HO.out] at hu6
        obtain ⟨u0, ucap, rfl⟩ := reqs_shape hu6
        have S6 := Lib.hid (S5.out.on hb6)
        have UU6 := Lib.hid hu6
        have SR6 := Lib.hid (SR5.out.later hb6)
        have L6 := Lib.hid hb6
        clear hb6 hu6
        go_upto_region 11 with fail
        have t9 := T9.out
        refine plan_abs (fun wx => BS w g [.int .i64 cv, .string k, .slice a0 l.length cap] y [.int .i64 view, .int .i64 p, .int .i64 cv, .string k, .slice d0 l.length dc, .slice e0 O.length ec] wx) [(true, 0), (true, 1), (true, 2), (true, 3), (true, 4), (true, 5), (true, 6), (true, 7), (true, 8), (true, 9), (true, 10), (true, 11), (true, 12), (true, 14), (false, 13), (false, 15), (true, 16), (true, 17), (true, 18), (true, 19), (true, 20), (true, 21), (true, 22), (true, 23), (true, 24), (true, 25)] (by kernel_rfl) (by kernel_rfl) (fun _ _ d _ _ h => by cases d <;> exact h) fun w7 hs7 => ⟨S6.out.same hs7, ?_⟩
        have S7 := Lib.hid (S6.out.same hs7)
        have L7 := Lib.hid (L6.out.trans ((hs7.below w6.heap.size).mono L6.out.size))
        have E7 := Lib.hid (hs7.below w6.heap.size)
        clear hs7
        iterate 14 (refine pl_run _ ?_ rfl rfl ?_ ?_; rotate_left; (focus (intro w' hS; obtain ⟨⟨q0, q1, q2⟩, y0, y1, y2, y3, y4, y5⟩ := cells3_6 hS; go_simp; exact rfl)); simp only [Act.put, List.setIfInBounds_toArray, List.set_cons_zero, List.set_cons_succ, List.getElem_toArray, List.getElem_cons_zero, List.getElem_cons_succ])
        refine pl_call1 _ rfl rfl (by go_simp) (CCB.out w7 L7.out) (fun w' hb => S7.out.on hb) fun w8 hb8 => ?_
        have S8 := Lib.hid (S7.out.on hb8)
        have E8 := Lib.hid (E7.out.trans (hb8.mono E7.out.size))
        clear hb8
        simp only [Act.put, List.setIfInBounds_toArray, List.set_cons_zero, List.set_cons_succ, List.getElem_toArray, List.getElem_cons_zero, List.getElem_cons_succ]
        refine pl_call1 _ rfl rfl (by go_simp) (CCC.out w8 S8.out.a.below) (fun w' hb => S8.out.on hb) fun w9 hb9 => ?_
        have S9 := Lib.hid (S8.out.on hb9)
        have UU9 := Lib.hid (UU6.out.later (E8.out.trans (hb9.mono E8.out.size)))
        have SR9 := Lib.hid (SR6.out.later (E8.out.trans (hb9.mono E8.out.size)))
        clear hb9
        simp only [Act.put, List.setIfInBounds_toArray, List.set_cons_zero, List.set_cons_succ, List.getElem_toArray, List.getElem_cons_zero, List.getElem_cons_succ]
        iterate 10 (refine pl_run _ ?_ rfl rfl ?_ ?_; rotate_left; (focus (intro w' hS; obtain ⟨⟨q0, q1, q2⟩, y0, y1, y2, y3, y4, y5⟩ := cells3_6 hS; go_simp; exact rfl)); simp only [Act.put, List.setIfInBounds_toArray, List.set_cons_zero, List.set_cons_succ, List.getElem_toArray, List.getElem_cons_zero, List.getElem_cons_succ])
        refine pl_end ?_
        go_wp2_with fail
        go_loopw [11] (fun x wx => ∃ i : Nat, i ≤ O.length ∧ x = .int .i64 (i : Int) ∧ BS w g [.int .i64 cv, .string k, .slice a0 l.length cap] y [.int .i64 view, .int .i64 p, .int .i64 cv, .string k, .slice d0 l.length dc, .slice e0 O.length ec] wx ∧ ReqsAt wx (.slice u0 O.length ucap) O ∧ ReqsAt wx (.slice e0 O.length ec) O) (fun x _ => O.length - (intOf x).toNat)
        case atStart => exact ⟨0, Nat.zero_le _, rfl, S9.out, UU9.out, SR9.out⟩
        case round =>
          obtain ⟨i, hi, rfl, hS, hU, hE⟩ := hrel
          have SI := Lib.hid hS
          have UI := Lib.hid hU
          have EI := Lib.hid hE
          have i0 : (0 : Int) ≤ (i : Int) := by omega
          have ib : (i : Int) ≤ 3 := by have := HOL.out; omega
          clear hS hU hE
          by_cases hli : i < O.length
          · have hli' : (i : Int) < (O.length : Int) := by omega
            have HLI := Lib.hid hli
            obtain ⟨x1, c1, he1, hv | ⟨b1, o1, rfl, hbw1, hcell1⟩⟩ := UI.out
            · rw [hv] at hli; simp at hli
            injection he1 with z1 _ z3
            subst z1 z3
            obtain ⟨x2, c2, he2, hv | ⟨b2, o2, rfl, hbw2, hcell2⟩⟩ := EI.out
            · rw [hv] at hli; simp at hli
            injection he2 with z1 _ z3
            subst z1 z3
            obtain ⟨p0, p1, p2⟩ := hcell1 i hli
            obtain ⟨r0', r1, r2⟩ := hcell2 i hli
            obtain ⟨⟨q0, q1, q2⟩, y0, y1, y2, y3, y4, y5⟩ := cells3_6 SI.out
            obtain ⟨rr, hrr⟩ : ∃ rr, O.getD i (0, 0, ⟨#[]⟩) = rr := ⟨_, rfl⟩
            rw [hrr] at p0 p1 p2 r0' r1 r2
            obtain ⟨c, s, t⟩ := rr
            have e1 : (c == c) = true := by simp
            have e2 : (s == s) = true := by simp
            have e3 : (t.toList == t.toList) = true := by simp
            clear hi hli hrr hcell1 hcell2 hbw1 hbw2
            go_wp2_with fail
            go_quiet (fail)
            go_wp2_with fail
            go_roundw
            case rel => exact ⟨i + 1, by have := HLI.out; omega, by go_num, SI.out.same (Same.drewN _ _), UI.out.later ((Same.drewN _ _).below _), EI.out.later ((Same.drewN _ _).below _)⟩
            case measure => have := HLI.out; simp [intOf]; omega
          · obtain rfl : i = O.length := by omega
            have hli' : ¬ (O.length : Int) < (O.length : Int) := by omega
            clear hi hli
            go_wp2_with fail
            go_roundw
            case rel => exact ⟨n + 1, by omega, by have := HLT.out; omega, by go_num, SI.out.a⟩
            case measure => have := HLT.out; simp [intOf]; omega
    · obtain rfl : n = 8 := by have := HN1.out; omega
      have t2 : ¬ ((8 : Nat) : Int) ≤ 7 := by omega
      clear hlt
      go_wp2_with fail
      go_ret
      exact ⟨rfl, XR.out.below⟩
theorem lawn_card (view cv : Int) (k : ByteArray) (sv : Value) (l : List (Int × List ByteArray)) (rv : Value) (m : List Rq) (w : World) (hv : SigsAt w sv l) (hn : MemS l) (hk : k.size ≤ 9223372036854775807) (hr : ReqsAt w rv m) (_hm : m.length ≤ 9223372036854775807) (h64 : ∀ r ∈ m, In64 (keyR r)) (hT : Tabs w) :
    Calls Tryd.prog 3 #[.int .i64 view, .agg #[.int .i64 cv, .string k, sv], rv] w fun e w' => e = .returned (.bool true) ∧ Below w.heap.size w w' := by
  by_cases h : 20 < m.length
  · exact lawn_big view cv k sv rv l m w hv hn hk hr (Or.inl h) hT
  · rcases h2 : fewCert k l with _ | _
    · exact lawn_big view cv k sv rv l m w hv hn hk hr (Or.inr ⟨by omega, h2⟩) hT
    · exact lawn_in view cv k sv rv l m w hv hn hr h64 (by omega) h2 hT
end Go.Proofs.YtacbamfhlgchgaaDoor
