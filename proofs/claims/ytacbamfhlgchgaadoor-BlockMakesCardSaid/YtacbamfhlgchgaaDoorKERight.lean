/-
  The walk of what tells whether a certificate is right.
-/
import Derived.Test.YtacbamfhlgchgaaDoorKJRefT
import Derived.Test.YtacbamfhlgchgaaDoorKWLawB
import Derived.Test.YtacbamfhlgchgaaDoorKWFew
section
open Go Go.RowKit
namespace JJ
open WW BB
/-- it is right just if it is read as it was -/
theorem bright_read {v p cv : Int} {k : ByteArray} {l : List (Int × List ByteArray)} {m : List (Int × Int × ByteArray)} (d : BlockD) (h : blockRd (blockB v p cv k l m) = some d) : decide (d = (((v, p), ((cv, k), l)), m)) = rightBlock v p cv k l m := by
  obtain ⟨_, h2⟩ := blockRd_sound h
  by_cases hr : rightBlock v p cv k l m = true
  · have : blockRd (blockD (((v, p), ((cv, k), l)), m)) = some (((v, p), ((cv, k), l)), m) := blockRd_put hr
    rw [show blockD (((v, p), ((cv, k), l)), m) = blockB v p cv k l m from rfl, h] at this
    injection this with this
    rw [hr, this]; simp
  · have hne : d ≠ (((v, p), ((cv, k), l)), m) := by rintro rfl; exact hr h2
    rw [show rightBlock v p cv k l m = false by simpa using hr]; simp [hne]
theorem bright_none {v p cv : Int} {k : ByteArray} {l : List (Int × List ByteArray)} {m : List (Int × Int × ByteArray)} (h : blockRd (blockB v p cv k l m) = none) : rightBlock v p cv k l m = false := by
  rcases hr : rightBlock v p cv k l m with _ | _
  · rfl
  · have : blockRd (blockD (((v, p), ((cv, k), l)), m)) = some (((v, p), ((cv, k), l)), m) := blockRd_put hr
    rw [show blockD (((v, p), ((cv, k), l)), m) = blockB v p cv k l m from rfl, h] at this
    cases this
theorem six_on {w w1 w2 : World} {g : Nat} {v0 v1 v2 v3 v4 v5 : Value} (h : BoxAt w g [v0, v1, v2, v3, v4, v5] w1) (hb : Below w1.heap.size w1 w2) : w2.cell? ⟨g, 0, none⟩ = some v0 ∧ w2.cell? ⟨g, 1, none⟩ = some v1 ∧ w2.cell? ⟨g, 2, none⟩ = some v2 ∧ w2.cell? ⟨g, 3, none⟩ = some v3 ∧ w2.cell? ⟨g, 4, none⟩ = some v4 ∧ w2.cell? ⟨g, 5, none⟩ = some v5 :=
  have k := h.on hb
  ⟨k.cell 0 _ rfl, k.cell 1 _ rfl, k.cell 2 _ rfl, k.cell 3 _ rfl, k.cell 4 _ rfl, k.cell 5 _ rfl⟩
end JJ
namespace Go.Proofs.YtacbamfhlgchgaaDoor
open JJ CC WW BB
set_option maxRecDepth 100000 in
set_option maxHeartbeats 4000000 in
theorem bright_any (v p cv : Int) (k : ByteArray) (sv rv : Value) (l : List (Int × List ByteArray)) (m : List (Int × Int × ByteArray)) (w : World) (hv : SigsAt w sv l) (hr : ReqsAt w rv m) (hk : k.size ≤ 1000) (hs : SmallS l) (hm : SmallR m) (hz : (blockB v p cv k l m).size ≤ 1000000) :
    Calls Tryd.prog 19 #[.agg #[.int .i64 v, .int .i64 p, .int .i64 cv, .string k, sv, rv]] w fun e w' => e = .returned (.bool (rightBlock v p cv k l m)) ∧ Below w.heap.size w w' := by
  have HV := Lib.hid hv
  have HR := Lib.hid hr
  have HS := Lib.hid hs
  have HM := Lib.hid hm
  have HK := Lib.hid hk
  have HZ := Lib.hid hz
  obtain ⟨a0, cap, rfl, _⟩ := hv
  obtain ⟨a1, cap1, rfl, _⟩ := hr
  clear hs hk hz hm
  obtain ⟨B, hB⟩ : ∃ B, blockB v p cv k l m = B := ⟨_, rfl⟩
  obtain ⟨X, hX⟩ : ∃ X, blockRd B = X := ⟨_, rfl⟩
  obtain ⟨R, hRR⟩ : ∃ R, rightBlock v p cv k l m = R := ⟨_, rfl⟩
  have HB := Lib.hid hB
  have HX := Lib.hid hX
  have HRR := Lib.hid hRR
  rw [hRR]
  clear hB hX hRR
  have K := Lib.hid (show BoxAt w w.heap.size [.int .i64 v, .int .i64 p, .int .i64 cv, .string k, .slice a0 l.length cap, .slice a1 m.length cap1] (w.alloc (.cells #[.int .i64 v, .int .i64 p, .int .i64 cv, .string k, .slice a0 l.length cap, .slice a1 m.length cap1] 29)) from box_mk w [.int .i64 v, .int .i64 p, .int .i64 cv, .string k, .slice a0 l.length cap, .slice a1 m.length cap1] 29)
  go_enter Tryd.func19, Tryd.ntmps19
  go_wp2_with fail
  obtain ⟨w1, hw1⟩ : ∃ w1, w.alloc (.cells #[.int .i64 v, .int .i64 p, .int .i64 cv, .string k, .slice a0 l.length cap, .slice a1 m.length cap1] 29) = w1 := ⟨_, rfl⟩
  rw [hw1] at K ⊢
  clear hw1
  obtain ⟨g, hg⟩ : ∃ g, w.heap.size = g := ⟨_, rfl⟩
  have HG := Lib.hid hg
  rw [hg] at K ⊢
  clear hg
  refine (block_any v p cv k _ _ l m _ (HV.out.later K.out.below) (HR.out.later K.out.below) (by have := HK.out; omega) HS.out HM.out).mono ?_
  rintro e w2 ⟨rfl, hb2⟩
  rw [HB.out]
  have K := Lib.hid (K.out.on hb2)
  clear hb2
  go_wp2_with fail
  refine (read_block B (by have := HZ.out; rw [← HB.out]; exact this) w2).mono ?_
  rintro e w3 ⟨he, hb3⟩
  rw [HX.out] at he
  have K := Lib.hid (K.out.on hb3)
  clear hb3
  rcases X with _ | d
  · obtain rfl : e = .returned (.tuple #[.agg #[.int .i64 0, .int .i64 0, .int .i64 0, .string ⟨#[]⟩, .slice none 0 0, .slice none 0 0], .int .i64 2]) := he
    go_wp2_with fail
    go_ret
    refine ⟨?_, K.out.below.alloc K.out.below.size _⟩
    rw [← HRR.out, bright_none (by rw [HB.out, HX.out])]; rfl
  · obtain ⟨tv, ru, rfl, hsd, hrd⟩ := blockans_some he
    have hok := (blockRd_sound HX.out).2
    have HSM := Lib.hid (right_smallB hok)
    have HSD := Lib.hid hsd
    have HRD := Lib.hid hrd
    have HEQ := Lib.hid (show decide (d = (((v, p), ((cv, k), l)), m)) = R by rw [← HRR.out]; exact bright_read d (by rw [HB.out, HX.out]))
    clear he hok
    obtain ⟨⟨⟨dv, dp⟩, ⟨⟨dc, dk⟩, dl⟩⟩, dm⟩ := d
    obtain ⟨da, dcap, rfl, _⟩ := hsd
    obtain ⟨db, dcap1, rfl, _⟩ := hrd
    have b4 := Lib.hid ((Below.refl w3.heap.size w3).alloc (Nat.le_refl _) (.cells #[.int .i64 dv, .int .i64 dp, .int .i64 dc, .string dk, .slice da dl.length dcap, .slice db dm.length dcap1] 29))
    obtain ⟨q0, q1, q2, q3, q4, q5⟩ := six_on K.out b4.out
    by_cases e1 : dv = v
    · subst e1
      have t1 : (dv == dv) = true := by simp
      by_cases e2 : dp = p
      · subst e2
        have t2 : (dp == dp) = true := by simp
        go_wp2_with fail
        refine (jsame_any dc cv dk k _ _ dl l _ (HSD.out.later b4.out) (HV.out.later (K.out.below.trans (b4.out.mono K.out.below.size))) (by have := HSM.out.1.1; omega) (fun i hi => (HSM.out.1.2.2 i hi).2)).mono ?_
        rintro e w5 ⟨rfl, hb5⟩
        have K5 := Lib.hid (K.out.on (b4.out.trans (hb5.mono b4.out.size)))
        have D5 := Lib.hid ((Lib.hid (show BoxAt w3 w3.heap.size [.int .i64 dv, .int .i64 dp, .int .i64 dc, .string dk, .slice da dl.length dcap, .slice db dm.length dcap1] (w3.alloc (.cells #[.int .i64 dv, .int .i64 dp, .int .i64 dc, .string dk, .slice da dl.length dcap, .slice db dm.length dcap1] 29)) from box_mk w3 [.int .i64 dv, .int .i64 dp, .int .i64 dc, .string dk, .slice da dl.length dcap, .slice db dm.length dcap1] 29)).out.on hb5)
        clear hb5 b4 q0 q1 q2 q3 q4 q5
        by_cases e3 : ((dc, dk), dl) = ((cv, k), l)
        · have t3 : decide (((dc, dk), dl) = ((cv, k), l)) = true := by simp [e3]
          rw [t3]
          have E3 := Lib.hid e3
          clear t3 e3
          have q5 := K5.out.cell 5 _ rfl
          have d5 := D5.out.cell 5 _ rfl
          go_wp2_with fail
          refine (eqreq_any dm m _ _ _ (HRD.out.later D5.out.below) (HR.out.later K5.out.below) (by have := HSM.out.2.1.1; omega)).mono ?_
          rintro e w6 ⟨rfl, hb6⟩
          have HE := Lib.hid (show decide (dm = m) = R by rw [← HEQ.out, E3.out]; simp)
          rw [HE.out]
          have K6 := Lib.hid (K5.out.on hb6)
          clear hb6 q5 d5
          go_wp2_with fail
          go_ret
          exact ⟨rfl, by rw [HG.out]; exact HG.out ▸ K6.out.below⟩
        · have t3 : decide (((dc, dk), dl) = ((cv, k), l)) = false := by simpa using e3
          rw [t3]
          have HE := Lib.hid (show false = R by rw [← HEQ.out]; symm; rw [decide_eq_false_iff_not]; intro h; injection h with h _; injection h with _ h; exact e3 h)
          clear t3 e3
          go_wp2_with fail
          go_ret
          exact ⟨by rw [← HE.out]; rfl, by rw [HG.out]; exact HG.out ▸ K5.out.below⟩
      · have t2 : (dp == p) = false := by simpa using e2
        have HE := Lib.hid (show false = R by rw [← HEQ.out]; symm; rw [decide_eq_false_iff_not]; intro h; injection h with h _; injection h with h _; injection h with _ h; exact e2 h)
        clear e2
        go_wp2_with fail
        go_ret
        exact ⟨by rw [← HE.out]; rfl, by rw [HG.out]; exact HG.out ▸ (K.out.on b4.out).below⟩
    · have t1 : (dv == v) = false := by simpa using e1
      have HE := Lib.hid (show false = R by rw [← HEQ.out]; symm; rw [decide_eq_false_iff_not]; intro h; injection h with h _; injection h with h _; injection h with h _; exact e1 h)
      clear e1
      go_wp2_with fail
      go_ret
      exact ⟨by rw [← HE.out]; rfl, by rw [HG.out]; exact HG.out ▸ (K.out.on b4.out).below⟩
end Go.Proofs.YtacbamfhlgchgaaDoor
end
section
open Go Go.RowKit
namespace CC
open WW BB
/-- it is right just if it is read as it was -/
theorem right_read {v : Int} {k : ByteArray} {l : List (Int × List ByteArray)} (d : CertD) (h : certRd (certB v k l) = some d) : decide (d = ((v, k), l)) = rightCert v k l := by
  obtain ⟨_, h2⟩ := certRd_sound h
  by_cases hr : rightCert v k l = true
  · have : certRd (certD ((v, k), l)) = some ((v, k), l) := certRd_put hr
    rw [show certD ((v, k), l) = certB v k l from rfl, h] at this
    injection this with this
    rw [hr, this]; simp
  · have hne : d ≠ ((v, k), l) := by rintro rfl; exact hr h2
    rw [show rightCert v k l = false by simpa using hr]; simp [hne]
theorem right_none {v : Int} {k : ByteArray} {l : List (Int × List ByteArray)} (h : certRd (certB v k l) = none) : rightCert v k l = false := by
  rcases hr : rightCert v k l with _ | _
  · rfl
  · have : certRd (certD ((v, k), l)) = some ((v, k), l) := certRd_put hr
    rw [show certD ((v, k), l) = certB v k l from rfl, h] at this
    cases this
end CC
namespace Go.Proofs.YtacbamfhlgchgaaDoor
open CC WW BB
set_option maxRecDepth 100000 in
set_option maxHeartbeats 4000000 in
theorem cright_any (v : Int) (k : ByteArray) (sv : Value) (l : List (Int × List ByteArray)) (w : World) (hv : SigsAt w sv l) (hk : k.size ≤ 1000) (hs : SmallS l) (hz : (certB v k l).size ≤ 1000000) :
    Calls Tryd.prog 43 #[.agg #[.int .i64 v, .string k, sv]] w fun e w' => e = .returned (.bool (rightCert v k l)) ∧ Below w.heap.size w w' := by
  have HV := Lib.hid hv
  have HS := Lib.hid hs
  have HK := Lib.hid hk
  have HZ := Lib.hid hz
  obtain ⟨a0, cap, rfl, _⟩ := hv
  clear hs hk hz
  obtain ⟨B, hB⟩ : ∃ B, certB v k l = B := ⟨_, rfl⟩
  obtain ⟨X, hX⟩ : ∃ X, certRd B = X := ⟨_, rfl⟩
  obtain ⟨R, hR⟩ : ∃ R, rightCert v k l = R := ⟨_, rfl⟩
  have HB := Lib.hid hB
  have HX := Lib.hid hX
  have HR := Lib.hid hR
  rw [hR]
  clear hB hX hR
  have b1 := Lib.hid ((Below.refl w.heap.size w).alloc (Nat.le_refl _) (.cells #[.int .i64 v, .string k, .slice a0 l.length cap] 24))
  have q0 := cell_new w #[.int .i64 v, .string k, .slice a0 l.length cap] 24 0 _ rfl
  have q1 := cell_new w #[.int .i64 v, .string k, .slice a0 l.length cap] 24 1 _ rfl
  have q2 := cell_new w #[.int .i64 v, .string k, .slice a0 l.length cap] 24 2 _ rfl
  go_enter Tryd.func43, Tryd.ntmps43
  go_wp2_with fail
  obtain ⟨w1, hw1⟩ : ∃ w1, w.alloc (.cells #[.int .i64 v, .string k, .slice a0 l.length cap] 24) = w1 := ⟨_, rfl⟩
  rw [hw1] at q0 q1 q2 b1 ⊢
  clear hw1
  obtain ⟨g, hg⟩ : ∃ g, w.heap.size = g := ⟨_, rfl⟩
  have HG := Lib.hid hg
  rw [hg] at q0 q1 q2 ⊢
  clear hg
  refine (cert_any v k _ l _ (HV.out.later b1.out) (by have := HK.out; omega) HS.out).mono ?_
  rintro e w2 ⟨rfl, hb2⟩
  rw [HB.out]
  have B2 := Lib.hid (b1.out.trans (hb2.mono b1.out.size))
  have q0 := (hb2.cell (p := ⟨g, 0, none⟩) (World.block_lt_of_cell? w1 _ q0)).trans q0
  have q1 := (hb2.cell (p := ⟨g, 1, none⟩) (World.block_lt_of_cell? w1 _ q1)).trans q1
  have q2 := (hb2.cell (p := ⟨g, 2, none⟩) (World.block_lt_of_cell? w1 _ q2)).trans q2
  clear hb2 b1
  go_wp2_with fail
  refine (read_cert B (by have := HZ.out; rw [← HB.out]; exact this) w2).mono ?_
  rintro e w3 ⟨he, hb3⟩
  rw [HX.out] at he
  have B3 := Lib.hid (B2.out.trans (hb3.mono B2.out.size))
  have q0 := (hb3.cell (p := ⟨g, 0, none⟩) (World.block_lt_of_cell? w2 _ q0)).trans q0
  have q1 := (hb3.cell (p := ⟨g, 1, none⟩) (World.block_lt_of_cell? w2 _ q1)).trans q1
  have q2 := (hb3.cell (p := ⟨g, 2, none⟩) (World.block_lt_of_cell? w2 _ q2)).trans q2
  clear hb3
  rcases X with _ | d
  · obtain rfl : e = .returned (.tuple #[.agg #[.int .i64 0, .string ⟨#[]⟩, .slice none 0 0], .int .i64 2]) := he
    clear q0 q1 q2
    go_wp2_with fail
    go_ret
    refine ⟨?_, B3.out.alloc B3.out.size _⟩
    rw [← HR.out, right_none (by rw [HB.out, HX.out])]; rfl
  · obtain ⟨tv, rfl, hsd⟩ := certans_some he
    have hok := (certRd_sound HX.out).2
    have hsm := right_small hok
    have HSM := Lib.hid hsm
    have HSD := Lib.hid hsd
    have HRR := Lib.hid (show decide (d = ((v, k), l)) = R by rw [← HR.out]; exact right_read d (by rw [HB.out, HX.out]))
    clear he hok hsm
    obtain ⟨⟨dv, dk⟩, dl⟩ := d
    obtain ⟨da, dcap, rfl, _⟩ := hsd
    have b4 := Lib.hid ((Below.refl w3.heap.size w3).alloc (Nat.le_refl _) (.cells #[.int .i64 dv, .string dk, .slice da dl.length dcap] 24))
    have q0 := (b4.out.cell (p := ⟨g, 0, none⟩) (World.block_lt_of_cell? w3 _ q0)).trans q0
    have q1 := (b4.out.cell (p := ⟨g, 1, none⟩) (World.block_lt_of_cell? w3 _ q1)).trans q1
    have q2 := (b4.out.cell (p := ⟨g, 2, none⟩) (World.block_lt_of_cell? w3 _ q2)).trans q2
    go_wp2_with fail
    refine (same_any dv v dk k _ _ dl l _ (HSD.out.later b4.out) (HV.out.later (B3.out.trans (b4.out.mono B3.out.size))) (by have := HSM.out.2.2.1; omega) (fun i hi => (HSM.out.1.2.2 i hi).2)).mono ?_
    rintro e w5 ⟨rfl, hb5⟩
    rw [HRR.out]
    have B5 := Lib.hid ((B3.out.trans (b4.out.mono B3.out.size)).trans (hb5.mono (Nat.le_trans B3.out.size b4.out.size)))
    clear hb5 q0 q1 q2
    go_wp2_with fail
    go_ret
    exact ⟨rfl, B5.out⟩
end Go.Proofs.YtacbamfhlgchgaaDoor
end
