/-
  The walk of what tells whether a certificate is right.
-/
import Derived.Test.YtegkhhegapnkpaaDoorKESame
import Derived.Test.YtegkhhegapnkpaaDoorKWZeroR
open Go Go.RowKit
namespace CC
open WW BB
/-- it is right just if it is read as it was -/
theorem right_read {v : Int} {k : ByteArray} {l : List (Int × List ByteArray)} (d : CertD) (h : certRd (certB v k l) = some d) : decide (d = ((v, k), l)) = rightCert v k l := by
  obtain ⟨_, h2⟩ := certRd_sound h
  by_cases hr : rightCert v k l = true
  · have : certRd (certD ((v, k), l)) = some ((v, k), l) := certRd_put hr
    rw [show certD ((v, k), l) = certB v k l from rfl, h] at this
    injection this with this
    rw [hr, this]; simp
  · have hne : d ≠ ((v, k), l) := by rintro rfl; exact hr h2
    rw [show rightCert v k l = false by simpa using hr]; simp [hne]
theorem right_none {v : Int} {k : ByteArray} {l : List (Int × List ByteArray)} (h : certRd (certB v k l) = none) : rightCert v k l = false := by
  rcases hr : rightCert v k l with _ | _
  · rfl
  · have : certRd (certD ((v, k), l)) = some ((v, k), l) := certRd_put hr
    rw [show certD ((v, k), l) = certB v k l from rfl, h] at this
    cases this
end CC
namespace Go.Proofs.YtegkhhegapnkpaaDoor
open CC WW BB
set_option maxRecDepth 100000 in
set_option maxHeartbeats 4000000 in
theorem cright_any (v : Int) (k : ByteArray) (sv : Value) (l : List (Int × List ByteArray)) (w : World) (hv : SigsAt w sv l) (hk : k.size ≤ 1000) (hs : SmallS l) (hz : (certB v k l).size ≤ 1000000) :
    Calls Tryd.prog 154 #[.agg #[.int .i64 v, .string k, sv]] w fun e w' => e = .returned (.bool (rightCert v k l)) ∧ Below w.heap.size w w' := by
  have HV := Lib.hid hv
  have HS := Lib.hid hs
  have HK := Lib.hid hk
  have HZ := Lib.hid hz
  obtain ⟨a0, cap, rfl, _⟩ := hv
  clear hs hk hz
  obtain ⟨B, hB⟩ : ∃ B, certB v k l = B := ⟨_, rfl⟩
  obtain ⟨X, hX⟩ : ∃ X, certRd B = X := ⟨_, rfl⟩
  obtain ⟨R, hR⟩ : ∃ R, rightCert v k l = R := ⟨_, rfl⟩
  have HB := Lib.hid hB
  have HX := Lib.hid hX
  have HR := Lib.hid hR
  rw [hR]
  clear hB hX hR
  have b1 := Lib.hid ((Below.refl w.heap.size w).alloc (Nat.le_refl _) (.cells #[.int .i64 v, .string k, .slice a0 l.length cap] 24))
  have q0 := cell_new w #[.int .i64 v, .string k, .slice a0 l.length cap] 24 0 _ rfl
  have q1 := cell_new w #[.int .i64 v, .string k, .slice a0 l.length cap] 24 1 _ rfl
  have q2 := cell_new w #[.int .i64 v, .string k, .slice a0 l.length cap] 24 2 _ rfl
  go_enter Tryd.func154, Tryd.ntmps154
  go_wp2_with fail
  obtain ⟨w1, hw1⟩ : ∃ w1, w.alloc (.cells #[.int .i64 v, .string k, .slice a0 l.length cap] 24) = w1 := ⟨_, rfl⟩
  rw [hw1] at q0 q1 q2 b1 ⊢
  clear hw1
  obtain ⟨g, hg⟩ : ∃ g, w.heap.size = g := ⟨_, rfl⟩
  have HG := Lib.hid hg
  rw [hg] at q0 q1 q2 ⊢
  clear hg
  refine (cert_any v k _ l _ (HV.out.later b1.out) (by have := HK.out; omega) HS.out).mono ?_
  rintro e w2 ⟨rfl, hb2⟩
  rw [HB.out]
  have B2 := Lib.hid (b1.out.trans (hb2.mono b1.out.size))
  have q0 := (hb2.cell (p := ⟨g, 0, none⟩) (World.block_lt_of_cell? w1 _ q0)).trans q0
  have q1 := (hb2.cell (p := ⟨g, 1, none⟩) (World.block_lt_of_cell? w1 _ q1)).trans q1
  have q2 := (hb2.cell (p := ⟨g, 2, none⟩) (World.block_lt_of_cell? w1 _ q2)).trans q2
  clear hb2 b1
  go_wp2_with fail
  refine (read_cert B (by have := HZ.out; rw [← HB.out]; exact this) w2).mono ?_
  rintro e w3 ⟨he, hb3⟩
  rw [HX.out] at he
  have B3 := Lib.hid (B2.out.trans (hb3.mono B2.out.size))
  have q0 := (hb3.cell (p := ⟨g, 0, none⟩) (World.block_lt_of_cell? w2 _ q0)).trans q0
  have q1 := (hb3.cell (p := ⟨g, 1, none⟩) (World.block_lt_of_cell? w2 _ q1)).trans q1
  have q2 := (hb3.cell (p := ⟨g, 2, none⟩) (World.block_lt_of_cell? w2 _ q2)).trans q2
  clear hb3
  rcases X with _ | d
  · obtain rfl : e = .returned (.tuple #[.agg #[.int .i64 0, .string ⟨#[]⟩, .slice none 0 0], .int .i64 2]) := he
    clear q0 q1 q2
    go_wp2_with fail
    go_ret
    refine ⟨?_, B3.out.alloc B3.out.size _⟩
    rw [← HR.out, right_none (by rw [HB.out, HX.out])]; rfl
  · obtain ⟨tv, rfl, hsd⟩ := certans_some he
    have hok := (certRd_sound HX.out).2
    have hsm := right_small hok
    have HSM := Lib.hid hsm
    have HSD := Lib.hid hsd
    have HRR := Lib.hid (show decide (d = ((v, k), l)) = R by rw [← HR.out]; exact right_read d (by rw [HB.out, HX.out]))
    clear he hok hsm
    obtain ⟨⟨dv, dk⟩, dl⟩ := d
    obtain ⟨da, dcap, rfl, _⟩ := hsd
    have b4 := Lib.hid ((Below.refl w3.heap.size w3).alloc (Nat.le_refl _) (.cells #[.int .i64 dv, .string dk, .slice da dl.length dcap] 24))
    have q0 := (b4.out.cell (p := ⟨g, 0, none⟩) (World.block_lt_of_cell? w3 _ q0)).trans q0
    have q1 := (b4.out.cell (p := ⟨g, 1, none⟩) (World.block_lt_of_cell? w3 _ q1)).trans q1
    have q2 := (b4.out.cell (p := ⟨g, 2, none⟩) (World.block_lt_of_cell? w3 _ q2)).trans q2
    go_wp2_with fail
    refine (same_any dv v dk k _ _ dl l _ (HSD.out.later b4.out) (HV.out.later (B3.out.trans (b4.out.mono B3.out.size))) (by have := HSM.out.2.2.1; omega) (fun i hi => (HSM.out.1.2.2 i hi).2)).mono ?_
    rintro e w5 ⟨rfl, hb5⟩
    rw [HRR.out]
    have B5 := Lib.hid ((B3.out.trans (b4.out.mono B3.out.size)).trans (hb5.mono (Nat.le_trans B3.out.size b4.out.size)))
    clear hb5 q0 q1 q2
    go_wp2_with fail
    go_ret
    exact ⟨rfl, B5.out⟩
end Go.Proofs.YtegkhhegapnkpaaDoor
