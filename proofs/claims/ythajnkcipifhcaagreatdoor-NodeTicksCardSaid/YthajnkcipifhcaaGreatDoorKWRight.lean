/-
  The walks of the reference's RightSig, RightCert and RightBlock.
-/
import Derived.Test.YthajnkcipifhcaaGreatDoorKWFew
import Derived.Test.YthajnkcipifhcaaGreatDoorKZMath
open Go Go.RowKit
namespace WW
open BB
/-- a right signature -/
def rightSig (f : Int) (ts : List ByteArray) : Bool := (ts.take 10).all (fun t => decide (t.size = 16)) && (decide (0 ≤ f) && decide (f < 7) && decide (ts.length ≤ 7))
end WW
namespace Go.Proofs.YthajnkcipifhcaaGreatDoor
open WW BB
set_option maxRecDepth 100000 in
set_option maxHeartbeats 2000000 in
theorem rightsig_any (f : Int) (tv : Value) (ts : List ByteArray) (w : World) (hv : StrsAt w tv ts) (hn : ts.length ≤ 9223372036854775807) :
    Calls Tryz.prog 54 #[.agg #[.int .i64 f, tv]] w fun e w' => e = .returned (.bool (rightSig f ts)) ∧ Below w.heap.size w w' := by
  obtain ⟨X, hX⟩ : ∃ X, rightSig f ts = X := ⟨_, rfl⟩
  rw [hX]
  have HX := Lib.hid hX
  have HV := Lib.hid hv
  have HN := Lib.hid hn
  obtain ⟨a0, cap, rfl, hx⟩ := hv
  clear hn hx hX
  go_enter Tryz.func54, Tryz.ntmps54
  go_wp2_with fail
  have c0 := cell_new w #[.int .i64 f, .slice a0 ts.length cap] 39 0 _ rfl
  have c1 := cell_new w #[.int .i64 f, .slice a0 ts.length cap] 39 1 _ rfl
  have b0 : Below w.heap.size w (w.alloc (.cells #[.int .i64 f, .slice a0 ts.length cap] 39)) := (Below.refl _ _).alloc (Nat.le_refl _) _
  generalize w.alloc (.cells #[.int .i64 f, .slice a0 ts.length cap] 39) = w0 at *
  have B0 := Lib.hid b0
  obtain ⟨g, hg⟩ : ∃ g, w.heap.size = g := ⟨_, rfl⟩
  rw [hg] at c0 c1 ⊢
  clear b0 hg
  go_loop [3] (fun v => ∃ i : Nat, i ≤ ts.length ∧ i ≤ 10 ∧ v = .int .i64 (i : Int) ∧ (ts.take i).all (fun t => decide (t.size = 16)) = true) (fun v => ts.length - (intOf v).toNat)
  case atStart => exact ⟨0, Nat.zero_le _, by omega, rfl, rfl⟩
  case round =>
    obtain ⟨i, hi, h20, rfl, hall⟩ := hrel
    have HALL := Lib.hid hall
    have i0 : (0 : Int) ≤ (i : Int) := by omega
    have ib : (i : Int) ≤ 10 := by omega
    clear hall
    by_cases hlt : i < ts.length
    · have hlt' : (i : Int) < (ts.length : Int) := by omega
      by_cases h2 : i < 10
      · have h2' : (i : Int) < 10 := by omega
        obtain ⟨a1, cap1, he, hv | ⟨gb, off, rfl, hbw, hcell⟩⟩ := HV.out
        · rw [hv] at hlt; simp at hlt
        injection he with e1 _ e3
        subst e1 e3
        have hcl := (B0.out.cell (p := ⟨gb, off + i, none⟩) hbw).trans (hcell i hlt)
        have HSN := Lib.hid (all_take_snoc (fun t : ByteArray => decide (t.size = 16)) ts ⟨#[]⟩ i hlt)
        obtain ⟨s, hs⟩ : ∃ s, ts.getD i ⟨#[]⟩ = s := ⟨_, rfl⟩
        rw [hs] at hcl HSN
        have HLT := Lib.hid hlt
        have H2 := Lib.hid h2
        clear hs hlt h2 hi h20 hcell hbw
        by_cases h30 : s.size = 16
        · have t1 : ((s.size : Int) != 16) = false := by rw [h30]; rfl
          have H30 := Lib.hid h30
          clear h30
          go_wp2_with fail
          go_round
          case rel => exact ⟨i + 1, by have := HLT.out; omega, by have := H2.out; omega, by go_num, by rw [HSN.out, HALL.out]; simpa using H30.out⟩
          case measure => have := HLT.out; simp [intOf]; omega
        · have t1 : ((s.size : Int) != 16) = true := by rw [bne_iff_ne]; omega
          have H30 := Lib.hid h30
          clear h30
          go_wp2_with fail
          go_ret
          refine ⟨?_, B0.out⟩
          rw [← HX.out]
          have h1 := HSN.out
          rw [show decide (s.size = 16) = false by simpa using H30.out, Bool.and_false] at h1
          have h2 := all_take_mono _ ts (i + 1) 10 (by have := H2.out; omega) h1
          unfold rightSig
          rw [h2]; rfl
      · obtain rfl : i = 10 := by omega
        have h2' : ¬ ((10 : Nat) : Int) < 10 := by omega
        have H20 := Lib.hid hlt
        clear h2 hi h20 hlt
        have hl10 : ¬ (ts.length : Int) ≤ 7 := by have := H20.out; omega
        have hfin : X = false := by
          rw [← HX.out]
          unfold rightSig
          rw [show decide (ts.length ≤ 7) = false by have := H20.out; simp; omega, Bool.and_false, Bool.and_false]
        have HFIN := Lib.hid hfin
        clear hfin
        by_cases f0 : f < 0
        · go_wp2_with fail
          go_ret
          exact ⟨by rw [HFIN.out]; rfl, B0.out⟩
        · by_cases f7 : f < 7
          · go_wp2_with fail
            go_ret
            exact ⟨by rw [HFIN.out]; rfl, B0.out⟩
          · go_wp2_with fail
            go_ret
            exact ⟨by rw [HFIN.out]; rfl, B0.out⟩
    · obtain rfl : i = ts.length := by omega
      have hlt' : ¬ (ts.length : Int) < (ts.length : Int) := by omega
      rw [List.take_length] at HALL
      have HLE := Lib.hid h20
      clear hlt hi h20
      have hX : X = (decide (0 ≤ f) && decide (f < 7) && decide (ts.length ≤ 7)) := by
        rw [← HX.out]
        unfold rightSig
        rw [List.take_of_length_le (by have := HLE.out; omega), HALL.out, Bool.true_and]
      have HX2 := Lib.hid hX
      clear hX
      by_cases f0 : f < 0
      · have e0 := Lib.hid (show decide (0 ≤ f) = false by simp; omega)
        go_wp2_with fail
        go_ret
        exact ⟨by rw [HX2.out, e0.out]; rfl, B0.out⟩
      · have e0 := Lib.hid (show decide (0 ≤ f) = true by simp; omega)
        by_cases f7 : f < 7
        · have e1 := Lib.hid (show decide (f < 7) = true by simp; omega)
          by_cases l7 : ts.length ≤ 7
          · have t1 : (ts.length : Int) ≤ 7 := by omega
            have e2 := Lib.hid (show decide (ts.length ≤ 7) = true by simpa using l7)
            clear l7
            go_wp2_with fail
            go_ret
            exact ⟨by rw [HX2.out, e0.out, e1.out, e2.out]; rfl, B0.out⟩
          · have t1 : ¬ (ts.length : Int) ≤ 7 := by omega
            have e2 := Lib.hid (show decide (ts.length ≤ 7) = false by simpa using l7)
            clear l7
            go_wp2_with fail
            go_ret
            exact ⟨by rw [HX2.out, e0.out, e1.out, e2.out]; rfl, B0.out⟩
        · have e1 := Lib.hid (show decide (f < 7) = false by simp; omega)
          go_wp2_with fail
          go_ret
          exact ⟨by rw [HX2.out, e0.out, e1.out]; rfl, B0.out⟩
end Go.Proofs.YthajnkcipifhcaaGreatDoor
