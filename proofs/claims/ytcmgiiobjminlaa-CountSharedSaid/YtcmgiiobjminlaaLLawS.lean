/-
  The walk of the law CountSizes.
-/
import Derived.Test.YtcmgiiobjminlaaLNum
open Go Go.RowKit
namespace Go.Proofs.Ytcmgiiobjminlaa
open WW BB
theorem cquorum_is (n q : Int) (hq : quorumI n = q) (h : n ≤ 9223372036854775807) (w : World) : Calls Try.prog 8 #[.int .i64 n] w fun e w' => e = .returned (.int .i64 q) ∧ w = w' := hq ▸ cquorum_any n h w
theorem cweak_is (n q : Int) (hq : faultsI n + 1 = q) (h : n ≤ 9223372036854775807) (w : World) : Calls Try.prog 9 #[.int .i64 n] w fun e w' => e = .returned (.int .i64 q) ∧ w = w' := hq ▸ cweak_any n h w
set_option maxRecDepth 100000 in
theorem awake4_any (w : World) : Calls Try.prog 10 #[] w fun e w' => e = .returned (.bool true) ∧ w = w' := by
  go_enter Try.func10, Try.ntmps10
  go_wp2_with fail
  refine (cquorum_is 4 3 (by decide) (by decide) w).mono ?_
  rintro e w' ⟨rfl, rfl⟩
  go_wp2_with fail
  refine (cweak_is 4 2 (by decide) (by decide) w).mono ?_
  rintro e w' ⟨rfl, rfl⟩
  go_wp2_with fail
  go_ret
  exact ⟨rfl, rfl⟩
set_option maxRecDepth 100000 in
set_option maxHeartbeats 2000000 in
theorem countSizes_walk (n : Int) (w : World) (hr : -9223372036854775808 ≤ n ∧ n ≤ 9223372036854775807) : Calls Try.prog 3 #[.int .i64 n] w fun e w' => e = .returned (.bool true) ∧ Below w.heap.size w w' := by
  have h := hr.2
  obtain ⟨f, hf⟩ : ∃ f, faultsI n = f := ⟨_, rfl⟩
  obtain ⟨q, hq⟩ : ∃ q, quorumI n = q := ⟨_, rfl⟩
  obtain ⟨k, hk⟩ : ∃ k, faultsI n + 1 = k := ⟨_, rfl⟩
  have F := Lib.hid hf
  have Q := Lib.hid hq
  have K := Lib.hid hk
  have f0 : 0 ≤ f := by rw [← hf]; unfold faultsI; split <;> omega
  have f1 : f ≤ 9223372036854775806 := by rw [← hf]; unfold faultsI; split <;> omega
  have k0 : k = f + 1 := by omega
  have k1 : f + 1 ≤ 9223372036854775807 := by omega
  clear hk
  subst k0
  by_cases h1 : n < 1
  · have e0 : f = 0 := by rw [← hf]; unfold faultsI; rw [if_pos h1]
    have q0 : q = 1 := by rw [← hq]; unfold quorumI; rw [if_pos h1, hf, e0]; rfl
    have h2 : n ≤ 1 := by omega
    subst e0 q0
    clear hf hq f0 f1 k1
    go_enter Try.func3, Try.ntmps3
    go_wp2_with (first
      | (go_at_call 7; refine (cfaults_is n _ F.out h _).mono ?_; rintro e w' ⟨rfl, rfl⟩)
      | (go_at_call 8; refine (cquorum_is n _ Q.out h _).mono ?_; rintro e w' ⟨rfl, rfl⟩)
      | (go_at_call 9; refine (cweak_is n _ K.out h _).mono ?_; rintro e w' ⟨rfl, rfl⟩)
      | (go_at_call 10; refine (awake4_any _).mono ?_; rintro e w' ⟨rfl, rfl⟩)
      | (go_at_call 11; refine (rfaults_is n _ F.out h _).mono ?_; rintro e w' ⟨rfl, rfl⟩))
    go_ret
    exact ⟨rfl, Below.refl _ _⟩
  · have h4 : 1 ≤ n := by omega
    have f3 : 3 * f + 1 ≤ n ∧ n < 3 * f + 4 := by rw [← hf]; unfold faultsI; rw [if_neg h1]; omega
    have q0 : q = n - f := by rw [← hq]; unfold quorumI; rw [if_neg h1, hf]
    subst q0
    have f4 := f3.1
    have f5 := f3.2
    have q1 : 0 ≤ n - f := by omega
    have q2 : n - f ≤ 9223372036854775807 := by omega
    clear hf hq f3
    by_cases hb : 1099511627776 < n
    · have hb' : ¬ n ≤ 1099511627776 := by omega
      go_enter Try.func3, Try.ntmps3
      go_wp2_with (first
        | (go_at_call 7; refine (cfaults_is n _ F.out h _).mono ?_; rintro e w' ⟨rfl, rfl⟩)
        | (go_at_call 8; refine (cquorum_is n _ Q.out h _).mono ?_; rintro e w' ⟨rfl, rfl⟩)
        | (go_at_call 9; refine (cweak_is n _ K.out h _).mono ?_; rintro e w' ⟨rfl, rfl⟩)
        | (go_at_call 10; refine (awake4_any _).mono ?_; rintro e w' ⟨rfl, rfl⟩)
        | (go_at_call 11; refine (rfaults_is n _ F.out h _).mono ?_; rintro e w' ⟨rfl, rfl⟩))
      go_ret
      exact ⟨rfl, Below.refl _ _⟩
    · have hb' : n ≤ 1099511627776 := by omega
      have g1 : f < 2 * (n - f) - n := by omega
      have g2 : 2 * (n - f) ≤ 9223372036854775807 := by omega
      have g3 : 0 ≤ 2 * (n - f) := by omega
      have g4 : 0 ≤ 2 * (n - f) - n := by omega
      have g5 : 2 * (n - f) - n ≤ 9223372036854775807 := by omega
      have g6 : 3 * f + 4 ≤ 9223372036854775807 := by omega
      go_enter Try.func3, Try.ntmps3
      go_wp2_with (first
        | (go_at_call 7; refine (cfaults_is n _ F.out h _).mono ?_; rintro e w' ⟨rfl, rfl⟩)
        | (go_at_call 8; refine (cquorum_is n _ Q.out h _).mono ?_; rintro e w' ⟨rfl, rfl⟩)
        | (go_at_call 9; refine (cweak_is n _ K.out h _).mono ?_; rintro e w' ⟨rfl, rfl⟩)
        | (go_at_call 10; refine (awake4_any _).mono ?_; rintro e w' ⟨rfl, rfl⟩)
        | (go_at_call 11; refine (rfaults_is n _ F.out h _).mono ?_; rintro e w' ⟨rfl, rfl⟩))
      go_ret
      exact ⟨rfl, Below.refl _ _⟩
end Go.Proofs.Ytcmgiiobjminlaa
