/-
  How many are enough: the code's Faults, Quorum, Weak, Leader.
-/
import Derived.Test.YtcmgiiobjminlaaLRef
open Go Go.RowKit
namespace WW
def quorumI (n : Int) : Int := (if n < 1 then 1 else n) - faultsI n
def leaderI (v n : Int) : Int := if v < 0 ∨ n < 1 then 0 else v % n
theorem faultsI_le (n : Int) : 0 ≤ faultsI n ∧ faultsI n ≤ 3074457345618258603 ∨ 9223372036854775807 < n := by unfold faultsI; split <;> omega
theorem wf_i64 {n : Int} (h : (Lit.int .i64 n).wf = true) : -9223372036854775808 ≤ n ∧ n ≤ 9223372036854775807 := by
  simp [Lit.wf, IntKind.min, IntKind.max, IntKind.signed, IntKind.bits] at h
  omega
end WW
namespace Go.Proofs.Ytcmgiiobjminlaa
open WW BB
set_option maxRecDepth 100000 in
theorem cfaults_any (n : Int) (h : n ≤ 9223372036854775807) (w : World) : Calls Try.prog 7 #[.int .i64 n] w fun e w' => e = .returned (.int .i64 (faultsI n)) ∧ w = w' := by
  by_cases h1 : n < 1
  · have E := Lib.hid (show faultsI n = 0 by unfold faultsI; rw [if_pos h1])
    have h2 : n ≤ 1 := by omega
    go_enter Try.func7, Try.ntmps7
    go_wp2_with fail
    go_ret
    exact ⟨by rw [E.out]; rfl, rfl⟩
  · have E := Lib.hid (show faultsI n = (n - 1) / 3 by unfold faultsI; rw [if_neg h1])
    have h2 : 0 ≤ n - 1 := by omega
    have h3 : n - 1 ≤ 9223372036854775806 := by omega
    have h4 : 1 ≤ n := by omega
    go_enter Try.func7, Try.ntmps7
    go_wp2_with fail
    go_ret
    exact ⟨by rw [E.out]; rfl, rfl⟩
theorem cfaults_is (n f : Int) (hf : faultsI n = f) (h : n ≤ 9223372036854775807) (w : World) : Calls Try.prog 7 #[.int .i64 n] w fun e w' => e = .returned (.int .i64 f) ∧ w = w' := hf ▸ cfaults_any n h w
theorem rfaults_is (n f : Int) (hf : faultsI n = f) (h : n ≤ 9223372036854775807) (w : World) : Calls Try.prog 11 #[.int .i64 n] w fun e w' => e = .returned (.int .i64 f) ∧ w = w' := hf ▸ rfaults_any n h w
set_option maxRecDepth 100000 in
theorem cquorum_any (n : Int) (h : n ≤ 9223372036854775807) (w : World) : Calls Try.prog 8 #[.int .i64 n] w fun e w' => e = .returned (.int .i64 (quorumI n)) ∧ w = w' := by
  obtain ⟨f, hf⟩ : ∃ f, faultsI n = f := ⟨_, rfl⟩
  have F := Lib.hid hf
  by_cases h1 : n < 1
  · have E := Lib.hid (show quorumI n = 1 - f by unfold quorumI; rw [if_pos h1, hf])
    have f0 : 0 = f := by rw [← hf]; unfold faultsI; rw [if_pos h1]
    have h2 : n ≤ 1 := by omega
    clear hf
    subst f0
    go_enter Try.func8, Try.ntmps8
    go_wp2_with fail
    refine (cfaults_is n 0 F.out h w).mono ?_
    rintro e w' ⟨rfl, rfl⟩
    go_wp2_with fail
    go_ret
    exact ⟨by rw [E.out]; rfl, rfl⟩
  · have E := Lib.hid (show quorumI n = n - f by unfold quorumI; rw [if_neg h1, hf])
    have f0 : 0 ≤ f ∧ f ≤ n := by rw [← hf]; unfold faultsI; rw [if_neg h1]; omega
    have f1 := f0.1
    have f2 := f0.2
    have f3 : 0 ≤ n - f := by omega
    have f4 : n - f ≤ 9223372036854775807 := by omega
    have h4 : 1 ≤ n := by omega
    clear hf f0
    go_enter Try.func8, Try.ntmps8
    go_wp2_with fail
    refine (cfaults_is n f F.out h w).mono ?_
    rintro e w' ⟨rfl, rfl⟩
    go_wp2_with fail
    go_ret
    exact ⟨by rw [E.out]; rfl, rfl⟩
set_option maxRecDepth 100000 in
theorem cweak_any (n : Int) (h : n ≤ 9223372036854775807) (w : World) : Calls Try.prog 9 #[.int .i64 n] w fun e w' => e = .returned (.int .i64 (faultsI n + 1)) ∧ w = w' := by
  obtain ⟨f, hf⟩ : ∃ f, faultsI n = f := ⟨_, rfl⟩
  have F := Lib.hid hf
  have f0 : 0 ≤ f ∧ f ≤ 9223372036854775806 := by rw [← hf]; unfold faultsI; split <;> omega
  have f1 := f0.1
  have f2 := f0.2
  have f3 : f + 1 ≤ 9223372036854775807 := by omega
  rw [hf]
  clear hf f0
  go_enter Try.func9, Try.ntmps9
  go_wp2_with fail
  refine (cfaults_is n f F.out h w).mono ?_
  rintro e w' ⟨rfl, rfl⟩
  go_wp2_with fail
  go_ret
  exact ⟨rfl, rfl⟩
set_option maxRecDepth 100000 in
theorem cleader_any (v n : Int) (w : World) : Calls Try.prog 18 #[.int .i64 v, .int .i64 n] w fun e w' => e = .returned (.int .i64 (leaderI v n)) ∧ w = w' := by
  by_cases hv : v < 0
  · have E := Lib.hid (show leaderI v n = 0 by unfold leaderI; rw [if_pos (Or.inl hv)])
    go_enter Try.func18, Try.ntmps18
    go_wp2_with fail
    go_ret
    exact ⟨by rw [E.out]; rfl, rfl⟩
  · by_cases hn : n < 1
    · have E := Lib.hid (show leaderI v n = 0 by unfold leaderI; rw [if_pos (Or.inr hn)])
      go_enter Try.func18, Try.ntmps18
      go_wp2_with fail
      go_ret
      exact ⟨by rw [E.out]; rfl, rfl⟩
    · have E := Lib.hid (show leaderI v n = v % n by unfold leaderI; rw [if_neg (by omega)])
      have v0 : 0 ≤ v := by omega
      have n0 : 1 ≤ n := by omega
      have n1 : ¬ n = 0 := by omega
      have m0 : 0 ≤ v % n := Int.emod_nonneg _ n1
      have m1 : v % n < n := Int.emod_lt_of_pos _ (by omega)
      go_enter Try.func18, Try.ntmps18
      go_wp2_with fail
      go_ret
      exact ⟨by rw [E.out]; rfl, rfl⟩
end Go.Proofs.Ytcmgiiobjminlaa
