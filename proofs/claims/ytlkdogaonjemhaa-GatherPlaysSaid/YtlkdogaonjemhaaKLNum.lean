/-
  How many are enough: the code's Faults, Quorum, Weak, Leader.
-/
import Derived.Test.YtlkdogaonjemhaaKLOpen
import Derived.BigQuiet
import Derived.WalkSmall
section
open Go Go.RowKit
namespace WW
open BB
/-- the faults that are borne -/
def faultsI (n : Int) : Int := if n < 1 then 0 else (n - 1) / 3
/-- those that are from 0 below n, each once, as they come -/
def onceStep (n : Int) (out : List Int) (x : Int) : List Int := if 0 ≤ x ∧ x < n ∧ x ∉ out then out ++ [x] else out
def onceL (l : List Int) (n : Int) : List Int := l.foldl (onceStep n) []
theorem once_snoc (l : List Int) (n : Int) (i : Nat) (h : i < l.length) : onceL (l.take (i + 1)) n = onceStep n (onceL (l.take i) n) (l.getD i 0) := by
  unfold onceL
  rw [List.take_succ_eq_append_getElem h, List.foldl_append]
  simp [List.getD, List.getElem?_eq_getElem h]
theorem step_len (n : Int) (out : List Int) (x : Int) : (onceStep n out x).length ≤ out.length + 1 := by
  unfold onceStep; split <;> simp
theorem once_len (l : List Int) (n : Int) : ∀ i, i ≤ l.length → (onceL (l.take i) n).length ≤ i := by
  intro i
  induction i with
  | zero => intro _; simp [onceL]
  | succ i ih =>
    intro h
    rw [once_snoc l n i (by omega)]
    have := step_len n (onceL (l.take i) n) (l.getD i 0)
    have := ih (by omega)
    omega
theorem ints_own {e : TypeId} {w : World} {base : Nat} {v : Value} {k : Nat} {l : List Int} (h : w.ownsRow base e 1 v k (l.map (Value.int .i64))) : IntsAt w v l := by
  have hk : l.length = k := by have := h.1; simpa using this
  rcases h.2 with ⟨rfl, h0⟩ | ⟨g, cap, cur, rfl, hg, hh, hn, hcm, hsz, htk⟩
  · have : l = [] := List.eq_nil_of_length_eq_zero (by omega)
    subst this
    exact ⟨none, 0, rfl, by simp, Or.inl rfl⟩
  · have hlt : g < w.heap.size := by
      rcases Nat.lt_or_ge g w.heap.size with h | h
      · exact h
      · rw [Array.getElem?_eq_none h] at hh; cases hh
    have hcm' : cap ≤ 9223372036854775807 := hcm
    subst hk
    refine ⟨some ⟨g, 0, none⟩, cap, rfl, by omega, Or.inr ⟨g, 0, rfl, hlt, fun i hi => ?_⟩⟩
    have h6 := congrArg (·[i]?) htk
    simp only [Nat.mul_one, List.getElem?_take, if_pos hi, Array.getElem?_toList] at h6
    unfold World.cell?
    rw [hh, Nat.zero_add]
    show cur[i]? = _
    rw [h6, List.getElem?_map, List.getElem?_eq_getElem hi]
    simp [List.getD, List.getElem?_eq_getElem hi]
theorem row_keep {w w' : World} {e : TypeId} {lo k m : Nat} {sv : Value} {xs : List Value} (h : w.ownsRow lo e k sv m xs) (hk : ∀ c, sv.ownBlock = some c → w'.heap[c]? = w.heap[c]?) : w'.ownsRow lo e k sv m xs := by
  obtain ⟨h1, h2 | ⟨g, cap, cur, hv, hb, hc, rest⟩⟩ := h
  · exact ⟨h1, Or.inl h2⟩
  · subst hv
    exact ⟨h1, Or.inr ⟨g, cap, cur, rfl, hb, (hk g rfl).trans hc, rest⟩⟩
/-- where the loop of Once stands -/
structure OnceAt (w : World) (e : TypeId) (l : List Int) (n : Int) (i : Nat) (v : Value) (wr : World) : Prop where
  below : Below w.heap.size w wr
  own : wr.ownsRow w.heap.size e 1 v (onceL (l.take i) n).length ((onceL (l.take i) n).map (Value.int .i64))
/-- how many are above x, how many are x -/
def aboveI (l : List Int) (x : Int) : Nat := l.countP (fun y => decide (x < y))
def likeI (l : List Int) (x : Int) : Nat := l.countP (fun y => decide (y = x))
/-- is x the k-th greatest? -/
def topOk (l : List Int) (k x : Int) : Bool := decide ((aboveI l x : Int) < k ∧ k ≤ (aboveI l x : Int) + (likeI l x : Int))
def topI (l : List Int) (k : Int) : Int := (l.find? (topOk l k)).getD 0
theorem above_snoc (l : List Int) (x : Int) (j : Nat) (h : j < l.length) : aboveI (l.take (j + 1)) x = aboveI (l.take j) x + if x < l.getD j 0 then 1 else 0 := by
  unfold aboveI
  rw [List.take_succ_eq_append_getElem h, List.countP_append]
  simp [List.getD, List.getElem?_eq_getElem h, List.countP_cons]
theorem like_snoc (l : List Int) (x : Int) (j : Nat) (h : j < l.length) : likeI (l.take (j + 1)) x = likeI (l.take j) x + if l.getD j 0 = x then 1 else 0 := by
  unfold likeI
  rw [List.take_succ_eq_append_getElem h, List.countP_append]
  simp [List.getD, List.getElem?_eq_getElem h, List.countP_cons]
theorem above_le (l : List Int) (x : Int) (j : Nat) : aboveI (l.take j) x ≤ l.length := by
  have := List.countP_le_length (p := fun y => decide (x < y)) (l := l.take j)
  rw [List.length_take] at this
  unfold aboveI; omega
theorem like_le (l : List Int) (x : Int) (j : Nat) : likeI (l.take j) x ≤ l.length := by
  have := List.countP_le_length (p := fun y => decide (y = x)) (l := l.take j)
  rw [List.length_take] at this
  unfold likeI; omega
theorem top_found (l : List Int) (k : Int) (i : Nat) (h : i < l.length) (hno : ∀ y ∈ l.take i, topOk l k y = false) (hy : topOk l k (l.getD i 0) = true) : topI l k = l.getD i 0 := by
  have h1 : l = l.take i ++ l.getD i 0 :: l.drop (i + 1) := by
    rw [List.getD_eq_getElem?_getD, List.getElem?_eq_getElem h]
    simp
  have h2 : List.find? (topOk l k) (l.take i) = none := by
    rw [List.find?_eq_none]; intro x hx; simp [hno x hx]
  have h3 : List.find? (topOk l k) l = some (l.getD i 0) := by
    conv => lhs; rw [h1]
    rw [List.find?_append, ← h1, h2, List.find?_cons_of_pos hy]; rfl
  rw [topI, h3]; rfl
theorem top_none (l : List Int) (k : Int) (hno : ∀ y ∈ l, topOk l k y = false) : topI l k = 0 := by
  have : l.find? (topOk l k) = none := by rw [List.find?_eq_none]; intro x hx; simp [hno x hx]
  rw [topI, this]; rfl
theorem below_drewI {B : Nat} {a w : World} (h : Below B a w) (n : Nat) : Below B a (w.drewN n) := h.trans ⟨rfl, rfl, rfl, Nat.le_refl _, fun _ _ => rfl⟩
end WW
namespace Go.Proofs.Ytlkdogaonjemhaa
open WW BB
set_option maxRecDepth 100000 in
theorem rfaults3_any (n : Int) (h : n ≤ 9223372036854775807) (w : World) : Calls Try.prog 21 #[.int .i64 n] w fun e w' => e = .returned (.int .i64 (faultsI n)) ∧ w = w' := by
  by_cases h1 : n < 1
  · rw [show faultsI n = 0 by unfold faultsI; rw [if_pos h1]]
    go_enter Try.func21, Try.ntmps21
    go_wp2_with fail
    go_ret
    exact ⟨rfl, rfl⟩
  · have E := Lib.hid (show faultsI n = (n - 1) / 3 by unfold faultsI; rw [if_neg h1])
    have h2 : 0 ≤ n - 1 := by omega
    have h3 : n - 1 ≤ 9223372036854775806 := by omega
    go_enter Try.func21, Try.ntmps21
    go_wp2_with fail
    go_ret
    exact ⟨by rw [E.out]; rfl, rfl⟩
set_option maxRecDepth 100000 in
theorem rfaults_any (n : Int) (h : n ≤ 9223372036854775807) (w : World) : Calls Try.prog 15 #[.int .i64 n] w fun e w' => e = .returned (.int .i64 (faultsI n)) ∧ w = w' := by
  by_cases h4 : n < 4
  · have E := Lib.hid (show faultsI n = 0 by unfold faultsI; split <;> omega)
    go_enter Try.func15, Try.ntmps15
    go_wp2_with fail
    go_ret
    exact ⟨by rw [E.out]; rfl, rfl⟩
  · have E := Lib.hid (show faultsI n = 1 + faultsI (n - 3) by unfold faultsI; split <;> split <;> omega)
    have F := Lib.hid (show 0 ≤ faultsI (n - 3) ∧ faultsI (n - 3) ≤ 9000000000000000000 by unfold faultsI; split <;> omega)
    have h2 : 0 ≤ n - 3 := by omega
    have h3 : n - 3 ≤ 9223372036854775806 := by omega
    go_enter Try.func15, Try.ntmps15
    go_wp2_with fail
    refine (rfaults3_any (n - 3) (by omega) w).mono ?_
    rintro e w' ⟨rfl, rfl⟩
    have f0 := F.out.1
    have f1 := F.out.2
    go_wp2_with fail
    go_ret
    exact ⟨by rw [E.out]; rfl, rfl⟩
theorem info_int : (Try.prog.info? 3).map (fun i => (i.zero, i.size, i.bytes)) = some (some (.int .i64 0), 1, 8) := by kernel_rfl
end Go.Proofs.Ytlkdogaonjemhaa
end
section
open Go Go.RowKit
namespace WW
def quorumI (n : Int) : Int := (if n < 1 then 1 else n) - faultsI n
def leaderI (v n : Int) : Int := if v < 0 ∨ n < 1 then 0 else v % n
theorem faultsI_le (n : Int) : 0 ≤ faultsI n ∧ faultsI n ≤ 3074457345618258603 ∨ 9223372036854775807 < n := by unfold faultsI; split <;> omega
theorem wf_i64 {n : Int} (h : (Lit.int .i64 n).wf = true) : -9223372036854775808 ≤ n ∧ n ≤ 9223372036854775807 := by
  simp [Lit.wf, IntKind.min, IntKind.max, IntKind.signed, IntKind.bits] at h
  omega
end WW
namespace Go.Proofs.Ytlkdogaonjemhaa
open WW BB
set_option maxRecDepth 100000 in
theorem cfaults_any (n : Int) (h : n ≤ 9223372036854775807) (w : World) : Calls Try.prog 24 #[.int .i64 n] w fun e w' => e = .returned (.int .i64 (faultsI n)) ∧ w = w' := by
  by_cases h1 : n < 1
  · have E := Lib.hid (show faultsI n = 0 by unfold faultsI; rw [if_pos h1])
    have h2 : n ≤ 1 := by omega
    go_enter Try.func24, Try.ntmps24
    go_wp2_with fail
    go_ret
    exact ⟨by rw [E.out]; rfl, rfl⟩
  · have E := Lib.hid (show faultsI n = (n - 1) / 3 by unfold faultsI; rw [if_neg h1])
    have h2 : 0 ≤ n - 1 := by omega
    have h3 : n - 1 ≤ 9223372036854775806 := by omega
    have h4 : 1 ≤ n := by omega
    go_enter Try.func24, Try.ntmps24
    go_wp2_with fail
    go_ret
    exact ⟨by rw [E.out]; rfl, rfl⟩
theorem cfaults_is (n f : Int) (hf : faultsI n = f) (h : n ≤ 9223372036854775807) (w : World) : Calls Try.prog 24 #[.int .i64 n] w fun e w' => e = .returned (.int .i64 f) ∧ w = w' := hf ▸ cfaults_any n h w
theorem rfaults_is (n f : Int) (hf : faultsI n = f) (h : n ≤ 9223372036854775807) (w : World) : Calls Try.prog 15 #[.int .i64 n] w fun e w' => e = .returned (.int .i64 f) ∧ w = w' := hf ▸ rfaults_any n h w
set_option maxRecDepth 100000 in
theorem cquorum_any (n : Int) (h : n ≤ 9223372036854775807) (w : World) : Calls Try.prog 20 #[.int .i64 n] w fun e w' => e = .returned (.int .i64 (quorumI n)) ∧ w = w' := by
  obtain ⟨f, hf⟩ : ∃ f, faultsI n = f := ⟨_, rfl⟩
  have F := Lib.hid hf
  by_cases h1 : n < 1
  · have E := Lib.hid (show quorumI n = 1 - f by unfold quorumI; rw [if_pos h1, hf])
    have f0 : 0 = f := by rw [← hf]; unfold faultsI; rw [if_pos h1]
    have h2 : n ≤ 1 := by omega
    clear hf
    subst f0
    go_enter Try.func20, Try.ntmps20
    go_wp2_with fail
    refine (cfaults_is n 0 F.out h w).mono ?_
    rintro e w' ⟨rfl, rfl⟩
    go_wp2_with fail
    go_ret
    exact ⟨by rw [E.out]; rfl, rfl⟩
  · have E := Lib.hid (show quorumI n = n - f by unfold quorumI; rw [if_neg h1, hf])
    have f0 : 0 ≤ f ∧ f ≤ n := by rw [← hf]; unfold faultsI; rw [if_neg h1]; omega
    have f1 := f0.1
    have f2 := f0.2
    have f3 : 0 ≤ n - f := by omega
    have f4 : n - f ≤ 9223372036854775807 := by omega
    have h4 : 1 ≤ n := by omega
    clear hf f0
    go_enter Try.func20, Try.ntmps20
    go_wp2_with fail
    refine (cfaults_is n f F.out h w).mono ?_
    rintro e w' ⟨rfl, rfl⟩
    go_wp2_with fail
    go_ret
    exact ⟨by rw [E.out]; rfl, rfl⟩
set_option maxRecDepth 100000 in
theorem cweak_any (n : Int) (h : n ≤ 9223372036854775807) (w : World) : Calls Try.prog 19 #[.int .i64 n] w fun e w' => e = .returned (.int .i64 (faultsI n + 1)) ∧ w = w' := by
  obtain ⟨f, hf⟩ : ∃ f, faultsI n = f := ⟨_, rfl⟩
  have F := Lib.hid hf
  have f0 : 0 ≤ f ∧ f ≤ 9223372036854775806 := by rw [← hf]; unfold faultsI; split <;> omega
  have f1 := f0.1
  have f2 := f0.2
  have f3 : f + 1 ≤ 9223372036854775807 := by omega
  rw [hf]
  clear hf f0
  go_enter Try.func19, Try.ntmps19
  go_wp2_with fail
  refine (cfaults_is n f F.out h w).mono ?_
  rintro e w' ⟨rfl, rfl⟩
  go_wp2_with fail
  go_ret
  exact ⟨rfl, rfl⟩
end Go.Proofs.Ytlkdogaonjemhaa
end
