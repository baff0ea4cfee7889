/-
  The laws of layer 16, of the code that landed.
-/
import Derived.Test.YtlkdogaonjemhaaKGaTop
import Derived.Test.YtlkdogaonjemhaaKLSort
import Derived.Test.YtlkdogaonjemhaaKGaLawR
section
open Go Go.RowKit
namespace Go.Proofs.Ytlkdogaonjemhaa
open GA RR FF WW BB
set_option maxRecDepth 100000 in
set_option maxHeartbeats 4000000 in
theorem catch16 (O : Nat → Prop) (w : World) (g : Nat) (t : List Int) (h : At16 O w g t) (hi : InvG t) : Calls Try.prog 9 #[.pointer (some ⟨g, 0, none⟩)] w fun e w' => e = .returned (.int .i64 (catchG t)) ∧ Below w.heap.size w w' := by
  have HR := Lib.hid (show (if 1 ≤ faultsI (t.length : Int) + 1 ∧ faultsI (t.length : Int) + 1 ≤ (t.length : Int) then topI t (faultsI (t.length : Int) + 1) else 0) = catchG t by
    rw [if_pos (catch_room hi), catch_top hi])
  have hb : (t.length : Int) ≤ 7 := by have := hi.2.1; omega
  obtain ⟨a, h1, h2, _⟩ := h
  have H1 := Lib.hid h1
  have H2 := Lib.hid h2
  clear h1 h2 hi
  go_enter Try.func9, Try.ntmps9
  go_upto_region 1 with fail
  refine plan_abs (fun wx => Below w.heap.size w wx) [(true, 0), (true, 1), (true, 2), (true, 3), (true, 4), (true, 5), (true, 6), (true, 7), (true, 8), (false, 9), (false, 10), (true, 11)] (by kernel_rfl) (by kernel_rfl) (fun _ _ d _ _ h => by cases d <;> exact h) fun w5 hs5 => ⟨hs5.below _, ?_⟩
  have B5 := Lib.hid (hs5.below w.heap.size)
  clear hs5
  iterate 9 (refine pl_run _ ?_ rfl rfl ?_ ?_; rotate_left; (focus (intro w' hS; have c0 : w'.cell? ⟨g, 0, none⟩ = some (.slice (some ⟨a, 0, none⟩) t.length t.length) := (H1.out.below hS H1.out.lt).get 0 (by omega); go_simp; exact rfl)); simp only [Act.put, List.setIfInBounds_toArray, List.set_cons_zero, List.set_cons_succ, List.getElem_toArray, List.getElem_cons_zero, List.getElem_cons_succ])
  refine pl_call1 _ rfl rfl (by go_simp) ((cweak_any (t.length : Int) (by omega) w5).mono fun e w' ⟨h1, h2⟩ => ⟨h1, below_eq h2⟩) (fun w9 hb => (B5.out.trans (hb.mono B5.out.size))) fun w6 hb6 => ?_
  have B6 := Lib.hid (B5.out.trans (hb6.mono B5.out.size))
  clear hb6
  simp only [Act.put, List.setIfInBounds_toArray, List.set_cons_zero, List.set_cons_succ, List.getElem_toArray, List.getElem_cons_zero, List.getElem_cons_succ]
  refine pl_call1 _ rfl rfl (by go_simp) ((ctop_any t _ (faultsI (t.length : Int) + 1) w6 (ints_vw (H2.out.below B6.out H2.out.lt) (by omega)) (by omega)).mono fun e w' ⟨h1, h2⟩ => ⟨h1.trans (by rw [HR.out]), h2⟩) (fun w9 hb => (B6.out.trans (hb.mono B6.out.size))) fun w7 hb7 => ?_
  have B7 := Lib.hid (B6.out.trans (hb7.mono B6.out.size))
  clear hb7
  simp only [Act.put, List.setIfInBounds_toArray, List.set_cons_zero, List.set_cons_succ, List.getElem_toArray, List.getElem_cons_zero, List.getElem_cons_succ]
  iterate 1 (refine pl_run _ ?_ rfl rfl ?_ ?_; rotate_left; (focus (intro w' hS; go_simp; exact rfl)); simp only [Act.put, List.setIfInBounds_toArray, List.set_cons_zero, List.set_cons_succ, List.getElem_toArray, List.getElem_cons_zero, List.getElem_cons_succ])
  refine pl_end ?_
  go_wp2_with fail
  go_ret
  exact ⟨rfl, B7.out⟩
end Go.Proofs.Ytlkdogaonjemhaa
end
section
open Go Go.RowKit
namespace Go.Proofs.Ytlkdogaonjemhaa
open GA RR FF WW BB
/-- what the code's calls answer -/
def theCode16 : Code16 where
  At := At16
  keep := at16_keep
  lt := at16_lt
  new := fun w n _ => new16 w n
  put := fun O w g t x v h hi _ => put16 O w g t x v h hi
  at_ := fun O w g t x h hi _ => at16 O w g t x h hi
  in_ := fun O w g t x h hi _ => (in16 O w g t x h hi).mono fun _ _ ⟨h1, h2⟩ => ⟨h1, below_eq h2⟩
  ready := fun O w g t x h hi _ => ready16 O w g t x h hi
  catch_ := catch16
end Go.Proofs.Ytlkdogaonjemhaa
end
section
open Go Go.RowKit
namespace Go.Proofs.Ytlkdogaonjemhaa
open GA FF WW BB
theorem lawUga (a : Nat) (l : List OpG) (v : Value) (w : World) (ha : a < 256) (hv : OpsGAt w v l) (hm : MemG l) : Calls Try.prog 3 #[.int .u8 (a : Int), v] w fun e w' => e = .returned (.bool true) ∧ Below w.heap.size w w' := lawU16 theCode16 a l v w ha hv hm
theorem lawYga (a : Nat) (l : List OpG) (v : Value) (p q : Int) (w : World) (ha : a < 256) (hv : OpsGAt w v l) (hm : MemG l) (hp : -9223372036854775808 ≤ p ∧ p ≤ 9223372036854775807) (hq : -9223372036854775808 ≤ q ∧ q ≤ 9223372036854775807) : Calls Try.prog 5 #[.int .u8 (a : Int), v, .agg #[.int .i64 p, .int .i64 q]] w fun e w' => e = .returned (.bool true) ∧ Below w.heap.size w w' := lawY16 theCode16 a l v p q w ha hv hm hp hq
theorem lawPga (n : Int) (l : List OpG) (v : Value) (q : Int) (w : World) (hn : -9223372036854775808 ≤ n ∧ n ≤ 9223372036854775807) (hv : OpsGAt w v l) (hm : MemG l) (hq : -9223372036854775808 ≤ q ∧ q ≤ 9223372036854775807) : Calls Try.prog 4 #[.int .i64 n, v, .int .i64 q] w fun e w' => e = .returned (.bool true) ∧ Below w.heap.size w w' := lawP16 theCode16 n l v q w hn hv hm hq
end Go.Proofs.Ytlkdogaonjemhaa
end
