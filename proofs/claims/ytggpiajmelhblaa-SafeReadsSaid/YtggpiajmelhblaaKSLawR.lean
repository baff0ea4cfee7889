/-
  The walk of the law SafeReads.
-/
import Derived.Test.YtggpiajmelhblaaKRNear
import Derived.Test.YtggpiajmelhblaaKSSplit
import Derived.Test.YtggpiajmelhblaaKPlanS
import Derived.Test.YtggpiajmelhblaaKSSame
section
open Go Go.RowKit
namespace SS
open WW BB FF
/-- all blocks but one stay -/
def ButR (r : Nat) (w w' : World) : Prop := Keeps (fun b => b ≠ r) w w'
theorem ButR.of {r : Nat} {w w1 w2 : World} (h1 : Below w.heap.size w w1) (h2 : Upd r w1 w2) : ButR r w w2 := (Keeps.of h1).trans (Keeps.upd h2 fun _ h => h)
theorem lg_cells {w : World} {r : Nat} {s : Lg} (h : Blk w r 4 (lgRow s)) : w.cell? ⟨r, 0, none⟩ = some (.string s.safe) ∧ w.cell? ⟨r, 1, none⟩ = some (.string s.wait) ∧ w.cell? ⟨r, 2, none⟩ = some (.int .i64 s.fuse) ∧ w.cell? ⟨r, 3, none⟩ = some (.bool s.gone) := RR.cells4 h
theorem lg_set0 {w : World} {r : Nat} {s : Lg} (h : Blk w r 4 (lgRow s)) (x : ByteArray) : Blk (w.setCell ⟨r, 0, none⟩ (.string x)) r 4 (lgRow { s with safe := x }) :=
  (h.set 0 (.string x)).congr _ fun i hi => match i, hi with | 0, _ => rfl | 1, _ => rfl | 2, _ => rfl | 3, _ => rfl
theorem lg_set1 {w : World} {r : Nat} {s : Lg} (h : Blk w r 4 (lgRow s)) (x : ByteArray) : Blk (w.setCell ⟨r, 1, none⟩ (.string x)) r 4 (lgRow { s with wait := x }) :=
  (h.set 1 (.string x)).congr _ fun i hi => match i, hi with | 0, _ => rfl | 1, _ => rfl | 2, _ => rfl | 3, _ => rfl
theorem lg_set2 {w : World} {r : Nat} {s : Lg} (h : Blk w r 4 (lgRow s)) (x : Int) : Blk (w.setCell ⟨r, 2, none⟩ (.int .i64 x)) r 4 (lgRow { s with fuse := x }) :=
  (h.set 2 (.int .i64 x)).congr _ fun i hi => match i, hi with | 0, _ => rfl | 1, _ => rfl | 2, _ => rfl | 3, _ => rfl
theorem lg_set3 {w : World} {r : Nat} {s : Lg} (h : Blk w r 4 (lgRow s)) (x : Bool) : Blk (w.setCell ⟨r, 3, none⟩ (.bool x)) r 4 (lgRow { s with gone := x }) :=
  (h.set 3 (.bool x)).congr _ fun i hi => match i, hi with | 0, _ => rfl | 1, _ => rfl | 2, _ => rfl | 3, _ => rfl
theorem CC_full {b : ByteArray} (h : 0 < b.size) : b.toList.isEmpty = false := by
  cases hz : b.toList.isEmpty with
  | false => rfl
  | true =>
    rw [List.isEmpty_iff] at hz
    rw [CC.ba_toList (a := b) (b := ⟨#[]⟩) (hz.trans (by simp))] at h
    cases h
end SS
namespace Go.Proofs.Ytggpiajmelhblaa
open SS FF CC WW BB
section
variable (s : Lg) (k k5 : Nat) (b : ByteArray) (n : Int) (r : Nat) (w : World)
set_option maxRecDepth 100000 in
set_option maxHeartbeats 4000000 in
theorem do_fuse (hk : k < 256) (h5 : k % 5 = 2) (hr : Blk w r 4 (lgRow s)) :
    Calls Try.prog 10 #[.pointer (some ⟨r, 0, none⟩), .agg #[.int .u8 (k : Int), .string b, .int .i64 n]] w fun e w' => e = .returned (.int .i64 (doL s 2 b n).2) ∧ Blk w' r 4 (lgRow (doL s 2 b n).1) ∧ ButR r w w' := by
  have e1 : ((k : Nat) : Int).tmod 5 = 2 := by rw [Int.tmod_eq_emod_of_nonneg (by omega)]; omega
  have e2 : (k : Int) % 5 = 2 := by omega
  have X1 := Lib.hid ((Below.refl w.heap.size w).alloc (Nat.le_refl _) (.cells #[.int .u8 (k : Int), .string b, .int .i64 n] 33))
  have Q1 := Lib.hid (show Blk (w.alloc (.cells #[.int .u8 (k : Int), .string b, .int .i64 n] 33)) w.heap.size 3 (rowL [.int .u8 (k : Int), .string b, .int .i64 n]) from Blk.new' rfl (RR.row3_ _ _ _))
  have R1 := Lib.hid (hr.alloc (.cells #[.int .u8 (k : Int), .string b, .int .i64 n] 33))
  have HNE := Lib.hid (show r ≠ w.heap.size from by have := hr.lt; omega)
  have HK := Lib.hid hk
  obtain ⟨w0, hw0⟩ : ∃ w0, w.alloc (.cells #[.int .u8 (k : Int), .string b, .int .i64 n] 33) = w0 := ⟨_, rfl⟩
  have HW0 := Lib.hid hw0
  rw [hw0] at X1 Q1 R1
  obtain ⟨q0, q1, q2⟩ := RR.cells3 Q1.out
  obtain ⟨r0, r1, r2, r3⟩ := lg_cells R1.out
  have f0 := R1.out.frz 0
  have f1 := R1.out.frz 1
  have f2 := R1.out.frz 2
  have f3 := R1.out.frz 3
  clear hk h5 hr hw0
  cases hg : s.gone with
  | true =>
    have HD := Lib.hid (show doL s 2 b n = (s, 0) from by show (fuseL s n, (0 : Int)) = _; unfold fuseL; rw [if_pos hg])
    rw [hg] at r3
    clear hg
    go_enter Try.func10, Try.ntmps10
    go_upto_region 1 with fail
    rw [HW0.out]
    go_wp2_with fail
    go_ret
    rw [HD.out]
    exact ⟨rfl, R1.out, Keeps.of X1.out⟩
  | false =>
    have HD := Lib.hid (show doL s 2 b n = ({ s with fuse := max n (-1) }, 0) from by show (fuseL s n, (0 : Int)) = _; unfold fuseL; rw [if_neg (by rw [hg]; decide)])
    rw [hg] at r3
    have HG := Lib.hid hg
    clear hg
    go_enter Try.func10, Try.ntmps10
    go_upto_region 1 with fail
    rw [HW0.out]
    go_wp2_with fail
    go_ret
    rw [HD.out]
    exact ⟨rfl, lg_set2 R1.out _, ButR.of X1.out (Upd.set _ _ _ _)⟩
set_option maxRecDepth 100000 in
set_option maxHeartbeats 4000000 in
theorem do_crash (hk : k < 256) (h5 : k % 5 = 3) (hr : Blk w r 4 (lgRow s)) (hsz : sizeL s ≤ 1000000000) :
    Calls Try.prog 10 #[.pointer (some ⟨r, 0, none⟩), .agg #[.int .u8 (k : Int), .string b, .int .i64 n]] w fun e w' => e = .returned (.int .i64 (doL s 3 b n).2) ∧ Blk w' r 4 (lgRow (doL s 3 b n).1) ∧ ButR r w w' := by
  have e1 : ((k : Nat) : Int).tmod 5 = 3 := by rw [Int.tmod_eq_emod_of_nonneg (by omega)]; omega
  have e2 : (k : Int) % 5 = 3 := by omega
  have X1 := Lib.hid ((Below.refl w.heap.size w).alloc (Nat.le_refl _) (.cells #[.int .u8 (k : Int), .string b, .int .i64 n] 33))
  have Q1 := Lib.hid (show Blk (w.alloc (.cells #[.int .u8 (k : Int), .string b, .int .i64 n] 33)) w.heap.size 3 (rowL [.int .u8 (k : Int), .string b, .int .i64 n]) from Blk.new' rfl (RR.row3_ _ _ _))
  have R1 := Lib.hid (hr.alloc (.cells #[.int .u8 (k : Int), .string b, .int .i64 n] 33))
  have HNE := Lib.hid (show r ≠ w.heap.size from by have := hr.lt; omega)
  have HK := Lib.hid hk
  obtain ⟨w0, hw0⟩ : ∃ w0, w.alloc (.cells #[.int .u8 (k : Int), .string b, .int .i64 n] 33) = w0 := ⟨_, rfl⟩
  have HW0 := Lib.hid hw0
  rw [hw0] at X1 Q1 R1
  obtain ⟨q0, q1, q2⟩ := RR.cells3 Q1.out
  obtain ⟨r0, r1, r2, r3⟩ := lg_cells R1.out
  have f0 := R1.out.frz 0
  have f1 := R1.out.frz 1
  have f2 := R1.out.frz 2
  have f3 := R1.out.frz 3
  clear hk h5 hr hw0
  have HSZ := Lib.hid hsz
  obtain ⟨m, hm⟩ : ∃ m, s.wait.size = m := ⟨_, rfl⟩
  have HM := Lib.hid hm
  have m0 : (0 : Int) ≤ (m : Int) := by omega
  have m1 : (m : Int) ≤ 1000000000 := by unfold sizeL at hsz; omega
  have HKL := Lib.hid (keepN_le n m)
  have HKC := Lib.hid (keepN_code n m)
  clear hsz
  go_enter Try.func10, Try.ntmps10
  go_upto_region 1 with fail
  rw [HW0.out]
  go_upto_region 8 with fail
  obtain ⟨J, hJ⟩ : ∃ J, (m : Int) + 1 = J := ⟨_, rfl⟩
  have HJ := Lib.hid hJ
  obtain ⟨K, hK⟩ : ∃ K, keepN n m = K := ⟨_, rfl⟩
  have HKK := Lib.hid hK
  have hkl := HKL.out
  have hkc := HKC.out
  rw [hK] at hkl hkc
  rw [hJ] at hkc ⊢
  obtain ⟨A, hA⟩ : ∃ A, n.tmod J = A := ⟨_, rfl⟩
  rw [hA] at hkc
  have jp : 0 < J := by omega
  have a3 : -J < A := by rw [← hA]; exact Int.lt_tmod_of_pos n jp
  have a4 : A < J := by rw [← hA]; exact Int.tmod_lt_of_pos n jp
  have w1 : IntKind.i64.wrap A = A := by rw [IntKind.wrap_i64]; omega
  have w2 : IntKind.i64.wrap (A + J) = A + J := by rw [IntKind.wrap_i64]; omega
  have w3 : IntKind.i64.wrap (K : Int) = (K : Int) := by rw [IntKind.wrap_i64]; omega
  have j0 : ¬ J = 0 := by omega
  have j1 : (J == 0) = false := by rw [beq_eq_false_iff_ne]; exact j0
  have k0 : (0 : Int) ≤ (K : Int) := by omega
  have k1 : (K : Int) ≤ (s.wait.size : Int) := by rw [HM.out]; omega
  have k2 : K ≤ s.wait.size := by rw [HM.out]; exact hkl
  have z1 : ¬ 9223372036854775807 < s.safe.size + K := by
    have := HSZ.out; unfold sizeL at this
    omega
  have HKL2 := Lib.hid hkl
  have k3 : K ≤ m := hkl
  clear hJ hK hkl m0 m1 jp a3 a4
  refine tail_abs 20 (by kernel_rfl) (by kernel_rfl) fun w2' hs2 => ?_
  have X2 := Lib.hid (X1.out.trans (hs2.below _))
  have R2 := Lib.hid (R1.out.same hs2)
  obtain ⟨q0', q1', q2'⟩ := RR.cells3 (Q1.out.same hs2)
  obtain ⟨r0', r1', r2', r3'⟩ := lg_cells R2.out
  clear hs2 q0 q1 q2 r0 r1 r2 r3 f0 f1 f2 f3
  simp only [List.take_succ_cons, List.take_zero, List.drop_succ_cons, List.drop_zero]
  repeat still_step
  refine wpStill_nil ?_
  clear w1 w2 w3 j0 j1 k0 k1 k2 z1 hkc hA e1 e2
  have f0 := R2.out.frz 0
  have f1 := R2.out.frz 1
  have f2 := R2.out.frz 2
  have f3 := R2.out.frz 3
  go_wp2_with fail
  go_ret
  show _ ∧ Blk _ r 4 (lgRow (crashL s n)) ∧ _
  unfold crashL
  rw [HM.out, HKK.out]
  exact ⟨rfl, lg_set3 (lg_set2 (lg_set1 (lg_set0 R2.out _) _) _) _, ButR.of X2.out ((((Upd.set _ _ _ _).trans (Upd.set _ _ _ _)).trans (Upd.set _ _ _ _)).trans (Upd.set _ _ _ _))⟩
set_option maxRecDepth 100000 in
set_option maxHeartbeats 4000000 in
theorem do_gone0 (hk : k < 256) (h5 : k % 5 = 0) (hr : Blk w r 4 (lgRow s)) (hg : s.gone = true) :
    Calls Try.prog 10 #[.pointer (some ⟨r, 0, none⟩), .agg #[.int .u8 (k : Int), .string b, .int .i64 n]] w fun e w' => e = .returned (.int .i64 (doL s 0 b n).2) ∧ Blk w' r 4 (lgRow (doL s 0 b n).1) ∧ ButR r w w' := by
  have e1 : ((k : Nat) : Int).tmod 5 = 0 := by rw [Int.tmod_eq_emod_of_nonneg (by omega)]; omega
  have e2 : (k : Int) % 5 = 0 := by omega
  have X1 := Lib.hid ((Below.refl w.heap.size w).alloc (Nat.le_refl _) (.cells #[.int .u8 (k : Int), .string b, .int .i64 n] 33))
  have Q1 := Lib.hid (show Blk (w.alloc (.cells #[.int .u8 (k : Int), .string b, .int .i64 n] 33)) w.heap.size 3 (rowL [.int .u8 (k : Int), .string b, .int .i64 n]) from Blk.new' rfl (RR.row3_ _ _ _))
  have R1 := Lib.hid (hr.alloc (.cells #[.int .u8 (k : Int), .string b, .int .i64 n] 33))
  have HNE := Lib.hid (show r ≠ w.heap.size from by have := hr.lt; omega)
  have HK := Lib.hid hk
  obtain ⟨w0, hw0⟩ : ∃ w0, w.alloc (.cells #[.int .u8 (k : Int), .string b, .int .i64 n] 33) = w0 := ⟨_, rfl⟩
  have HW0 := Lib.hid hw0
  rw [hw0] at X1 Q1 R1
  obtain ⟨q0, q1, q2⟩ := RR.cells3 Q1.out
  obtain ⟨r0, r1, r2, r3⟩ := lg_cells R1.out
  have f0 := R1.out.frz 0
  have f1 := R1.out.frz 1
  have f2 := R1.out.frz 2
  have f3 := R1.out.frz 3
  clear hk h5 hr hw0
  rw [hg] at r3
  have HD := Lib.hid (show doL s 0 b n = (s, 8) from by show appendL s b = _; unfold appendL; exact if_pos hg)
  clear hg
  go_enter Try.func10, Try.ntmps10
  go_upto_region 1 with fail
  rw [HW0.out]
  go_wp2_with fail
  go_ret
  rw [HD.out]
  exact ⟨rfl, R1.out, Keeps.of X1.out⟩
set_option maxRecDepth 100000 in
set_option maxHeartbeats 4000000 in
theorem do_gone1 (hk : k < 256) (h5 : k % 5 = 1) (hr : Blk w r 4 (lgRow s)) (hg : s.gone = true) :
    Calls Try.prog 10 #[.pointer (some ⟨r, 0, none⟩), .agg #[.int .u8 (k : Int), .string b, .int .i64 n]] w fun e w' => e = .returned (.int .i64 (doL s 1 b n).2) ∧ Blk w' r 4 (lgRow (doL s 1 b n).1) ∧ ButR r w w' := by
  have e1 : ((k : Nat) : Int).tmod 5 = 1 := by rw [Int.tmod_eq_emod_of_nonneg (by omega)]; omega
  have e2 : (k : Int) % 5 = 1 := by omega
  have X1 := Lib.hid ((Below.refl w.heap.size w).alloc (Nat.le_refl _) (.cells #[.int .u8 (k : Int), .string b, .int .i64 n] 33))
  have Q1 := Lib.hid (show Blk (w.alloc (.cells #[.int .u8 (k : Int), .string b, .int .i64 n] 33)) w.heap.size 3 (rowL [.int .u8 (k : Int), .string b, .int .i64 n]) from Blk.new' rfl (RR.row3_ _ _ _))
  have R1 := Lib.hid (hr.alloc (.cells #[.int .u8 (k : Int), .string b, .int .i64 n] 33))
  have HNE := Lib.hid (show r ≠ w.heap.size from by have := hr.lt; omega)
  have HK := Lib.hid hk
  obtain ⟨w0, hw0⟩ : ∃ w0, w.alloc (.cells #[.int .u8 (k : Int), .string b, .int .i64 n] 33) = w0 := ⟨_, rfl⟩
  have HW0 := Lib.hid hw0
  rw [hw0] at X1 Q1 R1
  obtain ⟨q0, q1, q2⟩ := RR.cells3 Q1.out
  obtain ⟨r0, r1, r2, r3⟩ := lg_cells R1.out
  have f0 := R1.out.frz 0
  have f1 := R1.out.frz 1
  have f2 := R1.out.frz 2
  have f3 := R1.out.frz 3
  clear hk h5 hr hw0
  rw [hg] at r3
  have HD := Lib.hid (show doL s 1 b n = (s, 8) from by show syncL s = _; unfold syncL; exact if_pos hg)
  clear hg
  go_enter Try.func10, Try.ntmps10
  go_upto_region 1 with fail
  rw [HW0.out]
  go_wp2_with fail
  go_ret
  rw [HD.out]
  exact ⟨rfl, R1.out, Keeps.of X1.out⟩
set_option maxRecDepth 100000 in
set_option maxHeartbeats 4000000 in
theorem do_gone4 (hk : k < 256) (h5 : k % 5 = 4) (hr : Blk w r 4 (lgRow s)) (hg : s.gone = true) :
    Calls Try.prog 10 #[.pointer (some ⟨r, 0, none⟩), .agg #[.int .u8 (k : Int), .string b, .int .i64 n]] w fun e w' => e = .returned (.int .i64 (doL s 4 b n).2) ∧ Blk w' r 4 (lgRow (doL s 4 b n).1) ∧ ButR r w w' := by
  have e1 : ((k : Nat) : Int).tmod 5 = 4 := by rw [Int.tmod_eq_emod_of_nonneg (by omega)]; omega
  have e2 : (k : Int) % 5 = 4 := by omega
  have X1 := Lib.hid ((Below.refl w.heap.size w).alloc (Nat.le_refl _) (.cells #[.int .u8 (k : Int), .string b, .int .i64 n] 33))
  have Q1 := Lib.hid (show Blk (w.alloc (.cells #[.int .u8 (k : Int), .string b, .int .i64 n] 33)) w.heap.size 3 (rowL [.int .u8 (k : Int), .string b, .int .i64 n]) from Blk.new' rfl (RR.row3_ _ _ _))
  have R1 := Lib.hid (hr.alloc (.cells #[.int .u8 (k : Int), .string b, .int .i64 n] 33))
  have HNE := Lib.hid (show r ≠ w.heap.size from by have := hr.lt; omega)
  have HK := Lib.hid hk
  obtain ⟨w0, hw0⟩ : ∃ w0, w.alloc (.cells #[.int .u8 (k : Int), .string b, .int .i64 n] 33) = w0 := ⟨_, rfl⟩
  have HW0 := Lib.hid hw0
  rw [hw0] at X1 Q1 R1
  obtain ⟨q0, q1, q2⟩ := RR.cells3 Q1.out
  obtain ⟨r0, r1, r2, r3⟩ := lg_cells R1.out
  have f0 := R1.out.frz 0
  have f1 := R1.out.frz 1
  have f2 := R1.out.frz 2
  have f3 := R1.out.frz 3
  clear hk h5 hr hw0
  rw [hg] at r3
  have HD := Lib.hid (show doL s 4 b n = (s, 8) from by show cutA s = _; unfold cutA; exact if_pos hg)
  clear hg
  go_enter Try.func10, Try.ntmps10
  go_upto_region 1 with fail
  rw [HW0.out]
  go_wp2_with fail
  go_ret
  rw [HD.out]
  exact ⟨rfl, R1.out, Keeps.of X1.out⟩
set_option maxRecDepth 100000 in
set_option maxHeartbeats 4000000 in
theorem do_arg (hk : k < 256) (h5 : k % 5 = 0) (hr : Blk w r 4 (lgRow s)) (hg : s.gone = false) (hb : b.size = 0 ∨ 4000 < b.size) :
    Calls Try.prog 10 #[.pointer (some ⟨r, 0, none⟩), .agg #[.int .u8 (k : Int), .string b, .int .i64 n]] w fun e w' => e = .returned (.int .i64 (doL s 0 b n).2) ∧ Blk w' r 4 (lgRow (doL s 0 b n).1) ∧ ButR r w w' := by
  have e1 : ((k : Nat) : Int).tmod 5 = 0 := by rw [Int.tmod_eq_emod_of_nonneg (by omega)]; omega
  have e2 : (k : Int) % 5 = 0 := by omega
  have X1 := Lib.hid ((Below.refl w.heap.size w).alloc (Nat.le_refl _) (.cells #[.int .u8 (k : Int), .string b, .int .i64 n] 33))
  have Q1 := Lib.hid (show Blk (w.alloc (.cells #[.int .u8 (k : Int), .string b, .int .i64 n] 33)) w.heap.size 3 (rowL [.int .u8 (k : Int), .string b, .int .i64 n]) from Blk.new' rfl (RR.row3_ _ _ _))
  have R1 := Lib.hid (hr.alloc (.cells #[.int .u8 (k : Int), .string b, .int .i64 n] 33))
  have HNE := Lib.hid (show r ≠ w.heap.size from by have := hr.lt; omega)
  have HK := Lib.hid hk
  obtain ⟨w0, hw0⟩ : ∃ w0, w.alloc (.cells #[.int .u8 (k : Int), .string b, .int .i64 n] 33) = w0 := ⟨_, rfl⟩
  have HW0 := Lib.hid hw0
  rw [hw0] at X1 Q1 R1
  obtain ⟨q0, q1, q2⟩ := RR.cells3 Q1.out
  obtain ⟨r0, r1, r2, r3⟩ := lg_cells R1.out
  have f0 := R1.out.frz 0
  have f1 := R1.out.frz 1
  have f2 := R1.out.frz 2
  have f3 := R1.out.frz 3
  clear hk h5 hr hw0
  rw [hg] at r3
  have HD := Lib.hid (show doL s 0 b n = (s, 1) from by show appendL s b = _; unfold appendL; rw [if_neg (by rw [hg]; decide), if_pos hb])
  clear hg
  by_cases h0 : b.size = 0
  · have t1 : b.toList.isEmpty = true := by rw [ba_nil h0]; simp
    have t2 : b.toList = [] := by rw [ba_nil h0]; simp
    clear h0 hb
    go_enter Try.func10, Try.ntmps10
    go_upto_region 1 with fail
    rw [HW0.out]
    go_wp2_with fail
    go_ret
    rw [HD.out]
    exact ⟨rfl, R1.out, Keeps.of X1.out⟩
  · have hb : 4000 < b.size := by omega
    have t1 : b.toList.isEmpty = false := CC_full (by omega)
    have t2 : ¬ b.toList = [] := fun h => by rw [h] at t1; cases t1
    have t3 : (4000 : Int) < (b.size : Int) := by omega
    clear h0 hb
    go_enter Try.func10, Try.ntmps10
    go_upto_region 1 with fail
    rw [HW0.out]
    go_wp2_with fail
    go_ret
    rw [HD.out]
    exact ⟨rfl, R1.out, Keeps.of X1.out⟩
set_option maxRecDepth 100000 in
set_option maxHeartbeats 4000000 in
theorem do_lost0 (hk : k < 256) (h5 : k % 5 = 0) (hr : Blk w r 4 (lgRow s)) (hg : s.gone = false) (hb : ¬ (b.size = 0 ∨ 4000 < b.size)) (hf : s.fuse = 0) :
    Calls Try.prog 10 #[.pointer (some ⟨r, 0, none⟩), .agg #[.int .u8 (k : Int), .string b, .int .i64 n]] w fun e w' => e = .returned (.int .i64 (doL s 0 b n).2) ∧ Blk w' r 4 (lgRow (doL s 0 b n).1) ∧ ButR r w w' := by
  have e1 : ((k : Nat) : Int).tmod 5 = 0 := by rw [Int.tmod_eq_emod_of_nonneg (by omega)]; omega
  have e2 : (k : Int) % 5 = 0 := by omega
  have X1 := Lib.hid ((Below.refl w.heap.size w).alloc (Nat.le_refl _) (.cells #[.int .u8 (k : Int), .string b, .int .i64 n] 33))
  have Q1 := Lib.hid (show Blk (w.alloc (.cells #[.int .u8 (k : Int), .string b, .int .i64 n] 33)) w.heap.size 3 (rowL [.int .u8 (k : Int), .string b, .int .i64 n]) from Blk.new' rfl (RR.row3_ _ _ _))
  have R1 := Lib.hid (hr.alloc (.cells #[.int .u8 (k : Int), .string b, .int .i64 n] 33))
  have HNE := Lib.hid (show r ≠ w.heap.size from by have := hr.lt; omega)
  have HK := Lib.hid hk
  obtain ⟨w0, hw0⟩ : ∃ w0, w.alloc (.cells #[.int .u8 (k : Int), .string b, .int .i64 n] 33) = w0 := ⟨_, rfl⟩
  have HW0 := Lib.hid hw0
  rw [hw0] at X1 Q1 R1
  obtain ⟨q0, q1, q2⟩ := RR.cells3 Q1.out
  obtain ⟨r0, r1, r2, r3⟩ := lg_cells R1.out
  have f0 := R1.out.frz 0
  have f1 := R1.out.frz 1
  have f2 := R1.out.frz 2
  have f3 := R1.out.frz 3
  clear hk h5 hr hw0
  rw [hg] at r3
  rw [hf] at r2
  have HD := Lib.hid (show doL s 0 b n = ({ s with gone := true }, 8) from by show appendL s b = _; unfold appendL; rw [if_neg (by rw [hg]; decide), if_neg hb, if_pos hf])
  have t1 : b.toList.isEmpty = false := CC_full (by omega)
  have t2 : ¬ b.toList = [] := fun h => by rw [h] at t1; cases t1
  have t3 : ¬ (4000 : Int) < (b.size : Int) := by omega
  clear hb
  clear hg hf
  go_enter Try.func10, Try.ntmps10
  go_upto_region 1 with fail
  rw [HW0.out]
  go_wp2_with fail
  go_ret
  rw [HD.out]
  exact ⟨rfl, lg_set3 R1.out _, ButR.of X1.out (Upd.set _ _ _ _)⟩
set_option maxRecDepth 100000 in
set_option maxHeartbeats 4000000 in
theorem do_lost1 (hk : k < 256) (h5 : k % 5 = 1) (hr : Blk w r 4 (lgRow s)) (hg : s.gone = false) (hf : s.fuse = 0) :
    Calls Try.prog 10 #[.pointer (some ⟨r, 0, none⟩), .agg #[.int .u8 (k : Int), .string b, .int .i64 n]] w fun e w' => e = .returned (.int .i64 (doL s 1 b n).2) ∧ Blk w' r 4 (lgRow (doL s 1 b n).1) ∧ ButR r w w' := by
  have e1 : ((k : Nat) : Int).tmod 5 = 1 := by rw [Int.tmod_eq_emod_of_nonneg (by omega)]; omega
  have e2 : (k : Int) % 5 = 1 := by omega
  have X1 := Lib.hid ((Below.refl w.heap.size w).alloc (Nat.le_refl _) (.cells #[.int .u8 (k : Int), .string b, .int .i64 n] 33))
  have Q1 := Lib.hid (show Blk (w.alloc (.cells #[.int .u8 (k : Int), .string b, .int .i64 n] 33)) w.heap.size 3 (rowL [.int .u8 (k : Int), .string b, .int .i64 n]) from Blk.new' rfl (RR.row3_ _ _ _))
  have R1 := Lib.hid (hr.alloc (.cells #[.int .u8 (k : Int), .string b, .int .i64 n] 33))
  have HNE := Lib.hid (show r ≠ w.heap.size from by have := hr.lt; omega)
  have HK := Lib.hid hk
  obtain ⟨w0, hw0⟩ : ∃ w0, w.alloc (.cells #[.int .u8 (k : Int), .string b, .int .i64 n] 33) = w0 := ⟨_, rfl⟩
  have HW0 := Lib.hid hw0
  rw [hw0] at X1 Q1 R1
  obtain ⟨q0, q1, q2⟩ := RR.cells3 Q1.out
  obtain ⟨r0, r1, r2, r3⟩ := lg_cells R1.out
  have f0 := R1.out.frz 0
  have f1 := R1.out.frz 1
  have f2 := R1.out.frz 2
  have f3 := R1.out.frz 3
  clear hk h5 hr hw0
  rw [hg] at r3
  rw [hf] at r2
  have HD := Lib.hid (show doL s 1 b n = ({ s with gone := true }, 8) from by show syncL s = _; unfold syncL; rw [if_neg (by rw [hg]; decide), if_pos hf])
  clear hg hf
  go_enter Try.func10, Try.ntmps10
  go_upto_region 1 with fail
  rw [HW0.out]
  go_wp2_with fail
  go_ret
  rw [HD.out]
  exact ⟨rfl, lg_set3 R1.out _, ButR.of X1.out (Upd.set _ _ _ _)⟩
end
end Go.Proofs.Ytggpiajmelhblaa
end
section
open Go Go.RowKit
namespace Go.Proofs.Ytggpiajmelhblaa
open SS FF CC WW BB
section
variable (s : Lg) (k k5 : Nat) (b : ByteArray) (n : Int) (r : Nat) (w : World)
set_option maxRecDepth 100000 in
set_option maxHeartbeats 4000000 in
theorem do_sync (hk : k < 256) (h5 : k % 5 = 1) (hr : Blk w r 4 (lgRow s)) (hg : s.gone = false) (hf : s.fuse ≠ 0) (hfu : s.fuse ≤ 9223372036854775807) (hsz : sizeL s ≤ 1000000000) :
    Calls Try.prog 10 #[.pointer (some ⟨r, 0, none⟩), .agg #[.int .u8 (k : Int), .string b, .int .i64 n]] w fun e w' => e = .returned (.int .i64 (doL s 1 b n).2) ∧ Blk w' r 4 (lgRow (doL s 1 b n).1) ∧ ButR r w w' := by
  have e1 : ((k : Nat) : Int).tmod 5 = 1 := by rw [Int.tmod_eq_emod_of_nonneg (by omega)]; omega
  have e2 : (k : Int) % 5 = 1 := by omega
  have X1 := Lib.hid ((Below.refl w.heap.size w).alloc (Nat.le_refl _) (.cells #[.int .u8 (k : Int), .string b, .int .i64 n] 33))
  have Q1 := Lib.hid (show Blk (w.alloc (.cells #[.int .u8 (k : Int), .string b, .int .i64 n] 33)) w.heap.size 3 (rowL [.int .u8 (k : Int), .string b, .int .i64 n]) from Blk.new' rfl (RR.row3_ _ _ _))
  have R1 := Lib.hid (hr.alloc (.cells #[.int .u8 (k : Int), .string b, .int .i64 n] 33))
  have HNE := Lib.hid (show r ≠ w.heap.size from by have := hr.lt; omega)
  have HK := Lib.hid hk
  obtain ⟨w0, hw0⟩ : ∃ w0, w.alloc (.cells #[.int .u8 (k : Int), .string b, .int .i64 n] 33) = w0 := ⟨_, rfl⟩
  have HW0 := Lib.hid hw0
  rw [hw0] at X1 Q1 R1
  obtain ⟨q0, q1, q2⟩ := RR.cells3 Q1.out
  obtain ⟨r0, r1, r2, r3⟩ := lg_cells R1.out
  have f0 := R1.out.frz 0
  have f1 := R1.out.frz 1
  have f2 := R1.out.frz 2
  have f3 := R1.out.frz 3
  clear hk h5 hr hw0
  rw [hg] at r3
  have t4 : (s.fuse == 0) = false := by rw [beq_eq_false_iff_ne]; exact hf
  have t5 : ¬ s.fuse = 0 := hf
  have HD := Lib.hid (show doL s 1 b n = ({ burnL s with safe := s.safe ++ s.wait, wait := ⟨#[]⟩ }, 0) from by show syncL s = _; unfold syncL; rw [if_neg (by rw [hg]; decide), if_neg hf])
  have HFU := Lib.hid hfu
  have HSZ := Lib.hid hsz
  clear hg hf hfu hsz
  go_enter Try.func10, Try.ntmps10
  go_upto_region 1 with fail
  rw [HW0.out]
  go_upto_if 129 with fail
  go_cut [4] from 125 to 136 (fun s4 wx => s4 = .int .i64 0 ∧ Blk wx r 4 (lgRow (burnL s)) ∧ Upd r w0 wx)
  case first =>
    by_cases h0 : 0 < s.fuse
    · have HB := Lib.hid (show burnL s = { s with fuse := s.fuse - 1 } from if_pos h0)
      have u1 : decide (0 < s.fuse) = true := decide_eq_true h0
      have HS1 := Lib.hid (show IntKind.i64.wrap (s.fuse - 1) = s.fuse - 1 by rw [IntKind.wrap_i64]; have := HFU.out; omega)
      have u2 : 0 ≤ s.fuse - 1 := by omega
      have u3 : s.fuse ≤ 9223372036854775807 := HFU.out
      go_wp2_with fail
      go_meet
      rw [HB.out]
      exact ⟨rfl, lg_set2 R1.out _, Upd.set _ _ _ _⟩
    · have HB := Lib.hid (show burnL s = s from if_neg h0)
      have u1 : decide (0 < s.fuse) = false := decide_eq_false h0
      go_wp2_with fail
      go_meet
      rw [HB.out]
      exact ⟨rfl, R1.out, Upd.refl _ _⟩
  case rest =>
    obtain ⟨rfl, hbk, hup⟩ := hcut
    have RB := Lib.hid hbk
    have UB := Lib.hid hup
    have QB := Lib.hid (Q1.out.upd hup (fun e => HNE.out e.symm))
    clear hbk hup q0 q1 q2 r0 r1 r2 r3 f0 f1 f2 f3
    obtain ⟨q0, q1, q2⟩ := RR.cells3 QB.out
    have hbs := burn_same s
    obtain ⟨s', hs'⟩ : ∃ s', burnL s = s' := ⟨_, rfl⟩
    have HSS := Lib.hid hs'
    rw [hs'] at RB hbs
    have HBS := Lib.hid hbs
    clear hs' hbs
    have z1 : ¬ 9223372036854775807 < s'.safe.size + s'.wait.size := by
      have := HSZ.out; unfold sizeL at this
      rw [HBS.out.1, HBS.out.2.1]; omega
    go_upto_region 32 with fail
    refine tail_abs 11 (by kernel_rfl) (by kernel_rfl) fun w2' hs2 => ?_
    have X2 := Lib.hid (UB.out.trans (hs2.upd r))
    have R2 := Lib.hid (RB.out.same hs2)
    obtain ⟨r0', r1', r2', r3'⟩ := lg_cells R2.out
    clear hs2
    simp only [List.take_succ_cons, List.take_zero, List.drop_succ_cons, List.drop_zero]
    repeat still_step
    refine wpStill_nil ?_
    have f0 := R2.out.frz 0
    have f1 := R2.out.frz 1
    go_wp2_with fail
    go_ret
    rw [HD.out, HSS.out]
    refine ⟨rfl, ?_, ButR.of X1.out (X2.out.trans ((Upd.set _ _ _ _).trans (Upd.set _ _ _ _)))⟩
    have h := lg_set1 (lg_set0 R2.out (s'.safe ++ s'.wait)) ⟨#[]⟩
    rw [HBS.out.1, HBS.out.2.1] at h
    rw [HBS.out.1, HBS.out.2.1]
    exact h
set_option maxRecDepth 100000 in
set_option maxHeartbeats 4000000 in
theorem do_append (hk : k < 256) (h5 : k % 5 = 0) (hr : Blk w r 4 (lgRow s)) (hg : s.gone = false) (hb : ¬ (b.size = 0 ∨ 4000 < b.size)) (hf : s.fuse ≠ 0) (hfu : s.fuse ≤ 9223372036854775807) (hsz : sizeL s ≤ 1000000000) :
    Calls Try.prog 10 #[.pointer (some ⟨r, 0, none⟩), .agg #[.int .u8 (k : Int), .string b, .int .i64 n]] w fun e w' => e = .returned (.int .i64 (doL s 0 b n).2) ∧ Blk w' r 4 (lgRow (doL s 0 b n).1) ∧ ButR r w w' := by
  have e1 : ((k : Nat) : Int).tmod 5 = 0 := by rw [Int.tmod_eq_emod_of_nonneg (by omega)]; omega
  have e2 : (k : Int) % 5 = 0 := by omega
  have X1 := Lib.hid ((Below.refl w.heap.size w).alloc (Nat.le_refl _) (.cells #[.int .u8 (k : Int), .string b, .int .i64 n] 33))
  have Q1 := Lib.hid (show Blk (w.alloc (.cells #[.int .u8 (k : Int), .string b, .int .i64 n] 33)) w.heap.size 3 (rowL [.int .u8 (k : Int), .string b, .int .i64 n]) from Blk.new' rfl (RR.row3_ _ _ _))
  have R1 := Lib.hid (hr.alloc (.cells #[.int .u8 (k : Int), .string b, .int .i64 n] 33))
  have HNE := Lib.hid (show r ≠ w.heap.size from by have := hr.lt; omega)
  have HK := Lib.hid hk
  obtain ⟨w0, hw0⟩ : ∃ w0, w.alloc (.cells #[.int .u8 (k : Int), .string b, .int .i64 n] 33) = w0 := ⟨_, rfl⟩
  have HW0 := Lib.hid hw0
  rw [hw0] at X1 Q1 R1
  obtain ⟨q0, q1, q2⟩ := RR.cells3 Q1.out
  obtain ⟨r0, r1, r2, r3⟩ := lg_cells R1.out
  have f0 := R1.out.frz 0
  have f1 := R1.out.frz 1
  have f2 := R1.out.frz 2
  have f3 := R1.out.frz 3
  clear hk h5 hr hw0
  rw [hg] at r3
  have t4 : (s.fuse == 0) = false := by rw [beq_eq_false_iff_ne]; exact hf
  have t5 : ¬ s.fuse = 0 := hf
  have HD := Lib.hid (show doL s 0 b n = ({ burnL s with wait := s.wait ++ txt b }, 0) from by show appendL s b = _; unfold appendL; rw [if_neg (by rw [hg]; decide), if_neg hb, if_neg hf])
  have HFU := Lib.hid hfu
  have HSZ := Lib.hid hsz
  have HBZ := Lib.hid (show b.size ≤ 1000000 by omega)
  have HBF := Lib.hid (show b.size ≤ 4000 by omega)
  have t1 : b.toList.isEmpty = false := CC_full (by omega)
  have t2 : ¬ b.toList = [] := fun h => by rw [h] at t1; cases t1
  have t3 : ¬ (4000 : Int) < (b.size : Int) := by omega
  clear hg hb hf hfu hsz
  go_enter Try.func10, Try.ntmps10
  go_upto_region 1 with fail
  rw [HW0.out]
  go_upto_if 129 with fail
  go_cut [4] from 125 to 136 (fun s4 wx => s4 = .int .i64 0 ∧ Blk wx r 4 (lgRow (burnL s)) ∧ Upd r w0 wx)
  case first =>
    by_cases h0 : 0 < s.fuse
    · have HB := Lib.hid (show burnL s = { s with fuse := s.fuse - 1 } from if_pos h0)
      have u1 : decide (0 < s.fuse) = true := decide_eq_true h0
      have HS1 := Lib.hid (show IntKind.i64.wrap (s.fuse - 1) = s.fuse - 1 by rw [IntKind.wrap_i64]; have := HFU.out; omega)
      have u2 : 0 ≤ s.fuse - 1 := by omega
      have u3 : s.fuse ≤ 9223372036854775807 := HFU.out
      go_wp2_with fail
      go_meet
      rw [HB.out]
      exact ⟨rfl, lg_set2 R1.out _, Upd.set _ _ _ _⟩
    · have HB := Lib.hid (show burnL s = s from if_neg h0)
      have u1 : decide (0 < s.fuse) = false := decide_eq_false h0
      go_wp2_with fail
      go_meet
      rw [HB.out]
      exact ⟨rfl, R1.out, Upd.refl _ _⟩
  case rest =>
    obtain ⟨rfl, hbk, hup⟩ := hcut
    have RB := Lib.hid hbk
    have UB := Lib.hid hup
    have QB := Lib.hid (Q1.out.upd hup (fun e => HNE.out e.symm))
    clear hbk hup q0 q1 q2 r0 r1 r2 r3 f0 f1 f2 f3
    obtain ⟨q0, q1, q2⟩ := RR.cells3 QB.out
    have hbs := burn_same s
    obtain ⟨s', hs'⟩ : ∃ s', burnL s = s' := ⟨_, rfl⟩
    have HSS := Lib.hid hs'
    rw [hs'] at RB hbs
    have HBS := Lib.hid hbs
    clear hs' hbs
    have z1 : ¬ 9223372036854775807 < s'.safe.size + s'.wait.size := by
      have := HSZ.out; unfold sizeL at this
      rw [HBS.out.1, HBS.out.2.1]; omega
    clear z1
    have z1 : ¬ 9223372036854775807 < s'.wait.size + (txt b).size := by
      have := HSZ.out; unfold sizeL at this
      rw [HBS.out.2.1, txt_size]; have := HBF.out; omega
    have HSC := Lib.hid (fun (wx : World) (hb : Below wc.heap.size wc wx) => And.intro (show wx.cell? ⟨r, 1, none⟩ = some (.string s'.wait) from (lg_cells (RB.out.below hb RB.out.lt)).2.1) (show wx.cell? ⟨w.heap.size, 1, none⟩ = some (.string b) from (RR.cells3 (QB.out.below hb QB.out.lt)).2.1))
    go_upto_region 30 with fail
    refine planE_abs (fun wx => Below wc.heap.size wc wx) 10 [(true, 0), (true, 1), (true, 2), (true, 3), (true, 4), (true, 5), (false, 6), (true, 7), (false, 8), (false, 9), (false, 10)] (by kernel_rfl) (by kernel_rfl) (fun _ _ d _ _ h => by cases d <;> exact h) fun w5 hs5 => ⟨hs5.below _, ?_⟩
    have Y5 := Lib.hid (show Below wc.heap.size wc w5 from hs5.below _)
    clear hs5
    iterate 6 (refine pe_run _ ?_ rfl rfl ?_ ?_; rotate_left; (focus (intro w' hS; obtain ⟨c0, c1⟩ := HSC.out w' hS; go_simp; exact rfl)); simp only [Act.put, List.setIfInBounds_toArray, List.set_cons_zero, List.set_cons_succ, List.getElem_toArray, List.getElem_cons_zero, List.getElem_cons_succ])
    refine pe_call (R := fun v w' => v = .string (txt b) ∧ Below w5.heap.size w5 w') _ rfl rfl (by go_simp) ((rtext_any b HBZ.out w5).mono fun e w' h => ⟨_, h.1, rfl, h.2⟩) (fun v w' h => Y5.out.trans (h.2.mono Y5.out.size)) fun v w6 hr => ?_
    obtain ⟨rfl, hb6⟩ := hr
    have Y6 := Lib.hid (Y5.out.trans (hb6.mono Y5.out.size))
    clear hb6
    simp only [Act.put, List.setIfInBounds_toArray, List.set_cons_zero, List.set_cons_succ, List.getElem_toArray, List.getElem_cons_zero, List.getElem_cons_succ]
    obtain ⟨T, hT⟩ : ∃ T, txt b = T := ⟨_, rfl⟩
    have HT := Lib.hid hT
    rw [hT] at z1 ⊢
    clear hT
    iterate 1 (refine pe_run _ ?_ rfl rfl ?_ ?_; rotate_left; (focus (intro w' hS; obtain ⟨c0, c1⟩ := HSC.out w' hS; go_simp; exact rfl)); simp only [Act.put, List.setIfInBounds_toArray, List.set_cons_zero, List.set_cons_succ, List.getElem_toArray, List.getElem_cons_zero, List.getElem_cons_succ])
    refine pe_value (w' := w6) _ (.pointer (some ⟨r, 0, none⟩)) rfl rfl (by go_simp) Y6.out ?_
    simp only [Act.put, List.setIfInBounds_toArray, List.set_cons_zero, List.set_cons_succ, List.getElem_toArray, List.getElem_cons_zero, List.getElem_cons_succ]
    refine pe_value (w' := w6) _ (.pointer (some ⟨r, 1, none⟩)) rfl rfl (by go_simp) Y6.out ?_
    simp only [Act.put, List.setIfInBounds_toArray, List.set_cons_zero, List.set_cons_succ, List.getElem_toArray, List.getElem_cons_zero, List.getElem_cons_succ]
    refine pe_last _ rfl ?_
    simp only [List.getElem_toArray, List.getElem_cons_zero, List.getElem_cons_succ]
    have R6 := Lib.hid (RB.out.below Y6.out RB.out.lt)
    obtain ⟨r0', r1', r2', r3'⟩ := lg_cells R6.out
    have f1 := R6.out.frz 1
    go_wp2_with fail
    go_ret
    rw [HD.out, HSS.out]
    refine ⟨rfl, ?_, (((Keeps.of X1.out).trans (Keeps.upd UB.out fun _ h => h)).trans (Keeps.of Y6.out)).trans (Keeps.upd (Upd.set _ _ _ _) fun _ h => h)⟩
    have h := lg_set1 R6.out (s'.wait ++ T)
    rw [HBS.out.2.1] at h
    rw [HBS.out.2.1, HT.out]
    exact h
end
end Go.Proofs.Ytggpiajmelhblaa
end
section
open Go Go.RowKit
namespace Go.Proofs.Ytggpiajmelhblaa
open SS FF CC WW BB
section
variable (s : Lg) (k k5 : Nat) (b : ByteArray) (n : Int) (r : Nat) (w : World)
set_option maxRecDepth 100000 in
set_option maxHeartbeats 4000000 in
theorem do_cut (hk : k < 256) (h5 : k % 5 = 4) (hr : Blk w r 4 (lgRow s)) (hg : s.gone = false) (hsz : sizeL s ≤ 1000000) :
    Calls Try.prog 10 #[.pointer (some ⟨r, 0, none⟩), .agg #[.int .u8 (k : Int), .string b, .int .i64 n]] w fun e w' => e = .returned (.int .i64 (doL s 4 b n).2) ∧ Blk w' r 4 (lgRow (doL s 4 b n).1) ∧ ButR r w w' := by
  have e1 : ((k : Nat) : Int).tmod 5 = 4 := by rw [Int.tmod_eq_emod_of_nonneg (by omega)]; omega
  have e2 : (k : Int) % 5 = 4 := by omega
  have X1 := Lib.hid ((Below.refl w.heap.size w).alloc (Nat.le_refl _) (.cells #[.int .u8 (k : Int), .string b, .int .i64 n] 33))
  have Q1 := Lib.hid (show Blk (w.alloc (.cells #[.int .u8 (k : Int), .string b, .int .i64 n] 33)) w.heap.size 3 (rowL [.int .u8 (k : Int), .string b, .int .i64 n]) from Blk.new' rfl (RR.row3_ _ _ _))
  have R1 := Lib.hid (hr.alloc (.cells #[.int .u8 (k : Int), .string b, .int .i64 n] 33))
  have HNE := Lib.hid (show r ≠ w.heap.size from by have := hr.lt; omega)
  have HK := Lib.hid hk
  obtain ⟨w0, hw0⟩ : ∃ w0, w.alloc (.cells #[.int .u8 (k : Int), .string b, .int .i64 n] 33) = w0 := ⟨_, rfl⟩
  have HW0 := Lib.hid hw0
  rw [hw0] at X1 Q1 R1
  obtain ⟨q0, q1, q2⟩ := RR.cells3 Q1.out
  obtain ⟨r0, r1, r2, r3⟩ := lg_cells R1.out
  have f0 := R1.out.frz 0
  have f1 := R1.out.frz 1
  have f2 := R1.out.frz 2
  have f3 := R1.out.frz 3
  clear hk h5 hr hw0
  rw [hg] at r3
  have HD := Lib.hid (show doL s 4 b n = (cutL s, 0) from by show cutA s = _; unfold cutA; rw [if_neg (by rw [hg]; decide)])
  have HSZ := Lib.hid hsz
  have z1 : ¬ 9223372036854775807 < s.safe.size + s.wait.size := by unfold sizeL at hsz; omega
  clear hg hsz
  go_enter Try.func10, Try.ntmps10
  go_upto_region 1 with fail
  rw [HW0.out]
  go_upto_region 18 with fail
  refine quiet_abs (by kernel_rfl) (by kernel_rfl) fun w2 hs2 => ?_
  have X2 := Lib.hid (X1.out.trans ((hs2.below _).mono X1.out.size))
  have R2 := Lib.hid (R1.out.same hs2)
  obtain ⟨r0', r1', r2', r3'⟩ := lg_cells R2.out
  clear hs2 r0 r1 r2 r3 q0 q1 q2 f0 f1 f2 f3
  repeat still_step
  refine wpStill_nil ?_
  obtain ⟨AL, hAL⟩ : ∃ AL, s.safe ++ s.wait = AL := ⟨_, rfl⟩
  have HAL := Lib.hid hAL
  have HAS := Lib.hid (show AL.size = s.safe.size + s.wait.size by rw [← hAL, ByteArray.size_append])
  rw [hAL]
  clear hAL z1 r0' r1' r2' r3'
  go_wp2_with fail
  refine (rsplit_any (AL.size + 1) AL w2 (Nat.lt_succ_self _) (by rw [HAS.out]; exact HSZ.out)).mono ?_
  rintro e w3 ⟨u, rfl, _, hb3⟩
  have X3 := Lib.hid (X2.out.trans (hb3.mono X2.out.size))
  have R3 := Lib.hid (R2.out.below hb3 R2.out.lt)
  have HEB := Lib.hid (split_end _ AL (Nat.lt_succ_self _)).1
  obtain ⟨E, hE⟩ : ∃ E, (splitS AL).2 = E := ⟨_, rfl⟩
  have HE := Lib.hid hE
  rw [hE] at HEB
  rw [hE]
  clear hb3 hE
  obtain ⟨r0', r1', r2', r3'⟩ := lg_cells R3.out
  obtain ⟨z, hz⟩ : ∃ z, s.safe.size = z := ⟨_, rfl⟩
  have HZ := Lib.hid hz
  obtain ⟨c, hc⟩ : ∃ c, min E z = c := ⟨_, rfl⟩
  have HC := Lib.hid hc
  have m1 : min (E : Int) (z : Int) = (c : Int) := by omega
  have c0 : (0 : Int) ≤ (c : Int) := by omega
  have c1 : c ≤ E := by omega
  have c1' : (c : Int) ≤ (E : Int) := by omega
  have c2 : E ≤ AL.size := HEB.out
  have c2' : (E : Int) ≤ (AL.size : Int) := by omega
  have c3 : c ≤ AL.size := by omega
  have c3' : (c : Int) ≤ (AL.size : Int) := by omega
  have c4 : (0 : Int) ≤ (E : Int) := by omega
  have f0 := R3.out.frz 0
  have f1 := R3.out.frz 1
  clear hc
  go_wp2_with fail
  go_ret
  rw [HD.out]
  refine ⟨rfl, ?_, ButR.of X3.out ((Upd.set _ _ _ _).trans (Upd.set _ _ _ _))⟩
  have h := lg_set0 (lg_set1 R3.out (AL.extract c E)) (AL.extract 0 c)
  show Blk _ r 4 (lgRow (cutL s))
  unfold cutL
  simp only [HAL.out, HE.out, HZ.out, HC.out]
  exact h
end
/-- a call on the reference's log -/
theorem do_any (s : Lg) (k : Nat) (b : ByteArray) (n : Int) (r : Nat) (w : World) (hk : k < 256) (hr : Blk w r 4 (lgRow s)) (hfu : s.fuse ≤ 9223372036854775807) (hsz : sizeL s ≤ 1000000) :
    Calls Try.prog 10 #[.pointer (some ⟨r, 0, none⟩), .agg #[.int .u8 (k : Int), .string b, .int .i64 n]] w fun e w' => e = .returned (.int .i64 (doL s (k % 5) b n).2) ∧ Blk w' r 4 (lgRow (doL s (k % 5) b n).1) ∧ ButR r w w' := by
  obtain ⟨j, hj⟩ : ∃ j, k % 5 = j := ⟨_, rfl⟩
  rw [hj]
  have h5 : j < 5 := by rw [← hj]; exact Nat.mod_lt _ (by omega)
  have hz : sizeL s ≤ 1000000000 := by omega
  match j, h5, hj with
  | 0, _, hj =>
    cases hg : s.gone with
    | true => exact do_gone0 s k b n r w hk hj hr hg
    | false =>
      by_cases hb : b.size = 0 ∨ 4000 < b.size
      · exact do_arg s k b n r w hk hj hr hg hb
      · by_cases hf : s.fuse = 0
        · exact do_lost0 s k b n r w hk hj hr hg hb hf
        · exact do_append s k b n r w hk hj hr hg hb hf hfu hz
  | 1, _, hj =>
    cases hg : s.gone with
    | true => exact do_gone1 s k b n r w hk hj hr hg
    | false =>
      by_cases hf : s.fuse = 0
      · exact do_lost1 s k b n r w hk hj hr hg hf
      · exact do_sync s k b n r w hk hj hr hg hf hfu hz
  | 2, _, hj => exact do_fuse s k b n r w hk hj hr
  | 3, _, hj => exact do_crash s k b n r w hk hj hr hz
  | 4, _, hj =>
    cases hg : s.gone with
    | true => exact do_gone4 s k b n r w hk hj hr hg
    | false => exact do_cut s k b n r w hk hj hr hg hsz
end Go.Proofs.Ytggpiajmelhblaa
end
section
open Go Go.RowKit
namespace SS
open WW BB FF
/-- a call: its kind, its bytes, its number -/
abbrev Op9 := Nat × ByteArray × Int
def op0 : Op9 := (0, ⟨#[]⟩, 0)
/-- the calls fit into memory -/
def MemOps (l : List Op9) : Prop := l.length ≤ 9223372036854775807 ∧ ∀ i, (l.getD i op0).1 < 256 ∧ (l.getD i op0).2.1.size ≤ 9223372036854775807 ∧ -9223372036854775808 ≤ (l.getD i op0).2.2 ∧ (l.getD i op0).2.2 ≤ 9223372036854775807
/-- v is a slice of calls -/
def OpsS (w : World) (v : Value) (l : List Op9) : Prop :=
  ∃ a0 cap, v = .slice a0 l.length cap ∧ (l = [] ∨ ∃ b off, a0 = some ⟨b, off, none⟩ ∧ b < w.heap.size ∧
    ∀ i, i < l.length → w.cell? ⟨b, off + i * 3, none⟩ = some (.int .u8 ((l.getD i op0).1 : Int)) ∧ w.cell? ⟨b, off + i * 3 + 1, none⟩ = some (.string (l.getD i op0).2.1) ∧ w.cell? ⟨b, off + i * 3 + 2, none⟩ = some (.int .i64 (l.getD i op0).2.2))
theorem OpsS.below {w w' : World} {v : Value} {l : List Op9} (h : OpsS w v l) (hb : Below w.heap.size w w') : OpsS w' v l := by
  obtain ⟨a0, cap, e, h⟩ := h
  refine ⟨a0, cap, e, h.imp id ?_⟩
  rintro ⟨b, off, e2, hl, hc⟩
  refine ⟨b, off, e2, Nat.lt_of_lt_of_le hl hb.size, fun i hi => ?_⟩
  have hk := hb.block b hl
  obtain ⟨h0, h1, h2⟩ := hc i hi
  exact ⟨(World.cell?_of_block hk).trans h0, (World.cell?_of_block hk).trans h1, (World.cell?_of_block hk).trans h2⟩
theorem ops_at {w : World} {a0 : Option Addr} {n cap : Nat} {l : List Op9} (h : OpsS w (.slice a0 n cap) l) (i : Nat) (hi : i < l.length) : ∃ b off, a0 = some ⟨b, off, none⟩ ∧ b < w.heap.size ∧ n = l.length ∧
    ∀ wx : World, (wx.heap[b]? = w.heap[b]?) → ∀ i, i < l.length → wx.cell? ⟨b, off + i * 3, none⟩ = some (.int .u8 ((l.getD i op0).1 : Int)) ∧ wx.cell? ⟨b, off + i * 3 + 1, none⟩ = some (.string (l.getD i op0).2.1) ∧ wx.cell? ⟨b, off + i * 3 + 2, none⟩ = some (.int .i64 (l.getD i op0).2.2) := by
  obtain ⟨a, c, e, h⟩ := h
  injection e with e1 e2 e3
  subst e1 e2 e3
  rcases h with rfl | ⟨b, off, e, hl, hc⟩
  · simp at hi
  · refine ⟨b, off, e, hl, rfl, fun wx hk i hi => ?_⟩
    obtain ⟨h0, h1, h2⟩ := hc i hi
    exact ⟨(World.cell?_of_block hk).trans h0, (World.cell?_of_block hk).trans h1, (World.cell?_of_block hk).trans h2⟩
/-- what Few tells -/
def FewAns9 (l : List Op9) (n : Int) (w : World) (e : Ending) (w' : World) : Prop :=
  ∃ X : Bool, e = .returned (.bool X) ∧ (X = true → (l.length : Int) ≤ n) ∧ Below w.heap.size w w'
end SS
namespace Go.Proofs.Ytggpiajmelhblaa
open SS RR FF WW BB
set_option maxRecDepth 100000 in
set_option maxHeartbeats 4000000 in
theorem few9_any (l : List Op9) (v : Value) (n : Int) (w : World) (hv : OpsS w v l) (hl : l.length ≤ 9223372036854775807) :
    Calls Try.prog 7 #[v, .int .i64 n] w (FewAns9 l n w) := by
  have HV := Lib.hid hv
  have HL := Lib.hid hl
  obtain ⟨a0, cap, rfl, _⟩ := hv
  clear hl
  go_enter Try.func7, Try.ntmps7
  go_wp2_with fail
  go_loopw [5] (fun y wr => ∃ i : Nat, i ≤ l.length ∧ i ≤ 200 ∧ y = .int .i64 (i : Int) ∧ Below w.heap.size w wr) (fun y _ => 200 - (intOf y).toNat)
  case atStart => exact ⟨0, Nat.zero_le _, by omega, rfl, Below.refl _ _⟩
  case round =>
    obtain ⟨i, hi, h100, rfl, hb⟩ := hrel
    have HB := Lib.hid hb
    have i0 : (0 : Int) ≤ (i : Int) := by omega
    have ib : (i : Int) ≤ 200 := by omega
    clear hb
    by_cases hlt : i < l.length ∧ i < 200
    · obtain ⟨hlt, h9⟩ := hlt
      have hlt' : (i : Int) < (l.length : Int) := by omega
      have h9' : (i : Int) < 200 := by omega
      have HLT := Lib.hid (And.intro hlt h9)
      obtain ⟨b, off, rfl, hbl, _, hat⟩ := ops_at HV.out i hlt
      obtain ⟨c0, c1, c2⟩ := hat wr (HB.out.block b hbl) i hlt
      obtain ⟨X, hX⟩ : ∃ X, decide (((l.getD i op0).2.1.size : Int) > 4100) = X := ⟨_, rfl⟩
      obtain ⟨⟨k, B, N⟩, hP⟩ : ∃ P, l.getD i op0 = P := ⟨_, rfl⟩
      rw [hP] at c0 c1 c2 hX
      simp only at c0 c1 c2 hX
      clear hi h100 hlt h9 hat hP
      cases X
      · go_wp2_with fail
        go_roundw
        case rel => exact ⟨i + 1, by have := HLT.out; omega, by have := HLT.out; omega, by go_num, HB.out⟩
        case measure => have := HLT.out; simp [intOf]; omega
      · go_wp2_with fail
        go_ret
        exact ⟨false, rfl, (fun h => by cases h), HB.out⟩
    · have HN := Lib.hid hlt
      have HLE := Lib.hid (show (l.length : Int) ≤ 9223372036854775807 by have := HL.out; omega)
      obtain ⟨X, hX⟩ : ∃ X : Bool, decide ((l.length : Int) ≤ n) = X := ⟨_, rfl⟩
      have HX := Lib.hid hX
      by_cases h1 : i < l.length
      · have h1' : (i : Int) < (l.length : Int) := by omega
        have h2' : ¬ (i : Int) < 200 := by omega
        clear hi h100 hlt h1
        go_wp2_with fail
        go_ret
        exact ⟨X, rfl, fun h => of_decide_eq_true (by rw [HX.out]; exact h), HB.out⟩
      · have h1' : ¬ (i : Int) < (l.length : Int) := by omega
        clear hi h100 hlt h1
        go_wp2_with fail
        go_ret
        exact ⟨X, rfl, fun h => of_decide_eq_true (by rw [HX.out]; exact h), HB.out⟩
end Go.Proofs.Ytggpiajmelhblaa
end
section
open Go Go.RowKit
namespace SS
open WW BB FF
/-- v is a slice of the strings l, in a block that A holds -/
def StrsIn (A : Nat → Prop) (w : World) (v : Value) (l : List ByteArray) : Prop :=
  ∃ a0 cap, v = .slice a0 l.length cap ∧ (a0 = none → cap = 0) ∧ (l = [] ∨ ∃ b off, a0 = some ⟨b, off, none⟩ ∧ A b ∧ b < w.heap.size ∧ ∀ i, i < l.length → w.cell? ⟨b, off + i, none⟩ = some (.string (l.getD i ⟨#[]⟩)))
section
variable {A A' : Nat → Prop} {w w' : World} {v : Value} {l : List ByteArray}
theorem StrsIn.at_ (h : StrsIn A w v l) : StrsAt w v l := by
  obtain ⟨a0, cap, e, _, h⟩ := h
  exact ⟨a0, cap, e, h.imp id fun ⟨b, off, e, _, hl, hc⟩ => ⟨b, off, e, hl, hc⟩⟩
theorem StrsIn.keep (h : StrsIn A w v l) (hk : Keeps A w w') : StrsIn A w' v l := by
  obtain ⟨a0, cap, e, hn, h⟩ := h
  exact ⟨a0, cap, e, hn, h.imp id fun ⟨b, off, e, hA, hl, hc⟩ => ⟨b, off, e, hA, Nat.lt_of_lt_of_le hl hk.b0.size, fun i hi => (World.cell?_of_block (hk.block b hA hl)).trans (hc i hi)⟩⟩
theorem StrsIn.sub (h : StrsIn A w v l) (hA : ∀ b, A b → b < w.heap.size → A' b) : StrsIn A' w v l := by
  obtain ⟨a0, cap, e, hn, h⟩ := h
  exact ⟨a0, cap, e, hn, h.imp id fun ⟨b, off, e, h1, hl, hc⟩ => ⟨b, off, e, hA b h1 hl, hl, hc⟩⟩
theorem StrsIn.nil (A : Nat → Prop) (w : World) : StrsIn A w (.slice none 0 0) [] := ⟨none, 0, rfl, fun _ => rfl, Or.inl rfl⟩
end
/-- what a log's Records are -/
def recsL (s : Lg) : List ByteArray := if s.gone = true then [] else (splitS (s.safe ++ s.wait)).1
/-- its fuse is an int, -1 at least; its bytes are few -/
def OkL (s : Lg) : Prop := -1 ≤ s.fuse ∧ s.fuse ≤ 9223372036854775807
theorem ok_do {s : Lg} (h : OkL s) (k : Nat) (b : ByteArray) {n : Int} (hn : n ≤ 9223372036854775807) : OkL (doL s k b n).1 := by
  have hb : OkL (burnL s) := by unfold burnL; split; · exact ⟨by have := h.1; simp only; omega, by have := h.2; simp only; omega⟩
                                · exact h
  match k with
  | 0 =>
    show OkL (appendL s b).1
    unfold appendL
    split; · exact h
    split; · exact h
    split; · exact h
    exact hb
  | 1 =>
    show OkL (syncL s).1
    unfold syncL
    split; · exact h
    split; · exact h
    exact hb
  | 2 =>
    show OkL (fuseL s n)
    unfold fuseL
    split; · exact h
    exact ⟨by simp only; omega, by simp only; omega⟩
  | 3 => exact ⟨show (-1 : Int) ≤ -1 by omega, show (-1 : Int) ≤ 9223372036854775807 by omega⟩
  | m + 4 =>
    show OkL (cutA s).1
    unfold cutA
    split <;> exact h
/-- a new log -/
def Made9 (At : (Nat → Prop) → World → Nat → Lg → Prop) (s : Lg) (w : World) (e : Ending) (w' : World) : Prop :=
  ∃ g O, e = .returned (.pointer (some ⟨g, 0, none⟩)) ∧ At O w' g s ∧ (∀ b, O b → w.heap.size ≤ b) ∧ Below w.heap.size w w'
/-- the log behind a call -/
def Next9 (At : (Nat → Prop) → World → Nat → Lg → Prop) (O : Nat → Prop) (w : World) (g : Nat) (s : Lg) (w' : World) : Prop :=
  ∃ O', At O' w' g s ∧ Keeps (fun b => ¬ O b) w w' ∧ ∀ b, O' b → O b ∨ w.heap.size ≤ b
end SS
namespace Go.Proofs.Ytggpiajmelhblaa
open SS WW BB FF
structure Code9 where
  At : (Nat → Prop) → World → Nat → Lg → Prop
  keep : ∀ {O w w' g s}, At O w g s → Keeps O w w' → At O w' g s
  lt : ∀ {O w g s}, At O w g s → ∀ b, O b → b < w.heap.size
  new : ∀ w, Calls Try.prog 15 #[] w (Made9 At ⟨⟨#[]⟩, ⟨#[]⟩, -1, false⟩ w)
  of : ∀ b w, b.size ≤ 3000 → Calls Try.prog 8 #[.string b] w (Made9 At ⟨b, ⟨#[]⟩, -1, false⟩ w)
  append : ∀ O w g s b, At O w g s → OkL s → sizeL s ≤ 1000000 → b.size ≤ 9223372036854775807 →
    Calls Try.prog 20 #[.pointer (some ⟨g, 0, none⟩), .string b] w fun e w' => e = .returned (.int .i64 (doL s 0 b 0).2) ∧ Next9 At O w g (doL s 0 b 0).1 w'
  sync : ∀ O w g s, At O w g s → OkL s → sizeL s ≤ 1000000 →
    Calls Try.prog 21 #[.pointer (some ⟨g, 0, none⟩)] w fun e w' => e = .returned (.int .i64 (doL s 1 ⟨#[]⟩ 0).2) ∧ Next9 At O w g (doL s 1 ⟨#[]⟩ 0).1 w'
  fuse : ∀ O w g s n, At O w g s → OkL s → sizeL s ≤ 1000000 → -9223372036854775808 ≤ n ∧ n ≤ 9223372036854775807 →
    Calls Try.prog 22 #[.pointer (some ⟨g, 0, none⟩), .int .i64 n] w fun e w' => e = .returned (.tuple #[]) ∧ Next9 At O w g (fuseL s n) w'
  crash : ∀ O w g s n, At O w g s → OkL s → sizeL s ≤ 1000000 → -9223372036854775808 ≤ n ∧ n ≤ 9223372036854775807 →
    Calls Try.prog 17 #[.pointer (some ⟨g, 0, none⟩), .int .i64 n] w fun e w' => e = .returned (.tuple #[]) ∧ Next9 At O w g (crashL s n) w'
  cut : ∀ O w g s, At O w g s → OkL s → sizeL s ≤ 1000000 →
    Calls Try.prog 19 #[.pointer (some ⟨g, 0, none⟩)] w fun e w' => e = .returned (.int .i64 (cutA s).2) ∧ Next9 At O w g (cutA s).1 w'
  len : ∀ O w g s, At O w g s → OkL s → sizeL s ≤ 1000000 →
    Calls Try.prog 11 #[.pointer (some ⟨g, 0, none⟩)] w fun e w' => e = .returned (.int .i64 (sizeL s : Int)) ∧ Below w.heap.size w w'
  records : ∀ O w g s, At O w g s → OkL s → sizeL s ≤ 1000000 →
    Calls Try.prog 12 #[.pointer (some ⟨g, 0, none⟩)] w fun e w' => ∃ v, e = .returned (.tuple #[v, .int .i64 (if s.gone = true then 8 else 0)]) ∧ StrsIn (fun b => w.heap.size ≤ b) w' v (recsL s) ∧ Below w.heap.size w w'
section
variable {C : Code9} {O : Nat → Prop} {w w1 w2 : World} {g : Nat} {s s' : Lg}
theorem Code9.low (h : C.At O w g s) (hb : Below w.heap.size w w1) : C.At O w1 g s := C.keep h (Keeps.of hb)
end
end Go.Proofs.Ytggpiajmelhblaa
end
section
open Go Go.RowKit
namespace SS
open WW BB FF
theorem Next9.from {At : (Nat → Prop) → World → Nat → Lg → Prop} {O : Nat → Prop} {w w1 w2 : World} {g : Nat} {s : Lg} (hb : Below w.heap.size w w1) (h : Next9 At O w1 g s w2) : Next9 At O w g s w2 := by
  obtain ⟨O', h1, h2, h3⟩ := h
  exact ⟨O', h1, (Keeps.of hb).trans h2, fun b h => (h3 b h).imp id fun h => Nat.le_trans hb.size h⟩
end SS
namespace Go.Proofs.Ytggpiajmelhblaa
open SS RR FF CC WW BB
section
variable (C : Code9) (O : Nat → Prop) (w : World) (g : Nat) (s : Lg) (k : Nat) (b : ByteArray) (n : Int)
set_option maxRecDepth 100000 in
set_option maxHeartbeats 4000000 in
theorem call9_0 (hk : k < 256) (h5 : k % 5 = 0) (hg : C.At O w g s) (ho : OkL s) (hs : sizeL s ≤ 1000000) (hb : b.size ≤ 9223372036854775807) (hn : -9223372036854775808 ≤ n ∧ n ≤ 9223372036854775807) :
    Calls Try.prog 9 #[.pointer (some ⟨g, 0, none⟩), .agg #[.int .u8 (k : Int), .string b, .int .i64 n]] w fun e w' => e = .returned (.int .i64 (doL s 0 b n).2) ∧ Next9 C.At O w g (doL s 0 b n).1 w' := by
  have e1 : ((k : Nat) : Int).tmod 5 = 0 := by rw [Int.tmod_eq_emod_of_nonneg (by omega)]; omega
  have e2 : (k : Int) % 5 = 0 := by omega
  have X1 := Lib.hid ((Below.refl w.heap.size w).alloc (Nat.le_refl _) (.cells #[.int .u8 (k : Int), .string b, .int .i64 n] 33))
  have Q1 := Lib.hid (show Blk (w.alloc (.cells #[.int .u8 (k : Int), .string b, .int .i64 n] 33)) w.heap.size 3 (rowL [.int .u8 (k : Int), .string b, .int .i64 n]) from Blk.new' rfl (RR.row3_ _ _ _))
  have HG := Lib.hid hg
  have HO := Lib.hid ho
  have HS := Lib.hid hs
  have HB := Lib.hid hb
  have HN := Lib.hid hn
  have HK := Lib.hid hk
  obtain ⟨w0, hw0⟩ : ∃ w0, w.alloc (.cells #[.int .u8 (k : Int), .string b, .int .i64 n] 33) = w0 := ⟨_, rfl⟩
  have HW0 := Lib.hid hw0
  rw [hw0] at X1 Q1
  obtain ⟨q0, q1, q2⟩ := RR.cells3 Q1.out
  clear hg ho hs hb hn hk h5 hw0
  go_enter Try.func9, Try.ntmps9
  go_upto_region 1 with fail
  rw [HW0.out]
  go_wp2_with fail
  refine (C.append O _ g s b (C.low HG.out X1.out) HO.out HS.out HB.out).mono ?_
  rintro e w2 ⟨rfl, hx⟩
  have HX := Lib.hid hx
  clear hx q0 q1 q2
  go_wp2_with fail
  go_ret
  exact ⟨rfl, HX.out.from X1.out⟩
set_option maxRecDepth 100000 in
set_option maxHeartbeats 4000000 in
theorem call9_1 (hk : k < 256) (h5 : k % 5 = 1) (hg : C.At O w g s) (ho : OkL s) (hs : sizeL s ≤ 1000000) (hb : b.size ≤ 9223372036854775807) (hn : -9223372036854775808 ≤ n ∧ n ≤ 9223372036854775807) :
    Calls Try.prog 9 #[.pointer (some ⟨g, 0, none⟩), .agg #[.int .u8 (k : Int), .string b, .int .i64 n]] w fun e w' => e = .returned (.int .i64 (doL s 1 b n).2) ∧ Next9 C.At O w g (doL s 1 b n).1 w' := by
  have e1 : ((k : Nat) : Int).tmod 5 = 1 := by rw [Int.tmod_eq_emod_of_nonneg (by omega)]; omega
  have e2 : (k : Int) % 5 = 1 := by omega
  have X1 := Lib.hid ((Below.refl w.heap.size w).alloc (Nat.le_refl _) (.cells #[.int .u8 (k : Int), .string b, .int .i64 n] 33))
  have Q1 := Lib.hid (show Blk (w.alloc (.cells #[.int .u8 (k : Int), .string b, .int .i64 n] 33)) w.heap.size 3 (rowL [.int .u8 (k : Int), .string b, .int .i64 n]) from Blk.new' rfl (RR.row3_ _ _ _))
  have HG := Lib.hid hg
  have HO := Lib.hid ho
  have HS := Lib.hid hs
  have HB := Lib.hid hb
  have HN := Lib.hid hn
  have HK := Lib.hid hk
  obtain ⟨w0, hw0⟩ : ∃ w0, w.alloc (.cells #[.int .u8 (k : Int), .string b, .int .i64 n] 33) = w0 := ⟨_, rfl⟩
  have HW0 := Lib.hid hw0
  rw [hw0] at X1 Q1
  obtain ⟨q0, q1, q2⟩ := RR.cells3 Q1.out
  clear hg ho hs hb hn hk h5 hw0
  go_enter Try.func9, Try.ntmps9
  go_upto_region 1 with fail
  rw [HW0.out]
  go_wp2_with fail
  refine (C.sync O _ g s (C.low HG.out X1.out) HO.out HS.out).mono ?_
  rintro e w2 ⟨rfl, hx⟩
  have HX := Lib.hid hx
  clear hx q0 q1 q2
  go_wp2_with fail
  go_ret
  exact ⟨rfl, HX.out.from X1.out⟩
set_option maxRecDepth 100000 in
set_option maxHeartbeats 4000000 in
theorem call9_2 (hk : k < 256) (h5 : k % 5 = 2) (hg : C.At O w g s) (ho : OkL s) (hs : sizeL s ≤ 1000000) (hb : b.size ≤ 9223372036854775807) (hn : -9223372036854775808 ≤ n ∧ n ≤ 9223372036854775807) :
    Calls Try.prog 9 #[.pointer (some ⟨g, 0, none⟩), .agg #[.int .u8 (k : Int), .string b, .int .i64 n]] w fun e w' => e = .returned (.int .i64 (doL s 2 b n).2) ∧ Next9 C.At O w g (doL s 2 b n).1 w' := by
  have e1 : ((k : Nat) : Int).tmod 5 = 2 := by rw [Int.tmod_eq_emod_of_nonneg (by omega)]; omega
  have e2 : (k : Int) % 5 = 2 := by omega
  have X1 := Lib.hid ((Below.refl w.heap.size w).alloc (Nat.le_refl _) (.cells #[.int .u8 (k : Int), .string b, .int .i64 n] 33))
  have Q1 := Lib.hid (show Blk (w.alloc (.cells #[.int .u8 (k : Int), .string b, .int .i64 n] 33)) w.heap.size 3 (rowL [.int .u8 (k : Int), .string b, .int .i64 n]) from Blk.new' rfl (RR.row3_ _ _ _))
  have HG := Lib.hid hg
  have HO := Lib.hid ho
  have HS := Lib.hid hs
  have HB := Lib.hid hb
  have HN := Lib.hid hn
  have HK := Lib.hid hk
  obtain ⟨w0, hw0⟩ : ∃ w0, w.alloc (.cells #[.int .u8 (k : Int), .string b, .int .i64 n] 33) = w0 := ⟨_, rfl⟩
  have HW0 := Lib.hid hw0
  rw [hw0] at X1 Q1
  obtain ⟨q0, q1, q2⟩ := RR.cells3 Q1.out
  clear hg ho hs hb hn hk h5 hw0
  go_enter Try.func9, Try.ntmps9
  go_upto_region 1 with fail
  rw [HW0.out]
  go_wp2_with fail
  refine (C.fuse O _ g s n (C.low HG.out X1.out) HO.out HS.out HN.out).mono ?_
  rintro e w2 ⟨rfl, hx⟩
  have HX := Lib.hid hx
  clear hx q0 q1 q2
  go_wp2_with fail
  go_ret
  exact ⟨rfl, HX.out.from X1.out⟩
set_option maxRecDepth 100000 in
set_option maxHeartbeats 4000000 in
theorem call9_3 (hk : k < 256) (h5 : k % 5 = 3) (hg : C.At O w g s) (ho : OkL s) (hs : sizeL s ≤ 1000000) (hb : b.size ≤ 9223372036854775807) (hn : -9223372036854775808 ≤ n ∧ n ≤ 9223372036854775807) :
    Calls Try.prog 9 #[.pointer (some ⟨g, 0, none⟩), .agg #[.int .u8 (k : Int), .string b, .int .i64 n]] w fun e w' => e = .returned (.int .i64 (doL s 3 b n).2) ∧ Next9 C.At O w g (doL s 3 b n).1 w' := by
  have e1 : ((k : Nat) : Int).tmod 5 = 3 := by rw [Int.tmod_eq_emod_of_nonneg (by omega)]; omega
  have e2 : (k : Int) % 5 = 3 := by omega
  have X1 := Lib.hid ((Below.refl w.heap.size w).alloc (Nat.le_refl _) (.cells #[.int .u8 (k : Int), .string b, .int .i64 n] 33))
  have Q1 := Lib.hid (show Blk (w.alloc (.cells #[.int .u8 (k : Int), .string b, .int .i64 n] 33)) w.heap.size 3 (rowL [.int .u8 (k : Int), .string b, .int .i64 n]) from Blk.new' rfl (RR.row3_ _ _ _))
  have HG := Lib.hid hg
  have HO := Lib.hid ho
  have HS := Lib.hid hs
  have HB := Lib.hid hb
  have HN := Lib.hid hn
  have HK := Lib.hid hk
  obtain ⟨w0, hw0⟩ : ∃ w0, w.alloc (.cells #[.int .u8 (k : Int), .string b, .int .i64 n] 33) = w0 := ⟨_, rfl⟩
  have HW0 := Lib.hid hw0
  rw [hw0] at X1 Q1
  obtain ⟨q0, q1, q2⟩ := RR.cells3 Q1.out
  clear hg ho hs hb hn hk h5 hw0
  go_enter Try.func9, Try.ntmps9
  go_upto_region 1 with fail
  rw [HW0.out]
  go_wp2_with fail
  refine (C.crash O _ g s n (C.low HG.out X1.out) HO.out HS.out HN.out).mono ?_
  rintro e w2 ⟨rfl, hx⟩
  have HX := Lib.hid hx
  clear hx q0 q1 q2
  go_wp2_with fail
  go_ret
  exact ⟨rfl, HX.out.from X1.out⟩
set_option maxRecDepth 100000 in
set_option maxHeartbeats 4000000 in
theorem call9_4 (hk : k < 256) (h5 : k % 5 = 4) (hg : C.At O w g s) (ho : OkL s) (hs : sizeL s ≤ 1000000) (hb : b.size ≤ 9223372036854775807) (hn : -9223372036854775808 ≤ n ∧ n ≤ 9223372036854775807) :
    Calls Try.prog 9 #[.pointer (some ⟨g, 0, none⟩), .agg #[.int .u8 (k : Int), .string b, .int .i64 n]] w fun e w' => e = .returned (.int .i64 (doL s 4 b n).2) ∧ Next9 C.At O w g (doL s 4 b n).1 w' := by
  have e1 : ((k : Nat) : Int).tmod 5 = 4 := by rw [Int.tmod_eq_emod_of_nonneg (by omega)]; omega
  have e2 : (k : Int) % 5 = 4 := by omega
  have X1 := Lib.hid ((Below.refl w.heap.size w).alloc (Nat.le_refl _) (.cells #[.int .u8 (k : Int), .string b, .int .i64 n] 33))
  have Q1 := Lib.hid (show Blk (w.alloc (.cells #[.int .u8 (k : Int), .string b, .int .i64 n] 33)) w.heap.size 3 (rowL [.int .u8 (k : Int), .string b, .int .i64 n]) from Blk.new' rfl (RR.row3_ _ _ _))
  have HG := Lib.hid hg
  have HO := Lib.hid ho
  have HS := Lib.hid hs
  have HB := Lib.hid hb
  have HN := Lib.hid hn
  have HK := Lib.hid hk
  obtain ⟨w0, hw0⟩ : ∃ w0, w.alloc (.cells #[.int .u8 (k : Int), .string b, .int .i64 n] 33) = w0 := ⟨_, rfl⟩
  have HW0 := Lib.hid hw0
  rw [hw0] at X1 Q1
  obtain ⟨q0, q1, q2⟩ := RR.cells3 Q1.out
  clear hg ho hs hb hn hk h5 hw0
  go_enter Try.func9, Try.ntmps9
  go_upto_region 1 with fail
  rw [HW0.out]
  go_wp2_with fail
  refine (C.cut O _ g s (C.low HG.out X1.out) HO.out HS.out).mono ?_
  rintro e w2 ⟨rfl, hx⟩
  have HX := Lib.hid hx
  clear hx q0 q1 q2
  go_wp2_with fail
  go_ret
  exact ⟨rfl, HX.out.from X1.out⟩
theorem call9_any (hk : k < 256) (hg : C.At O w g s) (ho : OkL s) (hs : sizeL s ≤ 1000000) (hb : b.size ≤ 9223372036854775807) (hn : -9223372036854775808 ≤ n ∧ n ≤ 9223372036854775807) :
    Calls Try.prog 9 #[.pointer (some ⟨g, 0, none⟩), .agg #[.int .u8 (k : Int), .string b, .int .i64 n]] w fun e w' => e = .returned (.int .i64 (doL s (k % 5) b n).2) ∧ Next9 C.At O w g (doL s (k % 5) b n).1 w' := by
  obtain ⟨j, hj⟩ : ∃ j, k % 5 = j := ⟨_, rfl⟩
  rw [hj]
  have h5 : j < 5 := by rw [← hj]; exact Nat.mod_lt _ (by omega)
  match j, h5, hj with
  | 0, _, hj => exact call9_0 C O w g s k b n hk hj hg ho hs hb hn
  | 1, _, hj => exact call9_1 C O w g s k b n hk hj hg ho hs hb hn
  | 2, _, hj => exact call9_2 C O w g s k b n hk hj hg ho hs hb hn
  | 3, _, hj => exact call9_3 C O w g s k b n hk hj hg ho hs hb hn
  | 4, _, hj => exact call9_4 C O w g s k b n hk hj hg ho hs hb hn
end
end Go.Proofs.Ytggpiajmelhblaa
end
section
open Go Go.RowKit
namespace SS
open WW BB FF
theorem Keeps.low9 {A : Nat → Prop} {w w' : World} {n : Nat} (h : Keeps A w w') (hA : ∀ b, b < n → A b) (hn : n ≤ w.heap.size) : Below n w w' :=
  ⟨h.b0.os, h.b0.tape, h.b0.output, h.b0.size, fun k hk => h.block k (hA k hk) (Nat.lt_of_lt_of_le hk hn)⟩
/-- behind a call on a log whose blocks are all the caller's own -/
theorem Next9.own {At : (Nat → Prop) → World → Nat → Lg → Prop} {O : Nat → Prop} {w0 w w' : World} {g : Nat} {s : Lg} (h : Next9 At O w g s w') (hO : ∀ b, O b → w0.heap.size ≤ b) (hb : Below w0.heap.size w0 w) :
    ∃ O', At O' w' g s ∧ (∀ b, O' b → w0.heap.size ≤ b) ∧ Below w0.heap.size w0 w' := by
  obtain ⟨O', h1, h2, h3⟩ := h
  exact ⟨O', h1, fun b h => (h3 b h).elim (hO b) fun h => Nat.le_trans hb.size h, hb.trans (Keeps.low9 h2 (fun b hl hO' => absurd (hO b hO') (by omega)) hb.size)⟩
def lgA : Lg := ⟨⟨#[]⟩, txt ⟨#[97]⟩, -1, false⟩
theorem lgA_is : doL ⟨⟨#[]⟩, ⟨#[]⟩, -1, false⟩ 0 ⟨#[97]⟩ 0 = (lgA, 0) := by
  show appendL _ _ = _
  unfold appendL
  rw [if_neg (by decide), if_neg (by rintro (h | h); · exact absurd h (by decide)
                                     · exact absurd h (by decide)), if_neg (by decide)]
  show (({ burnL _ with wait := _ } : Lg), (0 : Int)) = _
  unfold burnL lgA
  rw [if_neg (by decide)]
  have e : (⟨#[]⟩ : ByteArray) ++ txt ⟨#[97]⟩ = txt ⟨#[97]⟩ := by apply ba_ext; rw [app_list]; rfl
  simp only
  rw [e]
theorem lgA_size : sizeL lgA = 5 := by
  unfold sizeL lgA
  simp only
  rw [txt_size]; rfl
end SS
namespace Go.Proofs.Ytggpiajmelhblaa
open SS RR FF CC WW BB
set_option maxRecDepth 100000 in
set_option maxHeartbeats 4000000 in
theorem awake9_any (C : Code9) (w : World) : Calls Try.prog 6 #[] w fun e w' => e = .returned (.bool true) ∧ Below w.heap.size w w' := by
  go_enter Try.func6, Try.ntmps6
  go_wp2_with fail
  refine (C.new _).mono ?_
  rintro e w1 ⟨g, O, rfl, hg, hO, hb⟩
  have HG := Lib.hid hg
  have HO := Lib.hid hO
  have HB := Lib.hid hb
  clear hg hO hb
  go_wp2_with fail
  refine (C.append O _ g _ ⟨#[97]⟩ HG.out ⟨by decide, by decide⟩ (by decide) (by decide)).mono ?_
  rintro e w2 ⟨rfl, hx⟩
  rw [lgA_is] at hx ⊢
  obtain ⟨O2, hg2, hO2, hb2⟩ := hx.own HO.out HB.out
  have HG2 := Lib.hid hg2
  have HB2 := Lib.hid hb2
  clear hx hg2 hO2 hb2
  simp only
  go_wp2_with fail
  refine (C.len O2 _ g _ HG2.out ⟨by decide, by decide⟩ (by rw [lgA_size]; decide)).mono ?_
  rintro e w3 ⟨rfl, hb3⟩
  have HB3 := Lib.hid (HB2.out.trans (hb3.mono HB2.out.size))
  rw [lgA_size]
  clear hb3
  go_wp2_with fail
  go_ret
  exact ⟨rfl, HB3.out⟩
end Go.Proofs.Ytggpiajmelhblaa
end
section
open Go Go.RowKit
namespace SS
open WW BB FF
theorem app_nil (b : ByteArray) : b ++ (⟨#[]⟩ : ByteArray) = b := by apply ba_ext; rw [app_list]; exact List.append_nil _
theorem nil_app (b : ByteArray) : (⟨#[]⟩ : ByteArray) ++ b = b := by apply ba_ext; rw [app_list]; rfl
theorem txt_enc {b : ByteArray} (h : fitR b) : txt b = encR b := by
  unfold txt encR
  rw [num_nat b.size (by have := h.2; omega)]
theorem whole_of {b : ByteArray} (h : okR b = true) : b = encR (headR b) ++ restR b ∧ fitR (headR b) := by
  have hy := ok_yes h
  have hz := head_size h
  have hr := rest_size h
  refine ⟨?_, by unfold fitR; omega⟩
  have h1 : numSp 0 4294967295 b = some (b.extract 4 b.size, rd4 b) := by
    unfold numSp; rw [if_neg (by omega), if_neg (by omega)]
  obtain ⟨e1, _, _⟩ := numSp_sound h1
  unfold encR
  rw [hz]
  refine e1.trans ?_
  rw [ByteArray.append_assoc]
  congr 1
  apply ba_ext
  have hl := ba_list b
  rw [app_list]
  unfold headR restR
  rw [ext_list, ext_list, ext_list, List.take_of_length_le (by rw [List.length_drop]; omega), List.take_of_length_le (l := List.drop (4 + rd4 b) _) (by rw [List.length_drop]; omega), Nat.add_sub_cancel_left]
  rw [← List.drop_drop, List.take_append_drop]
theorem ext_app (a b : ByteArray) (m : Nat) (h : a.size ≤ m) : (a ++ b).extract 0 m = a ++ b.extract 0 (m - a.size) := by
  apply ba_ext
  have hl := ba_list a
  rw [ext_list, app_list, app_list, ext_list, List.drop_zero, List.drop_zero, List.take_append, Nat.sub_zero, Nat.sub_zero, hl, List.take_of_length_le (by omega)]
/-- the bytes that are records are just the records' -/
theorem split_bytes : ∀ (k : Nat) (b : ByteArray), b.size < k → b.extract 0 (splitS b).2 = encL (splitS b).1 ∧ (∀ r ∈ (splitS b).1, fitR r)
  | 0, _, h => absurd h (Nat.not_lt_zero _)
  | k + 1, b, h => by
    cases ho : okR b with
    | false =>
      rw [split_no ho]
      refine ⟨?_, fun r hr => by cases hr⟩
      apply ba_ext; rw [ext_list]; rfl
    | true =>
      have hr := rest_size ho
      have hz := head_size ho
      obtain ⟨hw, hf⟩ := whole_of ho
      obtain ⟨ih1, ih2⟩ := split_bytes k (restR b) (by omega)
      have hy := split_yes ho
      have he := encR_size (headR b)
      obtain ⟨n, hn⟩ : ∃ n, rd4 b = n := ⟨_, rfl⟩
      obtain ⟨H, hH⟩ : ∃ H, headR b = H := ⟨_, rfl⟩
      obtain ⟨R, hRR⟩ : ∃ R, restR b = R := ⟨_, rfl⟩
      obtain ⟨⟨L, e⟩, hE⟩ : ∃ E, splitS R = E := ⟨_, rfl⟩
      rw [hn, hH, hRR, hE] at hy
      rw [hRR, hE] at ih1 ih2
      rw [hH, hRR] at hw
      rw [hH] at hf he hz
      rw [hn] at hz hr
      rw [hy]
      clear hy hn hH hRR hE
      simp only at ih1 ih2 ⊢
      refine ⟨?_, fun r hr => ?_⟩
      · show b.extract 0 (4 + n + e) = encR H ++ encL L
        rw [← ih1]
        obtain ⟨m, hm⟩ : ∃ m, 4 + n + e = m := ⟨_, rfl⟩
        rw [hm]
        have h2 := ext_app (encR H) R m (by omega)
        rw [← hw] at h2
        rw [h2, show m - (encR H).size = e by omega]
      · rcases List.mem_cons.1 hr with rfl | hr
        · exact hf
        · exact ih2 r hr
theorem split_encL : ∀ (l : List ByteArray), (∀ r ∈ l, fitR r) → splitS (encL l) = (l, (encL l).size)
  | [], _ => split_no (by decide)
  | r :: l, h => by
    show splitS (encR r ++ encL l) = _
    rw [split_enc (h r (List.mem_cons_self ..)), split_encL l fun x hx => h x (List.mem_cons_of_mem _ hx)]
    show (r :: l, 4 + r.size + (encL l).size) = (r :: l, (encR r ++ encL l).size)
    rw [ByteArray.size_append, encR_size]
/-- of records' bytes, cut anywhere: a beginning of the records, with all that are whole -/
theorem split_part : ∀ (l : List ByteArray) (m : Nat), (∀ r ∈ l, fitR r) → ∃ j, j ≤ l.length ∧ splitS ((encL l).extract 0 m) = (l.take j, (encL (l.take j)).size) ∧ ∀ n, n ≤ l.length → (encL (l.take n)).size ≤ m → n ≤ j
  | [], m, _ => by
    refine ⟨0, Nat.le_refl _, ?_, fun n hn _ => hn⟩
    have : (encL []).extract 0 m = ⟨#[]⟩ := by
      apply ba_nil
      rw [ByteArray.size_extract]
      show min m 0 - 0 = 0
      omega
    rw [this]
    exact split_no (by decide)
  | r :: l, m, h => by
    have hr := h r (List.mem_cons_self ..)
    by_cases hm : m < 4 + r.size
    · refine ⟨0, Nat.zero_le _, split_torn hr m hm, fun n hn hs => ?_⟩
      match n, hs with
      | 0, _ => exact Nat.le_refl _
      | n + 1, hs =>
        have hs : (encR r ++ encL (l.take n)).size ≤ m := hs
        rw [ByteArray.size_append, encR_size] at hs
        omega
    · obtain ⟨j, h1, h2, h3⟩ := split_part l (m - (encR r).size) fun x hx => h x (List.mem_cons_of_mem _ hx)
      have he := encR_size r
      refine ⟨j + 1, Nat.succ_le_succ h1, ?_, fun n hn hs => ?_⟩
      · show splitS ((encR r ++ encL l).extract 0 m) = _
        rw [ext_app _ _ _ (by omega), split_enc hr, h2]
        show (r :: l.take j, 4 + r.size + (encL (l.take j)).size) = (r :: l.take j, (encR r ++ encL (l.take j)).size)
        rw [ByteArray.size_append, he]
      · match n, hn, hs with
        | 0, _, _ => exact Nat.zero_le _
        | n + 1, hn, hs =>
          have hs : (encR r ++ encL (l.take n)).size ≤ m := hs
          rw [ByteArray.size_append] at hs
          exact Nat.succ_le_succ (h3 n (Nat.le_of_succ_le_succ hn) (by omega))
/-- a log of bytes, cut -/
theorem cut_recs (b : ByteArray) : recsL (cutL ⟨b, ⟨#[]⟩, -1, false⟩) = (splitS b).1 ∧ sizeL (cutL ⟨b, ⟨#[]⟩, -1, false⟩) = (splitS b).2 := by
  obtain ⟨h1, h2⟩ := split_bytes (b.size + 1) b (Nat.lt_succ_self _)
  have he := (split_end (b.size + 1) b (Nat.lt_succ_self _)).1
  have e : cutL ⟨b, ⟨#[]⟩, -1, false⟩ = ⟨encL (splitS b).1, ⟨#[]⟩, -1, false⟩ := by
    unfold cutL
    simp only
    rw [app_nil, Nat.min_eq_left he, h1]
    congr 1
    apply ba_nil
    rw [ByteArray.size_extract]; omega
  rw [e]
  refine ⟨?_, ?_⟩
  · unfold recsL
    rw [if_neg (by simp)]
    simp only
    rw [app_nil, split_encL _ h2]
  · unfold sizeL
    simp only
    have := congrArg ByteArray.size h1
    rw [ByteArray.size_extract] at this
    show (encL (splitS b).1).size + 0 = _
    omega
end SS
end
section
open Go Go.RowKit
namespace SS
open WW BB FF
theorem RecsOwn.in_ {B : Nat} {t : TypeId} {w : World} {u : Value} {l : List ByteArray} (h : RecsOwn B t w u l) : StrsIn (fun b => B ≤ b) w u l := by
  obtain ⟨a0, cap, e, hs⟩ := CC.strs_own h.1
  refine ⟨a0, cap, e, fun hn => ?_, hs.imp id ?_⟩
  · subst hn
    rcases h.1.2 with ⟨h1, _⟩ | ⟨g, c, cur, h1, _⟩
    · rw [h1] at e; injection e with _ _ e3; exact e3.symm
    · rw [h1] at e; injection e with e1 _ _; cases e1
  rintro ⟨b, off, e2, hl, hc⟩
  refine ⟨b, off, e2, (h.1.lt b ?_).1, hl, hc⟩
  rw [e, e2]; rfl
end SS
namespace Go.Proofs.Ytggpiajmelhblaa
open SS RR FF CC WW BB
set_option maxRecDepth 100000 in
set_option maxHeartbeats 4000000 in
theorem lawR_any (C : Code9) (b : ByteArray) (w : World) : Calls Try.prog 5 #[.string b] w fun e w' => e = .returned (.bool true) ∧ Below w.heap.size w w' := by
  go_enter Try.func5, Try.ntmps5
  go_wp2_with fail
  refine (awake9_any C _).mono ?_
  rintro e w1 ⟨rfl, hb1⟩
  have B1 := Lib.hid hb1
  clear hb1
  by_cases hlt : 3000 < b.size
  · have t1 : (b.size : Int) > 3000 := by omega
    clear hlt
    go_wp2_with fail
    refine (awake9_any C _).mono ?_
    rintro e w2 ⟨rfl, hb2⟩
    have B2 := Lib.hid (B1.out.trans (hb2.mono B1.out.size))
    clear hb2
    go_wp2_with fail
    go_ret
    exact ⟨rfl, B2.out⟩
  · have t1 : ¬ (b.size : Int) > 3000 := by omega
    have HZ := Lib.hid (show b.size ≤ 3000 by omega)
    clear hlt
    go_wp2_with fail
    refine (C.of b _ HZ.out).mono ?_
    rintro e w2 ⟨g, O, rfl, hg, hO, hb2⟩
    have HG := Lib.hid hg
    have HO := Lib.hid (show ∀ x, O x → w.heap.size ≤ x from fun x h => Nat.le_trans B1.out.size (hO x h))
    have B2 := Lib.hid (B1.out.trans (hb2.mono B1.out.size))
    have HL := Lib.hid (C.lt hg)
    have H1 := Lib.hid (show OkL ⟨b, ⟨#[]⟩, -1, false⟩ from ⟨by show (-1 : Int) ≤ -1; omega, by show (-1 : Int) ≤ 9223372036854775807; omega⟩)
    have H2 := Lib.hid (show sizeL ⟨b, ⟨#[]⟩, -1, false⟩ ≤ 1000000 from by show b.size + 0 ≤ _; have := HZ.out; omega)
    obtain ⟨⟨W, n⟩, hW⟩ : ∃ E, splitS b = E := ⟨_, rfl⟩
    have HWB := Lib.hid (show W.length ≤ 1000000000 ∧ n ≤ 3000 from by
      have := split_end (b.size + 1) b (Nat.lt_succ_self _)
      rw [hW] at this
      have hz := HZ.out
      simp only at this
      omega)
    have HWW := Lib.hid hW
    have HR1 := Lib.hid (show recsL ⟨b, ⟨#[]⟩, -1, false⟩ = W from by
      unfold recsL
      rw [if_neg (by simp)]
      simp only
      rw [app_nil, hW])
    have HC := Lib.hid (cut_recs b)
    obtain ⟨S, hS⟩ : ∃ S, cutL ⟨b, ⟨#[]⟩, -1, false⟩ = S := ⟨_, rfl⟩
    have HCA := Lib.hid (show cutA ⟨b, ⟨#[]⟩, -1, false⟩ = (S, 0) from by unfold cutA; rw [if_neg (by simp), hS])
    have HGS := Lib.hid (show S.gone = false ∧ OkL S from by rw [← hS]; exact ⟨rfl, by show (-1 : Int) ≤ -1; omega, by show (-1 : Int) ≤ 9223372036854775807; omega⟩)
    rw [hS, hW] at HC
    clear hg hO hb2 hS hW
    go_wp2_with fail
    refine (rsplit_any (b.size + 1) b _ (Nat.lt_succ_self _) (by have := HZ.out; omega)).mono ?_
    rintro e w3 ⟨u, rfl, hu, hb3⟩
    rw [HWW.out] at hu ⊢
    have B3 := Lib.hid (B2.out.trans (hb3.mono B2.out.size))
    have HG3 := Lib.hid (C.low HG.out hb3)
    have HU := Lib.hid (hu.in_.sub (A' := fun x => ¬ O x) fun x h _ hO => absurd (HL.out x hO) (by omega))
    clear hu hb3
    simp only
    go_wp2_with fail
    refine (C.records O _ g _ HG3.out H1.out H2.out).mono ?_
    rintro e w4 ⟨v, rfl, hv, hb4⟩
    rw [HR1.out] at hv
    rw [if_neg (show ¬ ((false : Bool) = true) by simp)]
    have HL3 := Lib.hid (C.lt HG3.out)
    have B4 := Lib.hid (B3.out.trans (hb4.mono B3.out.size))
    have HG4 := Lib.hid (C.low HG3.out hb4)
    have HU4 := Lib.hid (HU.out.keep (Keeps.of hb4))
    have HV4 := Lib.hid (hv.sub (A' := fun x => ¬ O x) fun x h _ hO => absurd (HL3.out x hO) (by omega))
    clear hv hb4
    go_wp2_with fail
    refine (C.cut O _ g _ HG4.out H1.out H2.out).mono ?_
    rintro e w5 ⟨rfl, hx⟩
    rw [HCA.out] at hx ⊢
    obtain ⟨O5, hg5, hk5, ho5⟩ := hx
    have B5 := Lib.hid (B4.out.trans (Keeps.low9 hk5 (fun x hx hO' => absurd (HO.out x hO') (by omega)) B4.out.size))
    have HG5 := Lib.hid hg5
    have HU5 := Lib.hid (HU4.out.keep hk5).at_
    have HV5 := Lib.hid (HV4.out.keep hk5).at_
    have HSZ := Lib.hid (show sizeL S ≤ 1000000 from by have := HC.out.2; have := HWB.out; simp only at *; omega)
    clear hg5 hk5 ho5
    simp only
    go_wp2_with fail
    refine (C.records O5 _ g _ HG5.out HGS.out.2 HSZ.out).mono ?_
    rintro e w6 ⟨x, rfl, hv, hb6⟩
    rw [HC.out.1] at hv
    rw [HGS.out.1, if_neg (show ¬ ((false : Bool) = true) by simp)]
    have B6 := Lib.hid (B5.out.trans (hb6.mono B5.out.size))
    have HG6 := Lib.hid (C.low HG5.out hb6)
    have HU6 := Lib.hid (HU5.out.later hb6)
    have HV6 := Lib.hid (HV5.out.later hb6)
    have HX6 := Lib.hid hv.at_
    clear hv hb6
    go_wp2_with fail
    refine (rsame9_any W W _ _ _ HV6.out HU6.out HWB.out.1).mono ?_
    rintro e w7 ⟨rfl, hb7⟩
    rw [decide_eq_true (rfl : W = W)]
    have B7 := Lib.hid (B6.out.trans (hb7.mono B6.out.size))
    have HG7 := Lib.hid (C.low HG6.out hb7)
    have HU7 := Lib.hid (HU6.out.later hb7)
    have HX7 := Lib.hid (HX6.out.later hb7)
    clear hb7
    go_wp2_with fail
    refine (rsame9_any W W _ _ _ HX7.out HU7.out HWB.out.1).mono ?_
    rintro e w8 ⟨rfl, hb8⟩
    rw [decide_eq_true (rfl : W = W)]
    have B8 := Lib.hid (B7.out.trans (hb8.mono B7.out.size))
    have HG8 := Lib.hid (C.low HG7.out hb8)
    clear hb8
    go_wp2_with fail
    refine (C.len O5 _ g _ HG8.out HGS.out.2 HSZ.out).mono ?_
    rintro e w9 ⟨rfl, hb9⟩
    have B9 := Lib.hid (B8.out.trans (hb9.mono B8.out.size))
    rw [HC.out.2]
    clear hb9
    go_wp2_with fail
    go_ret
    exact ⟨rfl, B9.out⟩
end Go.Proofs.Ytggpiajmelhblaa
end
