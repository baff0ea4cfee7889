/-
  The walk of the document's mix: what a mix makes of the sixteen words, as numbers modulo 2^32.
-/
import Derived.Test.YtfbjjlejmcpphaaDoorRef
import Derived.Test.YtfbjjlejmcpphaaDoorOrd
open Go Go.RowKit
namespace BB
theorem bvwrap64 (a : BitVec 32) : IntKind.u64.wrap (a.toNat : Int) = (a.toNat : Int) := by
  have := a.isLt; rw [IntKind.wrap_u64]; omega
theorem bvxor64 (a b : BitVec 32) : bits .xor .u64 (a.toNat : Int) (b.toNat : Int) = ((a ^^^ b).toNat : Int) := by
  have ha := a.isLt
  have hb := b.isLt
  rw [bits_xor_u64_nat _ _ (by omega) (by omega), BitVec.toNat_xor]
theorem sum2_wrap (a b : BitVec 32) : IntKind.u64.wrap ((a.toNat : Int) + (b.toNat : Int)) = (a.toNat : Int) + (b.toNat : Int) := by
  have ha := a.isLt
  have hb := b.isLt
  rw [IntKind.wrap_u64]; omega
theorem sum3_wrap (a b c : BitVec 32) : IntKind.u64.wrap ((a.toNat : Int) + (b.toNat : Int) + (c.toNat : Int)) = (a.toNat : Int) + (b.toNat : Int) + (c.toNat : Int) := by
  have ha := a.isLt
  have hb := b.isLt
  have hc := c.isLt
  rw [IntKind.wrap_u64]; omega
theorem sum3_code (a b c : BitVec 32) : Value.int .u64 (((a.toNat : Int) + ((b.toNat : Int) + (c.toNat : Int))) % 4294967296) = .int .u64 ((a + (b + c)).toNat : Int) := by
  have : ((a.toNat : Int) + ((b.toNat : Int) + (c.toNat : Int))) % 4294967296 = ((a + (b + c)).toNat : Int) := by
    rw [BitVec.toNat_add, BitVec.toNat_add]; omega
  rw [this]
theorem sum2_code (a b : BitVec 32) : Value.int .u64 (((a.toNat : Int) + (b.toNat : Int)) % 4294967296) = .int .u64 ((a + b).toNat : Int) := by
  have : ((a.toNat : Int) + (b.toNat : Int)) % 4294967296 = ((a + b).toNat : Int) := by
    rw [BitVec.toNat_add]; omega
  rw [this]
theorem sum2_mod (a b : BitVec 32) : ((a.toNat : Int) + (b.toNat : Int)).tmod 4294967296 = ((a + b).toNat : Int) := by
  rw [Int.tmod_eq_emod_of_nonneg (by omega), BitVec.toNat_add]; omega
theorem sum3_mod (a b c : BitVec 32) : ((a.toNat : Int) + (b.toNat : Int) + (c.toNat : Int)).tmod 4294967296 = ((a + (b + c)).toNat : Int) := by
  rw [Int.tmod_eq_emod_of_nonneg (by omega), BitVec.toNat_add, BitVec.toNat_add]; omega
end BB
namespace Go.Proofs.YtfbjjlejmcpphaaDoor
open BB
theorem agg_q16 (w : World) : (isAgg 57).run Tryd.prog w = .ok true w := by kernel_rfl
theorem size_q16 (w : World) : (Go.sizeOf 57).run Tryd.prog w = .ok 16 w := by kernel_rfl
set_option maxRecDepth 100000 in
set_option maxHeartbeats 4000000 in
theorem rmix_any (v : Nat → BitVec 32) (a b c d : Nat) (ha : a < 16) (hb : b < 16) (hc : c < 16) (hd : d < 16) (x y : BitVec 32) (w : World) :
    Calls Tryd.prog 35 #[.agg (row 16 (cw .u64 v)), .int .i64 (a : Int), .int .i64 (b : Int), .int .i64 (c : Int), .int .i64 (d : Int), .int .u64 (x.toNat : Int), .int .u64 (y.toNat : Int)] w
      fun e w' => e = .returned (.agg (row 16 (cw .u64 (gmix v a b c d x y)))) ∧ Below w.heap.size w w' := by
  have ha' : (a : Int) < 16 := by omega
  have hb' : (b : Int) < 16 := by omega
  have hc' : (c : Int) < 16 := by omega
  have hd' : (d : Int) < 16 := by omega
  go_enter Tryd.func35, Tryd.ntmps35
  go_wp2_with fail
  obtain ⟨W0, hW0⟩ : ∃ W0, W0 = ((w.alloc (.cells (row 16 (cw .u64 v)) 57)).alloc (.cells (row 16 (cw .u64 fun _ => 0)) 57)) := ⟨_, rfl⟩
  have HB0 : Hid (Below w.heap.size w W0) := by
    rw [hW0]; exact ((Below.refl _ _).alloc (Nat.le_refl _) _).alloc (by simp) _
  have HR0 : Hid (Blk W0 (w.heap.size + 1) 16 (cw .u64 fun _ => 0)) := by
    rw [hW0]; exact Blk.new' (by simp) rfl
  refine abs_wp (MS W0 w.heap.size 16 (cw .u64 v)) ?_ ?_
  · have : MS W0 w.heap.size 16 (cw .u64 v) W0 := MS.mk (by rw [hW0]; exact (Blk.new' rfl rfl).alloc _)
    rw [hW0] at this ⊢
    exact this
  clear hW0
  intro w1 S1
  refine tail_abs 12 (by kernel_rfl) (by kernel_rfl) fun w2 hs => ?_
  have S2 := S1.same hs
  have va : w2.cell? ⟨w.heap.size, a, none⟩ = some (.int .u64 ((v a).toNat : Int)) := S2.get a ha
  have vb : w2.cell? ⟨w.heap.size, b, none⟩ = some (.int .u64 ((v b).toNat : Int)) := S2.get b hb
  have fa := S2.frz a
  have e1 := sum2_wrap (v a) (v b)
  have e2 := sum3_wrap (v a) (v b) x
  have e3 := sum3_mod (v a) (v b) x
  simp only [List.take_succ_cons, List.take_zero, List.drop_succ_cons, List.drop_zero]
  clear hs S1
  clear w1
  repeat still_step
  refine wpStill_nil ?_
  clear e1 e2 e3
  go_wp2_with fail
  refine abs_wp (MS W0 w.heap.size 16 (cw .u64 (add3 v a b x))) (S2.set' a _ _ (cw_put .u64 v a _ _ (sum3_code _ _ _))) ?_
  clear va vb fa S2
  clear w2
  generalize E0 : add3 v a b x = v1
  have H0 := Lib.hid E0
  clear E0
  intro w1 S1
  refine tail_abs 10 (by kernel_rfl) (by kernel_rfl) fun w2 hs => ?_
  have S2 := S1.same hs
  have va : w2.cell? ⟨w.heap.size, d, none⟩ = some (.int .u64 ((v1 d).toNat : Int)) := S2.get d hd
  have vb : w2.cell? ⟨w.heap.size, a, none⟩ = some (.int .u64 ((v1 a).toNat : Int)) := S2.get a ha
  have fa := S2.frz d
  simp only [List.take_succ_cons, List.take_zero, List.drop_succ_cons, List.drop_zero]
  clear hs S1
  clear w1
  repeat still_step
  refine wpStill_step (fun K hK => ?_)
  go_simp
  rw [bvxor64]
  refine ⟨.int .u64 ((ror 16 (v1 d ^^^ v1 a)).toNat : Int), right_any (v1 d ^^^ v1 a) 16 (by simp) w2, ?_⟩
  refine hK _ ?_
  clear hK K
  repeat still_step
  refine wpStill_nil ?_
  go_wp2_with fail
  refine abs_wp (MS W0 w.heap.size 16 (cw .u64 (turn 16 v1 d a))) (S2.set' d _ _ (cw_put .u64 v1 d _ _ rfl)) ?_
  clear va vb fa S2
  clear w2
  generalize E1 : turn 16 v1 d a = v2
  have H1 := Lib.hid E1
  clear E1
  intro w1 S1
  refine tail_abs 10 (by kernel_rfl) (by kernel_rfl) fun w2 hs => ?_
  have S2 := S1.same hs
  have va : w2.cell? ⟨w.heap.size, c, none⟩ = some (.int .u64 ((v2 c).toNat : Int)) := S2.get c hc
  have vb : w2.cell? ⟨w.heap.size, d, none⟩ = some (.int .u64 ((v2 d).toNat : Int)) := S2.get d hd
  have fa := S2.frz c
  have e1 := sum2_wrap (v2 c) (v2 d)
  have e3 := sum2_mod (v2 c) (v2 d)
  simp only [List.take_succ_cons, List.take_zero, List.drop_succ_cons, List.drop_zero]
  clear hs S1
  clear w1
  repeat still_step
  refine wpStill_nil ?_
  clear e1 e3
  go_wp2_with fail
  refine abs_wp (MS W0 w.heap.size 16 (cw .u64 (add2 v2 c d))) (S2.set' c _ _ (cw_put .u64 v2 c _ _ (sum2_code _ _))) ?_
  clear va vb fa S2
  clear w2
  generalize E2 : add2 v2 c d = v3
  have H2 := Lib.hid E2
  clear E2
  intro w1 S1
  refine tail_abs 10 (by kernel_rfl) (by kernel_rfl) fun w2 hs => ?_
  have S2 := S1.same hs
  have va : w2.cell? ⟨w.heap.size, b, none⟩ = some (.int .u64 ((v3 b).toNat : Int)) := S2.get b hb
  have vb : w2.cell? ⟨w.heap.size, c, none⟩ = some (.int .u64 ((v3 c).toNat : Int)) := S2.get c hc
  have fa := S2.frz b
  simp only [List.take_succ_cons, List.take_zero, List.drop_succ_cons, List.drop_zero]
  clear hs S1
  clear w1
  repeat still_step
  refine wpStill_step (fun K hK => ?_)
  go_simp
  rw [bvxor64]
  refine ⟨.int .u64 ((ror 12 (v3 b ^^^ v3 c)).toNat : Int), right_any (v3 b ^^^ v3 c) 12 (by simp) w2, ?_⟩
  refine hK _ ?_
  clear hK K
  repeat still_step
  refine wpStill_nil ?_
  go_wp2_with fail
  refine abs_wp (MS W0 w.heap.size 16 (cw .u64 (turn 12 v3 b c))) (S2.set' b _ _ (cw_put .u64 v3 b _ _ rfl)) ?_
  clear va vb fa S2
  clear w2
  generalize E3 : turn 12 v3 b c = v4
  have H3 := Lib.hid E3
  clear E3
  intro w1 S1
  refine tail_abs 12 (by kernel_rfl) (by kernel_rfl) fun w2 hs => ?_
  have S2 := S1.same hs
  have va : w2.cell? ⟨w.heap.size, a, none⟩ = some (.int .u64 ((v4 a).toNat : Int)) := S2.get a ha
  have vb : w2.cell? ⟨w.heap.size, b, none⟩ = some (.int .u64 ((v4 b).toNat : Int)) := S2.get b hb
  have fa := S2.frz a
  have e1 := sum2_wrap (v4 a) (v4 b)
  have e2 := sum3_wrap (v4 a) (v4 b) y
  have e3 := sum3_mod (v4 a) (v4 b) y
  simp only [List.take_succ_cons, List.take_zero, List.drop_succ_cons, List.drop_zero]
  clear hs S1
  clear w1
  repeat still_step
  refine wpStill_nil ?_
  clear e1 e2 e3
  go_wp2_with fail
  refine abs_wp (MS W0 w.heap.size 16 (cw .u64 (add3 v4 a b y))) (S2.set' a _ _ (cw_put .u64 v4 a _ _ (sum3_code _ _ _))) ?_
  clear va vb fa S2
  clear w2
  generalize E4 : add3 v4 a b y = v5
  have H4 := Lib.hid E4
  clear E4
  intro w1 S1
  refine tail_abs 10 (by kernel_rfl) (by kernel_rfl) fun w2 hs => ?_
  have S2 := S1.same hs
  have va : w2.cell? ⟨w.heap.size, d, none⟩ = some (.int .u64 ((v5 d).toNat : Int)) := S2.get d hd
  have vb : w2.cell? ⟨w.heap.size, a, none⟩ = some (.int .u64 ((v5 a).toNat : Int)) := S2.get a ha
  have fa := S2.frz d
  simp only [List.take_succ_cons, List.take_zero, List.drop_succ_cons, List.drop_zero]
  clear hs S1
  clear w1
  repeat still_step
  refine wpStill_step (fun K hK => ?_)
  go_simp
  rw [bvxor64]
  refine ⟨.int .u64 ((ror 8 (v5 d ^^^ v5 a)).toNat : Int), right_any (v5 d ^^^ v5 a) 8 (by simp) w2, ?_⟩
  refine hK _ ?_
  clear hK K
  repeat still_step
  refine wpStill_nil ?_
  go_wp2_with fail
  refine abs_wp (MS W0 w.heap.size 16 (cw .u64 (turn 8 v5 d a))) (S2.set' d _ _ (cw_put .u64 v5 d _ _ rfl)) ?_
  clear va vb fa S2
  clear w2
  generalize E5 : turn 8 v5 d a = v6
  have H5 := Lib.hid E5
  clear E5
  intro w1 S1
  refine tail_abs 10 (by kernel_rfl) (by kernel_rfl) fun w2 hs => ?_
  have S2 := S1.same hs
  have va : w2.cell? ⟨w.heap.size, c, none⟩ = some (.int .u64 ((v6 c).toNat : Int)) := S2.get c hc
  have vb : w2.cell? ⟨w.heap.size, d, none⟩ = some (.int .u64 ((v6 d).toNat : Int)) := S2.get d hd
  have fa := S2.frz c
  have e1 := sum2_wrap (v6 c) (v6 d)
  have e3 := sum2_mod (v6 c) (v6 d)
  simp only [List.take_succ_cons, List.take_zero, List.drop_succ_cons, List.drop_zero]
  clear hs S1
  clear w1
  repeat still_step
  refine wpStill_nil ?_
  clear e1 e3
  go_wp2_with fail
  refine abs_wp (MS W0 w.heap.size 16 (cw .u64 (add2 v6 c d))) (S2.set' c _ _ (cw_put .u64 v6 c _ _ (sum2_code _ _))) ?_
  clear va vb fa S2
  clear w2
  generalize E6 : add2 v6 c d = v7
  have H6 := Lib.hid E6
  clear E6
  intro w1 S1
  refine tail_abs 10 (by kernel_rfl) (by kernel_rfl) fun w2 hs => ?_
  have S2 := S1.same hs
  have va : w2.cell? ⟨w.heap.size, b, none⟩ = some (.int .u64 ((v7 b).toNat : Int)) := S2.get b hb
  have vb : w2.cell? ⟨w.heap.size, c, none⟩ = some (.int .u64 ((v7 c).toNat : Int)) := S2.get c hc
  have fa := S2.frz b
  simp only [List.take_succ_cons, List.take_zero, List.drop_succ_cons, List.drop_zero]
  clear hs S1
  clear w1
  repeat still_step
  refine wpStill_step (fun K hK => ?_)
  go_simp
  rw [bvxor64]
  refine ⟨.int .u64 ((ror 7 (v7 b ^^^ v7 c)).toNat : Int), right_any (v7 b ^^^ v7 c) 7 (by simp) w2, ?_⟩
  refine hK _ ?_
  clear hK K
  repeat still_step
  refine wpStill_nil ?_
  go_wp2_with (with_reducible refine hold_load (.tmp 7) rfl ?_)
  refine abs_list (MS W0 w.heap.size 16 (cw .u64 (turn 7 v7 b c))) (S2.set' b _ _ (cw_put .u64 v7 b _ _ rfl)) ?_
  clear va vb fa S2
  clear w2
  generalize E7 : turn 7 v7 b c = v8
  have H7 := Lib.hid E7
  clear E7
  intro w1 S1
  refine wpl_load (.tmp 7) w.heap.size 0 16 16 (cw .u64 v8) rfl rfl rfl (agg_q16 _) (size_q16 _) S1.1.cells (by omega) ?_
  have R1 := Blk.upd HR0.out S1.2 (by omega)
  go_wp2_with (with_reducible refine hold_store (.tmp 14) (.tmp 99) rfl ?_)
  refine wpl_store (.tmp 14) (.tmp 99) (w.heap.size + 1) 0 16 16 (cw .u64 fun _ => 0) (cw .u64 v8) rfl rfl rfl (by simp [Act.eval]) (size_q16 _) R1 (by omega) (fun _ _ => rfl) ?_
  intro w3 h3
  go_wp2_with fail
  have h4 : Blk w3 (w.heap.size + 1) 16 (cw .u64 v8) := h3.1.congr _ fun i hi => by simp [hi]
  refine body_row (p := 14) (by kernel_rfl) rfl (agg_q16 _) (size_q16 _) h4.cells (by omega) rfl ⟨?_, (HB0.out.trans (S1.2.below (Nat.le_refl _))).trans (h3.2.below (by omega))⟩
  unfold gmix
  rw [H0.out, H1.out, H2.out, H3.out, H4.out, H5.out, H6.out, H7.out]
end Go.Proofs.YtfbjjlejmcpphaaDoor
