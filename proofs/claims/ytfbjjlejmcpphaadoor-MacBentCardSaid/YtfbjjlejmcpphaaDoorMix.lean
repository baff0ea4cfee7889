/-
  The walk of the code's own mix: what a round's mix makes of the sixteen words.
-/
import Derived.Test.YtfbjjlejmcpphaaDoorRows
import Derived.Test.YtfbjjlejmcpphaaDoorBase
open Go Go.RowKit
namespace Go.Proofs.YtfbjjlejmcpphaaDoor
open BB
theorem rot_any (x : BitVec 32) (m : Int) (n : Nat) (hm : m = -16 ∧ n = 16 ∨ m = -12 ∧ n = 12 ∨ m = -8 ∧ n = 8 ∨ m = -7 ∧ n = 7) (w : World) :
    Calls Tryd.prog 42 #[.int .u32 (x.toNat : Int), .int .i64 m] w fun e w' => e = .returned (.int .u32 ((ror n x).toNat : Int)) ∧ w' = w := by
  rcases hm with ⟨rfl, rfl⟩ | ⟨rfl, rfl⟩ | ⟨rfl, rfl⟩ | ⟨rfl, rfl⟩
  · have h16 : bits BinOp.and IntKind.u64 (IntKind.u64.wrap (-16)) 31 = 16 := by decide
    go_enter Tryd.func42, Tryd.ntmps42
    go_wp2
    go_ret
    exact ⟨ret_int (ror_code x 16 _ _ (by decide) (by decide)), rfl⟩
  · have h16 : bits BinOp.and IntKind.u64 (IntKind.u64.wrap (-12)) 31 = 20 := by decide
    go_enter Tryd.func42, Tryd.ntmps42
    go_wp2
    go_ret
    exact ⟨ret_int (ror_code x 12 _ _ (by decide) (by decide)), rfl⟩
  · have h16 : bits BinOp.and IntKind.u64 (IntKind.u64.wrap (-8)) 31 = 24 := by decide
    go_enter Tryd.func42, Tryd.ntmps42
    go_wp2
    go_ret
    exact ⟨ret_int (ror_code x 8 _ _ (by decide) (by decide)), rfl⟩
  · have h16 : bits BinOp.and IntKind.u64 (IntKind.u64.wrap (-7)) 31 = 25 := by decide
    go_enter Tryd.func42, Tryd.ntmps42
    go_wp2
    go_ret
    exact ⟨ret_int (ror_code x 7 _ _ (by decide) (by decide)), rfl⟩
set_option maxRecDepth 100000 in
set_option maxHeartbeats 4000000 in
theorem mix_any (b : Nat) (v : Nat → BitVec 32) (i : Nat) (hi : i < 8) (x y : BitVec 32) (w : World) (hv : Blk w b 16 (cw .u32 v))
   (pa pb pc pd : Nat) (ha : pa < 16) (hb : pb < 16) (hc : pc < 16) (hd : pd < 16)
   (h0 : w.cell? ⟨2, i * 4, none⟩ = some (.int .u8 pa)) (h1 : w.cell? ⟨2, i * 4 + 1, none⟩ = some (.int .u8 pb))
   (h2 : w.cell? ⟨2, i * 4 + 2, none⟩ = some (.int .u8 pc)) (h3 : w.cell? ⟨2, i * 4 + 3, none⟩ = some (.int .u8 pd)) :
    Calls Tryd.prog 41 #[.pointer (some ⟨b, 0, none⟩), .int .i64 i, .int .u32 (x.toNat : Int), .int .u32 (y.toNat : Int)] w fun e w' => e = .returned (.tuple #[]) ∧ MS w b 16 (cw .u32 (gmix v pa pb pc pd x y)) w' := by
  have hi' : (i : Int) < 8 := by omega
  have ha' : (pa : Int) < 16 := by omega
  have hb' : (pb : Int) < 16 := by omega
  have hc' : (pc : Int) < 16 := by omega
  have hd' : (pd : Int) < 16 := by omega
  go_enter Tryd.func41, Tryd.ntmps41
  go_wp2_with fail
  refine quiet_abs (by kernel_rfl) (by kernel_rfl) fun w1 hs1 => ?_
  have g0 := (hs1.cell _).trans h0
  have g1 := (hs1.cell _).trans h1
  have g2 := (hs1.cell _).trans h2
  have g3 := (hs1.cell _).trans h3
  repeat still_step
  refine wpStill_nil ?_
  have S1 : MS w b 16 (cw .u32 v) w1 := (MS.mk hv).same hs1
  clear g0 g1 g2 g3 h0 h1 h2 h3 hv hs1
  go_wp2_with fail
  refine tail_abs 15 (by kernel_rfl) (by kernel_rfl) fun w2 hs => ?_
  have S2 := S1.same hs
  have va : w2.cell? ⟨b, pa, none⟩ = some (.int .u32 ((v pa).toNat : Int)) := S2.get pa ha
  have vb : w2.cell? ⟨b, pb, none⟩ = some (.int .u32 ((v pb).toNat : Int)) := S2.get pb hb
  have fa := S2.frz pa
  simp only [List.take_succ_cons, List.take_zero, List.drop_succ_cons, List.drop_zero]
  clear hs S1
  clear w1
  repeat still_step
  refine wpStill_nil ?_
  go_wp2_with fail
  refine abs_wp (MS w b 16 (cw .u32 (add3 v pa pb x))) (S2.set' pa _ _ (cw_put .u32 v pa _ _ (add3_code _ _ _))) ?_
  clear va vb fa S2
  clear w2
  generalize E0 : add3 v pa pb x = v1
  have H0 := Lib.hid E0
  clear E0
  intro w1 S1
  refine tail_abs 16 (by kernel_rfl) (by kernel_rfl) fun w2 hs => ?_
  have S2 := S1.same hs
  have va : w2.cell? ⟨b, pd, none⟩ = some (.int .u32 ((v1 pd).toNat : Int)) := S2.get pd hd
  have vb : w2.cell? ⟨b, pa, none⟩ = some (.int .u32 ((v1 pa).toNat : Int)) := S2.get pa ha
  have fa := S2.frz pd
  simp only [List.take_succ_cons, List.take_zero, List.drop_succ_cons, List.drop_zero]
  clear hs S1
  clear w1
  repeat still_step
  refine wpStill_step (fun K hK => ?_)
  go_simp
  rw [bvxor]
  refine ⟨.int .u32 ((ror 16 (v1 pd ^^^ v1 pa)).toNat : Int), rot_any (v1 pd ^^^ v1 pa) (-16) 16 (by simp) w2, ?_⟩
  refine hK _ ?_
  clear hK K
  repeat still_step
  refine wpStill_nil ?_
  go_wp2_with fail
  refine abs_wp (MS w b 16 (cw .u32 (turn 16 v1 pd pa))) (S2.set' pd _ _ (cw_put .u32 v1 pd _ _ rfl)) ?_
  clear va vb fa S2
  clear w2
  generalize E1 : turn 16 v1 pd pa = v2
  have H1 := Lib.hid E1
  clear E1
  intro w1 S1
  refine tail_abs 13 (by kernel_rfl) (by kernel_rfl) fun w2 hs => ?_
  have S2 := S1.same hs
  have va : w2.cell? ⟨b, pc, none⟩ = some (.int .u32 ((v2 pc).toNat : Int)) := S2.get pc hc
  have vb : w2.cell? ⟨b, pd, none⟩ = some (.int .u32 ((v2 pd).toNat : Int)) := S2.get pd hd
  have fa := S2.frz pc
  simp only [List.take_succ_cons, List.take_zero, List.drop_succ_cons, List.drop_zero]
  clear hs S1
  clear w1
  repeat still_step
  refine wpStill_nil ?_
  go_wp2_with fail
  refine abs_wp (MS w b 16 (cw .u32 (add2 v2 pc pd))) (S2.set' pc _ _ (cw_put .u32 v2 pc _ _ (add2_code _ _))) ?_
  clear va vb fa S2
  clear w2
  generalize E2 : add2 v2 pc pd = v3
  have H2 := Lib.hid E2
  clear E2
  intro w1 S1
  refine tail_abs 16 (by kernel_rfl) (by kernel_rfl) fun w2 hs => ?_
  have S2 := S1.same hs
  have va : w2.cell? ⟨b, pb, none⟩ = some (.int .u32 ((v3 pb).toNat : Int)) := S2.get pb hb
  have vb : w2.cell? ⟨b, pc, none⟩ = some (.int .u32 ((v3 pc).toNat : Int)) := S2.get pc hc
  have fa := S2.frz pb
  simp only [List.take_succ_cons, List.take_zero, List.drop_succ_cons, List.drop_zero]
  clear hs S1
  clear w1
  repeat still_step
  refine wpStill_step (fun K hK => ?_)
  go_simp
  rw [bvxor]
  refine ⟨.int .u32 ((ror 12 (v3 pb ^^^ v3 pc)).toNat : Int), rot_any (v3 pb ^^^ v3 pc) (-12) 12 (by simp) w2, ?_⟩
  refine hK _ ?_
  clear hK K
  repeat still_step
  refine wpStill_nil ?_
  go_wp2_with fail
  refine abs_wp (MS w b 16 (cw .u32 (turn 12 v3 pb pc))) (S2.set' pb _ _ (cw_put .u32 v3 pb _ _ rfl)) ?_
  clear va vb fa S2
  clear w2
  generalize E3 : turn 12 v3 pb pc = v4
  have H3 := Lib.hid E3
  clear E3
  intro w1 S1
  refine tail_abs 15 (by kernel_rfl) (by kernel_rfl) fun w2 hs => ?_
  have S2 := S1.same hs
  have va : w2.cell? ⟨b, pa, none⟩ = some (.int .u32 ((v4 pa).toNat : Int)) := S2.get pa ha
  have vb : w2.cell? ⟨b, pb, none⟩ = some (.int .u32 ((v4 pb).toNat : Int)) := S2.get pb hb
  have fa := S2.frz pa
  simp only [List.take_succ_cons, List.take_zero, List.drop_succ_cons, List.drop_zero]
  clear hs S1
  clear w1
  repeat still_step
  refine wpStill_nil ?_
  go_wp2_with fail
  refine abs_wp (MS w b 16 (cw .u32 (add3 v4 pa pb y))) (S2.set' pa _ _ (cw_put .u32 v4 pa _ _ (add3_code _ _ _))) ?_
  clear va vb fa S2
  clear w2
  generalize E4 : add3 v4 pa pb y = v5
  have H4 := Lib.hid E4
  clear E4
  intro w1 S1
  refine tail_abs 16 (by kernel_rfl) (by kernel_rfl) fun w2 hs => ?_
  have S2 := S1.same hs
  have va : w2.cell? ⟨b, pd, none⟩ = some (.int .u32 ((v5 pd).toNat : Int)) := S2.get pd hd
  have vb : w2.cell? ⟨b, pa, none⟩ = some (.int .u32 ((v5 pa).toNat : Int)) := S2.get pa ha
  have fa := S2.frz pd
  simp only [List.take_succ_cons, List.take_zero, List.drop_succ_cons, List.drop_zero]
  clear hs S1
  clear w1
  repeat still_step
  refine wpStill_step (fun K hK => ?_)
  go_simp
  rw [bvxor]
  refine ⟨.int .u32 ((ror 8 (v5 pd ^^^ v5 pa)).toNat : Int), rot_any (v5 pd ^^^ v5 pa) (-8) 8 (by simp) w2, ?_⟩
  refine hK _ ?_
  clear hK K
  repeat still_step
  refine wpStill_nil ?_
  go_wp2_with fail
  refine abs_wp (MS w b 16 (cw .u32 (turn 8 v5 pd pa))) (S2.set' pd _ _ (cw_put .u32 v5 pd _ _ rfl)) ?_
  clear va vb fa S2
  clear w2
  generalize E5 : turn 8 v5 pd pa = v6
  have H5 := Lib.hid E5
  clear E5
  intro w1 S1
  refine tail_abs 13 (by kernel_rfl) (by kernel_rfl) fun w2 hs => ?_
  have S2 := S1.same hs
  have va : w2.cell? ⟨b, pc, none⟩ = some (.int .u32 ((v6 pc).toNat : Int)) := S2.get pc hc
  have vb : w2.cell? ⟨b, pd, none⟩ = some (.int .u32 ((v6 pd).toNat : Int)) := S2.get pd hd
  have fa := S2.frz pc
  simp only [List.take_succ_cons, List.take_zero, List.drop_succ_cons, List.drop_zero]
  clear hs S1
  clear w1
  repeat still_step
  refine wpStill_nil ?_
  go_wp2_with fail
  refine abs_wp (MS w b 16 (cw .u32 (add2 v6 pc pd))) (S2.set' pc _ _ (cw_put .u32 v6 pc _ _ (add2_code _ _))) ?_
  clear va vb fa S2
  clear w2
  generalize E6 : add2 v6 pc pd = v7
  have H6 := Lib.hid E6
  clear E6
  intro w1 S1
  refine tail_abs 16 (by kernel_rfl) (by kernel_rfl) fun w2 hs => ?_
  have S2 := S1.same hs
  have va : w2.cell? ⟨b, pb, none⟩ = some (.int .u32 ((v7 pb).toNat : Int)) := S2.get pb hb
  have vb : w2.cell? ⟨b, pc, none⟩ = some (.int .u32 ((v7 pc).toNat : Int)) := S2.get pc hc
  have fa := S2.frz pb
  simp only [List.take_succ_cons, List.take_zero, List.drop_succ_cons, List.drop_zero]
  clear hs S1
  clear w1
  repeat still_step
  refine wpStill_step (fun K hK => ?_)
  go_simp
  rw [bvxor]
  refine ⟨.int .u32 ((ror 7 (v7 pb ^^^ v7 pc)).toNat : Int), rot_any (v7 pb ^^^ v7 pc) (-7) 7 (by simp) w2, ?_⟩
  refine hK _ ?_
  clear hK K
  repeat still_step
  refine wpStill_nil ?_
  go_wp2_with fail
  refine abs_body (MS w b 16 (cw .u32 (turn 7 v7 pb pc))) (S2.set' pb _ _ (cw_put .u32 v7 pb _ _ rfl)) ?_
  clear va vb fa S2
  clear w2
  generalize E7 : turn 7 v7 pb pc = v8
  have H7 := Lib.hid E7
  clear E7
  intro w1 S1
  go_end0
  refine ⟨rfl, ?_⟩
  unfold gmix
  rw [H0.out, H1.out, H2.out, H3.out, H4.out, H5.out, H6.out, H7.out]
  exact S1
end Go.Proofs.YtfbjjlejmcpphaaDoor
