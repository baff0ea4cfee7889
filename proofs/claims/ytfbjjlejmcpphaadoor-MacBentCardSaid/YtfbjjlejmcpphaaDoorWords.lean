/-
  The walk of the code's wordsOf: a block's sixteen words.
-/
import Derived.Test.YtfbjjlejmcpphaaDoorRows
import Derived.Test.YtfbjjlejmcpphaaDoorComp
open Go Go.RowKit
namespace Go.Proofs.YtfbjjlejmcpphaaDoor
open BB
structure WordsAt (B : Nat → Nat) (w : World) (k : Nat) (w' : World) : Prop where
  below : Below w.heap.size w w'
  src : Blk w' w.heap.size 64 (cb B)
  res : Blk w' (w.heap.size + 1) 16 (cw .u32 fun _ => 0)
  m : Blk w' (w.heap.size + 1 + 1) 16 (cw .u32 (wstep B k))
theorem WordsAt.same {B : Nat → Nat} {w w1 w2 : World} {k : Nat} (h : WordsAt B w k w1) (hs : Same w1 w2) : WordsAt B w k w2 :=
  ⟨h.below.trans (hs.below _), h.src.same hs, h.res.same hs, h.m.same hs⟩
theorem or_shl (m : BitVec 32) (x r : Nat) : bits .or .u32 (m.toNat : Int) ((x : Int) * 2 ^ (8 * r) % 4294967296) = ((m ||| BitVec.ofNat 32 x <<< (8 * r)).toNat : Int) := by
  have : ((x : Int) * 2 ^ (8 * r) % 4294967296) = ((BitVec.ofNat 32 x <<< (8 * r)).toNat : Int) := by
    rw [BitVec.toNat_shiftLeft, BitVec.toNat_ofNat, Nat.shiftLeft_eq]
    simp [Nat.mod_mul_mod]
  rw [this, bvor]
theorem agg_w16 (w : World) : (isAgg 69).run Tryd.prog w = .ok true w := by kernel_rfl
theorem size_w16 (w : World) : (Go.sizeOf 69).run Tryd.prog w = .ok 16 w := by kernel_rfl
theorem WordsAt.next {B : Nat → Nat} {w w2 : World} {k : Nat} (h : WordsAt B w k w2) (q r : Nat) (u : Value) (hq : q = k / 4) (hr : r = k % 4)
    (hu : u = .int .u32 ((wstep B k q ||| BitVec.ofNat 32 (B k) <<< (8 * r)).toNat : Int)) : WordsAt B w (k + 1) (w2.setCell ⟨w.heap.size + 1 + 1, q, none⟩ u) := by
  refine ⟨h.below.setCell (by show _ ≤ w.heap.size + 1 + 1; omega) _, h.src.set_other _ _ (by show w.heap.size ≠ w.heap.size + 1 + 1; omega), h.res.set_other _ _ (by show w.heap.size + 1 ≠ w.heap.size + 1 + 1; omega), ?_⟩
  have := h.m.set q u
  rw [cw_put .u32 _ _ _ _ hu, hq, hr] at this
  rw [hq]
  exact this
set_option maxRecDepth 100000 in
set_option maxHeartbeats 1000000 in
theorem words_any (B : Nat → Nat) (hB : ∀ i, B i < 256) (w : World) :
    Calls Tryd.prog 40 #[.agg (row 64 (cb B))] w fun e w' => e = .returned (.agg (row 16 (cw .u32 (wstep B 64)))) ∧ Below w.heap.size w w' := by
  have HB := Lib.hid hB
  clear hB
  go_enter Tryd.func40, Tryd.ntmps40
  go_wp2_with fail
  refine abs_wp (fun w' => WordsAt B w 0 w') ?_ ?_
  · refine ⟨(((Below.refl _ _).alloc (Nat.le_refl _) _).alloc (by simp) _).alloc (by simp; omega) _, ?_, ?_, ?_⟩
    · exact ((Blk.new' rfl rfl).alloc _).alloc _
    · refine Blk.alloc ?_ _
      exact Blk.new' (by simp) rfl
    · exact Blk.new' (by simp) rfl
  intro w1 h1
  go_loopw [5] (fun i wr => ∃ k : Nat, k ≤ 64 ∧ i = .int .i64 k ∧ WordsAt B w k wr) (fun i _ => 64 - (intOf i).toNat)
  case atStart => exact ⟨0, by omega, rfl, h1⟩
  case round =>
    obtain ⟨k, hk, rfl, hr⟩ := hrel
    by_cases hlt : k < 64
    · have hlt' : (k : Int) < 64 := by omega
      go_wp2_with fail
      refine tail_abs 14 (by kernel_rfl) (by kernel_rfl) fun w2 hs => ?_
      have S2 := hr.same hs
      obtain ⟨q, hq⟩ : ∃ q, q = k / 4 := ⟨_, rfl⟩
      obtain ⟨r, hr4⟩ : ∃ r, r = k % 4 := ⟨_, rfl⟩
      have ca : w2.cell? ⟨w.heap.size, k, none⟩ = some (.int .u8 (B k : Int)) := S2.src.get k hlt
      have cm : w2.cell? ⟨w.heap.size + 1 + 1, q, none⟩ = some (.int .u32 ((wstep B k q).toNat : Int)) := S2.m.get q (by omega)
      have fm := S2.m.frz q
      have hB := HB.out k
      have q1 : IntKind.i64.wrap ((k : Int) / 4) = (q : Int) := by rw [IntWalk.i64_in _ (by omega)]; omega
      have q2 : (q : Int) < 16 := by omega
      have r1 : (k : Int).tmod 4 = (r : Int) := by rw [Int.tmod_eq_emod_of_nonneg (by omega)]; omega
      have r3 : IntKind.i64.wrap (8 * (r : Int)) = 8 * (r : Int) := IntWalk.i64_in _ (by omega)
      have b1 : IntKind.u32.wrap (B k : Int) = (B k : Int) := by rw [IntKind.wrap_u32']; omega
      have r2 : (r : Int) < 4 := by omega
      have HQ := Lib.hid hq
      have HR := Lib.hid hr4
      clear hs hr hq hr4
      simp only [List.take_succ_cons, List.take_zero, List.drop_succ_cons, List.drop_zero]
      repeat still_step
      refine wpStill_nil ?_
      go_wp2_with fail
      go_roundw
      case rel => exact ⟨k + 1, by omega, by go_num, S2.next q r _ HQ.out HR.out (by rw [or_shl])⟩
      case measure => simp [intOf]; omega
    · obtain rfl : k = 64 := by omega
      go_wp2_with (first
        | with_reducible refine wpl_load (.tmp 3) (w.heap.size + 1 + 1) 0 16 16 (cw .u32 (wstep B 64)) rfl rfl rfl (agg_w16 _) (size_w16 _) hr.m.cells (by omega) ?_
        | ((with_reducible refine wpl_store (.tmp 2) (.tmp 23) (w.heap.size + 1) 0 16 16 (cw .u32 fun _ => 0) (cw .u32 (wstep B 64)) rfl rfl rfl rfl (size_w16 _) hr.res (by omega) (fun _ _ => rfl) ?_); intro w3 h3))
      have h4 : Blk w3 (w.heap.size + 1) 16 (cw .u32 (wstep B 64)) := h3.1.congr _ fun i hi => by simp [hi]
      exact body_row (p := 2) (by kernel_rfl) rfl (agg_w16 _) (size_w16 _) h4.cells (by omega) rfl ⟨rfl, hr.below.trans (h3.2.below (by omega))⟩
end Go.Proofs.YtfbjjlejmcpphaaDoor
