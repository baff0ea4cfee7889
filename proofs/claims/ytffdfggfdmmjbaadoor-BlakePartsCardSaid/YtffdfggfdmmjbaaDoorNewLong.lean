/-
  The walk of New with a key of more than 32 bytes.
-/
import Derived.Test.YtffdfggfdmmjbaaDoorNewKey
open Go Go.RowKit
namespace Go.Proofs.YtffdfggfdmmjbaaDoor
open BB
set_option maxRecDepth 100000 in
set_option maxHeartbeats 2000000 in
theorem new_long (K0 : ByteArray) (h32 : 32 < K0.size) (w : World) (hT : Tabs w) :
    Calls Tryd.prog 13 #[.string K0] w fun e w' => e = .returned (.pointer (some ⟨w.heap.size, 0, none⟩)) ∧ Below w.heap.size w w' ∧ Dg w' w.heap.size (st0 (K0.extract 0 32).data.toList) := by
  have HT := Lib.hid hT
  have B0 := Lib.hid (build_digest w)
  have s1 : (32 : Int) < (K0.size : Int) := by omega
  have hx : (K0.extract 0 32).size = 32 := by simp; omega
  have HX := Lib.hid hx
  clear hT h32 hx
  go_enter Tryd.func13, Tryd.ntmps13
  go_wp2_with (with_reducible refine hold_load (Operand.global 0) rfl ?_)
  obtain ⟨K, hK⟩ : ∃ K, K0.extract 0 32 = K := ⟨_, rfl⟩
  rw [hK]
  have HKK := Lib.hid hK
  have hk32 : K.size = 32 := by rw [← hK]; exact HX.out
  have s1' : ¬ (32 : Int) < (K.size : Int) := by omega
  have s2 : (0 : Int) < (K.size : Int) := by omega
  have H0 := Lib.hid (show 0 < K.size by omega)
  have H32 := Lib.hid (show K.size ≤ 32 by omega)
  clear hK hk32
  refine wpl_load_as (Operand.global 0) 0 0 8 8 _ (cw .u32 iv) rfl rfl rfl (agg_w8 _) (size_w8 _) HT.out.iv (by omega) (fun i hi => by rw [Nat.zero_add]) ?_
  refine wpl_build1 (.tmp 9) _ _ rfl rfl rfl B0.out ?_
  go_wp2_with fail
  refine abs_wp (fun w' => Below w.heap.size w w' ∧ Blk w' w.heap.size 74 (dgc iv (fun _ => 0) 0 0)) ⟨(Below.refl _ _).alloc (Nat.le_refl _) _, Blk.new' rfl rfl⟩ ?_
  rintro w1 ⟨b1, d1⟩
  refine tail_abs 14 (by kernel_rfl) (by kernel_rfl) fun w2 hs2 => ?_
  simp only [List.take_succ_cons, List.take_zero, List.drop_succ_cons, List.drop_zero]
  have d2 := d1.same hs2
  have b2 := b1.trans (hs2.below _)
  have c0 : w2.cell? ⟨w.heap.size, 0, none⟩ = some (.int .u32 ((iv 0).toNat : Int)) := d2.get 0 (by omega)
  have f0 := d2.frz 0
  have m1 : IntKind.u32.wrap (K.size : Int) = (K.size : Int) := by have := H32.out; rw [IntKind.wrap_u32']; omega
  have m2 : IntKind.u32.wrap ((K.size : Int) * 256) = (K.size : Int) * 256 := by have := H32.out; rw [IntKind.wrap_u32']; omega
  clear hs2 b1 d1
  clear w1
  repeat still_step
  refine wpStill_nil ?_
  clear m1 m2
  go_wp2_with (with_reducible refine hold_slice rfl ?_)
  refine abs_list (fun w' => Below w.heap.size w w' ∧ Blk w' w.heap.size 74 (dgc (h0 K.size) (fun _ => 0) 0 0)) ⟨b2.setCell (Nat.le_refl _) _, (d2.set 0 _).congr (dgc (h0 K.size) (fun _ => 0) 0 0) (dgc_put0 iv (fun _ => 0) 0 0 _ _ (xor_h0 K.size H32.out))⟩ ?_
  clear c0 f0 d2 b2
  clear w2
  rintro w1 ⟨b1, d1⟩
  refine wpl_slice_all (.tmp 31) w.heap.size 8 rfl rfl (by rfl) (under_b64 _) (size_byte _) ?_
  go_wp2_with (with_reducible refine hold_copy rfl ?_)
  refine wpl_copy_str (.tmp 32) (.tmp 33) w.heap.size 8 74 64 64 K.size (dgc (h0 K.size) (fun _ => 0) 0 0) K rfl rfl (by rfl) (by rfl) (under_bytes _) (size_byte _) d1 (by have := H32.out; omega) (by have := H32.out; omega) ?_
  intro w4 h4
  have c4 : w4.cell? ⟨w.heap.size, 72, none⟩ = some (.int .i64 0) := by
    have h32 := H32.out
    have := h4.1.get 72 (by omega)
    rw [if_neg (by omega)] at this
    exact this
  have f4 := h4.1.frz 72
  have hl : K.data.toList.length = K.size := by simp
  have D5 := Lib.hid ((h4.1.set 72 (.int .i64 64)).congr _ (dgc_key K.data.toList K.size hl H32.out))
  clear hl
  go_wp2_with fail
  go_ret
  refine ⟨rfl, (b1.trans (h4.2.below (Nat.le_refl _))).setCell (Nat.le_refl _) _, ?_⟩
  have hne : K.data.toList ≠ [] := fun e => by
    have h0 := H0.out
    have : K.data.toList.length = K.size := by simp
    rw [e] at this
    simp at this
    omega
  rw [HKK.out, st0_key _ hne]
  exact D5.out
end Go.Proofs.YtffdfggfdmmjbaaDoor
