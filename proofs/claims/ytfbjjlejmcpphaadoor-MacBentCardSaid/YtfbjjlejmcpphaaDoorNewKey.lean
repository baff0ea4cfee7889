/-
  The walk of New with a key.
-/
import Derived.Test.YtfbjjlejmcpphaaDoorNew
open Go Go.RowKit
namespace BB
theorem st0_key (l : List UInt8) (h : l ≠ []) : st0 l = ⟨h0 l.length, fun j => if j < l.length then sb l j else 0, 64, 0⟩ := by unfold st0; rw [if_neg h]
theorem dgc_key (l : List UInt8) (n : Nat) (hn : l.length = n) (h32 : n ≤ 32) : ∀ i, i < 74 → put (fun j => if 8 ≤ j ∧ j < 8 + n then cb (sb l) (j - 8) else dgc (h0 n) (fun _ => 0) 0 0 j) 72 (.int .i64 64) i =
    dgc (h0 l.length) (fun j => if j < l.length then sb l j else 0) 64 0 i := fun i hi => by
  rw [hn]
  by_cases e : i = 72
  · subst e; rw [put_same]; simp [dgc]
  · rw [put_other _ _ e]
    by_cases h1 : 8 ≤ i ∧ i < 8 + n
    · rw [if_pos h1]
      unfold dgc
      rw [if_neg (by omega), if_pos (by omega)]
      unfold cb
      dsimp only
      rw [if_pos (by omega)]
    · rw [if_neg h1]
      unfold dgc
      by_cases h2 : i < 8
      · simp [h2]
      · by_cases h3 : i < 72
        · rw [if_neg h2, if_pos h3, if_neg h2, if_pos h3]
          unfold cb
          dsimp only
          rw [if_neg (by omega)]
        · rw [if_neg h2, if_neg h3, if_neg e, if_neg h2, if_neg h3, if_neg e]
section
variable {P : Program} {ops : Array Oper} {Q : Exit → Act → World → Prop} {a : Act} {w : World} {rest : List Oper} {o : Oper}
theorem hold_slice {T : TypeId} {x : Operand} {p q r : Option Operand} (_ho : o.op = .slice T x p q r) (h : Held (wpList P ops Q (o :: rest) a w)) : wpList P ops Q (o :: rest) a w := h
theorem wpl_slice_all {t n e : Nat} (x : Operand) (b off : Nat) (hg : o.guard = none) (ho : o.op = .slice t x none none none) (hx : a.eval x = .pointer (some ⟨b, off, none⟩))
    (hU : (underlying t).run P w = .ok (.array n e) w) (hS : (Go.sizeOf e).run P w = .ok 1 w)
    (hK : wpList P ops Q rest (a.put o.dst (.slice (some ⟨b, off, none⟩) n n)) w) : wpList P ops Q (o :: rest) a w := by
  refine wpl_value hg ?_ hK
  have := run_slice_all (P := P) (b := b) (off := off) hU hS
  unfold execOp
  simp only [ho, Option.map_none, hx, Sem.run_bind, this, Result.andThen_ok, Sem.run_pure]
end
end BB
namespace Go.Proofs.YtfbjjlejmcpphaaDoor
open BB
set_option maxRecDepth 100000 in
set_option maxHeartbeats 2000000 in
theorem new_short (K : ByteArray) (h0k : 0 < K.size) (h32 : K.size ≤ 32) (w : World) (hT : Tabs w) :
    Calls Tryd.prog 31 #[.string K] w fun e w' => e = .returned (.pointer (some ⟨w.heap.size, 0, none⟩)) ∧ Below w.heap.size w w' ∧ Dg w' w.heap.size (st0 K.data.toList) := by
  have HT := Lib.hid hT
  have B0 := Lib.hid (build_digest w)
  have s1 : ¬ (32 : Int) < (K.size : Int) := by omega
  have s2 : (0 : Int) < (K.size : Int) := by omega
  have H0 := Lib.hid h0k
  have H32 := Lib.hid h32
  clear hT h0k h32
  go_enter Tryd.func31, Tryd.ntmps31
  go_wp2_with (with_reducible refine hold_load (Operand.global 0) rfl ?_)
  refine wpl_load_as (Operand.global 0) 0 0 8 8 _ (cw .u32 iv) rfl rfl rfl (agg_w8 _) (size_w8 _) HT.out.iv (by omega) (fun i hi => by rw [Nat.zero_add]) ?_
  refine wpl_build1 (.tmp 9) _ _ rfl rfl rfl B0.out ?_
  go_wp2_with fail
  refine abs_wp (fun w' => Below w.heap.size w w' ∧ Blk w' w.heap.size 74 (dgc iv (fun _ => 0) 0 0)) ⟨(Below.refl _ _).alloc (Nat.le_refl _) _, Blk.new' rfl rfl⟩ ?_
  rintro w1 ⟨b1, d1⟩
  refine tail_abs 14 (by kernel_rfl) (by kernel_rfl) fun w2 hs2 => ?_
  simp only [List.take_succ_cons, List.take_zero, List.drop_succ_cons, List.drop_zero]
  have d2 := d1.same hs2
  have b2 := b1.trans (hs2.below _)
  have c0 : w2.cell? ⟨w.heap.size, 0, none⟩ = some (.int .u32 ((iv 0).toNat : Int)) := d2.get 0 (by omega)
  have f0 := d2.frz 0
  have m1 : IntKind.u32.wrap (K.size : Int) = (K.size : Int) := by have := H32.out; rw [IntKind.wrap_u32']; omega
  have m2 : IntKind.u32.wrap ((K.size : Int) * 256) = (K.size : Int) * 256 := by have := H32.out; rw [IntKind.wrap_u32']; omega
  clear hs2 b1 d1
  clear w1
  repeat still_step
  refine wpStill_nil ?_
  clear m1 m2
  go_wp2_with (with_reducible refine hold_slice rfl ?_)
  refine abs_list (fun w' => Below w.heap.size w w' ∧ Blk w' w.heap.size 74 (dgc (h0 K.size) (fun _ => 0) 0 0)) ⟨b2.setCell (Nat.le_refl _) _, (d2.set 0 _).congr (dgc (h0 K.size) (fun _ => 0) 0 0) (dgc_put0 iv (fun _ => 0) 0 0 _ _ (xor_h0 K.size H32.out))⟩ ?_
  clear c0 f0 d2 b2
  clear w2
  rintro w1 ⟨b1, d1⟩
  refine wpl_slice_all (.tmp 31) w.heap.size 8 rfl rfl (by rfl) (under_b64 _) (size_byte _) ?_
  go_wp2_with (with_reducible refine hold_copy rfl ?_)
  refine wpl_copy_str (.tmp 32) (.tmp 33) w.heap.size 8 74 64 64 K.size (dgc (h0 K.size) (fun _ => 0) 0 0) K rfl rfl (by rfl) (by rfl) (under_bytes _) (size_byte _) d1 (by have := H32.out; omega) (by have := H32.out; omega) ?_
  intro w4 h4
  have c4 : w4.cell? ⟨w.heap.size, 72, none⟩ = some (.int .i64 0) := by
    have h32 := H32.out
    have := h4.1.get 72 (by omega)
    rw [if_neg (by omega)] at this
    exact this
  have f4 := h4.1.frz 72
  have hl : K.data.toList.length = K.size := by simp
  have D5 := Lib.hid ((h4.1.set 72 (.int .i64 64)).congr _ (dgc_key K.data.toList K.size hl H32.out))
  clear hl
  go_wp2_with fail
  go_ret
  refine ⟨rfl, (b1.trans (h4.2.below (Nat.le_refl _))).setCell (Nat.le_refl _) _, ?_⟩
  have hne : K.data.toList ≠ [] := fun e => by
    have h0 := H0.out
    have : K.data.toList.length = K.size := by simp
    rw [e] at this
    simp at this
    omega
  rw [st0_key _ hne]
  exact D5.out
end Go.Proofs.YtfbjjlejmcpphaaDoor
