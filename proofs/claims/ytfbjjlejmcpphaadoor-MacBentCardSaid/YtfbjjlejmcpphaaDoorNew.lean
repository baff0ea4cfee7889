/-
  The walk of New: a digest that begins with a key, or without.
-/
import Derived.Test.YtfbjjlejmcpphaaDoorSum
open Go Go.RowKit
namespace BB
/-- how the words begin, by the key's length -/
def h0 (n : Nat) : Nat → BitVec 32 := put iv 0 (iv 0 ^^^ (0x01010020 ^^^ BitVec.ofNat 32 (n * 256)))
/-- a digest that begins with the key l, of at most 32 bytes -/
def st0 (l : List UInt8) : St := if l = [] then ⟨h0 0, fun _ => 0, 0, 0⟩ else ⟨h0 l.length, fun j => if j < l.length then sb l j else 0, 64, 0⟩
theorem st0_ok (l : List UInt8) : (st0 l).Ok (if l = [] then 0 else 64) := by
  unfold st0
  split
  · exact ⟨by show 0 ≤ 64; omega, fun _ => by show 0 < 256; omega, rfl⟩
  · refine ⟨Nat.le_refl _, fun i => ?_, rfl⟩
    show (if i < l.length then sb l i else 0) < 256
    split
    · exact sb_lt _ _
    · omega
theorem xor_h0 (n : Nat) (hn : n ≤ 32) : Value.int .u32 (bits .xor .u32 ((iv 0).toNat : Int) (bits .xor .u32 16842784 ((n : Int) * 256))) = .int .u32 ((iv 0 ^^^ (0x01010020 ^^^ BitVec.ofNat 32 (n * 256))).toNat : Int) := by
  have e1 : ((n : Int) * 256) = ((BitVec.ofNat 32 (n * 256)).toNat : Int) := by rw [BitVec.toNat_ofNat]; omega
  have e2 : (16842784 : Int) = ((0x01010020 : BitVec 32).toNat : Int) := rfl
  rw [e1, e2, bvxor, bvxor]
theorem dgc_put0 (h : Nat → BitVec 32) (B : Nat → Nat) (fl be : Nat) (x : BitVec 32) (u : Value) (hu : u = .int .u32 (x.toNat : Int)) : ∀ i, i < 74 → put (dgc h B fl be) 0 u i = dgc (put h 0 x) B fl be i := fun i _ => by
  subst hu
  unfold put dgc
  by_cases e : i = 0
  · subst e; simp [cw]
  · simp only [if_neg e]
    by_cases e8 : i < 8
    · simp [e8, cw, e]
    · simp [e8]
section
variable {P : Program} {ops : Array Oper} {Q : Exit → Act → World → Prop} {a : Act} {w : World} {rest : List Oper} {o : Oper}
theorem wpl_build1 {T i : Nat} (x : Operand) (v0 v : Value) (hg : o.guard = none) (ho : o.op = .build T #[(i, x)]) (hx : a.eval x = v0) (h : (Instr.build T #[(i, v0)]).run P w = .ok v w)
    (hK : wpList P ops Q rest (a.put o.dst v) w) : wpList P ops Q (o :: rest) a w := by
  refine wpl_value hg ?_ hK
  unfold execOp
  simp only [ho, Sem.run_bind, Sem.run_pure, List.map_toArray, List.map_cons, List.map_nil, hx, h, Result.andThen_ok]
end
end BB
namespace Go.Proofs.YtfbjjlejmcpphaaDoor
open BB
theorem build_digest (w : World) : (Instr.build 64 #[(0, .agg (row 8 (cw .u32 iv)))]).run Tryd.prog w = .ok (.agg (row 74 (dgc iv (fun _ => 0) 0 0))) w := by kernel_rfl
set_option maxRecDepth 100000 in
set_option maxHeartbeats 1000000 in
theorem new_none (w : World) (hT : Tabs w) :
    Calls Tryd.prog 31 #[.string ⟨#[]⟩] w fun e w' => e = .returned (.pointer (some ⟨w.heap.size, 0, none⟩)) ∧ Below w.heap.size w w' ∧ Dg w' w.heap.size (st0 []) := by
  have HT := Lib.hid hT
  have B0 := Lib.hid (build_digest w)
  clear hT
  go_enter Tryd.func31, Tryd.ntmps31
  go_wp2_with (with_reducible refine hold_load (Operand.global 0) rfl ?_)
  refine wpl_load_as (Operand.global 0) 0 0 8 8 _ (cw .u32 iv) rfl rfl rfl (agg_w8 _) (size_w8 _) HT.out.iv (by omega) (fun i hi => by rw [Nat.zero_add]) ?_
  refine wpl_build1 (.tmp 9) _ _ rfl rfl rfl B0.out ?_
  go_wp2_with fail
  refine abs_wp (fun w' => Below w.heap.size w w' ∧ Blk w' w.heap.size 74 (dgc iv (fun _ => 0) 0 0)) ⟨(Below.refl _ _).alloc (Nat.le_refl _) _, Blk.new' rfl rfl⟩ ?_
  rintro w1 ⟨b1, d1⟩
  refine tail_abs 14 (by kernel_rfl) (by kernel_rfl) fun w2 hs2 => ?_
  simp only [List.take_succ_cons, List.take_zero, List.drop_succ_cons, List.drop_zero]
  have d2 := d1.same hs2
  have b2 := b1.trans (hs2.below _)
  have c0 : w2.cell? ⟨w.heap.size, 0, none⟩ = some (.int .u32 ((iv 0).toNat : Int)) := d2.get 0 (by omega)
  have f0 := d2.frz 0
  clear hs2 b1 d1
  clear w1
  repeat still_step
  refine wpStill_nil ?_
  go_wp2_with fail
  go_ret
  refine ⟨rfl, b2.setCell (Nat.le_refl _) _, ?_⟩
  exact (d2.set 0 _).congr (dgc (h0 0) (fun _ => 0) 0 0) (dgc_put0 iv (fun _ => 0) 0 0 _ _ (show Value.int .u32 (bits .xor .u32 ((iv 0).toNat : Int) (bits .xor .u32 16842784 0)) = _ from xor_h0 0 (by omega)))
end Go.Proofs.YtfbjjlejmcpphaaDoor
