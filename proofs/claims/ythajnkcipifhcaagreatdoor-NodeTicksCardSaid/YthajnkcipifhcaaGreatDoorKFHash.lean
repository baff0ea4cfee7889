/-
  Digests that the kernel reckons: the words as lists, each made a literal before it is used.
-/
import Derived.Test.YthajnkcipifhcaaGreatDoorKCallsW
import Derived.Test.YthajnkcipifhcaaGreatDoorKPlanN
section
open Go Go.RowKit
namespace BB
def obyte (v : Nat → BitVec 32) (i : Nat) : Nat := (v (i / 4)).toNat / 2 ^ (8 * (i % 4)) % 256
def ostep (v : Nat → BitVec 32) : Nat → Nat → Nat
  | 0 => fun _ => 0
  | k + 1 => put (ostep v k) k (obyte v k)
theorem ostep_lt (v : Nat → BitVec 32) (k i : Nat) (h : i < k) : ostep v k i = obyte v i := by
  induction k with
  | zero => omega
  | succ k ih =>
    show put (ostep v k) k (obyte v k) i = _
    by_cases e : i = k
    · subst e; rw [put_same]
    · rw [put_other _ _ e]; exact ih (by omega)
/-- the digest's text -/
def outL (v : Nat → BitVec 32) : List UInt8 := (List.range 32).map fun i => UInt8.ofNat (obyte v i)
def outS (v : Nat → BitVec 32) : ByteArray := ⟨(outL v).toArray⟩
/-- the words behind all that was written -/
def St.done (s : St) : Nat → BitVec 32 := comp s.h s.B (s.be + s.fl) true
theorem out_conv {P : Program} {w : World} {src dst e ob : Nat} {v : Nat → BitVec 32} (hs : P.underlying src = some (.slice e)) (he : P.underlying e = some (.int .u8)) (hd : P.underlying dst = some .string)
    (hb : Blk w ob 32 (cb (ostep v 32))) : (convert src dst (.slice (some ⟨ob, 0, none⟩) 32 32)).run P w = .ok (.string (outS v)) w := by
  have h := run_convert_bytes_arg (P := P) w src e hs he ob 0 32 32 ((List.range 32).map fun i => (obyte v i : Int)) (by simp) (fun i hi => by
    rw [Nat.zero_add, hb.get i hi]
    unfold cb
    rw [ostep_lt v 32 i hi]
    simp [hi]) dst hd
  rw [h]
  have : strOfNums ((List.range 32).map fun i => (obyte v i : Int)) = outS v := by
    unfold outS outL strOfNums
    simp [List.map_map, Function.comp_def]
  rw [this]
end BB
namespace Go.Proofs.YthajnkcipifhcaaGreatDoor
open BB
theorem Dg.be {w : World} {b : Nat} {s : St} (h : Dg w b s) : w.cell? ⟨b, 73, none⟩ = some (.int .u64 (s.be : Int)) := h.get 73 (by omega)
structure SumAt (v : Nat → BitVec 32) (w : World) (wb ob k : Nat) (w' : World) : Prop where
  below : Below w.heap.size w w'
  words : Blk w' wb 8 (cw .u32 v)
  out : Blk w' ob 32 (cb (ostep v k))
  l1 : w.heap.size ≤ wb
  l2 : w.heap.size ≤ ob
  ne : wb ≠ ob
theorem SumAt.next {v : Nat → BitVec 32} {w : World} {wb ob k : Nat} {w' : World} (h : SumAt v w wb ob k w') (q r : Nat) (hq : q = k / 4) (hr : r = k % 4) :
    SumAt v w wb ob (k + 1) (w'.setCell ⟨ob, k, none⟩ (.int .u8 (((v q).toNat : Int) / 2 ^ (8 * r) % 256))) := by
  refine ⟨h.below.setCell h.l2 _, h.words.set_other _ _ h.ne, ?_, h.l1, h.l2, h.ne⟩
  have e : Value.int .u8 (((v q).toNat : Int) / 2 ^ (8 * r) % 256) = .int .u8 ((obyte v k : Nat) : Int) := by
    subst hq; subst hr; unfold obyte; congr 1
  rw [e]
  exact (h.out.set k _).congr _ fun i _ => by
    show put (cb (ostep v k)) k _ i = cb (put (ostep v k) k (obyte v k)) i
    unfold cb put; split <;> rfl
set_option maxRecDepth 100000 in
set_option maxHeartbeats 1000000 in
theorem dsum_any (b : Nat) (s : St) (L : Nat) (hs : s.Ok L) (hl : L < 4611686018427387904) (w : World) (hd : Dg w b s) (hT : Tabs w) (hb : NoTab b) :
    Calls Tryz.prog 181 #[.pointer (some ⟨b, 0, none⟩)] w fun e w' => e = .returned (.string (outS s.done)) ∧ Below w.heap.size w w' := by
  have HS := Lib.hid hs
  have HL := Lib.hid hl
  have HD := Lib.hid hd
  have HT := Lib.hid hT
  have HB := Lib.hid hb
  clear hs hl hd hT hb
  go_enter Tryz.func181, Tryz.ntmps181
  go_wp2_with fail
  have hlt := HD.out.lt
  refine call_alloc (a1 := ?a1) [0, 1, 2, 3, 4, 5, 6, 7, 8, 9, 10, 11, 12, 13, 14, 15, 16, 17] 18 19 20 _ _ _ 239 8 #[.agg (row 8 (cw .u32 s.h)), .agg (row 64 (cb s.B)), .int .u64 ((s.be + s.fl : Nat) : Int), .bool true] (cw .u32 s.done) _ 269 269 24 3
    (by kernel_rfl) (by kernel_rfl) (fun _ _ d _ _ h => by cases d <;> exact h) rfl rfl rfl rfl rfl rfl rfl rfl rfl (by decide) (fun w2 hs2 => ?_) ?_ ?_ ?_ rfl (fun w' => ?_) ⟨fun _ => .int .u32 0, rfl⟩ ?_ rfl size_w8 (fun _ _ => rfl) ?_
  rotate_left 1
  · simp only [pick, List.filterMap, List.getElem?_toArray, List.getElem?_cons_zero, List.getElem?_cons_succ]
    have D2 : Dg w2 b s := HD.out.same hs2
    refine held_step (.pointer (some ⟨b, 0, none⟩)) rfl (fun _ _ => rfl) ?_
    refine held_step (.pointer (some ⟨b, 0, none⟩)) rfl (fun _ _ => rfl) ?_
    simp only [Act.put, List.setIfInBounds_toArray, List.set_cons_zero, List.set_cons_succ]
    refine held_step (.pointer (some ⟨b, 0, none⟩)) rfl (fun _ _ => by go_simp) ?_
    simp only [Act.put, List.setIfInBounds_toArray, List.set_cons_zero, List.set_cons_succ]
    refine held_step (.agg (row 8 (cw .u32 s.h))) rfl (fun w' hS => ?_) ?_
    · rw [← row_congr 8 _ _ (dgc_w s.h s.B s.fl s.be)]
      exact run_op_load rfl rfl (agg_w8 _) (size_w8 _) (Blk.cells (Blk.below D2 hS (Blk.lt D2))) (by omega)
    simp only [Act.put, List.setIfInBounds_toArray, List.set_cons_zero, List.set_cons_succ]
    refine held_step (.pointer (some ⟨b, 0, none⟩)) rfl (fun _ _ => rfl) ?_
    refine held_step (.pointer (some ⟨b, 0, none⟩)) rfl (fun _ _ => rfl) ?_
    simp only [Act.put, List.setIfInBounds_toArray, List.set_cons_zero, List.set_cons_succ]
    refine held_step (.pointer (some ⟨b, 8, none⟩)) rfl (fun _ _ => by go_simp) ?_
    simp only [Act.put, List.setIfInBounds_toArray, List.set_cons_zero, List.set_cons_succ]
    refine held_step (.agg (row 64 (cb s.B))) rfl (fun w' hS => ?_) ?_
    · rw [← row_congr 64 _ _ (dgc_b s.h s.B s.fl s.be)]
      exact run_op_load rfl rfl (agg_b64 _) (size_b64 _) (Blk.cells (Blk.below D2 hS (Blk.lt D2))) (by omega)
    simp only [Act.put, List.setIfInBounds_toArray, List.set_cons_zero, List.set_cons_succ]
    refine held_step (.pointer (some ⟨b, 0, none⟩)) rfl (fun _ _ => rfl) ?_
    refine held_step (.pointer (some ⟨b, 0, none⟩)) rfl (fun _ _ => rfl) ?_
    simp only [Act.put, List.setIfInBounds_toArray, List.set_cons_zero, List.set_cons_succ]
    refine held_step (.pointer (some ⟨b, 73, none⟩)) rfl (fun _ _ => by go_simp) ?_
    simp only [Act.put, List.setIfInBounds_toArray, List.set_cons_zero, List.set_cons_succ]
    refine held_step (.int .u64 (s.be : Int)) rfl (fun w' hS => ?_) ?_
    · have c73 := Dg.be (show Dg w' b s from Blk.below D2 hS (Blk.lt D2))
      go_simp
    simp only [Act.put, List.setIfInBounds_toArray, List.set_cons_zero, List.set_cons_succ]
    refine held_step (.pointer (some ⟨b, 0, none⟩)) rfl (fun _ _ => rfl) ?_
    refine held_step (.pointer (some ⟨b, 0, none⟩)) rfl (fun _ _ => rfl) ?_
    simp only [Act.put, List.setIfInBounds_toArray, List.set_cons_zero, List.set_cons_succ]
    refine held_step (.pointer (some ⟨b, 72, none⟩)) rfl (fun _ _ => by go_simp) ?_
    simp only [Act.put, List.setIfInBounds_toArray, List.set_cons_zero, List.set_cons_succ]
    refine held_step (.int .i64 (s.fl : Int)) rfl (fun w' hS => ?_) ?_
    · have c72 := Dg.fl (show Dg w' b s from Blk.below D2 hS (Blk.lt D2))
      go_simp
    simp only [Act.put, List.setIfInBounds_toArray, List.set_cons_zero, List.set_cons_succ]
    refine held_step (.int .u64 (s.fl : Int)) rfl (fun w' hS => ?_) ?_
    · have u1 : IntKind.u64.wrap (s.fl : Int) = (s.fl : Int) := by have := HS.out.fl; rw [IntKind.wrap_u64]; omega
      go_simp
    simp only [Act.put, List.setIfInBounds_toArray, List.set_cons_zero, List.set_cons_succ]
    refine held_step (.int .u64 ((s.be + s.fl : Nat) : Int)) rfl (fun w' hS => ?_) ?_
    · have u2 : IntKind.u64.wrap ((s.be : Int) + (s.fl : Int)) = ((s.be + s.fl : Nat) : Int) := by have := HS.out.tot; have := HL.out; rw [IntKind.wrap_u64]; omega
      go_simp
    simp only [Act.put, List.setIfInBounds_toArray, List.set_cons_zero, List.set_cons_succ]
    exact rfl
  · intro w'; go_simp
  · intro p w'; go_simp
  · intro w2 w' hs2 hb
    have hb0 : Below w.heap.size w w' := (hs2.below _).trans (hs2.heap ▸ hb)
    exact mixed_any s.h s.B HS.out.B (s.be + s.fl) (by have := HS.out.tot; have := HL.out; omega) true w' (HT.out.below hb0 (Nat.le_refl _))
  · go_simp
    rfl
  · intro p; exact ⟨rfl, rfl⟩
  · intro p w' hb hp hblk
    go_wp2_with fail
    have hl8 := hblk.lt
    refine abs_wp (fun w2 => SumAt s.done w p w'.heap.size 0 w2) ⟨hb.alloc hb.size _, hblk.alloc _, Blk.new' rfl rfl, hp, hb.size, by omega⟩ ?_
    clear hblk hlt hl8
    generalize w'.heap.size = ob
    intro w2 h2
    go_loopw [25] (fun i wr => ∃ k : Nat, k ≤ 32 ∧ i = .int .i64 k ∧ SumAt s.done w p ob k wr) (fun i _ => 32 - (intOf i).toNat)
    case atStart => exact ⟨0, by omega, rfl, h2⟩
    case round =>
      clear h2
      obtain ⟨k, hk, rfl, hr⟩ := hrel
      by_cases hlt : k < 32
      · have hlt' : (k : Int) < 32 := by omega
        obtain ⟨q, hq⟩ : ∃ q, q = k / 4 := ⟨_, rfl⟩
        obtain ⟨r, hr4⟩ : ∃ r, r = k % 4 := ⟨_, rfl⟩
        have q1 : (k : Int) / 4 = (q : Int) := by omega
        have q2 : (q : Int) < 8 := by omega
        have r1 : (k : Int) % 4 = (r : Int) := by omega
        have r2 : (r : Int) < 4 := by omega
        have cw1 : wr.cell? ⟨p, q, none⟩ = some (.int .u32 ((s.done q).toNat : Int)) := hr.words.get q (by omega)
        have co := hr.out.get k hlt
        have fo := hr.out.frz k
        unfold cb at co
        have HQ := Lib.hid hq
        have HR := Lib.hid hr4
        clear hq hr4
        go_wp2_with fail
        go_roundw
        case rel => exact ⟨k + 1, by omega, by go_num, hr.next q r HQ.out HR.out⟩
        case measure => simp [intOf]; omega
      · obtain rfl : k = 32 := by omega
        have hconv := out_conv (P := Tryz.prog) (w := wr) (src := 99) (dst := 9) (e := 5) (by kernel_rfl) (by kernel_rfl) (by kernel_rfl) hr.out
        go_wp2_with fail
        go_ret
        exact ⟨rfl, hr.below⟩
end Go.Proofs.YthajnkcipifhcaaGreatDoor
end
section
open Go Go.RowKit
namespace BB
/-- how the words begin, by the key's length -/
def h0 (n : Nat) : Nat → BitVec 32 := put iv 0 (iv 0 ^^^ (0x01010020 ^^^ BitVec.ofNat 32 (n * 256)))
/-- a digest that begins with the key l, of at most 32 bytes -/
def st0 (l : List UInt8) : St := if l = [] then ⟨h0 0, fun _ => 0, 0, 0⟩ else ⟨h0 l.length, fun j => if j < l.length then sb l j else 0, 64, 0⟩
theorem st0_ok (l : List UInt8) : (st0 l).Ok (if l = [] then 0 else 64) := by
  unfold st0
  split
  · exact ⟨by show 0 ≤ 64; omega, fun _ => by show 0 < 256; omega, rfl⟩
  · refine ⟨Nat.le_refl _, fun i => ?_, rfl⟩
    show (if i < l.length then sb l i else 0) < 256
    split
    · exact sb_lt _ _
    · omega
theorem xor_h0 (n : Nat) (hn : n ≤ 32) : Value.int .u32 (bits .xor .u32 ((iv 0).toNat : Int) (bits .xor .u32 16842784 ((n : Int) * 256))) = .int .u32 ((iv 0 ^^^ (0x01010020 ^^^ BitVec.ofNat 32 (n * 256))).toNat : Int) := by
  have e1 : ((n : Int) * 256) = ((BitVec.ofNat 32 (n * 256)).toNat : Int) := by rw [BitVec.toNat_ofNat]; omega
  have e2 : (16842784 : Int) = ((0x01010020 : BitVec 32).toNat : Int) := rfl
  rw [e1, e2, bvxor, bvxor]
theorem dgc_put0 (h : Nat → BitVec 32) (B : Nat → Nat) (fl be : Nat) (x : BitVec 32) (u : Value) (hu : u = .int .u32 (x.toNat : Int)) : ∀ i, i < 74 → put (dgc h B fl be) 0 u i = dgc (put h 0 x) B fl be i := fun i _ => by
  subst hu
  unfold put dgc
  by_cases e : i = 0
  · subst e; simp [cw]
  · simp only [if_neg e]
    by_cases e8 : i < 8
    · simp [e8, cw, e]
    · simp [e8]
section
variable {P : Program} {ops : Array Oper} {Q : Exit → Act → World → Prop} {a : Act} {w : World} {rest : List Oper} {o : Oper}
theorem wpl_build1 {T i : Nat} (x : Operand) (v0 v : Value) (hg : o.guard = none) (ho : o.op = .build T #[(i, x)]) (hx : a.eval x = v0) (h : (Instr.build T #[(i, v0)]).run P w = .ok v w)
    (hK : wpList P ops Q rest (a.put o.dst v) w) : wpList P ops Q (o :: rest) a w := by
  refine wpl_value hg ?_ hK
  unfold execOp
  simp only [ho, Sem.run_bind, Sem.run_pure, List.map_toArray, List.map_cons, List.map_nil, hx, h, Result.andThen_ok]
end
end BB
namespace Go.Proofs.YthajnkcipifhcaaGreatDoor
open BB
theorem build_digest (w : World) : (Instr.build 272 #[(0, .agg (row 8 (cw .u32 iv)))]).run Tryz.prog w = .ok (.agg (row 74 (dgc iv (fun _ => 0) 0 0))) w := by kernel_rfl
set_option maxRecDepth 100000 in
set_option maxHeartbeats 1000000 in
theorem new_none (w : World) (hT : Tabs w) :
    Calls Tryz.prog 179 #[.string ⟨#[]⟩] w fun e w' => e = .returned (.pointer (some ⟨w.heap.size, 0, none⟩)) ∧ Below w.heap.size w w' ∧ Dg w' w.heap.size (st0 []) := by
  have HT := Lib.hid hT
  have B0 := Lib.hid (build_digest w)
  clear hT
  go_enter Tryz.func179, Tryz.ntmps179
  go_wp2_with (with_reducible refine hold_load (Operand.global 0) rfl ?_)
  refine wpl_load_as (Operand.global 0) 0 0 8 8 _ (cw .u32 iv) rfl rfl rfl (agg_w8 _) (size_w8 _) HT.out.iv (by omega) (fun i hi => by rw [Nat.zero_add]) ?_
  refine wpl_build1 (.tmp 9) _ _ rfl rfl rfl B0.out ?_
  go_wp2_with fail
  refine abs_wp (fun w' => Below w.heap.size w w' ∧ Blk w' w.heap.size 74 (dgc iv (fun _ => 0) 0 0)) ⟨(Below.refl _ _).alloc (Nat.le_refl _) _, Blk.new' rfl rfl⟩ ?_
  rintro w1 ⟨b1, d1⟩
  refine tail_abs 14 (by kernel_rfl) (by kernel_rfl) fun w2 hs2 => ?_
  simp only [List.take_succ_cons, List.take_zero, List.drop_succ_cons, List.drop_zero]
  have d2 := d1.same hs2
  have b2 := b1.trans (hs2.below _)
  have c0 : w2.cell? ⟨w.heap.size, 0, none⟩ = some (.int .u32 ((iv 0).toNat : Int)) := d2.get 0 (by omega)
  have f0 := d2.frz 0
  clear hs2 b1 d1
  clear w1
  repeat still_step
  refine wpStill_nil ?_
  go_wp2_with fail
  go_ret
  refine ⟨rfl, b2.setCell (Nat.le_refl _) _, ?_⟩
  exact (d2.set 0 _).congr (dgc (h0 0) (fun _ => 0) 0 0) (dgc_put0 iv (fun _ => 0) 0 0 _ _ (show Value.int .u32 (bits .xor .u32 ((iv 0).toNat : Int) (bits .xor .u32 16842784 0)) = _ from xor_h0 0 (by omega)))
end Go.Proofs.YthajnkcipifhcaaGreatDoor
end
section
open Go Go.RowKit
namespace BB
theorem conv4 {P : Program} (w : World) (src dst e : TypeId) (hs : P.underlying src = some (.slice e)) (he : P.underlying e = some (.int .u8)) (hd : P.underlying dst = some .string) (a b c d : Int) :
    (convert src dst (.slice (some ⟨w.heap.size, 0, none⟩) 4 4)).run P (w.alloc (.cells #[.int .u8 a, .int .u8 b, .int .u8 c, .int .u8 d] e)) = .ok (.string (strOfNums [a, b, c, d])) (w.alloc (.cells #[.int .u8 a, .int .u8 b, .int .u8 c, .int .u8 d] e)) := by
  refine run_convert_bytes_arg _ src e hs he _ 0 4 4 [a, b, c, d] rfl (fun i hi => ?_) dst hd
  have hn : (w.alloc (.cells #[.int .u8 a, .int .u8 b, .int .u8 c, .int .u8 d] e)).heap[w.heap.size]? = some (.cells #[.int .u8 a, .int .u8 b, .int .u8 c, .int .u8 d] e) := by show (w.heap.push _)[w.heap.size]? = _; simp
  rw [Nat.zero_add]
  match i, hi with
  | 0, _ => unfold World.cell?; rw [hn]; rfl
  | 1, _ => unfold World.cell?; rw [hn]; rfl
  | 2, _ => unfold World.cell?; rw [hn]; rfl
  | 3, _ => unfold World.cell?; rw [hn]; rfl
end BB
end
section
open Go Go.RowKit
namespace BB
theorem st0_key (l : List UInt8) (h : l ≠ []) : st0 l = ⟨h0 l.length, fun j => if j < l.length then sb l j else 0, 64, 0⟩ := by unfold st0; rw [if_neg h]
theorem dgc_key (l : List UInt8) (n : Nat) (hn : l.length = n) (h32 : n ≤ 32) : ∀ i, i < 74 → put (fun j => if 8 ≤ j ∧ j < 8 + n then cb (sb l) (j - 8) else dgc (h0 n) (fun _ => 0) 0 0 j) 72 (.int .i64 64) i =
    dgc (h0 l.length) (fun j => if j < l.length then sb l j else 0) 64 0 i := fun i hi => by
  rw [hn]
  by_cases e : i = 72
  · subst e; rw [put_same]; simp [dgc]
  · rw [put_other _ _ e]
    by_cases h1 : 8 ≤ i ∧ i < 8 + n
    · rw [if_pos h1]
      unfold dgc
      rw [if_neg (by omega), if_pos (by omega)]
      unfold cb
      dsimp only
      rw [if_pos (by omega)]
    · rw [if_neg h1]
      unfold dgc
      by_cases h2 : i < 8
      · simp [h2]
      · by_cases h3 : i < 72
        · rw [if_neg h2, if_pos h3, if_neg h2, if_pos h3]
          unfold cb
          dsimp only
          rw [if_neg (by omega)]
        · rw [if_neg h2, if_neg h3, if_neg e, if_neg h2, if_neg h3, if_neg e]
section
variable {P : Program} {ops : Array Oper} {Q : Exit → Act → World → Prop} {a : Act} {w : World} {rest : List Oper} {o : Oper}
theorem hold_slice {T : TypeId} {x : Operand} {p q r : Option Operand} (_ho : o.op = .slice T x p q r) (h : Held (wpList P ops Q (o :: rest) a w)) : wpList P ops Q (o :: rest) a w := h
theorem wpl_slice_all {t n e : Nat} (x : Operand) (b off : Nat) (hg : o.guard = none) (ho : o.op = .slice t x none none none) (hx : a.eval x = .pointer (some ⟨b, off, none⟩))
    (hU : (underlying t).run P w = .ok (.array n e) w) (hS : (Go.sizeOf e).run P w = .ok 1 w)
    (hK : wpList P ops Q rest (a.put o.dst (.slice (some ⟨b, off, none⟩) n n)) w) : wpList P ops Q (o :: rest) a w := by
  refine wpl_value hg ?_ hK
  have := run_slice_all (P := P) (b := b) (off := off) hU hS
  unfold execOp
  simp only [ho, Option.map_none, hx, Sem.run_bind, this, Result.andThen_ok, Sem.run_pure]
end
end BB
namespace Go.Proofs.YthajnkcipifhcaaGreatDoor
open BB
set_option maxRecDepth 100000 in
set_option maxHeartbeats 2000000 in
theorem new_short (K : ByteArray) (h0k : 0 < K.size) (h32 : K.size ≤ 32) (w : World) (hT : Tabs w) :
    Calls Tryz.prog 179 #[.string K] w fun e w' => e = .returned (.pointer (some ⟨w.heap.size, 0, none⟩)) ∧ Below w.heap.size w w' ∧ Dg w' w.heap.size (st0 K.data.toList) := by
  have HT := Lib.hid hT
  have B0 := Lib.hid (build_digest w)
  have s1 : ¬ (32 : Int) < (K.size : Int) := by omega
  have s2 : (0 : Int) < (K.size : Int) := by omega
  have H0 := Lib.hid h0k
  have H32 := Lib.hid h32
  clear hT h0k h32
  go_enter Tryz.func179, Tryz.ntmps179
  go_wp2_with (with_reducible refine hold_load (Operand.global 0) rfl ?_)
  refine wpl_load_as (Operand.global 0) 0 0 8 8 _ (cw .u32 iv) rfl rfl rfl (agg_w8 _) (size_w8 _) HT.out.iv (by omega) (fun i hi => by rw [Nat.zero_add]) ?_
  refine wpl_build1 (.tmp 9) _ _ rfl rfl rfl B0.out ?_
  go_wp2_with fail
  refine abs_wp (fun w' => Below w.heap.size w w' ∧ Blk w' w.heap.size 74 (dgc iv (fun _ => 0) 0 0)) ⟨(Below.refl _ _).alloc (Nat.le_refl _) _, Blk.new' rfl rfl⟩ ?_
  rintro w1 ⟨b1, d1⟩
  refine tail_abs 14 (by kernel_rfl) (by kernel_rfl) fun w2 hs2 => ?_
  simp only [List.take_succ_cons, List.take_zero, List.drop_succ_cons, List.drop_zero]
  have d2 := d1.same hs2
  have b2 := b1.trans (hs2.below _)
  have c0 : w2.cell? ⟨w.heap.size, 0, none⟩ = some (.int .u32 ((iv 0).toNat : Int)) := d2.get 0 (by omega)
  have f0 := d2.frz 0
  have m1 : IntKind.u32.wrap (K.size : Int) = (K.size : Int) := by have := H32.out; rw [IntKind.wrap_u32']; omega
  have m2 : IntKind.u32.wrap ((K.size : Int) * 256) = (K.size : Int) * 256 := by have := H32.out; rw [IntKind.wrap_u32']; omega
  clear hs2 b1 d1
  clear w1
  repeat still_step
  refine wpStill_nil ?_
  clear m1 m2
  go_wp2_with (with_reducible refine hold_slice rfl ?_)
  refine abs_list (fun w' => Below w.heap.size w w' ∧ Blk w' w.heap.size 74 (dgc (h0 K.size) (fun _ => 0) 0 0)) ⟨b2.setCell (Nat.le_refl _) _, (d2.set 0 _).congr (dgc (h0 K.size) (fun _ => 0) 0 0) (dgc_put0 iv (fun _ => 0) 0 0 _ _ (xor_h0 K.size H32.out))⟩ ?_
  clear c0 f0 d2 b2
  clear w2
  rintro w1 ⟨b1, d1⟩
  refine wpl_slice_all (.tmp 31) w.heap.size 8 rfl rfl (by rfl) (under_b64 _) (size_byte _) ?_
  go_wp2_with (with_reducible refine hold_copy rfl ?_)
  refine wpl_copy_str (.tmp 32) (.tmp 33) w.heap.size 8 74 64 64 K.size (dgc (h0 K.size) (fun _ => 0) 0 0) K rfl rfl (by rfl) (by rfl) (under_bytes _) (size_byte _) d1 (by have := H32.out; omega) (by have := H32.out; omega) ?_
  intro w4 h4
  have c4 : w4.cell? ⟨w.heap.size, 72, none⟩ = some (.int .i64 0) := by
    have h32 := H32.out
    have := h4.1.get 72 (by omega)
    rw [if_neg (by omega)] at this
    exact this
  have f4 := h4.1.frz 72
  have hl : K.data.toList.length = K.size := by simp
  have D5 := Lib.hid ((h4.1.set 72 (.int .i64 64)).congr _ (dgc_key K.data.toList K.size hl H32.out))
  clear hl
  go_wp2_with fail
  go_ret
  refine ⟨rfl, (b1.trans (h4.2.below (Nat.le_refl _))).setCell (Nat.le_refl _) _, ?_⟩
  have hne : K.data.toList ≠ [] := fun e => by
    have h0 := H0.out
    have : K.data.toList.length = K.size := by simp
    rw [e] at this
    simp at this
    omega
  rw [st0_key _ hne]
  exact D5.out
end Go.Proofs.YthajnkcipifhcaaGreatDoor
end
section
open Go Go.RowKit
namespace BB
/-- the digest of b, without a key -/
def dg (b : ByteArray) : ByteArray := outS ((st0 []).feed b.data.toList).done
theorem dsize (b : ByteArray) : (dg b).size = 32 := by simp [dg, outS, outL, ByteArray.size]
end BB
namespace Go.Proofs.YthajnkcipifhcaaGreatDoor
open BB
theorem noTab_new (w : World) (hT : Tabs w) : NoTab w.heap.size := ⟨Nat.ne_of_gt hT.l1, Nat.ne_of_gt hT.l2, Nat.ne_of_gt hT.l3⟩
set_option maxRecDepth 100000 in
set_option maxHeartbeats 1000000 in
theorem digest_none (b : ByteArray) (hb : b.size < 1099511627776) (w : World) (hT : Tabs w) :
    Calls Tryz.prog 128 #[.string ⟨#[]⟩, .string b] w fun e w' => e = .returned (.string (dg b)) ∧ Below w.heap.size w w' := by
  have HT := Lib.hid hT
  have HL := Lib.hid hb
  have HO := Lib.hid (st0_ok [])
  clear hT hb
  go_enter Tryz.func128, Tryz.ntmps128
  go_wp2_with fail
  refine (new_none w HT.out).mono ?_
  rintro e w1 ⟨rfl, hb1, hd1⟩
  have HT1 := Lib.hid (HT.out.below hb1 (Nat.le_refl _))
  have HN := Lib.hid (noTab_new w HT.out)
  have HD1 := Lib.hid hd1
  have HB1 := Lib.hid hb1
  clear hb1 hd1
  go_wp2_with fail
  refine (write_any w.heap.size (st0 []) 0 HO.out b (by have := HL.out; omega) w1 HD1.out HT1.out HN.out).mono ?_
  rintro e w2 ⟨rfl, hk2, hd2⟩
  have HD2 := Lib.hid hd2
  have HK2 := Lib.hid hk2
  clear hk2 hd2
  go_wp2_with fail
  have HO2 := Lib.hid (HO.out.feed b.data.toList)
  refine (dsum_any w.heap.size _ _ HO2.out (by have := HL.out; simp; omega) w2 HD2.out (HT1.out.keep HK2.out HN.out) HN.out).mono ?_
  rintro e w3 ⟨rfl, hb3⟩
  go_wp2_with fail
  go_ret
  exact ⟨rfl, (HB1.out.trans (HK2.out.below (Nat.le_refl _) HB1.out.size)).trans (hb3.mono (Nat.le_trans HB1.out.size HK2.out.size))⟩
set_option maxRecDepth 100000 in
set_option maxHeartbeats 1000000 in
theorem sum_any (b : ByteArray) (hb : b.size < 1099511627776) (w : World) (hT : Tabs w) :
    Calls Tryz.prog 79 #[.string b] w fun e w' => e = .returned (.string (dg b)) ∧ Below w.heap.size w w' := by
  go_enter Tryz.func79, Tryz.ntmps79
  go_wp2_with fail
  refine (digest_none b hb w hT).mono ?_
  rintro e w1 ⟨rfl, hb1⟩
  go_wp2_with fail
  go_ret
  exact ⟨rfl, hb1⟩
end Go.Proofs.YthajnkcipifhcaaGreatDoor
end
section
open Go Go.RowKit
namespace BB
end BB
namespace Go.Proofs.YthajnkcipifhcaaGreatDoor
open BB
/-- two digests beside each other -/
structure Two (w0 : World) (b1 b2 : Nat) (s t : St) (w : World) : Prop where
  below : Below w0.heap.size w0 w
  d1 : Dg w b1 s
  d2 : Dg w b2 t
  tabs : Tabs w
  n1 : NoTab b1
  n2 : NoTab b2
  ne : b1 ≠ b2
  l1 : w0.heap.size ≤ b1
  l2 : w0.heap.size ≤ b2
section
variable {w0 w w' : World} {b1 b2 : Nat} {s t s' : St}
theorem Two.on (h : Two w0 b1 b2 s t w) (hb : Below w.heap.size w w') : Two w0 b1 b2 s t w' :=
  ⟨h.below.trans (hb.mono h.below.size), Blk.below h.d1 hb (Blk.lt h.d1), Blk.below h.d2 hb (Blk.lt h.d2), h.tabs.below hb (Nat.le_refl _), h.n1, h.n2, h.ne, h.l1, h.l2⟩
end
end Go.Proofs.YthajnkcipifhcaaGreatDoor
end
section
open Go Go.RowKit
namespace BB
/-- the digest of b with a key -/
def kdg (key b : ByteArray) : ByteArray := outS ((st0 key.data.toList).feed b.data.toList).done
theorem kdg_size (key b : ByteArray) : (kdg key b).size = 32 := by simp [kdg, outS, outL, ByteArray.size]
theorem nil_of_size (K : ByteArray) (h : K.size = 0) : K = ⟨#[]⟩ := by
  cases K with
  | mk d =>
    have : d.size = 0 := h
    rw [Array.size_eq_zero_iff.1 this]
end BB
namespace Go.Proofs.YthajnkcipifhcaaGreatDoor
open BB
theorem new_any (K : ByteArray) (h32 : K.size ≤ 32) (w : World) (hT : Tabs w) :
    Calls Tryz.prog 179 #[.string K] w fun e w' => e = .returned (.pointer (some ⟨w.heap.size, 0, none⟩)) ∧ Below w.heap.size w w' ∧ Dg w' w.heap.size (st0 K.data.toList) := by
  by_cases h : K.size = 0
  · obtain rfl := nil_of_size K h
    exact new_none w hT
  · exact new_short K (by omega) h32 w hT
theorem st0_ok64 (l : List UInt8) : ∃ L, L ≤ 64 ∧ (st0 l).Ok L := ⟨_, by split <;> omega, st0_ok l⟩
set_option maxRecDepth 100000 in
set_option maxHeartbeats 1000000 in
theorem digest_any (key b : ByteArray) (hk : key.size ≤ 32) (hb : b.size < 1099511627776) (w : World) (hT : Tabs w) :
    Calls Tryz.prog 128 #[.string key, .string b] w fun e w' => e = .returned (.string (kdg key b)) ∧ Below w.heap.size w w' := by
  have HT := Lib.hid hT
  have HL := Lib.hid hb
  have HK := Lib.hid hk
  obtain ⟨L, hL, hO⟩ := st0_ok64 key.data.toList
  have HO := Lib.hid hO
  have HLL := Lib.hid hL
  clear hT hb hk hO hL
  go_enter Tryz.func128, Tryz.ntmps128
  go_wp2_with fail
  refine (new_any key HK.out w HT.out).mono ?_
  rintro e w1 ⟨rfl, hb1, hd1⟩
  have HT1 := Lib.hid (HT.out.below hb1 (Nat.le_refl _))
  have HN := Lib.hid (noTab_new w HT.out)
  have HD1 := Lib.hid hd1
  have HB1 := Lib.hid hb1
  clear hb1 hd1
  go_wp2_with fail
  refine (write_any w.heap.size (st0 key.data.toList) L HO.out b (by have := HL.out; have := HLL.out; omega) w1 HD1.out HT1.out HN.out).mono ?_
  rintro e w2 ⟨rfl, hk2, hd2⟩
  have HD2 := Lib.hid hd2
  have HK2 := Lib.hid hk2
  clear hk2 hd2
  go_wp2_with fail
  have HO2 := Lib.hid (HO.out.feed b.data.toList)
  refine (dsum_any w.heap.size _ _ HO2.out (by have := HL.out; have := HLL.out; simp; omega) w2 HD2.out (HT1.out.keep HK2.out HN.out) HN.out).mono ?_
  rintro e w3 ⟨rfl, hb3⟩
  go_wp2_with fail
  go_ret
  exact ⟨rfl, (HB1.out.trans (HK2.out.below (Nat.le_refl _) HB1.out.size)).trans (hb3.mono (Nat.le_trans HB1.out.size HK2.out.size))⟩
set_option maxRecDepth 100000 in
set_option maxHeartbeats 1000000 in
theorem keyed_ok (key b : ByteArray) (hk : key.size ≤ 32) (hb : b.size < 1099511627776) (w : World) (hT : Tabs w) :
    Calls Tryz.prog 277 #[.string key, .string b] w fun e w' => e = .returned (.tuple #[.string (kdg key b), .int .i64 0]) ∧ Below w.heap.size w w' := by
  have k1 : ¬ (32 : Int) < (key.size : Int) := by omega
  have HT := Lib.hid hT
  have HL := Lib.hid hb
  have HK := Lib.hid hk
  clear hT hb hk
  go_enter Tryz.func277, Tryz.ntmps277
  go_wp2_with fail
  refine (digest_any key b HK.out HL.out w HT.out).mono ?_
  rintro e w1 ⟨rfl, hb1⟩
  go_wp2_with fail
  go_ret2
  exact ⟨rfl, hb1⟩
set_option maxRecDepth 100000 in
theorem tag_ok (key b : ByteArray) (hk : key.size ≤ 32) (hb : b.size < 1099511627776) (w : World) (hT : Tabs w) :
    Calls Tryz.prog 229 #[.string key, .string b] w fun e w' => e = .returned (.string ((kdg key b).extract 0 16)) ∧ Below w.heap.size w w' := by
  have hs := kdg_size key b
  have HS := Lib.hid hs
  clear hs
  go_enter Tryz.func229, Tryz.ntmps229
  go_wp2_with fail
  refine (keyed_ok key b hk hb w hT).mono ?_
  rintro e w1 ⟨rfl, hb1⟩
  have hs := HS.out
  go_wp2_with fail
  go_ret
  exact ⟨rfl, hb1⟩
end Go.Proofs.YthajnkcipifhcaaGreatDoor
end
section
open Go Go.RowKit
namespace BB
def tab (l : List (BitVec 32)) : Nat → BitVec 32 := fun i => l.getD i 0
end BB
end
