/-
  The walks of the code's digest with a key, Keyed and Tag.
-/
import Derived.Test.YthajnkcipifhcaaGreatDoorKCallsW
import Derived.Test.YthajnkcipifhcaaGreatDoorKPlanN
section
open Go Go.RowKit
namespace BB
def obyte (v : Nat → BitVec 32) (i : Nat) : Nat := (v (i / 4)).toNat / 2 ^ (8 * (i % 4)) % 256
def ostep (v : Nat → BitVec 32) : Nat → Nat → Nat
  | 0 => fun _ => 0
  | k + 1 => put (ostep v k) k (obyte v k)
theorem ostep_lt (v : Nat → BitVec 32) (k i : Nat) (h : i < k) : ostep v k i = obyte v i := by
  induction k with
  | zero => omega
  | succ k ih =>
    show put (ostep v k) k (obyte v k) i = _
    by_cases e : i = k
    · subst e; rw [put_same]
    · rw [put_other _ _ e]; exact ih (by omega)
/-- the digest's text -/
def outL (v : Nat → BitVec 32) : List UInt8 := (List.range 32).map fun i => UInt8.ofNat (obyte v i)
def outS (v : Nat → BitVec 32) : ByteArray := ⟨(outL v).toArray⟩
/-- the words behind all that was written -/
def St.done (s : St) : Nat → BitVec 32 := comp s.h s.B (s.be + s.fl) true
theorem out_conv {P : Program} {w : World} {src dst e ob : Nat} {v : Nat → BitVec 32} (hs : P.underlying src = some (.slice e)) (he : P.underlying e = some (.int .u8)) (hd : P.underlying dst = some .string)
    (hb : Blk w ob 32 (cb (ostep v 32))) : (convert src dst (.slice (some ⟨ob, 0, none⟩) 32 32)).run P w = .ok (.string (outS v)) w := by
  have h := run_convert_bytes_arg (P := P) w src e hs he ob 0 32 32 ((List.range 32).map fun i => (obyte v i : Int)) (by simp) (fun i hi => by
    rw [Nat.zero_add, hb.get i hi]
    unfold cb
    rw [ostep_lt v 32 i hi]
    simp [hi]) dst hd
  rw [h]
  have : strOfNums ((List.range 32).map fun i => (obyte v i : Int)) = outS v := by
    unfold outS outL strOfNums
    simp [List.map_map, Function.comp_def]
  rw [this]
end BB
namespace Go.Proofs.YthajnkcipifhcaaGreatDoor
open BB
theorem Dg.be {w : World} {b : Nat} {s : St} (h : Dg w b s) : w.cell? ⟨b, 73, none⟩ = some (.int .u64 (s.be : Int)) := h.get 73 (by omega)
structure SumAt (v : Nat → BitVec 32) (w : World) (wb ob k : Nat) (w' : World) : Prop where
  below : Below w.heap.size w w'
  words : Blk w' wb 8 (cw .u32 v)
  out : Blk w' ob 32 (cb (ostep v k))
  l1 : w.heap.size ≤ wb
  l2 : w.heap.size ≤ ob
  ne : wb ≠ ob
theorem SumAt.next {v : Nat → BitVec 32} {w : World} {wb ob k : Nat} {w' : World} (h : SumAt v w wb ob k w') (q r : Nat) (hq : q = k / 4) (hr : r = k % 4) :
    SumAt v w wb ob (k + 1) (w'.setCell ⟨ob, k, none⟩ (.int .u8 (((v q).toNat : Int) / 2 ^ (8 * r) % 256))) := by
  refine ⟨h.below.setCell h.l2 _, h.words.set_other _ _ h.ne, ?_, h.l1, h.l2, h.ne⟩
  have e : Value.int .u8 (((v q).toNat : Int) / 2 ^ (8 * r) % 256) = .int .u8 ((obyte v k : Nat) : Int) := by
    subst hq; subst hr; unfold obyte; congr 1
  rw [e]
  exact (h.out.set k _).congr _ fun i _ => by
    show put (cb (ostep v k)) k _ i = cb (put (ostep v k) k (obyte v k)) i
    unfold cb put; split <;> rfl
set_option maxRecDepth 100000 in
set_option maxHeartbeats 1000000 in
theorem dsum_any (b : Nat) (s : St) (L : Nat) (hs : s.Ok L) (hl : L < 4611686018427387904) (w : World) (hd : Dg w b s) (hT : Tabs w) (hb : NoTab b) :
    Calls Tryz.prog 181 #[.pointer (some ⟨b, 0, none⟩)] w fun e w' => e = .returned (.string (outS s.done)) ∧ Below w.heap.size w w' := by
  have HS := Lib.hid hs
  have HL := Lib.hid hl
  have HD := Lib.hid hd
  have HT := Lib.hid hT
  have HB := Lib.hid hb
  clear hs hl hd hT hb
  go_enter Tryz.func181, Tryz.ntmps181
  go_wp2_with fail
  have hlt := HD.out.lt
  refine call_alloc (a1 := ?a1) [0, 1, 2, 3, 4, 5, 6, 7, 8, 9, 10, 11, 12, 13, 14, 15, 16, 17] 18 19 20 _ _ _ 239 8 #[.agg (row 8 (cw .u32 s.h)), .agg (row 64 (cb s.B)), .int .u64 ((s.be + s.fl : Nat) : Int), .bool true] (cw .u32 s.done) _ 269 269 24 3
    (by kernel_rfl) (by kernel_rfl) (fun _ _ d _ _ h => by cases d <;> exact h) rfl rfl rfl rfl rfl rfl rfl rfl rfl (by decide) (fun w2 hs2 => ?_) ?_ ?_ ?_ rfl (fun w' => ?_) ⟨fun _ => .int .u32 0, rfl⟩ ?_ rfl size_w8 (fun _ _ => rfl) ?_
  rotate_left 1
  · simp only [pick, List.filterMap, List.getElem?_toArray, List.getElem?_cons_zero, List.getElem?_cons_succ]
    have D2 : Dg w2 b s := HD.out.same hs2
    refine held_step (.pointer (some ⟨b, 0, none⟩)) rfl (fun _ _ => rfl) ?_
    refine held_step (.pointer (some ⟨b, 0, none⟩)) rfl (fun _ _ => rfl) ?_
    simp only [Act.put, List.setIfInBounds_toArray, List.set_cons_zero, List.set_cons_succ]
    refine held_step (.pointer (some ⟨b, 0, none⟩)) rfl (fun _ _ => by go_simp) ?_
    simp only [Act.put, List.setIfInBounds_toArray, List.set_cons_zero, List.set_cons_succ]
    refine held_step (.agg (row 8 (cw .u32 s.h))) rfl (fun w' hS => ?_) ?_
    · rw [← row_congr 8 _ _ (dgc_w s.h s.B s.fl s.be)]
      exact run_op_load rfl rfl (agg_w8 _) (size_w8 _) (Blk.cells (Blk.below D2 hS (Blk.lt D2))) (by omega)
    simp only [Act.put, List.setIfInBounds_toArray, List.set_cons_zero, List.set_cons_succ]
    refine held_step (.pointer (some ⟨b, 0, none⟩)) rfl (fun _ _ => rfl) ?_
    refine held_step (.pointer (some ⟨b, 0, none⟩)) rfl (fun _ _ => rfl) ?_
    simp only [Act.put, List.setIfInBounds_toArray, List.set_cons_zero, List.set_cons_succ]
    refine held_step (.pointer (some ⟨b, 8, none⟩)) rfl (fun _ _ => by go_simp) ?_
    simp only [Act.put, List.setIfInBounds_toArray, List.set_cons_zero, List.set_cons_succ]
    refine held_step (.agg (row 64 (cb s.B))) rfl (fun w' hS => ?_) ?_
    · rw [← row_congr 64 _ _ (dgc_b s.h s.B s.fl s.be)]
      exact run_op_load rfl rfl (agg_b64 _) (size_b64 _) (Blk.cells (Blk.below D2 hS (Blk.lt D2))) (by omega)
    simp only [Act.put, List.setIfInBounds_toArray, List.set_cons_zero, List.set_cons_succ]
    refine held_step (.pointer (some ⟨b, 0, none⟩)) rfl (fun _ _ => rfl) ?_
    refine held_step (.pointer (some ⟨b, 0, none⟩)) rfl (fun _ _ => rfl) ?_
    simp only [Act.put, List.setIfInBounds_toArray, List.set_cons_zero, List.set_cons_succ]
    refine held_step (.pointer (some ⟨b, 73, none⟩)) rfl (fun _ _ => by go_simp) ?_
    simp only [Act.put, List.setIfInBounds_toArray, List.set_cons_zero, List.set_cons_succ]
    refine held_step (.int .u64 (s.be : Int)) rfl (fun w' hS => ?_) ?_
    · have c73 := Dg.be (show Dg w' b s from Blk.below D2 hS (Blk.lt D2))
      go_simp
    simp only [Act.put, List.setIfInBounds_toArray, List.set_cons_zero, List.set_cons_succ]
    refine held_step (.pointer (some ⟨b, 0, none⟩)) rfl (fun _ _ => rfl) ?_
    refine held_step (.pointer (some ⟨b, 0, none⟩)) rfl (fun _ _ => rfl) ?_
    simp only [Act.put, List.setIfInBounds_toArray, List.set_cons_zero, List.set_cons_succ]
    refine held_step (.pointer (some ⟨b, 72, none⟩)) rfl (fun _ _ => by go_simp) ?_
    simp only [Act.put, List.setIfInBounds_toArray, List.set_cons_zero, List.set_cons_succ]
    refine held_step (.int .i64 (s.fl : Int)) rfl (fun w' hS => ?_) ?_
    · have c72 := Dg.fl (show Dg w' b s from Blk.below D2 hS (Blk.lt D2))
      go_simp
    simp only [Act.put, List.setIfInBounds_toArray, List.set_cons_zero, List.set_cons_succ]
    refine held_step (.int .u64 (s.fl : Int)) rfl (fun w' hS => ?_) ?_
    · have u1 : IntKind.u64.wrap (s.fl : Int) = (s.fl : Int) := by have := HS.out.fl; rw [IntKind.wrap_u64]; omega
      go_simp
    simp only [Act.put, List.setIfInBounds_toArray, List.set_cons_zero, List.set_cons_succ]
    refine held_step (.int .u64 ((s.be + s.fl : Nat) : Int)) rfl (fun w' hS => ?_) ?_
    · have u2 : IntKind.u64.wrap ((s.be : Int) + (s.fl : Int)) = ((s.be + s.fl : Nat) : Int) := by have := HS.out.tot; have := HL.out; rw [IntKind.wrap_u64]; omega
      go_simp
    simp only [Act.put, List.setIfInBounds_toArray, List.set_cons_zero, List.set_cons_succ]
    exact rfl
  · intro w'; go_simp
  · intro p w'; go_simp
  · intro w2 w' hs2 hb
    have hb0 : Below w.heap.size w w' := (hs2.below _).trans (hs2.heap ▸ hb)
    exact mixed_any s.h s.B HS.out.B (s.be + s.fl) (by have := HS.out.tot; have := HL.out; omega) true w' (HT.out.below hb0 (Nat.le_refl _))
  · go_simp
    rfl
  · intro p; exact ⟨rfl, rfl⟩
  · intro p w' hb hp hblk
    go_wp2_with fail
    have hl8 := hblk.lt
    refine abs_wp (fun w2 => SumAt s.done w p w'.heap.size 0 w2) ⟨hb.alloc hb.size _, hblk.alloc _, Blk.new' rfl rfl, hp, hb.size, by omega⟩ ?_
    clear hblk hlt hl8
    generalize w'.heap.size = ob
    intro w2 h2
    go_loopw [25] (fun i wr => ∃ k : Nat, k ≤ 32 ∧ i = .int .i64 k ∧ SumAt s.done w p ob k wr) (fun i _ => 32 - (intOf i).toNat)
    case atStart => exact ⟨0, by omega, rfl, h2⟩
    case round =>
      clear h2
      obtain ⟨k, hk, rfl, hr⟩ := hrel
      by_cases hlt : k < 32
      · have hlt' : (k : Int) < 32 := by omega
        obtain ⟨q, hq⟩ : ∃ q, q = k / 4 := ⟨_, rfl⟩
        obtain ⟨r, hr4⟩ : ∃ r, r = k % 4 := ⟨_, rfl⟩
        have q1 : (k : Int) / 4 = (q : Int) := by omega
        have q2 : (q : Int) < 8 := by omega
        have r1 : (k : Int) % 4 = (r : Int) := by omega
        have r2 : (r : Int) < 4 := by omega
        have cw1 : wr.cell? ⟨p, q, none⟩ = some (.int .u32 ((s.done q).toNat : Int)) := hr.words.get q (by omega)
        have co := hr.out.get k hlt
        have fo := hr.out.frz k
        unfold cb at co
        have HQ := Lib.hid hq
        have HR := Lib.hid hr4
        clear hq hr4
        go_wp2_with fail
        go_roundw
        case rel => exact ⟨k + 1, by omega, by go_num, hr.next q r HQ.out HR.out⟩
        case measure => simp [intOf]; omega
      · obtain rfl : k = 32 := by omega
        have hconv := out_conv (P := Tryz.prog) (w := wr) (src := 99) (dst := 9) (e := 5) (by kernel_rfl) (by kernel_rfl) (by kernel_rfl) hr.out
        go_wp2_with fail
        go_ret
        exact ⟨rfl, hr.below⟩
end Go.Proofs.YthajnkcipifhcaaGreatDoor
end
section
open Go Go.RowKit
namespace BB
/-- how the words begin, by the key's length -/
def h0 (n : Nat) : Nat → BitVec 32 := put iv 0 (iv 0 ^^^ (0x01010020 ^^^ BitVec.ofNat 32 (n * 256)))
/-- a digest that begins with the key l, of at most 32 bytes -/
def st0 (l : List UInt8) : St := if l = [] then ⟨h0 0, fun _ => 0, 0, 0⟩ else ⟨h0 l.length, fun j => if j < l.length then sb l j else 0, 64, 0⟩
theorem st0_ok (l : List UInt8) : (st0 l).Ok (if l = [] then 0 else 64) := by
  unfold st0
  split
  · exact ⟨by show 0 ≤ 64; omega, fun _ => by show 0 < 256; omega, rfl⟩
  · refine ⟨Nat.le_refl _, fun i => ?_, rfl⟩
    show (if i < l.length then sb l i else 0) < 256
    split
    · exact sb_lt _ _
    · omega
theorem xor_h0 (n : Nat) (hn : n ≤ 32) : Value.int .u32 (bits .xor .u32 ((iv 0).toNat : Int) (bits .xor .u32 16842784 ((n : Int) * 256))) = .int .u32 ((iv 0 ^^^ (0x01010020 ^^^ BitVec.ofNat 32 (n * 256))).toNat : Int) := by
  have e1 : ((n : Int) * 256) = ((BitVec.ofNat 32 (n * 256)).toNat : Int) := by rw [BitVec.toNat_ofNat]; omega
  have e2 : (16842784 : Int) = ((0x01010020 : BitVec 32).toNat : Int) := rfl
  rw [e1, e2, bvxor, bvxor]
theorem dgc_put0 (h : Nat → BitVec 32) (B : Nat → Nat) (fl be : Nat) (x : BitVec 32) (u : Value) (hu : u = .int .u32 (x.toNat : Int)) : ∀ i, i < 74 → put (dgc h B fl be) 0 u i = dgc (put h 0 x) B fl be i := fun i _ => by
  subst hu
  unfold put dgc
  by_cases e : i = 0
  · subst e; simp [cw]
  · simp only [if_neg e]
    by_cases e8 : i < 8
    · simp [e8, cw, e]
    · simp [e8]
section
variable {P : Program} {ops : Array Oper} {Q : Exit → Act → World → Prop} {a : Act} {w : World} {rest : List Oper} {o : Oper}
theorem wpl_build1 {T i : Nat} (x : Operand) (v0 v : Value) (hg : o.guard = none) (ho : o.op = .build T #[(i, x)]) (hx : a.eval x = v0) (h : (Instr.build T #[(i, v0)]).run P w = .ok v w)
    (hK : wpList P ops Q rest (a.put o.dst v) w) : wpList P ops Q (o :: rest) a w := by
  refine wpl_value hg ?_ hK
  unfold execOp
  simp only [ho, Sem.run_bind, Sem.run_pure, List.map_toArray, List.map_cons, List.map_nil, hx, h, Result.andThen_ok]
end
end BB
namespace Go.Proofs.YthajnkcipifhcaaGreatDoor
open BB
theorem build_digest (w : World) : (Instr.build 272 #[(0, .agg (row 8 (cw .u32 iv)))]).run Tryz.prog w = .ok (.agg (row 74 (dgc iv (fun _ => 0) 0 0))) w := by kernel_rfl
set_option maxRecDepth 100000 in
set_option maxHeartbeats 1000000 in
theorem new_none (w : World) (hT : Tabs w) :
    Calls Tryz.prog 179 #[.string ⟨#[]⟩] w fun e w' => e = .returned (.pointer (some ⟨w.heap.size, 0, none⟩)) ∧ Below w.heap.size w w' ∧ Dg w' w.heap.size (st0 []) := by
  have HT := Lib.hid hT
  have B0 := Lib.hid (build_digest w)
  clear hT
  go_enter Tryz.func179, Tryz.ntmps179
  go_wp2_with (with_reducible refine hold_load (Operand.global 0) rfl ?_)
  refine wpl_load_as (Operand.global 0) 0 0 8 8 _ (cw .u32 iv) rfl rfl rfl (agg_w8 _) (size_w8 _) HT.out.iv (by omega) (fun i hi => by rw [Nat.zero_add]) ?_
  refine wpl_build1 (.tmp 9) _ _ rfl rfl rfl B0.out ?_
  go_wp2_with fail
  refine abs_wp (fun w' => Below w.heap.size w w' ∧ Blk w' w.heap.size 74 (dgc iv (fun _ => 0) 0 0)) ⟨(Below.refl _ _).alloc (Nat.le_refl _) _, Blk.new' rfl rfl⟩ ?_
  rintro w1 ⟨b1, d1⟩
  refine tail_abs 14 (by kernel_rfl) (by kernel_rfl) fun w2 hs2 => ?_
  simp only [List.take_succ_cons, List.take_zero, List.drop_succ_cons, List.drop_zero]
  have d2 := d1.same hs2
  have b2 := b1.trans (hs2.below _)
  have c0 : w2.cell? ⟨w.heap.size, 0, none⟩ = some (.int .u32 ((iv 0).toNat : Int)) := d2.get 0 (by omega)
  have f0 := d2.frz 0
  clear hs2 b1 d1
  clear w1
  repeat still_step
  refine wpStill_nil ?_
  go_wp2_with fail
  go_ret
  refine ⟨rfl, b2.setCell (Nat.le_refl _) _, ?_⟩
  exact (d2.set 0 _).congr (dgc (h0 0) (fun _ => 0) 0 0) (dgc_put0 iv (fun _ => 0) 0 0 _ _ (show Value.int .u32 (bits .xor .u32 ((iv 0).toNat : Int) (bits .xor .u32 16842784 0)) = _ from xor_h0 0 (by omega)))
end Go.Proofs.YthajnkcipifhcaaGreatDoor
end
section
open Go Go.RowKit
namespace BB
theorem wstep_congr (B B' : Nat → Nat) (k : Nat) (h : ∀ j, j < k → B j = B' j) : wstep B k = wstep B' k := by
  induction k with
  | zero => rfl
  | succ k ih =>
    show put (wstep B k) (k / 4) _ = put (wstep B' k) (k / 4) _
    rw [ih (fun j hj => h j (by omega)), h k (by omega)]
theorem comp_congr (w : Nat → BitVec 32) (B B' : Nat → Nat) (n : Nat) (last : Bool) (h : ∀ j, j < 64 → B j = B' j) : comp w B n last = comp w B' n last := by
  unfold comp; rw [wstep_congr B B' 64 h]
/-- the k-th block of the bytes b -/
def rblk (b : Nat → Nat) (k : Nat) : Nat → Nat := fun j => b (64 * k + j)
/-- the words behind k blocks, none of which was the last one -/
def rwords (n : Nat) (b : Nat → Nat) : Nat → Nat → BitVec 32
  | 0 => h0 n
  | k + 1 => comp (rwords n b k) (rblk b k) (64 * (k + 1)) false
theorem rwords_congr (n : Nat) (b b' : Nat → Nat) (k : Nat) (h : ∀ j, j < 64 * k → b j = b' j) : rwords n b k = rwords n b' k := by
  induction k with
  | zero => rfl
  | succ k ih =>
    show comp _ _ _ _ = comp _ _ _ _
    rw [ih (fun j hj => h j (by omega))]
    exact comp_congr _ _ _ _ _ fun j hj => h _ (by omega)
theorem sb_append_lt (A : List UInt8) (c : UInt8) (j : Nat) (h : j < A.length) : sb (A ++ [c]) j = sb A j := by
  simp [sb, List.getElem?_append_left h]
theorem sb_append_at (A : List UInt8) (c : UInt8) : sb (A ++ [c]) A.length = c.toNat := by simp [sb]
theorem sb_ge (A : List UInt8) (j : Nat) (h : A.length ≤ j) : sb A j = 0 := by simp [sb, List.getElem?_eq_none h]
/-- s is what the bytes A make of an empty digest -/
def FedAs (n : Nat) (A : List UInt8) (s : St) : Prop :=
  ∃ m, s.h = rwords n (sb A) m ∧ s.be = 64 * m ∧ A.length = 64 * m + s.fl ∧ s.fl ≤ 64 ∧ (m = 0 ∨ 0 < s.fl) ∧ ∀ j, s.B j = if j < s.fl then sb A (64 * m + j) else 0
theorem fed_nil (n : Nat) : FedAs n [] ⟨h0 n, fun _ => 0, 0, 0⟩ := ⟨0, rfl, rfl, rfl, Nat.zero_le _, Or.inl rfl, fun j => by simp⟩
theorem fed_add (n : Nat) (A : List UInt8) (c : UInt8) (s : St) (h : FedAs n A s) : FedAs n (A ++ [c]) (s.add c) := by
  obtain ⟨m, hh, hb, hl, hf, hm, hB⟩ := h
  by_cases e : s.fl = 64
  · have hn : s.next = ⟨comp s.h s.B (s.be + 64) false, fun _ => 0, 0, s.be + 64⟩ := by unfold St.next; rw [if_pos e]
    have ha : s.add c = ⟨comp s.h s.B (s.be + 64) false, put (fun _ => 0) 0 c.toNat, 1, s.be + 64⟩ := by unfold St.add; rw [hn]
    rw [ha]
    refine ⟨m + 1, ?_, ?_, ?_, by show 1 ≤ 64; omega, Or.inr (by show 0 < 1; omega), fun j => ?_⟩
    · show comp s.h s.B (s.be + 64) false = comp (rwords n (sb (A ++ [c])) m) (rblk (sb (A ++ [c])) m) (64 * (m + 1)) false
      rw [hh, hb, rwords_congr n (sb A) (sb (A ++ [c])) m (fun j hj => (sb_append_lt A c j (by omega)).symm)]
      refine comp_congr _ _ _ _ _ fun j hj => ?_
      rw [hB, if_pos (by omega)]
      exact (sb_append_lt A c _ (by omega)).symm
    · show s.be + 64 = 64 * (m + 1); omega
    · show (A ++ [c]).length = 64 * (m + 1) + 1; simp; omega
    · show put (fun _ => 0) 0 c.toNat j = if j < 1 then sb (A ++ [c]) (64 * (m + 1) + j) else 0
      by_cases hj : j = 0
      · subst hj
        rw [put_same, if_pos (by omega), show 64 * (m + 1) + 0 = A.length by omega, sb_append_at]
      · rw [put_other _ _ hj, if_neg (by omega)]
  · have hn : s.next = s := by unfold St.next; rw [if_neg e]
    have ha : s.add c = ⟨s.h, put s.B s.fl c.toNat, s.fl + 1, s.be⟩ := by unfold St.add; rw [hn]
    rw [ha]
    refine ⟨m, ?_, hb, ?_, by show s.fl + 1 ≤ 64; omega, Or.inr (by show 0 < s.fl + 1; omega), fun j => ?_⟩
    · show s.h = _
      rw [hh]
      exact rwords_congr n (sb A) (sb (A ++ [c])) m (fun j hj => (sb_append_lt A c j (by omega)).symm)
    · show (A ++ [c]).length = 64 * m + (s.fl + 1); simp; omega
    · show put s.B s.fl c.toNat j = if j < s.fl + 1 then sb (A ++ [c]) (64 * m + j) else 0
      by_cases hj : j = s.fl
      · subst hj
        rw [put_same, if_pos (by omega), ← hl, sb_append_at]
      · rw [put_other _ _ hj, hB]
        by_cases h2 : j < s.fl
        · rw [if_pos h2, if_pos (by omega), sb_append_lt A c _ (by omega)]
        · rw [if_neg h2, if_neg (by omega)]
theorem fed_feed (n : Nat) (l : List UInt8) : ∀ (A : List UInt8) (s : St), FedAs n A s → FedAs n (A ++ l) (s.feed l) := by
  induction l with
  | nil => intro A s h; simpa [St.feed] using h
  | cons c l ih =>
    intro A s h
    have := ih (A ++ [c]) (s.add c) (fed_add n A c s h)
    rw [List.append_assoc, List.singleton_append] at this
    exact this
/-- the words that the reference makes of the bytes A -/
def rdone (n : Nat) (A : List UInt8) : Nat → BitVec 32 := comp (rwords n (sb A) ((A.length - 1) / 64)) (rblk (sb A) ((A.length - 1) / 64)) A.length true
theorem fed_done (n : Nat) (A : List UInt8) (s : St) (h : FedAs n A s) : s.done = rdone n A := by
  obtain ⟨m, hh, hb, hl, hf, hm, hB⟩ := h
  have e : (A.length - 1) / 64 = m := by omega
  unfold St.done rdone
  rw [e, hh, hb, ← hl]
  refine comp_congr _ _ _ _ _ fun j hj => ?_
  rw [hB]
  show _ = sb A (64 * m + j)
  by_cases h2 : j < s.fl
  · rw [if_pos h2]
  · rw [if_neg h2, sb_ge A _ (by omega)]
/-- the key's block -/
def kblock (l : List UInt8) : List UInt8 := if l = [] then [] else l ++ List.replicate (64 - l.length) 0
theorem fed_st0 (l : List UInt8) (h32 : l.length ≤ 32) : FedAs l.length (kblock l) (st0 l) := by
  by_cases h : l = []
  · subst h
    exact fed_nil 0
  · have e1 : kblock l = l ++ List.replicate (64 - l.length) 0 := by unfold kblock; rw [if_neg h]
    have e2 : st0 l = ⟨h0 l.length, fun j => if j < l.length then sb l j else 0, 64, 0⟩ := by unfold st0; rw [if_neg h]
    rw [e1, e2]
    refine ⟨0, rfl, rfl, by simp; omega, Nat.le_refl _, Or.inl rfl, fun j => ?_⟩
    show (if j < l.length then sb l j else 0) = if j < 64 then sb (l ++ List.replicate (64 - l.length) 0) (64 * 0 + j) else 0
    rw [Nat.mul_zero, Nat.zero_add]
    by_cases h1 : j < l.length
    · rw [if_pos h1, if_pos (by omega)]
      simp [sb, List.getElem?_append_left h1]
    · rw [if_neg h1]
      by_cases h2 : j < 64
      · rw [if_pos h2]
        have h3 : j - l.length < 64 - l.length := by omega
        simp [sb, List.getElem?_append_right (show l.length ≤ j by omega), h3]
      · rw [if_neg h2]
/-- the digest is the reference's -/
theorem done_eq (key b : List UInt8) (h32 : key.length ≤ 32) : ((st0 key).feed b).done = rdone key.length (kblock key ++ b) :=
  fed_done _ _ _ (fed_feed _ b _ _ (fed_st0 key h32))
end BB
end
section
open Go Go.RowKit
namespace BB
theorem conv4 {P : Program} (w : World) (src dst e : TypeId) (hs : P.underlying src = some (.slice e)) (he : P.underlying e = some (.int .u8)) (hd : P.underlying dst = some .string) (a b c d : Int) :
    (convert src dst (.slice (some ⟨w.heap.size, 0, none⟩) 4 4)).run P (w.alloc (.cells #[.int .u8 a, .int .u8 b, .int .u8 c, .int .u8 d] e)) = .ok (.string (strOfNums [a, b, c, d])) (w.alloc (.cells #[.int .u8 a, .int .u8 b, .int .u8 c, .int .u8 d] e)) := by
  refine run_convert_bytes_arg _ src e hs he _ 0 4 4 [a, b, c, d] rfl (fun i hi => ?_) dst hd
  have hn : (w.alloc (.cells #[.int .u8 a, .int .u8 b, .int .u8 c, .int .u8 d] e)).heap[w.heap.size]? = some (.cells #[.int .u8 a, .int .u8 b, .int .u8 c, .int .u8 d] e) := by show (w.heap.push _)[w.heap.size]? = _; simp
  rw [Nat.zero_add]
  match i, hi with
  | 0, _ => unfold World.cell?; rw [hn]; rfl
  | 1, _ => unfold World.cell?; rw [hn]; rfl
  | 2, _ => unfold World.cell?; rw [hn]; rfl
  | 3, _ => unfold World.cell?; rw [hn]; rfl
/-- a word's four bytes, the lowest first -/
def quad (x : BitVec 32) : ByteArray := ⟨#[UInt8.ofNat (x.toNat % 256), UInt8.ofNat (x.toNat / 256 % 256), UInt8.ofNat (x.toNat / 65536 % 256), UInt8.ofNat (x.toNat / 16777216 % 256)]⟩
theorem quad_nums (x : BitVec 32) : strOfNums [(x.toNat : Int) % 256, (x.toNat : Int) / 256 % 256, (x.toNat : Int) / 65536 % 256, (x.toNat : Int) / 16777216] = quad x := by
  have hx := x.isLt
  unfold quad strOfNums
  generalize x.toNat = n at *
  have e1 : ((n : Int) / 16777216).toNat = n / 16777216 % 256 := by omega
  have e2 : ((n : Int) / 65536 % 256).toNat = n / 65536 % 256 := by omega
  have e3 : ((n : Int) / 256 % 256).toNat = n / 256 % 256 := by omega
  have e4 : ((n : Int) % 256).toNat = n % 256 := by omega
  simp only [List.map_cons, List.map_nil, e1, e2, e3, e4]
theorem outL_len (v : Nat → BitVec 32) : (outL v).length = 32 := by simp [outL]
theorem outL_get (v : Nat → BitVec 32) (i : Nat) (h : i < 32) : (outL v)[i]? = some (UInt8.ofNat (obyte v i)) := by
  simp [outL, h]
theorem quad_take (v : Nat → BitVec 32) (k : Nat) (h : k < 8) : (outL v).take (4 * k) ++ (quad (v k)).data.toList = (outL v).take (4 * (k + 1)) := by
  have hl := outL_len v
  apply List.ext_getElem?
  intro j
  by_cases h1 : j < 4 * k
  · rw [List.getElem?_append_left (by simp; omega), List.getElem?_take_of_lt h1, List.getElem?_take_of_lt (by omega)]
  · rw [List.getElem?_append_right (by simp; omega)]
    have ht : (List.take (4 * k) (outL v)).length = 4 * k := by simp; omega
    rw [ht]
    by_cases h2 : j < 4 * (k + 1)
    · rw [List.getElem?_take_of_lt h2, outL_get v j (by omega)]
      have hc : j - 4 * k = 0 ∨ j - 4 * k = 1 ∨ j - 4 * k = 2 ∨ j - 4 * k = 3 := by omega
      rcases hc with h3 | h3 | h3 | h3
      · have : j = 4 * k := by omega
        subst this
        simp [quad, obyte, show 4 * k / 4 = k by omega]
      · obtain rfl : j = 4 * k + 1 := by omega
        simp [quad, obyte, show (4 * k + 1) / 4 = k by omega, show (4 * k + 1) % 4 = 1 by omega]
      · obtain rfl : j = 4 * k + 2 := by omega
        simp [quad, obyte, show (4 * k + 2) / 4 = k by omega, show (4 * k + 2) % 4 = 2 by omega]
      · obtain rfl : j = 4 * k + 3 := by omega
        simp [quad, obyte, show (4 * k + 3) / 4 = k by omega, show (4 * k + 3) % 4 = 3 by omega]
    · rw [List.getElem?_eq_none (by simp [quad]; omega), List.getElem?_eq_none (by simp; omega)]
theorem out_take8 (v : Nat → BitVec 32) : (⟨((outL v).take (4 * 8)).toArray⟩ : ByteArray) = outS v := by
  unfold outS; rw [List.take_of_length_le (by simp [outL])]
theorem quad_snoc (v : Nat → BitVec 32) (k : Nat) (h : k < 8) : Value.string (⟨((outL v).take (4 * k)).toArray⟩ ++ quad (v k)) = .string ⟨((outL v).take (4 * (k + 1))).toArray⟩ := by
  congr 1
  apply ByteArray.ext
  apply Array.toList_inj.1
  rw [← quad_take v k h]
  simp
end BB
end
section
open Go Go.RowKit
namespace BB
section
variable {P : Program} {ops : Array Oper} {Q : Exit → Act → World → Prop} {a : Act} {w : World} {rest : List Oper} {o : Oper}
theorem hold_slice {T : TypeId} {x : Operand} {p q r : Option Operand} (_ho : o.op = .slice T x p q r) (h : Held (wpList P ops Q (o :: rest) a w)) : wpList P ops Q (o :: rest) a w := h
end
end BB
namespace Go.Proofs.YthajnkcipifhcaaGreatDoor
open BB
end Go.Proofs.YthajnkcipifhcaaGreatDoor
end
section
open Go Go.RowKit
namespace BB
/-- the digest of b, without a key -/
def dg (b : ByteArray) : ByteArray := outS ((st0 []).feed b.data.toList).done
theorem dsize (b : ByteArray) : (dg b).size = 32 := by simp [dg, outS, outL, ByteArray.size]
end BB
namespace Go.Proofs.YthajnkcipifhcaaGreatDoor
open BB
theorem noTab_new (w : World) (hT : Tabs w) : NoTab w.heap.size := ⟨Nat.ne_of_gt hT.l1, Nat.ne_of_gt hT.l2, Nat.ne_of_gt hT.l3⟩
set_option maxRecDepth 100000 in
set_option maxHeartbeats 1000000 in
theorem digest_none (b : ByteArray) (hb : b.size < 1099511627776) (w : World) (hT : Tabs w) :
    Calls Tryz.prog 128 #[.string ⟨#[]⟩, .string b] w fun e w' => e = .returned (.string (dg b)) ∧ Below w.heap.size w w' := by
  have HT := Lib.hid hT
  have HL := Lib.hid hb
  have HO := Lib.hid (st0_ok [])
  clear hT hb
  go_enter Tryz.func128, Tryz.ntmps128
  go_wp2_with fail
  refine (new_none w HT.out).mono ?_
  rintro e w1 ⟨rfl, hb1, hd1⟩
  have HT1 := Lib.hid (HT.out.below hb1 (Nat.le_refl _))
  have HN := Lib.hid (noTab_new w HT.out)
  have HD1 := Lib.hid hd1
  have HB1 := Lib.hid hb1
  clear hb1 hd1
  go_wp2_with fail
  refine (write_any w.heap.size (st0 []) 0 HO.out b (by have := HL.out; omega) w1 HD1.out HT1.out HN.out).mono ?_
  rintro e w2 ⟨rfl, hk2, hd2⟩
  have HD2 := Lib.hid hd2
  have HK2 := Lib.hid hk2
  clear hk2 hd2
  go_wp2_with fail
  have HO2 := Lib.hid (HO.out.feed b.data.toList)
  refine (dsum_any w.heap.size _ _ HO2.out (by have := HL.out; simp; omega) w2 HD2.out (HT1.out.keep HK2.out HN.out) HN.out).mono ?_
  rintro e w3 ⟨rfl, hb3⟩
  go_wp2_with fail
  go_ret
  exact ⟨rfl, (HB1.out.trans (HK2.out.below (Nat.le_refl _) HB1.out.size)).trans (hb3.mono (Nat.le_trans HB1.out.size HK2.out.size))⟩
set_option maxRecDepth 100000 in
set_option maxHeartbeats 1000000 in
theorem sum_any (b : ByteArray) (hb : b.size < 1099511627776) (w : World) (hT : Tabs w) :
    Calls Tryz.prog 79 #[.string b] w fun e w' => e = .returned (.string (dg b)) ∧ Below w.heap.size w w' := by
  go_enter Tryz.func79, Tryz.ntmps79
  go_wp2_with fail
  refine (digest_none b hb w hT).mono ?_
  rintro e w1 ⟨rfl, hb1⟩
  go_wp2_with fail
  go_ret
  exact ⟨rfl, hb1⟩
end Go.Proofs.YthajnkcipifhcaaGreatDoor
end
section
open Go Go.RowKit
namespace BB
end BB
namespace Go.Proofs.YthajnkcipifhcaaGreatDoor
open BB
/-- two digests beside each other -/
structure Two (w0 : World) (b1 b2 : Nat) (s t : St) (w : World) : Prop where
  below : Below w0.heap.size w0 w
  d1 : Dg w b1 s
  d2 : Dg w b2 t
  tabs : Tabs w
  n1 : NoTab b1
  n2 : NoTab b2
  ne : b1 ≠ b2
  l1 : w0.heap.size ≤ b1
  l2 : w0.heap.size ≤ b2
section
variable {w0 w w' : World} {b1 b2 : Nat} {s t s' : St}
theorem Two.on (h : Two w0 b1 b2 s t w) (hb : Below w.heap.size w w') : Two w0 b1 b2 s t w' :=
  ⟨h.below.trans (hb.mono h.below.size), Blk.below h.d1 hb (Blk.lt h.d1), Blk.below h.d2 hb (Blk.lt h.d2), h.tabs.below hb (Nat.le_refl _), h.n1, h.n2, h.ne, h.l1, h.l2⟩
end
end Go.Proofs.YthajnkcipifhcaaGreatDoor
end
section
open Go Go.RowKit
namespace BB
/-- the digest of b with a key -/
def kdg (key b : ByteArray) : ByteArray := outS ((st0 key.data.toList).feed b.data.toList).done
end BB
namespace Go.Proofs.YthajnkcipifhcaaGreatDoor
open BB
end Go.Proofs.YthajnkcipifhcaaGreatDoor
end
