/-
  The walk of a digest's Sum: its 32 bytes; it stays as it is.
-/
import Derived.Test.YtfbjjlejmcpphaaDoorWrite
import Derived.Test.YtfbjjlejmcpphaaDoorHeld
open Go Go.RowKit
namespace BB
def obyte (v : Nat → BitVec 32) (i : Nat) : Nat := (v (i / 4)).toNat / 2 ^ (8 * (i % 4)) % 256
def ostep (v : Nat → BitVec 32) : Nat → Nat → Nat
  | 0 => fun _ => 0
  | k + 1 => put (ostep v k) k (obyte v k)
theorem ostep_lt (v : Nat → BitVec 32) (k i : Nat) (h : i < k) : ostep v k i = obyte v i := by
  induction k with
  | zero => omega
  | succ k ih =>
    show put (ostep v k) k (obyte v k) i = _
    by_cases e : i = k
    · subst e; rw [put_same]
    · rw [put_other _ _ e]; exact ih (by omega)
/-- the digest's text -/
def outL (v : Nat → BitVec 32) : List UInt8 := (List.range 32).map fun i => UInt8.ofNat (obyte v i)
def outS (v : Nat → BitVec 32) : ByteArray := ⟨(outL v).toArray⟩
/-- the words behind all that was written -/
def St.done (s : St) : Nat → BitVec 32 := comp s.h s.B (s.be + s.fl) true
theorem out_conv {P : Program} {w : World} {src dst e ob : Nat} {v : Nat → BitVec 32} (hs : P.underlying src = some (.slice e)) (he : P.underlying e = some (.int .u8)) (hd : P.underlying dst = some .string)
    (hb : Blk w ob 32 (cb (ostep v 32))) : (convert src dst (.slice (some ⟨ob, 0, none⟩) 32 32)).run P w = .ok (.string (outS v)) w := by
  have h := run_convert_bytes_arg (P := P) w src e hs he ob 0 32 32 ((List.range 32).map fun i => (obyte v i : Int)) (by simp) (fun i hi => by
    rw [Nat.zero_add, hb.get i hi]
    unfold cb
    rw [ostep_lt v 32 i hi]
    simp [hi]) dst hd
  rw [h]
  have : strOfNums ((List.range 32).map fun i => (obyte v i : Int)) = outS v := by
    unfold outS outL strOfNums
    simp [List.map_map, Function.comp_def]
  rw [this]
end BB
namespace Go.Proofs.YtfbjjlejmcpphaaDoor
open BB
theorem Dg.be {w : World} {b : Nat} {s : St} (h : Dg w b s) : w.cell? ⟨b, 73, none⟩ = some (.int .u64 (s.be : Int)) := h.get 73 (by omega)
theorem under_b32 (w : World) : (underlying 66).run Tryd.prog w = .ok (.array 32 5) w := by kernel_rfl
structure SumAt (v : Nat → BitVec 32) (w : World) (wb ob k : Nat) (w' : World) : Prop where
  below : Below w.heap.size w w'
  words : Blk w' wb 8 (cw .u32 v)
  out : Blk w' ob 32 (cb (ostep v k))
  l1 : w.heap.size ≤ wb
  l2 : w.heap.size ≤ ob
  ne : wb ≠ ob
theorem SumAt.next {v : Nat → BitVec 32} {w : World} {wb ob k : Nat} {w' : World} (h : SumAt v w wb ob k w') (q r : Nat) (hq : q = k / 4) (hr : r = k % 4) :
    SumAt v w wb ob (k + 1) (w'.setCell ⟨ob, k, none⟩ (.int .u8 (((v q).toNat : Int) / 2 ^ (8 * r) % 256))) := by
  refine ⟨h.below.setCell h.l2 _, h.words.set_other _ _ h.ne, ?_, h.l1, h.l2, h.ne⟩
  have e : Value.int .u8 (((v q).toNat : Int) / 2 ^ (8 * r) % 256) = .int .u8 ((obyte v k : Nat) : Int) := by
    subst hq; subst hr; unfold obyte; congr 1
  rw [e]
  exact (h.out.set k _).congr _ fun i _ => by
    show put (cb (ostep v k)) k _ i = cb (put (ostep v k) k (obyte v k)) i
    unfold cb put; split <;> rfl
set_option maxRecDepth 100000 in
set_option maxHeartbeats 1000000 in
theorem dsum_any (b : Nat) (s : St) (L : Nat) (hs : s.Ok L) (hl : L < 4611686018427387904) (w : World) (hd : Dg w b s) (hT : Tabs w) (hb : NoTab b) :
    Calls Tryd.prog 33 #[.pointer (some ⟨b, 0, none⟩)] w fun e w' => e = .returned (.string (outS s.done)) ∧ Below w.heap.size w w' := by
  have HS := Lib.hid hs
  have HL := Lib.hid hl
  have HD := Lib.hid hd
  have HT := Lib.hid hT
  have HB := Lib.hid hb
  clear hs hl hd hT hb
  go_enter Tryd.func33, Tryd.ntmps33
  go_wp2_with fail
  have hlt := HD.out.lt
  refine call_alloc (a1 := ?a1) [0, 1, 2, 3, 4, 5, 6, 7, 8, 9, 10, 11, 12, 13, 14, 15, 16, 17] 18 19 20 _ _ _ 38 8 #[.agg (row 8 (cw .u32 s.h)), .agg (row 64 (cb s.B)), .int .u64 ((s.be + s.fl : Nat) : Int), .bool true] (cw .u32 s.done) _ 61 61 24 3
    (by kernel_rfl) (by kernel_rfl) (fun _ _ d _ _ h => by cases d <;> exact h) rfl rfl rfl rfl rfl rfl rfl rfl rfl (by decide) (fun w2 hs2 => ?_) ?_ ?_ ?_ rfl (fun w' => ?_) ⟨fun _ => .int .u32 0, rfl⟩ ?_ rfl size_w8 (fun _ _ => rfl) ?_
  rotate_left 1
  · simp only [pick, List.filterMap, List.getElem?_toArray, List.getElem?_cons_zero, List.getElem?_cons_succ]
    have D2 : Dg w2 b s := HD.out.same hs2
    refine held_step (.pointer (some ⟨b, 0, none⟩)) rfl (fun _ _ => rfl) ?_
    refine held_step (.pointer (some ⟨b, 0, none⟩)) rfl (fun _ _ => rfl) ?_
    simp only [Act.put, List.setIfInBounds_toArray, List.set_cons_zero, List.set_cons_succ]
    refine held_step (.pointer (some ⟨b, 0, none⟩)) rfl (fun _ _ => by go_simp) ?_
    simp only [Act.put, List.setIfInBounds_toArray, List.set_cons_zero, List.set_cons_succ]
    refine held_step (.agg (row 8 (cw .u32 s.h))) rfl (fun w' hS => ?_) ?_
    · rw [← row_congr 8 _ _ (dgc_w s.h s.B s.fl s.be)]
      exact run_op_load rfl rfl (agg_w8 _) (size_w8 _) (Blk.cells (Blk.below D2 hS (Blk.lt D2))) (by omega)
    simp only [Act.put, List.setIfInBounds_toArray, List.set_cons_zero, List.set_cons_succ]
    refine held_step (.pointer (some ⟨b, 0, none⟩)) rfl (fun _ _ => rfl) ?_
    refine held_step (.pointer (some ⟨b, 0, none⟩)) rfl (fun _ _ => rfl) ?_
    simp only [Act.put, List.setIfInBounds_toArray, List.set_cons_zero, List.set_cons_succ]
    refine held_step (.pointer (some ⟨b, 8, none⟩)) rfl (fun _ _ => by go_simp) ?_
    simp only [Act.put, List.setIfInBounds_toArray, List.set_cons_zero, List.set_cons_succ]
    refine held_step (.agg (row 64 (cb s.B))) rfl (fun w' hS => ?_) ?_
    · rw [← row_congr 64 _ _ (dgc_b s.h s.B s.fl s.be)]
      exact run_op_load rfl rfl (agg_b64 _) (size_b64 _) (Blk.cells (Blk.below D2 hS (Blk.lt D2))) (by omega)
    simp only [Act.put, List.setIfInBounds_toArray, List.set_cons_zero, List.set_cons_succ]
    refine held_step (.pointer (some ⟨b, 0, none⟩)) rfl (fun _ _ => rfl) ?_
    refine held_step (.pointer (some ⟨b, 0, none⟩)) rfl (fun _ _ => rfl) ?_
    simp only [Act.put, List.setIfInBounds_toArray, List.set_cons_zero, List.set_cons_succ]
    refine held_step (.pointer (some ⟨b, 73, none⟩)) rfl (fun _ _ => by go_simp) ?_
    simp only [Act.put, List.setIfInBounds_toArray, List.set_cons_zero, List.set_cons_succ]
    refine held_step (.int .u64 (s.be : Int)) rfl (fun w' hS => ?_) ?_
    · have c73 := Dg.be (show Dg w' b s from Blk.below D2 hS (Blk.lt D2))
      go_simp
    simp only [Act.put, List.setIfInBounds_toArray, List.set_cons_zero, List.set_cons_succ]
    refine held_step (.pointer (some ⟨b, 0, none⟩)) rfl (fun _ _ => rfl) ?_
    refine held_step (.pointer (some ⟨b, 0, none⟩)) rfl (fun _ _ => rfl) ?_
    simp only [Act.put, List.setIfInBounds_toArray, List.set_cons_zero, List.set_cons_succ]
    refine held_step (.pointer (some ⟨b, 72, none⟩)) rfl (fun _ _ => by go_simp) ?_
    simp only [Act.put, List.setIfInBounds_toArray, List.set_cons_zero, List.set_cons_succ]
    refine held_step (.int .i64 (s.fl : Int)) rfl (fun w' hS => ?_) ?_
    · have c72 := Dg.fl (show Dg w' b s from Blk.below D2 hS (Blk.lt D2))
      go_simp
    simp only [Act.put, List.setIfInBounds_toArray, List.set_cons_zero, List.set_cons_succ]
    refine held_step (.int .u64 (s.fl : Int)) rfl (fun w' hS => ?_) ?_
    · have u1 : IntKind.u64.wrap (s.fl : Int) = (s.fl : Int) := by have := HS.out.fl; rw [IntKind.wrap_u64]; omega
      go_simp
    simp only [Act.put, List.setIfInBounds_toArray, List.set_cons_zero, List.set_cons_succ]
    refine held_step (.int .u64 ((s.be + s.fl : Nat) : Int)) rfl (fun w' hS => ?_) ?_
    · have u2 : IntKind.u64.wrap ((s.be : Int) + (s.fl : Int)) = ((s.be + s.fl : Nat) : Int) := by have := HS.out.tot; have := HL.out; rw [IntKind.wrap_u64]; omega
      go_simp
    simp only [Act.put, List.setIfInBounds_toArray, List.set_cons_zero, List.set_cons_succ]
    exact rfl
  · intro w'; go_simp
  · intro p w'; go_simp
  · intro w2 w' hs2 hb
    have hb0 : Below w.heap.size w w' := (hs2.below _).trans (hs2.heap ▸ hb)
    exact mixed_any s.h s.B HS.out.B (s.be + s.fl) (by have := HS.out.tot; have := HL.out; omega) true w' (HT.out.below hb0 (Nat.le_refl _))
  · go_simp
    rfl
  · intro p; exact ⟨rfl, rfl⟩
  · intro p w' hb hp hblk
    go_wp2_with fail
    have hl8 := hblk.lt
    refine abs_wp (fun w2 => SumAt s.done w p w'.heap.size 0 w2) ⟨hb.alloc hb.size _, hblk.alloc _, Blk.new' rfl rfl, hp, hb.size, by omega⟩ ?_
    clear hblk hlt hl8
    generalize w'.heap.size = ob
    intro w2 h2
    go_loopw [25] (fun i wr => ∃ k : Nat, k ≤ 32 ∧ i = .int .i64 k ∧ SumAt s.done w p ob k wr) (fun i _ => 32 - (intOf i).toNat)
    case atStart => exact ⟨0, by omega, rfl, h2⟩
    case round =>
      clear h2
      obtain ⟨k, hk, rfl, hr⟩ := hrel
      by_cases hlt : k < 32
      · have hlt' : (k : Int) < 32 := by omega
        obtain ⟨q, hq⟩ : ∃ q, q = k / 4 := ⟨_, rfl⟩
        obtain ⟨r, hr4⟩ : ∃ r, r = k % 4 := ⟨_, rfl⟩
        have q1 : (k : Int) / 4 = (q : Int) := by omega
        have q2 : (q : Int) < 8 := by omega
        have r1 : (k : Int) % 4 = (r : Int) := by omega
        have r2 : (r : Int) < 4 := by omega
        have cw1 : wr.cell? ⟨p, q, none⟩ = some (.int .u32 ((s.done q).toNat : Int)) := hr.words.get q (by omega)
        have co := hr.out.get k hlt
        have fo := hr.out.frz k
        unfold cb at co
        have HQ := Lib.hid hq
        have HR := Lib.hid hr4
        clear hq hr4
        go_wp2_with fail
        go_roundw
        case rel => exact ⟨k + 1, by omega, by go_num, hr.next q r HQ.out HR.out⟩
        case measure => simp [intOf]; omega
      · obtain rfl : k = 32 := by omega
        have hconv := out_conv (P := Tryd.prog) (w := wr) (src := 38) (dst := 9) (e := 5) (by kernel_rfl) (by kernel_rfl) (by kernel_rfl) hr.out
        go_wp2_with fail
        go_ret
        exact ⟨rfl, hr.below⟩
end Go.Proofs.YtfbjjlejmcpphaaDoor
