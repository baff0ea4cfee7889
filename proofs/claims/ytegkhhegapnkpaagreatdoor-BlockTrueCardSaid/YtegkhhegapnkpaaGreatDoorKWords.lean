/-
  The walk of the code's wordsOf: a block's sixteen words.
-/
import Derived.Test.YtegkhhegapnkpaaGreatDoorKWstep
import Derived.Test.YtegkhhegapnkpaaGreatDoorRows
section
open Go Go.RowKit
namespace BB
theorem rowS_get (r j : Nat) (hj : j < 16) (h : j < (rowS r).size) : (rowS r)[j]'h = UInt8.ofNat (letter (sg (r * 16 + j))) := by
  have h1 := rowS_at r j hj
  rw [getElem?_pos (rowS r) j h] at h1
  exact Option.some.inj h1
/-- numbers as cells -/
def cn (f : Nat → Nat) : Nat → Value := fun i => .int .u64 (f i : Int)
theorem cn_put (f : Nat → Nat) (i x : Nat) (u : Value) (h : u = .int .u64 (x : Int)) : put (cn f) i u = cn (put f i x) := by
  subst h; funext j; unfold cn put; split <;> rfl
/-- a row of bytes in block b, from off on -/
def Bytes (w : World) (b off n : Nat) (B : Nat → Nat) : Prop := b < w.heap.size ∧ ∀ j, j < n → w.cell? ⟨b, off + j, none⟩ = some (.int .u8 (B j : Int))
theorem Bytes.below {w w' : World} {b off n N : Nat} {B : Nat → Nat} (h : Bytes w b off n B) (hb : Below N w w') (hN : w.heap.size ≤ N) : Bytes w' b off n B :=
  ⟨Nat.lt_of_lt_of_le h.1 hb.size, fun j hj => (hb.cell (p := ⟨b, off + j, none⟩) (Nat.lt_of_lt_of_le h.1 hN)).trans (h.2 j hj)⟩
/-- the words after i whole ones -/
def mpart (B : Nat → Nat) (i : Nat) : Nat → Nat := fun j => if j < i then wpart B j 4 else 0
structure RBAt (h : Nat → BitVec 32) (w : World) (f : Nat → Nat) (v : Nat → BitVec 32) (w' : World) : Prop where
  below : Below w.heap.size w w'
  hh : Blk w' w.heap.size 8 (cw .u64 h)
  hr : Blk w' (w.heap.size + 1) 8 (cw .u64 fun _ => 0)
  hm : Blk w' (w.heap.size + 1 + 1) 16 (cn f)
  hv : Blk w' (w.heap.size + 1 + 1 + 1) 16 (cw .u64 v)
section
variable {h : Nat → BitVec 32} {w w1 w2 : World} {f : Nat → Nat} {v : Nat → BitVec 32}
theorem RBAt.same (H : RBAt h w f v w1) (hs : Same w1 w2) : RBAt h w f v w2 := ⟨H.below.trans (hs.below _), H.hh.same hs, H.hr.same hs, H.hm.same hs, H.hv.same hs⟩
theorem RBAt.on (H : RBAt h w f v w1) (hb : Below w1.heap.size w1 w2) : RBAt h w f v w2 :=
  ⟨H.below.trans (hb.mono H.below.size), H.hh.below hb H.hh.lt, H.hr.below hb H.hr.lt, H.hm.below hb H.hm.lt, H.hv.below hb H.hv.lt⟩
theorem RBAt.updv {g : Nat → BitVec 32} (H : RBAt h w f v w1) (hm : MS w1 (w.heap.size + 1 + 1 + 1) 16 (cw .u64 g) w2) : RBAt h w f g w2 :=
  ⟨H.below.trans (hm.2.below (by omega)), H.hh.upd hm.2 (by omega), H.hr.upd hm.2 (by omega), H.hm.upd hm.2 (by omega), hm.1⟩
theorem RBAt.setm (H : RBAt h w f v w1) (i x : Nat) (u : Value) (hu : u = .int .u64 (x : Int)) : RBAt h w (put f i x) v (w1.setCell ⟨w.heap.size + 1 + 1, i, none⟩ u) :=
  ⟨H.below.setCell (by show _ ≤ w.heap.size + 1 + 1; omega) _, H.hh.set_other _ _ (by show _ ≠ w.heap.size + 1 + 1; omega), H.hr.set_other _ _ (by show _ ≠ w.heap.size + 1 + 1; omega),
   by have := H.hm.set i u; rwa [cn_put _ _ _ _ hu] at this, H.hv.set_other _ _ (by show _ ≠ w.heap.size + 1 + 1; omega)⟩
theorem RBAt.setv (H : RBAt h w f v w1) (i : Nat) (x : BitVec 32) (u : Value) (hu : u = .int .u64 (x.toNat : Int)) : RBAt h w f (put v i x) (w1.setCell ⟨w.heap.size + 1 + 1 + 1, i, none⟩ u) :=
  H.updv ⟨by have := H.hv.set i u; rwa [cw_put .u64 _ _ _ _ hu] at this, Upd.set _ _ _ _⟩
theorem RBAt.seth (H : RBAt h w f v w1) (i : Nat) (x : BitVec 32) (u : Value) (hu : u = .int .u64 (x.toNat : Int)) : RBAt (put h i x) w f v (w1.setCell ⟨w.heap.size, i, none⟩ u) :=
  ⟨H.below.setCell (Nat.le_refl _) _, by have := H.hh.set i u; rwa [cw_put .u64 _ _ _ _ hu] at this, H.hr.set_other _ _ (by show _ ≠ w.heap.size; omega), H.hm.set_other _ _ (by show _ ≠ w.heap.size; omega), H.hv.set_other _ _ (by show _ ≠ w.heap.size; omega)⟩
theorem RBAt.congr {g : Nat → Nat} (H : RBAt h w f v w1) (e : ∀ i, i < 16 → f i = g i) : RBAt h w g v w1 := ⟨H.below, H.hh, H.hr, H.hm.congr _ fun i hi => by unfold cn; rw [e i hi], H.hv⟩
end
/-- with the copy of how the words begin, in block ib -/
structure RCAt (h : Nat → BitVec 32) (w : World) (M : Nat → Nat) (v : Nat → BitVec 32) (ib : Nat) (w' : World) : Prop where
  at_ : RBAt h w M v w'
  hi : Blk w' ib 8 (cw .u64 iv)
  lt : w.heap.size + 1 + 1 + 1 < ib
section
variable {h : Nat → BitVec 32} {w w1 w2 : World} {M : Nat → Nat} {v : Nat → BitVec 32} {ib : Nat}
theorem RCAt.same (H : RCAt h w M v ib w1) (hs : Same w1 w2) : RCAt h w M v ib w2 := ⟨H.at_.same hs, H.hi.same hs, H.lt⟩
theorem RCAt.on (H : RCAt h w M v ib w1) (hb : Below w1.heap.size w1 w2) : RCAt h w M v ib w2 := ⟨H.at_.on hb, H.hi.below hb H.hi.lt, H.lt⟩
theorem RCAt.updv {g : Nat → BitVec 32} (H : RCAt h w M v ib w1) (hm : MS w1 (w.heap.size + 1 + 1 + 1) 16 (cw .u64 g) w2) : RCAt h w M g ib w2 := ⟨H.at_.updv hm, H.hi.upd hm.2 (by have := H.lt; omega), H.lt⟩
theorem RCAt.setv (H : RCAt h w M v ib w1) (i : Nat) (x : BitVec 32) (u : Value) (hu : u = .int .u64 (x.toNat : Int)) : RCAt h w M (put v i x) ib (w1.setCell ⟨w.heap.size + 1 + 1 + 1, i, none⟩ u) :=
  ⟨H.at_.setv i x u hu, H.hi.set_other _ _ (by have := H.lt; show ib ≠ w.heap.size + 1 + 1 + 1; omega), H.lt⟩
theorem RCAt.seth (H : RCAt h w M v ib w1) (i : Nat) (x : BitVec 32) (u : Value) (hu : u = .int .u64 (x.toNat : Int)) : RCAt (put h i x) w M v ib (w1.setCell ⟨w.heap.size, i, none⟩ u) :=
  ⟨H.at_.seth i x u hu, H.hi.set_other _ _ (by have := H.lt; show ib ≠ w.heap.size; omega), H.lt⟩
theorem RCAt.mk' {w3 w4 w5 : World} {cs : Array Value} {t : TypeId} {g : Nat → BitVec 32} (H : RBAt h w M v w3) (hb : Below w3.heap.size w3 w4)
    (h5 : MS (w4.alloc (.cells cs t)) w4.heap.size 8 (fun j => if 0 ≤ j ∧ j < 0 + 8 then cw .u64 iv (j - 0) else cw .u64 g j) w5) : RCAt h w M v w4.heap.size w5 := by
  have hl := H.hv.lt
  have hz := hb.size
  exact ⟨H.on ((hb.alloc hz _).trans (h5.2.below (by omega))), h5.1.congr _ fun i hi => by simp [hi], by omega⟩
theorem xor64_lo (x : BitVec 32) (n : Nat) : Value.int .u64 (bits .xor .u64 (x.toNat : Int) ((n : Int) % 4294967296)) = .int .u64 ((x ^^^ BitVec.ofNat 32 n).toNat : Int) := by
  rw [show ((n : Int) % 4294967296) = ((BitVec.ofNat 32 n).toNat : Int) by rw [BitVec.toNat_ofNat]; omega, bvxor64]
theorem xor64_hi (x : BitVec 32) (n : Nat) (hn : n < 18446744073709551616) : Value.int .u64 (bits .xor .u64 (x.toNat : Int) (IntKind.u64.wrap ((n : Int) / 4294967296))) = .int .u64 ((x ^^^ BitVec.ofNat 32 (n / 4294967296)).toNat : Int) := by
  rw [show IntKind.u64.wrap ((n : Int) / 4294967296) = (n : Int) / 4294967296 by rw [IntKind.wrap_u64]; omega, show ((n : Int) / 4294967296) = ((BitVec.ofNat 32 (n / 4294967296)).toNat : Int) by rw [BitVec.toNat_ofNat]; omega, bvxor64]
theorem xor3_64 (a b c : BitVec 32) : Value.int .u64 (bits .xor .u64 (bits .xor .u64 (a.toNat : Int) (b.toNat : Int)) (c.toNat : Int)) = .int .u64 ((a ^^^ (b ^^^ c)).toNat : Int) := by rw [bvxor64, bvxor64, BitVec.xor_assoc]
theorem not64 (x : BitVec 32) : (4294967295 : Int) - (x.toNat : Int) = ((x ^^^ 0xffffffff).toNat : Int) := by
  have h1 : x ^^^ 0xffffffff = ~~~ x := by
    rw [show (0xffffffff : BitVec 32) = BitVec.allOnes 32 from rfl, BitVec.xor_allOnes]
  rw [h1, BitVec.toNat_not]
  have := x.isLt
  omega
end
end BB
namespace Go.Proofs.YtegkhhegapnkpaaGreatDoor
open BB
set_option maxRecDepth 100000 in
set_option maxHeartbeats 6000000 in
theorem rbl_any (h : Nat → BitVec 32) (B : Nat → Nat) (hB : ∀ i, B i < 256) (bb off cap : Nat) (n : Nat) (hn : n < 18446744073709551616) (last : Bool) (w : World) (hb : Bytes w bb off 64 B) :
    Calls Tryz.prog 30 #[.agg (row 8 (cw .u64 h)), .slice (some ⟨bb, off, none⟩) 64 cap, .int .u64 n, .bool last] w fun e w' => e = .returned (.agg (row 8 (cw .u64 (comp h B n last)))) ∧ Below w.heap.size w w' := by
  have HB := Lib.hid hB
  have HN := Lib.hid hn
  have HBY := Lib.hid hb
  clear hB hn hb
  go_enter Tryz.func30, Tryz.ntmps30
  go_wp2_with fail
  refine abs_wp (fun w' => RBAt h w (mpart B 0) (vinit h 0) w') ?_ ?_
  · refine ⟨((((Below.refl _ _).alloc (Nat.le_refl _) _).alloc (by simp) _).alloc (by simp; omega) _).alloc (by simp; omega) _, ?_, ?_, ?_, ?_⟩
    · exact (((Blk.new' rfl rfl).alloc _).alloc _).alloc _
    · refine Blk.alloc (Blk.alloc ?_ _) _
      exact Blk.new' (by simp) rfl
    · refine Blk.alloc ?_ _
      exact Blk.new' (by simp) rfl
    · exact Blk.new' (by simp) rfl
  intro w1 h1
  go_loopw [11] (fun i wr => ∃ k : Nat, k ≤ 16 ∧ i = .int .i64 k ∧ RBAt h w (mpart B k) (vinit h 0) wr) (fun i _ => 16 - (intOf i).toNat)
  case atStart => exact ⟨0, by omega, rfl, h1⟩
  case round =>
    clear h1
    obtain ⟨i, hi, rfl, hr⟩ := hrel
    by_cases hlt : i < 16
    · have hlt' : (i : Int) < 16 := by omega
      have hr0 : RBAt h w (put (mpart B i) i (wpart B i 0)) (vinit h 0) wr := hr.congr fun j hj => by
        unfold put mpart wpart
        by_cases e : j = i
        · subst e; simp
        · rw [if_neg e]
      clear hr
      go_wp2_with fail
      go_loopw [12] (fun k wr => ∃ (t : Nat) (z : Int), t ≤ 4 ∧ z = 3 - (t : Int) ∧ k = .int .i64 z ∧ RBAt h w (put (mpart B i) i (wpart B i t)) (vinit h 0) wr) (fun k _ => (intOf k + 1).toNat)
      case atStart => exact ⟨0, 3, by omega, by omega, rfl, hr0⟩
      case round =>
        clear hr0
        obtain ⟨t, z, ht, hz, rfl, hr⟩ := hrel
        by_cases hlz : t < 4
        · have hz0 : 0 ≤ z := by omega
          have hz3 : z ≤ 3 := by omega
          obtain ⟨c, hc⟩ : ∃ c, c = 4 * i + (3 - t) := ⟨_, rfl⟩
          go_wp2_with fail
          refine tail_abs 15 (by kernel_rfl) (by kernel_rfl) fun w2 hs => ?_
          have S := hr.same hs
          have b2 := HBY.out.below S.below (Nat.le_refl _)
          have cm : w2.cell? ⟨w.heap.size + 1 + 1, i, none⟩ = some (.int .u64 (wpart B i t : Int)) := by
            have := S.hm.get i (by omega)
            unfold cn at this
            rwa [put_same] at this
          have cbb : w2.cell? ⟨bb, off + c, none⟩ = some (.int .u8 (B c : Int)) := b2.2 c (by omega)
          have fm := S.hm.frz i
          have c1 : IntKind.i64.wrap (4 * (i : Int)) = 4 * (i : Int) := IntWalk.i64_in _ (by omega)
          have c2 : IntKind.i64.wrap (4 * (i : Int) + z) = (c : Int) := by rw [IntWalk.i64_in _ (by omega)]; omega
          have c3 : (c : Int) < 64 := by omega
          have pl1 := wpart_lt B HB.out i t
          have pl2 : wpart B i t < 16777216 := Nat.lt_of_lt_of_le pl1 (by
            have : (256 : Nat) ^ t ≤ 256 ^ 3 := Nat.pow_le_pow_right (by decide) (by omega)
            simpa using this)
          have hBc := HB.out c
          have p1 : IntKind.u64.wrap ((wpart B i t : Int) * 256) = (wpart B i t : Int) * 256 := by rw [IntKind.wrap_u64]; omega
          have p2 : IntKind.u64.wrap ((B c : Nat) : Int) = ((B c : Nat) : Int) := by rw [IntKind.wrap_u64]; omega
          have p3 : IntKind.u64.wrap ((wpart B i t : Int) * 256 + (B c : Int)) = ((wpart B i t * 256 + B c : Nat) : Int) := by rw [IntKind.wrap_u64]; omega
          have HC := Lib.hid hc
          have HZ := Lib.hid hz
          clear hc hz hr hs b2 pl1 pl2 hBc
          simp only [List.take_succ_cons, List.take_zero, List.drop_succ_cons, List.drop_zero]
          repeat still_step
          refine wpStill_nil ?_
          clear c1 c2 p1 p2 p3 cbb c3
          go_wp2_with fail
          have H2 : RBAt h w (put (mpart B i) i (wpart B i (t + 1))) (vinit h 0) (w2.setCell ⟨w.heap.size + 1 + 1, i, none⟩ (.int .u64 ((wpart B i t : Int) * 256 + (B c : Int)))) :=
            (S.setm i (wpart B i t * 256 + B c) _ rfl).congr fun j hj => by
              unfold put
              by_cases e : j = i
              · rw [if_pos e, if_pos e, HC.out]; rfl
              · rw [if_neg e, if_neg e, if_neg e]
          refine ⟨⟨t + 1, z - 1, by omega, by have := HZ.out; omega, rfl, H2⟩, ?_⟩
          simp [intOf]; omega
        · have ht4 : t = 4 := by omega
          subst ht4
          have hz0 : ¬ 0 ≤ z := by omega
          have hr1 : RBAt h w (mpart B (i + 1)) (vinit h 0) wr := hr.congr fun j hj => by
            unfold put mpart
            by_cases e : j = i
            · subst e; simp
            · rw [if_neg e]
              by_cases e2 : j < i
              · rw [if_pos e2, if_pos (by omega)]
              · rw [if_neg e2, if_neg (by omega)]
          clear hr hz
          go_wp2_with fail
          go_roundw
          case rel => exact ⟨i + 1, by omega, by go_num, hr1⟩
          case measure => simp [intOf]; omega
    · have hge : ¬ (i : Int) < 16 := by omega
      have hr1 : RBAt h w (fun j => (wstep B 64 j).toNat) (vinit h 0) wr := hr.congr fun j hj => by
        obtain rfl : i = 16 := by omega
        unfold mpart
        rw [if_pos hj, wstep_sum B HB.out j hj]
      clear hr
      obtain ⟨M, hM⟩ : ∃ M, M = fun j => (wstep B 64 j).toNat := ⟨_, rfl⟩
      rw [← hM] at hr1
      have HM := Lib.hid hM
      clear hM
      have HR1 := Lib.hid hr1
      clear hr1
      go_wp2_with (first
        | (go_at_call 29; refine (iv_any _).mono ?_; rintro e w4 ⟨rfl, hb4⟩)
        | with_reducible refine hold_store (.tmp 13) (.tmp 43) rfl ?_)
      refine wpl_store (.tmp 13) (.tmp 43) w4.heap.size 0 8 8 (cw .u64 fun _ => 0) (cw .u64 iv) rfl rfl rfl rfl (size_q8 _) (Blk.new' rfl rfl) (by omega) (fun _ _ => rfl) ?_
      intro w5 h5
      have R5 := RCAt.mk' HR1.out hb4 h5
      clear hb4 h5
      generalize w4.heap.size = ib at *
      clear w4
      go_wp2_with fail
      go_loopw [14] (fun i wr => ∃ k : Nat, k ≤ 8 ∧ i = .int .i64 k ∧ RCAt h w M (vinit h k) ib wr) (fun i _ => 8 - (intOf i).toNat)
      case atStart => exact ⟨0, by omega, rfl, R5⟩
      case round =>
        clear R5 HR1
        obtain ⟨k, hk, rfl, hr⟩ := hrel
        by_cases hlk : k < 8
        · have hlk' : (k : Int) < 8 := by omega
          have c1 : wr.cell? ⟨w.heap.size, k, none⟩ = some (.int .u64 ((h k).toNat : Int)) := hr.at_.hh.get k hlk
          have f1 := hr.at_.hv.frz k
          have f2 := hr.at_.hv.frz (8 + k)
          have c3 : (wr.setCell ⟨w.heap.size + 1 + 1 + 1, k, none⟩ (.int .u64 ((h k).toNat : Int))).cell? ⟨ib, k, none⟩ = some (.int .u64 ((iv k).toNat : Int)) := by
            have hlt := hr.lt
            rw [World.cell?_setCell_other _ _ _ _ (fun e => by injection e with e _ _; omega)]
            exact hr.hi.get k hlk
          have e8 : (8 + (k : Int)).toNat = 8 + k := by omega
          have o1 := hr.at_.hv.get k (by omega)
          have H2 := hr.setv k (h k) _ rfl
          have o2 := H2.at_.hv.get (8 + k) (by omega)
          have H3 := H2.setv (8 + k) (iv k) _ rfl
          unfold cw at o1 o2
          clear hr H2
          go_wp2_with fail
          go_roundw
          case rel => exact ⟨k + 1, by omega, by go_num, H3⟩
          case measure => simp [intOf]; omega
        · have hge8 : ¬ (k : Int) < 8 := by omega
          have hr1 : RCAt h w M (vinit h 8) ib wr := by
            obtain rfl : k = 8 := by omega
            exact hr
          clear hr
          have o12 := hr1.at_.hv.get 12 (by omega)
          have o13 := hr1.at_.hv.get 13 (by omega)
          have o14 := hr1.at_.hv.get 14 (by omega)
          have f12 := hr1.at_.hv.frz 12
          have f13 := hr1.at_.hv.frz 13
          have f14 := hr1.at_.hv.frz 14
          unfold cw at o12 o13 o14
          obtain ⟨V, hV⟩ : ∃ V, V = vstart h n last := ⟨_, rfl⟩
          have HV := Lib.hid hV
          clear hV
          cases last
          · go_wp2_with fail
            refine abs_wp (fun w' => RCAt h w M V ib w') (by rw [HV.out]; exact ((hr1.setv 12 _ _ (xor64_lo _ _)).setv 13 _ _ (xor64_hi _ _ HN.out))) ?_
            clear o12 o13 o14 f12 f13 f14 hr1
            intro w6 h6
            go_loopw [15] (fun r wr => ∃ k : Nat, k ≤ 10 ∧ r = .int .i64 k ∧ RCAt h w M (outer (wstep B 64) V k) ib wr) (fun r _ => 10 - (intOf r).toNat)
            case atStart => exact ⟨0, by omega, rfl, h6⟩
            case round =>
              clear h6 w6
              obtain ⟨r, hr10, rfl, hr⟩ := hrel
              by_cases hlr : r < 10
              · have hlr' : (r : Int) < 10 := by omega
                have HR := Lib.hid hr
                clear hr
                go_wp2_with (go_at_call 46; refine (rowr_any r hlr _).mono ?_; rintro e w7 ⟨rfl, rfl⟩)
                go_loopw [17] (fun i wr => ∃ k : Nat, k ≤ 4 ∧ i = .int .i64 k ∧ RCAt h w M (inner (wstep B 64) r (outer (wstep B 64) V r) k) ib wr) (fun i _ => 4 - (intOf i).toNat)
                case atStart => exact ⟨0, by omega, rfl, HR.out⟩
                case round =>
                  clear HR
                  obtain ⟨q, hq4, rfl, hr⟩ := hrel
                  by_cases hlq : q < 4
                  · have hlq' : (q : Int) < 4 := by omega
                    obtain ⟨b4, hb4⟩ : ∃ b, b = 4 + q := ⟨_, rfl⟩
                    obtain ⟨b8, hb8⟩ : ∃ b, b = 8 + q := ⟨_, rfl⟩
                    obtain ⟨b12, hb12⟩ : ∃ b, b = 12 + q := ⟨_, rfl⟩
                    obtain ⟨c, hc⟩ : ∃ b, b = 2 * q := ⟨_, rfl⟩
                    obtain ⟨d, hd⟩ : ∃ b, b = 2 * q + 1 := ⟨_, rfl⟩
                    obtain ⟨p, hp⟩ : ∃ b, b = sg (r * 16 + c) := ⟨_, rfl⟩
                    obtain ⟨p', hp'⟩ : ∃ b, b = sg (r * 16 + d) := ⟨_, rfl⟩
                    have hp16 : p < 16 := by rw [hp]; exact sg_lt _
                    have hp16' : p' < 16 := by rw [hp']; exact sg_lt _
                    have ip16 : (p : Int) < 16 := by omega
                    have ip16' : (p' : Int) < 16 := by omega
                    go_wp2_with fail
                    refine tail_abs 23 (by kernel_rfl) (by kernel_rfl) fun w6 hs => ?_
                    have S := Lib.hid (hr.same hs)
                    have m1 : w6.cell? ⟨w.heap.size + 1 + 1, p, none⟩ = some (.int .u64 ((wstep B 64 p).toNat : Int)) := by
                      have := S.out.at_.hm.get p hp16
                      unfold cn at this
                      rw [HM.out] at this
                      exact this
                    have m2 : w6.cell? ⟨w.heap.size + 1 + 1, p', none⟩ = some (.int .u64 ((wstep B 64 p').toNat : Int)) := by
                      have := S.out.at_.hm.get p' hp16'
                      unfold cn at this
                      rw [HM.out] at this
                      exact this
                    have s1 : c < (rowS r).size := by rw [rowS_size]; omega
                    have s2 : d < (rowS r).size := by rw [rowS_size]; omega
                    have l1 : ((rowS r)[c]'s1).toNat = letter p := by rw [rowS_get r c (by omega) s1, ← hp]; exact letter_nat p hp16
                    have l2 : ((rowS r)[d]'s2).toNat = letter p' := by rw [rowS_get r d (by omega) s2, ← hp']; exact letter_nat p' hp16'
                    have He4 := Lib.hid (show IntKind.i64.wrap (4 + (q : Int)) = (b4 : Int) by rw [IntWalk.i64_in _ (by omega)]; omega)
                    have He8 := Lib.hid (show IntKind.i64.wrap (8 + (q : Int)) = (b8 : Int) by rw [IntWalk.i64_in _ (by omega)]; omega)
                    have He12 := Lib.hid (show IntKind.i64.wrap (12 + (q : Int)) = (b12 : Int) by rw [IntWalk.i64_in _ (by omega)]; omega)
                    have Hec := Lib.hid (show IntKind.i64.wrap (2 * (q : Int)) = (c : Int) by rw [IntWalk.i64_in _ (by omega)]; omega)
                    have Hed := Lib.hid (show IntKind.i64.wrap ((c : Int) + 1) = (d : Int) by rw [IntWalk.i64_in _ (by omega)]; omega)
                    have INN := Lib.hid (show inner (wstep B 64) r (outer (wstep B 64) V r) (q + 1) = gmix (inner (wstep B 64) r (outer (wstep B 64) V r) q) q b4 b8 b12 (wstep B 64 p) (wstep B 64 p') by
                      obtain ⟨z0, z1, z2, z3⟩ := pl_low q hlq
                      show gmix _ _ _ _ _ _ _ = _
                      rw [z0, z1, z2, z3, hb4, hb8, hb12, hp, hp', hc, hd])
                    have B4 : b4 < 16 := by omega
                    have B8 : b8 < 16 := by omega
                    have B12 : b12 < 16 := by omega
                    have LB := Lib.hid (And.intro B4 (And.intro B8 B12))
                    clear hp hp' hc hd hb4 hb8 hb12 B4 B8 B12
                    clear hr hs
                    have e4 := He4.out
                    have e8 := He8.out
                    have e12 := He12.out
                    have ec := Hec.out
                    have ed := Hed.out
                    clear He4 He8 He12 Hec Hed
                    simp only [List.take_succ_cons, List.take_zero, List.drop_succ_cons, List.drop_zero]
                    refine stl_load (.tmp 10) (w.heap.size + 1 + 1 + 1) 0 16 16 (cw .u64 (inner (wstep B 64) r (outer (wstep B 64) V r) q)) rfl rfl rfl (agg_q16 _) (size_q16 _) S.out.at_.hv.cells (by omega) ?_
                    repeat still_step
                    refine wpStill_step (fun K hK => ?_)
                    go_simp
                    refine ⟨.int .i64 (p : Int), place_any p hp16 w6, ?_⟩
                    refine hK _ ?_
                    clear hK K
                    repeat still_step
                    refine wpStill_step (fun K hK => ?_)
                    go_simp
                    refine ⟨.int .i64 (p' : Int), place_any p' hp16' w6, ?_⟩
                    refine hK _ ?_
                    clear hK K
                    repeat still_step
                    refine wpStill_nil ?_
                    clear m1 m2 l1 l2 s1 s2 e4 e8 e12 ec ed
                    have CALL := Lib.hid (rmix_any (inner (wstep B 64) r (outer (wstep B 64) V r) q) q b4 b8 b12 (by omega) LB.out.1 LB.out.2.1 LB.out.2.2 (wstep B 64 p) (wstep B 64 p') w6)
                    go_wp2_with (first
                      | (go_at_call 47; refine CALL.out.mono ?_; rintro e w7 ⟨rfl, hb7⟩)
                      | with_reducible refine hold_store (.tmp 10) (.tmp 109) rfl ?_)
                    have S7 := S.out.on hb7
                    rw [← INN.out]
                    refine wpl_store (.tmp 10) (.tmp 109) (w.heap.size + 1 + 1 + 1) 0 16 16 (cw .u64 (inner (wstep B 64) r (outer (wstep B 64) V r) q)) (cw .u64 (inner (wstep B 64) r (outer (wstep B 64) V r) (q + 1))) rfl rfl rfl rfl (size_q16 _) S7.at_.hv (by omega) (fun _ _ => rfl) ?_
                    intro w8 h8
                    have S8 := S7.updv (g := inner (wstep B 64) r (outer (wstep B 64) V r) (q + 1)) ⟨h8.1.congr _ fun i hi => by simp [hi], h8.2⟩
                    clear h8 S7 hb7
                    go_wp2_with fail
                    go_roundw
                    case rel => exact ⟨q + 1, by omega, by go_num, S8⟩
                    case measure => simp [intOf]; omega
                  · have hgeq : ¬ (q : Int) < 4 := by omega
                    have HR4 : RCAt h w M (inner (wstep B 64) r (outer (wstep B 64) V r) 4) ib wr := by
                      obtain rfl : q = 4 := by omega
                      exact hr
                    clear hr
                    go_wp2_with fail
                    go_loopw [18] (fun i wr => ∃ k : Nat, k ≤ 4 ∧ i = .int .i64 k ∧ RCAt h w M (inner (wstep B 64) r (outer (wstep B 64) V r) (4 + k)) ib wr) (fun i _ => 4 - (intOf i).toNat)
                    case atStart => exact ⟨0, by omega, rfl, HR4⟩
                    case round =>
                      clear HR4
                      obtain ⟨q, hq4, rfl, hr⟩ := hrel
                      by_cases hlq : q < 4
                      · have hlq' : (q : Int) < 4 := by omega
                        obtain ⟨q1, hq1⟩ : ∃ b, b = q + 1 := ⟨_, rfl⟩
                        obtain ⟨q2, hq2⟩ : ∃ b, b = q + 2 := ⟨_, rfl⟩
                        obtain ⟨q3, hq3⟩ : ∃ b, b = q + 3 := ⟨_, rfl⟩
                        obtain ⟨r1, hr1⟩ : ∃ b, b = q1 % 4 := ⟨_, rfl⟩
                        obtain ⟨r2, hr2⟩ : ∃ b, b = q2 % 4 := ⟨_, rfl⟩
                        obtain ⟨r3, hr3⟩ : ∃ b, b = q3 % 4 := ⟨_, rfl⟩
                        obtain ⟨b4, hb4⟩ : ∃ b, b = 4 + r1 := ⟨_, rfl⟩
                        obtain ⟨b8, hb8⟩ : ∃ b, b = 8 + r2 := ⟨_, rfl⟩
                        obtain ⟨b12, hb12⟩ : ∃ b, b = 12 + r3 := ⟨_, rfl⟩
                        obtain ⟨c0, hc0⟩ : ∃ b, b = 2 * q := ⟨_, rfl⟩
                        obtain ⟨c, hc⟩ : ∃ b, b = 8 + c0 := ⟨_, rfl⟩
                        obtain ⟨d, hd⟩ : ∃ b, b = 9 + c0 := ⟨_, rfl⟩
                        obtain ⟨p, hp⟩ : ∃ b, b = sg (r * 16 + c) := ⟨_, rfl⟩
                        obtain ⟨p', hp'⟩ : ∃ b, b = sg (r * 16 + d) := ⟨_, rfl⟩
                        have hp16 : p < 16 := by rw [hp]; exact sg_lt _
                        have hp16' : p' < 16 := by rw [hp']; exact sg_lt _
                        have ip16 : (p : Int) < 16 := by omega
                        have ip16' : (p' : Int) < 16 := by omega
                        go_wp2_with fail
                        refine tail_abs 30 (by kernel_rfl) (by kernel_rfl) fun w6 hs => ?_
                        have S := Lib.hid (hr.same hs)
                        have m1 : w6.cell? ⟨w.heap.size + 1 + 1, p, none⟩ = some (.int .u64 ((wstep B 64 p).toNat : Int)) := by
                          have := S.out.at_.hm.get p hp16
                          unfold cn at this
                          rw [HM.out] at this
                          exact this
                        have m2 : w6.cell? ⟨w.heap.size + 1 + 1, p', none⟩ = some (.int .u64 ((wstep B 64 p').toNat : Int)) := by
                          have := S.out.at_.hm.get p' hp16'
                          unfold cn at this
                          rw [HM.out] at this
                          exact this
                        have s1 : c < (rowS r).size := by rw [rowS_size]; omega
                        have s2 : d < (rowS r).size := by rw [rowS_size]; omega
                        have l1 : ((rowS r)[c]'s1).toNat = letter p := by rw [rowS_get r c (by omega) s1, ← hp]; exact letter_nat p hp16
                        have l2 : ((rowS r)[d]'s2).toNat = letter p' := by rw [rowS_get r d (by omega) s2, ← hp']; exact letter_nat p' hp16'
                        have Hx1 := Lib.hid (show IntKind.i64.wrap ((q : Int) + 1) = (q1 : Int) by rw [IntWalk.i64_in _ (by omega)]; omega)
                        have Hx2 := Lib.hid (show IntKind.i64.wrap ((q : Int) + 2) = (q2 : Int) by rw [IntWalk.i64_in _ (by omega)]; omega)
                        have Hx3 := Lib.hid (show IntKind.i64.wrap ((q : Int) + 3) = (q3 : Int) by rw [IntWalk.i64_in _ (by omega)]; omega)
                        have Hy1 := Lib.hid (show (q1 : Int).tmod 4 = (r1 : Int) by rw [Int.tmod_eq_emod_of_nonneg (by omega)]; omega)
                        have Hy2 := Lib.hid (show (q2 : Int).tmod 4 = (r2 : Int) by rw [Int.tmod_eq_emod_of_nonneg (by omega)]; omega)
                        have Hy3 := Lib.hid (show (q3 : Int).tmod 4 = (r3 : Int) by rw [Int.tmod_eq_emod_of_nonneg (by omega)]; omega)
                        have He4 := Lib.hid (show IntKind.i64.wrap (4 + (r1 : Int)) = (b4 : Int) by rw [IntWalk.i64_in _ (by omega)]; omega)
                        have He8 := Lib.hid (show IntKind.i64.wrap (8 + (r2 : Int)) = (b8 : Int) by rw [IntWalk.i64_in _ (by omega)]; omega)
                        have He12 := Lib.hid (show IntKind.i64.wrap (12 + (r3 : Int)) = (b12 : Int) by rw [IntWalk.i64_in _ (by omega)]; omega)
                        have Hec0 := Lib.hid (show IntKind.i64.wrap (2 * (q : Int)) = (c0 : Int) by rw [IntWalk.i64_in _ (by omega)]; omega)
                        have Hec := Lib.hid (show IntKind.i64.wrap (8 + (c0 : Int)) = (c : Int) by rw [IntWalk.i64_in _ (by omega)]; omega)
                        have Hed := Lib.hid (show IntKind.i64.wrap (9 + (c0 : Int)) = (d : Int) by rw [IntWalk.i64_in _ (by omega)]; omega)
                        have INN := Lib.hid (show inner (wstep B 64) r (outer (wstep B 64) V r) (4 + q + 1) = gmix (inner (wstep B 64) r (outer (wstep B 64) V r) (4 + q)) q b4 b8 b12 (wstep B 64 p) (wstep B 64 p') by
                          obtain ⟨z0, z1, z2, z3⟩ := pl_high q hlq
                          show gmix _ _ _ _ _ _ _ = _
                          rw [z0, z1, z2, z3, hb4, hb8, hb12, hr1, hr2, hr3, hq1, hq2, hq3, hp, hp', hc, hd, hc0, show 8 + 2 * q = 2 * (4 + q) by omega, show 9 + 2 * q = 2 * (4 + q) + 1 by omega])
                        have B4 : b4 < 16 := by omega
                        have B8 : b8 < 16 := by omega
                        have B12 : b12 < 16 := by omega
                        have LB := Lib.hid (And.intro B4 (And.intro B8 B12))
                        clear hp hp' hc hd hb4 hb8 hb12 B4 B8 B12 hr1 hr2 hr3 hq1 hq2 hq3 hc0
                        clear hr hs
                        have x1 := Hx1.out
                        have x2 := Hx2.out
                        have x3 := Hx3.out
                        have y1 := Hy1.out
                        have y2 := Hy2.out
                        have y3 := Hy3.out
                        have e4 := He4.out
                        have e8 := He8.out
                        have e12 := He12.out
                        have ec0 := Hec0.out
                        have ec := Hec.out
                        have ed := Hed.out
                        clear Hx1 Hx2 Hx3 Hy1 Hy2 Hy3 He4 He8 He12 Hec0 Hec Hed
                        simp only [List.take_succ_cons, List.take_zero, List.drop_succ_cons, List.drop_zero]
                        refine stl_load (.tmp 10) (w.heap.size + 1 + 1 + 1) 0 16 16 (cw .u64 (inner (wstep B 64) r (outer (wstep B 64) V r) (4 + q))) rfl rfl rfl (agg_q16 _) (size_q16 _) S.out.at_.hv.cells (by omega) ?_
                        repeat still_step
                        refine wpStill_step (fun K hK => ?_)
                        go_simp
                        refine ⟨.int .i64 (p : Int), place_any p hp16 w6, ?_⟩
                        refine hK _ ?_
                        clear hK K
                        repeat still_step
                        refine wpStill_step (fun K hK => ?_)
                        go_simp
                        refine ⟨.int .i64 (p' : Int), place_any p' hp16' w6, ?_⟩
                        refine hK _ ?_
                        clear hK K
                        repeat still_step
                        refine wpStill_nil ?_
                        clear m1 m2 l1 l2 s1 s2 x1 x2 x3 y1 y2 y3 e4 e8 e12 ec0 ec ed
                        have CALL := Lib.hid (rmix_any (inner (wstep B 64) r (outer (wstep B 64) V r) (4 + q)) q b4 b8 b12 (by omega) LB.out.1 LB.out.2.1 LB.out.2.2 (wstep B 64 p) (wstep B 64 p') w6)
                        go_wp2_with (first
                          | (go_at_call 47; refine CALL.out.mono ?_; rintro e w7 ⟨rfl, hb7⟩)
                          | with_reducible refine hold_store (.tmp 10) (.tmp 144) rfl ?_)
                        have S7 := S.out.on hb7
                        rw [← INN.out]
                        refine wpl_store (.tmp 10) (.tmp 144) (w.heap.size + 1 + 1 + 1) 0 16 16 (cw .u64 (inner (wstep B 64) r (outer (wstep B 64) V r) (4 + q))) (cw .u64 (inner (wstep B 64) r (outer (wstep B 64) V r) ((4 + q) + 1))) rfl rfl rfl rfl (size_q16 _) S7.at_.hv (by omega) (fun _ _ => rfl) ?_
                        intro w8 h8
                        have S8 := S7.updv (g := inner (wstep B 64) r (outer (wstep B 64) V r) ((4 + q) + 1)) ⟨h8.1.congr _ fun i hi => by simp [hi], h8.2⟩
                        clear h8 S7 hb7
                        go_wp2_with fail
                        go_roundw
                        case rel => exact ⟨q + 1, by omega, by go_num, S8⟩
                        case measure => simp [intOf]; omega
                      · have hgeq : ¬ (q : Int) < 4 := by omega
                        have HR8 : RCAt h w M (outer (wstep B 64) V (r + 1)) ib wr := by
                          obtain rfl : q = 4 := by omega
                          exact hr
                        clear hr
                        go_wp2_with fail
                        go_roundw
                        case rel => exact ⟨r + 1, by omega, by go_num, HR8⟩
                        case measure => simp [intOf]; omega
              · have hge10 : ¬ (r : Int) < 10 := by omega
                obtain ⟨G, hG⟩ : ∃ G, G = outer (wstep B 64) V 10 := ⟨_, rfl⟩
                have hm0 : RCAt (fin h G 0) w M G ib wr := by
                  obtain rfl : r = 10 := by omega
                  rw [hG]; exact hr
                have HG := Lib.hid hG
                clear hG hr
                go_wp2_with fail
                go_loopw [19] (fun i wr => ∃ k : Nat, k ≤ 8 ∧ i = .int .i64 k ∧ RCAt (fin h G k) w M G ib wr) (fun i _ => 8 - (intOf i).toNat)
                case atStart => exact ⟨0, by omega, rfl, hm0⟩
                case round =>
                  clear hm0
                  obtain ⟨q, hq8, rfl, hr⟩ := hrel
                  by_cases hlq : q < 8
                  · have hlq' : (q : Int) < 8 := by omega
                    obtain ⟨c, hc⟩ : ∃ c, c = 8 + q := ⟨_, rfl⟩
                    go_wp2_with fail
                    refine tail_abs 14 (by kernel_rfl) (by kernel_rfl) fun w6 hs => ?_
                    have S := hr.same hs
                    have a1 : w6.cell? ⟨w.heap.size, q, none⟩ = some (.int .u64 ((fin h G q q).toNat : Int)) := S.at_.hh.get q (by omega)
                    have a2 : w6.cell? ⟨w.heap.size + 1 + 1 + 1, q, none⟩ = some (.int .u64 ((G q).toNat : Int)) := S.at_.hv.get q (by omega)
                    have a3 : w6.cell? ⟨w.heap.size + 1 + 1 + 1, c, none⟩ = some (.int .u64 ((G c).toNat : Int)) := S.at_.hv.get c (by omega)
                    have fr := S.at_.hh.frz q
                    have c1 : IntKind.i64.wrap (8 + (q : Int)) = (c : Int) := by rw [IntWalk.i64_in _ (by omega)]; omega
                    have c2 : (c : Int) < 16 := by omega
                    have k16 : (q : Int) < 16 := by omega
                    have HC := Lib.hid hc
                    clear hc hr hs
                    simp only [List.take_succ_cons, List.take_zero, List.drop_succ_cons, List.drop_zero]
                    repeat still_step
                    refine wpStill_nil ?_
                    clear a2 a3 c1 c2 k16
                    go_wp2_with fail
                    go_roundw
                    case rel => exact ⟨q + 1, by omega, by go_num, by
                      have := S.seth q (fin h G q q ^^^ (G q ^^^ G c)) _ (xor3_64 _ _ _)
                      rw [HC.out] at this ⊢
                      exact this⟩
                    case measure => simp [intOf]; omega
                  · have hge8' : ¬ (q : Int) < 8 := by omega
                    have HF : RCAt (fin h G 8) w M G ib wr := by
                      obtain rfl : q = 8 := by omega
                      exact hr
                    clear hr
                    go_wp2_with (with_reducible refine hold_load (.tmp 4) rfl ?_)
                    refine wpl_load (.tmp 4) w.heap.size 0 8 8 (cw .u64 (fin h G 8)) rfl rfl rfl (agg_q8 _) (size_q8 _) HF.at_.hh.cells (by omega) ?_
                    go_wp2_with (with_reducible refine hold_store (.tmp 8) (.tmp 163) rfl ?_)
                    refine wpl_store (.tmp 8) (.tmp 163) (w.heap.size + 1) 0 8 8 (cw .u64 fun _ => 0) (cw .u64 (fin h G 8)) rfl rfl rfl (by simp [Act.eval]) (size_q8 _) HF.at_.hr (by omega) (fun _ _ => rfl) ?_
                    intro w7 h7
                    go_wp2_with fail
                    have h8 : Blk w7 (w.heap.size + 1) 8 (cw .u64 (fin h G 8)) := h7.1.congr _ fun i hi => by simp [hi]
                    refine body_row (p := 8) (by kernel_rfl) rfl (agg_q8 _) (size_q8 _) h8.cells (by omega) rfl ⟨?_, HF.at_.below.trans (h7.2.below (by omega))⟩
                    rw [HG.out, HV.out]; rfl
          · go_wp2_with fail
            refine abs_wp (fun w' => RCAt h w M V ib w') (by rw [HV.out]; exact (((hr1.setv 12 _ _ (xor64_lo _ _)).setv 13 _ _ (xor64_hi _ _ HN.out)).setv 14 _ _ (congrArg (Value.int .u64) (not64 _)))) ?_
            clear o12 o13 o14 f12 f13 f14 hr1
            intro w6 h6
            go_loopw [15] (fun r wr => ∃ k : Nat, k ≤ 10 ∧ r = .int .i64 k ∧ RCAt h w M (outer (wstep B 64) V k) ib wr) (fun r _ => 10 - (intOf r).toNat)
            case atStart => exact ⟨0, by omega, rfl, h6⟩
            case round =>
              clear h6 w6
              obtain ⟨r, hr10, rfl, hr⟩ := hrel
              by_cases hlr : r < 10
              · have hlr' : (r : Int) < 10 := by omega
                have HR := Lib.hid hr
                clear hr
                go_wp2_with (go_at_call 46; refine (rowr_any r hlr _).mono ?_; rintro e w7 ⟨rfl, rfl⟩)
                go_loopw [17] (fun i wr => ∃ k : Nat, k ≤ 4 ∧ i = .int .i64 k ∧ RCAt h w M (inner (wstep B 64) r (outer (wstep B 64) V r) k) ib wr) (fun i _ => 4 - (intOf i).toNat)
                case atStart => exact ⟨0, by omega, rfl, HR.out⟩
                case round =>
                  clear HR
                  obtain ⟨q, hq4, rfl, hr⟩ := hrel
                  by_cases hlq : q < 4
                  · have hlq' : (q : Int) < 4 := by omega
                    obtain ⟨b4, hb4⟩ : ∃ b, b = 4 + q := ⟨_, rfl⟩
                    obtain ⟨b8, hb8⟩ : ∃ b, b = 8 + q := ⟨_, rfl⟩
                    obtain ⟨b12, hb12⟩ : ∃ b, b = 12 + q := ⟨_, rfl⟩
                    obtain ⟨c, hc⟩ : ∃ b, b = 2 * q := ⟨_, rfl⟩
                    obtain ⟨d, hd⟩ : ∃ b, b = 2 * q + 1 := ⟨_, rfl⟩
                    obtain ⟨p, hp⟩ : ∃ b, b = sg (r * 16 + c) := ⟨_, rfl⟩
                    obtain ⟨p', hp'⟩ : ∃ b, b = sg (r * 16 + d) := ⟨_, rfl⟩
                    have hp16 : p < 16 := by rw [hp]; exact sg_lt _
                    have hp16' : p' < 16 := by rw [hp']; exact sg_lt _
                    have ip16 : (p : Int) < 16 := by omega
                    have ip16' : (p' : Int) < 16 := by omega
                    go_wp2_with fail
                    refine tail_abs 23 (by kernel_rfl) (by kernel_rfl) fun w6 hs => ?_
                    have S := Lib.hid (hr.same hs)
                    have m1 : w6.cell? ⟨w.heap.size + 1 + 1, p, none⟩ = some (.int .u64 ((wstep B 64 p).toNat : Int)) := by
                      have := S.out.at_.hm.get p hp16
                      unfold cn at this
                      rw [HM.out] at this
                      exact this
                    have m2 : w6.cell? ⟨w.heap.size + 1 + 1, p', none⟩ = some (.int .u64 ((wstep B 64 p').toNat : Int)) := by
                      have := S.out.at_.hm.get p' hp16'
                      unfold cn at this
                      rw [HM.out] at this
                      exact this
                    have s1 : c < (rowS r).size := by rw [rowS_size]; omega
                    have s2 : d < (rowS r).size := by rw [rowS_size]; omega
                    have l1 : ((rowS r)[c]'s1).toNat = letter p := by rw [rowS_get r c (by omega) s1, ← hp]; exact letter_nat p hp16
                    have l2 : ((rowS r)[d]'s2).toNat = letter p' := by rw [rowS_get r d (by omega) s2, ← hp']; exact letter_nat p' hp16'
                    have He4 := Lib.hid (show IntKind.i64.wrap (4 + (q : Int)) = (b4 : Int) by rw [IntWalk.i64_in _ (by omega)]; omega)
                    have He8 := Lib.hid (show IntKind.i64.wrap (8 + (q : Int)) = (b8 : Int) by rw [IntWalk.i64_in _ (by omega)]; omega)
                    have He12 := Lib.hid (show IntKind.i64.wrap (12 + (q : Int)) = (b12 : Int) by rw [IntWalk.i64_in _ (by omega)]; omega)
                    have Hec := Lib.hid (show IntKind.i64.wrap (2 * (q : Int)) = (c : Int) by rw [IntWalk.i64_in _ (by omega)]; omega)
                    have Hed := Lib.hid (show IntKind.i64.wrap ((c : Int) + 1) = (d : Int) by rw [IntWalk.i64_in _ (by omega)]; omega)
                    have INN := Lib.hid (show inner (wstep B 64) r (outer (wstep B 64) V r) (q + 1) = gmix (inner (wstep B 64) r (outer (wstep B 64) V r) q) q b4 b8 b12 (wstep B 64 p) (wstep B 64 p') by
                      obtain ⟨z0, z1, z2, z3⟩ := pl_low q hlq
                      show gmix _ _ _ _ _ _ _ = _
                      rw [z0, z1, z2, z3, hb4, hb8, hb12, hp, hp', hc, hd])
                    have B4 : b4 < 16 := by omega
                    have B8 : b8 < 16 := by omega
                    have B12 : b12 < 16 := by omega
                    have LB := Lib.hid (And.intro B4 (And.intro B8 B12))
                    clear hp hp' hc hd hb4 hb8 hb12 B4 B8 B12
                    clear hr hs
                    have e4 := He4.out
                    have e8 := He8.out
                    have e12 := He12.out
                    have ec := Hec.out
                    have ed := Hed.out
                    clear He4 He8 He12 Hec Hed
                    simp only [List.take_succ_cons, List.take_zero, List.drop_succ_cons, List.drop_zero]
                    refine stl_load (.tmp 10) (w.heap.size + 1 + 1 + 1) 0 16 16 (cw .u64 (inner (wstep B 64) r (outer (wstep B 64) V r) q)) rfl rfl rfl (agg_q16 _) (size_q16 _) S.out.at_.hv.cells (by omega) ?_
                    repeat still_step
                    refine wpStill_step (fun K hK => ?_)
                    go_simp
                    refine ⟨.int .i64 (p : Int), place_any p hp16 w6, ?_⟩
                    refine hK _ ?_
                    clear hK K
                    repeat still_step
                    refine wpStill_step (fun K hK => ?_)
                    go_simp
                    refine ⟨.int .i64 (p' : Int), place_any p' hp16' w6, ?_⟩
                    refine hK _ ?_
                    clear hK K
                    repeat still_step
                    refine wpStill_nil ?_
                    clear m1 m2 l1 l2 s1 s2 e4 e8 e12 ec ed
                    have CALL := Lib.hid (rmix_any (inner (wstep B 64) r (outer (wstep B 64) V r) q) q b4 b8 b12 (by omega) LB.out.1 LB.out.2.1 LB.out.2.2 (wstep B 64 p) (wstep B 64 p') w6)
                    go_wp2_with (first
                      | (go_at_call 47; refine CALL.out.mono ?_; rintro e w7 ⟨rfl, hb7⟩)
                      | with_reducible refine hold_store (.tmp 10) (.tmp 109) rfl ?_)
                    have S7 := S.out.on hb7
                    rw [← INN.out]
                    refine wpl_store (.tmp 10) (.tmp 109) (w.heap.size + 1 + 1 + 1) 0 16 16 (cw .u64 (inner (wstep B 64) r (outer (wstep B 64) V r) q)) (cw .u64 (inner (wstep B 64) r (outer (wstep B 64) V r) (q + 1))) rfl rfl rfl rfl (size_q16 _) S7.at_.hv (by omega) (fun _ _ => rfl) ?_
                    intro w8 h8
                    have S8 := S7.updv (g := inner (wstep B 64) r (outer (wstep B 64) V r) (q + 1)) ⟨h8.1.congr _ fun i hi => by simp [hi], h8.2⟩
                    clear h8 S7 hb7
                    go_wp2_with fail
                    go_roundw
                    case rel => exact ⟨q + 1, by omega, by go_num, S8⟩
                    case measure => simp [intOf]; omega
                  · have hgeq : ¬ (q : Int) < 4 := by omega
                    have HR4 : RCAt h w M (inner (wstep B 64) r (outer (wstep B 64) V r) 4) ib wr := by
                      obtain rfl : q = 4 := by omega
                      exact hr
                    clear hr
                    go_wp2_with fail
                    go_loopw [18] (fun i wr => ∃ k : Nat, k ≤ 4 ∧ i = .int .i64 k ∧ RCAt h w M (inner (wstep B 64) r (outer (wstep B 64) V r) (4 + k)) ib wr) (fun i _ => 4 - (intOf i).toNat)
                    case atStart => exact ⟨0, by omega, rfl, HR4⟩
                    case round =>
                      clear HR4
                      obtain ⟨q, hq4, rfl, hr⟩ := hrel
                      by_cases hlq : q < 4
                      · have hlq' : (q : Int) < 4 := by omega
                        obtain ⟨q1, hq1⟩ : ∃ b, b = q + 1 := ⟨_, rfl⟩
                        obtain ⟨q2, hq2⟩ : ∃ b, b = q + 2 := ⟨_, rfl⟩
                        obtain ⟨q3, hq3⟩ : ∃ b, b = q + 3 := ⟨_, rfl⟩
                        obtain ⟨r1, hr1⟩ : ∃ b, b = q1 % 4 := ⟨_, rfl⟩
                        obtain ⟨r2, hr2⟩ : ∃ b, b = q2 % 4 := ⟨_, rfl⟩
                        obtain ⟨r3, hr3⟩ : ∃ b, b = q3 % 4 := ⟨_, rfl⟩
                        obtain ⟨b4, hb4⟩ : ∃ b, b = 4 + r1 := ⟨_, rfl⟩
                        obtain ⟨b8, hb8⟩ : ∃ b, b = 8 + r2 := ⟨_, rfl⟩
                        obtain ⟨b12, hb12⟩ : ∃ b, b = 12 + r3 := ⟨_, rfl⟩
                        obtain ⟨c0, hc0⟩ : ∃ b, b = 2 * q := ⟨_, rfl⟩
                        obtain ⟨c, hc⟩ : ∃ b, b = 8 + c0 := ⟨_, rfl⟩
                        obtain ⟨d, hd⟩ : ∃ b, b = 9 + c0 := ⟨_, rfl⟩
                        obtain ⟨p, hp⟩ : ∃ b, b = sg (r * 16 + c) := ⟨_, rfl⟩
                        obtain ⟨p', hp'⟩ : ∃ b, b = sg (r * 16 + d) := ⟨_, rfl⟩
                        have hp16 : p < 16 := by rw [hp]; exact sg_lt _
                        have hp16' : p' < 16 := by rw [hp']; exact sg_lt _
                        have ip16 : (p : Int) < 16 := by omega
                        have ip16' : (p' : Int) < 16 := by omega
                        go_wp2_with fail
                        refine tail_abs 30 (by kernel_rfl) (by kernel_rfl) fun w6 hs => ?_
                        have S := Lib.hid (hr.same hs)
                        have m1 : w6.cell? ⟨w.heap.size + 1 + 1, p, none⟩ = some (.int .u64 ((wstep B 64 p).toNat : Int)) := by
                          have := S.out.at_.hm.get p hp16
                          unfold cn at this
                          rw [HM.out] at this
                          exact this
                        have m2 : w6.cell? ⟨w.heap.size + 1 + 1, p', none⟩ = some (.int .u64 ((wstep B 64 p').toNat : Int)) := by
                          have := S.out.at_.hm.get p' hp16'
                          unfold cn at this
                          rw [HM.out] at this
                          exact this
                        have s1 : c < (rowS r).size := by rw [rowS_size]; omega
                        have s2 : d < (rowS r).size := by rw [rowS_size]; omega
                        have l1 : ((rowS r)[c]'s1).toNat = letter p := by rw [rowS_get r c (by omega) s1, ← hp]; exact letter_nat p hp16
                        have l2 : ((rowS r)[d]'s2).toNat = letter p' := by rw [rowS_get r d (by omega) s2, ← hp']; exact letter_nat p' hp16'
                        have Hx1 := Lib.hid (show IntKind.i64.wrap ((q : Int) + 1) = (q1 : Int) by rw [IntWalk.i64_in _ (by omega)]; omega)
                        have Hx2 := Lib.hid (show IntKind.i64.wrap ((q : Int) + 2) = (q2 : Int) by rw [IntWalk.i64_in _ (by omega)]; omega)
                        have Hx3 := Lib.hid (show IntKind.i64.wrap ((q : Int) + 3) = (q3 : Int) by rw [IntWalk.i64_in _ (by omega)]; omega)
                        have Hy1 := Lib.hid (show (q1 : Int).tmod 4 = (r1 : Int) by rw [Int.tmod_eq_emod_of_nonneg (by omega)]; omega)
                        have Hy2 := Lib.hid (show (q2 : Int).tmod 4 = (r2 : Int) by rw [Int.tmod_eq_emod_of_nonneg (by omega)]; omega)
                        have Hy3 := Lib.hid (show (q3 : Int).tmod 4 = (r3 : Int) by rw [Int.tmod_eq_emod_of_nonneg (by omega)]; omega)
                        have He4 := Lib.hid (show IntKind.i64.wrap (4 + (r1 : Int)) = (b4 : Int) by rw [IntWalk.i64_in _ (by omega)]; omega)
                        have He8 := Lib.hid (show IntKind.i64.wrap (8 + (r2 : Int)) = (b8 : Int) by rw [IntWalk.i64_in _ (by omega)]; omega)
                        have He12 := Lib.hid (show IntKind.i64.wrap (12 + (r3 : Int)) = (b12 : Int) by rw [IntWalk.i64_in _ (by omega)]; omega)
                        have Hec0 := Lib.hid (show IntKind.i64.wrap (2 * (q : Int)) = (c0 : Int) by rw [IntWalk.i64_in _ (by omega)]; omega)
                        have Hec := Lib.hid (show IntKind.i64.wrap (8 + (c0 : Int)) = (c : Int) by rw [IntWalk.i64_in _ (by omega)]; omega)
                        have Hed := Lib.hid (show IntKind.i64.wrap (9 + (c0 : Int)) = (d : Int) by rw [IntWalk.i64_in _ (by omega)]; omega)
                        have INN := Lib.hid (show inner (wstep B 64) r (outer (wstep B 64) V r) (4 + q + 1) = gmix (inner (wstep B 64) r (outer (wstep B 64) V r) (4 + q)) q b4 b8 b12 (wstep B 64 p) (wstep B 64 p') by
                          obtain ⟨z0, z1, z2, z3⟩ := pl_high q hlq
                          show gmix _ _ _ _ _ _ _ = _
                          rw [z0, z1, z2, z3, hb4, hb8, hb12, hr1, hr2, hr3, hq1, hq2, hq3, hp, hp', hc, hd, hc0, show 8 + 2 * q = 2 * (4 + q) by omega, show 9 + 2 * q = 2 * (4 + q) + 1 by omega])
                        have B4 : b4 < 16 := by omega
                        have B8 : b8 < 16 := by omega
                        have B12 : b12 < 16 := by omega
                        have LB := Lib.hid (And.intro B4 (And.intro B8 B12))
                        clear hp hp' hc hd hb4 hb8 hb12 B4 B8 B12 hr1 hr2 hr3 hq1 hq2 hq3 hc0
                        clear hr hs
                        have x1 := Hx1.out
                        have x2 := Hx2.out
                        have x3 := Hx3.out
                        have y1 := Hy1.out
                        have y2 := Hy2.out
                        have y3 := Hy3.out
                        have e4 := He4.out
                        have e8 := He8.out
                        have e12 := He12.out
                        have ec0 := Hec0.out
                        have ec := Hec.out
                        have ed := Hed.out
                        clear Hx1 Hx2 Hx3 Hy1 Hy2 Hy3 He4 He8 He12 Hec0 Hec Hed
                        simp only [List.take_succ_cons, List.take_zero, List.drop_succ_cons, List.drop_zero]
                        refine stl_load (.tmp 10) (w.heap.size + 1 + 1 + 1) 0 16 16 (cw .u64 (inner (wstep B 64) r (outer (wstep B 64) V r) (4 + q))) rfl rfl rfl (agg_q16 _) (size_q16 _) S.out.at_.hv.cells (by omega) ?_
                        repeat still_step
                        refine wpStill_step (fun K hK => ?_)
                        go_simp
                        refine ⟨.int .i64 (p : Int), place_any p hp16 w6, ?_⟩
                        refine hK _ ?_
                        clear hK K
                        repeat still_step
                        refine wpStill_step (fun K hK => ?_)
                        go_simp
                        refine ⟨.int .i64 (p' : Int), place_any p' hp16' w6, ?_⟩
                        refine hK _ ?_
                        clear hK K
                        repeat still_step
                        refine wpStill_nil ?_
                        clear m1 m2 l1 l2 s1 s2 x1 x2 x3 y1 y2 y3 e4 e8 e12 ec0 ec ed
                        have CALL := Lib.hid (rmix_any (inner (wstep B 64) r (outer (wstep B 64) V r) (4 + q)) q b4 b8 b12 (by omega) LB.out.1 LB.out.2.1 LB.out.2.2 (wstep B 64 p) (wstep B 64 p') w6)
                        go_wp2_with (first
                          | (go_at_call 47; refine CALL.out.mono ?_; rintro e w7 ⟨rfl, hb7⟩)
                          | with_reducible refine hold_store (.tmp 10) (.tmp 144) rfl ?_)
                        have S7 := S.out.on hb7
                        rw [← INN.out]
                        refine wpl_store (.tmp 10) (.tmp 144) (w.heap.size + 1 + 1 + 1) 0 16 16 (cw .u64 (inner (wstep B 64) r (outer (wstep B 64) V r) (4 + q))) (cw .u64 (inner (wstep B 64) r (outer (wstep B 64) V r) ((4 + q) + 1))) rfl rfl rfl rfl (size_q16 _) S7.at_.hv (by omega) (fun _ _ => rfl) ?_
                        intro w8 h8
                        have S8 := S7.updv (g := inner (wstep B 64) r (outer (wstep B 64) V r) ((4 + q) + 1)) ⟨h8.1.congr _ fun i hi => by simp [hi], h8.2⟩
                        clear h8 S7 hb7
                        go_wp2_with fail
                        go_roundw
                        case rel => exact ⟨q + 1, by omega, by go_num, S8⟩
                        case measure => simp [intOf]; omega
                      · have hgeq : ¬ (q : Int) < 4 := by omega
                        have HR8 : RCAt h w M (outer (wstep B 64) V (r + 1)) ib wr := by
                          obtain rfl : q = 4 := by omega
                          exact hr
                        clear hr
                        go_wp2_with fail
                        go_roundw
                        case rel => exact ⟨r + 1, by omega, by go_num, HR8⟩
                        case measure => simp [intOf]; omega
              · have hge10 : ¬ (r : Int) < 10 := by omega
                obtain ⟨G, hG⟩ : ∃ G, G = outer (wstep B 64) V 10 := ⟨_, rfl⟩
                have hm0 : RCAt (fin h G 0) w M G ib wr := by
                  obtain rfl : r = 10 := by omega
                  rw [hG]; exact hr
                have HG := Lib.hid hG
                clear hG hr
                go_wp2_with fail
                go_loopw [19] (fun i wr => ∃ k : Nat, k ≤ 8 ∧ i = .int .i64 k ∧ RCAt (fin h G k) w M G ib wr) (fun i _ => 8 - (intOf i).toNat)
                case atStart => exact ⟨0, by omega, rfl, hm0⟩
                case round =>
                  clear hm0
                  obtain ⟨q, hq8, rfl, hr⟩ := hrel
                  by_cases hlq : q < 8
                  · have hlq' : (q : Int) < 8 := by omega
                    obtain ⟨c, hc⟩ : ∃ c, c = 8 + q := ⟨_, rfl⟩
                    go_wp2_with fail
                    refine tail_abs 14 (by kernel_rfl) (by kernel_rfl) fun w6 hs => ?_
                    have S := hr.same hs
                    have a1 : w6.cell? ⟨w.heap.size, q, none⟩ = some (.int .u64 ((fin h G q q).toNat : Int)) := S.at_.hh.get q (by omega)
                    have a2 : w6.cell? ⟨w.heap.size + 1 + 1 + 1, q, none⟩ = some (.int .u64 ((G q).toNat : Int)) := S.at_.hv.get q (by omega)
                    have a3 : w6.cell? ⟨w.heap.size + 1 + 1 + 1, c, none⟩ = some (.int .u64 ((G c).toNat : Int)) := S.at_.hv.get c (by omega)
                    have fr := S.at_.hh.frz q
                    have c1 : IntKind.i64.wrap (8 + (q : Int)) = (c : Int) := by rw [IntWalk.i64_in _ (by omega)]; omega
                    have c2 : (c : Int) < 16 := by omega
                    have k16 : (q : Int) < 16 := by omega
                    have HC := Lib.hid hc
                    clear hc hr hs
                    simp only [List.take_succ_cons, List.take_zero, List.drop_succ_cons, List.drop_zero]
                    repeat still_step
                    refine wpStill_nil ?_
                    clear a2 a3 c1 c2 k16
                    go_wp2_with fail
                    go_roundw
                    case rel => exact ⟨q + 1, by omega, by go_num, by
                      have := S.seth q (fin h G q q ^^^ (G q ^^^ G c)) _ (xor3_64 _ _ _)
                      rw [HC.out] at this ⊢
                      exact this⟩
                    case measure => simp [intOf]; omega
                  · have hge8' : ¬ (q : Int) < 8 := by omega
                    have HF : RCAt (fin h G 8) w M G ib wr := by
                      obtain rfl : q = 8 := by omega
                      exact hr
                    clear hr
                    go_wp2_with (with_reducible refine hold_load (.tmp 4) rfl ?_)
                    refine wpl_load (.tmp 4) w.heap.size 0 8 8 (cw .u64 (fin h G 8)) rfl rfl rfl (agg_q8 _) (size_q8 _) HF.at_.hh.cells (by omega) ?_
                    go_wp2_with (with_reducible refine hold_store (.tmp 8) (.tmp 163) rfl ?_)
                    refine wpl_store (.tmp 8) (.tmp 163) (w.heap.size + 1) 0 8 8 (cw .u64 fun _ => 0) (cw .u64 (fin h G 8)) rfl rfl rfl (by simp [Act.eval]) (size_q8 _) HF.at_.hr (by omega) (fun _ _ => rfl) ?_
                    intro w7 h7
                    go_wp2_with fail
                    have h8 : Blk w7 (w.heap.size + 1) 8 (cw .u64 (fin h G 8)) := h7.1.congr _ fun i hi => by simp [hi]
                    refine body_row (p := 8) (by kernel_rfl) rfl (agg_q8 _) (size_q8 _) h8.cells (by omega) rfl ⟨?_, HF.at_.below.trans (h7.2.below (by omega))⟩
                    rw [HG.out, HV.out]; rfl
end Go.Proofs.YtegkhhegapnkpaaGreatDoor
end
section
open Go Go.RowKit
namespace Go.Proofs.YtegkhhegapnkpaaGreatDoor
open BB
theorem rot_any (x : BitVec 32) (m : Int) (n : Nat) (hm : m = -16 ∧ n = 16 ∨ m = -12 ∧ n = 12 ∨ m = -8 ∧ n = 8 ∨ m = -7 ∧ n = 7) (w : World) :
    Calls Tryz.prog 113 #[.int .u32 (x.toNat : Int), .int .i64 m] w fun e w' => e = .returned (.int .u32 ((ror n x).toNat : Int)) ∧ w' = w := by
  rcases hm with ⟨rfl, rfl⟩ | ⟨rfl, rfl⟩ | ⟨rfl, rfl⟩ | ⟨rfl, rfl⟩
  · have h16 : bits BinOp.and IntKind.u64 (IntKind.u64.wrap (-16)) 31 = 16 := by decide
    go_enter Tryz.func113, Tryz.ntmps113
    go_wp2
    go_ret
    exact ⟨ret_int (ror_code x 16 _ _ (by decide) (by decide)), rfl⟩
  · have h16 : bits BinOp.and IntKind.u64 (IntKind.u64.wrap (-12)) 31 = 20 := by decide
    go_enter Tryz.func113, Tryz.ntmps113
    go_wp2
    go_ret
    exact ⟨ret_int (ror_code x 12 _ _ (by decide) (by decide)), rfl⟩
  · have h16 : bits BinOp.and IntKind.u64 (IntKind.u64.wrap (-8)) 31 = 24 := by decide
    go_enter Tryz.func113, Tryz.ntmps113
    go_wp2
    go_ret
    exact ⟨ret_int (ror_code x 8 _ _ (by decide) (by decide)), rfl⟩
  · have h16 : bits BinOp.and IntKind.u64 (IntKind.u64.wrap (-7)) 31 = 25 := by decide
    go_enter Tryz.func113, Tryz.ntmps113
    go_wp2
    go_ret
    exact ⟨ret_int (ror_code x 7 _ _ (by decide) (by decide)), rfl⟩
set_option maxRecDepth 100000 in
set_option maxHeartbeats 4000000 in
theorem mix_any (b : Nat) (v : Nat → BitVec 32) (i : Nat) (hi : i < 8) (x y : BitVec 32) (w : World) (hv : Blk w b 16 (cw .u32 v))
   (pa pb pc pd : Nat) (ha : pa < 16) (hb : pb < 16) (hc : pc < 16) (hd : pd < 16)
   (h0 : w.cell? ⟨2, i * 4, none⟩ = some (.int .u8 pa)) (h1 : w.cell? ⟨2, i * 4 + 1, none⟩ = some (.int .u8 pb))
   (h2 : w.cell? ⟨2, i * 4 + 2, none⟩ = some (.int .u8 pc)) (h3 : w.cell? ⟨2, i * 4 + 3, none⟩ = some (.int .u8 pd)) :
    Calls Tryz.prog 102 #[.pointer (some ⟨b, 0, none⟩), .int .i64 i, .int .u32 (x.toNat : Int), .int .u32 (y.toNat : Int)] w fun e w' => e = .returned (.tuple #[]) ∧ MS w b 16 (cw .u32 (gmix v pa pb pc pd x y)) w' := by
  have hi' : (i : Int) < 8 := by omega
  have ha' : (pa : Int) < 16 := by omega
  have hb' : (pb : Int) < 16 := by omega
  have hc' : (pc : Int) < 16 := by omega
  have hd' : (pd : Int) < 16 := by omega
  go_enter Tryz.func102, Tryz.ntmps102
  go_wp2_with fail
  refine quiet_abs (by kernel_rfl) (by kernel_rfl) fun w1 hs1 => ?_
  have g0 := (hs1.cell _).trans h0
  have g1 := (hs1.cell _).trans h1
  have g2 := (hs1.cell _).trans h2
  have g3 := (hs1.cell _).trans h3
  repeat still_step
  refine wpStill_nil ?_
  have S1 : MS w b 16 (cw .u32 v) w1 := (MS.mk hv).same hs1
  clear g0 g1 g2 g3 h0 h1 h2 h3 hv hs1
  go_wp2_with fail
  refine tail_abs 15 (by kernel_rfl) (by kernel_rfl) fun w2 hs => ?_
  have S2 := S1.same hs
  have va : w2.cell? ⟨b, pa, none⟩ = some (.int .u32 ((v pa).toNat : Int)) := S2.get pa ha
  have vb : w2.cell? ⟨b, pb, none⟩ = some (.int .u32 ((v pb).toNat : Int)) := S2.get pb hb
  have fa := S2.frz pa
  simp only [List.take_succ_cons, List.take_zero, List.drop_succ_cons, List.drop_zero]
  clear hs S1
  clear w1
  repeat still_step
  refine wpStill_nil ?_
  go_wp2_with fail
  refine abs_wp (MS w b 16 (cw .u32 (add3 v pa pb x))) (S2.set' pa _ _ (cw_put .u32 v pa _ _ (add3_code _ _ _))) ?_
  clear va vb fa S2
  clear w2
  generalize E0 : add3 v pa pb x = v1
  have H0 := Lib.hid E0
  clear E0
  intro w1 S1
  refine tail_abs 16 (by kernel_rfl) (by kernel_rfl) fun w2 hs => ?_
  have S2 := S1.same hs
  have va : w2.cell? ⟨b, pd, none⟩ = some (.int .u32 ((v1 pd).toNat : Int)) := S2.get pd hd
  have vb : w2.cell? ⟨b, pa, none⟩ = some (.int .u32 ((v1 pa).toNat : Int)) := S2.get pa ha
  have fa := S2.frz pd
  simp only [List.take_succ_cons, List.take_zero, List.drop_succ_cons, List.drop_zero]
  clear hs S1
  clear w1
  repeat still_step
  refine wpStill_step (fun K hK => ?_)
  go_simp
  rw [bvxor]
  refine ⟨.int .u32 ((ror 16 (v1 pd ^^^ v1 pa)).toNat : Int), rot_any (v1 pd ^^^ v1 pa) (-16) 16 (by simp) w2, ?_⟩
  refine hK _ ?_
  clear hK K
  repeat still_step
  refine wpStill_nil ?_
  go_wp2_with fail
  refine abs_wp (MS w b 16 (cw .u32 (turn 16 v1 pd pa))) (S2.set' pd _ _ (cw_put .u32 v1 pd _ _ rfl)) ?_
  clear va vb fa S2
  clear w2
  generalize E1 : turn 16 v1 pd pa = v2
  have H1 := Lib.hid E1
  clear E1
  intro w1 S1
  refine tail_abs 13 (by kernel_rfl) (by kernel_rfl) fun w2 hs => ?_
  have S2 := S1.same hs
  have va : w2.cell? ⟨b, pc, none⟩ = some (.int .u32 ((v2 pc).toNat : Int)) := S2.get pc hc
  have vb : w2.cell? ⟨b, pd, none⟩ = some (.int .u32 ((v2 pd).toNat : Int)) := S2.get pd hd
  have fa := S2.frz pc
  simp only [List.take_succ_cons, List.take_zero, List.drop_succ_cons, List.drop_zero]
  clear hs S1
  clear w1
  repeat still_step
  refine wpStill_nil ?_
  go_wp2_with fail
  refine abs_wp (MS w b 16 (cw .u32 (add2 v2 pc pd))) (S2.set' pc _ _ (cw_put .u32 v2 pc _ _ (add2_code _ _))) ?_
  clear va vb fa S2
  clear w2
  generalize E2 : add2 v2 pc pd = v3
  have H2 := Lib.hid E2
  clear E2
  intro w1 S1
  refine tail_abs 16 (by kernel_rfl) (by kernel_rfl) fun w2 hs => ?_
  have S2 := S1.same hs
  have va : w2.cell? ⟨b, pb, none⟩ = some (.int .u32 ((v3 pb).toNat : Int)) := S2.get pb hb
  have vb : w2.cell? ⟨b, pc, none⟩ = some (.int .u32 ((v3 pc).toNat : Int)) := S2.get pc hc
  have fa := S2.frz pb
  simp only [List.take_succ_cons, List.take_zero, List.drop_succ_cons, List.drop_zero]
  clear hs S1
  clear w1
  repeat still_step
  refine wpStill_step (fun K hK => ?_)
  go_simp
  rw [bvxor]
  refine ⟨.int .u32 ((ror 12 (v3 pb ^^^ v3 pc)).toNat : Int), rot_any (v3 pb ^^^ v3 pc) (-12) 12 (by simp) w2, ?_⟩
  refine hK _ ?_
  clear hK K
  repeat still_step
  refine wpStill_nil ?_
  go_wp2_with fail
  refine abs_wp (MS w b 16 (cw .u32 (turn 12 v3 pb pc))) (S2.set' pb _ _ (cw_put .u32 v3 pb _ _ rfl)) ?_
  clear va vb fa S2
  clear w2
  generalize E3 : turn 12 v3 pb pc = v4
  have H3 := Lib.hid E3
  clear E3
  intro w1 S1
  refine tail_abs 15 (by kernel_rfl) (by kernel_rfl) fun w2 hs => ?_
  have S2 := S1.same hs
  have va : w2.cell? ⟨b, pa, none⟩ = some (.int .u32 ((v4 pa).toNat : Int)) := S2.get pa ha
  have vb : w2.cell? ⟨b, pb, none⟩ = some (.int .u32 ((v4 pb).toNat : Int)) := S2.get pb hb
  have fa := S2.frz pa
  simp only [List.take_succ_cons, List.take_zero, List.drop_succ_cons, List.drop_zero]
  clear hs S1
  clear w1
  repeat still_step
  refine wpStill_nil ?_
  go_wp2_with fail
  refine abs_wp (MS w b 16 (cw .u32 (add3 v4 pa pb y))) (S2.set' pa _ _ (cw_put .u32 v4 pa _ _ (add3_code _ _ _))) ?_
  clear va vb fa S2
  clear w2
  generalize E4 : add3 v4 pa pb y = v5
  have H4 := Lib.hid E4
  clear E4
  intro w1 S1
  refine tail_abs 16 (by kernel_rfl) (by kernel_rfl) fun w2 hs => ?_
  have S2 := S1.same hs
  have va : w2.cell? ⟨b, pd, none⟩ = some (.int .u32 ((v5 pd).toNat : Int)) := S2.get pd hd
  have vb : w2.cell? ⟨b, pa, none⟩ = some (.int .u32 ((v5 pa).toNat : Int)) := S2.get pa ha
  have fa := S2.frz pd
  simp only [List.take_succ_cons, List.take_zero, List.drop_succ_cons, List.drop_zero]
  clear hs S1
  clear w1
  repeat still_step
  refine wpStill_step (fun K hK => ?_)
  go_simp
  rw [bvxor]
  refine ⟨.int .u32 ((ror 8 (v5 pd ^^^ v5 pa)).toNat : Int), rot_any (v5 pd ^^^ v5 pa) (-8) 8 (by simp) w2, ?_⟩
  refine hK _ ?_
  clear hK K
  repeat still_step
  refine wpStill_nil ?_
  go_wp2_with fail
  refine abs_wp (MS w b 16 (cw .u32 (turn 8 v5 pd pa))) (S2.set' pd _ _ (cw_put .u32 v5 pd _ _ rfl)) ?_
  clear va vb fa S2
  clear w2
  generalize E5 : turn 8 v5 pd pa = v6
  have H5 := Lib.hid E5
  clear E5
  intro w1 S1
  refine tail_abs 13 (by kernel_rfl) (by kernel_rfl) fun w2 hs => ?_
  have S2 := S1.same hs
  have va : w2.cell? ⟨b, pc, none⟩ = some (.int .u32 ((v6 pc).toNat : Int)) := S2.get pc hc
  have vb : w2.cell? ⟨b, pd, none⟩ = some (.int .u32 ((v6 pd).toNat : Int)) := S2.get pd hd
  have fa := S2.frz pc
  simp only [List.take_succ_cons, List.take_zero, List.drop_succ_cons, List.drop_zero]
  clear hs S1
  clear w1
  repeat still_step
  refine wpStill_nil ?_
  go_wp2_with fail
  refine abs_wp (MS w b 16 (cw .u32 (add2 v6 pc pd))) (S2.set' pc _ _ (cw_put .u32 v6 pc _ _ (add2_code _ _))) ?_
  clear va vb fa S2
  clear w2
  generalize E6 : add2 v6 pc pd = v7
  have H6 := Lib.hid E6
  clear E6
  intro w1 S1
  refine tail_abs 16 (by kernel_rfl) (by kernel_rfl) fun w2 hs => ?_
  have S2 := S1.same hs
  have va : w2.cell? ⟨b, pb, none⟩ = some (.int .u32 ((v7 pb).toNat : Int)) := S2.get pb hb
  have vb : w2.cell? ⟨b, pc, none⟩ = some (.int .u32 ((v7 pc).toNat : Int)) := S2.get pc hc
  have fa := S2.frz pb
  simp only [List.take_succ_cons, List.take_zero, List.drop_succ_cons, List.drop_zero]
  clear hs S1
  clear w1
  repeat still_step
  refine wpStill_step (fun K hK => ?_)
  go_simp
  rw [bvxor]
  refine ⟨.int .u32 ((ror 7 (v7 pb ^^^ v7 pc)).toNat : Int), rot_any (v7 pb ^^^ v7 pc) (-7) 7 (by simp) w2, ?_⟩
  refine hK _ ?_
  clear hK K
  repeat still_step
  refine wpStill_nil ?_
  go_wp2_with fail
  refine abs_body (MS w b 16 (cw .u32 (turn 7 v7 pb pc))) (S2.set' pb _ _ (cw_put .u32 v7 pb _ _ rfl)) ?_
  clear va vb fa S2
  clear w2
  generalize E7 : turn 7 v7 pb pc = v8
  have H7 := Lib.hid E7
  clear E7
  intro w1 S1
  go_end0
  refine ⟨rfl, ?_⟩
  unfold gmix
  rw [H0.out, H1.out, H2.out, H3.out, H4.out, H5.out, H6.out, H7.out]
  exact S1
end Go.Proofs.YtegkhhegapnkpaaGreatDoor
end
section
open Go Go.RowKit
namespace Go.Proofs.YtegkhhegapnkpaaGreatDoor
open BB
structure WordsAt (B : Nat → Nat) (w : World) (k : Nat) (w' : World) : Prop where
  below : Below w.heap.size w w'
  src : Blk w' w.heap.size 64 (cb B)
  res : Blk w' (w.heap.size + 1) 16 (cw .u32 fun _ => 0)
  m : Blk w' (w.heap.size + 1 + 1) 16 (cw .u32 (wstep B k))
theorem WordsAt.same {B : Nat → Nat} {w w1 w2 : World} {k : Nat} (h : WordsAt B w k w1) (hs : Same w1 w2) : WordsAt B w k w2 :=
  ⟨h.below.trans (hs.below _), h.src.same hs, h.res.same hs, h.m.same hs⟩
theorem or_shl (m : BitVec 32) (x r : Nat) : bits .or .u32 (m.toNat : Int) ((x : Int) * 2 ^ (8 * r) % 4294967296) = ((m ||| BitVec.ofNat 32 x <<< (8 * r)).toNat : Int) := by
  have : ((x : Int) * 2 ^ (8 * r) % 4294967296) = ((BitVec.ofNat 32 x <<< (8 * r)).toNat : Int) := by
    rw [BitVec.toNat_shiftLeft, BitVec.toNat_ofNat, Nat.shiftLeft_eq]
    simp [Nat.mod_mul_mod]
  rw [this, bvor]
theorem agg_w16 (w : World) : (isAgg 142).run Tryz.prog w = .ok true w := by kernel_rfl
theorem size_w16 (w : World) : (Go.sizeOf 142).run Tryz.prog w = .ok 16 w := by kernel_rfl
theorem WordsAt.next {B : Nat → Nat} {w w2 : World} {k : Nat} (h : WordsAt B w k w2) (q r : Nat) (u : Value) (hq : q = k / 4) (hr : r = k % 4)
    (hu : u = .int .u32 ((wstep B k q ||| BitVec.ofNat 32 (B k) <<< (8 * r)).toNat : Int)) : WordsAt B w (k + 1) (w2.setCell ⟨w.heap.size + 1 + 1, q, none⟩ u) := by
  refine ⟨h.below.setCell (by show _ ≤ w.heap.size + 1 + 1; omega) _, h.src.set_other _ _ (by show w.heap.size ≠ w.heap.size + 1 + 1; omega), h.res.set_other _ _ (by show w.heap.size + 1 ≠ w.heap.size + 1 + 1; omega), ?_⟩
  have := h.m.set q u
  rw [cw_put .u32 _ _ _ _ hu, hq, hr] at this
  rw [hq]
  exact this
set_option maxRecDepth 100000 in
set_option maxHeartbeats 1000000 in
theorem words_any (B : Nat → Nat) (hB : ∀ i, B i < 256) (w : World) :
    Calls Tryz.prog 101 #[.agg (row 64 (cb B))] w fun e w' => e = .returned (.agg (row 16 (cw .u32 (wstep B 64)))) ∧ Below w.heap.size w w' := by
  have HB := Lib.hid hB
  clear hB
  go_enter Tryz.func101, Tryz.ntmps101
  go_wp2_with fail
  refine abs_wp (fun w' => WordsAt B w 0 w') ?_ ?_
  · refine ⟨(((Below.refl _ _).alloc (Nat.le_refl _) _).alloc (by simp) _).alloc (by simp; omega) _, ?_, ?_, ?_⟩
    · exact ((Blk.new' rfl rfl).alloc _).alloc _
    · refine Blk.alloc ?_ _
      exact Blk.new' (by simp) rfl
    · exact Blk.new' (by simp) rfl
  intro w1 h1
  go_loopw [5] (fun i wr => ∃ k : Nat, k ≤ 64 ∧ i = .int .i64 k ∧ WordsAt B w k wr) (fun i _ => 64 - (intOf i).toNat)
  case atStart => exact ⟨0, by omega, rfl, h1⟩
  case round =>
    obtain ⟨k, hk, rfl, hr⟩ := hrel
    by_cases hlt : k < 64
    · have hlt' : (k : Int) < 64 := by omega
      go_wp2_with fail
      refine tail_abs 14 (by kernel_rfl) (by kernel_rfl) fun w2 hs => ?_
      have S2 := hr.same hs
      obtain ⟨q, hq⟩ : ∃ q, q = k / 4 := ⟨_, rfl⟩
      obtain ⟨r, hr4⟩ : ∃ r, r = k % 4 := ⟨_, rfl⟩
      have ca : w2.cell? ⟨w.heap.size, k, none⟩ = some (.int .u8 (B k : Int)) := S2.src.get k hlt
      have cm : w2.cell? ⟨w.heap.size + 1 + 1, q, none⟩ = some (.int .u32 ((wstep B k q).toNat : Int)) := S2.m.get q (by omega)
      have fm := S2.m.frz q
      have hB := HB.out k
      have q1 : IntKind.i64.wrap ((k : Int) / 4) = (q : Int) := by rw [IntWalk.i64_in _ (by omega)]; omega
      have q2 : (q : Int) < 16 := by omega
      have r1 : (k : Int).tmod 4 = (r : Int) := by rw [Int.tmod_eq_emod_of_nonneg (by omega)]; omega
      have r3 : IntKind.i64.wrap (8 * (r : Int)) = 8 * (r : Int) := IntWalk.i64_in _ (by omega)
      have b1 : IntKind.u32.wrap (B k : Int) = (B k : Int) := by rw [IntKind.wrap_u32']; omega
      have r2 : (r : Int) < 4 := by omega
      have HQ := Lib.hid hq
      have HR := Lib.hid hr4
      clear hs hr hq hr4
      simp only [List.take_succ_cons, List.take_zero, List.drop_succ_cons, List.drop_zero]
      repeat still_step
      refine wpStill_nil ?_
      go_wp2_with fail
      go_roundw
      case rel => exact ⟨k + 1, by omega, by go_num, S2.next q r _ HQ.out HR.out (by rw [or_shl])⟩
      case measure => simp [intOf]; omega
    · obtain rfl : k = 64 := by omega
      go_wp2_with (first
        | with_reducible refine wpl_load (.tmp 3) (w.heap.size + 1 + 1) 0 16 16 (cw .u32 (wstep B 64)) rfl rfl rfl (agg_w16 _) (size_w16 _) hr.m.cells (by omega) ?_
        | ((with_reducible refine wpl_store (.tmp 2) (.tmp 23) (w.heap.size + 1) 0 16 16 (cw .u32 fun _ => 0) (cw .u32 (wstep B 64)) rfl rfl rfl rfl (size_w16 _) hr.res (by omega) (fun _ _ => rfl) ?_); intro w3 h3))
      have h4 : Blk w3 (w.heap.size + 1) 16 (cw .u32 (wstep B 64)) := h3.1.congr _ fun i hi => by simp [hi]
      exact body_row (p := 2) (by kernel_rfl) rfl (agg_w16 _) (size_w16 _) h4.cells (by omega) rfl ⟨rfl, hr.below.trans (h3.2.below (by omega))⟩
end Go.Proofs.YtegkhhegapnkpaaGreatDoor
end
