/-
  The walk of the code's mixed: what a block makes of the eight words.
-/
import Derived.Test.YtacbamfhlgchgaaDoorKWords
open Go Go.RowKit
namespace Go.Proofs.YtacbamfhlgchgaaDoor
open BB
/-- the three tables, as the program's text lays them -/
structure Tabs (w : World) : Prop where
  iv : Cells w 0 8 (cw .u32 iv)
  sg : Cells w 1 160 (cb sg)
  pl : Cells w 2 32 (cb pl)
  l1 : 0 < w.heap.size
  l2 : 1 < w.heap.size
  l3 : 2 < w.heap.size
theorem Tabs.below {w w' : World} {B : Nat} (h : Tabs w) (hb : Below B w w') (hB : w.heap.size ≤ B) : Tabs w' :=
  ⟨h.iv.below hb (Nat.lt_of_lt_of_le h.l1 hB), h.sg.below hb (Nat.lt_of_lt_of_le h.l2 hB), h.pl.below hb (Nat.lt_of_lt_of_le h.l3 hB),
   Nat.lt_of_lt_of_le h.l1 hb.size, Nat.lt_of_lt_of_le h.l2 hb.size, Nat.lt_of_lt_of_le h.l3 hb.size⟩
structure MixedAt (h : Nat → BitVec 32) (B : Nat → Nat) (w : World) (v : Nat → BitVec 32) (w' : World) : Prop where
  below : Below w.heap.size w w'
  tabs : Tabs w
  hw : Blk w' w.heap.size 8 (cw .u32 h)
  hb : Blk w' (w.heap.size + 1) 64 (cb B)
  hr : Blk w' (w.heap.size + 1 + 1) 8 (cw .u32 fun _ => 0)
  hv : Blk w' (w.heap.size + 1 + 1 + 1) 16 (cw .u32 v)
section
variable {h : Nat → BitVec 32} {B : Nat → Nat} {w w1 w2 : World} {v : Nat → BitVec 32}
theorem MixedAt.same (H : MixedAt h B w v w1) (hs : Same w1 w2) : MixedAt h B w v w2 := ⟨H.below.trans (hs.below _), H.tabs, H.hw.same hs, H.hb.same hs, H.hr.same hs, H.hv.same hs⟩
theorem MixedAt.set (H : MixedAt h B w v w1) (i : Nat) (x : BitVec 32) (u : Value) (hu : u = .int .u32 (x.toNat : Int)) :
    MixedAt h B w (put v i x) (w1.setCell ⟨w.heap.size + 1 + 1 + 1, i, none⟩ u) :=
  ⟨H.below.setCell (by show _ ≤ w.heap.size + 1 + 1 + 1; omega) _, H.tabs, H.hw.set_other _ _ (by show _ ≠ w.heap.size + 1 + 1 + 1; omega), H.hb.set_other _ _ (by show _ ≠ w.heap.size + 1 + 1 + 1; omega),
   H.hr.set_other _ _ (by show _ ≠ w.heap.size + 1 + 1 + 1; omega), by have := H.hv.set i u; rwa [cw_put .u32 _ _ _ _ hu] at this⟩
theorem MixedAt.upd {f : Nat → BitVec 32} (H : MixedAt h B w v w1) (hm : MS w1 (w.heap.size + 1 + 1 + 1) 16 (cw .u32 f) w2) : MixedAt h B w f w2 :=
  ⟨H.below.trans (hm.2.below (by omega)), H.tabs, H.hw.upd hm.2 (by omega), H.hb.upd hm.2 (by omega), H.hr.upd hm.2 (by omega), hm.1⟩
theorem MixedAt.tab (H : MixedAt h B w v w1) : Tabs w1 := H.tabs.below H.below (Nat.le_refl _)
end
theorem MixedAt.setw {h : Nat → BitVec 32} {B : Nat → Nat} {w w1 : World} {v : Nat → BitVec 32} (H : MixedAt h B w v w1) (i : Nat) (x : BitVec 32) (u : Value) (hu : u = .int .u32 (x.toNat : Int)) :
    MixedAt (put h i x) B w v (w1.setCell ⟨w.heap.size, i, none⟩ u) :=
  ⟨H.below.setCell (Nat.le_refl _) _, H.tabs, by have := H.hw.set i u; rwa [cw_put .u32 _ _ _ _ hu] at this, H.hb.set_other _ _ (by show _ ≠ w.heap.size; omega),
   H.hr.set_other _ _ (by show _ ≠ w.heap.size; omega), H.hv.set_other _ _ (by show _ ≠ w.heap.size; omega)⟩
theorem xor3 (a b c : BitVec 32) : Value.int .u32 (bits .xor .u32 (a.toNat : Int) (bits .xor .u32 (b.toNat : Int) (c.toNat : Int))) = .int .u32 ((a ^^^ (b ^^^ c)).toNat : Int) := by rw [bvxor, bvxor]
/-- in a round: the block's words lie in block mb, too -/
structure RndAt (h : Nat → BitVec 32) (B : Nat → Nat) (w : World) (v : Nat → BitVec 32) (mb : Nat) (w' : World) : Prop where
  at_ : MixedAt h B w v w'
  m : Blk w' mb 16 (cw .u32 (wstep B 64))
  lt : w.heap.size + 1 + 1 + 1 < mb
theorem RndAt.mk' {h : Nat → BitVec 32} {B : Nat → Nat} {w w3 w4 w5 : World} {v : Nat → BitVec 32} {cs : Array Value} {t : TypeId} {g : Nat → BitVec 32} (H : MixedAt h B w v w3) (hb : Below w3.heap.size w3 w4)
    (h5 : MS (w4.alloc (.cells cs t)) w4.heap.size 16 (fun j => if 0 ≤ j ∧ j < 0 + 16 then cw .u32 (wstep B 64) (j - 0) else cw .u32 g j) w5) : RndAt h B w v w4.heap.size w5 := by
  have hl := H.hv.lt
  have hz := hb.size
  have hB : Below w3.heap.size w3 w5 := (hb.alloc hz _).trans (h5.2.below (by omega))
  refine ⟨⟨H.below.trans (hB.mono H.below.size), H.tabs, H.hw.below hB H.hw.lt, H.hb.below hB H.hb.lt, H.hr.below hB H.hr.lt, H.hv.below hB H.hv.lt⟩, ?_, by omega⟩
  exact h5.1.congr _ fun i hi => by simp [hi]
theorem RndAt.same {h : Nat → BitVec 32} {B : Nat → Nat} {w w1 w2 : World} {v : Nat → BitVec 32} {mb : Nat} (H : RndAt h B w v mb w1) (hs : Same w1 w2) : RndAt h B w v mb w2 := ⟨H.at_.same hs, H.m.same hs, H.lt⟩
theorem RndAt.upd {h : Nat → BitVec 32} {B : Nat → Nat} {w w1 w2 : World} {v f : Nat → BitVec 32} {mb : Nat} (H : RndAt h B w v mb w1) (hm : MS w1 (w.heap.size + 1 + 1 + 1) 16 (cw .u32 f) w2) : RndAt h B w f mb w2 :=
  ⟨H.at_.upd hm, H.m.upd hm.2 (by have := H.lt; omega), H.lt⟩
theorem agg_b64 (w : World) : (isAgg 113).run Tryd.prog w = .ok true w := by kernel_rfl
theorem size_b64 (w : World) : (Go.sizeOf 113).run Tryd.prog w = .ok 64 w := by kernel_rfl
theorem agg_w8 (w : World) : (isAgg 112).run Tryd.prog w = .ok true w := by kernel_rfl
theorem size_w8 (w : World) : (Go.sizeOf 112).run Tryd.prog w = .ok 8 w := by kernel_rfl
set_option maxRecDepth 100000 in
set_option maxHeartbeats 1000000 in
theorem mixed_any (h : Nat → BitVec 32) (B : Nat → Nat) (hB : ∀ i, B i < 256) (n : Nat) (hn : n < 18446744073709551616) (last : Bool) (w : World) (hT : Tabs w) :
    Calls Tryd.prog 68 #[.agg (row 8 (cw .u32 h)), .agg (row 64 (cb B)), .int .u64 n, .bool last] w fun e w' => e = .returned (.agg (row 8 (cw .u32 (comp h B n last)))) ∧ Below w.heap.size w w' := by
  have HB := Lib.hid hB
  have HN := Lib.hid hn
  have HT := Lib.hid hT
  clear hB hn hT
  go_enter Tryd.func68, Tryd.ntmps68
  go_wp2_with fail
  refine abs_wp (fun w' => MixedAt h B w (vinit h 0) w') ?_ ?_
  · refine ⟨((((Below.refl _ _).alloc (Nat.le_refl _) _).alloc (by simp) _).alloc (by simp; omega) _).alloc (by simp; omega) _, HT.out, ?_, ?_, ?_, ?_⟩
    · exact (((Blk.new' rfl rfl).alloc _).alloc _).alloc _
    · refine Blk.alloc (Blk.alloc ?_ _) _
      exact Blk.new' (by simp) rfl
    · refine Blk.alloc ?_ _
      exact Blk.new' (by simp) rfl
    · exact Blk.new' (by simp) rfl
  intro w1 h1
  go_loopw [15] (fun i wr => ∃ k : Nat, k ≤ 8 ∧ i = .int .i64 k ∧ MixedAt h B w (vinit h k) wr) (fun i _ => 8 - (intOf i).toNat)
  case atStart => exact ⟨0, by omega, rfl, h1⟩
  case round =>
    obtain ⟨k, hk, rfl, hr⟩ := hrel
    by_cases hlt : k < 8
    · have hlt' : (k : Int) < 8 := by omega
      have c1 : wr.cell? ⟨w.heap.size, k, none⟩ = some (.int .u32 ((h k).toNat : Int)) := hr.hw.get k hlt
      have f1 := hr.hv.frz k
      have c2 : wr.cell? ⟨0, k, none⟩ = some (.int .u32 ((iv k).toNat : Int)) := hr.tab.iv k hlt
      have f2 := hr.hv.frz (8 + k)
      have e1 : (⟨0, k, none⟩ : Addr) ≠ ⟨w.heap.size + 1 + 1 + 1, k, none⟩ := by
        have := HT.out.l1; intro e; injection e with e _ _; omega
      have c3 : (wr.setCell ⟨w.heap.size + 1 + 1 + 1, k, none⟩ (.int .u32 ((h k).toNat : Int))).cell? ⟨0, k, none⟩ = some (.int .u32 ((iv k).toNat : Int)) := by
        rw [World.cell?_setCell_other _ _ _ _ (fun e => e1 e.symm)]; exact c2
      have e8 : (8 + (k : Int)).toNat = 8 + k := by omega
      have o1 := hr.hv.get k (by omega)
      have H2 := hr.set k (h k) _ rfl
      have o2 := H2.hv.get (8 + k) (by omega)
      have H3 := H2.set (8 + k) (iv k) _ rfl
      unfold cw at o1 o2
      clear e1
      go_wp2_with fail
      go_roundw
      case rel => exact ⟨k + 1, by omega, by go_num, H3⟩
      case measure => simp [intOf]; omega
    · obtain rfl : k = 8 := by omega
      clear h1
      have o12 := hr.hv.get 12 (by omega)
      have o13 := hr.hv.get 13 (by omega)
      have o14 := hr.hv.get 14 (by omega)
      have f12 := hr.hv.frz 12
      have f13 := hr.hv.frz 13
      have f14 := hr.hv.frz 14
      unfold cw at o12 o13 o14
      obtain ⟨V, hV⟩ : ∃ V, V = vstart h n last := ⟨_, rfl⟩
      have HV := Lib.hid hV
      clear hV
      cases last
      · go_wp2_with (first
          | ((with_reducible refine wpl_load_abs (MixedAt h B w V) (.tmp 5) (w.heap.size + 1) 0 64 64 (cb B) rfl rfl rfl agg_b64 size_b64 (by omega) (fun _ hh => hh.hb.cells) ?_ ?_)
             · rw [HV.out]; exact ((hr.set 12 _ _ (xor_lo _ _)).set 13 _ _ (xor_hi _ _))
             clear o12 o13 o14 f12 f13 f14 hr
             intro w3 h3)
          | (go_at_call 86; refine (words_any B HB.out _).mono ?_; rintro e w4 ⟨rfl, hb4⟩)
          | ((with_reducible refine wpl_store (.tmp 11) (.tmp 49) w4.heap.size 0 16 16 (cw .u32 fun _ => 0) (cw .u32 (wstep B 64)) rfl rfl rfl rfl (size_w16 _) (Blk.new' rfl rfl) (by omega) (fun _ _ => rfl) ?_)
             intro w5 h5))
        have R5 := RndAt.mk' h3 hb4 h5
        have HM := Lib.hid (Nat.lt_of_lt_of_le h3.hv.lt hb4.size)
        clear h5 hb4 h3
        generalize w4.heap.size = mb at *
        go_loopw [50] (fun i wr => ∃ r : Nat, r ≤ 10 ∧ i = .int .i64 r ∧ RndAt h B w (outer (wstep B 64) V r) mb wr) (fun i _ => 10 - (intOf i).toNat)
        case atStart => exact ⟨0, by omega, rfl, R5⟩
        case round =>
          clear R5 w4 w5
          obtain ⟨r, hr10, rfl, hr⟩ := hrel
          by_cases hlr : r < 10
          · have hlr' : (r : Int) < 10 := by omega
            go_wp2_with fail
            go_loopw [53] (fun i wr => ∃ k : Nat, k ≤ 8 ∧ i = .int .i64 k ∧ RndAt h B w (inner (wstep B 64) r (outer (wstep B 64) V r) k) mb wr) (fun i _ => 8 - (intOf i).toNat)
            case atStart => exact ⟨0, by omega, rfl, hr⟩
            case round =>
              clear hr
              obtain ⟨k, hk8, rfl, hr⟩ := hrel
              by_cases hlk : k < 8
              · have hlk' : (k : Int) < 8 := by omega
                obtain ⟨c, hc⟩ : ∃ c, c = 2 * k := ⟨_, rfl⟩
                obtain ⟨d, hd⟩ : ∃ d, d = 2 * k + 1 := ⟨_, rfl⟩
                obtain ⟨p, hp⟩ : ∃ p, p = sg (r * 16 + c) := ⟨_, rfl⟩
                obtain ⟨q, hq⟩ : ∃ q, q = sg (r * 16 + d) := ⟨_, rfl⟩
                have hp16 : (p : Int) < 16 := by have := sg_lt (r * 16 + c); omega
                have hq16 : (q : Int) < 16 := by have := sg_lt (r * 16 + d); omega
                go_wp2_with fail
                refine tail_abs 18 (by kernel_rfl) (by kernel_rfl) fun w6 hs => ?_
                have S := hr.same hs
                have a1 : w6.cell? ⟨1, r * 16 + c, none⟩ = some (.int .u8 (p : Int)) := by rw [hp]; exact S.at_.tab.sg (r * 16 + c) (by omega)
                have a2 : w6.cell? ⟨1, r * 16 + d, none⟩ = some (.int .u8 (q : Int)) := by rw [hq]; exact S.at_.tab.sg (r * 16 + d) (by omega)
                have c1 : IntKind.i64.wrap (2 * (k : Int)) = (c : Int) := by rw [IntWalk.i64_in _ (by omega)]; omega
                have d1 : IntKind.i64.wrap ((c : Int) + 1) = (d : Int) := by rw [IntWalk.i64_in _ (by omega)]; omega
                have c2 : (c : Int) < 16 := by omega
                have d2 : (d : Int) < 16 := by omega
                have HC := Lib.hid hc
                have HD := Lib.hid hd
                clear hc hd
                have m1 : w6.cell? ⟨mb, p, none⟩ = some (.int .u32 ((wstep B 64 p).toNat : Int)) := S.m.get p (by omega)
                have m2 : w6.cell? ⟨mb, q, none⟩ = some (.int .u32 ((wstep B 64 q).toNat : Int)) := S.m.get q (by omega)
                have HP := Lib.hid hp
                have HQ := Lib.hid hq
                clear hr hs hp hq wr
                simp only [List.take_succ_cons, List.take_zero, List.drop_succ_cons, List.drop_zero]
                repeat still_step
                refine wpStill_nil ?_
                clear a1 a2 c1 d1 m1 m2
                have p0 : w6.cell? ⟨2, k * 4, none⟩ = some (.int .u8 (pl (k * 4) : Int)) := S.at_.tab.pl (k * 4) (by omega)
                have p1 : w6.cell? ⟨2, k * 4 + 1, none⟩ = some (.int .u8 (pl (k * 4 + 1) : Int)) := S.at_.tab.pl (k * 4 + 1) (by omega)
                have p2 : w6.cell? ⟨2, k * 4 + 2, none⟩ = some (.int .u8 (pl (k * 4 + 2) : Int)) := S.at_.tab.pl (k * 4 + 2) (by omega)
                have p3 : w6.cell? ⟨2, k * 4 + 3, none⟩ = some (.int .u8 (pl (k * 4 + 3) : Int)) := S.at_.tab.pl (k * 4 + 3) (by omega)
                have CALL := Lib.hid (mix_any (w.heap.size + 1 + 1 + 1) (inner (wstep B 64) r (outer (wstep B 64) V r) k) k hlk (wstep B 64 p) (wstep B 64 q) w6 S.at_.hv (pl (k * 4)) (pl (k * 4 + 1)) (pl (k * 4 + 2)) (pl (k * 4 + 3)) (pl_lt _) (pl_lt _) (pl_lt _) (pl_lt _) p0 p1 p2 p3)
                clear p0 p1 p2 p3
                go_wp2_with (go_at_call 87; refine CALL.out.mono ?_; rintro e w7 ⟨rfl, h7⟩)
                go_roundw
                case rel => exact ⟨k + 1, by omega, by go_num, by have := S.upd h7; rw [HP.out, HQ.out, HC.out, HD.out] at this; exact this⟩
                case measure => simp [intOf]; omega
              · obtain rfl : k = 8 := by omega
                go_wp2_with fail
                go_roundw
                case rel => exact ⟨r + 1, by omega, by go_num, hr⟩
                case measure => simp [intOf]; omega
          · have hge : ¬ (r : Int) < 10 := by omega
            have hm0 : MixedAt (fin h (outer (wstep B 64) V 10) 0) B w (outer (wstep B 64) V 10) wr := by
              obtain rfl : r = 10 := by omega
              exact hr.at_
            clear hr
            obtain ⟨G, hG⟩ : ∃ G, G = outer (wstep B 64) V 10 := ⟨_, rfl⟩
            rw [← hG] at hm0
            have HG := Lib.hid hG
            clear hG
            go_wp2_with fail
            go_loopw [77] (fun i wr => ∃ k : Nat, k ≤ 8 ∧ i = .int .i64 k ∧ MixedAt (fin h G k) B w G wr) (fun i _ => 8 - (intOf i).toNat)
            case atStart => exact ⟨0, by omega, rfl, hm0⟩
            case round =>
              clear hm0
              obtain ⟨k, hk8, rfl, hr⟩ := hrel
              by_cases hlk : k < 8
              · have hlk' : (k : Int) < 8 := by omega
                obtain ⟨c, hc⟩ : ∃ c, c = 8 + k := ⟨_, rfl⟩
                go_wp2_with fail
                refine tail_abs 13 (by kernel_rfl) (by kernel_rfl) fun w6 hs => ?_
                have S := hr.same hs
                have a1 : w6.cell? ⟨w.heap.size, k, none⟩ = some (.int .u32 ((fin h G k k).toNat : Int)) := S.hw.get k (by omega)
                have a2 : w6.cell? ⟨w.heap.size + 1 + 1 + 1, k, none⟩ = some (.int .u32 ((G k).toNat : Int)) := S.hv.get k (by omega)
                have a3 : w6.cell? ⟨w.heap.size + 1 + 1 + 1, c, none⟩ = some (.int .u32 ((G c).toNat : Int)) := S.hv.get c (by omega)
                have fr := S.hw.frz k
                have c1 : IntKind.i64.wrap (8 + (k : Int)) = (c : Int) := by rw [IntWalk.i64_in _ (by omega)]; omega
                have c2 : (c : Int) < 16 := by omega
                have HC := Lib.hid hc
                have k16 : (k : Int) < 16 := by omega
                clear hc hr hs
                simp only [List.take_succ_cons, List.take_zero, List.drop_succ_cons, List.drop_zero]
                repeat still_step
                refine wpStill_nil ?_
                clear a2 a3 c1 c2 k16
                go_wp2_with fail
                go_roundw
                case rel => exact ⟨k + 1, by omega, by go_num, by
                  have := S.setw k (fin h G k k ^^^ (G k ^^^ G c)) _ (xor3 _ _ _)
                  rw [HC.out] at this ⊢
                  exact this⟩
                case measure => simp [intOf]; omega
              · obtain rfl : k = 8 := by omega
                have hr0 := hr.hr
                go_wp2_with (first
                  | with_reducible refine wpl_load (.tmp 4) w.heap.size 0 8 8 (cw .u32 (fin h G 8)) rfl rfl rfl (agg_w8 _) (size_w8 _) hr.hw.cells (by omega) ?_
                  | ((with_reducible refine wpl_store (.tmp 8) (.tmp 94) (w.heap.size + 1 + 1) 0 8 8 (cw .u32 fun _ => 0) (cw .u32 (fin h G 8)) rfl rfl rfl rfl (size_w8 _) hr0 (by omega) (fun _ _ => rfl) ?_); intro w7 h7))
                have h8 : Blk w7 (w.heap.size + 1 + 1) 8 (cw .u32 (fin h G 8)) := h7.1.congr _ fun i hi => by simp [hi]
                refine body_row (p := 8) (by kernel_rfl) rfl (agg_w8 _) (size_w8 _) h8.cells (by omega) rfl ⟨?_, hr.below.trans (h7.2.below (by omega))⟩
                rw [HG.out, HV.out]; rfl
      · go_wp2_with (first
          | ((with_reducible refine wpl_load_abs (MixedAt h B w V) (.tmp 5) (w.heap.size + 1) 0 64 64 (cb B) rfl rfl rfl agg_b64 size_b64 (by omega) (fun _ hh => hh.hb.cells) ?_ ?_)
             · rw [HV.out]; exact ((hr.set 12 _ _ (xor_lo _ _)).set 13 _ _ (xor_hi _ _)).set 14 _ _ (xor_all _)
             clear o12 o13 o14 f12 f13 f14 hr
             intro w3 h3)
          | (go_at_call 86; refine (words_any B HB.out _).mono ?_; rintro e w4 ⟨rfl, hb4⟩)
          | ((with_reducible refine wpl_store (.tmp 11) (.tmp 49) w4.heap.size 0 16 16 (cw .u32 fun _ => 0) (cw .u32 (wstep B 64)) rfl rfl rfl rfl (size_w16 _) (Blk.new' rfl rfl) (by omega) (fun _ _ => rfl) ?_)
             intro w5 h5))
        have R5 := RndAt.mk' h3 hb4 h5
        have HM := Lib.hid (Nat.lt_of_lt_of_le h3.hv.lt hb4.size)
        clear h5 hb4 h3
        generalize w4.heap.size = mb at *
        go_loopw [50] (fun i wr => ∃ r : Nat, r ≤ 10 ∧ i = .int .i64 r ∧ RndAt h B w (outer (wstep B 64) V r) mb wr) (fun i _ => 10 - (intOf i).toNat)
        case atStart => exact ⟨0, by omega, rfl, R5⟩
        case round =>
          clear R5 w4 w5
          obtain ⟨r, hr10, rfl, hr⟩ := hrel
          by_cases hlr : r < 10
          · have hlr' : (r : Int) < 10 := by omega
            go_wp2_with fail
            go_loopw [53] (fun i wr => ∃ k : Nat, k ≤ 8 ∧ i = .int .i64 k ∧ RndAt h B w (inner (wstep B 64) r (outer (wstep B 64) V r) k) mb wr) (fun i _ => 8 - (intOf i).toNat)
            case atStart => exact ⟨0, by omega, rfl, hr⟩
            case round =>
              clear hr
              obtain ⟨k, hk8, rfl, hr⟩ := hrel
              by_cases hlk : k < 8
              · have hlk' : (k : Int) < 8 := by omega
                obtain ⟨c, hc⟩ : ∃ c, c = 2 * k := ⟨_, rfl⟩
                obtain ⟨d, hd⟩ : ∃ d, d = 2 * k + 1 := ⟨_, rfl⟩
                obtain ⟨p, hp⟩ : ∃ p, p = sg (r * 16 + c) := ⟨_, rfl⟩
                obtain ⟨q, hq⟩ : ∃ q, q = sg (r * 16 + d) := ⟨_, rfl⟩
                have hp16 : (p : Int) < 16 := by have := sg_lt (r * 16 + c); omega
                have hq16 : (q : Int) < 16 := by have := sg_lt (r * 16 + d); omega
                go_wp2_with fail
                refine tail_abs 18 (by kernel_rfl) (by kernel_rfl) fun w6 hs => ?_
                have S := hr.same hs
                have a1 : w6.cell? ⟨1, r * 16 + c, none⟩ = some (.int .u8 (p : Int)) := by rw [hp]; exact S.at_.tab.sg (r * 16 + c) (by omega)
                have a2 : w6.cell? ⟨1, r * 16 + d, none⟩ = some (.int .u8 (q : Int)) := by rw [hq]; exact S.at_.tab.sg (r * 16 + d) (by omega)
                have c1 : IntKind.i64.wrap (2 * (k : Int)) = (c : Int) := by rw [IntWalk.i64_in _ (by omega)]; omega
                have d1 : IntKind.i64.wrap ((c : Int) + 1) = (d : Int) := by rw [IntWalk.i64_in _ (by omega)]; omega
                have c2 : (c : Int) < 16 := by omega
                have d2 : (d : Int) < 16 := by omega
                have HC := Lib.hid hc
                have HD := Lib.hid hd
                clear hc hd
                have m1 : w6.cell? ⟨mb, p, none⟩ = some (.int .u32 ((wstep B 64 p).toNat : Int)) := S.m.get p (by omega)
                have m2 : w6.cell? ⟨mb, q, none⟩ = some (.int .u32 ((wstep B 64 q).toNat : Int)) := S.m.get q (by omega)
                have HP := Lib.hid hp
                have HQ := Lib.hid hq
                clear hr hs hp hq wr
                simp only [List.take_succ_cons, List.take_zero, List.drop_succ_cons, List.drop_zero]
                repeat still_step
                refine wpStill_nil ?_
                clear a1 a2 c1 d1 m1 m2
                have p0 : w6.cell? ⟨2, k * 4, none⟩ = some (.int .u8 (pl (k * 4) : Int)) := S.at_.tab.pl (k * 4) (by omega)
                have p1 : w6.cell? ⟨2, k * 4 + 1, none⟩ = some (.int .u8 (pl (k * 4 + 1) : Int)) := S.at_.tab.pl (k * 4 + 1) (by omega)
                have p2 : w6.cell? ⟨2, k * 4 + 2, none⟩ = some (.int .u8 (pl (k * 4 + 2) : Int)) := S.at_.tab.pl (k * 4 + 2) (by omega)
                have p3 : w6.cell? ⟨2, k * 4 + 3, none⟩ = some (.int .u8 (pl (k * 4 + 3) : Int)) := S.at_.tab.pl (k * 4 + 3) (by omega)
                have CALL := Lib.hid (mix_any (w.heap.size + 1 + 1 + 1) (inner (wstep B 64) r (outer (wstep B 64) V r) k) k hlk (wstep B 64 p) (wstep B 64 q) w6 S.at_.hv (pl (k * 4)) (pl (k * 4 + 1)) (pl (k * 4 + 2)) (pl (k * 4 + 3)) (pl_lt _) (pl_lt _) (pl_lt _) (pl_lt _) p0 p1 p2 p3)
                clear p0 p1 p2 p3
                go_wp2_with (go_at_call 87; refine CALL.out.mono ?_; rintro e w7 ⟨rfl, h7⟩)
                go_roundw
                case rel => exact ⟨k + 1, by omega, by go_num, by have := S.upd h7; rw [HP.out, HQ.out, HC.out, HD.out] at this; exact this⟩
                case measure => simp [intOf]; omega
              · obtain rfl : k = 8 := by omega
                go_wp2_with fail
                go_roundw
                case rel => exact ⟨r + 1, by omega, by go_num, hr⟩
                case measure => simp [intOf]; omega
          · have hge : ¬ (r : Int) < 10 := by omega
            have hm0 : MixedAt (fin h (outer (wstep B 64) V 10) 0) B w (outer (wstep B 64) V 10) wr := by
              obtain rfl : r = 10 := by omega
              exact hr.at_
            clear hr
            obtain ⟨G, hG⟩ : ∃ G, G = outer (wstep B 64) V 10 := ⟨_, rfl⟩
            rw [← hG] at hm0
            have HG := Lib.hid hG
            clear hG
            go_wp2_with fail
            go_loopw [77] (fun i wr => ∃ k : Nat, k ≤ 8 ∧ i = .int .i64 k ∧ MixedAt (fin h G k) B w G wr) (fun i _ => 8 - (intOf i).toNat)
            case atStart => exact ⟨0, by omega, rfl, hm0⟩
            case round =>
              clear hm0
              obtain ⟨k, hk8, rfl, hr⟩ := hrel
              by_cases hlk : k < 8
              · have hlk' : (k : Int) < 8 := by omega
                obtain ⟨c, hc⟩ : ∃ c, c = 8 + k := ⟨_, rfl⟩
                go_wp2_with fail
                refine tail_abs 13 (by kernel_rfl) (by kernel_rfl) fun w6 hs => ?_
                have S := hr.same hs
                have a1 : w6.cell? ⟨w.heap.size, k, none⟩ = some (.int .u32 ((fin h G k k).toNat : Int)) := S.hw.get k (by omega)
                have a2 : w6.cell? ⟨w.heap.size + 1 + 1 + 1, k, none⟩ = some (.int .u32 ((G k).toNat : Int)) := S.hv.get k (by omega)
                have a3 : w6.cell? ⟨w.heap.size + 1 + 1 + 1, c, none⟩ = some (.int .u32 ((G c).toNat : Int)) := S.hv.get c (by omega)
                have fr := S.hw.frz k
                have c1 : IntKind.i64.wrap (8 + (k : Int)) = (c : Int) := by rw [IntWalk.i64_in _ (by omega)]; omega
                have c2 : (c : Int) < 16 := by omega
                have HC := Lib.hid hc
                have k16 : (k : Int) < 16 := by omega
                clear hc hr hs
                simp only [List.take_succ_cons, List.take_zero, List.drop_succ_cons, List.drop_zero]
                repeat still_step
                refine wpStill_nil ?_
                clear a2 a3 c1 c2 k16
                go_wp2_with fail
                go_roundw
                case rel => exact ⟨k + 1, by omega, by go_num, by
                  have := S.setw k (fin h G k k ^^^ (G k ^^^ G c)) _ (xor3 _ _ _)
                  rw [HC.out] at this ⊢
                  exact this⟩
                case measure => simp [intOf]; omega
              · obtain rfl : k = 8 := by omega
                have hr0 := hr.hr
                go_wp2_with (first
                  | with_reducible refine wpl_load (.tmp 4) w.heap.size 0 8 8 (cw .u32 (fin h G 8)) rfl rfl rfl (agg_w8 _) (size_w8 _) hr.hw.cells (by omega) ?_
                  | ((with_reducible refine wpl_store (.tmp 8) (.tmp 94) (w.heap.size + 1 + 1) 0 8 8 (cw .u32 fun _ => 0) (cw .u32 (fin h G 8)) rfl rfl rfl rfl (size_w8 _) hr0 (by omega) (fun _ _ => rfl) ?_); intro w7 h7))
                have h8 : Blk w7 (w.heap.size + 1 + 1) 8 (cw .u32 (fin h G 8)) := h7.1.congr _ fun i hi => by simp [hi]
                refine body_row (p := 8) (by kernel_rfl) rfl (agg_w8 _) (size_w8 _) h8.cells (by omega) rfl ⟨?_, hr.below.trans (h7.2.below (by omega))⟩
                rw [HG.out, HV.out]; rfl
end Go.Proofs.YtacbamfhlgchgaaDoor
