/-
  The cut of a block.
-/
import Derived.Test.YtbeodmijjanmeaaWCertCut
open Go Go.RowKit
namespace Go.Proofs.Ytbeodmijjanmeaa
open WW BB
theorem put_ne {f : Nat → Value} {i j : Nat} {u : Value} (h : j ≠ i) : put f i u j = f j := by simp [put, h]
theorem put_self {f : Nat → Value} {i : Nat} {u : Value} : put f i u i = u := by simp [put]
/-- a block's first parts, from cell o on -/
def blockR1 (o : Nat) : RelT ((Int × Int) × CertD) := seqR (seqR (numR o) (numR (o + 1))) (certR (o + 2))
/-- a block, from cell o on -/
def blockR (o : Nat) : RelT BlockD := seqR (blockR1 o) (listR 34 3 zQ (reqR 0) (o + 5))
theorem sound_block1 (o : Nat) : SoundR (blockR1 o) := ((sound_num o).seq (sound_num (o + 1))).seq (sound_cert (o + 2))
theorem sound_block (o : Nat) : SoundR (blockR o) := (sound_block1 o).seq (sound_list (sound_req 0))
theorem blockR1_cells {o : Nat} {x : (Int × Int) × CertD} {w : World} {lo hi : Nat} {f f' : Nat → Value} (h : blockR1 o x w lo hi f f') : ∃ sv, f' = put (put (put (put (put f o (.int .i64 x.1.1)) (o + 1) (.int .i64 x.1.2)) (o + 2) (.int .i64 x.2.1.1)) (o + 2 + 1) (.string x.2.1.2)) (o + 2 + 2) sv ∧ SigsAt w sv x.2.2 := by
  obtain ⟨g, ⟨g1, h1, h2⟩, h3⟩ := h
  obtain ⟨sv, h4, h5⟩ := certR_cells h3
  refine ⟨sv, ?_, h5⟩
  rw [h4, show g = put g1 (o + 1) _ from h2, show g1 = put f o _ from h1]
theorem blockR_cells {o : Nat} {x : BlockD} {w : World} {lo hi : Nat} {f f' : Nat → Value} (h : blockR o x w lo hi f f') : ∃ sv rv, f' = put (put (put (put (put (put f o (.int .i64 x.1.1.1)) (o + 1) (.int .i64 x.1.1.2)) (o + 2) (.int .i64 x.1.2.1.1)) (o + 2 + 1) (.string x.1.2.1.2)) (o + 2 + 2) sv) (o + 5) rv ∧ SigsAt w sv x.1.2.2 ∧ ReqsAt w rv x.2 := by
  obtain ⟨g, h1, rv, xs, h2, h3⟩ := h
  obtain ⟨sv, h4, h5⟩ := blockR1_cells h1
  exact ⟨sv, rv, by rw [h2, h4], h5, reqs_at h3⟩
theorem own_block1 : Own Try.prog 77 := ⟨_, Try.func77, by kernel_rfl, by kernel_rfl⟩
set_option maxRecDepth 100000 in
theorem block1_call (bc t o : Nat) (v cv : Int) (w : World) (hb : w.cell? ⟨bc, 0, none⟩ = some (.pointer (some ⟨t, o, none⟩))) (hc : w.cell? ⟨t, o, none⟩ = some (.int .i64 v)) (hv : w.cell? ⟨t, o + 2, none⟩ = some (.int .i64 cv)) :
    CallsV Try.prog (.func (.func 77) #[] #[.pointer (some ⟨bc, 0, none⟩)]) #[] w fun e w' => e = .returned (.bool (decide (cv < v))) ∧ Below w.heap.size w w' := by
  refine ⟨_, _, rfl, own_block1, ?_⟩
  show Calls Try.prog 77 #[.pointer (some ⟨bc, 0, none⟩)] w _
  go_enter Try.func77, Try.ntmps77
  go_wp2_with fail
  go_quiet (fail)
  go_wp2_with fail
  go_ret
  exact ⟨rfl, below_drewN (Below.refl _ _) _⟩
set_option maxRecDepth 100000 in
set_option maxHeartbeats 4000000 in
theorem mk_block (t o n : Nat) (w : World) (ho : o + 5 < n) (ht : t < w.heap.size) :
    Calls Try.prog 49 #[.pointer (some ⟨t, o, none⟩)] w (MakesR Try.prog t n w (fun f => f (o + 2 + 2) = .slice none 0 0 ∧ f (o + 5) = .slice none 0 0) blockI (blockR o)) := by
  have HO := Lib.hid ho
  have HT := Lib.hid ht
  clear ho ht
  go_enter Try.func49, Try.ntmps49
  go_upto_region 1 with fail
  have b0 := (Below.refl w.heap.size w).alloc (Nat.le_refl _) (.cells #[.pointer (some ⟨t, o, none⟩)] 105)
  have cb := cell_new w #[.pointer (some ⟨t, o, none⟩)] 105 0 _ rfl
  obtain ⟨bc, hbc⟩ : ∃ bc, w.heap.size = bc := ⟨_, rfl⟩
  rw [hbc] at cb ⊢
  have B0 := Lib.hid b0
  have HBC := Lib.hid hbc
  clear hbc b0
  generalize w.alloc (.cells #[.pointer (some ⟨t, o, none⟩)] 105) = w0 at *
  have hst : t < w0.drew.heap.size ∧ w0.drew.cell? ⟨bc, 0, none⟩ = some (.pointer (some ⟨t, o, none⟩)) := ⟨Nat.lt_of_lt_of_le HT.out B0.out.size, cb⟩
  go_region_held3 (fun w' => t < w'.heap.size ∧ w'.cell? ⟨bc, 0, none⟩ = some (.pointer (some ⟨t, o, none⟩))) (first | exact hst | exact hk | exact hold2 hk ((Below.refl _ _).alloc (Nat.le_refl _) _))
    (first
      | (go_at_call 66; (fail_if_success have hx := HV1); refine (mk_num t _ n _ _ _ (by have := HO.out; omega) (by first | exact hst.1 | exact hk.1)).mono ?_; rintro e w1 ⟨k1, env1, rfl, hb1, hv1⟩; have hk := hold2 (by first | exact hk | exact hst) hb1; have HB1 := Lib.hid hb1; have HV1 := Lib.hid hv1; clear hb1 hv1)
      | (go_at_call 66; refine (mk_num t _ n _ _ _ (by have := HO.out; omega) hk.1).mono ?_; rintro e w2 ⟨k2, env2, rfl, hb2, hv2⟩; have hk := hold2 hk hb2; have HB2 := Lib.hid hb2; have HV2 := Lib.hid hv2; clear hb2 hv2)
      | (go_at_call 45; refine (mk_cert t _ n _ (by have := HO.out; omega) hk.1).mono ?_; rintro e w3 ⟨k3, env3, rfl, hb3, hv3⟩; have hk := hold2 hk hb3; have HB3 := Lib.hid hb3; have HV3 := Lib.hid hv3; clear hb3 hv3)
      | (go_at_call 74; refine (mk_provided _ _ _).mono ?_; rintro e w4 ⟨rfl, hb4, hv4⟩; have hk := hold2 hk hb4; have HB4 := Lib.hid hb4; have HV4 := Lib.hid hv4; clear hb4 hv4)
      | (go_at_call 78; refine (mk_listQ reqI (reqR 0) (sound_req 0) (fun _ _ _ h => codec_req.size h) one_req t _ n 3 _ _ _ (by omega) (by have := HO.out; omega) hk.1 each_req).mono ?_; rintro e w6 ⟨k6, env6, rfl, hb6, hv6⟩; have hk := hold2 hk hb6; have HB6 := Lib.hid hb6; have HV6 := Lib.hid hv6; clear hb6 hv6)
      | (go_at_call 65; refine (mk_order _ _ _ _).mono ?_; rintro e w5 ⟨rfl, hb5, hv5⟩; have hk := hold2 (hold2 hk ((Below.refl _ _).alloc (Nat.le_refl _) _)) hb5; have HB5 := Lib.hid hb5; have HV5 := Lib.hid hv5; clear hb5 hv5))
  all_goals
    obtain ⟨W4, hW4⟩ : ∃ W4, W4 = w6.alloc (.cells #[.func (.func k1) #[] env1, .func (.func k2) #[] env2, .func (.func k3) #[] env3, .func (.func 94) #[] #[.pointer (some ⟨w3.heap.size, 0, none⟩)], .func (.func k6) #[] env6] 88) := ⟨_, rfl⟩
    rw [← hW4] at HB5 HV5
    have z4 : W4.heap.size = w6.heap.size + 1 := by rw [hW4]; simp
    have b4 : Below w6.heap.size w6 W4 := by rw [hW4]; exact (Below.refl _ _).alloc (Nat.le_refl _) _
    have hrow : InRow w6.heap.size [.func (.func k1) #[] env1, .func (.func k2) #[] env2, .func (.func k3) #[] env3, .func (.func 94) #[] #[.pointer (some ⟨w3.heap.size, 0, none⟩)], .func (.func k6) #[] env6] W4 := by
      rw [hW4]
      intro i hi
      match i, hi with
      | 0, _ => exact cell_new _ _ _ _ _ rfl
      | 1, _ => exact cell_new _ _ _ _ _ rfl
      | 2, _ => exact cell_new _ _ _ _ _ rfl
      | 3, _ => exact cell_new _ _ _ _ _ rfl
      | 4, _ => exact cell_new _ _ _ _ _ rfl
    have tb : t < bc := by have := HT.out; have := HBC.out; omega
    have b3w : bc < w3.heap.size := Nat.lt_of_lt_of_le (World.block_lt_of_cell? _ _ cb) (Nat.le_trans HB1.out.size (Nat.le_trans HB2.out.size HB3.out.size))
    have b4w : w3.heap.size < w4.heap.size := World.block_lt_of_cell? _ _ HV4.out
    have b6w : w4.heap.size ≤ w6.heap.size := HB6.out.size
    have k5 : Keep t W4 w5 := keep_of_below HB5.out (Nat.le_refl _) t
    have k6' : Keep t w6 w5 := (keep_of_below b4 (Nat.le_refl _) t).trans k5
    have k4' : Keep t w4 w5 := (keep_of_below HB6.out (Nat.le_refl _) t).trans k6'
    have k3' : Keep t w3 w5 := (keep_of_below HB4.out (Nat.le_refl _) t).trans k4'
    have k2' : Keep t w2 w5 := (keep_of_below HB3.out (Nat.le_refl _) t).trans k3'
    have k1' : Keep t w1 w5 := (keep_of_below HB2.out (Nat.le_refl _) t).trans k2'
    have ord1 : OrdR Try.prog t n [.func (.func k1) #[] env1, .func (.func k2) #[] env2] w5 (fun f => f (o + 2 + 2) = .slice none 0 0 ∧ f (o + 5) = .slice none 0 0) (seqSp (numI 1 1000000) (numI 0 6)) (seqR (numR o) (numR (o + 1))) :=
      (OrdR.one ((cutr_num (HV1.out.later k1')).weak (fun _ _ => trivial) (fun _ _ _ _ _ _ h => h))).app (cutr_num (HV2.out.later k2')) (sound_num o) (sound_num (o + 1)) (fun b r x h => (codec_num 1 1000000 (by omega) (by omega)).size h) (fun _ _ _ _ _ _ _ _ => trivial)
    have ord2 : OrdR Try.prog t n [.func (.func k1) #[] env1, .func (.func k2) #[] env2, .func (.func k3) #[] env3] w5 (fun f => f (o + 2 + 2) = .slice none 0 0 ∧ f (o + 5) = .slice none 0 0) (seqSp (seqSp (numI 1 1000000) (numI 0 6)) certI) (blockR1 o) :=
      ord1.app (HV3.out.later k3') ((sound_num o).seq (sound_num (o + 1))) (sound_cert (o + 2)) (fun b r x h => ((codec_num 1 1000000 (by omega) (by omega)).seq (codec_num 0 6 (by omega) (by omega))).size h) (fun d w lo hi f g hp hg => by
        obtain ⟨g1, h1, h2⟩ := hg
        rw [show g = put g1 (o + 1) _ from h2, show g1 = put f o _ from h1, put_ne (by omega), put_ne (by omega)]; exact hp.1)
    have prov : ProvR Try.prog t n (.func (.func 94) #[] #[.pointer (some ⟨w3.heap.size, 0, none⟩)]) w5 (fun f => f (o + 2 + 2) = .slice none 0 0 ∧ f (o + 5) = .slice none 0 0) (seqSp (seqSp (numI 1 1000000) (numI 0 6)) certI) (blockR1 o) (fun x => decide (x.2.1.1 < x.1.1)) := by
      rintro d f f' lo hi b wx ⟨b0, r0, hA⟩ hk hhi hblk hp hR
      obtain ⟨sv, hf', hS⟩ := blockR1_cells hR
      refine provided_call 77 #[.pointer (some ⟨bc, 0, none⟩)] w3.heap.size b (decide (d.2.1.1 < d.1.1)) wx (keep_cell2 (keep_cell2 HV4.out (by omega) k4') (by omega) hk) ?_
      refine block1_call bc t o d.1.1 d.2.1.1 wx (keep_cell2 (keep_cell2 hst.2 (by omega) ((keep_of_below HB1.out (Nat.le_refl _) t).trans k1')) (by omega) hk) ?_ ?_
      · have := hblk.get o (by have := HO.out; omega)
        rw [this, hf', put_ne (by omega), put_ne (by omega), put_ne (by omega), put_ne (by omega), put_self]
      · have := hblk.get (o + 2) (by have := HO.out; omega)
        rw [this, hf', put_ne (by omega), put_ne (by omega), put_self]
    have ord3 := (ord2.prov prov (sound_block1 o)).app (HV6.out.later k6') (sound_block1 o) (sound_list (sound_req 0)) (fun b r x h => ((((codec_num 1 1000000 (by omega) (by omega)).seq (codec_num 0 6 (by omega) (by omega))).seq codec_cert).filt (fun x => decide (x.2.1.1 < x.1.1))).size h) (fun d w lo hi f g hp hg => by
        obtain ⟨sv, hf', hS⟩ := blockR1_cells hg
        rw [hf', put_ne (by omega), put_ne (by omega), put_ne (by omega), put_ne (by omega), put_ne (by omega)]; exact hp.2)
    have hto := Lib.hid (order_cutR (cap := 5) (bx := W4.heap.size) ord3 (InRow_keep hrow (by omega) (by omega) k5) HV5.out (by omega) (by have := HB5.out.size; omega) (by omega) (by simp))
    have hbel : Hid (Below w.heap.size w w5) := by
      have e0 : Below w.heap.size w w0.drew := B0.out.drew
      have e1 := e0.trans (HB1.out.mono e0.size)
      have e2 := e1.trans (HB2.out.mono e1.size)
      have e3 := e2.trans (HB3.out.mono e2.size)
      have e4 := e3.trans (HB4.out.mono e3.size)
      have e6 := e4.trans (HB6.out.mono e4.size)
      have e5 := e6.trans (b4.mono e6.size)
      exact Lib.hid (e5.trans (HB5.out.mono e5.size))
    rw [z4] at hto
    clear hrow k6' k5 k4' k3' k2' k1' hW4 b4 ord1 ord2 ord3 prov
    go_wp2_with fail
    go_ret
    exact ⟨_, _, rfl, hbel.out, hto.out⟩
theorem own_block : Own Try.prog 49 := ⟨_, Try.func49, by kernel_rfl, by kernel_rfl⟩
end Go.Proofs.Ytbeodmijjanmeaa
