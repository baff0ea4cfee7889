/-
  The cut of a certificate.
-/
import Derived.Test.YtbeodmijjanmeaaWRise
import Derived.Deep.RegionHeld3
import Derived.Deep.CutRange
open Go Go.RowKit
namespace WW
open BB
/-- a certificate's first two parts, from cell o on -/
def certR1 (o : Nat) : RelT (Int × ByteArray) := seqR (numR o) (strR (o + 1))
end WW
namespace Go.Proofs.Ytbeodmijjanmeaa
open WW BB
/-- a certificate, from cell o on -/
def certR (o : Nat) : RelT CertD := seqR (certR1 o) (listR 37 2 zG (sigR 0) (o + 2))
theorem sound_cert (o : Nat) : SoundR (certR o) := ((sound_num o).seq (sound_str (o + 1))).seq (sound_list (sound_sig 0))
/-- what a certificate's cells are -/
theorem certR_cells {o : Nat} {c : CertD} {w : World} {lo hi : Nat} {f f' : Nat → Value} (h : certR o c w lo hi f f') : ∃ sv, f' = put (put (put f o (.int .i64 c.1.1)) (o + 1) (.string c.1.2)) (o + 2) sv ∧ SigsAt w sv c.2 := by
  obtain ⟨g, ⟨g1, h1, h2⟩, sv, xs, h3, h4⟩ := h
  refine ⟨sv, ?_, sigs_at h4⟩
  rw [h3, show g = put g1 (o + 1) _ from h2, show g1 = put f o _ from h1]
set_option maxRecDepth 100000 in
theorem mk_provided (kh : Nat) (env : Array Value) (w : World) :
    Calls Try.prog 74 #[.func (.func kh) #[] env] w fun e w' => e = .returned (.func (.func 94) #[] #[.pointer (some ⟨w.heap.size, 0, none⟩)]) ∧ Below w.heap.size w w' ∧ w'.cell? ⟨w.heap.size, 0, none⟩ = some (.func (.func kh) #[] env) := by
  go_enter Try.func74, Try.ntmps74
  go_wp2_with fail
  go_ret
  exact ⟨rfl, (Below.refl w.heap.size w).alloc (Nat.le_refl _) _, cell_at _ _ _ _ rfl⟩
theorem own_provided : Own Try.prog 94 := ⟨_, Try.func94, by kernel_rfl, by kernel_rfl⟩
set_option maxRecDepth 100000 in
/-- the closure that tells whether what holds of what was read -/
theorem provided_call (kh : Nat) (env : Array Value) (bp : Nat) (b : ByteArray) (x : Bool) (w : World) (hp : w.cell? ⟨bp, 0, none⟩ = some (.func (.func kh) #[] env)) (hc : CallsV Try.prog (.func (.func kh) #[] env) #[] w fun e w' => e = .returned (.bool x) ∧ Below w.heap.size w w') :
    Cut Try.prog (.func (.func 94) #[] #[.pointer (some ⟨bp, 0, none⟩)]) b w (fun ok r w' => ok = x ∧ r = b ∧ Below w.heap.size w w') := by
  refine ⟨_, _, rfl, own_provided, ?_⟩
  show Calls Try.prog 94 #[.string b, .pointer (some ⟨bp, 0, none⟩)] w _
  have HC := Lib.hid hc
  clear hc
  go_enter Try.func94, Try.ntmps94
  go_wp2_with (with_reducible refine hold_callv rfl rfl ?_)
  refine wpl_callv (v := .func (.func kh) #[] env) (args := #[]) _ rfl rfl rfl (by simp) HC.out (fun _ _ ⟨h, _⟩ => ⟨_, h⟩) ?_
  rintro u w4 ⟨hu, hb4⟩
  injection hu with hu
  subst hu
  have HB := Lib.hid hb4
  clear hb4 hp
  go_wp2_with fail
  go_ret2
  exact ⟨x, b, rfl, rfl, rfl, HB.out⟩
theorem own_cert1 : Own Try.prog 75 := ⟨_, Try.func75, by kernel_rfl, by kernel_rfl⟩
set_option maxRecDepth 100000 in
theorem cert1_call (bc t o : Nat) (sv : Value) (l : List (Int × List ByteArray)) (w : World) (hb : w.cell? ⟨bc, 0, none⟩ = some (.pointer (some ⟨t, o, none⟩))) (hc : w.cell? ⟨t, o + 2, none⟩ = some sv) (hv : SigsAt w sv l) (hl : l.length ≤ 100) :
    CallsV Try.prog (.func (.func 75) #[] #[.pointer (some ⟨bc, 0, none⟩)]) #[] w fun e w' => e = .returned (.bool (rises l)) ∧ Below w.heap.size w w' := by
  refine ⟨_, _, rfl, own_cert1, ?_⟩
  show Calls Try.prog 75 #[.pointer (some ⟨bc, 0, none⟩)] w _
  have hr := rising_any sv l w hv hl
  obtain ⟨x, hx⟩ : ∃ x, rises l = x := ⟨_, rfl⟩
  rw [hx] at hr ⊢
  have HR := Lib.hid hr
  clear hv hl hr hx
  go_enter Try.func75, Try.ntmps75
  go_wp2_with fail
  refine HR.out.mono ?_
  rintro e w1 ⟨rfl, hb1⟩
  have HB := Lib.hid hb1
  clear hb1 hb hc
  go_wp2_with fail
  go_ret
  exact ⟨rfl, HB.out⟩
theorem hold2 {w w1 : World} {t bc : Nat} {v : Value} (h : t < w.heap.size ∧ w.cell? ⟨bc, 0, none⟩ = some v) (hb : Below w.heap.size w w1) : t < w1.heap.size ∧ w1.cell? ⟨bc, 0, none⟩ = some v := ⟨Nat.lt_of_lt_of_le h.1 hb.size, keep_cell h.2 hb⟩
set_option maxRecDepth 100000 in
set_option maxHeartbeats 4000000 in
theorem mk_cert (t o n : Nat) (w : World) (ho : o + 2 < n) (ht : t < w.heap.size) :
    Calls Try.prog 45 #[.pointer (some ⟨t, o, none⟩)] w (MakesR Try.prog t n w (fun f => f (o + 2) = .slice none 0 0) certI (certR o)) := by
  have HO := Lib.hid ho
  have HT := Lib.hid ht
  clear ho ht
  go_enter Try.func45, Try.ntmps45
  go_upto_region 1 with fail
  have b0 := (Below.refl w.heap.size w).alloc (Nat.le_refl _) (.cells #[.pointer (some ⟨t, o, none⟩)] 98)
  have cb := cell_new w #[.pointer (some ⟨t, o, none⟩)] 98 0 _ rfl
  obtain ⟨bc, hbc⟩ : ∃ bc, w.heap.size = bc := ⟨_, rfl⟩
  rw [hbc] at cb ⊢
  have B0 := Lib.hid b0
  have HBC := Lib.hid hbc
  clear hbc b0
  generalize w.alloc (.cells #[.pointer (some ⟨t, o, none⟩)] 98) = w0 at *
  have hst : t < w0.drew.heap.size ∧ w0.drew.cell? ⟨bc, 0, none⟩ = some (.pointer (some ⟨t, o, none⟩)) := ⟨Nat.lt_of_lt_of_le HT.out B0.out.size, cb⟩
  go_region_held3 (fun w' => t < w'.heap.size ∧ w'.cell? ⟨bc, 0, none⟩ = some (.pointer (some ⟨t, o, none⟩))) (first | exact hst | exact hk | exact hold2 hk ((Below.refl _ _).alloc (Nat.le_refl _) _))
    (first
      | (go_at_call 66; refine (mk_num t _ n _ _ _ (by have := HO.out; omega) (by first | exact hst.1 | exact hk.1)).mono ?_; rintro e w1 ⟨k1, env1, rfl, hb1, hv1⟩; have hk := hold2 (by first | exact hk | exact hst) hb1; have HB1 := Lib.hid hb1; have HV1 := Lib.hid hv1; clear hb1 hv1)
      | (go_at_call 71; refine (mk_bytes t _ n 32 _ (by have := HO.out; omega) hk.1).mono ?_; rintro e w2 ⟨k2, env2, rfl, hb2, hv2⟩; have hk := hold2 hk hb2; have HB2 := Lib.hid hb2; have HV2 := Lib.hid hv2; clear hb2 hv2)
      | (go_at_call 72; refine (mk_listG sigI (sigR 0) (sound_sig 0) (fun _ _ _ h => codec_sig.size h) one_sig t _ n 7 _ _ _ (by omega) (by have := HO.out; omega) hk.1 each_sig).mono ?_; rintro e w3 ⟨k3, env3, rfl, hb3, hv3⟩; have hk := hold2 hk hb3; have HB3 := Lib.hid hb3; have HV3 := Lib.hid hv3; clear hb3 hv3)
      | (go_at_call 74; refine (mk_provided _ _ _).mono ?_; rintro e w4 ⟨rfl, hb4, hv4⟩; have hk := hold2 hk hb4; have HB4 := Lib.hid hb4; have HV4 := Lib.hid hv4; clear hb4 hv4)
      | (go_at_call 65; refine (mk_order _ _ _ _).mono ?_; rintro e w5 ⟨rfl, hb5, hv5⟩; have hk := hold2 (hold2 hk ((Below.refl _ _).alloc (Nat.le_refl _) _)) hb5; have HB5 := Lib.hid hb5; have HV5 := Lib.hid hv5; clear hb5 hv5))
  all_goals
    obtain ⟨W4, hW4⟩ : ∃ W4, W4 = w4.alloc (.cells #[.func (.func k1) #[] env1, .func (.func k2) #[] env2, .func (.func k3) #[] env3, .func (.func 94) #[] #[.pointer (some ⟨w3.heap.size, 0, none⟩)]] 88) := ⟨_, rfl⟩
    rw [← hW4] at HB5 HV5
    have z4 : W4.heap.size = w4.heap.size + 1 := by rw [hW4]; simp
    have b4 : Below w4.heap.size w4 W4 := by rw [hW4]; exact (Below.refl _ _).alloc (Nat.le_refl _) _
    have hrow : InRow w4.heap.size [.func (.func k1) #[] env1, .func (.func k2) #[] env2, .func (.func k3) #[] env3, .func (.func 94) #[] #[.pointer (some ⟨w3.heap.size, 0, none⟩)]] W4 := by
      rw [hW4]
      intro i hi
      match i, hi with
      | 0, _ => exact cell_new _ _ _ _ _ rfl
      | 1, _ => exact cell_new _ _ _ _ _ rfl
      | 2, _ => exact cell_new _ _ _ _ _ rfl
      | 3, _ => exact cell_new _ _ _ _ _ rfl
    have tb : t < bc := by have := HT.out; have := HBC.out; omega
    have b3w : bc < w3.heap.size := Nat.lt_of_lt_of_le (World.block_lt_of_cell? _ _ cb) (Nat.le_trans HB1.out.size (Nat.le_trans HB2.out.size HB3.out.size))
    have b4w : w3.heap.size < w4.heap.size := World.block_lt_of_cell? _ _ HV4.out
    have k5 : Keep t W4 w5 := keep_of_below HB5.out (Nat.le_refl _) t
    have k4' : Keep t w4 w5 := (keep_of_below b4 (Nat.le_refl _) t).trans k5
    have k3' : Keep t w3 w5 := (keep_of_below HB4.out (Nat.le_refl _) t).trans k4'
    have k2' : Keep t w2 w5 := (keep_of_below HB3.out (Nat.le_refl _) t).trans k3'
    have k1' : Keep t w1 w5 := (keep_of_below HB2.out (Nat.le_refl _) t).trans k2'
    have ord1 : OrdR Try.prog t n [.func (.func k1) #[] env1, .func (.func k2) #[] env2] w5 (fun f => f (o + 2) = .slice none 0 0) (seqSp (numI 0 1000000) (bytesSp 32)) (certR1 o) :=
      (OrdR.one ((cutr_num (HV1.out.later k1')).weak (fun _ _ => trivial) (fun _ _ _ _ _ _ h => h))).app (cutr_str (HV2.out.later k2')) (sound_num o) (sound_str (o + 1)) (fun b r x h => (codec_num 0 1000000 (by omega) (by omega)).size h) (fun _ _ _ _ _ _ _ _ => trivial)
    have ord2 : OrdR Try.prog t n [.func (.func k1) #[] env1, .func (.func k2) #[] env2, .func (.func k3) #[] env3] w5 (fun f => f (o + 2) = .slice none 0 0) (seqSp (seqSp (numI 0 1000000) (bytesSp 32)) (countSp 7 sigI)) (certR o) :=
      ord1.app (HV3.out.later k3') ((sound_num o).seq (sound_str (o + 1))) (sound_list (sound_sig 0)) (fun b r x h => ((codec_num 0 1000000 (by omega) (by omega)).seq (codec_bytes 32)).size h) (fun d w lo hi f g hp hg => by
        obtain ⟨g1, h1, h2⟩ := hg
        rw [show g = put g1 (o + 1) _ from h2, show g1 = put f o _ from h1]; simpa [put] using hp)
    have prov : ProvR Try.prog t n (.func (.func 94) #[] #[.pointer (some ⟨w3.heap.size, 0, none⟩)]) w5 (fun f => f (o + 2) = .slice none 0 0) (seqSp (seqSp (numI 0 1000000) (bytesSp 32)) (countSp 7 sigI)) (certR o) (fun c => rises c.2) := by
      rintro d f f' lo hi b wx ⟨b0, r0, hA⟩ hk hhi hblk hp hR
      obtain ⟨_, _, h7, _⟩ := (((codec_num 0 1000000 (by omega) (by omega)).seq (codec_bytes 32)).seq (codec_sig.count 7 (by omega))).sound _ _ _ hA
      obtain ⟨sv, hf', hS⟩ := certR_cells hR
      refine provided_call 75 #[.pointer (some ⟨bc, 0, none⟩)] w3.heap.size b (rises d.2) wx (keep_cell2 (keep_cell2 HV4.out (by omega) k4') (by omega) hk) ?_
      refine cert1_call bc t o sv d.2 wx (keep_cell2 (keep_cell2 hst.2 (by omega) ((keep_of_below HB1.out (Nat.le_refl _) t).trans k1')) (by omega) hk) ?_ hS (by omega)
      have := hblk.get (o + 2) HO.out
      rw [this, hf']; simp [put]
    have hto := Lib.hid (order_cutR (cap := 4) (bx := W4.heap.size) (ord2.prov prov (sound_cert o)) (InRow_keep hrow (by omega) (by omega) k5) HV5.out (by omega) (by have := HB5.out.size; omega) (by omega) (by simp))
    have hbel : Hid (Below w.heap.size w w5) := by
      have e0 : Below w.heap.size w w0.drew := B0.out.drew
      have e1 := e0.trans (HB1.out.mono e0.size)
      have e2 := e1.trans (HB2.out.mono e1.size)
      have e3 := e2.trans (HB3.out.mono e2.size)
      have e4 := e3.trans (HB4.out.mono e3.size)
      have e5 := e4.trans (b4.mono e4.size)
      exact Lib.hid (e5.trans (HB5.out.mono e5.size))
    rw [z4] at hto
    clear hrow k5 k4' k3' k2' k1' hW4 b4 ord1 ord2 prov
    go_wp2_with fail
    go_ret
    exact ⟨_, _, rfl, hbel.out, hto.out⟩
theorem own_cert : Own Try.prog 45 := ⟨_, Try.func45, by kernel_rfl, by kernel_rfl⟩
end Go.Proofs.Ytbeodmijjanmeaa
