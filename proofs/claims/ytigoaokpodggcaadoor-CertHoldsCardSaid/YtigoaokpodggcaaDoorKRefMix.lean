/-
  The walk of the document's mix: what a mix makes of the sixteen words, as numbers modulo 2^32.
-/
import Derived.Test.YtigoaokpodggcaaDoorKWRise
import Derived.Deep.RegionHeld3
import Derived.Deep.CutRange
import Derived.Test.YtigoaokpodggcaaDoorKWElems
import Derived.Test.YtigoaokpodggcaaDoorKWReqMath
import Derived.Test.YtigoaokpodggcaaDoorKLOpen
import Derived.Test.YtigoaokpodggcaaDoorRows
section
open Go Go.RowKit
namespace WW
open BB
/-- a certificate's first two parts, from cell o on -/
def certR1 (o : Nat) : RelT (Int × ByteArray) := seqR (numR o) (strR (o + 1))
end WW
namespace Go.Proofs.YtigoaokpodggcaaDoor
open WW BB
/-- a certificate, from cell o on -/
def certR (o : Nat) : RelT CertD := seqR (certR1 o) (listR 35 2 zG (sigR 0) (o + 2))
theorem sound_cert (o : Nat) : SoundR (certR o) := ((sound_num o).seq (sound_str (o + 1))).seq (sound_list (sound_sig 0))
/-- what a certificate's cells are -/
theorem certR_cells {o : Nat} {c : CertD} {w : World} {lo hi : Nat} {f f' : Nat → Value} (h : certR o c w lo hi f f') : ∃ sv, f' = put (put (put f o (.int .i64 c.1.1)) (o + 1) (.string c.1.2)) (o + 2) sv ∧ SigsAt w sv c.2 := by
  obtain ⟨g, ⟨g1, h1, h2⟩, sv, xs, h3, h4⟩ := h
  refine ⟨sv, ?_, sigs_at h4⟩
  rw [h3, show g = put g1 (o + 1) _ from h2, show g1 = put f o _ from h1]
set_option maxRecDepth 100000 in
theorem mk_provided (kh : Nat) (env : Array Value) (w : World) :
    Calls Tryd.prog 82 #[.func (.func kh) #[] env] w fun e w' => e = .returned (.func (.func 102) #[] #[.pointer (some ⟨w.heap.size, 0, none⟩)]) ∧ Below w.heap.size w w' ∧ w'.cell? ⟨w.heap.size, 0, none⟩ = some (.func (.func kh) #[] env) := by
  go_enter Tryd.func82, Tryd.ntmps82
  go_wp2_with fail
  go_ret
  exact ⟨rfl, (Below.refl w.heap.size w).alloc (Nat.le_refl _) _, cell_at _ _ _ _ rfl⟩
theorem own_provided : Own Tryd.prog 102 := ⟨_, Tryd.func102, by kernel_rfl, by kernel_rfl⟩
set_option maxRecDepth 100000 in
/-- the closure that tells whether what holds of what was read -/
theorem provided_call (kh : Nat) (env : Array Value) (bp : Nat) (b : ByteArray) (x : Bool) (w : World) (hp : w.cell? ⟨bp, 0, none⟩ = some (.func (.func kh) #[] env)) (hc : CallsV Tryd.prog (.func (.func kh) #[] env) #[] w fun e w' => e = .returned (.bool x) ∧ Below w.heap.size w w') :
    Cut Tryd.prog (.func (.func 102) #[] #[.pointer (some ⟨bp, 0, none⟩)]) b w (fun ok r w' => ok = x ∧ r = b ∧ Below w.heap.size w w') := by
  refine ⟨_, _, rfl, own_provided, ?_⟩
  show Calls Tryd.prog 102 #[.string b, .pointer (some ⟨bp, 0, none⟩)] w _
  have HC := Lib.hid hc
  clear hc
  go_enter Tryd.func102, Tryd.ntmps102
  go_wp2_with (with_reducible refine hold_callv rfl rfl ?_)
  refine wpl_callv (v := .func (.func kh) #[] env) (args := #[]) _ rfl rfl rfl (by simp) HC.out (fun _ _ ⟨h, _⟩ => ⟨_, h⟩) ?_
  rintro u w4 ⟨hu, hb4⟩
  injection hu with hu
  subst hu
  have HB := Lib.hid hb4
  clear hb4 hp
  go_wp2_with fail
  go_ret2
  exact ⟨x, b, rfl, rfl, rfl, HB.out⟩
theorem own_cert1 : Own Tryd.prog 83 := ⟨_, Tryd.func83, by kernel_rfl, by kernel_rfl⟩
set_option maxRecDepth 100000 in
theorem cert1_call (bc t o : Nat) (sv : Value) (l : List (Int × List ByteArray)) (w : World) (hb : w.cell? ⟨bc, 0, none⟩ = some (.pointer (some ⟨t, o, none⟩))) (hc : w.cell? ⟨t, o + 2, none⟩ = some sv) (hv : SigsAt w sv l) (hl : l.length ≤ 100) :
    CallsV Tryd.prog (.func (.func 83) #[] #[.pointer (some ⟨bc, 0, none⟩)]) #[] w fun e w' => e = .returned (.bool (rises l)) ∧ Below w.heap.size w w' := by
  refine ⟨_, _, rfl, own_cert1, ?_⟩
  show Calls Tryd.prog 83 #[.pointer (some ⟨bc, 0, none⟩)] w _
  have hr := rising_any sv l w hv hl
  obtain ⟨x, hx⟩ : ∃ x, rises l = x := ⟨_, rfl⟩
  rw [hx] at hr ⊢
  have HR := Lib.hid hr
  clear hv hl hr hx
  go_enter Tryd.func83, Tryd.ntmps83
  go_wp2_with fail
  refine HR.out.mono ?_
  rintro e w1 ⟨rfl, hb1⟩
  have HB := Lib.hid hb1
  clear hb1 hb hc
  go_wp2_with fail
  go_ret
  exact ⟨rfl, HB.out⟩
theorem hold2 {w w1 : World} {t bc : Nat} {v : Value} (h : t < w.heap.size ∧ w.cell? ⟨bc, 0, none⟩ = some v) (hb : Below w.heap.size w w1) : t < w1.heap.size ∧ w1.cell? ⟨bc, 0, none⟩ = some v := ⟨Nat.lt_of_lt_of_le h.1 hb.size, keep_cell h.2 hb⟩
set_option maxRecDepth 100000 in
set_option maxHeartbeats 4000000 in
theorem mk_cert (t o n : Nat) (w : World) (ho : o + 2 < n) (ht : t < w.heap.size) :
    Calls Tryd.prog 63 #[.pointer (some ⟨t, o, none⟩)] w (MakesR Tryd.prog t n w (fun f => f (o + 2) = .slice none 0 0) certI (certR o)) := by
  have HO := Lib.hid ho
  have HT := Lib.hid ht
  clear ho ht
  go_enter Tryd.func63, Tryd.ntmps63
  go_upto_region 1 with fail
  have b0 := (Below.refl w.heap.size w).alloc (Nat.le_refl _) (.cells #[.pointer (some ⟨t, o, none⟩)] 98)
  have cb := cell_new w #[.pointer (some ⟨t, o, none⟩)] 98 0 _ rfl
  obtain ⟨bc, hbc⟩ : ∃ bc, w.heap.size = bc := ⟨_, rfl⟩
  rw [hbc] at cb ⊢
  have B0 := Lib.hid b0
  have HBC := Lib.hid hbc
  clear hbc b0
  generalize w.alloc (.cells #[.pointer (some ⟨t, o, none⟩)] 98) = w0 at *
  have hst : t < w0.drew.heap.size ∧ w0.drew.cell? ⟨bc, 0, none⟩ = some (.pointer (some ⟨t, o, none⟩)) := ⟨Nat.lt_of_lt_of_le HT.out B0.out.size, cb⟩
  go_region_held3 (fun w' => t < w'.heap.size ∧ w'.cell? ⟨bc, 0, none⟩ = some (.pointer (some ⟨t, o, none⟩))) (first | exact hst | exact hk | exact hold2 hk ((Below.refl _ _).alloc (Nat.le_refl _) _))
    (first
      | (go_at_call 78; refine (mk_num t _ n _ _ _ (by have := HO.out; omega) (by first | exact hst.1 | exact hk.1)).mono ?_; rintro e w1 ⟨k1, env1, rfl, hb1, hv1⟩; have hk := hold2 (by first | exact hk | exact hst) hb1; have HB1 := Lib.hid hb1; have HV1 := Lib.hid hv1; clear hb1 hv1)
      | (go_at_call 79; refine (mk_bytes t _ n 32 _ (by have := HO.out; omega) hk.1).mono ?_; rintro e w2 ⟨k2, env2, rfl, hb2, hv2⟩; have hk := hold2 hk hb2; have HB2 := Lib.hid hb2; have HV2 := Lib.hid hv2; clear hb2 hv2)
      | (go_at_call 80; refine (mk_listG sigI (sigR 0) (sound_sig 0) (fun _ _ _ h => codec_sig.size h) one_sig t _ n 7 _ _ _ (by omega) (by have := HO.out; omega) hk.1 each_sig).mono ?_; rintro e w3 ⟨k3, env3, rfl, hb3, hv3⟩; have hk := hold2 hk hb3; have HB3 := Lib.hid hb3; have HV3 := Lib.hid hv3; clear hb3 hv3)
      | (go_at_call 82; refine (mk_provided _ _ _).mono ?_; rintro e w4 ⟨rfl, hb4, hv4⟩; have hk := hold2 hk hb4; have HB4 := Lib.hid hb4; have HV4 := Lib.hid hv4; clear hb4 hv4)
      | (go_at_call 77; refine (mk_order _ _ _ _).mono ?_; rintro e w5 ⟨rfl, hb5, hv5⟩; have hk := hold2 (hold2 hk ((Below.refl _ _).alloc (Nat.le_refl _) _)) hb5; have HB5 := Lib.hid hb5; have HV5 := Lib.hid hv5; clear hb5 hv5))
  all_goals
    obtain ⟨W4, hW4⟩ : ∃ W4, W4 = w4.alloc (.cells #[.func (.func k1) #[] env1, .func (.func k2) #[] env2, .func (.func k3) #[] env3, .func (.func 102) #[] #[.pointer (some ⟨w3.heap.size, 0, none⟩)]] 97) := ⟨_, rfl⟩
    rw [← hW4] at HB5 HV5
    have z4 : W4.heap.size = w4.heap.size + 1 := by rw [hW4]; simp
    have b4 : Below w4.heap.size w4 W4 := by rw [hW4]; exact (Below.refl _ _).alloc (Nat.le_refl _) _
    have hrow : InRow w4.heap.size [.func (.func k1) #[] env1, .func (.func k2) #[] env2, .func (.func k3) #[] env3, .func (.func 102) #[] #[.pointer (some ⟨w3.heap.size, 0, none⟩)]] W4 := by
      rw [hW4]
      intro i hi
      match i, hi with
      | 0, _ => exact cell_new _ _ _ _ _ rfl
      | 1, _ => exact cell_new _ _ _ _ _ rfl
      | 2, _ => exact cell_new _ _ _ _ _ rfl
      | 3, _ => exact cell_new _ _ _ _ _ rfl
    have tb : t < bc := by have := HT.out; have := HBC.out; omega
    have b3w : bc < w3.heap.size := Nat.lt_of_lt_of_le (World.block_lt_of_cell? _ _ cb) (Nat.le_trans HB1.out.size (Nat.le_trans HB2.out.size HB3.out.size))
    have b4w : w3.heap.size < w4.heap.size := World.block_lt_of_cell? _ _ HV4.out
    have k5 : Keep t W4 w5 := keep_of_below HB5.out (Nat.le_refl _) t
    have k4' : Keep t w4 w5 := (keep_of_below b4 (Nat.le_refl _) t).trans k5
    have k3' : Keep t w3 w5 := (keep_of_below HB4.out (Nat.le_refl _) t).trans k4'
    have k2' : Keep t w2 w5 := (keep_of_below HB3.out (Nat.le_refl _) t).trans k3'
    have k1' : Keep t w1 w5 := (keep_of_below HB2.out (Nat.le_refl _) t).trans k2'
    have ord1 : OrdR Tryd.prog t n [.func (.func k1) #[] env1, .func (.func k2) #[] env2] w5 (fun f => f (o + 2) = .slice none 0 0) (seqSp (numI 0 1000000) (bytesSp 32)) (certR1 o) :=
      (OrdR.one ((cutr_num (HV1.out.later k1')).weak (fun _ _ => trivial) (fun _ _ _ _ _ _ h => h))).app (cutr_str (HV2.out.later k2')) (sound_num o) (sound_str (o + 1)) (fun b r x h => (codec_num 0 1000000 (by omega) (by omega)).size h) (fun _ _ _ _ _ _ _ _ => trivial)
    have ord2 : OrdR Tryd.prog t n [.func (.func k1) #[] env1, .func (.func k2) #[] env2, .func (.func k3) #[] env3] w5 (fun f => f (o + 2) = .slice none 0 0) (seqSp (seqSp (numI 0 1000000) (bytesSp 32)) (countSp 7 sigI)) (certR o) :=
      ord1.app (HV3.out.later k3') ((sound_num o).seq (sound_str (o + 1))) (sound_list (sound_sig 0)) (fun b r x h => ((codec_num 0 1000000 (by omega) (by omega)).seq (codec_bytes 32)).size h) (fun d w lo hi f g hp hg => by
        obtain ⟨g1, h1, h2⟩ := hg
        rw [show g = put g1 (o + 1) _ from h2, show g1 = put f o _ from h1]; simpa [put] using hp)
    have prov : ProvR Tryd.prog t n (.func (.func 102) #[] #[.pointer (some ⟨w3.heap.size, 0, none⟩)]) w5 (fun f => f (o + 2) = .slice none 0 0) (seqSp (seqSp (numI 0 1000000) (bytesSp 32)) (countSp 7 sigI)) (certR o) (fun c => rises c.2) := by
      rintro d f f' lo hi b wx ⟨b0, r0, hA⟩ hk hhi hblk hp hR
      obtain ⟨_, _, h7, _⟩ := (((codec_num 0 1000000 (by omega) (by omega)).seq (codec_bytes 32)).seq (codec_sig.count 7 (by omega))).sound _ _ _ hA
      obtain ⟨sv, hf', hS⟩ := certR_cells hR
      refine provided_call 83 #[.pointer (some ⟨bc, 0, none⟩)] w3.heap.size b (rises d.2) wx (keep_cell2 (keep_cell2 HV4.out (by omega) k4') (by omega) hk) ?_
      refine cert1_call bc t o sv d.2 wx (keep_cell2 (keep_cell2 hst.2 (by omega) ((keep_of_below HB1.out (Nat.le_refl _) t).trans k1')) (by omega) hk) ?_ hS (by omega)
      have := hblk.get (o + 2) HO.out
      rw [this, hf']; simp [put]
    have hto := Lib.hid (order_cutR (cap := 4) (bx := W4.heap.size) (ord2.prov prov (sound_cert o)) (InRow_keep hrow (by omega) (by omega) k5) HV5.out (by omega) (by have := HB5.out.size; omega) (by omega) (by simp))
    have hbel : Hid (Below w.heap.size w w5) := by
      have e0 : Below w.heap.size w w0.drew := B0.out.drew
      have e1 := e0.trans (HB1.out.mono e0.size)
      have e2 := e1.trans (HB2.out.mono e1.size)
      have e3 := e2.trans (HB3.out.mono e2.size)
      have e4 := e3.trans (HB4.out.mono e3.size)
      have e5 := e4.trans (b4.mono e4.size)
      exact Lib.hid (e5.trans (HB5.out.mono e5.size))
    rw [z4] at hto
    clear hrow k5 k4' k3' k2' k1' hW4 b4 ord1 ord2 prov
    go_wp2_with fail
    go_ret
    exact ⟨_, _, rfl, hbel.out, hto.out⟩
theorem own_cert : Own Tryd.prog 63 := ⟨_, Tryd.func63, by kernel_rfl, by kernel_rfl⟩
end Go.Proofs.YtigoaokpodggcaaDoor
end
section
open Go Go.RowKit
namespace WW
open BB
def zC : Nat → Value := fun i => if i = 0 then .int .i64 0 else if i = 1 then .string ⟨#[]⟩ else .slice none 0 0
theorem zC_row : #[.int .i64 0, .string ⟨#[]⟩, .slice none 0 0] = row 3 zC := by rfl
/-- three of them beside each other -/
structure ThreeC (w0 : World) (a : Nat) (w : World) : Prop where
  below : Below w0.heap.size w0 w
  ra : Blk w a 3 zC
  rx : Blk w (a + 1) 3 zC
  rn : Blk w (a + 1 + 1) 3 zC
theorem threeC_mk (w : World) (a : Nat) (ha : w.heap.size = a) (t : TypeId) : ThreeC w a (((w.alloc (.cells #[.int .i64 0, .string ⟨#[]⟩, .slice none 0 0] t)).alloc (.cells #[.int .i64 0, .string ⟨#[]⟩, .slice none 0 0] t)).alloc (.cells #[.int .i64 0, .string ⟨#[]⟩, .slice none 0 0] t)) := by
  have b1 := (Below.refl w.heap.size w).alloc (Nat.le_refl _) (.cells #[.int .i64 0, .string ⟨#[]⟩, .slice none 0 0] t)
  have b2 := b1.alloc b1.size (.cells #[.int .i64 0, .string ⟨#[]⟩, .slice none 0 0] t)
  exact ⟨b2.alloc b2.size _, ((Blk.new' (by omega) zC_row).alloc _).alloc _, (Blk.new' (by simp; omega) zC_row).alloc _, Blk.new' (by simp; omega) zC_row⟩
theorem ThreeC.on {w0 w w' : World} {a : Nat} (h : ThreeC w0 a w) (hb : Below w.heap.size w w') : ThreeC w0 a w' :=
  ⟨h.below.trans (hb.mono h.below.size), h.ra.below hb h.ra.lt, h.rx.below hb h.rx.lt, h.rn.below hb h.rn.lt⟩
theorem setC {w : World} {a : Nat} {f : Nat → Value} (h : Blk w a 3 f) (u0 u1 u2 : Value) :
    ((((w.setCell ⟨a, 0, none⟩ u0).setCell ⟨a, 1, none⟩ u1).setCell ⟨a, 2, none⟩ u2).cell? ⟨a, 0, none⟩ = some u0 ∧ (((w.setCell ⟨a, 0, none⟩ u0).setCell ⟨a, 1, none⟩ u1).setCell ⟨a, 2, none⟩ u2).cell? ⟨a, 1, none⟩ = some u1 ∧ (((w.setCell ⟨a, 0, none⟩ u0).setCell ⟨a, 1, none⟩ u1).setCell ⟨a, 2, none⟩ u2).cell? ⟨a, 2, none⟩ = some u2) ∧ Upd a w (((w.setCell ⟨a, 0, none⟩ u0).setCell ⟨a, 1, none⟩ u1).setCell ⟨a, 2, none⟩ u2) := by
  have k := (((h.set 0 u0).set 1 u1).set 2 u2)
  exact ⟨⟨k.get 0 (by omega), k.get 1 (by omega), k.get 2 (by omega)⟩, (((Upd.refl a w).trans (Upd.set _ _ _ _)).trans (Upd.set _ _ _ _)).trans (Upd.set _ _ _ _)⟩
/-- all of it is read -/
def certRd (b : ByteArray) : Option CertD :=
  match certI b with
  | none => none
  | some (r, d) => if r.size = 0 then some d else none
end WW
namespace Go.Proofs.YtigoaokpodggcaaDoor
open WW BB
/-- what is answered -/
def CertAns (w : World) (x : Option CertD) (e : Ending) (w' : World) : Prop :=
  match x with
  | none => e = .returned (.tuple #[.agg #[.int .i64 0, .string ⟨#[]⟩, .slice none 0 0], .int .i64 2])
  | some d => ∃ f' lo hi, e = .returned (.tuple #[.agg #[f' 0, f' 1, f' 2], .int .i64 0]) ∧ w.heap.size ≤ lo ∧ hi ≤ w'.heap.size ∧ certR 0 d w' lo hi zC f'
set_option maxRecDepth 100000 in
set_option maxHeartbeats 4000000 in
theorem whole_cert (b : ByteArray) (hb : b.size ≤ 1000000) (w : World) :
    Calls Tryd.prog 62 #[.string b, .func (.func 63) #[] #[]] w fun e w' => CertAns w (certRd b) e w' ∧ Below w.heap.size w w' := by
  obtain ⟨X, hX⟩ : ∃ X, certRd b = X := ⟨_, rfl⟩
  rw [hX]
  have HX := Lib.hid hX
  have HB := Lib.hid hb
  clear hX hb
  go_enter Tryd.func62, Tryd.ntmps62
  go_wp2_with fail
  obtain ⟨a, ha⟩ : ∃ a, w.heap.size = a := ⟨_, rfl⟩
  have K0 := Lib.hid (threeC_mk w a ha 24)
  have HA := Lib.hid ha
  rw [ha]
  clear ha
  generalize ((w.alloc (.cells #[.int .i64 0, .string ⟨#[]⟩, .slice none 0 0] 24)).alloc (.cells #[.int .i64 0, .string ⟨#[]⟩, .slice none 0 0] 24)).alloc (.cells #[.int .i64 0, .string ⟨#[]⟩, .slice none 0 0] 24) = w3 at *
  refine (mk_cert (a + 1) 0 3 w3 (by omega) K0.out.rx.lt).mono ?_
  rintro e w4 ⟨kv, ev, rfl, hb4, hv⟩
  have K4 := Lib.hid (K0.out.on hb4)
  have HV := Lib.hid hv
  clear hb4 hv K0
  go_wp2_with (with_reducible refine hold_callv rfl rfl ?_)
  refine wpl_callv (v := .func (.func kv) #[] ev) (args := #[.string b]) _ rfl rfl rfl (by simp [Act.eval]) (HV.out zC b w4 HB.out (Keep.refl _ _) K4.out.rx (by first | exact ⟨rfl, rfl⟩ | rfl)) Ans.ret ?_
  intro u w5 hu
  obtain ⟨ok, r, hr, he⟩ := hu
  injection hr with hr
  subst hr
  unfold EffR at he
  rcases hsp : certI b with _ | ⟨r', d⟩
  · rw [hsp] at he
    obtain ⟨rfl, f', k5, d5⟩ := he
    have HS := Lib.hid hsp
    have B5 := Lib.hid (K4.out.below.trans (k5.below (by rw [HA.out]; omega) K4.out.below.size))
    have kA := K4.out.ra.keep k5 (by omega)
    have kN := K4.out.rn.keep k5 (by omega)
    have a0 : w5.cell? ⟨a, 0, none⟩ = some (.int .i64 0) := kA.get 0 (by omega)
    have g0 := kA.frz 0
    have a1 : w5.cell? ⟨a, 1, none⟩ = some (.string ⟨#[]⟩) := kA.get 1 (by omega)
    have g1 := kA.frz 1
    have a2 : w5.cell? ⟨a, 2, none⟩ = some (.slice none 0 0) := kA.get 2 (by omega)
    have g2 := kA.frz 2
    have n0 : w5.cell? ⟨a + 1 + 1, 0, none⟩ = some (.int .i64 0) := kN.get 0 (by omega)
    have n1 : w5.cell? ⟨a + 1 + 1, 1, none⟩ = some (.string ⟨#[]⟩) := kN.get 1 (by omega)
    have n2 : w5.cell? ⟨a + 1 + 1, 2, none⟩ = some (.slice none 0 0) := kN.get 2 (by omega)
    have AL := Lib.hid (show w.heap.size ≤ a by rw [HA.out]; exact Nat.le_refl _)
    have KA := Lib.hid kA
    clear k5 d5 hsp kA kN
    go_wp2_with fail
    obtain ⟨⟨q0, q1, q2⟩, qu⟩ := setC KA.out (.int .i64 0) (.string ⟨#[]⟩) (.slice none 0 0)
    refine bodyPost_ret (v := .tuple #[.agg #[.int .i64 0, .string ⟨#[]⟩, .slice none 0 0], .int .i64 2]) (by simp [results, Tryd.results62, go_sem, q0, q1, q2]) rfl ⟨?_, ?_⟩
    · rw [← HX.out, certRd, HS.out]; rfl
    · exact B5.out.trans (qu.below AL.out)
  · rw [hsp] at he
    obtain ⟨rfl, rfl, f', k5, d5, hR⟩ := he
    have HR := Lib.hid hR
    have HS := Lib.hid hsp
    have B5 := Lib.hid (K4.out.below.trans (k5.below (by rw [HA.out]; omega) K4.out.below.size))
    have kA := K4.out.ra.keep k5 (by omega)
    have kN := K4.out.rn.keep k5 (by omega)
    have a0 : w5.cell? ⟨a, 0, none⟩ = some (.int .i64 0) := kA.get 0 (by omega)
    have g0 := kA.frz 0
    have a1 : w5.cell? ⟨a, 1, none⟩ = some (.string ⟨#[]⟩) := kA.get 1 (by omega)
    have g1 := kA.frz 1
    have a2 : w5.cell? ⟨a, 2, none⟩ = some (.slice none 0 0) := kA.get 2 (by omega)
    have g2 := kA.frz 2
    have AL := Lib.hid (show w.heap.size ≤ a by rw [HA.out]; exact Nat.le_refl _)
    have A4 := Lib.hid (show a < w4.heap.size from K4.out.ra.lt)
    have Z4 := Lib.hid K4.out.below.size
    by_cases hr : r.size = 0
    · obtain ⟨sv, hf, hsv⟩ := certR_cells hR
      obtain ⟨sa, scap, rfl, _⟩ := hsv
      have y0 : f' 0 = .int .i64 d.1.1 := by rw [hf]; simp [put]
      have y1 : f' 1 = .string d.1.2 := by rw [hf]; simp [put]
      have y2 : f' 2 = .slice sa d.2.length scap := by rw [hf]; simp [put]
      have x0 : w5.cell? ⟨a + 1, 0, none⟩ = some (.int .i64 d.1.1) := by rw [d5.get 0 (by omega), y0]
      have x1 : w5.cell? ⟨a + 1, 1, none⟩ = some (.string d.1.2) := by rw [d5.get 1 (by omega), y1]
      have x2 : w5.cell? ⟨a + 1, 2, none⟩ = some (.slice sa d.2.length scap) := by rw [d5.get 2 (by omega), y2]
      obtain rfl := nil_size r hr
      have KA := Lib.hid kA
      have HY := Lib.hid (show f' 0 = .int .i64 d.1.1 ∧ f' 1 = .string d.1.2 ∧ f' 2 = .slice sa d.2.length scap from ⟨y0, y1, y2⟩)
      clear k5 hsp kA kN hr d5 hR hf y0 y1 y2
      go_wp2_with fail
      obtain ⟨⟨q0, q1, q2⟩, qu⟩ := setC KA.out (.int .i64 d.1.1) (.string d.1.2) (.slice sa d.2.length scap)
      refine bodyPost_ret (v := .tuple #[.agg #[.int .i64 d.1.1, .string d.1.2, .slice sa d.2.length scap], .int .i64 0]) (by simp [results, Tryd.results62, go_sem, q0, q1, q2]) rfl ⟨?_, ?_⟩
      · rw [← HX.out, certRd, HS.out]
        obtain ⟨y0, y1, y2⟩ := HY.out
        exact ⟨f', w4.heap.size, w5.heap.size, by rw [y0, y1, y2], Z4.out, by rw [qu.size]; exact Nat.le_refl _, (sound_cert 0).keep HR.out fun c h1 h2 => qu.block c (by have := A4.out; omega)⟩
      · exact B5.out.trans (qu.below AL.out)
    · 
      have n0 : w5.cell? ⟨a + 1 + 1, 0, none⟩ = some (.int .i64 0) := kN.get 0 (by omega)
      have n1 : w5.cell? ⟨a + 1 + 1, 1, none⟩ = some (.string ⟨#[]⟩) := kN.get 1 (by omega)
      have n2 : w5.cell? ⟨a + 1 + 1, 2, none⟩ = some (.slice none 0 0) := kN.get 2 (by omega)
      have e0 : r.toList.isEmpty = false := by
        rw [ByteArray.toList_eq]
        rcases hl : r.data.toList with _ | ⟨c, l⟩
        · exact absurd (show r.size = 0 by show r.data.size = 0; rw [← Array.length_toList, hl]; rfl) hr
        · rfl
      have e1 : (!r.toList.isEmpty) = true := by rw [e0]; rfl
      have KA := Lib.hid kA
      have HRS := Lib.hid hr
      clear k5 hsp kA kN hr d5 hR
      go_wp2_with fail
      obtain ⟨⟨q0, q1, q2⟩, qu⟩ := setC KA.out (.int .i64 0) (.string ⟨#[]⟩) (.slice none 0 0)
      refine bodyPost_ret (v := .tuple #[.agg #[.int .i64 0, .string ⟨#[]⟩, .slice none 0 0], .int .i64 2]) (by simp [results, Tryd.results62, go_sem, q0, q1, q2]) rfl ⟨?_, ?_⟩
      · rw [← HX.out, certRd, HS.out]
        dsimp only
        rw [if_neg HRS.out]; rfl
      · exact B5.out.trans (qu.below AL.out)
set_option maxRecDepth 100000 in
set_option maxHeartbeats 4000000 in
theorem read_cert (b : ByteArray) (hb : b.size ≤ 1000000) (w : World) :
    Calls Tryd.prog 46 #[.string b] w fun e w' => CertAns w (certRd b) e w' ∧ Below w.heap.size w w' := by
  obtain ⟨X, hX⟩ : ∃ X, certRd b = X := ⟨_, rfl⟩
  have HW := Lib.hid (fun wx => hX ▸ whole_cert b hb wx)
  rw [hX]
  clear hb hX
  go_enter Tryd.func46, Tryd.ntmps46
  go_wp2_with fail
  obtain ⟨a, ha⟩ : ∃ a, w.heap.size = a := ⟨_, rfl⟩
  have k0 : Blk (w.alloc (.cells #[.int .i64 0, .string ⟨#[]⟩, .slice none 0 0] 24)) a 3 zC := Blk.new' ha.symm zC_row
  have b0 := (Below.refl w.heap.size w).alloc (Nat.le_refl _) (.cells #[.int .i64 0, .string ⟨#[]⟩, .slice none 0 0] 24)
  rw [ha]
  have AL := Lib.hid (show w.heap.size ≤ a by omega)
  clear ha
  generalize w.alloc (.cells #[.int .i64 0, .string ⟨#[]⟩, .slice none 0 0] 24) = w1 at *
  have Z1 := Lib.hid (And.intro b0.size k0.lt)
  refine (HW.out w1).mono ?_
  rintro e w2 ⟨he, hb2⟩
  have KA := Lib.hid (k0.below hb2 k0.lt)
  have B2 := Lib.hid (b0.trans (hb2.mono b0.size))
  clear k0 b0 hb2 HW
  have a0 : w2.cell? ⟨a, 0, none⟩ = some (.int .i64 0) := KA.out.get 0 (by omega)
  have g0 := KA.out.frz 0
  have a1 : w2.cell? ⟨a, 1, none⟩ = some (.string ⟨#[]⟩) := KA.out.get 1 (by omega)
  have g1 := KA.out.frz 1
  have a2 : w2.cell? ⟨a, 2, none⟩ = some (.slice none 0 0) := KA.out.get 2 (by omega)
  have g2 := KA.out.frz 2
  rcases X with _ | d
  · obtain rfl : e = .returned (.tuple #[.agg #[.int .i64 0, .string ⟨#[]⟩, .slice none 0 0], .int .i64 2]) := he
    go_wp2_with fail
    obtain ⟨⟨q0, q1, q2⟩, qu⟩ := setC KA.out (.int .i64 0) (.string ⟨#[]⟩) (.slice none 0 0)
    refine bodyPost_ret (v := .tuple #[.agg #[.int .i64 0, .string ⟨#[]⟩, .slice none 0 0], .int .i64 2]) (by simp [results, Tryd.results46, go_sem, q0, q1, q2]) rfl ⟨rfl, ?_⟩
    exact B2.out.trans (qu.below AL.out)
  · obtain ⟨f', lo, hi, rfl, hlo, hhi, hR⟩ := he
    have HR := Lib.hid hR
    have HLO := Lib.hid (And.intro hlo hhi)
    obtain ⟨sv, hf, hsv⟩ := certR_cells hR
    obtain ⟨sa, scap, rfl, _⟩ := hsv
    have y0 : f' 0 = .int .i64 d.1.1 := by rw [hf]; simp [put]
    have y1 : f' 1 = .string d.1.2 := by rw [hf]; simp [put]
    have y2 : f' 2 = .slice sa d.2.length scap := by rw [hf]; simp [put]
    have HY := Lib.hid (show f' 0 = .int .i64 d.1.1 ∧ f' 1 = .string d.1.2 ∧ f' 2 = .slice sa d.2.length scap from ⟨y0, y1, y2⟩)
    rw [y0, y1, y2]
    clear hR hf hlo hhi y0 y1 y2
    go_wp2_with fail
    obtain ⟨⟨q0, q1, q2⟩, qu⟩ := setC KA.out (.int .i64 d.1.1) (.string d.1.2) (.slice sa d.2.length scap)
    refine bodyPost_ret (v := .tuple #[.agg #[.int .i64 d.1.1, .string d.1.2, .slice sa d.2.length scap], .int .i64 0]) (by simp [results, Tryd.results46, go_sem, q0, q1, q2]) rfl ⟨?_, ?_⟩
    · obtain ⟨y0, y1, y2⟩ := HY.out
      exact ⟨f', lo, hi, by rw [y0, y1, y2], Nat.le_trans Z1.out.1 HLO.out.1, by rw [qu.size]; exact HLO.out.2, (sound_cert 0).keep HR.out fun c h1 h2 => qu.block c (by have := Z1.out.2; have := HLO.out.1; omega)⟩
    · exact B2.out.trans (qu.below AL.out)
end Go.Proofs.YtigoaokpodggcaaDoor
end
section
open Go Go.RowKit
namespace WW
open BB
theorem certRd_some {b r : ByteArray} {d : CertD} (h : certI b = some (r, d)) (h0 : r.size = 0) : certRd b = some d := by unfold certRd; rw [h]; exact if_pos h0
theorem ba_nil (b : ByteArray) : b ++ ⟨#[]⟩ = b := ba_ext (by simp)
theorem certRd_put {c : CertD} (h : certOk c) : certRd (certD c) = some c := by
  have := codec_cert.put c ⟨#[]⟩ h
  rw [ba_nil] at this
  exact certRd_some this rfl
theorem certRd_sound {b : ByteArray} {c : CertD} (h : certRd b = some c) : b = certD c ∧ certOk c := by
  unfold certRd at h
  rcases h1 : certI b with _ | ⟨r, d⟩
  · rw [h1] at h; cases h
  rw [h1] at h
  dsimp only at h
  split at h
  · rename_i h0
    injection h with h
    subst h
    obtain ⟨e1, e2⟩ := codec_cert.sound _ _ _ h1
    exact ⟨by rw [e1, nil_size r h0]; exact ba_ext (by simp), e2⟩
  · cases h
theorem right_small {v : Int} {k : ByteArray} {l : List (Int × List ByteArray)} (h : rightCert v k l = true) : SmallS l ∧ k.size = 32 ∧ l.length ≤ 7 ∧ MemS l := by
  unfold rightCert at h
  simp only [Bool.and_eq_true, decide_eq_true_eq] at h
  obtain ⟨⟨⟨⟨h1, h2⟩, h3⟩, h4⟩, h5⟩ := h
  rw [okTo_iff] at h5
  have hs : ∀ p ∈ l, (∀ t ∈ p.2, t.size = 16) ∧ p.2.length ≤ 7 := fun p hp => by
    have := (all_getD (p := fun p => rightSig p.1 p.2 = true)).1 h5.1 p hp
    unfold rightSig at this
    simp only [Bool.and_eq_true, decide_eq_true_eq, List.all_eq_true] at this
    obtain ⟨a, _, b⟩ := this
    rw [List.take_of_length_le (by omega)] at a
    exact ⟨a, b⟩
  have hfl : ∀ p ∈ l, (flat p.2).length ≤ 112 := fun p hp => by
    have := flat_le 16 p.2 (fun x hx => by have := (hs p hp).1 x hx; omega)
    have := (hs p hp).2
    omega
  have hmem : ∀ i, i < l.length → l.getD i (0, []) ∈ l := fun i hi => by rw [List.getD_eq_getElem?_getD, List.getElem?_eq_getElem hi]; exact List.getElem_mem hi
  refine ⟨⟨by omega, ?_, fun i hi => ⟨by have := hfl _ (hmem i hi); omega, by have := (hs _ (hmem i hi)).2; omega⟩⟩, h3, h4, by omega, fun i hi => by have := (hs _ (hmem i hi)).2; omega⟩
  have := flat_le 200 (sigsB l) (fun x hx => by
    unfold sigsB at hx
    obtain ⟨p, hp, rfl⟩ := List.mem_map.1 hx
    show (num p.1 ++ listB p.2).size ≤ 200
    rw [ByteArray.size_append, flat_size, num_size]
    have := hfl p hp
    omega)
  have e : (sigsB l).length = l.length := by unfold sigsB; rw [List.length_map]
  omega
end WW
namespace Go.Proofs.YtigoaokpodggcaaDoor
open WW BB
theorem certans_some {w w' : World} {d : CertD} {e : Ending} (h : CertAns w (some d) e w') : ∃ sv, e = .returned (.tuple #[.agg #[.int .i64 d.1.1, .string d.1.2, sv], .int .i64 0]) ∧ SigsAt w' sv d.2 := by
  obtain ⟨f', lo, hi, rfl, _, _, hR⟩ := h
  obtain ⟨sv, hf, hsv⟩ := certR_cells hR
  refine ⟨sv, ?_, hsv⟩
  rw [hf]; rfl
end Go.Proofs.YtigoaokpodggcaaDoor
end
section
open Go Go.RowKit
namespace CC
open WW BB
/-- it is right just if it is read as it was -/
theorem right_read {v : Int} {k : ByteArray} {l : List (Int × List ByteArray)} (d : CertD) (h : certRd (certB v k l) = some d) : decide (d = ((v, k), l)) = rightCert v k l := by
  obtain ⟨_, h2⟩ := certRd_sound h
  by_cases hr : rightCert v k l = true
  · have : certRd (certD ((v, k), l)) = some ((v, k), l) := certRd_put hr
    rw [show certD ((v, k), l) = certB v k l from rfl, h] at this
    injection this with this
    rw [hr, this]; simp
  · have hne : d ≠ ((v, k), l) := by rintro rfl; exact hr h2
    rw [show rightCert v k l = false by simpa using hr]; simp [hne]
theorem right_none {v : Int} {k : ByteArray} {l : List (Int × List ByteArray)} (h : certRd (certB v k l) = none) : rightCert v k l = false := by
  rcases hr : rightCert v k l with _ | _
  · rfl
  · have : certRd (certD ((v, k), l)) = some ((v, k), l) := certRd_put hr
    rw [show certD ((v, k), l) = certB v k l from rfl, h] at this
    cases this
end CC
namespace Go.Proofs.YtigoaokpodggcaaDoor
open CC WW BB
set_option maxRecDepth 100000 in
set_option maxHeartbeats 4000000 in
theorem cright_any (v : Int) (k : ByteArray) (sv : Value) (l : List (Int × List ByteArray)) (w : World) (hv : SigsAt w sv l) (hk : k.size ≤ 1000) (hs : SmallS l) (hz : (certB v k l).size ≤ 1000000) :
    Calls Tryd.prog 26 #[.agg #[.int .i64 v, .string k, sv]] w fun e w' => e = .returned (.bool (rightCert v k l)) ∧ Below w.heap.size w w' := by
  have HV := Lib.hid hv
  have HS := Lib.hid hs
  have HK := Lib.hid hk
  have HZ := Lib.hid hz
  obtain ⟨a0, cap, rfl, _⟩ := hv
  clear hs hk hz
  obtain ⟨B, hB⟩ : ∃ B, certB v k l = B := ⟨_, rfl⟩
  obtain ⟨X, hX⟩ : ∃ X, certRd B = X := ⟨_, rfl⟩
  obtain ⟨R, hR⟩ : ∃ R, rightCert v k l = R := ⟨_, rfl⟩
  have HB := Lib.hid hB
  have HX := Lib.hid hX
  have HR := Lib.hid hR
  rw [hR]
  clear hB hX hR
  have b1 := Lib.hid ((Below.refl w.heap.size w).alloc (Nat.le_refl _) (.cells #[.int .i64 v, .string k, .slice a0 l.length cap] 24))
  have q0 := cell_new w #[.int .i64 v, .string k, .slice a0 l.length cap] 24 0 _ rfl
  have q1 := cell_new w #[.int .i64 v, .string k, .slice a0 l.length cap] 24 1 _ rfl
  have q2 := cell_new w #[.int .i64 v, .string k, .slice a0 l.length cap] 24 2 _ rfl
  go_enter Tryd.func26, Tryd.ntmps26
  go_wp2_with fail
  obtain ⟨w1, hw1⟩ : ∃ w1, w.alloc (.cells #[.int .i64 v, .string k, .slice a0 l.length cap] 24) = w1 := ⟨_, rfl⟩
  rw [hw1] at q0 q1 q2 b1 ⊢
  clear hw1
  obtain ⟨g, hg⟩ : ∃ g, w.heap.size = g := ⟨_, rfl⟩
  have HG := Lib.hid hg
  rw [hg] at q0 q1 q2 ⊢
  clear hg
  refine (cert_any v k _ l _ (HV.out.later b1.out) (by have := HK.out; omega) HS.out).mono ?_
  rintro e w2 ⟨rfl, hb2⟩
  rw [HB.out]
  have B2 := Lib.hid (b1.out.trans (hb2.mono b1.out.size))
  have q0 := (hb2.cell (p := ⟨g, 0, none⟩) (World.block_lt_of_cell? w1 _ q0)).trans q0
  have q1 := (hb2.cell (p := ⟨g, 1, none⟩) (World.block_lt_of_cell? w1 _ q1)).trans q1
  have q2 := (hb2.cell (p := ⟨g, 2, none⟩) (World.block_lt_of_cell? w1 _ q2)).trans q2
  clear hb2 b1
  go_wp2_with fail
  refine (read_cert B (by have := HZ.out; rw [← HB.out]; exact this) w2).mono ?_
  rintro e w3 ⟨he, hb3⟩
  rw [HX.out] at he
  have B3 := Lib.hid (B2.out.trans (hb3.mono B2.out.size))
  have q0 := (hb3.cell (p := ⟨g, 0, none⟩) (World.block_lt_of_cell? w2 _ q0)).trans q0
  have q1 := (hb3.cell (p := ⟨g, 1, none⟩) (World.block_lt_of_cell? w2 _ q1)).trans q1
  have q2 := (hb3.cell (p := ⟨g, 2, none⟩) (World.block_lt_of_cell? w2 _ q2)).trans q2
  clear hb3
  rcases X with _ | d
  · obtain rfl : e = .returned (.tuple #[.agg #[.int .i64 0, .string ⟨#[]⟩, .slice none 0 0], .int .i64 2]) := he
    clear q0 q1 q2
    go_wp2_with fail
    go_ret
    refine ⟨?_, B3.out.alloc B3.out.size _⟩
    rw [← HR.out, right_none (by rw [HB.out, HX.out])]; rfl
  · obtain ⟨tv, rfl, hsd⟩ := certans_some he
    have hok := (certRd_sound HX.out).2
    have hsm := right_small hok
    have HSM := Lib.hid hsm
    have HSD := Lib.hid hsd
    have HRR := Lib.hid (show decide (d = ((v, k), l)) = R by rw [← HR.out]; exact right_read d (by rw [HB.out, HX.out]))
    clear he hok hsm
    obtain ⟨⟨dv, dk⟩, dl⟩ := d
    obtain ⟨da, dcap, rfl, _⟩ := hsd
    have b4 := Lib.hid ((Below.refl w3.heap.size w3).alloc (Nat.le_refl _) (.cells #[.int .i64 dv, .string dk, .slice da dl.length dcap] 24))
    have q0 := (b4.out.cell (p := ⟨g, 0, none⟩) (World.block_lt_of_cell? w3 _ q0)).trans q0
    have q1 := (b4.out.cell (p := ⟨g, 1, none⟩) (World.block_lt_of_cell? w3 _ q1)).trans q1
    have q2 := (b4.out.cell (p := ⟨g, 2, none⟩) (World.block_lt_of_cell? w3 _ q2)).trans q2
    go_wp2_with fail
    refine (same_any dv v dk k _ _ dl l _ (HSD.out.later b4.out) (HV.out.later (B3.out.trans (b4.out.mono B3.out.size))) (by have := HSM.out.2.2.1; omega) (fun i hi => (HSM.out.1.2.2 i hi).2)).mono ?_
    rintro e w5 ⟨rfl, hb5⟩
    rw [HRR.out]
    have B5 := Lib.hid ((B3.out.trans (b4.out.mono B3.out.size)).trans (hb5.mono (Nat.le_trans B3.out.size b4.out.size)))
    clear hb5 q0 q1 q2
    go_wp2_with fail
    go_ret
    exact ⟨rfl, B5.out⟩
end Go.Proofs.YtigoaokpodggcaaDoor
end
section
open Go Go.RowKit
namespace BB
def ivL : List (BitVec 32) := [0x6a09e667, 0xbb67ae85, 0x3c6ef372, 0xa54ff53a, 0x510e527f, 0x9b05688c, 0x1f83d9ab, 0x5be0cd19]
def iv (i : Nat) : BitVec 32 := ivL.getD i 0
def sgL : List Nat := [
  0, 1, 2, 3, 4, 5, 6, 7, 8, 9, 10, 11, 12, 13, 14, 15,
  14, 10, 4, 8, 9, 15, 13, 6, 1, 12, 0, 2, 11, 7, 5, 3,
  11, 8, 12, 0, 5, 2, 15, 13, 10, 14, 3, 6, 7, 1, 9, 4,
  7, 9, 3, 1, 13, 12, 11, 14, 2, 6, 5, 10, 4, 0, 15, 8,
  9, 0, 5, 7, 2, 4, 10, 15, 14, 1, 11, 12, 6, 8, 3, 13,
  2, 12, 6, 10, 0, 11, 8, 3, 4, 13, 7, 5, 15, 14, 1, 9,
  12, 5, 1, 15, 14, 13, 4, 10, 0, 7, 6, 3, 9, 2, 8, 11,
  13, 11, 7, 14, 12, 1, 3, 9, 5, 0, 15, 4, 8, 6, 2, 10,
  6, 15, 14, 9, 11, 3, 0, 8, 12, 2, 13, 7, 1, 4, 10, 5,
  10, 2, 8, 4, 7, 6, 1, 5, 15, 11, 9, 14, 3, 12, 13, 0]
def sg (i : Nat) : Nat := sgL.getD i 0
def plL : List Nat := [0, 4, 8, 12, 1, 5, 9, 13, 2, 6, 10, 14, 3, 7, 11, 15, 0, 5, 10, 15, 1, 6, 11, 12, 2, 7, 8, 13, 3, 4, 9, 14]
def pl (i : Nat) : Nat := plL.getD i 0
theorem getD_lt (l : List Nat) (c : Nat) (hc : 0 < c) (h : ∀ x ∈ l, x < c) (i : Nat) : l.getD i 0 < c := by
  rcases Nat.lt_or_ge i l.length with g | g
  · rw [List.getD_eq_getElem?_getD, List.getElem?_eq_getElem g]; exact h _ (List.getElem_mem g)
  · rw [List.getD_eq_getElem?_getD, List.getElem?_eq_none g]; exact hc
set_option maxRecDepth 10000 in
theorem sg_lt (i : Nat) : sg i < 16 := getD_lt _ _ (by decide) (by decide) i
theorem pl_lt (i : Nat) : pl i < 16 := getD_lt _ _ (by decide) (by decide) i
/-- the words that the first k bytes make -/
def wstep (B : Nat → Nat) : Nat → Nat → BitVec 32
  | 0 => fun _ => 0
  | k + 1 => put (wstep B k) (k / 4) (wstep B k (k / 4) ||| BitVec.ofNat 32 (B k) <<< (8 * (k % 4)))
def vinit (h : Nat → BitVec 32) : Nat → Nat → BitVec 32
  | 0 => fun _ => 0
  | k + 1 => put (put (vinit h k) k (h k)) (8 + k) (iv k)
def vcount (h : Nat → BitVec 32) (n : Nat) : Nat → BitVec 32 :=
  put (put (vinit h 8) 12 (vinit h 8 12 ^^^ BitVec.ofNat 32 n)) 13 (vinit h 8 13 ^^^ BitVec.ofNat 32 (n / 4294967296))
def vstart (h : Nat → BitVec 32) (n : Nat) (last : Bool) : Nat → BitVec 32 :=
  if last then put (vcount h n) 14 (vcount h n 14 ^^^ 0xffffffff) else vcount h n
def inner (M : Nat → BitVec 32) (r : Nat) (v : Nat → BitVec 32) : Nat → Nat → BitVec 32
  | 0 => v
  | k + 1 => gmix (inner M r v k) (pl (k * 4)) (pl (k * 4 + 1)) (pl (k * 4 + 2)) (pl (k * 4 + 3)) (M (sg (r * 16 + 2 * k))) (M (sg (r * 16 + (2 * k + 1))))
def outer (M : Nat → BitVec 32) (v : Nat → BitVec 32) : Nat → Nat → BitVec 32
  | 0 => v
  | r + 1 => inner M r (outer M v r) 8
def fin (h v : Nat → BitVec 32) : Nat → Nat → BitVec 32
  | 0 => h
  | k + 1 => put (fin h v k) k (fin h v k k ^^^ (v k ^^^ v (8 + k)))
/-- the eight words behind a block -/
def comp (h : Nat → BitVec 32) (B : Nat → Nat) (n : Nat) (last : Bool) : Nat → BitVec 32 :=
  fin h (outer (wstep B 64) (vstart h n last) 10) 8
theorem xor_lo (x : BitVec 32) (n : Nat) : Value.int .u32 (bits .xor .u32 (x.toNat : Int) ((n : Int) % 4294967296)) = .int .u32 ((x ^^^ BitVec.ofNat 32 n).toNat : Int) := by rw [xor_n]
theorem xor_hi (x : BitVec 32) (n : Nat) : Value.int .u32 (bits .xor .u32 (x.toNat : Int) ((n : Int) / 4294967296 % 4294967296)) = .int .u32 ((x ^^^ BitVec.ofNat 32 (n / 4294967296)).toNat : Int) := by
  rw [show (n : Int) / 4294967296 = ((n / 4294967296 : Nat) : Int) by omega, xor_n]
theorem xor_all (x : BitVec 32) : Value.int .u32 (bits .xor .u32 (x.toNat : Int) 4294967295) = .int .u32 ((x ^^^ 0xffffffff).toNat : Int) := by
  rw [← bvxor]; rfl
end BB
end
section
open Go Go.RowKit
namespace BB
theorem ror_sum (x : BitVec 32) (n : Nat) (hn : n < 32) : (ror n x).toNat = x.toNat % 2 ^ n * 2 ^ (32 - n) + x.toNat / 2 ^ n := by
  unfold ror
  rw [BitVec.or_comm, BitVec.toNat_or, BitVec.toNat_shiftLeft, BitVec.toNat_ushiftRight, Nat.shiftRight_eq_div_pow, Nat.shiftLeft_eq]
  have e : 2 ^ 32 = 2 ^ n * 2 ^ (32 - n) := by rw [← Nat.pow_add]; congr 1; omega
  have h1 : x.toNat * 2 ^ (32 - n) % 2 ^ 32 = 2 ^ (32 - n) * (x.toNat % 2 ^ n) := by
    rw [e, Nat.mul_mod_mul_right, Nat.mul_comm]
  have h2 : x.toNat / 2 ^ n < 2 ^ (32 - n) := by
    rw [Nat.div_lt_iff_lt_mul (Nat.two_pow_pos n), Nat.mul_comm, ← e]
    exact x.isLt
  rw [h1, ← Nat.two_pow_add_eq_or_of_lt h2, Nat.mul_comm]
theorem right_nat (X n : Nat) (hn : n ≤ 32) (hX : X < 2 ^ 32) : (X * 2 ^ 32 + X) / 2 ^ n % 2 ^ 32 = X % 2 ^ n * 2 ^ (32 - n) + X / 2 ^ n := by
  have e : 2 ^ 32 = 2 ^ n * 2 ^ (32 - n) := by rw [← Nat.pow_add]; congr 1; omega
  rw [e] at hX ⊢
  have hA : 0 < 2 ^ n := Nat.two_pow_pos n
  generalize 2 ^ n = A at *
  generalize 2 ^ (32 - n) = B at *
  have hq : X / A < B := by rw [Nat.div_lt_iff_lt_mul hA, Nat.mul_comm]; exact hX
  have hr : X % A < A := Nat.mod_lt _ hA
  have h1 : (X * (A * B) + X) / A = X * B + X / A := by
    rw [show X * (A * B) + X = A * (X * B) + X by rw [Nat.mul_left_comm], Nat.mul_add_div hA]
  have h2 : X * B + X / A = A * B * (X / A) + (X % A * B + X / A) := by
    have := Nat.div_add_mod X A
    calc X * B + X / A = (A * (X / A) + X % A) * B + X / A := by rw [this]
      _ = _ := by rw [Nat.add_mul, Nat.mul_right_comm, Nat.add_assoc]
  rw [h1, h2, Nat.mul_add_mod]
  apply Nat.mod_eq_of_lt
  have h3 : (X % A + 1) * B ≤ A * B := Nat.mul_le_mul_right B hr
  rw [Nat.add_mul, Nat.one_mul] at h3
  omega
theorem right_code (x : BitVec 32) (n : Nat) (hn : n < 32) (Q : Int) (hQ : Q = ((2 ^ n : Nat) : Int)) : ((x.toNat : Int) * 4294967296 + (x.toNat : Int)) / Q % 4294967296 = ((ror n x).toNat : Int) := by
  rw [ror_sum x n hn, ← right_nat x.toNat n (by omega) x.isLt, hQ]
  simp
end BB
namespace Go.Proofs.YtigoaokpodggcaaDoor
open BB
theorem right_any (x : BitVec 32) (n : Nat) (hn : n = 16 ∨ n = 12 ∨ n = 8 ∨ n = 7) (w : World) :
    Calls Tryd.prog 73 #[.int .u64 (x.toNat : Int), .int .u64 (n : Int)] w fun e w' => e = .returned (.int .u64 ((ror n x).toNat : Int)) ∧ w' = w := by
  have hx := x.isLt
  have w1 : IntKind.u64.wrap ((x.toNat : Int) * 4294967296) = (x.toNat : Int) * 4294967296 := by rw [IntKind.wrap_u64]; omega
  have w2 : IntKind.u64.wrap ((x.toNat : Int) * 4294967296 + (x.toNat : Int)) = (x.toNat : Int) * 4294967296 + (x.toNat : Int) := by rw [IntKind.wrap_u64]; omega
  clear hx
  rcases hn with rfl | rfl | rfl | rfl
  · go_enter Tryd.func73, Tryd.ntmps73
    go_wp2
    go_ret
    exact ⟨ret_int (right_code x 16 (by decide) _ (by decide)), rfl⟩
  · go_enter Tryd.func73, Tryd.ntmps73
    go_wp2
    go_ret
    exact ⟨ret_int (right_code x 12 (by decide) _ (by decide)), rfl⟩
  · go_enter Tryd.func73, Tryd.ntmps73
    go_wp2
    go_ret
    exact ⟨ret_int (right_code x 8 (by decide) _ (by decide)), rfl⟩
  · go_enter Tryd.func73, Tryd.ntmps73
    go_wp2
    go_ret
    exact ⟨ret_int (right_code x 7 (by decide) _ (by decide)), rfl⟩
end Go.Proofs.YtigoaokpodggcaaDoor
end
section
open Go Go.RowKit
namespace BB
theorem bvwrap64 (a : BitVec 32) : IntKind.u64.wrap (a.toNat : Int) = (a.toNat : Int) := by
  have := a.isLt; rw [IntKind.wrap_u64]; omega
theorem bvxor64 (a b : BitVec 32) : bits .xor .u64 (a.toNat : Int) (b.toNat : Int) = ((a ^^^ b).toNat : Int) := by
  have ha := a.isLt
  have hb := b.isLt
  rw [bits_xor_u64_nat _ _ (by omega) (by omega), BitVec.toNat_xor]
theorem sum2_wrap (a b : BitVec 32) : IntKind.u64.wrap ((a.toNat : Int) + (b.toNat : Int)) = (a.toNat : Int) + (b.toNat : Int) := by
  have ha := a.isLt
  have hb := b.isLt
  rw [IntKind.wrap_u64]; omega
theorem sum3_wrap (a b c : BitVec 32) : IntKind.u64.wrap ((a.toNat : Int) + (b.toNat : Int) + (c.toNat : Int)) = (a.toNat : Int) + (b.toNat : Int) + (c.toNat : Int) := by
  have ha := a.isLt
  have hb := b.isLt
  have hc := c.isLt
  rw [IntKind.wrap_u64]; omega
theorem sum3_code (a b c : BitVec 32) : Value.int .u64 (((a.toNat : Int) + ((b.toNat : Int) + (c.toNat : Int))) % 4294967296) = .int .u64 ((a + (b + c)).toNat : Int) := by
  have : ((a.toNat : Int) + ((b.toNat : Int) + (c.toNat : Int))) % 4294967296 = ((a + (b + c)).toNat : Int) := by
    rw [BitVec.toNat_add, BitVec.toNat_add]; omega
  rw [this]
theorem sum2_code (a b : BitVec 32) : Value.int .u64 (((a.toNat : Int) + (b.toNat : Int)) % 4294967296) = .int .u64 ((a + b).toNat : Int) := by
  have : ((a.toNat : Int) + (b.toNat : Int)) % 4294967296 = ((a + b).toNat : Int) := by
    rw [BitVec.toNat_add]; omega
  rw [this]
theorem sum2_mod (a b : BitVec 32) : ((a.toNat : Int) + (b.toNat : Int)).tmod 4294967296 = ((a + b).toNat : Int) := by
  rw [Int.tmod_eq_emod_of_nonneg (by omega), BitVec.toNat_add]; omega
theorem sum3_mod (a b c : BitVec 32) : ((a.toNat : Int) + (b.toNat : Int) + (c.toNat : Int)).tmod 4294967296 = ((a + (b + c)).toNat : Int) := by
  rw [Int.tmod_eq_emod_of_nonneg (by omega), BitVec.toNat_add, BitVec.toNat_add]; omega
end BB
namespace Go.Proofs.YtigoaokpodggcaaDoor
open BB
theorem agg_q16 (w : World) : (isAgg 80).run Tryd.prog w = .ok true w := by kernel_rfl
theorem size_q16 (w : World) : (Go.sizeOf 80).run Tryd.prog w = .ok 16 w := by kernel_rfl
set_option maxRecDepth 100000 in
set_option maxHeartbeats 4000000 in
theorem rmix_any (v : Nat → BitVec 32) (a b c d : Nat) (ha : a < 16) (hb : b < 16) (hc : c < 16) (hd : d < 16) (x y : BitVec 32) (w : World) :
    Calls Tryd.prog 59 #[.agg (row 16 (cw .u64 v)), .int .i64 (a : Int), .int .i64 (b : Int), .int .i64 (c : Int), .int .i64 (d : Int), .int .u64 (x.toNat : Int), .int .u64 (y.toNat : Int)] w
      fun e w' => e = .returned (.agg (row 16 (cw .u64 (gmix v a b c d x y)))) ∧ Below w.heap.size w w' := by
  have ha' : (a : Int) < 16 := by omega
  have hb' : (b : Int) < 16 := by omega
  have hc' : (c : Int) < 16 := by omega
  have hd' : (d : Int) < 16 := by omega
  go_enter Tryd.func59, Tryd.ntmps59
  go_wp2_with fail
  obtain ⟨W0, hW0⟩ : ∃ W0, W0 = ((w.alloc (.cells (row 16 (cw .u64 v)) 80)).alloc (.cells (row 16 (cw .u64 fun _ => 0)) 80)) := ⟨_, rfl⟩
  have HB0 : Hid (Below w.heap.size w W0) := by
    rw [hW0]; exact ((Below.refl _ _).alloc (Nat.le_refl _) _).alloc (by simp) _
  have HR0 : Hid (Blk W0 (w.heap.size + 1) 16 (cw .u64 fun _ => 0)) := by
    rw [hW0]; exact Blk.new' (by simp) rfl
  refine abs_wp (MS W0 w.heap.size 16 (cw .u64 v)) ?_ ?_
  · have : MS W0 w.heap.size 16 (cw .u64 v) W0 := MS.mk (by rw [hW0]; exact (Blk.new' rfl rfl).alloc _)
    rw [hW0] at this ⊢
    exact this
  clear hW0
  intro w1 S1
  refine tail_abs 12 (by kernel_rfl) (by kernel_rfl) fun w2 hs => ?_
  have S2 := S1.same hs
  have va : w2.cell? ⟨w.heap.size, a, none⟩ = some (.int .u64 ((v a).toNat : Int)) := S2.get a ha
  have vb : w2.cell? ⟨w.heap.size, b, none⟩ = some (.int .u64 ((v b).toNat : Int)) := S2.get b hb
  have fa := S2.frz a
  have e1 := sum2_wrap (v a) (v b)
  have e2 := sum3_wrap (v a) (v b) x
  have e3 := sum3_mod (v a) (v b) x
  simp only [List.take_succ_cons, List.take_zero, List.drop_succ_cons, List.drop_zero]
  clear hs S1
  clear w1
  repeat still_step
  refine wpStill_nil ?_
  clear e1 e2 e3
  go_wp2_with fail
  refine abs_wp (MS W0 w.heap.size 16 (cw .u64 (add3 v a b x))) (S2.set' a _ _ (cw_put .u64 v a _ _ (sum3_code _ _ _))) ?_
  clear va vb fa S2
  clear w2
  generalize E0 : add3 v a b x = v1
  have H0 := Lib.hid E0
  clear E0
  intro w1 S1
  refine tail_abs 10 (by kernel_rfl) (by kernel_rfl) fun w2 hs => ?_
  have S2 := S1.same hs
  have va : w2.cell? ⟨w.heap.size, d, none⟩ = some (.int .u64 ((v1 d).toNat : Int)) := S2.get d hd
  have vb : w2.cell? ⟨w.heap.size, a, none⟩ = some (.int .u64 ((v1 a).toNat : Int)) := S2.get a ha
  have fa := S2.frz d
  simp only [List.take_succ_cons, List.take_zero, List.drop_succ_cons, List.drop_zero]
  clear hs S1
  clear w1
  repeat still_step
  refine wpStill_step (fun K hK => ?_)
  go_simp
  rw [bvxor64]
  refine ⟨.int .u64 ((ror 16 (v1 d ^^^ v1 a)).toNat : Int), right_any (v1 d ^^^ v1 a) 16 (by simp) w2, ?_⟩
  refine hK _ ?_
  clear hK K
  repeat still_step
  refine wpStill_nil ?_
  go_wp2_with fail
  refine abs_wp (MS W0 w.heap.size 16 (cw .u64 (turn 16 v1 d a))) (S2.set' d _ _ (cw_put .u64 v1 d _ _ rfl)) ?_
  clear va vb fa S2
  clear w2
  generalize E1 : turn 16 v1 d a = v2
  have H1 := Lib.hid E1
  clear E1
  intro w1 S1
  refine tail_abs 10 (by kernel_rfl) (by kernel_rfl) fun w2 hs => ?_
  have S2 := S1.same hs
  have va : w2.cell? ⟨w.heap.size, c, none⟩ = some (.int .u64 ((v2 c).toNat : Int)) := S2.get c hc
  have vb : w2.cell? ⟨w.heap.size, d, none⟩ = some (.int .u64 ((v2 d).toNat : Int)) := S2.get d hd
  have fa := S2.frz c
  have e1 := sum2_wrap (v2 c) (v2 d)
  have e3 := sum2_mod (v2 c) (v2 d)
  simp only [List.take_succ_cons, List.take_zero, List.drop_succ_cons, List.drop_zero]
  clear hs S1
  clear w1
  repeat still_step
  refine wpStill_nil ?_
  clear e1 e3
  go_wp2_with fail
  refine abs_wp (MS W0 w.heap.size 16 (cw .u64 (add2 v2 c d))) (S2.set' c _ _ (cw_put .u64 v2 c _ _ (sum2_code _ _))) ?_
  clear va vb fa S2
  clear w2
  generalize E2 : add2 v2 c d = v3
  have H2 := Lib.hid E2
  clear E2
  intro w1 S1
  refine tail_abs 10 (by kernel_rfl) (by kernel_rfl) fun w2 hs => ?_
  have S2 := S1.same hs
  have va : w2.cell? ⟨w.heap.size, b, none⟩ = some (.int .u64 ((v3 b).toNat : Int)) := S2.get b hb
  have vb : w2.cell? ⟨w.heap.size, c, none⟩ = some (.int .u64 ((v3 c).toNat : Int)) := S2.get c hc
  have fa := S2.frz b
  simp only [List.take_succ_cons, List.take_zero, List.drop_succ_cons, List.drop_zero]
  clear hs S1
  clear w1
  repeat still_step
  refine wpStill_step (fun K hK => ?_)
  go_simp
  rw [bvxor64]
  refine ⟨.int .u64 ((ror 12 (v3 b ^^^ v3 c)).toNat : Int), right_any (v3 b ^^^ v3 c) 12 (by simp) w2, ?_⟩
  refine hK _ ?_
  clear hK K
  repeat still_step
  refine wpStill_nil ?_
  go_wp2_with fail
  refine abs_wp (MS W0 w.heap.size 16 (cw .u64 (turn 12 v3 b c))) (S2.set' b _ _ (cw_put .u64 v3 b _ _ rfl)) ?_
  clear va vb fa S2
  clear w2
  generalize E3 : turn 12 v3 b c = v4
  have H3 := Lib.hid E3
  clear E3
  intro w1 S1
  refine tail_abs 12 (by kernel_rfl) (by kernel_rfl) fun w2 hs => ?_
  have S2 := S1.same hs
  have va : w2.cell? ⟨w.heap.size, a, none⟩ = some (.int .u64 ((v4 a).toNat : Int)) := S2.get a ha
  have vb : w2.cell? ⟨w.heap.size, b, none⟩ = some (.int .u64 ((v4 b).toNat : Int)) := S2.get b hb
  have fa := S2.frz a
  have e1 := sum2_wrap (v4 a) (v4 b)
  have e2 := sum3_wrap (v4 a) (v4 b) y
  have e3 := sum3_mod (v4 a) (v4 b) y
  simp only [List.take_succ_cons, List.take_zero, List.drop_succ_cons, List.drop_zero]
  clear hs S1
  clear w1
  repeat still_step
  refine wpStill_nil ?_
  clear e1 e2 e3
  go_wp2_with fail
  refine abs_wp (MS W0 w.heap.size 16 (cw .u64 (add3 v4 a b y))) (S2.set' a _ _ (cw_put .u64 v4 a _ _ (sum3_code _ _ _))) ?_
  clear va vb fa S2
  clear w2
  generalize E4 : add3 v4 a b y = v5
  have H4 := Lib.hid E4
  clear E4
  intro w1 S1
  refine tail_abs 10 (by kernel_rfl) (by kernel_rfl) fun w2 hs => ?_
  have S2 := S1.same hs
  have va : w2.cell? ⟨w.heap.size, d, none⟩ = some (.int .u64 ((v5 d).toNat : Int)) := S2.get d hd
  have vb : w2.cell? ⟨w.heap.size, a, none⟩ = some (.int .u64 ((v5 a).toNat : Int)) := S2.get a ha
  have fa := S2.frz d
  simp only [List.take_succ_cons, List.take_zero, List.drop_succ_cons, List.drop_zero]
  clear hs S1
  clear w1
  repeat still_step
  refine wpStill_step (fun K hK => ?_)
  go_simp
  rw [bvxor64]
  refine ⟨.int .u64 ((ror 8 (v5 d ^^^ v5 a)).toNat : Int), right_any (v5 d ^^^ v5 a) 8 (by simp) w2, ?_⟩
  refine hK _ ?_
  clear hK K
  repeat still_step
  refine wpStill_nil ?_
  go_wp2_with fail
  refine abs_wp (MS W0 w.heap.size 16 (cw .u64 (turn 8 v5 d a))) (S2.set' d _ _ (cw_put .u64 v5 d _ _ rfl)) ?_
  clear va vb fa S2
  clear w2
  generalize E5 : turn 8 v5 d a = v6
  have H5 := Lib.hid E5
  clear E5
  intro w1 S1
  refine tail_abs 10 (by kernel_rfl) (by kernel_rfl) fun w2 hs => ?_
  have S2 := S1.same hs
  have va : w2.cell? ⟨w.heap.size, c, none⟩ = some (.int .u64 ((v6 c).toNat : Int)) := S2.get c hc
  have vb : w2.cell? ⟨w.heap.size, d, none⟩ = some (.int .u64 ((v6 d).toNat : Int)) := S2.get d hd
  have fa := S2.frz c
  have e1 := sum2_wrap (v6 c) (v6 d)
  have e3 := sum2_mod (v6 c) (v6 d)
  simp only [List.take_succ_cons, List.take_zero, List.drop_succ_cons, List.drop_zero]
  clear hs S1
  clear w1
  repeat still_step
  refine wpStill_nil ?_
  clear e1 e3
  go_wp2_with fail
  refine abs_wp (MS W0 w.heap.size 16 (cw .u64 (add2 v6 c d))) (S2.set' c _ _ (cw_put .u64 v6 c _ _ (sum2_code _ _))) ?_
  clear va vb fa S2
  clear w2
  generalize E6 : add2 v6 c d = v7
  have H6 := Lib.hid E6
  clear E6
  intro w1 S1
  refine tail_abs 10 (by kernel_rfl) (by kernel_rfl) fun w2 hs => ?_
  have S2 := S1.same hs
  have va : w2.cell? ⟨w.heap.size, b, none⟩ = some (.int .u64 ((v7 b).toNat : Int)) := S2.get b hb
  have vb : w2.cell? ⟨w.heap.size, c, none⟩ = some (.int .u64 ((v7 c).toNat : Int)) := S2.get c hc
  have fa := S2.frz b
  simp only [List.take_succ_cons, List.take_zero, List.drop_succ_cons, List.drop_zero]
  clear hs S1
  clear w1
  repeat still_step
  refine wpStill_step (fun K hK => ?_)
  go_simp
  rw [bvxor64]
  refine ⟨.int .u64 ((ror 7 (v7 b ^^^ v7 c)).toNat : Int), right_any (v7 b ^^^ v7 c) 7 (by simp) w2, ?_⟩
  refine hK _ ?_
  clear hK K
  repeat still_step
  refine wpStill_nil ?_
  go_wp2_with (with_reducible refine hold_load (.tmp 7) rfl ?_)
  refine abs_list (MS W0 w.heap.size 16 (cw .u64 (turn 7 v7 b c))) (S2.set' b _ _ (cw_put .u64 v7 b _ _ rfl)) ?_
  clear va vb fa S2
  clear w2
  generalize E7 : turn 7 v7 b c = v8
  have H7 := Lib.hid E7
  clear E7
  intro w1 S1
  refine wpl_load (.tmp 7) w.heap.size 0 16 16 (cw .u64 v8) rfl rfl rfl (agg_q16 _) (size_q16 _) S1.1.cells (by omega) ?_
  have R1 := Blk.upd HR0.out S1.2 (by omega)
  go_wp2_with (with_reducible refine hold_store (.tmp 14) (.tmp 99) rfl ?_)
  refine wpl_store (.tmp 14) (.tmp 99) (w.heap.size + 1) 0 16 16 (cw .u64 fun _ => 0) (cw .u64 v8) rfl rfl rfl (by simp [Act.eval]) (size_q16 _) R1 (by omega) (fun _ _ => rfl) ?_
  intro w3 h3
  go_wp2_with fail
  have h4 : Blk w3 (w.heap.size + 1) 16 (cw .u64 v8) := h3.1.congr _ fun i hi => by simp [hi]
  refine body_row (p := 14) (by kernel_rfl) rfl (agg_q16 _) (size_q16 _) h4.cells (by omega) rfl ⟨?_, (HB0.out.trans (S1.2.below (Nat.le_refl _))).trans (h3.2.below (by omega))⟩
  unfold gmix
  rw [H0.out, H1.out, H2.out, H3.out, H4.out, H5.out, H6.out, H7.out]
end Go.Proofs.YtigoaokpodggcaaDoor
end
