/-
  The walk of the code's Holds.
-/
import Derived.Test.YtigoaokpodggcaaDoorKWRise
import Derived.Deep.RegionHeld3
import Derived.Deep.CutRange
import Derived.Test.YtigoaokpodggcaaDoorKWCutR
import Derived.Test.YtigoaokpodggcaaDoorKWRight
import Derived.Test.YtigoaokpodggcaaDoorKERow
section
open Go Go.RowKit
namespace WW
open BB
/-- a certificate's first two parts, from cell o on -/
def certR1 (o : Nat) : RelT (Int × ByteArray) := seqR (numR o) (strR (o + 1))
end WW
namespace Go.Proofs.YtigoaokpodggcaaDoor
open WW BB
/-- a certificate, from cell o on -/
def certR (o : Nat) : RelT CertD := seqR (certR1 o) (listR 35 2 zG (sigR 0) (o + 2))
theorem sound_cert (o : Nat) : SoundR (certR o) := ((sound_num o).seq (sound_str (o + 1))).seq (sound_list (sound_sig 0))
/-- what a certificate's cells are -/
theorem certR_cells {o : Nat} {c : CertD} {w : World} {lo hi : Nat} {f f' : Nat → Value} (h : certR o c w lo hi f f') : ∃ sv, f' = put (put (put f o (.int .i64 c.1.1)) (o + 1) (.string c.1.2)) (o + 2) sv ∧ SigsAt w sv c.2 := by
  obtain ⟨g, ⟨g1, h1, h2⟩, sv, xs, h3, h4⟩ := h
  refine ⟨sv, ?_, sigs_at h4⟩
  rw [h3, show g = put g1 (o + 1) _ from h2, show g1 = put f o _ from h1]
set_option maxRecDepth 100000 in
theorem mk_provided (kh : Nat) (env : Array Value) (w : World) :
    Calls Tryd.prog 82 #[.func (.func kh) #[] env] w fun e w' => e = .returned (.func (.func 102) #[] #[.pointer (some ⟨w.heap.size, 0, none⟩)]) ∧ Below w.heap.size w w' ∧ w'.cell? ⟨w.heap.size, 0, none⟩ = some (.func (.func kh) #[] env) := by
  go_enter Tryd.func82, Tryd.ntmps82
  go_wp2_with fail
  go_ret
  exact ⟨rfl, (Below.refl w.heap.size w).alloc (Nat.le_refl _) _, cell_at _ _ _ _ rfl⟩
theorem own_provided : Own Tryd.prog 102 := ⟨_, Tryd.func102, by kernel_rfl, by kernel_rfl⟩
set_option maxRecDepth 100000 in
/-- the closure that tells whether what holds of what was read -/
theorem provided_call (kh : Nat) (env : Array Value) (bp : Nat) (b : ByteArray) (x : Bool) (w : World) (hp : w.cell? ⟨bp, 0, none⟩ = some (.func (.func kh) #[] env)) (hc : CallsV Tryd.prog (.func (.func kh) #[] env) #[] w fun e w' => e = .returned (.bool x) ∧ Below w.heap.size w w') :
    Cut Tryd.prog (.func (.func 102) #[] #[.pointer (some ⟨bp, 0, none⟩)]) b w (fun ok r w' => ok = x ∧ r = b ∧ Below w.heap.size w w') := by
  refine ⟨_, _, rfl, own_provided, ?_⟩
  show Calls Tryd.prog 102 #[.string b, .pointer (some ⟨bp, 0, none⟩)] w _
  have HC := Lib.hid hc
  clear hc
  go_enter Tryd.func102, Tryd.ntmps102
  go_wp2_with (with_reducible refine hold_callv rfl rfl ?_)
  refine wpl_callv (v := .func (.func kh) #[] env) (args := #[]) _ rfl rfl rfl (by simp) HC.out (fun _ _ ⟨h, _⟩ => ⟨_, h⟩) ?_
  rintro u w4 ⟨hu, hb4⟩
  injection hu with hu
  subst hu
  have HB := Lib.hid hb4
  clear hb4 hp
  go_wp2_with fail
  go_ret2
  exact ⟨x, b, rfl, rfl, rfl, HB.out⟩
theorem own_cert1 : Own Tryd.prog 83 := ⟨_, Tryd.func83, by kernel_rfl, by kernel_rfl⟩
set_option maxRecDepth 100000 in
theorem cert1_call (bc t o : Nat) (sv : Value) (l : List (Int × List ByteArray)) (w : World) (hb : w.cell? ⟨bc, 0, none⟩ = some (.pointer (some ⟨t, o, none⟩))) (hc : w.cell? ⟨t, o + 2, none⟩ = some sv) (hv : SigsAt w sv l) (hl : l.length ≤ 100) :
    CallsV Tryd.prog (.func (.func 83) #[] #[.pointer (some ⟨bc, 0, none⟩)]) #[] w fun e w' => e = .returned (.bool (rises l)) ∧ Below w.heap.size w w' := by
  refine ⟨_, _, rfl, own_cert1, ?_⟩
  show Calls Tryd.prog 83 #[.pointer (some ⟨bc, 0, none⟩)] w _
  have hr := rising_any sv l w hv hl
  obtain ⟨x, hx⟩ : ∃ x, rises l = x := ⟨_, rfl⟩
  rw [hx] at hr ⊢
  have HR := Lib.hid hr
  clear hv hl hr hx
  go_enter Tryd.func83, Tryd.ntmps83
  go_wp2_with fail
  refine HR.out.mono ?_
  rintro e w1 ⟨rfl, hb1⟩
  have HB := Lib.hid hb1
  clear hb1 hb hc
  go_wp2_with fail
  go_ret
  exact ⟨rfl, HB.out⟩
theorem hold2 {w w1 : World} {t bc : Nat} {v : Value} (h : t < w.heap.size ∧ w.cell? ⟨bc, 0, none⟩ = some v) (hb : Below w.heap.size w w1) : t < w1.heap.size ∧ w1.cell? ⟨bc, 0, none⟩ = some v := ⟨Nat.lt_of_lt_of_le h.1 hb.size, keep_cell h.2 hb⟩
set_option maxRecDepth 100000 in
set_option maxHeartbeats 4000000 in
theorem mk_cert (t o n : Nat) (w : World) (ho : o + 2 < n) (ht : t < w.heap.size) :
    Calls Tryd.prog 63 #[.pointer (some ⟨t, o, none⟩)] w (MakesR Tryd.prog t n w (fun f => f (o + 2) = .slice none 0 0) certI (certR o)) := by
  have HO := Lib.hid ho
  have HT := Lib.hid ht
  clear ho ht
  go_enter Tryd.func63, Tryd.ntmps63
  go_upto_region 1 with fail
  have b0 := (Below.refl w.heap.size w).alloc (Nat.le_refl _) (.cells #[.pointer (some ⟨t, o, none⟩)] 98)
  have cb := cell_new w #[.pointer (some ⟨t, o, none⟩)] 98 0 _ rfl
  obtain ⟨bc, hbc⟩ : ∃ bc, w.heap.size = bc := ⟨_, rfl⟩
  rw [hbc] at cb ⊢
  have B0 := Lib.hid b0
  have HBC := Lib.hid hbc
  clear hbc b0
  generalize w.alloc (.cells #[.pointer (some ⟨t, o, none⟩)] 98) = w0 at *
  have hst : t < w0.drew.heap.size ∧ w0.drew.cell? ⟨bc, 0, none⟩ = some (.pointer (some ⟨t, o, none⟩)) := ⟨Nat.lt_of_lt_of_le HT.out B0.out.size, cb⟩
  go_region_held3 (fun w' => t < w'.heap.size ∧ w'.cell? ⟨bc, 0, none⟩ = some (.pointer (some ⟨t, o, none⟩))) (first | exact hst | exact hk | exact hold2 hk ((Below.refl _ _).alloc (Nat.le_refl _) _))
    (first
      | (go_at_call 78; refine (mk_num t _ n _ _ _ (by have := HO.out; omega) (by first | exact hst.1 | exact hk.1)).mono ?_; rintro e w1 ⟨k1, env1, rfl, hb1, hv1⟩; have hk := hold2 (by first | exact hk | exact hst) hb1; have HB1 := Lib.hid hb1; have HV1 := Lib.hid hv1; clear hb1 hv1)
      | (go_at_call 79; refine (mk_bytes t _ n 32 _ (by have := HO.out; omega) hk.1).mono ?_; rintro e w2 ⟨k2, env2, rfl, hb2, hv2⟩; have hk := hold2 hk hb2; have HB2 := Lib.hid hb2; have HV2 := Lib.hid hv2; clear hb2 hv2)
      | (go_at_call 80; refine (mk_listG sigI (sigR 0) (sound_sig 0) (fun _ _ _ h => codec_sig.size h) one_sig t _ n 7 _ _ _ (by omega) (by have := HO.out; omega) hk.1 each_sig).mono ?_; rintro e w3 ⟨k3, env3, rfl, hb3, hv3⟩; have hk := hold2 hk hb3; have HB3 := Lib.hid hb3; have HV3 := Lib.hid hv3; clear hb3 hv3)
      | (go_at_call 82; refine (mk_provided _ _ _).mono ?_; rintro e w4 ⟨rfl, hb4, hv4⟩; have hk := hold2 hk hb4; have HB4 := Lib.hid hb4; have HV4 := Lib.hid hv4; clear hb4 hv4)
      | (go_at_call 77; refine (mk_order _ _ _ _).mono ?_; rintro e w5 ⟨rfl, hb5, hv5⟩; have hk := hold2 (hold2 hk ((Below.refl _ _).alloc (Nat.le_refl _) _)) hb5; have HB5 := Lib.hid hb5; have HV5 := Lib.hid hv5; clear hb5 hv5))
  all_goals
    obtain ⟨W4, hW4⟩ : ∃ W4, W4 = w4.alloc (.cells #[.func (.func k1) #[] env1, .func (.func k2) #[] env2, .func (.func k3) #[] env3, .func (.func 102) #[] #[.pointer (some ⟨w3.heap.size, 0, none⟩)]] 97) := ⟨_, rfl⟩
    rw [← hW4] at HB5 HV5
    have z4 : W4.heap.size = w4.heap.size + 1 := by rw [hW4]; simp
    have b4 : Below w4.heap.size w4 W4 := by rw [hW4]; exact (Below.refl _ _).alloc (Nat.le_refl _) _
    have hrow : InRow w4.heap.size [.func (.func k1) #[] env1, .func (.func k2) #[] env2, .func (.func k3) #[] env3, .func (.func 102) #[] #[.pointer (some ⟨w3.heap.size, 0, none⟩)]] W4 := by
      rw [hW4]
      intro i hi
      match i, hi with
      | 0, _ => exact cell_new _ _ _ _ _ rfl
      | 1, _ => exact cell_new _ _ _ _ _ rfl
      | 2, _ => exact cell_new _ _ _ _ _ rfl
      | 3, _ => exact cell_new _ _ _ _ _ rfl
    have tb : t < bc := by have := HT.out; have := HBC.out; omega
    have b3w : bc < w3.heap.size := Nat.lt_of_lt_of_le (World.block_lt_of_cell? _ _ cb) (Nat.le_trans HB1.out.size (Nat.le_trans HB2.out.size HB3.out.size))
    have b4w : w3.heap.size < w4.heap.size := World.block_lt_of_cell? _ _ HV4.out
    have k5 : Keep t W4 w5 := keep_of_below HB5.out (Nat.le_refl _) t
    have k4' : Keep t w4 w5 := (keep_of_below b4 (Nat.le_refl _) t).trans k5
    have k3' : Keep t w3 w5 := (keep_of_below HB4.out (Nat.le_refl _) t).trans k4'
    have k2' : Keep t w2 w5 := (keep_of_below HB3.out (Nat.le_refl _) t).trans k3'
    have k1' : Keep t w1 w5 := (keep_of_below HB2.out (Nat.le_refl _) t).trans k2'
    have ord1 : OrdR Tryd.prog t n [.func (.func k1) #[] env1, .func (.func k2) #[] env2] w5 (fun f => f (o + 2) = .slice none 0 0) (seqSp (numI 0 1000000) (bytesSp 32)) (certR1 o) :=
      (OrdR.one ((cutr_num (HV1.out.later k1')).weak (fun _ _ => trivial) (fun _ _ _ _ _ _ h => h))).app (cutr_str (HV2.out.later k2')) (sound_num o) (sound_str (o + 1)) (fun b r x h => (codec_num 0 1000000 (by omega) (by omega)).size h) (fun _ _ _ _ _ _ _ _ => trivial)
    have ord2 : OrdR Tryd.prog t n [.func (.func k1) #[] env1, .func (.func k2) #[] env2, .func (.func k3) #[] env3] w5 (fun f => f (o + 2) = .slice none 0 0) (seqSp (seqSp (numI 0 1000000) (bytesSp 32)) (countSp 7 sigI)) (certR o) :=
      ord1.app (HV3.out.later k3') ((sound_num o).seq (sound_str (o + 1))) (sound_list (sound_sig 0)) (fun b r x h => ((codec_num 0 1000000 (by omega) (by omega)).seq (codec_bytes 32)).size h) (fun d w lo hi f g hp hg => by
        obtain ⟨g1, h1, h2⟩ := hg
        rw [show g = put g1 (o + 1) _ from h2, show g1 = put f o _ from h1]; simpa [put] using hp)
    have prov : ProvR Tryd.prog t n (.func (.func 102) #[] #[.pointer (some ⟨w3.heap.size, 0, none⟩)]) w5 (fun f => f (o + 2) = .slice none 0 0) (seqSp (seqSp (numI 0 1000000) (bytesSp 32)) (countSp 7 sigI)) (certR o) (fun c => rises c.2) := by
      rintro d f f' lo hi b wx ⟨b0, r0, hA⟩ hk hhi hblk hp hR
      obtain ⟨_, _, h7, _⟩ := (((codec_num 0 1000000 (by omega) (by omega)).seq (codec_bytes 32)).seq (codec_sig.count 7 (by omega))).sound _ _ _ hA
      obtain ⟨sv, hf', hS⟩ := certR_cells hR
      refine provided_call 83 #[.pointer (some ⟨bc, 0, none⟩)] w3.heap.size b (rises d.2) wx (keep_cell2 (keep_cell2 HV4.out (by omega) k4') (by omega) hk) ?_
      refine cert1_call bc t o sv d.2 wx (keep_cell2 (keep_cell2 hst.2 (by omega) ((keep_of_below HB1.out (Nat.le_refl _) t).trans k1')) (by omega) hk) ?_ hS (by omega)
      have := hblk.get (o + 2) HO.out
      rw [this, hf']; simp [put]
    have hto := Lib.hid (order_cutR (cap := 4) (bx := W4.heap.size) (ord2.prov prov (sound_cert o)) (InRow_keep hrow (by omega) (by omega) k5) HV5.out (by omega) (by have := HB5.out.size; omega) (by omega) (by simp))
    have hbel : Hid (Below w.heap.size w w5) := by
      have e0 : Below w.heap.size w w0.drew := B0.out.drew
      have e1 := e0.trans (HB1.out.mono e0.size)
      have e2 := e1.trans (HB2.out.mono e1.size)
      have e3 := e2.trans (HB3.out.mono e2.size)
      have e4 := e3.trans (HB4.out.mono e3.size)
      have e5 := e4.trans (b4.mono e4.size)
      exact Lib.hid (e5.trans (HB5.out.mono e5.size))
    rw [z4] at hto
    clear hrow k5 k4' k3' k2' k1' hW4 b4 ord1 ord2 prov
    go_wp2_with fail
    go_ret
    exact ⟨_, _, rfl, hbel.out, hto.out⟩
theorem own_cert : Own Tryd.prog 63 := ⟨_, Tryd.func63, by kernel_rfl, by kernel_rfl⟩
end Go.Proofs.YtigoaokpodggcaaDoor
end
section
open Go Go.RowKit
namespace WW
open BB
def zC : Nat → Value := fun i => if i = 0 then .int .i64 0 else if i = 1 then .string ⟨#[]⟩ else .slice none 0 0
theorem zC_row : #[.int .i64 0, .string ⟨#[]⟩, .slice none 0 0] = row 3 zC := by rfl
/-- three of them beside each other -/
structure ThreeC (w0 : World) (a : Nat) (w : World) : Prop where
  below : Below w0.heap.size w0 w
  ra : Blk w a 3 zC
  rx : Blk w (a + 1) 3 zC
  rn : Blk w (a + 1 + 1) 3 zC
theorem threeC_mk (w : World) (a : Nat) (ha : w.heap.size = a) (t : TypeId) : ThreeC w a (((w.alloc (.cells #[.int .i64 0, .string ⟨#[]⟩, .slice none 0 0] t)).alloc (.cells #[.int .i64 0, .string ⟨#[]⟩, .slice none 0 0] t)).alloc (.cells #[.int .i64 0, .string ⟨#[]⟩, .slice none 0 0] t)) := by
  have b1 := (Below.refl w.heap.size w).alloc (Nat.le_refl _) (.cells #[.int .i64 0, .string ⟨#[]⟩, .slice none 0 0] t)
  have b2 := b1.alloc b1.size (.cells #[.int .i64 0, .string ⟨#[]⟩, .slice none 0 0] t)
  exact ⟨b2.alloc b2.size _, ((Blk.new' (by omega) zC_row).alloc _).alloc _, (Blk.new' (by simp; omega) zC_row).alloc _, Blk.new' (by simp; omega) zC_row⟩
theorem ThreeC.on {w0 w w' : World} {a : Nat} (h : ThreeC w0 a w) (hb : Below w.heap.size w w') : ThreeC w0 a w' :=
  ⟨h.below.trans (hb.mono h.below.size), h.ra.below hb h.ra.lt, h.rx.below hb h.rx.lt, h.rn.below hb h.rn.lt⟩
theorem setC {w : World} {a : Nat} {f : Nat → Value} (h : Blk w a 3 f) (u0 u1 u2 : Value) :
    ((((w.setCell ⟨a, 0, none⟩ u0).setCell ⟨a, 1, none⟩ u1).setCell ⟨a, 2, none⟩ u2).cell? ⟨a, 0, none⟩ = some u0 ∧ (((w.setCell ⟨a, 0, none⟩ u0).setCell ⟨a, 1, none⟩ u1).setCell ⟨a, 2, none⟩ u2).cell? ⟨a, 1, none⟩ = some u1 ∧ (((w.setCell ⟨a, 0, none⟩ u0).setCell ⟨a, 1, none⟩ u1).setCell ⟨a, 2, none⟩ u2).cell? ⟨a, 2, none⟩ = some u2) ∧ Upd a w (((w.setCell ⟨a, 0, none⟩ u0).setCell ⟨a, 1, none⟩ u1).setCell ⟨a, 2, none⟩ u2) := by
  have k := (((h.set 0 u0).set 1 u1).set 2 u2)
  exact ⟨⟨k.get 0 (by omega), k.get 1 (by omega), k.get 2 (by omega)⟩, (((Upd.refl a w).trans (Upd.set _ _ _ _)).trans (Upd.set _ _ _ _)).trans (Upd.set _ _ _ _)⟩
/-- all of it is read -/
def certRd (b : ByteArray) : Option CertD :=
  match certI b with
  | none => none
  | some (r, d) => if r.size = 0 then some d else none
end WW
namespace Go.Proofs.YtigoaokpodggcaaDoor
open WW BB
/-- what is answered -/
def CertAns (w : World) (x : Option CertD) (e : Ending) (w' : World) : Prop :=
  match x with
  | none => e = .returned (.tuple #[.agg #[.int .i64 0, .string ⟨#[]⟩, .slice none 0 0], .int .i64 2])
  | some d => ∃ f' lo hi, e = .returned (.tuple #[.agg #[f' 0, f' 1, f' 2], .int .i64 0]) ∧ w.heap.size ≤ lo ∧ hi ≤ w'.heap.size ∧ certR 0 d w' lo hi zC f'
set_option maxRecDepth 100000 in
set_option maxHeartbeats 4000000 in
theorem whole_cert (b : ByteArray) (hb : b.size ≤ 1000000) (w : World) :
    Calls Tryd.prog 62 #[.string b, .func (.func 63) #[] #[]] w fun e w' => CertAns w (certRd b) e w' ∧ Below w.heap.size w w' := by
  obtain ⟨X, hX⟩ : ∃ X, certRd b = X := ⟨_, rfl⟩
  rw [hX]
  have HX := Lib.hid hX
  have HB := Lib.hid hb
  clear hX hb
  go_enter Tryd.func62, Tryd.ntmps62
  go_wp2_with fail
  obtain ⟨a, ha⟩ : ∃ a, w.heap.size = a := ⟨_, rfl⟩
  have K0 := Lib.hid (threeC_mk w a ha 24)
  have HA := Lib.hid ha
  rw [ha]
  clear ha
  generalize ((w.alloc (.cells #[.int .i64 0, .string ⟨#[]⟩, .slice none 0 0] 24)).alloc (.cells #[.int .i64 0, .string ⟨#[]⟩, .slice none 0 0] 24)).alloc (.cells #[.int .i64 0, .string ⟨#[]⟩, .slice none 0 0] 24) = w3 at *
  refine (mk_cert (a + 1) 0 3 w3 (by omega) K0.out.rx.lt).mono ?_
  rintro e w4 ⟨kv, ev, rfl, hb4, hv⟩
  have K4 := Lib.hid (K0.out.on hb4)
  have HV := Lib.hid hv
  clear hb4 hv K0
  go_wp2_with (with_reducible refine hold_callv rfl rfl ?_)
  refine wpl_callv (v := .func (.func kv) #[] ev) (args := #[.string b]) _ rfl rfl rfl (by simp [Act.eval]) (HV.out zC b w4 HB.out (Keep.refl _ _) K4.out.rx (by first | exact ⟨rfl, rfl⟩ | rfl)) Ans.ret ?_
  intro u w5 hu
  obtain ⟨ok, r, hr, he⟩ := hu
  injection hr with hr
  subst hr
  unfold EffR at he
  rcases hsp : certI b with _ | ⟨r', d⟩
  · rw [hsp] at he
    obtain ⟨rfl, f', k5, d5⟩ := he
    have HS := Lib.hid hsp
    have B5 := Lib.hid (K4.out.below.trans (k5.below (by rw [HA.out]; omega) K4.out.below.size))
    have kA := K4.out.ra.keep k5 (by omega)
    have kN := K4.out.rn.keep k5 (by omega)
    have a0 : w5.cell? ⟨a, 0, none⟩ = some (.int .i64 0) := kA.get 0 (by omega)
    have g0 := kA.frz 0
    have a1 : w5.cell? ⟨a, 1, none⟩ = some (.string ⟨#[]⟩) := kA.get 1 (by omega)
    have g1 := kA.frz 1
    have a2 : w5.cell? ⟨a, 2, none⟩ = some (.slice none 0 0) := kA.get 2 (by omega)
    have g2 := kA.frz 2
    have n0 : w5.cell? ⟨a + 1 + 1, 0, none⟩ = some (.int .i64 0) := kN.get 0 (by omega)
    have n1 : w5.cell? ⟨a + 1 + 1, 1, none⟩ = some (.string ⟨#[]⟩) := kN.get 1 (by omega)
    have n2 : w5.cell? ⟨a + 1 + 1, 2, none⟩ = some (.slice none 0 0) := kN.get 2 (by omega)
    have AL := Lib.hid (show w.heap.size ≤ a by rw [HA.out]; exact Nat.le_refl _)
    have KA := Lib.hid kA
    clear k5 d5 hsp kA kN
    go_wp2_with fail
    obtain ⟨⟨q0, q1, q2⟩, qu⟩ := setC KA.out (.int .i64 0) (.string ⟨#[]⟩) (.slice none 0 0)
    refine bodyPost_ret (v := .tuple #[.agg #[.int .i64 0, .string ⟨#[]⟩, .slice none 0 0], .int .i64 2]) (by simp [results, Tryd.results62, go_sem, q0, q1, q2]) rfl ⟨?_, ?_⟩
    · rw [← HX.out, certRd, HS.out]; rfl
    · exact B5.out.trans (qu.below AL.out)
  · rw [hsp] at he
    obtain ⟨rfl, rfl, f', k5, d5, hR⟩ := he
    have HR := Lib.hid hR
    have HS := Lib.hid hsp
    have B5 := Lib.hid (K4.out.below.trans (k5.below (by rw [HA.out]; omega) K4.out.below.size))
    have kA := K4.out.ra.keep k5 (by omega)
    have kN := K4.out.rn.keep k5 (by omega)
    have a0 : w5.cell? ⟨a, 0, none⟩ = some (.int .i64 0) := kA.get 0 (by omega)
    have g0 := kA.frz 0
    have a1 : w5.cell? ⟨a, 1, none⟩ = some (.string ⟨#[]⟩) := kA.get 1 (by omega)
    have g1 := kA.frz 1
    have a2 : w5.cell? ⟨a, 2, none⟩ = some (.slice none 0 0) := kA.get 2 (by omega)
    have g2 := kA.frz 2
    have AL := Lib.hid (show w.heap.size ≤ a by rw [HA.out]; exact Nat.le_refl _)
    have A4 := Lib.hid (show a < w4.heap.size from K4.out.ra.lt)
    have Z4 := Lib.hid K4.out.below.size
    by_cases hr : r.size = 0
    · obtain ⟨sv, hf, hsv⟩ := certR_cells hR
      obtain ⟨sa, scap, rfl, _⟩ := hsv
      have y0 : f' 0 = .int .i64 d.1.1 := by rw [hf]; simp [put]
      have y1 : f' 1 = .string d.1.2 := by rw [hf]; simp [put]
      have y2 : f' 2 = .slice sa d.2.length scap := by rw [hf]; simp [put]
      have x0 : w5.cell? ⟨a + 1, 0, none⟩ = some (.int .i64 d.1.1) := by rw [d5.get 0 (by omega), y0]
      have x1 : w5.cell? ⟨a + 1, 1, none⟩ = some (.string d.1.2) := by rw [d5.get 1 (by omega), y1]
      have x2 : w5.cell? ⟨a + 1, 2, none⟩ = some (.slice sa d.2.length scap) := by rw [d5.get 2 (by omega), y2]
      obtain rfl := nil_size r hr
      have KA := Lib.hid kA
      have HY := Lib.hid (show f' 0 = .int .i64 d.1.1 ∧ f' 1 = .string d.1.2 ∧ f' 2 = .slice sa d.2.length scap from ⟨y0, y1, y2⟩)
      clear k5 hsp kA kN hr d5 hR hf y0 y1 y2
      go_wp2_with fail
      obtain ⟨⟨q0, q1, q2⟩, qu⟩ := setC KA.out (.int .i64 d.1.1) (.string d.1.2) (.slice sa d.2.length scap)
      refine bodyPost_ret (v := .tuple #[.agg #[.int .i64 d.1.1, .string d.1.2, .slice sa d.2.length scap], .int .i64 0]) (by simp [results, Tryd.results62, go_sem, q0, q1, q2]) rfl ⟨?_, ?_⟩
      · rw [← HX.out, certRd, HS.out]
        obtain ⟨y0, y1, y2⟩ := HY.out
        exact ⟨f', w4.heap.size, w5.heap.size, by rw [y0, y1, y2], Z4.out, by rw [qu.size]; exact Nat.le_refl _, (sound_cert 0).keep HR.out fun c h1 h2 => qu.block c (by have := A4.out; omega)⟩
      · exact B5.out.trans (qu.below AL.out)
    · 
      have n0 : w5.cell? ⟨a + 1 + 1, 0, none⟩ = some (.int .i64 0) := kN.get 0 (by omega)
      have n1 : w5.cell? ⟨a + 1 + 1, 1, none⟩ = some (.string ⟨#[]⟩) := kN.get 1 (by omega)
      have n2 : w5.cell? ⟨a + 1 + 1, 2, none⟩ = some (.slice none 0 0) := kN.get 2 (by omega)
      have e0 : r.toList.isEmpty = false := by
        rw [ByteArray.toList_eq]
        rcases hl : r.data.toList with _ | ⟨c, l⟩
        · exact absurd (show r.size = 0 by show r.data.size = 0; rw [← Array.length_toList, hl]; rfl) hr
        · rfl
      have e1 : (!r.toList.isEmpty) = true := by rw [e0]; rfl
      have KA := Lib.hid kA
      have HRS := Lib.hid hr
      clear k5 hsp kA kN hr d5 hR
      go_wp2_with fail
      obtain ⟨⟨q0, q1, q2⟩, qu⟩ := setC KA.out (.int .i64 0) (.string ⟨#[]⟩) (.slice none 0 0)
      refine bodyPost_ret (v := .tuple #[.agg #[.int .i64 0, .string ⟨#[]⟩, .slice none 0 0], .int .i64 2]) (by simp [results, Tryd.results62, go_sem, q0, q1, q2]) rfl ⟨?_, ?_⟩
      · rw [← HX.out, certRd, HS.out]
        dsimp only
        rw [if_neg HRS.out]; rfl
      · exact B5.out.trans (qu.below AL.out)
set_option maxRecDepth 100000 in
set_option maxHeartbeats 4000000 in
theorem read_cert (b : ByteArray) (hb : b.size ≤ 1000000) (w : World) :
    Calls Tryd.prog 46 #[.string b] w fun e w' => CertAns w (certRd b) e w' ∧ Below w.heap.size w w' := by
  obtain ⟨X, hX⟩ : ∃ X, certRd b = X := ⟨_, rfl⟩
  have HW := Lib.hid (fun wx => hX ▸ whole_cert b hb wx)
  rw [hX]
  clear hb hX
  go_enter Tryd.func46, Tryd.ntmps46
  go_wp2_with fail
  obtain ⟨a, ha⟩ : ∃ a, w.heap.size = a := ⟨_, rfl⟩
  have k0 : Blk (w.alloc (.cells #[.int .i64 0, .string ⟨#[]⟩, .slice none 0 0] 24)) a 3 zC := Blk.new' ha.symm zC_row
  have b0 := (Below.refl w.heap.size w).alloc (Nat.le_refl _) (.cells #[.int .i64 0, .string ⟨#[]⟩, .slice none 0 0] 24)
  rw [ha]
  have AL := Lib.hid (show w.heap.size ≤ a by omega)
  clear ha
  generalize w.alloc (.cells #[.int .i64 0, .string ⟨#[]⟩, .slice none 0 0] 24) = w1 at *
  have Z1 := Lib.hid (And.intro b0.size k0.lt)
  refine (HW.out w1).mono ?_
  rintro e w2 ⟨he, hb2⟩
  have KA := Lib.hid (k0.below hb2 k0.lt)
  have B2 := Lib.hid (b0.trans (hb2.mono b0.size))
  clear k0 b0 hb2 HW
  have a0 : w2.cell? ⟨a, 0, none⟩ = some (.int .i64 0) := KA.out.get 0 (by omega)
  have g0 := KA.out.frz 0
  have a1 : w2.cell? ⟨a, 1, none⟩ = some (.string ⟨#[]⟩) := KA.out.get 1 (by omega)
  have g1 := KA.out.frz 1
  have a2 : w2.cell? ⟨a, 2, none⟩ = some (.slice none 0 0) := KA.out.get 2 (by omega)
  have g2 := KA.out.frz 2
  rcases X with _ | d
  · obtain rfl : e = .returned (.tuple #[.agg #[.int .i64 0, .string ⟨#[]⟩, .slice none 0 0], .int .i64 2]) := he
    go_wp2_with fail
    obtain ⟨⟨q0, q1, q2⟩, qu⟩ := setC KA.out (.int .i64 0) (.string ⟨#[]⟩) (.slice none 0 0)
    refine bodyPost_ret (v := .tuple #[.agg #[.int .i64 0, .string ⟨#[]⟩, .slice none 0 0], .int .i64 2]) (by simp [results, Tryd.results46, go_sem, q0, q1, q2]) rfl ⟨rfl, ?_⟩
    exact B2.out.trans (qu.below AL.out)
  · obtain ⟨f', lo, hi, rfl, hlo, hhi, hR⟩ := he
    have HR := Lib.hid hR
    have HLO := Lib.hid (And.intro hlo hhi)
    obtain ⟨sv, hf, hsv⟩ := certR_cells hR
    obtain ⟨sa, scap, rfl, _⟩ := hsv
    have y0 : f' 0 = .int .i64 d.1.1 := by rw [hf]; simp [put]
    have y1 : f' 1 = .string d.1.2 := by rw [hf]; simp [put]
    have y2 : f' 2 = .slice sa d.2.length scap := by rw [hf]; simp [put]
    have HY := Lib.hid (show f' 0 = .int .i64 d.1.1 ∧ f' 1 = .string d.1.2 ∧ f' 2 = .slice sa d.2.length scap from ⟨y0, y1, y2⟩)
    rw [y0, y1, y2]
    clear hR hf hlo hhi y0 y1 y2
    go_wp2_with fail
    obtain ⟨⟨q0, q1, q2⟩, qu⟩ := setC KA.out (.int .i64 d.1.1) (.string d.1.2) (.slice sa d.2.length scap)
    refine bodyPost_ret (v := .tuple #[.agg #[.int .i64 d.1.1, .string d.1.2, .slice sa d.2.length scap], .int .i64 0]) (by simp [results, Tryd.results46, go_sem, q0, q1, q2]) rfl ⟨?_, ?_⟩
    · obtain ⟨y0, y1, y2⟩ := HY.out
      exact ⟨f', lo, hi, by rw [y0, y1, y2], Nat.le_trans Z1.out.1 HLO.out.1, by rw [qu.size]; exact HLO.out.2, (sound_cert 0).keep HR.out fun c h1 h2 => qu.block c (by have := Z1.out.2; have := HLO.out.1; omega)⟩
    · exact B2.out.trans (qu.below AL.out)
end Go.Proofs.YtigoaokpodggcaaDoor
end
section
open Go Go.RowKit
namespace WW
open BB
theorem certRd_some {b r : ByteArray} {d : CertD} (h : certI b = some (r, d)) (h0 : r.size = 0) : certRd b = some d := by unfold certRd; rw [h]; exact if_pos h0
theorem ba_nil (b : ByteArray) : b ++ ⟨#[]⟩ = b := ba_ext (by simp)
theorem certRd_put {c : CertD} (h : certOk c) : certRd (certD c) = some c := by
  have := codec_cert.put c ⟨#[]⟩ h
  rw [ba_nil] at this
  exact certRd_some this rfl
theorem certRd_sound {b : ByteArray} {c : CertD} (h : certRd b = some c) : b = certD c ∧ certOk c := by
  unfold certRd at h
  rcases h1 : certI b with _ | ⟨r, d⟩
  · rw [h1] at h; cases h
  rw [h1] at h
  dsimp only at h
  split at h
  · rename_i h0
    injection h with h
    subst h
    obtain ⟨e1, e2⟩ := codec_cert.sound _ _ _ h1
    exact ⟨by rw [e1, nil_size r h0]; exact ba_ext (by simp), e2⟩
  · cases h
theorem right_small {v : Int} {k : ByteArray} {l : List (Int × List ByteArray)} (h : rightCert v k l = true) : SmallS l ∧ k.size = 32 ∧ l.length ≤ 7 ∧ MemS l := by
  unfold rightCert at h
  simp only [Bool.and_eq_true, decide_eq_true_eq] at h
  obtain ⟨⟨⟨⟨h1, h2⟩, h3⟩, h4⟩, h5⟩ := h
  rw [okTo_iff] at h5
  have hs : ∀ p ∈ l, (∀ t ∈ p.2, t.size = 16) ∧ p.2.length ≤ 7 := fun p hp => by
    have := (all_getD (p := fun p => rightSig p.1 p.2 = true)).1 h5.1 p hp
    unfold rightSig at this
    simp only [Bool.and_eq_true, decide_eq_true_eq, List.all_eq_true] at this
    obtain ⟨a, _, b⟩ := this
    rw [List.take_of_length_le (by omega)] at a
    exact ⟨a, b⟩
  have hfl : ∀ p ∈ l, (flat p.2).length ≤ 112 := fun p hp => by
    have := flat_le 16 p.2 (fun x hx => by have := (hs p hp).1 x hx; omega)
    have := (hs p hp).2
    omega
  have hmem : ∀ i, i < l.length → l.getD i (0, []) ∈ l := fun i hi => by rw [List.getD_eq_getElem?_getD, List.getElem?_eq_getElem hi]; exact List.getElem_mem hi
  refine ⟨⟨by omega, ?_, fun i hi => ⟨by have := hfl _ (hmem i hi); omega, by have := (hs _ (hmem i hi)).2; omega⟩⟩, h3, h4, by omega, fun i hi => by have := (hs _ (hmem i hi)).2; omega⟩
  have := flat_le 200 (sigsB l) (fun x hx => by
    unfold sigsB at hx
    obtain ⟨p, hp, rfl⟩ := List.mem_map.1 hx
    show (num p.1 ++ listB p.2).size ≤ 200
    rw [ByteArray.size_append, flat_size, num_size]
    have := hfl p hp
    omega)
  have e : (sigsB l).length = l.length := by unfold sigsB; rw [List.length_map]
  omega
end WW
namespace Go.Proofs.YtigoaokpodggcaaDoor
open WW BB
theorem certans_some {w w' : World} {d : CertD} {e : Ending} (h : CertAns w (some d) e w') : ∃ sv, e = .returned (.tuple #[.agg #[.int .i64 d.1.1, .string d.1.2, sv], .int .i64 0]) ∧ SigsAt w' sv d.2 := by
  obtain ⟨f', lo, hi, rfl, _, _, hR⟩ := h
  obtain ⟨sv, hf, hsv⟩ := certR_cells hR
  refine ⟨sv, ?_, hsv⟩
  rw [hf]; rfl
end Go.Proofs.YtigoaokpodggcaaDoor
end
section
open Go Go.RowKit
namespace CC
open WW BB
/-- it is right just if it is read as it was -/
theorem right_read {v : Int} {k : ByteArray} {l : List (Int × List ByteArray)} (d : CertD) (h : certRd (certB v k l) = some d) : decide (d = ((v, k), l)) = rightCert v k l := by
  obtain ⟨_, h2⟩ := certRd_sound h
  by_cases hr : rightCert v k l = true
  · have : certRd (certD ((v, k), l)) = some ((v, k), l) := certRd_put hr
    rw [show certD ((v, k), l) = certB v k l from rfl, h] at this
    injection this with this
    rw [hr, this]; simp
  · have hne : d ≠ ((v, k), l) := by rintro rfl; exact hr h2
    rw [show rightCert v k l = false by simpa using hr]; simp [hne]
theorem right_none {v : Int} {k : ByteArray} {l : List (Int × List ByteArray)} (h : certRd (certB v k l) = none) : rightCert v k l = false := by
  rcases hr : rightCert v k l with _ | _
  · rfl
  · have : certRd (certD ((v, k), l)) = some ((v, k), l) := certRd_put hr
    rw [show certD ((v, k), l) = certB v k l from rfl, h] at this
    cases this
end CC
namespace Go.Proofs.YtigoaokpodggcaaDoor
open CC WW BB
set_option maxRecDepth 100000 in
set_option maxHeartbeats 4000000 in
theorem cright_any (v : Int) (k : ByteArray) (sv : Value) (l : List (Int × List ByteArray)) (w : World) (hv : SigsAt w sv l) (hk : k.size ≤ 1000) (hs : SmallS l) (hz : (certB v k l).size ≤ 1000000) :
    Calls Tryd.prog 26 #[.agg #[.int .i64 v, .string k, sv]] w fun e w' => e = .returned (.bool (rightCert v k l)) ∧ Below w.heap.size w w' := by
  have HV := Lib.hid hv
  have HS := Lib.hid hs
  have HK := Lib.hid hk
  have HZ := Lib.hid hz
  obtain ⟨a0, cap, rfl, _⟩ := hv
  clear hs hk hz
  obtain ⟨B, hB⟩ : ∃ B, certB v k l = B := ⟨_, rfl⟩
  obtain ⟨X, hX⟩ : ∃ X, certRd B = X := ⟨_, rfl⟩
  obtain ⟨R, hR⟩ : ∃ R, rightCert v k l = R := ⟨_, rfl⟩
  have HB := Lib.hid hB
  have HX := Lib.hid hX
  have HR := Lib.hid hR
  rw [hR]
  clear hB hX hR
  have b1 := Lib.hid ((Below.refl w.heap.size w).alloc (Nat.le_refl _) (.cells #[.int .i64 v, .string k, .slice a0 l.length cap] 24))
  have q0 := cell_new w #[.int .i64 v, .string k, .slice a0 l.length cap] 24 0 _ rfl
  have q1 := cell_new w #[.int .i64 v, .string k, .slice a0 l.length cap] 24 1 _ rfl
  have q2 := cell_new w #[.int .i64 v, .string k, .slice a0 l.length cap] 24 2 _ rfl
  go_enter Tryd.func26, Tryd.ntmps26
  go_wp2_with fail
  obtain ⟨w1, hw1⟩ : ∃ w1, w.alloc (.cells #[.int .i64 v, .string k, .slice a0 l.length cap] 24) = w1 := ⟨_, rfl⟩
  rw [hw1] at q0 q1 q2 b1 ⊢
  clear hw1
  obtain ⟨g, hg⟩ : ∃ g, w.heap.size = g := ⟨_, rfl⟩
  have HG := Lib.hid hg
  rw [hg] at q0 q1 q2 ⊢
  clear hg
  refine (cert_any v k _ l _ (HV.out.later b1.out) (by have := HK.out; omega) HS.out).mono ?_
  rintro e w2 ⟨rfl, hb2⟩
  rw [HB.out]
  have B2 := Lib.hid (b1.out.trans (hb2.mono b1.out.size))
  have q0 := (hb2.cell (p := ⟨g, 0, none⟩) (World.block_lt_of_cell? w1 _ q0)).trans q0
  have q1 := (hb2.cell (p := ⟨g, 1, none⟩) (World.block_lt_of_cell? w1 _ q1)).trans q1
  have q2 := (hb2.cell (p := ⟨g, 2, none⟩) (World.block_lt_of_cell? w1 _ q2)).trans q2
  clear hb2 b1
  go_wp2_with fail
  refine (read_cert B (by have := HZ.out; rw [← HB.out]; exact this) w2).mono ?_
  rintro e w3 ⟨he, hb3⟩
  rw [HX.out] at he
  have B3 := Lib.hid (B2.out.trans (hb3.mono B2.out.size))
  have q0 := (hb3.cell (p := ⟨g, 0, none⟩) (World.block_lt_of_cell? w2 _ q0)).trans q0
  have q1 := (hb3.cell (p := ⟨g, 1, none⟩) (World.block_lt_of_cell? w2 _ q1)).trans q1
  have q2 := (hb3.cell (p := ⟨g, 2, none⟩) (World.block_lt_of_cell? w2 _ q2)).trans q2
  clear hb3
  rcases X with _ | d
  · obtain rfl : e = .returned (.tuple #[.agg #[.int .i64 0, .string ⟨#[]⟩, .slice none 0 0], .int .i64 2]) := he
    clear q0 q1 q2
    go_wp2_with fail
    go_ret
    refine ⟨?_, B3.out.alloc B3.out.size _⟩
    rw [← HR.out, right_none (by rw [HB.out, HX.out])]; rfl
  · obtain ⟨tv, rfl, hsd⟩ := certans_some he
    have hok := (certRd_sound HX.out).2
    have hsm := right_small hok
    have HSM := Lib.hid hsm
    have HSD := Lib.hid hsd
    have HRR := Lib.hid (show decide (d = ((v, k), l)) = R by rw [← HR.out]; exact right_read d (by rw [HB.out, HX.out]))
    clear he hok hsm
    obtain ⟨⟨dv, dk⟩, dl⟩ := d
    obtain ⟨da, dcap, rfl, _⟩ := hsd
    have b4 := Lib.hid ((Below.refl w3.heap.size w3).alloc (Nat.le_refl _) (.cells #[.int .i64 dv, .string dk, .slice da dl.length dcap] 24))
    have q0 := (b4.out.cell (p := ⟨g, 0, none⟩) (World.block_lt_of_cell? w3 _ q0)).trans q0
    have q1 := (b4.out.cell (p := ⟨g, 1, none⟩) (World.block_lt_of_cell? w3 _ q1)).trans q1
    have q2 := (b4.out.cell (p := ⟨g, 2, none⟩) (World.block_lt_of_cell? w3 _ q2)).trans q2
    go_wp2_with fail
    refine (same_any dv v dk k _ _ dl l _ (HSD.out.later b4.out) (HV.out.later (B3.out.trans (b4.out.mono B3.out.size))) (by have := HSM.out.2.2.1; omega) (fun i hi => (HSM.out.1.2.2 i hi).2)).mono ?_
    rintro e w5 ⟨rfl, hb5⟩
    rw [HRR.out]
    have B5 := Lib.hid ((B3.out.trans (b4.out.mono B3.out.size)).trans (hb5.mono (Nat.le_trans B3.out.size b4.out.size)))
    clear hb5 q0 q1 q2
    go_wp2_with fail
    go_ret
    exact ⟨rfl, B5.out⟩
end Go.Proofs.YtigoaokpodggcaaDoor
end
section
open Go Go.RowKit
namespace CC
open MM WW BB
/-- the nodes whose signatures hold, of the first i -/
def goodTo (P : Int × List ByteArray → Bool) (l : List (Int × List ByteArray)) (i : Nat) : List Int := ((l.take i).filter P).map fun p => p.1
theorem good_snoc (P : Int × List ByteArray → Bool) (l : List (Int × List ByteArray)) (i : Nat) (h : i < l.length) : goodTo P l (i + 1) = if P (l.getD i (0, [])) = true then goodTo P l i ++ [(l.getD i (0, [])).1] else goodTo P l i := by
  unfold goodTo
  rw [List.take_succ_eq_append_getElem h, List.filter_append, List.map_append]
  have e : l.getD i (0, []) = l[i] := by simp [List.getD, List.getElem?_eq_getElem h]
  rw [e]
  by_cases hp : P l[i] = true <;> simp [hp]
theorem good_len (P : Int × List ByteArray → Bool) (l : List (Int × List ByteArray)) (i : Nat) : (goodTo P l i).length ≤ l.length := by
  unfold goodTo
  rw [List.length_map]
  have := List.length_filter_le P (l.take i)
  rw [List.length_take] at this
  omega
/-- the nodes whose signatures hold -/
def goodL (s : ByteArray) (d n v : Int) (k : ByteArray) (l : List (Int × List ByteArray)) : List Int :=
  if rightCert v k l = true then goodTo (fun p => holdsB s d n (textB v k) p.1 p.2) l l.length else []
/-- does it hold? -/
def certHolds (s : ByteArray) (d n v : Int) (k : ByteArray) (l : List (Int × List ByteArray)) : Bool :=
  if v = 0 then decide (k = firstD ∧ l = []) else decide (quorumI n ≤ ((goodL s d n v k l).length : Int))
structure GAt (w : World) (e : TypeId) (out : List Int) (u : Value) (wr : World) : Prop where
  below : Below w.heap.size w wr
  own : wr.ownsRow w.heap.size e 1 u out.length (out.map (Value.int .i64))
theorem GAt.on {w w1 w2 : World} {e : TypeId} {out : List Int} {u : Value} (h : GAt w e out u w1) (hb : Below w1.heap.size w1 w2) : GAt w e out u w2 :=
  ⟨h.below.trans (hb.mono h.below.size), row_keep h.own fun c hc => hb.block c (h.own.lt c hc).2⟩
end CC
namespace Go.Proofs.YtigoaokpodggcaaDoor
open CC MM WW BB
theorem tabs_on {w w' : World} (h : Tabs w) (hb : Below w.heap.size w w') : Tabs w' := h.below hb (Nat.le_refl _)
theorem holds5_is (s : ByteArray) (d n : Int) (t : ByteArray) (f : Int) (tv : Value) (ts : List ByteArray) (b : Bool) (h : holdsB s d n t f ts = b) (w : World) (hv : StrsAt w tv ts) (hn : ts.length ≤ 1000) (hs : s.size ≤ 1000) (ht : t.size ≤ 100000) (hT : Tabs w) :
    Calls Tryd.prog 27 #[.string s, .int .i64 d, .int .i64 n, .string t, .agg #[.int .i64 f, tv]] w fun e w' => e = .returned (.bool b) ∧ Below w.heap.size w w' := h ▸ holds_any s d n t f tv ts w hv (by omega) hs ht hT
set_option maxRecDepth 100000 in
set_option maxHeartbeats 8000000 in
theorem good_any (s : ByteArray) (d n v : Int) (k : ByteArray) (sv : Value) (l : List (Int × List ByteArray)) (w : World) (hv : SigsAt w sv l) (hs : s.size ≤ 1000) (hk : k.size ≤ 1000) (hsm : SmallS l) (hz : (certB v k l).size ≤ 1000000) (hT : Tabs w) :
    Calls Tryd.prog 10 #[.string s, .int .i64 d, .int .i64 n, .agg #[.int .i64 v, .string k, sv]] w fun e w' => ∃ v', e = .returned v' ∧ IntsAt w' v' (goodL s d n v k l) ∧ Below w.heap.size w w' := by
  have HV := Lib.hid hv
  have HS := Lib.hid hs
  have HK := Lib.hid hk
  have HSM := Lib.hid hsm
  have HZ := Lib.hid hz
  have HT := Lib.hid hT
  obtain ⟨a0, cap, rfl, _⟩ := hv
  clear hs hk hsm hz hT
  obtain ⟨G, hG⟩ : ∃ G, goodL s d n v k l = G := ⟨_, rfl⟩
  obtain ⟨R, hR⟩ : ∃ R, rightCert v k l = R := ⟨_, rfl⟩
  have HG := Lib.hid hG
  have HR := Lib.hid hR
  rw [hG]
  clear hG hR
  have b1 := Lib.hid ((Below.refl w.heap.size w).alloc (Nat.le_refl _) (.cells #[.int .i64 v, .string k, .slice a0 l.length cap] 24))
  have q0 := cell_new w #[.int .i64 v, .string k, .slice a0 l.length cap] 24 0 _ rfl
  have q1 := cell_new w #[.int .i64 v, .string k, .slice a0 l.length cap] 24 1 _ rfl
  have q2 := cell_new w #[.int .i64 v, .string k, .slice a0 l.length cap] 24 2 _ rfl
  go_enter Tryd.func10, Tryd.ntmps10
  go_wp2_with fail
  obtain ⟨w1, hw1⟩ : ∃ w1, w.alloc (.cells #[.int .i64 v, .string k, .slice a0 l.length cap] 24) = w1 := ⟨_, rfl⟩
  rw [hw1] at q0 q1 q2 b1 ⊢
  clear hw1
  obtain ⟨g, hg⟩ : ∃ g, w.heap.size = g := ⟨_, rfl⟩
  have HGG := Lib.hid hg
  rw [hg] at q0 q1 q2 ⊢
  clear hg
  refine (cright_any v k _ l _ (HV.out.later b1.out) HK.out HSM.out HZ.out).mono ?_
  rintro e w2 ⟨rfl, hb2⟩
  rw [HR.out]
  have B2 := Lib.hid (b1.out.trans (hb2.mono b1.out.size))
  have q0 := (hb2.cell (p := ⟨g, 0, none⟩) (World.block_lt_of_cell? w1 _ q0)).trans q0
  have q1 := (hb2.cell (p := ⟨g, 1, none⟩) (World.block_lt_of_cell? w1 _ q1)).trans q1
  have q2 := (hb2.cell (p := ⟨g, 2, none⟩) (World.block_lt_of_cell? w1 _ q2)).trans q2
  clear hb2 b1
  cases R with
  | false =>
    clear q0 q1 q2
    go_wp2_with fail
    go_ret
    refine ⟨_, rfl, ?_, B2.out⟩
    rw [← HG.out, goodL, HR.out, if_neg (by decide)]
    exact ints_own (e := 3) (base := 0) ⟨rfl, Or.inl ⟨rfl, rfl⟩⟩
  | true =>
    go_wp2_with fail
    refine (text5_any v k (by have := HK.out; omega) w2).mono ?_
    rintro e w3 ⟨rfl, hb3⟩
    obtain ⟨T, hT⟩ : ∃ T, textB v k = T := ⟨_, rfl⟩
    have HTT := Lib.hid hT
    rw [hT]
    clear hT
    have HTZ := Lib.hid (show T.size ≤ 100000 by rw [← HTT.out, textB_size]; have := HK.out; omega)
    have B3 := Lib.hid (B2.out.trans (hb3.mono B2.out.size))
    have q2 := (hb3.cell (p := ⟨g, 2, none⟩) (World.block_lt_of_cell? w2 _ q2)).trans q2
    clear hb3 B2 q0 q1
    have HV3 := Lib.hid (HV.out.later B3.out)
    have HT3 := Lib.hid (tabs_on HT.out B3.out)
    obtain ⟨P, hP⟩ : ∃ P : Int × List ByteArray → Bool, (fun p => holdsB s d n T p.1 p.2) = P := ⟨_, rfl⟩
    have HP := Lib.hid hP
    have HGP := Lib.hid (show goodTo P l l.length = G by rw [← HG.out, goodL, HR.out, if_pos rfl, HTT.out, hP])
    clear hP
    go_wp2_with fail
    go_loopw [10, 24] (fun u x wr => ∃ (i : Nat) (u' : Value), i ≤ l.length ∧ x = .int .i64 (i : Int) ∧ u = u' ∧ GAt w3 3 (goodTo P l i) u' wr) (fun _ x _ => l.length - (intOf x).toNat)
    case atStart => exact ⟨0, _, Nat.zero_le _, rfl, rfl, ⟨Below.refl _ _, rfl, Or.inl ⟨rfl, rfl⟩⟩⟩
    case round =>
      obtain ⟨i, u, hi, rfl, rfl, hO⟩ := hrel
      have HO := Lib.hid hO
      have i0 : (0 : Int) ≤ (i : Int) := by omega
      by_cases hlt : i < l.length
      · have hlt' : (i : Int) < (l.length : Int) := by omega
        have ib : (i : Int) ≤ 1000 := by have := HSM.out.1; omega
        obtain ⟨a1, cap1, he, hv | ⟨gb, off, rfl, hbw, hcell⟩⟩ := HV3.out
        · rw [hv] at hlt; simp at hlt
        injection he with e1 _ e3
        subst e1 e3
        obtain ⟨tv, hc0, hc1, hts⟩ := hcell i hlt
        have hcl0 : wr.cell? ⟨gb, off + i * 2, none⟩ = _ := (HO.out.below.cell (p := ⟨gb, off + i * 2, none⟩) hbw).trans hc0
        have hcl1 : wr.cell? ⟨gb, off + i * 2 + 1, none⟩ = _ := (HO.out.below.cell (p := ⟨gb, off + i * 2 + 1, none⟩) hbw).trans hc1
        have HTS := Lib.hid (hts.later HO.out.below)
        have HSI := Lib.hid (HSM.out.2.2 i hlt).2
        have HSN := Lib.hid (good_snoc P l i hlt)
        obtain ⟨p, hp⟩ : ∃ p, l.getD i (0, []) = p := ⟨_, rfl⟩
        rw [hp] at hcl0 HTS HSI HSN
        obtain ⟨f, ts⟩ := p
        obtain ⟨ta, tcap, rfl, _⟩ := HTS.out
        have HLT := Lib.hid hlt
        have HOL := Lib.hid (good_len P l i)
        obtain ⟨out, hout⟩ : ∃ out, goodTo P l i = out := ⟨_, rfl⟩
        rw [hout] at HO HSN HOL
        have HT0 := Lib.hid hout
        obtain ⟨H, hH⟩ : ∃ H, P (f, ts) = H := ⟨_, rfl⟩
        have HH := Lib.hid (show holdsB s d n T f ts = H by rw [← hH, ← HP.out])
        rw [hH] at HSN
        have b2 := Lib.hid ((Below.refl wr.heap.size wr).alloc (Nat.le_refl _) (.cells #[.int .i64 f, .slice ta ts.length tcap] 35))
        have c0 := cell_new wr #[.int .i64 f, .slice ta ts.length tcap] 35 0 _ rfl
        clear hp hlt hi hcell hbw hc0 hc1 hts hH hO hout
        go_wp2_with fail
        obtain ⟨wa, hwa⟩ : ∃ wa, wr.alloc (.cells #[.int .i64 f, .slice ta ts.length tcap] 35) = wa := ⟨_, rfl⟩
        rw [hwa] at b2 c0 ⊢
        clear hwa hcl0 hcl1
        have OA := Lib.hid (HO.out.on b2.out)
        refine (holds5_is s d n T f _ ts H HH.out wa (HTS.out.later b2.out) HSI.out HS.out HTZ.out (tabs_on (tabs_on HT3.out HO.out.below) b2.out)).mono ?_
        rintro e w4 ⟨rfl, hb4⟩
        have O4 := Lib.hid (OA.out.on hb4)
        have c0 := (hb4.cell (p := ⟨wr.heap.size, 0, none⟩) (World.block_lt_of_cell? wa _ c0)).trans c0
        clear hb4 OA b2 HO
        cases H with
        | true =>
          obtain ⟨ti, i1, i2, i3, i4⟩ := info_parts info_int
          have cx := cell_new w4 #[.int .i64 f] 3 0 _ rfl
          have bal := (Below.refl w4.heap.size w4).alloc (Nat.le_refl _) (.cells #[.int .i64 f] 3)
          have hown2 := (O4.out.on bal).own
          have hbs := (O4.out.on bal).below.size
          go_wp2_with (at_builtin; refine wpList_append_own _ rfl _ _ 28 rfl w3.heap.size 3 ti (.int .i64 0) 1 8 (by kernel_rfl) i1 i2 i3 i4 rfl (by decide) u10 out.length (out.map (Value.int .i64)) rfl hown2 ⟨w4.heap.size, 0, none⟩ 1 1 [.int .i64 f] rfl rfl ?c1 ?c2 ?c3 ?c4 hbs ?_)
          case c1 =>
            intro j u hj
            match j, hj with
            | 0, hj => simp at hj; subst hj; rw [Addr.add_lit]; exact cx
            | j + 1, hj => simp at hj
          case c2 => intro u hu; simp at hu; subst hu; rfl
          case c3 => have := HOL.out; have := HSM.out.1; unfold maxLen; omega
          case c4 => have := HOL.out; have := HSM.out.1; omega
          intro v' w' hown' hgr _
          have hb' : Below w3.heap.size w3 w' := (O4.out.on bal).below.grown hgr (by have := (O4.out.on bal).below.size; omega) (fun k hk => (hown2.lt k hk).1)
          have HB' := Lib.hid hb'
          have HOW' := Lib.hid hown'
          clear hb' hown' hgr hown2 bal cx hbs c0
          go_wp2_with fail
          go_roundw
          case rel => exact ⟨i + 1, _, by have := HLT.out; omega, by go_num, rfl, ⟨HB'.out, by
            rw [show goodTo P l (i + 1) = out ++ [f] by simpa using HSN.out, List.map_append, List.length_append]; exact HOW'.out⟩⟩
          case measure => have := HLT.out; simp [intOf]; omega
        | false =>
          clear c0
          go_wp2_with fail
          go_roundw
          case rel => exact ⟨i + 1, _, by have := HLT.out; omega, by go_num, rfl, by rw [show goodTo P l (i + 1) = out by simpa using HSN.out]; exact O4.out⟩
          case measure => have := HLT.out; simp [intOf]; omega
      · obtain rfl : i = l.length := by omega
        have hlt' : ¬ (l.length : Int) < (l.length : Int) := by omega
        rw [HGP.out] at HO
        clear hi hlt hO
        go_wp2_with fail
        go_ret
        exact ⟨_, rfl, ints_own HO.out.own, B3.out.trans (HO.out.below.mono B3.out.size)⟩
end Go.Proofs.YtigoaokpodggcaaDoor
end
section
open Go Go.RowKit
namespace CC
open MM WW BB
theorem sigs_nil (w : World) : SigsAt w (.slice none 0 0) [] := ⟨none, 0, rfl, Or.inl rfl⟩
end CC
namespace Go.Proofs.YtigoaokpodggcaaDoor
open CC MM WW BB
set_option maxRecDepth 100000 in
set_option maxHeartbeats 8000000 in
theorem chold_zero (s : ByteArray) (d n : Int) (k : ByteArray) (sv : Value) (l : List (Int × List ByteArray)) (w : World) (hv : SigsAt w sv l) (hsm : l.length ≤ 1000 ∧ ∀ i, i < l.length → (l.getD i (0, [])).2.length ≤ 1000) (hT : Tabs w) :
    Calls Tryd.prog 12 #[.string s, .int .i64 d, .int .i64 n, .agg #[.int .i64 0, .string k, sv]] w fun e w' => e = .returned (.bool (decide (k = firstD ∧ l = []))) ∧ Below w.heap.size w w' := by
  have HV := Lib.hid hv
  have HSM := Lib.hid hsm
  have HT := Lib.hid hT
  obtain ⟨a0, cap, rfl, _⟩ := hv
  clear hsm hT
  obtain ⟨X, hX⟩ : ∃ X, decide (k = firstD ∧ l = []) = X := ⟨_, rfl⟩
  have HX := Lib.hid (show decide ((((0 : Int), k), l) = ((0, firstD), [])) = X by rw [← hX]; simp)
  rw [hX]
  clear hX
  have b1 := ((Below.refl w.heap.size w).alloc (Nat.le_refl _) (.cells #[.int .i64 0, .string k, .slice a0 l.length cap] 24))
  have q0 := cell_new w #[.int .i64 0, .string k, .slice a0 l.length cap] 24 0 _ rfl
  have q1 := cell_new w #[.int .i64 0, .string k, .slice a0 l.length cap] 24 1 _ rfl
  have q2 := cell_new w #[.int .i64 0, .string k, .slice a0 l.length cap] 24 2 _ rfl
  go_enter Tryd.func12, Tryd.ntmps12
  go_wp2_with fail
  obtain ⟨w1, hw1⟩ : ∃ w1, w.alloc (.cells #[.int .i64 0, .string k, .slice a0 l.length cap] 24) = w1 := ⟨_, rfl⟩
  rw [hw1] at q0 q1 q2 b1 ⊢
  clear hw1
  obtain ⟨g, hg⟩ : ∃ g, w.heap.size = g := ⟨_, rfl⟩
  have z1 := b1.size
  rw [hg] at q0 q1 q2 b1 z1 ⊢
  have HGG := Lib.hid hg
  clear hg
  have hst := start3 (w := w) q0 q1 q2 b1 z1
  have HV' := Lib.hid (fun (wx : World) (hb : Below g w wx) => HV.out.later (by rw [HGG.out]; exact hb))
  have HT' := Lib.hid (fun (wx : World) (hb : Below g w wx) => tabs_now HT.out HGG.out hb)
  clear b1 q0 q1 q2
  go_region_held3 (fun w' => w'.cell? ⟨g, 0, none⟩ = some (.int .i64 0) ∧ w'.cell? ⟨g, 1, none⟩ = some (.string k) ∧ w'.cell? ⟨g, 2, none⟩ = some (.slice a0 l.length cap) ∧ Below g w w' ∧ g ≤ w'.heap.size)
    (first | exact hst | exact hk)
    (first
      | (go_at_call 22; refine (first_any _ (HT'.out _ (by first | exact hst.2.2.2.1 | exact HK.out))).mono ?_; rintro e w2 ⟨rfl, hb2⟩; have hk := keep3 (w := w) (g := g) (v0 := .int .i64 0) (v1 := .string k) (v2 := .slice a0 l.length cap) (B := g) (by assumption) hb2; have HK := Lib.hid hk.2.2.2.1)
      | (go_at_call 30; refine (same_any 0 0 k firstD _ _ l [] _ (HV'.out _ HK.out) (sigs_nil _) HSM.out.1 HSM.out.2).mono ?_; rintro e w3 ⟨rfl, hb3⟩; rw [HX.out]; have hk := keep3 (w := w) (g := g) (v0 := .int .i64 0) (v1 := .string k) (v2 := .slice a0 l.length cap) (B := g) (by assumption) hb3))
  go_wp2_with fail
  go_ret
  exact ⟨rfl, by rw [HGG.out]; exact hk.2.2.2.1⟩
set_option maxRecDepth 100000 in
set_option maxHeartbeats 8000000 in
theorem chold_more (s : ByteArray) (d n v : Int) (k : ByteArray) (sv : Value) (l : List (Int × List ByteArray)) (w : World) (hv : SigsAt w sv l) (h0 : v ≠ 0) (hn : n ≤ 9223372036854775807) (hs : s.size ≤ 1000) (hk : k.size ≤ 1000) (hsm : SmallS l) (hz : (certB v k l).size ≤ 1000000) (hT : Tabs w) :
    Calls Tryd.prog 12 #[.string s, .int .i64 d, .int .i64 n, .agg #[.int .i64 v, .string k, sv]] w fun e w' => e = .returned (.bool (decide (quorumI n ≤ ((goodL s d n v k l).length : Int)))) ∧ Below w.heap.size w w' := by
  have HV := Lib.hid hv
  have HS := Lib.hid hs
  have HK := Lib.hid hk
  have HN := Lib.hid hn
  have HSM := Lib.hid hsm
  have HZ := Lib.hid hz
  have HT := Lib.hid hT
  have t0 : (v == 0) = false := by simpa using h0
  obtain ⟨a0, cap, rfl, _⟩ := hv
  clear hs hk hsm hz hT hn h0
  obtain ⟨G, hG⟩ : ∃ G, goodL s d n v k l = G := ⟨_, rfl⟩
  have HG := Lib.hid hG
  rw [hG]
  clear hG
  have b1 := Lib.hid ((Below.refl w.heap.size w).alloc (Nat.le_refl _) (.cells #[.int .i64 v, .string k, .slice a0 l.length cap] 24))
  go_enter Tryd.func12, Tryd.ntmps12
  go_wp2_with fail
  refine (good_any s d n v k _ l _ (HV.out.later b1.out) HS.out HK.out HSM.out HZ.out (tabs_on HT.out b1.out)).mono ?_
  rintro e w2 ⟨v', rfl, hI, hb2⟩
  rw [HG.out] at hI
  obtain ⟨ga, gcap, rfl, _, _⟩ := hI
  have B2 := Lib.hid (b1.out.trans (hb2.mono b1.out.size))
  clear hb2 b1
  go_wp2_with fail
  refine (cquorum_any n HN.out w2).mono ?_
  rintro e w' ⟨rfl, rfl⟩
  obtain ⟨q, hq⟩ : ∃ q, quorumI n = q := ⟨_, rfl⟩
  rw [hq]
  go_wp2_with fail
  go_ret
  exact ⟨by rw [hq]; rfl, B2.out⟩
theorem chold_any (s : ByteArray) (d n v : Int) (k : ByteArray) (sv : Value) (l : List (Int × List ByteArray)) (w : World) (hv : SigsAt w sv l) (hn : n ≤ 9223372036854775807) (hs : s.size ≤ 1000) (hk : k.size ≤ 1000) (hsm : SmallS l) (hz : (certB v k l).size ≤ 1000000) (hT : Tabs w) :
    Calls Tryd.prog 12 #[.string s, .int .i64 d, .int .i64 n, .agg #[.int .i64 v, .string k, sv]] w fun e w' => e = .returned (.bool (certHolds s d n v k l)) ∧ Below w.heap.size w w' := by
  unfold certHolds
  by_cases h0 : v = 0
  · subst h0
    rw [if_pos rfl]
    exact chold_zero s d n k sv l w hv ⟨hsm.1, fun i hi => (hsm.2.2 i hi).2⟩ hT
  · rw [if_neg h0]
    exact chold_more s d n v k sv l w hv h0 hn hs hk hsm hz hT
theorem chold_is (b : Bool) (s : ByteArray) (d n v : Int) (k : ByteArray) (sv : Value) (l : List (Int × List ByteArray)) (hb : certHolds s d n v k l = b) (w : World) (hv : SigsAt w sv l) (hn : n ≤ 9223372036854775807) (hs : s.size ≤ 1000) (hk : k.size ≤ 1000) (hsm : SmallS l) (hz : (certB v k l).size ≤ 1000000) (hT : Tabs w) :
    Calls Tryd.prog 12 #[.string s, .int .i64 d, .int .i64 n, .agg #[.int .i64 v, .string k, sv]] w fun e w' => e = .returned (.bool b) ∧ Below w.heap.size w w' := hb ▸ chold_any s d n v k sv l w hv hn hs hk hsm hz hT
theorem cert_f1 (v : Int) (k : ByteArray) (s : Value) (w : World) : (Instr.field 24 (.agg #[.int .i64 v, .string k, s]) 1).run Tryd.prog w = .ok (.string k) w := by kernel_rfl
theorem cert_f0 (v : Int) (k : ByteArray) (s : Value) (w : World) : (Instr.field 24 (.agg #[.int .i64 v, .string k, s]) 0).run Tryd.prog w = .ok (.int .i64 v) w := by kernel_rfl
theorem cert_f2 (v : Int) (k : ByteArray) (s : Value) (w : World) : (Instr.field 24 (.agg #[.int .i64 v, .string k, s]) 2).run Tryd.prog w = .ok s w := by kernel_rfl
set_option maxRecDepth 100000 in
set_option maxHeartbeats 2000000 in
theorem awake5_any (w : World) (hT : Tabs w) : Calls Tryd.prog 8 #[] w fun e w' => e = .returned (.bool true) ∧ Below w.heap.size w w' := by
  have HT := Lib.hid hT
  clear hT
  go_enter Tryd.func8, Tryd.ntmps8
  go_wp2_with fail
  refine (first_any w HT.out).mono ?_
  rintro e w1 ⟨rfl, hb1⟩
  have B1 := Lib.hid hb1
  clear hb1
  go_wp2_with fail
  refine (chold_zero _ 0 1 firstD _ [] w1 (sigs_nil _) ⟨by simp, by simp⟩ (tabs_on HT.out B1.out)).mono ?_
  rintro e w2 ⟨rfl, hb2⟩
  rw [show decide (firstD = firstD ∧ ([] : List (Int × List ByteArray)) = []) = true by simp]
  have B2 := Lib.hid (B1.out.trans (hb2.mono B1.out.size))
  clear hb2
  go_wp2_with fail
  refine (first_any w2 (tabs_on HT.out B2.out)).mono ?_
  rintro e w3 ⟨rfl, hb3⟩
  have B3 := Lib.hid (B2.out.trans (hb3.mono B2.out.size))
  have hz : (firstD.size : Int) = 32 := by rw [firstD_size]; rfl
  have hfd := cert_f1 0 firstD (.slice none 0 0)
  clear hb3
  go_wp2_with fail
  go_ret
  exact ⟨rfl, B3.out⟩
end Go.Proofs.YtigoaokpodggcaaDoor
end
