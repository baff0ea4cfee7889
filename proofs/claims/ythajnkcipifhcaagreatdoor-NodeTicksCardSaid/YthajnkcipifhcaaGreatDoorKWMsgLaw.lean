/-
  The walk of the law WireMsgs.
-/
import Derived.Test.YthajnkcipifhcaaGreatDoorKWSigCut
import Derived.BigQuiet
import Derived.Deep.QuietTactic
import Derived.Deep.RegionHeld3
import Derived.Deep.CutRange
import Derived.Test.YthajnkcipifhcaaGreatDoorKWApart
import Derived.Test.YthajnkcipifhcaaGreatDoorKWRef2
import Derived.Test.YthajnkcipifhcaaGreatDoorKPlanN
import Derived.Test.YthajnkcipifhcaaGreatDoorKCallsW
import Derived.OrdersHeld
import Derived.Test.YthajnkcipifhcaaGreatDoorKRState
section
open Go Go.RowKit
namespace WW
open BB
theorem elems_cell {δ : Type} {R : RelT δ} {e : TypeId} {k lo hi c n cap : Nat} {z : Nat → Value} {w : World} {l : List δ} {xs : List Value} (h : ElemsR e k z R w lo hi (.slice (some ⟨c, 0, none⟩) n cap) l xs) (i : Nat) (d : δ) (hd : l[i]? = some d) :
    ∃ (lo1 hi1 : Nat) (g : Nat → Value), lo ≤ lo1 ∧ hi1 ≤ hi ∧ R d w lo1 hi1 z g ∧ ∀ j : Nat, j < k → w.cell? ⟨c, i * k + j, none⟩ = some (g j) := by
  obtain ⟨lo1, hi1, g, h1, h2, h3, h4, _⟩ := h.each i d hd
  refine ⟨lo1, hi1, g, h1, h2, h3, fun j hj => ?_⟩
  have := h.row.cells (g := c) rfl (i * k + j) (g j) (h4 j hj)
  rwa [WideShapes.add_plain, Nat.zero_add] at this
theorem getD_of {δ : Type} (l : List δ) (i : Nat) (x : δ) (h : i < l.length) : l[i]? = some (l.getD i x) := by
  rw [List.getD_eq_getElem?_getD, List.getElem?_eq_getElem h]; rfl
end WW
namespace Go.Proofs.YthajnkcipifhcaaGreatDoor
open WW BB
theorem strs_at {w : World} {lo hi : Nat} {sv : Value} {l : List ByteArray} {xs : List Value} (h : ElemsR 9 1 zS (strR 0) w lo hi sv l xs) : StrsAt w sv l := by
  rcases Joins.ownsRow_forms h.row with ⟨rfl, hl⟩ | ⟨c, cap, rfl⟩
  · have : l = [] := List.length_eq_zero_iff.1 hl
    subst this
    exact ⟨none, 0, rfl, Or.inl rfl⟩
  · refine ⟨_, cap, rfl, ?_⟩
    rcases Nat.eq_zero_or_pos l.length with h0 | h0
    · exact Or.inl (List.length_eq_zero_iff.1 h0)
    · refine Or.inr ⟨c, 0, rfl, (h.row.lt c rfl).2, fun i hi' => ?_⟩
      obtain ⟨_, _, g, _, _, h3, h4⟩ := elems_cell h i _ (getD_of l i ⟨#[]⟩ hi')
      have := h4 0 (by omega)
      rw [show g = put zS 0 _ from h3] at this
      rw [show 0 + i = i * 1 + 0 by omega, this]
      simp [put]
theorem sigs_at {w : World} {lo hi : Nat} {sv : Value} {l : List (Int × List ByteArray)} {xs : List Value} (h : ElemsR 39 2 zG (sigR 0) w lo hi sv l xs) : SigsAt w sv l := by
  rcases Joins.ownsRow_forms h.row with ⟨rfl, hl⟩ | ⟨c, cap, rfl⟩
  · have : l = [] := List.length_eq_zero_iff.1 hl
    subst this
    exact ⟨none, 0, rfl, Or.inl rfl⟩
  · refine ⟨_, cap, rfl, ?_⟩
    rcases Nat.eq_zero_or_pos l.length with h0 | h0
    · exact Or.inl (List.length_eq_zero_iff.1 h0)
    · refine Or.inr ⟨c, 0, rfl, (h.row.lt c rfl).2, fun i hi' => ?_⟩
      obtain ⟨lo1, hi1, g, _, _, ⟨g1, h3, sv1, xs1, h5, h6⟩, h4⟩ := elems_cell h i _ (getD_of l i (0, []) hi')
      have c0 := h4 0 (by omega)
      have c1 := h4 1 (by omega)
      rw [h5, show g1 = put zG 0 _ from h3] at c0 c1
      refine ⟨sv1, ?_, ?_, strs_at h6⟩
      · rw [show 0 + i * 2 = i * 2 + 0 by omega, c0]; simp [put]
      · rw [show 0 + i * 2 + 1 = i * 2 + 1 by omega, c1]; simp [put]
theorem reqs_at {w : World} {lo hi : Nat} {sv : Value} {l : List (Int × Int × ByteArray)} {xs : List Value} (h : ElemsR 41 3 zQ (reqR 0) w lo hi sv l xs) : ReqsAt w sv l := by
  rcases Joins.ownsRow_forms h.row with ⟨rfl, hl⟩ | ⟨c, cap, rfl⟩
  · have : l = [] := List.length_eq_zero_iff.1 hl
    subst this
    exact ⟨none, 0, rfl, Or.inl rfl⟩
  · refine ⟨_, cap, rfl, ?_⟩
    rcases Nat.eq_zero_or_pos l.length with h0 | h0
    · exact Or.inl (List.length_eq_zero_iff.1 h0)
    · refine Or.inr ⟨c, 0, rfl, (h.row.lt c rfl).2, fun i hi' => ?_⟩
      obtain ⟨lo1, hi1, g, _, _, h3, h4⟩ := elems_cell h i _ (getD_of l i (0, 0, ⟨#[]⟩) hi')
      have c0 := h4 0 (by omega)
      have c1 := h4 1 (by omega)
      have c2 := h4 2 (by omega)
      rw [show g = _ from h3] at c0 c1 c2
      refine ⟨?_, ?_, ?_⟩
      · rw [show 0 + i * 3 = i * 3 + 0 by omega, c0]; simp [put]
      · rw [show 0 + i * 3 + 1 = i * 3 + 1 by omega, c1]; simp [put]
      · rw [show 0 + i * 3 + 2 = i * 3 + 2 by omega, c2]; simp [put]
theorem risesTo_mono (l : List (Int × List ByteArray)) (i j : Nat) (h : i ≤ j) (hf : risesTo l i = false) : risesTo l j = false := by
  induction j with
  | zero => obtain rfl : i = 0 := by omega
            exact hf
  | succ j ih =>
    by_cases e : i = j + 1
    · subst e; exact hf
    · show (risesTo l j && _) = false
      rw [ih (by omega), Bool.false_and]
set_option maxRecDepth 100000 in
set_option maxHeartbeats 2000000 in
theorem rising_any (sv : Value) (l : List (Int × List ByteArray)) (w : World) (hv : SigsAt w sv l) (hl : l.length ≤ 100) :
    Calls Tryz.prog 274 #[sv] w fun e w' => e = .returned (.bool (rises l)) ∧ Below w.heap.size w w' := by
  obtain ⟨X, hX⟩ : ∃ X, rises l = X := ⟨_, rfl⟩
  rw [hX]
  have HX := Lib.hid (show risesTo l l.length = X from hX)
  have HV := Lib.hid hv
  have HL := Lib.hid hl
  obtain ⟨a0, cap, rfl, _⟩ := hv
  clear hX hl
  go_enter Tryz.func274, Tryz.ntmps274
  go_wp2_with fail
  go_loopw [3] (fun x wr => ∃ i : Nat, i ≤ l.length ∧ x = .int .i64 ((i : Int) + 1) ∧ (i = 0 ∨ i + 1 ≤ l.length) ∧ risesTo l (if l.length = 0 then 0 else i + 1) = true ∧ Below w.heap.size w wr) (fun x _ => l.length - (intOf x).toNat)
  case atStart =>
    refine ⟨0, Nat.zero_le _, rfl, Or.inl rfl, ?_, Below.refl _ _⟩
    split
    · rfl
    · show (risesTo l 0 && _) = true
      rfl
  case round =>
    obtain ⟨i, hi, rfl, hi0, hr, hb⟩ := hrel
    have HR := Lib.hid hr
    have HB := Lib.hid hb
    clear hr hb
    have n0 : (0 : Int) ≤ (i : Int) := by omega
    have n1 : (0 : Int) ≤ (i : Int) + 1 := by omega
    have nb : (i : Int) ≤ 100 := by have := HL.out; omega
    by_cases hlt : i + 1 < l.length
    · have hlt' : (i : Int) + 1 < (l.length : Int) := by omega
      have hlt2 : (i : Int) < (l.length : Int) := by omega
      obtain ⟨x1, y1, he, hv | ⟨gb, off, rfl, hbw, hcell⟩⟩ := HV.out
      · rw [hv] at hlt; simp at hlt
      injection he with e1 _ e3
      subst e1 e3
      obtain ⟨_, hc0, _, _⟩ := hcell i (by omega)
      obtain ⟨_, hd0, _, _⟩ := hcell (i + 1) hlt
      have hcl := (HB.out.cell (p := ⟨gb, off + i * 2, none⟩) hbw).trans hc0
      have hdl := (HB.out.cell (p := ⟨gb, off + (i + 1) * 2, none⟩) hbw).trans hd0
      have hst : risesTo l (i + 1 + 1) = (risesTo l (i + 1) && decide ((l.getD i (0, [])).1 < (l.getD (i + 1) (0, [])).1)) := by
        show (risesTo l (i + 1) && (decide (i + 1 = 0) || decide ((l.getD (i + 1 - 1) (0, [])).1 < _))) = _
        rw [show decide (i + 1 = 0) = false by simp, Bool.false_or, Nat.add_sub_cancel]
      obtain ⟨f0, hf0⟩ : ∃ f, (l.getD i (0, [])).1 = f := ⟨_, rfl⟩
      obtain ⟨f1, hf1⟩ : ∃ f, (l.getD (i + 1) (0, [])).1 = f := ⟨_, rfl⟩
      rw [hf0] at hcl hst
      rw [hf1] at hdl hst
      have HR := HR.out
      rw [if_neg (by omega)] at HR
      have HST := Lib.hid (And.intro hst (And.intro HR hlt))
      have mw := IntKind.wrap_i64 (i : Int)
      have MW := Lib.hid (show IntKind.i64.wrap (i : Int) = (i : Int) by rw [mw]; omega)
      clear hf0 hf1 hst HR hlt hi hi0 hcell hbw hc0 hd0 mw
      have mw := MW.out
      by_cases hff : f0 < f1
      · have hd : ¬ f1 ≤ f0 := by omega
        have HFF := Lib.hid hff
        clear hff
        go_wp2_with fail
        go_quiet (fail)
        go_wp2_with fail
        go_roundw
        case rel =>
          obtain ⟨h1, h2, h3⟩ := HST.out
          refine ⟨i + 1, by omega, by go_num, Or.inr (by omega), ?_, below_drewN HB.out _⟩
          rw [if_neg (by omega), h1, h2]; simp [HFF.out]
        case measure => have := HST.out.2.2; simp [intOf]; omega
      · have hd : f1 ≤ f0 := by omega
        have HFF := Lib.hid hff
        clear hff
        go_wp2_with fail
        go_quiet (fail)
        go_wp2_with fail
        go_ret
        refine ⟨?_, below_drewN HB.out _⟩
        obtain ⟨h1, h2, h3⟩ := HST.out
        rw [← HX.out, risesTo_mono l (i + 1 + 1) l.length (by omega) (by rw [h1]; simp [HFF.out])]
        rfl
    · have hlt' : ¬ (i : Int) + 1 < (l.length : Int) := by omega
      have hfin : X = true := by
        rw [← HX.out]
        have := HR.out
        by_cases h0 : l.length = 0
        · rw [h0]; rfl
        · rw [if_neg h0] at this
          rw [show l.length = i + 1 by omega]; exact this
      have HFIN := Lib.hid hfin
      clear hlt hi hi0 hfin
      go_wp2_with fail
      go_ret
      exact ⟨by rw [HFIN.out]; rfl, HB.out⟩
end Go.Proofs.YthajnkcipifhcaaGreatDoor
end
section
open Go Go.RowKit
namespace WW
open BB
/-- a certificate's first two parts, from cell o on -/
def certR1 (o : Nat) : RelT (Int × ByteArray) := seqR (numR o) (strR (o + 1))
end WW
namespace Go.Proofs.YthajnkcipifhcaaGreatDoor
open WW BB
/-- a certificate, from cell o on -/
def certR (o : Nat) : RelT CertD := seqR (certR1 o) (listR 39 2 zG (sigR 0) (o + 2))
theorem sound_cert (o : Nat) : SoundR (certR o) := ((sound_num o).seq (sound_str (o + 1))).seq (sound_list (sound_sig 0))
/-- what a certificate's cells are -/
theorem certR_cells {o : Nat} {c : CertD} {w : World} {lo hi : Nat} {f f' : Nat → Value} (h : certR o c w lo hi f f') : ∃ sv, f' = put (put (put f o (.int .i64 c.1.1)) (o + 1) (.string c.1.2)) (o + 2) sv ∧ SigsAt w sv c.2 := by
  obtain ⟨g, ⟨g1, h1, h2⟩, sv, xs, h3, h4⟩ := h
  refine ⟨sv, ?_, sigs_at h4⟩
  rw [h3, show g = put g1 (o + 1) _ from h2, show g1 = put f o _ from h1]
set_option maxRecDepth 100000 in
theorem mk_provided (kh : Nat) (env : Array Value) (w : World) :
    Calls Tryz.prog 272 #[.func (.func kh) #[] env] w fun e w' => e = .returned (.func (.func 311) #[] #[.pointer (some ⟨w.heap.size, 0, none⟩)]) ∧ Below w.heap.size w w' ∧ w'.cell? ⟨w.heap.size, 0, none⟩ = some (.func (.func kh) #[] env) := by
  go_enter Tryz.func272, Tryz.ntmps272
  go_wp2_with fail
  go_ret
  exact ⟨rfl, (Below.refl w.heap.size w).alloc (Nat.le_refl _) _, cell_at _ _ _ _ rfl⟩
theorem own_provided : Own Tryz.prog 311 := ⟨_, Tryz.func311, by kernel_rfl, by kernel_rfl⟩
set_option maxRecDepth 100000 in
/-- the closure that tells whether what holds of what was read -/
theorem provided_call (kh : Nat) (env : Array Value) (bp : Nat) (b : ByteArray) (x : Bool) (w : World) (hp : w.cell? ⟨bp, 0, none⟩ = some (.func (.func kh) #[] env)) (hc : CallsV Tryz.prog (.func (.func kh) #[] env) #[] w fun e w' => e = .returned (.bool x) ∧ Below w.heap.size w w') :
    Cut Tryz.prog (.func (.func 311) #[] #[.pointer (some ⟨bp, 0, none⟩)]) b w (fun ok r w' => ok = x ∧ r = b ∧ Below w.heap.size w w') := by
  refine ⟨_, _, rfl, own_provided, ?_⟩
  show Calls Tryz.prog 311 #[.string b, .pointer (some ⟨bp, 0, none⟩)] w _
  have HC := Lib.hid hc
  clear hc
  go_enter Tryz.func311, Tryz.ntmps311
  go_wp2_with (with_reducible refine hold_callv rfl rfl ?_)
  refine wpl_callv (v := .func (.func kh) #[] env) (args := #[]) _ rfl rfl rfl (by simp) HC.out (fun _ _ ⟨h, _⟩ => ⟨_, h⟩) ?_
  rintro u w4 ⟨hu, hb4⟩
  injection hu with hu
  subst hu
  have HB := Lib.hid hb4
  clear hb4 hp
  go_wp2_with fail
  go_ret2
  exact ⟨x, b, rfl, rfl, rfl, HB.out⟩
theorem own_cert1 : Own Tryz.prog 273 := ⟨_, Tryz.func273, by kernel_rfl, by kernel_rfl⟩
set_option maxRecDepth 100000 in
theorem cert1_call (bc t o : Nat) (sv : Value) (l : List (Int × List ByteArray)) (w : World) (hb : w.cell? ⟨bc, 0, none⟩ = some (.pointer (some ⟨t, o, none⟩))) (hc : w.cell? ⟨t, o + 2, none⟩ = some sv) (hv : SigsAt w sv l) (hl : l.length ≤ 100) :
    CallsV Tryz.prog (.func (.func 273) #[] #[.pointer (some ⟨bc, 0, none⟩)]) #[] w fun e w' => e = .returned (.bool (rises l)) ∧ Below w.heap.size w w' := by
  refine ⟨_, _, rfl, own_cert1, ?_⟩
  show Calls Tryz.prog 273 #[.pointer (some ⟨bc, 0, none⟩)] w _
  have hr := rising_any sv l w hv hl
  obtain ⟨x, hx⟩ : ∃ x, rises l = x := ⟨_, rfl⟩
  rw [hx] at hr ⊢
  have HR := Lib.hid hr
  clear hv hl hr hx
  go_enter Tryz.func273, Tryz.ntmps273
  go_wp2_with fail
  refine HR.out.mono ?_
  rintro e w1 ⟨rfl, hb1⟩
  have HB := Lib.hid hb1
  clear hb1 hb hc
  go_wp2_with fail
  go_ret
  exact ⟨rfl, HB.out⟩
theorem hold2 {w w1 : World} {t bc : Nat} {v : Value} (h : t < w.heap.size ∧ w.cell? ⟨bc, 0, none⟩ = some v) (hb : Below w.heap.size w w1) : t < w1.heap.size ∧ w1.cell? ⟨bc, 0, none⟩ = some v := ⟨Nat.lt_of_lt_of_le h.1 hb.size, keep_cell h.2 hb⟩
set_option maxRecDepth 100000 in
set_option maxHeartbeats 4000000 in
theorem mk_cert (t o n : Nat) (w : World) (ho : o + 2 < n) (ht : t < w.heap.size) :
    Calls Tryz.prog 226 #[.pointer (some ⟨t, o, none⟩)] w (MakesR Tryz.prog t n w (fun f => f (o + 2) = .slice none 0 0) certI (certR o)) := by
  have HO := Lib.hid ho
  have HT := Lib.hid ht
  clear ho ht
  go_enter Tryz.func226, Tryz.ntmps226
  go_upto_region 1 with fail
  have b0 := (Below.refl w.heap.size w).alloc (Nat.le_refl _) (.cells #[.pointer (some ⟨t, o, none⟩)] 295)
  have cb := cell_new w #[.pointer (some ⟨t, o, none⟩)] 295 0 _ rfl
  obtain ⟨bc, hbc⟩ : ∃ bc, w.heap.size = bc := ⟨_, rfl⟩
  rw [hbc] at cb ⊢
  have B0 := Lib.hid b0
  have HBC := Lib.hid hbc
  clear hbc b0
  generalize w.alloc (.cells #[.pointer (some ⟨t, o, none⟩)] 295) = w0 at *
  have hst : t < w0.drew.heap.size ∧ w0.drew.cell? ⟨bc, 0, none⟩ = some (.pointer (some ⟨t, o, none⟩)) := ⟨Nat.lt_of_lt_of_le HT.out B0.out.size, cb⟩
  go_region_held3 (fun w' => t < w'.heap.size ∧ w'.cell? ⟨bc, 0, none⟩ = some (.pointer (some ⟨t, o, none⟩))) (first | exact hst | exact hk | exact hold2 hk ((Below.refl _ _).alloc (Nat.le_refl _) _))
    (first
      | (go_at_call 268; refine (mk_num t _ n _ _ _ (by have := HO.out; omega) (by first | exact hst.1 | exact hk.1)).mono ?_; rintro e w1 ⟨k1, env1, rfl, hb1, hv1⟩; have hk := hold2 (by first | exact hk | exact hst) hb1; have HB1 := Lib.hid hb1; have HV1 := Lib.hid hv1; clear hb1 hv1)
      | (go_at_call 269; refine (mk_bytes t _ n 32 _ (by have := HO.out; omega) hk.1).mono ?_; rintro e w2 ⟨k2, env2, rfl, hb2, hv2⟩; have hk := hold2 hk hb2; have HB2 := Lib.hid hb2; have HV2 := Lib.hid hv2; clear hb2 hv2)
      | (go_at_call 270; refine (mk_listG sigI (sigR 0) (sound_sig 0) (fun _ _ _ h => codec_sig.size h) one_sig t _ n 7 _ _ _ (by omega) (by have := HO.out; omega) hk.1 each_sig).mono ?_; rintro e w3 ⟨k3, env3, rfl, hb3, hv3⟩; have hk := hold2 hk hb3; have HB3 := Lib.hid hb3; have HV3 := Lib.hid hv3; clear hb3 hv3)
      | (go_at_call 272; refine (mk_provided _ _ _).mono ?_; rintro e w4 ⟨rfl, hb4, hv4⟩; have hk := hold2 hk hb4; have HB4 := Lib.hid hb4; have HV4 := Lib.hid hv4; clear hb4 hv4)
      | (go_at_call 267; refine (mk_order _ _ _ _).mono ?_; rintro e w5 ⟨rfl, hb5, hv5⟩; have hk := hold2 (hold2 hk ((Below.refl _ _).alloc (Nat.le_refl _) _)) hb5; have HB5 := Lib.hid hb5; have HV5 := Lib.hid hv5; clear hb5 hv5))
  all_goals
    obtain ⟨W4, hW4⟩ : ∃ W4, W4 = w4.alloc (.cells #[.func (.func k1) #[] env1, .func (.func k2) #[] env2, .func (.func k3) #[] env3, .func (.func 311) #[] #[.pointer (some ⟨w3.heap.size, 0, none⟩)]] 294) := ⟨_, rfl⟩
    rw [← hW4] at HB5 HV5
    have z4 : W4.heap.size = w4.heap.size + 1 := by rw [hW4]; simp
    have b4 : Below w4.heap.size w4 W4 := by rw [hW4]; exact (Below.refl _ _).alloc (Nat.le_refl _) _
    have hrow : InRow w4.heap.size [.func (.func k1) #[] env1, .func (.func k2) #[] env2, .func (.func k3) #[] env3, .func (.func 311) #[] #[.pointer (some ⟨w3.heap.size, 0, none⟩)]] W4 := by
      rw [hW4]
      intro i hi
      match i, hi with
      | 0, _ => exact cell_new _ _ _ _ _ rfl
      | 1, _ => exact cell_new _ _ _ _ _ rfl
      | 2, _ => exact cell_new _ _ _ _ _ rfl
      | 3, _ => exact cell_new _ _ _ _ _ rfl
    have tb : t < bc := by have := HT.out; have := HBC.out; omega
    have b3w : bc < w3.heap.size := Nat.lt_of_lt_of_le (World.block_lt_of_cell? _ _ cb) (Nat.le_trans HB1.out.size (Nat.le_trans HB2.out.size HB3.out.size))
    have b4w : w3.heap.size < w4.heap.size := World.block_lt_of_cell? _ _ HV4.out
    have k5 : Keep t W4 w5 := keep_of_below HB5.out (Nat.le_refl _) t
    have k4' : Keep t w4 w5 := (keep_of_below b4 (Nat.le_refl _) t).trans k5
    have k3' : Keep t w3 w5 := (keep_of_below HB4.out (Nat.le_refl _) t).trans k4'
    have k2' : Keep t w2 w5 := (keep_of_below HB3.out (Nat.le_refl _) t).trans k3'
    have k1' : Keep t w1 w5 := (keep_of_below HB2.out (Nat.le_refl _) t).trans k2'
    have ord1 : OrdR Tryz.prog t n [.func (.func k1) #[] env1, .func (.func k2) #[] env2] w5 (fun f => f (o + 2) = .slice none 0 0) (seqSp (numI 0 1000000) (bytesSp 32)) (certR1 o) :=
      (OrdR.one ((cutr_num (HV1.out.later k1')).weak (fun _ _ => trivial) (fun _ _ _ _ _ _ h => h))).app (cutr_str (HV2.out.later k2')) (sound_num o) (sound_str (o + 1)) (fun b r x h => (codec_num 0 1000000 (by omega) (by omega)).size h) (fun _ _ _ _ _ _ _ _ => trivial)
    have ord2 : OrdR Tryz.prog t n [.func (.func k1) #[] env1, .func (.func k2) #[] env2, .func (.func k3) #[] env3] w5 (fun f => f (o + 2) = .slice none 0 0) (seqSp (seqSp (numI 0 1000000) (bytesSp 32)) (countSp 7 sigI)) (certR o) :=
      ord1.app (HV3.out.later k3') ((sound_num o).seq (sound_str (o + 1))) (sound_list (sound_sig 0)) (fun b r x h => ((codec_num 0 1000000 (by omega) (by omega)).seq (codec_bytes 32)).size h) (fun d w lo hi f g hp hg => by
        obtain ⟨g1, h1, h2⟩ := hg
        rw [show g = put g1 (o + 1) _ from h2, show g1 = put f o _ from h1]; simpa [put] using hp)
    have prov : ProvR Tryz.prog t n (.func (.func 311) #[] #[.pointer (some ⟨w3.heap.size, 0, none⟩)]) w5 (fun f => f (o + 2) = .slice none 0 0) (seqSp (seqSp (numI 0 1000000) (bytesSp 32)) (countSp 7 sigI)) (certR o) (fun c => rises c.2) := by
      rintro d f f' lo hi b wx ⟨b0, r0, hA⟩ hk hhi hblk hp hR
      obtain ⟨_, _, h7, _⟩ := (((codec_num 0 1000000 (by omega) (by omega)).seq (codec_bytes 32)).seq (codec_sig.count 7 (by omega))).sound _ _ _ hA
      obtain ⟨sv, hf', hS⟩ := certR_cells hR
      refine provided_call 273 #[.pointer (some ⟨bc, 0, none⟩)] w3.heap.size b (rises d.2) wx (keep_cell2 (keep_cell2 HV4.out (by omega) k4') (by omega) hk) ?_
      refine cert1_call bc t o sv d.2 wx (keep_cell2 (keep_cell2 hst.2 (by omega) ((keep_of_below HB1.out (Nat.le_refl _) t).trans k1')) (by omega) hk) ?_ hS (by omega)
      have := hblk.get (o + 2) HO.out
      rw [this, hf']; simp [put]
    have hto := Lib.hid (order_cutR (cap := 4) (bx := W4.heap.size) (ord2.prov prov (sound_cert o)) (InRow_keep hrow (by omega) (by omega) k5) HV5.out (by omega) (by have := HB5.out.size; omega) (by omega) (by simp))
    have hbel : Hid (Below w.heap.size w w5) := by
      have e0 : Below w.heap.size w w0.drew := B0.out.drew
      have e1 := e0.trans (HB1.out.mono e0.size)
      have e2 := e1.trans (HB2.out.mono e1.size)
      have e3 := e2.trans (HB3.out.mono e2.size)
      have e4 := e3.trans (HB4.out.mono e3.size)
      have e5 := e4.trans (b4.mono e4.size)
      exact Lib.hid (e5.trans (HB5.out.mono e5.size))
    rw [z4] at hto
    clear hrow k5 k4' k3' k2' k1' hW4 b4 ord1 ord2 prov
    go_wp2_with fail
    go_ret
    exact ⟨_, _, rfl, hbel.out, hto.out⟩
end Go.Proofs.YthajnkcipifhcaaGreatDoor
end
section
open Go Go.RowKit
namespace WW
open BB
def zC : Nat → Value := fun i => if i = 0 then .int .i64 0 else if i = 1 then .string ⟨#[]⟩ else .slice none 0 0
/-- three of them beside each other -/
structure ThreeC (w0 : World) (a : Nat) (w : World) : Prop where
  below : Below w0.heap.size w0 w
  ra : Blk w a 3 zC
  rx : Blk w (a + 1) 3 zC
  rn : Blk w (a + 1 + 1) 3 zC
theorem ThreeC.on {w0 w w' : World} {a : Nat} (h : ThreeC w0 a w) (hb : Below w.heap.size w w') : ThreeC w0 a w' :=
  ⟨h.below.trans (hb.mono h.below.size), h.ra.below hb h.ra.lt, h.rx.below hb h.rx.lt, h.rn.below hb h.rn.lt⟩
end WW
namespace Go.Proofs.YthajnkcipifhcaaGreatDoor
open WW BB
end Go.Proofs.YthajnkcipifhcaaGreatDoor
end
section
open Go Go.RowKit
namespace WW
open BB
theorem ba_nil (b : ByteArray) : b ++ ⟨#[]⟩ = b := ba_ext (by simp)
theorem right_small {v : Int} {k : ByteArray} {l : List (Int × List ByteArray)} (h : rightCert v k l = true) : SmallS l ∧ k.size = 32 ∧ l.length ≤ 7 ∧ MemS l := by
  unfold rightCert at h
  simp only [Bool.and_eq_true, decide_eq_true_eq] at h
  obtain ⟨⟨⟨⟨h1, h2⟩, h3⟩, h4⟩, h5⟩ := h
  rw [okTo_iff] at h5
  have hs : ∀ p ∈ l, (∀ t ∈ p.2, t.size = 16) ∧ p.2.length ≤ 7 := fun p hp => by
    have := (all_getD (p := fun p => rightSig p.1 p.2 = true)).1 h5.1 p hp
    unfold rightSig at this
    simp only [Bool.and_eq_true, decide_eq_true_eq, List.all_eq_true] at this
    obtain ⟨a, _, b⟩ := this
    rw [List.take_of_length_le (by omega)] at a
    exact ⟨a, b⟩
  have hfl : ∀ p ∈ l, (flat p.2).length ≤ 112 := fun p hp => by
    have := flat_le 16 p.2 (fun x hx => by have := (hs p hp).1 x hx; omega)
    have := (hs p hp).2
    omega
  have hmem : ∀ i, i < l.length → l.getD i (0, []) ∈ l := fun i hi => by rw [List.getD_eq_getElem?_getD, List.getElem?_eq_getElem hi]; exact List.getElem_mem hi
  refine ⟨⟨by omega, ?_, fun i hi => ⟨by have := hfl _ (hmem i hi); omega, by have := (hs _ (hmem i hi)).2; omega⟩⟩, h3, h4, by omega, fun i hi => by have := (hs _ (hmem i hi)).2; omega⟩
  have := flat_le 200 (sigsB l) (fun x hx => by
    unfold sigsB at hx
    obtain ⟨p, hp, rfl⟩ := List.mem_map.1 hx
    show (num p.1 ++ listB p.2).size ≤ 200
    rw [ByteArray.size_append, flat_size, num_size]
    have := hfl p hp
    omega)
  have e : (sigsB l).length = l.length := by unfold sigsB; rw [List.length_map]
  omega
end WW
namespace Go.Proofs.YthajnkcipifhcaaGreatDoor
open WW BB
end Go.Proofs.YthajnkcipifhcaaGreatDoor
end
section
open Go Go.RowKit
namespace Go.Proofs.YthajnkcipifhcaaGreatDoor
open WW BB
theorem put_ne {f : Nat → Value} {i j : Nat} {u : Value} (h : j ≠ i) : put f i u j = f j := by simp [put, h]
theorem put_self {f : Nat → Value} {i : Nat} {u : Value} : put f i u i = u := by simp [put]
/-- a block's first parts, from cell o on -/
def blockR1 (o : Nat) : RelT ((Int × Int) × CertD) := seqR (seqR (numR o) (numR (o + 1))) (certR (o + 2))
/-- a block, from cell o on -/
def blockR (o : Nat) : RelT BlockD := seqR (blockR1 o) (listR 41 3 zQ (reqR 0) (o + 5))
theorem sound_block1 (o : Nat) : SoundR (blockR1 o) := ((sound_num o).seq (sound_num (o + 1))).seq (sound_cert (o + 2))
theorem sound_block (o : Nat) : SoundR (blockR o) := (sound_block1 o).seq (sound_list (sound_req 0))
theorem blockR1_cells {o : Nat} {x : (Int × Int) × CertD} {w : World} {lo hi : Nat} {f f' : Nat → Value} (h : blockR1 o x w lo hi f f') : ∃ sv, f' = put (put (put (put (put f o (.int .i64 x.1.1)) (o + 1) (.int .i64 x.1.2)) (o + 2) (.int .i64 x.2.1.1)) (o + 2 + 1) (.string x.2.1.2)) (o + 2 + 2) sv ∧ SigsAt w sv x.2.2 := by
  obtain ⟨g, ⟨g1, h1, h2⟩, h3⟩ := h
  obtain ⟨sv, h4, h5⟩ := certR_cells h3
  refine ⟨sv, ?_, h5⟩
  rw [h4, show g = put g1 (o + 1) _ from h2, show g1 = put f o _ from h1]
theorem blockR_cells {o : Nat} {x : BlockD} {w : World} {lo hi : Nat} {f f' : Nat → Value} (h : blockR o x w lo hi f f') : ∃ sv rv, f' = put (put (put (put (put (put f o (.int .i64 x.1.1.1)) (o + 1) (.int .i64 x.1.1.2)) (o + 2) (.int .i64 x.1.2.1.1)) (o + 2 + 1) (.string x.1.2.1.2)) (o + 2 + 2) sv) (o + 5) rv ∧ SigsAt w sv x.1.2.2 ∧ ReqsAt w rv x.2 := by
  obtain ⟨g, h1, rv, xs, h2, h3⟩ := h
  obtain ⟨sv, h4, h5⟩ := blockR1_cells h1
  exact ⟨sv, rv, by rw [h2, h4], h5, reqs_at h3⟩
theorem own_block1 : Own Tryz.prog 313 := ⟨_, Tryz.func313, by kernel_rfl, by kernel_rfl⟩
set_option maxRecDepth 100000 in
theorem block1_call (bc t o : Nat) (v cv : Int) (w : World) (hb : w.cell? ⟨bc, 0, none⟩ = some (.pointer (some ⟨t, o, none⟩))) (hc : w.cell? ⟨t, o, none⟩ = some (.int .i64 v)) (hv : w.cell? ⟨t, o + 2, none⟩ = some (.int .i64 cv)) :
    CallsV Tryz.prog (.func (.func 313) #[] #[.pointer (some ⟨bc, 0, none⟩)]) #[] w fun e w' => e = .returned (.bool (decide (cv < v))) ∧ Below w.heap.size w w' := by
  refine ⟨_, _, rfl, own_block1, ?_⟩
  show Calls Tryz.prog 313 #[.pointer (some ⟨bc, 0, none⟩)] w _
  go_enter Tryz.func313, Tryz.ntmps313
  go_wp2_with fail
  go_quiet (fail)
  go_wp2_with fail
  go_ret
  exact ⟨rfl, below_drewN (Below.refl _ _) _⟩
set_option maxRecDepth 100000 in
set_option maxHeartbeats 4000000 in
theorem mk_block (t o n : Nat) (w : World) (ho : o + 5 < n) (ht : t < w.heap.size) :
    Calls Tryz.prog 282 #[.pointer (some ⟨t, o, none⟩)] w (MakesR Tryz.prog t n w (fun f => f (o + 2 + 2) = .slice none 0 0 ∧ f (o + 5) = .slice none 0 0) blockI (blockR o)) := by
  have HO := Lib.hid ho
  have HT := Lib.hid ht
  clear ho ht
  go_enter Tryz.func282, Tryz.ntmps282
  go_upto_region 1 with fail
  have b0 := (Below.refl w.heap.size w).alloc (Nat.le_refl _) (.cells #[.pointer (some ⟨t, o, none⟩)] 340)
  have cb := cell_new w #[.pointer (some ⟨t, o, none⟩)] 340 0 _ rfl
  obtain ⟨bc, hbc⟩ : ∃ bc, w.heap.size = bc := ⟨_, rfl⟩
  rw [hbc] at cb ⊢
  have B0 := Lib.hid b0
  have HBC := Lib.hid hbc
  clear hbc b0
  generalize w.alloc (.cells #[.pointer (some ⟨t, o, none⟩)] 340) = w0 at *
  have hst : t < w0.drew.heap.size ∧ w0.drew.cell? ⟨bc, 0, none⟩ = some (.pointer (some ⟨t, o, none⟩)) := ⟨Nat.lt_of_lt_of_le HT.out B0.out.size, cb⟩
  go_region_held3 (fun w' => t < w'.heap.size ∧ w'.cell? ⟨bc, 0, none⟩ = some (.pointer (some ⟨t, o, none⟩))) (first | exact hst | exact hk | exact hold2 hk ((Below.refl _ _).alloc (Nat.le_refl _) _))
    (first
      | (go_at_call 268; (fail_if_success have hx := HV1); refine (mk_num t _ n _ _ _ (by have := HO.out; omega) (by first | exact hst.1 | exact hk.1)).mono ?_; rintro e w1 ⟨k1, env1, rfl, hb1, hv1⟩; have hk := hold2 (by first | exact hk | exact hst) hb1; have HB1 := Lib.hid hb1; have HV1 := Lib.hid hv1; clear hb1 hv1)
      | (go_at_call 268; refine (mk_num t _ n _ _ _ (by have := HO.out; omega) hk.1).mono ?_; rintro e w2 ⟨k2, env2, rfl, hb2, hv2⟩; have hk := hold2 hk hb2; have HB2 := Lib.hid hb2; have HV2 := Lib.hid hv2; clear hb2 hv2)
      | (go_at_call 226; refine (mk_cert t _ n _ (by have := HO.out; omega) hk.1).mono ?_; rintro e w3 ⟨k3, env3, rfl, hb3, hv3⟩; have hk := hold2 hk hb3; have HB3 := Lib.hid hb3; have HV3 := Lib.hid hv3; clear hb3 hv3)
      | (go_at_call 272; refine (mk_provided _ _ _).mono ?_; rintro e w4 ⟨rfl, hb4, hv4⟩; have hk := hold2 hk hb4; have HB4 := Lib.hid hb4; have HV4 := Lib.hid hv4; clear hb4 hv4)
      | (go_at_call 314; refine (mk_listQ reqI (reqR 0) (sound_req 0) (fun _ _ _ h => codec_req.size h) one_req t _ n 3 _ _ _ (by omega) (by have := HO.out; omega) hk.1 each_req).mono ?_; rintro e w6 ⟨k6, env6, rfl, hb6, hv6⟩; have hk := hold2 hk hb6; have HB6 := Lib.hid hb6; have HV6 := Lib.hid hv6; clear hb6 hv6)
      | (go_at_call 267; refine (mk_order _ _ _ _).mono ?_; rintro e w5 ⟨rfl, hb5, hv5⟩; have hk := hold2 (hold2 hk ((Below.refl _ _).alloc (Nat.le_refl _) _)) hb5; have HB5 := Lib.hid hb5; have HV5 := Lib.hid hv5; clear hb5 hv5))
  all_goals
    obtain ⟨W4, hW4⟩ : ∃ W4, W4 = w6.alloc (.cells #[.func (.func k1) #[] env1, .func (.func k2) #[] env2, .func (.func k3) #[] env3, .func (.func 311) #[] #[.pointer (some ⟨w3.heap.size, 0, none⟩)], .func (.func k6) #[] env6] 294) := ⟨_, rfl⟩
    rw [← hW4] at HB5 HV5
    have z4 : W4.heap.size = w6.heap.size + 1 := by rw [hW4]; simp
    have b4 : Below w6.heap.size w6 W4 := by rw [hW4]; exact (Below.refl _ _).alloc (Nat.le_refl _) _
    have hrow : InRow w6.heap.size [.func (.func k1) #[] env1, .func (.func k2) #[] env2, .func (.func k3) #[] env3, .func (.func 311) #[] #[.pointer (some ⟨w3.heap.size, 0, none⟩)], .func (.func k6) #[] env6] W4 := by
      rw [hW4]
      intro i hi
      match i, hi with
      | 0, _ => exact cell_new _ _ _ _ _ rfl
      | 1, _ => exact cell_new _ _ _ _ _ rfl
      | 2, _ => exact cell_new _ _ _ _ _ rfl
      | 3, _ => exact cell_new _ _ _ _ _ rfl
      | 4, _ => exact cell_new _ _ _ _ _ rfl
    have tb : t < bc := by have := HT.out; have := HBC.out; omega
    have b3w : bc < w3.heap.size := Nat.lt_of_lt_of_le (World.block_lt_of_cell? _ _ cb) (Nat.le_trans HB1.out.size (Nat.le_trans HB2.out.size HB3.out.size))
    have b4w : w3.heap.size < w4.heap.size := World.block_lt_of_cell? _ _ HV4.out
    have b6w : w4.heap.size ≤ w6.heap.size := HB6.out.size
    have k5 : Keep t W4 w5 := keep_of_below HB5.out (Nat.le_refl _) t
    have k6' : Keep t w6 w5 := (keep_of_below b4 (Nat.le_refl _) t).trans k5
    have k4' : Keep t w4 w5 := (keep_of_below HB6.out (Nat.le_refl _) t).trans k6'
    have k3' : Keep t w3 w5 := (keep_of_below HB4.out (Nat.le_refl _) t).trans k4'
    have k2' : Keep t w2 w5 := (keep_of_below HB3.out (Nat.le_refl _) t).trans k3'
    have k1' : Keep t w1 w5 := (keep_of_below HB2.out (Nat.le_refl _) t).trans k2'
    have ord1 : OrdR Tryz.prog t n [.func (.func k1) #[] env1, .func (.func k2) #[] env2] w5 (fun f => f (o + 2 + 2) = .slice none 0 0 ∧ f (o + 5) = .slice none 0 0) (seqSp (numI 1 1000000) (numI 0 6)) (seqR (numR o) (numR (o + 1))) :=
      (OrdR.one ((cutr_num (HV1.out.later k1')).weak (fun _ _ => trivial) (fun _ _ _ _ _ _ h => h))).app (cutr_num (HV2.out.later k2')) (sound_num o) (sound_num (o + 1)) (fun b r x h => (codec_num 1 1000000 (by omega) (by omega)).size h) (fun _ _ _ _ _ _ _ _ => trivial)
    have ord2 : OrdR Tryz.prog t n [.func (.func k1) #[] env1, .func (.func k2) #[] env2, .func (.func k3) #[] env3] w5 (fun f => f (o + 2 + 2) = .slice none 0 0 ∧ f (o + 5) = .slice none 0 0) (seqSp (seqSp (numI 1 1000000) (numI 0 6)) certI) (blockR1 o) :=
      ord1.app (HV3.out.later k3') ((sound_num o).seq (sound_num (o + 1))) (sound_cert (o + 2)) (fun b r x h => ((codec_num 1 1000000 (by omega) (by omega)).seq (codec_num 0 6 (by omega) (by omega))).size h) (fun d w lo hi f g hp hg => by
        obtain ⟨g1, h1, h2⟩ := hg
        rw [show g = put g1 (o + 1) _ from h2, show g1 = put f o _ from h1, put_ne (by omega), put_ne (by omega)]; exact hp.1)
    have prov : ProvR Tryz.prog t n (.func (.func 311) #[] #[.pointer (some ⟨w3.heap.size, 0, none⟩)]) w5 (fun f => f (o + 2 + 2) = .slice none 0 0 ∧ f (o + 5) = .slice none 0 0) (seqSp (seqSp (numI 1 1000000) (numI 0 6)) certI) (blockR1 o) (fun x => decide (x.2.1.1 < x.1.1)) := by
      rintro d f f' lo hi b wx ⟨b0, r0, hA⟩ hk hhi hblk hp hR
      obtain ⟨sv, hf', hS⟩ := blockR1_cells hR
      refine provided_call 313 #[.pointer (some ⟨bc, 0, none⟩)] w3.heap.size b (decide (d.2.1.1 < d.1.1)) wx (keep_cell2 (keep_cell2 HV4.out (by omega) k4') (by omega) hk) ?_
      refine block1_call bc t o d.1.1 d.2.1.1 wx (keep_cell2 (keep_cell2 hst.2 (by omega) ((keep_of_below HB1.out (Nat.le_refl _) t).trans k1')) (by omega) hk) ?_ ?_
      · have := hblk.get o (by have := HO.out; omega)
        rw [this, hf', put_ne (by omega), put_ne (by omega), put_ne (by omega), put_ne (by omega), put_self]
      · have := hblk.get (o + 2) (by have := HO.out; omega)
        rw [this, hf', put_ne (by omega), put_ne (by omega), put_self]
    have ord3 := (ord2.prov prov (sound_block1 o)).app (HV6.out.later k6') (sound_block1 o) (sound_list (sound_req 0)) (fun b r x h => ((((codec_num 1 1000000 (by omega) (by omega)).seq (codec_num 0 6 (by omega) (by omega))).seq codec_cert).filt (fun x => decide (x.2.1.1 < x.1.1))).size h) (fun d w lo hi f g hp hg => by
        obtain ⟨sv, hf', hS⟩ := blockR1_cells hg
        rw [hf', put_ne (by omega), put_ne (by omega), put_ne (by omega), put_ne (by omega), put_ne (by omega)]; exact hp.2)
    have hto := Lib.hid (order_cutR (cap := 5) (bx := W4.heap.size) ord3 (InRow_keep hrow (by omega) (by omega) k5) HV5.out (by omega) (by have := HB5.out.size; omega) (by omega) (by simp))
    have hbel : Hid (Below w.heap.size w w5) := by
      have e0 : Below w.heap.size w w0.drew := B0.out.drew
      have e1 := e0.trans (HB1.out.mono e0.size)
      have e2 := e1.trans (HB2.out.mono e1.size)
      have e3 := e2.trans (HB3.out.mono e2.size)
      have e4 := e3.trans (HB4.out.mono e3.size)
      have e6 := e4.trans (HB6.out.mono e4.size)
      have e5 := e6.trans (b4.mono e6.size)
      exact Lib.hid (e5.trans (HB5.out.mono e5.size))
    rw [z4] at hto
    clear hrow k6' k5 k4' k3' k2' k1' hW4 b4 ord1 ord2 ord3 prov
    go_wp2_with fail
    go_ret
    exact ⟨_, _, rfl, hbel.out, hto.out⟩
end Go.Proofs.YthajnkcipifhcaaGreatDoor
end
section
open Go Go.RowKit
namespace WW
open BB
def zB : Nat → Value := fun i => if i = 0 then .int .i64 0 else if i = 1 then .int .i64 0 else if i = 2 then .int .i64 0 else if i = 3 then .string ⟨#[]⟩ else if i = 4 then .slice none 0 0 else .slice none 0 0
theorem zB_row : #[.int .i64 0, .int .i64 0, .int .i64 0, .string ⟨#[]⟩, .slice none 0 0, .slice none 0 0] = row 6 zB := by rfl
/-- three of them beside each other -/
structure ThreeB (w0 : World) (a : Nat) (w : World) : Prop where
  below : Below w0.heap.size w0 w
  ra : Blk w a 6 zB
  rx : Blk w (a + 1) 6 zB
  rn : Blk w (a + 1 + 1) 6 zB
theorem threeB_mk (w : World) (a : Nat) (ha : w.heap.size = a) (t : TypeId) : ThreeB w a (((w.alloc (.cells #[.int .i64 0, .int .i64 0, .int .i64 0, .string ⟨#[]⟩, .slice none 0 0, .slice none 0 0] t)).alloc (.cells #[.int .i64 0, .int .i64 0, .int .i64 0, .string ⟨#[]⟩, .slice none 0 0, .slice none 0 0] t)).alloc (.cells #[.int .i64 0, .int .i64 0, .int .i64 0, .string ⟨#[]⟩, .slice none 0 0, .slice none 0 0] t)) := by
  have b1 := (Below.refl w.heap.size w).alloc (Nat.le_refl _) (.cells #[.int .i64 0, .int .i64 0, .int .i64 0, .string ⟨#[]⟩, .slice none 0 0, .slice none 0 0] t)
  have b2 := b1.alloc b1.size (.cells #[.int .i64 0, .int .i64 0, .int .i64 0, .string ⟨#[]⟩, .slice none 0 0, .slice none 0 0] t)
  exact ⟨b2.alloc b2.size _, ((Blk.new' (by omega) zB_row).alloc _).alloc _, (Blk.new' (by simp; omega) zB_row).alloc _, Blk.new' (by simp; omega) zB_row⟩
theorem ThreeB.on {w0 w w' : World} {a : Nat} (h : ThreeB w0 a w) (hb : Below w.heap.size w w') : ThreeB w0 a w' :=
  ⟨h.below.trans (hb.mono h.below.size), h.ra.below hb h.ra.lt, h.rx.below hb h.rx.lt, h.rn.below hb h.rn.lt⟩
theorem setB {w : World} {a : Nat} {f : Nat → Value} (h : Blk w a 6 f) (u0 u1 u2 u3 u4 u5 : Value) :
    (((((((w.setCell ⟨a, 0, none⟩ u0).setCell ⟨a, 1, none⟩ u1).setCell ⟨a, 2, none⟩ u2).setCell ⟨a, 3, none⟩ u3).setCell ⟨a, 4, none⟩ u4).setCell ⟨a, 5, none⟩ u5).cell? ⟨a, 0, none⟩ = some u0 ∧ ((((((w.setCell ⟨a, 0, none⟩ u0).setCell ⟨a, 1, none⟩ u1).setCell ⟨a, 2, none⟩ u2).setCell ⟨a, 3, none⟩ u3).setCell ⟨a, 4, none⟩ u4).setCell ⟨a, 5, none⟩ u5).cell? ⟨a, 1, none⟩ = some u1 ∧ ((((((w.setCell ⟨a, 0, none⟩ u0).setCell ⟨a, 1, none⟩ u1).setCell ⟨a, 2, none⟩ u2).setCell ⟨a, 3, none⟩ u3).setCell ⟨a, 4, none⟩ u4).setCell ⟨a, 5, none⟩ u5).cell? ⟨a, 2, none⟩ = some u2 ∧ ((((((w.setCell ⟨a, 0, none⟩ u0).setCell ⟨a, 1, none⟩ u1).setCell ⟨a, 2, none⟩ u2).setCell ⟨a, 3, none⟩ u3).setCell ⟨a, 4, none⟩ u4).setCell ⟨a, 5, none⟩ u5).cell? ⟨a, 3, none⟩ = some u3 ∧ ((((((w.setCell ⟨a, 0, none⟩ u0).setCell ⟨a, 1, none⟩ u1).setCell ⟨a, 2, none⟩ u2).setCell ⟨a, 3, none⟩ u3).setCell ⟨a, 4, none⟩ u4).setCell ⟨a, 5, none⟩ u5).cell? ⟨a, 4, none⟩ = some u4 ∧ ((((((w.setCell ⟨a, 0, none⟩ u0).setCell ⟨a, 1, none⟩ u1).setCell ⟨a, 2, none⟩ u2).setCell ⟨a, 3, none⟩ u3).setCell ⟨a, 4, none⟩ u4).setCell ⟨a, 5, none⟩ u5).cell? ⟨a, 5, none⟩ = some u5) ∧ Upd a w ((((((w.setCell ⟨a, 0, none⟩ u0).setCell ⟨a, 1, none⟩ u1).setCell ⟨a, 2, none⟩ u2).setCell ⟨a, 3, none⟩ u3).setCell ⟨a, 4, none⟩ u4).setCell ⟨a, 5, none⟩ u5) := by
  have k := ((((((h.set 0 u0).set 1 u1).set 2 u2).set 3 u3).set 4 u4).set 5 u5)
  exact ⟨⟨k.get 0 (by omega), k.get 1 (by omega), k.get 2 (by omega), k.get 3 (by omega), k.get 4 (by omega), k.get 5 (by omega)⟩, ((((((Upd.refl a w).trans (Upd.set _ _ _ _)).trans (Upd.set _ _ _ _)).trans (Upd.set _ _ _ _)).trans (Upd.set _ _ _ _)).trans (Upd.set _ _ _ _)).trans (Upd.set _ _ _ _)⟩
/-- all of it is read -/
def blockRd (b : ByteArray) : Option BlockD :=
  match blockI b with
  | none => none
  | some (r, d) => if r.size = 0 then some d else none
end WW
namespace Go.Proofs.YthajnkcipifhcaaGreatDoor
open WW BB
/-- what is answered -/
def BlockAns (w : World) (x : Option BlockD) (e : Ending) (w' : World) : Prop :=
  match x with
  | none => e = .returned (.tuple #[.agg #[.int .i64 0, .int .i64 0, .int .i64 0, .string ⟨#[]⟩, .slice none 0 0, .slice none 0 0], .int .i64 2])
  | some d => ∃ f' lo hi, e = .returned (.tuple #[.agg #[f' 0, f' 1, f' 2, f' 3, f' 4, f' 5], .int .i64 0]) ∧ w.heap.size ≤ lo ∧ hi ≤ w'.heap.size ∧ blockR 0 d w' lo hi zB f'
set_option maxRecDepth 100000 in
set_option maxHeartbeats 4000000 in
theorem whole_block (b : ByteArray) (hb : b.size ≤ 1000000) (w : World) :
    Calls Tryz.prog 281 #[.string b, .func (.func 282) #[] #[]] w fun e w' => BlockAns w (blockRd b) e w' ∧ Below w.heap.size w w' := by
  obtain ⟨X, hX⟩ : ∃ X, blockRd b = X := ⟨_, rfl⟩
  rw [hX]
  have HX := Lib.hid hX
  have HB := Lib.hid hb
  clear hX hb
  go_enter Tryz.func281, Tryz.ntmps281
  go_wp2_with fail
  obtain ⟨a, ha⟩ : ∃ a, w.heap.size = a := ⟨_, rfl⟩
  have K0 := Lib.hid (threeB_mk w a ha 36)
  have HA := Lib.hid ha
  rw [ha]
  clear ha
  generalize ((w.alloc (.cells #[.int .i64 0, .int .i64 0, .int .i64 0, .string ⟨#[]⟩, .slice none 0 0, .slice none 0 0] 36)).alloc (.cells #[.int .i64 0, .int .i64 0, .int .i64 0, .string ⟨#[]⟩, .slice none 0 0, .slice none 0 0] 36)).alloc (.cells #[.int .i64 0, .int .i64 0, .int .i64 0, .string ⟨#[]⟩, .slice none 0 0, .slice none 0 0] 36) = w3 at *
  refine (mk_block (a + 1) 0 6 w3 (by omega) K0.out.rx.lt).mono ?_
  rintro e w4 ⟨kv, ev, rfl, hb4, hv⟩
  have K4 := Lib.hid (K0.out.on hb4)
  have HV := Lib.hid hv
  clear hb4 hv K0
  go_wp2_with (with_reducible refine hold_callv rfl rfl ?_)
  refine wpl_callv (v := .func (.func kv) #[] ev) (args := #[.string b]) _ rfl rfl rfl (by simp [Act.eval]) (HV.out zB b w4 HB.out (Keep.refl _ _) K4.out.rx (by first | exact ⟨rfl, rfl⟩ | rfl)) Ans.ret ?_
  intro u w5 hu
  obtain ⟨ok, r, hr, he⟩ := hu
  injection hr with hr
  subst hr
  unfold EffR at he
  rcases hsp : blockI b with _ | ⟨r', d⟩
  · rw [hsp] at he
    obtain ⟨rfl, f', k5, d5⟩ := he
    have HS := Lib.hid hsp
    have B5 := Lib.hid (K4.out.below.trans (k5.below (by rw [HA.out]; omega) K4.out.below.size))
    have kA := K4.out.ra.keep k5 (by omega)
    have kN := K4.out.rn.keep k5 (by omega)
    have a0 : w5.cell? ⟨a, 0, none⟩ = some (.int .i64 0) := kA.get 0 (by omega)
    have g0 := kA.frz 0
    have a1 : w5.cell? ⟨a, 1, none⟩ = some (.int .i64 0) := kA.get 1 (by omega)
    have g1 := kA.frz 1
    have a2 : w5.cell? ⟨a, 2, none⟩ = some (.int .i64 0) := kA.get 2 (by omega)
    have g2 := kA.frz 2
    have a3 : w5.cell? ⟨a, 3, none⟩ = some (.string ⟨#[]⟩) := kA.get 3 (by omega)
    have g3 := kA.frz 3
    have a4 : w5.cell? ⟨a, 4, none⟩ = some (.slice none 0 0) := kA.get 4 (by omega)
    have g4 := kA.frz 4
    have a5 : w5.cell? ⟨a, 5, none⟩ = some (.slice none 0 0) := kA.get 5 (by omega)
    have g5 := kA.frz 5
    have n0 : w5.cell? ⟨a + 1 + 1, 0, none⟩ = some (.int .i64 0) := kN.get 0 (by omega)
    have n1 : w5.cell? ⟨a + 1 + 1, 1, none⟩ = some (.int .i64 0) := kN.get 1 (by omega)
    have n2 : w5.cell? ⟨a + 1 + 1, 2, none⟩ = some (.int .i64 0) := kN.get 2 (by omega)
    have n3 : w5.cell? ⟨a + 1 + 1, 3, none⟩ = some (.string ⟨#[]⟩) := kN.get 3 (by omega)
    have n4 : w5.cell? ⟨a + 1 + 1, 4, none⟩ = some (.slice none 0 0) := kN.get 4 (by omega)
    have n5 : w5.cell? ⟨a + 1 + 1, 5, none⟩ = some (.slice none 0 0) := kN.get 5 (by omega)
    have AL := Lib.hid (show w.heap.size ≤ a by rw [HA.out]; exact Nat.le_refl _)
    have KA := Lib.hid kA
    clear k5 d5 hsp kA kN
    go_wp2_with fail
    obtain ⟨⟨q0, q1, q2, q3, q4, q5⟩, qu⟩ := setB KA.out (.int .i64 0) (.int .i64 0) (.int .i64 0) (.string ⟨#[]⟩) (.slice none 0 0) (.slice none 0 0)
    refine bodyPost_ret (v := .tuple #[.agg #[.int .i64 0, .int .i64 0, .int .i64 0, .string ⟨#[]⟩, .slice none 0 0, .slice none 0 0], .int .i64 2]) (by simp [results, Tryz.results281, go_sem, q0, q1, q2, q3, q4, q5]) rfl ⟨?_, ?_⟩
    · rw [← HX.out, blockRd, HS.out]; rfl
    · exact B5.out.trans (qu.below AL.out)
  · rw [hsp] at he
    obtain ⟨rfl, rfl, f', k5, d5, hR⟩ := he
    have HR := Lib.hid hR
    have HS := Lib.hid hsp
    have B5 := Lib.hid (K4.out.below.trans (k5.below (by rw [HA.out]; omega) K4.out.below.size))
    have kA := K4.out.ra.keep k5 (by omega)
    have kN := K4.out.rn.keep k5 (by omega)
    have a0 : w5.cell? ⟨a, 0, none⟩ = some (.int .i64 0) := kA.get 0 (by omega)
    have g0 := kA.frz 0
    have a1 : w5.cell? ⟨a, 1, none⟩ = some (.int .i64 0) := kA.get 1 (by omega)
    have g1 := kA.frz 1
    have a2 : w5.cell? ⟨a, 2, none⟩ = some (.int .i64 0) := kA.get 2 (by omega)
    have g2 := kA.frz 2
    have a3 : w5.cell? ⟨a, 3, none⟩ = some (.string ⟨#[]⟩) := kA.get 3 (by omega)
    have g3 := kA.frz 3
    have a4 : w5.cell? ⟨a, 4, none⟩ = some (.slice none 0 0) := kA.get 4 (by omega)
    have g4 := kA.frz 4
    have a5 : w5.cell? ⟨a, 5, none⟩ = some (.slice none 0 0) := kA.get 5 (by omega)
    have g5 := kA.frz 5
    have AL := Lib.hid (show w.heap.size ≤ a by rw [HA.out]; exact Nat.le_refl _)
    have A4 := Lib.hid (show a < w4.heap.size from K4.out.ra.lt)
    have Z4 := Lib.hid K4.out.below.size
    by_cases hr : r.size = 0
    · obtain ⟨sv, rv, hf, hsv, hrv⟩ := blockR_cells hR
      obtain ⟨sa, scap, rfl, _⟩ := hsv; obtain ⟨ra, rcap, rfl, _⟩ := hrv
      have y0 : f' 0 = .int .i64 d.1.1.1 := by rw [hf]; simp [put]
      have y1 : f' 1 = .int .i64 d.1.1.2 := by rw [hf]; simp [put]
      have y2 : f' 2 = .int .i64 d.1.2.1.1 := by rw [hf]; simp [put]
      have y3 : f' 3 = .string d.1.2.1.2 := by rw [hf]; simp [put]
      have y4 : f' 4 = .slice sa d.1.2.2.length scap := by rw [hf]; simp [put]
      have y5 : f' 5 = .slice ra d.2.length rcap := by rw [hf]; simp [put]
      have x0 : w5.cell? ⟨a + 1, 0, none⟩ = some (.int .i64 d.1.1.1) := by rw [d5.get 0 (by omega), y0]
      have x1 : w5.cell? ⟨a + 1, 1, none⟩ = some (.int .i64 d.1.1.2) := by rw [d5.get 1 (by omega), y1]
      have x2 : w5.cell? ⟨a + 1, 2, none⟩ = some (.int .i64 d.1.2.1.1) := by rw [d5.get 2 (by omega), y2]
      have x3 : w5.cell? ⟨a + 1, 3, none⟩ = some (.string d.1.2.1.2) := by rw [d5.get 3 (by omega), y3]
      have x4 : w5.cell? ⟨a + 1, 4, none⟩ = some (.slice sa d.1.2.2.length scap) := by rw [d5.get 4 (by omega), y4]
      have x5 : w5.cell? ⟨a + 1, 5, none⟩ = some (.slice ra d.2.length rcap) := by rw [d5.get 5 (by omega), y5]
      obtain rfl := nil_size r hr
      have KA := Lib.hid kA
      have HY := Lib.hid (show f' 0 = .int .i64 d.1.1.1 ∧ f' 1 = .int .i64 d.1.1.2 ∧ f' 2 = .int .i64 d.1.2.1.1 ∧ f' 3 = .string d.1.2.1.2 ∧ f' 4 = .slice sa d.1.2.2.length scap ∧ f' 5 = .slice ra d.2.length rcap from ⟨y0, y1, y2, y3, y4, y5⟩)
      clear k5 hsp kA kN hr d5 hR hf y0 y1 y2 y3 y4 y5
      go_wp2_with fail
      obtain ⟨⟨q0, q1, q2, q3, q4, q5⟩, qu⟩ := setB KA.out (.int .i64 d.1.1.1) (.int .i64 d.1.1.2) (.int .i64 d.1.2.1.1) (.string d.1.2.1.2) (.slice sa d.1.2.2.length scap) (.slice ra d.2.length rcap)
      refine bodyPost_ret (v := .tuple #[.agg #[.int .i64 d.1.1.1, .int .i64 d.1.1.2, .int .i64 d.1.2.1.1, .string d.1.2.1.2, .slice sa d.1.2.2.length scap, .slice ra d.2.length rcap], .int .i64 0]) (by simp [results, Tryz.results281, go_sem, q0, q1, q2, q3, q4, q5]) rfl ⟨?_, ?_⟩
      · rw [← HX.out, blockRd, HS.out]
        obtain ⟨y0, y1, y2, y3, y4, y5⟩ := HY.out
        exact ⟨f', w4.heap.size, w5.heap.size, by rw [y0, y1, y2, y3, y4, y5], Z4.out, by rw [qu.size]; exact Nat.le_refl _, (sound_block 0).keep HR.out fun c h1 h2 => qu.block c (by have := A4.out; omega)⟩
      · exact B5.out.trans (qu.below AL.out)
    · 
      have n0 : w5.cell? ⟨a + 1 + 1, 0, none⟩ = some (.int .i64 0) := kN.get 0 (by omega)
      have n1 : w5.cell? ⟨a + 1 + 1, 1, none⟩ = some (.int .i64 0) := kN.get 1 (by omega)
      have n2 : w5.cell? ⟨a + 1 + 1, 2, none⟩ = some (.int .i64 0) := kN.get 2 (by omega)
      have n3 : w5.cell? ⟨a + 1 + 1, 3, none⟩ = some (.string ⟨#[]⟩) := kN.get 3 (by omega)
      have n4 : w5.cell? ⟨a + 1 + 1, 4, none⟩ = some (.slice none 0 0) := kN.get 4 (by omega)
      have n5 : w5.cell? ⟨a + 1 + 1, 5, none⟩ = some (.slice none 0 0) := kN.get 5 (by omega)
      have e0 : r.toList.isEmpty = false := by
        rw [ByteArray.toList_eq]
        rcases hl : r.data.toList with _ | ⟨c, l⟩
        · exact absurd (show r.size = 0 by show r.data.size = 0; rw [← Array.length_toList, hl]; rfl) hr
        · rfl
      have e1 : (!r.toList.isEmpty) = true := by rw [e0]; rfl
      have KA := Lib.hid kA
      have HRS := Lib.hid hr
      clear k5 hsp kA kN hr d5 hR
      go_wp2_with fail
      obtain ⟨⟨q0, q1, q2, q3, q4, q5⟩, qu⟩ := setB KA.out (.int .i64 0) (.int .i64 0) (.int .i64 0) (.string ⟨#[]⟩) (.slice none 0 0) (.slice none 0 0)
      refine bodyPost_ret (v := .tuple #[.agg #[.int .i64 0, .int .i64 0, .int .i64 0, .string ⟨#[]⟩, .slice none 0 0, .slice none 0 0], .int .i64 2]) (by simp [results, Tryz.results281, go_sem, q0, q1, q2, q3, q4, q5]) rfl ⟨?_, ?_⟩
      · rw [← HX.out, blockRd, HS.out]
        dsimp only
        rw [if_neg HRS.out]; rfl
      · exact B5.out.trans (qu.below AL.out)
set_option maxRecDepth 100000 in
set_option maxHeartbeats 4000000 in
theorem read_block (b : ByteArray) (hb : b.size ≤ 1000000) (w : World) :
    Calls Tryz.prog 237 #[.string b] w fun e w' => BlockAns w (blockRd b) e w' ∧ Below w.heap.size w w' := by
  obtain ⟨X, hX⟩ : ∃ X, blockRd b = X := ⟨_, rfl⟩
  have HW := Lib.hid (fun wx => hX ▸ whole_block b hb wx)
  rw [hX]
  clear hb hX
  go_enter Tryz.func237, Tryz.ntmps237
  go_wp2_with fail
  obtain ⟨a, ha⟩ : ∃ a, w.heap.size = a := ⟨_, rfl⟩
  have k0 : Blk (w.alloc (.cells #[.int .i64 0, .int .i64 0, .int .i64 0, .string ⟨#[]⟩, .slice none 0 0, .slice none 0 0] 36)) a 6 zB := Blk.new' ha.symm zB_row
  have b0 := (Below.refl w.heap.size w).alloc (Nat.le_refl _) (.cells #[.int .i64 0, .int .i64 0, .int .i64 0, .string ⟨#[]⟩, .slice none 0 0, .slice none 0 0] 36)
  rw [ha]
  have AL := Lib.hid (show w.heap.size ≤ a by omega)
  clear ha
  generalize w.alloc (.cells #[.int .i64 0, .int .i64 0, .int .i64 0, .string ⟨#[]⟩, .slice none 0 0, .slice none 0 0] 36) = w1 at *
  have Z1 := Lib.hid (And.intro b0.size k0.lt)
  refine (HW.out w1).mono ?_
  rintro e w2 ⟨he, hb2⟩
  have KA := Lib.hid (k0.below hb2 k0.lt)
  have B2 := Lib.hid (b0.trans (hb2.mono b0.size))
  clear k0 b0 hb2 HW
  have a0 : w2.cell? ⟨a, 0, none⟩ = some (.int .i64 0) := KA.out.get 0 (by omega)
  have g0 := KA.out.frz 0
  have a1 : w2.cell? ⟨a, 1, none⟩ = some (.int .i64 0) := KA.out.get 1 (by omega)
  have g1 := KA.out.frz 1
  have a2 : w2.cell? ⟨a, 2, none⟩ = some (.int .i64 0) := KA.out.get 2 (by omega)
  have g2 := KA.out.frz 2
  have a3 : w2.cell? ⟨a, 3, none⟩ = some (.string ⟨#[]⟩) := KA.out.get 3 (by omega)
  have g3 := KA.out.frz 3
  have a4 : w2.cell? ⟨a, 4, none⟩ = some (.slice none 0 0) := KA.out.get 4 (by omega)
  have g4 := KA.out.frz 4
  have a5 : w2.cell? ⟨a, 5, none⟩ = some (.slice none 0 0) := KA.out.get 5 (by omega)
  have g5 := KA.out.frz 5
  rcases X with _ | d
  · obtain rfl : e = .returned (.tuple #[.agg #[.int .i64 0, .int .i64 0, .int .i64 0, .string ⟨#[]⟩, .slice none 0 0, .slice none 0 0], .int .i64 2]) := he
    go_wp2_with fail
    obtain ⟨⟨q0, q1, q2, q3, q4, q5⟩, qu⟩ := setB KA.out (.int .i64 0) (.int .i64 0) (.int .i64 0) (.string ⟨#[]⟩) (.slice none 0 0) (.slice none 0 0)
    refine bodyPost_ret (v := .tuple #[.agg #[.int .i64 0, .int .i64 0, .int .i64 0, .string ⟨#[]⟩, .slice none 0 0, .slice none 0 0], .int .i64 2]) (by simp [results, Tryz.results237, go_sem, q0, q1, q2, q3, q4, q5]) rfl ⟨rfl, ?_⟩
    exact B2.out.trans (qu.below AL.out)
  · obtain ⟨f', lo, hi, rfl, hlo, hhi, hR⟩ := he
    have HR := Lib.hid hR
    have HLO := Lib.hid (And.intro hlo hhi)
    obtain ⟨sv, rv, hf, hsv, hrv⟩ := blockR_cells hR
    obtain ⟨sa, scap, rfl, _⟩ := hsv; obtain ⟨ra, rcap, rfl, _⟩ := hrv
    have y0 : f' 0 = .int .i64 d.1.1.1 := by rw [hf]; simp [put]
    have y1 : f' 1 = .int .i64 d.1.1.2 := by rw [hf]; simp [put]
    have y2 : f' 2 = .int .i64 d.1.2.1.1 := by rw [hf]; simp [put]
    have y3 : f' 3 = .string d.1.2.1.2 := by rw [hf]; simp [put]
    have y4 : f' 4 = .slice sa d.1.2.2.length scap := by rw [hf]; simp [put]
    have y5 : f' 5 = .slice ra d.2.length rcap := by rw [hf]; simp [put]
    have HY := Lib.hid (show f' 0 = .int .i64 d.1.1.1 ∧ f' 1 = .int .i64 d.1.1.2 ∧ f' 2 = .int .i64 d.1.2.1.1 ∧ f' 3 = .string d.1.2.1.2 ∧ f' 4 = .slice sa d.1.2.2.length scap ∧ f' 5 = .slice ra d.2.length rcap from ⟨y0, y1, y2, y3, y4, y5⟩)
    rw [y0, y1, y2, y3, y4, y5]
    clear hR hf hlo hhi y0 y1 y2 y3 y4 y5
    go_wp2_with fail
    obtain ⟨⟨q0, q1, q2, q3, q4, q5⟩, qu⟩ := setB KA.out (.int .i64 d.1.1.1) (.int .i64 d.1.1.2) (.int .i64 d.1.2.1.1) (.string d.1.2.1.2) (.slice sa d.1.2.2.length scap) (.slice ra d.2.length rcap)
    refine bodyPost_ret (v := .tuple #[.agg #[.int .i64 d.1.1.1, .int .i64 d.1.1.2, .int .i64 d.1.2.1.1, .string d.1.2.1.2, .slice sa d.1.2.2.length scap, .slice ra d.2.length rcap], .int .i64 0]) (by simp [results, Tryz.results237, go_sem, q0, q1, q2, q3, q4, q5]) rfl ⟨?_, ?_⟩
    · obtain ⟨y0, y1, y2, y3, y4, y5⟩ := HY.out
      exact ⟨f', lo, hi, by rw [y0, y1, y2, y3, y4, y5], Nat.le_trans Z1.out.1 HLO.out.1, by rw [qu.size]; exact HLO.out.2, (sound_block 0).keep HR.out fun c h1 h2 => qu.block c (by have := Z1.out.2; have := HLO.out.1; omega)⟩
    · exact B2.out.trans (qu.below AL.out)
end Go.Proofs.YthajnkcipifhcaaGreatDoor
end
section
open Go Go.RowKit
namespace WW
open BB
theorem blockRd_some {b r : ByteArray} {d : BlockD} (h : blockI b = some (r, d)) (h0 : r.size = 0) : blockRd b = some d := by unfold blockRd; rw [h]; exact if_pos h0
theorem blockRd_put {c : BlockD} (h : blockOk c) : blockRd (blockD c) = some c := by
  have := codec_block.put c ⟨#[]⟩ h
  rw [ba_nil] at this
  exact blockRd_some this rfl
theorem blockRd_sound {b : ByteArray} {c : BlockD} (h : blockRd b = some c) : b = blockD c ∧ blockOk c := by
  unfold blockRd at h
  rcases h1 : blockI b with _ | ⟨r, d⟩
  · rw [h1] at h; cases h
  rw [h1] at h
  dsimp only at h
  split at h
  · rename_i h0
    injection h with h
    subst h
    obtain ⟨e1, e2⟩ := codec_block.sound _ _ _ h1
    exact ⟨by rw [e1, nil_size r h0, ba_nil], e2⟩
  · cases h
theorem right_smallB {v p cv : Int} {k : ByteArray} {l : List (Int × List ByteArray)} {m : List (Int × Int × ByteArray)} (h : rightBlock v p cv k l m = true) : SmallS l ∧ SmallR m ∧ k.size = 32 ∧ MemS l ∧ m.length ≤ 3 := by
  unfold rightBlock at h
  simp only [Bool.and_eq_true, decide_eq_true_eq, List.all_eq_true] at h
  obtain ⟨⟨_, _, _, _, h5, _, h7⟩, h8⟩ := h
  obtain ⟨a1, a2, a3, a4⟩ := right_small h5
  refine ⟨a1, ⟨by omega, ?_, fun i hi => ?_⟩, a2, a4, h7⟩
  · have := flat_le 72 (reqsB m) (fun x hx => by
      unfold reqsB at hx
      obtain ⟨p, hp, rfl⟩ := List.mem_map.1 hx
      have h4 := (h8 p hp).2.2.2.2
      rw [reqB_size]; omega)
    have e : (reqsB m).length = m.length := by unfold reqsB; rw [List.length_map]
    omega
  · have := (h8 _ (show m.getD i (0, 0, ⟨#[]⟩) ∈ m by rw [List.getD_eq_getElem?_getD, List.getElem?_eq_getElem hi]; exact List.getElem_mem hi)).2.2.2.2
    omega
end WW
namespace Go.Proofs.YthajnkcipifhcaaGreatDoor
open WW BB
end Go.Proofs.YthajnkcipifhcaaGreatDoor
end
section
open Go Go.RowKit
namespace WW
open BB
section
variable {α : Type} {A : ByteArray → Option (ByteArray × α)} {ea : α → ByteArray} {oa : α → Prop}
/-- a part: a mark, 0 where nothing is; 1, and the thing, that isn't zero -/
def partSp (nz : α → Bool) (A : ByteArray → Option (ByteArray × α)) (b : ByteArray) : Option (ByteArray × Option α) :=
  if b.size = 0 then none
  else if b.data.toList.getD 0 0 = 0 then some (b.extract 1 b.size, none)
  else if b.data.toList.getD 0 0 = 1 then mapSp some (filtSp A nz) (b.extract 1 b.size)
  else none
def encPart (ea : α → ByteArray) : Option α → ByteArray
  | none => ⟨#[0]⟩
  | some a => ⟨#[1]⟩ ++ ea a
def okPart (nz : α → Bool) (oa : α → Prop) : Option α → Prop
  | none => True
  | some a => oa a ∧ nz a = true
theorem one_list (x : UInt8) (r : ByteArray) : ((⟨#[x]⟩ : ByteArray) ++ r).data.toList = x :: r.data.toList := by rw [ByteArray.data_append, Array.toList_append]; rfl
theorem one_size (x : UInt8) (r : ByteArray) : ((⟨#[x]⟩ : ByteArray) ++ r).size = 1 + r.size := by rw [ByteArray.size_append]; rfl
theorem one_drop (x : UInt8) (r : ByteArray) : ((⟨#[x]⟩ : ByteArray) ++ r).extract 1 ((⟨#[x]⟩ : ByteArray) ++ r).size = r := by
  apply ba_ext
  have hr := ba_list r
  rw [ByteArray.data_extract, Array.toList_extract, one_list, one_size, List.extract_eq_take_drop]
  show List.take (1 + r.size - 1) r.data.toList = r.data.toList
  exact List.take_of_length_le (by omega)
theorem one_split (b : ByteArray) (x : UInt8) (h0 : b.size ≠ 0) (hx : b.data.toList.getD 0 0 = x) : b = ⟨#[x]⟩ ++ b.extract 1 b.size := by
  apply ba_ext
  have hl := ba_list b
  rw [one_list, ByteArray.data_extract, Array.toList_extract, List.extract_eq_take_drop]
  rcases hb : b.data.toList with _ | ⟨y, t⟩
  · rw [hb] at hl; simp at hl; omega
  · rw [hb] at hx hl
    have hy : y = x := by simpa using hx
    subst hy
    simp only [List.drop_succ_cons, List.drop_zero]
    rw [List.take_of_length_le (by simp at hl; omega)]
theorem Codec.part (h : Codec A ea oa) (nz : α → Bool) : Codec (partSp nz A) (encPart ea) (okPart nz oa) where
  put := fun x r hx => by
    rcases x with _ | a
    · unfold partSp encPart
      rw [if_neg (by rw [one_size]; omega), if_pos (by rw [one_list]; rfl), one_drop]
    · have e : encPart ea (some a) ++ r = ⟨#[1]⟩ ++ (ea a ++ r) := by unfold encPart; rw [ByteArray.append_assoc]
      rw [e]
      unfold partSp
      rw [if_neg (by rw [one_size]; omega), if_neg (by rw [one_list]; show ¬ (1 : UInt8) = 0; decide), if_pos (by rw [one_list]; rfl), one_drop]
      exact map_some ((h.filt nz).put a r hx)
  sound := fun b r x hb => by
    unfold partSp at hb
    split at hb
    · cases hb
    · rename_i h0
      split at hb
      · rename_i hm
        injection hb with hb
        injection hb with h1 h2
        subst h2
        exact ⟨by rw [← h1]; exact one_split b 0 h0 hm, trivial⟩
      · split at hb
        · rename_i hm
          obtain ⟨a, h1, rfl⟩ := map_inv hb
          obtain ⟨e, o1, o2⟩ := (h.filt nz).sound _ _ _ h1
          refine ⟨?_, o1, o2⟩
          have := one_split b 1 h0 hm
          rw [e] at this
          rw [this]; unfold encPart; rw [ByteArray.append_assoc]
        · cases hb
end
theorem codec_text (fits : Nat → Bool) : Codec (textSp fits) txt (fun s => fits s.size = true ∧ s.size ≤ 2147483647) where
  put := fun s r h => by rw [textSp_put fits s r h.2, if_pos h.1]
  sound := fun b r s h => by
    obtain ⟨h1, h2, h3⟩ := textSp_sound h
    exact ⟨h1, h2, h3⟩
/-- what isn't zero -/
def nzB (x : BlockD) : Bool := !(decide (x.1.1.1 = 0) && (decide (x.1.1.2 = 0) && (decide (x.1.2.1.1 = 0) && (decide (x.1.2.1.2.size = 0) && (decide (x.1.2.2.length = 0) && decide (x.2.length = 0))))))
def nzC (c : CertD) : Bool := !(decide (c.1.1 = 0) && (decide (c.1.2.size = 0) && decide (c.2.length = 0)))
def nzS (s : Int × List ByteArray) : Bool := !(decide (s.1 = 0) && decide (s.2.length = 0))
def nzR (r : Int × Int × ByteArray) : Bool := !(decide (r.1 = 0) && (decide (r.2.1 = 0) && decide (r.2.2.size = 0)))
def sigD (s : Int × List ByteArray) : ByteArray := sigB s.1 s.2
def reqD (r : Int × Int × ByteArray) : ByteArray := reqB r.1 r.2.1 r.2.2
def sigOk (s : Int × List ByteArray) : Prop := rightSig s.1 s.2 = true
def reqOk (r : Int × Int × ByteArray) : Prop := rightR r.1 r.2.1 r.2.2
def fitsH (d : Nat) : Bool := decide (d = 0) || decide (d = 32)
def fitsT (d : Nat) : Bool := decide (d = 0) || decide (d = 16)
abbrev MsgD := (((((((((Int × Int) × Int) × Int) × ByteArray) × Option BlockD) × Option CertD) × Option (Int × List ByteArray)) × Option (Int × Int × ByteArray)) × Int) × ByteArray
/-- a message -/
def msgI : ByteArray → Option (ByteArray × MsgD) :=
  seqSp (seqSp (seqSp (seqSp (seqSp (seqSp (seqSp (seqSp (seqSp (seqSp (numI 1 7) (numI 0 20)) (numI 0 20)) (numI 0 1000000)) (textSp fitsH)) (partSp nzB blockI)) (partSp nzC certI)) (partSp nzS sigI)) (partSp nzR reqI)) (numI 0 2147483647)) (textSp fitsT)
def msgD (m : MsgD) : ByteArray :=
  num m.1.1.1.1.1.1.1.1.1.1 ++ num m.1.1.1.1.1.1.1.1.1.2 ++ num m.1.1.1.1.1.1.1.1.2 ++ num m.1.1.1.1.1.1.1.2 ++ txt m.1.1.1.1.1.1.2 ++ encPart blockD m.1.1.1.1.1.2 ++ encPart certD m.1.1.1.1.2 ++ encPart sigD m.1.1.1.2 ++ encPart reqD m.1.1.2 ++ num m.1.2 ++ txt m.2
def msgOk (m : MsgD) : Prop :=
  ((((((((((1 ≤ m.1.1.1.1.1.1.1.1.1.1 ∧ m.1.1.1.1.1.1.1.1.1.1 ≤ 7) ∧ 0 ≤ m.1.1.1.1.1.1.1.1.1.2 ∧ m.1.1.1.1.1.1.1.1.1.2 ≤ 20) ∧ 0 ≤ m.1.1.1.1.1.1.1.1.2 ∧ m.1.1.1.1.1.1.1.1.2 ≤ 20) ∧ 0 ≤ m.1.1.1.1.1.1.1.2 ∧ m.1.1.1.1.1.1.1.2 ≤ 1000000) ∧ fitsH m.1.1.1.1.1.1.2.size = true ∧ m.1.1.1.1.1.1.2.size ≤ 2147483647) ∧ okPart nzB blockOk m.1.1.1.1.1.2) ∧ okPart nzC certOk m.1.1.1.1.2) ∧ okPart nzS sigOk m.1.1.1.2) ∧ okPart nzR reqOk m.1.1.2) ∧ 0 ≤ m.1.2 ∧ m.1.2 ≤ 2147483647) ∧ fitsT m.2.size = true ∧ m.2.size ≤ 2147483647
theorem codec_msg : Codec msgI msgD msgOk :=
  (((((((((((codec_num 1 7 (by omega) (by omega)).seq (codec_num 0 20 (by omega) (by omega))).seq (codec_num 0 20 (by omega) (by omega))).seq (codec_num 0 1000000 (by omega) (by omega))).seq (codec_text fitsH)).seq (codec_block.part nzB)).seq (codec_cert.part nzC)).seq (codec_sig.part nzS)).seq (codec_req.part nzR)).seq (codec_num 0 2147483647 (by omega) (by omega))).seq (codec_text fitsT))
end WW
end
section
open Go Go.RowKit
namespace WW
open BB
theorem emp_false {b : ByteArray} (h : ¬ b.size = 0) : b.toList.isEmpty = false := by
  rw [ByteArray.toList_eq]
  rcases hl : b.data.toList with _ | ⟨c, l⟩
  · exact absurd (show b.size = 0 by show b.data.size = 0; rw [← Array.length_toList, hl]; rfl) h
  · rfl
end WW
namespace Go.Proofs.YthajnkcipifhcaaGreatDoor
open WW BB
end Go.Proofs.YthajnkcipifhcaaGreatDoor
end
section
open Go Go.RowKit
namespace Go.Proofs.YthajnkcipifhcaaGreatDoor
open WW BB
def preB (f : Nat → Value) : Prop := f 9 = .slice none 0 0 ∧ f 10 = .slice none 0 0
end Go.Proofs.YthajnkcipifhcaaGreatDoor
end
section
open Go Go.RowKit
namespace WW
/-- a zero message's cells -/
def zM : Nat → Value := fun i => if i = 4 then .string ⟨#[]⟩ else if i = 8 then .string ⟨#[]⟩ else if i = 9 then .slice none 0 0 else if i = 10 then .slice none 0 0 else if i = 12 then .string ⟨#[]⟩ else if i = 13 then .slice none 0 0 else if i = 15 then .slice none 0 0 else if i = 18 then .string ⟨#[]⟩ else if i = 20 then .string ⟨#[]⟩ else .int .i64 0
end WW
namespace Go.Proofs.YthajnkcipifhcaaGreatDoor
open WW BB
/-- nothing -/
def noB : BlockD := (((0, 0), ((0, ⟨#[]⟩), [])), [])
def noC : CertD := ((0, ⟨#[]⟩), [])
def noS : Int × List ByteArray := (0, [])
def noR : Int × Int × ByteArray := (0, 0, ⟨#[]⟩)
theorem sigs_nil (w : World) : SigsAt w (.slice none 0 0) [] := ⟨none, 0, rfl, Or.inl rfl⟩
theorem reqs_nil (w : World) : ReqsAt w (.slice none 0 0) [] := ⟨none, 0, rfl, Or.inl rfl⟩
theorem strs_nil (w : World) : StrsAt w (.slice none 0 0) [] := ⟨none, 0, rfl, Or.inl rfl⟩
/-- the cells of a message, from what its parts are -/
structure MsgAt (w : World) (f : Nat → Value) (k fr dst v : Int) (h : ByteArray) (x : BlockD) (c : CertD) (s : Int × List ByteArray) (r : Int × Int × ByteArray) (ix : Int) (tg : ByteArray) (s9 r10 s13 t15 : Value) : Prop where
  y0 : f 0 = .int .i64 k
  y1 : f 1 = .int .i64 fr
  y2 : f 2 = .int .i64 dst
  y3 : f 3 = .int .i64 v
  y4 : f 4 = .string h
  y5 : f 5 = .int .i64 x.1.1.1
  y6 : f 6 = .int .i64 x.1.1.2
  y7 : f 7 = .int .i64 x.1.2.1.1
  y8 : f 8 = .string x.1.2.1.2
  y9 : f 9 = s9
  y10 : f 10 = r10
  y11 : f 11 = .int .i64 c.1.1
  y12 : f 12 = .string c.1.2
  y13 : f 13 = s13
  y14 : f 14 = .int .i64 s.1
  y15 : f 15 = t15
  y16 : f 16 = .int .i64 r.1
  y17 : f 17 = .int .i64 r.2.1
  y18 : f 18 = .string r.2.2
  y19 : f 19 = .int .i64 ix
  y20 : f 20 = .string tg
  h9 : SigsAt w s9 x.1.2.2
  h10 : ReqsAt w r10 x.2
  h13 : SigsAt w s13 c.2
  h15 : StrsAt w t15 s.2
end Go.Proofs.YthajnkcipifhcaaGreatDoor
end
section
open Go Go.RowKit
namespace BB
end BB
namespace WW
open BB
/-- three of them beside each other -/
structure ThreeM (w0 : World) (a : Nat) (w : World) : Prop where
  below : Below w0.heap.size w0 w
  ra : Blk w a 21 zM
  rx : Blk w (a + 1) 21 zM
  rn : Blk w (a + 1 + 1) 21 zM
theorem ThreeM.on {w0 w w' : World} {a : Nat} (h : ThreeM w0 a w) (hb : Below w.heap.size w w') : ThreeM w0 a w' :=
  ⟨h.below.trans (hb.mono h.below.size), h.ra.below hb h.ra.lt, h.rx.below hb h.rx.lt, h.rn.below hb h.rn.lt⟩
/-- all of it is read -/
def msgRd (b : ByteArray) : Option MsgD :=
  match msgI b with
  | none => none
  | some (r, d) => if r.size = 0 then some d else none
end WW
namespace Go.Proofs.YthajnkcipifhcaaGreatDoor
open WW BB
theorem agg_msg (w : World) : (isAgg 43).run Tryz.prog w = .ok true w := by kernel_rfl
theorem size_msg (w : World) : (Go.sizeOf 43).run Tryz.prog w = .ok 21 w := by kernel_rfl
end Go.Proofs.YthajnkcipifhcaaGreatDoor
end
section
open Go Go.RowKit
namespace WW
open BB
/-- the cells f in block g, and what was as it was -/
structure MBox (w : World) (g : Nat) (f : Nat → Value) (wr : World) : Prop where
  below : Below w.heap.size w wr
  blk : Blk wr g 21 f
theorem mbox_mk (w : World) (f : Nat → Value) (t : TypeId) : MBox w w.heap.size f (w.alloc (.cells (row 21 f) t)) :=
  ⟨(Below.refl _ _).alloc (Nat.le_refl _) _, Blk.new w 21 f _ t rfl⟩
theorem MBox.on {w w1 w2 : World} {g : Nat} {f : Nat → Value} (h : MBox w g f w1) (hb : Below w1.heap.size w1 w2) : MBox w g f w2 :=
  ⟨h.below.trans (hb.mono h.below.size), h.blk.below hb h.blk.lt⟩
theorem MBox.at_ {w wr : World} {g : Nat} {f : Nat → Value} (h : MBox w g f wr) (i : Nat) (u : Value) (hi : i < 21) (e : f i = u) : wr.cell? ⟨g, i, none⟩ = some u := by
  rw [h.blk.get i hi, e]
/-- a message of a size that is looked at -/
def fewMsg (h tg : ByteArray) (x : BlockD) (c : CertD) (s : Int × List ByteArray) (r : Int × Int × ByteArray) : Bool :=
  fewBlock x.1.2.1.2 x.1.2.2 x.2 && (fewCert c.1.2 c.2 && (fewSig s.2 && (decide (h.size ≤ 50) && (decide (tg.size ≤ 50) && decide (r.2.2.size ≤ 60)))))
/-- no more than fits into memory -/
structure MemM (x : BlockD) (c : CertD) (s : Int × List ByteArray) : Prop where
  b1 : MemS x.1.2.2
  b2 : x.1.2.1.2.size ≤ 9223372036854775807
  b3 : x.2.length ≤ 9223372036854775807
  c1 : MemS c.2
  c2 : c.1.2.size ≤ 9223372036854775807
  s1 : s.2.length ≤ 9223372036854775807
end WW
namespace Go.Proofs.YthajnkcipifhcaaGreatDoor
open WW BB
/-- a message's parts stay what they are -/
theorem MsgAt.later {w w' : World} {f : Nat → Value} {k fr dst v : Int} {h : ByteArray} {x : BlockD} {c : CertD} {s : Int × List ByteArray} {r : Int × Int × ByteArray} {ix : Int} {tg : ByteArray} {s9 r10 s13 t15 : Value}
    (M : MsgAt w f k fr dst v h x c s r ix tg s9 r10 s13 t15) (hb : Below w.heap.size w w') : MsgAt w' f k fr dst v h x c s r ix tg s9 r10 s13 t15 :=
  ⟨M.y0, M.y1, M.y2, M.y3, M.y4, M.y5, M.y6, M.y7, M.y8, M.y9, M.y10, M.y11, M.y12, M.y13, M.y14, M.y15, M.y16, M.y17, M.y18, M.y19, M.y20, M.h9.later hb, M.h10.later hb, M.h13.later hb, M.h15.later hb⟩
end Go.Proofs.YthajnkcipifhcaaGreatDoor
end
section
open Go Go.RowKit
namespace Go.Proofs.YthajnkcipifhcaaGreatDoor
open WW BB
set_option maxRecDepth 100000 in
theorem rzsig_any (f : Int) (tv : Value) (ts : List ByteArray) (w : World) (hv : StrsAt w tv ts) : Calls Tryz.prog 53 #[.agg #[.int .i64 f, tv]] w fun e w' => e = .returned (.bool (!nzS (f, ts))) ∧ Below w.heap.size w w' := by
  obtain ⟨a0, cap, rfl, _⟩ := hv
  have hb := (Below.refl w.heap.size w).alloc (Nat.le_refl _) (.cells #[.int .i64 f, .slice a0 ts.length cap] 39)
  by_cases h1 : f = 0
  rotate_left
  · have t1 : (f == 0) = false := by simpa using h1
    rw [show (!nzS (f, ts)) = false by simp [nzS, h1]]
    clear h1
    go_enter Tryz.func53, Tryz.ntmps53
    go_wp2_with fail
    go_ret
    exact ⟨rfl, hb⟩
  subst h1
  rw [show (!nzS (0, ts)) = decide (ts.length = 0) by simp [nzS]]
  generalize ts.length = y at *
  by_cases h2 : y = 0
  rotate_left
  · have t1 : ((y : Int) == 0) = false := by simp; omega
    rw [show decide (y = 0) = false by simpa using h2]
    clear h2
    go_enter Tryz.func53, Tryz.ntmps53
    go_wp2_with fail
    go_ret
    exact ⟨rfl, hb⟩
  subst h2
  go_enter Tryz.func53, Tryz.ntmps53
  go_wp2_with fail
  go_ret
  exact ⟨rfl, hb⟩
set_option maxRecDepth 100000 in
theorem rzcert_any (v : Int) (k : ByteArray) (sv : Value) (l : List (Int × List ByteArray)) (w : World) (hv : SigsAt w sv l) : Calls Tryz.prog 51 #[.agg #[.int .i64 v, .string k, sv]] w fun e w' => e = .returned (.bool (!nzC ((v, k), l))) ∧ Below w.heap.size w w' := by
  obtain ⟨a0, cap, rfl, _⟩ := hv
  have hb := (Below.refl w.heap.size w).alloc (Nat.le_refl _) (.cells #[.int .i64 v, .string k, .slice a0 l.length cap] 33)
  by_cases h1 : v = 0
  rotate_left
  · have t1 : (v == 0) = false := by simpa using h1
    rw [show (!nzC ((v, k), l)) = false by simp [nzC, h1]]
    clear h1
    go_enter Tryz.func51, Tryz.ntmps51
    go_wp2_with fail
    go_ret
    exact ⟨rfl, hb⟩
  subst h1
  by_cases h3 : k.size = 0
  rotate_left
  · have t1 := emp_false h3
    rw [show (!nzC ((0, k), l)) = false by simp [nzC, h3]]
    clear h3
    go_enter Tryz.func51, Tryz.ntmps51
    go_wp2_with fail
    go_ret
    exact ⟨rfl, hb⟩
  obtain rfl := nil_size k h3
  rw [show (!nzC ((0, ⟨#[]⟩), l)) = decide (l.length = 0) by
    show (!(!(decide ((0 : Int) = 0) && (decide ((⟨#[]⟩ : ByteArray).size = 0) && decide (l.length = 0))))) = _
    rw [show decide ((⟨#[]⟩ : ByteArray).size = 0) = true from rfl]; simp]
  clear h3
  generalize l.length = y at *
  by_cases h2 : y = 0
  rotate_left
  · have t1 : ((y : Int) == 0) = false := by simp; omega
    rw [show decide (y = 0) = false by simpa using h2]
    clear h2
    go_enter Tryz.func51, Tryz.ntmps51
    go_wp2_with fail
    go_ret
    exact ⟨rfl, hb⟩
  subst h2
  go_enter Tryz.func51, Tryz.ntmps51
  go_wp2_with fail
  go_ret
  exact ⟨rfl, hb⟩
set_option maxRecDepth 100000 in
set_option maxHeartbeats 2000000 in
theorem rzblock_any (v p cv : Int) (k : ByteArray) (sv rv : Value) (l : List (Int × List ByteArray)) (m : List (Int × Int × ByteArray)) (w : World) (hv : SigsAt w sv l) (hr : ReqsAt w rv m) :
    Calls Tryz.prog 49 #[.agg #[.int .i64 v, .int .i64 p, .int .i64 cv, .string k, sv, rv]] w fun e w' => e = .returned (.bool (!nzB (((v, p), ((cv, k), l)), m))) ∧ Below w.heap.size w w' := by
  have hzc : (!nzB (((v, p), ((cv, k), l)), m)) = (decide (v = 0) && (decide (p = 0) && ((!nzC ((cv, k), l)) && decide (m.length = 0)))) := by simp [nzB, nzC, Bool.and_assoc]
  rw [hzc]
  have HZ := Lib.hid (fun wx (hb : Below w.heap.size w wx) => rzcert_any cv k sv l wx (hv.later hb))
  obtain ⟨Z, hZ⟩ : ∃ Z, (!nzC ((cv, k), l)) = Z := ⟨_, rfl⟩
  rw [hZ] at HZ ⊢
  clear hZ hzc
  obtain ⟨a0, cap, rfl, _⟩ := hv
  obtain ⟨a1, cap1, rfl, _⟩ := hr
  have K := Lib.hid (show BoxAt w w.heap.size [.int .i64 v, .int .i64 p, .int .i64 cv, .string k, .slice a0 l.length cap, .slice a1 m.length cap1] (w.alloc (.cells #[.int .i64 v, .int .i64 p, .int .i64 cv, .string k, .slice a0 l.length cap, .slice a1 m.length cap1] 36)) from box_mk w [.int .i64 v, .int .i64 p, .int .i64 cv, .string k, .slice a0 l.length cap, .slice a1 m.length cap1] 36)
  by_cases h1 : v = 0
  rotate_left
  · have t1 : (v == 0) = false := by simpa using h1
    rw [show decide (v = 0) = false by simpa using h1, Bool.false_and]
    clear h1
    go_enter Tryz.func49, Tryz.ntmps49
    go_wp2_with fail
    go_ret
    exact ⟨rfl, K.out.below⟩
  subst h1
  by_cases h2 : p = 0
  rotate_left
  · have t1 : (p == 0) = false := by simpa using h2
    rw [show decide (p = 0) = false by simpa using h2, Bool.false_and, Bool.and_false]
    clear h2
    go_enter Tryz.func49, Tryz.ntmps49
    go_wp2_with fail
    go_ret
    exact ⟨rfl, K.out.below⟩
  subst h2
  rw [show (decide ((0 : Int) = 0) && (decide ((0 : Int) = 0) && (Z && decide (m.length = 0)))) = (Z && decide (m.length = 0)) by simp]
  generalize m.length = y at *
  go_enter Tryz.func49, Tryz.ntmps49
  go_wp2_with fail
  generalize w.alloc (.cells #[.int .i64 0, .int .i64 0, .int .i64 cv, .string k, .slice a0 l.length cap, .slice a1 y cap1] 36) = w0 at *
  refine (HZ.out _ K.out.below).mono ?_
  rintro e w1 ⟨rfl, hb1⟩
  have K := Lib.hid (K.out.on hb1)
  have c5 := K.out.cell 5 _ rfl
  clear hb1 HZ
  cases Z
  · go_wp2_with fail
    go_ret
    exact ⟨rfl, K.out.below⟩
  by_cases h2 : y = 0
  rotate_left
  · have t1 : ((y : Int) == 0) = false := by simp; omega
    have H2 := Lib.hid h2
    clear h2
    go_wp2_with fail
    go_ret
    exact ⟨by rw [show decide (y = 0) = false by simpa using H2.out]; rfl, K.out.below⟩
  subst h2
  go_wp2_with fail
  go_ret
  exact ⟨rfl, K.out.below⟩
end Go.Proofs.YthajnkcipifhcaaGreatDoor
end
section
open Go Go.RowKit
namespace WW
open BB
def headOk (k fr dst v : Int) : Prop := 1 ≤ k ∧ k ≤ 7 ∧ 0 ≤ fr ∧ fr ≤ 20 ∧ 0 ≤ dst ∧ dst ≤ 20 ∧ 0 ≤ v ∧ v ≤ 1000000
def tailOk (ix : Int) (h tg : ByteArray) : Prop := 0 ≤ ix ∧ ix ≤ 2147483647 ∧ (h.size = 0 ∨ h.size = 32) ∧ (tg.size = 0 ∨ tg.size = 16)
instance (k fr dst v : Int) : Decidable (headOk k fr dst v) := by unfold headOk; infer_instance
instance (ix : Int) (h tg : ByteArray) : Decidable (tailOk ix h tg) := by unfold tailOk; infer_instance
def okB (x : BlockD) : Bool := !nzB x || rightBlock x.1.1.1 x.1.1.2 x.1.2.1.1 x.1.2.1.2 x.1.2.2 x.2
def okC (c : CertD) : Bool := !nzC c || rightCert c.1.1 c.1.2 c.2
def okS (s : Int × List ByteArray) : Bool := !nzS s || rightSig s.1 s.2
def okR (r : Int × Int × ByteArray) : Bool := !nzR r || decide (rightR r.1 r.2.1 r.2.2)
/-- a message that is right -/
def rightMsg (k fr dst v : Int) (h : ByteArray) (x : BlockD) (c : CertD) (s : Int × List ByteArray) (r : Int × Int × ByteArray) (ix : Int) (tg : ByteArray) : Bool :=
  decide (headOk k fr dst v) && (decide (tailOk ix h tg) && ((okB x && (okC c && okS s)) && okR r))
def BadHd (k fr dst v : Int) : Prop := k < 1 ∨ ¬ k < 1 ∧ (7 < k ∨ ¬ 7 < k ∧ (fr < 0 ∨ ¬ fr < 0 ∧ (20 < fr ∨ ¬ 20 < fr ∧ (dst < 0 ∨ ¬ dst < 0 ∧ (20 < dst ∨ ¬ 20 < dst ∧ (v < 0 ∨ ¬ v < 0 ∧ 1000000 < v))))))
theorem badHd_of {k fr dst v : Int} (h : ¬ headOk k fr dst v) : BadHd k fr dst v := by unfold headOk at h; unfold BadHd; omega
/-- a text is none, or has so many bytes, or is wrong -/
theorem text_cases (h : ByteArray) (n : Nat) : (h = ⟨#[]⟩) ∨ (h.toList.isEmpty = false ∧ h.size = n) ∨ (h.toList.isEmpty = false ∧ h.size ≠ n ∧ h.size ≠ 0) := by
  by_cases h0 : h.size = 0
  · exact Or.inl (nil_size h h0)
  · by_cases hn : h.size = n
    · exact Or.inr (Or.inl ⟨emp_false h0, hn⟩)
    · exact Or.inr (Or.inr ⟨emp_false h0, hn, h0⟩)
end WW
namespace Go.Proofs.YthajnkcipifhcaaGreatDoor
open WW BB
theorem rzblock_is (x : BlockD) (s9 r10 : Value) (b : Bool) (hb : (!nzB x) = b) (w : World) (hv : SigsAt w s9 x.1.2.2) (hr : ReqsAt w r10 x.2) :
    Calls Tryz.prog 49 #[.agg #[.int .i64 x.1.1.1, .int .i64 x.1.1.2, .int .i64 x.1.2.1.1, .string x.1.2.1.2, s9, r10]] w fun e w' => e = .returned (.bool b) ∧ Below w.heap.size w w' := hb ▸ rzblock_any x.1.1.1 x.1.1.2 x.1.2.1.1 x.1.2.1.2 s9 r10 x.1.2.2 x.2 w hv hr
theorem rzcert_is (c : CertD) (s13 : Value) (b : Bool) (hb : (!nzC c) = b) (w : World) (hv : SigsAt w s13 c.2) :
    Calls Tryz.prog 51 #[.agg #[.int .i64 c.1.1, .string c.1.2, s13]] w fun e w' => e = .returned (.bool b) ∧ Below w.heap.size w w' := hb ▸ rzcert_any c.1.1 c.1.2 s13 c.2 w hv
theorem rzsig_is (s : Int × List ByteArray) (t15 : Value) (b : Bool) (hb : (!nzS s) = b) (w : World) (hv : StrsAt w t15 s.2) :
    Calls Tryz.prog 53 #[.agg #[.int .i64 s.1, t15]] w fun e w' => e = .returned (.bool b) ∧ Below w.heap.size w w' := hb ▸ rzsig_any s.1 t15 s.2 w hv
theorem rightblock_is (x : BlockD) (s9 r10 : Value) (b : Bool) (hb : rightBlock x.1.1.1 x.1.1.2 x.1.2.1.1 x.1.2.1.2 x.1.2.2 x.2 = b) (w : World) (hv : SigsAt w s9 x.1.2.2) (hr : ReqsAt w r10 x.2) (h1 : MemS x.1.2.2) :
    Calls Tryz.prog 50 #[.agg #[.int .i64 x.1.1.1, .int .i64 x.1.1.2, .int .i64 x.1.2.1.1, .string x.1.2.1.2, s9, r10]] w fun e w' => e = .returned (.bool b) ∧ Below w.heap.size w w' := hb ▸ rightblock_any _ _ _ _ _ _ _ _ w hv hr h1
theorem rightcert_is (c : CertD) (s13 : Value) (b : Bool) (hb : rightCert c.1.1 c.1.2 c.2 = b) (w : World) (hv : SigsAt w s13 c.2) (h1 : MemS c.2) :
    Calls Tryz.prog 52 #[.agg #[.int .i64 c.1.1, .string c.1.2, s13]] w fun e w' => e = .returned (.bool b) ∧ Below w.heap.size w w' := hb ▸ rightcert_any _ _ _ _ w hv h1
theorem rightsig_is (s : Int × List ByteArray) (t15 : Value) (b : Bool) (hb : rightSig s.1 s.2 = b) (w : World) (hv : StrsAt w t15 s.2) (h1 : s.2.length ≤ 9223372036854775807) :
    Calls Tryz.prog 54 #[.agg #[.int .i64 s.1, t15]] w fun e w' => e = .returned (.bool b) ∧ Below w.heap.size w w' := hb ▸ rightsig_any _ _ _ w hv h1
theorem rightreq_is (r : Int × Int × ByteArray) (b : Bool) (hb : decide (rightR r.1 r.2.1 r.2.2) = b) (w : World) :
    Calls Tryz.prog 55 #[.agg #[.int .i64 r.1, .int .i64 r.2.1, .string r.2.2]] w fun e w' => e = .returned (.bool b) ∧ Below w.heap.size w w' := hb ▸ rightreq_any _ _ _ w
set_option maxRecDepth 100000 in
set_option maxHeartbeats 16000000 in
theorem rightmsg_head (w : World) (f : Nat → Value) (k fr dst v : Int) (h : ByteArray) (x : BlockD) (c : CertD) (s : Int × List ByteArray) (r : Int × Int × ByteArray) (ix : Int) (tg : ByteArray) (s9 r10 s13 t15 : Value)
    (M : MsgAt w f k fr dst v h x c s r ix tg s9 r10 s13 t15) (hb : ¬ headOk k fr dst v) :
    Calls Tryz.prog 20 #[.agg (row 21 f)] w fun e w' => e = .returned (.bool false) ∧ Below w.heap.size w w' := by
  have HB := Lib.hid (badHd_of hb)
  clear hb
  have MM := Lib.hid M
  obtain ⟨a9, c9_, rfl, q9⟩ := M.h9
  obtain ⟨a10, c10_, rfl, q10⟩ := M.h10
  obtain ⟨a13, c13_, rfl, q13⟩ := M.h13
  obtain ⟨a15, c15_, rfl, q15⟩ := M.h15
  clear M q9 q10 q13 q15
  go_enter Tryz.func20, Tryz.ntmps20
  go_wp2_with (with_reducible refine hold_load (.tmp 3) rfl ?_)
  have X0 := Lib.hid (mbox_mk w f 43)
  obtain ⟨g, hg⟩ : ∃ g, w.heap.size = g := ⟨_, rfl⟩
  rw [hg] at X0 ⊢
  have HG := Lib.hid hg
  clear hg
  generalize w.alloc (.cells (row 21 f) 43) = w0 at *
  unfold BB.Held
  have c0 := X0.out.at_ 0 _ (by omega) MM.out.y0
  have c1 := X0.out.at_ 1 _ (by omega) MM.out.y1
  have c2 := X0.out.at_ 2 _ (by omega) MM.out.y2
  have c3 := X0.out.at_ 3 _ (by omega) MM.out.y3
  rcases HB.out with t1 | ⟨t1, t2 | ⟨t2, t3 | ⟨t3, t4 | ⟨t4, t5 | ⟨t5, t6 | ⟨t6, t7 | ⟨t7, t8⟩⟩⟩⟩⟩⟩⟩
  all_goals
    clear HB
    go_wp2_with fail
    go_ret
    exact ⟨rfl, X0.out.below⟩
set_option maxRecDepth 100000 in
set_option maxHeartbeats 16000000 in
theorem rightmsg_tail (w : World) (f : Nat → Value) (k fr dst v : Int) (h : ByteArray) (x : BlockD) (c : CertD) (s : Int × List ByteArray) (r : Int × Int × ByteArray) (ix : Int) (tg : ByteArray) (s9 r10 s13 t15 : Value)
    (M : MsgAt w f k fr dst v h x c s r ix tg s9 r10 s13 t15) (hh : headOk k fr dst v) (hb : ¬ tailOk ix h tg) :
    Calls Tryz.prog 20 #[.agg (row 21 f)] w fun e w' => e = .returned (.bool false) ∧ Below w.heap.size w w' := by
  have HB := Lib.hid hb
  clear hb
  have t1 : ¬ k < 1 := by have := hh.1; omega
  have t2 : ¬ 7 < k := by have := hh.2.1; omega
  have t3 : ¬ fr < 0 := by have := hh.2.2.1; omega
  have t4 : ¬ 20 < fr := by have := hh.2.2.2.1; omega
  have t5 : ¬ dst < 0 := by have := hh.2.2.2.2.1; omega
  have t6 : ¬ 20 < dst := by have := hh.2.2.2.2.2.1; omega
  have t7 : ¬ v < 0 := by have := hh.2.2.2.2.2.2.1; omega
  have t8 : ¬ 1000000 < v := by have := hh.2.2.2.2.2.2.2; omega
  clear hh
  have MM := Lib.hid M
  obtain ⟨a9, c9_, rfl, q9⟩ := M.h9
  obtain ⟨a10, c10_, rfl, q10⟩ := M.h10
  obtain ⟨a13, c13_, rfl, q13⟩ := M.h13
  obtain ⟨a15, c15_, rfl, q15⟩ := M.h15
  clear M q9 q10 q13 q15
  go_enter Tryz.func20, Tryz.ntmps20
  go_wp2_with (with_reducible refine hold_load (.tmp 3) rfl ?_)
  have X0 := Lib.hid (mbox_mk w f 43)
  obtain ⟨g, hg⟩ : ∃ g, w.heap.size = g := ⟨_, rfl⟩
  rw [hg] at X0 ⊢
  have HG := Lib.hid hg
  clear hg
  generalize w.alloc (.cells (row 21 f) 43) = w0 at *
  unfold BB.Held
  have c0 := X0.out.at_ 0 _ (by omega) MM.out.y0
  have c1 := X0.out.at_ 1 _ (by omega) MM.out.y1
  have c2 := X0.out.at_ 2 _ (by omega) MM.out.y2
  have c3 := X0.out.at_ 3 _ (by omega) MM.out.y3
  have c4 := X0.out.at_ 4 _ (by omega) MM.out.y4
  have c19 := X0.out.at_ 19 _ (by omega) MM.out.y19
  have c20 := X0.out.at_ 20 _ (by omega) MM.out.y20
  by_cases i1 : ix < 0
  · clear HB
    go_wp2_with fail
    go_ret
    exact ⟨rfl, X0.out.below⟩
  by_cases i2 : 2147483647 < ix
  · clear HB
    go_wp2_with fail
    go_ret
    exact ⟨rfl, X0.out.below⟩
  rcases text_cases h 32 with rfl | ⟨h0, h1⟩ | ⟨h0, h1, h2⟩
  · have HT := Lib.hid (show tg.size ≠ 0 ∧ tg.size ≠ 16 by
      have := HB.out; unfold tailOk at this
      have e : (⟨#[]⟩ : ByteArray).size = 0 := rfl
      omega)
    have g0 := emp_false HT.out.1
    have g1 : ((tg.size : Int) != 16) = true := by have := HT.out.2; rw [bne_iff_ne]; omega
    clear HB
    go_wp2_with fail
    go_ret
    exact ⟨rfl, X0.out.below⟩
  · have HT := Lib.hid (show tg.size ≠ 0 ∧ tg.size ≠ 16 by
      have := HB.out; unfold tailOk at this
      omega)
    have g0 := emp_false HT.out.1
    have g1 : ((tg.size : Int) != 16) = true := by have := HT.out.2; rw [bne_iff_ne]; omega
    have h3 : ((h.size : Int) != 32) = false := by rw [h1]; rfl
    clear HB h1
    go_wp2_with fail
    go_ret
    exact ⟨rfl, X0.out.below⟩
  · have h3 : ((h.size : Int) != 32) = true := by rw [bne_iff_ne]; omega
    clear HB h1 h2
    go_wp2_with fail
    go_ret
    exact ⟨rfl, X0.out.below⟩
end Go.Proofs.YthajnkcipifhcaaGreatDoor
end
section
open Go Go.RowKit
namespace Go.Proofs.YthajnkcipifhcaaGreatDoor
open WW BB
set_option maxRecDepth 100000 in
set_option maxHeartbeats 16000000 in
theorem rightmsg_rest (w : World) (f : Nat → Value) (k fr dst v : Int) (h : ByteArray) (x : BlockD) (c : CertD) (s : Int × List ByteArray) (r : Int × Int × ByteArray) (ix : Int) (tg : ByteArray) (s9 r10 s13 t15 : Value)
    (M : MsgAt w f k fr dst v h x c s r ix tg s9 r10 s13 t15) (hm : MemM x c s) (hh : headOk k fr dst v) (hb : tailOk ix h tg) :
    Calls Tryz.prog 20 #[.agg (row 21 f)] w fun e w' => e = .returned (.bool ((okB x && (okC c && okS s)) && okR r)) ∧ Below w.heap.size w w' := by
  obtain ⟨X, hX⟩ : ∃ X, ((okB x && (okC c && okS s)) && okR r) = X := ⟨_, rfl⟩
  rw [hX]
  have HX := Lib.hid hX
  have HM := Lib.hid hm
  have i1 : ¬ ix < 0 := by have := hb.1; omega
  have i2 : ¬ 2147483647 < ix := by have := hb.2.1; omega
  have HB := Lib.hid hb.2.2
  clear hb hm hX
  have t1 : ¬ k < 1 := by have := hh.1; omega
  have t2 : ¬ 7 < k := by have := hh.2.1; omega
  have t3 : ¬ fr < 0 := by have := hh.2.2.1; omega
  have t4 : ¬ 20 < fr := by have := hh.2.2.2.1; omega
  have t5 : ¬ dst < 0 := by have := hh.2.2.2.2.1; omega
  have t6 : ¬ 20 < dst := by have := hh.2.2.2.2.2.1; omega
  have t7 : ¬ v < 0 := by have := hh.2.2.2.2.2.2.1; omega
  have t8 : ¬ 1000000 < v := by have := hh.2.2.2.2.2.2.2; omega
  clear hh
  have MM := Lib.hid M
  obtain ⟨a9, c9_, rfl, q9⟩ := M.h9
  obtain ⟨a10, c10_, rfl, q10⟩ := M.h10
  obtain ⟨a13, c13_, rfl, q13⟩ := M.h13
  obtain ⟨a15, c15_, rfl, q15⟩ := M.h15
  clear M q9 q10 q13 q15
  go_enter Tryz.func20, Tryz.ntmps20
  have X0 := Lib.hid (mbox_mk w f 43)
  have c0 := X0.out.at_ 0 _ (by omega) MM.out.y0
  have c1 := X0.out.at_ 1 _ (by omega) MM.out.y1
  have c2 := X0.out.at_ 2 _ (by omega) MM.out.y2
  have c3 := X0.out.at_ 3 _ (by omega) MM.out.y3
  go_upto_region 3 with fail
  clear c0 c1 c2 c3
  obtain ⟨g, hg⟩ : ∃ g, w.heap.size = g := ⟨_, rfl⟩
  rw [hg] at X0 ⊢
  have HG := Lib.hid hg
  clear hg
  generalize w.alloc (.cells (row 21 f) 43) = w0 at *
  go_cut [70] from 41 to 69 (fun s70 wx => s70 = .bool false ∧ wx = w0)
  case first =>
    have c4 := X0.out.at_ 4 _ (by omega) MM.out.y4
    have c19 := X0.out.at_ 19 _ (by omega) MM.out.y19
    have c20 := X0.out.at_ 20 _ (by omega) MM.out.y20
    have d1 : h = ⟨#[]⟩ ∨ (h.toList.isEmpty = false ∧ ((h.size : Int) != 32) = false) := by
      rcases text_cases h 32 with h0 | ⟨h0, h1⟩ | ⟨h0, h1, h2⟩
      · exact Or.inl h0
      · exact Or.inr ⟨h0, by rw [h1]; rfl⟩
      · have := HB.out.1; omega
    have d2 : tg = ⟨#[]⟩ ∨ (tg.toList.isEmpty = false ∧ ((tg.size : Int) != 16) = false) := by
      rcases text_cases tg 16 with h0 | ⟨h0, h1⟩ | ⟨h0, h1, h2⟩
      · exact Or.inl h0
      · exact Or.inr ⟨h0, by rw [h1]; rfl⟩
      · have := HB.out.2; omega
    clear HB
    rcases d1 with rfl | ⟨h0, h1⟩
    all_goals
      rcases d2 with rfl | ⟨g0, g1⟩
      all_goals
        go_wp2_with fail
        go_meet
        case rel => exact ⟨rfl, rfl⟩
  case rest =>
  obtain ⟨rfl, rfl⟩ := hcut
  clear t1 t2 t3 t4 t5 t6 t7 t8 i1 i2
  obtain ⟨P, hP⟩ : ∃ P, (okB x && (okC c && okS s)) = P := ⟨_, rfl⟩
  have HP := Lib.hid hP
  clear hP
  go_upto_region 5 with fail
  go_cut [104] from 71 to 103 (fun s104 wx => s104 = .bool (!P) ∧ MBox w g f wx)
  case first =>
    have c5 := X0.out.at_ 5 _ (by omega) MM.out.y5
    have c6 := X0.out.at_ 6 _ (by omega) MM.out.y6
    have c7 := X0.out.at_ 7 _ (by omega) MM.out.y7
    have c8 := X0.out.at_ 8 _ (by omega) MM.out.y8
    have c9 := X0.out.at_ 9 _ (by omega) MM.out.y9
    have c10 := X0.out.at_ 10 _ (by omega) MM.out.y10
    go_wp2_with fail
    have M1 := Lib.hid (MM.out.later X0.out.below)
    rcases hz : (!nzB x) with _ | _
    · have HZ2 := Lib.hid hz
      clear hz
      refine (rzblock_is x _ _ false HZ2.out _ M1.out.h9 M1.out.h10).mono ?_
      rintro e w2 ⟨rfl, hb2⟩
      have X2 := Lib.hid (X0.out.on hb2)
      clear hb2 c5 c6 c7 c8 c9 c10
      have c5 := X2.out.at_ 5 _ (by omega) MM.out.y5
      have c6 := X2.out.at_ 6 _ (by omega) MM.out.y6
      have c7 := X2.out.at_ 7 _ (by omega) MM.out.y7
      have c8 := X2.out.at_ 8 _ (by omega) MM.out.y8
      have c9 := X2.out.at_ 9 _ (by omega) MM.out.y9
      have c10 := X2.out.at_ 10 _ (by omega) MM.out.y10
      go_wp2_with fail
      have M2 := Lib.hid (MM.out.later X2.out.below)
      rcases hr : rightBlock x.1.1.1 x.1.1.2 x.1.2.1.1 x.1.2.1.2 x.1.2.2 x.2 with _ | _
      · have HR2 := Lib.hid hr
        clear hr
        refine (rightblock_is x _ _ false HR2.out _ M2.out.h9 M2.out.h10 HM.out.b1).mono ?_
        rintro e w3 ⟨rfl, hb3⟩
        have X3 := Lib.hid (X2.out.on hb3)
        clear hb3 c5 c6 c7 c8 c9 c10
        go_wp2_with fail
        go_meet
        case rel => exact ⟨by rw [← HP.out]; unfold okB okC okS; rw [HZ2.out, HR2.out]; rfl, X3.out⟩
      · have HR2 := Lib.hid hr
        clear hr
        refine (rightblock_is x _ _ true HR2.out _ M2.out.h9 M2.out.h10 HM.out.b1).mono ?_
        rintro e w3 ⟨rfl, hb3⟩
        have X3 := Lib.hid (X2.out.on hb3)
        clear hb3 c5 c6 c7 c8 c9 c10
        have c11 := X3.out.at_ 11 _ (by omega) MM.out.y11
        have c12 := X3.out.at_ 12 _ (by omega) MM.out.y12
        have c13 := X3.out.at_ 13 _ (by omega) MM.out.y13
        go_wp2_with fail
        have M4 := Lib.hid (MM.out.later X3.out.below)
        rcases hz : (!nzC c) with _ | _
        · have HZ5 := Lib.hid hz
          clear hz
          refine (rzcert_is c _ false HZ5.out _ M4.out.h13).mono ?_
          rintro e w5 ⟨rfl, hb5⟩
          have X5 := Lib.hid (X3.out.on hb5)
          clear hb5 c11 c12 c13
          have c11 := X5.out.at_ 11 _ (by omega) MM.out.y11
          have c12 := X5.out.at_ 12 _ (by omega) MM.out.y12
          have c13 := X5.out.at_ 13 _ (by omega) MM.out.y13
          go_wp2_with fail
          have M5 := Lib.hid (MM.out.later X5.out.below)
          rcases hr : rightCert c.1.1 c.1.2 c.2 with _ | _
          · have HR5 := Lib.hid hr
            clear hr
            refine (rightcert_is c _ false HR5.out _ M5.out.h13 HM.out.c1).mono ?_
            rintro e w6 ⟨rfl, hb6⟩
            have X6 := Lib.hid (X5.out.on hb6)
            clear hb6 c11 c12 c13
            go_wp2_with fail
            go_meet
            case rel => exact ⟨by rw [← HP.out]; unfold okB okC okS; rw [HZ2.out, HR2.out, HZ5.out, HR5.out]; rfl, X6.out⟩
          · have HR5 := Lib.hid hr
            clear hr
            refine (rightcert_is c _ true HR5.out _ M5.out.h13 HM.out.c1).mono ?_
            rintro e w6 ⟨rfl, hb6⟩
            have X6 := Lib.hid (X5.out.on hb6)
            clear hb6 c11 c12 c13
            have c14 := X6.out.at_ 14 _ (by omega) MM.out.y14
            have c15 := X6.out.at_ 15 _ (by omega) MM.out.y15
            go_wp2_with fail
            have M7 := Lib.hid (MM.out.later X6.out.below)
            rcases hz : (!nzS s) with _ | _
            · have HZ8 := Lib.hid hz
              clear hz
              refine (rzsig_is s _ false HZ8.out _ M7.out.h15).mono ?_
              rintro e w8 ⟨rfl, hb8⟩
              have X8 := Lib.hid (X6.out.on hb8)
              clear hb8 c14 c15
              have c14 := X8.out.at_ 14 _ (by omega) MM.out.y14
              have c15 := X8.out.at_ 15 _ (by omega) MM.out.y15
              go_wp2_with fail
              have M8 := Lib.hid (MM.out.later X8.out.below)
              rcases hr : rightSig s.1 s.2 with _ | _
              · have HR8 := Lib.hid hr
                clear hr
                refine (rightsig_is s _ false HR8.out _ M8.out.h15 HM.out.s1).mono ?_
                rintro e w9 ⟨rfl, hb9⟩
                have X9 := Lib.hid (X8.out.on hb9)
                clear hb9 c14 c15
                go_wp2_with fail
                go_meet
                case rel => exact ⟨by rw [← HP.out]; unfold okB okC okS; rw [HZ2.out, HR2.out, HZ5.out, HR5.out, HZ8.out, HR8.out]; rfl, X9.out⟩
              · have HR8 := Lib.hid hr
                clear hr
                refine (rightsig_is s _ true HR8.out _ M8.out.h15 HM.out.s1).mono ?_
                rintro e w9 ⟨rfl, hb9⟩
                have X9 := Lib.hid (X8.out.on hb9)
                clear hb9 c14 c15
                go_wp2_with fail
                go_meet
                case rel => exact ⟨by rw [← HP.out]; unfold okB okC okS; rw [HZ2.out, HR2.out, HZ5.out, HR5.out, HZ8.out, HR8.out]; rfl, X9.out⟩
            · have HZ10 := Lib.hid hz
              clear hz
              refine (rzsig_is s _ true HZ10.out _ M7.out.h15).mono ?_
              rintro e w10 ⟨rfl, hb10⟩
              have X10 := Lib.hid (X6.out.on hb10)
              clear hb10 c14 c15
              go_wp2_with fail
              go_meet
              case rel => exact ⟨by rw [← HP.out]; unfold okB okC okS; rw [HZ2.out, HR2.out, HZ5.out, HR5.out, HZ10.out]; rfl, X10.out⟩
        · have HZ11 := Lib.hid hz
          clear hz
          refine (rzcert_is c _ true HZ11.out _ M4.out.h13).mono ?_
          rintro e w11 ⟨rfl, hb11⟩
          have X11 := Lib.hid (X3.out.on hb11)
          clear hb11 c11 c12 c13
          have c14 := X11.out.at_ 14 _ (by omega) MM.out.y14
          have c15 := X11.out.at_ 15 _ (by omega) MM.out.y15
          go_wp2_with fail
          have M12 := Lib.hid (MM.out.later X11.out.below)
          rcases hz : (!nzS s) with _ | _
          · have HZ13 := Lib.hid hz
            clear hz
            refine (rzsig_is s _ false HZ13.out _ M12.out.h15).mono ?_
            rintro e w13 ⟨rfl, hb13⟩
            have X13 := Lib.hid (X11.out.on hb13)
            clear hb13 c14 c15
            have c14 := X13.out.at_ 14 _ (by omega) MM.out.y14
            have c15 := X13.out.at_ 15 _ (by omega) MM.out.y15
            go_wp2_with fail
            have M13 := Lib.hid (MM.out.later X13.out.below)
            rcases hr : rightSig s.1 s.2 with _ | _
            · have HR13 := Lib.hid hr
              clear hr
              refine (rightsig_is s _ false HR13.out _ M13.out.h15 HM.out.s1).mono ?_
              rintro e w14 ⟨rfl, hb14⟩
              have X14 := Lib.hid (X13.out.on hb14)
              clear hb14 c14 c15
              go_wp2_with fail
              go_meet
              case rel => exact ⟨by rw [← HP.out]; unfold okB okC okS; rw [HZ2.out, HR2.out, HZ11.out, HZ13.out, HR13.out]; rfl, X14.out⟩
            · have HR13 := Lib.hid hr
              clear hr
              refine (rightsig_is s _ true HR13.out _ M13.out.h15 HM.out.s1).mono ?_
              rintro e w14 ⟨rfl, hb14⟩
              have X14 := Lib.hid (X13.out.on hb14)
              clear hb14 c14 c15
              go_wp2_with fail
              go_meet
              case rel => exact ⟨by rw [← HP.out]; unfold okB okC okS; rw [HZ2.out, HR2.out, HZ11.out, HZ13.out, HR13.out]; rfl, X14.out⟩
          · have HZ15 := Lib.hid hz
            clear hz
            refine (rzsig_is s _ true HZ15.out _ M12.out.h15).mono ?_
            rintro e w15 ⟨rfl, hb15⟩
            have X15 := Lib.hid (X11.out.on hb15)
            clear hb15 c14 c15
            go_wp2_with fail
            go_meet
            case rel => exact ⟨by rw [← HP.out]; unfold okB okC okS; rw [HZ2.out, HR2.out, HZ11.out, HZ15.out]; rfl, X15.out⟩
    · have HZ16 := Lib.hid hz
      clear hz
      refine (rzblock_is x _ _ true HZ16.out _ M1.out.h9 M1.out.h10).mono ?_
      rintro e w16 ⟨rfl, hb16⟩
      have X16 := Lib.hid (X0.out.on hb16)
      clear hb16 c5 c6 c7 c8 c9 c10
      have c11 := X16.out.at_ 11 _ (by omega) MM.out.y11
      have c12 := X16.out.at_ 12 _ (by omega) MM.out.y12
      have c13 := X16.out.at_ 13 _ (by omega) MM.out.y13
      go_wp2_with fail
      have M17 := Lib.hid (MM.out.later X16.out.below)
      rcases hz : (!nzC c) with _ | _
      · have HZ18 := Lib.hid hz
        clear hz
        refine (rzcert_is c _ false HZ18.out _ M17.out.h13).mono ?_
        rintro e w18 ⟨rfl, hb18⟩
        have X18 := Lib.hid (X16.out.on hb18)
        clear hb18 c11 c12 c13
        have c11 := X18.out.at_ 11 _ (by omega) MM.out.y11
        have c12 := X18.out.at_ 12 _ (by omega) MM.out.y12
        have c13 := X18.out.at_ 13 _ (by omega) MM.out.y13
        go_wp2_with fail
        have M18 := Lib.hid (MM.out.later X18.out.below)
        rcases hr : rightCert c.1.1 c.1.2 c.2 with _ | _
        · have HR18 := Lib.hid hr
          clear hr
          refine (rightcert_is c _ false HR18.out _ M18.out.h13 HM.out.c1).mono ?_
          rintro e w19 ⟨rfl, hb19⟩
          have X19 := Lib.hid (X18.out.on hb19)
          clear hb19 c11 c12 c13
          go_wp2_with fail
          go_meet
          case rel => exact ⟨by rw [← HP.out]; unfold okB okC okS; rw [HZ16.out, HZ18.out, HR18.out]; rfl, X19.out⟩
        · have HR18 := Lib.hid hr
          clear hr
          refine (rightcert_is c _ true HR18.out _ M18.out.h13 HM.out.c1).mono ?_
          rintro e w19 ⟨rfl, hb19⟩
          have X19 := Lib.hid (X18.out.on hb19)
          clear hb19 c11 c12 c13
          have c14 := X19.out.at_ 14 _ (by omega) MM.out.y14
          have c15 := X19.out.at_ 15 _ (by omega) MM.out.y15
          go_wp2_with fail
          have M20 := Lib.hid (MM.out.later X19.out.below)
          rcases hz : (!nzS s) with _ | _
          · have HZ21 := Lib.hid hz
            clear hz
            refine (rzsig_is s _ false HZ21.out _ M20.out.h15).mono ?_
            rintro e w21 ⟨rfl, hb21⟩
            have X21 := Lib.hid (X19.out.on hb21)
            clear hb21 c14 c15
            have c14 := X21.out.at_ 14 _ (by omega) MM.out.y14
            have c15 := X21.out.at_ 15 _ (by omega) MM.out.y15
            go_wp2_with fail
            have M21 := Lib.hid (MM.out.later X21.out.below)
            rcases hr : rightSig s.1 s.2 with _ | _
            · have HR21 := Lib.hid hr
              clear hr
              refine (rightsig_is s _ false HR21.out _ M21.out.h15 HM.out.s1).mono ?_
              rintro e w22 ⟨rfl, hb22⟩
              have X22 := Lib.hid (X21.out.on hb22)
              clear hb22 c14 c15
              go_wp2_with fail
              go_meet
              case rel => exact ⟨by rw [← HP.out]; unfold okB okC okS; rw [HZ16.out, HZ18.out, HR18.out, HZ21.out, HR21.out]; rfl, X22.out⟩
            · have HR21 := Lib.hid hr
              clear hr
              refine (rightsig_is s _ true HR21.out _ M21.out.h15 HM.out.s1).mono ?_
              rintro e w22 ⟨rfl, hb22⟩
              have X22 := Lib.hid (X21.out.on hb22)
              clear hb22 c14 c15
              go_wp2_with fail
              go_meet
              case rel => exact ⟨by rw [← HP.out]; unfold okB okC okS; rw [HZ16.out, HZ18.out, HR18.out, HZ21.out, HR21.out]; rfl, X22.out⟩
          · have HZ23 := Lib.hid hz
            clear hz
            refine (rzsig_is s _ true HZ23.out _ M20.out.h15).mono ?_
            rintro e w23 ⟨rfl, hb23⟩
            have X23 := Lib.hid (X19.out.on hb23)
            clear hb23 c14 c15
            go_wp2_with fail
            go_meet
            case rel => exact ⟨by rw [← HP.out]; unfold okB okC okS; rw [HZ16.out, HZ18.out, HR18.out, HZ23.out]; rfl, X23.out⟩
      · have HZ24 := Lib.hid hz
        clear hz
        refine (rzcert_is c _ true HZ24.out _ M17.out.h13).mono ?_
        rintro e w24 ⟨rfl, hb24⟩
        have X24 := Lib.hid (X16.out.on hb24)
        clear hb24 c11 c12 c13
        have c14 := X24.out.at_ 14 _ (by omega) MM.out.y14
        have c15 := X24.out.at_ 15 _ (by omega) MM.out.y15
        go_wp2_with fail
        have M25 := Lib.hid (MM.out.later X24.out.below)
        rcases hz : (!nzS s) with _ | _
        · have HZ26 := Lib.hid hz
          clear hz
          refine (rzsig_is s _ false HZ26.out _ M25.out.h15).mono ?_
          rintro e w26 ⟨rfl, hb26⟩
          have X26 := Lib.hid (X24.out.on hb26)
          clear hb26 c14 c15
          have c14 := X26.out.at_ 14 _ (by omega) MM.out.y14
          have c15 := X26.out.at_ 15 _ (by omega) MM.out.y15
          go_wp2_with fail
          have M26 := Lib.hid (MM.out.later X26.out.below)
          rcases hr : rightSig s.1 s.2 with _ | _
          · have HR26 := Lib.hid hr
            clear hr
            refine (rightsig_is s _ false HR26.out _ M26.out.h15 HM.out.s1).mono ?_
            rintro e w27 ⟨rfl, hb27⟩
            have X27 := Lib.hid (X26.out.on hb27)
            clear hb27 c14 c15
            go_wp2_with fail
            go_meet
            case rel => exact ⟨by rw [← HP.out]; unfold okB okC okS; rw [HZ16.out, HZ24.out, HZ26.out, HR26.out]; rfl, X27.out⟩
          · have HR26 := Lib.hid hr
            clear hr
            refine (rightsig_is s _ true HR26.out _ M26.out.h15 HM.out.s1).mono ?_
            rintro e w27 ⟨rfl, hb27⟩
            have X27 := Lib.hid (X26.out.on hb27)
            clear hb27 c14 c15
            go_wp2_with fail
            go_meet
            case rel => exact ⟨by rw [← HP.out]; unfold okB okC okS; rw [HZ16.out, HZ24.out, HZ26.out, HR26.out]; rfl, X27.out⟩
        · have HZ28 := Lib.hid hz
          clear hz
          refine (rzsig_is s _ true HZ28.out _ M25.out.h15).mono ?_
          rintro e w28 ⟨rfl, hb28⟩
          have X28 := Lib.hid (X24.out.on hb28)
          clear hb28 c14 c15
          go_wp2_with fail
          go_meet
          case rel => exact ⟨by rw [← HP.out]; unfold okB okC okS; rw [HZ16.out, HZ24.out, HZ28.out]; rfl, X28.out⟩
  case rest =>
  obtain ⟨rfl, hX9⟩ := hcut
  have X9 := Lib.hid hX9
  clear hX9 X0
  have c16 := X9.out.at_ 16 _ (by omega) MM.out.y16
  have c17 := X9.out.at_ 17 _ (by omega) MM.out.y17
  have c18 := X9.out.at_ 18 _ (by omega) MM.out.y18
  have HXP := Lib.hid (show X = (P && okR r) by rw [← HX.out, HP.out])
  cases P with
  | false =>
    have HXF := Lib.hid (show X = false by rw [HXP.out, Bool.false_and])
    go_wp2_with fail
    go_ret
    exact ⟨by rw [HXF.out]; rfl, X9.out.below⟩
  | true =>
    have HXT := Lib.hid (show X = okR r by rw [HXP.out, Bool.true_and])
    clear HXP HP HX
    obtain ⟨rc, rq, rb⟩ := r
    by_cases h1 : rc = 0
    rotate_left
    · have e1 : (rc == 0) = false := by simpa using h1
      have HNZ := Lib.hid (show nzR (rc, rq, rb) = true by simp [nzR, h1])
      clear h1
      go_wp2_with fail
      refine (rightreq_is (rc, rq, rb) _ rfl wc).mono ?_
      rintro e w9 ⟨rfl, hb9⟩
      have XZ := Lib.hid (X9.out.on hb9)
      clear hb9 c16 c17 c18
      go_wp2_with fail
      go_ret
      exact ⟨by rw [HXT.out]; unfold okR; rw [HNZ.out]; rfl, XZ.out.below⟩
    subst h1
    by_cases h2 : rq = 0
    rotate_left
    · have e1 : (rq == 0) = false := by simpa using h2
      have HNZ := Lib.hid (show nzR (0, rq, rb) = true by simp [nzR, h2])
      clear h2
      go_wp2_with fail
      refine (rightreq_is (0, rq, rb) _ rfl wc).mono ?_
      rintro e w9 ⟨rfl, hb9⟩
      have XZ := Lib.hid (X9.out.on hb9)
      clear hb9 c16 c17 c18
      go_wp2_with fail
      go_ret
      exact ⟨by rw [HXT.out]; unfold okR; rw [HNZ.out]; rfl, XZ.out.below⟩
    subst h2
    by_cases h3 : rb.size = 0
    rotate_left
    · have e1 := emp_false h3
      have HNZ := Lib.hid (show nzR (0, 0, rb) = true by simp [nzR, h3])
      clear h3
      go_wp2_with fail
      refine (rightreq_is (0, 0, rb) _ rfl wc).mono ?_
      rintro e w9 ⟨rfl, hb9⟩
      have XZ := Lib.hid (X9.out.on hb9)
      clear hb9 c16 c17 c18
      go_wp2_with fail
      go_ret
      exact ⟨by rw [HXT.out]; unfold okR; rw [HNZ.out]; rfl, XZ.out.below⟩
    obtain rfl := nil_size rb h3
    clear h3
    go_wp2_with fail
    go_ret
    exact ⟨by rw [HXT.out]; rfl, X9.out.below⟩
theorem rightmsg_any (w : World) (f : Nat → Value) (k fr dst v : Int) (h : ByteArray) (x : BlockD) (c : CertD) (s : Int × List ByteArray) (r : Int × Int × ByteArray) (ix : Int) (tg : ByteArray) (s9 r10 s13 t15 : Value)
    (M : MsgAt w f k fr dst v h x c s r ix tg s9 r10 s13 t15) (hm : MemM x c s) :
    Calls Tryz.prog 20 #[.agg (row 21 f)] w fun e w' => e = .returned (.bool (rightMsg k fr dst v h x c s r ix tg)) ∧ Below w.heap.size w w' := by
  unfold rightMsg
  by_cases hh : headOk k fr dst v
  · rw [decide_eq_true hh, Bool.true_and]
    by_cases ht : tailOk ix h tg
    · rw [decide_eq_true ht, Bool.true_and]
      exact rightmsg_rest w f k fr dst v h x c s r ix tg s9 r10 s13 t15 M hm hh ht
    · rw [decide_eq_false ht, Bool.false_and]
      exact rightmsg_tail w f k fr dst v h x c s r ix tg s9 r10 s13 t15 M hh ht
  · rw [decide_eq_false hh, Bool.false_and]
    exact rightmsg_head w f k fr dst v h x c s r ix tg s9 r10 s13 t15 M hh
end Go.Proofs.YthajnkcipifhcaaGreatDoor
end
section
open Go Go.RowKit
namespace WW
open BB
/-- a part that is nothing where it is zero -/
def opt {α : Type} (nz : α → Bool) (x : α) : Option α := if nz x then some x else none
theorem opt_yes {α : Type} {nz : α → Bool} {x : α} (h : nz x = true) : opt nz x = some x := by unfold opt; rw [if_pos h]
theorem opt_no {α : Type} {nz : α → Bool} {x : α} (h : nz x = false) : opt nz x = none := by unfold opt; rw [if_neg (by rw [h]; simp)]
end WW
namespace Go.Proofs.YthajnkcipifhcaaGreatDoor
open WW BB
end Go.Proofs.YthajnkcipifhcaaGreatDoor
end
section
open Go Go.RowKit
namespace WW
open BB
/-- a message of a size that is written -/
structure SmallM (h tg : ByteArray) (x : BlockD) (c : CertD) (s : Int × List ByteArray) (r : Int × Int × ByteArray) : Prop where
  h1 : h.size ≤ 1000000
  t1 : tg.size ≤ 1000000
  bk : x.1.2.1.2.size ≤ 1000000
  bs : SmallS x.1.2.2
  bm : SmallR x.2
  ck : c.1.2.size ≤ 1000000
  cs : SmallS c.2
  sk : (flat s.2).length ≤ 500000
  sn : s.2.length ≤ 1000
  rk : r.2.2.size ≤ 1000000
  bz : (blockD x).size ≤ 1000000000
  cz : (certD c).size ≤ 1000000000
  sz : (sigD s).size ≤ 1000000000
/-- a message's bytes -/
def msgB (k fr dst v : Int) (h : ByteArray) (x : BlockD) (c : CertD) (s : Int × List ByteArray) (r : Int × Int × ByteArray) (ix : Int) (tg : ByteArray) : ByteArray :=
  num k ++ num fr ++ num dst ++ num v ++ txt h ++ encPart blockD (opt nzB x) ++ encPart certD (opt nzC c) ++ encPart sigD (opt nzS s) ++ encPart reqD (opt nzR r) ++ num ix ++ txt tg
end WW
namespace Go.Proofs.YthajnkcipifhcaaGreatDoor
open WW BB
end Go.Proofs.YthajnkcipifhcaaGreatDoor
end
section
open Go Go.RowKit
namespace Go.Proofs.YthajnkcipifhcaaGreatDoor
open WW BB
/-- the message that stands in the bytes, where these are its fields -/
def toD (k fr dst v : Int) (h : ByteArray) (x : BlockD) (c : CertD) (s : Int × List ByteArray) (r : Int × Int × ByteArray) (ix : Int) (tg : ByteArray) : MsgD :=
  ((((((((((k, fr), dst), v), h), opt nzB x), opt nzC c), opt nzS s), opt nzR r), ix), tg)
theorem msgRd_sound {b : ByteArray} {c : MsgD} (h : msgRd b = some c) : b = msgD c ∧ msgOk c := by
  unfold msgRd at h
  rcases h1 : msgI b with _ | ⟨r, d⟩
  · rw [h1] at h; cases h
  rw [h1] at h
  dsimp only at h
  split at h
  · rename_i h0
    injection h with h
    subst h
    obtain ⟨e1, e2⟩ := codec_msg.sound _ _ _ h1
    exact ⟨by rw [e1, nil_size r h0, ba_nil], e2⟩
  · cases h
theorem opt_get {α : Type} {nz : α → Bool} {ok : α → Prop} {d : Option α} {z : α} (h : okPart nz ok d) (hz : nz z = false) : opt nz (d.getD z) = d := by
  cases d with
  | none => exact opt_no hz
  | some x => exact opt_yes h.2
theorem ok_get {α : Type} {nz : α → Bool} {ok : α → Prop} {d : Option α} {z : α} (h : okPart nz ok d) (hz : nz z = false) : nz (d.getD z) = false ∨ ok (d.getD z) := by
  cases d with
  | none => exact Or.inl hz
  | some x => exact Or.inr h.1
theorem of_fits {n m : Nat} (h : (decide (n = 0) || decide (n = m)) = true) : n = 0 ∨ n = m := by simpa using h
/-- a message that is right, by its fields -/
structure RightF (k fr dst v : Int) (h : ByteArray) (x : BlockD) (c : CertD) (s : Int × List ByteArray) (r : Int × Int × ByteArray) (ix : Int) (tg : ByteArray) : Prop where
  hd : headOk k fr dst v
  tl : tailOk ix h tg
  b : nzB x = false ∨ blockOk x
  c : nzC c = false ∨ certOk c
  s : nzS s = false ∨ sigOk s
  r : nzR r = false ∨ reqOk r
theorem rightMsg_iff {k fr dst v : Int} {h : ByteArray} {x : BlockD} {c : CertD} {s : Int × List ByteArray} {r : Int × Int × ByteArray} {ix : Int} {tg : ByteArray} : rightMsg k fr dst v h x c s r ix tg = true ↔ RightF k fr dst v h x c s r ix tg := by
  unfold rightMsg okB okC okS okR
  simp only [Bool.and_eq_true, Bool.or_eq_true, decide_eq_true_eq, Bool.not_eq_true']
  constructor
  · rintro ⟨h1, h2, ⟨h3, h4, h5⟩, h6⟩
    exact ⟨h1, h2, h3, h4, h5, h6⟩
  · intro H
    exact ⟨H.hd, H.tl, ⟨H.b, H.c, H.s⟩, H.r⟩
theorem nz_noB : nzB noB = false := by decide
theorem nz_noC : nzC noC = false := by decide
theorem nz_noS : nzS noS = false := by decide
theorem nz_noR : nzR noR = false := by decide
theorem rightF_of {d : MsgD} (H : msgOk d) : RightF d.1.1.1.1.1.1.1.1.1.1 d.1.1.1.1.1.1.1.1.1.2 d.1.1.1.1.1.1.1.1.2 d.1.1.1.1.1.1.1.2 d.1.1.1.1.1.1.2 (d.1.1.1.1.1.2.getD noB) (d.1.1.1.1.2.getD noC) (d.1.1.1.2.getD noS) (d.1.1.2.getD noR) d.1.2 d.2 ∧
    toD d.1.1.1.1.1.1.1.1.1.1 d.1.1.1.1.1.1.1.1.1.2 d.1.1.1.1.1.1.1.1.2 d.1.1.1.1.1.1.1.2 d.1.1.1.1.1.1.2 (d.1.1.1.1.1.2.getD noB) (d.1.1.1.1.2.getD noC) (d.1.1.1.2.getD noS) (d.1.1.2.getD noR) d.1.2 d.2 = d := by
  obtain ⟨⟨⟨⟨⟨⟨⟨⟨⟨⟨⟨h1, h2⟩, h3, h4⟩, h5, h6⟩, h7, h8⟩, h9, h10⟩, hb⟩, hc⟩, hs⟩, hr⟩, t1, t2⟩, t3, t4⟩ := H
  refine ⟨⟨⟨h1, h2, h3, h4, h5, h6, h7, h8⟩, ⟨t1, t2, of_fits h9, of_fits t3⟩, ok_get hb nz_noB, ok_get hc nz_noC, ok_get hs nz_noS, ok_get hr nz_noR⟩, ?_⟩
  obtain ⟨⟨⟨⟨⟨⟨⟨⟨⟨⟨k, fr⟩, dst⟩, v⟩, h⟩, x⟩, c⟩, s⟩, r⟩, ix⟩, tg⟩ := d
  show ((((((((((k, fr), dst), v), h), opt nzB (x.getD noB)), opt nzC (c.getD noC)), opt nzS (s.getD noS)), opt nzR (r.getD noR)), ix), tg) = _
  rw [opt_get hb nz_noB, opt_get hc nz_noC, opt_get hs nz_noS, opt_get hr nz_noR]
theorem flat_nil : (flat []).length = 0 := rfl
theorem smallS_nil : SmallS [] := ⟨Nat.zero_le _, by show (flat []).length ≤ _; rw [flat_nil]; omega, fun i hi => by simp at hi⟩
theorem smallR_nil : SmallR [] := ⟨Nat.zero_le _, by show (flat []).length ≤ _; rw [flat_nil]; omega, fun i hi => by simp at hi⟩
theorem memS_nil : MemS [] := ⟨Nat.zero_le _, fun i hi => by simp at hi⟩
theorem zeroB_small {x : BlockD} (h : nzB x = false) : x.1.2.1.2.size = 0 ∧ x.1.2.2 = [] ∧ x.2 = [] := by
  unfold nzB at h
  simp at h
  exact ⟨by rw [h.2.2.2.1]; rfl, h.2.2.2.2.1, h.2.2.2.2.2⟩
theorem zeroC_small {c : CertD} (h : nzC c = false) : c.1.2.size = 0 ∧ c.2 = [] := by
  unfold nzC at h
  simp at h
  exact ⟨by rw [h.2.1]; rfl, h.2.2⟩
theorem zeroS_small {s : Int × List ByteArray} (h : nzS s = false) : s.2 = [] := by
  unfold nzS at h
  simp at h
  exact h.2
theorem zeroR_small {r : Int × Int × ByteArray} (h : nzR r = false) : r.2.2.size = 0 := by
  unfold nzR at h
  simp at h
  rw [h.2.2]; rfl
theorem certD_size (c : CertD) : (certD c).size = 8 + c.1.2.size + (flat (sigsB c.2)).length := certB_size _ _ _
theorem blockD_size (x : BlockD) : (blockD x).size = 20 + x.1.2.1.2.size + (flat (sigsB x.1.2.2)).length + (flat (reqsB x.2)).length := by
  show (num _ ++ num _ ++ certB _ _ _ ++ listB _ : ByteArray).size = _
  rw [ByteArray.size_append, ByteArray.size_append, ByteArray.size_append, num_size, num_size, certB_size, flat_size]; omega
theorem sigD_size (s : Int × List ByteArray) : (sigD s).size = 8 + (flat s.2).length := by
  show (num _ ++ listB _ : ByteArray).size = _
  rw [ByteArray.size_append, num_size, flat_size]; omega
/-- of a size that is written -/
theorem smallM_mk {h tg : ByteArray} {x : BlockD} {c : CertD} {s : Int × List ByteArray} {r : Int × Int × ByteArray} (h1 : h.size ≤ 1000000) (t1 : tg.size ≤ 1000000) (bk : x.1.2.1.2.size ≤ 1000000) (bs : SmallS x.1.2.2) (bm : SmallR x.2) (ck : c.1.2.size ≤ 1000000) (cs : SmallS c.2) (sk : (flat s.2).length ≤ 500000) (sn : s.2.length ≤ 1000) (rk : r.2.2.size ≤ 1000000) : SmallM h tg x c s r :=
  ⟨h1, t1, bk, bs, bm, ck, cs, sk, sn, rk, by rw [blockD_size]; have := bs.2.1; have := bm.2.1; omega, by rw [certD_size]; have := cs.2.1; omega, by rw [sigD_size]; omega⟩
theorem rightSig_small {f : Int} {ts : List ByteArray} (h : rightSig f ts = true) : (flat ts).length ≤ 112 ∧ ts.length ≤ 7 := by
  unfold rightSig at h
  simp only [Bool.and_eq_true, decide_eq_true_eq, List.all_eq_true] at h
  obtain ⟨a, _, b⟩ := h
  rw [List.take_of_length_le (by omega)] at a
  have := flat_le 16 ts (fun x hx => by have := a x hx; omega)
  exact ⟨by omega, b⟩
theorem right_smallM {k fr dst v : Int} {h : ByteArray} {x : BlockD} {c : CertD} {s : Int × List ByteArray} {r : Int × Int × ByteArray} {ix : Int} {tg : ByteArray} (H : RightF k fr dst v h x c s r ix tg) : SmallM h tg x c s r ∧ MemM x c s := by
  have hb : x.1.2.1.2.size ≤ 32 ∧ SmallS x.1.2.2 ∧ SmallR x.2 ∧ MemS x.1.2.2 ∧ x.2.length ≤ 3 := by
    rcases H.b with h0 | h0
    · obtain ⟨a, b, c⟩ := zeroB_small h0
      rw [a, b, c]
      exact ⟨by omega, smallS_nil, smallR_nil, memS_nil, by simp⟩
    · obtain ⟨a, b, c, d, e⟩ := right_smallB h0
      exact ⟨by omega, a, b, d, e⟩
  have hc : c.1.2.size ≤ 32 ∧ SmallS c.2 ∧ MemS c.2 := by
    rcases H.c with h0 | h0
    · obtain ⟨a, b⟩ := zeroC_small h0
      rw [a, b]
      exact ⟨by omega, smallS_nil, memS_nil⟩
    · obtain ⟨a, b, _, d⟩ := right_small h0
      exact ⟨by omega, a, d⟩
  have hs : (flat s.2).length ≤ 112 ∧ s.2.length ≤ 7 := by
    rcases H.s with h0 | h0
    · rw [zeroS_small h0]; exact ⟨by rw [flat_nil]; omega, by simp⟩
    · exact rightSig_small h0
  have hr : r.2.2.size ≤ 40 := by
    rcases H.r with h0 | h0
    · rw [zeroR_small h0]; omega
    · exact h0.2.2.2.2
  obtain ⟨_, _, t3, t4⟩ := H.tl
  exact ⟨smallM_mk (by omega) (by omega) (by omega) hb.2.1 hb.2.2.1 (by omega) hc.2.1 (by omega) (by omega) (by omega), ⟨hb.2.2.2.1, by omega, by omega, hc.2.2, by omega, by omega⟩⟩
end Go.Proofs.YthajnkcipifhcaaGreatDoor
end
section
open Go Go.RowKit
namespace BB
section
variable {P : Program} {ops : Array Oper} {Q : Exit → Act → World → Prop} {a : Act} {w : World} {rest : List Oper} {o : Oper}
end
end BB
namespace Go.Proofs.YthajnkcipifhcaaGreatDoor
open WW BB
theorem _root_.WW.MBox.upd {w w1 w2 : World} {g b : Nat} {f : Nat → Value} (h : MBox w g f w1) (u : Upd b w1 w2) (hb : w.heap.size ≤ b) (hne : g ≠ b) : MBox w g f w2 :=
  ⟨h.below.trans (u.below hb), h.blk.upd u hne⟩
theorem rightmsg_is (b : Bool) (w : World) (f : Nat → Value) (k fr dst v : Int) (h : ByteArray) (x : BlockD) (c : CertD) (s : Int × List ByteArray) (r : Int × Int × ByteArray) (ix : Int) (tg : ByteArray) (s9 r10 s13 t15 : Value)
    (M : MsgAt w f k fr dst v h x c s r ix tg s9 r10 s13 t15) (hm : MemM x c s) (hb : rightMsg k fr dst v h x c s r ix tg = b) :
    Calls Tryz.prog 20 #[.agg (row 21 f)] w fun e w' => e = .returned (.bool b) ∧ Below w.heap.size w w' := hb ▸ rightmsg_any w f k fr dst v h x c s r ix tg s9 r10 s13 t15 M hm
end Go.Proofs.YthajnkcipifhcaaGreatDoor
end
