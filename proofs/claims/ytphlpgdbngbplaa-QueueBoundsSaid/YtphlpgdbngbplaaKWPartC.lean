/-
  The walk of the closure that cuts a message's part off.
-/
import Derived.Test.YtphlpgdbngbplaaKWSigCut
import Derived.BigQuiet
import Derived.Deep.QuietTactic
import Derived.Deep.RegionHeld3
import Derived.Deep.CutRange
import Derived.Test.YtphlpgdbngbplaaKWApart
import Derived.Test.YtphlpgdbngbplaaKWRef2
import Derived.Test.YtphlpgdbngbplaaKKeyed
section
open Go Go.RowKit
namespace WW
open BB
theorem elems_cell {δ : Type} {R : RelT δ} {e : TypeId} {k lo hi c n cap : Nat} {z : Nat → Value} {w : World} {l : List δ} {xs : List Value} (h : ElemsR e k z R w lo hi (.slice (some ⟨c, 0, none⟩) n cap) l xs) (i : Nat) (d : δ) (hd : l[i]? = some d) :
    ∃ (lo1 hi1 : Nat) (g : Nat → Value), lo ≤ lo1 ∧ hi1 ≤ hi ∧ R d w lo1 hi1 z g ∧ ∀ j : Nat, j < k → w.cell? ⟨c, i * k + j, none⟩ = some (g j) := by
  obtain ⟨lo1, hi1, g, h1, h2, h3, h4, _⟩ := h.each i d hd
  refine ⟨lo1, hi1, g, h1, h2, h3, fun j hj => ?_⟩
  have := h.row.cells (g := c) rfl (i * k + j) (g j) (h4 j hj)
  rwa [WideShapes.add_plain, Nat.zero_add] at this
theorem getD_of {δ : Type} (l : List δ) (i : Nat) (x : δ) (h : i < l.length) : l[i]? = some (l.getD i x) := by
  rw [List.getD_eq_getElem?_getD, List.getElem?_eq_getElem h]; rfl
end WW
namespace Go.Proofs.Ytphlpgdbngbplaa
open WW BB
theorem strs_at {w : World} {lo hi : Nat} {sv : Value} {l : List ByteArray} {xs : List Value} (h : ElemsR 9 1 zS (strR 0) w lo hi sv l xs) : StrsAt w sv l := by
  rcases Joins.ownsRow_forms h.row with ⟨rfl, hl⟩ | ⟨c, cap, rfl⟩
  · have : l = [] := List.length_eq_zero_iff.1 hl
    subst this
    exact ⟨none, 0, rfl, Or.inl rfl⟩
  · refine ⟨_, cap, rfl, ?_⟩
    rcases Nat.eq_zero_or_pos l.length with h0 | h0
    · exact Or.inl (List.length_eq_zero_iff.1 h0)
    · refine Or.inr ⟨c, 0, rfl, (h.row.lt c rfl).2, fun i hi' => ?_⟩
      obtain ⟨_, _, g, _, _, h3, h4⟩ := elems_cell h i _ (getD_of l i ⟨#[]⟩ hi')
      have := h4 0 (by omega)
      rw [show g = put zS 0 _ from h3] at this
      rw [show 0 + i = i * 1 + 0 by omega, this]
      simp [put]
theorem sigs_at {w : World} {lo hi : Nat} {sv : Value} {l : List (Int × List ByteArray)} {xs : List Value} (h : ElemsR 38 2 zG (sigR 0) w lo hi sv l xs) : SigsAt w sv l := by
  rcases Joins.ownsRow_forms h.row with ⟨rfl, hl⟩ | ⟨c, cap, rfl⟩
  · have : l = [] := List.length_eq_zero_iff.1 hl
    subst this
    exact ⟨none, 0, rfl, Or.inl rfl⟩
  · refine ⟨_, cap, rfl, ?_⟩
    rcases Nat.eq_zero_or_pos l.length with h0 | h0
    · exact Or.inl (List.length_eq_zero_iff.1 h0)
    · refine Or.inr ⟨c, 0, rfl, (h.row.lt c rfl).2, fun i hi' => ?_⟩
      obtain ⟨lo1, hi1, g, _, _, ⟨g1, h3, sv1, xs1, h5, h6⟩, h4⟩ := elems_cell h i _ (getD_of l i (0, []) hi')
      have c0 := h4 0 (by omega)
      have c1 := h4 1 (by omega)
      rw [h5, show g1 = put zG 0 _ from h3] at c0 c1
      refine ⟨sv1, ?_, ?_, strs_at h6⟩
      · rw [show 0 + i * 2 = i * 2 + 0 by omega, c0]; simp [put]
      · rw [show 0 + i * 2 + 1 = i * 2 + 1 by omega, c1]; simp [put]
theorem reqs_at {w : World} {lo hi : Nat} {sv : Value} {l : List (Int × Int × ByteArray)} {xs : List Value} (h : ElemsR 40 3 zQ (reqR 0) w lo hi sv l xs) : ReqsAt w sv l := by
  rcases Joins.ownsRow_forms h.row with ⟨rfl, hl⟩ | ⟨c, cap, rfl⟩
  · have : l = [] := List.length_eq_zero_iff.1 hl
    subst this
    exact ⟨none, 0, rfl, Or.inl rfl⟩
  · refine ⟨_, cap, rfl, ?_⟩
    rcases Nat.eq_zero_or_pos l.length with h0 | h0
    · exact Or.inl (List.length_eq_zero_iff.1 h0)
    · refine Or.inr ⟨c, 0, rfl, (h.row.lt c rfl).2, fun i hi' => ?_⟩
      obtain ⟨lo1, hi1, g, _, _, h3, h4⟩ := elems_cell h i _ (getD_of l i (0, 0, ⟨#[]⟩) hi')
      have c0 := h4 0 (by omega)
      have c1 := h4 1 (by omega)
      have c2 := h4 2 (by omega)
      rw [show g = _ from h3] at c0 c1 c2
      refine ⟨?_, ?_, ?_⟩
      · rw [show 0 + i * 3 = i * 3 + 0 by omega, c0]; simp [put]
      · rw [show 0 + i * 3 + 1 = i * 3 + 1 by omega, c1]; simp [put]
      · rw [show 0 + i * 3 + 2 = i * 3 + 2 by omega, c2]; simp [put]
theorem risesTo_mono (l : List (Int × List ByteArray)) (i j : Nat) (h : i ≤ j) (hf : risesTo l i = false) : risesTo l j = false := by
  induction j with
  | zero => obtain rfl : i = 0 := by omega
            exact hf
  | succ j ih =>
    by_cases e : i = j + 1
    · subst e; exact hf
    · show (risesTo l j && _) = false
      rw [ih (by omega), Bool.false_and]
set_option maxRecDepth 100000 in
set_option maxHeartbeats 2000000 in
theorem rising_any (sv : Value) (l : List (Int × List ByteArray)) (w : World) (hv : SigsAt w sv l) (hl : l.length ≤ 100) :
    Calls Try.prog 73 #[sv] w fun e w' => e = .returned (.bool (rises l)) ∧ Below w.heap.size w w' := by
  obtain ⟨X, hX⟩ : ∃ X, rises l = X := ⟨_, rfl⟩
  rw [hX]
  have HX := Lib.hid (show risesTo l l.length = X from hX)
  have HV := Lib.hid hv
  have HL := Lib.hid hl
  obtain ⟨a0, cap, rfl, _⟩ := hv
  clear hX hl
  go_enter Try.func73, Try.ntmps73
  go_wp2_with fail
  go_loopw [3] (fun x wr => ∃ i : Nat, i ≤ l.length ∧ x = .int .i64 ((i : Int) + 1) ∧ (i = 0 ∨ i + 1 ≤ l.length) ∧ risesTo l (if l.length = 0 then 0 else i + 1) = true ∧ Below w.heap.size w wr) (fun x _ => l.length - (intOf x).toNat)
  case atStart =>
    refine ⟨0, Nat.zero_le _, rfl, Or.inl rfl, ?_, Below.refl _ _⟩
    split
    · rfl
    · show (risesTo l 0 && _) = true
      rfl
  case round =>
    obtain ⟨i, hi, rfl, hi0, hr, hb⟩ := hrel
    have HR := Lib.hid hr
    have HB := Lib.hid hb
    clear hr hb
    have n0 : (0 : Int) ≤ (i : Int) := by omega
    have n1 : (0 : Int) ≤ (i : Int) + 1 := by omega
    have nb : (i : Int) ≤ 100 := by have := HL.out; omega
    by_cases hlt : i + 1 < l.length
    · have hlt' : (i : Int) + 1 < (l.length : Int) := by omega
      have hlt2 : (i : Int) < (l.length : Int) := by omega
      obtain ⟨x1, y1, he, hv | ⟨gb, off, rfl, hbw, hcell⟩⟩ := HV.out
      · rw [hv] at hlt; simp at hlt
      injection he with e1 _ e3
      subst e1 e3
      obtain ⟨_, hc0, _, _⟩ := hcell i (by omega)
      obtain ⟨_, hd0, _, _⟩ := hcell (i + 1) hlt
      have hcl := (HB.out.cell (p := ⟨gb, off + i * 2, none⟩) hbw).trans hc0
      have hdl := (HB.out.cell (p := ⟨gb, off + (i + 1) * 2, none⟩) hbw).trans hd0
      have hst : risesTo l (i + 1 + 1) = (risesTo l (i + 1) && decide ((l.getD i (0, [])).1 < (l.getD (i + 1) (0, [])).1)) := by
        show (risesTo l (i + 1) && (decide (i + 1 = 0) || decide ((l.getD (i + 1 - 1) (0, [])).1 < _))) = _
        rw [show decide (i + 1 = 0) = false by simp, Bool.false_or, Nat.add_sub_cancel]
      obtain ⟨f0, hf0⟩ : ∃ f, (l.getD i (0, [])).1 = f := ⟨_, rfl⟩
      obtain ⟨f1, hf1⟩ : ∃ f, (l.getD (i + 1) (0, [])).1 = f := ⟨_, rfl⟩
      rw [hf0] at hcl hst
      rw [hf1] at hdl hst
      have HR := HR.out
      rw [if_neg (by omega)] at HR
      have HST := Lib.hid (And.intro hst (And.intro HR hlt))
      have mw := IntKind.wrap_i64 (i : Int)
      have MW := Lib.hid (show IntKind.i64.wrap (i : Int) = (i : Int) by rw [mw]; omega)
      clear hf0 hf1 hst HR hlt hi hi0 hcell hbw hc0 hd0 mw
      have mw := MW.out
      by_cases hff : f0 < f1
      · have hd : ¬ f1 ≤ f0 := by omega
        have HFF := Lib.hid hff
        clear hff
        go_wp2_with fail
        go_quiet (fail)
        go_wp2_with fail
        go_roundw
        case rel =>
          obtain ⟨h1, h2, h3⟩ := HST.out
          refine ⟨i + 1, by omega, by go_num, Or.inr (by omega), ?_, below_drewN HB.out _⟩
          rw [if_neg (by omega), h1, h2]; simp [HFF.out]
        case measure => have := HST.out.2.2; simp [intOf]; omega
      · have hd : f1 ≤ f0 := by omega
        have HFF := Lib.hid hff
        clear hff
        go_wp2_with fail
        go_quiet (fail)
        go_wp2_with fail
        go_ret
        refine ⟨?_, below_drewN HB.out _⟩
        obtain ⟨h1, h2, h3⟩ := HST.out
        rw [← HX.out, risesTo_mono l (i + 1 + 1) l.length (by omega) (by rw [h1]; simp [HFF.out])]
        rfl
    · have hlt' : ¬ (i : Int) + 1 < (l.length : Int) := by omega
      have hfin : X = true := by
        rw [← HX.out]
        have := HR.out
        by_cases h0 : l.length = 0
        · rw [h0]; rfl
        · rw [if_neg h0] at this
          rw [show l.length = i + 1 by omega]; exact this
      have HFIN := Lib.hid hfin
      clear hlt hi hi0 hfin
      go_wp2_with fail
      go_ret
      exact ⟨by rw [HFIN.out]; rfl, HB.out⟩
end Go.Proofs.Ytphlpgdbngbplaa
end
section
open Go Go.RowKit
namespace WW
open BB
/-- a certificate's first two parts, from cell o on -/
def certR1 (o : Nat) : RelT (Int × ByteArray) := seqR (numR o) (strR (o + 1))
end WW
namespace Go.Proofs.Ytphlpgdbngbplaa
open WW BB
/-- a certificate, from cell o on -/
def certR (o : Nat) : RelT CertD := seqR (certR1 o) (listR 38 2 zG (sigR 0) (o + 2))
theorem sound_cert (o : Nat) : SoundR (certR o) := ((sound_num o).seq (sound_str (o + 1))).seq (sound_list (sound_sig 0))
/-- what a certificate's cells are -/
theorem certR_cells {o : Nat} {c : CertD} {w : World} {lo hi : Nat} {f f' : Nat → Value} (h : certR o c w lo hi f f') : ∃ sv, f' = put (put (put f o (.int .i64 c.1.1)) (o + 1) (.string c.1.2)) (o + 2) sv ∧ SigsAt w sv c.2 := by
  obtain ⟨g, ⟨g1, h1, h2⟩, sv, xs, h3, h4⟩ := h
  refine ⟨sv, ?_, sigs_at h4⟩
  rw [h3, show g = put g1 (o + 1) _ from h2, show g1 = put f o _ from h1]
set_option maxRecDepth 100000 in
theorem mk_provided (kh : Nat) (env : Array Value) (w : World) :
    Calls Try.prog 67 #[.func (.func kh) #[] env] w fun e w' => e = .returned (.func (.func 81) #[] #[.pointer (some ⟨w.heap.size, 0, none⟩)]) ∧ Below w.heap.size w w' ∧ w'.cell? ⟨w.heap.size, 0, none⟩ = some (.func (.func kh) #[] env) := by
  go_enter Try.func67, Try.ntmps67
  go_wp2_with fail
  go_ret
  exact ⟨rfl, (Below.refl w.heap.size w).alloc (Nat.le_refl _) _, cell_at _ _ _ _ rfl⟩
theorem own_provided : Own Try.prog 81 := ⟨_, Try.func81, by kernel_rfl, by kernel_rfl⟩
set_option maxRecDepth 100000 in
/-- the closure that tells whether what holds of what was read -/
theorem provided_call (kh : Nat) (env : Array Value) (bp : Nat) (b : ByteArray) (x : Bool) (w : World) (hp : w.cell? ⟨bp, 0, none⟩ = some (.func (.func kh) #[] env)) (hc : CallsV Try.prog (.func (.func kh) #[] env) #[] w fun e w' => e = .returned (.bool x) ∧ Below w.heap.size w w') :
    Cut Try.prog (.func (.func 81) #[] #[.pointer (some ⟨bp, 0, none⟩)]) b w (fun ok r w' => ok = x ∧ r = b ∧ Below w.heap.size w w') := by
  refine ⟨_, _, rfl, own_provided, ?_⟩
  show Calls Try.prog 81 #[.string b, .pointer (some ⟨bp, 0, none⟩)] w _
  have HC := Lib.hid hc
  clear hc
  go_enter Try.func81, Try.ntmps81
  go_wp2_with (with_reducible refine hold_callv rfl rfl ?_)
  refine wpl_callv (v := .func (.func kh) #[] env) (args := #[]) _ rfl rfl rfl (by simp) HC.out (fun _ _ ⟨h, _⟩ => ⟨_, h⟩) ?_
  rintro u w4 ⟨hu, hb4⟩
  injection hu with hu
  subst hu
  have HB := Lib.hid hb4
  clear hb4 hp
  go_wp2_with fail
  go_ret2
  exact ⟨x, b, rfl, rfl, rfl, HB.out⟩
theorem own_cert1 : Own Try.prog 72 := ⟨_, Try.func72, by kernel_rfl, by kernel_rfl⟩
set_option maxRecDepth 100000 in
theorem cert1_call (bc t o : Nat) (sv : Value) (l : List (Int × List ByteArray)) (w : World) (hb : w.cell? ⟨bc, 0, none⟩ = some (.pointer (some ⟨t, o, none⟩))) (hc : w.cell? ⟨t, o + 2, none⟩ = some sv) (hv : SigsAt w sv l) (hl : l.length ≤ 100) :
    CallsV Try.prog (.func (.func 72) #[] #[.pointer (some ⟨bc, 0, none⟩)]) #[] w fun e w' => e = .returned (.bool (rises l)) ∧ Below w.heap.size w w' := by
  refine ⟨_, _, rfl, own_cert1, ?_⟩
  show Calls Try.prog 72 #[.pointer (some ⟨bc, 0, none⟩)] w _
  have hr := rising_any sv l w hv hl
  obtain ⟨x, hx⟩ : ∃ x, rises l = x := ⟨_, rfl⟩
  rw [hx] at hr ⊢
  have HR := Lib.hid hr
  clear hv hl hr hx
  go_enter Try.func72, Try.ntmps72
  go_wp2_with fail
  refine HR.out.mono ?_
  rintro e w1 ⟨rfl, hb1⟩
  have HB := Lib.hid hb1
  clear hb1 hb hc
  go_wp2_with fail
  go_ret
  exact ⟨rfl, HB.out⟩
theorem hold2 {w w1 : World} {t bc : Nat} {v : Value} (h : t < w.heap.size ∧ w.cell? ⟨bc, 0, none⟩ = some v) (hb : Below w.heap.size w w1) : t < w1.heap.size ∧ w1.cell? ⟨bc, 0, none⟩ = some v := ⟨Nat.lt_of_lt_of_le h.1 hb.size, keep_cell h.2 hb⟩
set_option maxRecDepth 100000 in
set_option maxHeartbeats 4000000 in
theorem mk_cert (t o n : Nat) (w : World) (ho : o + 2 < n) (ht : t < w.heap.size) :
    Calls Try.prog 54 #[.pointer (some ⟨t, o, none⟩)] w (MakesR Try.prog t n w (fun f => f (o + 2) = .slice none 0 0) certI (certR o)) := by
  have HO := Lib.hid ho
  have HT := Lib.hid ht
  clear ho ht
  go_enter Try.func54, Try.ntmps54
  go_upto_region 1 with fail
  have b0 := (Below.refl w.heap.size w).alloc (Nat.le_refl _) (.cells #[.pointer (some ⟨t, o, none⟩)] 100)
  have cb := cell_new w #[.pointer (some ⟨t, o, none⟩)] 100 0 _ rfl
  obtain ⟨bc, hbc⟩ : ∃ bc, w.heap.size = bc := ⟨_, rfl⟩
  rw [hbc] at cb ⊢
  have B0 := Lib.hid b0
  have HBC := Lib.hid hbc
  clear hbc b0
  generalize w.alloc (.cells #[.pointer (some ⟨t, o, none⟩)] 100) = w0 at *
  have hst : t < w0.drew.heap.size ∧ w0.drew.cell? ⟨bc, 0, none⟩ = some (.pointer (some ⟨t, o, none⟩)) := ⟨Nat.lt_of_lt_of_le HT.out B0.out.size, cb⟩
  go_region_held3 (fun w' => t < w'.heap.size ∧ w'.cell? ⟨bc, 0, none⟩ = some (.pointer (some ⟨t, o, none⟩))) (first | exact hst | exact hk | exact hold2 hk ((Below.refl _ _).alloc (Nat.le_refl _) _))
    (first
      | (go_at_call 46; refine (mk_num t _ n _ _ _ (by have := HO.out; omega) (by first | exact hst.1 | exact hk.1)).mono ?_; rintro e w1 ⟨k1, env1, rfl, hb1, hv1⟩; have hk := hold2 (by first | exact hk | exact hst) hb1; have HB1 := Lib.hid hb1; have HV1 := Lib.hid hv1; clear hb1 hv1)
      | (go_at_call 64; refine (mk_bytes t _ n 32 _ (by have := HO.out; omega) hk.1).mono ?_; rintro e w2 ⟨k2, env2, rfl, hb2, hv2⟩; have hk := hold2 hk hb2; have HB2 := Lib.hid hb2; have HV2 := Lib.hid hv2; clear hb2 hv2)
      | (go_at_call 71; refine (mk_listG sigI (sigR 0) (sound_sig 0) (fun _ _ _ h => codec_sig.size h) one_sig t _ n 7 _ _ _ (by omega) (by have := HO.out; omega) hk.1 each_sig).mono ?_; rintro e w3 ⟨k3, env3, rfl, hb3, hv3⟩; have hk := hold2 hk hb3; have HB3 := Lib.hid hb3; have HV3 := Lib.hid hv3; clear hb3 hv3)
      | (go_at_call 67; refine (mk_provided _ _ _).mono ?_; rintro e w4 ⟨rfl, hb4, hv4⟩; have hk := hold2 hk hb4; have HB4 := Lib.hid hb4; have HV4 := Lib.hid hv4; clear hb4 hv4)
      | (go_at_call 45; refine (mk_order _ _ _ _).mono ?_; rintro e w5 ⟨rfl, hb5, hv5⟩; have hk := hold2 (hold2 hk ((Below.refl _ _).alloc (Nat.le_refl _) _)) hb5; have HB5 := Lib.hid hb5; have HV5 := Lib.hid hv5; clear hb5 hv5))
  all_goals
    obtain ⟨W4, hW4⟩ : ∃ W4, W4 = w4.alloc (.cells #[.func (.func k1) #[] env1, .func (.func k2) #[] env2, .func (.func k3) #[] env3, .func (.func 81) #[] #[.pointer (some ⟨w3.heap.size, 0, none⟩)]] 87) := ⟨_, rfl⟩
    rw [← hW4] at HB5 HV5
    have z4 : W4.heap.size = w4.heap.size + 1 := by rw [hW4]; simp
    have b4 : Below w4.heap.size w4 W4 := by rw [hW4]; exact (Below.refl _ _).alloc (Nat.le_refl _) _
    have hrow : InRow w4.heap.size [.func (.func k1) #[] env1, .func (.func k2) #[] env2, .func (.func k3) #[] env3, .func (.func 81) #[] #[.pointer (some ⟨w3.heap.size, 0, none⟩)]] W4 := by
      rw [hW4]
      intro i hi
      match i, hi with
      | 0, _ => exact cell_new _ _ _ _ _ rfl
      | 1, _ => exact cell_new _ _ _ _ _ rfl
      | 2, _ => exact cell_new _ _ _ _ _ rfl
      | 3, _ => exact cell_new _ _ _ _ _ rfl
    have tb : t < bc := by have := HT.out; have := HBC.out; omega
    have b3w : bc < w3.heap.size := Nat.lt_of_lt_of_le (World.block_lt_of_cell? _ _ cb) (Nat.le_trans HB1.out.size (Nat.le_trans HB2.out.size HB3.out.size))
    have b4w : w3.heap.size < w4.heap.size := World.block_lt_of_cell? _ _ HV4.out
    have k5 : Keep t W4 w5 := keep_of_below HB5.out (Nat.le_refl _) t
    have k4' : Keep t w4 w5 := (keep_of_below b4 (Nat.le_refl _) t).trans k5
    have k3' : Keep t w3 w5 := (keep_of_below HB4.out (Nat.le_refl _) t).trans k4'
    have k2' : Keep t w2 w5 := (keep_of_below HB3.out (Nat.le_refl _) t).trans k3'
    have k1' : Keep t w1 w5 := (keep_of_below HB2.out (Nat.le_refl _) t).trans k2'
    have ord1 : OrdR Try.prog t n [.func (.func k1) #[] env1, .func (.func k2) #[] env2] w5 (fun f => f (o + 2) = .slice none 0 0) (seqSp (numI 0 1000000) (bytesSp 32)) (certR1 o) :=
      (OrdR.one ((cutr_num (HV1.out.later k1')).weak (fun _ _ => trivial) (fun _ _ _ _ _ _ h => h))).app (cutr_str (HV2.out.later k2')) (sound_num o) (sound_str (o + 1)) (fun b r x h => (codec_num 0 1000000 (by omega) (by omega)).size h) (fun _ _ _ _ _ _ _ _ => trivial)
    have ord2 : OrdR Try.prog t n [.func (.func k1) #[] env1, .func (.func k2) #[] env2, .func (.func k3) #[] env3] w5 (fun f => f (o + 2) = .slice none 0 0) (seqSp (seqSp (numI 0 1000000) (bytesSp 32)) (countSp 7 sigI)) (certR o) :=
      ord1.app (HV3.out.later k3') ((sound_num o).seq (sound_str (o + 1))) (sound_list (sound_sig 0)) (fun b r x h => ((codec_num 0 1000000 (by omega) (by omega)).seq (codec_bytes 32)).size h) (fun d w lo hi f g hp hg => by
        obtain ⟨g1, h1, h2⟩ := hg
        rw [show g = put g1 (o + 1) _ from h2, show g1 = put f o _ from h1]; simpa [put] using hp)
    have prov : ProvR Try.prog t n (.func (.func 81) #[] #[.pointer (some ⟨w3.heap.size, 0, none⟩)]) w5 (fun f => f (o + 2) = .slice none 0 0) (seqSp (seqSp (numI 0 1000000) (bytesSp 32)) (countSp 7 sigI)) (certR o) (fun c => rises c.2) := by
      rintro d f f' lo hi b wx ⟨b0, r0, hA⟩ hk hhi hblk hp hR
      obtain ⟨_, _, h7, _⟩ := (((codec_num 0 1000000 (by omega) (by omega)).seq (codec_bytes 32)).seq (codec_sig.count 7 (by omega))).sound _ _ _ hA
      obtain ⟨sv, hf', hS⟩ := certR_cells hR
      refine provided_call 72 #[.pointer (some ⟨bc, 0, none⟩)] w3.heap.size b (rises d.2) wx (keep_cell2 (keep_cell2 HV4.out (by omega) k4') (by omega) hk) ?_
      refine cert1_call bc t o sv d.2 wx (keep_cell2 (keep_cell2 hst.2 (by omega) ((keep_of_below HB1.out (Nat.le_refl _) t).trans k1')) (by omega) hk) ?_ hS (by omega)
      have := hblk.get (o + 2) HO.out
      rw [this, hf']; simp [put]
    have hto := Lib.hid (order_cutR (cap := 4) (bx := W4.heap.size) (ord2.prov prov (sound_cert o)) (InRow_keep hrow (by omega) (by omega) k5) HV5.out (by omega) (by have := HB5.out.size; omega) (by omega) (by simp))
    have hbel : Hid (Below w.heap.size w w5) := by
      have e0 : Below w.heap.size w w0.drew := B0.out.drew
      have e1 := e0.trans (HB1.out.mono e0.size)
      have e2 := e1.trans (HB2.out.mono e1.size)
      have e3 := e2.trans (HB3.out.mono e2.size)
      have e4 := e3.trans (HB4.out.mono e3.size)
      have e5 := e4.trans (b4.mono e4.size)
      exact Lib.hid (e5.trans (HB5.out.mono e5.size))
    rw [z4] at hto
    clear hrow k5 k4' k3' k2' k1' hW4 b4 ord1 ord2 prov
    go_wp2_with fail
    go_ret
    exact ⟨_, _, rfl, hbel.out, hto.out⟩
theorem own_cert : Own Try.prog 54 := ⟨_, Try.func54, by kernel_rfl, by kernel_rfl⟩
end Go.Proofs.Ytphlpgdbngbplaa
end
section
open Go Go.RowKit
namespace WW
open BB
def zC : Nat → Value := fun i => if i = 0 then .int .i64 0 else if i = 1 then .string ⟨#[]⟩ else .slice none 0 0
theorem zC_row : #[.int .i64 0, .string ⟨#[]⟩, .slice none 0 0] = row 3 zC := by rfl
/-- three of them beside each other -/
structure ThreeC (w0 : World) (a : Nat) (w : World) : Prop where
  below : Below w0.heap.size w0 w
  ra : Blk w a 3 zC
  rx : Blk w (a + 1) 3 zC
  rn : Blk w (a + 1 + 1) 3 zC
theorem threeC_mk (w : World) (a : Nat) (ha : w.heap.size = a) (t : TypeId) : ThreeC w a (((w.alloc (.cells #[.int .i64 0, .string ⟨#[]⟩, .slice none 0 0] t)).alloc (.cells #[.int .i64 0, .string ⟨#[]⟩, .slice none 0 0] t)).alloc (.cells #[.int .i64 0, .string ⟨#[]⟩, .slice none 0 0] t)) := by
  have b1 := (Below.refl w.heap.size w).alloc (Nat.le_refl _) (.cells #[.int .i64 0, .string ⟨#[]⟩, .slice none 0 0] t)
  have b2 := b1.alloc b1.size (.cells #[.int .i64 0, .string ⟨#[]⟩, .slice none 0 0] t)
  exact ⟨b2.alloc b2.size _, ((Blk.new' (by omega) zC_row).alloc _).alloc _, (Blk.new' (by simp; omega) zC_row).alloc _, Blk.new' (by simp; omega) zC_row⟩
theorem ThreeC.on {w0 w w' : World} {a : Nat} (h : ThreeC w0 a w) (hb : Below w.heap.size w w') : ThreeC w0 a w' :=
  ⟨h.below.trans (hb.mono h.below.size), h.ra.below hb h.ra.lt, h.rx.below hb h.rx.lt, h.rn.below hb h.rn.lt⟩
theorem setC {w : World} {a : Nat} {f : Nat → Value} (h : Blk w a 3 f) (u0 u1 u2 : Value) :
    ((((w.setCell ⟨a, 0, none⟩ u0).setCell ⟨a, 1, none⟩ u1).setCell ⟨a, 2, none⟩ u2).cell? ⟨a, 0, none⟩ = some u0 ∧ (((w.setCell ⟨a, 0, none⟩ u0).setCell ⟨a, 1, none⟩ u1).setCell ⟨a, 2, none⟩ u2).cell? ⟨a, 1, none⟩ = some u1 ∧ (((w.setCell ⟨a, 0, none⟩ u0).setCell ⟨a, 1, none⟩ u1).setCell ⟨a, 2, none⟩ u2).cell? ⟨a, 2, none⟩ = some u2) ∧ Upd a w (((w.setCell ⟨a, 0, none⟩ u0).setCell ⟨a, 1, none⟩ u1).setCell ⟨a, 2, none⟩ u2) := by
  have k := (((h.set 0 u0).set 1 u1).set 2 u2)
  exact ⟨⟨k.get 0 (by omega), k.get 1 (by omega), k.get 2 (by omega)⟩, (((Upd.refl a w).trans (Upd.set _ _ _ _)).trans (Upd.set _ _ _ _)).trans (Upd.set _ _ _ _)⟩
/-- all of it is read -/
def certRd (b : ByteArray) : Option CertD :=
  match certI b with
  | none => none
  | some (r, d) => if r.size = 0 then some d else none
end WW
namespace Go.Proofs.Ytphlpgdbngbplaa
open WW BB
/-- what is answered -/
def CertAns (w : World) (x : Option CertD) (e : Ending) (w' : World) : Prop :=
  match x with
  | none => e = .returned (.tuple #[.agg #[.int .i64 0, .string ⟨#[]⟩, .slice none 0 0], .int .i64 2])
  | some d => ∃ f' lo hi, e = .returned (.tuple #[.agg #[f' 0, f' 1, f' 2], .int .i64 0]) ∧ w.heap.size ≤ lo ∧ hi ≤ w'.heap.size ∧ certR 0 d w' lo hi zC f'
end Go.Proofs.Ytphlpgdbngbplaa
end
section
open Go Go.RowKit
namespace WW
open BB
theorem certRd_some {b r : ByteArray} {d : CertD} (h : certI b = some (r, d)) (h0 : r.size = 0) : certRd b = some d := by unfold certRd; rw [h]; exact if_pos h0
theorem ba_nil (b : ByteArray) : b ++ ⟨#[]⟩ = b := ba_ext (by simp)
theorem certRd_put {c : CertD} (h : certOk c) : certRd (certD c) = some c := by
  have := codec_cert.put c ⟨#[]⟩ h
  rw [ba_nil] at this
  exact certRd_some this rfl
theorem certRd_sound {b : ByteArray} {c : CertD} (h : certRd b = some c) : b = certD c ∧ certOk c := by
  unfold certRd at h
  rcases h1 : certI b with _ | ⟨r, d⟩
  · rw [h1] at h; cases h
  rw [h1] at h
  dsimp only at h
  split at h
  · rename_i h0
    injection h with h
    subst h
    obtain ⟨e1, e2⟩ := codec_cert.sound _ _ _ h1
    exact ⟨by rw [e1, nil_size r h0]; exact ba_ext (by simp), e2⟩
  · cases h
theorem right_small {v : Int} {k : ByteArray} {l : List (Int × List ByteArray)} (h : rightCert v k l = true) : SmallS l ∧ k.size = 32 ∧ l.length ≤ 7 ∧ MemS l := by
  unfold rightCert at h
  simp only [Bool.and_eq_true, decide_eq_true_eq] at h
  obtain ⟨⟨⟨⟨h1, h2⟩, h3⟩, h4⟩, h5⟩ := h
  rw [okTo_iff] at h5
  have hs : ∀ p ∈ l, (∀ t ∈ p.2, t.size = 16) ∧ p.2.length ≤ 7 := fun p hp => by
    have := (all_getD (p := fun p => rightSig p.1 p.2 = true)).1 h5.1 p hp
    unfold rightSig at this
    simp only [Bool.and_eq_true, decide_eq_true_eq, List.all_eq_true] at this
    obtain ⟨a, _, b⟩ := this
    rw [List.take_of_length_le (by omega)] at a
    exact ⟨a, b⟩
  have hfl : ∀ p ∈ l, (flat p.2).length ≤ 112 := fun p hp => by
    have := flat_le 16 p.2 (fun x hx => by have := (hs p hp).1 x hx; omega)
    have := (hs p hp).2
    omega
  have hmem : ∀ i, i < l.length → l.getD i (0, []) ∈ l := fun i hi => by rw [List.getD_eq_getElem?_getD, List.getElem?_eq_getElem hi]; exact List.getElem_mem hi
  refine ⟨⟨by omega, ?_, fun i hi => ⟨by have := hfl _ (hmem i hi); omega, by have := (hs _ (hmem i hi)).2; omega⟩⟩, h3, h4, by omega, fun i hi => by have := (hs _ (hmem i hi)).2; omega⟩
  have := flat_le 200 (sigsB l) (fun x hx => by
    unfold sigsB at hx
    obtain ⟨p, hp, rfl⟩ := List.mem_map.1 hx
    show (num p.1 ++ listB p.2).size ≤ 200
    rw [ByteArray.size_append, flat_size, num_size]
    have := hfl p hp
    omega)
  have e : (sigsB l).length = l.length := by unfold sigsB; rw [List.length_map]
  omega
end WW
namespace Go.Proofs.Ytphlpgdbngbplaa
open WW BB
theorem certans_some {w w' : World} {d : CertD} {e : Ending} (h : CertAns w (some d) e w') : ∃ sv, e = .returned (.tuple #[.agg #[.int .i64 d.1.1, .string d.1.2, sv], .int .i64 0]) ∧ SigsAt w' sv d.2 := by
  obtain ⟨f', lo, hi, rfl, _, _, hR⟩ := h
  obtain ⟨sv, hf, hsv⟩ := certR_cells hR
  refine ⟨sv, ?_, hsv⟩
  rw [hf]; rfl
theorem zerocert_zero (w : World) : Calls Try.prog 22 #[.agg #[.int .i64 0, .string ⟨#[]⟩, .slice none 0 0]] w fun e w' => e = .returned (.bool true) ∧ Below w.heap.size w w' := by
  go_enter Try.func22, Try.ntmps22
  go_wp2_with fail
  go_ret
  exact ⟨rfl, (Below.refl _ _).alloc (Nat.le_refl _) _⟩
end Go.Proofs.Ytphlpgdbngbplaa
end
section
open Go Go.RowKit
namespace Go.Proofs.Ytphlpgdbngbplaa
open WW BB
theorem put_ne {f : Nat → Value} {i j : Nat} {u : Value} (h : j ≠ i) : put f i u j = f j := by simp [put, h]
theorem put_self {f : Nat → Value} {i : Nat} {u : Value} : put f i u i = u := by simp [put]
/-- a block's first parts, from cell o on -/
def blockR1 (o : Nat) : RelT ((Int × Int) × CertD) := seqR (seqR (numR o) (numR (o + 1))) (certR (o + 2))
/-- a block, from cell o on -/
def blockR (o : Nat) : RelT BlockD := seqR (blockR1 o) (listR 40 3 zQ (reqR 0) (o + 5))
theorem sound_block1 (o : Nat) : SoundR (blockR1 o) := ((sound_num o).seq (sound_num (o + 1))).seq (sound_cert (o + 2))
theorem sound_block (o : Nat) : SoundR (blockR o) := (sound_block1 o).seq (sound_list (sound_req 0))
theorem blockR1_cells {o : Nat} {x : (Int × Int) × CertD} {w : World} {lo hi : Nat} {f f' : Nat → Value} (h : blockR1 o x w lo hi f f') : ∃ sv, f' = put (put (put (put (put f o (.int .i64 x.1.1)) (o + 1) (.int .i64 x.1.2)) (o + 2) (.int .i64 x.2.1.1)) (o + 2 + 1) (.string x.2.1.2)) (o + 2 + 2) sv ∧ SigsAt w sv x.2.2 := by
  obtain ⟨g, ⟨g1, h1, h2⟩, h3⟩ := h
  obtain ⟨sv, h4, h5⟩ := certR_cells h3
  refine ⟨sv, ?_, h5⟩
  rw [h4, show g = put g1 (o + 1) _ from h2, show g1 = put f o _ from h1]
theorem blockR_cells {o : Nat} {x : BlockD} {w : World} {lo hi : Nat} {f f' : Nat → Value} (h : blockR o x w lo hi f f') : ∃ sv rv, f' = put (put (put (put (put (put f o (.int .i64 x.1.1.1)) (o + 1) (.int .i64 x.1.1.2)) (o + 2) (.int .i64 x.1.2.1.1)) (o + 2 + 1) (.string x.1.2.1.2)) (o + 2 + 2) sv) (o + 5) rv ∧ SigsAt w sv x.1.2.2 ∧ ReqsAt w rv x.2 := by
  obtain ⟨g, h1, rv, xs, h2, h3⟩ := h
  obtain ⟨sv, h4, h5⟩ := blockR1_cells h1
  exact ⟨sv, rv, by rw [h2, h4], h5, reqs_at h3⟩
theorem own_block1 : Own Try.prog 68 := ⟨_, Try.func68, by kernel_rfl, by kernel_rfl⟩
set_option maxRecDepth 100000 in
theorem block1_call (bc t o : Nat) (v cv : Int) (w : World) (hb : w.cell? ⟨bc, 0, none⟩ = some (.pointer (some ⟨t, o, none⟩))) (hc : w.cell? ⟨t, o, none⟩ = some (.int .i64 v)) (hv : w.cell? ⟨t, o + 2, none⟩ = some (.int .i64 cv)) :
    CallsV Try.prog (.func (.func 68) #[] #[.pointer (some ⟨bc, 0, none⟩)]) #[] w fun e w' => e = .returned (.bool (decide (cv < v))) ∧ Below w.heap.size w w' := by
  refine ⟨_, _, rfl, own_block1, ?_⟩
  show Calls Try.prog 68 #[.pointer (some ⟨bc, 0, none⟩)] w _
  go_enter Try.func68, Try.ntmps68
  go_wp2_with fail
  go_quiet (fail)
  go_wp2_with fail
  go_ret
  exact ⟨rfl, below_drewN (Below.refl _ _) _⟩
set_option maxRecDepth 100000 in
set_option maxHeartbeats 4000000 in
theorem mk_block (t o n : Nat) (w : World) (ho : o + 5 < n) (ht : t < w.heap.size) :
    Calls Try.prog 51 #[.pointer (some ⟨t, o, none⟩)] w (MakesR Try.prog t n w (fun f => f (o + 2 + 2) = .slice none 0 0 ∧ f (o + 5) = .slice none 0 0) blockI (blockR o)) := by
  have HO := Lib.hid ho
  have HT := Lib.hid ht
  clear ho ht
  go_enter Try.func51, Try.ntmps51
  go_upto_region 1 with fail
  have b0 := (Below.refl w.heap.size w).alloc (Nat.le_refl _) (.cells #[.pointer (some ⟨t, o, none⟩)] 97)
  have cb := cell_new w #[.pointer (some ⟨t, o, none⟩)] 97 0 _ rfl
  obtain ⟨bc, hbc⟩ : ∃ bc, w.heap.size = bc := ⟨_, rfl⟩
  rw [hbc] at cb ⊢
  have B0 := Lib.hid b0
  have HBC := Lib.hid hbc
  clear hbc b0
  generalize w.alloc (.cells #[.pointer (some ⟨t, o, none⟩)] 97) = w0 at *
  have hst : t < w0.drew.heap.size ∧ w0.drew.cell? ⟨bc, 0, none⟩ = some (.pointer (some ⟨t, o, none⟩)) := ⟨Nat.lt_of_lt_of_le HT.out B0.out.size, cb⟩
  go_region_held3 (fun w' => t < w'.heap.size ∧ w'.cell? ⟨bc, 0, none⟩ = some (.pointer (some ⟨t, o, none⟩))) (first | exact hst | exact hk | exact hold2 hk ((Below.refl _ _).alloc (Nat.le_refl _) _))
    (first
      | (go_at_call 46; (fail_if_success have hx := HV1); refine (mk_num t _ n _ _ _ (by have := HO.out; omega) (by first | exact hst.1 | exact hk.1)).mono ?_; rintro e w1 ⟨k1, env1, rfl, hb1, hv1⟩; have hk := hold2 (by first | exact hk | exact hst) hb1; have HB1 := Lib.hid hb1; have HV1 := Lib.hid hv1; clear hb1 hv1)
      | (go_at_call 46; refine (mk_num t _ n _ _ _ (by have := HO.out; omega) hk.1).mono ?_; rintro e w2 ⟨k2, env2, rfl, hb2, hv2⟩; have hk := hold2 hk hb2; have HB2 := Lib.hid hb2; have HV2 := Lib.hid hv2; clear hb2 hv2)
      | (go_at_call 54; refine (mk_cert t _ n _ (by have := HO.out; omega) hk.1).mono ?_; rintro e w3 ⟨k3, env3, rfl, hb3, hv3⟩; have hk := hold2 hk hb3; have HB3 := Lib.hid hb3; have HV3 := Lib.hid hv3; clear hb3 hv3)
      | (go_at_call 67; refine (mk_provided _ _ _).mono ?_; rintro e w4 ⟨rfl, hb4, hv4⟩; have hk := hold2 hk hb4; have HB4 := Lib.hid hb4; have HV4 := Lib.hid hv4; clear hb4 hv4)
      | (go_at_call 69; refine (mk_listQ reqI (reqR 0) (sound_req 0) (fun _ _ _ h => codec_req.size h) one_req t _ n 3 _ _ _ (by omega) (by have := HO.out; omega) hk.1 each_req).mono ?_; rintro e w6 ⟨k6, env6, rfl, hb6, hv6⟩; have hk := hold2 hk hb6; have HB6 := Lib.hid hb6; have HV6 := Lib.hid hv6; clear hb6 hv6)
      | (go_at_call 45; refine (mk_order _ _ _ _).mono ?_; rintro e w5 ⟨rfl, hb5, hv5⟩; have hk := hold2 (hold2 hk ((Below.refl _ _).alloc (Nat.le_refl _) _)) hb5; have HB5 := Lib.hid hb5; have HV5 := Lib.hid hv5; clear hb5 hv5))
  all_goals
    obtain ⟨W4, hW4⟩ : ∃ W4, W4 = w6.alloc (.cells #[.func (.func k1) #[] env1, .func (.func k2) #[] env2, .func (.func k3) #[] env3, .func (.func 81) #[] #[.pointer (some ⟨w3.heap.size, 0, none⟩)], .func (.func k6) #[] env6] 87) := ⟨_, rfl⟩
    rw [← hW4] at HB5 HV5
    have z4 : W4.heap.size = w6.heap.size + 1 := by rw [hW4]; simp
    have b4 : Below w6.heap.size w6 W4 := by rw [hW4]; exact (Below.refl _ _).alloc (Nat.le_refl _) _
    have hrow : InRow w6.heap.size [.func (.func k1) #[] env1, .func (.func k2) #[] env2, .func (.func k3) #[] env3, .func (.func 81) #[] #[.pointer (some ⟨w3.heap.size, 0, none⟩)], .func (.func k6) #[] env6] W4 := by
      rw [hW4]
      intro i hi
      match i, hi with
      | 0, _ => exact cell_new _ _ _ _ _ rfl
      | 1, _ => exact cell_new _ _ _ _ _ rfl
      | 2, _ => exact cell_new _ _ _ _ _ rfl
      | 3, _ => exact cell_new _ _ _ _ _ rfl
      | 4, _ => exact cell_new _ _ _ _ _ rfl
    have tb : t < bc := by have := HT.out; have := HBC.out; omega
    have b3w : bc < w3.heap.size := Nat.lt_of_lt_of_le (World.block_lt_of_cell? _ _ cb) (Nat.le_trans HB1.out.size (Nat.le_trans HB2.out.size HB3.out.size))
    have b4w : w3.heap.size < w4.heap.size := World.block_lt_of_cell? _ _ HV4.out
    have b6w : w4.heap.size ≤ w6.heap.size := HB6.out.size
    have k5 : Keep t W4 w5 := keep_of_below HB5.out (Nat.le_refl _) t
    have k6' : Keep t w6 w5 := (keep_of_below b4 (Nat.le_refl _) t).trans k5
    have k4' : Keep t w4 w5 := (keep_of_below HB6.out (Nat.le_refl _) t).trans k6'
    have k3' : Keep t w3 w5 := (keep_of_below HB4.out (Nat.le_refl _) t).trans k4'
    have k2' : Keep t w2 w5 := (keep_of_below HB3.out (Nat.le_refl _) t).trans k3'
    have k1' : Keep t w1 w5 := (keep_of_below HB2.out (Nat.le_refl _) t).trans k2'
    have ord1 : OrdR Try.prog t n [.func (.func k1) #[] env1, .func (.func k2) #[] env2] w5 (fun f => f (o + 2 + 2) = .slice none 0 0 ∧ f (o + 5) = .slice none 0 0) (seqSp (numI 1 1000000) (numI 0 6)) (seqR (numR o) (numR (o + 1))) :=
      (OrdR.one ((cutr_num (HV1.out.later k1')).weak (fun _ _ => trivial) (fun _ _ _ _ _ _ h => h))).app (cutr_num (HV2.out.later k2')) (sound_num o) (sound_num (o + 1)) (fun b r x h => (codec_num 1 1000000 (by omega) (by omega)).size h) (fun _ _ _ _ _ _ _ _ => trivial)
    have ord2 : OrdR Try.prog t n [.func (.func k1) #[] env1, .func (.func k2) #[] env2, .func (.func k3) #[] env3] w5 (fun f => f (o + 2 + 2) = .slice none 0 0 ∧ f (o + 5) = .slice none 0 0) (seqSp (seqSp (numI 1 1000000) (numI 0 6)) certI) (blockR1 o) :=
      ord1.app (HV3.out.later k3') ((sound_num o).seq (sound_num (o + 1))) (sound_cert (o + 2)) (fun b r x h => ((codec_num 1 1000000 (by omega) (by omega)).seq (codec_num 0 6 (by omega) (by omega))).size h) (fun d w lo hi f g hp hg => by
        obtain ⟨g1, h1, h2⟩ := hg
        rw [show g = put g1 (o + 1) _ from h2, show g1 = put f o _ from h1, put_ne (by omega), put_ne (by omega)]; exact hp.1)
    have prov : ProvR Try.prog t n (.func (.func 81) #[] #[.pointer (some ⟨w3.heap.size, 0, none⟩)]) w5 (fun f => f (o + 2 + 2) = .slice none 0 0 ∧ f (o + 5) = .slice none 0 0) (seqSp (seqSp (numI 1 1000000) (numI 0 6)) certI) (blockR1 o) (fun x => decide (x.2.1.1 < x.1.1)) := by
      rintro d f f' lo hi b wx ⟨b0, r0, hA⟩ hk hhi hblk hp hR
      obtain ⟨sv, hf', hS⟩ := blockR1_cells hR
      refine provided_call 68 #[.pointer (some ⟨bc, 0, none⟩)] w3.heap.size b (decide (d.2.1.1 < d.1.1)) wx (keep_cell2 (keep_cell2 HV4.out (by omega) k4') (by omega) hk) ?_
      refine block1_call bc t o d.1.1 d.2.1.1 wx (keep_cell2 (keep_cell2 hst.2 (by omega) ((keep_of_below HB1.out (Nat.le_refl _) t).trans k1')) (by omega) hk) ?_ ?_
      · have := hblk.get o (by have := HO.out; omega)
        rw [this, hf', put_ne (by omega), put_ne (by omega), put_ne (by omega), put_ne (by omega), put_self]
      · have := hblk.get (o + 2) (by have := HO.out; omega)
        rw [this, hf', put_ne (by omega), put_ne (by omega), put_self]
    have ord3 := (ord2.prov prov (sound_block1 o)).app (HV6.out.later k6') (sound_block1 o) (sound_list (sound_req 0)) (fun b r x h => ((((codec_num 1 1000000 (by omega) (by omega)).seq (codec_num 0 6 (by omega) (by omega))).seq codec_cert).filt (fun x => decide (x.2.1.1 < x.1.1))).size h) (fun d w lo hi f g hp hg => by
        obtain ⟨sv, hf', hS⟩ := blockR1_cells hg
        rw [hf', put_ne (by omega), put_ne (by omega), put_ne (by omega), put_ne (by omega), put_ne (by omega)]; exact hp.2)
    have hto := Lib.hid (order_cutR (cap := 5) (bx := W4.heap.size) ord3 (InRow_keep hrow (by omega) (by omega) k5) HV5.out (by omega) (by have := HB5.out.size; omega) (by omega) (by simp))
    have hbel : Hid (Below w.heap.size w w5) := by
      have e0 : Below w.heap.size w w0.drew := B0.out.drew
      have e1 := e0.trans (HB1.out.mono e0.size)
      have e2 := e1.trans (HB2.out.mono e1.size)
      have e3 := e2.trans (HB3.out.mono e2.size)
      have e4 := e3.trans (HB4.out.mono e3.size)
      have e6 := e4.trans (HB6.out.mono e4.size)
      have e5 := e6.trans (b4.mono e6.size)
      exact Lib.hid (e5.trans (HB5.out.mono e5.size))
    rw [z4] at hto
    clear hrow k6' k5 k4' k3' k2' k1' hW4 b4 ord1 ord2 ord3 prov
    go_wp2_with fail
    go_ret
    exact ⟨_, _, rfl, hbel.out, hto.out⟩
theorem own_block : Own Try.prog 51 := ⟨_, Try.func51, by kernel_rfl, by kernel_rfl⟩
end Go.Proofs.Ytphlpgdbngbplaa
end
section
open Go Go.RowKit
namespace WW
open BB
def zB : Nat → Value := fun i => if i = 0 then .int .i64 0 else if i = 1 then .int .i64 0 else if i = 2 then .int .i64 0 else if i = 3 then .string ⟨#[]⟩ else if i = 4 then .slice none 0 0 else .slice none 0 0
theorem zB_row : #[.int .i64 0, .int .i64 0, .int .i64 0, .string ⟨#[]⟩, .slice none 0 0, .slice none 0 0] = row 6 zB := by rfl
/-- three of them beside each other -/
structure ThreeB (w0 : World) (a : Nat) (w : World) : Prop where
  below : Below w0.heap.size w0 w
  ra : Blk w a 6 zB
  rx : Blk w (a + 1) 6 zB
  rn : Blk w (a + 1 + 1) 6 zB
theorem threeB_mk (w : World) (a : Nat) (ha : w.heap.size = a) (t : TypeId) : ThreeB w a (((w.alloc (.cells #[.int .i64 0, .int .i64 0, .int .i64 0, .string ⟨#[]⟩, .slice none 0 0, .slice none 0 0] t)).alloc (.cells #[.int .i64 0, .int .i64 0, .int .i64 0, .string ⟨#[]⟩, .slice none 0 0, .slice none 0 0] t)).alloc (.cells #[.int .i64 0, .int .i64 0, .int .i64 0, .string ⟨#[]⟩, .slice none 0 0, .slice none 0 0] t)) := by
  have b1 := (Below.refl w.heap.size w).alloc (Nat.le_refl _) (.cells #[.int .i64 0, .int .i64 0, .int .i64 0, .string ⟨#[]⟩, .slice none 0 0, .slice none 0 0] t)
  have b2 := b1.alloc b1.size (.cells #[.int .i64 0, .int .i64 0, .int .i64 0, .string ⟨#[]⟩, .slice none 0 0, .slice none 0 0] t)
  exact ⟨b2.alloc b2.size _, ((Blk.new' (by omega) zB_row).alloc _).alloc _, (Blk.new' (by simp; omega) zB_row).alloc _, Blk.new' (by simp; omega) zB_row⟩
theorem ThreeB.on {w0 w w' : World} {a : Nat} (h : ThreeB w0 a w) (hb : Below w.heap.size w w') : ThreeB w0 a w' :=
  ⟨h.below.trans (hb.mono h.below.size), h.ra.below hb h.ra.lt, h.rx.below hb h.rx.lt, h.rn.below hb h.rn.lt⟩
theorem setB {w : World} {a : Nat} {f : Nat → Value} (h : Blk w a 6 f) (u0 u1 u2 u3 u4 u5 : Value) :
    (((((((w.setCell ⟨a, 0, none⟩ u0).setCell ⟨a, 1, none⟩ u1).setCell ⟨a, 2, none⟩ u2).setCell ⟨a, 3, none⟩ u3).setCell ⟨a, 4, none⟩ u4).setCell ⟨a, 5, none⟩ u5).cell? ⟨a, 0, none⟩ = some u0 ∧ ((((((w.setCell ⟨a, 0, none⟩ u0).setCell ⟨a, 1, none⟩ u1).setCell ⟨a, 2, none⟩ u2).setCell ⟨a, 3, none⟩ u3).setCell ⟨a, 4, none⟩ u4).setCell ⟨a, 5, none⟩ u5).cell? ⟨a, 1, none⟩ = some u1 ∧ ((((((w.setCell ⟨a, 0, none⟩ u0).setCell ⟨a, 1, none⟩ u1).setCell ⟨a, 2, none⟩ u2).setCell ⟨a, 3, none⟩ u3).setCell ⟨a, 4, none⟩ u4).setCell ⟨a, 5, none⟩ u5).cell? ⟨a, 2, none⟩ = some u2 ∧ ((((((w.setCell ⟨a, 0, none⟩ u0).setCell ⟨a, 1, none⟩ u1).setCell ⟨a, 2, none⟩ u2).setCell ⟨a, 3, none⟩ u3).setCell ⟨a, 4, none⟩ u4).setCell ⟨a, 5, none⟩ u5).cell? ⟨a, 3, none⟩ = some u3 ∧ ((((((w.setCell ⟨a, 0, none⟩ u0).setCell ⟨a, 1, none⟩ u1).setCell ⟨a, 2, none⟩ u2).setCell ⟨a, 3, none⟩ u3).setCell ⟨a, 4, none⟩ u4).setCell ⟨a, 5, none⟩ u5).cell? ⟨a, 4, none⟩ = some u4 ∧ ((((((w.setCell ⟨a, 0, none⟩ u0).setCell ⟨a, 1, none⟩ u1).setCell ⟨a, 2, none⟩ u2).setCell ⟨a, 3, none⟩ u3).setCell ⟨a, 4, none⟩ u4).setCell ⟨a, 5, none⟩ u5).cell? ⟨a, 5, none⟩ = some u5) ∧ Upd a w ((((((w.setCell ⟨a, 0, none⟩ u0).setCell ⟨a, 1, none⟩ u1).setCell ⟨a, 2, none⟩ u2).setCell ⟨a, 3, none⟩ u3).setCell ⟨a, 4, none⟩ u4).setCell ⟨a, 5, none⟩ u5) := by
  have k := ((((((h.set 0 u0).set 1 u1).set 2 u2).set 3 u3).set 4 u4).set 5 u5)
  exact ⟨⟨k.get 0 (by omega), k.get 1 (by omega), k.get 2 (by omega), k.get 3 (by omega), k.get 4 (by omega), k.get 5 (by omega)⟩, ((((((Upd.refl a w).trans (Upd.set _ _ _ _)).trans (Upd.set _ _ _ _)).trans (Upd.set _ _ _ _)).trans (Upd.set _ _ _ _)).trans (Upd.set _ _ _ _)).trans (Upd.set _ _ _ _)⟩
/-- all of it is read -/
def blockRd (b : ByteArray) : Option BlockD :=
  match blockI b with
  | none => none
  | some (r, d) => if r.size = 0 then some d else none
end WW
namespace Go.Proofs.Ytphlpgdbngbplaa
open WW BB
/-- what is answered -/
def BlockAns (w : World) (x : Option BlockD) (e : Ending) (w' : World) : Prop :=
  match x with
  | none => e = .returned (.tuple #[.agg #[.int .i64 0, .int .i64 0, .int .i64 0, .string ⟨#[]⟩, .slice none 0 0, .slice none 0 0], .int .i64 2])
  | some d => ∃ f' lo hi, e = .returned (.tuple #[.agg #[f' 0, f' 1, f' 2, f' 3, f' 4, f' 5], .int .i64 0]) ∧ w.heap.size ≤ lo ∧ hi ≤ w'.heap.size ∧ blockR 0 d w' lo hi zB f'
end Go.Proofs.Ytphlpgdbngbplaa
end
section
open Go Go.RowKit
namespace WW
open BB
theorem few_flat {k : ByteArray} {l : List (Int × List ByteArray)} {m : List (Int × Int × ByteArray)} (h : fewBlock k l m = true) : (flat (sigsB l)).length ≤ 3080 ∧ (flat (reqsB m)).length ≤ 432 := by
  unfold fewBlock at h
  rw [Bool.and_eq_true, Bool.and_eq_true] at h
  obtain ⟨h1, h2, h3⟩ := h
  unfold fewCert at h3
  simp only [Bool.and_eq_true, decide_eq_true_eq, List.all_eq_true] at h1 h2 h3
  obtain ⟨h4, h5, h6⟩ := h3
  rw [List.take_of_length_le (by omega)] at h1 h4
  constructor
  · have := flat_le 308 (sigsB l) (fun x hx => by
      unfold sigsB at hx
      obtain ⟨p, hp, rfl⟩ := List.mem_map.1 hx
      have h4 := fewsig_flat p.2 (h4 p hp)
      show (num p.1 ++ listB p.2).size ≤ 308
      rw [ByteArray.size_append, flat_size, num_size]
      omega)
    have e : (sigsB l).length = l.length := by unfold sigsB; rw [List.length_map]
    omega
  · have := flat_le 72 (reqsB m) (fun x hx => by
      unfold reqsB at hx
      obtain ⟨p, hp, rfl⟩ := List.mem_map.1 hx
      have h4 := h1 p hp
      rw [reqB_size]; omega)
    have e : (reqsB m).length = m.length := by unfold reqsB; rw [List.length_map]
    omega
theorem blockRd_some {b r : ByteArray} {d : BlockD} (h : blockI b = some (r, d)) (h0 : r.size = 0) : blockRd b = some d := by unfold blockRd; rw [h]; exact if_pos h0
theorem blockRd_put {c : BlockD} (h : blockOk c) : blockRd (blockD c) = some c := by
  have := codec_block.put c ⟨#[]⟩ h
  rw [ba_nil] at this
  exact blockRd_some this rfl
theorem blockRd_sound {b : ByteArray} {c : BlockD} (h : blockRd b = some c) : b = blockD c ∧ blockOk c := by
  unfold blockRd at h
  rcases h1 : blockI b with _ | ⟨r, d⟩
  · rw [h1] at h; cases h
  rw [h1] at h
  dsimp only at h
  split at h
  · rename_i h0
    injection h with h
    subst h
    obtain ⟨e1, e2⟩ := codec_block.sound _ _ _ h1
    exact ⟨by rw [e1, nil_size r h0, ba_nil], e2⟩
  · cases h
theorem right_smallB {v p cv : Int} {k : ByteArray} {l : List (Int × List ByteArray)} {m : List (Int × Int × ByteArray)} (h : rightBlock v p cv k l m = true) : SmallS l ∧ SmallR m ∧ k.size = 32 ∧ MemS l ∧ m.length ≤ 3 := by
  unfold rightBlock at h
  simp only [Bool.and_eq_true, decide_eq_true_eq, List.all_eq_true] at h
  obtain ⟨⟨_, _, _, _, h5, _, h7⟩, h8⟩ := h
  obtain ⟨a1, a2, a3, a4⟩ := right_small h5
  refine ⟨a1, ⟨by omega, ?_, fun i hi => ?_⟩, a2, a4, h7⟩
  · have := flat_le 72 (reqsB m) (fun x hx => by
      unfold reqsB at hx
      obtain ⟨p, hp, rfl⟩ := List.mem_map.1 hx
      have h4 := (h8 p hp).2.2.2.2
      rw [reqB_size]; omega)
    have e : (reqsB m).length = m.length := by unfold reqsB; rw [List.length_map]
    omega
  · have := (h8 _ (show m.getD i (0, 0, ⟨#[]⟩) ∈ m by rw [List.getD_eq_getElem?_getD, List.getElem?_eq_getElem hi]; exact List.getElem_mem hi)).2.2.2.2
    omega
theorem two6_on {w w5 w1 w2 : World} {g y : Nat} {v0 v1 v2 v3 v4 v5 : Value} {cs : List Value} (h : w1.cell? ⟨g, 0, none⟩ = some v0 ∧ w1.cell? ⟨g, 1, none⟩ = some v1 ∧ w1.cell? ⟨g, 2, none⟩ = some v2 ∧ w1.cell? ⟨g, 3, none⟩ = some v3 ∧ w1.cell? ⟨g, 4, none⟩ = some v4 ∧ w1.cell? ⟨g, 5, none⟩ = some v5 ∧ BoxAt w g [v0, v1, v2, v3, v4, v5] w1 ∧ BoxAt w5 y cs w1) (hb : Below w1.heap.size w1 w2) :
    w2.cell? ⟨g, 0, none⟩ = some v0 ∧ w2.cell? ⟨g, 1, none⟩ = some v1 ∧ w2.cell? ⟨g, 2, none⟩ = some v2 ∧ w2.cell? ⟨g, 3, none⟩ = some v3 ∧ w2.cell? ⟨g, 4, none⟩ = some v4 ∧ w2.cell? ⟨g, 5, none⟩ = some v5 ∧ BoxAt w g [v0, v1, v2, v3, v4, v5] w2 ∧ BoxAt w5 y cs w2 :=
  have k := h.2.2.2.2.2.2.1.on hb
  ⟨k.cell 0 _ rfl, k.cell 1 _ rfl, k.cell 2 _ rfl, k.cell 3 _ rfl, k.cell 4 _ rfl, k.cell 5 _ rfl, k, h.2.2.2.2.2.2.2.on hb⟩
end WW
namespace Go.Proofs.Ytphlpgdbngbplaa
open WW BB
theorem blockans_some {w w' : World} {d : BlockD} {e : Ending} (h : BlockAns w (some d) e w') : ∃ sv rv, e = .returned (.tuple #[.agg #[.int .i64 d.1.1.1, .int .i64 d.1.1.2, .int .i64 d.1.2.1.1, .string d.1.2.1.2, sv, rv], .int .i64 0]) ∧ SigsAt w' sv d.1.2.2 ∧ ReqsAt w' rv d.2 := by
  obtain ⟨f', lo, hi, rfl, _, _, hR⟩ := h
  obtain ⟨sv, rv, hf, hsv, hrv⟩ := blockR_cells hR
  refine ⟨sv, rv, ?_, hsv, hrv⟩
  rw [hf]; rfl
set_option maxRecDepth 100000 in
theorem zeroblock_zero (w : World) : Calls Try.prog 20 #[.agg #[.int .i64 0, .int .i64 0, .int .i64 0, .string ⟨#[]⟩, .slice none 0 0, .slice none 0 0]] w fun e w' => e = .returned (.bool true) ∧ Below w.heap.size w w' := by
  go_enter Try.func20, Try.ntmps20
  go_wp2_with fail
  have k := box_mk w [.int .i64 0, .int .i64 0, .int .i64 0, .string ⟨#[]⟩, .slice none 0 0, .slice none 0 0] 35
  have K := Lib.hid (show BoxAt w w.heap.size [.int .i64 0, .int .i64 0, .int .i64 0, .string ⟨#[]⟩, .slice none 0 0, .slice none 0 0] (w.alloc (.cells #[.int .i64 0, .int .i64 0, .int .i64 0, .string ⟨#[]⟩, .slice none 0 0, .slice none 0 0] 35)) from k)
  clear k
  generalize w.alloc (.cells #[.int .i64 0, .int .i64 0, .int .i64 0, .string ⟨#[]⟩, .slice none 0 0, .slice none 0 0] 35) = w0 at *
  refine (zerocert_zero _).mono ?_
  rintro e w1 ⟨rfl, hb1⟩
  have K := Lib.hid (K.out.on hb1)
  have c5 := K.out.cell 5 _ rfl
  clear hb1
  go_wp2_with fail
  go_ret
  exact ⟨rfl, K.out.below⟩
end Go.Proofs.Ytphlpgdbngbplaa
end
section
open Go Go.RowKit
namespace WW
open BB
section
variable {α : Type} {A : ByteArray → Option (ByteArray × α)} {ea : α → ByteArray} {oa : α → Prop}
/-- a part: a mark, 0 where nothing is; 1, and the thing, that isn't zero -/
def partSp (nz : α → Bool) (A : ByteArray → Option (ByteArray × α)) (b : ByteArray) : Option (ByteArray × Option α) :=
  if b.size = 0 then none
  else if b.data.toList.getD 0 0 = 0 then some (b.extract 1 b.size, none)
  else if b.data.toList.getD 0 0 = 1 then mapSp some (filtSp A nz) (b.extract 1 b.size)
  else none
def encPart (ea : α → ByteArray) : Option α → ByteArray
  | none => ⟨#[0]⟩
  | some a => ⟨#[1]⟩ ++ ea a
def okPart (nz : α → Bool) (oa : α → Prop) : Option α → Prop
  | none => True
  | some a => oa a ∧ nz a = true
theorem one_list (x : UInt8) (r : ByteArray) : ((⟨#[x]⟩ : ByteArray) ++ r).data.toList = x :: r.data.toList := by rw [ByteArray.data_append, Array.toList_append]; rfl
theorem one_size (x : UInt8) (r : ByteArray) : ((⟨#[x]⟩ : ByteArray) ++ r).size = 1 + r.size := by rw [ByteArray.size_append]; rfl
theorem one_drop (x : UInt8) (r : ByteArray) : ((⟨#[x]⟩ : ByteArray) ++ r).extract 1 ((⟨#[x]⟩ : ByteArray) ++ r).size = r := by
  apply ba_ext
  have hr := ba_list r
  rw [ByteArray.data_extract, Array.toList_extract, one_list, one_size, List.extract_eq_take_drop]
  show List.take (1 + r.size - 1) r.data.toList = r.data.toList
  exact List.take_of_length_le (by omega)
theorem one_split (b : ByteArray) (x : UInt8) (h0 : b.size ≠ 0) (hx : b.data.toList.getD 0 0 = x) : b = ⟨#[x]⟩ ++ b.extract 1 b.size := by
  apply ba_ext
  have hl := ba_list b
  rw [one_list, ByteArray.data_extract, Array.toList_extract, List.extract_eq_take_drop]
  rcases hb : b.data.toList with _ | ⟨y, t⟩
  · rw [hb] at hl; simp at hl; omega
  · rw [hb] at hx hl
    have hy : y = x := by simpa using hx
    subst hy
    simp only [List.drop_succ_cons, List.drop_zero]
    rw [List.take_of_length_le (by simp at hl; omega)]
theorem Codec.part (h : Codec A ea oa) (nz : α → Bool) : Codec (partSp nz A) (encPart ea) (okPart nz oa) where
  put := fun x r hx => by
    rcases x with _ | a
    · unfold partSp encPart
      rw [if_neg (by rw [one_size]; omega), if_pos (by rw [one_list]; rfl), one_drop]
    · have e : encPart ea (some a) ++ r = ⟨#[1]⟩ ++ (ea a ++ r) := by unfold encPart; rw [ByteArray.append_assoc]
      rw [e]
      unfold partSp
      rw [if_neg (by rw [one_size]; omega), if_neg (by rw [one_list]; show ¬ (1 : UInt8) = 0; decide), if_pos (by rw [one_list]; rfl), one_drop]
      exact map_some ((h.filt nz).put a r hx)
  sound := fun b r x hb => by
    unfold partSp at hb
    split at hb
    · cases hb
    · rename_i h0
      split at hb
      · rename_i hm
        injection hb with hb
        injection hb with h1 h2
        subst h2
        exact ⟨by rw [← h1]; exact one_split b 0 h0 hm, trivial⟩
      · split at hb
        · rename_i hm
          obtain ⟨a, h1, rfl⟩ := map_inv hb
          obtain ⟨e, o1, o2⟩ := (h.filt nz).sound _ _ _ h1
          refine ⟨?_, o1, o2⟩
          have := one_split b 1 h0 hm
          rw [e] at this
          rw [this]; unfold encPart; rw [ByteArray.append_assoc]
        · cases hb
end
theorem codec_text (fits : Nat → Bool) : Codec (textSp fits) txt (fun s => fits s.size = true ∧ s.size ≤ 2147483647) where
  put := fun s r h => by rw [textSp_put fits s r h.2, if_pos h.1]
  sound := fun b r s h => by
    obtain ⟨h1, h2, h3⟩ := textSp_sound h
    exact ⟨h1, h2, h3⟩
/-- a part, or nothing -/
def partR {α : Type} (R : RelT α) : RelT (Option α) := fun x w lo hi f f' => match x with | none => f' = f | some d => R d w lo hi f f'
theorem sound_part {α : Type} {R : RelT α} (h : SoundR R) : SoundR (partR R) :=
  ⟨fun {d} _ _ _ _ _ _ hr hk => by cases d with | none => exact hr | some d => exact h.keep hr hk, fun {d} _ _ _ _ _ _ _ hr hl hh => by cases d with | none => exact hr | some d => exact h.wide hr hl hh⟩
/-- what isn't zero -/
def nzB (x : BlockD) : Bool := !(decide (x.1.1.1 = 0) && (decide (x.1.1.2 = 0) && (decide (x.1.2.1.1 = 0) && (decide (x.1.2.1.2.size = 0) && (decide (x.1.2.2.length = 0) && decide (x.2.length = 0))))))
def nzC (c : CertD) : Bool := !(decide (c.1.1 = 0) && (decide (c.1.2.size = 0) && decide (c.2.length = 0)))
def nzS (s : Int × List ByteArray) : Bool := !(decide (s.1 = 0) && decide (s.2.length = 0))
def nzR (r : Int × Int × ByteArray) : Bool := !(decide (r.1 = 0) && (decide (r.2.1 = 0) && decide (r.2.2.size = 0)))
def sigD (s : Int × List ByteArray) : ByteArray := sigB s.1 s.2
def reqD (r : Int × Int × ByteArray) : ByteArray := reqB r.1 r.2.1 r.2.2
def sigOk (s : Int × List ByteArray) : Prop := rightSig s.1 s.2 = true
def reqOk (r : Int × Int × ByteArray) : Prop := rightR r.1 r.2.1 r.2.2
def fitsH (d : Nat) : Bool := decide (d = 0) || decide (d = 32)
def fitsT (d : Nat) : Bool := decide (d = 0) || decide (d = 16)
abbrev MsgD := (((((((((Int × Int) × Int) × Int) × ByteArray) × Option BlockD) × Option CertD) × Option (Int × List ByteArray)) × Option (Int × Int × ByteArray)) × Int) × ByteArray
/-- a message -/
def msgI : ByteArray → Option (ByteArray × MsgD) :=
  seqSp (seqSp (seqSp (seqSp (seqSp (seqSp (seqSp (seqSp (seqSp (seqSp (numI 1 7) (numI 0 20)) (numI 0 20)) (numI 0 1000000)) (textSp fitsH)) (partSp nzB blockI)) (partSp nzC certI)) (partSp nzS sigI)) (partSp nzR reqI)) (numI 0 2147483647)) (textSp fitsT)
def msgD (m : MsgD) : ByteArray :=
  num m.1.1.1.1.1.1.1.1.1.1 ++ num m.1.1.1.1.1.1.1.1.1.2 ++ num m.1.1.1.1.1.1.1.1.2 ++ num m.1.1.1.1.1.1.1.2 ++ txt m.1.1.1.1.1.1.2 ++ encPart blockD m.1.1.1.1.1.2 ++ encPart certD m.1.1.1.1.2 ++ encPart sigD m.1.1.1.2 ++ encPart reqD m.1.1.2 ++ num m.1.2 ++ txt m.2
def msgOk (m : MsgD) : Prop :=
  ((((((((((1 ≤ m.1.1.1.1.1.1.1.1.1.1 ∧ m.1.1.1.1.1.1.1.1.1.1 ≤ 7) ∧ 0 ≤ m.1.1.1.1.1.1.1.1.1.2 ∧ m.1.1.1.1.1.1.1.1.1.2 ≤ 20) ∧ 0 ≤ m.1.1.1.1.1.1.1.1.2 ∧ m.1.1.1.1.1.1.1.1.2 ≤ 20) ∧ 0 ≤ m.1.1.1.1.1.1.1.2 ∧ m.1.1.1.1.1.1.1.2 ≤ 1000000) ∧ fitsH m.1.1.1.1.1.1.2.size = true ∧ m.1.1.1.1.1.1.2.size ≤ 2147483647) ∧ okPart nzB blockOk m.1.1.1.1.1.2) ∧ okPart nzC certOk m.1.1.1.1.2) ∧ okPart nzS sigOk m.1.1.1.2) ∧ okPart nzR reqOk m.1.1.2) ∧ 0 ≤ m.1.2 ∧ m.1.2 ≤ 2147483647) ∧ fitsT m.2.size = true ∧ m.2.size ≤ 2147483647
theorem codec_msg : Codec msgI msgD msgOk :=
  (((((((((((codec_num 1 7 (by omega) (by omega)).seq (codec_num 0 20 (by omega) (by omega))).seq (codec_num 0 20 (by omega) (by omega))).seq (codec_num 0 1000000 (by omega) (by omega))).seq (codec_text fitsH)).seq (codec_block.part nzB)).seq (codec_cert.part nzC)).seq (codec_sig.part nzS)).seq (codec_req.part nzR)).seq (codec_num 0 2147483647 (by omega) (by omega))).seq (codec_text fitsT))
end WW
end
section
open Go Go.RowKit
namespace Go.Proofs.Ytphlpgdbngbplaa
open WW BB
theorem own_partB : Own Try.prog 66 := ⟨_, Try.func66, by kernel_rfl, by kernel_rfl⟩
set_option maxRecDepth 100000 in
set_option maxHeartbeats 4000000 in
theorem partB_walk {α : Type} (nz : α → Bool) (Sp : ByteArray → Option (ByteArray × α)) (R : RelT α) (Pre : (Nat → Value) → Prop) (t o n p q r kr kz : Nat) (er ez : Array Value) (f : Nat → Value) (b : ByteArray) (w : World) (hb : b.size ≤ 1000000) (ho : o + 5 < n) (ht : Blk w t n f) (hf : Pre f)
    (hrd : ∀ w, t < w.heap.size → CallsV Try.prog (.func (.func kr) #[] er) #[.pointer (some ⟨t, o, none⟩)] w (MakesR Try.prog t n w Pre Sp R))
    (hzr : ∀ d w lo hi g, Pre f → R d w lo hi f g → hi ≤ w.heap.size → CallsV Try.prog (.func (.func kz) #[] ez) #[.agg #[g o, g (o + 1), g (o + 2), g (o + 3), g (o + 4), g (o + 5)]] w fun e w' => e = .returned (.bool (!nz d)) ∧ Below w.heap.size w w')
    (hR : SoundR R)
    (hp : w.cell? ⟨p, 0, none⟩ = some (.func (.func kr) #[] er)) (hq : w.cell? ⟨q, 0, none⟩ = some (.pointer (some ⟨t, o, none⟩))) (hr : w.cell? ⟨r, 0, none⟩ = some (.func (.func kz) #[] ez)) (p1 : p ≠ t) (q1 : q ≠ t) (r1 : r ≠ t) :
    Calls Try.prog 66 #[.string b, .pointer (some ⟨p, 0, none⟩), .pointer (some ⟨q, 0, none⟩), .pointer (some ⟨r, 0, none⟩)] w (Ans (EffR t n w f (partR R) (partSp nz Sp b))) := by
  have HB := Lib.hid hb
  have HO := Lib.hid ho
  have HT := Lib.hid ht
  have HF := Lib.hid hf
  have HRD := Lib.hid hrd
  have HZR := Lib.hid hzr
  have HR := Lib.hid hR
  have PQ := Lib.hid (And.intro p1 (And.intro q1 r1))
  have HP := Lib.hid hp
  have HQ := Lib.hid hq
  have HRR := Lib.hid hr
  clear hb ho ht hf hrd hzr hR p1 q1 r1
  by_cases h0 : b.size = 0
  · have hX : partSp nz Sp b = none := by unfold partSp; rw [if_pos h0]
    rw [hX]
    obtain rfl := nil_size b h0
    clear hX h0 hp hq hr
    go_enter Try.func66, Try.ntmps66
    go_wp2_with fail
    go_ret2
    exact ⟨false, _, rfl, rfl, f, Keep.refl _ _, HT.out⟩
  have n0 : 0 < b.size := by omega
  have g0 : (0 : Int) < (b.size : Int) := by omega
  have g1 : (1 : Int) ≤ (b.size : Int) := by omega
  have hm : b.data.toList.getD 0 0 = b[0] := by
    rw [List.getD_eq_getElem?_getD, List.getElem?_eq_getElem (by rw [ba_list]; exact n0)]; rfl
  have e0 : b.toList.isEmpty = false := by
    rw [ByteArray.toList_eq]
    rcases hl : b.data.toList with _ | ⟨c, l⟩
    · exact absurd (show b.size = 0 by show b.data.size = 0; rw [← Array.length_toList, hl]; rfl) h0
    · rfl
  obtain ⟨c, hc⟩ : ∃ c, b[0] = c := ⟨_, rfl⟩
  rw [hc] at hm
  have HM := Lib.hid hm
  have HC := Lib.hid hc
  have H0 := Lib.hid h0
  clear hm hc h0
  by_cases c0 : c = 0
  · have hX : partSp nz Sp b = some (b.extract 1 b.size, none) := by unfold partSp; rw [if_neg H0.out, if_pos (by rw [HM.out, c0])]
    rw [hX]
    have t0 : ((b[0].toNat : Int) == 0) = true := by rw [HC.out, c0]; rfl
    clear c0 hX hp hq hr
    go_enter Try.func66, Try.ntmps66
    go_wp2_with fail
    go_ret2
    exact ⟨true, _, rfl, rfl, rfl, f, Keep.refl _ _, HT.out, rfl⟩
  have t0 : ((b[0].toNat : Int) == 0) = false := by
    rw [beq_eq_false_iff_ne, HC.out]
    intro h
    exact c0 (UInt8.toNat_inj.1 (by simpa using h))
  by_cases c1 : c = 1
  rotate_left
  · have t1 : ((b[0].toNat : Int) == 1) = false := by
      rw [beq_eq_false_iff_ne, HC.out]
      intro h
      exact c1 (UInt8.toNat_inj.1 (by have : c.toNat = 1 := by omega
                                      rw [this]; rfl))
    have hX : partSp nz Sp b = none := by unfold partSp; rw [if_neg H0.out, if_neg (by rw [HM.out]; exact c0), if_neg (by rw [HM.out]; exact c1)]
    rw [hX]
    clear c0 c1 hX hp hq hr
    go_enter Try.func66, Try.ntmps66
    go_wp2_with fail
    go_ret2
    exact ⟨false, _, rfl, rfl, f, Keep.refl _ _, HT.out⟩
  have t1 : ((b[0].toNat : Int) == 1) = true := by rw [HC.out, c1]; rfl
  have hX : partSp nz Sp b = mapSp some (filtSp Sp nz) (b.extract 1 b.size) := by unfold partSp; rw [if_neg H0.out, if_neg (by rw [HM.out]; exact c0), if_pos (by rw [HM.out]; exact c1)]
  rw [hX]
  obtain ⟨b1, hb1⟩ : ∃ b1, b.extract 1 b.size = b1 := ⟨_, rfl⟩
  have HB1 := Lib.hid (show b1.size ≤ 1000000 by rw [← hb1]; have := HB.out; simp; omega)
  have HBE := Lib.hid hb1
  rw [hb1]
  obtain ⟨X, hXX⟩ : ∃ X, mapSp some (filtSp Sp nz) b1 = X := ⟨_, rfl⟩
  rw [hXX]
  have HX := Lib.hid hXX
  clear c0 c1 hX hb1 hXX
  go_enter Try.func66, Try.ntmps66
  go_upto_region 7 with fail
  refine two_callv (a1 := ?a1) [0, 1, 3, 4] [6, 7, 8, 9, 10] 2 5 _ _ 22 25 (.tmp 20) (.tmp 22) _ _ _ _ (fun w' => w'.cell? ⟨p, 0, none⟩ = some (.func (.func kr) #[] er) ∧ w'.cell? ⟨q, 0, none⟩ = some (.pointer (some ⟨t, o, none⟩)) ∧ w'.cell? ⟨r, 0, none⟩ = some (.func (.func kz) #[] ez)) (.func (.func kr) #[] er) #[.pointer (some ⟨t, o, none⟩)] #[.string b1] _ (fun _ w1 e w' => Ans (EffR t n w1 f R (Sp b1)) e w') (by kernel_rfl) (by kernel_rfl) (fun _ _ d _ _ h => by cases d <;> exact h) rfl rfl ⟨rfl, rfl⟩ rfl rfl rfl rfl ⟨hp, hq, hr⟩ ?hread ?hx1 ?ha1 (HRD.out _ HT.out.lt) (fun _ _ ⟨_, _, h, _⟩ => ⟨_, h⟩) ?h2
  case hread =>
    simp only [pick, List.filterMap, List.getElem?_toArray, List.getElem?_cons_zero, List.getElem?_cons_succ]
    iterate 4 (refine heldg_run ?_ rfl ?_ ?_; rotate_left; (focus (intro w' hS; obtain ⟨s0, s1, s2⟩ := hS; go_simp; exact rfl)); simp only [Act.put, List.setIfInBounds_toArray, List.set_cons_zero, List.set_cons_succ])
    exact rfl
  case hx1 => rfl
  case ha1 => simp [Act.eval]
  case h2 =>
  rintro u w1 ⟨k2, env2, hu, hb2, hcv⟩
  injection hu with hu
  subst hu
  have s1 := And.intro (keep_cell HP.out (((Below.refl w.heap.size w).drew).trans hb2)) (And.intro (keep_cell HQ.out (((Below.refl w.heap.size w).drew).trans hb2)) (keep_cell HRR.out (((Below.refl w.heap.size w).drew).trans hb2)))
  refine ⟨s1, ⟨rfl, ?ha2⟩, hcv f b1 w1 HB1.out (Keep.refl _ _) (HT.out.below (((Below.refl w.heap.size w).drew).trans hb2) HT.out.lt) HF.out, Ans.ret, ?_⟩
  case ha2 => simp [Act.eval, Act.put, HBE.out]
  rintro u2 w2 ⟨ok, rr, hu2, he⟩
  injection hu2 with hu2
  subst hu2
  have B1 := Lib.hid (((Below.refl w.heap.size w).drew).trans hb2)
  unfold EffR at he
  rcases hsp : Sp b1 with _ | ⟨r', d⟩
  · rw [hsp] at he
    obtain ⟨rfl, f', k2', d2⟩ := he
    have hX : X = none := by rw [← HX.out, map_none (filt_none hsp)]
    have HXN := Lib.hid hX
    have s2 := And.intro (keep_cell2 s1.1 PQ.out.1 k2') (And.intro (keep_cell2 s1.2.1 PQ.out.2.1 k2') (keep_cell2 s1.2.2 PQ.out.2.2 k2'))
    refine ⟨s2, ?_⟩
    have K2 := Lib.hid ((keep_of_below B1.out (Nat.le_refl _) t).trans k2')
    have D2 := Lib.hid d2
    clear hX hsp k2' d2 hcv s1 hb2 hp hq hr
    simp only [pick, List.filterMap, List.getElem?_toArray, List.getElem?_cons_zero, List.getElem?_cons_succ, Act.put, List.setIfInBounds_toArray, List.set_cons_zero, List.set_cons_succ]
    iterate 5 (refine heldg_run ?_ rfl ?_ ?_; rotate_left; (focus (intro w' hS; obtain ⟨s0, s1, s2⟩ := hS; go_simp; exact rfl)); simp only [Act.put, List.setIfInBounds_toArray, List.set_cons_zero, List.set_cons_succ])
    refine heldg_nil ?_
    clear s2
    go_wp2_with fail
    go_quiet (fail)
    go_wp2_with fail
    go_ret2
    refine ⟨false, _, rfl, ?_⟩
    rw [HXN.out]
    exact ⟨rfl, f', K2.out.trans (keep_of_below (below_drewN (Below.refl w2.heap.size w2) _) (Nat.le_refl _) t), D2.out.below (below_drewN (Below.refl w2.heap.size w2) _) D2.out.lt⟩
  · rw [hsp] at he
    obtain ⟨rfl, rfl, g, k2', d2, hR⟩ := he
    have s2 := And.intro (keep_cell2 s1.1 PQ.out.1 k2') (And.intro (keep_cell2 s1.2.1 PQ.out.2.1 k2') (keep_cell2 s1.2.2 PQ.out.2.2 k2'))
    refine ⟨s2, ?_⟩
    have K2 := Lib.hid ((keep_of_below B1.out (Nat.le_refl _) t).trans k2')
    have D2 := Lib.hid d2
    have HRR2 := Lib.hid hR
    have HSP := Lib.hid hsp
    have S2 := Lib.hid s2
    have W1 := Lib.hid B1.out.size
    clear hsp k2' d2 hcv s1 hb2 hp hq hr hR
    simp only [pick, List.filterMap, List.getElem?_toArray, List.getElem?_cons_zero, List.getElem?_cons_succ, Act.put, List.setIfInBounds_toArray, List.set_cons_zero, List.set_cons_succ]
    iterate 5 (refine heldg_run ?_ rfl ?_ ?_; rotate_left; (focus (intro w' hS; obtain ⟨s0, s1, s2⟩ := hS; go_simp; exact rfl)); simp only [Act.put, List.setIfInBounds_toArray, List.set_cons_zero, List.set_cons_succ])
    refine heldg_nil ?_
    clear s2
    go_upto_region 8 with fail
    have x0 : w2.cell? ⟨t, o, none⟩ = some (g o) := D2.out.get o (by have := HO.out; omega)
    have x1 : w2.cell? ⟨t, o + 1, none⟩ = some (g (o + 1)) := D2.out.get (o + 1) (by have := HO.out; omega)
    have x2 : w2.cell? ⟨t, o + 2, none⟩ = some (g (o + 2)) := D2.out.get (o + 2) (by have := HO.out; omega)
    have x3 : w2.cell? ⟨t, o + 3, none⟩ = some (g (o + 3)) := D2.out.get (o + 3) (by have := HO.out; omega)
    have x4 : w2.cell? ⟨t, o + 4, none⟩ = some (g (o + 4)) := D2.out.get (o + 4) (by have := HO.out; omega)
    have x5 : w2.cell? ⟨t, o + 5, none⟩ = some (g (o + 5)) := D2.out.get (o + 5) (by have := HO.out; omega)
    refine one_callv (a1 := ?a8) [0, 1, 2, 3, 4, 5, 6] [8, 9, 10, 11] 7 _ 35 (.tmp 31) _ _ (.func (.func kz) #[] ez) #[.agg #[g o, g (o + 1), g (o + 2), g (o + 3), g (o + 4), g (o + 5)]] _ (fun w' => w'.cell? ⟨p, 0, none⟩ = some (.func (.func kr) #[] er) ∧ w'.cell? ⟨q, 0, none⟩ = some (.pointer (some ⟨t, o, none⟩)) ∧ w'.cell? ⟨r, 0, none⟩ = some (.func (.func kz) #[] ez) ∧ w'.cell? ⟨t, o, none⟩ = some (g o) ∧ w'.cell? ⟨t, o + 1, none⟩ = some (g (o + 1)) ∧ w'.cell? ⟨t, o + 2, none⟩ = some (g (o + 2)) ∧ w'.cell? ⟨t, o + 3, none⟩ = some (g (o + 3)) ∧ w'.cell? ⟨t, o + 4, none⟩ = some (g (o + 4)) ∧ w'.cell? ⟨t, o + 5, none⟩ = some (g (o + 5))) (by kernel_rfl) (by kernel_rfl) (fun _ _ d _ _ h => by cases d <;> exact h) rfl rfl rfl ⟨S2.out.1, S2.out.2.1, S2.out.2.2, x0, x1, x2, x3, x4, x5⟩ ?hread8 ?hgc8 ?hx8 ?has8 ((HZR.out d w2.drew w1.heap.size w2.heap.size g HF.out (HR.out.keep HRR2.out fun _ _ _ => rfl) (Nat.le_refl _))) (fun _ _ ⟨h, _⟩ => ⟨_, h⟩) ?ht8
    case hread8 =>
      simp only [pick, List.filterMap, List.getElem?_toArray, List.getElem?_cons_zero, List.getElem?_cons_succ]
      iterate 7 (refine heldg_run ?_ rfl ?_ ?_; rotate_left; (focus (intro w' hS; obtain ⟨s0, s1, s2, y0, y1, y2, y3, y4, y5⟩ := hS; go_simp; exact rfl)); simp only [Act.put, List.setIfInBounds_toArray, List.set_cons_zero, List.set_cons_succ])
      exact rfl
    case hgc8 => rfl
    case hx8 => rfl
    case has8 => simp [Act.eval]
    case ht8 =>
    rintro u w8 ⟨hu, hb8⟩
    injection hu with hu
    subst hu
    have B8 := Lib.hid ((Below.refl w2.heap.size w2).drew.trans hb8)
    refine ⟨⟨cell_b S2.out.1 B8.out, cell_b S2.out.2.1 B8.out, cell_b S2.out.2.2 B8.out, cell_b x0 B8.out, cell_b x1 B8.out, cell_b x2 B8.out, cell_b x3 B8.out, cell_b x4 B8.out, cell_b x5 B8.out⟩, ?_⟩
    have K8 := Lib.hid (K2.out.trans (keep_of_below B8.out (Nat.le_refl _) t))
    have D8 := Lib.hid (D2.out.below B8.out D2.out.lt)
    have HR8 := Lib.hid (HR.out.wide (HR.out.keep HRR2.out fun c h1 h2 => B8.out.block c h2) W1.out B8.out.size)
    clear hb8 x0 x1 x2 x3 x4 x5
    rcases hn : nz d with _ | _
    · have hX : X = none := by rw [← HX.out, map_none]; rw [filt_some HSP.out, hn, if_neg (by simp)]
      have HXN := Lib.hid hX
      clear hX hn
      simp only [pick, List.filterMap, List.getElem?_toArray, List.getElem?_cons_zero, List.getElem?_cons_succ, Act.put, List.setIfInBounds_toArray, List.set_cons_zero, List.set_cons_succ]
      iterate 4 (refine heldg_run ?_ rfl ?_ ?_; rotate_left; (focus (intro w' hS; obtain ⟨s0, s1, s2, y0, y1, y2, y3, y4, y5⟩ := hS; go_simp; exact rfl)); simp only [Act.put, List.setIfInBounds_toArray, List.set_cons_zero, List.set_cons_succ])
      refine heldg_nil ?_
      go_wp2_with fail
      go_ret2
      refine ⟨false, _, rfl, ?_⟩
      rw [HXN.out]
      exact ⟨rfl, g, K8.out, D8.out⟩
    · have hX : X = some (rr, some d) := by rw [← HX.out]; exact map_some (by rw [filt_some HSP.out, hn, if_pos rfl])
      have HXN := Lib.hid hX
      clear hX hn
      simp only [pick, List.filterMap, List.getElem?_toArray, List.getElem?_cons_zero, List.getElem?_cons_succ, Act.put, List.setIfInBounds_toArray, List.set_cons_zero, List.set_cons_succ]
      iterate 4 (refine heldg_run ?_ rfl ?_ ?_; rotate_left; (focus (intro w' hS; obtain ⟨s0, s1, s2, y0, y1, y2, y3, y4, y5⟩ := hS; go_simp; exact rfl)); simp only [Act.put, List.setIfInBounds_toArray, List.set_cons_zero, List.set_cons_succ])
      refine heldg_nil ?_
      go_wp2_with fail
      go_ret2
      refine ⟨true, _, rfl, ?_⟩
      rw [HXN.out]
      exact ⟨rfl, rfl, g, K8.out, D8.out, HR8.out⟩
set_option maxRecDepth 100000 in
theorem mk_partB {α : Type} (nz : α → Bool) (Sp : ByteArray → Option (ByteArray × α)) (R : RelT α) (Pre : (Nat → Value) → Prop) (t o n kr kz : Nat) (er ez : Array Value) (w : World) (ho : o + 5 < n) (ht : t < w.heap.size)
    (hrd : ∀ w, t < w.heap.size → CallsV Try.prog (.func (.func kr) #[] er) #[.pointer (some ⟨t, o, none⟩)] w (MakesR Try.prog t n w Pre Sp R))
    (hzr : ∀ f d w lo hi g, Pre f → R d w lo hi f g → hi ≤ w.heap.size → CallsV Try.prog (.func (.func kz) #[] ez) #[.agg #[g o, g (o + 1), g (o + 2), g (o + 3), g (o + 4), g (o + 5)]] w fun e w' => e = .returned (.bool (!nz d)) ∧ Below w.heap.size w w')
    (hR : SoundR R) :
    Calls Try.prog 49 #[.pointer (some ⟨t, o, none⟩), .func (.func kz) #[] ez, .func (.func kr) #[] er] w (MakesR Try.prog t n w Pre (partSp nz Sp) (partR R)) := by
  have HO := Lib.hid ho
  have HT := Lib.hid ht
  have HRD := Lib.hid hrd
  have HZR := Lib.hid hzr
  have HR := Lib.hid hR
  clear ho ht hrd hzr hR
  go_enter Try.func49, Try.ntmps49
  go_wp2_with fail
  go_ret
  have b1 := (Below.refl w.heap.size w).alloc (Nat.le_refl _) (.cells #[.pointer (some ⟨t, o, none⟩)] 97)
  have b2 := b1.alloc b1.size (.cells #[.func (.func kz) #[] ez] 64)
  have b3 := b2.alloc b2.size (.cells #[.func (.func kr) #[] er] 98)
  have := HT.out
  refine ⟨_, _, rfl, b3, fun f b wx hb hk hx hp => ⟨_, _, rfl, own_partB, ?_⟩⟩
  refine partB_walk nz Sp R Pre t o n (w.heap.size + 2) w.heap.size (w.heap.size + 1) kr kz er ez f b wx hb HO.out hx hp HRD.out (HZR.out f) HR.out ?_ ?_ ?_ (by omega) (by omega) (by omega)
  · exact keep_cell2 (cell_at _ _ _ _ (by simp)) (by omega) hk
  · exact keep_cell2 (cell_old (cell_old (cell_at _ _ _ _ rfl))) (by omega) hk
  · exact keep_cell2 (cell_old (cell_at _ _ _ _ (by simp))) (by omega) hk
end Go.Proofs.Ytphlpgdbngbplaa
end
section
open Go Go.RowKit
namespace Go.Proofs.Ytphlpgdbngbplaa
open WW BB
theorem own_partC : Own Try.prog 70 := ⟨_, Try.func70, by kernel_rfl, by kernel_rfl⟩
set_option maxRecDepth 100000 in
set_option maxHeartbeats 4000000 in
theorem partC_walk {α : Type} (nz : α → Bool) (Sp : ByteArray → Option (ByteArray × α)) (R : RelT α) (Pre : (Nat → Value) → Prop) (t o n p q r kr kz : Nat) (er ez : Array Value) (f : Nat → Value) (b : ByteArray) (w : World) (hb : b.size ≤ 1000000) (ho : o + 2 < n) (ht : Blk w t n f) (hf : Pre f)
    (hrd : ∀ w, t < w.heap.size → CallsV Try.prog (.func (.func kr) #[] er) #[.pointer (some ⟨t, o, none⟩)] w (MakesR Try.prog t n w Pre Sp R))
    (hzr : ∀ d w lo hi g, Pre f → R d w lo hi f g → hi ≤ w.heap.size → CallsV Try.prog (.func (.func kz) #[] ez) #[.agg #[g o, g (o + 1), g (o + 2)]] w fun e w' => e = .returned (.bool (!nz d)) ∧ Below w.heap.size w w')
    (hR : SoundR R)
    (hp : w.cell? ⟨p, 0, none⟩ = some (.func (.func kr) #[] er)) (hq : w.cell? ⟨q, 0, none⟩ = some (.pointer (some ⟨t, o, none⟩))) (hr : w.cell? ⟨r, 0, none⟩ = some (.func (.func kz) #[] ez)) (p1 : p ≠ t) (q1 : q ≠ t) (r1 : r ≠ t) :
    Calls Try.prog 70 #[.string b, .pointer (some ⟨p, 0, none⟩), .pointer (some ⟨q, 0, none⟩), .pointer (some ⟨r, 0, none⟩)] w (Ans (EffR t n w f (partR R) (partSp nz Sp b))) := by
  have HB := Lib.hid hb
  have HO := Lib.hid ho
  have HT := Lib.hid ht
  have HF := Lib.hid hf
  have HRD := Lib.hid hrd
  have HZR := Lib.hid hzr
  have HR := Lib.hid hR
  have PQ := Lib.hid (And.intro p1 (And.intro q1 r1))
  have HP := Lib.hid hp
  have HQ := Lib.hid hq
  have HRR := Lib.hid hr
  clear hb ho ht hf hrd hzr hR p1 q1 r1
  by_cases h0 : b.size = 0
  · have hX : partSp nz Sp b = none := by unfold partSp; rw [if_pos h0]
    rw [hX]
    obtain rfl := nil_size b h0
    clear hX h0 hp hq hr
    go_enter Try.func70, Try.ntmps70
    go_wp2_with fail
    go_ret2
    exact ⟨false, _, rfl, rfl, f, Keep.refl _ _, HT.out⟩
  have n0 : 0 < b.size := by omega
  have g0 : (0 : Int) < (b.size : Int) := by omega
  have g1 : (1 : Int) ≤ (b.size : Int) := by omega
  have hm : b.data.toList.getD 0 0 = b[0] := by
    rw [List.getD_eq_getElem?_getD, List.getElem?_eq_getElem (by rw [ba_list]; exact n0)]; rfl
  have e0 : b.toList.isEmpty = false := by
    rw [ByteArray.toList_eq]
    rcases hl : b.data.toList with _ | ⟨c, l⟩
    · exact absurd (show b.size = 0 by show b.data.size = 0; rw [← Array.length_toList, hl]; rfl) h0
    · rfl
  obtain ⟨c, hc⟩ : ∃ c, b[0] = c := ⟨_, rfl⟩
  rw [hc] at hm
  have HM := Lib.hid hm
  have HC := Lib.hid hc
  have H0 := Lib.hid h0
  clear hm hc h0
  by_cases c0 : c = 0
  · have hX : partSp nz Sp b = some (b.extract 1 b.size, none) := by unfold partSp; rw [if_neg H0.out, if_pos (by rw [HM.out, c0])]
    rw [hX]
    have t0 : ((b[0].toNat : Int) == 0) = true := by rw [HC.out, c0]; rfl
    clear c0 hX hp hq hr
    go_enter Try.func70, Try.ntmps70
    go_wp2_with fail
    go_ret2
    exact ⟨true, _, rfl, rfl, rfl, f, Keep.refl _ _, HT.out, rfl⟩
  have t0 : ((b[0].toNat : Int) == 0) = false := by
    rw [beq_eq_false_iff_ne, HC.out]
    intro h
    exact c0 (UInt8.toNat_inj.1 (by simpa using h))
  by_cases c1 : c = 1
  rotate_left
  · have t1 : ((b[0].toNat : Int) == 1) = false := by
      rw [beq_eq_false_iff_ne, HC.out]
      intro h
      exact c1 (UInt8.toNat_inj.1 (by have : c.toNat = 1 := by omega
                                      rw [this]; rfl))
    have hX : partSp nz Sp b = none := by unfold partSp; rw [if_neg H0.out, if_neg (by rw [HM.out]; exact c0), if_neg (by rw [HM.out]; exact c1)]
    rw [hX]
    clear c0 c1 hX hp hq hr
    go_enter Try.func70, Try.ntmps70
    go_wp2_with fail
    go_ret2
    exact ⟨false, _, rfl, rfl, f, Keep.refl _ _, HT.out⟩
  have t1 : ((b[0].toNat : Int) == 1) = true := by rw [HC.out, c1]; rfl
  have hX : partSp nz Sp b = mapSp some (filtSp Sp nz) (b.extract 1 b.size) := by unfold partSp; rw [if_neg H0.out, if_neg (by rw [HM.out]; exact c0), if_pos (by rw [HM.out]; exact c1)]
  rw [hX]
  obtain ⟨b1, hb1⟩ : ∃ b1, b.extract 1 b.size = b1 := ⟨_, rfl⟩
  have HB1 := Lib.hid (show b1.size ≤ 1000000 by rw [← hb1]; have := HB.out; simp; omega)
  have HBE := Lib.hid hb1
  rw [hb1]
  obtain ⟨X, hXX⟩ : ∃ X, mapSp some (filtSp Sp nz) b1 = X := ⟨_, rfl⟩
  rw [hXX]
  have HX := Lib.hid hXX
  clear c0 c1 hX hb1 hXX
  go_enter Try.func70, Try.ntmps70
  go_upto_region 7 with fail
  refine two_callv (a1 := ?a1) [0, 1, 3, 4] [6, 7, 8, 9, 10] 2 5 _ _ 22 25 (.tmp 20) (.tmp 22) _ _ _ _ (fun w' => w'.cell? ⟨p, 0, none⟩ = some (.func (.func kr) #[] er) ∧ w'.cell? ⟨q, 0, none⟩ = some (.pointer (some ⟨t, o, none⟩)) ∧ w'.cell? ⟨r, 0, none⟩ = some (.func (.func kz) #[] ez)) (.func (.func kr) #[] er) #[.pointer (some ⟨t, o, none⟩)] #[.string b1] _ (fun _ w1 e w' => Ans (EffR t n w1 f R (Sp b1)) e w') (by kernel_rfl) (by kernel_rfl) (fun _ _ d _ _ h => by cases d <;> exact h) rfl rfl ⟨rfl, rfl⟩ rfl rfl rfl rfl ⟨hp, hq, hr⟩ ?hread ?hx1 ?ha1 (HRD.out _ HT.out.lt) (fun _ _ ⟨_, _, h, _⟩ => ⟨_, h⟩) ?h2
  case hread =>
    simp only [pick, List.filterMap, List.getElem?_toArray, List.getElem?_cons_zero, List.getElem?_cons_succ]
    iterate 4 (refine heldg_run ?_ rfl ?_ ?_; rotate_left; (focus (intro w' hS; obtain ⟨s0, s1, s2⟩ := hS; go_simp; exact rfl)); simp only [Act.put, List.setIfInBounds_toArray, List.set_cons_zero, List.set_cons_succ])
    exact rfl
  case hx1 => rfl
  case ha1 => simp [Act.eval]
  case h2 =>
  rintro u w1 ⟨k2, env2, hu, hb2, hcv⟩
  injection hu with hu
  subst hu
  have s1 := And.intro (keep_cell HP.out (((Below.refl w.heap.size w).drew).trans hb2)) (And.intro (keep_cell HQ.out (((Below.refl w.heap.size w).drew).trans hb2)) (keep_cell HRR.out (((Below.refl w.heap.size w).drew).trans hb2)))
  refine ⟨s1, ⟨rfl, ?ha2⟩, hcv f b1 w1 HB1.out (Keep.refl _ _) (HT.out.below (((Below.refl w.heap.size w).drew).trans hb2) HT.out.lt) HF.out, Ans.ret, ?_⟩
  case ha2 => simp [Act.eval, Act.put, HBE.out]
  rintro u2 w2 ⟨ok, rr, hu2, he⟩
  injection hu2 with hu2
  subst hu2
  have B1 := Lib.hid (((Below.refl w.heap.size w).drew).trans hb2)
  unfold EffR at he
  rcases hsp : Sp b1 with _ | ⟨r', d⟩
  · rw [hsp] at he
    obtain ⟨rfl, f', k2', d2⟩ := he
    have hX : X = none := by rw [← HX.out, map_none (filt_none hsp)]
    have HXN := Lib.hid hX
    have s2 := And.intro (keep_cell2 s1.1 PQ.out.1 k2') (And.intro (keep_cell2 s1.2.1 PQ.out.2.1 k2') (keep_cell2 s1.2.2 PQ.out.2.2 k2'))
    refine ⟨s2, ?_⟩
    have K2 := Lib.hid ((keep_of_below B1.out (Nat.le_refl _) t).trans k2')
    have D2 := Lib.hid d2
    clear hX hsp k2' d2 hcv s1 hb2 hp hq hr
    simp only [pick, List.filterMap, List.getElem?_toArray, List.getElem?_cons_zero, List.getElem?_cons_succ, Act.put, List.setIfInBounds_toArray, List.set_cons_zero, List.set_cons_succ]
    iterate 5 (refine heldg_run ?_ rfl ?_ ?_; rotate_left; (focus (intro w' hS; obtain ⟨s0, s1, s2⟩ := hS; go_simp; exact rfl)); simp only [Act.put, List.setIfInBounds_toArray, List.set_cons_zero, List.set_cons_succ])
    refine heldg_nil ?_
    clear s2
    go_wp2_with fail
    go_quiet (fail)
    go_wp2_with fail
    go_ret2
    refine ⟨false, _, rfl, ?_⟩
    rw [HXN.out]
    exact ⟨rfl, f', K2.out.trans (keep_of_below (below_drewN (Below.refl w2.heap.size w2) _) (Nat.le_refl _) t), D2.out.below (below_drewN (Below.refl w2.heap.size w2) _) D2.out.lt⟩
  · rw [hsp] at he
    obtain ⟨rfl, rfl, g, k2', d2, hR⟩ := he
    have s2 := And.intro (keep_cell2 s1.1 PQ.out.1 k2') (And.intro (keep_cell2 s1.2.1 PQ.out.2.1 k2') (keep_cell2 s1.2.2 PQ.out.2.2 k2'))
    refine ⟨s2, ?_⟩
    have K2 := Lib.hid ((keep_of_below B1.out (Nat.le_refl _) t).trans k2')
    have D2 := Lib.hid d2
    have HRR2 := Lib.hid hR
    have HSP := Lib.hid hsp
    have S2 := Lib.hid s2
    have W1 := Lib.hid B1.out.size
    clear hsp k2' d2 hcv s1 hb2 hp hq hr hR
    simp only [pick, List.filterMap, List.getElem?_toArray, List.getElem?_cons_zero, List.getElem?_cons_succ, Act.put, List.setIfInBounds_toArray, List.set_cons_zero, List.set_cons_succ]
    iterate 5 (refine heldg_run ?_ rfl ?_ ?_; rotate_left; (focus (intro w' hS; obtain ⟨s0, s1, s2⟩ := hS; go_simp; exact rfl)); simp only [Act.put, List.setIfInBounds_toArray, List.set_cons_zero, List.set_cons_succ])
    refine heldg_nil ?_
    clear s2
    go_upto_region 8 with fail
    have x0 : w2.cell? ⟨t, o, none⟩ = some (g o) := D2.out.get o (by have := HO.out; omega)
    have x1 : w2.cell? ⟨t, o + 1, none⟩ = some (g (o + 1)) := D2.out.get (o + 1) (by have := HO.out; omega)
    have x2 : w2.cell? ⟨t, o + 2, none⟩ = some (g (o + 2)) := D2.out.get (o + 2) (by have := HO.out; omega)
    refine one_callv (a1 := ?a8) [0, 1, 2, 3, 4, 5, 6] [8, 9, 10, 11] 7 _ 35 (.tmp 31) _ _ (.func (.func kz) #[] ez) #[.agg #[g o, g (o + 1), g (o + 2)]] _ (fun w' => w'.cell? ⟨p, 0, none⟩ = some (.func (.func kr) #[] er) ∧ w'.cell? ⟨q, 0, none⟩ = some (.pointer (some ⟨t, o, none⟩)) ∧ w'.cell? ⟨r, 0, none⟩ = some (.func (.func kz) #[] ez) ∧ w'.cell? ⟨t, o, none⟩ = some (g o) ∧ w'.cell? ⟨t, o + 1, none⟩ = some (g (o + 1)) ∧ w'.cell? ⟨t, o + 2, none⟩ = some (g (o + 2))) (by kernel_rfl) (by kernel_rfl) (fun _ _ d _ _ h => by cases d <;> exact h) rfl rfl rfl ⟨S2.out.1, S2.out.2.1, S2.out.2.2, x0, x1, x2⟩ ?hread8 ?hgc8 ?hx8 ?has8 ((HZR.out d w2.drew w1.heap.size w2.heap.size g HF.out (HR.out.keep HRR2.out fun _ _ _ => rfl) (Nat.le_refl _))) (fun _ _ ⟨h, _⟩ => ⟨_, h⟩) ?ht8
    case hread8 =>
      simp only [pick, List.filterMap, List.getElem?_toArray, List.getElem?_cons_zero, List.getElem?_cons_succ]
      iterate 7 (refine heldg_run ?_ rfl ?_ ?_; rotate_left; (focus (intro w' hS; obtain ⟨s0, s1, s2, y0, y1, y2⟩ := hS; go_simp; exact rfl)); simp only [Act.put, List.setIfInBounds_toArray, List.set_cons_zero, List.set_cons_succ])
      exact rfl
    case hgc8 => rfl
    case hx8 => rfl
    case has8 => simp [Act.eval]
    case ht8 =>
    rintro u w8 ⟨hu, hb8⟩
    injection hu with hu
    subst hu
    have B8 := Lib.hid ((Below.refl w2.heap.size w2).drew.trans hb8)
    refine ⟨⟨cell_b S2.out.1 B8.out, cell_b S2.out.2.1 B8.out, cell_b S2.out.2.2 B8.out, cell_b x0 B8.out, cell_b x1 B8.out, cell_b x2 B8.out⟩, ?_⟩
    have K8 := Lib.hid (K2.out.trans (keep_of_below B8.out (Nat.le_refl _) t))
    have D8 := Lib.hid (D2.out.below B8.out D2.out.lt)
    have HR8 := Lib.hid (HR.out.wide (HR.out.keep HRR2.out fun c h1 h2 => B8.out.block c h2) W1.out B8.out.size)
    clear hb8 x0 x1 x2
    rcases hn : nz d with _ | _
    · have hX : X = none := by rw [← HX.out, map_none]; rw [filt_some HSP.out, hn, if_neg (by simp)]
      have HXN := Lib.hid hX
      clear hX hn
      simp only [pick, List.filterMap, List.getElem?_toArray, List.getElem?_cons_zero, List.getElem?_cons_succ, Act.put, List.setIfInBounds_toArray, List.set_cons_zero, List.set_cons_succ]
      iterate 4 (refine heldg_run ?_ rfl ?_ ?_; rotate_left; (focus (intro w' hS; obtain ⟨s0, s1, s2, y0, y1, y2⟩ := hS; go_simp; exact rfl)); simp only [Act.put, List.setIfInBounds_toArray, List.set_cons_zero, List.set_cons_succ])
      refine heldg_nil ?_
      go_wp2_with fail
      go_ret2
      refine ⟨false, _, rfl, ?_⟩
      rw [HXN.out]
      exact ⟨rfl, g, K8.out, D8.out⟩
    · have hX : X = some (rr, some d) := by rw [← HX.out]; exact map_some (by rw [filt_some HSP.out, hn, if_pos rfl])
      have HXN := Lib.hid hX
      clear hX hn
      simp only [pick, List.filterMap, List.getElem?_toArray, List.getElem?_cons_zero, List.getElem?_cons_succ, Act.put, List.setIfInBounds_toArray, List.set_cons_zero, List.set_cons_succ]
      iterate 4 (refine heldg_run ?_ rfl ?_ ?_; rotate_left; (focus (intro w' hS; obtain ⟨s0, s1, s2, y0, y1, y2⟩ := hS; go_simp; exact rfl)); simp only [Act.put, List.setIfInBounds_toArray, List.set_cons_zero, List.set_cons_succ])
      refine heldg_nil ?_
      go_wp2_with fail
      go_ret2
      refine ⟨true, _, rfl, ?_⟩
      rw [HXN.out]
      exact ⟨rfl, rfl, g, K8.out, D8.out, HR8.out⟩
set_option maxRecDepth 100000 in
theorem mk_partC {α : Type} (nz : α → Bool) (Sp : ByteArray → Option (ByteArray × α)) (R : RelT α) (Pre : (Nat → Value) → Prop) (t o n kr kz : Nat) (er ez : Array Value) (w : World) (ho : o + 2 < n) (ht : t < w.heap.size)
    (hrd : ∀ w, t < w.heap.size → CallsV Try.prog (.func (.func kr) #[] er) #[.pointer (some ⟨t, o, none⟩)] w (MakesR Try.prog t n w Pre Sp R))
    (hzr : ∀ f d w lo hi g, Pre f → R d w lo hi f g → hi ≤ w.heap.size → CallsV Try.prog (.func (.func kz) #[] ez) #[.agg #[g o, g (o + 1), g (o + 2)]] w fun e w' => e = .returned (.bool (!nz d)) ∧ Below w.heap.size w w')
    (hR : SoundR R) :
    Calls Try.prog 52 #[.pointer (some ⟨t, o, none⟩), .func (.func kz) #[] ez, .func (.func kr) #[] er] w (MakesR Try.prog t n w Pre (partSp nz Sp) (partR R)) := by
  have HO := Lib.hid ho
  have HT := Lib.hid ht
  have HRD := Lib.hid hrd
  have HZR := Lib.hid hzr
  have HR := Lib.hid hR
  clear ho ht hrd hzr hR
  go_enter Try.func52, Try.ntmps52
  go_wp2_with fail
  go_ret
  have b1 := (Below.refl w.heap.size w).alloc (Nat.le_refl _) (.cells #[.pointer (some ⟨t, o, none⟩)] 100)
  have b2 := b1.alloc b1.size (.cells #[.func (.func kz) #[] ez] 65)
  have b3 := b2.alloc b2.size (.cells #[.func (.func kr) #[] er] 101)
  have := HT.out
  refine ⟨_, _, rfl, b3, fun f b wx hb hk hx hp => ⟨_, _, rfl, own_partC, ?_⟩⟩
  refine partC_walk nz Sp R Pre t o n (w.heap.size + 2) w.heap.size (w.heap.size + 1) kr kz er ez f b wx hb HO.out hx hp HRD.out (HZR.out f) HR.out ?_ ?_ ?_ (by omega) (by omega) (by omega)
  · exact keep_cell2 (cell_at _ _ _ _ (by simp)) (by omega) hk
  · exact keep_cell2 (cell_old (cell_old (cell_at _ _ _ _ rfl))) (by omega) hk
  · exact keep_cell2 (cell_old (cell_at _ _ _ _ (by simp))) (by omega) hk
end Go.Proofs.Ytphlpgdbngbplaa
end
