/-
  What was read, as it comes in elsewhere; the walk of rising.
-/
import Derived.Test.YtbeodmijjanmeaaWSigCut
import Derived.BigQuiet
import Derived.Deep.QuietTactic
open Go Go.RowKit
namespace WW
open BB
theorem elems_cell {δ : Type} {R : RelT δ} {e : TypeId} {k lo hi c n cap : Nat} {z : Nat → Value} {w : World} {l : List δ} {xs : List Value} (h : ElemsR e k z R w lo hi (.slice (some ⟨c, 0, none⟩) n cap) l xs) (i : Nat) (d : δ) (hd : l[i]? = some d) :
    ∃ (lo1 hi1 : Nat) (g : Nat → Value), lo ≤ lo1 ∧ hi1 ≤ hi ∧ R d w lo1 hi1 z g ∧ ∀ j : Nat, j < k → w.cell? ⟨c, i * k + j, none⟩ = some (g j) := by
  obtain ⟨lo1, hi1, g, h1, h2, h3, h4, _⟩ := h.each i d hd
  refine ⟨lo1, hi1, g, h1, h2, h3, fun j hj => ?_⟩
  have := h.row.cells (g := c) rfl (i * k + j) (g j) (h4 j hj)
  rwa [WideShapes.add_plain, Nat.zero_add] at this
theorem getD_of {δ : Type} (l : List δ) (i : Nat) (x : δ) (h : i < l.length) : l[i]? = some (l.getD i x) := by
  rw [List.getD_eq_getElem?_getD, List.getElem?_eq_getElem h]; rfl
end WW
namespace Go.Proofs.Ytbeodmijjanmeaa
open WW BB
theorem strs_at {w : World} {lo hi : Nat} {sv : Value} {l : List ByteArray} {xs : List Value} (h : ElemsR 9 1 zS (strR 0) w lo hi sv l xs) : StrsAt w sv l := by
  rcases Joins.ownsRow_forms h.row with ⟨rfl, hl⟩ | ⟨c, cap, rfl⟩
  · have : l = [] := List.length_eq_zero_iff.1 hl
    subst this
    exact ⟨none, 0, rfl, Or.inl rfl⟩
  · refine ⟨_, cap, rfl, ?_⟩
    rcases Nat.eq_zero_or_pos l.length with h0 | h0
    · exact Or.inl (List.length_eq_zero_iff.1 h0)
    · refine Or.inr ⟨c, 0, rfl, (h.row.lt c rfl).2, fun i hi' => ?_⟩
      obtain ⟨_, _, g, _, _, h3, h4⟩ := elems_cell h i _ (getD_of l i ⟨#[]⟩ hi')
      have := h4 0 (by omega)
      rw [show g = put zS 0 _ from h3] at this
      rw [show 0 + i = i * 1 + 0 by omega, this]
      simp [put]
theorem sigs_at {w : World} {lo hi : Nat} {sv : Value} {l : List (Int × List ByteArray)} {xs : List Value} (h : ElemsR 37 2 zG (sigR 0) w lo hi sv l xs) : SigsAt w sv l := by
  rcases Joins.ownsRow_forms h.row with ⟨rfl, hl⟩ | ⟨c, cap, rfl⟩
  · have : l = [] := List.length_eq_zero_iff.1 hl
    subst this
    exact ⟨none, 0, rfl, Or.inl rfl⟩
  · refine ⟨_, cap, rfl, ?_⟩
    rcases Nat.eq_zero_or_pos l.length with h0 | h0
    · exact Or.inl (List.length_eq_zero_iff.1 h0)
    · refine Or.inr ⟨c, 0, rfl, (h.row.lt c rfl).2, fun i hi' => ?_⟩
      obtain ⟨lo1, hi1, g, _, _, ⟨g1, h3, sv1, xs1, h5, h6⟩, h4⟩ := elems_cell h i _ (getD_of l i (0, []) hi')
      have c0 := h4 0 (by omega)
      have c1 := h4 1 (by omega)
      rw [h5, show g1 = put zG 0 _ from h3] at c0 c1
      refine ⟨sv1, ?_, ?_, strs_at h6⟩
      · rw [show 0 + i * 2 = i * 2 + 0 by omega, c0]; simp [put]
      · rw [show 0 + i * 2 + 1 = i * 2 + 1 by omega, c1]; simp [put]
theorem reqs_at {w : World} {lo hi : Nat} {sv : Value} {l : List (Int × Int × ByteArray)} {xs : List Value} (h : ElemsR 34 3 zQ (reqR 0) w lo hi sv l xs) : ReqsAt w sv l := by
  rcases Joins.ownsRow_forms h.row with ⟨rfl, hl⟩ | ⟨c, cap, rfl⟩
  · have : l = [] := List.length_eq_zero_iff.1 hl
    subst this
    exact ⟨none, 0, rfl, Or.inl rfl⟩
  · refine ⟨_, cap, rfl, ?_⟩
    rcases Nat.eq_zero_or_pos l.length with h0 | h0
    · exact Or.inl (List.length_eq_zero_iff.1 h0)
    · refine Or.inr ⟨c, 0, rfl, (h.row.lt c rfl).2, fun i hi' => ?_⟩
      obtain ⟨lo1, hi1, g, _, _, h3, h4⟩ := elems_cell h i _ (getD_of l i (0, 0, ⟨#[]⟩) hi')
      have c0 := h4 0 (by omega)
      have c1 := h4 1 (by omega)
      have c2 := h4 2 (by omega)
      rw [show g = _ from h3] at c0 c1 c2
      refine ⟨?_, ?_, ?_⟩
      · rw [show 0 + i * 3 = i * 3 + 0 by omega, c0]; simp [put]
      · rw [show 0 + i * 3 + 1 = i * 3 + 1 by omega, c1]; simp [put]
      · rw [show 0 + i * 3 + 2 = i * 3 + 2 by omega, c2]; simp [put]
theorem risesTo_mono (l : List (Int × List ByteArray)) (i j : Nat) (h : i ≤ j) (hf : risesTo l i = false) : risesTo l j = false := by
  induction j with
  | zero => obtain rfl : i = 0 := by omega
            exact hf
  | succ j ih =>
    by_cases e : i = j + 1
    · subst e; exact hf
    · show (risesTo l j && _) = false
      rw [ih (by omega), Bool.false_and]
set_option maxRecDepth 100000 in
set_option maxHeartbeats 2000000 in
theorem rising_any (sv : Value) (l : List (Int × List ByteArray)) (w : World) (hv : SigsAt w sv l) (hl : l.length ≤ 100) :
    Calls Try.prog 76 #[sv] w fun e w' => e = .returned (.bool (rises l)) ∧ Below w.heap.size w w' := by
  obtain ⟨X, hX⟩ : ∃ X, rises l = X := ⟨_, rfl⟩
  rw [hX]
  have HX := Lib.hid (show risesTo l l.length = X from hX)
  have HV := Lib.hid hv
  have HL := Lib.hid hl
  obtain ⟨a0, cap, rfl, _⟩ := hv
  clear hX hl
  go_enter Try.func76, Try.ntmps76
  go_wp2_with fail
  go_loopw [3] (fun x wr => ∃ i : Nat, i ≤ l.length ∧ x = .int .i64 ((i : Int) + 1) ∧ (i = 0 ∨ i + 1 ≤ l.length) ∧ risesTo l (if l.length = 0 then 0 else i + 1) = true ∧ Below w.heap.size w wr) (fun x _ => l.length - (intOf x).toNat)
  case atStart =>
    refine ⟨0, Nat.zero_le _, rfl, Or.inl rfl, ?_, Below.refl _ _⟩
    split
    · rfl
    · show (risesTo l 0 && _) = true
      rfl
  case round =>
    obtain ⟨i, hi, rfl, hi0, hr, hb⟩ := hrel
    have HR := Lib.hid hr
    have HB := Lib.hid hb
    clear hr hb
    have n0 : (0 : Int) ≤ (i : Int) := by omega
    have n1 : (0 : Int) ≤ (i : Int) + 1 := by omega
    have nb : (i : Int) ≤ 100 := by have := HL.out; omega
    by_cases hlt : i + 1 < l.length
    · have hlt' : (i : Int) + 1 < (l.length : Int) := by omega
      have hlt2 : (i : Int) < (l.length : Int) := by omega
      obtain ⟨x1, y1, he, hv | ⟨gb, off, rfl, hbw, hcell⟩⟩ := HV.out
      · rw [hv] at hlt; simp at hlt
      injection he with e1 _ e3
      subst e1 e3
      obtain ⟨_, hc0, _, _⟩ := hcell i (by omega)
      obtain ⟨_, hd0, _, _⟩ := hcell (i + 1) hlt
      have hcl := (HB.out.cell (p := ⟨gb, off + i * 2, none⟩) hbw).trans hc0
      have hdl := (HB.out.cell (p := ⟨gb, off + (i + 1) * 2, none⟩) hbw).trans hd0
      have hst : risesTo l (i + 1 + 1) = (risesTo l (i + 1) && decide ((l.getD i (0, [])).1 < (l.getD (i + 1) (0, [])).1)) := by
        show (risesTo l (i + 1) && (decide (i + 1 = 0) || decide ((l.getD (i + 1 - 1) (0, [])).1 < _))) = _
        rw [show decide (i + 1 = 0) = false by simp, Bool.false_or, Nat.add_sub_cancel]
      obtain ⟨f0, hf0⟩ : ∃ f, (l.getD i (0, [])).1 = f := ⟨_, rfl⟩
      obtain ⟨f1, hf1⟩ : ∃ f, (l.getD (i + 1) (0, [])).1 = f := ⟨_, rfl⟩
      rw [hf0] at hcl hst
      rw [hf1] at hdl hst
      have HR := HR.out
      rw [if_neg (by omega)] at HR
      have HST := Lib.hid (And.intro hst (And.intro HR hlt))
      have mw := IntKind.wrap_i64 (i : Int)
      have MW := Lib.hid (show IntKind.i64.wrap (i : Int) = (i : Int) by rw [mw]; omega)
      clear hf0 hf1 hst HR hlt hi hi0 hcell hbw hc0 hd0 mw
      have mw := MW.out
      by_cases hff : f0 < f1
      · have hd : ¬ f1 ≤ f0 := by omega
        have HFF := Lib.hid hff
        clear hff
        go_wp2_with fail
        go_quiet (fail)
        go_wp2_with fail
        go_roundw
        case rel =>
          obtain ⟨h1, h2, h3⟩ := HST.out
          refine ⟨i + 1, by omega, by go_num, Or.inr (by omega), ?_, below_drewN HB.out _⟩
          rw [if_neg (by omega), h1, h2]; simp [HFF.out]
        case measure => have := HST.out.2.2; simp [intOf]; omega
      · have hd : f1 ≤ f0 := by omega
        have HFF := Lib.hid hff
        clear hff
        go_wp2_with fail
        go_quiet (fail)
        go_wp2_with fail
        go_ret
        refine ⟨?_, below_drewN HB.out _⟩
        obtain ⟨h1, h2, h3⟩ := HST.out
        rw [← HX.out, risesTo_mono l (i + 1 + 1) l.length (by omega) (by rw [h1]; simp [HFF.out])]
        rfl
    · have hlt' : ¬ (i : Int) + 1 < (l.length : Int) := by omega
      have hfin : X = true := by
        rw [← HX.out]
        have := HR.out
        by_cases h0 : l.length = 0
        · rw [h0]; rfl
        · rw [if_neg h0] at this
          rw [show l.length = i + 1 by omega]; exact this
      have HFIN := Lib.hid hfin
      clear hlt hi hi0 hfin
      go_wp2_with fail
      go_ret
      exact ⟨by rw [HFIN.out]; rfl, HB.out⟩
end Go.Proofs.Ytbeodmijjanmeaa
