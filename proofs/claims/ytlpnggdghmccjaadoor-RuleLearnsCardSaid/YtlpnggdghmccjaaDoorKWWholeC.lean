/-
  What reads a Cert, whole.
-/
import Derived.Test.YtlpnggdghmccjaaDoorKWSigCut
import Derived.BigQuiet
import Derived.Deep.QuietTactic
import Derived.Deep.RegionHeld3
import Derived.Deep.CutRange
section
open Go Go.RowKit
namespace WW
open BB
theorem elems_cell {δ : Type} {R : RelT δ} {e : TypeId} {k lo hi c n cap : Nat} {z : Nat → Value} {w : World} {l : List δ} {xs : List Value} (h : ElemsR e k z R w lo hi (.slice (some ⟨c, 0, none⟩) n cap) l xs) (i : Nat) (d : δ) (hd : l[i]? = some d) :
    ∃ (lo1 hi1 : Nat) (g : Nat → Value), lo ≤ lo1 ∧ hi1 ≤ hi ∧ R d w lo1 hi1 z g ∧ ∀ j : Nat, j < k → w.cell? ⟨c, i * k + j, none⟩ = some (g j) := by
  obtain ⟨lo1, hi1, g, h1, h2, h3, h4, _⟩ := h.each i d hd
  refine ⟨lo1, hi1, g, h1, h2, h3, fun j hj => ?_⟩
  have := h.row.cells (g := c) rfl (i * k + j) (g j) (h4 j hj)
  rwa [WideShapes.add_plain, Nat.zero_add] at this
theorem getD_of {δ : Type} (l : List δ) (i : Nat) (x : δ) (h : i < l.length) : l[i]? = some (l.getD i x) := by
  rw [List.getD_eq_getElem?_getD, List.getElem?_eq_getElem h]; rfl
end WW
namespace Go.Proofs.YtlpnggdghmccjaaDoor
open WW BB
theorem strs_at {w : World} {lo hi : Nat} {sv : Value} {l : List ByteArray} {xs : List Value} (h : ElemsR 9 1 zS (strR 0) w lo hi sv l xs) : StrsAt w sv l := by
  rcases Joins.ownsRow_forms h.row with ⟨rfl, hl⟩ | ⟨c, cap, rfl⟩
  · have : l = [] := List.length_eq_zero_iff.1 hl
    subst this
    exact ⟨none, 0, rfl, Or.inl rfl⟩
  · refine ⟨_, cap, rfl, ?_⟩
    rcases Nat.eq_zero_or_pos l.length with h0 | h0
    · exact Or.inl (List.length_eq_zero_iff.1 h0)
    · refine Or.inr ⟨c, 0, rfl, (h.row.lt c rfl).2, fun i hi' => ?_⟩
      obtain ⟨_, _, g, _, _, h3, h4⟩ := elems_cell h i _ (getD_of l i ⟨#[]⟩ hi')
      have := h4 0 (by omega)
      rw [show g = put zS 0 _ from h3] at this
      rw [show 0 + i = i * 1 + 0 by omega, this]
      simp [put]
theorem sigs_at {w : World} {lo hi : Nat} {sv : Value} {l : List (Int × List ByteArray)} {xs : List Value} (h : ElemsR 98 2 zG (sigR 0) w lo hi sv l xs) : SigsAt w sv l := by
  rcases Joins.ownsRow_forms h.row with ⟨rfl, hl⟩ | ⟨c, cap, rfl⟩
  · have : l = [] := List.length_eq_zero_iff.1 hl
    subst this
    exact ⟨none, 0, rfl, Or.inl rfl⟩
  · refine ⟨_, cap, rfl, ?_⟩
    rcases Nat.eq_zero_or_pos l.length with h0 | h0
    · exact Or.inl (List.length_eq_zero_iff.1 h0)
    · refine Or.inr ⟨c, 0, rfl, (h.row.lt c rfl).2, fun i hi' => ?_⟩
      obtain ⟨lo1, hi1, g, _, _, ⟨g1, h3, sv1, xs1, h5, h6⟩, h4⟩ := elems_cell h i _ (getD_of l i (0, []) hi')
      have c0 := h4 0 (by omega)
      have c1 := h4 1 (by omega)
      rw [h5, show g1 = put zG 0 _ from h3] at c0 c1
      refine ⟨sv1, ?_, ?_, strs_at h6⟩
      · rw [show 0 + i * 2 = i * 2 + 0 by omega, c0]; simp [put]
      · rw [show 0 + i * 2 + 1 = i * 2 + 1 by omega, c1]; simp [put]
theorem reqs_at {w : World} {lo hi : Nat} {sv : Value} {l : List (Int × Int × ByteArray)} {xs : List Value} (h : ElemsR 63 3 zQ (reqR 0) w lo hi sv l xs) : ReqsAt w sv l := by
  rcases Joins.ownsRow_forms h.row with ⟨rfl, hl⟩ | ⟨c, cap, rfl⟩
  · have : l = [] := List.length_eq_zero_iff.1 hl
    subst this
    exact ⟨none, 0, rfl, Or.inl rfl⟩
  · refine ⟨_, cap, rfl, ?_⟩
    rcases Nat.eq_zero_or_pos l.length with h0 | h0
    · exact Or.inl (List.length_eq_zero_iff.1 h0)
    · refine Or.inr ⟨c, 0, rfl, (h.row.lt c rfl).2, fun i hi' => ?_⟩
      obtain ⟨lo1, hi1, g, _, _, h3, h4⟩ := elems_cell h i _ (getD_of l i (0, 0, ⟨#[]⟩) hi')
      have c0 := h4 0 (by omega)
      have c1 := h4 1 (by omega)
      have c2 := h4 2 (by omega)
      rw [show g = _ from h3] at c0 c1 c2
      refine ⟨?_, ?_, ?_⟩
      · rw [show 0 + i * 3 = i * 3 + 0 by omega, c0]; simp [put]
      · rw [show 0 + i * 3 + 1 = i * 3 + 1 by omega, c1]; simp [put]
      · rw [show 0 + i * 3 + 2 = i * 3 + 2 by omega, c2]; simp [put]
theorem risesTo_mono (l : List (Int × List ByteArray)) (i j : Nat) (h : i ≤ j) (hf : risesTo l i = false) : risesTo l j = false := by
  induction j with
  | zero => obtain rfl : i = 0 := by omega
            exact hf
  | succ j ih =>
    by_cases e : i = j + 1
    · subst e; exact hf
    · show (risesTo l j && _) = false
      rw [ih (by omega), Bool.false_and]
end Go.Proofs.YtlpnggdghmccjaaDoor
end
section
open Go Go.RowKit
namespace WW
open BB
/-- a certificate's first two parts, from cell o on -/
def certR1 (o : Nat) : RelT (Int × ByteArray) := seqR (numR o) (strR (o + 1))
end WW
namespace Go.Proofs.YtlpnggdghmccjaaDoor
open WW BB
/-- a certificate, from cell o on -/
def certR (o : Nat) : RelT CertD := seqR (certR1 o) (listR 98 2 zG (sigR 0) (o + 2))
theorem sound_cert (o : Nat) : SoundR (certR o) := ((sound_num o).seq (sound_str (o + 1))).seq (sound_list (sound_sig 0))
/-- what a certificate's cells are -/
theorem certR_cells {o : Nat} {c : CertD} {w : World} {lo hi : Nat} {f f' : Nat → Value} (h : certR o c w lo hi f f') : ∃ sv, f' = put (put (put f o (.int .i64 c.1.1)) (o + 1) (.string c.1.2)) (o + 2) sv ∧ SigsAt w sv c.2 := by
  obtain ⟨g, ⟨g1, h1, h2⟩, sv, xs, h3, h4⟩ := h
  refine ⟨sv, ?_, sigs_at h4⟩
  rw [h3, show g = put g1 (o + 1) _ from h2, show g1 = put f o _ from h1]
theorem hold2 {w w1 : World} {t bc : Nat} {v : Value} (h : t < w.heap.size ∧ w.cell? ⟨bc, 0, none⟩ = some v) (hb : Below w.heap.size w w1) : t < w1.heap.size ∧ w1.cell? ⟨bc, 0, none⟩ = some v := ⟨Nat.lt_of_lt_of_le h.1 hb.size, keep_cell h.2 hb⟩
end Go.Proofs.YtlpnggdghmccjaaDoor
end
section
open Go Go.RowKit
namespace WW
open BB
def zC : Nat → Value := fun i => if i = 0 then .int .i64 0 else if i = 1 then .string ⟨#[]⟩ else .slice none 0 0
theorem zC_row : #[.int .i64 0, .string ⟨#[]⟩, .slice none 0 0] = row 3 zC := by rfl
/-- three of them beside each other -/
structure ThreeC (w0 : World) (a : Nat) (w : World) : Prop where
  below : Below w0.heap.size w0 w
  ra : Blk w a 3 zC
  rx : Blk w (a + 1) 3 zC
  rn : Blk w (a + 1 + 1) 3 zC
theorem threeC_mk (w : World) (a : Nat) (ha : w.heap.size = a) (t : TypeId) : ThreeC w a (((w.alloc (.cells #[.int .i64 0, .string ⟨#[]⟩, .slice none 0 0] t)).alloc (.cells #[.int .i64 0, .string ⟨#[]⟩, .slice none 0 0] t)).alloc (.cells #[.int .i64 0, .string ⟨#[]⟩, .slice none 0 0] t)) := by
  have b1 := (Below.refl w.heap.size w).alloc (Nat.le_refl _) (.cells #[.int .i64 0, .string ⟨#[]⟩, .slice none 0 0] t)
  have b2 := b1.alloc b1.size (.cells #[.int .i64 0, .string ⟨#[]⟩, .slice none 0 0] t)
  exact ⟨b2.alloc b2.size _, ((Blk.new' (by omega) zC_row).alloc _).alloc _, (Blk.new' (by simp; omega) zC_row).alloc _, Blk.new' (by simp; omega) zC_row⟩
theorem ThreeC.on {w0 w w' : World} {a : Nat} (h : ThreeC w0 a w) (hb : Below w.heap.size w w') : ThreeC w0 a w' :=
  ⟨h.below.trans (hb.mono h.below.size), h.ra.below hb h.ra.lt, h.rx.below hb h.rx.lt, h.rn.below hb h.rn.lt⟩
theorem setC {w : World} {a : Nat} {f : Nat → Value} (h : Blk w a 3 f) (u0 u1 u2 : Value) :
    ((((w.setCell ⟨a, 0, none⟩ u0).setCell ⟨a, 1, none⟩ u1).setCell ⟨a, 2, none⟩ u2).cell? ⟨a, 0, none⟩ = some u0 ∧ (((w.setCell ⟨a, 0, none⟩ u0).setCell ⟨a, 1, none⟩ u1).setCell ⟨a, 2, none⟩ u2).cell? ⟨a, 1, none⟩ = some u1 ∧ (((w.setCell ⟨a, 0, none⟩ u0).setCell ⟨a, 1, none⟩ u1).setCell ⟨a, 2, none⟩ u2).cell? ⟨a, 2, none⟩ = some u2) ∧ Upd a w (((w.setCell ⟨a, 0, none⟩ u0).setCell ⟨a, 1, none⟩ u1).setCell ⟨a, 2, none⟩ u2) := by
  have k := (((h.set 0 u0).set 1 u1).set 2 u2)
  exact ⟨⟨k.get 0 (by omega), k.get 1 (by omega), k.get 2 (by omega)⟩, (((Upd.refl a w).trans (Upd.set _ _ _ _)).trans (Upd.set _ _ _ _)).trans (Upd.set _ _ _ _)⟩
/-- all of it is read -/
def certRd (b : ByteArray) : Option CertD :=
  match certI b with
  | none => none
  | some (r, d) => if r.size = 0 then some d else none
end WW
namespace Go.Proofs.YtlpnggdghmccjaaDoor
open WW BB
/-- what is answered -/
def CertAns (w : World) (x : Option CertD) (e : Ending) (w' : World) : Prop :=
  match x with
  | none => e = .returned (.tuple #[.agg #[.int .i64 0, .string ⟨#[]⟩, .slice none 0 0], .int .i64 2])
  | some d => ∃ f' lo hi, e = .returned (.tuple #[.agg #[f' 0, f' 1, f' 2], .int .i64 0]) ∧ w.heap.size ≤ lo ∧ hi ≤ w'.heap.size ∧ certR 0 d w' lo hi zC f'
end Go.Proofs.YtlpnggdghmccjaaDoor
end
