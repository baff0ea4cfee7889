/-
  What reads a Block, whole.
-/
import Derived.Test.YtegkhhegapnkpaaDoorKWSigCut
import Derived.BigQuiet
import Derived.Deep.QuietTactic
import Derived.Deep.RegionHeld3
import Derived.Deep.CutRange
section
open Go Go.RowKit
namespace WW
open BB
theorem elems_cell {δ : Type} {R : RelT δ} {e : TypeId} {k lo hi c n cap : Nat} {z : Nat → Value} {w : World} {l : List δ} {xs : List Value} (h : ElemsR e k z R w lo hi (.slice (some ⟨c, 0, none⟩) n cap) l xs) (i : Nat) (d : δ) (hd : l[i]? = some d) :
    ∃ (lo1 hi1 : Nat) (g : Nat → Value), lo ≤ lo1 ∧ hi1 ≤ hi ∧ R d w lo1 hi1 z g ∧ ∀ j : Nat, j < k → w.cell? ⟨c, i * k + j, none⟩ = some (g j) := by
  obtain ⟨lo1, hi1, g, h1, h2, h3, h4, _⟩ := h.each i d hd
  refine ⟨lo1, hi1, g, h1, h2, h3, fun j hj => ?_⟩
  have := h.row.cells (g := c) rfl (i * k + j) (g j) (h4 j hj)
  rwa [WideShapes.add_plain, Nat.zero_add] at this
theorem getD_of {δ : Type} (l : List δ) (i : Nat) (x : δ) (h : i < l.length) : l[i]? = some (l.getD i x) := by
  rw [List.getD_eq_getElem?_getD, List.getElem?_eq_getElem h]; rfl
end WW
namespace Go.Proofs.YtegkhhegapnkpaaDoor
open WW BB
theorem reqs_at {w : World} {lo hi : Nat} {sv : Value} {l : List (Int × Int × ByteArray)} {xs : List Value} (h : ElemsR 34 3 zQ (reqR 0) w lo hi sv l xs) : ReqsAt w sv l := by
  rcases Joins.ownsRow_forms h.row with ⟨rfl, hl⟩ | ⟨c, cap, rfl⟩
  · have : l = [] := List.length_eq_zero_iff.1 hl
    subst this
    exact ⟨none, 0, rfl, Or.inl rfl⟩
  · refine ⟨_, cap, rfl, ?_⟩
    rcases Nat.eq_zero_or_pos l.length with h0 | h0
    · exact Or.inl (List.length_eq_zero_iff.1 h0)
    · refine Or.inr ⟨c, 0, rfl, (h.row.lt c rfl).2, fun i hi' => ?_⟩
      obtain ⟨lo1, hi1, g, _, _, h3, h4⟩ := elems_cell h i _ (getD_of l i (0, 0, ⟨#[]⟩) hi')
      have c0 := h4 0 (by omega)
      have c1 := h4 1 (by omega)
      have c2 := h4 2 (by omega)
      rw [show g = _ from h3] at c0 c1 c2
      refine ⟨?_, ?_, ?_⟩
      · rw [show 0 + i * 3 = i * 3 + 0 by omega, c0]; simp [put]
      · rw [show 0 + i * 3 + 1 = i * 3 + 1 by omega, c1]; simp [put]
      · rw [show 0 + i * 3 + 2 = i * 3 + 2 by omega, c2]; simp [put]
end Go.Proofs.YtegkhhegapnkpaaDoor
end
section
open Go Go.RowKit
namespace WW
open BB
def zC : Nat → Value := fun i => if i = 0 then .int .i64 0 else if i = 1 then .string ⟨#[]⟩ else .slice none 0 0
/-- three of them beside each other -/
structure ThreeC (w0 : World) (a : Nat) (w : World) : Prop where
  below : Below w0.heap.size w0 w
  ra : Blk w a 3 zC
  rx : Blk w (a + 1) 3 zC
  rn : Blk w (a + 1 + 1) 3 zC
theorem ThreeC.on {w0 w w' : World} {a : Nat} (h : ThreeC w0 a w) (hb : Below w.heap.size w w') : ThreeC w0 a w' :=
  ⟨h.below.trans (hb.mono h.below.size), h.ra.below hb h.ra.lt, h.rx.below hb h.rx.lt, h.rn.below hb h.rn.lt⟩
end WW
namespace Go.Proofs.YtegkhhegapnkpaaDoor
open WW BB
end Go.Proofs.YtegkhhegapnkpaaDoor
end
section
open Go Go.RowKit
namespace WW
open BB
def zB : Nat → Value := fun i => if i = 0 then .int .i64 0 else if i = 1 then .int .i64 0 else if i = 2 then .int .i64 0 else if i = 3 then .string ⟨#[]⟩ else if i = 4 then .slice none 0 0 else .slice none 0 0
/-- three of them beside each other -/
structure ThreeB (w0 : World) (a : Nat) (w : World) : Prop where
  below : Below w0.heap.size w0 w
  ra : Blk w a 6 zB
  rx : Blk w (a + 1) 6 zB
  rn : Blk w (a + 1 + 1) 6 zB
theorem ThreeB.on {w0 w w' : World} {a : Nat} (h : ThreeB w0 a w) (hb : Below w.heap.size w w') : ThreeB w0 a w' :=
  ⟨h.below.trans (hb.mono h.below.size), h.ra.below hb h.ra.lt, h.rx.below hb h.rx.lt, h.rn.below hb h.rn.lt⟩
end WW
namespace Go.Proofs.YtegkhhegapnkpaaDoor
open WW BB
end Go.Proofs.YtegkhhegapnkpaaDoor
end
