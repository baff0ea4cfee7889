/-
  The walk of the reference's Put.
-/
import Derived.Test.YtbakceglaadfpaaDoorKFAdopt
import Derived.Test.YtbakceglaadfpaaDoorKJDig
import Derived.Test.YtbakceglaadfpaaDoorKPlanE
import Derived.Test.YtbakceglaadfpaaDoorKJBox
import Derived.Laws.AppendOwn
open Go Go.RowKit
namespace FF
open WW BB
/-- a block's digest -/
def digI (b : BlockD) : ByteArray := JJ.digD (viewI b) (propI b) (jvI b) (parI b) b.2
/-- the call's three boxes: the forest, the block, the result -/
structure PqS (w : World) (g : Nat) (f1 f2 f3 : Nat → Value) (w' : World) : Prop where
  below : Below w.heap.size w w'
  lo : w.heap.size = g
  a : Blk w' g 4 f1
  b : Blk w' (g + 1) 6 f2
  c : Blk w' (g + 1 + 1) 4 f3
theorem PqS.on {w : World} {g : Nat} {f1 f2 f3 : Nat → Value} {w1 w2 : World} (h : PqS w g f1 f2 f3 w1) (hb : Below w1.heap.size w1 w2) : PqS w g f1 f2 f3 w2 :=
  ⟨h.below.trans (hb.mono h.below.size), h.lo, h.a.below hb h.a.lt, h.b.below hb h.b.lt, h.c.below hb h.c.lt⟩
theorem PqS.mk3 (w : World) (cs ds es : List Value) (t u s : TypeId) (h1 : cs.toArray = row 4 (rowL cs)) (h2 : ds.toArray = row 6 (rowL ds)) (h3 : es.toArray = row 4 (rowL es)) : PqS w w.heap.size (rowL cs) (rowL ds) (rowL es) (((w.alloc (.cells cs.toArray t)).alloc (.cells ds.toArray u)).alloc (.cells es.toArray s)) := by
  have b1 := (Below.refl w.heap.size w).alloc (Nat.le_refl _) (.cells cs.toArray t)
  have b2 := b1.alloc b1.size (.cells ds.toArray u)
  have b3 := b2.alloc b2.size (.cells es.toArray s)
  refine ⟨b3, rfl, ((Blk.new' rfl h1).alloc _).alloc _, (Blk.new' (by simp) h2).alloc _, Blk.new' (by simp) h3⟩
/-- an item is written whole -/
theorem set7 {w : World} {a : Nat} {f : Nat → Value} (h : Blk w a 7 f) (u0 u1 u2 u3 u4 u5 u6 : Value) :
    Blk (((((((w.setCell ⟨a, 0, none⟩ u0).setCell ⟨a, 1, none⟩ u1).setCell ⟨a, 2, none⟩ u2).setCell ⟨a, 3, none⟩ u3).setCell ⟨a, 4, none⟩ u4).setCell ⟨a, 5, none⟩ u5).setCell ⟨a, 6, none⟩ u6) a 7 (rowL [u0, u1, u2, u3, u4, u5, u6]) ∧
    Upd a w (((((((w.setCell ⟨a, 0, none⟩ u0).setCell ⟨a, 1, none⟩ u1).setCell ⟨a, 2, none⟩ u2).setCell ⟨a, 3, none⟩ u3).setCell ⟨a, 4, none⟩ u4).setCell ⟨a, 5, none⟩ u5).setCell ⟨a, 6, none⟩ u6) := by
  refine ⟨(((((((h.set 0 u0).set 1 u1).set 2 u2).set 3 u3).set 4 u4).set 5 u5).set 6 u6).congr _ fun i hi => ?_, (((((((Upd.refl a w).trans (Upd.set _ _ _ _)).trans (Upd.set _ _ _ _)).trans (Upd.set _ _ _ _)).trans (Upd.set _ _ _ _)).trans (Upd.set _ _ _ _)).trans (Upd.set _ _ _ _)).trans (Upd.set _ _ _ _)⟩
  match i, hi with
  | 0, _ => rfl
  | 1, _ => rfl
  | 2, _ => rfl
  | 3, _ => rfl
  | 4, _ => rfl
  | 5, _ => rfl
  | 6, _ => rfl
end FF
namespace Go.Proofs.YtbakceglaadfpaaDoor
open FF JJ CC WW BB
end Go.Proofs.YtbakceglaadfpaaDoor
