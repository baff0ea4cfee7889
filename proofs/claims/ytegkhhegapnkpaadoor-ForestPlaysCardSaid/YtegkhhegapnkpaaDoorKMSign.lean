/-
  What signs.
-/
import Derived.Test.YtegkhhegapnkpaaDoorKEText
import Derived.Test.YtegkhhegapnkpaaDoorKJBox
import Derived.BigQuiet
import Derived.WalkSmall
import Derived.Deep.QuietTactic
import Derived.Deep.RegionHeld3
open Go Go.RowKit
namespace BB
theorem TBlk.blk {t : TypeId} {w : World} {b n : Nat} {f : Nat → Value} (h : TBlk t w b n f) : Blk w b n f := ⟨t, h⟩
theorem TBlk.set {t : TypeId} {w : World} {b n : Nat} {f : Nat → Value} (h : TBlk t w b n f) (i : Nat) (u : Value) : TBlk t (w.setCell ⟨b, i, none⟩ u) b n (put f i u) := by
  unfold TBlk at h ⊢
  unfold World.setCell
  simp only [Array.getElem?_modify, if_true, h, Option.map_some]
  simp [row_set]
theorem TBlk.below {t : TypeId} {w w' : World} {b n B : Nat} {f : Nat → Value} (h : TBlk t w b n f) (hs : Below B w w') (hb : b < B) : TBlk t w' b n f := (hs.block b hb).trans h
theorem TBlk.congr {t : TypeId} {w : World} {b n : Nat} {f : Nat → Value} (h : TBlk t w b n f) (g : Nat → Value) (e : ∀ i, i < n → f i = g i) : TBlk t w b n g := by
  unfold TBlk at h ⊢; rw [← row_congr n f g e]; exact h
theorem TBlk.lt {t : TypeId} {w : World} {b n : Nat} {f : Nat → Value} (h : TBlk t w b n f) : b < w.heap.size := h.blk.lt
theorem TBlk.set_other {t : TypeId} {w : World} {b n : Nat} {f : Nat → Value} (h : TBlk t w b n f) (a : Addr) (u : Value) (hb : b ≠ a.block) : TBlk t (w.setCell a u) b n f := (Below.heap_setCell w a u b hb).trans h
end BB
namespace MM
open WW BB
/-- the cells of a result that is a zero signature -/
def zS : Nat → Value := fun i => if i = 0 then .int .i64 0 else .slice none 0 0
/-- the first i tags -/
def tagsF (s : ByteArray) (f : Int) (t : ByteArray) (i : Nat) : Nat → Value := fun j => if j < i then .string (tagB s f (j : Int) t) else .string ⟨#[]⟩
end MM
namespace Go.Proofs.YtegkhhegapnkpaaDoor
open MM WW BB
theorem info_str : (Tryd.prog.info? 9).map (fun i => (i.zero, i.size, i.bytes)) = some (some (.string ⟨#[]⟩), 1, 16) := by kernel_rfl
/-- where the loop stands -/
structure SgAt (w : World) (a : Nat) (s : ByteArray) (f : Int) (t : ByteArray) (n i : Nat) (wr : World) : Prop where
  below : Below a w wr
  ra : Blk wr a 2 zS
  rb : TBlk 9 wr (a + 1) n (tagsF s f t i)
end Go.Proofs.YtegkhhegapnkpaaDoor
