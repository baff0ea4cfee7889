/-
  What signs.
-/
import Derived.Test.YthajnkcipifhcaaGreatDoorKEText
import Derived.Test.YthajnkcipifhcaaGreatDoorKCallsW
import Derived.BigQuiet
import Derived.WalkSmall
import Derived.Deep.QuietTactic
import Derived.Deep.RegionHeld3
section
open Go Go.RowKit
namespace MM
open WW BB
/-- may there be n nodes? -/
def nodesB (n : Int) : Bool := decide (1 ≤ n) && decide (n ≤ 7)
/-- are there n nodes, and is this one of them? -/
def amongB (x n : Int) : Bool := nodesB n && (decide (0 ≤ x) && decide (x < n))
/-- a tag for each, of a tag's size -/
def shapedB (ts : List ByteArray) (n : Int) : Bool := decide ((ts.length : Int) = n) && ts.all (fun t => decide (t.size = 16))
/-- the signature holds -/
def holdsB (s : ByteArray) (d n : Int) (t : ByteArray) (f : Int) (ts : List ByteArray) : Bool :=
  amongB d n && (amongB f n && (shapedB ts n && ((ts.getD d.toNat ⟨#[]⟩).toList == (tagB s f d t).toList)))
theorem among_of {x n : Int} (h : amongB x n = true) : 1 ≤ n ∧ n ≤ 7 ∧ 0 ≤ x ∧ x < n := by
  simp only [amongB, nodesB, Bool.and_eq_true, decide_eq_true_eq] at h; omega
section
variable {w w' w2 : World} {g b i : Nat} {f : Int} {tv : Value} {u : ByteArray} {ts : List ByteArray}
end
end MM
namespace Go.Proofs.YthajnkcipifhcaaGreatDoor
open MM WW BB
set_option maxRecDepth 100000 in
theorem nodes_any (n : Int) (w : World) : Calls Tryz.prog 32 #[.int .i64 n] w fun e w' => e = .returned (.bool (nodesB n)) ∧ w = w' := by
  by_cases h1 : 1 ≤ n
  · by_cases h2 : n ≤ 7
    · have e : nodesB n = true := by simp [nodesB, h1, h2]
      rw [e]; clear e
      go_enter Tryz.func32, Tryz.ntmps32
      go_wp2_with fail
      go_ret
      exact ⟨rfl, rfl⟩
    · have e : nodesB n = false := by simp [nodesB, h2]
      rw [e]; clear e
      go_enter Tryz.func32, Tryz.ntmps32
      go_wp2_with fail
      go_ret
      exact ⟨rfl, rfl⟩
  · have e : nodesB n = false := by simp [nodesB, h1]
    rw [e]; clear e
    go_enter Tryz.func32, Tryz.ntmps32
    go_wp2_with fail
    go_ret
    exact ⟨rfl, rfl⟩
end Go.Proofs.YthajnkcipifhcaaGreatDoor
end
section
open Go Go.RowKit
namespace BB
theorem TBlk.blk {t : TypeId} {w : World} {b n : Nat} {f : Nat → Value} (h : TBlk t w b n f) : Blk w b n f := ⟨t, h⟩
theorem TBlk.set {t : TypeId} {w : World} {b n : Nat} {f : Nat → Value} (h : TBlk t w b n f) (i : Nat) (u : Value) : TBlk t (w.setCell ⟨b, i, none⟩ u) b n (put f i u) := by
  unfold TBlk at h ⊢
  unfold World.setCell
  simp only [Array.getElem?_modify, if_true, h, Option.map_some]
  simp [row_set]
theorem TBlk.below {t : TypeId} {w w' : World} {b n B : Nat} {f : Nat → Value} (h : TBlk t w b n f) (hs : Below B w w') (hb : b < B) : TBlk t w' b n f := (hs.block b hb).trans h
theorem TBlk.congr {t : TypeId} {w : World} {b n : Nat} {f : Nat → Value} (h : TBlk t w b n f) (g : Nat → Value) (e : ∀ i, i < n → f i = g i) : TBlk t w b n g := by
  unfold TBlk at h ⊢; rw [← row_congr n f g e]; exact h
theorem TBlk.lt {t : TypeId} {w : World} {b n : Nat} {f : Nat → Value} (h : TBlk t w b n f) : b < w.heap.size := h.blk.lt
theorem TBlk.set_other {t : TypeId} {w : World} {b n : Nat} {f : Nat → Value} (h : TBlk t w b n f) (a : Addr) (u : Value) (hb : b ≠ a.block) : TBlk t (w.setCell a u) b n f := (Below.heap_setCell w a u b hb).trans h
end BB
namespace MM
open WW BB
/-- the cells of a result that is a zero signature -/
def zS : Nat → Value := fun i => if i = 0 then .int .i64 0 else .slice none 0 0
/-- the first i tags -/
def tagsF (s : ByteArray) (f : Int) (t : ByteArray) (i : Nat) : Nat → Value := fun j => if j < i then .string (tagB s f (j : Int) t) else .string ⟨#[]⟩
end MM
namespace Go.Proofs.YthajnkcipifhcaaGreatDoor
open MM WW BB
/-- where the loop stands -/
structure SgAt (w : World) (a : Nat) (s : ByteArray) (f : Int) (t : ByteArray) (n i : Nat) (wr : World) : Prop where
  below : Below a w wr
  ra : Blk wr a 2 zS
  rb : TBlk 9 wr (a + 1) n (tagsF s f t i)
end Go.Proofs.YthajnkcipifhcaaGreatDoor
end
