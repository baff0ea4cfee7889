/-
  The key of two nodes, and a tag: the code's, and the reference's.
-/
import Derived.Test.YtggpiajmelhblaaKRefSum
import Derived.Test.YtggpiajmelhblaaKKeyed
import Derived.Deep.RegionHeld3
import Derived.Test.YtggpiajmelhblaaKWText
open Go Go.RowKit
namespace MM
open WW BB
/-- the node as which this one has its keys -/
def endn (x : Int) : Int := if x < 0 then 0 else if 20 < x then 0 else x
/-- what a key is the digest of -/
def keyT (s : ByteArray) (a b : Int) : ByteArray := ⟨#[75]⟩ ++ txt s ++ num (min a b) ++ num (max a b)
theorem keyT_size (s : ByteArray) (a b : Int) : (keyT s a b).size = 13 + s.size := by
  have h1 : (⟨#[75]⟩ : ByteArray).size = 1 := rfl
  simp only [keyT, ByteArray.size_append, num_size, txt_size, h1]; omega
/-- a key, of nodes from 0 to 20 -/
def keyB (s : ByteArray) (a b : Int) : ByteArray := dg (keyT s a b)
theorem keyB_size (s : ByteArray) (a b : Int) : (keyB s a b).size = 32 := dsize _
theorem keyB_comm (s : ByteArray) (a b : Int) : keyB s a b = keyB s b a := by
  unfold keyB keyT; rw [Int.min_comm, Int.max_comm]
/-- a tag -/
def tagB (s : ByteArray) (a b : Int) (t : ByteArray) : ByteArray := (kdg (keyB s a b) t).extract 0 16
theorem tagB_size (s : ByteArray) (a b : Int) (t : ByteArray) : (tagB s a b t).size = 16 := by
  unfold tagB; rw [ByteArray.size_extract, kdg_size]; rfl
theorem endn_in (x : Int) : 0 ≤ endn x ∧ endn x ≤ 20 := by unfold endn; split <;> (try split) <;> omega
theorem endn_id (x : Int) (h0 : 0 ≤ x) (h1 : x ≤ 20) : endn x = x := by
  unfold endn; rw [if_neg (by omega), if_neg (by omega)]
end MM
namespace Go.Proofs.Ytggpiajmelhblaa
open MM WW BB
end Go.Proofs.Ytggpiajmelhblaa
