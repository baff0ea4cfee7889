/-
  A vote's text, and the first certificate: the code's, and the reference's.
-/
import Derived.Test.YtphlpgdbngbplaaKRefSum
import Derived.Test.YtphlpgdbngbplaaKKeyed
import Derived.Deep.RegionHeld3
import Derived.Test.YtphlpgdbngbplaaKWFewS
section
open Go Go.RowKit
namespace MM
open WW BB
/-- the node as which this one has its keys -/
def endn (x : Int) : Int := if x < 0 then 0 else if 20 < x then 0 else x
/-- what a key is the digest of -/
def keyT (s : ByteArray) (a b : Int) : ByteArray := ⟨#[75]⟩ ++ txt s ++ num (min a b) ++ num (max a b)
theorem keyT_size (s : ByteArray) (a b : Int) : (keyT s a b).size = 13 + s.size := by
  have h1 : (⟨#[75]⟩ : ByteArray).size = 1 := rfl
  simp only [keyT, ByteArray.size_append, num_size, txt_size, h1]; omega
/-- a key, of nodes from 0 to 20 -/
def keyB (s : ByteArray) (a b : Int) : ByteArray := dg (keyT s a b)
theorem keyB_size (s : ByteArray) (a b : Int) : (keyB s a b).size = 32 := dsize _
theorem keyB_comm (s : ByteArray) (a b : Int) : keyB s a b = keyB s b a := by
  unfold keyB keyT; rw [Int.min_comm, Int.max_comm]
/-- a tag -/
def tagB (s : ByteArray) (a b : Int) (t : ByteArray) : ByteArray := (kdg (keyB s a b) t).extract 0 16
theorem tagB_size (s : ByteArray) (a b : Int) (t : ByteArray) : (tagB s a b t).size = 16 := by
  unfold tagB; rw [ByteArray.size_extract, kdg_size]; rfl
theorem endn_in (x : Int) : 0 ≤ endn x ∧ endn x ≤ 20 := by unfold endn; split <;> (try split) <;> omega
theorem endn_id (x : Int) (h0 : 0 ≤ x) (h1 : x ≤ 20) : endn x = x := by
  unfold endn; rw [if_neg (by omega), if_neg (by omega)]
end MM
namespace Go.Proofs.Ytphlpgdbngbplaa
open MM WW BB
end Go.Proofs.Ytphlpgdbngbplaa
end
section
open Go Go.RowKit
namespace CC
open MM WW BB
/-- a vote's text -/
def textB (v : Int) (k : ByteArray) : ByteArray := ⟨#[86]⟩ ++ num v ++ k
theorem textB_size (v : Int) (k : ByteArray) : (textB v k).size = 5 + k.size := by
  have h1 : (⟨#[86]⟩ : ByteArray).size = 1 := rfl
  simp only [textB, ByteArray.size_append, num_size, h1]
/-- the first block's digest -/
def firstD : ByteArray := dg ⟨#[102, 105, 114, 115, 116]⟩
theorem firstD_size : firstD.size = 32 := dsize _
/-- the cells of a certificate -/
def cC (v : Value) (k : ByteArray) (s : Value) : Nat → Value := fun i => if i = 0 then v else if i = 1 then .string k else s
theorem cC_row (v : Value) (k : ByteArray) (s : Value) : #[v, .string k, s] = row 3 (cC v k s) := by rfl
end CC
namespace Go.Proofs.Ytphlpgdbngbplaa
open CC MM WW BB
end Go.Proofs.Ytphlpgdbngbplaa
end
