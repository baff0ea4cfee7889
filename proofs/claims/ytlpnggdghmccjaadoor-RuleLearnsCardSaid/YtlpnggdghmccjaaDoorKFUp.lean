/-
  The walk of the reference's Up, and of what it serves: HeightOf, Path.
-/
import Derived.Test.YtlpnggdghmccjaaDoorKFAt
import Derived.Test.YtlpnggdghmccjaaDoorKPlanE
import Derived.Test.YtlpnggdghmccjaaDoorKEText
import Derived.Test.YtlpnggdghmccjaaDoorKLNum
import Derived.Test.YtlpnggdghmccjaaDoorKJUnlike
open Go Go.RowKit
namespace FF
open WW BB
theorem upF_len (F : Fo) : ∀ (k : Nat) (h : ByteArray) (out : List ByteArray), (upF F k h out).length ≤ out.length + k
  | 0, _, _ => by simp [upF]
  | k + 1, h, out => by
    unfold upF
    split
    · simp
    · split
      · simp
      · have := upF_len F k (parI (F.nodes.getD (atI F.nodes h).toNat i0).2) (out ++ [h])
        rw [List.length_append, List.length_singleton] at this; omega
theorem anc_len (F : Fo) (h : ByteArray) : (ancF F h).length ≤ F.nodes.length + 1 := by
  have := upF_len F (F.nodes.length + 1) h []
  simpa [ancF] using this
/-- the loop's state -/
structure UpSt (w0 : World) (g : Nat) (e : TypeId) (cs : List Value) (F : Fo) (h0 : ByteArray) (k : Nat) (h : ByteArray) (out : List ByteArray) (x : Value) (wr : World) : Prop where
  box : BoxAt w0 g cs wr
  row : wr.ownsRow (g + 1) e 1 x out.length (out.map Value.string)
  len : out.length = k
  eq : ancF F h0 = upF F (F.nodes.length + 1 - k) h out
  size : g + 1 ≤ wr.heap.size
  shape : ∃ a c, x = .slice a out.length c
end FF
namespace Go.Proofs.YtlpnggdghmccjaaDoor
open FF JJ CC WW BB
end Go.Proofs.YtlpnggdghmccjaaDoor
