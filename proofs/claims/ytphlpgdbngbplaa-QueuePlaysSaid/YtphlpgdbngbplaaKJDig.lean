/-
  The walks of a block's digest (the code's, and the reference's), of its parent, and of the first block's digest.
-/
import Derived.Test.YtphlpgdbngbplaaKLNum
import Derived.Test.YtphlpgdbngbplaaKWFewB
import Derived.Test.YtphlpgdbngbplaaKWPartC
import Derived.Test.YtphlpgdbngbplaaKEText
import Derived.Test.YtphlpgdbngbplaaKMSign
import Derived.Test.YtphlpgdbngbplaaKWRef2
section
open Go Go.RowKit
namespace CC
open MM WW BB
/-- the nodes whose signatures hold, of the first i -/
def goodTo (P : Int × List ByteArray → Bool) (l : List (Int × List ByteArray)) (i : Nat) : List Int := ((l.take i).filter P).map fun p => p.1
theorem good_snoc (P : Int × List ByteArray → Bool) (l : List (Int × List ByteArray)) (i : Nat) (h : i < l.length) : goodTo P l (i + 1) = if P (l.getD i (0, [])) = true then goodTo P l i ++ [(l.getD i (0, [])).1] else goodTo P l i := by
  unfold goodTo
  rw [List.take_succ_eq_append_getElem h, List.filter_append, List.map_append]
  have e : l.getD i (0, []) = l[i] := by simp [List.getD, List.getElem?_eq_getElem h]
  rw [e]
  by_cases hp : P l[i] = true <;> simp [hp]
theorem good_len (P : Int × List ByteArray → Bool) (l : List (Int × List ByteArray)) (i : Nat) : (goodTo P l i).length ≤ l.length := by
  unfold goodTo
  rw [List.length_map]
  have := List.length_filter_le P (l.take i)
  rw [List.length_take] at this
  omega
/-- the nodes whose signatures hold -/
def goodL (s : ByteArray) (d n v : Int) (k : ByteArray) (l : List (Int × List ByteArray)) : List Int :=
  if rightCert v k l = true then goodTo (fun p => holdsB s d n (textB v k) p.1 p.2) l l.length else []
/-- does it hold? -/
def certHolds (s : ByteArray) (d n v : Int) (k : ByteArray) (l : List (Int × List ByteArray)) : Bool :=
  if v = 0 then decide (k = firstD ∧ l = []) else decide (quorumI n ≤ ((goodL s d n v k l).length : Int))
structure GAt (w : World) (e : TypeId) (out : List Int) (u : Value) (wr : World) : Prop where
  below : Below w.heap.size w wr
  own : wr.ownsRow w.heap.size e 1 u out.length (out.map (Value.int .i64))
theorem GAt.on {w w1 w2 : World} {e : TypeId} {out : List Int} {u : Value} (h : GAt w e out u w1) (hb : Below w1.heap.size w1 w2) : GAt w e out u w2 :=
  ⟨h.below.trans (hb.mono h.below.size), row_keep h.own fun c hc => hb.block c (h.own.lt c hc).2⟩
end CC
namespace Go.Proofs.Ytphlpgdbngbplaa
open CC MM WW BB
end Go.Proofs.Ytphlpgdbngbplaa
end
section
open Go Go.RowKit
namespace CC
open MM WW BB
theorem sigs_nil (w : World) : SigsAt w (.slice none 0 0) [] := ⟨none, 0, rfl, Or.inl rfl⟩
end CC
namespace Go.Proofs.Ytphlpgdbngbplaa
open CC MM WW BB
theorem cert_f1 (v : Int) (k : ByteArray) (s : Value) (w : World) : (Instr.field 32 (.agg #[.int .i64 v, .string k, s]) 1).run Try.prog w = .ok (.string k) w := by kernel_rfl
theorem cert_f0 (v : Int) (k : ByteArray) (s : Value) (w : World) : (Instr.field 32 (.agg #[.int .i64 v, .string k, s]) 0).run Try.prog w = .ok (.int .i64 v) w := by kernel_rfl
theorem cert_f2 (v : Int) (k : ByteArray) (s : Value) (w : World) : (Instr.field 32 (.agg #[.int .i64 v, .string k, s]) 2).run Try.prog w = .ok s w := by kernel_rfl
end Go.Proofs.Ytphlpgdbngbplaa
end
section
open Go Go.RowKit
namespace JJ
open CC MM WW BB
/-- what a block's digest is of -/
def digB (v p cv : Int) (k : ByteArray) (m : List (Int × Int × ByteArray)) : ByteArray := ⟨#[66]⟩ ++ coreB v p cv k m
/-- a block's digest -/
def digD (v p cv : Int) (k : ByteArray) (m : List (Int × Int × ByteArray)) : ByteArray := dg (digB v p cv k m)
theorem digD_size (v p cv : Int) (k : ByteArray) (m : List (Int × Int × ByteArray)) : (digD v p cv k m).size = 32 := dsize _
theorem coreB_size (v p cv : Int) (k : ByteArray) (m : List (Int × Int × ByteArray)) : (coreB v p cv k m).size = 16 + k.size + (flat (reqsB m)).length := by
  simp only [coreB, ByteArray.size_append, num_size, flat_size]; omega
theorem digB_size (v p cv : Int) (k : ByteArray) (m : List (Int × Int × ByteArray)) : (digB v p cv k m).size = 17 + k.size + (flat (reqsB m)).length := by
  simp only [digB, ByteArray.size_append, coreB_size, show (⟨#[66]⟩ : ByteArray).size = 1 from rfl]; omega
end JJ
namespace Go.Proofs.Ytphlpgdbngbplaa
open JJ CC MM WW BB
end Go.Proofs.Ytphlpgdbngbplaa
end
