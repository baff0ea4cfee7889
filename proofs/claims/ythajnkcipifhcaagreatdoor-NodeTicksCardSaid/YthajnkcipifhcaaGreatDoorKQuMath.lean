/-
  Two lanes of messages' bytes: lists alone, and a message in memory that stands in given bytes (layer 17).
-/
import Derived.Test.YthajnkcipifhcaaGreatDoorKZRow
import Derived.Test.YthajnkcipifhcaaGreatDoorKJDig
import Derived.Test.YthajnkcipifhcaaGreatDoorKPlanN
import Derived.Test.YthajnkcipifhcaaGreatDoorKCallsW
import Derived.Laws.AppendOwn
import Derived.Test.YthajnkcipifhcaaGreatDoorKWMsgLaw
section
open Go Go.RowKit
namespace FF
open WW BB
/-- a block's digest -/
def digI (b : BlockD) : ByteArray := JJ.digD (viewI b) (propI b) (jvI b) (parI b) b.2
/-- the call's three boxes: the forest, the block, the result -/
structure PqS (w : World) (g : Nat) (f1 f2 f3 : Nat → Value) (w' : World) : Prop where
  below : Below w.heap.size w w'
  lo : w.heap.size = g
  a : Blk w' g 4 f1
  b : Blk w' (g + 1) 6 f2
  c : Blk w' (g + 1 + 1) 4 f3
theorem PqS.on {w : World} {g : Nat} {f1 f2 f3 : Nat → Value} {w1 w2 : World} (h : PqS w g f1 f2 f3 w1) (hb : Below w1.heap.size w1 w2) : PqS w g f1 f2 f3 w2 :=
  ⟨h.below.trans (hb.mono h.below.size), h.lo, h.a.below hb h.a.lt, h.b.below hb h.b.lt, h.c.below hb h.c.lt⟩
end FF
namespace Go.Proofs.YthajnkcipifhcaaGreatDoor
open FF JJ CC WW BB
end Go.Proofs.YthajnkcipifhcaaGreatDoor
end
section
open Go Go.RowKit
namespace QU
open WW BB
end QU
namespace Go.Proofs.YthajnkcipifhcaaGreatDoor
open QU WW BB
/-- a message in memory that stands in given bytes -/
def MsgOf (w : World) (f : Nat → Value) (b : ByteArray) : Prop :=
  (∀ i, i < 21 → (f i).oneCell' = true) ∧ ∃ (d : MsgD) (s9 r10 s13 t15 : Value), msgRd b = some d ∧ MsgAt w f d.1.1.1.1.1.1.1.1.1.1 d.1.1.1.1.1.1.1.1.1.2 d.1.1.1.1.1.1.1.1.2 d.1.1.1.1.1.1.1.2 d.1.1.1.1.1.1.2 (d.1.1.1.1.1.2.getD noB) (d.1.1.1.1.2.getD noC) (d.1.1.1.2.getD noS) (d.1.1.2.getD noR) d.1.2 d.2 s9 r10 s13 t15
theorem MsgOf.later {w w' : World} {f : Nat → Value} {b : ByteArray} (h : MsgOf w f b) (hb : Below w.heap.size w w') : MsgOf w' f b := by
  obtain ⟨h1, d, s9, r10, s13, t15, h2, h3⟩ := h
  exact ⟨h1, d, s9, r10, s13, t15, h2, h3.later hb⟩
theorem MsgOf.right {w : World} {f : Nat → Value} {b : ByteArray} (h : MsgOf w f b) : Calls Tryz.prog 20 #[.agg (row 21 f)] w fun e w' => e = .returned (.bool true) ∧ Below w.heap.size w w' := by
  obtain ⟨_, d, s9, r10, s13, t15, h2, h3⟩ := h
  obtain ⟨e, hok⟩ := msgRd_sound h2
  have RF := rightF_of hok
  exact rightmsg_is true w f _ _ _ _ _ _ _ _ _ _ _ _ _ _ _ h3 (right_smallM RF.1).2 (rightMsg_iff.2 RF.1)
end Go.Proofs.YthajnkcipifhcaaGreatDoor
end
