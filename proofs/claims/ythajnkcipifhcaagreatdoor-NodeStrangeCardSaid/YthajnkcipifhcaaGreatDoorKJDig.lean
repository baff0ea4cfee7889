/-
  The walks of a block's digest (the code's, and the reference's), of its parent, and of the first block's digest.
-/
import Derived.Test.YthajnkcipifhcaaGreatDoorKLNum
import Derived.Test.YthajnkcipifhcaaGreatDoorKWFewB
import Derived.Test.YthajnkcipifhcaaGreatDoorKWMsgLaw
import Derived.Test.YthajnkcipifhcaaGreatDoorKEText
import Derived.Test.YthajnkcipifhcaaGreatDoorKMSign
import Derived.Test.YthajnkcipifhcaaGreatDoorKWRef2
section
open Go Go.RowKit
namespace CC
open MM WW BB
structure GAt (w : World) (e : TypeId) (out : List Int) (u : Value) (wr : World) : Prop where
  below : Below w.heap.size w wr
  own : wr.ownsRow w.heap.size e 1 u out.length (out.map (Value.int .i64))
theorem GAt.on {w w1 w2 : World} {e : TypeId} {out : List Int} {u : Value} (h : GAt w e out u w1) (hb : Below w1.heap.size w1 w2) : GAt w e out u w2 :=
  ⟨h.below.trans (hb.mono h.below.size), row_keep h.own fun c hc => hb.block c (h.own.lt c hc).2⟩
end CC
namespace Go.Proofs.YthajnkcipifhcaaGreatDoor
open CC MM WW BB
theorem tabs_on {w w' : World} (h : Tabs w) (hb : Below w.heap.size w w') : Tabs w' := h.below hb (Nat.le_refl _)
end Go.Proofs.YthajnkcipifhcaaGreatDoor
end
section
open Go Go.RowKit
namespace CC
open MM WW BB
theorem sigs_nil (w : World) : SigsAt w (.slice none 0 0) [] := ⟨none, 0, rfl, Or.inl rfl⟩
end CC
namespace Go.Proofs.YthajnkcipifhcaaGreatDoor
open CC MM WW BB
end Go.Proofs.YthajnkcipifhcaaGreatDoor
end
section
open Go Go.RowKit
namespace JJ
open CC MM WW BB
/-- what a block's digest is of -/
def digB (v p cv : Int) (k : ByteArray) (m : List (Int × Int × ByteArray)) : ByteArray := ⟨#[66]⟩ ++ coreB v p cv k m
/-- a block's digest -/
def digD (v p cv : Int) (k : ByteArray) (m : List (Int × Int × ByteArray)) : ByteArray := dg (digB v p cv k m)
end JJ
namespace Go.Proofs.YthajnkcipifhcaaGreatDoor
open JJ CC MM WW BB
end Go.Proofs.YthajnkcipifhcaaGreatDoor
end
