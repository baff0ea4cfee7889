/-
  The walk of the law WireBlocks.
-/
import Derived.Test.YtegkhhegapnkpaaDoorKWListS
import Derived.Test.YtegkhhegapnkpaaDoorKWCutR
import Derived.Test.YtegkhhegapnkpaaDoorKWAppR
import Derived.Maps.AppendAt
import Derived.WideShapes
import Derived.Deep.CutRange
import Derived.Lib.SmallJoins
import Derived.Deep.RegionHeld3
import Derived.BigQuiet
import Derived.Deep.QuietTactic
import Derived.Test.YtegkhhegapnkpaaDoorKWApart
import Derived.Test.YtegkhhegapnkpaaDoorKWRef2
section
open Go Go.RowKit
namespace WW
open BB
def zC : Nat → Value := fun i => if i = 0 then .int .i64 0 else if i = 1 then .string ⟨#[]⟩ else .slice none 0 0
/-- three of them beside each other -/
structure ThreeC (w0 : World) (a : Nat) (w : World) : Prop where
  below : Below w0.heap.size w0 w
  ra : Blk w a 3 zC
  rx : Blk w (a + 1) 3 zC
  rn : Blk w (a + 1 + 1) 3 zC
theorem ThreeC.on {w0 w w' : World} {a : Nat} (h : ThreeC w0 a w) (hb : Below w.heap.size w w') : ThreeC w0 a w' :=
  ⟨h.below.trans (hb.mono h.below.size), h.ra.below hb h.ra.lt, h.rx.below hb h.rx.lt, h.rn.below hb h.rn.lt⟩
end WW
namespace Go.Proofs.YtegkhhegapnkpaaDoor
open WW BB
end Go.Proofs.YtegkhhegapnkpaaDoor
end
section
open Go Go.RowKit
namespace WW
open BB
def zB : Nat → Value := fun i => if i = 0 then .int .i64 0 else if i = 1 then .int .i64 0 else if i = 2 then .int .i64 0 else if i = 3 then .string ⟨#[]⟩ else if i = 4 then .slice none 0 0 else .slice none 0 0
/-- three of them beside each other -/
structure ThreeB (w0 : World) (a : Nat) (w : World) : Prop where
  below : Below w0.heap.size w0 w
  ra : Blk w a 6 zB
  rx : Blk w (a + 1) 6 zB
  rn : Blk w (a + 1 + 1) 6 zB
theorem ThreeB.on {w0 w w' : World} {a : Nat} (h : ThreeB w0 a w) (hb : Below w.heap.size w w') : ThreeB w0 a w' :=
  ⟨h.below.trans (hb.mono h.below.size), h.ra.below hb h.ra.lt, h.rx.below hb h.rx.lt, h.rn.below hb h.rn.lt⟩
end WW
namespace Go.Proofs.YtegkhhegapnkpaaDoor
open WW BB
end Go.Proofs.YtegkhhegapnkpaaDoor
end
section
open Go Go.RowKit
namespace WW
open BB
theorem few_flat {k : ByteArray} {l : List (Int × List ByteArray)} {m : List (Int × Int × ByteArray)} (h : fewBlock k l m = true) : (flat (sigsB l)).length ≤ 3080 ∧ (flat (reqsB m)).length ≤ 432 := by
  unfold fewBlock at h
  rw [Bool.and_eq_true, Bool.and_eq_true] at h
  obtain ⟨h1, h2, h3⟩ := h
  unfold fewCert at h3
  simp only [Bool.and_eq_true, decide_eq_true_eq, List.all_eq_true] at h1 h2 h3
  obtain ⟨h4, h5, h6⟩ := h3
  rw [List.take_of_length_le (by omega)] at h1 h4
  constructor
  · have := flat_le 308 (sigsB l) (fun x hx => by
      unfold sigsB at hx
      obtain ⟨p, hp, rfl⟩ := List.mem_map.1 hx
      have h4 := fewsig_flat p.2 (h4 p hp)
      show (num p.1 ++ listB p.2).size ≤ 308
      rw [ByteArray.size_append, flat_size, num_size]
      omega)
    have e : (sigsB l).length = l.length := by unfold sigsB; rw [List.length_map]
    omega
  · have := flat_le 72 (reqsB m) (fun x hx => by
      unfold reqsB at hx
      obtain ⟨p, hp, rfl⟩ := List.mem_map.1 hx
      have h4 := h1 p hp
      rw [reqB_size]; omega)
    have e : (reqsB m).length = m.length := by unfold reqsB; rw [List.length_map]
    omega
end WW
namespace Go.Proofs.YtegkhhegapnkpaaDoor
open WW BB
end Go.Proofs.YtegkhhegapnkpaaDoor
end
