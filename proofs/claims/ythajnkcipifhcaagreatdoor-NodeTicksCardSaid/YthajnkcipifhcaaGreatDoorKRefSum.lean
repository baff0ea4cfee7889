/-
  The walk of the document's Sum.
-/
import Derived.Test.YthajnkcipifhcaaGreatDoorKMixed
import Derived.Test.YthajnkcipifhcaaGreatDoorKBRow
import Derived.Test.YthajnkcipifhcaaGreatDoorKFHash
import Derived.Deep.DeepCutAuto
import Derived.Deep.OwnRows
open Go Go.RowKit
namespace BB
def lenV : Value → Nat | .slice _ n _ => n | _ => 0
structure RSAt (e : TypeId) (w : World) (v : Value) (PA : List UInt8) (hb g : Nat) (h : Nat → BitVec 32) (w' : World) : Prop where
  below : Below w.heap.size w w'
  row : BRow e w' w.heap.size v PA
  words : Blk w' hb 8 (cw .u64 h)
  l : w.heap.size ≤ hb
  ne : hb ≠ g
theorem BRow.len {e : TypeId} {w : World} {base : Nat} {v : Value} {A : List UInt8} (h : BRow e w base v A) : lenV v = A.length := by
  obtain ⟨g, cap, cur, fr, rfl, _⟩ := h; rfl
theorem BRow.cap {e : TypeId} {w : World} {base g n cap : Nat} {A : List UInt8} (h : BRow e w base (.slice (some ⟨g, 0, none⟩) n cap) A) : n ≤ cap ∧ n = A.length := by
  obtain ⟨g', cap', cur, fr, e', _, _, _, hle, _⟩ := h
  injection e' with _ e2 e3
  omega
theorem BRow.bytes {e : TypeId} {w : World} {base g n cap I : Nat} {A : List UInt8} (h : BRow e w base (.slice (some ⟨g, 0, none⟩) n cap) A) (hI : I + 64 ≤ n) : Bytes w g I 64 (fun j => sb A (I + j)) := by
  obtain ⟨g', cap', cur, fr, e', _, hh, _, hle, _, hc⟩ := h
  injection e' with e1 e2 e3
  injection e1 with e1
  injection e1 with e1 _ _
  subst e1
  refine ⟨?_, fun j hj => ?_⟩
  · rcases Nat.lt_or_ge g w.heap.size with h | h
    · exact h
    · rw [Array.getElem?_eq_none h] at hh; cases hh
  · have := hc (I + j) (by omega)
    unfold World.cell?; rw [hh]; simpa using this
theorem RSAt.store {e : TypeId} {w : World} {v : Value} {PA : List UInt8} {hb g : Nat} {h h' f : Nat → BitVec 32} {w6 w7 w8 : World} {n cap : Nat} (hv : v = .slice (some ⟨g, 0, none⟩) n cap) (H : RSAt e w v PA hb g h w6) (h7 : Below w6.heap.size w6 w7)
    (h8 : MS w7 hb 8 (fun j => if 0 ≤ j ∧ j < 0 + 8 then cw .u64 h' (j - 0) else cw .u64 f j) w8) : RSAt e w v PA hb g h' w8 := by
  have r7 := H.row.below h7 (Nat.le_refl _)
  refine ⟨(H.below.trans (h7.mono H.below.size)).trans (h8.2.below H.l), ?_, h8.1.congr _ fun i hi => by simp [hi], H.l, H.ne⟩
  subst hv
  obtain ⟨g', cap', cur, fr, e', hg', hh, r⟩ := r7
  have e1 : g' = g := by injection e' with e1 _ _; injection e1 with e1; injection e1 with e1 _ _; exact e1.symm
  exact ⟨g', cap', cur, fr, e', hg', by rw [h8.2.block g' (by rw [e1]; exact Ne.symm H.ne)]; exact hh, r⟩
end BB
namespace Go.Proofs.YthajnkcipifhcaaGreatDoor
open BB
end Go.Proofs.YthajnkcipifhcaaGreatDoor
