/-
  Signatures of which the tags are copied, one by one. No program is named here.
-/
import Derived.Test.YthajnkcipifhcaaGreatDoorKLNum
import Derived.Test.YthajnkcipifhcaaGreatDoorKWFewB
import Derived.Test.YthajnkcipifhcaaGreatDoorKERow
import Derived.Lib.Slices
section
open Go Go.RowKit
namespace CC
open BB WW Go.Sort
/-- v is a slice of the signatures L, wherever it lies, with their tags' slices -/
def SgAt (w : World) (v : Value) (L : List Sg) : Prop :=
  ∃ a0 cap, v = .slice a0 L.length cap ∧ (L = [] ∨ ∃ b off, a0 = some ⟨b, off, none⟩ ∧ b < w.heap.size ∧
    ∀ i, i < L.length → w.cell? ⟨b, off + i * 2, none⟩ = some (.int .i64 (L.getD i s0).1) ∧ w.cell? ⟨b, off + i * 2 + 1, none⟩ = some (tvS (L.getD i s0)) ∧ StrsAt w (tvS (L.getD i s0)) (L.getD i s0).2.2)
/-- a signature without its slice -/
def bare (x : Sg) : Int × List ByteArray := (x.1, x.2.2)
theorem SgAt.later {w w' : World} {v : Value} {L : List Sg} (h : SgAt w v L) (hb : Below w.heap.size w w') : SgAt w' v L := by
  obtain ⟨a0, cap, rfl, h | ⟨b, off, rfl, hl, hc⟩⟩ := h
  · exact ⟨a0, cap, rfl, Or.inl h⟩
  · refine ⟨_, cap, rfl, Or.inr ⟨b, off, rfl, Nat.lt_of_lt_of_le hl hb.size, fun i hi => ?_⟩⟩
    obtain ⟨h1, h2, h3⟩ := hc i hi
    exact ⟨(hb.cell (p := ⟨b, off + i * 2, none⟩) hl).trans h1, (hb.cell (p := ⟨b, off + i * 2 + 1, none⟩) hl).trans h2, h3.later hb⟩
theorem getD_map_bare (L : List Sg) (i : Nat) (h : i < L.length) : (L.map bare).getD i (0, []) = bare (L.getD i s0) := by
  simp [List.getD, List.getElem?_eq_getElem h]
/-- v is a slice of the signatures L, in memory from block B on, which may be written -/
def SgS (B : Nat) (w : World) (v : Value) (L : List Sg) : Prop :=
  ∃ a0 cap, v = .slice a0 L.length cap ∧ L.length ≤ cap ∧ (L = [] ∨ ∃ b o, a0 = some ⟨b, o, none⟩ ∧ B ≤ b ∧ SgRow w b o L.length (fun i => L.getD i s0))
theorem SgS.on {B : Nat} {w w' : World} {v : Value} {L : List Sg} (h : SgS B w v L) (hb : Below w.heap.size w w') : SgS B w' v L := by
  obtain ⟨a0, cap, rfl, hc, h | ⟨b, o, rfl, hB, h⟩⟩ := h
  · exact ⟨a0, cap, rfl, hc, Or.inl h⟩
  · exact ⟨_, cap, rfl, hc, Or.inr ⟨b, o, rfl, hB, h.below hb⟩⟩
end CC
namespace Go.Proofs.YthajnkcipifhcaaGreatDoor
open CC WW BB
end Go.Proofs.YthajnkcipifhcaaGreatDoor
end
section
open Go Go.RowKit
namespace CC
open BB WW Go.Sort
/-- tags, neither in block b nor in block g -/
def StrsNot (b g : Nat) (w : World) (v : Value) (l : List ByteArray) : Prop := StrsAt w v l ∧ (l = [] ∨ ∀ c, v.ownBlock = some c → c ≠ b ∧ c ≠ g)
theorem strs_upd {b g c : Nat} {w w' : World} {v : Value} {l : List ByteArray} (h : StrsNot b g w v l) (hc : c = b ∨ c = g) (hu : Upd c w w') : StrsNot b g w' v l := by
  obtain ⟨⟨a0, cap, rfl, h1⟩, h2⟩ := h
  refine ⟨⟨a0, cap, rfl, ?_⟩, h2⟩
  rcases h1 with h1 | ⟨x, off, rfl, hl, hcell⟩
  · exact Or.inl h1
  · refine Or.inr ⟨x, off, rfl, by rw [hu.size]; exact hl, fun i hi => ?_⟩
    have hne : x ≠ c := by
      rcases h2 with h2 | h2
      · subst h2; simp at hi
      · have := h2 x rfl
        rcases hc with rfl | rfl
        · exact this.1
        · exact this.2
    rw [World.cell?_of_block (w := w) (a := ⟨x, off + i, none⟩) (hu.block x hne)]
    exact hcell i hi
theorem StrsNot.on {b g : Nat} {w w' : World} {v : Value} {l : List ByteArray} (h : StrsNot b g w v l) (hb : Below w.heap.size w w') : StrsNot b g w' v l := ⟨h.1.later hb, h.2⟩
/-- the signatures M, the tags of some of them copied -/
structure Copied (M : List Sg) (b o g : Nat) (w0 : World) (wr : World) (D : Nat → Sg) : Prop where
  row : SgRow wr b o M.length D
  same : ∀ j, j < M.length → bare (D j) = bare (M.getD j s0)
  tags : ∀ j, j < M.length → StrsNot b g wr (tvS (D j)) (D j).2.2
  below : Below w0.heap.size w0 wr
theorem Copied.done {M : List Sg} {b o g cap : Nat} {w0 wr w' : World} {D : Nat → Sg} (h : Copied M b o g w0 wr D) (hg : b ≠ g) (hu : Upd g wr w') : SigsAt w' (.slice (some ⟨b, o, none⟩) M.length cap) (M.map bare) := by
  have hrow := h.row.of_heap (hu.block b hg)
  refine ⟨_, cap, by rw [List.length_map], Or.inr ⟨b, o, rfl, hrow.lt, fun i hi => ?_⟩⟩
  rw [List.length_map] at hi
  rw [getD_map_bare M i hi, ← h.same i hi]
  exact ⟨_, hrow.at0 i hi, hrow.at1 i hi, (strs_upd (h.tags i hi) (Or.inr rfl) hu).1⟩
theorem Copied.on {M : List Sg} {b o g : Nat} {w0 wr w' : World} {D : Nat → Sg} (h : Copied M b o g w0 wr D) (hb : Below wr.heap.size wr w') : Copied M b o g w0 w' D :=
  ⟨h.row.below hb, h.same, fun j hj => (h.tags j hj).on hb, h.below.trans (hb.mono h.below.size)⟩
theorem Copied.step {M : List Sg} {b o g : Nat} {w0 wr : World} {D : Nat → Sg} (h : Copied M b o g w0 wr D) (hB : w0.heap.size ≤ b) (i : Nat) (hi : i < M.length) (t : Option Addr × Nat) (hn : StrsNot b g wr (.slice t.1 (D i).2.2.length t.2) (D i).2.2) :
    Copied M b o g w0 (wr.setCell ⟨b, o + i * 2 + 1, none⟩ (.slice t.1 (D i).2.2.length t.2)) (put D i ((D i).1, t, (D i).2.2)) := by
  refine ⟨h.row.set1 i hi t (D i).2.2, fun j hj => ?_, fun j hj => ?_, h.below.trans ((Upd.set wr b _ _).below hB)⟩
  · by_cases e : j = i
    · subst e; rw [put_same]; exact h.same j hj
    · rw [put_other _ _ e]; exact h.same j hj
  · by_cases e : j = i
    · subst e; rw [put_same]; exact strs_upd hn (Or.inl rfl) (Upd.set wr b _ _)
    · rw [put_other _ _ e]; exact strs_upd (h.tags j hj) (Or.inl rfl) (Upd.set wr b _ _)
end CC
end
