/-
  The walk of a certificate's copy.
-/
import Derived.Test.YthajnkcipifhcaaGreatDoorKECopied
import Derived.Test.YthajnkcipifhcaaGreatDoorKEText
import Derived.Test.YthajnkcipifhcaaGreatDoorKPlanN
open Go Go.RowKit
namespace JJ
open CC BB WW MM Go.Sort
/-- the signatures M, the tags of some of them copied; from block B on the world may have turned -/
structure CopiedB (M : List Sg) (b o g B i : Nat) (w0 : World) (wr : World) (D : Nat → Sg) : Prop where
  new : ∀ j, j < i → ∀ c, (tvS (D j)).ownBlock = some c → B ≤ c
  row : SgRow wr b o M.length D
  same : ∀ j, j < M.length → bare (D j) = bare (M.getD j s0)
  tags : ∀ j, j < M.length → StrsNot b g wr (tvS (D j)) (D j).2.2
  below : Below B w0 wr
  size : B ≤ wr.heap.size
/-- signatures, all of it in memory from block B on -/
def SigsNew (B : Nat) (w : World) (v : Value) (l : List (Int × List ByteArray)) : Prop :=
  ∃ a0 cap, v = .slice a0 l.length cap ∧ (l = [] ∨ ∃ b off, a0 = some ⟨b, off, none⟩ ∧ B ≤ b ∧ b < w.heap.size ∧
    ∀ i, i < l.length → ∃ tv, w.cell? ⟨b, off + i * 2, none⟩ = some (.int .i64 (l.getD i (0, [])).1) ∧ w.cell? ⟨b, off + i * 2 + 1, none⟩ = some tv ∧ StrsAt w tv (l.getD i (0, [])).2 ∧ ∀ c, tv.ownBlock = some c → B ≤ c)
theorem SigsNew.sigs {B : Nat} {w : World} {v : Value} {l : List (Int × List ByteArray)} (h : SigsNew B w v l) : SigsAt w v l := by
  obtain ⟨a0, cap, rfl, h | ⟨b, off, rfl, _, hl, hc⟩⟩ := h
  · exact ⟨a0, cap, rfl, Or.inl h⟩
  · refine ⟨_, cap, rfl, Or.inr ⟨b, off, rfl, hl, fun i hi => ?_⟩⟩
    obtain ⟨tv, h1, h2, h3, _⟩ := hc i hi
    exact ⟨tv, h1, h2, h3⟩
theorem strs_from {B : Nat} {w w' : World} {v : Value} {l : List ByteArray} (h : StrsAt w v l) (hn : ∀ c, v.ownBlock = some c → B ≤ c) (hs : w.heap.size ≤ w'.heap.size) (hb : ∀ c, B ≤ c → c < w.heap.size → w'.heap[c]? = w.heap[c]?) : StrsAt w' v l := by
  obtain ⟨a0, cap, rfl, h | ⟨b, off, rfl, hl, hc⟩⟩ := h
  · exact ⟨a0, cap, rfl, Or.inl h⟩
  · exact ⟨_, cap, rfl, Or.inr ⟨b, off, rfl, Nat.lt_of_lt_of_le hl hs, fun i hi => (World.cell?_of_block (w := w) (a := ⟨b, off + i, none⟩) (hb b (hn b rfl) hl)).trans (hc i hi)⟩⟩
theorem SigsNew.keep {B : Nat} {w w' : World} {v : Value} {l : List (Int × List ByteArray)} (h : SigsNew B w v l) (hs : w.heap.size ≤ w'.heap.size) (hb : ∀ c, B ≤ c → c < w.heap.size → w'.heap[c]? = w.heap[c]?) : SigsNew B w' v l := by
  obtain ⟨a0, cap, rfl, h | ⟨b, off, rfl, hB, hl, hc⟩⟩ := h
  · exact ⟨a0, cap, rfl, Or.inl h⟩
  · refine ⟨_, cap, rfl, Or.inr ⟨b, off, rfl, hB, Nat.lt_of_lt_of_le hl hs, fun i hi => ?_⟩⟩
    obtain ⟨tv, h1, h2, h3, h4⟩ := hc i hi
    exact ⟨tv, (World.cell?_of_block (w := w) (a := ⟨b, off + i * 2, none⟩) (hb b hB hl)).trans h1, (World.cell?_of_block (w := w) (a := ⟨b, off + i * 2 + 1, none⟩) (hb b hB hl)).trans h2, strs_from h3 h4 hs hb, h4⟩
theorem SigsNew.later {B : Nat} {w w' : World} {v : Value} {l : List (Int × List ByteArray)} (h : SigsNew B w v l) (hb : Below w.heap.size w w') : SigsNew B w' v l := h.keep hb.size fun c _ hc => hb.block c hc
theorem SigsNew.mono {B B' : Nat} {w : World} {v : Value} {l : List (Int × List ByteArray)} (h : SigsNew B w v l) (hB : B' ≤ B) : SigsNew B' w v l := by
  obtain ⟨a0, cap, rfl, h | ⟨b, off, rfl, h1, hl, hc⟩⟩ := h
  · exact ⟨a0, cap, rfl, Or.inl h⟩
  · refine ⟨_, cap, rfl, Or.inr ⟨b, off, rfl, Nat.le_trans hB h1, hl, fun i hi => ?_⟩⟩
    obtain ⟨tv, k1, k2, k3, k4⟩ := hc i hi
    exact ⟨tv, k1, k2, k3, fun c hc => Nat.le_trans hB (k4 c hc)⟩
theorem CopiedB.done {M : List Sg} {b o g B cap : Nat} {w0 wr w' : World} {D : Nat → Sg} (h : CopiedB M b o g B M.length w0 wr D) (hB : B ≤ b) (hg : b ≠ g) (hu : Upd g wr w') : SigsNew B w' (.slice (some ⟨b, o, none⟩) M.length cap) (M.map bare) := by
  have hrow := h.row.of_heap (hu.block b hg)
  refine ⟨_, cap, by rw [List.length_map], Or.inr ⟨b, o, rfl, hB, hrow.lt, fun i hi => ?_⟩⟩
  rw [List.length_map] at hi
  rw [getD_map_bare M i hi, ← h.same i hi]
  exact ⟨_, hrow.at0 i hi, hrow.at1 i hi, (strs_upd (h.tags i hi) (Or.inr rfl) hu).1, h.new i hi⟩
theorem CopiedB.on {M : List Sg} {b o g B i : Nat} {w0 wr w' : World} {D : Nat → Sg} (h : CopiedB M b o g B i w0 wr D) (hb : Below wr.heap.size wr w') : CopiedB M b o g B i w0 w' D :=
  ⟨h.new, h.row.below hb, h.same, fun j hj => (h.tags j hj).on hb, h.below.trans (hb.mono h.size), Nat.le_trans h.size hb.size⟩
theorem CopiedB.step {M : List Sg} {b o g B i : Nat} {w0 wr : World} {D : Nat → Sg} (h : CopiedB M b o g B i w0 wr D) (hB : B ≤ b) (hi : i < M.length) (t : Option Addr × Nat) (hn : StrsNot b g wr (.slice t.1 (D i).2.2.length t.2) (D i).2.2) (hw : ∀ c, (Value.slice t.1 (D i).2.2.length t.2).ownBlock = some c → B ≤ c) :
    CopiedB M b o g B (i + 1) w0 (wr.setCell ⟨b, o + i * 2 + 1, none⟩ (.slice t.1 (D i).2.2.length t.2)) (put D i ((D i).1, t, (D i).2.2)) := by
  have hu := Upd.set wr b (o + i * 2 + 1) (.slice t.1 (D i).2.2.length t.2)
  refine ⟨fun j hj => ?_, h.row.set1 i hi t (D i).2.2, fun j hj => ?_, fun j hj => ?_, h.below.trans (hu.below hB), by rw [hu.size]; exact h.size⟩
  · by_cases e : j = i
    · subst e; rw [put_same]; exact hw
    · rw [put_other _ _ e]; exact h.new j (by omega)
  · by_cases e : j = i
    · subst e; rw [put_same]; exact h.same j hj
    · rw [put_other _ _ e]; exact h.same j hj
  · by_cases e : j = i
    · subst e; rw [put_same]; exact strs_upd hn (Or.inl rfl) hu
    · rw [put_other _ _ e]; exact strs_upd (h.tags j hj) (Or.inl rfl) hu
section
variable {P : Program} {ops : Array Oper} {S : World → Prop} {Q : Exit → Act → World → Prop}
end
end JJ
namespace Go.Proofs.YthajnkcipifhcaaGreatDoor
open JJ CC WW BB MM Go.Lib Go.Sort
end Go.Proofs.YthajnkcipifhcaaGreatDoor
