/-
  The walks of a certificate's and a block's bytes.
-/
import Derived.Test.YtlkdogaonjemhaaKWText
import Derived.Lib.Builder
import Derived.Lib.AppendStr
import Derived.Lib.UnsafeStr
import Derived.Lib.MakeNoZero
import Derived.Laws.Externs
import Derived.Shelf.Strings.BuilderX
import Derived.RegionTactic
import Derived.Lib.Walk
import Derived.Lib.Slices
import Derived.Test.YtlkdogaonjemhaaKSlHi
section
open Go Go.RowKit
namespace WW
open BB
theorem isBuilder_on {T e : TypeId} {B b : Nat} {bs : List Value} {w w' : World} (h : Lib.IsBuilder T e B b bs w) (hb : Below w.heap.size w w') : Lib.IsBuilder T e B b bs w' := by
  have key : ∀ p, Lib.BuilderAt T e B b p bs w → Lib.BuilderAt T e B b p bs w' := by
    rintro p ⟨hB, v, hbk, ⟨hl, ho⟩, hne⟩
    have hlt : ∀ k o, w.heap[k]? = some o → k < w.heap.size := fun k o hk => by
      rcases Nat.lt_or_ge k w.heap.size with h | h
      · exact h
      · rw [Array.getElem?_eq_none h] at hk; cases hk
    refine ⟨hB, v, (hb.block b (hlt _ _ hbk)).trans hbk, ⟨hl, ?_⟩, hne⟩
    rcases ho with h0 | ⟨g, cap, cur, h1, h2, h3, h4⟩
    · exact Or.inl h0
    · exact Or.inr ⟨g, cap, cur, h1, h2, (hb.block g (hlt _ _ h3)).trans h3, h4⟩
  rcases h with h | h
  · exact Or.inl (key _ h)
  · exact Or.inr (key _ h)
/-- all bytes, one behind the other -/
def flat (xs : List ByteArray) : List UInt8 := xs.flatMap (·.data.toList)
/-- a list: how many, and each -/
def listL (xs : List ByteArray) : List UInt8 := (be4 xs.length).data.toList ++ flat xs
def listB (xs : List ByteArray) : ByteArray := ⟨(listL xs).toArray⟩
theorem flat_snoc (xs : List ByteArray) (i : Nat) (h : i < xs.length) : flat (xs.take (i + 1)) = flat (xs.take i) ++ (xs.getD i ⟨#[]⟩).data.toList := by
  unfold flat
  rw [List.take_succ_eq_append_getElem h, List.flatMap_append]
  simp [List.getD, List.getElem?_eq_getElem h]
theorem flat_take_le (xs : List ByteArray) (i : Nat) : (flat (xs.take i)).length ≤ (flat xs).length := by
  unfold flat
  conv => rhs; rw [← List.take_append_drop i xs, List.flatMap_append]
  simp
theorem be4_ne (n : Nat) (l : List UInt8) : (be4 n).data.toList ++ l ≠ [] := by simp [be4]
end WW
namespace Go.Proofs.Ytlkdogaonjemhaa
open WW BB
end Go.Proofs.Ytlkdogaonjemhaa
end
section
open Go Go.RowKit
namespace WW
open BB
/-- a signature's bytes -/
def sigB (f : Int) (ts : List ByteArray) : ByteArray := num f ++ listB ts
/-- v is a slice of signatures -/
def SigsAt (w : World) (v : Value) (l : List (Int × List ByteArray)) : Prop :=
  ∃ a0 cap, v = .slice a0 l.length cap ∧ (l = [] ∨ ∃ b off, a0 = some ⟨b, off, none⟩ ∧ b < w.heap.size ∧
    ∀ i, i < l.length → ∃ tv, w.cell? ⟨b, off + i * 2, none⟩ = some (.int .i64 (l.getD i (0, [])).1) ∧ w.cell? ⟨b, off + i * 2 + 1, none⟩ = some tv ∧ StrsAt w tv (l.getD i (0, [])).2)
theorem SigsAt.later {w w' : World} {v : Value} {l : List (Int × List ByteArray)} (h : SigsAt w v l) (hb : Below w.heap.size w w') : SigsAt w' v l := by
  obtain ⟨a0, cap, rfl, h | ⟨b, off, rfl, hl, hc⟩⟩ := h
  · exact ⟨a0, cap, rfl, Or.inl h⟩
  · refine ⟨_, cap, rfl, Or.inr ⟨b, off, rfl, Nat.lt_of_lt_of_le hl hb.size, fun i hi => ?_⟩⟩
    obtain ⟨tv, h1, h2, h3⟩ := hc i hi
    exact ⟨tv, (hb.cell (p := ⟨b, off + i * 2, none⟩) hl).trans h1, (hb.cell (p := ⟨b, off + i * 2 + 1, none⟩) hl).trans h2, h3.later hb⟩
/-- the signatures' bytes -/
def sigsB (l : List (Int × List ByteArray)) : List ByteArray := l.map fun p => sigB p.1 p.2
theorem keep2 {w W w1 : World} {g : Nat} {v0 v1 : Value} {B : Nat} (h : W.cell? ⟨g, 0, none⟩ = some v0 ∧ W.cell? ⟨g, 1, none⟩ = some v1 ∧ Below B w W ∧ B ≤ W.heap.size) (hb : Below W.heap.size W w1) :
    w1.cell? ⟨g, 0, none⟩ = some v0 ∧ w1.cell? ⟨g, 1, none⟩ = some v1 ∧ Below B w w1 ∧ B ≤ w1.heap.size := by
  have hl := World.block_lt_of_cell? W _ h.1
  exact ⟨(hb.cell (p := ⟨g, 0, none⟩) hl).trans h.1, (hb.cell (p := ⟨g, 1, none⟩) hl).trans h.2.1, h.2.2.1.trans (hb.mono h.2.2.2), Nat.le_trans h.2.2.2 hb.size⟩
theorem flat_size (xs : List ByteArray) : (listB xs).size = 4 + (flat xs).length := by
  show (listL xs).toArray.size = _
  rw [List.size_toArray, listL, List.length_append]; rfl
end WW
namespace Go.Proofs.Ytlkdogaonjemhaa
open WW BB
end Go.Proofs.Ytlkdogaonjemhaa
end
section
open Go Go.RowKit
namespace WW
open BB
/-- v is a slice of requests -/
def ReqsAt (w : World) (v : Value) (l : List (Int × Int × ByteArray)) : Prop :=
  ∃ a0 cap, v = .slice a0 l.length cap ∧ (l = [] ∨ ∃ b off, a0 = some ⟨b, off, none⟩ ∧ b < w.heap.size ∧
    ∀ i, i < l.length → w.cell? ⟨b, off + i * 3, none⟩ = some (.int .i64 (l.getD i (0, 0, ⟨#[]⟩)).1) ∧ w.cell? ⟨b, off + i * 3 + 1, none⟩ = some (.int .i64 (l.getD i (0, 0, ⟨#[]⟩)).2.1) ∧ w.cell? ⟨b, off + i * 3 + 2, none⟩ = some (.string (l.getD i (0, 0, ⟨#[]⟩)).2.2))
theorem ReqsAt.later {w w' : World} {v : Value} {l : List (Int × Int × ByteArray)} (h : ReqsAt w v l) (hb : Below w.heap.size w w') : ReqsAt w' v l := by
  obtain ⟨a0, cap, rfl, h | ⟨b, off, rfl, hl, hc⟩⟩ := h
  · exact ⟨a0, cap, rfl, Or.inl h⟩
  · refine ⟨_, cap, rfl, Or.inr ⟨b, off, rfl, Nat.lt_of_lt_of_le hl hb.size, fun i hi => ?_⟩⟩
    obtain ⟨h1, h2, h3⟩ := hc i hi
    exact ⟨(hb.cell (p := ⟨b, off + i * 3, none⟩) hl).trans h1, (hb.cell (p := ⟨b, off + i * 3 + 1, none⟩) hl).trans h2, (hb.cell (p := ⟨b, off + i * 3 + 2, none⟩) hl).trans h3⟩
/-- the requests' bytes -/
def reqsB (l : List (Int × Int × ByteArray)) : List ByteArray := l.map fun p => reqB p.1 p.2.1 p.2.2
end WW
namespace Go.Proofs.Ytlkdogaonjemhaa
open WW BB
end Go.Proofs.Ytlkdogaonjemhaa
end
section
open Go Go.RowKit
namespace WW
open BB
/-- a certificate's bytes -/
def certB (v : Int) (k : ByteArray) (l : List (Int × List ByteArray)) : ByteArray := num v ++ k ++ listB (sigsB l)
/-- a block's bytes -/
def blockB (v p cv : Int) (k : ByteArray) (l : List (Int × List ByteArray)) (m : List (Int × Int × ByteArray)) : ByteArray := num v ++ num p ++ certB cv k l ++ listB (reqsB m)
/-- signatures of a size that is looked at -/
def SmallS (l : List (Int × List ByteArray)) : Prop := l.length ≤ 1000 ∧ (flat (sigsB l)).length ≤ 500000 ∧ ∀ i, i < l.length → (flat (l.getD i (0, [])).2).length ≤ 500000 ∧ (l.getD i (0, [])).2.length ≤ 1000
def SmallR (l : List (Int × Int × ByteArray)) : Prop := l.length ≤ 1000 ∧ (flat (reqsB l)).length ≤ 500000 ∧ ∀ i, i < l.length → (l.getD i (0, 0, ⟨#[]⟩)).2.2.size ≤ 500000
theorem certB_size (v : Int) (k : ByteArray) (l : List (Int × List ByteArray)) : (certB v k l).size = 8 + k.size + (flat (sigsB l)).length := by
  simp only [certB, ByteArray.size_append, num_size, flat_size]; omega
theorem keep6 {w W w1 : World} {g : Nat} {v0 v1 v2 v3 v4 v5 : Value} {B : Nat} (h : W.cell? ⟨g, 0, none⟩ = some v0 ∧ W.cell? ⟨g, 1, none⟩ = some v1 ∧ W.cell? ⟨g, 2, none⟩ = some v2 ∧ W.cell? ⟨g, 3, none⟩ = some v3 ∧ W.cell? ⟨g, 4, none⟩ = some v4 ∧ W.cell? ⟨g, 5, none⟩ = some v5 ∧ Below B w W ∧ B ≤ W.heap.size) (hb : Below W.heap.size W w1) :
    w1.cell? ⟨g, 0, none⟩ = some v0 ∧ w1.cell? ⟨g, 1, none⟩ = some v1 ∧ w1.cell? ⟨g, 2, none⟩ = some v2 ∧ w1.cell? ⟨g, 3, none⟩ = some v3 ∧ w1.cell? ⟨g, 4, none⟩ = some v4 ∧ w1.cell? ⟨g, 5, none⟩ = some v5 ∧ Below B w w1 ∧ B ≤ w1.heap.size := by
  obtain ⟨h0, h1, h2, h3, h4, h5, h6, h7⟩ := h
  have hl := World.block_lt_of_cell? W _ h0
  exact ⟨(hb.cell (p := ⟨g, 0, none⟩) hl).trans h0, (hb.cell (p := ⟨g, 1, none⟩) hl).trans h1, (hb.cell (p := ⟨g, 2, none⟩) hl).trans h2, (hb.cell (p := ⟨g, 3, none⟩) hl).trans h3, (hb.cell (p := ⟨g, 4, none⟩) hl).trans h4, (hb.cell (p := ⟨g, 5, none⟩) hl).trans h5, h6.trans (hb.mono h7), Nat.le_trans h7 hb.size⟩
end WW
namespace Go.Proofs.Ytlkdogaonjemhaa
open WW BB
end Go.Proofs.Ytlkdogaonjemhaa
end
