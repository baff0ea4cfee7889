/-
  Blocks with their digests in memory, each by seven cells; and a forest of the reference. No program is named here.
-/
import Derived.Test.YthajnkcipifhcaaGreatDoorKRState
import Derived.Test.YthajnkcipifhcaaGreatDoorKWFew
import Derived.Test.YthajnkcipifhcaaGreatDoorKLNum
import Derived.Laws.AppendOwn
open Go Go.RowKit
namespace FF
open WW BB
/-- an item, with its two slices -/
abbrev Iv := It × Value × Value
def v0 : Iv := (i0, .slice none 0 0, .slice none 0 0)
def encV (x : Iv) : List Value := [.string x.1.1, .int .i64 (viewI x.1.2), .int .i64 (propI x.1.2), .int .i64 (jvI x.1.2), .string (parI x.1.2), x.2.1, x.2.2]
/-- its two slices are what they should be -/
def InnV (w : World) (x : Iv) : Prop := SigsAt w x.2.1 (sigsI x.1.2) ∧ ReqsAt w x.2.2 x.1.2.2
theorem InnV.later {w w' : World} {x : Iv} (h : InnV w x) (hb : Below w.heap.size w w') : InnV w' x := ⟨h.1.later hb, h.2.later hb⟩
/-- v is a slice of the items L -/
def IvAt (w : World) (v : Value) (L : List Iv) : Prop :=
  ∃ a0 cap, v = .slice a0 L.length cap ∧ (L = [] ∨ ∃ b off, a0 = some ⟨b, off, none⟩ ∧ b < w.heap.size ∧
    ∀ i, i < L.length → (∀ j u, (encV (L.getD i v0))[j]? = some u → w.cell? ⟨b, off + i * 7 + j, none⟩ = some u) ∧ InnV w (L.getD i v0))
theorem IvAt.later {w w' : World} {v : Value} {L : List Iv} (h : IvAt w v L) (hb : Below w.heap.size w w') : IvAt w' v L := by
  obtain ⟨a0, cap, rfl, h | ⟨b, off, rfl, hl, hc⟩⟩ := h
  · exact ⟨a0, cap, rfl, Or.inl h⟩
  · refine ⟨_, cap, rfl, Or.inr ⟨b, off, rfl, Nat.lt_of_lt_of_le hl hb.size, fun i hi => ?_⟩⟩
    obtain ⟨h1, h2⟩ := hc i hi
    exact ⟨fun j u hu => (hb.cell (p := ⟨b, off + i * 7 + j, none⟩) hl).trans (h1 j u hu), h2.later hb⟩
/-- the cells of items -/
def cellsV (L : List Iv) : List Value := (L.map encV).flatten
theorem sl_of_sigs {w : World} {v : Value} {l : List (Int × List ByteArray)} (h : SigsAt w v l) : ∃ a c, v = .slice a l.length c := by
  obtain ⟨a, c, rfl, _⟩ := h; exact ⟨a, c, rfl⟩
theorem sl_of_reqs {w : World} {v : Value} {l : List (Int × Int × ByteArray)} (h : ReqsAt w v l) : ∃ a c, v = .slice a l.length c := by
  obtain ⟨a, c, rfl, _⟩ := h; exact ⟨a, c, rfl⟩
/-- the forest F, by its two slices -/
def FoAt (w : World) (F : Fo) (nv ov : Value) : Prop := ∃ N O : List Iv, N.map Prod.fst = F.nodes ∧ O.map Prod.fst = F.orph ∧ IvAt w nv N ∧ IvAt w ov O
theorem FoAt.later {w w' : World} {F : Fo} {nv ov : Value} (h : FoAt w F nv ov) (hb : Below w.heap.size w w') : FoAt w' F nv ov := by
  obtain ⟨N, O, h1, h2, h3, h4⟩ := h
  exact ⟨N, O, h1, h2, h3.later hb, h4.later hb⟩
end FF
