/-
  Blocks with their digests in memory, each by seven cells; and a forest of the reference. No program is named here.
-/
import Derived.Test.YtphlpgdbngbplaaKGMath
import Derived.Test.YtphlpgdbngbplaaKWFewB
import Derived.Test.YtphlpgdbngbplaaKLNum
import Derived.Laws.AppendOwn
open Go Go.RowKit
namespace FF
open WW BB
/-- an item, with its two slices -/
abbrev Iv := It × Value × Value
def v0 : Iv := (i0, .slice none 0 0, .slice none 0 0)
def encV (x : Iv) : List Value := [.string x.1.1, .int .i64 (viewI x.1.2), .int .i64 (propI x.1.2), .int .i64 (jvI x.1.2), .string (parI x.1.2), x.2.1, x.2.2]
/-- its two slices are what they should be -/
def InnV (w : World) (x : Iv) : Prop := SigsAt w x.2.1 (sigsI x.1.2) ∧ ReqsAt w x.2.2 x.1.2.2
theorem InnV.later {w w' : World} {x : Iv} (h : InnV w x) (hb : Below w.heap.size w w') : InnV w' x := ⟨h.1.later hb, h.2.later hb⟩
/-- v is a slice of the items L -/
def IvAt (w : World) (v : Value) (L : List Iv) : Prop :=
  ∃ a0 cap, v = .slice a0 L.length cap ∧ (L = [] ∨ ∃ b off, a0 = some ⟨b, off, none⟩ ∧ b < w.heap.size ∧
    ∀ i, i < L.length → (∀ j u, (encV (L.getD i v0))[j]? = some u → w.cell? ⟨b, off + i * 7 + j, none⟩ = some u) ∧ InnV w (L.getD i v0))
theorem IvAt.later {w w' : World} {v : Value} {L : List Iv} (h : IvAt w v L) (hb : Below w.heap.size w w') : IvAt w' v L := by
  obtain ⟨a0, cap, rfl, h | ⟨b, off, rfl, hl, hc⟩⟩ := h
  · exact ⟨a0, cap, rfl, Or.inl h⟩
  · refine ⟨_, cap, rfl, Or.inr ⟨b, off, rfl, Nat.lt_of_lt_of_le hl hb.size, fun i hi => ?_⟩⟩
    obtain ⟨h1, h2⟩ := hc i hi
    exact ⟨fun j u hu => (hb.cell (p := ⟨b, off + i * 7 + j, none⟩) hl).trans (h1 j u hu), h2.later hb⟩
theorem iv_nil (w : World) (a : Option Addr) (c : Nat) : IvAt w (.slice a 0 c) [] := ⟨a, c, rfl, Or.inl rfl⟩
theorem iv_shape {w : World} {v : Value} {L : List Iv} (h : IvAt w v L) : ∃ a c, v = .slice a L.length c := by
  obtain ⟨a, c, rfl, _⟩ := h; exact ⟨a, c, rfl⟩
theorem iv_inn {w : World} {v : Value} {L : List Iv} (h : IvAt w v L) : ∀ x ∈ L, InnV w x := by
  intro x hx
  obtain ⟨a0, cap, rfl, h | ⟨b, off, rfl, hl, hc⟩⟩ := h
  · subst h; cases hx
  · obtain ⟨i, hi, rfl⟩ := List.getElem_of_mem hx
    have := (hc i hi).2
    rwa [show L.getD i v0 = L[i] by simp [List.getD, List.getElem?_eq_getElem hi]] at this
/-- an item's seven cells, spelled out -/
theorem iv_cells {w wr : World} {L : List Iv} {b off : Nat} (hb : Below w.heap.size w wr) (hl : b < w.heap.size) (hc : ∀ i, i < L.length → (∀ j u, (encV (L.getD i v0))[j]? = some u → w.cell? ⟨b, off + i * 7 + j, none⟩ = some u) ∧ InnV w (L.getD i v0)) (i : Nat) (hi : i < L.length) :
    wr.cell? ⟨b, off + i * 7, none⟩ = some (.string (L.getD i v0).1.1) ∧ wr.cell? ⟨b, off + i * 7 + 1, none⟩ = some (.int .i64 (viewI (L.getD i v0).1.2)) ∧ wr.cell? ⟨b, off + i * 7 + 2, none⟩ = some (.int .i64 (propI (L.getD i v0).1.2)) ∧ wr.cell? ⟨b, off + i * 7 + 3, none⟩ = some (.int .i64 (jvI (L.getD i v0).1.2)) ∧ wr.cell? ⟨b, off + i * 7 + 4, none⟩ = some (.string (parI (L.getD i v0).1.2)) ∧ wr.cell? ⟨b, off + i * 7 + 5, none⟩ = some (L.getD i v0).2.1 ∧ wr.cell? ⟨b, off + i * 7 + 6, none⟩ = some (L.getD i v0).2.2 := by
  have h := (hc i hi).1
  have k : ∀ j u, (encV (L.getD i v0))[j]? = some u → wr.cell? ⟨b, off + i * 7 + j, none⟩ = some u := fun j u hu => (hb.cell (p := ⟨b, off + i * 7 + j, none⟩) hl).trans (h j u hu)
  exact ⟨k 0 _ rfl, k 1 _ rfl, k 2 _ rfl, k 3 _ rfl, k 4 _ rfl, k 5 _ rfl, k 6 _ rfl⟩
theorem map_getD (L : List Iv) (i : Nat) (h : i < L.length) : (L.map Prod.fst).getD i i0 = (L.getD i v0).1 := by
  simp [List.getD, List.getElem?_eq_getElem h]
/-- the cells of items -/
def cellsV (L : List Iv) : List Value := (L.map encV).flatten
theorem cellsV_snoc (L : List Iv) (x : Iv) : cellsV (L ++ [x]) = cellsV L ++ encV x := by unfold cellsV; rw [List.map_append, List.flatten_append]; simp
theorem cellsV_len (L : List Iv) : (cellsV L).length = L.length * 7 := by
  induction L with
  | nil => rfl
  | cons x r ih => show (encV x ++ cellsV r).length = _; rw [List.length_append, ih, List.length_cons]; simp [encV]; omega
theorem cellsV_at : ∀ (L : List Iv) (i j : Nat) (u : Value), i < L.length → (encV (L.getD i v0))[j]? = some u → (cellsV L)[i * 7 + j]? = some u
  | [], i, j, u, h, _ => by simp at h
  | x :: r, 0, j, u, _, hu => by
    show (encV x ++ cellsV r)[0 * 7 + j]? = some u
    have hu' : (encV x)[j]? = some u := hu
    have hj : j < (encV x).length := (List.getElem?_eq_some_iff.1 hu').1
    rw [Nat.zero_mul, Nat.zero_add, List.getElem?_append_left hj]; exact hu'
  | x :: r, i + 1, j, u, h, hu => by
    show (encV x ++ cellsV r)[(i + 1) * 7 + j]? = some u
    have hx : (encV x).length = 7 := rfl
    rw [show (i + 1) * 7 + j = 7 + (i * 7 + j) by omega, List.getElem?_append_right (by omega), hx, Nat.add_sub_cancel_left]
    exact cellsV_at r i j u (by simpa using h) (by simpa [List.getD] using hu)
theorem iv_of_own {w : World} {B : Nat} {e : TypeId} {v : Value} {L : List Iv} (h : w.ownsRow B e 7 v L.length (cellsV L)) (hi : ∀ x ∈ L, InnV w x) : IvAt w v L := by
  rcases h.2 with ⟨rfl, h0⟩ | ⟨g, cap, cur, rfl, hg, hh, hn, hcm, hsz, htk⟩
  · exact ⟨none, 0, by rw [h0], Or.inl (List.eq_nil_of_length_eq_zero h0)⟩
  · have hcell : ∀ j u, j < L.length * 7 → (cellsV L)[j]? = some u → w.cell? ⟨g, j, none⟩ = some u := fun j u hj hu => by
      rw [← htk, List.getElem?_take_of_lt hj, Array.getElem?_toList] at hu
      unfold World.cell?; rw [hh]; simpa using hu
    refine ⟨_, cap, rfl, Or.inr ⟨g, 0, rfl, (Array.getElem?_eq_some_iff.1 hh).1, fun i hil => ⟨fun j u hu => ?_, ?_⟩⟩⟩
    · have hj : j < 7 := (List.getElem?_eq_some_iff.1 hu).1
      rw [Nat.zero_add]
      exact hcell _ _ (by omega) (cellsV_at L i j u hil hu)
    · exact hi _ (by rw [List.getD_eq_getElem?_getD, List.getElem?_eq_getElem hil]; exact List.getElem_mem hil)
theorem cells1_new (w : World) (h : ByteArray) (t : TypeId) : ∀ j u, [Value.string h][j]? = some u → (w.alloc (.cells #[.string h] t)).cell? ((⟨w.heap.size, 0, none⟩ : Addr).add j) = some u := by
  intro j u hj
  match j, hj with
  | 0, hj => simp at hj; subst hj; rw [Addr.add_lit]; exact cell_new w _ t 0 _ rfl
  | j + 1, hj => simp at hj
theorem cells1_one (h : ByteArray) : ∀ u ∈ [Value.string h], u.oneCell' = true := by
  intro u hu; simp at hu; subst hu; rfl
/-- a slice that shows its constructor -/
def isSl (v : Value) : Prop := ∃ a n c, v = .slice a n c
theorem sl_of_sigs {w : World} {v : Value} {l : List (Int × List ByteArray)} (h : SigsAt w v l) : ∃ a c, v = .slice a l.length c := by
  obtain ⟨a, c, rfl, _⟩ := h; exact ⟨a, c, rfl⟩
theorem sl_of_reqs {w : World} {v : Value} {l : List (Int × Int × ByteArray)} (h : ReqsAt w v l) : ∃ a c, v = .slice a l.length c := by
  obtain ⟨a, c, rfl, _⟩ := h; exact ⟨a, c, rfl⟩
theorem encV_one {w : World} {x : Iv} (h : InnV w x) : ∀ u ∈ encV x, u.oneCell' = true := by
  obtain ⟨a1, c1, h1⟩ := sl_of_sigs h.1
  obtain ⟨a2, c2, h2⟩ := sl_of_reqs h.2
  intro u hu
  unfold encV at hu
  rw [h1, h2] at hu
  simp only [List.mem_cons, List.not_mem_nil, or_false] at hu
  rcases hu with rfl | rfl | rfl | rfl | rfl | rfl | rfl <;> rfl
theorem cellsV_one {w : World} {L : List Iv} (h : ∀ x ∈ L, InnV w x) : ∀ u ∈ cellsV L, u.oneCell' = true := by
  intro u hu
  unfold cellsV at hu
  rw [List.mem_flatten] at hu
  obtain ⟨c, hc, hu⟩ := hu
  obtain ⟨x, hx, rfl⟩ := List.mem_map.1 hc
  exact encV_one (h x hx) u hu
/-- the forest F, by its two slices -/
def FoAt (w : World) (F : Fo) (nv ov : Value) : Prop := ∃ N O : List Iv, N.map Prod.fst = F.nodes ∧ O.map Prod.fst = F.orph ∧ IvAt w nv N ∧ IvAt w ov O
theorem FoAt.later {w w' : World} {F : Fo} {nv ov : Value} (h : FoAt w F nv ov) (hb : Below w.heap.size w w') : FoAt w' F nv ov := by
  obtain ⟨N, O, h1, h2, h3, h4⟩ := h
  exact ⟨N, O, h1, h2, h3.later hb, h4.later hb⟩
end FF
