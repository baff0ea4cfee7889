/-
  Slices of blocks that are put behind one another in a new row; what rests upon blocks that stay. No program is named here.
-/
import Derived.Test.YtnahebfhhcebpaaKGIdx
import Derived.Test.YtnahebfhhcebpaaKPlanE
import Derived.Test.YtnahebfhhcebpaaKPlanT
import Derived.Test.YtnahebfhhcebpaaKFPutB
import Derived.Test.YtnahebfhhcebpaaKJCopy
import Derived.ArgAppend
import Derived.Maps.AppendAt
import Derived.Test.YtnahebfhhcebpaaKFAt
import Derived.Test.YtnahebfhhcebpaaKERefS
import Derived.Test.YtnahebfhhcebpaaKJUnlike
import Derived.Test.YtnahebfhhcebpaaKFAdopt
import Derived.Test.YtnahebfhhcebpaaKEText
import Derived.Test.YtnahebfhhcebpaaKJLawD
import Derived.Test.YtnahebfhhcebpaaKJRow
section
open Go Go.RowKit
namespace FF
open WW BB
/-- strings in a row of the call's own, so many orphans being through -/
structure LkSt (w0 : World) (e : TypeId) (out : List ByteArray) (x : Value) (wr : World) : Prop where
  below : Below w0.heap.size w0 wr
  row : wr.ownsRow w0.heap.size e 1 x out.length (out.map Value.string)
theorem LkSt.shape {w0 : World} {e : TypeId} {out : List ByteArray} {x : Value} {wr : World} (h : LkSt w0 e out x wr) : ∃ a c, x = .slice a out.length c := by
  rcases h.row.2 with ⟨rfl, h0⟩ | ⟨q, cp, cur, rfl, _⟩
  · exact ⟨none, 0, by rw [h0]⟩
  · exact ⟨_, _, rfl⟩
theorem LkSt.on {w0 : World} {e : TypeId} {out : List ByteArray} {x : Value} {wr w2 : World} (h : LkSt w0 e out x wr) (hb : Below wr.heap.size wr w2) : LkSt w0 e out x w2 :=
  ⟨h.below.trans (hb.mono h.below.size), row_keep h.row fun c hc => hb.block c (h.row.lt c hc).2⟩
theorem LkSt.add {w0 : World} {e : TypeId} {out : List ByteArray} {x u' : Value} {wr w3 : World} (h : LkSt w0 e out x wr) (p : ByteArray) (hr : w3.ownsRow w0.heap.size e 1 u' (out.length + 1) (out.map Value.string ++ [.string p])) (hg : wr.grownBy w3 x.ownBlock) : LkSt w0 e (out ++ [p]) u' w3 :=
  ⟨h.below.grown hg h.below.size fun k hk => (h.row.lt k hk).1, by rw [List.length_append, List.map_append]; exact hr⟩
theorem LkSt.nil (w : World) (e : TypeId) : LkSt w e [] (.slice none 0 0) w := ⟨Below.refl _ _, World.ownsRow_nil _ _ _ _⟩
theorem map_take_snoc (O : List Iv) (i : Nat) (hi : i < O.length) : (O.take (i + 1)).map (fun z => z.1.1) = (O.take i).map (fun z => z.1.1) ++ [(O.getD i v0).1.1] := by
  rw [List.take_add_one, List.getElem?_eq_getElem hi, List.map_append, getD_at hi]; rfl
end FF
namespace Go.Proofs.Ytnahebfhhcebpaa
open FF JJ CC MM WW BB
end Go.Proofs.Ytnahebfhhcebpaa
end
section
open Go Go.RowKit
namespace FF
open JJ CC WW BB MM
/-- a block with its two slices -/
abbrev Bv := BlockD × Value × Value
def bd0 : BlockD := (((0, 0), ((0, ⟨#[]⟩), [])), [])
def vb0 : Bv := (bd0, .slice none 0 0, .slice none 0 0)
def encB (x : Bv) : List Value := [.int .i64 (viewI x.1), .int .i64 (propI x.1), .int .i64 (jvI x.1), .string (parI x.1), x.2.1, x.2.2]
def InnB (w : World) (x : Bv) : Prop := SigsAt w x.2.1 (sigsI x.1) ∧ ReqsAt w x.2.2 x.1.2
theorem InnB.later {w w' : World} {x : Bv} (h : InnB w x) (hb : Below w.heap.size w w') : InnB w' x := ⟨h.1.later hb, h.2.later hb⟩
/-- v is a slice of the blocks L -/
def BvAt (w : World) (v : Value) (L : List Bv) : Prop :=
  ∃ a0 cap, v = .slice a0 L.length cap ∧ (L = [] ∨ ∃ b off, a0 = some ⟨b, off, none⟩ ∧ b < w.heap.size ∧
    ∀ i, i < L.length → (∀ j u, (encB (L.getD i vb0))[j]? = some u → w.cell? ⟨b, off + i * 6 + j, none⟩ = some u) ∧ InnB w (L.getD i vb0))
theorem BvAt.later {w w' : World} {v : Value} {L : List Bv} (h : BvAt w v L) (hb : Below w.heap.size w w') : BvAt w' v L := by
  obtain ⟨a0, cap, rfl, h | ⟨b, off, rfl, hl, hc⟩⟩ := h
  · exact ⟨a0, cap, rfl, Or.inl h⟩
  · refine ⟨_, cap, rfl, Or.inr ⟨b, off, rfl, Nat.lt_of_lt_of_le hl hb.size, fun i hi => ?_⟩⟩
    obtain ⟨h1, h2⟩ := hc i hi
    exact ⟨fun j u hu => (hb.cell (p := ⟨b, off + i * 6 + j, none⟩) hl).trans (h1 j u hu), h2.later hb⟩
theorem bv_shape {w : World} {v : Value} {L : List Bv} (h : BvAt w v L) : ∃ a c, v = .slice a L.length c := by
  obtain ⟨a, c, rfl, _⟩ := h; exact ⟨a, c, rfl⟩
/-- where the blocks lie -/
theorem bv_at {w : World} {a0 : Option Addr} {n c : Nat} {L : List Bv} (h : BvAt w (.slice a0 n c) L) (i : Nat) (hi : i < L.length) : ∃ b off, a0 = some ⟨b, off, none⟩ ∧ b < w.heap.size ∧ n = L.length ∧
    ∀ wr, Below w.heap.size w wr → ∀ i, i < L.length → wr.cell? ⟨b, off + i * 6, none⟩ = some (.int .i64 (viewI (L.getD i vb0).1)) ∧ wr.cell? ⟨b, off + i * 6 + 1, none⟩ = some (.int .i64 (propI (L.getD i vb0).1)) ∧ wr.cell? ⟨b, off + i * 6 + 2, none⟩ = some (.int .i64 (jvI (L.getD i vb0).1)) ∧
      wr.cell? ⟨b, off + i * 6 + 3, none⟩ = some (.string (parI (L.getD i vb0).1)) ∧ wr.cell? ⟨b, off + i * 6 + 4, none⟩ = some (L.getD i vb0).2.1 ∧ wr.cell? ⟨b, off + i * 6 + 5, none⟩ = some (L.getD i vb0).2.2 ∧ InnB wr (L.getD i vb0) := by
  obtain ⟨a1, c1, he, h | ⟨b, off, h1, hl, hc⟩⟩ := h
  · subst h; simp at hi
  · injection he with e1 e2 _
    subst e1 h1
    refine ⟨b, off, rfl, hl, e2, fun wr hb i hi => ?_⟩
    obtain ⟨h1, h2⟩ := hc i hi
    have k : ∀ j u, (encB (L.getD i vb0))[j]? = some u → wr.cell? ⟨b, off + i * 6 + j, none⟩ = some u := fun j u hu => (hb.cell (p := ⟨b, off + i * 6 + j, none⟩) hl).trans (h1 j u hu)
    exact ⟨k 0 _ rfl, k 1 _ rfl, k 2 _ rfl, k 3 _ rfl, k 4 _ rfl, k 5 _ rfl, h2.later hb⟩
def cellsB (L : List Bv) : List Value := (L.map encB).flatten
theorem cellsB_snoc (L : List Bv) (x : Bv) : cellsB (L ++ [x]) = cellsB L ++ encB x := by unfold cellsB; rw [List.map_append, List.flatten_append]; simp
theorem cellsB_len (L : List Bv) : (cellsB L).length = L.length * 6 := by
  induction L with
  | nil => rfl
  | cons x r ih => show (encB x ++ cellsB r).length = _; rw [List.length_append, ih, List.length_cons]; simp [encB]; omega
theorem cellsB_at : ∀ (L : List Bv) (i j : Nat) (u : Value), i < L.length → (encB (L.getD i vb0))[j]? = some u → (cellsB L)[i * 6 + j]? = some u
  | [], i, j, u, h, _ => by simp at h
  | x :: r, 0, j, u, _, hu => by
    show (encB x ++ cellsB r)[0 * 6 + j]? = some u
    have hu' : (encB x)[j]? = some u := hu
    have hj : j < (encB x).length := (List.getElem?_eq_some_iff.1 hu').1
    rw [Nat.zero_mul, Nat.zero_add, List.getElem?_append_left hj]; exact hu'
  | x :: r, i + 1, j, u, h, hu => by
    show (encB x ++ cellsB r)[(i + 1) * 6 + j]? = some u
    have hx : (encB x).length = 6 := rfl
    rw [show (i + 1) * 6 + j = 6 + (i * 6 + j) by omega, List.getElem?_append_right (by omega), hx, Nat.add_sub_cancel_left]
    exact cellsB_at r i j u (by simpa using h) (by simpa [List.getD] using hu)
theorem bv_of_own {w : World} {B : Nat} {e : TypeId} {v : Value} {L : List Bv} (h : w.ownsRow B e 6 v L.length (cellsB L)) (hi : ∀ x ∈ L, InnB w x) : BvAt w v L := by
  rcases h.2 with ⟨rfl, h0⟩ | ⟨g, cap, cur, rfl, hg, hh, hn, hcm, hsz, htk⟩
  · exact ⟨none, 0, by rw [h0], Or.inl (List.eq_nil_of_length_eq_zero h0)⟩
  · have hcell : ∀ j u, j < L.length * 6 → (cellsB L)[j]? = some u → w.cell? ⟨g, j, none⟩ = some u := fun j u hj hu => by
      rw [← htk, List.getElem?_take_of_lt hj, Array.getElem?_toList] at hu
      unfold World.cell?; rw [hh]; simpa using hu
    refine ⟨_, cap, rfl, Or.inr ⟨g, 0, rfl, (Array.getElem?_eq_some_iff.1 hh).1, fun i hil => ⟨fun j u hu => ?_, ?_⟩⟩⟩
    · have hj : j < 6 := (List.getElem?_eq_some_iff.1 hu).1
      rw [Nat.zero_add]
      exact hcell _ _ (by omega) (cellsB_at L i j u hil hu)
    · exact hi _ (by rw [getD_at hil]; exact List.getElem_mem hil)
/-- v is a slice of threes of bytes -/
def TriAt (w : World) (v : Value) (l : List (Nat × Nat × Nat)) : Prop :=
  ∃ a0 cap, v = .slice a0 l.length cap ∧ (l = [] ∨ ∃ b off, a0 = some ⟨b, off, none⟩ ∧ b < w.heap.size ∧
    ∀ i, i < l.length → w.cell? ⟨b, off + i * 3, none⟩ = some (.int .u8 ((l.getD i (0, 0, 0)).1 : Int)) ∧ w.cell? ⟨b, off + i * 3 + 1, none⟩ = some (.int .u8 ((l.getD i (0, 0, 0)).2.1 : Int)) ∧ w.cell? ⟨b, off + i * 3 + 2, none⟩ = some (.int .u8 ((l.getD i (0, 0, 0)).2.2 : Int)))
theorem TriAt.later {w w' : World} {v : Value} {l : List (Nat × Nat × Nat)} (h : TriAt w v l) (hb : Below w.heap.size w w') : TriAt w' v l := by
  obtain ⟨a0, cap, rfl, h | ⟨b, off, rfl, hl, hc⟩⟩ := h
  · exact ⟨a0, cap, rfl, Or.inl h⟩
  · refine ⟨_, cap, rfl, Or.inr ⟨b, off, rfl, Nat.lt_of_lt_of_le hl hb.size, fun i hi => ?_⟩⟩
    obtain ⟨h1, h2, h3⟩ := hc i hi
    exact ⟨(hb.cell (p := ⟨b, off + i * 3, none⟩) hl).trans h1, (hb.cell (p := ⟨b, off + i * 3 + 1, none⟩) hl).trans h2, (hb.cell (p := ⟨b, off + i * 3 + 2, none⟩) hl).trans h3⟩
/-- one block more of a chain -/
def nextB (out : List BlockD) (i : Nat) (t : Nat × Nat × Nat) : BlockD :=
  let q := t.2.1 % (i + 1)
  let cv := if 0 < q then viewI (out.getD (q - 1) bd0) else 0
  let cd := if 0 < q then digI (out.getD (q - 1) bd0) else firstD
  (((cv + 1 + ((t.1 % 4 : Nat) : Int), 0), ((cv, cd), [])), [(((t.2.2 % 4 : Nat) : Int), 1 + (i : Int), ⟨#[]⟩)])
def chainL (l : List (Nat × Nat × Nat)) : Nat → List BlockD
  | 0 => []
  | i + 1 => chainL l i ++ [nextB (chainL l i) i (l.getD i (0, 0, 0))]
theorem chain_len (l : List (Nat × Nat × Nat)) : ∀ i, (chainL l i).length = i
  | 0 => rfl
  | i + 1 => by rw [chainL, List.length_append, chain_len l i]; rfl
theorem chain_views (l : List (Nat × Nat × Nat)) : ∀ (i j : Nat), 0 ≤ viewI ((chainL l i).getD j bd0) ∧ viewI ((chainL l i).getD j bd0) ≤ 4 * (i : Int)
  | 0, j => by simp [chainL, bd0, viewI]
  | i + 1, j => by
    rw [chainL]
    by_cases hj : j < i
    · rw [List.getD_eq_getElem?_getD, List.getElem?_append_left (by rw [chain_len]; exact hj), ← List.getD_eq_getElem?_getD]
      have := chain_views l i j
      omega
    · by_cases e : j = i
      · subst e
        rw [List.getD_eq_getElem?_getD, List.getElem?_append_right (by rw [chain_len]; exact Nat.le_refl _), chain_len, Nat.sub_self]
        show 0 ≤ viewI (nextB _ _ _) ∧ viewI (nextB _ _ _) ≤ _
        unfold nextB viewI
        simp only
        split
        · have h1 := chain_views l j ((l.getD j (0, 0, 0)).2.1 % (j + 1) - 1)
          unfold viewI at h1
          omega
        · omega
      · rw [List.getD_eq_getElem?_getD, List.getElem?_eq_none (by simp [chain_len]; omega)]
        simp [bd0, viewI]; omega
theorem chain_small (l : List (Nat × Nat × Nat)) : ∀ i, ∀ x ∈ chainL l i, SmallI x ∧ sigsI x = [] ∧ propI x = 0
  | 0, x, hx => by cases hx
  | i + 1, x, hx => by
    rcases List.mem_append.1 hx with hx | hx
    · exact chain_small l i x hx
    · obtain rfl : x = nextB (chainL l i) i (l.getD i (0, 0, 0)) := by simpa using hx
      refine ⟨⟨?_, ⟨by show (0 : Nat) ≤ 1000; omega, by show (0 : Nat) ≤ 500000; omega, fun j hj => absurd hj (Nat.not_lt_zero j)⟩, ⟨by show (1 : Nat) ≤ 1000; omega, by show (12 : Nat) ≤ 500000; omega, fun j hj => ?_⟩⟩, rfl, rfl⟩
      · unfold nextB parI
        simp only
        split
        · rw [show (digI _).size = 32 from digD_size _ _ _ _ _]; omega
        · rw [firstD_size]; omega
      · obtain rfl : j = 0 := by have : j < 1 := hj; omega
        show (0 : Nat) ≤ 500000; omega
theorem own_apart' {e e' : TypeId} {w : World} {B B' c c' : Nat} {v v' : Value} {n n' : Nat} {xs xs' : List Value} (h : w.ownsRow B e c v n xs) (h' : w.ownsRow B' e' c' v' n' xs') (hne : e ≠ e') : ∀ b, v'.ownBlock = some b → some b ≠ v.ownBlock := by
  intro b hb he
  rcases h.2 with ⟨rfl, _⟩ | ⟨g, cap, cur, rfl, _, hh, _⟩
  · cases he
  · rcases h'.2 with ⟨rfl, _⟩ | ⟨g', cap', cur', rfl, _, hh', _⟩
    · cases hb
    · simp only [Value.ownBlock, Option.some.injEq] at hb he
      have hgg : g' = g := by omega
      rw [hgg, hh] at hh'
      injection hh' with hh'
      injection hh' with _ h2 _
      exact hne h2
/-- the chain so far: a row of blocks, each one's request in a row of its own -/
structure ChSt (w0 : World) (tB tQ : TypeId) (L : List Bv) (x : Value) (wr : World) : Prop where
  below : Below w0.heap.size w0 wr
  row : wr.ownsRow w0.heap.size tB 6 x L.length (cellsB L)
  reqs : ∀ y ∈ L, y.2.1 = .slice none 0 0 ∧ sigsI y.1 = [] ∧ wr.ownsRow w0.heap.size tQ 3 y.2.2 y.1.2.length (cellsR y.1.2)
theorem ChSt.on {w0 : World} {tB tQ : TypeId} {L : List Bv} {x : Value} {wr w2 : World} (h : ChSt w0 tB tQ L x wr) (hb : Below wr.heap.size wr w2) : ChSt w0 tB tQ L x w2 :=
  ⟨h.below.trans (hb.mono h.below.size), row_keep h.row fun c hc => hb.block c (h.row.lt c hc).2, fun y hy => ⟨(h.reqs y hy).1, (h.reqs y hy).2.1, row_keep (h.reqs y hy).2.2 fun c hc => hb.block c ((h.reqs y hy).2.2.lt c hc).2⟩⟩
theorem ChSt.inn {w0 : World} {tB tQ : TypeId} {L : List Bv} {x : Value} {wr : World} (h : ChSt w0 tB tQ L x wr) : ∀ y ∈ L, InnB wr y := fun y hy => by
  obtain ⟨h1, h2, h3⟩ := h.reqs y hy
  exact ⟨by rw [h1, h2]; exact ⟨none, 0, rfl, Or.inl rfl⟩, reqs_of_own h3⟩
theorem ChSt.bv {w0 : World} {tB tQ : TypeId} {L : List Bv} {x : Value} {wr : World} (h : ChSt w0 tB tQ L x wr) : BvAt wr x L := bv_of_own h.row h.inn
theorem ChSt.shape {w0 : World} {tB tQ : TypeId} {L : List Bv} {x : Value} {wr : World} (h : ChSt w0 tB tQ L x wr) : ∃ a c, x = .slice a L.length c := bv_shape h.bv
theorem ChSt.add {w0 : World} {tB tQ : TypeId} (ht : tB ≠ tQ) {L : List Bv} {x u' : Value} {wr w3 : World} (h : ChSt w0 tB tQ L x wr) (y : Bv) (hy : y.2.1 = .slice none 0 0 ∧ sigsI y.1 = [] ∧ wr.ownsRow w0.heap.size tQ 3 y.2.2 y.1.2.length (cellsR y.1.2))
    (hr : w3.ownsRow w0.heap.size tB 6 u' (L.length + 1) (cellsB L ++ encB y)) (hg : wr.grownBy w3 x.ownBlock) : ChSt w0 tB tQ (L ++ [y]) u' w3 := by
  have hk : ∀ z : Bv, wr.ownsRow w0.heap.size tQ 3 z.2.2 z.1.2.length (cellsR z.1.2) → w3.ownsRow w0.heap.size tQ 3 z.2.2 z.1.2.length (cellsR z.1.2) := fun z hz =>
    row_keep hz fun c hc => hg.block c (hz.lt c hc).2 (own_apart' h.row hz ht c hc)
  refine ⟨h.below.grown hg h.below.size fun k hk => (h.row.lt k hk).1, by rw [List.length_append, List.length_singleton, cellsB_snoc]; exact hr, fun z hz => ?_⟩
  rcases List.mem_append.1 hz with hz | hz
  · exact ⟨(h.reqs z hz).1, (h.reqs z hz).2.1, hk z (h.reqs z hz).2.2⟩
  · obtain rfl : z = y := by simpa using hz
    exact ⟨hy.1, hy.2.1, hk z hy.2.2⟩
theorem ChSt.upd {w0 : World} {tB tQ : TypeId} {L : List Bv} {x : Value} {wr w2 : World} {y : Nat} (h : ChSt w0 tB tQ L x wr) (hu : Upd y wr w2) (hy : w0.heap.size ≤ y) (h1 : ∀ c, x.ownBlock = some c → c ≠ y) (h2 : ∀ z ∈ L, ∀ c, z.2.2.ownBlock = some c → c ≠ y) : ChSt w0 tB tQ L x w2 :=
  ⟨h.below.trans (hu.below hy), row_keep h.row fun c hc => hu.block c (h1 c hc), fun z hz => ⟨(h.reqs z hz).1, (h.reqs z hz).2.1, row_keep (h.reqs z hz).2.2 fun c hc => hu.block c (h2 z hz c hc)⟩⟩
theorem bmap_getD (L : List Bv) (i : Nat) (h : i < L.length) : (L.map Prod.fst).getD i bd0 = (L.getD i vb0).1 := by
  simp [List.getD, List.getElem?_eq_getElem h]
theorem gset3 {w : World} {a : Nat} {f : Nat → Value} (h : Blk w a 3 f) (u0 u1 u2 : Value) :
    Blk (((w.setCell ⟨a, 0, none⟩ u0).setCell ⟨a, 1, none⟩ u1).setCell ⟨a, 2, none⟩ u2) a 3 (rowL [u0, u1, u2]) ∧ Upd a w (((w.setCell ⟨a, 0, none⟩ u0).setCell ⟨a, 1, none⟩ u1).setCell ⟨a, 2, none⟩ u2) := by
  refine ⟨(((h.set 0 u0).set 1 u1).set 2 u2).congr _ fun i hi => ?_, (((Upd.refl a w).trans (Upd.set _ _ _ _)).trans (Upd.set _ _ _ _)).trans (Upd.set _ _ _ _)⟩
  match i, hi with
  | 0, _ => rfl
  | 1, _ => rfl
  | 2, _ => rfl
theorem ChSt.nil (w : World) (tB tQ : TypeId) : ChSt w tB tQ [] (.slice none 0 0) w := ⟨Below.refl _ _, World.ownsRow_nil _ _ _ _, fun y hy => by cases hy⟩
end FF
namespace Go.Proofs.Ytnahebfhhcebpaa
open FF JJ CC MM WW BB
end Go.Proofs.Ytnahebfhhcebpaa
end
section
open Go Go.RowKit
namespace FF
open WW BB JJ
def fewI (b : BlockD) : Bool := fewBlock (parI b) (sigsI b) b.2
/-- it fits into memory -/
def MemI (b : BlockD) : Prop := MemS (sigsI b) ∧ (parI b).size ≤ 9223372036854775807 ∧ b.2.length ≤ 9223372036854775807
theorem few_smallI {b : BlockD} (h : fewI b = true) : SmallI b := by
  have := few_smallB h
  exact ⟨this.1, this.2.1, this.2.2.1⟩
/-- what Few tells -/
def FewAns (M : List Bv) (n : Int) (w : World) (e : Ending) (w' : World) : Prop :=
  ∃ X : Bool, e = .returned (.bool X) ∧ (X = true → (M.length : Int) ≤ n ∧ ∀ i, i < M.length → i < 100 → fewI (M.getD i vb0).1 = true) ∧ Below w.heap.size w w'
end FF
namespace Go.Proofs.Ytnahebfhhcebpaa
open FF JJ CC MM WW BB
end Go.Proofs.Ytnahebfhhcebpaa
end
section
open Go Go.RowKit
namespace TT
open WW BB FF
/-- the cells of a slice of blocks, one behind the other -/
theorem bv_flat {w w' : World} {a0 : Option Addr} {n c : Nat} {L : List Bv} (h : BvAt w (.slice a0 n c) L) (hb : Below w.heap.size w w') : ∀ a, a0 = some a → ∀ k u, (cellsB L)[k]? = some u → w'.cell? (a.add k) = some u := by
  intro a ha k u hu
  obtain ⟨a1, c1, he, h | ⟨b, off, h1, hl, hc⟩⟩ := h
  · subst h; simp [cellsB] at hu
  · injection he with e1 _ _
    rw [ha, h1] at e1
    injection e1 with e1
    subst e1
    have hk : k < L.length * 6 := by rw [← cellsB_len]; exact (List.getElem?_eq_some_iff.1 hu).1
    have hi : k / 6 < L.length := by omega
    have hj : k % 6 < (encB (L.getD (k / 6) vb0)).length := by show k % 6 < 6; omega
    have h2 := cellsB_at L (k / 6) (k % 6) _ hi (List.getElem?_eq_getElem hj)
    rw [show k / 6 * 6 + k % 6 = k by omega, hu] at h2
    injection h2 with h2
    have h3 := (hc (k / 6) hi).1 (k % 6) _ (List.getElem?_eq_getElem hj)
    have h4 : (⟨b, off, none⟩ : Addr).add k = ⟨b, off + k, none⟩ := by unfold Addr.add; split <;> simp [*]
    rw [h4, (hb.cell (p := ⟨b, off + k, none⟩) hl), h2, ← h3]
    congr 2; omega
theorem bv_none {w : World} {a0 : Option Addr} {n c : Nat} {L : List Bv} (h : BvAt w (.slice a0 n c) L) (h0 : a0 = none) : n = 0 := by
  obtain ⟨a1, c1, he, h | ⟨b, off, h1, _⟩⟩ := h
  · injection he with _ e2 _; subst h; exact e2
  · injection he with e1 _ _; rw [h0, h1] at e1; cases e1
theorem encB_one {w : World} {x : Bv} (h : InnB w x) : ∀ u ∈ encB x, u.oneCell' = true := by
  obtain ⟨a1, c1, h1⟩ := sl_of_sigs h.1
  obtain ⟨a2, c2, h2⟩ := sl_of_reqs h.2
  intro u hu
  unfold encB at hu
  rw [h1, h2] at hu
  simp only [List.mem_cons, List.not_mem_nil, or_false] at hu
  rcases hu with rfl | rfl | rfl | rfl | rfl | rfl <;> rfl
theorem cellsB_one {w : World} {L : List Bv} (h : ∀ x ∈ L, InnB w x) : ∀ u ∈ cellsB L, u.oneCell' = true := by
  intro u hu
  unfold cellsB at hu
  rw [List.mem_flatten] at hu
  obtain ⟨c, hc, hu⟩ := hu
  obtain ⟨x, hx, rfl⟩ := List.mem_map.1 hc
  exact encB_one (h x hx) u hu
theorem cellsB_app (L M : List Bv) : cellsB (L ++ M) = cellsB L ++ cellsB M := by unfold cellsB; rw [List.map_append, List.flatten_append]
theorem bv_inn {w : World} {v : Value} {L : List Bv} (h : BvAt w v L) : ∀ x ∈ L, InnB w x := by
  intro x hx
  obtain ⟨a0, cap, rfl, h | ⟨b, off, rfl, hl, hc⟩⟩ := h
  · subst h; cases hx
  · obtain ⟨i, hi, rfl⟩ := List.getElem_of_mem hx
    have := (hc i hi).2
    rwa [getD_at hi] at this
/-- what is in a slice, or none, is appended to a row of the call's own -/
theorem run_append_argN {P : Program} {w : World} (base : Nat) (t ty e : TypeId) (i : TypeInfo) (z : Value) (size bytes : Nat) (ht : P.underlying t = some (.slice e)) (hi : P.info? e = some i) (hz : i.zero = some z)
    (hsize : i.size = size) (hby : i.bytes = bytes) (hzs : z.cells.size = size) (hsz : 0 < size) (v : Value) (n : Nat) (xs : List Value) (hown : w.ownsRow base e size v n xs) (a0 : Option Addr) (j c : Nat) (news : List Value) (hl : news.length = j * size)
    (hn : a0 = none → j = 0) (hnews : ∀ a, a0 = some a → ∀ k u, news[k]? = some u → w.cell? (a.add k) = some u) (h1 : ∀ y ∈ news, y.oneCell' = true)
    (h63 : n + j ≤ maxLen) (hbytes : (n + j) * bytes ≤ 140737488355328) (hbase : base ≤ w.heap.size) :
    ∃ v' w', (Builtin.append_ #[t, t] ty #[v, .slice a0 j c]).run P w = .ok v' w' ∧ w'.ownsRow base e size v' (n + j) (xs ++ news) ∧ w.grownBy w' v.ownBlock := by
  rcases a0 with _ | a
  · obtain rfl := hn rfl
    have hn : news = [] := List.eq_nil_of_length_eq_zero (by simpa using hl)
    subst hn
    exact ⟨_, w, run_append_none_any (P := P) (w := w) base t ty e i size ht hi _ n xs hown c, by simpa using hown, ⟨rfl, rfl, rfl, Nat.le_refl _, fun _ _ _ => rfl⟩⟩
  · obtain ⟨v', w', hr, ho, hg, _⟩ := run_append_own (P := P) w base t ty e i z size bytes ht hi hz hsize hby hzs hsz v n xs hown a j c news hl (hnews a rfl) h1 h63 hbytes hbase
    exact ⟨v', w', hr, ho, hg⟩
theorem row_own_none {w : World} {e : TypeId} : (w.alloc (.cells #[] e)).ownsRow w.heap.size e 6 (.slice (some ⟨w.heap.size, 0, none⟩) 0 0) 0 [] :=
  ⟨rfl, Or.inr ⟨_, 0, #[], rfl, Nat.le_refl _, by show (Array.push _ _)[_]? = _; simp, Nat.le_refl _, Nat.zero_le _, rfl, rfl⟩⟩
theorem own_sl6 {w : World} {base n k : Nat} {e : TypeId} {v : Value} {xs : List Value} (h : w.ownsRow base e k v n xs) : ∃ a c, v = .slice a n c := by
  rcases h.2 with ⟨h1, h2⟩ | ⟨q, cap, cur, h1, _⟩
  · exact ⟨none, 0, by rw [h1, h2]⟩
  · exact ⟨_, _, h1⟩
theorem dep_step {A A' : Nat → Prop} {w w' : World} {P : World → Prop} (h : Dep A w P) (hk : Keeps A w w') (hA : ∀ b, A b → b < w.heap.size → A' b) : Dep A' w' P := fun w2 h2 =>
  h w2 ⟨hk.b0.trans h2.b0, fun b hb hl => (h2.block b (hA b hb hl) (Nat.lt_of_lt_of_le hl hk.b0.size)).trans (hk.block b hb hl)⟩
theorem dep_inn {A : Nat → Prop} {w : World} {u : Value} {B : List Bv} (h : Dep A w (fun w' => BvAt w' u B)) : ∀ y ∈ B, Dep A w (fun w' => InnB w' y) := fun y hy w' hk => bv_inn (h w' hk) y hy
theorem dep_bv {A : Nat → Prop} {w : World} {base : Nat} {e : TypeId} {u : Value} {B : List Bv} (hr : w.ownsRow base e 6 u B.length (cellsB B)) (hi : ∀ y ∈ B, Dep A w (fun w' => InnB w' y)) (hA : ∀ b, u.ownBlock = some b → A b) : Dep A w (fun w' => BvAt w' u B) := fun w' hk =>
  bv_of_own (row_keep hr fun c hc => hk.block c (hA c hc) (hr.lt c hc).2) fun y hy => hi y hy w' hk
/-- 'append(append([]T{}, v1...), v2...)' -/
theorem two_rows {P : Program} {w : World} {t ty e : TypeId} {i : TypeInfo} {z : Value} {bytes : Nat} (ht : P.underlying t = some (.slice e)) (hi : P.info? e = some i) (hz : i.zero = some z) (hsize : i.size = 6) (hby : i.bytes = bytes) (hzs : z.cells.size = 6)
    {a1 a2 : Option Addr} {n1 n2 c1 c2 : Nat} {B1 B2 : List Bv} (h1 : BvAt w (.slice a1 n1 c1) B1) (h2 : BvAt w (.slice a2 n2 c2) B2) (hl : B1.length + B2.length ≤ 10000) (hb : bytes ≤ 1000) :
    ∃ a3 c3 w2 a4 c4 w3, (Builtin.append_ #[t, t] ty #[.slice (some ⟨w.heap.size, 0, none⟩) 0 0, .slice a1 n1 c1]).run P (w.alloc (.cells #[] e)) = .ok (.slice a3 B1.length c3) w2 ∧
      (Builtin.append_ #[t, t] ty #[.slice a3 B1.length c3, .slice a2 n2 c2]).run P w2 = .ok (.slice a4 (B1.length + B2.length) c4) w3 ∧
      Below w.heap.size w w2 ∧ Below w.heap.size w w3 ∧ w3.ownsRow w.heap.size e 6 (.slice a4 (B1.length + B2.length) c4) (B1 ++ B2).length (cellsB (B1 ++ B2)) := by
  have W1 : Below w.heap.size w (w.alloc (.cells #[] e)) := (Below.refl _ _).alloc (Nat.le_refl _) _
  have e1 : n1 = B1.length := by obtain ⟨a, c, h, _⟩ := h1; injection h
  have e2 : n2 = B2.length := by obtain ⟨a, c, h, _⟩ := h2; injection h
  subst e1 e2
  have hm : B1.length * bytes ≤ 10000 * 1000 := Nat.mul_le_mul (by omega) hb
  have hm2 : (B1.length + B2.length) * bytes ≤ 10000 * 1000 := Nat.mul_le_mul hl hb
  obtain ⟨v2, w2, hr2, ho2, hg2, _⟩ := run_append_arg0 (P := P) (w := w.alloc (.cells #[] e)) w.heap.size t ty e i z 6 bytes ht hi hz hsize hby hzs (by decide) w.heap.size row_own_none a1 B1.length c1 (cellsB B1) (cellsB_len B1) (bv_none h1) (bv_flat h1 W1) (cellsB_one (bv_inn h1)) (by unfold maxLen; omega) (by omega) (by simp)
  obtain ⟨a3, c3, rfl⟩ := own_sl6 ho2
  have W2 : Below w.heap.size w w2 := W1.grown hg2 (by simp) (fun j e => by cases e; exact Nat.le_refl _)
  obtain ⟨v3, w3, hr3, ho3, hg3⟩ := run_append_argN (P := P) (w := w2) w.heap.size t ty e i z 6 bytes ht hi hz hsize hby hzs (by decide) _ B1.length (cellsB B1) ho2 a2 B2.length c2 (cellsB B2) (cellsB_len B2) (bv_none h2) (bv_flat h2 W2) (cellsB_one (bv_inn h2)) (by unfold maxLen; omega) (by omega) W2.size
  obtain ⟨a4, c4, rfl⟩ := own_sl6 ho3
  refine ⟨a3, c3, w2, a4, c4, w3, hr2, hr3, W2, W2.grown hg3 W2.size (fun j e => (ho2.lt j e).1), ?_⟩
  rw [List.length_append, cellsB_app]
  exact ho3
end TT
end
