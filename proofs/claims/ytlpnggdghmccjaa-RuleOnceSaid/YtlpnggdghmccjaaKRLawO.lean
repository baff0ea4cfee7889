/-
  The walk of the law of votes one behind the other.
-/
import Derived.Test.YtlpnggdghmccjaaKGMem
import Derived.Test.YtlpnggdghmccjaaKJBox
import Derived.Test.YtlpnggdghmccjaaKPlanE
import Derived.Test.YtlpnggdghmccjaaKPlanG
import Derived.Test.YtlpnggdghmccjaaKFPutB
import Derived.Test.YtlpnggdghmccjaaKJCopy
import Derived.ArgAppend
import Derived.Maps.AppendAt
import Derived.Test.YtlpnggdghmccjaaKFItem
import Derived.Test.YtlpnggdghmccjaaKLNum
import Derived.Test.YtlpnggdghmccjaaKEText
import Derived.Test.YtlpnggdghmccjaaKJUnlike
import Derived.Test.YtlpnggdghmccjaaKFAdopt
import Derived.Test.YtlpnggdghmccjaaKJLawD
section
open Go Go.RowKit
namespace FF
open WW BB
/-- strings in a row of the call's own, so many orphans being through -/
structure LkSt (w0 : World) (e : TypeId) (out : List ByteArray) (x : Value) (wr : World) : Prop where
  below : Below w0.heap.size w0 wr
  row : wr.ownsRow w0.heap.size e 1 x out.length (out.map Value.string)
theorem LkSt.shape {w0 : World} {e : TypeId} {out : List ByteArray} {x : Value} {wr : World} (h : LkSt w0 e out x wr) : ∃ a c, x = .slice a out.length c := by
  rcases h.row.2 with ⟨rfl, h0⟩ | ⟨q, cp, cur, rfl, _⟩
  · exact ⟨none, 0, by rw [h0]⟩
  · exact ⟨_, _, rfl⟩
theorem LkSt.on {w0 : World} {e : TypeId} {out : List ByteArray} {x : Value} {wr w2 : World} (h : LkSt w0 e out x wr) (hb : Below wr.heap.size wr w2) : LkSt w0 e out x w2 :=
  ⟨h.below.trans (hb.mono h.below.size), row_keep h.row fun c hc => hb.block c (h.row.lt c hc).2⟩
theorem LkSt.add {w0 : World} {e : TypeId} {out : List ByteArray} {x u' : Value} {wr w3 : World} (h : LkSt w0 e out x wr) (p : ByteArray) (hr : w3.ownsRow w0.heap.size e 1 u' (out.length + 1) (out.map Value.string ++ [.string p])) (hg : wr.grownBy w3 x.ownBlock) : LkSt w0 e (out ++ [p]) u' w3 :=
  ⟨h.below.grown hg h.below.size fun k hk => (h.row.lt k hk).1, by rw [List.length_append, List.map_append]; exact hr⟩
theorem LkSt.nil (w : World) (e : TypeId) : LkSt w e [] (.slice none 0 0) w := ⟨Below.refl _ _, World.ownsRow_nil _ _ _ _⟩
theorem map_take_snoc (O : List Iv) (i : Nat) (hi : i < O.length) : (O.take (i + 1)).map (fun z => z.1.1) = (O.take i).map (fun z => z.1.1) ++ [(O.getD i v0).1.1] := by
  rw [List.take_add_one, List.getElem?_eq_getElem hi, List.map_append, getD_at hi]; rfl
end FF
namespace Go.Proofs.Ytlpnggdghmccjaa
open FF JJ CC MM WW BB
end Go.Proofs.Ytlpnggdghmccjaa
end
section
open Go Go.RowKit
namespace FF
open JJ CC WW BB MM
/-- a block with its two slices -/
abbrev Bv := BlockD × Value × Value
def bd0 : BlockD := (((0, 0), ((0, ⟨#[]⟩), [])), [])
def vb0 : Bv := (bd0, .slice none 0 0, .slice none 0 0)
def encB (x : Bv) : List Value := [.int .i64 (viewI x.1), .int .i64 (propI x.1), .int .i64 (jvI x.1), .string (parI x.1), x.2.1, x.2.2]
def InnB (w : World) (x : Bv) : Prop := SigsAt w x.2.1 (sigsI x.1) ∧ ReqsAt w x.2.2 x.1.2
theorem InnB.later {w w' : World} {x : Bv} (h : InnB w x) (hb : Below w.heap.size w w') : InnB w' x := ⟨h.1.later hb, h.2.later hb⟩
/-- v is a slice of the blocks L -/
def BvAt (w : World) (v : Value) (L : List Bv) : Prop :=
  ∃ a0 cap, v = .slice a0 L.length cap ∧ (L = [] ∨ ∃ b off, a0 = some ⟨b, off, none⟩ ∧ b < w.heap.size ∧
    ∀ i, i < L.length → (∀ j u, (encB (L.getD i vb0))[j]? = some u → w.cell? ⟨b, off + i * 6 + j, none⟩ = some u) ∧ InnB w (L.getD i vb0))
theorem BvAt.later {w w' : World} {v : Value} {L : List Bv} (h : BvAt w v L) (hb : Below w.heap.size w w') : BvAt w' v L := by
  obtain ⟨a0, cap, rfl, h | ⟨b, off, rfl, hl, hc⟩⟩ := h
  · exact ⟨a0, cap, rfl, Or.inl h⟩
  · refine ⟨_, cap, rfl, Or.inr ⟨b, off, rfl, Nat.lt_of_lt_of_le hl hb.size, fun i hi => ?_⟩⟩
    obtain ⟨h1, h2⟩ := hc i hi
    exact ⟨fun j u hu => (hb.cell (p := ⟨b, off + i * 6 + j, none⟩) hl).trans (h1 j u hu), h2.later hb⟩
theorem bv_shape {w : World} {v : Value} {L : List Bv} (h : BvAt w v L) : ∃ a c, v = .slice a L.length c := by
  obtain ⟨a, c, rfl, _⟩ := h; exact ⟨a, c, rfl⟩
/-- where the blocks lie -/
theorem bv_at {w : World} {a0 : Option Addr} {n c : Nat} {L : List Bv} (h : BvAt w (.slice a0 n c) L) (i : Nat) (hi : i < L.length) : ∃ b off, a0 = some ⟨b, off, none⟩ ∧ b < w.heap.size ∧ n = L.length ∧
    ∀ wr, Below w.heap.size w wr → ∀ i, i < L.length → wr.cell? ⟨b, off + i * 6, none⟩ = some (.int .i64 (viewI (L.getD i vb0).1)) ∧ wr.cell? ⟨b, off + i * 6 + 1, none⟩ = some (.int .i64 (propI (L.getD i vb0).1)) ∧ wr.cell? ⟨b, off + i * 6 + 2, none⟩ = some (.int .i64 (jvI (L.getD i vb0).1)) ∧
      wr.cell? ⟨b, off + i * 6 + 3, none⟩ = some (.string (parI (L.getD i vb0).1)) ∧ wr.cell? ⟨b, off + i * 6 + 4, none⟩ = some (L.getD i vb0).2.1 ∧ wr.cell? ⟨b, off + i * 6 + 5, none⟩ = some (L.getD i vb0).2.2 ∧ InnB wr (L.getD i vb0) := by
  obtain ⟨a1, c1, he, h | ⟨b, off, h1, hl, hc⟩⟩ := h
  · subst h; simp at hi
  · injection he with e1 e2 _
    subst e1 h1
    refine ⟨b, off, rfl, hl, e2, fun wr hb i hi => ?_⟩
    obtain ⟨h1, h2⟩ := hc i hi
    have k : ∀ j u, (encB (L.getD i vb0))[j]? = some u → wr.cell? ⟨b, off + i * 6 + j, none⟩ = some u := fun j u hu => (hb.cell (p := ⟨b, off + i * 6 + j, none⟩) hl).trans (h1 j u hu)
    exact ⟨k 0 _ rfl, k 1 _ rfl, k 2 _ rfl, k 3 _ rfl, k 4 _ rfl, k 5 _ rfl, h2.later hb⟩
def cellsB (L : List Bv) : List Value := (L.map encB).flatten
theorem cellsB_snoc (L : List Bv) (x : Bv) : cellsB (L ++ [x]) = cellsB L ++ encB x := by unfold cellsB; rw [List.map_append, List.flatten_append]; simp
theorem cellsB_len (L : List Bv) : (cellsB L).length = L.length * 6 := by
  induction L with
  | nil => rfl
  | cons x r ih => show (encB x ++ cellsB r).length = _; rw [List.length_append, ih, List.length_cons]; simp [encB]; omega
theorem cellsB_at : ∀ (L : List Bv) (i j : Nat) (u : Value), i < L.length → (encB (L.getD i vb0))[j]? = some u → (cellsB L)[i * 6 + j]? = some u
  | [], i, j, u, h, _ => by simp at h
  | x :: r, 0, j, u, _, hu => by
    show (encB x ++ cellsB r)[0 * 6 + j]? = some u
    have hu' : (encB x)[j]? = some u := hu
    have hj : j < (encB x).length := (List.getElem?_eq_some_iff.1 hu').1
    rw [Nat.zero_mul, Nat.zero_add, List.getElem?_append_left hj]; exact hu'
  | x :: r, i + 1, j, u, h, hu => by
    show (encB x ++ cellsB r)[(i + 1) * 6 + j]? = some u
    have hx : (encB x).length = 6 := rfl
    rw [show (i + 1) * 6 + j = 6 + (i * 6 + j) by omega, List.getElem?_append_right (by omega), hx, Nat.add_sub_cancel_left]
    exact cellsB_at r i j u (by simpa using h) (by simpa [List.getD] using hu)
theorem bv_of_own {w : World} {B : Nat} {e : TypeId} {v : Value} {L : List Bv} (h : w.ownsRow B e 6 v L.length (cellsB L)) (hi : ∀ x ∈ L, InnB w x) : BvAt w v L := by
  rcases h.2 with ⟨rfl, h0⟩ | ⟨g, cap, cur, rfl, hg, hh, hn, hcm, hsz, htk⟩
  · exact ⟨none, 0, by rw [h0], Or.inl (List.eq_nil_of_length_eq_zero h0)⟩
  · have hcell : ∀ j u, j < L.length * 6 → (cellsB L)[j]? = some u → w.cell? ⟨g, j, none⟩ = some u := fun j u hj hu => by
      rw [← htk, List.getElem?_take_of_lt hj, Array.getElem?_toList] at hu
      unfold World.cell?; rw [hh]; simpa using hu
    refine ⟨_, cap, rfl, Or.inr ⟨g, 0, rfl, (Array.getElem?_eq_some_iff.1 hh).1, fun i hil => ⟨fun j u hu => ?_, ?_⟩⟩⟩
    · have hj : j < 6 := (List.getElem?_eq_some_iff.1 hu).1
      rw [Nat.zero_add]
      exact hcell _ _ (by omega) (cellsB_at L i j u hil hu)
    · exact hi _ (by rw [getD_at hil]; exact List.getElem_mem hil)
/-- v is a slice of threes of bytes -/
def TriAt (w : World) (v : Value) (l : List (Nat × Nat × Nat)) : Prop :=
  ∃ a0 cap, v = .slice a0 l.length cap ∧ (l = [] ∨ ∃ b off, a0 = some ⟨b, off, none⟩ ∧ b < w.heap.size ∧
    ∀ i, i < l.length → w.cell? ⟨b, off + i * 3, none⟩ = some (.int .u8 ((l.getD i (0, 0, 0)).1 : Int)) ∧ w.cell? ⟨b, off + i * 3 + 1, none⟩ = some (.int .u8 ((l.getD i (0, 0, 0)).2.1 : Int)) ∧ w.cell? ⟨b, off + i * 3 + 2, none⟩ = some (.int .u8 ((l.getD i (0, 0, 0)).2.2 : Int)))
theorem TriAt.later {w w' : World} {v : Value} {l : List (Nat × Nat × Nat)} (h : TriAt w v l) (hb : Below w.heap.size w w') : TriAt w' v l := by
  obtain ⟨a0, cap, rfl, h | ⟨b, off, rfl, hl, hc⟩⟩ := h
  · exact ⟨a0, cap, rfl, Or.inl h⟩
  · refine ⟨_, cap, rfl, Or.inr ⟨b, off, rfl, Nat.lt_of_lt_of_le hl hb.size, fun i hi => ?_⟩⟩
    obtain ⟨h1, h2, h3⟩ := hc i hi
    exact ⟨(hb.cell (p := ⟨b, off + i * 3, none⟩) hl).trans h1, (hb.cell (p := ⟨b, off + i * 3 + 1, none⟩) hl).trans h2, (hb.cell (p := ⟨b, off + i * 3 + 2, none⟩) hl).trans h3⟩
/-- one block more of a chain -/
def nextB (out : List BlockD) (i : Nat) (t : Nat × Nat × Nat) : BlockD :=
  let q := t.2.1 % (i + 1)
  let cv := if 0 < q then viewI (out.getD (q - 1) bd0) else 0
  let cd := if 0 < q then digI (out.getD (q - 1) bd0) else firstD
  (((cv + 1 + ((t.1 % 4 : Nat) : Int), 0), ((cv, cd), [])), [(((t.2.2 % 4 : Nat) : Int), 1 + (i : Int), ⟨#[]⟩)])
def chainL (l : List (Nat × Nat × Nat)) : Nat → List BlockD
  | 0 => []
  | i + 1 => chainL l i ++ [nextB (chainL l i) i (l.getD i (0, 0, 0))]
theorem chain_len (l : List (Nat × Nat × Nat)) : ∀ i, (chainL l i).length = i
  | 0 => rfl
  | i + 1 => by rw [chainL, List.length_append, chain_len l i]; rfl
theorem chain_views (l : List (Nat × Nat × Nat)) : ∀ (i j : Nat), 0 ≤ viewI ((chainL l i).getD j bd0) ∧ viewI ((chainL l i).getD j bd0) ≤ 4 * (i : Int)
  | 0, j => by simp [chainL, bd0, viewI]
  | i + 1, j => by
    rw [chainL]
    by_cases hj : j < i
    · rw [List.getD_eq_getElem?_getD, List.getElem?_append_left (by rw [chain_len]; exact hj), ← List.getD_eq_getElem?_getD]
      have := chain_views l i j
      omega
    · by_cases e : j = i
      · subst e
        rw [List.getD_eq_getElem?_getD, List.getElem?_append_right (by rw [chain_len]; exact Nat.le_refl _), chain_len, Nat.sub_self]
        show 0 ≤ viewI (nextB _ _ _) ∧ viewI (nextB _ _ _) ≤ _
        unfold nextB viewI
        simp only
        split
        · have h1 := chain_views l j ((l.getD j (0, 0, 0)).2.1 % (j + 1) - 1)
          unfold viewI at h1
          omega
        · omega
      · rw [List.getD_eq_getElem?_getD, List.getElem?_eq_none (by simp [chain_len]; omega)]
        simp [bd0, viewI]; omega
theorem chain_small (l : List (Nat × Nat × Nat)) : ∀ i, ∀ x ∈ chainL l i, SmallI x ∧ sigsI x = [] ∧ propI x = 0
  | 0, x, hx => by cases hx
  | i + 1, x, hx => by
    rcases List.mem_append.1 hx with hx | hx
    · exact chain_small l i x hx
    · obtain rfl : x = nextB (chainL l i) i (l.getD i (0, 0, 0)) := by simpa using hx
      refine ⟨⟨?_, ⟨by show (0 : Nat) ≤ 1000; omega, by show (0 : Nat) ≤ 500000; omega, fun j hj => absurd hj (Nat.not_lt_zero j)⟩, ⟨by show (1 : Nat) ≤ 1000; omega, by show (12 : Nat) ≤ 500000; omega, fun j hj => ?_⟩⟩, rfl, rfl⟩
      · unfold nextB parI
        simp only
        split
        · rw [show (digI _).size = 32 from digD_size _ _ _ _ _]; omega
        · rw [firstD_size]; omega
      · obtain rfl : j = 0 := by have : j < 1 := hj; omega
        show (0 : Nat) ≤ 500000; omega
theorem own_apart' {e e' : TypeId} {w : World} {B B' c c' : Nat} {v v' : Value} {n n' : Nat} {xs xs' : List Value} (h : w.ownsRow B e c v n xs) (h' : w.ownsRow B' e' c' v' n' xs') (hne : e ≠ e') : ∀ b, v'.ownBlock = some b → some b ≠ v.ownBlock := by
  intro b hb he
  rcases h.2 with ⟨rfl, _⟩ | ⟨g, cap, cur, rfl, _, hh, _⟩
  · cases he
  · rcases h'.2 with ⟨rfl, _⟩ | ⟨g', cap', cur', rfl, _, hh', _⟩
    · cases hb
    · simp only [Value.ownBlock, Option.some.injEq] at hb he
      have hgg : g' = g := by omega
      rw [hgg, hh] at hh'
      injection hh' with hh'
      injection hh' with _ h2 _
      exact hne h2
/-- the chain so far: a row of blocks, each one's request in a row of its own -/
structure ChSt (w0 : World) (tB tQ : TypeId) (L : List Bv) (x : Value) (wr : World) : Prop where
  below : Below w0.heap.size w0 wr
  row : wr.ownsRow w0.heap.size tB 6 x L.length (cellsB L)
  reqs : ∀ y ∈ L, y.2.1 = .slice none 0 0 ∧ sigsI y.1 = [] ∧ wr.ownsRow w0.heap.size tQ 3 y.2.2 y.1.2.length (cellsR y.1.2)
theorem ChSt.on {w0 : World} {tB tQ : TypeId} {L : List Bv} {x : Value} {wr w2 : World} (h : ChSt w0 tB tQ L x wr) (hb : Below wr.heap.size wr w2) : ChSt w0 tB tQ L x w2 :=
  ⟨h.below.trans (hb.mono h.below.size), row_keep h.row fun c hc => hb.block c (h.row.lt c hc).2, fun y hy => ⟨(h.reqs y hy).1, (h.reqs y hy).2.1, row_keep (h.reqs y hy).2.2 fun c hc => hb.block c ((h.reqs y hy).2.2.lt c hc).2⟩⟩
theorem ChSt.inn {w0 : World} {tB tQ : TypeId} {L : List Bv} {x : Value} {wr : World} (h : ChSt w0 tB tQ L x wr) : ∀ y ∈ L, InnB wr y := fun y hy => by
  obtain ⟨h1, h2, h3⟩ := h.reqs y hy
  exact ⟨by rw [h1, h2]; exact ⟨none, 0, rfl, Or.inl rfl⟩, reqs_of_own h3⟩
theorem ChSt.bv {w0 : World} {tB tQ : TypeId} {L : List Bv} {x : Value} {wr : World} (h : ChSt w0 tB tQ L x wr) : BvAt wr x L := bv_of_own h.row h.inn
theorem ChSt.shape {w0 : World} {tB tQ : TypeId} {L : List Bv} {x : Value} {wr : World} (h : ChSt w0 tB tQ L x wr) : ∃ a c, x = .slice a L.length c := bv_shape h.bv
theorem ChSt.add {w0 : World} {tB tQ : TypeId} (ht : tB ≠ tQ) {L : List Bv} {x u' : Value} {wr w3 : World} (h : ChSt w0 tB tQ L x wr) (y : Bv) (hy : y.2.1 = .slice none 0 0 ∧ sigsI y.1 = [] ∧ wr.ownsRow w0.heap.size tQ 3 y.2.2 y.1.2.length (cellsR y.1.2))
    (hr : w3.ownsRow w0.heap.size tB 6 u' (L.length + 1) (cellsB L ++ encB y)) (hg : wr.grownBy w3 x.ownBlock) : ChSt w0 tB tQ (L ++ [y]) u' w3 := by
  have hk : ∀ z : Bv, wr.ownsRow w0.heap.size tQ 3 z.2.2 z.1.2.length (cellsR z.1.2) → w3.ownsRow w0.heap.size tQ 3 z.2.2 z.1.2.length (cellsR z.1.2) := fun z hz =>
    row_keep hz fun c hc => hg.block c (hz.lt c hc).2 (own_apart' h.row hz ht c hc)
  refine ⟨h.below.grown hg h.below.size fun k hk => (h.row.lt k hk).1, by rw [List.length_append, List.length_singleton, cellsB_snoc]; exact hr, fun z hz => ?_⟩
  rcases List.mem_append.1 hz with hz | hz
  · exact ⟨(h.reqs z hz).1, (h.reqs z hz).2.1, hk z (h.reqs z hz).2.2⟩
  · obtain rfl : z = y := by simpa using hz
    exact ⟨hy.1, hy.2.1, hk z hy.2.2⟩
theorem ChSt.upd {w0 : World} {tB tQ : TypeId} {L : List Bv} {x : Value} {wr w2 : World} {y : Nat} (h : ChSt w0 tB tQ L x wr) (hu : Upd y wr w2) (hy : w0.heap.size ≤ y) (h1 : ∀ c, x.ownBlock = some c → c ≠ y) (h2 : ∀ z ∈ L, ∀ c, z.2.2.ownBlock = some c → c ≠ y) : ChSt w0 tB tQ L x w2 :=
  ⟨h.below.trans (hu.below hy), row_keep h.row fun c hc => hu.block c (h1 c hc), fun z hz => ⟨(h.reqs z hz).1, (h.reqs z hz).2.1, row_keep (h.reqs z hz).2.2 fun c hc => hu.block c (h2 z hz c hc)⟩⟩
theorem bmap_getD (L : List Bv) (i : Nat) (h : i < L.length) : (L.map Prod.fst).getD i bd0 = (L.getD i vb0).1 := by
  simp [List.getD, List.getElem?_eq_getElem h]
theorem gset3 {w : World} {a : Nat} {f : Nat → Value} (h : Blk w a 3 f) (u0 u1 u2 : Value) :
    Blk (((w.setCell ⟨a, 0, none⟩ u0).setCell ⟨a, 1, none⟩ u1).setCell ⟨a, 2, none⟩ u2) a 3 (rowL [u0, u1, u2]) ∧ Upd a w (((w.setCell ⟨a, 0, none⟩ u0).setCell ⟨a, 1, none⟩ u1).setCell ⟨a, 2, none⟩ u2) := by
  refine ⟨(((h.set 0 u0).set 1 u1).set 2 u2).congr _ fun i hi => ?_, (((Upd.refl a w).trans (Upd.set _ _ _ _)).trans (Upd.set _ _ _ _)).trans (Upd.set _ _ _ _)⟩
  match i, hi with
  | 0, _ => rfl
  | 1, _ => rfl
  | 2, _ => rfl
theorem ChSt.nil (w : World) (tB tQ : TypeId) : ChSt w tB tQ [] (.slice none 0 0) w := ⟨Below.refl _ _, World.ownsRow_nil _ _ _ _, fun y hy => by cases hy⟩
end FF
namespace Go.Proofs.Ytlpnggdghmccjaa
open FF JJ CC MM WW BB
end Go.Proofs.Ytlpnggdghmccjaa
end
section
open Go Go.RowKit
namespace FF
open WW BB JJ
def fewI (b : BlockD) : Bool := fewBlock (parI b) (sigsI b) b.2
/-- it fits into memory -/
def MemI (b : BlockD) : Prop := MemS (sigsI b) ∧ (parI b).size ≤ 9223372036854775807 ∧ b.2.length ≤ 9223372036854775807
theorem few_smallI {b : BlockD} (h : fewI b = true) : SmallI b := by
  have := few_smallB h
  exact ⟨this.1, this.2.1, this.2.2.1⟩
/-- what Few tells -/
def FewAns (M : List Bv) (n : Int) (w : World) (e : Ending) (w' : World) : Prop :=
  ∃ X : Bool, e = .returned (.bool X) ∧ (X = true → (M.length : Int) ≤ n ∧ ∀ i, i < M.length → i < 100 → fewI (M.getD i vb0).1 = true) ∧ Below w.heap.size w w'
end FF
namespace Go.Proofs.Ytlpnggdghmccjaa
open FF JJ CC MM WW BB
end Go.Proofs.Ytlpnggdghmccjaa
end
section
open Go Go.RowKit
namespace RR
open FF JJ CC WW BB
/-- the box of the state, and the views voted for -/
structure OnceSt (w : World) (q B : Nat) (tI : TypeId) (u : Value) (vs : List Int) (t1 t2 : Int) (n : Nat) (wr : World) : Prop where
  below : Below w.heap.size w wr
  blk : Blk wr q 2 (rowL [.int .i64 t1, .int .i64 t2])
  row : wr.ownsRow B tI 1 u vs.length (vs.map (Value.int .i64))
  up : vs.Pairwise (· < ·)
  top : ∀ x ∈ vs, x ≤ t1
  len : vs.length ≤ n
theorem OnceSt.on {w : World} {q B : Nat} {tI : TypeId} {u : Value} {vs : List Int} {t1 t2 : Int} {n : Nat} {wr w2 : World} (h : OnceSt w q B tI u vs t1 t2 n wr) (hb : Below wr.heap.size wr w2) : OnceSt w q B tI u vs t1 t2 n w2 :=
  ⟨h.below.trans (hb.mono h.below.size), h.blk.below hb h.blk.lt, row_keep h.row fun c hc => hb.block c (h.row.lt c hc).2, h.up, h.top, h.len⟩
theorem up_snoc {vs : List Int} {t v : Int} (h : vs.Pairwise (· < ·)) (ht : ∀ x ∈ vs, x ≤ t) (hv : t < v) : (vs ++ [v]).Pairwise (· < ·) := by
  rw [List.pairwise_append]
  refine ⟨h, List.pairwise_singleton _ _, fun a ha b hb => ?_⟩
  obtain rfl : b = v := by simpa using hb
  have := ht a ha
  omega
theorem up_get {vs : List Int} (h : vs.Pairwise (· < ·)) {j : Nat} (hj : j + 1 < vs.length) : vs.getD j 0 < vs.getD (j + 1) 0 := by
  rw [List.getD_eq_getElem?_getD, List.getD_eq_getElem?_getD, List.getElem?_eq_getElem hj, List.getElem?_eq_getElem (show j < vs.length by omega)]
  exact List.pairwise_iff_getElem.1 h j (j + 1) (by omega) hj (by omega)
end RR
namespace Go.Proofs.Ytlpnggdghmccjaa
open RR FF JJ CC WW BB
set_option maxRecDepth 100000 in
set_option maxHeartbeats 8000000 in
theorem lawO_any (s1 s2 : Int) (L : List Bv) (lv : Value) (w : World) (hv : BvAt w lv L) (hm : ∀ x ∈ L, MemI x.1) (hl : L.length ≤ 9223372036854775807) :
    Calls Try.prog 3 #[.agg #[.int .i64 s1, .int .i64 s2], lv] w fun e w' => e = .returned (.bool true) ∧ Below w.heap.size w w' := by
  have HV := Lib.hid hv
  have HM := Lib.hid hm
  have HL := Lib.hid hl
  obtain ⟨la, lc, rfl⟩ := bv_shape hv
  have X0 := Lib.hid ((Below.refl w.heap.size w).alloc (Nat.le_refl _) (.cells #[.int .i64 s1, .int .i64 s2] 23))
  have B0 := Lib.hid (show Blk (w.alloc (.cells #[.int .i64 s1, .int .i64 s2] 23)) w.heap.size 2 (rowL [.int .i64 s1, .int .i64 s2]) from Blk.new' rfl (row2_ _ _))
  clear hv hm
  by_cases h40 : L.length ≤ 40
  · have t1 : decide ((40 : Int) < (L.length : Int)) = false := decide_eq_false (by omega)
    have H40 := Lib.hid h40
    clear h40 hl
    go_enter Try.func3, Try.ntmps3
    go_wp2_with fail
    refine (rawake_any _).mono ?_
    rintro e w1 ⟨rfl, hb1⟩
    obtain ⟨q, hq⟩ : ∃ q, w.heap.size = q := ⟨_, rfl⟩
    have HQ := Lib.hid hq
    have HO1 := Lib.hid (show OnceSt w q (q + 1) 3 (.slice none 0 0) [] s1 s2 0 w1 from
      ⟨X0.out.trans (hb1.mono X0.out.size), hq ▸ B0.out.below hb1 B0.out.lt, World.ownsRow_nil _ _ _ _, List.Pairwise.nil, (fun x hx => by cases hx), Nat.le_refl _⟩)
    rw [hq]
    clear hb1 hq
    go_wp2_with fail
    clear t1
    go_loopw [5, 6] (fun u x wr => ∃ (i : Nat) (vs : List Int) (t1 t2 : Int) (u' : Value), i ≤ L.length ∧ x = .int .i64 (i : Int) ∧ u = u' ∧ OnceSt w q (q + 1) 3 u' vs t1 t2 i wr) (fun _ x _ => L.length - (intOf x).toNat)
    case atStart => exact ⟨0, [], s1, s2, _, Nat.zero_le _, rfl, rfl, HO1.out⟩
    case round =>
      obtain ⟨i, vs, t1, t2, u, hi, rfl, rfl, hO⟩ := hrel
      have HO := Lib.hid hO
      have i0 : (0 : Int) ≤ (i : Int) := by omega
      have ib : (i : Int) ≤ 40 := by have := H40.out; omega
      clear hO
      by_cases hlt : i < L.length
      · have hlt' : (i : Int) < (L.length : Int) := by omega
        have HLT := Lib.hid hlt
        obtain ⟨lb, loff, rfl, _, _, hat⟩ := bv_at HV.out i hlt
        obtain ⟨⟨pb, ps, pr⟩, hP⟩ : ∃ P, L.getD i vb0 = P := ⟨_, rfl⟩
        have hin := (hat w (Below.refl _ _) i hlt).2.2.2.2.2.2
        rw [hP] at hin
        obtain ⟨a4, c4', h4⟩ := sl_of_sigs hin.1
        obtain ⟨a5, c5', h5⟩ := sl_of_reqs hin.2
        replace h4 : ps = .slice a4 (sigsI pb).length c4' := h4
        replace h5 : pr = .slice a5 pb.2.length c5' := h5
        subst h4 h5
        obtain ⟨n4, hn4⟩ : ∃ n, (sigsI pb).length = n := ⟨_, rfl⟩
        obtain ⟨n5, hn5⟩ : ∃ n, pb.2.length = n := ⟨_, rfl⟩
        obtain ⟨pv, hpv⟩ : ∃ pv, viewI pb = pv := ⟨_, rfl⟩
        obtain ⟨pp, hpp⟩ : ∃ pp, propI pb = pp := ⟨_, rfl⟩
        obtain ⟨pj, hpj⟩ : ∃ pj, jvI pb = pj := ⟨_, rfl⟩
        obtain ⟨pk, hpk⟩ : ∃ pk, parI pb = pk := ⟨_, rfl⟩
        have HAT := Lib.hid (show ∀ wx, Below w.heap.size w wx → (wx.cell? ⟨lb, loff + i * 6, none⟩ = some (.int .i64 pv) ∧ wx.cell? ⟨lb, loff + i * 6 + 1, none⟩ = some (.int .i64 pp) ∧ wx.cell? ⟨lb, loff + i * 6 + 2, none⟩ = some (.int .i64 pj) ∧
            wx.cell? ⟨lb, loff + i * 6 + 3, none⟩ = some (.string pk) ∧ wx.cell? ⟨lb, loff + i * 6 + 4, none⟩ = some (.slice a4 n4 c4') ∧ wx.cell? ⟨lb, loff + i * 6 + 5, none⟩ = some (.slice a5 n5 c5')) ∧ SigsAt wx (.slice a4 n4 c4') (sigsI pb) ∧ ReqsAt wx (.slice a5 n5 c5') pb.2 from fun wx hb => by
          obtain ⟨g0, g1, g2, g3, g4, g5, g6⟩ := hat wx hb i HLT.out
          rw [hP] at g0 g1 g2 g3 g4 g5 g6
          rw [← hpv, ← hpp, ← hpj, ← hpk, ← hn4, ← hn5]
          exact ⟨⟨g0, g1, g2, g3, g4, g5⟩, g6.1, g6.2⟩)
        have HMP := Lib.hid (show MemI pb from by
          have : (L.getD i vb0) ∈ L := by rw [getD_at hlt]; exact List.getElem_mem hlt
          rw [hP] at this
          exact HM.out _ this)
        have HPK := Lib.hid hpk
        obtain ⟨A, hA⟩ : ∃ A, fewBlock pk (sigsI pb) pb.2 = A := ⟨_, rfl⟩
        have HA := Lib.hid hA
        obtain ⟨M, hM⟩ : ∃ M, mayB (t1, t2) pv pj = M := ⟨_, rfl⟩
        obtain ⟨⟨y1, y2⟩, hY⟩ : ∃ T, voteS (t1, t2) pv pj = T := ⟨_, rfl⟩
        have HMM := Lib.hid hM
        have HY := Lib.hid hY
        have HF := Lib.hid (show (M = true ∧ t1 < pv ∧ pv = y1 ∧ t2 = y2) ∨ (M = false ∧ t1 = y1 ∧ t2 = y2) from by
          cases M with
          | true =>
            rw [vote_yes hM] at hY
            injection hY with h1 h2
            exact Or.inl ⟨rfl, (may_yes hM).1, h1, h2⟩
          | false =>
            rw [vote_no hM] at hY
            injection hY with h1 h2
            exact Or.inr ⟨rfl, h1, h2⟩)
        clear hi hlt hat hP hin hn4 hn5 hpv hpp hpj hpk hA hM hY
        obtain ⟨⟨c0, c1, c2, c3, c4, c5⟩, _, _⟩ := HAT.out wr HO.out.below
        go_wp2_with fail
        refine (rfew_is pv pp pj pk _ _ (sigsI pb) pb.2 A HA.out wr (HAT.out wr HO.out.below).2.1 (HAT.out wr HO.out.below).2.2 HMP.out.1 (by rw [← HPK.out]; exact HMP.out.2.1) HMP.out.2.2).mono ?_
        rintro e w2 ⟨rfl, hb2⟩
        have HO2 := Lib.hid (HO.out.on hb2)
        clear hb2 c0 c1 c2 c3 c4 c5
        cases A with
        | false =>
          go_wp2_with fail
          go_ret
          exact ⟨rfl, HO2.out.below⟩
        | true =>
          go_upto_region 9 with fail
          have HSC := Lib.hid (fun (wx : World) (hb : Below w2.heap.size w2 wx) => And.intro (cells2 (HO2.out.blk.below hb HO2.out.blk.lt)) (HAT.out wx (HO2.out.below.trans (hb.mono HO2.out.below.size))).1)
          go_cut [7, 8] from 30 to 38 (fun s7 s8 wx => s8 = .bool M ∧ ∃ y, s7 = .pointer (some ⟨y, 0, none⟩) ∧ Blk wx y 2 (rowL [.int .i64 y1, .int .i64 y2]) ∧ Below w2.heap.size w2 wx ∧ w2.heap.size ≤ y)
          case first =>
            go_wp2_with fail
            refine crossE_abs (fun wx => Below w2.heap.size w2 wx) 11 [0, 1, 2, 3, 4] 5 9 [(true, 6), (true, 7), (true, 8), (false, 9), (false, 10), (false, 11)] [(false, 5), (true, 6), (true, 7), (true, 8), (false, 10), (false, 11)] (by kernel_rfl) (by kernel_rfl) (fun _ _ d _ _ h => by cases d <;> exact h) fun w5 hs5 => ⟨hs5.below _, ?_⟩
            have Y5 := Lib.hid (show Below w2.heap.size w2 w5 from hs5.below _)
            clear hs5
            iterate 5 (refine pre_run _ ?_ rfl rfl ?_ ?_; rotate_left; (focus (intro w' hS; obtain ⟨⟨d0, d1⟩, c0, c1, c2, c3, c4, c5⟩ := HSC.out _ hS; go_simp; exact rfl)); simp only [Act.put, List.setIfInBounds_toArray, List.set_cons_zero, List.set_cons_succ, List.getElem_toArray, List.getElem_cons_zero, List.getElem_cons_succ])
            refine pre_end ⟨?_, ?_⟩
            · refine pe_call (R := fun v w' => v = .tuple #[.agg #[.int .i64 y1, .int .i64 y2], .bool M] ∧ Below w5.heap.size w5 w') _ rfl rfl (by go_simp) ((vote_is t1 t2 pv pp pj pk a4 n4 c4' a5 n5 c5' y1 y2 HY.out M HMM.out _).mono fun e w' h => ⟨_, h.1, rfl, h.2⟩) (fun v w' h => Y5.out.trans (h.2.mono Y5.out.size)) fun v w6 hr => ?_
              obtain ⟨rfl, hb⟩ := hr
              have Y6 := Lib.hid (Y5.out.trans (hb.mono Y5.out.size))
              clear hb
              simp only [Act.put, List.setIfInBounds_toArray, List.set_cons_zero, List.set_cons_succ, List.getElem_toArray, List.getElem_cons_zero, List.getElem_cons_succ]
              iterate 3 (refine pe_run _ ?_ rfl rfl ?_ ?_; rotate_left; (focus (intro w' hS; go_simp; exact rfl)); simp only [Act.put, List.setIfInBounds_toArray, List.set_cons_zero, List.set_cons_succ, List.getElem_toArray, List.getElem_cons_zero, List.getElem_cons_succ])
              have BA := Lib.hid ((Below.refl w6.heap.size w6).alloc (Nat.le_refl _) (.cells #[.int .i64 0, .int .i64 0] 23))
              have Y7 := Lib.hid (Y6.out.trans (BA.out.mono Y6.out.size))
              obtain ⟨y, hy⟩ : ∃ y, w6.heap.size = y := ⟨_, rfl⟩
              have YL := Lib.hid (show w2.heap.size ≤ y by rw [← hy]; exact Y6.out.size)
              have XI := Lib.hid (show Blk (w6.alloc (.cells #[.int .i64 0, .int .i64 0] 23)) y 2 (rowL [.int .i64 0, .int .i64 0]) from Blk.new' hy.symm (row2_ _ _))
              refine pe_value (w' := w6.alloc (.cells #[.int .i64 0, .int .i64 0] 23)) _ (.pointer (some ⟨y, 0, none⟩)) rfl rfl (by rw [← hy]; go_simp) Y7.out ?_
              generalize w6.alloc (.cells #[.int .i64 0, .int .i64 0] 23) = w7 at *
              simp only [Act.put, List.setIfInBounds_toArray, List.set_cons_zero, List.set_cons_succ, List.getElem_toArray, List.getElem_cons_zero, List.getElem_cons_succ]
              clear hy BA
              obtain ⟨v0, v1⟩ := cells2 XI.out
              have z0 := XI.out.frz 0
              have z1 := XI.out.frz 1
              obtain ⟨xi, ui⟩ := rset2 XI.out (.int .i64 y1) (.int .i64 y2)
              have XS := Lib.hid (Y7.out.trans (ui.below YL.out))
              refine pe_store _ rfl rfl (by go_simp) XS.out ?_
              simp only [Act.put, List.getElem_toArray, List.getElem_cons_zero, List.getElem_cons_succ]
              refine pe_last _ rfl ?_
              simp only [List.getElem_toArray, List.getElem_cons_zero, List.getElem_cons_succ]
              clear v0 v1 z0 z1
              have XB := Lib.hid xi
              clear xi ui
              go_wp2_with fail
              go_meet
              exact ⟨rfl, y, rfl, XB.out, XS.out, YL.out⟩
            · have BA := Lib.hid ((Below.refl w5.heap.size w5).alloc (Nat.le_refl _) (.cells #[.int .i64 0, .int .i64 0] 23))
              have Y6 := Lib.hid (Y5.out.trans (BA.out.mono Y5.out.size))
              obtain ⟨y, hy⟩ : ∃ y, w5.heap.size = y := ⟨_, rfl⟩
              have YL := Lib.hid (show w2.heap.size ≤ y by rw [← hy]; exact Y5.out.size)
              have XI := Lib.hid (show Blk (w5.alloc (.cells #[.int .i64 0, .int .i64 0] 23)) y 2 (rowL [.int .i64 0, .int .i64 0]) from Blk.new' hy.symm (row2_ _ _))
              refine pe_value (w' := w5.alloc (.cells #[.int .i64 0, .int .i64 0] 23)) _ (.pointer (some ⟨y, 0, none⟩)) rfl rfl (by rw [← hy]; go_simp) Y6.out ?_
              generalize w5.alloc (.cells #[.int .i64 0, .int .i64 0] 23) = w7 at *
              simp only [Act.put, List.setIfInBounds_toArray, List.set_cons_zero, List.set_cons_succ, List.getElem_toArray, List.getElem_cons_zero, List.getElem_cons_succ]
              clear hy BA
              refine pe_call (R := fun v w' => v = .tuple #[.agg #[.int .i64 y1, .int .i64 y2], .bool M] ∧ Below w7.heap.size w7 w') _ rfl rfl (by go_simp) ((vote_is t1 t2 pv pp pj pk a4 n4 c4' a5 n5 c5' y1 y2 HY.out M HMM.out _).mono fun e w' h => ⟨_, h.1, rfl, h.2⟩) (fun v w' h => Y6.out.trans (h.2.mono Y6.out.size)) fun v w6 hr => ?_
              obtain ⟨rfl, hb⟩ := hr
              have Y7 := Lib.hid (Y6.out.trans (hb.mono Y6.out.size))
              have XJ := Lib.hid (XI.out.below hb XI.out.lt)
              clear hb XI
              simp only [Act.put, List.setIfInBounds_toArray, List.set_cons_zero, List.set_cons_succ, List.getElem_toArray, List.getElem_cons_zero, List.getElem_cons_succ]
              iterate 3 (refine pe_run _ ?_ rfl rfl ?_ ?_; rotate_left; (focus (intro w' hS; go_simp; exact rfl)); simp only [Act.put, List.setIfInBounds_toArray, List.set_cons_zero, List.set_cons_succ, List.getElem_toArray, List.getElem_cons_zero, List.getElem_cons_succ])
              obtain ⟨v0, v1⟩ := cells2 XJ.out
              have z0 := XJ.out.frz 0
              have z1 := XJ.out.frz 1
              obtain ⟨xi, ui⟩ := rset2 XJ.out (.int .i64 y1) (.int .i64 y2)
              have XS := Lib.hid (Y7.out.trans (ui.below YL.out))
              refine pe_store _ rfl rfl (by go_simp) XS.out ?_
              simp only [Act.put, List.getElem_toArray, List.getElem_cons_zero, List.getElem_cons_succ]
              refine pe_last _ rfl ?_
              simp only [List.getElem_toArray, List.getElem_cons_zero, List.getElem_cons_succ]
              clear v0 v1 z0 z1
              have XB := Lib.hid xi
              clear xi ui
              go_wp2_with fail
              go_meet
              exact ⟨rfl, y, rfl, XB.out, XS.out, YL.out⟩
          case rest =>
            obtain ⟨rfl, y, rfl, hy, hbx, hyl⟩ := hcut
            have HY2 := Lib.hid hy
            have HO3 := Lib.hid (HO2.out.on hbx)
            have YL := Lib.hid hyl
            clear hy hbx hyl
            cases M with
            | false =>
              obtain ⟨_, rfl, rfl⟩ := HF.out.resolve_left (fun h => by cases h.1)
              obtain ⟨d0, d1⟩ := cells2 HO3.out.blk
              obtain ⟨e0, e1⟩ := cells2 HY2.out
              have f0 := HO3.out.blk.frz 0
              have f1 := HO3.out.blk.frz 1
              obtain ⟨xi, ui⟩ := rset2 HO3.out.blk (.int .i64 t1) (.int .i64 t2)
              have XI := Lib.hid xi
              have UI := Lib.hid ui
              clear xi ui
              go_wp2_with fail
              go_roundw
              case rel => exact ⟨i + 1, vs, t1, t2, _, by have := HLT.out; omega, by go_num, rfl, ⟨HO3.out.below.trans (UI.out.below (by have := HQ.out; omega)), XI.out, row_keep HO3.out.row (fun c hc => UI.out.block c (by have := (HO3.out.row.lt c hc).1; omega)), HO3.out.up, HO3.out.top, Nat.le_succ_of_le HO3.out.len⟩⟩
              case measure => have := HLT.out; simp [intOf]; omega
            | true =>
              obtain ⟨_, htv, rfl, rfl⟩ := HF.out.resolve_right (fun h => by cases h.1)
              have HTV := Lib.hid htv
              clear htv
              obtain ⟨ti, i1, i2, i3, i4⟩ := info_parts info_int
              have cx := cell_new wc #[.int .i64 pv] 3 0 _ rfl
              have bal := (Below.refl wc.heap.size wc).alloc (Nat.le_refl _) (.cells #[.int .i64 pv] 3)
              have hown2 : (wc.alloc (.cells #[.int .i64 pv] 3)).ownsRow (q + 1) 3 1 u5 vs.length (vs.map (Value.int .i64)) := row_keep HO3.out.row fun c hc => bal.block c (HO3.out.row.lt c hc).2
              have hbs : q + 1 ≤ (wc.alloc (.cells #[.int .i64 pv] 3)).heap.size := by have := HO3.out.blk.lt; have := bal.size; omega
              have HC1 := Lib.hid (show ∀ j u, [Value.int .i64 pv][j]? = some u → (wc.alloc (.cells #[.int .i64 pv] 3)).cell? ((⟨wc.heap.size, 0, none⟩ : Addr).add j) = some u from by
                intro j u hj
                match j, hj with
                | 0, hj => simp at hj; subst hj; rw [Addr.add_lit]; exact cx
                | j + 1, hj => simp at hj)
              have HC2 := Lib.hid (show ∀ u ∈ [Value.int .i64 pv], u.oneCell' = true from by intro u hu; simp at hu; subst hu; rfl)
              have HC3 := Lib.hid (show vs.length + 1 ≤ maxLen from by have := HO3.out.len; have := HLT.out; have := H40.out; unfold maxLen; omega)
              have HC4 := Lib.hid (show (vs.length + 1) * 8 ≤ 140737488355328 from by have := HO3.out.len; have := HLT.out; have := H40.out; omega)
              obtain ⟨⟨c0, c1, c2, c3, c4, c5⟩, _, _⟩ := HAT.out wc HO3.out.below
              go_wp2_with (at_builtin; refine wpList_append_own _ rfl _ _ 26 rfl (q + 1) 3 ti (.int .i64 0) 1 8 (by kernel_rfl) i1 i2 i3 i4 rfl (by decide) u5 vs.length (vs.map (Value.int .i64)) rfl hown2 ⟨wc.heap.size, 0, none⟩ 1 1 [.int .i64 pv] rfl rfl HC1.out HC2.out HC3.out HC4.out hbs ?_)
              intro v' w' hown' hgr _
              have HQW := Lib.hid (show Blk w' q 2 (rowL [.int .i64 t1, .int .i64 t2]) from (HO3.out.blk.alloc _).of_heap (hgr.block q (HO3.out.blk.alloc (.cells #[.int .i64 pv] 3)).lt (fun e => by have := (hown2.lt q e.symm).1; omega)))
              have HYW := Lib.hid (show Blk w' y 2 (rowL [.int .i64 pv, .int .i64 t2]) from (HY2.out.alloc _).of_heap (hgr.block y (HY2.out.alloc (.cells #[.int .i64 pv] 3)).lt (fun e => by have := (HO2.out.row.lt y e.symm).2; have := YL.out; omega)))
              have HBW := Lib.hid (show Below w.heap.size w w' from (HO3.out.below.trans (bal.mono HO3.out.below.size)).grown hgr (by have := HO3.out.below.size; have := bal.size; omega) (fun k hk => by have := (hown2.lt k hk).1; have := HQ.out; omega))
              have HOW := Lib.hid hown'
              clear hown' hgr hown2 bal cx hbs c0 c1 c2 c3 c4 c5 i1 i2 i3 i4
              obtain ⟨d0, d1⟩ := cells2 HQW.out
              obtain ⟨e0, e1⟩ := cells2 HYW.out
              have f0 := HQW.out.frz 0
              have f1 := HQW.out.frz 1
              obtain ⟨xi, ui⟩ := rset2 HQW.out (.int .i64 pv) (.int .i64 t2)
              have XI := Lib.hid xi
              have UI := Lib.hid ui
              clear xi ui
              go_wp2_with fail
              go_roundw
              case rel => exact ⟨i + 1, vs ++ [pv], pv, t2, _, by have := HLT.out; omega, by go_num, rfl, ⟨HBW.out.trans (UI.out.below (by have := HQ.out; omega)), XI.out, by
                rw [List.length_append, List.map_append]
                exact row_keep HOW.out (fun c hc => UI.out.block c (by have := (HOW.out.lt c hc).1; omega)), up_snoc HO3.out.up HO3.out.top HTV.out, fun x hx => by
                  rcases List.mem_append.1 hx with hx | hx
                  · have := HO3.out.top x hx; have := HTV.out; omega
                  · obtain rfl : x = pv := by simpa using hx
                    exact Int.le_refl _, by rw [List.length_append]; have := HO3.out.len; simp; omega⟩⟩
              case measure => have := HLT.out; simp [intOf]; omega
      · obtain rfl : i = L.length := by omega
        have hlt' : ¬ ((L.length : Nat) : Int) < (L.length : Int) := by omega
        have HIO := Lib.hid (ints_own HO.out.row)
        clear hi hlt
        obtain ⟨a1, cap1, rfl, _, hcs⟩ := HIO.out
        have HCS := Lib.hid hcs
        clear hcs
        obtain ⟨wz, rfl⟩ : ∃ wz, wz = wr := ⟨_, rfl⟩
        go_wp2_with fail
        go_loopw [9] (fun x wx => ∃ j : Nat, j ≤ 40 ∧ x = .int .i64 ((j : Int) + 1) ∧ Same wz wx) (fun x _ => 41 - (intOf x).toNat)
        case atStart => exact ⟨0, by omega, by go_num, Same.refl _⟩
        case round =>
          obtain ⟨j, hj, rfl, hsm⟩ := hrel
          have HSM := Lib.hid hsm
          have j0 : (0 : Int) ≤ (j : Int) := by omega
          have jb : (j : Int) ≤ 40 := by omega
          clear hsm hj
          by_cases hlt : j + 1 < vs.length
          · have hlt' : (j : Int) + 1 < (vs.length : Int) := by omega
            have hlt2 : (j : Int) < (vs.length : Int) := by omega
            have HLT := Lib.hid hlt
            have HUP := Lib.hid (up_get HO.out.up hlt)
            obtain ⟨gb, off, rfl, hbw, hcell⟩ : ∃ b off, a1 = some ⟨b, off, none⟩ ∧ b < wz.heap.size ∧ ∀ i, i < vs.length → wz.cell? ⟨b, off + i, none⟩ = some (.int .i64 (vs.getD i 0)) := by
              rcases HCS.out with h | h
              · subst h; simp at hlt
              · exact h
            have k1 := hcell (j + 1) hlt
            have k0 := hcell j (by omega)
            obtain ⟨x, hx⟩ : ∃ x, vs.getD (j + 1) 0 = x := ⟨_, rfl⟩
            obtain ⟨z, hz⟩ : ∃ z, vs.getD j 0 = z := ⟨_, rfl⟩
            rw [hx] at k1 HUP
            rw [hz] at k0 HUP
            have K := Lib.hid (And.intro k1 k0)
            have u1 : decide (x ≤ z) = false := decide_eq_false (by have := HUP.out; omega)
            have u2 : ¬ x ≤ z := by have := HUP.out; omega
            clear hlt hbw hcell hx hz k1 k0
            go_upto_region 16 with fail
            refine quiet_abs (by kernel_rfl) (by kernel_rfl) fun w2 hs2 => ?_
            have m1 : w2.cell? ⟨gb, off + (j + 1), none⟩ = some (.int .i64 x) := (hs2.cell _).trans ((HSM.out.cell _).trans K.out.1)
            have m0 : w2.cell? ⟨gb, off + j, none⟩ = some (.int .i64 z) := (hs2.cell _).trans ((HSM.out.cell _).trans K.out.2)
            have SM := Lib.hid (show Same wz w2 from ⟨hs2.heap.trans HSM.out.heap, hs2.tape.trans HSM.out.tape, hs2.os.trans HSM.out.os, hs2.output.trans HSM.out.output⟩)
            obtain ⟨J, hJ⟩ : ∃ J, (j : Int) + 1 = J := ⟨_, rfl⟩
            have t3 : J.toNat = j + 1 := by omega
            have t4 : (0 : Int) ≤ J := by omega
            have t5 : IntKind.i64.wrap (J - 1) = (j : Int) := by rw [← hJ, IntKind.wrap_i64]; omega
            rw [hJ] at hlt'
            rw [hJ]
            have HJ := Lib.hid hJ
            clear hs2 hJ
            repeat still_step
            refine wpStill_nil ?_
            rw [← HJ.out]
            clear t3 t4 t5 m1 m0
            go_wp2_with fail
            go_roundw
            case rel => exact ⟨j + 1, by have := HLT.out; have := HO.out.len; have := H40.out; omega, by go_num, SM.out⟩
            case measure => have := HLT.out; have := HO.out.len; have := H40.out; simp [intOf]; omega
          · have hlt' : ¬ (j : Int) + 1 < (vs.length : Int) := by omega
            clear hlt
            go_wp2_with fail
            go_ret
            exact ⟨rfl, HO.out.below.trans ((HSM.out.below _).mono HO.out.below.size)⟩
  · have t1 : decide ((40 : Int) < (L.length : Int)) = true := decide_eq_true (by omega)
    clear h40 hl
    go_enter Try.func3, Try.ntmps3
    go_wp2_with fail
    refine (rawake_any _).mono ?_
    rintro e w1 ⟨rfl, hb1⟩
    have X1 := Lib.hid (X0.out.trans (hb1.mono X0.out.size))
    clear hb1
    go_wp2_with fail
    refine (rawake_any _).mono ?_
    rintro e w2 ⟨rfl, hb2⟩
    have X2 := Lib.hid (X1.out.trans (hb2.mono X1.out.size))
    clear hb2
    go_wp2_with fail
    go_ret
    exact ⟨rfl, X2.out⟩
end Go.Proofs.Ytlpnggdghmccjaa
end
