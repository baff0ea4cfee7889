/-
  The walk of the code's chained: the digests of blocks that stand on one another.
-/
import Derived.Test.YtegkhhegapnkpaaDoorKGLook
import Derived.Test.YtegkhhegapnkpaaDoorKRAwake
import Derived.Test.YtegkhhegapnkpaaDoorKJBox
import Derived.Test.YtegkhhegapnkpaaDoorKJLawD
import Derived.Test.YtegkhhegapnkpaaDoorKEText
import Derived.Test.YtegkhhegapnkpaaDoorKJRefT
import Derived.Test.YtegkhhegapnkpaaDoorKJUnlike
import Derived.Test.YtegkhhegapnkpaaDoorKJRow
import Derived.Test.YtegkhhegapnkpaaDoorKPlanG
import Derived.Test.YtegkhhegapnkpaaDoorKPlanE
import Derived.Test.YtegkhhegapnkpaaDoorKJRefO
import Derived.Test.YtegkhhegapnkpaaDoorKYSame
import Derived.Maps.AppendAt
section
open Go Go.RowKit
namespace FF
open JJ CC WW BB MM
/-- a block with its two slices -/
abbrev Bv := BlockD × Value × Value
def bd0 : BlockD := (((0, 0), ((0, ⟨#[]⟩), [])), [])
def vb0 : Bv := (bd0, .slice none 0 0, .slice none 0 0)
def encB (x : Bv) : List Value := [.int .i64 (viewI x.1), .int .i64 (propI x.1), .int .i64 (jvI x.1), .string (parI x.1), x.2.1, x.2.2]
def InnB (w : World) (x : Bv) : Prop := SigsAt w x.2.1 (sigsI x.1) ∧ ReqsAt w x.2.2 x.1.2
theorem InnB.later {w w' : World} {x : Bv} (h : InnB w x) (hb : Below w.heap.size w w') : InnB w' x := ⟨h.1.later hb, h.2.later hb⟩
/-- v is a slice of the blocks L -/
def BvAt (w : World) (v : Value) (L : List Bv) : Prop :=
  ∃ a0 cap, v = .slice a0 L.length cap ∧ (L = [] ∨ ∃ b off, a0 = some ⟨b, off, none⟩ ∧ b < w.heap.size ∧
    ∀ i, i < L.length → (∀ j u, (encB (L.getD i vb0))[j]? = some u → w.cell? ⟨b, off + i * 6 + j, none⟩ = some u) ∧ InnB w (L.getD i vb0))
theorem BvAt.later {w w' : World} {v : Value} {L : List Bv} (h : BvAt w v L) (hb : Below w.heap.size w w') : BvAt w' v L := by
  obtain ⟨a0, cap, rfl, h | ⟨b, off, rfl, hl, hc⟩⟩ := h
  · exact ⟨a0, cap, rfl, Or.inl h⟩
  · refine ⟨_, cap, rfl, Or.inr ⟨b, off, rfl, Nat.lt_of_lt_of_le hl hb.size, fun i hi => ?_⟩⟩
    obtain ⟨h1, h2⟩ := hc i hi
    exact ⟨fun j u hu => (hb.cell (p := ⟨b, off + i * 6 + j, none⟩) hl).trans (h1 j u hu), h2.later hb⟩
theorem bv_shape {w : World} {v : Value} {L : List Bv} (h : BvAt w v L) : ∃ a c, v = .slice a L.length c := by
  obtain ⟨a, c, rfl, _⟩ := h; exact ⟨a, c, rfl⟩
/-- where the blocks lie -/
theorem bv_at {w : World} {a0 : Option Addr} {n c : Nat} {L : List Bv} (h : BvAt w (.slice a0 n c) L) (i : Nat) (hi : i < L.length) : ∃ b off, a0 = some ⟨b, off, none⟩ ∧ b < w.heap.size ∧ n = L.length ∧
    ∀ wr, Below w.heap.size w wr → ∀ i, i < L.length → wr.cell? ⟨b, off + i * 6, none⟩ = some (.int .i64 (viewI (L.getD i vb0).1)) ∧ wr.cell? ⟨b, off + i * 6 + 1, none⟩ = some (.int .i64 (propI (L.getD i vb0).1)) ∧ wr.cell? ⟨b, off + i * 6 + 2, none⟩ = some (.int .i64 (jvI (L.getD i vb0).1)) ∧
      wr.cell? ⟨b, off + i * 6 + 3, none⟩ = some (.string (parI (L.getD i vb0).1)) ∧ wr.cell? ⟨b, off + i * 6 + 4, none⟩ = some (L.getD i vb0).2.1 ∧ wr.cell? ⟨b, off + i * 6 + 5, none⟩ = some (L.getD i vb0).2.2 ∧ InnB wr (L.getD i vb0) := by
  obtain ⟨a1, c1, he, h | ⟨b, off, h1, hl, hc⟩⟩ := h
  · subst h; simp at hi
  · injection he with e1 e2 _
    subst e1 h1
    refine ⟨b, off, rfl, hl, e2, fun wr hb i hi => ?_⟩
    obtain ⟨h1, h2⟩ := hc i hi
    have k : ∀ j u, (encB (L.getD i vb0))[j]? = some u → wr.cell? ⟨b, off + i * 6 + j, none⟩ = some u := fun j u hu => (hb.cell (p := ⟨b, off + i * 6 + j, none⟩) hl).trans (h1 j u hu)
    exact ⟨k 0 _ rfl, k 1 _ rfl, k 2 _ rfl, k 3 _ rfl, k 4 _ rfl, k 5 _ rfl, h2.later hb⟩
def cellsB (L : List Bv) : List Value := (L.map encB).flatten
theorem cellsB_snoc (L : List Bv) (x : Bv) : cellsB (L ++ [x]) = cellsB L ++ encB x := by unfold cellsB; rw [List.map_append, List.flatten_append]; simp
theorem cellsB_at : ∀ (L : List Bv) (i j : Nat) (u : Value), i < L.length → (encB (L.getD i vb0))[j]? = some u → (cellsB L)[i * 6 + j]? = some u
  | [], i, j, u, h, _ => by simp at h
  | x :: r, 0, j, u, _, hu => by
    show (encB x ++ cellsB r)[0 * 6 + j]? = some u
    have hu' : (encB x)[j]? = some u := hu
    have hj : j < (encB x).length := (List.getElem?_eq_some_iff.1 hu').1
    rw [Nat.zero_mul, Nat.zero_add, List.getElem?_append_left hj]; exact hu'
  | x :: r, i + 1, j, u, h, hu => by
    show (encB x ++ cellsB r)[(i + 1) * 6 + j]? = some u
    have hx : (encB x).length = 6 := rfl
    rw [show (i + 1) * 6 + j = 6 + (i * 6 + j) by omega, List.getElem?_append_right (by omega), hx, Nat.add_sub_cancel_left]
    exact cellsB_at r i j u (by simpa using h) (by simpa [List.getD] using hu)
theorem bv_of_own {w : World} {B : Nat} {e : TypeId} {v : Value} {L : List Bv} (h : w.ownsRow B e 6 v L.length (cellsB L)) (hi : ∀ x ∈ L, InnB w x) : BvAt w v L := by
  rcases h.2 with ⟨rfl, h0⟩ | ⟨g, cap, cur, rfl, hg, hh, hn, hcm, hsz, htk⟩
  · exact ⟨none, 0, by rw [h0], Or.inl (List.eq_nil_of_length_eq_zero h0)⟩
  · have hcell : ∀ j u, j < L.length * 6 → (cellsB L)[j]? = some u → w.cell? ⟨g, j, none⟩ = some u := fun j u hj hu => by
      rw [← htk, List.getElem?_take_of_lt hj, Array.getElem?_toList] at hu
      unfold World.cell?; rw [hh]; simpa using hu
    refine ⟨_, cap, rfl, Or.inr ⟨g, 0, rfl, (Array.getElem?_eq_some_iff.1 hh).1, fun i hil => ⟨fun j u hu => ?_, ?_⟩⟩⟩
    · have hj : j < 6 := (List.getElem?_eq_some_iff.1 hu).1
      rw [Nat.zero_add]
      exact hcell _ _ (by omega) (cellsB_at L i j u hil hu)
    · exact hi _ (by rw [getD_at hil]; exact List.getElem_mem hil)
/-- v is a slice of threes of bytes -/
def TriAt (w : World) (v : Value) (l : List (Nat × Nat × Nat)) : Prop :=
  ∃ a0 cap, v = .slice a0 l.length cap ∧ (l = [] ∨ ∃ b off, a0 = some ⟨b, off, none⟩ ∧ b < w.heap.size ∧
    ∀ i, i < l.length → w.cell? ⟨b, off + i * 3, none⟩ = some (.int .u8 ((l.getD i (0, 0, 0)).1 : Int)) ∧ w.cell? ⟨b, off + i * 3 + 1, none⟩ = some (.int .u8 ((l.getD i (0, 0, 0)).2.1 : Int)) ∧ w.cell? ⟨b, off + i * 3 + 2, none⟩ = some (.int .u8 ((l.getD i (0, 0, 0)).2.2 : Int)))
theorem TriAt.later {w w' : World} {v : Value} {l : List (Nat × Nat × Nat)} (h : TriAt w v l) (hb : Below w.heap.size w w') : TriAt w' v l := by
  obtain ⟨a0, cap, rfl, h | ⟨b, off, rfl, hl, hc⟩⟩ := h
  · exact ⟨a0, cap, rfl, Or.inl h⟩
  · refine ⟨_, cap, rfl, Or.inr ⟨b, off, rfl, Nat.lt_of_lt_of_le hl hb.size, fun i hi => ?_⟩⟩
    obtain ⟨h1, h2, h3⟩ := hc i hi
    exact ⟨(hb.cell (p := ⟨b, off + i * 3, none⟩) hl).trans h1, (hb.cell (p := ⟨b, off + i * 3 + 1, none⟩) hl).trans h2, (hb.cell (p := ⟨b, off + i * 3 + 2, none⟩) hl).trans h3⟩
/-- one block more of a chain -/
def nextB (out : List BlockD) (i : Nat) (t : Nat × Nat × Nat) : BlockD :=
  let q := t.2.1 % (i + 1)
  let cv := if 0 < q then viewI (out.getD (q - 1) bd0) else 0
  let cd := if 0 < q then digI (out.getD (q - 1) bd0) else firstD
  (((cv + 1 + ((t.1 % 4 : Nat) : Int), 0), ((cv, cd), [])), [(((t.2.2 % 4 : Nat) : Int), 1 + (i : Int), ⟨#[]⟩)])
def chainL (l : List (Nat × Nat × Nat)) : Nat → List BlockD
  | 0 => []
  | i + 1 => chainL l i ++ [nextB (chainL l i) i (l.getD i (0, 0, 0))]
theorem chain_len (l : List (Nat × Nat × Nat)) : ∀ i, (chainL l i).length = i
  | 0 => rfl
  | i + 1 => by rw [chainL, List.length_append, chain_len l i]; rfl
theorem chain_views (l : List (Nat × Nat × Nat)) : ∀ (i j : Nat), 0 ≤ viewI ((chainL l i).getD j bd0) ∧ viewI ((chainL l i).getD j bd0) ≤ 4 * (i : Int)
  | 0, j => by simp [chainL, bd0, viewI]
  | i + 1, j => by
    rw [chainL]
    by_cases hj : j < i
    · rw [List.getD_eq_getElem?_getD, List.getElem?_append_left (by rw [chain_len]; exact hj), ← List.getD_eq_getElem?_getD]
      have := chain_views l i j
      omega
    · by_cases e : j = i
      · subst e
        rw [List.getD_eq_getElem?_getD, List.getElem?_append_right (by rw [chain_len]; exact Nat.le_refl _), chain_len, Nat.sub_self]
        show 0 ≤ viewI (nextB _ _ _) ∧ viewI (nextB _ _ _) ≤ _
        unfold nextB viewI
        simp only
        split
        · have h1 := chain_views l j ((l.getD j (0, 0, 0)).2.1 % (j + 1) - 1)
          unfold viewI at h1
          omega
        · omega
      · rw [List.getD_eq_getElem?_getD, List.getElem?_eq_none (by simp [chain_len]; omega)]
        simp [bd0, viewI]; omega
theorem chain_small (l : List (Nat × Nat × Nat)) : ∀ i, ∀ x ∈ chainL l i, SmallI x ∧ sigsI x = [] ∧ propI x = 0
  | 0, x, hx => by cases hx
  | i + 1, x, hx => by
    rcases List.mem_append.1 hx with hx | hx
    · exact chain_small l i x hx
    · obtain rfl : x = nextB (chainL l i) i (l.getD i (0, 0, 0)) := by simpa using hx
      refine ⟨⟨?_, ⟨by show (0 : Nat) ≤ 1000; omega, by show (0 : Nat) ≤ 500000; omega, fun j hj => absurd hj (Nat.not_lt_zero j)⟩, ⟨by show (1 : Nat) ≤ 1000; omega, by show (12 : Nat) ≤ 500000; omega, fun j hj => ?_⟩⟩, rfl, rfl⟩
      · unfold nextB parI
        simp only
        split
        · rw [show (digI _).size = 32 from digD_size _ _ _ _ _]; omega
        · rw [firstD_size]; omega
      · obtain rfl : j = 0 := by have : j < 1 := hj; omega
        show (0 : Nat) ≤ 500000; omega
theorem own_apart' {e e' : TypeId} {w : World} {B B' c c' : Nat} {v v' : Value} {n n' : Nat} {xs xs' : List Value} (h : w.ownsRow B e c v n xs) (h' : w.ownsRow B' e' c' v' n' xs') (hne : e ≠ e') : ∀ b, v'.ownBlock = some b → some b ≠ v.ownBlock := by
  intro b hb he
  rcases h.2 with ⟨rfl, _⟩ | ⟨g, cap, cur, rfl, _, hh, _⟩
  · cases he
  · rcases h'.2 with ⟨rfl, _⟩ | ⟨g', cap', cur', rfl, _, hh', _⟩
    · cases hb
    · simp only [Value.ownBlock, Option.some.injEq] at hb he
      have hgg : g' = g := by omega
      rw [hgg, hh] at hh'
      injection hh' with hh'
      injection hh' with _ h2 _
      exact hne h2
/-- the chain so far: a row of blocks, each one's request in a row of its own -/
structure ChSt (w0 : World) (tB tQ : TypeId) (L : List Bv) (x : Value) (wr : World) : Prop where
  below : Below w0.heap.size w0 wr
  row : wr.ownsRow w0.heap.size tB 6 x L.length (cellsB L)
  reqs : ∀ y ∈ L, y.2.1 = .slice none 0 0 ∧ sigsI y.1 = [] ∧ wr.ownsRow w0.heap.size tQ 3 y.2.2 y.1.2.length (cellsR y.1.2)
theorem ChSt.on {w0 : World} {tB tQ : TypeId} {L : List Bv} {x : Value} {wr w2 : World} (h : ChSt w0 tB tQ L x wr) (hb : Below wr.heap.size wr w2) : ChSt w0 tB tQ L x w2 :=
  ⟨h.below.trans (hb.mono h.below.size), row_keep h.row fun c hc => hb.block c (h.row.lt c hc).2, fun y hy => ⟨(h.reqs y hy).1, (h.reqs y hy).2.1, row_keep (h.reqs y hy).2.2 fun c hc => hb.block c ((h.reqs y hy).2.2.lt c hc).2⟩⟩
theorem ChSt.inn {w0 : World} {tB tQ : TypeId} {L : List Bv} {x : Value} {wr : World} (h : ChSt w0 tB tQ L x wr) : ∀ y ∈ L, InnB wr y := fun y hy => by
  obtain ⟨h1, h2, h3⟩ := h.reqs y hy
  exact ⟨by rw [h1, h2]; exact ⟨none, 0, rfl, Or.inl rfl⟩, reqs_of_own h3⟩
theorem ChSt.bv {w0 : World} {tB tQ : TypeId} {L : List Bv} {x : Value} {wr : World} (h : ChSt w0 tB tQ L x wr) : BvAt wr x L := bv_of_own h.row h.inn
theorem ChSt.shape {w0 : World} {tB tQ : TypeId} {L : List Bv} {x : Value} {wr : World} (h : ChSt w0 tB tQ L x wr) : ∃ a c, x = .slice a L.length c := bv_shape h.bv
theorem ChSt.add {w0 : World} {tB tQ : TypeId} (ht : tB ≠ tQ) {L : List Bv} {x u' : Value} {wr w3 : World} (h : ChSt w0 tB tQ L x wr) (y : Bv) (hy : y.2.1 = .slice none 0 0 ∧ sigsI y.1 = [] ∧ wr.ownsRow w0.heap.size tQ 3 y.2.2 y.1.2.length (cellsR y.1.2))
    (hr : w3.ownsRow w0.heap.size tB 6 u' (L.length + 1) (cellsB L ++ encB y)) (hg : wr.grownBy w3 x.ownBlock) : ChSt w0 tB tQ (L ++ [y]) u' w3 := by
  have hk : ∀ z : Bv, wr.ownsRow w0.heap.size tQ 3 z.2.2 z.1.2.length (cellsR z.1.2) → w3.ownsRow w0.heap.size tQ 3 z.2.2 z.1.2.length (cellsR z.1.2) := fun z hz =>
    row_keep hz fun c hc => hg.block c (hz.lt c hc).2 (own_apart' h.row hz ht c hc)
  refine ⟨h.below.grown hg h.below.size fun k hk => (h.row.lt k hk).1, by rw [List.length_append, List.length_singleton, cellsB_snoc]; exact hr, fun z hz => ?_⟩
  rcases List.mem_append.1 hz with hz | hz
  · exact ⟨(h.reqs z hz).1, (h.reqs z hz).2.1, hk z (h.reqs z hz).2.2⟩
  · obtain rfl : z = y := by simpa using hz
    exact ⟨hy.1, hy.2.1, hk z hy.2.2⟩
theorem ChSt.upd {w0 : World} {tB tQ : TypeId} {L : List Bv} {x : Value} {wr w2 : World} {y : Nat} (h : ChSt w0 tB tQ L x wr) (hu : Upd y wr w2) (hy : w0.heap.size ≤ y) (h1 : ∀ c, x.ownBlock = some c → c ≠ y) (h2 : ∀ z ∈ L, ∀ c, z.2.2.ownBlock = some c → c ≠ y) : ChSt w0 tB tQ L x w2 :=
  ⟨h.below.trans (hu.below hy), row_keep h.row fun c hc => hu.block c (h1 c hc), fun z hz => ⟨(h.reqs z hz).1, (h.reqs z hz).2.1, row_keep (h.reqs z hz).2.2 fun c hc => hu.block c (h2 z hz c hc)⟩⟩
theorem bmap_getD (L : List Bv) (i : Nat) (h : i < L.length) : (L.map Prod.fst).getD i bd0 = (L.getD i vb0).1 := by
  simp [List.getD, List.getElem?_eq_getElem h]
theorem gset3 {w : World} {a : Nat} {f : Nat → Value} (h : Blk w a 3 f) (u0 u1 u2 : Value) :
    Blk (((w.setCell ⟨a, 0, none⟩ u0).setCell ⟨a, 1, none⟩ u1).setCell ⟨a, 2, none⟩ u2) a 3 (rowL [u0, u1, u2]) ∧ Upd a w (((w.setCell ⟨a, 0, none⟩ u0).setCell ⟨a, 1, none⟩ u1).setCell ⟨a, 2, none⟩ u2) := by
  refine ⟨(((h.set 0 u0).set 1 u1).set 2 u2).congr _ fun i hi => ?_, (((Upd.refl a w).trans (Upd.set _ _ _ _)).trans (Upd.set _ _ _ _)).trans (Upd.set _ _ _ _)⟩
  match i, hi with
  | 0, _ => rfl
  | 1, _ => rfl
  | 2, _ => rfl
theorem ChSt.nil (w : World) (tB tQ : TypeId) : ChSt w tB tQ [] (.slice none 0 0) w := ⟨Below.refl _ _, World.ownsRow_nil _ _ _ _, fun y hy => by cases hy⟩
end FF
namespace Go.Proofs.YtegkhhegapnkpaaDoor
open FF JJ CC MM WW BB
set_option maxRecDepth 100000 in
set_option maxHeartbeats 8000000 in
theorem chain_any (l : List (Nat × Nat × Nat)) (v : Value) (w : World) (hv : TriAt w v l) (hb : ∀ i, (l.getD i (0, 0, 0)).1 < 256 ∧ (l.getD i (0, 0, 0)).2.1 < 256 ∧ (l.getD i (0, 0, 0)).2.2 < 256) (hl : l.length ≤ 1000000) :
    Calls Tryd.prog 19 #[v] w fun e w' => ∃ u, e = .returned u ∧ ∃ L, L.map Prod.fst = chainL l (min l.length 40) ∧ BvAt w' u L ∧ Below w.heap.size w w' := by
  have HV := Lib.hid hv
  have HB := Lib.hid hb
  have HL := Lib.hid hl
  obtain ⟨a0, cap, rfl, hx⟩ := hv
  have HX := Lib.hid hx
  clear hb hl hx
  go_enter Tryd.func19, Tryd.ntmps19
  go_wp2_with fail
  go_loopw [3, 4] (fun x y wr => ∃ (i : Nat) (L : List Bv), i ≤ min l.length 40 ∧ y = .int .i64 (i : Int) ∧ L.map Prod.fst = chainL l i ∧ ChSt w 29 34 L x wr) (fun _ y _ => 40 - (intOf y).toNat)
  case atStart => exact ⟨0, [], Nat.zero_le _, rfl, rfl, ChSt.nil _ _ _⟩
  case round =>
    obtain ⟨i, L, hi, rfl, hmap, hst⟩ := hrel
    have HST := Lib.hid hst
    have HMAP := Lib.hid hmap
    have HLN := Lib.hid (show L.length = i by have := congrArg List.length hmap; rwa [List.length_map, chain_len] at this)
    have i0' : (0 : Int) ≤ (i : Int) := by omega
    have ib : (i : Int) ≤ 40 := by omega
    obtain ⟨xa, xc, rfl⟩ := hst.shape
    clear hst hmap
    by_cases h1 : i < l.length
    · have h1' : (i : Int) < (l.length : Int) := by omega
      by_cases h2 : i < 40
      · have h2' : (i : Int) < 40 := by omega
        have HI1 := Lib.hid h1
        have HI2 := Lib.hid h2
        obtain ⟨tb, toff, rfl, hbw, hcell⟩ : ∃ b off, a0 = some ⟨b, off, none⟩ ∧ b < w.heap.size ∧ _ := by
          rcases HX.out with h | h
          · subst h; simp at h1
          · exact h
        have HT := Lib.hid (fun (wx : World) (hb : Below w.heap.size w wx) => show wx.cell? ⟨tb, toff + i * 3, none⟩ = some (.int .u8 ((l.getD i (0, 0, 0)).1 : Int)) ∧ wx.cell? ⟨tb, toff + i * 3 + 1, none⟩ = some (.int .u8 ((l.getD i (0, 0, 0)).2.1 : Int)) ∧ wx.cell? ⟨tb, toff + i * 3 + 2, none⟩ = some (.int .u8 ((l.getD i (0, 0, 0)).2.2 : Int)) from by
          obtain ⟨k1, k2, k3⟩ := hcell i HI1.out
          exact ⟨(hb.cell (p := ⟨tb, toff + i * 3, none⟩) hbw).trans k1, (hb.cell (p := ⟨tb, toff + i * 3 + 1, none⟩) hbw).trans k2, (hb.cell (p := ⟨tb, toff + i * 3 + 2, none⟩) hbw).trans k3⟩)
        obtain ⟨⟨ta, tc, td⟩, ht⟩ : ∃ t, l.getD i (0, 0, 0) = t := ⟨_, rfl⟩
        have HBT := Lib.hid (HB.out i)
        have HTT := Lib.hid ht
        rw [ht] at HT HBT
        obtain ⟨q, hq⟩ : ∃ q, tc % (i + 1) = q := ⟨_, rfl⟩
        have HQ := Lib.hid hq
        have e1 : ((tc : Nat) : Int).tmod ((i : Int) + 1) = (q : Int) := by rw [← hq, Int.tmod_eq_emod_of_nonneg (by omega)]; simp
        obtain ⟨k1, k2, k3⟩ := HT.out wr HST.out.below
        have hw1 : IntKind.i64.wrap ((i : Int) + 1) = (i : Int) + 1 := by rw [IntKind.wrap_i64]; omega
        have hw2 : IntKind.i64.wrap ((tc : Nat) : Int) = (tc : Int) := by rw [IntKind.wrap_i64]; have := HBT.out.2.1; simp only at this; omega
        have hne : ((i : Int) + 1 == 0) = false := by simp; omega
        have HE1 := Lib.hid e1
        clear h1 h2 hi hbw hcell ht hq
        go_wp2_with fail
        refine (rfirst_any wr).mono ?_
        rintro e w2 ⟨rfl, hb2⟩
        have X2 := Lib.hid (HST.out.on hb2)
        have A6 := Lib.hid ((Below.refl w2.heap.size w2).alloc (Nat.le_refl _) (.cells #[.int .i64 0, .string firstD, .slice none 0 0] 24))
        have X3 := Lib.hid (X2.out.on A6.out)
        have L3 := Lib.hid (show Blk (w2.alloc (.cells #[.int .i64 0, .string firstD, .slice none 0 0] 24)) w2.heap.size 3 (rowL [.int .i64 0, .string firstD, .slice none 0 0]) from Blk.new' rfl rfl)
        clear hb2 k1 k2 k3
        go_upto_region 7 with fail
        obtain ⟨y6, hy6⟩ : ∃ y6, w2.heap.size = y6 := ⟨_, rfl⟩
        obtain ⟨w3, hw3⟩ : ∃ w3, w2.alloc (.cells #[.int .i64 0, .string firstD, .slice none 0 0] 24) = w3 := ⟨_, rfl⟩
        rw [hw3] at A6 X3 L3 ⊢
        rw [hy6] at L3 ⊢
        have Y6 := Lib.hid (show w.heap.size ≤ y6 by rw [← hy6]; exact X2.out.below.size)
        have Y7 := Lib.hid (show ∀ c, (Value.slice xa L.length xc).ownBlock = some c → c < y6 from fun c hc => by rw [← hy6]; exact (X2.out.row.lt c hc).2)
        have Y8 := Lib.hid (show ∀ z ∈ L, ∀ c, z.2.2.ownBlock = some c → c < y6 from fun z hz c hc => by rw [← hy6]; exact ((X2.out.reqs z hz).2.2.lt c hc).2)
        obtain ⟨cv, hcv⟩ : ∃ cv, (if 0 < q then viewI ((chainL l i).getD (q - 1) bd0) else 0) = cv := ⟨_, rfl⟩
        obtain ⟨cd, hcd⟩ : ∃ cd, (if 0 < q then digI ((chainL l i).getD (q - 1) bd0) else firstD) = cd := ⟨_, rfl⟩
        have HCV := Lib.hid hcv
        have HCD := Lib.hid hcd
        clear hw3 hy6 hcv hcd
        go_upto_if 30 with fail
        go_cut [6] from 8 to 71 (fun s6 wx => s6 = .pointer (some ⟨y6, 0, none⟩) ∧ ChSt w 29 34 L (.slice xa L.length xc) wx ∧ Blk wx y6 3 (rowL [.int .i64 cv, .string cd, .slice none 0 0]))
        case first =>
          by_cases hq0 : 0 < q
          · have hq0' : (0 : Int) < (q : Int) := by omega
            obtain ⟨qq, rfl⟩ : ∃ qq, q = qq + 1 := ⟨q - 1, by omega⟩
            have hql : qq < L.length := by
              have h3 : tc % (i + 1) < i + 1 := Nat.mod_lt _ (by omega)
              have := HLN.out; have := HQ.out; omega
            obtain ⟨ob, ooff, rfl, hob, _, hoc⟩ := bv_at X3.out.bv qq hql
            have HOC := Lib.hid (fun wx hb => hoc wx hb qq hql)
            obtain ⟨P, hP⟩ : ∃ P, L.getD qq vb0 = P := ⟨_, rfl⟩
            rw [hP] at HOC
            have HPC := Lib.hid (show (chainL l i).getD qq bd0 = P.1 by rw [← HMAP.out, bmap_getD L qq hql, hP])
            have HPM := Lib.hid (show P.1 ∈ chainL l i by rw [← HPC.out, getD_at (by rw [chain_len]; have := HLN.out; omega)]; exact List.getElem_mem _)
            have HPS := Lib.hid (chain_small l i P.1 HPM.out)
            have e2 : cv = viewI P.1 := by rw [← HCV.out, if_pos hq0, show qq + 1 - 1 = qq from rfl, HPC.out]
            have e3 : cd = digI P.1 := by rw [← HCD.out, if_pos hq0, show qq + 1 - 1 = qq from rfl, HPC.out]
            have l1 : (0 : Int) ≤ (qq : Int) := by omega
            have l2 : (qq : Int) < (L.length : Int) := by omega
            have hw3 : IntKind.i64.wrap ((qq : Int) + 1 - 1) = (qq : Int) := by rw [IntKind.wrap_i64]; have := HLN.out; omega
            have hw5 : IntKind.i64.wrap (qq : Int) = (qq : Int) := by rw [IntKind.wrap_i64]; have := HLN.out; omega
            have hw4 : IntKind.i64.wrap (((qq + 1 : Nat) : Int) - 1) = (qq : Int) := by rw [IntKind.wrap_i64]; have := HLN.out; omega
            clear hob hoc hP hq0
            obtain ⟨pv, hpv⟩ : ∃ pv, viewI P.1 = pv := ⟨_, rfl⟩
            obtain ⟨pp, hpp⟩ : ∃ pp, propI P.1 = pp := ⟨_, rfl⟩
            obtain ⟨pj, hpj⟩ : ∃ pj, jvI P.1 = pj := ⟨_, rfl⟩
            obtain ⟨pk, hpk⟩ : ∃ pk, parI P.1 = pk := ⟨_, rfl⟩
            obtain ⟨ps, hps⟩ : ∃ ps, P.2.1 = ps := ⟨_, rfl⟩
            obtain ⟨pr, hpr⟩ : ∃ pr, P.2.2 = pr := ⟨_, rfl⟩
            rw [hpv, hpp, hpj, hpk, hps, hpr] at HOC
            rw [hpv] at e2
            have HDG := Lib.hid (show digD pv pp pj pk P.1.2 = cd by rw [e3, ← hpv, ← hpp, ← hpj, ← hpk]; rfl)
            have HPK := Lib.hid (show pk.size ≤ 1000 by rw [← hpk]; exact HPS.out.1.1)
            have HPI := Lib.hid (show ∀ wx, Below w3.heap.size w3 wx → SigsAt wx ps (sigsI P.1) ∧ ReqsAt wx pr P.1.2 from fun wx hb => by
              have h := (HOC.out wx hb).2.2.2.2.2.2
              exact ⟨hps ▸ h.1, hpr ▸ h.2⟩)
            subst e2
            clear e3 hpv hpp hpj hpk hps hpr
            go_wp2_with fail
            refine planE_abs (fun wx => Below w3.heap.size w3 wx) 13 [(true, 0), (true, 1), (true, 2), (true, 3), (true, 4), (true, 5), (true, 6), (true, 7), (true, 8), (true, 9), (true, 10), (false, 11), (true, 12), (false, 13)] (by kernel_rfl) (by kernel_rfl) (fun _ _ d _ _ h => by cases d <;> exact h) fun w4 hs4 => ⟨hs4.below _, ?_⟩
            have X4 := Lib.hid (show Below w3.heap.size w3 w4 from hs4.below _)
            clear hs4
            iterate 11 (refine pe_run _ ?_ rfl rfl ?_ ?_; rotate_left; (focus (intro w' hS; obtain ⟨d0, d1, d2, d3, d4, d5, _⟩ := HOC.out w' hS; go_simp; exact rfl)); simp only [Act.put, List.setIfInBounds_toArray, List.set_cons_zero, List.set_cons_succ, List.getElem_toArray, List.getElem_cons_zero, List.getElem_cons_succ])
            refine pe_call (R := fun u w' => u = .string cd ∧ Below w4.heap.size w4 w') _ rfl rfl (by go_simp) ((rbdigest_any cv pp pj pk ps pr (sigsI P.1) P.1.2 w4 (HPI.out w4 X4.out).1 (HPI.out w4 X4.out).2 HPK.out HPS.out.1.2.1 HPS.out.1.2.2).mono fun e w' h => ⟨.string cd, by rw [h.1, HDG.out], rfl, h.2⟩) (fun u w' h => X4.out.trans (h.2.mono X4.out.size)) fun u w5 hr => ?_
            obtain ⟨rfl, hb5⟩ := hr
            have X5 := Lib.hid (X4.out.trans (hb5.mono X4.out.size))
            clear hb5
            simp only [Act.put, List.setIfInBounds_toArray, List.set_cons_zero, List.set_cons_succ, List.getElem_toArray, List.getElem_cons_zero, List.getElem_cons_succ]
            refine pe_run _ (.agg #[.int .i64 cv, .string cd, .slice none 0 0]) rfl rfl (fun w' hS => by go_simp) ?_
            simp only [Act.put, List.setIfInBounds_toArray, List.set_cons_zero, List.set_cons_succ, List.getElem_toArray, List.getElem_cons_zero, List.getElem_cons_succ]
            have L5 := Lib.hid (L3.out.below X5.out L3.out.lt)
            have v0 := L5.out.get 0 (by omega)
            have v1 := L5.out.get 1 (by omega)
            have v2 := L5.out.get 2 (by omega)
            have z0 := L5.out.frz 0
            have z1 := L5.out.frz 1
            have z2 := L5.out.frz 2
            refine pe_last _ rfl ?_
            simp only [List.getElem_toArray, List.getElem_cons_zero, List.getElem_cons_succ]
            go_wp2_with fail
            clear v0 v1 v2 z0 z1 z2
            go_meet
            obtain ⟨xi, ui⟩ := gset3 L5.out (.int .i64 cv) (.string cd) (.slice none 0 0)
            exact ⟨rfl, (X3.out.on X5.out).upd ui Y6.out (fun c hc => Nat.ne_of_lt (Y7.out c hc)) (fun z hz c hc => Nat.ne_of_lt (Y8.out z hz c hc)), xi⟩
          · have hq0' : ¬ (0 : Int) < (q : Int) := by omega
            have e2 : cv = 0 := by rw [← HCV.out, if_neg hq0]
            have e3 : cd = firstD := by rw [← HCD.out, if_neg hq0]
            subst e2 e3
            go_wp2_with fail
            go_meet
            exact ⟨rfl, X3.out, L3.out⟩
        case rest =>
          obtain ⟨rfl, hx8, hl8⟩ := hcut
          have X8 := Lib.hid hx8
          have L8 := Lib.hid hl8
          clear hx8 hl8
          obtain ⟨m1, hm1⟩ : ∃ m1, ta % 4 = m1 := ⟨_, rfl⟩
          obtain ⟨m2, hm2⟩ : ∃ m2, td % 4 = m2 := ⟨_, rfl⟩
          have HM1 := Lib.hid hm1
          have HM2 := Lib.hid hm2
          have HCB := Lib.hid (show 0 ≤ cv ∧ cv ≤ 160 by
            rw [← HCV.out]
            split
            · have := chain_views l i (q - 1)
              have := HI2.out
              omega
            · omega)
          have e4 : ((ta : Nat) : Int).tmod 4 = (m1 : Int) := by rw [← hm1, Int.tmod_eq_emod_of_nonneg (by omega)]; simp
          have e5 : ((td : Nat) : Int).tmod 4 = (m2 : Int) := by rw [← hm2, Int.tmod_eq_emod_of_nonneg (by omega)]; simp
          have hwa : IntKind.i64.wrap (cv + 1) = cv + 1 := by rw [IntKind.wrap_i64]; have := HCB.out; omega
          have hwb : IntKind.i64.wrap (m1 : Int) = (m1 : Int) := by rw [IntKind.wrap_i64]; omega
          have hwd : IntKind.i64.wrap (m2 : Int) = (m2 : Int) := by rw [IntKind.wrap_i64]; omega
          have hwe : IntKind.i64.wrap (1 + (i : Int)) = 1 + (i : Int) := by rw [IntKind.wrap_i64]; omega
          have hwf : IntKind.u8.wrap (m1 : Int) = (m1 : Int) := by rw [IntKind.wrap_u8]; omega
          have hwg : IntKind.u8.wrap (m2 : Int) = (m2 : Int) := by rw [IntKind.wrap_u8]; omega
          obtain ⟨vw, hvw⟩ : ∃ vw, cv + 1 + (m1 : Int) = vw := ⟨_, rfl⟩
          have HVW := Lib.hid hvw
          have hwh : IntKind.i64.wrap (cv + 1 + (m1 : Int)) = vw := by rw [← hvw, IntKind.wrap_i64]; have := HCB.out; omega
          clear hm1 hm2 hvw
          go_upto_region 9 with fail
          go_cut [7] from 8 to 71 (fun s7 wx => ∃ y z, s7 = .pointer (some ⟨y, 0, none⟩) ∧ Below wc.heap.size wc wx ∧ Blk wx y 6 (rowL [.int .i64 vw, .int .i64 0, .int .i64 cv, .string cd, .slice none 0 0, .slice (some ⟨z, 0, none⟩) 1 1]) ∧ wx.ownsRow w.heap.size 34 3 (.slice (some ⟨z, 0, none⟩) 1 1) 1 [.int .i64 (m2 : Int), .int .i64 (1 + (i : Int)), .string ⟨#[]⟩])
          case first =>
            go_wp2_with fail
            refine crossE_abs (fun wx => Below wc.heap.size wc wx) 25 [0, 1, 2, 3, 4, 5, 6, 7, 8, 9, 10, 11, 12, 13, 14, 15, 16, 17, 18, 19, 20, 21] 22 24 [(true, 23), (false, 24), (false, 25)] [(false, 22), (true, 23), (false, 25)] (by kernel_rfl) (by kernel_rfl) (fun _ _ d _ _ h => by cases d <;> exact h) fun w9 hs9 => ⟨hs9.below _, ?_⟩
            have X9 := Lib.hid (show Below wc.heap.size wc w9 from hs9.below _)
            clear hs9
            iterate 22 (refine pre_run _ ?_ rfl rfl ?_ ?_; rotate_left; (focus (intro w' hS; obtain ⟨k1, k2, k3⟩ := HT.out w' (X8.out.below.trans (hS.mono X8.out.below.size)); have hcb := L8.out.below hS L8.out.lt; have d0 : _ = some (Value.int .i64 cv) := hcb.get 0 (by omega); have d1 : _ = some (Value.string cd) := hcb.get 1 (by omega); have d2 : _ = some (Value.slice none 0 0) := hcb.get 2 (by omega); clear hcb; go_simp; exact rfl)); simp only [Act.put, List.setIfInBounds_toArray, List.set_cons_zero, List.set_cons_succ, List.getElem_toArray, List.getElem_cons_zero, List.getElem_cons_succ])
            refine pre_end ⟨?_, ?_⟩
            · obtain ⟨z, hz⟩ : ∃ z, w9.heap.size = z := ⟨_, rfl⟩
              have BZ := Lib.hid ((Below.refl w9.heap.size w9).alloc (Nat.le_refl _) (.cells #[.int .i64 (m2 : Int), .int .i64 (1 + (i : Int)), .string ⟨#[]⟩] 34))
              have X10 := Lib.hid (X9.out.trans (BZ.out.mono X9.out.size))
              have ZL := Lib.hid (show wc.heap.size ≤ z by rw [← hz]; exact X9.out.size)
              have RZ := Lib.hid (show (w9.alloc (.cells #[.int .i64 (m2 : Int), .int .i64 (1 + (i : Int)), .string ⟨#[]⟩] 34)).ownsRow w.heap.size 34 3 (.slice (some ⟨z, 0, none⟩) 1 1) 1 [.int .i64 (m2 : Int), .int .i64 (1 + (i : Int)), .string ⟨#[]⟩] from by
                rw [← hz]
                exact ⟨rfl, Or.inr ⟨_, 1, #[.int .i64 (m2 : Int), .int .i64 (1 + (i : Int)), .string ⟨#[]⟩], rfl, Nat.le_trans X8.out.below.size X9.out.size, by show (Array.push _ _)[_]? = _; simp, Nat.le_refl _, by unfold maxLen; omega, rfl, rfl⟩⟩)
              refine pe_value (w' := w9.alloc (.cells #[.int .i64 (m2 : Int), .int .i64 (1 + (i : Int)), .string ⟨#[]⟩] 34)) _ (.slice (some ⟨z, 0, none⟩) 1 1) rfl rfl (by rw [← hz]; go_simp) X10.out ?_
              generalize w9.alloc (.cells #[.int .i64 (m2 : Int), .int .i64 (1 + (i : Int)), .string ⟨#[]⟩] 34) = w10 at *
              simp only [Act.put, List.setIfInBounds_toArray, List.set_cons_zero, List.set_cons_succ, List.getElem_toArray, List.getElem_cons_zero, List.getElem_cons_succ]
              clear hz
              refine pe_run _ (.agg #[.int .i64 vw, .int .i64 0, .int .i64 cv, .string cd, .slice none 0 0, .slice (some ⟨z, 0, none⟩) 1 1]) rfl rfl (fun w' hS => by go_simp) ?_
              simp only [Act.put, List.setIfInBounds_toArray, List.set_cons_zero, List.set_cons_succ, List.getElem_toArray, List.getElem_cons_zero, List.getElem_cons_succ]
              have BY := Lib.hid ((Below.refl w10.heap.size w10).alloc (Nat.le_refl _) (.cells #[.int .i64 0, .int .i64 0, .int .i64 0, .string ⟨#[]⟩, .slice none 0 0, .slice none 0 0] 29))
              have X11 := Lib.hid (X10.out.trans (BY.out.mono X10.out.size))
              obtain ⟨y, hy⟩ : ∃ y, w10.heap.size = y := ⟨_, rfl⟩
              have YL := Lib.hid (show wc.heap.size ≤ y by rw [← hy]; exact X10.out.size)
              have XI := Lib.hid (show Blk (w10.alloc (.cells #[.int .i64 0, .int .i64 0, .int .i64 0, .string ⟨#[]⟩, .slice none 0 0, .slice none 0 0] 29)) y 6 (rowL [.int .i64 0, .int .i64 0, .int .i64 0, .string ⟨#[]⟩, .slice none 0 0, .slice none 0 0]) from Blk.new' hy.symm rfl)
              refine pe_value (w' := w10.alloc (.cells #[.int .i64 0, .int .i64 0, .int .i64 0, .string ⟨#[]⟩, .slice none 0 0, .slice none 0 0] 29)) _ (.pointer (some ⟨y, 0, none⟩)) rfl rfl (by rw [← hy]; go_simp) X11.out ?_
              have YW := Lib.hid (show y = w10.heap.size from hy.symm)
              generalize w10.alloc (.cells #[.int .i64 0, .int .i64 0, .int .i64 0, .string ⟨#[]⟩, .slice none 0 0, .slice none 0 0] 29) = w11 at *
              simp only [Act.put, List.setIfInBounds_toArray, List.set_cons_zero, List.set_cons_succ, List.getElem_toArray, List.getElem_cons_zero, List.getElem_cons_succ]
              clear hy
              have RY := Lib.hid (show w11.ownsRow w.heap.size 34 3 (.slice (some ⟨z, 0, none⟩) 1 1) 1 [.int .i64 (m2 : Int), .int .i64 (1 + (i : Int)), .string ⟨#[]⟩] from row_keep RZ.out fun c hc => BY.out.block c (RZ.out.lt c hc).2)
              have v0 := XI.out.get 0 (by omega)
              have v1 := XI.out.get 1 (by omega)
              have v2 := XI.out.get 2 (by omega)
              have v3 := XI.out.get 3 (by omega)
              have v4 := XI.out.get 4 (by omega)
              have v5 := XI.out.get 5 (by omega)
              have z0 := XI.out.frz 0
              have z1 := XI.out.frz 1
              have z2 := XI.out.frz 2
              have z3 := XI.out.frz 3
              have z4 := XI.out.frz 4
              have z5 := XI.out.frz 5
              refine pe_last _ rfl ?_
              simp only [List.getElem_toArray, List.getElem_cons_zero, List.getElem_cons_succ]
              go_wp2_with fail
              clear v0 v1 v2 v3 v4 v5 z0 z1 z2 z3 z4 z5
              go_meet
              obtain ⟨xi, ui⟩ := set6 XI.out (.int .i64 vw) (.int .i64 0) (.int .i64 cv) (.string cd) (.slice none 0 0) (.slice (some ⟨z, 0, none⟩) 1 1)
              refine ⟨y, z, rfl, X11.out.trans (ui.below YL.out), xi, ?_⟩
              exact row_keep RY.out fun c hc => ui.block c (by have h0 : z = c := (by simpa [Value.ownBlock] using hc); have h1 := (RZ.out.lt z rfl).2; have h2 := YW.out; omega)
            · have BY := Lib.hid ((Below.refl w9.heap.size w9).alloc (Nat.le_refl _) (.cells #[.int .i64 0, .int .i64 0, .int .i64 0, .string ⟨#[]⟩, .slice none 0 0, .slice none 0 0] 29))
              have X10 := Lib.hid (X9.out.trans (BY.out.mono X9.out.size))
              obtain ⟨y, hy⟩ : ∃ y, w9.heap.size = y := ⟨_, rfl⟩
              have YL := Lib.hid (show wc.heap.size ≤ y by rw [← hy]; exact X9.out.size)
              have XI := Lib.hid (show Blk (w9.alloc (.cells #[.int .i64 0, .int .i64 0, .int .i64 0, .string ⟨#[]⟩, .slice none 0 0, .slice none 0 0] 29)) y 6 (rowL [.int .i64 0, .int .i64 0, .int .i64 0, .string ⟨#[]⟩, .slice none 0 0, .slice none 0 0]) from Blk.new' hy.symm rfl)
              refine pe_value (w' := w9.alloc (.cells #[.int .i64 0, .int .i64 0, .int .i64 0, .string ⟨#[]⟩, .slice none 0 0, .slice none 0 0] 29)) _ (.pointer (some ⟨y, 0, none⟩)) rfl rfl (by rw [← hy]; go_simp) X10.out ?_
              have YW := Lib.hid (show y = w9.heap.size from hy.symm)
              generalize w9.alloc (.cells #[.int .i64 0, .int .i64 0, .int .i64 0, .string ⟨#[]⟩, .slice none 0 0, .slice none 0 0] 29) = w10 at *
              simp only [Act.put, List.setIfInBounds_toArray, List.set_cons_zero, List.set_cons_succ, List.getElem_toArray, List.getElem_cons_zero, List.getElem_cons_succ]
              clear hy
              obtain ⟨z, hz⟩ : ∃ z, w10.heap.size = z := ⟨_, rfl⟩
              have BZ := Lib.hid ((Below.refl w10.heap.size w10).alloc (Nat.le_refl _) (.cells #[.int .i64 (m2 : Int), .int .i64 (1 + (i : Int)), .string ⟨#[]⟩] 34))
              have X11 := Lib.hid (X10.out.trans (BZ.out.mono X10.out.size))
              have ZL := Lib.hid (show wc.heap.size ≤ z by rw [← hz]; exact X10.out.size)
              have RZ := Lib.hid (show (w10.alloc (.cells #[.int .i64 (m2 : Int), .int .i64 (1 + (i : Int)), .string ⟨#[]⟩] 34)).ownsRow w.heap.size 34 3 (.slice (some ⟨z, 0, none⟩) 1 1) 1 [.int .i64 (m2 : Int), .int .i64 (1 + (i : Int)), .string ⟨#[]⟩] from by
                rw [← hz]
                exact ⟨rfl, Or.inr ⟨_, 1, #[.int .i64 (m2 : Int), .int .i64 (1 + (i : Int)), .string ⟨#[]⟩], rfl, Nat.le_trans X8.out.below.size X10.out.size, by show (Array.push _ _)[_]? = _; simp, Nat.le_refl _, by unfold maxLen; omega, rfl, rfl⟩⟩)
              have ZW := Lib.hid (show z = w10.heap.size from hz.symm)
              refine pe_value (w' := w10.alloc (.cells #[.int .i64 (m2 : Int), .int .i64 (1 + (i : Int)), .string ⟨#[]⟩] 34)) _ (.slice (some ⟨z, 0, none⟩) 1 1) rfl rfl (by rw [← hz]; go_simp) X11.out ?_
              generalize w10.alloc (.cells #[.int .i64 (m2 : Int), .int .i64 (1 + (i : Int)), .string ⟨#[]⟩] 34) = w11 at *
              simp only [Act.put, List.setIfInBounds_toArray, List.set_cons_zero, List.set_cons_succ, List.getElem_toArray, List.getElem_cons_zero, List.getElem_cons_succ]
              clear hz
              refine pe_run _ (.agg #[.int .i64 vw, .int .i64 0, .int .i64 cv, .string cd, .slice none 0 0, .slice (some ⟨z, 0, none⟩) 1 1]) rfl rfl (fun w' hS => by go_simp) ?_
              simp only [Act.put, List.setIfInBounds_toArray, List.set_cons_zero, List.set_cons_succ, List.getElem_toArray, List.getElem_cons_zero, List.getElem_cons_succ]
              have XJ := Lib.hid (XI.out.below BZ.out XI.out.lt)
              have v0 := XJ.out.get 0 (by omega)
              have v1 := XJ.out.get 1 (by omega)
              have v2 := XJ.out.get 2 (by omega)
              have v3 := XJ.out.get 3 (by omega)
              have v4 := XJ.out.get 4 (by omega)
              have v5 := XJ.out.get 5 (by omega)
              have z0 := XJ.out.frz 0
              have z1 := XJ.out.frz 1
              have z2 := XJ.out.frz 2
              have z3 := XJ.out.frz 3
              have z4 := XJ.out.frz 4
              have z5 := XJ.out.frz 5
              refine pe_last _ rfl ?_
              simp only [List.getElem_toArray, List.getElem_cons_zero, List.getElem_cons_succ]
              go_wp2_with fail
              clear v0 v1 v2 v3 v4 v5 z0 z1 z2 z3 z4 z5
              go_meet
              obtain ⟨xi, ui⟩ := set6 XJ.out (.int .i64 vw) (.int .i64 0) (.int .i64 cv) (.string cd) (.slice none 0 0) (.slice (some ⟨z, 0, none⟩) 1 1)
              refine ⟨y, z, rfl, X11.out.trans (ui.below YL.out), xi, ?_⟩
              exact row_keep RZ.out fun c hc => ui.block c (by have h0 : z = c := (by simpa [Value.ownBlock] using hc); have h1 := XI.out.lt; have h2 := ZW.out; omega)
          case rest =>
            obtain ⟨y, z, rfl, hbx, hblk, hrz⟩ := hcut
            have XB := Lib.hid (X8.out.on hbx)
            have HBK := Lib.hid hblk
            have HRZ := Lib.hid hrz
            have v0 : World.cell? _ ⟨y, 0, none⟩ = some (.int .i64 vw) := hblk.get 0 (by omega)
            have v1 : World.cell? _ ⟨y, 1, none⟩ = some (.int .i64 0) := hblk.get 1 (by omega)
            have v2 : World.cell? _ ⟨y, 2, none⟩ = some (.int .i64 cv) := hblk.get 2 (by omega)
            have v3 : World.cell? _ ⟨y, 3, none⟩ = some (.string cd) := hblk.get 3 (by omega)
            have v4 : World.cell? _ ⟨y, 4, none⟩ = some (.slice none 0 0) := hblk.get 4 (by omega)
            have v5 : World.cell? _ ⟨y, 5, none⟩ = some (.slice (some ⟨z, 0, none⟩) 1 1) := hblk.get 5 (by omega)
            clear hbx hblk hrz e4 e5 hwa hwb hwd hwe hwf hwg hwh e1 hw1 hw2 hne
            have HNB := Lib.hid (show nextB (chainL l i) i (l.getD i (0, 0, 0)) = (((vw, 0), ((cv, cd), [])), [((m2 : Int), 1 + (i : Int), ⟨#[]⟩)]) by
              unfold nextB
              simp only [HTT.out, HQ.out, HCV.out, HCD.out, HM1.out, HM2.out, HVW.out])
            have A4 := Lib.hid ((Below.refl wc.heap.size wc).alloc (Nat.le_refl _) (.cells #[.int .i64 vw, .int .i64 0, .int .i64 cv, .string cd, .slice none 0 0, .slice (some ⟨z, 0, none⟩) 1 1] 29))
            have S4 := Lib.hid (XB.out.on A4.out)
            have HRZ4 := Lib.hid (row_keep HRZ.out fun c hc => A4.out.block c (HRZ.out.lt c hc).2)
            have HCE := Lib.hid (show ∀ j u, ([.int .i64 vw, .int .i64 0, .int .i64 cv, .string cd, .slice none 0 0, .slice (some ⟨z, 0, none⟩) 1 1] : List Value)[j]? = some u → (wc.alloc (.cells #[.int .i64 vw, .int .i64 0, .int .i64 cv, .string cd, .slice none 0 0, .slice (some ⟨z, 0, none⟩) 1 1] 29)).cell? ((⟨wc.heap.size, 0, none⟩ : Addr).add j) = some u from fun j u hu => by
              have e : (⟨wc.heap.size, 0, none⟩ : Addr).add j = ⟨wc.heap.size, j, none⟩ := by unfold Addr.add; split <;> simp [*]
              rw [e]
              exact cell_new wc _ _ j u (by simpa using hu))
            have HC1 := Lib.hid (show ∀ u ∈ ([.int .i64 vw, .int .i64 0, .int .i64 cv, .string cd, .slice none 0 0, .slice (some ⟨z, 0, none⟩) 1 1] : List Value), u.oneCell' = true from fun u hu => by
              simp only [List.mem_cons, List.not_mem_nil, or_false] at hu
              rcases hu with rfl | rfl | rfl | rfl | rfl | rfl <;> rfl)
            have HQ3 := Lib.hid (show L.length + 1 ≤ maxLen by have := HLN.out; unfold maxLen; omega)
            have HQ4 := Lib.hid (show (L.length + 1) * 88 ≤ 140737488355328 by have := HLN.out; omega)
            have HZ := Lib.hid (show w.heap.size ≤ (wc.alloc (.cells #[.int .i64 vw, .int .i64 0, .int .i64 cv, .string cd, .slice none 0 0, .slice (some ⟨z, 0, none⟩) 1 1] 29)).heap.size from S4.out.below.size)
            obtain ⟨ti, i1, i2, i3, i4⟩ := info_parts (show (Tryd.prog.info? 29).map (fun i => (i.zero, i.size, i.bytes)) = some (some (.agg #[.int .i64 0, .int .i64 0, .int .i64 0, .string ⟨#[]⟩, .slice none 0 0, .slice none 0 0]), 6, 88) by kernel_rfl)
            go_wp2_with (at_builtin; refine wpList_append_own _ rfl _ _ 38 rfl w.heap.size 29 ti (.agg #[.int .i64 0, .int .i64 0, .int .i64 0, .string ⟨#[]⟩, .slice none 0 0, .slice none 0 0]) 6 88 (by kernel_rfl) i1 i2 i3 i4 rfl (by decide) _ _ _ rfl S4.out.row ⟨wc.heap.size, 0, none⟩ 1 1 [.int .i64 vw, .int .i64 0, .int .i64 cv, .string cd, .slice none 0 0, .slice (some ⟨z, 0, none⟩) 1 1] rfl rfl HCE.out HC1.out HQ3.out HQ4.out HZ.out ?_)
            intro u' w5 hown' hgr _
            obtain ⟨a', c', rfl⟩ : ∃ a' c', u' = .slice a' (L.length + 1) c' := by
              rcases hown'.2 with ⟨_, h0⟩ | ⟨q, cp, cur, rfl, _⟩
              · omega
              · exact ⟨_, _, rfl⟩
            have S5 := Lib.hid (S4.out.add (by decide) ((((vw, 0), ((cv, cd), [])), [((m2 : Int), 1 + (i : Int), ⟨#[]⟩)]), .slice none 0 0, .slice (some ⟨z, 0, none⟩) 1 1) ⟨rfl, rfl, HRZ4.out⟩ hown' hgr)
            clear hown' hgr v0 v1 v2 v3 v4 v5
            go_wp2_with fail
            go_roundw
            case rel => exact ⟨i + 1, _, by have := HI1.out; have := HI2.out; omega, by go_num, by rw [List.map_append, HMAP.out, chainL, HNB.out]; rfl, S5.out⟩
            case measure => have := HI2.out; simp [intOf]; omega
      · have h2' : ¬ (i : Int) < 40 := by omega
        have HF := Lib.hid (show i = min l.length 40 by omega)
        clear hi h1 h2
        go_wp2_with fail
        go_ret
        exact ⟨_, rfl, L, by rw [← HF.out]; exact HMAP.out, HST.out.bv, HST.out.below⟩
    · have h1' : ¬ (i : Int) < (l.length : Int) := by omega
      have HF := Lib.hid (show i = min l.length 40 by omega)
      clear hi h1
      go_wp2_with fail
      go_ret
      exact ⟨_, rfl, L, by rw [← HF.out]; exact HMAP.out, HST.out.bv, HST.out.below⟩
end Go.Proofs.YtegkhhegapnkpaaDoor
end
section
open Go Go.RowKit
namespace FF
open WW BB
def encT (t : Nat × Nat × Nat) : List Value := [.int .u8 (t.1 : Int), .int .u8 (t.2.1 : Int), .int .u8 (t.2.2 : Int)]
def cellsT (l : List (Nat × Nat × Nat)) : List Value := (l.map encT).flatten
theorem cellsT_snoc (L : List (Nat × Nat × Nat)) (x : Nat × Nat × Nat) : cellsT (L ++ [x]) = cellsT L ++ encT x := by unfold cellsT; rw [List.map_append, List.flatten_append]; simp
theorem cellsT_at : ∀ (L : List (Nat × Nat × Nat)) (i j : Nat) (u : Value), i < L.length → (encT (L.getD i (0, 0, 0)))[j]? = some u → (cellsT L)[i * 3 + j]? = some u
  | [], i, j, u, h, _ => by simp at h
  | x :: r, 0, j, u, _, hu => by
    show (encT x ++ cellsT r)[0 * 3 + j]? = some u
    have hu' : (encT x)[j]? = some u := hu
    have hj : j < (encT x).length := (List.getElem?_eq_some_iff.1 hu').1
    rw [Nat.zero_mul, Nat.zero_add, List.getElem?_append_left hj]; exact hu'
  | x :: r, i + 1, j, u, h, hu => by
    show (encT x ++ cellsT r)[(i + 1) * 3 + j]? = some u
    have hx : (encT x).length = 3 := rfl
    rw [show (i + 1) * 3 + j = 3 + (i * 3 + j) by omega, List.getElem?_append_right (by omega), hx, Nat.add_sub_cancel_left]
    exact cellsT_at r i j u (by simpa using h) (by simpa [List.getD] using hu)
theorem tri_of_own {w : World} {B : Nat} {e : TypeId} {v : Value} {L : List (Nat × Nat × Nat)} (h : w.ownsRow B e 3 v L.length (cellsT L)) : TriAt w v L := by
  rcases h.2 with ⟨rfl, h0⟩ | ⟨g, cap, cur, rfl, hg, hh, hn, hcm, hsz, htk⟩
  · exact ⟨none, 0, by rw [h0], Or.inl (List.eq_nil_of_length_eq_zero h0)⟩
  · have hcell : ∀ j u, j < L.length * 3 → (cellsT L)[j]? = some u → w.cell? ⟨g, j, none⟩ = some u := fun j u hj hu => by
      rw [← htk, List.getElem?_take_of_lt hj, Array.getElem?_toList] at hu
      unfold World.cell?; rw [hh]; simpa using hu
    refine ⟨_, cap, rfl, Or.inr ⟨g, 0, rfl, (Array.getElem?_eq_some_iff.1 hh).1, fun i hi => ?_⟩⟩
    simp only [Nat.zero_add]
    exact ⟨hcell (i * 3) _ (by omega) (cellsT_at L i 0 _ hi rfl), hcell _ _ (by omega) (cellsT_at L i 1 _ hi rfl), hcell _ _ (by omega) (cellsT_at L i 2 _ hi rfl)⟩
end FF
end
section
open Go Go.RowKit
namespace YY
open FF JJ CC WW BB
/-- the last one's digest, or d -/
def lastF (d : ByteArray) (L : List BlockD) : ByteArray := L.foldl (fun _ b => digI b) d
theorem lastF_snoc (d : ByteArray) (L : List BlockD) (b : BlockD) : lastF d (L ++ [b]) = digI b := by unfold lastF; rw [List.foldl_append]; rfl
/-- each block stands on the one ahead, the first one on d -/
def standsL : ByteArray → List BlockD → Prop
  | _, [] => True
  | d, b :: L => parI b = d ∧ standsL (digI b) L
theorem stands_snoc : ∀ (L : List BlockD) (d : ByteArray) (b : BlockD), standsL d (L ++ [b]) ↔ standsL d L ∧ parI b = lastF d L
  | [], d, b => by
    show (parI b = d ∧ True) ↔ (True ∧ parI b = d)
    exact ⟨fun h => ⟨trivial, h.1⟩, fun h => ⟨h.2, trivial⟩⟩
  | a :: L, d, b => by
    show (parI a = d ∧ standsL (digI a) (L ++ [b])) ↔ ((parI a = d ∧ standsL (digI a) L) ∧ parI b = lastF (digI a) L)
    rw [stands_snoc L (digI a) b]
    exact ⟨fun h => ⟨⟨h.1, h.2.1⟩, h.2.2⟩, fun h => ⟨h.1.1, h.1.2, h.2⟩⟩
/-- the threes of which each block stands on the one ahead -/
def strL (l : List (Nat × Nat × Nat)) (n : Nat) : List (Nat × Nat × Nat) := (List.range n).map fun i => ((l.getD i (0, 0, 0)).1, i, (l.getD i (0, 0, 0)).2.2)
theorem str_len (l : List (Nat × Nat × Nat)) (n : Nat) : (strL l n).length = n := by unfold strL; rw [List.length_map, List.length_range]
theorem str_snoc (l : List (Nat × Nat × Nat)) (n : Nat) : strL l (n + 1) = strL l n ++ [((l.getD n (0, 0, 0)).1, n, (l.getD n (0, 0, 0)).2.2)] := by unfold strL; rw [List.range_succ, List.map_append]; rfl
theorem str_getD (l : List (Nat × Nat × Nat)) (n i : Nat) (h : i < n) : (strL l n).getD i (0, 0, 0) = ((l.getD i (0, 0, 0)).1, i, (l.getD i (0, 0, 0)).2.2) := by
  unfold strL
  rw [List.getD_eq_getElem?_getD, List.getElem?_map, List.getElem?_range h]; rfl
theorem str_small (l : List (Nat × Nat × Nat)) (n : Nat) (hn : n ≤ 256) (hs : ∀ i, (l.getD i (0, 0, 0)).1 < 256 ∧ (l.getD i (0, 0, 0)).2.1 < 256 ∧ (l.getD i (0, 0, 0)).2.2 < 256) (i : Nat) :
    ((strL l n).getD i (0, 0, 0)).1 < 256 ∧ ((strL l n).getD i (0, 0, 0)).2.1 < 256 ∧ ((strL l n).getD i (0, 0, 0)).2.2 < 256 := by
  by_cases h : i < n
  · rw [str_getD l n i h]
    exact ⟨(hs i).1, by show i < 256; omega, (hs i).2.2⟩
  · rw [List.getD_eq_getElem?_getD, List.getElem?_eq_none (by rw [str_len]; omega)]
    decide
/-- a straight chain stands -/
theorem chain_stands (l : List (Nat × Nat × Nat)) (n : Nat) : ∀ i, i ≤ n → standsL firstD (chainL (strL l n) i)
  | 0, _ => trivial
  | i + 1, h => by
    rw [chainL, stands_snoc]
    refine ⟨chain_stands l n i (by omega), ?_⟩
    rw [str_getD l n i (by omega)]
    unfold nextB parI
    simp only
    have hq : i % (i + 1) = i := Nat.mod_eq_of_lt (Nat.lt_succ_self i)
    rw [hq]
    cases i with
    | zero => rfl
    | succ j =>
      rw [if_pos (Nat.succ_pos j), chainL, lastF_snoc]
      congr 1
      show (chainL (strL l n) j ++ [_]).getD j bd0 = _
      rw [List.getD_eq_getElem?_getD, List.getElem?_append_right (by rw [chain_len]; exact Nat.le_refl _), chain_len, Nat.sub_self]; rfl
/-- all requests, in order -/
def flatR (L : List BlockD) : List Rq := (L.map Prod.snd).flatten
theorem flatR_app (L M : List BlockD) : flatR (L ++ M) = flatR L ++ flatR M := by unfold flatR; rw [List.map_append, List.flatten_append]
theorem flatR_one (b : BlockD) : flatR [b] = b.2 := by unfold flatR; simp
theorem chain_reqs (l : List (Nat × Nat × Nat)) : ∀ i, (flatR (chainL l i)).length = i
  | 0 => rfl
  | i + 1 => by
    rw [chainL, flatR_app, List.length_append, chain_reqs l i, flatR_one]; rfl
/-- the first ones of each client and number -/
def onceA (L : List BlockD) : List Rq := onceN 1000 (flatR L)
theorem onceA_len (L : List BlockD) : (onceA L).length ≤ (flatR L).length := onceN_sub 1000 _
end YY
end
section
open Go Go.RowKit
namespace YY
open FF JJ CC WW BB
theorem strs_take {w : World} {a : Option Addr} {n c : Nat} {l : List ByteArray} (h : StrsAt w (.slice a n c) l) (k c' : Nat) (hk : k ≤ l.length) : StrsAt w (.slice a k c') (l.take k) := by
  have hl : (l.take k).length = k := by rw [List.length_take]; omega
  obtain ⟨a0, cap, e, h⟩ := h
  injection e with e1 e2 e3
  subst e1
  refine ⟨a, c', by rw [hl], ?_⟩
  rcases h with rfl | ⟨b, off, rfl, hb, hc⟩
  · exact .inl (by simp)
  · refine .inr ⟨b, off, rfl, hb, fun i hi => ?_⟩
    rw [hl] at hi
    have e : (l.take k).getD i ⟨#[]⟩ = l.getD i ⟨#[]⟩ := by
      rw [List.getD_eq_getElem?_getD, List.getD_eq_getElem?_getD, List.getElem?_take, if_pos hi]
    rw [e]
    exact hc i (by omega)
/-- a slice with room for itself -/
def RoomV (v : Value) : Prop := ∀ a n c, v = .slice a n c → n ≤ c
theorem roomV_mk {a : Option Addr} {n c : Nat} (h : n ≤ c) : RoomV (.slice a n c) := fun _ _ _ e => by injection e with _ h2 h3; omega
/-- is l a beginning of m? -/
def begL (l m : List ByteArray) : Bool := decide (l = m.take l.length)
theorem begL_take (m : List ByteArray) (k : Nat) : begL (m.take k) m = true := by
  unfold begL
  rw [decide_eq_true_iff, List.length_take]
  by_cases h : k ≤ m.length
  · rw [Nat.min_eq_left h]
  · rw [Nat.min_eq_right (by omega), List.take_length, List.take_of_length_le (by omega)]
theorem begL_back (m : List ByteArray) (k : Nat) (hk : k ≤ m.length) : begL m (m.take k) = decide (k = m.length) := by
  unfold begL
  apply decide_eq_decide.2
  constructor
  · intro h
    have := congrArg List.length h
    rw [List.length_take, List.length_take] at this
    omega
  · rintro rfl
    rw [List.take_length, List.take_length]
theorem begL_long {l m : List ByteArray} (h : m.length < l.length) : begL l m = false := by
  unfold begL
  rw [decide_eq_false_iff_not]
  intro e
  have := congrArg List.length e
  rw [List.length_take] at this
  omega
/-- equal in all places: a beginning -/
theorem begL_all {l m : List ByteArray} (h : l.length ≤ m.length) (he : ∀ j, j < l.length → l.getD j ⟨#[]⟩ = m.getD j ⟨#[]⟩) : begL l m = true := by
  unfold begL
  rw [decide_eq_true_iff]
  apply List.ext_getElem
  · rw [List.length_take]; omega
  · intro i h1 h2
    have := he i h1
    rw [List.getD_eq_getElem?_getD, List.getD_eq_getElem?_getD, List.getElem?_eq_getElem h1, List.getElem?_eq_getElem (by omega)] at this
    rw [List.getElem_take]; exact this
theorem begL_not {l m : List ByteArray} {j : Nat} (hj : j < l.length) (he : l.getD j ⟨#[]⟩ ≠ m.getD j ⟨#[]⟩) : begL l m = false := by
  unfold begL
  rw [decide_eq_false_iff_not]
  intro e
  apply he
  conv => lhs; rw [e]
  rw [List.getD_eq_getElem?_getD, List.getD_eq_getElem?_getD, List.getElem?_take, if_pos hj]
end YY
end
section
open Go Go.RowKit
namespace Go.Proofs.YtegkhhegapnkpaaDoor
open YY FF JJ CC MM WW BB
structure Code11 where
  At : (Nat → Prop) → World → Nat → List BlockD → Prop
  keep : ∀ {O w w' g L}, At O w g L → Keeps O w w' → At O w' g L
  lt : ∀ {O w g L}, At O w g L → ∀ b, O b → b < w.heap.size
  new : ∀ w, Tabs w → Calls Tryd.prog 45 #[] w fun e w' => ∃ g O, e = .returned (.pointer (some ⟨g, 0, none⟩)) ∧ At O w' g [] ∧ (∀ b, O b → w.heap.size ≤ b) ∧ Below w.heap.size w w'
  last : ∀ O w g L, At O w g L → Tabs w → L.length ≤ 100 → (∀ b ∈ L, SmallI b) →
    Calls Tryd.prog 103 #[.pointer (some ⟨g, 0, none⟩)] w fun e w' => e = .returned (.string (lastF firstD L)) ∧ Below w.heap.size w w'
  put : ∀ (O A : Nat → Prop) w g L v (M : List Bv), At O w g L → Tabs w → (∀ b, O b → NoTab b) → Dep A w (fun w' => BvAt w' v M) → (∀ b, A b → ¬ O b) → (∀ b ∈ L, SmallI b) → (∀ y ∈ M, SmallI y.1) → L.length ≤ 50 → M.length ≤ 50 → standsL (lastF firstD L) (M.map Prod.fst) →
    Calls Tryd.prog 46 #[.pointer (some ⟨g, 0, none⟩), v] w fun e w' => e = .returned (.int .i64 0) ∧ ∃ O', At O' w' g (L ++ M.map Prod.fst) ∧ Keeps (fun b => ¬ O b) w w' ∧ ∀ b, O' b → O b ∨ w.heap.size ≤ b
  len : ∀ O w g L, At O w g L → L.length ≤ 100 → Calls Tryd.prog 47 #[.pointer (some ⟨g, 0, none⟩)] w fun e w' => e = .returned (.int .i64 (L.length : Int)) ∧ Below w.heap.size w w'
  requests : ∀ O w g L, At O w g L → L.length ≤ 100 → (flatR L).length ≤ 500 → (∀ r ∈ flatR L, In64 (keyR r)) →
    Calls Tryd.prog 49 #[.pointer (some ⟨g, 0, none⟩)] w fun e w' => ∃ u, e = .returned u ∧ ReqsAt w' u (onceA L) ∧ Below w.heap.size w w'
  begins : ∀ (l m : List ByteArray) v u w, StrsAt w v l → StrsAt w u m → RoomV u → l.length ≤ 1000 → m.length ≤ 1000 →
    Calls Tryd.prog 51 #[v, u] w fun e w' => e = .returned (.bool (begL l m)) ∧ Below w.heap.size w w'
end Go.Proofs.YtegkhhegapnkpaaDoor
end
section
open Go Go.RowKit
namespace Go.Proofs.YtegkhhegapnkpaaDoor
open YY FF JJ CC MM WW BB
set_option maxRecDepth 100000 in
set_option maxHeartbeats 4000000 in
theorem awake11_any (C : Code11) (w : World) (hT : Tabs w) : Calls Tryd.prog 44 #[] w fun e w' => e = .returned (.bool true) ∧ Below w.heap.size w w' := by
  have HT := Lib.hid hT
  clear hT
  go_enter Tryd.func44, Tryd.ntmps44
  go_wp2_with fail
  refine (C.new w HT.out).mono ?_
  rintro e w1 ⟨g1, O1, rfl, _, _, hb1⟩
  have B1 := Lib.hid hb1
  clear hb1
  go_wp2_with fail
  refine (C.new w1 (tabs_on HT.out B1.out)).mono ?_
  rintro e w2 ⟨g, O, rfl, h2, _, hb2⟩
  have H2 := Lib.hid h2
  have B2 := Lib.hid (B1.out.trans (hb2.mono B1.out.size))
  clear h2 hb2
  go_wp2_with fail
  refine (C.last O w2 g [] H2.out (tabs_on HT.out B2.out) (Nat.zero_le _) (fun _ h => by cases h)).mono ?_
  rintro e w3 ⟨rfl, hb3⟩
  have B3 := Lib.hid (B2.out.trans (hb3.mono B2.out.size))
  clear hb3
  have HL := Lib.hid (show lastF firstD [] = firstD from rfl)
  rw [HL.out]
  go_wp2_with fail
  refine (rfirst_any w3).mono ?_
  rintro e w4 ⟨rfl, hb4⟩
  have B4 := Lib.hid (B3.out.trans (hb4.mono B3.out.size))
  clear hb4
  have t1 : (firstD.toList == firstD.toList) = true := by simp
  go_wp2_with fail
  go_ret
  exact ⟨rfl, B4.out⟩
end Go.Proofs.YtegkhhegapnkpaaDoor
end
section
open Go Go.RowKit
namespace YY
open FF JJ CC WW BB
/-- what has come of i blocks and of k requests of the next -/
def outN (L : List BlockD) (i k : Nat) : List Rq := onceN 1000 (flatR (L.take i) ++ ((L.getD i bd0).2).take k)
theorem flatR_take {L : List BlockD} {i : Nat} (h : i < L.length) : flatR (L.take (i + 1)) = flatR (L.take i) ++ (L.getD i bd0).2 := by
  rw [List.take_add_one, List.getElem?_eq_getElem h, flatR_app, List.getD_eq_getElem?_getD, List.getElem?_eq_getElem h]
  show flatR (L.take i) ++ flatR [L[i]] = _
  rw [flatR_one]; rfl
theorem flatR_le (L : List BlockD) (i : Nat) : (flatR (L.take i)).length ≤ (flatR L).length := by
  have e : flatR L = flatR (L.take i) ++ flatR (L.drop i) := by rw [← flatR_app, List.take_append_drop]
  rw [e, List.length_append]; omega
theorem batch_le {L : List BlockD} {i : Nat} (h : i < L.length) : (flatR (L.take i)).length + (L.getD i bd0).2.length ≤ (flatR L).length := by
  have := flatR_le L (i + 1)
  rw [flatR_take h, List.length_append] at this
  exact this
theorem outN_zero (L : List BlockD) (i : Nat) : outN L i 0 = onceN 1000 (flatR (L.take i)) := by unfold outN; rw [List.take_zero, List.append_nil]
theorem outN_all {L : List BlockD} {i : Nat} (h : i < L.length) : outN L i (L.getD i bd0).2.length = outN L (i + 1) 0 := by
  rw [outN_zero, flatR_take h]; unfold outN; rw [List.take_length]
theorem onceN_snoc1 (n : Nat) (l : List Rq) (r : Rq) : onceN n (l ++ [r]) = onceStepN n (onceN n l) r := by unfold onceN; rw [List.foldl_append]; rfl
theorem outN_snoc {L : List BlockD} {i k : Nat} (hk : k < (L.getD i bd0).2.length) : outN L i (k + 1) = onceStepN 1000 (outN L i k) ((L.getD i bd0).2.getD k r0) := by
  unfold outN
  generalize (L.getD i bd0).2 = B at hk ⊢
  rw [List.take_add_one, List.getElem?_eq_getElem hk, ← List.append_assoc, List.getD_eq_getElem?_getD, List.getElem?_eq_getElem hk]
  exact onceN_snoc1 1000 _ _
theorem outN_len (L : List BlockD) (i k : Nat) : (outN L i k).length ≤ (flatR (L.take i)).length + k := by
  have := onceN_sub 1000 (flatR (L.take i) ++ ((L.getD i bd0).2).take k)
  rw [List.length_append, List.length_take] at this
  unfold outN; omega
/-- the row of what has come -/
structure RqSt (w0 : World) (e : TypeId) (L : List BlockD) (i k : Nat) (x : Value) (wr : World) : Prop where
  row : wr.ownsRow w0.heap.size e 3 x (outN L i k).length (cellsR (outN L i k))
  below : Below w0.heap.size w0 wr
  shape : ∃ a c, x = .slice a (outN L i k).length c
end YY
namespace Go.Proofs.YtegkhhegapnkpaaDoor
open YY FF JJ WW BB
set_option maxRecDepth 100000 in
set_option maxHeartbeats 16000000 in
theorem rrequests_any (L : List Bv) (v : Value) (w : World) (hv : BvAt w v L) (hl : (flatR (L.map Prod.fst)).length ≤ 500) (hn : L.length ≤ 1000) :
    Calls Tryd.prog 50 #[v] w fun e w' => ∃ u, e = .returned u ∧ ReqsAt w' u (onceA (L.map Prod.fst)) ∧ Below w.heap.size w w' := by
  have HV := Lib.hid hv
  have HL := Lib.hid hl
  have HN := Lib.hid hn
  obtain ⟨a0, cap, rfl⟩ := bv_shape hv
  obtain ⟨D, hD⟩ : ∃ D, L.map Prod.fst = D := ⟨_, rfl⟩
  have HD := Lib.hid (show L.length = D.length by rw [← hD, List.length_map])
  have HDG := Lib.hid (show ∀ i, i < L.length → D.getD i bd0 = (L.getD i vb0).1 from fun i hi => by
    rw [← hD, List.getD_eq_getElem?_getD, List.getElem?_map, List.getElem?_eq_getElem hi, List.getD_eq_getElem?_getD, List.getElem?_eq_getElem hi]; rfl)
  rw [hD] at HL ⊢
  clear hv hl hn hD
  go_enter Tryd.func50, Tryd.ntmps50
  go_wp2_with fail
  go_loopw [3, 4] (fun x y wr => ∃ i : Nat, i ≤ L.length ∧ y = .int .i64 (i : Int) ∧ RqSt w 34 D i 0 x wr) (fun _ y _ => L.length - (intOf y).toNat)
  case atStart => exact ⟨0, Nat.zero_le _, rfl, World.ownsRow_nil _ _ _ _, Below.refl _ _, ⟨none, 0, rfl⟩⟩
  case round =>
    obtain ⟨i, hi, rfl, hst⟩ := hrel
    have HST := Lib.hid hst
    have i0 : (0 : Int) ≤ (i : Int) := by omega
    have ib : (i : Int) ≤ 1000 := by have := HN.out; omega
    obtain ⟨xa, xc, rfl⟩ := hst.shape
    by_cases hlt : i < L.length
    · have hlt' : (i : Int) < (L.length : Int) := by omega
      have HLT := Lib.hid hlt
      have HDI := Lib.hid (HDG.out i hlt)
      have HBL := Lib.hid (batch_le (L := D) (i := i) (by rw [← HD.out]; exact hlt))
      obtain ⟨qb, qoff, rfl, hqb, _, hq⟩ := bv_at HV.out i hlt
      have HQ := Lib.hid (fun wx (hb : Below w.heap.size w wx) => (hq wx hb i hlt).2.2.2.2.2)
      obtain ⟨Y, hY⟩ : ∃ Y, L.getD i vb0 = Y := ⟨_, rfl⟩
      rw [hY] at HQ HDI
      obtain ⟨bd, s5, s6⟩ := Y
      have hdi : D.getD i bd0 = bd := HDI.out
      obtain ⟨e6, n6, h6⟩ := sl_of_reqs (HQ.out w (Below.refl _ _)).2.2
      replace h6 : s6 = .slice e6 bd.2.length n6 := h6
      subst h6
      have HRQ := Lib.hid (fun wx (hb : Below w.heap.size w wx) => show wx.cell? ⟨qb, qoff + i * 6 + 5, none⟩ = some (.slice e6 bd.2.length n6) ∧ ReqsAt wx (.slice e6 bd.2.length n6) bd.2 from ⟨(HQ.out wx hb).1, (HQ.out wx hb).2.2⟩)
      have HB5 := Lib.hid (show bd.2.length ≤ 500 by have := HBL.out; have := HL.out; rw [hdi] at *; omega)
      have HFB := Lib.hid (show (flatR (D.take i)).length + bd.2.length ≤ 500 by have := HBL.out; have := HL.out; rw [hdi] at *; omega)
      have HDB := Lib.hid hdi
      clear hst hlt hi hq hY hdi HQ hqb
      go_wp2_with fail
      go_loopw [3, 5] (fun x y wx => ∃ k : Nat, k ≤ bd.2.length ∧ y = .int .i64 (k : Int) ∧ RqSt w 34 D i k x wx) (fun _ y _ => bd.2.length - (intOf y).toNat)
      case atStart => exact ⟨0, Nat.zero_le _, rfl, HST.out⟩
      case round =>
        obtain ⟨k, hk, rfl, hst⟩ := hrel
        have HSK := Lib.hid hst
        have k0 : (0 : Int) ≤ (k : Int) := by omega
        have kb : (k : Int) ≤ 500 := by have := HB5.out; omega
        obtain ⟨xa, xc, rfl⟩ := hst.shape
        obtain ⟨p0, _⟩ := HRQ.out wr hst.below
        obtain ⟨out, hout⟩ : ∃ out, outN D i k = out := ⟨_, rfl⟩
        have HOUT := Lib.hid hout
        have HOL := Lib.hid (show out.length ≤ 500 by rw [← hout]; have := outN_len D i k; have := HFB.out; omega)
        have hrow := hst.row
        rw [hout] at hrow ⊢
        have HROW := Lib.hid hrow
        have HBK := Lib.hid hst.below
        clear hst hrow
        by_cases hkt : k < bd.2.length
        · have hkt' : (k : Int) < (bd.2.length : Int) := by omega
          have HKT := Lib.hid hkt
          have HSN := Lib.hid (outN_snoc (L := D) (i := i) (k := k) (by rw [HDB.out]; exact hkt))
          have HND := Lib.hid (show (out.map keyR).Nodup by rw [← hout]; exact onceN_nodup 1000 _)
          obtain ⟨a1, cc1, he, h | ⟨b, off, h1, hbw, hcell⟩⟩ := (HRQ.out w (Below.refl _ _)).2
          · rw [h] at hkt; simp at hkt
          injection he with e1 _ e3
          subst e1 e3 h1
          obtain ⟨q0, q1, q2⟩ := JJ.reqs_at HBK.out hbw hcell k hkt
          obtain ⟨r, hr⟩ : ∃ r, bd.2.getD k r0 = r := ⟨_, rfl⟩
          rw [hr] at q0 q1 q2
          rw [hout, HDB.out, hr] at HSN
          obtain ⟨c, q, t⟩ := r
          clear hk hkt hbw hcell hr hout
          go_upto_region 9 with fail
          have A1 := Lib.hid ((Below.refl wr.heap.size wr).alloc (Nat.le_refl _) (.cells #[.int .i64 c, .int .i64 q, .string t] 34))
          have BX := Lib.hid (show Blk (wr.alloc (.cells #[.int .i64 c, .int .i64 q, .string t] 34)) wr.heap.size 3 (rowL [.int .i64 c, .int .i64 q, .string t]) from Blk.new' rfl (RR.row3_ _ _ _))
          have R1 := Lib.hid (row_keep HROW.out fun c hc => A1.out.block c (HROW.out.lt c hc).2)
          obtain ⟨w1, hw1⟩ : ∃ w1, wr.alloc (.cells #[.int .i64 c, .int .i64 q, .string t] 34) = w1 := ⟨_, rfl⟩
          obtain ⟨y, hy⟩ : ∃ y, wr.heap.size = y := ⟨_, rfl⟩
          have BW1 := Lib.hid (show Below w.heap.size w w1 by rw [← hw1]; exact HBK.out.trans (A1.out.mono HBK.out.size))
          rw [hw1] at BX R1
          rw [hw1, hy]
          rw [hy] at BX
          clear hw1 q0 q1 q2 p0 A1 hy
          have HBC := Lib.hid (fun (wx : World) (hb : Below w1.heap.size w1 wx) => RR.cells3 (BX.out.below hb BX.out.lt))
          refine two_abs [1, 3] 0 2 4 31 33 35 [(false, 5), (false, 6), (true, 7)] _ _ _ 34 3 out.length (cellsR out) [.int .i64 c, .int .i64 q, .string t] (by kernel_rfl) (by kernel_rfl) (fun _ _ d _ _ h => by cases d <;> exact h) rfl rfl rfl ⟨rfl, rfl, rfl⟩ ⟨rfl, rfl, rfl⟩ ⟨by decide, by decide, by decide⟩ fun w2 hs2 => ?_
          have B2 := Lib.hid (show Below w1.heap.size w1 w2 from hs2.below _)
          have R2 := Lib.hid (row_keep R1.out fun c hc => B2.out.block c (R1.out.lt c hc).2)
          have HBC2 := Lib.hid (fun (wx : World) (hb : Below w2.heap.size w2 wx) => HBC.out wx (B2.out.trans (hb.mono B2.out.size)))
          clear hs2
          obtain ⟨ti, i1, i2, i3, i4⟩ := info_parts info_req
          simp only [pick, List.filterMap, List.getElem?_toArray, List.getElem?_cons_zero, List.getElem?_cons_succ]
          iterate 2 (refine held_run ?_ rfl ?_ ?_; rotate_left; (focus (intro w' hS; obtain ⟨e0, e1, e2⟩ := HBC2.out w' hS; go_simp; exact rfl)); simp only [Act.put, List.setIfInBounds_toArray, List.set_cons_zero, List.set_cons_succ])
          refine ⟨?_, ?_, ?_, ?_⟩
          · rintro a' (rfl | ⟨x, rfl⟩) w' <;> go_simp
          · rintro a' (rfl | ⟨x, rfl⟩ | ⟨x, z, rfl⟩) w' hb <;> go_simp
          · rintro b' a' ha w' hb hown
            obtain ⟨v', w'', hr, ho, hg, hob⟩ := run_append_row0 (P := Tryd.prog) w2.heap.size 25 25 34 ti (.agg #[.int .i64 0, .int .i64 0, .string ⟨#[]⟩]) 3 32 und_reqs i1 i2 i3 i4 rfl (by decide) b' hown (.slice xa out.length xc) out.length w.heap.size (cellsR out) (row_keep R2.out fun c hc => hb.block c (R2.out.lt c hc).2) (JJ.cellsR_one out) (by have := HOL.out; unfold maxLen; omega) (by have := HOL.out; omega) hb.size
            refine ⟨v', w'', ?_, ho, hg, hob⟩
            rcases ha with rfl | ⟨x, rfl⟩ | ⟨x, rfl⟩
            all_goals exact run_op_append _ _ _ rfl _ _ rfl rfl hr
          · intro b' v' b7 w' hT
            have HTW := Lib.hid hT
            clear hT
            simp only [Act.put, List.setIfInBounds_toArray, List.set_cons_zero, List.set_cons_succ]
            obtain ⟨u8, w8, hr8, ho8, hg8, _⟩ := run_append_own (P := Tryd.prog) w' w2.heap.size 25 25 34 ti (.agg #[.int .i64 0, .int .i64 0, .string ⟨#[]⟩]) 3 32 und_reqs i1 i2 i3 i4 rfl (by decide) v' out.length (cellsR out) HTW.out.row ⟨b7, 0, none⟩ 1 1 [.int .i64 c, .int .i64 q, .string t] rfl (fun j u hj => by rw [Addr.add_lit, Nat.zero_add]; exact HTW.out.cell j u hj) (cells3_one c q t) (by have := HOL.out; unfold maxLen; omega) (by have := HOL.out; omega) HTW.out.below.size
            have O8 := Lib.hid (show w8.ownsRow w2.heap.size 34 3 u8 (out ++ [(c, q, t)]).length (cellsR (out ++ [(c, q, t)])) by
              rw [cellsR_snoc, List.length_append]; exact ho8)
            have B8 := Lib.hid (HTW.out.below.grown hg8 HTW.out.below.size (fun k hk => (HTW.out.row.lt k hk).1))
            refine pl_value (w' := w8) _ u8 rfl rfl (run_op_append _ _ _ rfl _ _ rfl rfl hr8) B8.out ?_
            clear hr8 ho8 hg8
            simp only [Act.put, List.setIfInBounds_toArray, List.set_cons_zero, List.set_cons_succ, List.getElem_toArray, List.getElem_cons_zero, List.getElem_cons_succ]
            obtain ⟨X, hX⟩ : ∃ X, twiceR (out ++ [(c, q, t)]) = X := ⟨_, rfl⟩
            have HXX := Lib.hid (show X = decide (keyR (c, q, t) ∈ out.map keyR) by rw [← hX]; exact twice_snoc out (c, q, t) HND.out)
            refine pl_call1 _ rfl rfl (by go_simp) (hX ▸ rtwice_any (out ++ [(c, q, t)]) u8 w8 (reqs_of_own O8.out) (by rw [List.length_append]; have := HOL.out; simp; omega)) (fun w9 hb => B8.out.trans (hb.mono B8.out.size)) fun w9 hb9 => ?_
            have B9 := Lib.hid (B2.out.trans ((B8.out.trans (hb9.mono B8.out.size)).mono B2.out.size))
            have BW9 := Lib.hid (BW1.out.trans (B9.out.mono BW1.out.size))
            have R9 := Lib.hid (row_keep R1.out fun c hc => B9.out.block c (R1.out.lt c hc).2)
            clear hX hb9
            simp only [Act.put, List.setIfInBounds_toArray, List.set_cons_zero, List.set_cons_succ, List.getElem_toArray, List.getElem_cons_zero, List.getElem_cons_succ]
            iterate 1 (refine pl_run _ ?_ rfl rfl ?_ ?_; rotate_left; (focus (intro w' hS; go_simp; exact rfl)); simp only [Act.put, List.setIfInBounds_toArray, List.set_cons_zero, List.set_cons_succ, List.getElem_toArray, List.getElem_cons_zero, List.getElem_cons_succ])
            refine pl_end ?_
            by_cases hin : keyR (c, q, t) ∈ out.map keyR
            · obtain rfl : X = true := by rw [HXX.out]; simpa using hin
              have HEQ := Lib.hid (show outN D i (k + 1) = out by rw [HSN.out]; unfold onceStepN; rw [if_neg (by rintro ⟨_, h⟩; exact h hin)])
              clear hin
              go_wp2_with fail
              go_roundw
              case rel => exact ⟨k + 1, by have := HKT.out; omega, by go_num, by rw [HEQ.out]; exact R9.out, BW9.out, ⟨xa, xc, by rw [HEQ.out]⟩⟩
              case measure => have := HKT.out; simp [intOf]; omega
            · obtain rfl : X = false := by rw [HXX.out]; simpa using hin
              have HEQ := Lib.hid (show outN D i (k + 1) = out ++ [(c, q, t)] by rw [HSN.out]; unfold onceStepN; rw [if_pos ⟨by have := HOL.out; omega, hin⟩])
              clear hin
              obtain ⟨q0, q1, q2⟩ := HBC.out w9 B9.out
              have A9 := Lib.hid ((Below.refl w9.heap.size w9).alloc (Nat.le_refl _) (.cells #[.int .i64 c, .int .i64 q, .string t] 34))
              have HQ3 := Lib.hid (show out.length + 1 ≤ maxLen by have := HOL.out; unfold maxLen; omega)
              have HQ4 := Lib.hid (show (out.length + 1) * 32 ≤ 140737488355328 by have := HOL.out; omega)
              go_wp2_with (at_builtin; refine wpList_append_own _ rfl _ _ 25 rfl w.heap.size 34 ti (.agg #[.int .i64 0, .int .i64 0, .string ⟨#[]⟩]) 3 32 und_reqs i1 i2 i3 i4 rfl (by decide) _ _ _ rfl (row_keep R9.out fun c hc => A9.out.block c (R9.out.lt c hc).2) ⟨w9.heap.size, 0, none⟩ 1 1 [.int .i64 c, .int .i64 q, .string t] rfl rfl (cells3_new w9 c q t _) (cells3_one c q t) HQ3.out HQ4.out (sz_alloc (Nat.le_trans BW9.out.size (Nat.le_refl _)) _) ?_)
              intro u' w10 hown' hgr _
              obtain ⟨a', c', rfl⟩ : ∃ a' c', u' = .slice a' (out.length + 1) c' := by
                rcases hown'.2 with ⟨_, h0⟩ | ⟨q, cp, cur, rfl, _⟩
                · omega
                · exact ⟨_, _, rfl⟩
              have HO' := Lib.hid hown'
              have BA := Lib.hid (BW9.out.trans (A9.out.mono BW9.out.size))
              have BF := Lib.hid (BA.out.grown hgr BA.out.size (fun k hk => (R9.out.lt k hk).1))
              clear hown' hgr q0 q1 q2
              go_wp2_with fail
              go_roundw
              case rel => exact ⟨k + 1, by have := HKT.out; omega, by go_num, by rw [HEQ.out, cellsR_snoc, List.length_append]; exact HO'.out, BF.out, ⟨a', c', by rw [HEQ.out, List.length_append]; rfl⟩⟩
              case measure => have := HKT.out; simp [intOf]; omega
        · obtain rfl : k = bd.2.length := by omega
          have hkt' : ¬ (bd.2.length : Int) < (bd.2.length : Int) := by omega
          have HNX := Lib.hid (show outN D i bd.2.length = outN D (i + 1) 0 by
            have := outN_all (L := D) (i := i) (by rw [← HD.out]; exact HLT.out)
            rw [HDB.out] at this; exact this)
          rw [HNX.out] at HOUT
          clear hk hkt hout
          go_wp2_with fail
          go_roundw
          case rel => exact ⟨i + 1, by have := HLT.out; omega, by go_num, by rw [HOUT.out]; exact HROW.out, HBK.out, ⟨xa, xc, by rw [HOUT.out]⟩⟩
          case measure => have := HLT.out; simp [intOf]; omega
    · obtain rfl : i = L.length := by omega
      have hlt' : ¬ (L.length : Int) < (L.length : Int) := by omega
      have HFIN := Lib.hid (show outN D L.length 0 = onceA D by rw [outN_zero, HD.out, List.take_length]; rfl)
      clear hi hlt
      go_wp2_with fail
      go_ret
      refine ⟨_, rfl, ?_, HST.out.below⟩
      show ReqsAt wr (.slice xa (outN D L.length 0).length xc) (onceA D)
      rw [← HFIN.out]
      exact reqs_of_own HST.out.row
end Go.Proofs.YtegkhhegapnkpaaDoor
end
section
open Go Go.RowKit
namespace YY
open FF JJ CC WW BB
theorem keeps_low {A : Nat → Prop} {w w' : World} {n : Nat} (h : Keeps A w w') (hA : ∀ b, b < n → A b) (hn : n ≤ w.heap.size) : Below n w w' :=
  ⟨h.b0.os, h.b0.tape, h.b0.output, h.b0.size, fun k hk => h.block k (hA k hk) (Nat.lt_of_lt_of_le hk hn)⟩
theorem own_slY {w : World} {base n k : Nat} {e : TypeId} {v : Value} {xs : List Value} (h : w.ownsRow base e k v n xs) : ∃ a c, v = .slice a n c := by
  rcases h.2 with ⟨h1, h2⟩ | ⟨q, cap, cur, h1, _⟩
  · exact ⟨none, 0, by rw [h1, h2]⟩
  · exact ⟨_, _, h1⟩
theorem chain_in64 (l : List (Nat × Nat × Nat)) : ∀ i, i ≤ 1000 → ∀ r ∈ flatR (chainL l i), In64 (keyR r)
  | 0, _, r, h => by simp [chainL, flatR] at h
  | i + 1, hi, r, h => by
    rw [chainL, flatR_app, flatR_one, List.mem_append] at h
    rcases h with h | h
    · exact chain_in64 l i (by omega) r h
    · unfold nextB at h
      simp only [List.mem_singleton] at h
      subst h
      unfold In64 keyR
      simp only
      omega
end YY
namespace Go.Proofs.YtegkhhegapnkpaaDoor
open YY FF JJ CC MM WW BB
theorem notab11 {w : World} (hT : Tabs w) : ∀ b, w.heap.size ≤ b → NoTab b := fun b hb => ⟨fun e => by have := hT.l1; omega, fun e => by have := hT.l2; omega, fun e => by have := hT.l3; omega⟩
set_option maxRecDepth 100000 in
set_option maxHeartbeats 16000000 in
theorem lawO11 (C : Code11) (l : List (Nat × Nat × Nat)) (v : Value) (w : World) (hT : Tabs w) (hv : TriAt w v l) (hs : ∀ i, (l.getD i (0, 0, 0)).1 < 256 ∧ (l.getD i (0, 0, 0)).2.1 < 256 ∧ (l.getD i (0, 0, 0)).2.2 < 256) :
    Calls Tryd.prog 8 #[v] w fun e w' => e = .returned (.bool true) ∧ Below w.heap.size w w' := by
  have HT := Lib.hid hT
  have HS := Lib.hid hs
  obtain ⟨a0, cap, rfl, hx⟩ := hv
  have HX := Lib.hid hx
  clear hT hs hx
  go_enter Tryd.func8, Tryd.ntmps8
  go_wp2_with fail
  refine (awake11_any C w HT.out).mono ?_
  rintro e w1 ⟨rfl, hb1⟩
  have B1 := Lib.hid hb1
  clear hb1
  by_cases h1 : (20 : Int) < (l.length : Int)
  · go_wp2_with fail
    refine (awake11_any C w1 (tabs_on HT.out B1.out)).mono ?_
    rintro e w2 ⟨rfl, hb2⟩
    have B2 := Lib.hid (B1.out.trans (hb2.mono B1.out.size))
    go_wp2_with fail
    go_ret
    exact ⟨rfl, B2.out⟩
  · have HL := Lib.hid (show l.length ≤ 20 by omega)
    have d1 : decide ((20 : Int) < (l.length : Int)) = false := decide_eq_false h1
    clear h1
    go_wp2_with fail
    go_loopw [3, 4] (fun x y wr => ∃ i : Nat, i ≤ l.length ∧ y = .int .i64 (i : Int) ∧ wr.ownsRow w.heap.size 36 3 x i (cellsT (strL l i)) ∧ Below w.heap.size w wr) (fun _ y _ => l.length - (intOf y).toNat)
    case atStart => exact ⟨0, Nat.zero_le _, rfl, World.ownsRow_nil _ _ _ _, B1.out⟩
    case round =>
      obtain ⟨i, hi, rfl, hrow, hbr⟩ := hrel
      have HROW := Lib.hid hrow
      have HBR := Lib.hid hbr
      have HI := Lib.hid hi
      have i0 : (0 : Int) ≤ (i : Int) := by omega
      have ib : (i : Int) ≤ 20 := by have := HL.out; omega
      obtain ⟨xa, xc, rfl⟩ := own_slY hrow
      clear hrow hbr hi
      by_cases hlt : i < l.length
      · have hlt' : (i : Int) < (l.length : Int) := by omega
        have HLT := Lib.hid hlt
        obtain ⟨tb, toff, rfl, hbw, hcell⟩ : ∃ b off, a0 = some ⟨b, off, none⟩ ∧ b < w.heap.size ∧ _ := by
          rcases HX.out with h | h
          · subst h; simp at hlt
          · exact h
        obtain ⟨k0, k1, k2⟩ := hcell i hlt
        obtain ⟨t, ht⟩ : ∃ t, l.getD i (0, 0, 0) = t := ⟨_, rfl⟩
        have HTT := Lib.hid ht
        rw [ht] at k0 k1 k2
        obtain ⟨a, b, c⟩ := t
        have HQ := Lib.hid (fun (wx : World) (hb : Below w.heap.size w wx) => show wx.cell? ⟨tb, toff + i * 3, none⟩ = some (.int .u8 (a : Int)) ∧ wx.cell? ⟨tb, toff + i * 3 + 2, none⟩ = some (.int .u8 (c : Int)) from
          ⟨(hb.cell (p := ⟨tb, toff + i * 3, none⟩) hbw).trans k0, (hb.cell (p := ⟨tb, toff + i * 3 + 2, none⟩) hbw).trans k2⟩)
        have hw3 : IntKind.u8.wrap (i : Int) = (i : Int) := by rw [IntKind.wrap_u8]; omega
        clear hlt hbw hcell ht k0 k1 k2
        go_wp2_with fail
        refine plan_abs (fun wx => Below w.heap.size w wx) [(true, 0), (true, 1), (true, 2), (true, 3), (true, 4), (true, 5), (true, 6), (true, 7), (true, 8), (true, 9), (true, 10), (true, 11), (true, 12), (true, 13), (false, 14), (false, 15), (false, 16)] (by kernel_rfl) (by kernel_rfl) (fun _ _ d _ _ h => by cases d <;> exact h) fun w5 hs5 => ⟨HBR.out.trans ((hs5.below _).mono HBR.out.size), ?_⟩
        have Y5 := Lib.hid (show Below wr.heap.size wr w5 from hs5.below _)
        have B5 := Lib.hid (HBR.out.trans (Y5.out.mono HBR.out.size))
        clear hs5
        iterate 14 (refine pl_run _ ?_ rfl rfl ?_ ?_; rotate_left; (focus (intro w' hS; obtain ⟨c0, c2⟩ := HQ.out w' hS; go_simp; exact rfl)); simp only [Act.put, List.setIfInBounds_toArray, List.set_cons_zero, List.set_cons_succ, List.getElem_toArray, List.getElem_cons_zero, List.getElem_cons_succ])
        have R5 := Lib.hid (row_keep HROW.out fun c hc => Y5.out.block c (HROW.out.lt c hc).2)
        have BA := Lib.hid ((Below.refl w5.heap.size w5).alloc (Nat.le_refl _) (.cells #[.int .u8 (a : Int), .int .u8 (i : Int), .int .u8 (c : Int)] 36))
        have HCE := Lib.hid (show ∀ j u, ([.int .u8 (a : Int), .int .u8 (i : Int), .int .u8 (c : Int)] : List Value)[j]? = some u → (w5.alloc (.cells #[.int .u8 (a : Int), .int .u8 (i : Int), .int .u8 (c : Int)] 36)).cell? ((⟨w5.heap.size, 0, none⟩ : Addr).add j) = some u from fun j u hu => by
          have e : (⟨w5.heap.size, 0, none⟩ : Addr).add j = ⟨w5.heap.size, j, none⟩ := by unfold Addr.add; split <;> simp [*]
          rw [e]
          exact cell_new w5 _ _ j u (by simpa using hu))
        obtain ⟨w6, hw6⟩ : ∃ w6, w5.alloc (.cells #[.int .u8 (a : Int), .int .u8 (i : Int), .int .u8 (c : Int)] 36) = w6 := ⟨_, rfl⟩
        refine pl_value (w' := w6) _ (.slice (some ⟨w5.heap.size, 0, none⟩) 1 1) rfl rfl (by rw [← hw6]; go_simp) (by rw [← hw6]; exact B5.out.trans (BA.out.mono B5.out.size)) ?_
        simp only [Act.put, List.setIfInBounds_toArray, List.set_cons_zero, List.set_cons_succ, List.getElem_toArray, List.getElem_cons_zero, List.getElem_cons_succ]
        rw [hw6] at BA HCE
        clear hw6 hw3
        have R6 := Lib.hid (row_keep R5.out fun c hc => BA.out.block c (R5.out.lt c hc).2)
        have B6 := Lib.hid (B5.out.trans (BA.out.mono B5.out.size))
        obtain ⟨ti, i1, i2, i3, i4⟩ := info_parts (show (Tryd.prog.info? 36).map (fun i => (i.zero, i.size, i.bytes)) = some (some (.agg #[.int .u8 0, .int .u8 0, .int .u8 0]), 3, 3) by kernel_rfl)
        obtain ⟨u', w7, hr7, ho7, hg7, _⟩ := run_append_own (P := Tryd.prog) w6 w.heap.size 37 37 36 ti (.agg #[.int .u8 0, .int .u8 0, .int .u8 0]) 3 3 (by kernel_rfl) i1 i2 i3 i4 rfl (by decide) _ i (cellsT (strL l i)) R6.out ⟨w5.heap.size, 0, none⟩ 1 1 [.int .u8 (a : Int), .int .u8 (i : Int), .int .u8 (c : Int)] rfl HCE.out (fun u hu => by
          simp only [List.mem_cons, List.not_mem_nil, or_false] at hu
          rcases hu with rfl | rfl | rfl <;> rfl) (by unfold maxLen; omega) (by omega) B6.out.size
        obtain ⟨a', c', rfl⟩ : ∃ a' c', u' = .slice a' (i + 1) c' := by
          rcases ho7.2 with ⟨_, h0⟩ | ⟨q, cp, cur, rfl, _⟩
          · omega
          · exact ⟨_, _, rfl⟩
        have HOW := Lib.hid (show w7.ownsRow w.heap.size 36 3 (.slice a' (i + 1) c') (i + 1) (cellsT (strL l (i + 1))) by
          rw [str_snoc, cellsT_snoc, HTT.out]; exact ho7)
        have B7 := Lib.hid (B6.out.grown hg7 B6.out.size (fun k hk => (R6.out.lt k hk).1))
        refine pl_value (w' := w7) _ (.slice a' (i + 1) c') rfl rfl (run_op_append _ _ _ rfl _ _ rfl rfl hr7) B7.out ?_
        clear hr7 ho7 hg7
        simp only [Act.put, List.setIfInBounds_toArray, List.set_cons_zero, List.set_cons_succ, List.getElem_toArray, List.getElem_cons_zero, List.getElem_cons_succ]
        refine pl_value (w' := w7) _ (.slice a' (i + 1) c') rfl rfl (by go_simp) B7.out ?_
        simp only [Act.put, List.setIfInBounds_toArray, List.set_cons_zero, List.set_cons_succ, List.getElem_toArray, List.getElem_cons_zero, List.getElem_cons_succ]
        refine pl_end ?_
        go_wp2_with fail
        go_roundw
        case rel => exact ⟨i + 1, by have := HLT.out; omega, by go_num, HOW.out, B7.out⟩
        case measure => have := HLT.out; simp [intOf]; omega
      · obtain rfl : i = l.length := by have := HI.out; omega
        have hlt' : ¬ (l.length : Int) < (l.length : Int) := by omega
        have HTR := Lib.hid (show TriAt wr (.slice xa l.length xc) (strL l l.length) by
          have h := HROW.out
          have e : (strL l l.length).length = l.length := str_len l l.length
          have h2 : wr.ownsRow w.heap.size 36 3 (.slice xa l.length xc) (strL l l.length).length (cellsT (strL l l.length)) := by rw [e]; exact h
          exact tri_of_own h2)
        obtain ⟨N, hN⟩ : ∃ N, l.length = N := ⟨_, rfl⟩
        obtain ⟨D, hD⟩ : ∃ D, chainL (strL l N) N = D := ⟨_, rfl⟩
        have HDL := Lib.hid (show D.length = N by rw [← hD, chain_len])
        have HDS := Lib.hid (show standsL firstD D by rw [← hD]; exact chain_stands l N N (Nat.le_refl _))
        have HDM := Lib.hid (show ∀ x ∈ D, SmallI x from fun x hx => by rw [← hD] at hx; exact (chain_small _ _ x hx).1)
        have HDR := Lib.hid (show (flatR D).length = N by rw [← hD]; exact chain_reqs _ _)
        have HN20 := Lib.hid (show N ≤ 20 by rw [← hN]; exact HL.out)
        have HDI := Lib.hid (show ∀ r ∈ flatR D, In64 (keyR r) by rw [← hD]; exact chain_in64 _ N (by have := HN20.out; omega))
        have HCH := Lib.hid (chain_any (strL l N) (.slice xa l.length xc) wr (by rw [← hN]; exact HTR.out) (str_small l N (by have := HN20.out; omega) HS.out) (by rw [str_len]; have := HN20.out; omega))
        rw [str_len, show min N 40 = N by have := HN20.out; omega, hD] at HCH
        rw [hN] at HCH hlt' ⊢
        clear hlt hN hD
        go_wp2_with fail
        refine HCH.out.mono ?_
        rintro e w2 ⟨u, rfl, L, hmap, hbv, hb2⟩
        have HMAP := Lib.hid hmap
        have HLN := Lib.hid (show L.length = N by have := congrArg List.length hmap; rw [List.length_map, HDL.out] at this; exact this)
        have HBV := Lib.hid hbv
        have B2 := Lib.hid (HBR.out.trans (hb2.mono HBR.out.size))
        have HT2 := Lib.hid (tabs_on HT.out B2.out)
        obtain ⟨la, lc, rfl⟩ := bv_shape hbv
        clear hmap hbv hb2 HCH
        go_wp2_with fail
        refine (C.new w2 HT2.out).mono ?_
        rintro e w3 ⟨g, O, rfl, h3, ho3, hb3⟩
        have H3 := Lib.hid h3
        have HO3 := Lib.hid ho3
        have B3 := Lib.hid hb3
        have HT3 := Lib.hid (tabs_on HT2.out B3.out)
        clear h3 ho3 hb3
        have HD3 := Lib.hid (show Dep (fun b => b < w2.heap.size) w3 (fun w' => BvAt w' (.slice la L.length lc) L) from fun w' hk => HBV.out.later (B3.out.trans (keeps_low hk (fun b hb => hb) B3.out.size)))
        go_wp2_with fail
        refine (C.put O (fun b => b < w2.heap.size) w3 g [] _ L H3.out HT3.out (fun b hb => notab11 HT2.out b (HO3.out b hb)) HD3.out (fun b hb ho => by have := HO3.out b ho; omega) (fun b hb => by cases hb) (fun y hy => HDM.out y.1 (by rw [← HMAP.out]; exact List.mem_map.2 ⟨y, hy, rfl⟩)) (Nat.zero_le _) (by rw [HLN.out]; have := HN20.out; omega) (by rw [HMAP.out]; exact HDS.out)).mono ?_
        rintro e w4 ⟨rfl, O', h4, hk4, ho4⟩
        rw [HMAP.out] at h4
        have H4 := Lib.hid (show C.At O' w4 g D from h4)
        have K4 := Lib.hid hk4
        have B4 := Lib.hid (show Below w2.heap.size w2 w4 from B3.out.trans (keeps_low hk4 (fun b hb ho => by have := HO3.out b ho; omega) B3.out.size))
        have BV4 := Lib.hid (HBV.out.later B4.out)
        have HT4 := Lib.hid (tabs_on HT2.out B4.out)
        clear h4 hk4 ho4
        go_wp2_with fail
        refine (C.len O' w4 g D H4.out (by rw [HDL.out]; have := HN20.out; omega)).mono ?_
        rintro e w5 ⟨rfl, hb5⟩
        have H5 := Lib.hid (C.keep H4.out (Keeps.of hb5))
        have BV5 := Lib.hid (BV4.out.later hb5)
        have B5 := Lib.hid (B4.out.trans (hb5.mono B4.out.size))
        clear hb5
        rw [HDL.out]
        have t5 : ((N : Int) != (L.length : Int)) = false := by rw [HLN.out]; simp
        go_wp2_with fail
        refine (C.requests O' w5 g D H5.out (by rw [HDL.out]; have := HN20.out; omega) (by rw [HDR.out]; have := HN20.out; omega) HDI.out).mono ?_
        rintro e w6 ⟨u6, rfl, hq6, hb6⟩
        have HQ6 := Lib.hid hq6
        have H6 := Lib.hid (C.keep H5.out (Keeps.of hb6))
        have BV6 := Lib.hid (BV5.out.later hb6)
        have B6 := Lib.hid (B5.out.trans (hb6.mono B5.out.size))
        obtain ⟨qa, qc, rfl, _⟩ := hq6
        have HON := Lib.hid (show (onceA D).length ≤ N by have := onceA_len D; rw [HDR.out] at this; exact this)
        clear hb6
        go_wp2_with fail
        refine (rrequests_any L _ w6 BV6.out (by rw [HMAP.out, HDR.out]; have := HN20.out; omega) (by rw [HLN.out]; have := HN20.out; omega)).mono ?_
        rintro e w7 ⟨u7, rfl, hq7, hb7⟩
        rw [HMAP.out] at hq7
        have HQ7 := Lib.hid hq7
        have H7 := Lib.hid (C.keep H6.out (Keeps.of hb7))
        have HQ67 := Lib.hid (HQ6.out.later hb7)
        have B7 := Lib.hid (B6.out.trans (hb7.mono B6.out.size))
        obtain ⟨ra, rc, rfl, _⟩ := hq7
        clear hb7
        go_wp2_with fail
        refine (rsame11_any (onceA D) (onceA D) _ _ w7 HQ67.out HQ7.out (by have := HON.out; have := HN20.out; omega)).mono ?_
        rintro e w8 ⟨rfl, hb8⟩
        rw [decide_eq_true (rfl : onceA D = onceA D)]
        have H8 := Lib.hid (C.keep H7.out (Keeps.of hb8))
        have B8 := Lib.hid (B7.out.trans (hb8.mono B7.out.size))
        clear hb8
        go_wp2_with fail
        refine (C.requests O' w8 g D H8.out (by rw [HDL.out]; have := HN20.out; omega) (by rw [HDR.out]; have := HN20.out; omega) HDI.out).mono ?_
        rintro e w9 ⟨u9, rfl, hq9, hb9⟩
        have B9 := Lib.hid (B2.out.trans ((B8.out.trans (hb9.mono B8.out.size)).mono B2.out.size))
        obtain ⟨sa, sc, rfl, _⟩ := hq9
        have t9 : (((onceA D).length : Nat) : Int) ≤ (L.length : Int) := by rw [HLN.out]; have := HON.out; omega
        have t9' : decide ((onceA D).length ≤ L.length) = true := decide_eq_true (by omega)
        clear hb9
        go_wp2_with fail
        go_ret
        exact ⟨rfl, B9.out⟩
end Go.Proofs.YtegkhhegapnkpaaDoor
end
section
open Go Go.RowKit
namespace Go.Proofs.YtegkhhegapnkpaaDoor
open YY FF JJ CC MM WW BB
theorem under_ts (w : World) : (underlying 44).run Tryd.prog w = .ok (.slice 9) w := by kernel_rfl
theorem size_ts (w : World) : (Go.sizeOf 9).run Tryd.prog w = .ok 1 w := by kernel_rfl
set_option maxRecDepth 100000 in
set_option maxHeartbeats 8000000 in
theorem lawB11 (C : Code11) (l m : List ByteArray) (a0 a1 : Option Addr) (c0 c1 k : Nat) (w : World) (hT : Tabs w) (hv : StrsAt w (.slice a0 l.length c0) l) (hu : StrsAt w (.slice a1 m.length c1) m) (hc : m.length ≤ c1) (hk : k < 256) :
    Calls Tryd.prog 9 #[.slice a0 l.length c0, .slice a1 m.length c1, .int .u8 (k : Int)] w fun e w' => e = .returned (.bool true) ∧ Below w.heap.size w w' := by
  have HT := Lib.hid hT
  have HVW := Lib.hid hv
  have HUW := Lib.hid hu
  have HC := Lib.hid hc
  have HK := Lib.hid hk
  clear hT hv hu hc
  go_enter Tryd.func9, Tryd.ntmps9
  go_wp2_with fail
  refine (awake11_any C w HT.out).mono ?_
  rintro e w1 ⟨rfl, hb1⟩
  have B1 := Lib.hid hb1
  clear hb1
  by_cases h1 : (60 : Int) < (l.length : Int)
  · go_wp2_with fail
    refine (awake11_any C w1 (tabs_on HT.out B1.out)).mono ?_
    rintro e w2 ⟨rfl, hb2⟩
    have B2 := Lib.hid (B1.out.trans (hb2.mono B1.out.size))
    go_wp2_with fail
    go_ret
    exact ⟨rfl, B2.out⟩
  · have HLZ := Lib.hid (show l.length ≤ 60 by omega)
    by_cases h2 : (60 : Int) < (m.length : Int)
    · go_wp2_with fail
      refine (awake11_any C w1 (tabs_on HT.out B1.out)).mono ?_
      rintro e w2 ⟨rfl, hb2⟩
      have B2 := Lib.hid (B1.out.trans (hb2.mono B1.out.size))
      go_wp2_with fail
      go_ret
      exact ⟨rfl, B2.out⟩
    · have HMZ := Lib.hid (show m.length ≤ 60 by omega)
      obtain ⟨W, hW⟩ : ∃ W, decide (l.length ≤ m.length) = W := ⟨_, rfl⟩
      have HW := Lib.hid hW
      have d1 : decide ((60 : Int) < (l.length : Int)) = false := decide_eq_false h1
      have d2 : decide ((60 : Int) < (m.length : Int)) = false := decide_eq_false h2
      clear h1 h2
      go_upto_region 4 with fail
      clear hW
      go_wp2_with fail
      go_loopw [7, 8] (fun x y wr => ∃ (i : Nat) (b : Bool), i ≤ l.length ∧ x = .bool b ∧ y = .int .i64 (i : Int) ∧ (b = true → l.length ≤ m.length ∧ ∀ j, j < i → l.getD j ⟨#[]⟩ = m.getD j ⟨#[]⟩) ∧ (b = false → begL l m = false) ∧ Below w.heap.size w wr) (fun _ y _ => l.length - (intOf y).toNat)
      case atStart => exact ⟨0, W, Nat.zero_le _, rfl, rfl, fun h => ⟨by have := HW.out; rw [h] at this; have := of_decide_eq_true this; omega, fun j hj => absurd hj (Nat.not_lt_zero j)⟩, fun h => begL_long (by have := HW.out; rw [h] at this; have := of_decide_eq_false this; omega), B1.out⟩
      case round =>
        obtain ⟨i, b, hi, rfl, rfl, ht, hf, hbr⟩ := hrel
        have HT1 := Lib.hid ht
        have HF1 := Lib.hid hf
        have HBR := Lib.hid hbr
        have HI := Lib.hid hi
        have i0 : (0 : Int) ≤ (i : Int) := by omega
        have ib : (i : Int) ≤ 60 := by have := HLZ.out; omega
        have HV := Lib.hid (show True ∧ StrsAt wr (.slice a0 l.length c0) l from ⟨trivial, HVW.out.later hbr⟩)
        have HU := Lib.hid (show True ∧ StrsAt wr (.slice a1 m.length c1) m from ⟨trivial, HUW.out.later hbr⟩)
        have HTR := Lib.hid (tabs_on HT.out hbr)
        clear ht hf hbr hi
        by_cases hlt : i < l.length
        · have hlt' : (i : Int) < (l.length : Int) := by omega
          cases b with
          | false =>
            have HEND := Lib.hid (HF1.out rfl)
            clear hlt
            have m0 : ((m.length : Int) + 1 == 0) = false := by rw [beq_eq_false_iff_ne]; omega
            have hw1 : IntKind.i64.wrap ((m.length : Int) + 1) = (m.length : Int) + 1 := IntWalk.i64_in _ (by have := HMZ.out; omega)
            have hw2 : IntKind.i64.wrap (k : Int) = (k : Int) := IntWalk.i64_in _ ⟨by omega, by have := HK.out; omega⟩
            obtain ⟨n, hn⟩ : ∃ n : Nat, k % (m.length + 1) = n := ⟨_, rfl⟩
            have e1 : ((k : Nat) : Int).tmod ((m.length : Int) + 1) = (n : Int) := by rw [← hn, Int.tmod_eq_emod_of_nonneg (by omega)]; simp
            have HNM := Lib.hid (show n ≤ m.length by rw [← hn]; exact Nat.le_of_lt_succ (Nat.mod_lt k (Nat.succ_pos m.length)))
            clear hn hk
            go_wp2_with fail
            refine (C.begins l m _ _ wr HV.out.2 HU.out.2 (roomV_mk HC.out) (by have := HLZ.out; omega) (by have := HMZ.out; omega)).mono ?_
            rintro e w2 ⟨rfl, hb2⟩
            rw [HEND.out]
            have B2 := Lib.hid hb2
            clear hb2
            go_wp2_with (with_reducible refine hold_slice11 rfl ?_)
            refine wpl_slice_hi11 (.tmp 58) (.tmp 59) (by rfl) rfl (by rfl) (by rfl) (under_ts _) (size_ts _) (by have := HNM.out; have := HC.out; omega) ?_
            go_wp2_with fail
            refine (C.begins (m.take n) m _ _ w2 (strs_take (HU.out.2.later B2.out) n c1 HNM.out) (HU.out.2.later B2.out) (roomV_mk HC.out) (by rw [List.length_take]; have := HMZ.out; omega) (by have := HMZ.out; omega)).mono ?_
            rintro e w3 ⟨rfl, hb3⟩
            rw [begL_take]
            have B3 := Lib.hid (B2.out.trans (hb3.mono B2.out.size))
            clear hb3
            go_wp2_with (with_reducible refine hold_slice11 rfl ?_)
            refine wpl_slice_hi11 (.tmp 66) (.tmp 67) (by rfl) rfl (by rfl) (by rfl) (under_ts _) (size_ts _) (by have := HNM.out; have := HC.out; omega) ?_
            go_wp2_with fail
            refine (C.begins m (m.take n) _ _ w3 (HU.out.2.later B3.out) (strs_take (HU.out.2.later B3.out) n c1 HNM.out) (roomV_mk (Nat.le_trans HNM.out HC.out)) (by have := HMZ.out; omega) (by rw [List.length_take]; have := HMZ.out; omega)).mono ?_
            rintro e w4 ⟨rfl, hb4⟩
            rw [begL_back m n HNM.out]
            have B4 := Lib.hid (HBR.out.trans ((B3.out.trans (hb4.mono B3.out.size)).mono HBR.out.size))
            clear hb4
            by_cases he : n = m.length
            · have t1 : ((n : Int) == (m.length : Int)) = true := by rw [he]; simp
              have t2 : decide (n = m.length) = true := decide_eq_true he
              rw [t2]
              clear he
              go_wp2_with fail
              go_ret
              exact ⟨rfl, B4.out⟩
            · have t1 : ((n : Int) == (m.length : Int)) = false := by rw [beq_eq_false_iff_ne]; omega
              have t2 : decide (n = m.length) = false := decide_eq_false he
              rw [t2]
              clear he
              go_wp2_with fail
              go_ret
              exact ⟨rfl, B4.out⟩
          | true =>
            have hlm := (HT1.out rfl).1
            have HTA := Lib.hid (HT1.out rfl).2
            have hlt2 : (i : Int) < (m.length : Int) := by omega
            obtain ⟨a2, k2, he, h | ⟨gb, off, h3, hbw, hcell⟩⟩ := HV.out.2
            · rw [h] at hlt; simp at hlt
            injection he with e1 _ e3
            subst e1 e3 h3
            obtain ⟨a2, k2, he, h | ⟨gb2, off2, h3, hbw2, hcell2⟩⟩ := HU.out.2
            · rw [h] at hlt2; simp at hlt2; omega
            injection he with e1 _ e3
            subst e1 e3 h3
            have q0 := hcell i hlt
            have q1 := hcell2 i (by omega)
            obtain ⟨x, hx⟩ : ∃ x, l.getD i ⟨#[]⟩ = x := ⟨_, rfl⟩
            obtain ⟨y, hy⟩ : ∃ y, m.getD i ⟨#[]⟩ = y := ⟨_, rfl⟩
            rw [hx] at q0
            rw [hy] at q1
            have HXY := Lib.hid (And.intro hx hy)
            have HLT := Lib.hid hlt
            have HLM := Lib.hid hlm
            have HQ := Lib.hid (fun (wx : World) (hb : Below wr.heap.size wr wx) => show wx.cell? ⟨gb, off + i, none⟩ = some (.string x) ∧ wx.cell? ⟨gb2, off2 + i, none⟩ = some (.string y) from ⟨(hb.cell (p := ⟨gb, off + i, none⟩) hbw).trans q0, (hb.cell (p := ⟨gb2, off2 + i, none⟩) hbw2).trans q1⟩)
            clear hx hy hbw hbw2 hcell hcell2 hlt hlm q0 q1
            go_wp2_with fail
            refine plan_abs (fun wx => Below wr.heap.size wr wx) [(true, 0), (true, 1), (true, 2), (true, 3), (true, 4), (true, 5), (true, 6), (true, 7), (true, 8), (true, 9)] (by kernel_rfl) (by kernel_rfl) (fun _ _ d _ _ h => by cases d <;> exact h) fun w5 hs5 => ⟨hs5.below _, ?_⟩
            have B5 := Lib.hid (HBR.out.trans ((hs5.below _).mono HBR.out.size))
            clear hs5
            iterate 8 (refine pl_run _ ?_ rfl rfl ?_ ?_; rotate_left; (focus (intro w' hS; obtain ⟨c0, c1⟩ := HQ.out w' hS; go_simp; exact rfl)); simp only [Act.put, List.setIfInBounds_toArray, List.set_cons_zero, List.set_cons_succ, List.getElem_toArray, List.getElem_cons_zero, List.getElem_cons_succ])
            by_cases he : x = y
            · have t1 : (x.toList == y.toList) = true := by rw [he]; simp
              have HE := Lib.hid he
              clear he
              iterate 2 (refine pl_run _ ?_ rfl rfl ?_ ?_; rotate_left; (focus (intro w' hS; go_simp; exact rfl)); simp only [Act.put, List.setIfInBounds_toArray, List.set_cons_zero, List.set_cons_succ, List.getElem_toArray, List.getElem_cons_zero, List.getElem_cons_succ])
              refine pl_end ?_
              go_wp2_with fail
              go_roundw
              case rel => exact ⟨i + 1, true, by have := HLT.out; omega, rfl, by go_num, fun _ => ⟨HLM.out, fun j hj => if h : j = i then by subst h; rw [HXY.out.1, HXY.out.2]; exact HE.out else HTA.out j (by omega)⟩, (fun h => (by cases h)), B5.out⟩
              case measure => have := HLT.out; simp [intOf]; omega
            · have t1 := ba_beq he
              have HE := Lib.hid he
              clear he
              iterate 2 (refine pl_run _ ?_ rfl rfl ?_ ?_; rotate_left; (focus (intro w' hS; go_simp; exact rfl)); simp only [Act.put, List.setIfInBounds_toArray, List.set_cons_zero, List.set_cons_succ, List.getElem_toArray, List.getElem_cons_zero, List.getElem_cons_succ])
              refine pl_end ?_
              go_wp2_with fail
              go_roundw
              case rel => exact ⟨i + 1, false, by have := HLT.out; omega, rfl, by go_num, (fun h => (by cases h)), fun _ => begL_not HLT.out (by rw [HXY.out.1, HXY.out.2]; exact HE.out), B5.out⟩
              case measure => have := HLT.out; simp [intOf]; omega
        · obtain rfl : i = l.length := by have := HI.out; omega
          have hlt' : ¬ (l.length : Int) < (l.length : Int) := by omega
          clear hlt
          cases b with
          | false =>
            have HEND := Lib.hid (HF1.out rfl)
            have m0 : ((m.length : Int) + 1 == 0) = false := by rw [beq_eq_false_iff_ne]; omega
            have hw1 : IntKind.i64.wrap ((m.length : Int) + 1) = (m.length : Int) + 1 := IntWalk.i64_in _ (by have := HMZ.out; omega)
            have hw2 : IntKind.i64.wrap (k : Int) = (k : Int) := IntWalk.i64_in _ ⟨by omega, by have := HK.out; omega⟩
            obtain ⟨n, hn⟩ : ∃ n : Nat, k % (m.length + 1) = n := ⟨_, rfl⟩
            have e1 : ((k : Nat) : Int).tmod ((m.length : Int) + 1) = (n : Int) := by rw [← hn, Int.tmod_eq_emod_of_nonneg (by omega)]; simp
            have HNM := Lib.hid (show n ≤ m.length by rw [← hn]; exact Nat.le_of_lt_succ (Nat.mod_lt k (Nat.succ_pos m.length)))
            clear hn hk
            go_wp2_with fail
            refine (C.begins l m _ _ wr HV.out.2 HU.out.2 (roomV_mk HC.out) (by have := HLZ.out; omega) (by have := HMZ.out; omega)).mono ?_
            rintro e w2 ⟨rfl, hb2⟩
            rw [HEND.out]
            have B2 := Lib.hid hb2
            clear hb2
            go_wp2_with (with_reducible refine hold_slice11 rfl ?_)
            refine wpl_slice_hi11 (.tmp 58) (.tmp 59) (by rfl) rfl (by rfl) (by rfl) (under_ts _) (size_ts _) (by have := HNM.out; have := HC.out; omega) ?_
            go_wp2_with fail
            refine (C.begins (m.take n) m _ _ w2 (strs_take (HU.out.2.later B2.out) n c1 HNM.out) (HU.out.2.later B2.out) (roomV_mk HC.out) (by rw [List.length_take]; have := HMZ.out; omega) (by have := HMZ.out; omega)).mono ?_
            rintro e w3 ⟨rfl, hb3⟩
            rw [begL_take]
            have B3 := Lib.hid (B2.out.trans (hb3.mono B2.out.size))
            clear hb3
            go_wp2_with (with_reducible refine hold_slice11 rfl ?_)
            refine wpl_slice_hi11 (.tmp 66) (.tmp 67) (by rfl) rfl (by rfl) (by rfl) (under_ts _) (size_ts _) (by have := HNM.out; have := HC.out; omega) ?_
            go_wp2_with fail
            refine (C.begins m (m.take n) _ _ w3 (HU.out.2.later B3.out) (strs_take (HU.out.2.later B3.out) n c1 HNM.out) (roomV_mk (Nat.le_trans HNM.out HC.out)) (by have := HMZ.out; omega) (by rw [List.length_take]; have := HMZ.out; omega)).mono ?_
            rintro e w4 ⟨rfl, hb4⟩
            rw [begL_back m n HNM.out]
            have B4 := Lib.hid (HBR.out.trans ((B3.out.trans (hb4.mono B3.out.size)).mono HBR.out.size))
            clear hb4
            by_cases he : n = m.length
            · have t1 : ((n : Int) == (m.length : Int)) = true := by rw [he]; simp
              have t2 : decide (n = m.length) = true := decide_eq_true he
              rw [t2]
              clear he
              go_wp2_with fail
              go_ret
              exact ⟨rfl, B4.out⟩
            · have t1 : ((n : Int) == (m.length : Int)) = false := by rw [beq_eq_false_iff_ne]; omega
              have t2 : decide (n = m.length) = false := decide_eq_false he
              rw [t2]
              clear he
              go_wp2_with fail
              go_ret
              exact ⟨rfl, B4.out⟩
          | true =>
            have HEND := Lib.hid (begL_all (HT1.out rfl).1 (HT1.out rfl).2)
            have m0 : ((m.length : Int) + 1 == 0) = false := by rw [beq_eq_false_iff_ne]; omega
            have hw1 : IntKind.i64.wrap ((m.length : Int) + 1) = (m.length : Int) + 1 := IntWalk.i64_in _ (by have := HMZ.out; omega)
            have hw2 : IntKind.i64.wrap (k : Int) = (k : Int) := IntWalk.i64_in _ ⟨by omega, by have := HK.out; omega⟩
            obtain ⟨n, hn⟩ : ∃ n : Nat, k % (m.length + 1) = n := ⟨_, rfl⟩
            have e1 : ((k : Nat) : Int).tmod ((m.length : Int) + 1) = (n : Int) := by rw [← hn, Int.tmod_eq_emod_of_nonneg (by omega)]; simp
            have HNM := Lib.hid (show n ≤ m.length by rw [← hn]; exact Nat.le_of_lt_succ (Nat.mod_lt k (Nat.succ_pos m.length)))
            clear hn hk
            go_wp2_with fail
            refine (C.begins l m _ _ wr HV.out.2 HU.out.2 (roomV_mk HC.out) (by have := HLZ.out; omega) (by have := HMZ.out; omega)).mono ?_
            rintro e w2 ⟨rfl, hb2⟩
            rw [HEND.out]
            have B2 := Lib.hid hb2
            clear hb2
            go_wp2_with (with_reducible refine hold_slice11 rfl ?_)
            refine wpl_slice_hi11 (.tmp 58) (.tmp 59) (by rfl) rfl (by rfl) (by rfl) (under_ts _) (size_ts _) (by have := HNM.out; have := HC.out; omega) ?_
            go_wp2_with fail
            refine (C.begins (m.take n) m _ _ w2 (strs_take (HU.out.2.later B2.out) n c1 HNM.out) (HU.out.2.later B2.out) (roomV_mk HC.out) (by rw [List.length_take]; have := HMZ.out; omega) (by have := HMZ.out; omega)).mono ?_
            rintro e w3 ⟨rfl, hb3⟩
            rw [begL_take]
            have B3 := Lib.hid (B2.out.trans (hb3.mono B2.out.size))
            clear hb3
            go_wp2_with (with_reducible refine hold_slice11 rfl ?_)
            refine wpl_slice_hi11 (.tmp 66) (.tmp 67) (by rfl) rfl (by rfl) (by rfl) (under_ts _) (size_ts _) (by have := HNM.out; have := HC.out; omega) ?_
            go_wp2_with fail
            refine (C.begins m (m.take n) _ _ w3 (HU.out.2.later B3.out) (strs_take (HU.out.2.later B3.out) n c1 HNM.out) (roomV_mk (Nat.le_trans HNM.out HC.out)) (by have := HMZ.out; omega) (by rw [List.length_take]; have := HMZ.out; omega)).mono ?_
            rintro e w4 ⟨rfl, hb4⟩
            rw [begL_back m n HNM.out]
            have B4 := Lib.hid (HBR.out.trans ((B3.out.trans (hb4.mono B3.out.size)).mono HBR.out.size))
            clear hb4
            by_cases he : n = m.length
            · have t1 : ((n : Int) == (m.length : Int)) = true := by rw [he]; simp
              have t2 : decide (n = m.length) = true := decide_eq_true he
              rw [t2]
              clear he
              go_wp2_with fail
              go_ret
              exact ⟨rfl, B4.out⟩
            · have t1 : ((n : Int) == (m.length : Int)) = false := by rw [beq_eq_false_iff_ne]; omega
              have t2 : decide (n = m.length) = false := decide_eq_false he
              rw [t2]
              clear he
              go_wp2_with fail
              go_ret
              exact ⟨rfl, B4.out⟩
end Go.Proofs.YtegkhhegapnkpaaDoor
end
section
open Go Go.RowKit
namespace TT
open WW BB FF
theorem encB_one {w : World} {x : Bv} (h : InnB w x) : ∀ u ∈ encB x, u.oneCell' = true := by
  obtain ⟨a1, c1, h1⟩ := sl_of_sigs h.1
  obtain ⟨a2, c2, h2⟩ := sl_of_reqs h.2
  intro u hu
  unfold encB at hu
  rw [h1, h2] at hu
  simp only [List.mem_cons, List.not_mem_nil, or_false] at hu
  rcases hu with rfl | rfl | rfl | rfl | rfl | rfl <;> rfl
theorem own_sl6 {w : World} {base n k : Nat} {e : TypeId} {v : Value} {xs : List Value} (h : w.ownsRow base e k v n xs) : ∃ a c, v = .slice a n c := by
  rcases h.2 with ⟨h1, h2⟩ | ⟨q, cap, cur, h1, _⟩
  · exact ⟨none, 0, by rw [h1, h2]⟩
  · exact ⟨_, _, h1⟩
end TT
end
section
open Go Go.RowKit
namespace YY
open FF JJ CC WW BB MM Go.Maps
/-- the map of heights: nil, or a block of its own of at most n keys (what it holds is not looked at) -/
def HtAt (P : Program) (k e : TypeId) (w : World) (mv : Value) (n : Nat) : Prop :=
  mv = .map none ∨ ∃ (b : Nat) (D : DataW Unit), mv = .map (some b) ∧ w.ownsMap P k (plainElem P e) b n D
section
variable {P : Program} {k e t : TypeId} {w w' : World} {mv : Value} {n : Nat}
theorem HtAt.keep (h : HtAt P k e w mv n) (hb : ∀ b, mapBlk mv = some b → w'.heap[b]? = w.heap[b]?) : HtAt P k e w' mv n := by
  rcases h with h | ⟨b, D, rfl, ⟨es, clock, h1, h2⟩⟩
  · exact Or.inl h
  · exact Or.inr ⟨b, D, rfl, ⟨es, clock, (hb b rfl).trans h1, h2⟩⟩
theorem HtAt.lt (h : HtAt P k e w mv n) : ∀ b, mapBlk mv = some b → b < w.heap.size := by
  rcases h with rfl | ⟨b, D, rfl, h1⟩
  · exact fun b hb => by cases hb
  · exact fun c hc => by cases hc; exact h1.lt
theorem HtAt.nomap (h : HtAt P k e w mv n) {cs : Array Value} {ty : TypeId} {fz : Nat × Nat} {b : Nat} (hb : w.heap[b]? = some (.cells cs ty fz)) : mapBlk mv ≠ some b := by
  rcases h with rfl | ⟨c, D, rfl, ⟨es, clock, h1, _⟩⟩
  · intro e; cases e
  · intro e; cases e; rw [hb] at h1; cases h1
theorem HtAt.shape (h : HtAt P k e w mv n) : ∃ p, mv = .map p := by
  rcases h with rfl | ⟨b, D, rfl, _⟩
  · exact ⟨_, rfl⟩
  · exact ⟨_, rfl⟩
theorem HtAt.mono {m : Nat} (h : HtAt P k e w mv n) (hm : n ≤ m) : HtAt P k e w mv m := by
  rcases h with rfl | ⟨b, D, rfl, h1⟩
  · exact Or.inl rfl
  · exact Or.inr ⟨b, D, rfl, h1.mono hm⟩
end
theorem row_heap {w : World} {B k n : Nat} {e : TypeId} {v : Value} {xs : List Value} (h : w.ownsRow B e k v n xs) {b : Nat} (hb : v.ownBlock = some b) : ∃ cur, w.heap[b]? = some (.cells cur e (0, 0)) := by
  rcases h.2 with ⟨rfl, _⟩ | ⟨q, cap, cur, rfl, _, hh, _⟩
  · cases hb
  · obtain rfl : q = b := by simpa [Value.ownBlock] using hb
    exact ⟨cur, hh⟩
/-- a digest out of the row of digests -/
theorem dig_at {w : World} {e : TypeId} {B : Nat} {v : Value} {D : List ByteArray} (h : w.ownsRow B e 1 v D.length (D.map Value.string)) (i : Nat) (hi : i < D.length) :
    ∃ q cap, v = .slice (some ⟨q, 0, none⟩) D.length cap ∧ q < w.heap.size ∧ w.cell? ⟨q, i, none⟩ = some (.string (D.getD i ⟨#[]⟩)) := by
  rcases h.2 with ⟨_, h0⟩ | ⟨g, cap, cur, rfl, hg, hh, hn, hcm, hsz, htk⟩
  · omega
  · refine ⟨g, cap, rfl, (Array.getElem?_eq_some_iff.1 hh).1, ?_⟩
    have h1 : (D.map Value.string)[i]? = some (.string (D.getD i ⟨#[]⟩)) := by
      rw [List.getElem?_map, List.getElem?_eq_getElem hi, List.getD_eq_getElem?_getD, List.getElem?_eq_getElem hi]; rfl
    rw [← htk, List.getElem?_take_of_lt (by omega), Array.getElem?_toList] at h1
    unfold World.cell?; rw [hh]; simpa using h1
/-- the digests of blocks -/
def digsN (N : List Bv) : List ByteArray := N.map fun x => digI x.1
theorem digsN_len (N : List Bv) : (digsN N).length = N.length := by unfold digsN; rw [List.length_map]
theorem digsN_snoc (N : List Bv) (x : Bv) : digsN (N ++ [x]) = digsN N ++ [digI x.1] := by unfold digsN; rw [List.map_append]; rfl
theorem digsN_at (N : List Bv) (i : Nat) (h : i < N.length) : (digsN N).getD i ⟨#[]⟩ = digI (N.getD i vb0).1 := by
  unfold digsN
  rw [List.getD_eq_getElem?_getD, List.getElem?_map, List.getElem?_eq_getElem h, List.getD_eq_getElem?_getD, List.getElem?_eq_getElem h]; rfl
theorem lastF_at (d : ByteArray) : ∀ (N : List Bv) (i : Nat), N.length = i + 1 → lastF d (N.map Prod.fst) = digI (N.getD i vb0).1 := by
  intro N i h
  obtain ⟨M, x, rfl⟩ : ∃ M x, N = M ++ [x] := by
    rcases N.eq_nil_or_concat with rfl | ⟨M, x, e⟩
    · simp at h
    · exact ⟨M, x, by rw [e, List.concat_eq_append]⟩
  have hM : M.length = i := by rw [List.length_append, List.length_singleton] at h; omega
  rw [List.map_append]
  show lastF d (M.map Prod.fst ++ [x.1]) = _
  rw [lastF_snoc, List.getD_eq_getElem?_getD, List.getElem?_append_right (by omega), hM, Nat.sub_self]; rfl
/-- the chain's own blocks -/
def OwnK (g : Nat) (bv dv mv : Value) (C : Nat → Prop) (b : Nat) : Prop := b = g ∨ bv.ownBlock = some b ∨ dv.ownBlock = some b ∨ mapBlk mv = some b ∨ C b
end YY
namespace Go.Proofs.YtegkhhegapnkpaaDoor
open YY FF JJ CC MM WW BB TT
/-- the code's chain in block g: blocks, digests, and how many heights -/
structure KpJ (w : World) (g : Nat) (N : List Bv) (D : List ByteArray) (n : Nat) (bv dv mv : Value) (C : Nat → Prop) : Prop where
  blk : TBlk 157 w g 3 (rowL [bv, dv, mv])
  rowB : w.ownsRow 0 29 6 bv N.length (cellsB N)
  rowD : w.ownsRow 0 9 1 dv D.length (D.map Value.string)
  map : HtAt Tryd.prog 9 3 w mv n
  inn : Dep C w (fun w' => ∀ x ∈ N, InnB w' x)
  cg : ¬ C g
  cb : ∀ b, bv.ownBlock = some b → ¬ C b
  cd : ∀ b, dv.ownBlock = some b → ¬ C b
  cm : ∀ b, mapBlk mv = some b → ¬ C b
  cl : ∀ b, C b → b < w.heap.size
/-- the code's chain in block g: it is N -/
abbrev KpI (w : World) (g : Nat) (N : List Bv) (bv dv mv : Value) (C : Nat → Prop) : Prop := KpJ w g N (digsN N) N.length bv dv mv C
section
variable {w w' : World} {g n : Nat} {N : List Bv} {D : List ByteArray} {bv dv mv : Value} {C : Nat → Prop}
theorem KpJ.keep (h : KpJ w g N D n bv dv mv C) (hk : Keeps (OwnK g bv dv mv C) w w') : KpJ w' g N D n bv dv mv C :=
  ⟨(hk.block g (Or.inl rfl) h.blk.lt).trans h.blk, row_keep h.rowB fun c hc => hk.block c (Or.inr (Or.inl hc)) (h.rowB.lt c hc).2, row_keep h.rowD fun c hc => hk.block c (Or.inr (Or.inr (Or.inl hc))) (h.rowD.lt c hc).2,
   h.map.keep fun b hb => hk.block b (Or.inr (Or.inr (Or.inr (Or.inl hb)))) (h.map.lt b hb), h.inn.on (hk.sub fun _ hb _ => Or.inr (Or.inr (Or.inr (Or.inr hb)))), h.cg, h.cb, h.cd, h.cm, fun b hb => Nat.lt_of_lt_of_le (h.cl b hb) hk.b0.size⟩
theorem KpJ.on (h : KpJ w g N D n bv dv mv C) (hb : Below w.heap.size w w') : KpJ w' g N D n bv dv mv C := h.keep (Keeps.of hb)
theorem KpJ.ownL (h : KpJ w g N D n bv dv mv C) : ∀ b, OwnK g bv dv mv C b → b < w.heap.size := by
  rintro b (rfl | hb | hb | hb | hb)
  · exact h.blk.lt
  · exact (h.rowB.lt b hb).2
  · exact (h.rowD.lt b hb).2
  · exact h.map.lt b hb
  · exact h.cl b hb
theorem KpJ.gb (h : KpJ w g N D n bv dv mv C) : bv.ownBlock ≠ some g := fun e => by
  obtain ⟨cur, hh⟩ := row_heap h.rowB e
  have := h.blk
  unfold TBlk at this
  rw [hh] at this
  injection this with this
  injection this with _ h2 _
  exact absurd h2 (by decide)
theorem KpJ.gd (h : KpJ w g N D n bv dv mv C) : dv.ownBlock ≠ some g := fun e => by
  obtain ⟨cur, hh⟩ := row_heap h.rowD e
  have := h.blk
  unfold TBlk at this
  rw [hh] at this
  injection this with this
  injection this with _ h2 _
  exact absurd h2 (by decide)
theorem KpJ.gm (h : KpJ w g N D n bv dv mv C) : mapBlk mv ≠ some g := h.map.nomap h.blk
theorem KpJ.bd (h : KpJ w g N D n bv dv mv C) : ∀ b, bv.ownBlock = some b → dv.ownBlock ≠ some b := fun b hb hd => by
  obtain ⟨cur, hh⟩ := row_heap h.rowB hb
  obtain ⟨cur', hh'⟩ := row_heap h.rowD hd
  rw [hh] at hh'
  injection hh' with this
  injection this with _ h2 _
  exact absurd h2 (by decide)
theorem KpJ.bm (h : KpJ w g N D n bv dv mv C) : ∀ b, bv.ownBlock = some b → mapBlk mv ≠ some b := fun b hb => by
  obtain ⟨cur, hh⟩ := row_heap h.rowB hb
  exact h.map.nomap hh
theorem KpJ.dm (h : KpJ w g N D n bv dv mv C) : ∀ b, dv.ownBlock = some b → mapBlk mv ≠ some b := fun b hb => by
  obtain ⟨cur, hh⟩ := row_heap h.rowD hb
  exact h.map.nomap hh
theorem KpJ.cells (h : KpJ w g N D n bv dv mv C) : w.cell? ⟨g, 0, none⟩ = some bv ∧ w.cell? ⟨g, 1, none⟩ = some dv ∧ w.cell? ⟨g, 2, none⟩ = some mv := RR.cells3 h.blk.blk
theorem KpJ.blocks (h : KpJ w g N D n bv dv mv C) : BvAt w bv N := bv_of_own h.rowB h.inn.now
theorem KpJ.widen (h : KpJ w g N D n bv dv mv C) (C' : Nat → Prop) (hs : ∀ b, C b → C' b) (hn : ∀ b, C' b → C b ∨ (b ≠ g ∧ bv.ownBlock ≠ some b ∧ dv.ownBlock ≠ some b ∧ mapBlk mv ≠ some b ∧ b < w.heap.size)) : KpJ w g N D n bv dv mv C' :=
  ⟨h.blk, h.rowB, h.rowD, h.map, h.inn.more fun b hb _ => hs b hb, fun hb => (hn g hb).elim h.cg fun k => k.1 rfl, fun b e hb => (hn b hb).elim (h.cb b e) fun k => k.2.1 e, fun b e hb => (hn b hb).elim (h.cd b e) fun k => k.2.2.1 e,
   fun b e hb => (hn b hb).elim (h.cm b e) fun k => k.2.2.2.1 e, fun b hb => (hn b hb).elim (h.cl b) fun k => k.2.2.2.2⟩
end
/-- the code's chain is L, by the blocks O -/
def At11 (O : Nat → Prop) (w : World) (g : Nat) (L : List BlockD) : Prop := ∃ N bv dv mv C, KpI w g N bv dv mv C ∧ N.map Prod.fst = L ∧ ∀ b, O b ↔ OwnK g bv dv mv C b
theorem at11_keep {O : Nat → Prop} {w w' : World} {g : Nat} {L : List BlockD} (h : At11 O w g L) (hk : Keeps O w w') : At11 O w' g L := by
  obtain ⟨N, bv, dv, mv, C, h1, h2, h3⟩ := h
  exact ⟨N, bv, dv, mv, C, h1.keep (hk.sub fun b hb _ => (h3 b).2 hb), h2, h3⟩
theorem at11_lt {O : Nat → Prop} {w : World} {g : Nat} {L : List BlockD} (h : At11 O w g L) : ∀ b, O b → b < w.heap.size := by
  obtain ⟨N, bv, dv, mv, C, h1, h2, h3⟩ := h
  exact fun b hb => h1.ownL b ((h3 b).1 hb)
set_option maxRecDepth 100000 in
set_option maxHeartbeats 1000000 in
theorem new11 (w : World) : Calls Tryd.prog 45 #[] w fun e w' => ∃ g O, e = .returned (.pointer (some ⟨g, 0, none⟩)) ∧ At11 O w' g [] ∧ (∀ b, O b → w.heap.size ≤ b) ∧ Below w.heap.size w w' := by
  go_enter Tryd.func45, Tryd.ntmps45
  go_wp2_with fail
  go_ret
  refine ⟨w.heap.size, OwnK w.heap.size (.slice none 0 0) (.slice none 0 0) (.map none) (fun _ => False), rfl, ⟨[], _, _, _, _, ⟨?_, World.ownsRow_nil _ _ _ _, World.ownsRow_nil _ _ _ _, Or.inl rfl, (fun _ _ x hx => by cases hx), id, fun _ _ => id, fun _ _ => id, fun _ _ => id, fun _ h => h.elim⟩, rfl, fun _ => Iff.rfl⟩, ?_, (Below.refl _ _).alloc (Nat.le_refl _) _⟩
  · exact TBlk.new' w 3 w.heap.size _ _ _ rfl (RR.row3_ _ _ _)
  · rintro b (rfl | h | h | h | h)
    · exact Nat.le_refl _
    · cases h
    · cases h
    · cases h
    · exact h.elim
set_option maxRecDepth 100000 in
set_option maxHeartbeats 1000000 in
theorem len11 (O : Nat → Prop) (w : World) (g : Nat) (L : List BlockD) (h : At11 O w g L) : Calls Tryd.prog 47 #[.pointer (some ⟨g, 0, none⟩)] w fun e w' => e = .returned (.int .i64 (L.length : Int)) ∧ Below w.heap.size w w' := by
  obtain ⟨N, bv, dv, mv, C, h1, rfl, h3⟩ := h
  obtain ⟨c0, _, _⟩ := h1.cells
  obtain ⟨a, c, rfl⟩ := own_sl6 h1.rowB
  rw [List.length_map]
  clear h1 h3
  go_enter Tryd.func47, Tryd.ntmps47
  go_wp2_with fail
  go_ret
  exact ⟨rfl, Below.refl _ _⟩
set_option maxRecDepth 100000 in
set_option maxHeartbeats 4000000 in
theorem last11 (O : Nat → Prop) (w : World) (g : Nat) (L : List BlockD) (h : At11 O w g L) (hT : Tabs w) (hl : L.length ≤ 1000) :
    Calls Tryd.prog 103 #[.pointer (some ⟨g, 0, none⟩)] w fun e w' => e = .returned (.string (lastF firstD L)) ∧ Below w.heap.size w w' := by
  obtain ⟨N, bv, dv, mv, C, h1, rfl, h3⟩ := h
  rw [List.length_map] at hl
  have HT := Lib.hid hT
  have HK := Lib.hid h1
  obtain ⟨_, c1, _⟩ := h1.cells
  by_cases h0 : N.length = 0
  · obtain rfl : N = [] := List.eq_nil_of_length_eq_zero h0
    obtain ⟨a, c, rfl⟩ := own_sl6 h1.rowD
    clear h1 h3 hT hl h0 HK
    replace c1 : w.cell? ⟨g, 1, none⟩ = some (.slice a 0 c) := c1
    go_enter Tryd.func103, Tryd.ntmps103
    go_wp2_with fail
    refine (bfirst_any w HT.out).mono ?_
    rintro e w2 ⟨rfl, hb2⟩
    go_wp2_with fail
    go_ret
    exact ⟨rfl, hb2⟩
  · obtain ⟨i, hi⟩ : ∃ i, N.length = i + 1 := ⟨N.length - 1, by omega⟩
    obtain ⟨q, cap, rfl, hq, hc⟩ := dig_at h1.rowD i (by rw [digsN_len]; omega)
    rw [digsN_at N i (by omega)] at hc
    rw [digsN_len] at c1
    rw [lastF_at firstD N i hi]
    obtain ⟨d, hd⟩ : ∃ d, digI (N.getD i vb0).1 = d := ⟨_, rfl⟩
    rw [hd] at hc ⊢
    have i0 : (0 : Int) ≤ (i : Int) := by omega
    have il : (i : Int) < (N.length : Int) := by omega
    have t1 : ((N.length : Int) == 0) = false := by rw [beq_eq_false_iff_ne]; omega
    have hw : IntKind.i64.wrap ((N.length : Int) - 1) = (i : Int) := by rw [hi, IntKind.wrap_i64]; push_cast; omega
    clear h1 h3 hT h0 hd hi hq HK
    go_enter Tryd.func103, Tryd.ntmps103
    go_upto_region 3 with fail
    refine quiet_abs (by kernel_rfl) (by kernel_rfl) fun w2 hs2 => ?_
    have m1 : w2.cell? ⟨g, 1, none⟩ = some (.slice (some ⟨q, 0, none⟩) N.length cap) := (hs2.cell _).trans c1
    have m0 : w2.cell? ⟨q, i, none⟩ = some (.string d) := (hs2.cell _).trans hc
    have SM := Lib.hid hs2
    clear hs2 c1 hc
    repeat still_step
    refine wpStill_nil ?_
    go_wp2_with fail
    go_ret
    exact ⟨rfl, SM.out.below _⟩
end Go.Proofs.YtegkhhegapnkpaaDoor
end
section
open Go Go.RowKit
namespace YY
open WW BB
/-- an append whose run is known -/
theorem wpl_append_runY {P : Program} {w w' : World} {ops : Array Oper} {rest : List Oper} {o : Oper} {a : Act} {Q : Exit → Act → World → Prop} {v' : Value} (hgd : o.guard = none) (s x : Operand) (t : TypeId)
    (ho : o.op = .call { callee := .builtin .append, args := #[s, x], argTypes := #[t, t] }) (hr : (Builtin.append_ #[t, t] o.type #[a.eval s, a.eval x]).run P w = .ok v' w') (h : wpList P ops Q rest (a.put o.dst v') w') : wpList P ops Q (o :: rest) a w := by
  refine wpList_plain hgd fun K hK => ?_
  unfold Oper.wp execOp
  simp only [ho, resolve, invoke, builtin, Sem.run_bind, Sem.run_pure, Result.andThen_ok, List.map_toArray, List.map_cons, List.map_nil, hr]
  exact hK _ _ h
end YY
namespace Go.Proofs.YtegkhhegapnkpaaDoor
open YY FF JJ CC MM WW BB TT
theorem kinfo_blk : (Tryd.prog.info? 29).map (fun i => (i.zero, i.size, i.bytes)) = some (some (.agg #[.int .i64 0, .int .i64 0, .int .i64 0, .string ⟨#[]⟩, .slice none 0 0, .slice none 0 0]), 6, 88) := by kernel_rfl
theorem kund_blks : Tryd.prog.underlying 38 = some (.slice 29) := by kernel_rfl
theorem kinfo_str : (Tryd.prog.info? 9).map (fun i => (i.zero, i.size, i.bytes)) = some (some (.string ⟨#[]⟩), 1, 16) := by kernel_rfl
theorem kund_strs : Tryd.prog.underlying 44 = some (.slice 9) := by kernel_rfl
theorem kund_str : Tryd.prog.underlying 9 = some .string := by kernel_rfl
theorem kund_int : Tryd.prog.underlying 3 = some (.int .i64) := by kernel_rfl
theorem kund_map : Tryd.prog.underlying 155 = some (.map 9 3) := by kernel_rfl
section
variable {w w' w1 : World} {g n : Nat} {N : List Bv} {D : List ByteArray} {bv dv mv : Value} {C : Nat → Prop}
set_option maxRecDepth 100000 in
theorem KpJ.newmap (h : KpJ w g N D n bv dv (.map none) C) : KpJ ((w.alloc (.map #[] 0)).setCell ⟨g, 2, none⟩ (.map (some w.heap.size))) g N D n bv dv (.map (some w.heap.size)) C := by
  have hb := (Below.refl w.heap.size w).alloc (Nat.le_refl _) (.map #[] 0)
  have hu := Upd.set (w.alloc (.map #[] 0)) g 2 (.map (some w.heap.size))
  have hg := h.blk.lt
  have hk : Keeps (fun b => b ≠ g) w ((w.alloc (.map #[] 0)).setCell ⟨g, 2, none⟩ (.map (some w.heap.size))) := (Keeps.of hb).trans (Keeps.upd' hu fun c => c rfl)
  refine ⟨?_, row_keep h.rowB fun c hc => hk.block c (fun e => h.gb (e ▸ hc)) (h.rowB.lt c hc).2, row_keep h.rowD fun c hc => hk.block c (fun e => h.gd (e ▸ hc)) (h.rowD.lt c hc).2, ?_,
    h.inn.on (hk.sub fun b hb _ e => h.cg (e ▸ hb)), h.cg, h.cb, h.cd, fun b e hc => ?_, fun b hb => Nat.lt_of_lt_of_le (h.cl b hb) hk.b0.size⟩
  · refine (((h.blk.below hb hg).set 2 (.map (some w.heap.size))).congr _ fun i hi => ?_)
    match i, hi with
    | 0, _ => rfl
    | 1, _ => rfl
    | 2, _ => rfl
  · obtain ⟨es, clock, h1, h2⟩ := (World.ownsMap_made w Tryd.prog 9 (plainElem (H := Unit) Tryd.prog 3)).mono (Nat.zero_le n)
    exact Or.inr ⟨_, _, rfl, es, clock, (hu.block w.heap.size (by omega)).trans h1, h2⟩
  · injection e with e
    have := h.cl b hc
    omega
set_option maxRecDepth 100000 in
theorem KpJ.pushB {bv' : Value} (h : KpJ w g N D n bv dv mv C) (x : Bv) (hI : Dep C w (fun w' => InnB w' x)) (hg : w.grownBy w1 bv.ownBlock) (hr : w1.ownsRow 0 29 6 bv' (N.length + 1) (cellsB N ++ encB x)) (hloc : ∀ b, bv'.ownBlock = some b → bv.ownBlock = some b ∨ w.heap.size ≤ b) :
    KpJ (w1.setCell ⟨g, 0, none⟩ bv') g (N ++ [x]) D n bv' dv mv C ∧ Keeps (fun b => bv.ownBlock ≠ some b ∧ b ≠ g) w (w1.setCell ⟨g, 0, none⟩ bv') := by
  have hu := Upd.set w1 g 0 bv'
  have hgo : ∀ b, bv'.ownBlock = some b → b ≠ g := fun b hb e => by
    rcases hloc b hb with h1 | h1
    · exact h.gb (e ▸ h1)
    · have := h.blk.lt; omega
  have hk : Keeps (fun b => bv.ownBlock ≠ some b ∧ b ≠ g) w (w1.setCell ⟨g, 0, none⟩ bv') := (Keeps.grown hg fun b e c => c.1 e).trans (Keeps.upd' hu fun c => c.2 rfl)
  have hC : Keeps C w (w1.setCell ⟨g, 0, none⟩ bv') := hk.sub fun b hb _ => ⟨fun e => h.cb b e hb, fun e => h.cg (e ▸ hb)⟩
  refine ⟨⟨?_, ?_, row_keep h.rowD fun c hc => hk.block c ⟨fun e => h.bd c e hc, fun e => h.gd (e ▸ hc)⟩ (h.rowD.lt c hc).2, h.map.keep fun b hb => hk.block b ⟨fun e => h.bm b e hb, fun e => h.gm (e ▸ hb)⟩ (h.map.lt b hb), ?_, h.cg, fun b hb hc => ?_, h.cd, h.cm, fun b hb => Nat.lt_of_lt_of_le (h.cl b hb) hk.b0.size⟩, hk⟩
  · have k1 : TBlk 157 w1 g 3 _ := (hg.block g h.blk.lt (fun e => h.gb e.symm)).trans h.blk
    refine (k1.set 0 _).congr _ fun j hj => ?_
    match j, hj with
    | 0, _ => rfl
    | 1, _ => rfl
    | 2, _ => rfl
  · rw [List.length_append, List.length_singleton, cellsB_snoc]
    exact row_keep hr fun c hc => hu.block c (hgo c hc)
  · intro w2 hw2 y hy
    rcases List.mem_append.1 hy with hy | hy
    · exact h.inn.on hC w2 hw2 y hy
    · rw [List.mem_singleton.1 hy]
      exact hI.on hC w2 hw2
  · rcases hloc b hb with h1 | h1
    · exact h.cb b h1 hc
    · have := h.cl b hc; omega
set_option maxRecDepth 100000 in
theorem KpJ.pushD {dv' : Value} (h : KpJ w g N D n bv dv mv C) (d : ByteArray) (hg : w.grownBy w1 dv.ownBlock) (hr : w1.ownsRow 0 9 1 dv' (D.length + 1) (D.map Value.string ++ [.string d])) (hloc : ∀ b, dv'.ownBlock = some b → dv.ownBlock = some b ∨ w.heap.size ≤ b) :
    KpJ (w1.setCell ⟨g, 1, none⟩ dv') g N (D ++ [d]) n bv dv' mv C ∧ Keeps (fun b => dv.ownBlock ≠ some b ∧ b ≠ g) w (w1.setCell ⟨g, 1, none⟩ dv') := by
  have hu := Upd.set w1 g 1 dv'
  have hgo : ∀ b, dv'.ownBlock = some b → b ≠ g := fun b hb e => by
    rcases hloc b hb with h1 | h1
    · exact h.gd (e ▸ h1)
    · have := h.blk.lt; omega
  have hk : Keeps (fun b => dv.ownBlock ≠ some b ∧ b ≠ g) w (w1.setCell ⟨g, 1, none⟩ dv') := (Keeps.grown hg fun b e c => c.1 e).trans (Keeps.upd' hu fun c => c.2 rfl)
  have hC : Keeps C w (w1.setCell ⟨g, 1, none⟩ dv') := hk.sub fun b hb _ => ⟨fun e => h.cd b e hb, fun e => h.cg (e ▸ hb)⟩
  refine ⟨⟨?_, row_keep h.rowB fun c hc => hk.block c ⟨fun e => h.bd c hc e, fun e => h.gb (e ▸ hc)⟩ (h.rowB.lt c hc).2, ?_, h.map.keep fun b hb => hk.block b ⟨fun e => h.dm b e hb, fun e => h.gm (e ▸ hb)⟩ (h.map.lt b hb), h.inn.on hC, h.cg, h.cb, fun b hb hc => ?_, h.cm, fun b hb => Nat.lt_of_lt_of_le (h.cl b hb) hk.b0.size⟩, hk⟩
  · have k1 : TBlk 157 w1 g 3 _ := (hg.block g h.blk.lt (fun e => h.gd e.symm)).trans h.blk
    refine (k1.set 1 _).congr _ fun j hj => ?_
    match j, hj with
    | 0, _ => rfl
    | 1, _ => rfl
    | 2, _ => rfl
  · rw [List.length_append, List.length_singleton, List.map_append]
    exact row_keep hr fun c hc => hu.block c (hgo c hc)
  · rcases hloc b hb with h1 | h1
    · exact h.cd b h1 hc
    · have := h.cl b hc; omega
set_option maxRecDepth 100000 in
theorem KpJ.pushM {bm : Nat} {E : DataW Unit} (h : KpJ w g N D n bv dv (.map (some bm)) C) (hm : w1.ownsMap Tryd.prog 9 (plainElem (H := Unit) Tryd.prog 3) bm (n + 1) E) (hg : w.grownBy w1 (some bm)) : KpJ w1 g N D (n + 1) bv dv (.map (some bm)) C := by
  have hk : Keeps (fun b => b ≠ bm) w w1 := Keeps.grown hg fun b e c => by injection e with e; exact c e.symm
  exact ⟨(hk.block g (fun e => h.gm (by rw [e]; rfl)) h.blk.lt).trans h.blk, row_keep h.rowB fun c hc => hk.block c (fun e => h.bm c hc (by rw [e]; rfl)) (h.rowB.lt c hc).2, row_keep h.rowD fun c hc => hk.block c (fun e => h.dm c hc (by rw [e]; rfl)) (h.rowD.lt c hc).2,
    Or.inr ⟨bm, E, rfl, hm⟩, h.inn.on (hk.sub fun b hb _ e => h.cm bm rfl (e ▸ hb)), h.cg, h.cb, h.cd, h.cm, fun b hb => Nat.lt_of_lt_of_le (h.cl b hb) hk.b0.size⟩
end
set_option maxRecDepth 100000 in
set_option maxHeartbeats 16000000 in
theorem add11 {w : World} {g n : Nat} {N : List Bv} {D : List ByteArray} {bv dv mv : Value} {C : Nat → Prop} (h : KpJ w g N D n bv dv mv C) (d : ByteArray) (hd : d.size ≤ 1000000) (b : BlockD) (a1 : Option Addr) (n1 k1 : Nat) (a2 : Option Addr) (n2 k2 : Nat)
    (hI : Dep C w (fun w' => InnB w' (b, .slice a1 n1 k1, .slice a2 n2 k2))) (hn : n ≤ 1000) (hN : N.length ≤ 1000) (hD : D.length ≤ 1000) :
    Calls Tryd.prog 105 #[.pointer (some ⟨g, 0, none⟩), .string d, .agg #[.int .i64 (viewI b), .int .i64 (propI b), .int .i64 (jvI b), .string (parI b), .slice a1 n1 k1, .slice a2 n2 k2]] w fun e w' => e = .returned (.tuple #[]) ∧
      ∃ bv' dv' mv', KpJ w' g (N ++ [(b, .slice a1 n1 k1, .slice a2 n2 k2)]) (D ++ [d]) (n + 1) bv' dv' mv' C ∧ Keeps (fun c => c ≠ g ∧ bv.ownBlock ≠ some c ∧ dv.ownBlock ≠ some c ∧ mapBlk mv ≠ some c) w w' ∧
        (∀ c, bv'.ownBlock = some c → bv.ownBlock = some c ∨ w.heap.size ≤ c) ∧ (∀ c, dv'.ownBlock = some c → dv.ownBlock = some c ∨ w.heap.size ≤ c) ∧ (∀ c, mapBlk mv' = some c → mapBlk mv = some c ∨ w.heap.size ≤ c) := by
  have HC := Lib.hid h
  have HDS := Lib.hid hd
  have HI := Lib.hid hI
  have HN := Lib.hid hn
  have HNL := Lib.hid hN
  have HDL := Lib.hid hD
  have HENC := Lib.hid (show encB (b, .slice a1 n1 k1, .slice a2 n2 k2) = [.int .i64 (viewI b), .int .i64 (propI b), .int .i64 (jvI b), .string (parI b), .slice a1 n1 k1, .slice a2 n2 k2] from rfl)
  obtain ⟨mp, rfl⟩ := h.map.shape
  obtain ⟨ba, bc, rfl⟩ := own_sl6 h.rowB
  obtain ⟨da, dc, rfl⟩ := own_sl6 h.rowD
  obtain ⟨v, hv⟩ : ∃ v, viewI b = v := ⟨_, rfl⟩
  obtain ⟨p, hpp⟩ : ∃ p, propI b = p := ⟨_, rfl⟩
  obtain ⟨j, hj⟩ : ∃ j, jvI b = j := ⟨_, rfl⟩
  obtain ⟨k, hk⟩ : ∃ k, parI b = k := ⟨_, rfl⟩
  rw [hv, hpp, hj, hk] at HENC
  rw [hv, hpp, hj, hk]
  have b1 := Lib.hid ((Below.refl w.heap.size w).alloc (Nat.le_refl _) (.cells #[.int .i64 v, .int .i64 p, .int .i64 j, .string k, .slice a1 n1 k1, .slice a2 n2 k2] 29))
  have L0 := Lib.hid (show Blk (w.alloc (.cells #[.int .i64 v, .int .i64 p, .int .i64 j, .string k, .slice a1 n1 k1, .slice a2 n2 k2] 29)) w.heap.size 6 (rowL [.int .i64 v, .int .i64 p, .int .i64 j, .string k, .slice a1 n1 k1, .slice a2 n2 k2]) from Blk.new' rfl rfl)
  clear h hd hI hn hN hD hv hpp hj hk
  go_enter Tryd.func105, Tryd.ntmps105
  go_upto_region 1 with fail
  obtain ⟨y0, hy0⟩ : ∃ y0, w.heap.size = y0 := ⟨_, rfl⟩
  have HY0 := Lib.hid hy0
  obtain ⟨w1, hw1⟩ : ∃ w1, w.alloc (.cells #[.int .i64 v, .int .i64 p, .int .i64 j, .string k, .slice a1 n1 k1, .slice a2 n2 k2] 29) = w1 := ⟨_, rfl⟩
  rw [hw1] at b1 L0 ⊢
  rw [hy0] at L0 ⊢
  have HZ1 := Lib.hid (show w1.heap.size = y0 + 1 by rw [← hw1, ← hy0]; simp)
  clear hw1 hy0
  have HC1 := Lib.hid (HC.out.on b1.out)
  obtain ⟨_, _, c2⟩ := HC1.out.cells
  have f2 := HC1.out.blk.blk.frz 2
  have q22 : ∀ w, (binOp .eql 155 (.map mp) (.map none)).run Tryd.prog w = .ok (.bool mp.isNone) w := fun w => run_eql_map_nil w _ 9 3 mp (by kernel_rfl)
  go_upto_if 10 with fail
  clear q22
  go_cut [9] from 9 to 14 (fun s9 wx => ∃ bm, KpJ wx g N D n (.slice ba N.length bc) (.slice da D.length dc) (.map (some bm)) C ∧ Keeps (fun b => b ≠ g) w1 wx ∧ (mapBlk (.map mp) = some bm ∨ w1.heap.size ≤ bm) ∧ w1.heap.size ≤ wx.heap.size)
  case first =>
    rcases mp with _ | bm
    · have hmm := @run_makeMap Tryd.prog
      have HCA := Lib.hid (HC1.out.on ((Below.refl w1.heap.size w1).alloc (Nat.le_refl _) (.map #[] 0)))
      obtain ⟨_, _, c2'⟩ := HCA.out.cells
      have f2' := HCA.out.blk.blk.frz 2
      go_wp2_with fail
      go_meet
      exact ⟨_, HC1.out.newmap, (Keeps.of ((Below.refl _ _).alloc (Nat.le_refl _) _)).trans (Keeps.upd' (Upd.set _ g 2 _) fun c => c rfl), Or.inr (Nat.le_refl _), by simp⟩
    · go_wp2_with fail
      go_meet
      exact ⟨bm, HC1.out, Keeps.refl _ _, Or.inl rfl, Nat.le_refl _⟩
  case rest =>
    obtain ⟨bm, hc2, hk2, hb2, hz2⟩ := hcut
    have H1 := Lib.hid hc2
    have HK2 := Lib.hid hk2
    have HB2 := Lib.hid hb2
    have HZ2 := Lib.hid hz2
    have HYG := Lib.hid (show y0 ≠ g from by have := HC.out.blk.lt; rw [HY0.out] at this; omega)
    have Q1 := Lib.hid (show Blk wc y0 6 (rowL [.int .i64 v, .int .i64 p, .int .i64 j, .string k, .slice a1 n1 k1, .slice a2 n2 k2]) from L0.out.of_heap (hk2.block y0 HYG.out L0.out.lt))
    have D1 := Lib.hid (HI.out.on ((Keeps.of (A := C) b1.out).trans (hk2.sub fun b hb _ e => HC.out.cg (e ▸ hb))))
    clear hc2 hk2 hb2 hz2 c2 f2 L0
    have HSD := Lib.hid (fun (wx : World) (hk : wx.heap[g]? = wc.heap[g]? ∧ wx.heap[y0]? = wc.heap[y0]?) => And.intro (RR.cells3 (H1.out.blk.blk.of_heap hk.1)) (RR.cells6 (Q1.out.of_heap hk.2)))
    go_wp2_with fail
    refine planE_abs (fun wx => wx.heap[g]? = wc.heap[g]? ∧ wx.heap[y0]? = wc.heap[y0]?) 10 [(true, 0), (true, 1), (true, 2), (true, 3), (true, 4), (true, 5), (false, 6), (false, 7), (false, 8), (false, 9), (false, 10)] (by kernel_rfl) (by kernel_rfl) (fun _ _ d _ _ h => by cases d <;> exact h) fun w5 hs5 => ⟨by rw [hs5.heap]; exact ⟨rfl, rfl⟩, ?_⟩
    have Y5 := Lib.hid (show Below wc.heap.size wc w5 from hs5.below _)
    clear hs5
    have H5 := Lib.hid (H1.out.on Y5.out)
    have D5 := Lib.hid (D1.out.on (Keeps.of Y5.out))
    iterate 6 (refine pe_run _ ?_ rfl rfl ?_ ?_; rotate_left; (focus (intro w' hS; obtain ⟨⟨c0, c1, c2⟩, d0, d1, d2, d3, d4, d5⟩ := HSD.out w' hS; go_simp; exact rfl)); simp only [Act.put, List.setIfInBounds_toArray, List.set_cons_zero, List.set_cons_succ, List.getElem_toArray, List.getElem_cons_zero, List.getElem_cons_succ])
    have BA := Lib.hid ((Below.refl w5.heap.size w5).alloc (Nat.le_refl _) (.cells #[.int .i64 v, .int .i64 p, .int .i64 j, .string k, .slice a1 n1 k1, .slice a2 n2 k2] 29))
    obtain ⟨wa, hwa⟩ : ∃ wa, w5.alloc (.cells #[.int .i64 v, .int .i64 p, .int .i64 j, .string k, .slice a1 n1 k1, .slice a2 n2 k2] 29) = wa := ⟨_, rfl⟩
    have HNW := Lib.hid (show ∀ i u, (encB (b, .slice a1 n1 k1, .slice a2 n2 k2))[i]? = some u → wa.cell? ((⟨w5.heap.size, 0, none⟩ : Addr).add i) = some u from fun i u hu => by
      have e : (⟨w5.heap.size, 0, none⟩ : Addr).add i = ⟨w5.heap.size, i, none⟩ := by unfold Addr.add; split <;> simp [*]
      rw [e, ← hwa]
      refine cell_new w5 _ _ i u ?_
      rw [← hu, HENC.out]
      simp)
    have HK6 := Lib.hid (fun (wx : World) (hb : Below w5.heap.size w5 wx) => show wx.heap[g]? = wc.heap[g]? ∧ wx.heap[y0]? = wc.heap[y0]? from ⟨(Y5.out.trans (hb.mono Y5.out.size)).block g H1.out.blk.lt, (Y5.out.trans (hb.mono Y5.out.size)).block y0 Q1.out.lt⟩)
    refine pe_value (w' := wa) _ (.slice (some ⟨w5.heap.size, 0, none⟩) 1 1) rfl rfl (by rw [← hwa]; go_simp) (HK6.out wa (by rw [← hwa]; exact BA.out)) ?_
    simp only [Act.put, List.setIfInBounds_toArray, List.set_cons_zero, List.set_cons_succ, List.getElem_toArray, List.getElem_cons_zero, List.getElem_cons_succ]
    rw [hwa] at BA
    clear hwa
    have HA := Lib.hid (H5.out.on BA.out)
    have DA := Lib.hid (D5.out.on (Keeps.of BA.out))
    obtain ⟨ti, i1, i2, i3, i4⟩ := info_parts kinfo_blk
    obtain ⟨v', w10, hrun, hown, hgr, _, hloc⟩ := run_append_own_at (P := Tryd.prog) (w := wa) 0 38 38 29 ti _ 6 88 kund_blks i1 i2 i3 i4 rfl (by decide) _ N.length (cellsB N) HA.out.rowB ⟨w5.heap.size, 0, none⟩ 1 1 (encB (b, .slice a1 n1 k1, .slice a2 n2 k2)) rfl HNW.out (encB_one DA.out.now) (by have := HNL.out; unfold maxLen; omega) (by have := HNL.out; omega) (Nat.zero_le _)
    obtain ⟨va, vc, rfl⟩ := own_sl6 hown
    have HLO := Lib.hid (show ∀ c, (Value.slice va (N.length + 1) vc).ownBlock = some c → (Value.slice ba N.length bc).ownBlock = some c ∨ wa.heap.size ≤ c from fun c hc => by
      rcases hloc with h | h
      · exact Or.inl (h ▸ hc)
      · rw [h] at hc; injection hc with hc; exact Or.inr (by omega))
    have HGR := Lib.hid hgr
    have HOW := Lib.hid hown
    have hqx : y0 < wa.heap.size := Nat.lt_of_lt_of_le Q1.out.lt (Nat.le_trans Y5.out.size BA.out.size)
    have S10 := Lib.hid (show w10.heap[g]? = wc.heap[g]? ∧ w10.heap[y0]? = wc.heap[y0]? from ⟨(hgr.block g HA.out.blk.lt (fun e => HA.out.gb e.symm)).trans (HK6.out wa BA.out).1, (hgr.block y0 hqx (fun e => by
      have h1 := (HC.out.rowB.lt y0 e.symm).2
      have h3 := HY0.out
      omega)).trans (HK6.out wa BA.out).2⟩)
    clear hgr hown hloc i1 i2 i3 i4 hqx
    refine pe_value (w' := w10) _ (.slice va (N.length + 1) vc) rfl rfl (by simp [execOp, resolve, invoke, builtin, Act.eval, hrun, Result.andThen]) S10.out ?_
    clear hrun
    simp only [Act.put, List.setIfInBounds_toArray, List.set_cons_zero, List.set_cons_succ, List.getElem_toArray, List.getElem_cons_zero, List.getElem_cons_succ]
    refine pe_value (w' := w10) _ (.pointer (some ⟨g, 0, none⟩)) rfl rfl (by go_simp) S10.out ?_
    simp only [Act.put, List.setIfInBounds_toArray, List.set_cons_zero, List.set_cons_succ, List.getElem_toArray, List.getElem_cons_zero, List.getElem_cons_succ]
    refine pe_value (w' := w10) _ (.pointer (some ⟨g, 0, none⟩)) rfl rfl (by go_simp) S10.out ?_
    simp only [Act.put, List.setIfInBounds_toArray, List.set_cons_zero, List.set_cons_succ, List.getElem_toArray, List.getElem_cons_zero, List.getElem_cons_succ]
    refine pe_last _ rfl ?_
    simp only [List.getElem_toArray, List.getElem_cons_zero, List.getElem_cons_succ]
    obtain ⟨⟨e0, e1, e2⟩, _⟩ := HSD.out w10 S10.out
    have f0 := (World.frozen?_of_block (w := wc) (a := ⟨g, 0, none⟩) S10.out.1).trans (H1.out.blk.blk.frz 0)
    go_upto_region 4 with fail
    clear e0 e1 e2 f0
    have HP := Lib.hid (HA.out.pushB _ DA.out HGR.out HOW.out HLO.out)
    have ZA := Lib.hid (show wc.heap.size ≤ wa.heap.size from Nat.le_trans Y5.out.size BA.out.size)
    obtain ⟨w3, hw3⟩ : ∃ w3, w10.setCell ⟨g, 0, none⟩ (.slice va (N.length + 1) vc) = w3 := ⟨_, rfl⟩
    rw [hw3] at HP ⊢
    have Z3 := Lib.hid (show wa.heap.size ≤ w3.heap.size from HP.out.2.b0.size)
    clear hw3 HGR HOW S10
    have H3 := Lib.hid HP.out.1
    have BB4 := Lib.hid ((Below.refl w3.heap.size w3).alloc (Nat.le_refl _) (.cells #[.string d] 9))
    obtain ⟨_, g1, _⟩ := H3.out.cells
    obtain ⟨tj, j1, j2, j3, j4⟩ := info_parts kinfo_str
    obtain ⟨u', w11, hrun, hown, hgr, _, hloc⟩ := run_append_own_at (P := Tryd.prog) (w := w3.alloc (.cells #[.string d] 9)) 0 44 44 9 tj _ 1 16 kund_strs j1 j2 j3 j4 rfl (by decide) _ D.length (D.map Value.string) (H3.out.on BB4.out).rowD ⟨w3.heap.size, 0, none⟩ 1 1 [.string d] rfl (cells1_new _ _ _) (cells1_one d) (by have := HDL.out; unfold maxLen; omega) (by have := HDL.out; omega) (Nat.zero_le _)
    obtain ⟨ua, uc, rfl⟩ := own_sl6 hown
    have HLD := Lib.hid (show ∀ c, (Value.slice ua (D.length + 1) uc).ownBlock = some c → (Value.slice da D.length dc).ownBlock = some c ∨ (w3.alloc (.cells #[.string d] 9)).heap.size ≤ c from fun c hc => by
      rcases hloc with h | h
      · exact Or.inl (h ▸ hc)
      · rw [h] at hc; injection hc with hc; exact Or.inr (by omega))
    have HGR := Lib.hid hgr
    have HOW := Lib.hid hown
    have HB11 := Lib.hid (hgr.block g (H3.out.on BB4.out).blk.lt (fun e => (H3.out.on BB4.out).gd e.symm))
    obtain ⟨_, e1, _⟩ := RR.cells3 ((H3.out.on BB4.out).blk.blk.of_heap HB11.out)
    have f1 := ((H3.out.on BB4.out).blk.blk.of_heap HB11.out).frz 1
    clear hgr hown hloc j1 j2 j3 j4
    go_wp2_with (at_builtin; refine wpl_append_runY rfl _ _ _ rfl hrun ?_)
    have H4 := Lib.hid (H3.out.on BB4.out)
    have HP2 := Lib.hid (H4.out.pushD d HGR.out HOW.out HLD.out)
    obtain ⟨w12, hw12⟩ : ∃ w12, w11.setCell ⟨g, 1, none⟩ (.slice ua (D.length + 1) uc) = w12 := ⟨_, rfl⟩
    rw [hw12] at HP2 ⊢
    have H12 := Lib.hid HP2.out.1
    have K12 := Lib.hid (show Keeps (fun c => c ≠ g ∧ (Value.slice ba N.length bc).ownBlock ≠ some c ∧ (Value.slice da D.length dc).ownBlock ≠ some c ∧ mapBlk (.map mp) ≠ some c) w w12 from
      ((Keeps.of b1.out).trans (HK2.out.sub fun b hb _ => hb.1)).trans ((Keeps.of Y5.out).trans ((Keeps.of BA.out).trans ((HP.out.2.sub fun b hb _ => ⟨hb.2.1, hb.1⟩).trans ((Keeps.of BB4.out).trans (HP2.out.2.sub fun b hb _ => ⟨hb.2.2.1, hb.1⟩))))))
    have Z4 := Lib.hid (show w.heap.size ≤ wa.heap.size ∧ w.heap.size ≤ (w3.alloc (.cells #[.string d] 9)).heap.size from ⟨Nat.le_trans b1.out.size (Nat.le_trans HZ2.out ZA.out), Nat.le_trans b1.out.size (Nat.le_trans HZ2.out (Nat.le_trans ZA.out (Nat.le_trans Z3.out BB4.out.size)))⟩)
    clear hw12 e1 f1 hrun g1 HGR HOW
    have HSE := Lib.hid (fun (wx : World) (hk : wx.heap[g]? = w12.heap[g]?) => RR.cells3 (H12.out.blk.blk.of_heap hk))
    refine planE_abs (fun wx => wx.heap[g]? = w12.heap[g]?) 10 [(true, 0), (true, 1), (true, 2), (true, 3), (true, 4), (true, 5), (true, 6), (true, 7), (true, 8), (true, 9), (false, 10)] (by kernel_rfl) (by kernel_rfl) (fun _ _ d _ _ h => by cases d <;> exact h) fun w13 hs13 => ⟨by rw [hs13.heap], ?_⟩
    have Y13 := Lib.hid (show Below w12.heap.size w12 w13 from hs13.below _)
    clear hs13
    iterate 10 (refine pe_run _ ?_ rfl rfl ?_ ?_; rotate_left; (focus (intro w' hS; obtain ⟨c0, c1, c2⟩ := HSE.out w' hS; go_simp; exact rfl)); simp only [Act.put, List.setIfInBounds_toArray, List.set_cons_zero, List.set_cons_succ, List.getElem_toArray, List.getElem_cons_zero, List.getElem_cons_succ])
    refine pe_last _ rfl ?_
    simp only [List.getElem_toArray, List.getElem_cons_zero, List.getElem_cons_succ]
    have H13 := Lib.hid (H12.out.on Y13.out)
    obtain ⟨E, hown⟩ : ∃ E : DataW Unit, w13.ownsMap Tryd.prog 9 (plainElem Tryd.prog 3) bm n E := by
      rcases H13.out.map with h | ⟨b', E, h, hown⟩
      · cases h
      · cases h; exact ⟨E, hown⟩
    have hwf : (Lit.int .i64 ((N.length + 1 : Nat) : Int)).wf = true := wf64 (by have := HNL.out; omega)
    refine wpList_mapUpdate_own _ rfl _ _ _ 155 rfl 9 3 (Go.Maps.string_keyed kund_str) kund_map (plainElem Tryd.prog 3) bm n E rfl hown (by have := HN.out; unfold maxLen; omega) _ _ _ rfl rfl (key_str kund_str (h := d) (by have := HDS.out; unfold maxLen; omega)) _ [] (plainElem_int kund_int hwf) ?_
    intro w14 hm14 hg14
    have M14 := Lib.hid hm14
    have G14 := Lib.hid hg14
    clear hm14 hg14 hown hwf
    go_wp2_with fail
    go_end0
    refine ⟨rfl, _, _, _, H13.out.pushM M14.out G14.out, ?_, fun c hc => (HLO.out c hc).imp id fun h => Nat.le_trans Z4.out.1 h, fun c hc => (HLD.out c hc).imp id fun h => Nat.le_trans Z4.out.2 h, fun c hc => ?_⟩
    · have k := K12.out.trans (Keeps.of Y13.out)
      refine ⟨k.b0.trans ⟨G14.out.os, G14.out.tape, G14.out.output, G14.out.size, fun c hc => absurd hc (Nat.not_lt_zero c)⟩, fun c hc hl => ?_⟩
      refine (G14.out.block c (Nat.lt_of_lt_of_le hl k.b0.size) fun e => ?_).trans (k.block c hc hl)
      injection e with e
      rcases HB2.out with h | h
      · exact hc.2.2.2 (e ▸ h)
      · have := b1.out.size; omega
    · have e : bm = c := by simpa [mapBlk] using hc
      subst e
      exact HB2.out.imp id fun h => Nat.le_trans b1.out.size h
end Go.Proofs.YtegkhhegapnkpaaDoor
end
section
open Go Go.RowKit
namespace YY
open FF JJ CC WW BB
theorem lastF_take {d : ByteArray} {L : List BlockD} {i : Nat} (h : i < L.length) : lastF d (L.take (i + 1)) = digI (L.getD i bd0) := by
  rw [List.take_add_one, List.getElem?_eq_getElem h, List.getD_eq_getElem?_getD, List.getElem?_eq_getElem h]
  exact lastF_snoc d _ _
theorem stands_at : ∀ {L : List BlockD} {d : ByteArray} {i : Nat}, standsL d L → i < L.length → parI (L.getD i bd0) = lastF d (L.take i)
  | [], _, _, _, h => by simp at h
  | b :: L, d, 0, hs, _ => by show parI b = d; exact hs.1
  | b :: L, d, i + 1, hs, h => by
    have := stands_at (L := L) (d := digI b) (i := i) hs.2 (by simpa using h)
    rw [List.take_succ_cons]
    show parI (L.getD i bd0) = lastF (digI b) (L.take i)
    exact this
theorem digsN_take {M : List Bv} {i : Nat} (h : i < M.length) : (digsN M).take (i + 1) = (digsN M).take i ++ [digI (M.getD i vb0).1] := by
  rw [List.take_add_one, List.getElem?_eq_getElem (by rw [digsN_len]; exact h)]
  unfold digsN
  rw [List.getD_eq_getElem?_getD, List.getElem?_eq_getElem h]
  simp
theorem bv_mapD {M : List Bv} {i : Nat} (h : i < M.length) : (M.map Prod.fst).getD i bd0 = (M.getD i vb0).1 := by
  rw [List.getD_eq_getElem?_getD, List.getElem?_map, List.getElem?_eq_getElem h, List.getD_eq_getElem?_getD, List.getElem?_eq_getElem h]; rfl
end YY
namespace Go.Proofs.YtegkhhegapnkpaaDoor
open YY FF JJ CC MM WW BB TT
set_option maxRecDepth 100000 in
set_option maxHeartbeats 16000000 in
theorem chained11 (on : ByteArray) (M : List Bv) (v : Value) (w : World) (hv : BvAt w v M) (hT : Tabs w) (hs : ∀ y ∈ M, SmallI y.1) (hl : M.length ≤ 50) (hst : standsL on (M.map Prod.fst)) :
    Calls Tryd.prog 104 #[.string on, v] w fun e w' => ∃ u, e = .returned (.tuple #[u, .int .i64 0]) ∧ w'.ownsRow w.heap.size 9 1 u (digsN M).length ((digsN M).map Value.string) ∧ Below w.heap.size w w' := by
  have HV := Lib.hid hv
  have HT := Lib.hid hT
  have HS := Lib.hid hs
  have HL := Lib.hid hl
  have HST := Lib.hid hst
  obtain ⟨a0, cap, rfl⟩ := bv_shape hv
  clear hv hT hs hl hst
  go_enter Tryd.func104, Tryd.ntmps104
  go_wp2_with fail
  go_loopw [0, 6, 11] (fun o x y wr => ∃ i : Nat, i ≤ M.length ∧ o = .string (lastF on ((M.map Prod.fst).take i)) ∧ y = .int .i64 (i : Int) ∧ wr.ownsRow w.heap.size 9 1 x i (((digsN M).take i).map Value.string) ∧ Below w.heap.size w wr) (fun _ _ y _ => M.length - (RowKit.intOf y).toNat)
  case atStart => exact ⟨0, Nat.zero_le _, rfl, rfl, World.ownsRow_nil _ _ _ _, Below.refl _ _⟩
  case round =>
    obtain ⟨i, hi, rfl, rfl, hrow, hbr⟩ := hrel
    have HROW := Lib.hid hrow
    have HBR := Lib.hid hbr
    have HI := Lib.hid hi
    have i0 : (0 : Int) ≤ (i : Int) := by omega
    have ib : (i : Int) ≤ 50 := by have := HL.out; omega
    obtain ⟨xa, xc, rfl⟩ := own_sl6 hrow
    clear hi
    by_cases hlt : i < M.length
    · have hlt' : (i : Int) < (M.length : Int) := by omega
      have HLT := Lib.hid hlt
      have hpar := stands_at (i := i) HST.out (by rw [List.length_map]; exact hlt)
      have hnext := lastF_take (d := on) (L := M.map Prod.fst) (i := i) (by rw [List.length_map]; exact hlt)
      rw [bv_mapD hlt] at hpar hnext
      have hdt := digsN_take hlt
      have hsm := HS.out (M.getD i vb0) (by rw [List.getD_eq_getElem?_getD, List.getElem?_eq_getElem hlt]; exact List.getElem_mem hlt)
      obtain ⟨qb, qoff, rfl, hqb, _, hq⟩ := bv_at HV.out i hlt
      obtain ⟨q0, q1, q2, q3, q4, q5, hin⟩ := hq wr hbr i hlt
      obtain ⟨Y, hY⟩ : ∃ Y, M.getD i vb0 = Y := ⟨_, rfl⟩
      rw [hY] at q0 q1 q2 q3 q4 q5 hin hpar hnext hdt hsm
      obtain ⟨b, s5, s6⟩ := Y
      obtain ⟨e5, c5, h5⟩ := sl_of_sigs hin.1
      obtain ⟨e6, c6, h6⟩ := sl_of_reqs hin.2
      obtain ⟨n5, hn5⟩ : ∃ n5, (sigsI b).length = n5 := ⟨_, rfl⟩
      obtain ⟨n6, hn6⟩ : ∃ n6, b.2.length = n6 := ⟨_, rfl⟩
      replace h5 : s5 = .slice e5 n5 c5 := by rw [← hn5]; exact h5
      replace h6 : s6 = .slice e6 n6 c6 := by rw [← hn6]; exact h6
      subst h5 h6
      have HSV := Lib.hid (show SigsAt wr (.slice e5 n5 c5) (sigsI b) from hin.1)
      have HRV := Lib.hid (show ReqsAt wr (.slice e6 n6 c6) b.2 from hin.2)
      have HSM := Lib.hid (show SmallI b from hsm)
      replace hpar : parI b = lastF on ((M.map Prod.fst).take i) := hpar
      obtain ⟨o, ho⟩ : ∃ o, lastF on ((M.map Prod.fst).take i) = o := ⟨_, rfl⟩
      rw [ho] at hpar ⊢
      obtain ⟨d, hd⟩ : ∃ d, digI b = d := ⟨_, rfl⟩
      replace hnext : lastF on ((M.map Prod.fst).take (i + 1)) = digI b := hnext
      replace hdt : (digsN M).take (i + 1) = (digsN M).take i ++ [digI b] := hdt
      rw [hd] at hnext hdt
      have HNEXT := Lib.hid hnext
      have HDT := Lib.hid hdt
      have HKS := Lib.hid (show o.size ≤ 1000 by rw [← hpar]; exact hsm.1)
      obtain ⟨pv, hpv⟩ : ∃ pv, viewI b = pv := ⟨_, rfl⟩
      obtain ⟨pp, hpp⟩ : ∃ pp, propI b = pp := ⟨_, rfl⟩
      obtain ⟨pj, hpj⟩ : ∃ pj, jvI b = pj := ⟨_, rfl⟩
      have HDE := Lib.hid (show digD pv pp pj o b.2 = d by rw [← hd, ← hpv, ← hpp, ← hpj, ← hpar]; rfl)
      replace q0 : wr.cell? ⟨qb, qoff + i * 6, none⟩ = some (.int .i64 pv) := by rw [← hpv]; exact q0
      replace q1 : wr.cell? ⟨qb, qoff + i * 6 + 1, none⟩ = some (.int .i64 pp) := by rw [← hpp]; exact q1
      replace q2 : wr.cell? ⟨qb, qoff + i * 6 + 2, none⟩ = some (.int .i64 pj) := by rw [← hpj]; exact q2
      replace q3 : wr.cell? ⟨qb, qoff + i * 6 + 3, none⟩ = some (.string o) := by rw [← hpar]; exact q3
      replace q4 : wr.cell? ⟨qb, qoff + i * 6 + 4, none⟩ = some (.slice e5 n5 c5) := q4
      replace q5 : wr.cell? ⟨qb, qoff + i * 6 + 5, none⟩ = some (.slice e6 n6 c6) := q5
      clear hlt hpar hnext hdt hsm hqb hq hY hin hn5 hn6 ho hd hpv hpp hpj hrow hbr
      have B1 := Lib.hid ((Below.refl wr.heap.size wr).alloc (Nat.le_refl _) (.cells #[.int .i64 pv, .int .i64 pp, .int .i64 pj, .string o, .slice e5 n5 c5, .slice e6 n6 c6] 29))
      have L1 := Lib.hid (show Blk (wr.alloc (.cells #[.int .i64 pv, .int .i64 pp, .int .i64 pj, .string o, .slice e5 n5 c5, .slice e6 n6 c6] 29)) wr.heap.size 6 (rowL [.int .i64 pv, .int .i64 pp, .int .i64 pj, .string o, .slice e5 n5 c5, .slice e6 n6 c6]) from Blk.new' rfl (RR.row6_ _ _ _ _ _ _))
      go_upto_region 5 with fail
      obtain ⟨y0, hy0⟩ : ∃ y0, wr.heap.size = y0 := ⟨_, rfl⟩
      have HY0 := Lib.hid hy0
      obtain ⟨w1, hw1⟩ : ∃ w1, wr.alloc (.cells #[.int .i64 pv, .int .i64 pp, .int .i64 pj, .string o, .slice e5 n5 c5, .slice e6 n6 c6] 29) = w1 := ⟨_, rfl⟩
      rw [hw1] at B1 L1 ⊢
      rw [hy0] at L1 ⊢
      clear hw1 hy0 q0 q1 q2 q3 q4 q5
      obtain ⟨d0, d1, d2, d3, d4, d5⟩ := RR.cells6 L1.out
      go_wp2_with fail
      refine (parent_any pv pp pj o e5 e6 n5 c5 n6 c6 w1).mono ?_
      rintro e w2 ⟨rfl, hb2⟩
      have B2 := Lib.hid (B1.out.trans (hb2.mono B1.out.size))
      have L2 := Lib.hid (L1.out.below hb2 L1.out.lt)
      clear hb2 d0 d1 d2 d3 d4 d5
      obtain ⟨d0, d1, d2, d3, d4, d5⟩ := RR.cells6 L2.out
      have t1 : (o.toList != o.toList) = false := by simp
      go_wp2_with fail
      refine (bdigest_any pv pp pj o _ _ (sigsI b) b.2 w2 (HSV.out.later B2.out) (HRV.out.later B2.out) HKS.out HSM.out.2.1 HSM.out.2.2 (tabs_on HT.out (HBR.out.trans (B2.out.mono HBR.out.size)))).mono ?_
      rintro e w3 ⟨rfl, hb3⟩
      rw [HDE.out]
      have B3 := Lib.hid (B2.out.trans (hb3.mono B2.out.size))
      clear hb3 d0 d1 d2 d3 d4 d5 t1
      have R3 := Lib.hid (row_keep HROW.out fun c hc => B3.out.block c (HROW.out.lt c hc).2)
      have X3 := Lib.hid (HBR.out.trans (B3.out.mono HBR.out.size))
      have BB4 := Lib.hid ((Below.refl w3.heap.size w3).alloc (Nat.le_refl _) (.cells #[.string d] 9))
      have R4 := Lib.hid (row_keep R3.out fun c hc => BB4.out.block c (R3.out.lt c hc).2)
      have X4 := Lib.hid (X3.out.trans (BB4.out.mono X3.out.size))
      obtain ⟨tj, j1, j2, j3, j4⟩ := info_parts kinfo_str
      obtain ⟨u', w5, hrun, hown, hgr, _, _⟩ := run_append_own_at (P := Tryd.prog) (w := w3.alloc (.cells #[.string d] 9)) w.heap.size 44 44 9 tj _ 1 16 kund_strs j1 j2 j3 j4 rfl (by decide) _ i (((digsN M).take i).map Value.string) R4.out ⟨w3.heap.size, 0, none⟩ 1 1 [.string d] rfl (cells1_new _ _ _) (cells1_one d) (by unfold maxLen; omega) (by omega) X4.out.size
      obtain ⟨ua, uc, rfl⟩ := own_sl6 hown
      have HOW := Lib.hid (show w5.ownsRow w.heap.size 9 1 (.slice ua (i + 1) uc) (i + 1) (((digsN M).take (i + 1)).map Value.string) by rw [HDT.out, List.map_append]; exact hown)
      have X5 := Lib.hid (X4.out.grown hgr X4.out.size (fun k hk => (R4.out.lt k hk).1))
      clear hown hgr j1 j2 j3 j4
      go_wp2_with (at_builtin; refine wpl_append_runY rfl _ _ _ rfl hrun ?_)
      clear hrun
      go_roundw
      case rel => exact ⟨i + 1, by have := HLT.out; omega, by rw [HNEXT.out], by go_num, HOW.out, X5.out⟩
      case measure => have := HLT.out; simp [RowKit.intOf]; omega
    · obtain rfl : i = M.length := by have := HI.out; omega
      have hlt' : ¬ (M.length : Int) < (M.length : Int) := by omega
      clear hlt hrow hbr
      go_wp2_with fail
      refine bodyPost_ret (v := .tuple #[.slice xa M.length xc, .int .i64 0]) (by simp [results, Tryd.results104, go_sem]) rfl ?_
      refine ⟨_, rfl, ?_, HBR.out⟩
      have h := HROW.out
      rw [List.take_of_length_le (by rw [digsN_len]; exact Nat.le_refl _)] at h
      rw [digsN_len]
      exact h
end Go.Proofs.YtegkhhegapnkpaaDoor
end
