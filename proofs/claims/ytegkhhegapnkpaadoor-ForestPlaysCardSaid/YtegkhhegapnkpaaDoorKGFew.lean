/-
  The walk of the reference's Few.
-/
import Derived.Test.YtegkhhegapnkpaaDoorKGAwake
import Derived.Test.YtegkhhegapnkpaaDoorKFNew
import Derived.Test.YtegkhhegapnkpaaDoorKFPutB
import Derived.Test.YtegkhhegapnkpaaDoorKFMiss
import Derived.Test.YtegkhhegapnkpaaDoorKERefS
import Derived.Test.YtegkhhegapnkpaaDoorKJLawD
section
open Go Go.RowKit
namespace FF
open JJ CC WW BB MM
/-- a block with its two slices -/
abbrev Bv := BlockD × Value × Value
def bd0 : BlockD := (((0, 0), ((0, ⟨#[]⟩), [])), [])
def vb0 : Bv := (bd0, .slice none 0 0, .slice none 0 0)
def encB (x : Bv) : List Value := [.int .i64 (viewI x.1), .int .i64 (propI x.1), .int .i64 (jvI x.1), .string (parI x.1), x.2.1, x.2.2]
def InnB (w : World) (x : Bv) : Prop := SigsAt w x.2.1 (sigsI x.1) ∧ ReqsAt w x.2.2 x.1.2
theorem InnB.later {w w' : World} {x : Bv} (h : InnB w x) (hb : Below w.heap.size w w') : InnB w' x := ⟨h.1.later hb, h.2.later hb⟩
/-- v is a slice of the blocks L -/
def BvAt (w : World) (v : Value) (L : List Bv) : Prop :=
  ∃ a0 cap, v = .slice a0 L.length cap ∧ (L = [] ∨ ∃ b off, a0 = some ⟨b, off, none⟩ ∧ b < w.heap.size ∧
    ∀ i, i < L.length → (∀ j u, (encB (L.getD i vb0))[j]? = some u → w.cell? ⟨b, off + i * 6 + j, none⟩ = some u) ∧ InnB w (L.getD i vb0))
theorem BvAt.later {w w' : World} {v : Value} {L : List Bv} (h : BvAt w v L) (hb : Below w.heap.size w w') : BvAt w' v L := by
  obtain ⟨a0, cap, rfl, h | ⟨b, off, rfl, hl, hc⟩⟩ := h
  · exact ⟨a0, cap, rfl, Or.inl h⟩
  · refine ⟨_, cap, rfl, Or.inr ⟨b, off, rfl, Nat.lt_of_lt_of_le hl hb.size, fun i hi => ?_⟩⟩
    obtain ⟨h1, h2⟩ := hc i hi
    exact ⟨fun j u hu => (hb.cell (p := ⟨b, off + i * 6 + j, none⟩) hl).trans (h1 j u hu), h2.later hb⟩
theorem bv_shape {w : World} {v : Value} {L : List Bv} (h : BvAt w v L) : ∃ a c, v = .slice a L.length c := by
  obtain ⟨a, c, rfl, _⟩ := h; exact ⟨a, c, rfl⟩
/-- where the blocks lie -/
theorem bv_at {w : World} {a0 : Option Addr} {n c : Nat} {L : List Bv} (h : BvAt w (.slice a0 n c) L) (i : Nat) (hi : i < L.length) : ∃ b off, a0 = some ⟨b, off, none⟩ ∧ b < w.heap.size ∧ n = L.length ∧
    ∀ wr, Below w.heap.size w wr → ∀ i, i < L.length → wr.cell? ⟨b, off + i * 6, none⟩ = some (.int .i64 (viewI (L.getD i vb0).1)) ∧ wr.cell? ⟨b, off + i * 6 + 1, none⟩ = some (.int .i64 (propI (L.getD i vb0).1)) ∧ wr.cell? ⟨b, off + i * 6 + 2, none⟩ = some (.int .i64 (jvI (L.getD i vb0).1)) ∧
      wr.cell? ⟨b, off + i * 6 + 3, none⟩ = some (.string (parI (L.getD i vb0).1)) ∧ wr.cell? ⟨b, off + i * 6 + 4, none⟩ = some (L.getD i vb0).2.1 ∧ wr.cell? ⟨b, off + i * 6 + 5, none⟩ = some (L.getD i vb0).2.2 ∧ InnB wr (L.getD i vb0) := by
  obtain ⟨a1, c1, he, h | ⟨b, off, h1, hl, hc⟩⟩ := h
  · subst h; simp at hi
  · injection he with e1 e2 _
    subst e1 h1
    refine ⟨b, off, rfl, hl, e2, fun wr hb i hi => ?_⟩
    obtain ⟨h1, h2⟩ := hc i hi
    have k : ∀ j u, (encB (L.getD i vb0))[j]? = some u → wr.cell? ⟨b, off + i * 6 + j, none⟩ = some u := fun j u hu => (hb.cell (p := ⟨b, off + i * 6 + j, none⟩) hl).trans (h1 j u hu)
    exact ⟨k 0 _ rfl, k 1 _ rfl, k 2 _ rfl, k 3 _ rfl, k 4 _ rfl, k 5 _ rfl, h2.later hb⟩
def cellsB (L : List Bv) : List Value := (L.map encB).flatten
theorem cellsB_snoc (L : List Bv) (x : Bv) : cellsB (L ++ [x]) = cellsB L ++ encB x := by unfold cellsB; rw [List.map_append, List.flatten_append]; simp
theorem cellsB_len (L : List Bv) : (cellsB L).length = L.length * 6 := by
  induction L with
  | nil => rfl
  | cons x r ih => show (encB x ++ cellsB r).length = _; rw [List.length_append, ih, List.length_cons]; simp [encB]; omega
theorem cellsB_at : ∀ (L : List Bv) (i j : Nat) (u : Value), i < L.length → (encB (L.getD i vb0))[j]? = some u → (cellsB L)[i * 6 + j]? = some u
  | [], i, j, u, h, _ => by simp at h
  | x :: r, 0, j, u, _, hu => by
    show (encB x ++ cellsB r)[0 * 6 + j]? = some u
    have hu' : (encB x)[j]? = some u := hu
    have hj : j < (encB x).length := (List.getElem?_eq_some_iff.1 hu').1
    rw [Nat.zero_mul, Nat.zero_add, List.getElem?_append_left hj]; exact hu'
  | x :: r, i + 1, j, u, h, hu => by
    show (encB x ++ cellsB r)[(i + 1) * 6 + j]? = some u
    have hx : (encB x).length = 6 := rfl
    rw [show (i + 1) * 6 + j = 6 + (i * 6 + j) by omega, List.getElem?_append_right (by omega), hx, Nat.add_sub_cancel_left]
    exact cellsB_at r i j u (by simpa using h) (by simpa [List.getD] using hu)
theorem bv_of_own {w : World} {B : Nat} {e : TypeId} {v : Value} {L : List Bv} (h : w.ownsRow B e 6 v L.length (cellsB L)) (hi : ∀ x ∈ L, InnB w x) : BvAt w v L := by
  rcases h.2 with ⟨rfl, h0⟩ | ⟨g, cap, cur, rfl, hg, hh, hn, hcm, hsz, htk⟩
  · exact ⟨none, 0, by rw [h0], Or.inl (List.eq_nil_of_length_eq_zero h0)⟩
  · have hcell : ∀ j u, j < L.length * 6 → (cellsB L)[j]? = some u → w.cell? ⟨g, j, none⟩ = some u := fun j u hj hu => by
      rw [← htk, List.getElem?_take_of_lt hj, Array.getElem?_toList] at hu
      unfold World.cell?; rw [hh]; simpa using hu
    refine ⟨_, cap, rfl, Or.inr ⟨g, 0, rfl, (Array.getElem?_eq_some_iff.1 hh).1, fun i hil => ⟨fun j u hu => ?_, ?_⟩⟩⟩
    · have hj : j < 6 := (List.getElem?_eq_some_iff.1 hu).1
      rw [Nat.zero_add]
      exact hcell _ _ (by omega) (cellsB_at L i j u hil hu)
    · exact hi _ (by rw [getD_at hil]; exact List.getElem_mem hil)
/-- v is a slice of threes of bytes -/
def TriAt (w : World) (v : Value) (l : List (Nat × Nat × Nat)) : Prop :=
  ∃ a0 cap, v = .slice a0 l.length cap ∧ (l = [] ∨ ∃ b off, a0 = some ⟨b, off, none⟩ ∧ b < w.heap.size ∧
    ∀ i, i < l.length → w.cell? ⟨b, off + i * 3, none⟩ = some (.int .u8 ((l.getD i (0, 0, 0)).1 : Int)) ∧ w.cell? ⟨b, off + i * 3 + 1, none⟩ = some (.int .u8 ((l.getD i (0, 0, 0)).2.1 : Int)) ∧ w.cell? ⟨b, off + i * 3 + 2, none⟩ = some (.int .u8 ((l.getD i (0, 0, 0)).2.2 : Int)))
theorem TriAt.later {w w' : World} {v : Value} {l : List (Nat × Nat × Nat)} (h : TriAt w v l) (hb : Below w.heap.size w w') : TriAt w' v l := by
  obtain ⟨a0, cap, rfl, h | ⟨b, off, rfl, hl, hc⟩⟩ := h
  · exact ⟨a0, cap, rfl, Or.inl h⟩
  · refine ⟨_, cap, rfl, Or.inr ⟨b, off, rfl, Nat.lt_of_lt_of_le hl hb.size, fun i hi => ?_⟩⟩
    obtain ⟨h1, h2, h3⟩ := hc i hi
    exact ⟨(hb.cell (p := ⟨b, off + i * 3, none⟩) hl).trans h1, (hb.cell (p := ⟨b, off + i * 3 + 1, none⟩) hl).trans h2, (hb.cell (p := ⟨b, off + i * 3 + 2, none⟩) hl).trans h3⟩
/-- one block more of a chain -/
def nextB (out : List BlockD) (i : Nat) (t : Nat × Nat × Nat) : BlockD :=
  let q := t.2.1 % (i + 1)
  let cv := if 0 < q then viewI (out.getD (q - 1) bd0) else 0
  let cd := if 0 < q then digI (out.getD (q - 1) bd0) else firstD
  (((cv + 1 + ((t.1 % 4 : Nat) : Int), 0), ((cv, cd), [])), [(((t.2.2 % 4 : Nat) : Int), 1 + (i : Int), ⟨#[]⟩)])
def chainL (l : List (Nat × Nat × Nat)) : Nat → List BlockD
  | 0 => []
  | i + 1 => chainL l i ++ [nextB (chainL l i) i (l.getD i (0, 0, 0))]
theorem chain_len (l : List (Nat × Nat × Nat)) : ∀ i, (chainL l i).length = i
  | 0 => rfl
  | i + 1 => by rw [chainL, List.length_append, chain_len l i]; rfl
theorem chain_views (l : List (Nat × Nat × Nat)) : ∀ (i j : Nat), 0 ≤ viewI ((chainL l i).getD j bd0) ∧ viewI ((chainL l i).getD j bd0) ≤ 4 * (i : Int)
  | 0, j => by simp [chainL, bd0, viewI]
  | i + 1, j => by
    rw [chainL]
    by_cases hj : j < i
    · rw [List.getD_eq_getElem?_getD, List.getElem?_append_left (by rw [chain_len]; exact hj), ← List.getD_eq_getElem?_getD]
      have := chain_views l i j
      omega
    · by_cases e : j = i
      · subst e
        rw [List.getD_eq_getElem?_getD, List.getElem?_append_right (by rw [chain_len]; exact Nat.le_refl _), chain_len, Nat.sub_self]
        show 0 ≤ viewI (nextB _ _ _) ∧ viewI (nextB _ _ _) ≤ _
        unfold nextB viewI
        simp only
        split
        · have h1 := chain_views l j ((l.getD j (0, 0, 0)).2.1 % (j + 1) - 1)
          unfold viewI at h1
          omega
        · omega
      · rw [List.getD_eq_getElem?_getD, List.getElem?_eq_none (by simp [chain_len]; omega)]
        simp [bd0, viewI]; omega
theorem chain_small (l : List (Nat × Nat × Nat)) : ∀ i, ∀ x ∈ chainL l i, SmallI x ∧ sigsI x = [] ∧ propI x = 0
  | 0, x, hx => by cases hx
  | i + 1, x, hx => by
    rcases List.mem_append.1 hx with hx | hx
    · exact chain_small l i x hx
    · obtain rfl : x = nextB (chainL l i) i (l.getD i (0, 0, 0)) := by simpa using hx
      refine ⟨⟨?_, ⟨by show (0 : Nat) ≤ 1000; omega, by show (0 : Nat) ≤ 500000; omega, fun j hj => absurd hj (Nat.not_lt_zero j)⟩, ⟨by show (1 : Nat) ≤ 1000; omega, by show (12 : Nat) ≤ 500000; omega, fun j hj => ?_⟩⟩, rfl, rfl⟩
      · unfold nextB parI
        simp only
        split
        · rw [show (digI _).size = 32 from digD_size _ _ _ _ _]; omega
        · rw [firstD_size]; omega
      · obtain rfl : j = 0 := by have : j < 1 := hj; omega
        show (0 : Nat) ≤ 500000; omega
theorem own_apart' {e e' : TypeId} {w : World} {B B' c c' : Nat} {v v' : Value} {n n' : Nat} {xs xs' : List Value} (h : w.ownsRow B e c v n xs) (h' : w.ownsRow B' e' c' v' n' xs') (hne : e ≠ e') : ∀ b, v'.ownBlock = some b → some b ≠ v.ownBlock := by
  intro b hb he
  rcases h.2 with ⟨rfl, _⟩ | ⟨g, cap, cur, rfl, _, hh, _⟩
  · cases he
  · rcases h'.2 with ⟨rfl, _⟩ | ⟨g', cap', cur', rfl, _, hh', _⟩
    · cases hb
    · simp only [Value.ownBlock, Option.some.injEq] at hb he
      have hgg : g' = g := by omega
      rw [hgg, hh] at hh'
      injection hh' with hh'
      injection hh' with _ h2 _
      exact hne h2
/-- the chain so far: a row of blocks, each one's request in a row of its own -/
structure ChSt (w0 : World) (tB tQ : TypeId) (L : List Bv) (x : Value) (wr : World) : Prop where
  below : Below w0.heap.size w0 wr
  row : wr.ownsRow w0.heap.size tB 6 x L.length (cellsB L)
  reqs : ∀ y ∈ L, y.2.1 = .slice none 0 0 ∧ sigsI y.1 = [] ∧ wr.ownsRow w0.heap.size tQ 3 y.2.2 y.1.2.length (cellsR y.1.2)
theorem ChSt.on {w0 : World} {tB tQ : TypeId} {L : List Bv} {x : Value} {wr w2 : World} (h : ChSt w0 tB tQ L x wr) (hb : Below wr.heap.size wr w2) : ChSt w0 tB tQ L x w2 :=
  ⟨h.below.trans (hb.mono h.below.size), row_keep h.row fun c hc => hb.block c (h.row.lt c hc).2, fun y hy => ⟨(h.reqs y hy).1, (h.reqs y hy).2.1, row_keep (h.reqs y hy).2.2 fun c hc => hb.block c ((h.reqs y hy).2.2.lt c hc).2⟩⟩
theorem ChSt.inn {w0 : World} {tB tQ : TypeId} {L : List Bv} {x : Value} {wr : World} (h : ChSt w0 tB tQ L x wr) : ∀ y ∈ L, InnB wr y := fun y hy => by
  obtain ⟨h1, h2, h3⟩ := h.reqs y hy
  exact ⟨by rw [h1, h2]; exact ⟨none, 0, rfl, Or.inl rfl⟩, reqs_of_own h3⟩
theorem ChSt.bv {w0 : World} {tB tQ : TypeId} {L : List Bv} {x : Value} {wr : World} (h : ChSt w0 tB tQ L x wr) : BvAt wr x L := bv_of_own h.row h.inn
theorem ChSt.shape {w0 : World} {tB tQ : TypeId} {L : List Bv} {x : Value} {wr : World} (h : ChSt w0 tB tQ L x wr) : ∃ a c, x = .slice a L.length c := bv_shape h.bv
theorem ChSt.add {w0 : World} {tB tQ : TypeId} (ht : tB ≠ tQ) {L : List Bv} {x u' : Value} {wr w3 : World} (h : ChSt w0 tB tQ L x wr) (y : Bv) (hy : y.2.1 = .slice none 0 0 ∧ sigsI y.1 = [] ∧ wr.ownsRow w0.heap.size tQ 3 y.2.2 y.1.2.length (cellsR y.1.2))
    (hr : w3.ownsRow w0.heap.size tB 6 u' (L.length + 1) (cellsB L ++ encB y)) (hg : wr.grownBy w3 x.ownBlock) : ChSt w0 tB tQ (L ++ [y]) u' w3 := by
  have hk : ∀ z : Bv, wr.ownsRow w0.heap.size tQ 3 z.2.2 z.1.2.length (cellsR z.1.2) → w3.ownsRow w0.heap.size tQ 3 z.2.2 z.1.2.length (cellsR z.1.2) := fun z hz =>
    row_keep hz fun c hc => hg.block c (hz.lt c hc).2 (own_apart' h.row hz ht c hc)
  refine ⟨h.below.grown hg h.below.size fun k hk => (h.row.lt k hk).1, by rw [List.length_append, List.length_singleton, cellsB_snoc]; exact hr, fun z hz => ?_⟩
  rcases List.mem_append.1 hz with hz | hz
  · exact ⟨(h.reqs z hz).1, (h.reqs z hz).2.1, hk z (h.reqs z hz).2.2⟩
  · obtain rfl : z = y := by simpa using hz
    exact ⟨hy.1, hy.2.1, hk z hy.2.2⟩
theorem ChSt.upd {w0 : World} {tB tQ : TypeId} {L : List Bv} {x : Value} {wr w2 : World} {y : Nat} (h : ChSt w0 tB tQ L x wr) (hu : Upd y wr w2) (hy : w0.heap.size ≤ y) (h1 : ∀ c, x.ownBlock = some c → c ≠ y) (h2 : ∀ z ∈ L, ∀ c, z.2.2.ownBlock = some c → c ≠ y) : ChSt w0 tB tQ L x w2 :=
  ⟨h.below.trans (hu.below hy), row_keep h.row fun c hc => hu.block c (h1 c hc), fun z hz => ⟨(h.reqs z hz).1, (h.reqs z hz).2.1, row_keep (h.reqs z hz).2.2 fun c hc => hu.block c (h2 z hz c hc)⟩⟩
theorem bmap_getD (L : List Bv) (i : Nat) (h : i < L.length) : (L.map Prod.fst).getD i bd0 = (L.getD i vb0).1 := by
  simp [List.getD, List.getElem?_eq_getElem h]
theorem gset3 {w : World} {a : Nat} {f : Nat → Value} (h : Blk w a 3 f) (u0 u1 u2 : Value) :
    Blk (((w.setCell ⟨a, 0, none⟩ u0).setCell ⟨a, 1, none⟩ u1).setCell ⟨a, 2, none⟩ u2) a 3 (rowL [u0, u1, u2]) ∧ Upd a w (((w.setCell ⟨a, 0, none⟩ u0).setCell ⟨a, 1, none⟩ u1).setCell ⟨a, 2, none⟩ u2) := by
  refine ⟨(((h.set 0 u0).set 1 u1).set 2 u2).congr _ fun i hi => ?_, (((Upd.refl a w).trans (Upd.set _ _ _ _)).trans (Upd.set _ _ _ _)).trans (Upd.set _ _ _ _)⟩
  match i, hi with
  | 0, _ => rfl
  | 1, _ => rfl
  | 2, _ => rfl
theorem ChSt.nil (w : World) (tB tQ : TypeId) : ChSt w tB tQ [] (.slice none 0 0) w := ⟨Below.refl _ _, World.ownsRow_nil _ _ _ _, fun y hy => by cases hy⟩
end FF
namespace Go.Proofs.YtegkhhegapnkpaaDoor
open FF JJ CC MM WW BB
set_option maxRecDepth 100000 in
set_option maxHeartbeats 8000000 in
theorem chain_any (l : List (Nat × Nat × Nat)) (v : Value) (w : World) (hv : TriAt w v l) (hb : ∀ i, (l.getD i (0, 0, 0)).1 < 256 ∧ (l.getD i (0, 0, 0)).2.1 < 256 ∧ (l.getD i (0, 0, 0)).2.2 < 256) (hl : l.length ≤ 1000000) :
    Calls Tryd.prog 19 #[v] w fun e w' => ∃ u, e = .returned u ∧ ∃ L, L.map Prod.fst = chainL l (min l.length 40) ∧ BvAt w' u L ∧ Below w.heap.size w w' := by
  have HV := Lib.hid hv
  have HB := Lib.hid hb
  have HL := Lib.hid hl
  obtain ⟨a0, cap, rfl, hx⟩ := hv
  have HX := Lib.hid hx
  clear hb hl hx
  go_enter Tryd.func19, Tryd.ntmps19
  go_wp2_with fail
  go_loopw [3, 4] (fun x y wr => ∃ (i : Nat) (L : List Bv), i ≤ min l.length 40 ∧ y = .int .i64 (i : Int) ∧ L.map Prod.fst = chainL l i ∧ ChSt w 29 34 L x wr) (fun _ y _ => 40 - (intOf y).toNat)
  case atStart => exact ⟨0, [], Nat.zero_le _, rfl, rfl, ChSt.nil _ _ _⟩
  case round =>
    obtain ⟨i, L, hi, rfl, hmap, hst⟩ := hrel
    have HST := Lib.hid hst
    have HMAP := Lib.hid hmap
    have HLN := Lib.hid (show L.length = i by have := congrArg List.length hmap; rwa [List.length_map, chain_len] at this)
    have i0' : (0 : Int) ≤ (i : Int) := by omega
    have ib : (i : Int) ≤ 40 := by omega
    obtain ⟨xa, xc, rfl⟩ := hst.shape
    clear hst hmap
    by_cases h1 : i < l.length
    · have h1' : (i : Int) < (l.length : Int) := by omega
      by_cases h2 : i < 40
      · have h2' : (i : Int) < 40 := by omega
        have HI1 := Lib.hid h1
        have HI2 := Lib.hid h2
        obtain ⟨tb, toff, rfl, hbw, hcell⟩ : ∃ b off, a0 = some ⟨b, off, none⟩ ∧ b < w.heap.size ∧ _ := by
          rcases HX.out with h | h
          · subst h; simp at h1
          · exact h
        have HT := Lib.hid (fun (wx : World) (hb : Below w.heap.size w wx) => show wx.cell? ⟨tb, toff + i * 3, none⟩ = some (.int .u8 ((l.getD i (0, 0, 0)).1 : Int)) ∧ wx.cell? ⟨tb, toff + i * 3 + 1, none⟩ = some (.int .u8 ((l.getD i (0, 0, 0)).2.1 : Int)) ∧ wx.cell? ⟨tb, toff + i * 3 + 2, none⟩ = some (.int .u8 ((l.getD i (0, 0, 0)).2.2 : Int)) from by
          obtain ⟨k1, k2, k3⟩ := hcell i HI1.out
          exact ⟨(hb.cell (p := ⟨tb, toff + i * 3, none⟩) hbw).trans k1, (hb.cell (p := ⟨tb, toff + i * 3 + 1, none⟩) hbw).trans k2, (hb.cell (p := ⟨tb, toff + i * 3 + 2, none⟩) hbw).trans k3⟩)
        obtain ⟨⟨ta, tc, td⟩, ht⟩ : ∃ t, l.getD i (0, 0, 0) = t := ⟨_, rfl⟩
        have HBT := Lib.hid (HB.out i)
        have HTT := Lib.hid ht
        rw [ht] at HT HBT
        obtain ⟨q, hq⟩ : ∃ q, tc % (i + 1) = q := ⟨_, rfl⟩
        have HQ := Lib.hid hq
        have e1 : ((tc : Nat) : Int).tmod ((i : Int) + 1) = (q : Int) := by rw [← hq, Int.tmod_eq_emod_of_nonneg (by omega)]; simp
        obtain ⟨k1, k2, k3⟩ := HT.out wr HST.out.below
        have hw1 : IntKind.i64.wrap ((i : Int) + 1) = (i : Int) + 1 := by rw [IntKind.wrap_i64]; omega
        have hw2 : IntKind.i64.wrap ((tc : Nat) : Int) = (tc : Int) := by rw [IntKind.wrap_i64]; have := HBT.out.2.1; simp only at this; omega
        have hne : ((i : Int) + 1 == 0) = false := by simp; omega
        have HE1 := Lib.hid e1
        clear h1 h2 hi hbw hcell ht hq
        go_wp2_with fail
        refine (rfirst_any wr).mono ?_
        rintro e w2 ⟨rfl, hb2⟩
        have X2 := Lib.hid (HST.out.on hb2)
        have A6 := Lib.hid ((Below.refl w2.heap.size w2).alloc (Nat.le_refl _) (.cells #[.int .i64 0, .string firstD, .slice none 0 0] 24))
        have X3 := Lib.hid (X2.out.on A6.out)
        have L3 := Lib.hid (show Blk (w2.alloc (.cells #[.int .i64 0, .string firstD, .slice none 0 0] 24)) w2.heap.size 3 (rowL [.int .i64 0, .string firstD, .slice none 0 0]) from Blk.new' rfl rfl)
        clear hb2 k1 k2 k3
        go_upto_region 7 with fail
        obtain ⟨y6, hy6⟩ : ∃ y6, w2.heap.size = y6 := ⟨_, rfl⟩
        obtain ⟨w3, hw3⟩ : ∃ w3, w2.alloc (.cells #[.int .i64 0, .string firstD, .slice none 0 0] 24) = w3 := ⟨_, rfl⟩
        rw [hw3] at A6 X3 L3 ⊢
        rw [hy6] at L3 ⊢
        have Y6 := Lib.hid (show w.heap.size ≤ y6 by rw [← hy6]; exact X2.out.below.size)
        have Y7 := Lib.hid (show ∀ c, (Value.slice xa L.length xc).ownBlock = some c → c < y6 from fun c hc => by rw [← hy6]; exact (X2.out.row.lt c hc).2)
        have Y8 := Lib.hid (show ∀ z ∈ L, ∀ c, z.2.2.ownBlock = some c → c < y6 from fun z hz c hc => by rw [← hy6]; exact ((X2.out.reqs z hz).2.2.lt c hc).2)
        obtain ⟨cv, hcv⟩ : ∃ cv, (if 0 < q then viewI ((chainL l i).getD (q - 1) bd0) else 0) = cv := ⟨_, rfl⟩
        obtain ⟨cd, hcd⟩ : ∃ cd, (if 0 < q then digI ((chainL l i).getD (q - 1) bd0) else firstD) = cd := ⟨_, rfl⟩
        have HCV := Lib.hid hcv
        have HCD := Lib.hid hcd
        clear hw3 hy6 hcv hcd
        go_upto_if 30 with fail
        go_cut [6] from 8 to 71 (fun s6 wx => s6 = .pointer (some ⟨y6, 0, none⟩) ∧ ChSt w 29 34 L (.slice xa L.length xc) wx ∧ Blk wx y6 3 (rowL [.int .i64 cv, .string cd, .slice none 0 0]))
        case first =>
          by_cases hq0 : 0 < q
          · have hq0' : (0 : Int) < (q : Int) := by omega
            obtain ⟨qq, rfl⟩ : ∃ qq, q = qq + 1 := ⟨q - 1, by omega⟩
            have hql : qq < L.length := by
              have h3 : tc % (i + 1) < i + 1 := Nat.mod_lt _ (by omega)
              have := HLN.out; have := HQ.out; omega
            obtain ⟨ob, ooff, rfl, hob, _, hoc⟩ := bv_at X3.out.bv qq hql
            have HOC := Lib.hid (fun wx hb => hoc wx hb qq hql)
            obtain ⟨P, hP⟩ : ∃ P, L.getD qq vb0 = P := ⟨_, rfl⟩
            rw [hP] at HOC
            have HPC := Lib.hid (show (chainL l i).getD qq bd0 = P.1 by rw [← HMAP.out, bmap_getD L qq hql, hP])
            have HPM := Lib.hid (show P.1 ∈ chainL l i by rw [← HPC.out, getD_at (by rw [chain_len]; have := HLN.out; omega)]; exact List.getElem_mem _)
            have HPS := Lib.hid (chain_small l i P.1 HPM.out)
            have e2 : cv = viewI P.1 := by rw [← HCV.out, if_pos hq0, show qq + 1 - 1 = qq from rfl, HPC.out]
            have e3 : cd = digI P.1 := by rw [← HCD.out, if_pos hq0, show qq + 1 - 1 = qq from rfl, HPC.out]
            have l1 : (0 : Int) ≤ (qq : Int) := by omega
            have l2 : (qq : Int) < (L.length : Int) := by omega
            have hw3 : IntKind.i64.wrap ((qq : Int) + 1 - 1) = (qq : Int) := by rw [IntKind.wrap_i64]; have := HLN.out; omega
            have hw5 : IntKind.i64.wrap (qq : Int) = (qq : Int) := by rw [IntKind.wrap_i64]; have := HLN.out; omega
            have hw4 : IntKind.i64.wrap (((qq + 1 : Nat) : Int) - 1) = (qq : Int) := by rw [IntKind.wrap_i64]; have := HLN.out; omega
            clear hob hoc hP hq0
            obtain ⟨pv, hpv⟩ : ∃ pv, viewI P.1 = pv := ⟨_, rfl⟩
            obtain ⟨pp, hpp⟩ : ∃ pp, propI P.1 = pp := ⟨_, rfl⟩
            obtain ⟨pj, hpj⟩ : ∃ pj, jvI P.1 = pj := ⟨_, rfl⟩
            obtain ⟨pk, hpk⟩ : ∃ pk, parI P.1 = pk := ⟨_, rfl⟩
            obtain ⟨ps, hps⟩ : ∃ ps, P.2.1 = ps := ⟨_, rfl⟩
            obtain ⟨pr, hpr⟩ : ∃ pr, P.2.2 = pr := ⟨_, rfl⟩
            rw [hpv, hpp, hpj, hpk, hps, hpr] at HOC
            rw [hpv] at e2
            have HDG := Lib.hid (show digD pv pp pj pk P.1.2 = cd by rw [e3, ← hpv, ← hpp, ← hpj, ← hpk]; rfl)
            have HPK := Lib.hid (show pk.size ≤ 1000 by rw [← hpk]; exact HPS.out.1.1)
            have HPI := Lib.hid (show ∀ wx, Below w3.heap.size w3 wx → SigsAt wx ps (sigsI P.1) ∧ ReqsAt wx pr P.1.2 from fun wx hb => by
              have h := (HOC.out wx hb).2.2.2.2.2.2
              exact ⟨hps ▸ h.1, hpr ▸ h.2⟩)
            subst e2
            clear e3 hpv hpp hpj hpk hps hpr
            go_wp2_with fail
            refine planE_abs (fun wx => Below w3.heap.size w3 wx) 13 [(true, 0), (true, 1), (true, 2), (true, 3), (true, 4), (true, 5), (true, 6), (true, 7), (true, 8), (true, 9), (true, 10), (false, 11), (true, 12), (false, 13)] (by kernel_rfl) (by kernel_rfl) (fun _ _ d _ _ h => by cases d <;> exact h) fun w4 hs4 => ⟨hs4.below _, ?_⟩
            have X4 := Lib.hid (show Below w3.heap.size w3 w4 from hs4.below _)
            clear hs4
            iterate 11 (refine pe_run _ ?_ rfl rfl ?_ ?_; rotate_left; (focus (intro w' hS; obtain ⟨d0, d1, d2, d3, d4, d5, _⟩ := HOC.out w' hS; go_simp; exact rfl)); simp only [Act.put, List.setIfInBounds_toArray, List.set_cons_zero, List.set_cons_succ, List.getElem_toArray, List.getElem_cons_zero, List.getElem_cons_succ])
            refine pe_call (R := fun u w' => u = .string cd ∧ Below w4.heap.size w4 w') _ rfl rfl (by go_simp) ((rbdigest_any cv pp pj pk ps pr (sigsI P.1) P.1.2 w4 (HPI.out w4 X4.out).1 (HPI.out w4 X4.out).2 HPK.out HPS.out.1.2.1 HPS.out.1.2.2).mono fun e w' h => ⟨.string cd, by rw [h.1, HDG.out], rfl, h.2⟩) (fun u w' h => X4.out.trans (h.2.mono X4.out.size)) fun u w5 hr => ?_
            obtain ⟨rfl, hb5⟩ := hr
            have X5 := Lib.hid (X4.out.trans (hb5.mono X4.out.size))
            clear hb5
            simp only [Act.put, List.setIfInBounds_toArray, List.set_cons_zero, List.set_cons_succ, List.getElem_toArray, List.getElem_cons_zero, List.getElem_cons_succ]
            refine pe_run _ (.agg #[.int .i64 cv, .string cd, .slice none 0 0]) rfl rfl (fun w' hS => by go_simp) ?_
            simp only [Act.put, List.setIfInBounds_toArray, List.set_cons_zero, List.set_cons_succ, List.getElem_toArray, List.getElem_cons_zero, List.getElem_cons_succ]
            have L5 := Lib.hid (L3.out.below X5.out L3.out.lt)
            have v0 := L5.out.get 0 (by omega)
            have v1 := L5.out.get 1 (by omega)
            have v2 := L5.out.get 2 (by omega)
            have z0 := L5.out.frz 0
            have z1 := L5.out.frz 1
            have z2 := L5.out.frz 2
            refine pe_last _ rfl ?_
            simp only [List.getElem_toArray, List.getElem_cons_zero, List.getElem_cons_succ]
            go_wp2_with fail
            clear v0 v1 v2 z0 z1 z2
            go_meet
            obtain ⟨xi, ui⟩ := gset3 L5.out (.int .i64 cv) (.string cd) (.slice none 0 0)
            exact ⟨rfl, (X3.out.on X5.out).upd ui Y6.out (fun c hc => Nat.ne_of_lt (Y7.out c hc)) (fun z hz c hc => Nat.ne_of_lt (Y8.out z hz c hc)), xi⟩
          · have hq0' : ¬ (0 : Int) < (q : Int) := by omega
            have e2 : cv = 0 := by rw [← HCV.out, if_neg hq0]
            have e3 : cd = firstD := by rw [← HCD.out, if_neg hq0]
            subst e2 e3
            go_wp2_with fail
            go_meet
            exact ⟨rfl, X3.out, L3.out⟩
        case rest =>
          obtain ⟨rfl, hx8, hl8⟩ := hcut
          have X8 := Lib.hid hx8
          have L8 := Lib.hid hl8
          clear hx8 hl8
          obtain ⟨m1, hm1⟩ : ∃ m1, ta % 4 = m1 := ⟨_, rfl⟩
          obtain ⟨m2, hm2⟩ : ∃ m2, td % 4 = m2 := ⟨_, rfl⟩
          have HM1 := Lib.hid hm1
          have HM2 := Lib.hid hm2
          have HCB := Lib.hid (show 0 ≤ cv ∧ cv ≤ 160 by
            rw [← HCV.out]
            split
            · have := chain_views l i (q - 1)
              have := HI2.out
              omega
            · omega)
          have e4 : ((ta : Nat) : Int).tmod 4 = (m1 : Int) := by rw [← hm1, Int.tmod_eq_emod_of_nonneg (by omega)]; simp
          have e5 : ((td : Nat) : Int).tmod 4 = (m2 : Int) := by rw [← hm2, Int.tmod_eq_emod_of_nonneg (by omega)]; simp
          have hwa : IntKind.i64.wrap (cv + 1) = cv + 1 := by rw [IntKind.wrap_i64]; have := HCB.out; omega
          have hwb : IntKind.i64.wrap (m1 : Int) = (m1 : Int) := by rw [IntKind.wrap_i64]; omega
          have hwd : IntKind.i64.wrap (m2 : Int) = (m2 : Int) := by rw [IntKind.wrap_i64]; omega
          have hwe : IntKind.i64.wrap (1 + (i : Int)) = 1 + (i : Int) := by rw [IntKind.wrap_i64]; omega
          have hwf : IntKind.u8.wrap (m1 : Int) = (m1 : Int) := by rw [IntKind.wrap_u8]; omega
          have hwg : IntKind.u8.wrap (m2 : Int) = (m2 : Int) := by rw [IntKind.wrap_u8]; omega
          obtain ⟨vw, hvw⟩ : ∃ vw, cv + 1 + (m1 : Int) = vw := ⟨_, rfl⟩
          have HVW := Lib.hid hvw
          have hwh : IntKind.i64.wrap (cv + 1 + (m1 : Int)) = vw := by rw [← hvw, IntKind.wrap_i64]; have := HCB.out; omega
          clear hm1 hm2 hvw
          go_upto_region 9 with fail
          go_cut [7] from 8 to 71 (fun s7 wx => ∃ y z, s7 = .pointer (some ⟨y, 0, none⟩) ∧ Below wc.heap.size wc wx ∧ Blk wx y 6 (rowL [.int .i64 vw, .int .i64 0, .int .i64 cv, .string cd, .slice none 0 0, .slice (some ⟨z, 0, none⟩) 1 1]) ∧ wx.ownsRow w.heap.size 34 3 (.slice (some ⟨z, 0, none⟩) 1 1) 1 [.int .i64 (m2 : Int), .int .i64 (1 + (i : Int)), .string ⟨#[]⟩])
          case first =>
            go_wp2_with fail
            refine crossE_abs (fun wx => Below wc.heap.size wc wx) 25 [0, 1, 2, 3, 4, 5, 6, 7, 8, 9, 10, 11, 12, 13, 14, 15, 16, 17, 18, 19, 20, 21] 22 24 [(true, 23), (false, 24), (false, 25)] [(false, 22), (true, 23), (false, 25)] (by kernel_rfl) (by kernel_rfl) (fun _ _ d _ _ h => by cases d <;> exact h) fun w9 hs9 => ⟨hs9.below _, ?_⟩
            have X9 := Lib.hid (show Below wc.heap.size wc w9 from hs9.below _)
            clear hs9
            iterate 22 (refine pre_run _ ?_ rfl rfl ?_ ?_; rotate_left; (focus (intro w' hS; obtain ⟨k1, k2, k3⟩ := HT.out w' (X8.out.below.trans (hS.mono X8.out.below.size)); have hcb := L8.out.below hS L8.out.lt; have d0 : _ = some (Value.int .i64 cv) := hcb.get 0 (by omega); have d1 : _ = some (Value.string cd) := hcb.get 1 (by omega); have d2 : _ = some (Value.slice none 0 0) := hcb.get 2 (by omega); clear hcb; go_simp; exact rfl)); simp only [Act.put, List.setIfInBounds_toArray, List.set_cons_zero, List.set_cons_succ, List.getElem_toArray, List.getElem_cons_zero, List.getElem_cons_succ])
            refine pre_end ⟨?_, ?_⟩
            · obtain ⟨z, hz⟩ : ∃ z, w9.heap.size = z := ⟨_, rfl⟩
              have BZ := Lib.hid ((Below.refl w9.heap.size w9).alloc (Nat.le_refl _) (.cells #[.int .i64 (m2 : Int), .int .i64 (1 + (i : Int)), .string ⟨#[]⟩] 34))
              have X10 := Lib.hid (X9.out.trans (BZ.out.mono X9.out.size))
              have ZL := Lib.hid (show wc.heap.size ≤ z by rw [← hz]; exact X9.out.size)
              have RZ := Lib.hid (show (w9.alloc (.cells #[.int .i64 (m2 : Int), .int .i64 (1 + (i : Int)), .string ⟨#[]⟩] 34)).ownsRow w.heap.size 34 3 (.slice (some ⟨z, 0, none⟩) 1 1) 1 [.int .i64 (m2 : Int), .int .i64 (1 + (i : Int)), .string ⟨#[]⟩] from by
                rw [← hz]
                exact ⟨rfl, Or.inr ⟨_, 1, #[.int .i64 (m2 : Int), .int .i64 (1 + (i : Int)), .string ⟨#[]⟩], rfl, Nat.le_trans X8.out.below.size X9.out.size, by show (Array.push _ _)[_]? = _; simp, Nat.le_refl _, by unfold maxLen; omega, rfl, rfl⟩⟩)
              refine pe_value (w' := w9.alloc (.cells #[.int .i64 (m2 : Int), .int .i64 (1 + (i : Int)), .string ⟨#[]⟩] 34)) _ (.slice (some ⟨z, 0, none⟩) 1 1) rfl rfl (by rw [← hz]; go_simp) X10.out ?_
              generalize w9.alloc (.cells #[.int .i64 (m2 : Int), .int .i64 (1 + (i : Int)), .string ⟨#[]⟩] 34) = w10 at *
              simp only [Act.put, List.setIfInBounds_toArray, List.set_cons_zero, List.set_cons_succ, List.getElem_toArray, List.getElem_cons_zero, List.getElem_cons_succ]
              clear hz
              refine pe_run _ (.agg #[.int .i64 vw, .int .i64 0, .int .i64 cv, .string cd, .slice none 0 0, .slice (some ⟨z, 0, none⟩) 1 1]) rfl rfl (fun w' hS => by go_simp) ?_
              simp only [Act.put, List.setIfInBounds_toArray, List.set_cons_zero, List.set_cons_succ, List.getElem_toArray, List.getElem_cons_zero, List.getElem_cons_succ]
              have BY := Lib.hid ((Below.refl w10.heap.size w10).alloc (Nat.le_refl _) (.cells #[.int .i64 0, .int .i64 0, .int .i64 0, .string ⟨#[]⟩, .slice none 0 0, .slice none 0 0] 29))
              have X11 := Lib.hid (X10.out.trans (BY.out.mono X10.out.size))
              obtain ⟨y, hy⟩ : ∃ y, w10.heap.size = y := ⟨_, rfl⟩
              have YL := Lib.hid (show wc.heap.size ≤ y by rw [← hy]; exact X10.out.size)
              have XI := Lib.hid (show Blk (w10.alloc (.cells #[.int .i64 0, .int .i64 0, .int .i64 0, .string ⟨#[]⟩, .slice none 0 0, .slice none 0 0] 29)) y 6 (rowL [.int .i64 0, .int .i64 0, .int .i64 0, .string ⟨#[]⟩, .slice none 0 0, .slice none 0 0]) from Blk.new' hy.symm rfl)
              refine pe_value (w' := w10.alloc (.cells #[.int .i64 0, .int .i64 0, .int .i64 0, .string ⟨#[]⟩, .slice none 0 0, .slice none 0 0] 29)) _ (.pointer (some ⟨y, 0, none⟩)) rfl rfl (by rw [← hy]; go_simp) X11.out ?_
              have YW := Lib.hid (show y = w10.heap.size from hy.symm)
              generalize w10.alloc (.cells #[.int .i64 0, .int .i64 0, .int .i64 0, .string ⟨#[]⟩, .slice none 0 0, .slice none 0 0] 29) = w11 at *
              simp only [Act.put, List.setIfInBounds_toArray, List.set_cons_zero, List.set_cons_succ, List.getElem_toArray, List.getElem_cons_zero, List.getElem_cons_succ]
              clear hy
              have RY := Lib.hid (show w11.ownsRow w.heap.size 34 3 (.slice (some ⟨z, 0, none⟩) 1 1) 1 [.int .i64 (m2 : Int), .int .i64 (1 + (i : Int)), .string ⟨#[]⟩] from row_keep RZ.out fun c hc => BY.out.block c (RZ.out.lt c hc).2)
              have v0 := XI.out.get 0 (by omega)
              have v1 := XI.out.get 1 (by omega)
              have v2 := XI.out.get 2 (by omega)
              have v3 := XI.out.get 3 (by omega)
              have v4 := XI.out.get 4 (by omega)
              have v5 := XI.out.get 5 (by omega)
              have z0 := XI.out.frz 0
              have z1 := XI.out.frz 1
              have z2 := XI.out.frz 2
              have z3 := XI.out.frz 3
              have z4 := XI.out.frz 4
              have z5 := XI.out.frz 5
              refine pe_last _ rfl ?_
              simp only [List.getElem_toArray, List.getElem_cons_zero, List.getElem_cons_succ]
              go_wp2_with fail
              clear v0 v1 v2 v3 v4 v5 z0 z1 z2 z3 z4 z5
              go_meet
              obtain ⟨xi, ui⟩ := set6 XI.out (.int .i64 vw) (.int .i64 0) (.int .i64 cv) (.string cd) (.slice none 0 0) (.slice (some ⟨z, 0, none⟩) 1 1)
              refine ⟨y, z, rfl, X11.out.trans (ui.below YL.out), xi, ?_⟩
              exact row_keep RY.out fun c hc => ui.block c (by have h0 : z = c := (by simpa [Value.ownBlock] using hc); have h1 := (RZ.out.lt z rfl).2; have h2 := YW.out; omega)
            · have BY := Lib.hid ((Below.refl w9.heap.size w9).alloc (Nat.le_refl _) (.cells #[.int .i64 0, .int .i64 0, .int .i64 0, .string ⟨#[]⟩, .slice none 0 0, .slice none 0 0] 29))
              have X10 := Lib.hid (X9.out.trans (BY.out.mono X9.out.size))
              obtain ⟨y, hy⟩ : ∃ y, w9.heap.size = y := ⟨_, rfl⟩
              have YL := Lib.hid (show wc.heap.size ≤ y by rw [← hy]; exact X9.out.size)
              have XI := Lib.hid (show Blk (w9.alloc (.cells #[.int .i64 0, .int .i64 0, .int .i64 0, .string ⟨#[]⟩, .slice none 0 0, .slice none 0 0] 29)) y 6 (rowL [.int .i64 0, .int .i64 0, .int .i64 0, .string ⟨#[]⟩, .slice none 0 0, .slice none 0 0]) from Blk.new' hy.symm rfl)
              refine pe_value (w' := w9.alloc (.cells #[.int .i64 0, .int .i64 0, .int .i64 0, .string ⟨#[]⟩, .slice none 0 0, .slice none 0 0] 29)) _ (.pointer (some ⟨y, 0, none⟩)) rfl rfl (by rw [← hy]; go_simp) X10.out ?_
              have YW := Lib.hid (show y = w9.heap.size from hy.symm)
              generalize w9.alloc (.cells #[.int .i64 0, .int .i64 0, .int .i64 0, .string ⟨#[]⟩, .slice none 0 0, .slice none 0 0] 29) = w10 at *
              simp only [Act.put, List.setIfInBounds_toArray, List.set_cons_zero, List.set_cons_succ, List.getElem_toArray, List.getElem_cons_zero, List.getElem_cons_succ]
              clear hy
              obtain ⟨z, hz⟩ : ∃ z, w10.heap.size = z := ⟨_, rfl⟩
              have BZ := Lib.hid ((Below.refl w10.heap.size w10).alloc (Nat.le_refl _) (.cells #[.int .i64 (m2 : Int), .int .i64 (1 + (i : Int)), .string ⟨#[]⟩] 34))
              have X11 := Lib.hid (X10.out.trans (BZ.out.mono X10.out.size))
              have ZL := Lib.hid (show wc.heap.size ≤ z by rw [← hz]; exact X10.out.size)
              have RZ := Lib.hid (show (w10.alloc (.cells #[.int .i64 (m2 : Int), .int .i64 (1 + (i : Int)), .string ⟨#[]⟩] 34)).ownsRow w.heap.size 34 3 (.slice (some ⟨z, 0, none⟩) 1 1) 1 [.int .i64 (m2 : Int), .int .i64 (1 + (i : Int)), .string ⟨#[]⟩] from by
                rw [← hz]
                exact ⟨rfl, Or.inr ⟨_, 1, #[.int .i64 (m2 : Int), .int .i64 (1 + (i : Int)), .string ⟨#[]⟩], rfl, Nat.le_trans X8.out.below.size X10.out.size, by show (Array.push _ _)[_]? = _; simp, Nat.le_refl _, by unfold maxLen; omega, rfl, rfl⟩⟩)
              have ZW := Lib.hid (show z = w10.heap.size from hz.symm)
              refine pe_value (w' := w10.alloc (.cells #[.int .i64 (m2 : Int), .int .i64 (1 + (i : Int)), .string ⟨#[]⟩] 34)) _ (.slice (some ⟨z, 0, none⟩) 1 1) rfl rfl (by rw [← hz]; go_simp) X11.out ?_
              generalize w10.alloc (.cells #[.int .i64 (m2 : Int), .int .i64 (1 + (i : Int)), .string ⟨#[]⟩] 34) = w11 at *
              simp only [Act.put, List.setIfInBounds_toArray, List.set_cons_zero, List.set_cons_succ, List.getElem_toArray, List.getElem_cons_zero, List.getElem_cons_succ]
              clear hz
              refine pe_run _ (.agg #[.int .i64 vw, .int .i64 0, .int .i64 cv, .string cd, .slice none 0 0, .slice (some ⟨z, 0, none⟩) 1 1]) rfl rfl (fun w' hS => by go_simp) ?_
              simp only [Act.put, List.setIfInBounds_toArray, List.set_cons_zero, List.set_cons_succ, List.getElem_toArray, List.getElem_cons_zero, List.getElem_cons_succ]
              have XJ := Lib.hid (XI.out.below BZ.out XI.out.lt)
              have v0 := XJ.out.get 0 (by omega)
              have v1 := XJ.out.get 1 (by omega)
              have v2 := XJ.out.get 2 (by omega)
              have v3 := XJ.out.get 3 (by omega)
              have v4 := XJ.out.get 4 (by omega)
              have v5 := XJ.out.get 5 (by omega)
              have z0 := XJ.out.frz 0
              have z1 := XJ.out.frz 1
              have z2 := XJ.out.frz 2
              have z3 := XJ.out.frz 3
              have z4 := XJ.out.frz 4
              have z5 := XJ.out.frz 5
              refine pe_last _ rfl ?_
              simp only [List.getElem_toArray, List.getElem_cons_zero, List.getElem_cons_succ]
              go_wp2_with fail
              clear v0 v1 v2 v3 v4 v5 z0 z1 z2 z3 z4 z5
              go_meet
              obtain ⟨xi, ui⟩ := set6 XJ.out (.int .i64 vw) (.int .i64 0) (.int .i64 cv) (.string cd) (.slice none 0 0) (.slice (some ⟨z, 0, none⟩) 1 1)
              refine ⟨y, z, rfl, X11.out.trans (ui.below YL.out), xi, ?_⟩
              exact row_keep RZ.out fun c hc => ui.block c (by have h0 : z = c := (by simpa [Value.ownBlock] using hc); have h1 := XI.out.lt; have h2 := ZW.out; omega)
          case rest =>
            obtain ⟨y, z, rfl, hbx, hblk, hrz⟩ := hcut
            have XB := Lib.hid (X8.out.on hbx)
            have HBK := Lib.hid hblk
            have HRZ := Lib.hid hrz
            have v0 : World.cell? _ ⟨y, 0, none⟩ = some (.int .i64 vw) := hblk.get 0 (by omega)
            have v1 : World.cell? _ ⟨y, 1, none⟩ = some (.int .i64 0) := hblk.get 1 (by omega)
            have v2 : World.cell? _ ⟨y, 2, none⟩ = some (.int .i64 cv) := hblk.get 2 (by omega)
            have v3 : World.cell? _ ⟨y, 3, none⟩ = some (.string cd) := hblk.get 3 (by omega)
            have v4 : World.cell? _ ⟨y, 4, none⟩ = some (.slice none 0 0) := hblk.get 4 (by omega)
            have v5 : World.cell? _ ⟨y, 5, none⟩ = some (.slice (some ⟨z, 0, none⟩) 1 1) := hblk.get 5 (by omega)
            clear hbx hblk hrz e4 e5 hwa hwb hwd hwe hwf hwg hwh e1 hw1 hw2 hne
            have HNB := Lib.hid (show nextB (chainL l i) i (l.getD i (0, 0, 0)) = (((vw, 0), ((cv, cd), [])), [((m2 : Int), 1 + (i : Int), ⟨#[]⟩)]) by
              unfold nextB
              simp only [HTT.out, HQ.out, HCV.out, HCD.out, HM1.out, HM2.out, HVW.out])
            have A4 := Lib.hid ((Below.refl wc.heap.size wc).alloc (Nat.le_refl _) (.cells #[.int .i64 vw, .int .i64 0, .int .i64 cv, .string cd, .slice none 0 0, .slice (some ⟨z, 0, none⟩) 1 1] 29))
            have S4 := Lib.hid (XB.out.on A4.out)
            have HRZ4 := Lib.hid (row_keep HRZ.out fun c hc => A4.out.block c (HRZ.out.lt c hc).2)
            have HCE := Lib.hid (show ∀ j u, ([.int .i64 vw, .int .i64 0, .int .i64 cv, .string cd, .slice none 0 0, .slice (some ⟨z, 0, none⟩) 1 1] : List Value)[j]? = some u → (wc.alloc (.cells #[.int .i64 vw, .int .i64 0, .int .i64 cv, .string cd, .slice none 0 0, .slice (some ⟨z, 0, none⟩) 1 1] 29)).cell? ((⟨wc.heap.size, 0, none⟩ : Addr).add j) = some u from fun j u hu => by
              have e : (⟨wc.heap.size, 0, none⟩ : Addr).add j = ⟨wc.heap.size, j, none⟩ := by unfold Addr.add; split <;> simp [*]
              rw [e]
              exact cell_new wc _ _ j u (by simpa using hu))
            have HC1 := Lib.hid (show ∀ u ∈ ([.int .i64 vw, .int .i64 0, .int .i64 cv, .string cd, .slice none 0 0, .slice (some ⟨z, 0, none⟩) 1 1] : List Value), u.oneCell' = true from fun u hu => by
              simp only [List.mem_cons, List.not_mem_nil, or_false] at hu
              rcases hu with rfl | rfl | rfl | rfl | rfl | rfl <;> rfl)
            have HQ3 := Lib.hid (show L.length + 1 ≤ maxLen by have := HLN.out; unfold maxLen; omega)
            have HQ4 := Lib.hid (show (L.length + 1) * 88 ≤ 140737488355328 by have := HLN.out; omega)
            have HZ := Lib.hid (show w.heap.size ≤ (wc.alloc (.cells #[.int .i64 vw, .int .i64 0, .int .i64 cv, .string cd, .slice none 0 0, .slice (some ⟨z, 0, none⟩) 1 1] 29)).heap.size from S4.out.below.size)
            obtain ⟨ti, i1, i2, i3, i4⟩ := info_parts (show (Tryd.prog.info? 29).map (fun i => (i.zero, i.size, i.bytes)) = some (some (.agg #[.int .i64 0, .int .i64 0, .int .i64 0, .string ⟨#[]⟩, .slice none 0 0, .slice none 0 0]), 6, 88) by kernel_rfl)
            go_wp2_with (at_builtin; refine wpList_append_own _ rfl _ _ 38 rfl w.heap.size 29 ti (.agg #[.int .i64 0, .int .i64 0, .int .i64 0, .string ⟨#[]⟩, .slice none 0 0, .slice none 0 0]) 6 88 (by kernel_rfl) i1 i2 i3 i4 rfl (by decide) _ _ _ rfl S4.out.row ⟨wc.heap.size, 0, none⟩ 1 1 [.int .i64 vw, .int .i64 0, .int .i64 cv, .string cd, .slice none 0 0, .slice (some ⟨z, 0, none⟩) 1 1] rfl rfl HCE.out HC1.out HQ3.out HQ4.out HZ.out ?_)
            intro u' w5 hown' hgr _
            obtain ⟨a', c', rfl⟩ : ∃ a' c', u' = .slice a' (L.length + 1) c' := by
              rcases hown'.2 with ⟨_, h0⟩ | ⟨q, cp, cur, rfl, _⟩
              · omega
              · exact ⟨_, _, rfl⟩
            have S5 := Lib.hid (S4.out.add (by decide) ((((vw, 0), ((cv, cd), [])), [((m2 : Int), 1 + (i : Int), ⟨#[]⟩)]), .slice none 0 0, .slice (some ⟨z, 0, none⟩) 1 1) ⟨rfl, rfl, HRZ4.out⟩ hown' hgr)
            clear hown' hgr v0 v1 v2 v3 v4 v5
            go_wp2_with fail
            go_roundw
            case rel => exact ⟨i + 1, _, by have := HI1.out; have := HI2.out; omega, by go_num, by rw [List.map_append, HMAP.out, chainL, HNB.out]; rfl, S5.out⟩
            case measure => have := HI2.out; simp [intOf]; omega
      · have h2' : ¬ (i : Int) < 40 := by omega
        have HF := Lib.hid (show i = min l.length 40 by omega)
        clear hi h1 h2
        go_wp2_with fail
        go_ret
        exact ⟨_, rfl, L, by rw [← HF.out]; exact HMAP.out, HST.out.bv, HST.out.below⟩
    · have h1' : ¬ (i : Int) < (l.length : Int) := by omega
      have HF := Lib.hid (show i = min l.length 40 by omega)
      clear hi h1
      go_wp2_with fail
      go_ret
      exact ⟨_, rfl, L, by rw [← HF.out]; exact HMAP.out, HST.out.bv, HST.out.below⟩
end Go.Proofs.YtegkhhegapnkpaaDoor
end
section
open Go Go.RowKit
namespace FF
open WW BB
theorem put_root (F : Fo) (x : It) : (putF F x).1.root = F.root ∧ (putF F x).1.height = F.height := by
  unfold putF
  split
  · exact ⟨rfl, rfl⟩
  · split
    · split <;> exact ⟨rfl, rfl⟩
    · split
      · exact ⟨rfl, rfl⟩
      · obtain ⟨h1, h2⟩ := adopt_root 10 (standF F x).1
        exact ⟨by rw [h1, stand_root], by rw [h2, stand_height]⟩
theorem dig_size (b : BlockD) : (digI b).size = 32 := by
  unfold digI; exact JJ.digD_size _ _ _ _ _
theorem gset4 {w : World} {a : Nat} {f : Nat → Value} (h : Blk w a 4 f) (u0 u1 u2 u3 : Value) :
    Blk ((((w.setCell ⟨a, 0, none⟩ u0).setCell ⟨a, 1, none⟩ u1).setCell ⟨a, 2, none⟩ u2).setCell ⟨a, 3, none⟩ u3) a 4 (rowL [u0, u1, u2, u3]) ∧ Upd a w ((((w.setCell ⟨a, 0, none⟩ u0).setCell ⟨a, 1, none⟩ u1).setCell ⟨a, 2, none⟩ u2).setCell ⟨a, 3, none⟩ u3) := by
  refine ⟨((((h.set 0 u0).set 1 u1).set 2 u2).set 3 u3).congr _ fun i hi => ?_, ((((Upd.refl a w).trans (Upd.set _ _ _ _)).trans (Upd.set _ _ _ _)).trans (Upd.set _ _ _ _)).trans (Upd.set _ _ _ _)⟩
  match i, hi with
  | 0, _ => rfl
  | 1, _ => rfl
  | 2, _ => rfl
  | 3, _ => rfl
end FF
namespace Go.Proofs.YtegkhhegapnkpaaDoor
open FF JJ CC MM WW BB
/-- neither the code's forest's own blocks nor the box -/
def AwayP (g r : Nat) (mv ov : Value) (C : Nat → Prop) (b : Nat) : Prop := ¬ MineB g mv ov C b ∧ b ≠ r
structure TwM (B g r : Nat) (F G : Fo) (wr : World) (rt : ByteArray) (mv ov : Value) (N O : List Iv) (C : Nat → Prop) (na : Option Addr) (nn nc : Nat) (oa : Option Addr) (ow oc : Nat) : Prop where
  code : CFs B wr g F rt mv ov N O C
  ne : ∀ c, MineB g mv ov C c → c ≠ r
  blk : Blk wr r 4 (rowL [.string G.root, .int .i64 G.height, .slice na nn nc, .slice oa ow oc])
  fo : FoD (AwayP g r mv ov C) wr G (.slice na nn nc) (.slice oa ow oc)
  wf : WF G
  rB : B ≤ r
  tabs : Tabs wr
section
variable {B g r : Nat} {F G : Fo} {wr w2 : World} {rt : ByteArray} {mv ov : Value} {N O : List Iv} {C : Nat → Prop} {na : Option Addr} {nn nc : Nat} {oa : Option Addr} {ow oc : Nat}
theorem TwM.on (h : TwM B g r F G wr rt mv ov N O C na nn nc oa ow oc) (hb : Below wr.heap.size wr w2) : TwM B g r F G w2 rt mv ov N O C na nn nc oa ow oc :=
  ⟨h.code.on hb, h.ne, h.blk.below hb h.blk.lt, h.fo.on (Keeps.of hb), h.wf, h.rB, tabs_on h.tabs hb⟩
/-- another forest is stored in the box -/
theorem TwM.moved {G' : Fo} {na' oa' : Option Addr} {nn' nc' on' oc' n : Nat} (h : TwM B g r F G wr rt mv ov N O C na nn nc oa ow oc) (hf : FoD (fun b => AwayP g r mv ov C b ∨ n ≤ b) wr G' (.slice na' nn' nc') (.slice oa' on' oc')) (hn : ∀ b, MineB g mv ov C b → b < n) (hr : r < n)
    (hu : Upd r wr w2) (hb : Blk w2 r 4 (rowL [.string G'.root, .int .i64 G'.height, .slice na' nn' nc', .slice oa' on' oc'])) (hw : WF G') (hNT : NoTab r) : TwM B g r F G' w2 rt mv ov N O C na' nn' nc' oa' on' oc' := by
  have hk : ∀ {A : Nat → Prop}, (∀ b, A b → b ≠ r) → Keeps A wr w2 := fun hA => Keeps.upd hu hA
  refine ⟨h.code.keep (hk h.ne), h.ne, hb, (hf.on (hk fun b hb => ?_)).more fun b hb _ => ?_, hw, h.rB, tabs_keeps h.tabs (A := fun b => b ≠ r) (hk fun _ hb => hb) fun b => ?_⟩
  · rcases hb with hb | hb
    · exact hb.2
    · omega
  · rcases hb with hb | hb
    · exact hb
    · exact ⟨fun hm => by have := hn b hm; omega, by omega⟩
  · by_cases e : b = r
    · subst e; exact Or.inl hNT
    · exact Or.inr e
end
/-- both forests: the code's in block g, the reference's in the box r -/
def TwSt (w0 : World) (g r : Nat) (F G : Fo) (wr : World) : Prop :=
  (∃ rt mv ov N O C na nn nc oa ow oc, TwM w0.heap.size g r F G wr rt mv ov N O C na nn nc oa ow oc) ∧ Below w0.heap.size w0 wr
theorem TwSt.on {w0 : World} {g r : Nat} {F G : Fo} {wr w2 : World} (h : TwSt w0 g r F G wr) (hb : Below wr.heap.size wr w2) : TwSt w0 g r F G w2 := by
  obtain ⟨⟨rt, mv, ov, N, O, C, na, nn, nc, oa, on, oc, h⟩, h2⟩ := h
  exact ⟨⟨rt, mv, ov, N, O, C, na, nn, nc, oa, on, oc, h.on hb⟩, h2.trans (hb.mono h2.size)⟩
/-- what the reference's Put hands back -/
def RputP (A : Nat → Prop) (wr : World) (R : Fo × Int) (u : Value) (w' : World) : Prop :=
  ∃ na' nn' nc' oa' ow' oc', u = .tuple #[.agg #[.string R.1.root, .int .i64 R.1.height, .slice na' nn' nc', .slice oa' ow' oc'], .int .i64 R.2] ∧ FoD (fun b => A b ∨ wr.heap.size ≤ b) w' R.1 (.slice na' nn' nc') (.slice oa' ow' oc') ∧ Below wr.heap.size wr w'
theorem tw_rput {A : Nat → Prop} {G : Fo} {wr : World} {nv ov : Value} (hf : FoD A wr G nv ov) (hw : WF G) (b : BlockD) (hb : SmallI b) (R : Fo × Int) (hR : putF G (digI b, b) = R) (v p j : Int) (k : ByteArray) (h1 : viewI b = v) (h2 : propI b = p) (h3 : jvI b = j) (h4 : parI b = k) (sv rv : Value)
    (hd : Dep A wr (fun w' => SigsAt w' sv (sigsI b) ∧ ReqsAt w' rv b.2)) :
    Calls Tryd.prog 31 #[.agg #[.string G.root, .int .i64 G.height, nv, ov], .agg #[.int .i64 v, .int .i64 p, .int .i64 j, .string k, sv, rv]] wr fun e w' => ∃ u, e = .returned u ∧ RputP A wr R u w' := by
  subst h1 h2 h3 h4 hR
  refine (fput_any A G b sv rv _ _ wr hf hd (Nat.le_trans hw.n400 (by omega)) (Nat.le_trans hw.o8 (by omega)) hb.1 hb.2.1 hb.2.2).mono ?_
  rintro e w' ⟨nv', ov', rfl, hfo, hbl⟩
  obtain ⟨N', O', _, _, i1, i2⟩ := hfo.now
  obtain ⟨x1, x2, rfl⟩ := iv_shape i1
  obtain ⟨x3, x4, rfl⟩ := iv_shape i2
  obtain ⟨e1, e2⟩ := put_root G (digI b, b)
  exact ⟨_, rfl, x1, _, x2, x3, _, x4, by rw [e1, e2], hfo, hbl⟩
/-- another forest lies in a new box y, that of the reference still in r -/
def TwX (w0 : World) (g r y : Nat) (F G G' : Fo) (wx : World) : Prop :=
  ∃ rt mv ov N O C na nn nc oa ow oc na' nn' nc' oa' ow' oc' n, TwM w0.heap.size g r F G wx rt mv ov N O C na nn nc oa ow oc ∧ Below w0.heap.size w0 wx ∧ Blk wx y 4 (rowL [.string G'.root, .int .i64 G'.height, .slice na' nn' nc', .slice oa' ow' oc']) ∧
    FoD (fun b => AwayP g r mv ov C b ∨ n ≤ b) wx G' (.slice na' nn' nc') (.slice oa' ow' oc') ∧ (∀ b, MineB g mv ov C b → b < n) ∧ r < n ∧ y ≠ r ∧ WF G'
/-- it is stored in r -/
theorem TwX.moved {w0 : World} {g r : Nat} {F G G' : Fo} {wr w2 : World} {rt : ByteArray} {mv ov : Value} {N O : List Iv} {C : Nat → Prop} {na : Option Addr} {nn nc : Nat} {oa : Option Addr} {ow oc : Nat} {na' oa' : Option Addr} {nn' nc' ow' oc' n : Nat} (h : TwM w0.heap.size g r F G wr rt mv ov N O C na nn nc oa ow oc) (hb0 : Below w0.heap.size w0 wr)
    (hf : FoD (fun b => AwayP g r mv ov C b ∨ n ≤ b) wr G' (.slice na' nn' nc') (.slice oa' ow' oc')) (hn : ∀ b, MineB g mv ov C b → b < n) (hr : r < n) (hT : Tabs w0)
    (hu : Upd r wr w2) (hb : Blk w2 r 4 (rowL [.string G'.root, .int .i64 G'.height, .slice na' nn' nc', .slice oa' ow' oc'])) (hw : WF G') : TwSt w0 g r F G' w2 :=
  ⟨⟨rt, mv, ov, N, O, C, na', nn', nc', oa', ow', oc', h.moved hf hn hr hu hb hw (notab_of hT r h.rB)⟩, hb0.trans (hu.below h.rB)⟩
/-- what lies below rests upon what is neither's -/
theorem TwM.low {w0 : World} {g r : Nat} {F G : Fo} {wr : World} {rt : ByteArray} {mv ov : Value} {N O : List Iv} {C : Nat → Prop} {na : Option Addr} {nn nc : Nat} {oa : Option Addr} {ow oc : Nat} (h : TwM w0.heap.size g r F G wr rt mv ov N O C na nn nc oa ow oc) (hb : Below w0.heap.size w0 wr) : ∀ c, c < w0.heap.size → AwayP g r mv ov C c ∧ c < wr.heap.size :=
  fun c hc => ⟨⟨fun hm => by have := h.code.ownB c hm; omega, by have := h.rB; omega⟩, by have := hb.size; omega⟩
end Go.Proofs.YtegkhhegapnkpaaDoor
end
section
open Go Go.RowKit
namespace FF
open JJ CC WW BB MM
/-- the block at a digest, or none -/
def GotF (F : Fo) (h : ByteArray) (b : BlockD) (bb : Bool) : Prop := (bb = true ∧ (h, b) ∈ F.nodes) ∨ (bb = false ∧ b = bd0 ∧ ¬ 0 ≤ atI F.nodes h)
def GetB (w : World) (b : BlockD) (bb : Bool) (e : Ending) (w' : World) : Prop :=
  ∃ a0 cap a1 cap1, e = .returned (.tuple #[.agg #[.int .i64 (viewI b), .int .i64 (propI b), .int .i64 (jvI b), .string (parI b), .slice a0 (sigsI b).length cap, .slice a1 b.2.length cap1], .bool bb]) ∧ SigsNew w.heap.size w' (.slice a0 (sigsI b).length cap) (sigsI b) ∧
    ReqsAt w' (.slice a1 b.2.length cap1) b.2 ∧ (∀ c, (Value.slice a1 b.2.length cap1).ownBlock = some c → w.heap.size ≤ c) ∧ Below w.heap.size w w'
theorem small_bd0 : SmallI bd0 := ⟨by decide, ⟨by decide, by decide, fun i hi => absurd hi (Nat.not_lt_zero i)⟩, by decide, by decide, fun i hi => absurd hi (Nat.not_lt_zero i)⟩
theorem sl_slT {w : World} {v : Value} {a : Option Addr} {n c : Nat} {l : List (Int × List ByteArray)} (h : SigsAt w v l) (e : slT v = (a, n, c)) : SigsAt w (.slice a n c) l ∧ n = l.length := by
  obtain ⟨a0, cap, rfl, h'⟩ := h
  simp only [slT, Prod.mk.injEq] at e
  obtain ⟨rfl, rfl, rfl⟩ := e
  exact ⟨⟨_, _, rfl, h'⟩, rfl⟩
theorem rl_slT {w : World} {v : Value} {a : Option Addr} {n c : Nat} {l : List (Int × Int × ByteArray)} (h : ReqsAt w v l) (e : slT v = (a, n, c)) : ReqsAt w (.slice a n c) l ∧ n = l.length := by
  obtain ⟨a0, cap, rfl, h'⟩ := h
  simp only [slT, Prod.mk.injEq] at e
  obtain ⟨rfl, rfl, rfl⟩ := e
  exact ⟨⟨_, _, rfl, h'⟩, rfl⟩
end FF
namespace Go.Proofs.YtegkhhegapnkpaaDoor
open FF JJ CC MM WW BB
theorem got_entry {B : Nat} {w : World} {g : Nat} {F : Fo} {rt : ByteArray} {mv ov : Value} {N O : List Iv} {C : Nat → Prop} (hC : CFs B w g F rt mv ov N O C) (h : ByteArray) (bb : Bool) {v p j : Int} {k : ByteArray} {a1 : Option Addr} {n1 c1 : Nat} {a2 : Option Addr} {n2 c2 : Nat} {t : Int}
    (hb : (entF F N h).isSome = bb) (hx : (entF F N h).getD zE = ((v, p, j, k), (a1, n1, c1), (a2, n2, c2), t)) :
    ∃ b : BlockD, viewI b = v ∧ propI b = p ∧ jvI b = j ∧ parI b = k ∧ SigsAt w (.slice a1 n1 c1) (sigsI b) ∧ ReqsAt w (.slice a2 n2 c2) b.2 ∧ SmallI b ∧ GotF F h b bb := by
  cases bb with
  | false =>
    have hn : entF F N h = none := by cases he : entF F N h with | none => rfl | some s => rw [he] at hb; cases hb
    rw [hn] at hx
    simp only [Option.getD_none, zE, Prod.mk.injEq] at hx
    obtain ⟨⟨rfl, rfl, rfl, rfl⟩, ⟨rfl, rfl, rfl⟩, ⟨rfl, rfl, rfl⟩, rfl⟩ := hx
    refine ⟨bd0, rfl, rfl, rfl, rfl, ⟨none, 0, rfl, Or.inl rfl⟩, ⟨none, 0, rfl, Or.inl rfl⟩, small_bd0, Or.inr ⟨rfl, rfl, fun c => ?_⟩⟩
    have := ent_some (F := F) hC.nodes h
    rw [hn, decide_eq_true c] at this
    cases this
  | true =>
    obtain ⟨h0, _, _, _, x, hxN, hxh, hxe, e1, e2, e3, e4, e5, e6⟩ := ent_node hC.wf hC.nodes hb hx
    have hm : x ∈ N ++ O := List.mem_append_left _ hxN
    obtain ⟨i1, i2⟩ := hC.innN x hm
    refine ⟨x.1.2, e1, e2, e3, e4, (sl_slT i1 e5).1, (rl_slT i2 e6).1, hC.small x hm, Or.inl ⟨rfl, ?_⟩⟩
    rw [← hC.nodes]
    exact List.mem_map.2 ⟨x, hxN, by rw [← hxh]⟩
set_option maxRecDepth 100000 in
set_option maxHeartbeats 4000000 in
theorem gget_any {B : Nat} {w : World} {g : Nat} {F : Fo} {rt : ByteArray} {mv ov : Value} {N O : List Iv} {C : Nat → Prop} (hC : CFs B w g F rt mv ov N O C) (h : ByteArray) (hs : h.size ≤ 1000000) :
    Calls Tryd.prog 95 #[.pointer (some ⟨g, 0, none⟩), .string h] w fun e w' => ∃ b bb, GotF F h b bb ∧ GetB w b bb e w' := by
  have HC := Lib.hid hC
  have HS := Lib.hid (show h.size ≤ maxLen by unfold maxLen; omega)
  have X1 := Lib.hid ((Below.refl w.heap.size w).alloc (Nat.le_refl _) (.cells #[.int .i64 0, .int .i64 0, .int .i64 0, .string ⟨#[]⟩, .slice none 0 0, .slice none 0 0] 29))
  have c2 := (hC.on X1.out).c2
  obtain ⟨mp, rfl⟩ := hC.shapeM
  obtain ⟨v, p, j, k, a1, n1, k1, a2, n2, k2, t, hx⟩ := sv_parts ((entF F N h).getD zE)
  have HX := Lib.hid hx
  obtain ⟨bb, hb⟩ : ∃ bb, (entF F N h).isSome = bb := ⟨_, rfl⟩
  have HB := Lib.hid hb
  have HMA := Lib.hid (hC.on X1.out).map
  obtain ⟨b, q1, q2, q3, q4, q5, q6, q7, q8⟩ := got_entry hC h bb hb hx
  have HQ := Lib.hid (And.intro q5 (And.intro q6 q7))
  have HG := Lib.hid q8
  have HL := Lib.hid (And.intro (And.intro q1 q2) (And.intro q3 q4))
  have X2 := Lib.hid (X1.out.alloc X1.out.size (.cells #[.int .i64 v, .int .i64 p, .int .i64 j, .string k, .slice a1 n1 k1, .slice a2 n2 k2, .int .i64 t] 135))
  have RR0 := Lib.hid (show Blk ((w.alloc (.cells #[.int .i64 0, .int .i64 0, .int .i64 0, .string ⟨#[]⟩, .slice none 0 0, .slice none 0 0] 29)).alloc (.cells #[.int .i64 v, .int .i64 p, .int .i64 j, .string k, .slice a1 n1 k1, .slice a2 n2 k2, .int .i64 t] 135)) w.heap.size 6 (rowL [.int .i64 0, .int .i64 0, .int .i64 0, .string ⟨#[]⟩, .slice none 0 0, .slice none 0 0]) from (Blk.new' rfl (rowL6 _ _ _ _ _ _)).alloc _)
  obtain ⟨gq, hgq⟩ : ∃ gq, w.heap.size = gq := ⟨_, rfl⟩
  have HGQ := Lib.hid hgq
  clear hC hs hx hb q1 q2 q3 q4 q5 q6 q7 q8 hgq
  go_enter Tryd.func95, Tryd.ntmps95
  go_wp2_with (at_lookup; refine wpl_look_ok _ _ h v p j k a1 n1 k1 a2 n2 k2 t bb HX.out HB.out rfl rfl (by kernel_rfl) (by kernel_rfl) zero_sv HMA.out rfl rfl HS.out ?_)
  refine (gcopied_any v p j k _ _ (sigsI b) b.2 _ (HQ.out.1.later X2.out) (HQ.out.2.1.later X2.out) HQ.out.2.2.2.1.1 (small_tags HQ.out.2.2.2.1) (Nat.le_trans HQ.out.2.2.2.2.1 (by omega))).mono ?_
  rintro e w3 ⟨a0, cap, a3, cap3, rfl, hsn, hrn, hon, hb3⟩
  have HSN := Lib.hid hsn
  have HRN := Lib.hid hrn
  have HON := Lib.hid hon
  have B3 := Lib.hid hb3
  have RR := Lib.hid (RR0.out.below hb3 RR0.out.lt)
  clear hsn hrn hon hb3
  have c0 := RR.out.get 0 (by omega)
  have c1 := RR.out.get 1 (by omega)
  have c2' := RR.out.get 2 (by omega)
  have c3 := RR.out.get 3 (by omega)
  have c4 := RR.out.get 4 (by omega)
  have c5 := RR.out.get 5 (by omega)
  have f0 := RR.out.frz 0
  have f1 := RR.out.frz 1
  have f2 := RR.out.frz 2
  have f3 := RR.out.frz 3
  have f4 := RR.out.frz 4
  have f5 := RR.out.frz 5
  go_wp2_with fail
  clear c0 c1 c2' c3 c4 c5 f0 f1 f2 f3 f4 f5
  obtain ⟨xi, ui⟩ := set6 RR.out (.int .i64 v) (.int .i64 p) (.int .i64 j) (.string k) (.slice a0 (sigsI b).length cap) (.slice a3 b.2.length cap3)
  have p0 : World.cell? _ ⟨w.heap.size, 0, none⟩ = some (.int .i64 v) := xi.get 0 (by omega)
  have p1 : World.cell? _ ⟨w.heap.size, 1, none⟩ = some (.int .i64 p) := xi.get 1 (by omega)
  have p2 : World.cell? _ ⟨w.heap.size, 2, none⟩ = some (.int .i64 j) := xi.get 2 (by omega)
  have p3 : World.cell? _ ⟨w.heap.size, 3, none⟩ = some (.string k) := xi.get 3 (by omega)
  have p4 : World.cell? _ ⟨w.heap.size, 4, none⟩ = some (.slice a0 (sigsI b).length cap) := xi.get 4 (by omega)
  have p5 : World.cell? _ ⟨w.heap.size, 5, none⟩ = some (.slice a3 b.2.length cap3) := xi.get 5 (by omega)
  refine bodyPost_ret (v := .tuple #[.agg #[.int .i64 v, .int .i64 p, .int .i64 j, .string k, .slice a0 (sigsI b).length cap, .slice a3 b.2.length cap3], .bool bb]) (by simp [results, Tryd.results95, go_sem, p0, p1, p2, p3, p4, p5]) rfl ?_
  refine ⟨b, bb, HG.out, a0, cap, a3, cap3, ?_, (HSN.out.keep (Nat.le_of_eq ui.size.symm) (fun c hc _ => ui.block c (by have := RR0.out.lt; omega))).mono (Nat.le_of_lt RR0.out.lt), reqs_keep HRN.out (by rw [ui.size]; exact Nat.le_refl _) (fun c hc _ => ui.block c (by have := HON.out c hc; have := RR0.out.lt; omega)), fun c hc => Nat.le_trans (Nat.le_of_lt RR0.out.lt) (HON.out c hc), (X2.out.trans (B3.out.mono X2.out.size)).trans (ui.below (Nat.le_refl _))⟩
  rw [HL.out.1.1, HL.out.1.2, HL.out.2.1, HL.out.2.2]
end Go.Proofs.YtegkhhegapnkpaaDoor
end
section
open Go Go.RowKit
namespace Go.Proofs.YtegkhhegapnkpaaDoor
open FF JJ CC MM WW BB
set_option maxRecDepth 100000 in
set_option maxHeartbeats 8000000 in
theorem gmiss_any {B : Nat} {w : World} {g : Nat} {F : Fo} {rt : ByteArray} {mv ov : Value} {N O : List Iv} {C : Nat → Prop} (hC : CFs B w g F rt mv ov N O C) :
    Calls Tryd.prog 24 #[.pointer (some ⟨g, 0, none⟩)] w fun e w' => ∃ u, e = .returned u ∧ StrsAt w' u (missF F) ∧ Below w.heap.size w w' := by
  have HC := Lib.hid hC
  have c3 := hC.c3
  obtain ⟨oa, oc, rfl⟩ := hC.shapeO
  have HIO := Lib.hid hC.ivO
  have HL := Lib.hid hC.o8
  have HOL := Lib.hid hC.lenO
  clear hC
  go_enter Tryd.func24, Tryd.ntmps24
  go_wp2_with fail
  clear c3
  go_loopw [3, 12] (fun x y wr => ∃ i : Nat, i ≤ O.length ∧ y = .int .i64 (i : Int) ∧ LkSt w 9 ((F.orph.take i).foldl (missStep F.orph) []) x wr) (fun _ y _ => O.length - (intOf y).toNat)
  case atStart => exact ⟨0, Nat.zero_le _, rfl, LkSt.nil _ _⟩
  case round =>
    obtain ⟨i, hi, rfl, hst⟩ := hrel
    have HST := Lib.hid hst
    have i0' : (0 : Int) ≤ (i : Int) := by omega
    have ib : (i : Int) ≤ 8 := by have := HL.out; omega
    obtain ⟨xa, xc, rfl⟩ := hst.shape
    obtain ⟨out, hout⟩ : ∃ out, (F.orph.take i).foldl (missStep F.orph) [] = out := ⟨_, rfl⟩
    have HOUT := Lib.hid hout
    rw [hout] at HST ⊢
    have HLEN := Lib.hid (show out.length ≤ 8 by
      rw [← hout]
      have := miss_len F.orph (F.orph.take i) []
      have := HOL.out
      have := HL.out
      simp only [List.length_nil, List.length_take] at *
      omega)
    clear hst hout
    by_cases hlt : i < O.length
    · have hlt' : (i : Int) < (O.length : Int) := by omega
      have HLT := Lib.hid hlt
      have HSN := Lib.hid (missF_snoc F i (by rw [← HOL.out]; exact hlt))
      obtain ⟨ob, ooff, rfl, hbw, hcell⟩ : ∃ ob ooff, oa = some ⟨ob, ooff, none⟩ ∧ ob < w.heap.size ∧ _ := by
        obtain ⟨a9, c9, he, h9 | h9⟩ := HIO.out
        · rw [h9] at hlt; simp at hlt
        · injection he with e1 _ e3
          subst e1
          exact h9
      obtain ⟨q0, q1, q2, q3, q4, q5, q6⟩ := iv_cells HST.out.below hbw hcell i hlt
      have HI := Lib.hid ((hcell i hlt).2)
      obtain ⟨y, hy⟩ : ∃ y, O.getD i v0 = y := ⟨_, rfl⟩
      have HY := Lib.hid (show F.orph.getD i i0 = y.1 by rw [← HC.out.orph, map_getD O i hlt, hy])
      rw [hy] at q0 q1 q2 q3 q4 q5 q6 HI
      obtain ⟨⟨d, bd⟩, s5, s6⟩ := y
      obtain ⟨e5, n5, h5⟩ := sl_of_sigs HI.out.1
      obtain ⟨e6, n6, h6⟩ := sl_of_reqs HI.out.2
      replace h5 : s5 = .slice e5 (sigsI bd).length n5 := h5
      replace h6 : s6 = .slice e6 bd.2.length n6 := h6
      subst h5 h6
      clear hi hlt hbw hcell hy
      have A1 := Lib.hid ((Below.refl wr.heap.size wr).alloc (Nat.le_refl _) (.cells #[.string d, .int .i64 (viewI bd), .int .i64 (propI bd), .int .i64 (jvI bd), .string (parI bd), .slice e5 (sigsI bd).length n5, .slice e6 bd.2.length n6] 131))
      go_wp2_with fail
      obtain ⟨p, hp⟩ : ∃ p, parI bd = p := ⟨_, rfl⟩
      have HP := Lib.hid hp
      refine (parent_any (viewI bd) (propI bd) (jvI bd) (parI bd) e5 e6 (sigsI bd).length n5 bd.2.length n6 _).mono ?_
      rintro e w2 ⟨rfl, hb2⟩
      rw [hp]
      have S2 := Lib.hid ((HST.out.on A1.out).on hb2)
      clear hp hb2 A1 q0 q1 q2 q3 q4 q5 q6
      obtain ⟨T0, hT0⟩ : ∃ T0, decide (0 ≤ atI F.orph p) = T0 := ⟨_, rfl⟩
      have HT0 := Lib.hid hT0
      clear hT0
      go_wp2_with fail
      refine (gwaits_any (HC.out.on S2.out.below) p T0 HT0.out).mono ?_
      rintro e w3 ⟨rfl, hb3⟩
      have S3 := Lib.hid (S2.out.on hb3)
      clear hb3
      cases T0 with
      | true =>
        have HEQ := Lib.hid (show (F.orph.take (i + 1)).foldl (missStep F.orph) [] = out by
          rw [HSN.out, HOUT.out, HY.out]
          unfold missStep
          rw [HP.out, if_pos (Or.inl (of_decide_eq_true HT0.out))])
        go_wp2_with fail
        go_roundw
        case rel => exact ⟨i + 1, by have := HLT.out; omega, by go_num, by rw [HEQ.out]; exact S3.out⟩
        case measure => have := HLT.out; simp [intOf]; omega
      | false =>
        obtain ⟨T1, hT1⟩ : ∃ T1, out.any (fun y => decide (y = p)) = T1 := ⟨_, rfl⟩
        have HT1 := Lib.hid hT1
        clear hT1
        go_wp2_with fail
        refine (gshas_any out _ p T1 HT1.out w3 (strs_own S3.out.row) (by have := HLEN.out; omega)).mono ?_
        rintro e w4 ⟨rfl, rfl⟩
        cases T1 with
        | true =>
          have HEQ := Lib.hid (show (F.orph.take (i + 1)).foldl (missStep F.orph) [] = out by
            rw [HSN.out, HOUT.out, HY.out]
            unfold missStep
            rw [HP.out, if_pos (Or.inr HT1.out)])
          go_wp2_with fail
          go_roundw
          case rel => exact ⟨i + 1, by have := HLT.out; omega, by go_num, by rw [HEQ.out]; exact S3.out⟩
          case measure => have := HLT.out; simp [intOf]; omega
        | false =>
          have HEQ := Lib.hid (show (F.orph.take (i + 1)).foldl (missStep F.orph) [] = out ++ [p] by
            rw [HSN.out, HOUT.out, HY.out]
            unfold missStep
            rw [HP.out, if_neg]
            rintro (h0 | h0)
            · exact of_decide_eq_false HT0.out h0
            · rw [HT1.out] at h0; cases h0)
          have A3 := Lib.hid ((Below.refl w4.heap.size w4).alloc (Nat.le_refl _) (.cells #[.string p] 9))
          have S4 := Lib.hid (S3.out.on A3.out)
          have HQ3 := Lib.hid (show out.length + 1 ≤ maxLen by have := HLEN.out; unfold maxLen; omega)
          have HQ4 := Lib.hid (show (out.length + 1) * 16 ≤ 140737488355328 by have := HLEN.out; omega)
          have HZ := Lib.hid (show w.heap.size ≤ (w4.alloc (.cells #[.string p] 9)).heap.size from S4.out.below.size)
          obtain ⟨ti, i1, i2, i3, i4⟩ := info_parts (show (Tryd.prog.info? 9).map (fun i => (i.zero, i.size, i.bytes)) = some (some (.string ⟨#[]⟩), 1, 16) by kernel_rfl)
          go_wp2_with (at_builtin; refine wpList_append_own _ rfl _ _ 44 rfl w.heap.size 9 ti (.string ⟨#[]⟩) 1 16 (by kernel_rfl) i1 i2 i3 i4 rfl (by decide) _ _ _ rfl S4.out.row ⟨w4.heap.size, 0, none⟩ 1 1 [.string p] rfl rfl (cells1_new w4 p _) (cells1_one p) HQ3.out HQ4.out HZ.out ?_)
          intro u' w5 hown' hgr _
          obtain ⟨a', c', rfl⟩ : ∃ a' c', u' = .slice a' (out.length + 1) c' := by
            rcases hown'.2 with ⟨_, h0⟩ | ⟨q, cp, cur, rfl, _⟩
            · omega
            · exact ⟨_, _, rfl⟩
          have S5 := Lib.hid (S4.out.add p hown' hgr)
          clear hown' hgr
          go_wp2_with fail
          go_roundw
          case rel => exact ⟨i + 1, by have := HLT.out; omega, by go_num, by rw [HEQ.out]; exact S5.out⟩
          case measure => have := HLT.out; simp [intOf]; omega
    · obtain rfl : i = O.length := by omega
      have hlt' : ¬ (O.length : Int) < (O.length : Int) := by omega
      have HF := Lib.hid (show missF F = out by rw [← HOUT.out, HOL.out, List.take_length]; rfl)
      clear hi hlt
      go_wp2_with fail
      go_ret
      refine ⟨_, rfl, ?_, HST.out.below⟩
      rw [HF.out]; exact strs_own HST.out.row
end Go.Proofs.YtegkhhegapnkpaaDoor
end
section
open Go Go.RowKit
namespace FF
open JJ CC WW BB MM
/-- the threes that the law lays -/
def tris (k : Nat) : List (Nat × Nat × Nat) := (0, 0, 0) :: (List.range k).map fun i => (0, 1, i)
end FF
end
section
open Go Go.RowKit
namespace FF
open WW BB
def encT (t : Nat × Nat × Nat) : List Value := [.int .u8 (t.1 : Int), .int .u8 (t.2.1 : Int), .int .u8 (t.2.2 : Int)]
def cellsT (l : List (Nat × Nat × Nat)) : List Value := (l.map encT).flatten
end FF
end
section
open Go Go.RowKit
namespace FF
open WW BB
theorem tris_len (k : Nat) : (tris k).length = k + 1 := by simp [tris]
/-- threes so far -/
structure TrSt (w0 : World) (e : TypeId) (i : Nat) (x : Value) (wr : World) : Prop where
  below : Below w0.heap.size w0 wr
  row : wr.ownsRow w0.heap.size e 3 x (tris i).length (cellsT (tris i))
theorem TrSt.shape {w0 : World} {e : TypeId} {i : Nat} {x : Value} {wr : World} (h : TrSt w0 e i x wr) : ∃ a c, x = .slice a (i + 1) c := by
  rcases h.row.2 with ⟨_, h0⟩ | ⟨q, cp, cur, rfl, _⟩
  · rw [tris_len] at h0; omega
  · rw [tris_len]; exact ⟨_, _, rfl⟩
theorem TrSt.on {w0 : World} {e : TypeId} {i : Nat} {x : Value} {wr w2 : World} (h : TrSt w0 e i x wr) (hb : Below wr.heap.size wr w2) : TrSt w0 e i x w2 :=
  ⟨h.below.trans (hb.mono h.below.size), row_keep h.row fun c hc => hb.block c (h.row.lt c hc).2⟩
end FF
namespace Go.Proofs.YtegkhhegapnkpaaDoor
open FF JJ CC MM WW BB
/-- the forest so far, in the code's memory -/
def FuSt (w0 : World) (g : Nat) (F : Fo) (wr : World) : Prop := (∃ mv ov N O C, CFs w0.heap.size wr g F ⟨#[]⟩ mv ov N O C) ∧ Below w0.heap.size w0 wr ∧ Tabs wr
theorem FuSt.on {w0 : World} {g : Nat} {F : Fo} {wr w2 : World} (h : FuSt w0 g F wr) (hb : Below wr.heap.size wr w2) : FuSt w0 g F w2 := by
  obtain ⟨⟨mv, ov, N, O, C, hc⟩, h2, h3⟩ := h
  exact ⟨⟨mv, ov, N, O, C, hc.on hb⟩, h2.trans (hb.mono h2.size), tabs_on h3 hb⟩
theorem fu_dig (b : BlockD) (hb : SmallI b) (d : ByteArray) (hd : digI b = d) (wr : World) (v p j : Int) (k : ByteArray) (h1 : viewI b = v) (h2 : propI b = p) (h3 : jvI b = j) (h4 : parI b = k) (sv rv : Value) (hv : SigsAt wr sv (sigsI b)) (hr : ReqsAt wr rv b.2) :
    Calls Tryd.prog 26 #[.agg #[.int .i64 v, .int .i64 p, .int .i64 j, .string k, sv, rv]] wr fun e w' => e = .returned (.string d) ∧ Below wr.heap.size wr w' := by
  subst h1 h2 h3 h4 hd
  exact rbdigest_any _ _ _ _ sv rv (sigsI b) b.2 wr hv hr hb.1 hb.2.1 hb.2.2
end Go.Proofs.YtegkhhegapnkpaaDoor
end
section
open Go Go.RowKit
namespace FF
open WW BB
/-- each digest is its block's -/
def DigF (F : Fo) : Prop := ∀ x ∈ F.nodes ++ F.orph, x.1 = digI x.2
theorem miss_bound (F : Fo) : (missF F).length ≤ F.orph.length := by
  have := miss_len F.orph F.orph []
  simpa [missF] using this
theorem got_node {F : Fo} {x : It} {b : BlockD} {bb : Bool} (hx : x ∈ F.nodes) (h : GotF F x.1 b bb) : bb = true ∧ (x.1, b) ∈ F.nodes := by
  rcases h with ⟨h1, h2⟩ | ⟨_, _, h3⟩
  · exact ⟨h1, h2⟩
  · exact absurd ((at_mem _ _).2 ⟨x, hx, rfl⟩) h3
theorem got_root {F : Fo} (hF : WF F) {b : BlockD} {bb : Bool} (h : GotF F F.root b bb) : bb = false := by
  rcases h with ⟨_, h2⟩ | ⟨h1, _⟩
  · exact absurd rfl (hF.ne _ (List.mem_append_left _ h2))
  · exact h1
end FF
namespace Go.Proofs.YtegkhhegapnkpaaDoor
open FF JJ CC MM WW BB
set_option maxRecDepth 100000 in
set_option maxHeartbeats 16000000 in
theorem gsame_any {B : Nat} {w : World} {g : Nat} {F : Fo} {rt : ByteArray} {mv ov : Value} {N O : List Iv} {C : Nat → Prop} (hC : CFs B w g F rt mv ov N O C) (hT : Tabs w) (nv uv : Value) (hfo : FoAt w F nv uv) (hdg : DigF F) (hsm : ∀ x ∈ F.nodes, SmallI x.2) (hh : 0 ≤ F.height ∧ F.height ≤ 1000000) :
    Calls Tryd.prog 32 #[.pointer (some ⟨g, 0, none⟩), .agg #[.string F.root, .int .i64 F.height, nv, uv]] w fun e w' => e = .returned (.bool true) ∧ Below w.heap.size w w' := by
  have HC := Lib.hid hC
  have HT := Lib.hid hT
  have HFO := Lib.hid hfo
  have HDG := Lib.hid hdg
  have HSM := Lib.hid hsm
  have HHT := Lib.hid hh
  have HW := Lib.hid hC.wf
  obtain ⟨M, U, hM, hU, hm, hu⟩ := hfo
  have HM := Lib.hid hM
  have HU := Lib.hid hU
  have HIM := Lib.hid hm
  have HIU := Lib.hid hu
  have HML := Lib.hid (show M.length = F.nodes.length by rw [← hM, List.length_map])
  have HUL := Lib.hid (show U.length = F.orph.length by rw [← hU, List.length_map])
  have HL := Lib.hid (show U.length ≤ 8 by rw [HUL.out]; exact hC.wf.o8)
  have HLM := Lib.hid (show M.length ≤ 400 by rw [HML.out]; exact hC.wf.n400)
  obtain ⟨na, nc, rfl⟩ := iv_shape hm
  obtain ⟨oa, oc, rfl⟩ := iv_shape hu
  have K0 := Lib.hid ((Below.refl w.heap.size w).alloc (Nat.le_refl _) (.cells #[.string F.root, .int .i64 F.height, .slice na M.length nc, .slice oa U.length oc] 54))
  have L0 := Lib.hid (show Blk (w.alloc (.cells #[.string F.root, .int .i64 F.height, .slice na M.length nc, .slice oa U.length oc] 54)) w.heap.size 4 (rowL [.string F.root, .int .i64 F.height, .slice na M.length nc, .slice oa U.length oc]) from Blk.new' rfl rfl)
  go_enter Tryd.func32, Tryd.ntmps32
  go_wp2_with fail
  obtain ⟨q, hq⟩ : ∃ q, w.heap.size = q := ⟨_, rfl⟩
  rw [hq] at L0 ⊢
  obtain ⟨w1, hw1⟩ : ∃ w1, w.alloc (.cells #[.string F.root, .int .i64 F.height, .slice na M.length nc, .slice oa U.length oc] 54) = w1 := ⟨_, rfl⟩
  rw [hw1] at L0 K0 ⊢
  clear hw1 hq hC hT hdg hsm hh hM hU hm hu
  have HS := Lib.hid (fun (wx : World) (hb : Below w1.heap.size w1 wx) => show wx.cell? ⟨q, 0, none⟩ = some (.string F.root) ∧ wx.cell? ⟨q, 1, none⟩ = some (.int .i64 F.height) ∧ wx.cell? ⟨q, 2, none⟩ = some (.slice na M.length nc) ∧ wx.cell? ⟨q, 3, none⟩ = some (.slice oa U.length oc) ∧ True from by
    have L := L0.out.below hb L0.out.lt
    exact ⟨L.get 0 (by omega), L.get 1 (by omega), L.get 2 (by omega), L.get 3 (by omega), trivial⟩)
  go_loopw [5, 6] (fun x y wr => ∃ i : Nat, i ≤ U.length ∧ y = .int .i64 (i : Int) ∧ LkSt w1 9 ((U.take i).map (fun z => z.1.1)) x wr) (fun _ y _ => U.length - (intOf y).toNat)
  case atStart => exact ⟨0, Nat.zero_le _, rfl, LkSt.nil _ _⟩
  case round =>
    obtain ⟨i, hi, rfl, hst⟩ := hrel
    have HST := Lib.hid hst
    have i0' : (0 : Int) ≤ (i : Int) := by omega
    have ib : (i : Int) ≤ 8 := by have := HL.out; omega
    obtain ⟨xa, xc, rfl⟩ := hst.shape
    obtain ⟨d0, d1, d2, d3, d4⟩ := HS.out wr HST.out.below
    by_cases hlt : i < U.length
    · obtain ⟨out, hout⟩ : ∃ out, (U.take i).map (fun z => z.1.1) = out := ⟨_, rfl⟩
      have HOUT := Lib.hid hout
      rw [hout] at HST ⊢
      have HLEN := Lib.hid (show out.length ≤ 8 by rw [← hout, List.length_map, List.length_take]; have := HL.out; omega)
      have hlt' : (i : Int) < (U.length : Int) := by omega
      have HLT := Lib.hid hlt
      have HSN := Lib.hid (map_take_snoc U i hlt)
      obtain ⟨ob, ooff, rfl, hbw, hcell⟩ : ∃ ob ooff, oa = some ⟨ob, ooff, none⟩ ∧ ob < w.heap.size ∧ (∀ i, i < U.length → (∀ j u, (encV (U.getD i v0))[j]? = some u → w.cell? ⟨ob, ooff + i * 7 + j, none⟩ = some u) ∧ InnV w (U.getD i v0)) := by
        obtain ⟨a9, c9, he, h9 | ⟨b, off, h1, h2, h3⟩⟩ := HIU.out
        · rw [h9] at hlt; simp at hlt
        · injection he with e1 _ e3
          subst h1
          exact ⟨b, off, e1, h2, h3⟩
      obtain ⟨y, hy⟩ : ∃ y, U.getD i v0 = y := ⟨_, rfl⟩
      have HP := Lib.hid (show ∀ w', Below w.heap.size w w' → w'.cell? ⟨ob, ooff + i * 7, none⟩ = some (.string y.1.1) from fun w' hb => by
        have := (iv_cells hb hbw hcell i hlt).1
        rwa [hy] at this)
      rw [hy] at HSN
      obtain ⟨d, hd⟩ : ∃ d, y.1.1 = d := ⟨_, rfl⟩
      rw [hd] at HP HSN
      clear hst hout hi hlt hbw hcell hy hd
      have q0 := HP.out wr (K0.out.trans (HST.out.below.mono K0.out.size))
      have A3 := Lib.hid ((Below.refl wr.heap.size wr).alloc (Nat.le_refl _) (.cells #[.string d] 9))
      have S3 := Lib.hid (HST.out.on A3.out)
      have HQ3 := Lib.hid (show out.length + 1 ≤ maxLen by have := HLEN.out; unfold maxLen; omega)
      have HQ4 := Lib.hid (show (out.length + 1) * 16 ≤ 140737488355328 by have := HLEN.out; omega)
      have HZ := Lib.hid (show w1.heap.size ≤ (wr.alloc (.cells #[.string d] 9)).heap.size from S3.out.below.size)
      obtain ⟨ti, i1, i2, i3, i4⟩ := info_parts info_str
      go_wp2_with (at_builtin; refine wpList_append_own _ rfl _ _ 44 rfl w1.heap.size 9 ti (.string ⟨#[]⟩) 1 16 (by kernel_rfl) i1 i2 i3 i4 rfl (by decide) _ _ _ rfl S3.out.row ⟨wr.heap.size, 0, none⟩ 1 1 [.string d] rfl rfl (cells1_new wr d 9) (cells1_one d) HQ3.out HQ4.out HZ.out ?_)
      intro u' w4 hown' hgr _
      obtain ⟨a', c', rfl⟩ : ∃ a' c', u' = .slice a' (out.length + 1) c' := by
        rcases hown'.2 with ⟨_, h0⟩ | ⟨q, cp, cur, rfl, _⟩
        · omega
        · exact ⟨_, _, rfl⟩
      have S4 := Lib.hid (S3.out.add d hown' hgr)
      clear hown' hgr d0 d1 d2 d3 d4 q0
      go_wp2_with fail
      go_roundw
      case rel => exact ⟨i + 1, by have := HLT.out; omega, by go_num, by rw [HSN.out, HOUT.out]; exact S4.out⟩
      case measure => have := HLT.out; simp [intOf]; omega
    · obtain rfl : i = U.length := by omega
      have hlt' : ¬ ((U.length : Nat) : Int) < (U.length : Int) := by omega
      clear hi hlt hst
      obtain ⟨ol, hol⟩ : ∃ ol, F.orph.map Prod.fst = ol := ⟨_, rfl⟩
      have HOL := Lib.hid hol
      have HOE := Lib.hid (show (U.take U.length).map (fun z => z.1.1) = ol by rw [List.take_length, ← hol, ← HU.out, List.map_map]; rfl)
      rw [HOE.out] at HST ⊢
      have HSO := Lib.hid (strs_own HST.out.row)
      have HON := Lib.hid (show ol.length ≤ 1000000000 by rw [← hol, List.length_map, ← HUL.out]; have := HL.out; omega)
      obtain ⟨ml, hml⟩ : ∃ ml, missF F = ml := ⟨_, rfl⟩
      have HML2 := Lib.hid hml
      have HMN := Lib.hid (show ml.length ≤ 1000000000 by rw [← hml]; have := miss_bound F; have := HUL.out; have := HL.out; omega)
      have B0 := Lib.hid HST.out.below
      have HT1 := Lib.hid (show ((F.nodes.length : Int) != (M.length : Int)) = false by rw [HML.out]; simp)
      have HT2 := Lib.hid (show (F.height != F.height) = false by simp)
      have HCR := Lib.hid (HC.out.on (K0.out.trans (B0.out.mono K0.out.size)))
      have HTR := Lib.hid (tabs_on HT.out (K0.out.trans (B0.out.mono K0.out.size)))
      have HFR := Lib.hid (HFO.out.later (K0.out.trans (B0.out.mono K0.out.size)))
      clear hol hml
      go_upto_region 6 with fail
      clear hlt' d0 d1 d2 d3 d4
      refine plan_abs (fun wx => Below wr.heap.size wr wx) [(true, 0), (true, 2), (true, 3), (true, 4), (false, 1), (true, 5), (true, 6), (true, 7), (true, 9), (false, 8), (false, 10), (true, 11), (true, 12), (true, 13), (true, 14), (true, 16), (false, 15), (false, 17), (false, 18), (true, 19), (true, 20), (true, 21), (true, 22), (true, 23), (true, 24), (true, 26), (true, 27), (false, 25), (true, 28), (true, 29)] (by kernel_rfl) (by kernel_rfl) (fun _ _ d _ _ h => by cases d <;> exact h) fun w2 hs2 => ⟨hs2.below _, ?_⟩
      have Y2 := Lib.hid (show Below wr.heap.size wr w2 from hs2.below _)
      clear hs2
      iterate 4 (refine pl_run _ ?_ rfl rfl ?_ ?_; rotate_left; (focus (intro w' hS; obtain ⟨d0, d1, d2, d3, d4⟩ := HS.out w' (B0.out.trans (hS.mono B0.out.size)); have t1 := HT1.out; have t2 := HT2.out; go_simp; exact rfl)); simp only [Act.put, List.setIfInBounds_toArray, List.set_cons_zero, List.set_cons_succ, List.getElem_toArray, List.getElem_cons_zero, List.getElem_cons_succ])
      refine pl_call (R := fun u w' => u = .int .i64 (F.nodes.length : Int) ∧ Below w2.heap.size w2 w') _ rfl rfl (by go_simp) ((glen_any (HCR.out.on Y2.out)).mono fun e w' hq => ⟨_, hq.1, rfl, hq.2 ▸ Below.refl _ _⟩) (fun u w' h => Y2.out.trans (h.2.mono Y2.out.size)) fun u w3 hr => ?_
      obtain ⟨rfl, hb3⟩ := hr
      have Y3 := Lib.hid (Y2.out.trans (hb3.mono Y2.out.size))
      clear hb3
      simp only [Act.put, List.setIfInBounds_toArray, List.set_cons_zero, List.set_cons_succ, List.getElem_toArray, List.getElem_cons_zero, List.getElem_cons_succ]
      iterate 4 (refine pl_run _ ?_ rfl rfl ?_ ?_; rotate_left; (focus (intro w' hS; obtain ⟨d0, d1, d2, d3, d4⟩ := HS.out w' (B0.out.trans (hS.mono B0.out.size)); have t1 := HT1.out; have t2 := HT2.out; go_simp; exact rfl)); simp only [Act.put, List.setIfInBounds_toArray, List.set_cons_zero, List.set_cons_succ, List.getElem_toArray, List.getElem_cons_zero, List.getElem_cons_succ])
      refine pl_call (R := (fun u w' => (∃ a c, u = .slice a ol.length c) ∧ StrsAt w' u ol ∧ Below w3.heap.size w3 w')) _ rfl rfl (by go_simp) ((gorph_any (HCR.out.on Y3.out)).mono fun e w' hq => by obtain ⟨u, h1, h2, h3⟩ := hq; rw [HOL.out] at h2; exact ⟨u, h1, strs_shape h2, h2, h3⟩) (fun u w' h => Y3.out.trans (h.2.2.mono Y3.out.size)) fun u w4 hr => ?_
      obtain ⟨⟨ua, uc, rfl⟩, hu4, hb4⟩ := hr
      have HU4 := Lib.hid hu4
      have Y4 := Lib.hid (Y3.out.trans (hb4.mono Y3.out.size))
      clear hu4 hb4
      simp only [Act.put, List.setIfInBounds_toArray, List.set_cons_zero, List.set_cons_succ, List.getElem_toArray, List.getElem_cons_zero, List.getElem_cons_succ]
      refine pl_call (R := fun u w' => u = .bool true ∧ Below w4.heap.size w4 w') _ rfl rfl (by go_simp) ((fsame_any ol ol _ _ w4 HU4.out (HSO.out.later Y4.out) HON.out).mono fun e w' hq => ⟨.bool true, by rw [hq.1]; simp, rfl, hq.2⟩) (fun u w' h => Y4.out.trans (h.2.mono Y4.out.size)) fun u w5 hr => ?_
      obtain ⟨rfl, hb5⟩ := hr
      have Y5 := Lib.hid (Y4.out.trans (hb5.mono Y4.out.size))
      clear hb5
      simp only [Act.put, List.setIfInBounds_toArray, List.set_cons_zero, List.set_cons_succ, List.getElem_toArray, List.getElem_cons_zero, List.getElem_cons_succ]
      iterate 5 (refine pl_run _ ?_ rfl rfl ?_ ?_; rotate_left; (focus (intro w' hS; obtain ⟨d0, d1, d2, d3, d4⟩ := HS.out w' (B0.out.trans (hS.mono B0.out.size)); have t1 := HT1.out; have t2 := HT2.out; go_simp; exact rfl)); simp only [Act.put, List.setIfInBounds_toArray, List.set_cons_zero, List.set_cons_succ, List.getElem_toArray, List.getElem_cons_zero, List.getElem_cons_succ])
      refine pl_call (R := (fun u w' => (∃ a c, u = .slice a ml.length c) ∧ StrsAt w' u ml ∧ Below w5.heap.size w5 w')) _ rfl rfl (by go_simp) ((gmiss_any (HCR.out.on Y5.out)).mono fun e w' hq => by obtain ⟨u, h1, h2, h3⟩ := hq; rw [HML2.out] at h2; exact ⟨u, h1, strs_shape h2, h2, h3⟩) (fun u w' h => Y5.out.trans (h.2.2.mono Y5.out.size)) fun u w6 hr => ?_
      obtain ⟨⟨va, vc, rfl⟩, hu6, hb6⟩ := hr
      have HU6 := Lib.hid hu6
      have Y6 := Lib.hid (Y5.out.trans (hb6.mono Y5.out.size))
      clear hu6 hb6
      simp only [Act.put, List.setIfInBounds_toArray, List.set_cons_zero, List.set_cons_succ, List.getElem_toArray, List.getElem_cons_zero, List.getElem_cons_succ]
      refine pl_call (R := (fun u w' => (∃ a c, u = .slice a ml.length c) ∧ StrsAt w' u ml ∧ Below w6.heap.size w6 w')) _ rfl rfl (by go_simp) ((fmiss_any F _ _ w6 (HFR.out.later Y6.out) (by rw [← HUL.out]; have := HL.out; omega)).mono fun e w' hq => by obtain ⟨u, h1, h2, h3⟩ := hq; rw [HML2.out] at h2; exact ⟨u, h1, strs_shape h2, h2, h3⟩) (fun u w' h => Y6.out.trans (h.2.2.mono Y6.out.size)) fun u w7 hr => ?_
      obtain ⟨⟨xa', xc', rfl⟩, hu7, hb7⟩ := hr
      have HU7 := Lib.hid hu7
      have HU67 := Lib.hid (HU6.out.later hb7)
      have Y7 := Lib.hid (Y6.out.trans (hb7.mono Y6.out.size))
      clear hu7 hb7
      simp only [Act.put, List.setIfInBounds_toArray, List.set_cons_zero, List.set_cons_succ, List.getElem_toArray, List.getElem_cons_zero, List.getElem_cons_succ]
      refine pl_call (R := fun u w' => u = .bool true ∧ Below w7.heap.size w7 w') _ rfl rfl (by go_simp) ((fsame_any ml ml _ _ w7 HU67.out HU7.out HMN.out).mono fun e w' hq => ⟨.bool true, by rw [hq.1]; simp, rfl, hq.2⟩) (fun u w' h => Y7.out.trans (h.2.mono Y7.out.size)) fun u w8 hr => ?_
      obtain ⟨rfl, hb8⟩ := hr
      have Y8 := Lib.hid (Y7.out.trans (hb8.mono Y7.out.size))
      clear hb8
      simp only [Act.put, List.setIfInBounds_toArray, List.set_cons_zero, List.set_cons_succ, List.getElem_toArray, List.getElem_cons_zero, List.getElem_cons_succ]
      iterate 8 (refine pl_run _ ?_ rfl rfl ?_ ?_; rotate_left; (focus (intro w' hS; obtain ⟨d0, d1, d2, d3, d4⟩ := HS.out w' (B0.out.trans (hS.mono B0.out.size)); have t1 := HT1.out; have t2 := HT2.out; go_simp; exact rfl)); simp only [Act.put, List.setIfInBounds_toArray, List.set_cons_zero, List.set_cons_succ, List.getElem_toArray, List.getElem_cons_zero, List.getElem_cons_succ])
      refine pl_call (R := fun u w' => u = .int .i64 F.height ∧ Below w8.heap.size w8 w') _ rfl rfl (by go_simp) ((gheight_any (HCR.out.on Y8.out) (tabs_on HTR.out Y8.out) F.root (by rw [HW.out.root32]; omega)).mono fun e w' hq => ⟨.int .i64 F.height, by rw [hq.1, height_root HW.out], rfl, hq.2⟩) (fun u w' h => Y8.out.trans (h.2.mono Y8.out.size)) fun u w9 hr => ?_
      obtain ⟨rfl, hb9⟩ := hr
      have Y9 := Lib.hid (Y8.out.trans (hb9.mono Y8.out.size))
      clear hb9
      simp only [Act.put, List.setIfInBounds_toArray, List.set_cons_zero, List.set_cons_succ, List.getElem_toArray, List.getElem_cons_zero, List.getElem_cons_succ]
      iterate 2 (refine pl_run _ ?_ rfl rfl ?_ ?_; rotate_left; (focus (intro w' hS; obtain ⟨d0, d1, d2, d3, d4⟩ := HS.out w' (B0.out.trans (hS.mono B0.out.size)); have t1 := HT1.out; have t2 := HT2.out; go_simp; exact rfl)); simp only [Act.put, List.setIfInBounds_toArray, List.set_cons_zero, List.set_cons_succ, List.getElem_toArray, List.getElem_cons_zero, List.getElem_cons_succ])
      refine pl_end ?_
      clear HU4 HU6 HU7 HU67 Y2 Y3 Y4 Y5 Y6 Y7 Y8
      go_wp2_with fail
      have Z9 := Lib.hid (B0.out.trans (Y9.out.mono B0.out.size))
      clear Y9 HCR HTR HFR HSO HT1 HST B0
      go_loopw [7] (fun v wx => ∃ i : Nat, i ≤ M.length ∧ v = .int .i64 (i : Int) ∧ Below w1.heap.size w1 wx) (fun v _ => M.length - (intOf v).toNat)
      case atStart => exact ⟨0, Nat.zero_le _, rfl, Z9.out⟩
      case round =>
        obtain ⟨i, hi, rfl, hbx⟩ := hrel
        have ZX := Lib.hid hbx
        have i0' : (0 : Int) ≤ (i : Int) := by omega
        have ib : (i : Int) ≤ 400 := by have := HLM.out; omega
        obtain ⟨d0, d1, d2, d3, d4⟩ := HS.out wr ZX.out
        clear hbx
        by_cases hlt : i < M.length
        · have hlt' : (i : Int) < (M.length : Int) := by omega
          have HLT := Lib.hid hlt
          obtain ⟨ob, ooff, rfl, hbw, hcell⟩ : ∃ ob ooff, na = some ⟨ob, ooff, none⟩ ∧ ob < w.heap.size ∧ (∀ i, i < M.length → (∀ j u, (encV (M.getD i v0))[j]? = some u → w.cell? ⟨ob, ooff + i * 7 + j, none⟩ = some u) ∧ InnV w (M.getD i v0)) := by
            obtain ⟨a9, c9, he, h9 | ⟨b, off, h1, h2, h3⟩⟩ := HIM.out
            · rw [h9] at hlt; simp at hlt
            · injection he with e1 _ e3
              subst h1
              exact ⟨b, off, e1, h2, h3⟩
          obtain ⟨y, hy⟩ : ∃ y, M.getD i v0 = y := ⟨_, rfl⟩
          have HP := Lib.hid (show ∀ w', Below w.heap.size w w' → w'.cell? ⟨ob, ooff + i * 7, none⟩ = some (.string y.1.1) from fun w' hb => by
            have := (iv_cells hb hbw hcell i hlt).1
            rwa [hy] at this)
          have HMEM := Lib.hid (show y.1 ∈ F.nodes by rw [← hy, getD_at hlt, ← HM.out]; exact List.mem_map.2 ⟨_, List.getElem_mem hlt, rfl⟩)
          obtain ⟨d, hd⟩ : ∃ d, y.1.1 = d := ⟨_, rfl⟩
          rw [hd] at HP
          have HDD := Lib.hid hd
          have HD32 := Lib.hid (show d.size ≤ 1000000 by rw [← hd]; have := HW.out.d32 y.1 (List.mem_append_left _ HMEM.out); omega)
          have HHAS := Lib.hid (show hasF F d = true from (has_iff F d).2 (Or.inr ⟨y.1, HMEM.out, hd⟩))
          clear hi hlt hbw hcell hy hd
          have q0 := HP.out wr (K0.out.trans (ZX.out.mono K0.out.size))
          go_upto_region 12 with fail
          clear d0 d1 d2 d3 d4 q0 hlt'
          go_wp2_with fail
          refine (gget_any (HC.out.on (K0.out.trans (ZX.out.mono K0.out.size))) d HD32.out).mono ?_
          rintro e w2 ⟨b, bb, hgot, a0, cap, a1, cap1, rfl, hsn, hrn, hon, hb2⟩
          obtain ⟨rfl, hbm⟩ := got_node (x := y.1) HMEM.out (HDD.out ▸ hgot)
          have HBD := Lib.hid (show digI b = d by have := HDG.out _ (List.mem_append_left _ hbm); rw [← this]; exact HDD.out)
          have HBS := Lib.hid (HSM.out _ hbm)
          have HSI := Lib.hid (And.intro hsn.sigs hrn)
          have Z2 := Lib.hid (ZX.out.trans (hb2.mono ZX.out.size))
          obtain ⟨pv, hpv⟩ : ∃ pv, viewI b = pv := ⟨_, rfl⟩
          obtain ⟨pp, hpp⟩ : ∃ pp, propI b = pp := ⟨_, rfl⟩
          obtain ⟨pj, hpj⟩ : ∃ pj, jvI b = pj := ⟨_, rfl⟩
          obtain ⟨pk, hpk⟩ : ∃ pk, parI b = pk := ⟨_, rfl⟩
          have HPE := Lib.hid (show viewI b = pv ∧ propI b = pp ∧ jvI b = pj ∧ parI b = pk from ⟨hpv, hpp, hpj, hpk⟩)
          rw [hpv, hpp, hpj, hpk]
          obtain ⟨m1, hm1⟩ : ∃ m, (sigsI b).length = m := ⟨_, rfl⟩
          obtain ⟨m2, hm2⟩ : ∃ m, b.2.length = m := ⟨_, rfl⟩
          rw [hm1, hm2] at HSI ⊢
          clear hgot hsn hrn hon hb2 hbm hpv hpp hpj hpk hm1 hm2
          have A3 := Lib.hid ((Below.refl w2.heap.size w2).alloc (Nat.le_refl _) (.cells #[.int .i64 pv, .int .i64 pp, .int .i64 pj, .string pk, .slice a0 m1 cap, .slice a1 m2 cap1] 29))
          have L3 := Lib.hid (show Blk (w2.alloc (.cells #[.int .i64 pv, .int .i64 pp, .int .i64 pj, .string pk, .slice a0 m1 cap, .slice a1 m2 cap1] 29)) w2.heap.size 6 (rowL [.int .i64 pv, .int .i64 pp, .int .i64 pj, .string pk, .slice a0 m1 cap, .slice a1 m2 cap1]) from Blk.new' rfl rfl)
          go_upto_region 13 with fail
          have Z3 := Lib.hid (Z2.out.trans (A3.out.mono Z2.out.size))
          obtain ⟨y9, hy9⟩ : ∃ y9, w2.heap.size = y9 := ⟨_, rfl⟩
          rw [hy9] at L3 ⊢
          obtain ⟨w3, hw3⟩ : ∃ w3, w2.alloc (.cells #[.int .i64 pv, .int .i64 pp, .int .i64 pj, .string pk, .slice a0 m1 cap, .slice a1 m2 cap1] 29) = w3 := ⟨_, rfl⟩
          have HSI3 := Lib.hid (And.intro (HSI.out.1.later A3.out) (HSI.out.2.later A3.out))
          rw [hw3] at L3 Z3 HSI3 ⊢
          clear hw3 hy9 A3 HSI
          have HBX := Lib.hid (fun (wy : World) (hb : Below w3.heap.size w3 wy) => show wy.cell? ⟨y9, 0, none⟩ = some (.int .i64 pv) ∧ wy.cell? ⟨y9, 1, none⟩ = some (.int .i64 pp) ∧ wy.cell? ⟨y9, 2, none⟩ = some (.int .i64 pj) ∧ wy.cell? ⟨y9, 3, none⟩ = some (.string pk) ∧ wy.cell? ⟨y9, 4, none⟩ = some (.slice a0 m1 cap) ∧ wy.cell? ⟨y9, 5, none⟩ = some (.slice a1 m2 cap1) from by
            have L := L3.out.below hb L3.out.lt
            exact ⟨L.get 0 (by omega), L.get 1 (by omega), L.get 2 (by omega), L.get 3 (by omega), L.get 4 (by omega), L.get 5 (by omega)⟩)
          obtain ⟨hd, hhd⟩ : ∃ hd, heightF F d = hd := ⟨_, rfl⟩
          have HHD := Lib.hid hhd
          have HT1 := Lib.hid (show (d.toList != d.toList) = false by simp)
          have HT2 := Lib.hid (show (hd != hd) = false by simp)
          have HCR := Lib.hid (HC.out.on (K0.out.trans (Z3.out.mono K0.out.size)))
          have HTR := Lib.hid (tabs_on HT.out (K0.out.trans (Z3.out.mono K0.out.size)))
          have HFR := Lib.hid (HFO.out.later (K0.out.trans (Z3.out.mono K0.out.size)))
          clear hhd
          refine plan_abs (fun wy => Below w3.heap.size w3 wy) [(true, 0), (true, 1), (true, 2), (true, 3), (true, 5), (false, 4), (true, 6), (true, 7), (true, 8), (true, 9), (true, 10), (false, 11), (true, 12), (true, 13), (true, 14), (true, 15), (true, 16), (true, 18), (true, 19), (false, 17), (false, 20), (true, 21), (true, 22)] (by kernel_rfl) (by kernel_rfl) (fun _ _ d _ _ h => by cases d <;> exact h) fun w4 hs4 => ⟨hs4.below _, ?_⟩
          have Y4 := Lib.hid (show Below w3.heap.size w3 w4 from hs4.below _)
          clear hs4
          iterate 5 (refine pl_run _ ?_ rfl rfl ?_ ?_; rotate_left; (focus (intro w' hS; obtain ⟨d0, d1, d2, d3, d4⟩ := HS.out w' (Z3.out.trans (hS.mono Z3.out.size)); obtain ⟨p0, p1, p2, p3, p4, p5⟩ := HBX.out w' hS; have t1 := HT1.out; have t2 := HT2.out; go_simp; exact rfl)); simp only [Act.put, List.setIfInBounds_toArray, List.set_cons_zero, List.set_cons_succ, List.getElem_toArray, List.getElem_cons_zero, List.getElem_cons_succ])
          refine pl_call (R := fun u w' => u = .string d ∧ Below w4.heap.size w4 w') _ rfl rfl (by go_simp) ((fu_dig b HBS.out d HBD.out w4 pv pp pj pk HPE.out.1 HPE.out.2.1 HPE.out.2.2.1 HPE.out.2.2.2 _ _ (HSI3.out.1.later Y4.out) (HSI3.out.2.later Y4.out)).mono fun e w' hq => ⟨_, hq.1, rfl, hq.2⟩) (fun u w' h => Y4.out.trans (h.2.mono Y4.out.size)) fun u w5 hr => ?_
          obtain ⟨rfl, hb5⟩ := hr
          have Y5 := Lib.hid (Y4.out.trans (hb5.mono Y4.out.size))
          clear hb5
          simp only [Act.put, List.setIfInBounds_toArray, List.set_cons_zero, List.set_cons_succ, List.getElem_toArray, List.getElem_cons_zero, List.getElem_cons_succ]
          iterate 5 (refine pl_run _ ?_ rfl rfl ?_ ?_; rotate_left; (focus (intro w' hS; obtain ⟨d0, d1, d2, d3, d4⟩ := HS.out w' (Z3.out.trans (hS.mono Z3.out.size)); obtain ⟨p0, p1, p2, p3, p4, p5⟩ := HBX.out w' hS; have t1 := HT1.out; have t2 := HT2.out; go_simp; exact rfl)); simp only [Act.put, List.setIfInBounds_toArray, List.set_cons_zero, List.set_cons_succ, List.getElem_toArray, List.getElem_cons_zero, List.getElem_cons_succ])
          refine pl_call (R := fun u w' => u = .bool true ∧ Below w5.heap.size w5 w') _ rfl rfl (by go_simp) ((ghas_is (HCR.out.on Y5.out) (tabs_on HTR.out Y5.out) d true HHAS.out HD32.out).mono fun e w' hq => ⟨_, hq.1, rfl, hq.2⟩) (fun u w' h => Y5.out.trans (h.2.mono Y5.out.size)) fun u w6 hr => ?_
          obtain ⟨rfl, hb6⟩ := hr
          have Y6 := Lib.hid (Y5.out.trans (hb6.mono Y5.out.size))
          clear hb6
          simp only [Act.put, List.setIfInBounds_toArray, List.set_cons_zero, List.set_cons_succ, List.getElem_toArray, List.getElem_cons_zero, List.getElem_cons_succ]
          iterate 7 (refine pl_run _ ?_ rfl rfl ?_ ?_; rotate_left; (focus (intro w' hS; obtain ⟨d0, d1, d2, d3, d4⟩ := HS.out w' (Z3.out.trans (hS.mono Z3.out.size)); obtain ⟨p0, p1, p2, p3, p4, p5⟩ := HBX.out w' hS; have t1 := HT1.out; have t2 := HT2.out; go_simp; exact rfl)); simp only [Act.put, List.setIfInBounds_toArray, List.set_cons_zero, List.set_cons_succ, List.getElem_toArray, List.getElem_cons_zero, List.getElem_cons_succ])
          refine pl_call (R := fun u w' => u = .int .i64 hd ∧ Below w6.heap.size w6 w') _ rfl rfl (by go_simp) ((gheight_any (HCR.out.on Y6.out) (tabs_on HTR.out Y6.out) d HD32.out).mono fun e w' hq => ⟨_, hq.1, by rw [HHD.out], hq.2⟩) (fun u w' h => Y6.out.trans (h.2.mono Y6.out.size)) fun u w7 hr => ?_
          obtain ⟨rfl, hb7⟩ := hr
          have Y7 := Lib.hid (Y6.out.trans (hb7.mono Y6.out.size))
          clear hb7
          simp only [Act.put, List.setIfInBounds_toArray, List.set_cons_zero, List.set_cons_succ, List.getElem_toArray, List.getElem_cons_zero, List.getElem_cons_succ]
          refine pl_call (R := fun u w' => u = .int .i64 hd ∧ Below w7.heap.size w7 w') _ rfl rfl (by go_simp) ((fheight_any F d _ _ w7 (HFR.out.later Y7.out) (by rw [← HML.out]; have := HLM.out; omega) HHT.out.1 HHT.out.2).mono fun e w' hq => ⟨_, hq.1, by rw [HHD.out], hq.2⟩) (fun u w' h => Y7.out.trans (h.2.mono Y7.out.size)) fun u w8 hr => ?_
          obtain ⟨rfl, hb8⟩ := hr
          have Y8 := Lib.hid (Y7.out.trans (hb8.mono Y7.out.size))
          clear hb8
          simp only [Act.put, List.setIfInBounds_toArray, List.set_cons_zero, List.set_cons_succ, List.getElem_toArray, List.getElem_cons_zero, List.getElem_cons_succ]
          iterate 2 (refine pl_run _ ?_ rfl rfl ?_ ?_; rotate_left; (focus (intro w' hS; obtain ⟨d0, d1, d2, d3, d4⟩ := HS.out w' (Z3.out.trans (hS.mono Z3.out.size)); obtain ⟨p0, p1, p2, p3, p4, p5⟩ := HBX.out w' hS; have t1 := HT1.out; have t2 := HT2.out; go_simp; exact rfl)); simp only [Act.put, List.setIfInBounds_toArray, List.set_cons_zero, List.set_cons_succ, List.getElem_toArray, List.getElem_cons_zero, List.getElem_cons_succ])
          refine pl_end ?_
          have Z8 := Lib.hid (Z3.out.trans (Y8.out.mono Z3.out.size))
          clear Y4 Y5 Y6 Y7 Y8
          go_wp2_with fail
          go_roundw
          case rel => exact ⟨i + 1, by have := HLT.out; omega, by go_num, Z8.out⟩
          case measure => have := HLT.out; simp [intOf]; omega
        · obtain rfl : i = M.length := by omega
          have hlt' : ¬ ((M.length : Nat) : Int) < (M.length : Int) := by omega
          clear hi hlt
          have HHR := Lib.hid (show hasF F F.root = true from (has_iff F _).2 (Or.inl rfl))
          have HR32 := Lib.hid (show F.root.size ≤ 1000000 by rw [HW.out.root32]; omega)
          go_wp2_with fail
          refine (gget_any (HC.out.on (K0.out.trans (ZX.out.mono K0.out.size))) F.root HR32.out).mono ?_
          rintro e w2 ⟨b, bb, hgot, a0, cap, a1, cap1, rfl, hsn, hrn, hon, hb2⟩
          obtain rfl := got_root HW.out hgot
          have Z2 := Lib.hid (ZX.out.trans (hb2.mono ZX.out.size))
          obtain ⟨m1, hm1⟩ : ∃ m, (sigsI b).length = m := ⟨_, rfl⟩
          obtain ⟨m2, hm2⟩ : ∃ m, b.2.length = m := ⟨_, rfl⟩
          rw [hm1, hm2]
          clear hgot hsn hrn hon hb2 hm1 hm2 d0 d1 d2 d3 d4
          have A3 := Lib.hid (Z2.out.alloc Z2.out.size (.cells #[.int .i64 (viewI b), .int .i64 (propI b), .int .i64 (jvI b), .string (parI b), .slice a0 m1 cap, .slice a1 m2 cap1] 29))
          obtain ⟨d0, d1, d2, d3, d4⟩ := HS.out _ A3.out
          go_wp2_with fail
          refine (ghas_is (HC.out.on (K0.out.trans (A3.out.mono K0.out.size))) (tabs_on HT.out (K0.out.trans (A3.out.mono K0.out.size))) F.root true HHR.out HR32.out).mono ?_
          rintro e w4 ⟨rfl, hb4⟩
          have Z4 := Lib.hid (A3.out.trans (hb4.mono A3.out.size))
          clear hb4
          go_wp2_with fail
          go_ret
          exact ⟨rfl, K0.out.trans (Z4.out.mono K0.out.size)⟩
end Go.Proofs.YtegkhhegapnkpaaDoor
end
section
open Go Go.RowKit
namespace FF
open WW BB JJ
def fewI (b : BlockD) : Bool := fewBlock (parI b) (sigsI b) b.2
/-- it fits into memory -/
def MemI (b : BlockD) : Prop := MemS (sigsI b) ∧ (parI b).size ≤ 9223372036854775807 ∧ b.2.length ≤ 9223372036854775807
theorem few_smallI {b : BlockD} (h : fewI b = true) : SmallI b := by
  have := few_smallB h
  exact ⟨this.1, this.2.1, this.2.2.1⟩
/-- what Few tells -/
def FewAns (M : List Bv) (n : Int) (w : World) (e : Ending) (w' : World) : Prop :=
  ∃ X : Bool, e = .returned (.bool X) ∧ (X = true → (M.length : Int) ≤ n ∧ ∀ i, i < M.length → i < 100 → fewI (M.getD i vb0).1 = true) ∧ Below w.heap.size w w'
end FF
namespace Go.Proofs.YtegkhhegapnkpaaDoor
open FF JJ CC MM WW BB
set_option maxRecDepth 100000 in
set_option maxHeartbeats 4000000 in
theorem few_any (M : List Bv) (v : Value) (n : Int) (w : World) (hv : BvAt w v M) (hm : ∀ x ∈ M, MemI x.1) (hl : M.length ≤ 9223372036854775807) :
    Calls Tryd.prog 27 #[v, .int .i64 n] w (FewAns M n w) := by
  have HV := Lib.hid hv
  have HM := Lib.hid hm
  have HL := Lib.hid hl
  obtain ⟨a0, cap, rfl⟩ := bv_shape hv
  clear hv hm hl
  go_enter Tryd.func27, Tryd.ntmps27
  go_wp2_with fail
  go_loopw [5] (fun y wr => ∃ i : Nat, i ≤ M.length ∧ i ≤ 100 ∧ y = .int .i64 (i : Int) ∧ (∀ j, j < i → fewI (M.getD j vb0).1 = true) ∧ Below w.heap.size w wr) (fun y _ => 100 - (intOf y).toNat)
  case atStart => exact ⟨0, Nat.zero_le _, by omega, rfl, fun j hj => absurd hj (Nat.not_lt_zero _), Below.refl _ _⟩
  case round =>
    obtain ⟨i, hi, h100, rfl, hall, hb⟩ := hrel
    have HALL := Lib.hid hall
    have HB := Lib.hid hb
    have i0 : (0 : Int) ≤ (i : Int) := by omega
    have ib : (i : Int) ≤ 100 := by omega
    clear hall hb
    by_cases hlt : i < M.length ∧ i < 100
    · obtain ⟨hlt, h9⟩ := hlt
      have hlt' : (i : Int) < (M.length : Int) := by omega
      have h9' : (i : Int) < 100 := by omega
      have HLT := Lib.hid (And.intro hlt h9)
      obtain ⟨lb, loff, rfl, _, _, hat⟩ := bv_at HV.out 0 (by omega)
      obtain ⟨c0, c1, c2, c3, c4, c5, hin⟩ := hat wr HB.out i hlt
      obtain ⟨P, hP⟩ : ∃ P, M.getD i vb0 = P := ⟨_, rfl⟩
      have HPP := Lib.hid hP
      have HMM := Lib.hid (show MemI P.1 by rw [← hP, getD_at hlt]; exact HM.out _ (List.getElem_mem hlt))
      rw [hP] at c0 c1 c2 c3 c4 c5 hin
      obtain ⟨⟨x, s4, s5⟩, rfl⟩ : ∃ Q, P = Q := ⟨P, rfl⟩
      obtain ⟨e5, n5, h5⟩ := sl_of_sigs hin.1
      obtain ⟨e6, n6, h6⟩ := sl_of_reqs hin.2
      replace h5 : s4 = .slice e5 (sigsI x).length n5 := h5
      replace h6 : s5 = .slice e6 x.2.length n6 := h6
      subst h5 h6
      have HIN := Lib.hid hin
      obtain ⟨bb, hbb⟩ : ∃ bb, fewI x = bb := ⟨_, rfl⟩
      have HBB := Lib.hid hbb
      clear hi h100 hlt h9 hat hP hin hbb
      go_wp2_with fail
      refine (fewblock6_is (viewI x) (propI x) (jvI x) (parI x) _ _ (sigsI x) x.2 bb HBB.out wr HIN.out.1 HIN.out.2 HMM.out.1 HMM.out.2.1 HMM.out.2.2).mono ?_
      rintro e w2 ⟨rfl, hb2⟩
      have B2 := Lib.hid (HB.out.trans (hb2.mono HB.out.size))
      clear hb2 c0 c1 c2 c3 c4 c5
      cases bb
      · go_wp2_with fail
        go_ret
        exact ⟨false, rfl, (fun h => by cases h), B2.out⟩
      · go_wp2_with fail
        go_roundw
        case rel => exact ⟨i + 1, by have := HLT.out; omega, by have := HLT.out; omega, by go_num, fun j hj => if h : j = i then by subst h; rw [HPP.out]; exact HBB.out else HALL.out j (by omega), B2.out⟩
        case measure => have := HLT.out; simp [intOf]; omega
    · have HN := Lib.hid hlt
      have HI := Lib.hid (And.intro hi h100)
      have HLE := Lib.hid (show (M.length : Int) ≤ 9223372036854775807 by have := HL.out; omega)
      obtain ⟨X, hX⟩ : ∃ X : Bool, decide ((M.length : Int) ≤ n) = X := ⟨_, rfl⟩
      have HX := Lib.hid hX
      by_cases h1 : i < M.length
      · have h1' : (i : Int) < (M.length : Int) := by omega
        have h2' : ¬ (i : Int) < 100 := by omega
        clear hi h100 hlt h1
        go_wp2_with fail
        go_ret
        refine ⟨X, rfl, fun h => ⟨of_decide_eq_true (by rw [HX.out]; exact h), fun j hj h9 => HALL.out j ?_⟩, HB.out⟩
        have := HI.out; have := HN.out; omega
      · have h1' : ¬ (i : Int) < (M.length : Int) := by omega
        clear hi h100 hlt h1
        go_wp2_with fail
        go_ret
        refine ⟨X, rfl, fun h => ⟨of_decide_eq_true (by rw [HX.out]; exact h), fun j hj h9 => HALL.out j ?_⟩, HB.out⟩
        have := HI.out; have := HN.out; omega
end Go.Proofs.YtegkhhegapnkpaaDoor
end
