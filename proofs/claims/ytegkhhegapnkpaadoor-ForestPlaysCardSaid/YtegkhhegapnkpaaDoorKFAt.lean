/-
  The walks of the reference's At and Has.
-/
import Derived.Test.YtegkhhegapnkpaaDoorKWCutR
import Derived.Test.YtegkhhegapnkpaaDoorKWFewB
import Derived.Test.YtegkhhegapnkpaaDoorKEEq
import Derived.Laws.AppendOwn
section
open Go Go.RowKit
namespace FF
open WW BB
/-- an item, with its two slices -/
abbrev Iv := It × Value × Value
def v0 : Iv := (i0, .slice none 0 0, .slice none 0 0)
def encV (x : Iv) : List Value := [.string x.1.1, .int .i64 (viewI x.1.2), .int .i64 (propI x.1.2), .int .i64 (jvI x.1.2), .string (parI x.1.2), x.2.1, x.2.2]
/-- its two slices are what they should be -/
def InnV (w : World) (x : Iv) : Prop := SigsAt w x.2.1 (sigsI x.1.2) ∧ ReqsAt w x.2.2 x.1.2.2
theorem InnV.later {w w' : World} {x : Iv} (h : InnV w x) (hb : Below w.heap.size w w') : InnV w' x := ⟨h.1.later hb, h.2.later hb⟩
/-- v is a slice of the items L -/
def IvAt (w : World) (v : Value) (L : List Iv) : Prop :=
  ∃ a0 cap, v = .slice a0 L.length cap ∧ (L = [] ∨ ∃ b off, a0 = some ⟨b, off, none⟩ ∧ b < w.heap.size ∧
    ∀ i, i < L.length → (∀ j u, (encV (L.getD i v0))[j]? = some u → w.cell? ⟨b, off + i * 7 + j, none⟩ = some u) ∧ InnV w (L.getD i v0))
theorem IvAt.later {w w' : World} {v : Value} {L : List Iv} (h : IvAt w v L) (hb : Below w.heap.size w w') : IvAt w' v L := by
  obtain ⟨a0, cap, rfl, h | ⟨b, off, rfl, hl, hc⟩⟩ := h
  · exact ⟨a0, cap, rfl, Or.inl h⟩
  · refine ⟨_, cap, rfl, Or.inr ⟨b, off, rfl, Nat.lt_of_lt_of_le hl hb.size, fun i hi => ?_⟩⟩
    obtain ⟨h1, h2⟩ := hc i hi
    exact ⟨fun j u hu => (hb.cell (p := ⟨b, off + i * 7 + j, none⟩) hl).trans (h1 j u hu), h2.later hb⟩
theorem iv_nil (w : World) (a : Option Addr) (c : Nat) : IvAt w (.slice a 0 c) [] := ⟨a, c, rfl, Or.inl rfl⟩
theorem iv_shape {w : World} {v : Value} {L : List Iv} (h : IvAt w v L) : ∃ a c, v = .slice a L.length c := by
  obtain ⟨a, c, rfl, _⟩ := h; exact ⟨a, c, rfl⟩
theorem iv_inn {w : World} {v : Value} {L : List Iv} (h : IvAt w v L) : ∀ x ∈ L, InnV w x := by
  intro x hx
  obtain ⟨a0, cap, rfl, h | ⟨b, off, rfl, hl, hc⟩⟩ := h
  · subst h; cases hx
  · obtain ⟨i, hi, rfl⟩ := List.getElem_of_mem hx
    have := (hc i hi).2
    rwa [show L.getD i v0 = L[i] by simp [List.getD, List.getElem?_eq_getElem hi]] at this
/-- an item's seven cells, spelled out -/
theorem iv_cells {w wr : World} {L : List Iv} {b off : Nat} (hb : Below w.heap.size w wr) (hl : b < w.heap.size) (hc : ∀ i, i < L.length → (∀ j u, (encV (L.getD i v0))[j]? = some u → w.cell? ⟨b, off + i * 7 + j, none⟩ = some u) ∧ InnV w (L.getD i v0)) (i : Nat) (hi : i < L.length) :
    wr.cell? ⟨b, off + i * 7, none⟩ = some (.string (L.getD i v0).1.1) ∧ wr.cell? ⟨b, off + i * 7 + 1, none⟩ = some (.int .i64 (viewI (L.getD i v0).1.2)) ∧ wr.cell? ⟨b, off + i * 7 + 2, none⟩ = some (.int .i64 (propI (L.getD i v0).1.2)) ∧ wr.cell? ⟨b, off + i * 7 + 3, none⟩ = some (.int .i64 (jvI (L.getD i v0).1.2)) ∧ wr.cell? ⟨b, off + i * 7 + 4, none⟩ = some (.string (parI (L.getD i v0).1.2)) ∧ wr.cell? ⟨b, off + i * 7 + 5, none⟩ = some (L.getD i v0).2.1 ∧ wr.cell? ⟨b, off + i * 7 + 6, none⟩ = some (L.getD i v0).2.2 := by
  have h := (hc i hi).1
  have k : ∀ j u, (encV (L.getD i v0))[j]? = some u → wr.cell? ⟨b, off + i * 7 + j, none⟩ = some u := fun j u hu => (hb.cell (p := ⟨b, off + i * 7 + j, none⟩) hl).trans (h j u hu)
  exact ⟨k 0 _ rfl, k 1 _ rfl, k 2 _ rfl, k 3 _ rfl, k 4 _ rfl, k 5 _ rfl, k 6 _ rfl⟩
theorem map_getD (L : List Iv) (i : Nat) (h : i < L.length) : (L.map Prod.fst).getD i i0 = (L.getD i v0).1 := by
  simp [List.getD, List.getElem?_eq_getElem h]
/-- the cells of items -/
def cellsV (L : List Iv) : List Value := (L.map encV).flatten
theorem cellsV_snoc (L : List Iv) (x : Iv) : cellsV (L ++ [x]) = cellsV L ++ encV x := by unfold cellsV; rw [List.map_append, List.flatten_append]; simp
theorem cellsV_len (L : List Iv) : (cellsV L).length = L.length * 7 := by
  induction L with
  | nil => rfl
  | cons x r ih => show (encV x ++ cellsV r).length = _; rw [List.length_append, ih, List.length_cons]; simp [encV]; omega
theorem cellsV_at : ∀ (L : List Iv) (i j : Nat) (u : Value), i < L.length → (encV (L.getD i v0))[j]? = some u → (cellsV L)[i * 7 + j]? = some u
  | [], i, j, u, h, _ => by simp at h
  | x :: r, 0, j, u, _, hu => by
    show (encV x ++ cellsV r)[0 * 7 + j]? = some u
    have hu' : (encV x)[j]? = some u := hu
    have hj : j < (encV x).length := (List.getElem?_eq_some_iff.1 hu').1
    rw [Nat.zero_mul, Nat.zero_add, List.getElem?_append_left hj]; exact hu'
  | x :: r, i + 1, j, u, h, hu => by
    show (encV x ++ cellsV r)[(i + 1) * 7 + j]? = some u
    have hx : (encV x).length = 7 := rfl
    rw [show (i + 1) * 7 + j = 7 + (i * 7 + j) by omega, List.getElem?_append_right (by omega), hx, Nat.add_sub_cancel_left]
    exact cellsV_at r i j u (by simpa using h) (by simpa [List.getD] using hu)
theorem iv_of_own {w : World} {B : Nat} {e : TypeId} {v : Value} {L : List Iv} (h : w.ownsRow B e 7 v L.length (cellsV L)) (hi : ∀ x ∈ L, InnV w x) : IvAt w v L := by
  rcases h.2 with ⟨rfl, h0⟩ | ⟨g, cap, cur, rfl, hg, hh, hn, hcm, hsz, htk⟩
  · exact ⟨none, 0, by rw [h0], Or.inl (List.eq_nil_of_length_eq_zero h0)⟩
  · have hcell : ∀ j u, j < L.length * 7 → (cellsV L)[j]? = some u → w.cell? ⟨g, j, none⟩ = some u := fun j u hj hu => by
      rw [← htk, List.getElem?_take_of_lt hj, Array.getElem?_toList] at hu
      unfold World.cell?; rw [hh]; simpa using hu
    refine ⟨_, cap, rfl, Or.inr ⟨g, 0, rfl, (Array.getElem?_eq_some_iff.1 hh).1, fun i hil => ⟨fun j u hu => ?_, ?_⟩⟩⟩
    · have hj : j < 7 := (List.getElem?_eq_some_iff.1 hu).1
      rw [Nat.zero_add]
      exact hcell _ _ (by omega) (cellsV_at L i j u hil hu)
    · exact hi _ (by rw [List.getD_eq_getElem?_getD, List.getElem?_eq_getElem hil]; exact List.getElem_mem hil)
theorem cells1_new (w : World) (h : ByteArray) (t : TypeId) : ∀ j u, [Value.string h][j]? = some u → (w.alloc (.cells #[.string h] t)).cell? ((⟨w.heap.size, 0, none⟩ : Addr).add j) = some u := by
  intro j u hj
  match j, hj with
  | 0, hj => simp at hj; subst hj; rw [Addr.add_lit]; exact cell_new w _ t 0 _ rfl
  | j + 1, hj => simp at hj
theorem cells1_one (h : ByteArray) : ∀ u ∈ [Value.string h], u.oneCell' = true := by
  intro u hu; simp at hu; subst hu; rfl
/-- a slice that shows its constructor -/
def isSl (v : Value) : Prop := ∃ a n c, v = .slice a n c
theorem sl_of_sigs {w : World} {v : Value} {l : List (Int × List ByteArray)} (h : SigsAt w v l) : ∃ a c, v = .slice a l.length c := by
  obtain ⟨a, c, rfl, _⟩ := h; exact ⟨a, c, rfl⟩
theorem sl_of_reqs {w : World} {v : Value} {l : List (Int × Int × ByteArray)} (h : ReqsAt w v l) : ∃ a c, v = .slice a l.length c := by
  obtain ⟨a, c, rfl, _⟩ := h; exact ⟨a, c, rfl⟩
theorem encV_one {w : World} {x : Iv} (h : InnV w x) : ∀ u ∈ encV x, u.oneCell' = true := by
  obtain ⟨a1, c1, h1⟩ := sl_of_sigs h.1
  obtain ⟨a2, c2, h2⟩ := sl_of_reqs h.2
  intro u hu
  unfold encV at hu
  rw [h1, h2] at hu
  simp only [List.mem_cons, List.not_mem_nil, or_false] at hu
  rcases hu with rfl | rfl | rfl | rfl | rfl | rfl | rfl <;> rfl
theorem cellsV_one {w : World} {L : List Iv} (h : ∀ x ∈ L, InnV w x) : ∀ u ∈ cellsV L, u.oneCell' = true := by
  intro u hu
  unfold cellsV at hu
  rw [List.mem_flatten] at hu
  obtain ⟨c, hc, hu⟩ := hu
  obtain ⟨x, hx, rfl⟩ := List.mem_map.1 hc
  exact encV_one (h x hx) u hu
/-- the forest F, by its two slices -/
def FoAt (w : World) (F : Fo) (nv ov : Value) : Prop := ∃ N O : List Iv, N.map Prod.fst = F.nodes ∧ O.map Prod.fst = F.orph ∧ IvAt w nv N ∧ IvAt w ov O
theorem FoAt.later {w w' : World} {F : Fo} {nv ov : Value} (h : FoAt w F nv ov) (hb : Below w.heap.size w w') : FoAt w' F nv ov := by
  obtain ⟨N, O, h1, h2, h3, h4⟩ := h
  exact ⟨N, O, h1, h2, h3.later hb, h4.later hb⟩
end FF
end
section
open Go Go.RowKit
namespace FF
open WW BB
theorem ba_beq {a b : ByteArray} (h : a ≠ b) : (a.toList == b.toList) = false := by
  rw [beq_eq_false_iff_ne]; exact fun e => h (CC.ba_toList e)
theorem at_nonneg (l : List It) (h : ByteArray) : (0 : Int) ≤ atI l h ∨ atI l h = -1 := by have := at_bound l h; omega
end FF
namespace Go.Proofs.YtegkhhegapnkpaaDoor
open FF CC WW BB
set_option maxRecDepth 100000 in
set_option maxHeartbeats 4000000 in
theorem fat_any (L : List Iv) (v : Value) (h : ByteArray) (w : World) (hv : IvAt w v L) (hl : L.length ≤ 1000) :
    Calls Tryd.prog 91 #[v, .string h] w fun e w' => e = .returned (.int .i64 (atI (L.map Prod.fst) h)) ∧ w = w' := by
  have HV := Lib.hid hv
  have HL := Lib.hid hl
  obtain ⟨a0, cap, rfl, hx⟩ := hv
  have HX := Lib.hid hx
  obtain ⟨X, hX⟩ : ∃ X, atI (L.map Prod.fst) h = X := ⟨_, rfl⟩
  have HTX := Lib.hid hX
  rw [hX]
  clear hl hx hX
  go_enter Tryd.func91, Tryd.ntmps91
  go_wp2_with fail
  go_loopw [5] (fun x wr => ∃ i : Nat, i ≤ L.length ∧ x = .int .i64 (i : Int) ∧ (∀ j, j < i → (L.getD j v0).1.1 ≠ h) ∧ w = wr) (fun x _ => L.length - (intOf x).toNat)
  case atStart => exact ⟨0, Nat.zero_le _, rfl, fun j hj => absurd hj (Nat.not_lt_zero _), rfl⟩
  case round =>
    obtain ⟨i, hi, rfl, hall, rfl⟩ := hrel
    have HALL := Lib.hid hall
    have i0 : (0 : Int) ≤ (i : Int) := by omega
    have ib : (i : Int) ≤ 1000 := by have := HL.out; omega
    clear hall
    by_cases hlt : i < L.length
    · have hlt' : (i : Int) < (L.length : Int) := by omega
      have HLT := Lib.hid hlt
      obtain ⟨b, off, rfl, hbw, hcell⟩ : ∃ b off, a0 = some ⟨b, off, none⟩ ∧ b < w.heap.size ∧ _ := by
        rcases HX.out with h | h
        · subst h; simp at hlt
        · exact h
      obtain ⟨q0, _⟩ := iv_cells (Below.refl _ w) hbw hcell i hlt
      obtain ⟨x, hx⟩ : ∃ x, (L.getD i v0).1.1 = x := ⟨_, rfl⟩
      have HXX := Lib.hid hx
      rw [hx] at q0
      clear hi hlt hbw hcell hx
      by_cases he : x = h
      · subst he
        have t1 : (x.toList == x.toList) = true := by simp
        go_wp2_with fail
        go_ret
        refine ⟨?_, rfl⟩
        rw [← HTX.out, at_hit i (by rw [List.length_map]; exact HLT.out) (fun j hj => by rw [map_getD L j (by have := HLT.out; omega)]; exact HALL.out j hj) (by rw [map_getD L i HLT.out]; exact HXX.out)]
        rfl
      · have t1 := ba_beq he
        have HE := Lib.hid he
        clear he
        go_wp2_with fail
        go_roundw
        case rel => exact ⟨i + 1, by have := HLT.out; omega, by go_num, fun j hj => if h : j = i then by subst h; rw [HXX.out]; exact HE.out else HALL.out j (by omega), trivial⟩
        case measure => have := HLT.out; simp [intOf]; omega
    · obtain rfl : i = L.length := by omega
      have hlt' : ¬ (L.length : Int) < (L.length : Int) := by omega
      clear hi hlt
      go_wp2_with fail
      go_ret
      refine ⟨?_, rfl⟩
      rw [← HTX.out, at_none (fun j hj => by rw [List.length_map] at hj; rw [map_getD L j hj]; exact HALL.out j hj)]
      rfl
theorem fat_is (L : List Iv) (l : List It) (v : Value) (h : ByteArray) (x : Int) (hl : L.map Prod.fst = l) (hx : atI l h = x) (w : World) (hv : IvAt w v L) (hn : L.length ≤ 1000) :
    Calls Tryd.prog 91 #[v, .string h] w fun e w' => e = .returned (.int .i64 x) ∧ w = w' := by
  subst hl hx; exact fat_any L v h w hv hn
set_option maxRecDepth 100000 in
set_option maxHeartbeats 4000000 in
theorem fhas_any (F : Fo) (h : ByteArray) (nv ov : Value) (w : World) (hv : FoAt w F nv ov) (hl : F.nodes.length ≤ 1000) :
    Calls Tryd.prog 89 #[.agg #[.string F.root, .int .i64 F.height, nv, ov], .string h] w fun e w' => e = .returned (.bool (hasF F h)) ∧ Below w.heap.size w w' := by
  obtain ⟨N, O, hN, hO, hn, ho⟩ := hv
  have HN := Lib.hid hN
  have HIN := Lib.hid hn
  have HL := Lib.hid (show N.length ≤ 1000 by rw [← hN, List.length_map] at hl; exact hl)
  obtain ⟨na, nc, rfl⟩ := iv_shape hn
  obtain ⟨oa, oc, rfl⟩ := iv_shape ho
  obtain ⟨X, hX⟩ : ∃ X, atI F.nodes h = X := ⟨_, rfl⟩
  have HX := Lib.hid hX
  have HXB := Lib.hid (at_nonneg F.nodes h)
  clear hN hO hn ho hX hl
  have b1 := Lib.hid ((Below.refl w.heap.size w).alloc (Nat.le_refl _) (.cells #[.string F.root, .int .i64 F.height, .slice na N.length nc, .slice oa O.length oc] 54))
  by_cases he : h = F.root
  · have t1 : (h.toList == F.root.toList) = true := by rw [he]; simp
    have HE := Lib.hid he
    clear he
    go_enter Tryd.func89, Tryd.ntmps89
    go_wp2_with fail
    go_ret
    refine ⟨?_, b1.out⟩
    unfold hasF; rw [show decide (h = F.root) = true by simpa using HE.out]; rfl
  · have t1 := ba_beq he
    have HE := Lib.hid he
    clear he
    go_enter Tryd.func89, Tryd.ntmps89
    go_wp2_with fail
    refine (fat_is N F.nodes _ h X HN.out HX.out _ (HIN.out.later b1.out) HL.out).mono ?_
    rintro e w2 ⟨rfl, rfl⟩
    by_cases hx : 0 ≤ X
    · have HXX := Lib.hid hx
      go_wp2_with fail
      go_ret
      refine ⟨?_, b1.out⟩
      unfold hasF; rw [HX.out, show decide (0 ≤ X) = true by simpa using HXX.out]; simp
    · have HXX := Lib.hid hx
      go_wp2_with fail
      go_ret
      refine ⟨?_, b1.out⟩
      unfold hasF; rw [HX.out, show decide (0 ≤ X) = false by simpa using HXX.out, show decide (h = F.root) = false by simpa using HE.out]; rfl
theorem fhas_is (F : Fo) (h : ByteArray) (b : Bool) (hb : hasF F h = b) (nv ov : Value) (w : World) (hv : FoAt w F nv ov) (hl : F.nodes.length ≤ 1000) :
    Calls Tryd.prog 89 #[.agg #[.string F.root, .int .i64 F.height, nv, ov], .string h] w fun e w' => e = .returned (.bool b) ∧ Below w.heap.size w w' := hb ▸ fhas_any F h nv ov w hv hl
end Go.Proofs.YtegkhhegapnkpaaDoor
end
