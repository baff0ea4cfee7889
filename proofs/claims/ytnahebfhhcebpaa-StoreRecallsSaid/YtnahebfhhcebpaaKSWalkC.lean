/-
  The walk of the code's Crash.
-/
import Derived.Test.YtnahebfhhcebpaaKSRunM
import Derived.Test.YtnahebfhhcebpaaKFAdopt
import Derived.Laws.IdiomCopy
import Derived.Laws.IdiomStrings
import Derived.Lib.AppendStr
import Derived.BigQuiet
import Derived.Test.YtnahebfhhcebpaaKPlanE
import Derived.Test.YtnahebfhhcebpaaKWFewS
section
open Go Go.RowKit
namespace SS
open WW BB FF
/-- the bytes bs lie in block b from off on -/
def BAt (w : World) (b off : Nat) (bs : ByteArray) : Prop := ∀ i, i < bs.size → w.cell? ⟨b, off + i, none⟩ = some (cb (sb bs.data.toList) i)
theorem sb_ext (bs : ByteArray) (i j k : Nat) (h : k < j - i) : sb (bs.extract i j).data.toList k = sb bs.data.toList (i + k) := by
  unfold sb
  rw [ext_list, List.getD_eq_getElem?_getD, List.getD_eq_getElem?_getD, List.getElem?_take_of_lt h, List.getElem?_drop]
theorem sb_app0 (a s : ByteArray) (i : Nat) (h : i < a.size) : sb (a ++ s).data.toList i = sb a.data.toList i := by
  unfold sb
  rw [app_list, List.getD_eq_getElem?_getD, List.getD_eq_getElem?_getD, List.getElem?_append_left (by rw [ba_list]; exact h)]
theorem sb_app1 (a s : ByteArray) (i : Nat) (h : a.size ≤ i) : sb (a ++ s).data.toList i = sb s.data.toList (i - a.size) := by
  unfold sb
  rw [app_list, List.getD_eq_getElem?_getD, List.getD_eq_getElem?_getD, List.getElem?_append_right (by rw [ba_list]; exact h), ba_list]
theorem BAt.ext {w : World} {b off : Nat} {bs : ByteArray} (h : BAt w b off bs) (i j : Nat) (hj : j ≤ bs.size) : BAt w b (off + i) (bs.extract i j) := by
  intro k hk
  rw [ByteArray.size_extract] at hk
  rw [Nat.add_assoc, h (i + k) (by omega)]
  show some (Value.int .u8 ((sb bs.data.toList (i + k) : Nat) : Int)) = some (Value.int .u8 ((sb (bs.extract i j).data.toList k : Nat) : Int))
  rw [sb_ext bs i j k (by omega)]
theorem BAt.of_heap {w w' : World} {b off : Nat} {bs : ByteArray} (h : BAt w b off bs) (e : w'.heap[b]? = w.heap[b]?) : BAt w' b off bs := fun i hi => (World.cell?_of_block (a := ⟨b, off + i, none⟩) e).trans (h i hi)
theorem run_string_bat {P : Program} {w : World} {src dst e : TypeId} {b off cap : Nat} {bs : ByteArray} (h : BAt w b off bs) (hs : P.underlying src = some (.slice e)) (he : P.underlying e = some (.int .u8)) (hd : P.underlying dst = some .string) :
    (convert src dst (.slice (some ⟨b, off, none⟩) bs.size cap)).run P w = .ok (.string bs) w := by
  have hl := ba_list bs
  have := run_convert_bytes_back (P := P) w src dst e ⟨b, off, none⟩ cap bs.data.toList hs he hd (fun j hj => by
    rw [hl] at hj
    rw [Addr.add_lit, h j hj]
    show some (Value.int .u8 ((sb bs.data.toList j : Nat) : Int)) = _
    unfold sb
    rw [List.getD_eq_getElem?_getD, List.getElem?_eq_getElem (by rw [hl]; exact hj)]
    rfl)
  rw [hl] at this
  rw [this]
/-- v is a slice of the bytes bs, from the beginning of a block on (nil, if there are none), with room that may be written -/
def ByRow (w : World) (v : Value) (bs : ByteArray) : Prop :=
  (v = .slice none 0 0 ∧ bs.size = 0) ∨ ∃ b cap, v = .slice (some ⟨b, 0, none⟩) bs.size cap ∧ bs.size ≤ cap ∧ b < w.heap.size ∧ BAt w b 0 bs ∧ ∀ i, i < cap → (w.cell? ⟨b, i, none⟩).isSome = true ∧ w.frozen? ⟨b, i, none⟩ = false
theorem ByRow.of_heap {w w' : World} {v : Value} {bs : ByteArray} (h : ByRow w v bs) (hs : w.heap.size ≤ w'.heap.size) (e : ∀ b, v.ownBlock = some b → w'.heap[b]? = w.heap[b]?) : ByRow w' v bs := by
  rcases h with h | ⟨b, cap, rfl, h1, h2, h3, h4⟩
  · exact .inl h
  · have e := e b rfl
    exact .inr ⟨b, cap, rfl, h1, Nat.lt_of_lt_of_le h2 hs, h3.of_heap e, fun i hi => ⟨by rw [World.cell?_of_block (a := ⟨b, i, none⟩) e]; exact (h4 i hi).1, by rw [World.frozen?_of_block (a := ⟨b, i, none⟩) e]; exact (h4 i hi).2⟩⟩
theorem ByRow.lt {w : World} {v : Value} {bs : ByteArray} (h : ByRow w v bs) {b : Nat} (e : v.ownBlock = some b) : b < w.heap.size := by
  rcases h with ⟨rfl, _⟩ | ⟨b', cap, rfl, h1, h2, h3, h4⟩
  · cases e
  · obtain rfl : b' = b := by simpa [Value.ownBlock] using e
    exact h2
theorem ByRow.sl {w : World} {v : Value} {bs : ByteArray} (h : ByRow w v bs) : ∃ a0 cap, v = .slice a0 bs.size cap := by
  rcases h with ⟨rfl, h0⟩ | ⟨b', cap, rfl, _⟩
  · exact ⟨none, 0, by rw [h0]⟩
  · exact ⟨_, _, rfl⟩
/-- the first bytes alone -/
theorem ByRow.first {w : World} {a0 : Option Addr} {n cap : Nat} {bs : ByteArray} (h : ByRow w (.slice a0 n cap) bs) (k : Nat) (hk : k ≤ bs.size) : ByRow w (.slice a0 k cap) (bs.extract 0 k) := by
  have hz : (bs.extract 0 k).size = k := by rw [ByteArray.size_extract]; omega
  rcases h with ⟨e, h0⟩ | ⟨b', cap', e, h1, h2, h3, h4⟩
  · simp only [Value.slice.injEq] at e
    obtain ⟨rfl, rfl, rfl⟩ := e
    obtain rfl : k = 0 := by omega
    exact .inl ⟨rfl, hz⟩
  · simp only [Value.slice.injEq] at e
    obtain ⟨rfl, rfl, rfl⟩ := e
    refine .inr ⟨b', cap, by rw [hz], by omega, h2, ?_, h4⟩
    have := h3.ext 0 k hk
    simpa using this
theorem setCells_upd (b : Nat) : ∀ (vs : List Value) (o : Nat) (w : World), Upd b w (w.setCells b o vs)
  | [], _, w => Upd.refl b w
  | v :: r, o, w => (Upd.set w b o v).trans (setCells_upd b r (o + 1) _)
theorem str_get (s : ByteArray) (j : Nat) (h : j < s.size) : (Lib.strCells s)[j]? = some (cb (sb s.data.toList) j) := by
  have hj : j < s.data.toList.length := by rw [ba_list]; exact h
  unfold Lib.strCells
  rw [List.getElem?_map, List.getElem?_eq_getElem hj]
  show some (Value.int .u8 _) = some (Value.int .u8 _)
  unfold sb
  rw [List.getD_eq_getElem?_getD, List.getElem?_eq_getElem hj]
  rfl
theorem str_cell (s : ByteArray) (j : Nat) (h : j < (Lib.strCells s).length) : (Lib.strCells s)[j] = cb (sb s.data.toList) j :=
  Option.some.inj ((List.getElem?_eq_getElem h).symm.trans (str_get s j (by rwa [Lib.strCells_length] at h)))
theorem byrow_made {w : World} {e : TypeId} {bs : ByteArray} {cs : Array Value} {cap : Nat} {fz : Nat × Nat} (hc : cap = cs.size) (hf : cap ≤ fz.1 ∨ fz = (0, 0)) (hs : bs.size ≤ cap) (h : ∀ i, i < bs.size → cs[i]? = some (cb (sb bs.data.toList) i)) :
    ByRow (w.alloc (.cells cs e fz)) (.slice (some ⟨w.heap.size, 0, none⟩) bs.size cap) bs := by
  have hb : (w.alloc (.cells cs e fz)).heap[w.heap.size]? = some (.cells cs e fz) := by show (w.heap.push _)[w.heap.size]? = _; simp
  refine .inr ⟨w.heap.size, cap, rfl, hs, by simp, fun i hi => ?_, fun i hi => ⟨?_, ?_⟩⟩
  · unfold World.cell?; rw [hb]; simp [h i hi]
  · unfold World.cell?; rw [hb]; simp; omega
  · unfold World.frozen?; rw [hb]
    obtain ⟨lo, hi'⟩ := fz
    rcases hf with hf | hf
    · have hf : cap ≤ lo := hf
      simp; omega
    · cases hf; simp
/-- what a conversion lays -/
theorem byrow_conv (w : World) (e : TypeId) (s : ByteArray) (cap : Nat) (h : s.size ≤ cap) : ByRow (w.alloc (.cells (bytesRow s cap) e ((bytesRow s cap).size, (bytesRow s cap).size + 1))) (.slice (some ⟨w.heap.size, 0, none⟩) s.size cap) s := by
  have hz : (bytesRow s cap).size = cap := by
    unfold bytesRow
    rw [Array.size_append, Array.size_map, Array.size_replicate]
    have : s.data.size = s.size := rfl
    omega
  refine byrow_made hz.symm (.inl (by rw [hz]; exact Nat.le_refl _)) h fun i hi => ?_
  have hi' : i < s.data.size := hi
  unfold bytesRow
  rw [Array.getElem?_append_left (by rw [Array.size_map]; exact hi'), Array.getElem?_map, Array.getElem?_eq_getElem hi']
  show some (Value.int .u8 (s.data[i].toNat : Int)) = some (Value.int .u8 ((sb s.data.toList i : Nat) : Int))
  unfold sb
  rw [List.getD_eq_getElem?_getD, Array.getElem?_toList, Array.getElem?_eq_getElem hi']
  rfl
section
variable {P : Program} (w : World)
/-- append(v, s...): in v's own block, or in a new one -/
theorem run_append_row (t u ty e : TypeId) (i : TypeInfo) (ht : P.underlying t = some (.slice e)) (hu : P.underlying u = some .string) (hi : P.info? e = some i) (hz : i.zero = some (.int .u8 0)) (hsize : i.size = 1) (hby : i.bytes = 1)
    (v : Value) (bs s : ByteArray) (h : ByRow w v bs) (h0 : 0 < s.size) (hs : bs.size + s.size ≤ 4000000) :
    ∃ v' w', (Builtin.append_ #[t, u] ty #[v, .string s]).run P w = .ok v' w' ∧ ByRow w' v' (bs ++ s) ∧ w.grownBy w' v.ownBlock ∧ (v'.ownBlock = v.ownBlock ∨ v'.ownBlock = some w.heap.size) := by
  have hl := Lib.strCells_length s
  have hz1 : (Value.int IntKind.u8 0).cells.size = 1 := rfl
  have hsz : (bs ++ s).size = bs.size + s.size := ByteArray.size_append
  rcases h with ⟨rfl, hb0⟩ | ⟨b, cap, rfl, h1, h2, h3, h4⟩
  · have hr := run_append_nil_string (P := P) w t u ty e i (.int .u8 0) ht hu hi hz s h0 (by omega) (by rw [hby]; omega)
    have hge := grownCap_ge w s.size 0 e
    refine ⟨_, _, hr, ?_, ⟨rfl, rfl, rfl, by simp, fun k hk _ => heap_alloc_old w.drew _ hk⟩, .inr rfl⟩
    have hbe : bs ++ s = s := by rw [ba_nil hb0]; apply ba_ext; rw [app_list]; rfl
    rw [hbe]
    refine byrow_made (w := w.drew) ?_ (.inr rfl) hge fun i hi => ?_
    · rw [Array.size_append, Array.size_map, size_zeroCells, hz1]; have : s.data.size = s.size := rfl; omega
    · have hi' : i < s.data.size := hi
      rw [Array.getElem?_append_left (by rw [Array.size_map]; exact hi'), Array.getElem?_map, Array.getElem?_eq_getElem hi']
      show some (Value.int .u8 (s.data[i].toNat : Int)) = some (Value.int .u8 ((sb s.data.toList i : Nat) : Int))
      unfold sb
      rw [List.getD_eq_getElem?_getD, Array.getElem?_toList, Array.getElem?_eq_getElem hi']
      rfl
  · by_cases hroom : bs.size + s.size ≤ cap
    · have hf := Lib.run_firstCells_string (P := P) w 1 s
      have hst := run_storeCells_cells (P := P) b bs.size (Lib.strCells s) 0 w (fun j hj => by rw [hl] at hj; exact (h4 (bs.size + 0 + j) (by omega)).1) (fun j hj => by rw [hl] at hj; exact (h4 (bs.size + 0 + j) (by omega)).2) (Lib.strCells_oneCell s)
      simp only [Nat.add_zero] at hst
      have hr : (Builtin.append_ #[t, u] ty #[.slice (some ⟨b, 0, none⟩) bs.size cap, .string s]).run P w = .ok (.slice (some ⟨b, 0, none⟩) (bs.size + s.size) cap) (w.setCells b bs.size (Lib.strCells s)) := by
        simp [Builtin.append_, run_underlying ht, run_underlying hu, Go.sizeOf, typeInfo, hi, hsize, Builtin.lenOf, hroom, hf, Addr.add_lit, hst]
      have hup := setCells_upd b (Lib.strCells s) bs.size w
      refine ⟨_, _, hr, .inr ⟨b, cap, by rw [hsz], by rw [hsz]; exact hroom, by rw [hup.size]; exact h2, fun i hi => ?_, fun i hi => ⟨?_, ?_⟩⟩, ⟨hup.os, hup.tape, hup.output, by rw [hup.size]; exact Nat.le_refl _, fun k _ hk => hup.block k (fun e => hk (by rw [e]; rfl))⟩, .inl rfl⟩
      · rw [hsz] at hi
        by_cases hib : i < bs.size
        · rw [World.cell?_setCells_out b _ _ _ _ (fun _ _ => .inl (by simpa using hib)), h3 i hib]
          show some (Value.int .u8 _) = some (Value.int .u8 _)
          rw [sb_app0 bs s i hib]
        · have := World.cell?_setCells_in b (Lib.strCells s) bs.size w (fun j hj => by rw [hl] at hj; exact (h4 (bs.size + j) (by omega)).1) (i - bs.size) (by rw [hl]; omega)
          rw [show bs.size + (i - bs.size) = 0 + i by omega] at this
          rw [this, str_cell]
          show some (Value.int .u8 _) = some (Value.int .u8 _)
          rw [sb_app1 bs s i (by omega)]
      · by_cases hin : bs.size ≤ i ∧ i < bs.size + s.size
        · have := World.cell?_setCells_in b (Lib.strCells s) bs.size w (fun j hj => by rw [hl] at hj; exact (h4 (bs.size + j) (by omega)).1) (i - bs.size) (by rw [hl]; omega)
          rw [show bs.size + (i - bs.size) = i by omega] at this
          rw [this]; rfl
        · rw [World.cell?_setCells_out b _ _ _ _ (fun _ _ => by rw [hl]; show i < bs.size ∨ bs.size + s.size ≤ i; omega)]
          exact (h4 i hi).1
      · rw [World.frozen?_setCells]; exact (h4 i hi).2
    · have hbl := ba_list bs
      have holds : ∀ j u, (Lib.strCells bs)[j]? = some u → w.cell? ((⟨b, 0, none⟩ : Addr).add j) = some u := fun j u hj => by
        obtain ⟨hj', e⟩ := List.getElem?_eq_some_iff.1 hj
        have hj2 := hj'
        rw [Lib.strCells_length] at hj2
        rw [Addr.add_lit, h3 j hj2, ← e, str_cell]
      have hr := Lib.run_append_grow_string (P := P) w t u ty e i (.int .u8 0) ht hu hi hz ⟨b, 0, none⟩ bs.size cap (Lib.strCells bs) (by rw [hsize, Lib.strCells_length]; omega) holds s (by omega) (by omega) (by rw [hby]; exact growslice_fits (by omega) (by omega))
      have hge := grownCap_ge w (bs.size + s.size) cap e
      refine ⟨_, _, hr, ?_, ⟨rfl, rfl, rfl, by simp, fun k hk _ => heap_alloc_old w.drew _ hk⟩, .inr rfl⟩
      have e1 : ((Lib.strCells bs).toArray ++ (Lib.strCells s).toArray).size = bs.size + s.size := by rw [Array.size_append, List.size_toArray, List.size_toArray, Lib.strCells_length, hl]
      have key := byrow_made (w := w.drew) (e := e) (bs := bs ++ s) (cs := (Lib.strCells bs).toArray ++ (Lib.strCells s).toArray ++ Builtin.zeroCells (Value.int IntKind.u8 0).cells (grownCap w (bs.size + s.size) cap e - (bs.size + s.size))) (cap := grownCap w (bs.size + s.size) cap e) (fz := (0, 0)) (by rw [Array.size_append, e1, size_zeroCells, hz1]; omega) (.inr rfl) (by rw [hsz]; exact hge) (fun i hi => by
        rw [hsz] at hi
        rw [Array.getElem?_append_left (by rw [e1]; exact hi)]
        by_cases hib : i < bs.size
        · have hi2 : i < (Lib.strCells bs).length := by rw [Lib.strCells_length]; exact hib
          rw [Array.getElem?_append_left (by simpa using hi2), List.getElem?_toArray, List.getElem?_eq_getElem hi2, str_cell]
          show some (Value.int .u8 _) = some (Value.int .u8 _)
          rw [sb_app0 bs s i hib]
        · have hi2 : i - bs.size < (Lib.strCells s).length := by rw [hl]; omega
          rw [Array.getElem?_append_right (by rw [List.size_toArray, Lib.strCells_length]; omega), List.size_toArray, Lib.strCells_length, List.getElem?_toArray, List.getElem?_eq_getElem hi2, str_cell]
          show some (Value.int .u8 _) = some (Value.int .u8 _)
          rw [sb_app1 bs s i (by omega)])
      rw [hsz] at key
      exact key
end
end SS
end
section
open Go Go.RowKit
namespace SS
open RR FF CC WW BB
def logRow (v : Value) (n : Nat) (fu : Bool) (left : Int) (lo : Bool) : Nat → Value := rowL [v, .int .i64 (n : Int), .bool fu, .int .i64 left, .bool lo]
theorem log_cells {w : World} {g : Nat} {v : Value} {n : Nat} {fu lo : Bool} {left : Int} (h : Blk w g 5 (logRow v n fu left lo)) :
    w.cell? ⟨g, 0, none⟩ = some v ∧ w.cell? ⟨g, 1, none⟩ = some (.int .i64 (n : Int)) ∧ w.cell? ⟨g, 2, none⟩ = some (.bool fu) ∧ w.cell? ⟨g, 3, none⟩ = some (.int .i64 left) ∧ w.cell? ⟨g, 4, none⟩ = some (.bool lo) :=
  ⟨h.get 0 (by omega), h.get 1 (by omega), h.get 2 (by omega), h.get 3 (by omega), h.get 4 (by omega)⟩
section
variable {w : World} {g : Nat} {v : Value} {n : Nat} {fu lo : Bool} {left : Int}
theorem log_set0 (h : Blk w g 5 (logRow v n fu left lo)) (x : Value) : Blk (w.setCell ⟨g, 0, none⟩ x) g 5 (logRow x n fu left lo) :=
  (h.set 0 x).congr _ fun i hi => match i, hi with | 0, _ => rfl | 1, _ => rfl | 2, _ => rfl | 3, _ => rfl | 4, _ => rfl
theorem log_set1 (h : Blk w g 5 (logRow v n fu left lo)) (x : Nat) : Blk (w.setCell ⟨g, 1, none⟩ (.int .i64 (x : Int))) g 5 (logRow v x fu left lo) :=
  (h.set 1 (.int .i64 (x : Int))).congr _ fun i hi => match i, hi with | 0, _ => rfl | 1, _ => rfl | 2, _ => rfl | 3, _ => rfl | 4, _ => rfl
theorem log_set2 (h : Blk w g 5 (logRow v n fu left lo)) (x : Bool) : Blk (w.setCell ⟨g, 2, none⟩ (.bool x)) g 5 (logRow v n x left lo) :=
  (h.set 2 (.bool x)).congr _ fun i hi => match i, hi with | 0, _ => rfl | 1, _ => rfl | 2, _ => rfl | 3, _ => rfl | 4, _ => rfl
theorem log_set3 (h : Blk w g 5 (logRow v n fu left lo)) (x : Int) : Blk (w.setCell ⟨g, 3, none⟩ (.int .i64 x)) g 5 (logRow v n fu x lo) :=
  (h.set 3 (.int .i64 x)).congr _ fun i hi => match i, hi with | 0, _ => rfl | 1, _ => rfl | 2, _ => rfl | 3, _ => rfl | 4, _ => rfl
theorem log_set4 (h : Blk w g 5 (logRow v n fu left lo)) (x : Bool) : Blk (w.setCell ⟨g, 4, none⟩ (.bool x)) g 5 (logRow v n fu left x) :=
  (h.set 4 (.bool x)).congr _ fun i hi => match i, hi with | 0, _ => rfl | 1, _ => rfl | 2, _ => rfl | 3, _ => rfl | 4, _ => rfl
end
/-- what is known of a log's cells -/
structure LogIs (O : Nat → Prop) (w : World) (g : Nat) (s : Lg) (v : Value) (left : Int) : Prop where
  blk : Blk w g 5 (logRow v s.safe.size (decide (0 ≤ s.fuse)) left s.gone)
  row : ByRow w v (s.safe ++ s.wait)
  own : ∀ b, O b ↔ b = g ∨ v.ownBlock = some b
  ne : v.ownBlock ≠ some g
  left_ : 0 ≤ s.fuse → left = s.fuse
  lo : -9223372036854775808 ≤ left
  hi : left ≤ 9223372036854775807
def At9 (O : Nat → Prop) (w : World) (g : Nat) (s : Lg) : Prop := ∃ v left, LogIs O w g s v left
section
variable {O : Nat → Prop} {w w' : World} {g : Nat} {s s' : Lg} {v : Value} {left left' : Int}
theorem LogIs.keep (h : LogIs O w g s v left) (hk : Keeps O w w') : LogIs O w' g s v left :=
  ⟨h.blk.of_heap (hk.block g ((h.own g).2 (.inl rfl)) h.blk.lt), h.row.of_heap hk.b0.size fun b e => hk.block b ((h.own b).2 (.inr e)) (h.row.lt e), h.own, h.ne, h.left_, h.lo, h.hi⟩
theorem LogIs.low (h : LogIs O w g s v left) (hk : Below w.heap.size w w') : LogIs O w' g s v left := h.keep (Keeps.of hk)
theorem at9_keep (h : At9 O w g s) (hk : Keeps O w w') : At9 O w' g s := by
  obtain ⟨v, left, h⟩ := h
  exact ⟨v, left, h.keep hk⟩
theorem at9_lt (h : At9 O w g s) : ∀ b, O b → b < w.heap.size := by
  obtain ⟨v, left, h⟩ := h
  intro b hb
  rcases (h.own b).1 hb with rfl | e
  · exact h.blk.lt
  · exact h.row.lt e
/-- a call that writes the log's block alone -/
theorem LogIs.next (h : LogIs O w g s v left) (hB : Blk w' g 5 (logRow v s'.safe.size (decide (0 ≤ s'.fuse)) left' s'.gone)) (hk : ButR g w w') (he : s'.safe ++ s'.wait = s.safe ++ s.wait) (hl : 0 ≤ s'.fuse → left' = s'.fuse) (h1 : -9223372036854775808 ≤ left') (h2 : left' ≤ 9223372036854775807) : Next9 At9 O w g s' w' :=
  ⟨O, ⟨v, left', hB, by rw [he]; exact h.row.of_heap hk.b0.size fun b e => hk.block b (fun e' => h.ne (by rw [e, e'])) (h.row.lt e), h.own, h.ne, hl, h1, h2⟩, hk.sub fun b hb _ e => hb ((h.own b).2 (.inl e)), fun b hb => .inl hb⟩
end
end SS
namespace Go.Proofs.Ytnahebfhhcebpaa
open SS RR FF CC WW BB
theorem row5_ (a b c d e : Value) : (#[a, b, c, d, e] : Array Value) = row 5 (rowL [a, b, c, d, e]) := rfl
section
variable (O : Nat → Prop) (w : World) (g : Nat) (s : Lg) (n : Int)
set_option maxRecDepth 100000 in
theorem new9 : Calls Try.prog 13 #[] w (Made9 At9 ⟨⟨#[]⟩, ⟨#[]⟩, -1, false⟩ w) := by
  go_enter Try.func13, Try.ntmps13
  go_wp2_with fail
  go_ret
  refine ⟨w.heap.size, fun b => b = w.heap.size ∨ (Value.slice none 0 0).ownBlock = some b, rfl, ⟨.slice none 0 0, 0, Blk.new' rfl (row5_ _ _ _ _ _), .inl ⟨rfl, rfl⟩, fun _ => Iff.rfl, (fun h => by cases h), (fun h => absurd h (show ¬ (0 : Int) ≤ -1 by decide)), by decide, by decide⟩, fun x h => ?_, (Below.refl _ _).alloc (Nat.le_refl _) _⟩
  rcases h with h | h
  · rw [h]; exact Nat.le_refl _
  · cases h
set_option maxRecDepth 100000 in
theorem of9 (b : ByteArray) : Calls Try.prog 9 #[.string b] w (Made9 At9 ⟨b, ⟨#[]⟩, -1, false⟩ w) := by
  have hcv := run_bytes_of_string (P := Try.prog) w 9 60 5 b Try.underlying9 Try.underlying60 Try.underlying5
  have HR := Lib.hid (byrow_conv w.drew 5 b (grownCap w b.size 0 5) (grownCap_ge w b.size 0 5))
  have HW := Lib.hid (show Below w.heap.size w (w.drew.alloc (.cells (bytesRow b (grownCap w b.size 0 5)) 5 ((bytesRow b (grownCap w b.size 0 5)).size, (bytesRow b (grownCap w b.size 0 5)).size + 1))) from (Below.refl _ _).drew.alloc (Nat.le_refl _) _)
  have HZ := Lib.hid (show (w.drew.alloc (.cells (bytesRow b (grownCap w b.size 0 5)) 5 ((bytesRow b (grownCap w b.size 0 5)).size, (bytesRow b (grownCap w b.size 0 5)).size + 1))).heap.size = w.heap.size + 1 by simp)
  obtain ⟨w1, hw1⟩ : ∃ w1, w.drew.alloc (.cells (bytesRow b (grownCap w b.size 0 5)) 5 ((bytesRow b (grownCap w b.size 0 5)).size, (bytesRow b (grownCap w b.size 0 5)).size + 1)) = w1 := ⟨_, rfl⟩
  rw [hw1] at hcv HR HW HZ
  obtain ⟨cap, hcap⟩ : ∃ cap, grownCap w b.size 0 5 = cap := ⟨_, rfl⟩
  rw [hcap] at hcv HR
  clear hw1 hcap
  go_enter Try.func9, Try.ntmps9
  go_wp2_with fail
  go_ret
  have hr := HR.out
  have he : b ++ (⟨#[]⟩ : ByteArray) = b := by apply ba_ext; rw [app_list]; simp
  refine ⟨w1.heap.size, fun x => x = w1.heap.size ∨ (Value.slice (some ⟨w.heap.size, 0, none⟩) b.size cap).ownBlock = some x, rfl, ⟨.slice (some ⟨w.heap.size, 0, none⟩) b.size cap, 0, Blk.new' rfl (row5_ _ _ _ _ _), ?_, fun _ => Iff.rfl, ?_, (fun h => absurd h (show ¬ (0 : Int) ≤ -1 by decide)), by decide, by decide⟩, fun x h => ?_, HW.out.alloc (by rw [HZ.out]; omega) _⟩
  · show ByRow _ _ (b ++ (⟨#[]⟩ : ByteArray))
    rw [he]
    exact hr.of_heap (by simp) fun q e => Below.heap_alloc _ _ _ (hr.lt e)
  · intro h
    have : w.heap.size = w1.heap.size := by simpa [Value.ownBlock] using h
    rw [HZ.out] at this; omega
  · rcases h with h | h
    · rw [h, HZ.out]; omega
    · have : w.heap.size = x := by simpa [Value.ownBlock] using h
      omega
end
end Go.Proofs.Ytnahebfhhcebpaa
end
section
open Go Go.RowKit
namespace SS
open RR FF CC WW BB
/-- what burn leaves of the fuse -/
def burnC (left : Int) : Int := if 0 < left then left - 1 else left
theorem mod_code (n : Int) (k : Nat) : (if n.tmod ((k : Int) + 1) < 0 then n.tmod ((k : Int) + 1) + ((k : Int) + 1) else n.tmod ((k : Int) + 1)) = (keepN n k : Int) := by
  have h0 : ((k : Int) + 1) ≠ 0 := by omega
  have h1 := Int.emod_nonneg n h0
  have h2 := Int.emod_lt_of_pos n (show (0 : Int) < (k : Int) + 1 by omega)
  have h3 : -((k : Int) + 1) < n.tmod ((k : Int) + 1) := Int.lt_tmod_of_pos n (show (0 : Int) < (k : Int) + 1 by omega)
  have h4 : n.tmod ((k : Int) + 1) < (k : Int) + 1 := Int.tmod_lt_of_pos n (by omega)
  unfold keepN
  rw [Int.toNat_of_nonneg h1]
  have e : n.tmod ((k : Int) + 1) % ((k : Int) + 1) = n % ((k : Int) + 1) := by
    rw [Int.tmod_eq_emod]
    split
    · rw [show (((0 : Nat) : Int)) = 0 from rfl, Int.sub_zero, Int.emod_emod]
    · rw [show ((((k : Int) + 1).natAbs : Nat) : Int) = (k : Int) + 1 by omega, Int.sub_emod, Int.emod_self, Int.sub_zero, Int.emod_emod, Int.emod_emod]
  rw [← e]
  generalize n.tmod ((k : Int) + 1) = t at *
  split
  · rw [show t % ((k : Int) + 1) = (t + ((k : Int) + 1)) % ((k : Int) + 1) by rw [Int.add_emod_right], Int.emod_eq_of_lt (by omega) (by omega)]
  · rw [Int.emod_eq_of_lt (by omega) (by omega)]
end SS
namespace Go.Proofs.Ytnahebfhhcebpaa
open SS RR FF CC WW BB
set_option maxRecDepth 100000 in
theorem possible_is (n : Int) (r : Bool) (hr : (decide (1 ≤ n) && decide (n ≤ 4000)) = r) (w : World) : Calls Try.prog 55 #[.int .i64 n] w fun e w' => e = .returned (.bool r) ∧ w' = w := by
  subst hr
  by_cases h1 : 1 ≤ n
  · have d1 : decide (1 ≤ n) = true := decide_eq_true h1
    go_enter Try.func55, Try.ntmps55
    go_wp2_with fail
    go_ret
    exact ⟨by rw [d1]; rfl, rfl⟩
  · have d1 : decide (1 ≤ n) = false := decide_eq_false h1
    go_enter Try.func55, Try.ntmps55
    go_wp2_with fail
    go_ret
    exact ⟨rfl, rfl⟩
set_option maxRecDepth 100000 in
set_option maxHeartbeats 4000000 in
theorem burn_is (w : World) (g : Nat) (v : Value) (n : Nat) (fu lo : Bool) (left : Int) (h : Blk w g 5 (logRow v n fu left lo)) (hl : -9223372036854775808 ≤ left ∧ left ≤ 9223372036854775807) :
    Calls Try.prog 56 #[.pointer (some ⟨g, 0, none⟩)] w fun e w' => e = .returned (.bool (fu && decide (left = 0))) ∧ Blk w' g 5 (logRow v n fu (burnC left) (fu && decide (left = 0))) ∧ Upd g w w' := by
  obtain ⟨c0, c1, c2, c3, c4⟩ := log_cells h
  have f3 := h.frz 3
  have f4 := h.frz 4
  have H := Lib.hid h
  clear h c0 c1
  by_cases hp : 0 < left
  · have hne : ¬ left = 0 := by omega
    have hb : (left == 0) = false := by simpa using hne
    have e1 : burnC left = left - 1 := by unfold burnC; rw [if_pos hp]
    have e2 : decide (left = 0) = false := decide_eq_false hne
    have hw : IntKind.i64.wrap (left - 1) = left - 1 := IntWalk.i64_in _ (by omega)
    have E := Lib.hid (And.intro e1 e2)
    have d1 : decide (0 < left) = true := decide_eq_true hp
    clear hl e1 e2
    cases fu with
    | true =>
      go_enter Try.func56, Try.ntmps56
      go_wp2_with fail
      go_ret
      rw [E.out.1, E.out.2]
      exact ⟨rfl, log_set3 (log_set4 H.out _) _, (Upd.set _ _ _ _).trans (Upd.set _ _ _ _)⟩
    | false =>
      go_enter Try.func56, Try.ntmps56
      go_wp2_with fail
      go_ret
      rw [E.out.1, E.out.2]
      exact ⟨rfl, log_set3 (log_set4 H.out _) _, (Upd.set _ _ _ _).trans (Upd.set _ _ _ _)⟩
  · have e1 : burnC left = left := by unfold burnC; rw [if_neg hp]
    have E := Lib.hid e1
    have d1 : decide (0 < left) = false := decide_eq_false hp
    clear hl e1
    by_cases h0 : left = 0
    · subst h0
      cases fu with
      | true =>
        go_enter Try.func56, Try.ntmps56
        go_wp2_with fail
        go_ret
        rw [E.out]
        exact ⟨rfl, log_set4 H.out _, Upd.set _ _ _ _⟩
      | false =>
        go_enter Try.func56, Try.ntmps56
        go_wp2_with fail
        go_ret
        rw [E.out]
        exact ⟨rfl, log_set4 H.out _, Upd.set _ _ _ _⟩
    · have hb : (left == 0) = false := by simpa using h0
      cases fu with
      | true =>
        go_enter Try.func56, Try.ntmps56
        go_wp2_with fail
        go_ret
        rw [E.out]
        exact ⟨rfl, log_set4 H.out _, Upd.set _ _ _ _⟩
      | false =>
        go_enter Try.func56, Try.ntmps56
        go_wp2_with fail
        go_ret
        rw [E.out]
        exact ⟨rfl, log_set4 H.out _, Upd.set _ _ _ _⟩
end Go.Proofs.Ytnahebfhhcebpaa
end
section
open Go Go.RowKit
namespace SS
open RR FF CC WW BB
/-- a log behind burn -/
def burnG (s : Lg) : Lg := if s.fuse = 0 then { s with gone := true } else burnL s
theorem LogIs.burnt {O : Nat → Prop} {w w' : World} {g : Nat} {s : Lg} {v : Value} {left : Int} (h : LogIs O w g s v left) (hg : s.gone = false)
    (hB : Blk w' g 5 (logRow v s.safe.size (decide (0 ≤ s.fuse)) (burnC left) (decide (0 ≤ s.fuse) && decide (left = 0)))) (hu : Upd g w w') : LogIs O w' g (burnG s) v (burnC left) ∧ (decide (0 ≤ s.fuse) && decide (left = 0)) = decide (s.fuse = 0) := by
  have hl := h.left_
  have h1 := h.lo
  have h2 := h.hi
  have hd : (decide (0 ≤ s.fuse) && decide (left = 0)) = decide (s.fuse = 0) := by
    by_cases h0 : 0 ≤ s.fuse
    · rw [hl h0, decide_eq_true h0]; rfl
    · rw [decide_eq_false h0, decide_eq_false (p := s.fuse = 0) (by omega)]; rfl
  refine ⟨?_, hd⟩
  rw [hd] at hB
  have hb1 : -9223372036854775808 ≤ burnC left ∧ burnC left ≤ 9223372036854775807 := by unfold burnC; split <;> omega
  have hrow : ∀ s' : Lg, s'.safe = s.safe → s'.wait = s.wait → ByRow w' v (s'.safe ++ s'.wait) := fun s' e1 e2 => by
    rw [e1, e2]; exact h.row.of_heap (by rw [hu.size]; exact Nat.le_refl _) fun b e => hu.block b (fun e' => h.ne (by rw [e, e']))
  unfold burnG
  by_cases h0 : s.fuse = 0
  · rw [if_pos h0]
    rw [decide_eq_true h0] at hB
    exact ⟨hB, hrow _ rfl rfl, h.own, h.ne, fun hx => by show burnC left = s.fuse; have := hl hx; unfold burnC; split <;> omega, hb1.1, hb1.2⟩
  · rw [if_neg h0]
    rw [decide_eq_false h0] at hB
    obtain ⟨e1, e2, e3⟩ := burn_same s
    have e4 : decide (0 ≤ (burnL s).fuse) = decide (0 ≤ s.fuse) := by
      unfold burnL
      split
      · exact decide_eq_decide.2 ⟨fun h => by omega, fun h => by show 0 ≤ s.fuse - 1; omega⟩
      · rfl
    refine ⟨by rw [e1, e3, e4, hg]; exact hB, hrow _ e1 e2, h.own, h.ne, fun hx => ?_, hb1.1, hb1.2⟩
    have h3 : 0 ≤ s.fuse := by rw [← decide_eq_decide.1 e4]; exact hx
    have := hl h3
    unfold burnL burnC
    rw [if_pos (by omega), if_pos (by omega)]
    show left - 1 = s.fuse - 1
    omega
end SS
namespace Go.Proofs.Ytnahebfhhcebpaa
open SS RR FF CC WW BB
/-- burn, of a log -/
theorem burn_log {O : Nat → Prop} {w : World} {g : Nat} {s : Lg} {v : Value} {left : Int} (h : LogIs O w g s v left) (hg : s.gone = false) :
    Calls Try.prog 56 #[.pointer (some ⟨g, 0, none⟩)] w fun e w' => e = .returned (.bool (decide (s.fuse = 0))) ∧ LogIs O w' g (burnG s) v (burnC left) ∧ Upd g w w' :=
  (burn_is w g v s.safe.size _ s.gone left h.blk ⟨h.lo, h.hi⟩).mono fun e w' ⟨he, hB, hu⟩ => by
    obtain ⟨h1, h2⟩ := h.burnt hg hB hu
    exact ⟨by rw [he, h2], h1, hu⟩
section
variable (O : Nat → Prop) (w : World) (g : Nat) (s : Lg)
set_option maxRecDepth 100000 in
set_option maxHeartbeats 4000000 in
theorem sync9 (h : At9 O w g s) : Calls Try.prog 41 #[.pointer (some ⟨g, 0, none⟩)] w fun e w' => e = .returned (.int .i64 (doL s 1 ⟨#[]⟩ 0).2) ∧ Next9 At9 O w g (doL s 1 ⟨#[]⟩ 0).1 w' := by
  obtain ⟨v, left, h⟩ := h
  obtain ⟨c0, c1, c2, c3, c4⟩ := log_cells h.blk
  have H := Lib.hid h
  clear h c0 c1 c2 c3
  show Calls _ _ _ _ fun e w' => e = .returned (.int .i64 (syncL s).2) ∧ Next9 At9 O w g (syncL s).1 w'
  cases hg : s.gone with
  | true =>
    have HD := Lib.hid (show syncL s = (s, 8) from by unfold syncL; rw [if_pos hg])
    rw [hg] at c4
    clear hg
    go_enter Try.func41, Try.ntmps41
    go_wp2_with fail
    go_ret
    rw [HD.out]
    exact ⟨rfl, H.out.next H.out.blk (Keeps.refl _ _) rfl H.out.left_ H.out.lo H.out.hi⟩
  | false =>
    have HG := Lib.hid hg
    rw [hg] at c4
    clear hg
    go_enter Try.func41, Try.ntmps41
    go_wp2_with fail
    refine (burn_log H.out HG.out).mono ?_
    rintro e w1 ⟨rfl, h1, hu⟩
    have H1 := Lib.hid h1
    have HU := Lib.hid hu
    clear h1 hu c4
    by_cases h0 : s.fuse = 0
    · have HD := Lib.hid (show syncL s = ({ s with gone := true }, 8) from by unfold syncL; rw [if_neg (by rw [HG.out]; decide), if_pos h0])
      have HB := Lib.hid (show burnG s = { s with gone := true } from by unfold burnG; rw [if_pos h0])
      have d0 : decide (s.fuse = 0) = true := decide_eq_true h0
      rw [d0]
      clear d0 h0
      go_wp2_with fail
      go_ret
      rw [HD.out]
      have hb := H1.out
      rw [HB.out] at hb
      exact ⟨rfl, H.out.next hb.blk (ButR.of (Below.refl _ _) HU.out) rfl hb.left_ hb.lo hb.hi⟩
    · have HD := Lib.hid (show syncL s = ({ burnL s with safe := s.safe ++ s.wait, wait := ⟨#[]⟩ }, 0) from by unfold syncL; rw [if_neg (by rw [HG.out]; decide), if_neg h0])
      have HB := Lib.hid (show burnG s = burnL s from by unfold burnG; rw [if_neg h0])
      have d0 : decide (s.fuse = 0) = false := decide_eq_false h0
      rw [d0]
      clear d0 h0
      obtain ⟨c0, c1, c2, c3, c4⟩ := log_cells H1.out.blk
      have f1 := H1.out.blk.frz 1
      obtain ⟨a0, cap, hv⟩ := H1.out.row.sl
      have HV := Lib.hid hv
      rw [hv] at c0
      clear c2 c3 c4 hv
      go_wp2_with fail
      go_ret
      rw [HD.out]
      have hb := H1.out
      rw [HB.out] at hb
      obtain ⟨e1, e2, e3⟩ := burn_same s
      have e4 : ((burnG s).safe.size : Int) + ((burnG s).wait.size : Int) = ((s.safe ++ s.wait).size : Int) := by rw [HB.out, e1, e2, ByteArray.size_append]; omega
      refine ⟨rfl, H.out.next (left' := burnC left) ?_ (ButR.of (Below.refl _ _) (HU.out.trans (Upd.set _ _ _ _))) ?_ hb.left_ hb.lo hb.hi⟩
      · have := log_set1 hb.blk ((s.safe ++ s.wait).size)
        rw [e4]
        exact this
      · show (s.safe ++ s.wait) ++ (⟨#[]⟩ : ByteArray) = s.safe ++ s.wait
        apply ba_ext; rw [app_list]; simp
set_option maxRecDepth 100000 in
set_option maxHeartbeats 4000000 in
theorem append9 (b : ByteArray) (h : At9 O w g s) (hz : sizeL s ≤ 1000000) (hb : b.size ≤ 9223372036854775807) : Calls Try.prog 40 #[.pointer (some ⟨g, 0, none⟩), .string b] w fun e w' => e = .returned (.int .i64 (doL s 0 b 0).2) ∧ Next9 At9 O w g (doL s 0 b 0).1 w' := by
  obtain ⟨v, left, h⟩ := h
  obtain ⟨c0, c1, c2, c3, c4⟩ := log_cells h.blk
  have H := Lib.hid h
  have HZ := Lib.hid hz
  have HBZ := Lib.hid hb
  clear h c0 c1 c2 c3 hz hb
  show Calls _ _ _ _ fun e w' => e = .returned (.int .i64 (appendL s b).2) ∧ Next9 At9 O w g (appendL s b).1 w'
  cases hg : s.gone with
  | true =>
    have HD := Lib.hid (show appendL s b = (s, 8) from by unfold appendL; rw [if_pos hg])
    rw [hg] at c4
    clear hg
    go_enter Try.func40, Try.ntmps40
    go_wp2_with fail
    go_ret
    rw [HD.out]
    exact ⟨rfl, H.out.next H.out.blk (Keeps.refl _ _) rfl H.out.left_ H.out.lo H.out.hi⟩
  | false =>
    have HG := Lib.hid hg
    rw [hg] at c4
    clear hg
    by_cases hp : b.size = 0 ∨ 4000 < b.size
    · have HD := Lib.hid (show appendL s b = (s, 1) from by unfold appendL; rw [if_neg (by rw [HG.out]; decide), if_pos hp])
      have hr : (decide (1 ≤ (b.size : Int)) && decide ((b.size : Int) ≤ 4000)) = false := by
        rcases hp with hp | hp
        · rw [decide_eq_false (by omega)]; rfl
        · rw [decide_eq_false (p := (b.size : Int) ≤ 4000) (by omega), Bool.and_false]
      have HR := Lib.hid hr
      clear hp hr
      go_enter Try.func40, Try.ntmps40
      go_wp2_with fail
      refine (possible_is _ false HR.out _).mono ?_
      rintro e w1 ⟨rfl, rfl⟩
      go_wp2_with fail
      go_ret
      rw [HD.out]
      exact ⟨rfl, H.out.next H.out.blk (Keeps.refl _ _) rfl H.out.left_ H.out.lo H.out.hi⟩
    · have HP := Lib.hid hp
      have HR := Lib.hid (show (decide (1 ≤ (b.size : Int)) && decide ((b.size : Int) ≤ 4000)) = true by rw [decide_eq_true (by omega), decide_eq_true (by omega)]; rfl)
      clear hp
      go_enter Try.func40, Try.ntmps40
      go_wp2_with fail
      refine (possible_is _ true HR.out _).mono ?_
      rintro e w1 ⟨rfl, hw⟩
      have hw := hw.symm
      subst hw
      go_wp2_with fail
      refine (burn_log H.out HG.out).mono ?_
      rintro e w1 ⟨rfl, h1, hu⟩
      have H1 := Lib.hid h1
      have HU := Lib.hid hu
      clear h1 hu c4
      by_cases h0 : s.fuse = 0
      · have HD := Lib.hid (show appendL s b = ({ s with gone := true }, 8) from by unfold appendL; rw [if_neg (by rw [HG.out]; decide), if_neg HP.out, if_pos h0])
        have HB := Lib.hid (show burnG s = { s with gone := true } from by unfold burnG; rw [if_pos h0])
        have d0 : decide (s.fuse = 0) = true := decide_eq_true h0
        rw [d0]
        clear d0 h0
        go_wp2_with fail
        go_ret
        rw [HD.out]
        have hb := H1.out
        rw [HB.out] at hb
        exact ⟨rfl, H.out.next hb.blk (ButR.of (Below.refl _ _) HU.out) rfl hb.left_ hb.lo hb.hi⟩
      · have HD := Lib.hid (show appendL s b = ({ burnL s with wait := s.wait ++ txt b }, 0) from by unfold appendL; rw [if_neg (by rw [HG.out]; decide), if_neg HP.out, if_neg h0])
        have HB := Lib.hid (show burnG s = burnL s from by unfold burnG; rw [if_neg h0])
        have d0 : decide (s.fuse = 0) = false := decide_eq_false h0
        rw [d0]
        clear d0 h0
        have hb := H1.out
        rw [HB.out] at hb
        have HL := Lib.hid hb
        clear hb
        have hC := fun (wx : World) (e : wx.heap[g]? = w1.heap[g]?) => (World.cell?_of_block (a := ⟨g, 0, none⟩) e).trans (log_cells HL.out.blk).1
        have HC := Lib.hid hC
        clear hC
        obtain ⟨i0, hi, hz0, hz1, hz2⟩ := info_parts info_u8
        go_upto_region 7 with fail
        refine planE_abs (fun wx => wx.heap[g]? = w1.heap[g]?) 10 [(true, 0), (true, 1), (true, 2), (true, 3), (true, 4), (true, 5), (false, 6), (false, 7), (false, 8), (false, 9), (false, 10)] (by kernel_rfl) (by kernel_rfl) (fun _ _ d _ _ h => by cases d <;> exact h) fun w5 hs5 => ⟨by rw [hs5.heap], ?_⟩
        have Y5 := Lib.hid (show Below w1.heap.size w1 w5 from hs5.below _)
        clear hs5
        iterate 6 (refine pe_run _ ?_ rfl rfl ?_ ?_; rotate_left; (focus (intro w' hS; have c0 := HC.out w' hS; go_simp; exact rfl)); simp only [Act.put, List.setIfInBounds_toArray, List.set_cons_zero, List.set_cons_succ, List.getElem_toArray, List.getElem_cons_zero, List.getElem_cons_succ])
        refine pe_call (R := fun u w' => u = .string (txt b) ∧ Below w5.heap.size w5 w') _ rfl rfl (by go_simp) ((text_any b (by have := HP.out; omega) w5).mono fun e w' h => ⟨_, h.1, rfl, h.2⟩) (fun u w' h => (h.2.block g (Nat.lt_of_lt_of_le HL.out.blk.lt Y5.out.size)).trans (Y5.out.block g HL.out.blk.lt)) fun u w6 hr => ?_
        obtain ⟨rfl, hb6⟩ := hr
        have Y6 := Lib.hid (Y5.out.trans (hb6.mono Y5.out.size))
        have L6 := Lib.hid (HL.out.low Y6.out)
        clear hb6
        simp only [Act.put, List.setIfInBounds_toArray, List.set_cons_zero, List.set_cons_succ, List.getElem_toArray, List.getElem_cons_zero, List.getElem_cons_succ]
        obtain ⟨v7, w7, hr7, hrow, hgr, how⟩ := run_append_row (P := Try.prog) w6 60 9 60 5 i0 Try.underlying60 Try.underlying9 hi hz0 hz1 hz2 v _ (txt b) L6.out.row (by rw [txt_size]; omega) (by
          obtain ⟨e1, e2, e3⟩ := burn_same s
          have := HZ.out; have := HP.out; unfold sizeL at *
          rw [ByteArray.size_append, e1, e2, txt_size]; omega)
        have HROW := Lib.hid hrow
        have HGR := Lib.hid hgr
        have HOW := Lib.hid how
        have HG7 := Lib.hid (hgr.block g L6.out.blk.lt (fun e => L6.out.ne e.symm))
        clear hrow hgr how hz0 hz1 hz2 hi
        refine pe_value (w' := w7) _ v7 rfl rfl (by simp only [List.getElem_toArray, List.getElem_cons_zero, List.getElem_cons_succ]; simp only [execOp, resolve, invoke, builtin, Sem.run_bind, Sem.run_pure, Result.andThen_ok, List.map_toArray, List.map_cons, List.map_nil]; show ((Builtin.append_ #[60, 9] 60 #[v, .string (txt b)]).run Try.prog w6).andThen _ = _; rw [hr7]; rfl) (HG7.out.trans (Y6.out.block g HL.out.blk.lt)) ?_
        clear hr7
        simp only [Act.put, List.setIfInBounds_toArray, List.set_cons_zero, List.set_cons_succ, List.getElem_toArray, List.getElem_cons_zero, List.getElem_cons_succ]
        refine pe_value (w' := w7) _ (.pointer (some ⟨g, 0, none⟩)) rfl rfl (by go_simp) (HG7.out.trans (Y6.out.block g HL.out.blk.lt)) ?_
        simp only [Act.put, List.setIfInBounds_toArray, List.set_cons_zero, List.set_cons_succ, List.getElem_toArray, List.getElem_cons_zero, List.getElem_cons_succ]
        refine pe_value (w' := w7) _ (.pointer (some ⟨g, 0, none⟩)) rfl rfl (by go_simp) (HG7.out.trans (Y6.out.block g HL.out.blk.lt)) ?_
        simp only [Act.put, List.setIfInBounds_toArray, List.set_cons_zero, List.set_cons_succ, List.getElem_toArray, List.getElem_cons_zero, List.getElem_cons_succ]
        refine pe_last _ rfl ?_
        simp only [List.getElem_toArray, List.getElem_cons_zero, List.getElem_cons_succ]
        have B7 := Lib.hid (L6.out.blk.of_heap HG7.out)
        obtain ⟨c0, c1, c2, c3, c4⟩ := log_cells B7.out
        have f0 := B7.out.frz 0
        obtain ⟨a7, n7, cap7, hv7⟩ : ∃ a n c, v7 = .slice a n c := by obtain ⟨a, c, e⟩ := HROW.out.sl; exact ⟨a, _, c, e⟩
        have HV7 := Lib.hid hv7
        rw [hv7]
        clear hv7 c1 c2 c3 c4
        go_wp2_with fail
        go_ret
        rw [HD.out, ← HV7.out]
        obtain ⟨e1, e2, e3⟩ := burn_same s
        have hne : v7.ownBlock ≠ some g := by
          rcases HOW.out with e | e
          · rw [e]; exact L6.out.ne
          · rw [e]; intro e'; have := L6.out.blk.lt; simp only [Option.some.injEq] at e'; omega
        have hz6 := Nat.le_trans (show w.heap.size ≤ w1.heap.size by rw [HU.out.size]; exact Nat.le_refl _) Y6.out.size
        have hK : Keeps (fun x => ¬ O x) w w7 := by
          refine (Keeps.trans (Keeps.upd HU.out fun x hx e => hx ((H.out.own x).2 (.inl e))) (Keeps.of Y6.out)).trans ⟨⟨HGR.out.os, HGR.out.tape, HGR.out.output, HGR.out.size, fun k hk => absurd hk (Nat.not_lt_zero _)⟩, fun x hx hl => HGR.out.block x hl fun e => hx ((H.out.own x).2 (.inr e.symm))⟩
        refine ⟨rfl, fun x => x = g ∨ v7.ownBlock = some x, ⟨v7, burnC left, ?_, ?_, fun _ => Iff.rfl, hne, L6.out.left_, L6.out.lo, L6.out.hi⟩, hK.trans (Keeps.upd (Upd.set _ g _ _) fun x hx e => hx ((H.out.own x).2 (.inl e))), fun x hx => ?_⟩
        · exact log_set0 B7.out v7
        · have := HROW.out.of_heap (w' := w7.setCell ⟨g, 0, none⟩ v7) (by simp [World.setCell]) fun x e => Below.heap_setCell _ _ _ _ (fun e' => hne (by rw [e, e']))
          rw [e1, e2, ByteArray.append_assoc] at this
          show ByRow _ v7 ((burnL s).safe ++ (s.wait ++ txt b))
          rw [e1]
          exact this
        · rcases hx with hx | hx
          · exact .inl ((H.out.own x).2 (.inl hx))
          · rcases HOW.out with e | e
            · exact .inl ((H.out.own x).2 (.inr (by rw [← e]; exact hx)))
            · rw [e] at hx; simp only [Option.some.injEq] at hx; right; omega
end
end Go.Proofs.Ytnahebfhhcebpaa
end
section
open Go Go.RowKit
namespace SS
open RR FF CC WW BB
theorem crash_bytes (s : Lg) (k : Nat) : (s.safe ++ s.wait).extract 0 (s.safe.size + k) = s.safe ++ s.wait.extract 0 k := by
  apply ba_ext
  have h1 := ba_list s.safe
  rw [ext_list, app_list, app_list, ext_list, List.drop_zero, List.drop_zero, Nat.sub_zero, Nat.sub_zero, List.take_append, h1, List.take_of_length_le (by omega), show s.safe.size + k - s.safe.size = k by omega]
theorem ByRow.cap_le {w : World} {a0 : Option Addr} {n cap : Nat} {bs : ByteArray} (h : ByRow w (.slice a0 n cap) bs) : bs.size ≤ cap ∧ (if cap = 0 then a0 else a0.map (·.add 0)) = a0 := by
  rcases h with ⟨e, h0⟩ | ⟨b', cap', e, h1, h2, h3, h4⟩
  · simp only [Value.slice.injEq] at e
    obtain ⟨rfl, rfl, rfl⟩ := e
    exact ⟨by omega, rfl⟩
  · simp only [Value.slice.injEq] at e
    obtain ⟨rfl, rfl, rfl⟩ := e
    refine ⟨h1, ?_⟩
    split
    · rfl
    · rfl
end SS
namespace Go.Proofs.Ytnahebfhhcebpaa
open SS RR FF CC WW BB
section
variable (O : Nat → Prop) (w : World) (g : Nat) (s : Lg) (n : Int)
end
end Go.Proofs.Ytnahebfhhcebpaa
end
