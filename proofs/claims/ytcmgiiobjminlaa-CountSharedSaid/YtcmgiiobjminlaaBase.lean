/-
  Plain lemmas: words of 32 bits as Go's numbers; a block of memory that is known whole; what is left as it was. No program is named here.
-/
import Derived.WalkKit
import Derived.Lib.Hide
import Derived.StillTailTactics
import Derived.BigQuiet
open Go Go.RowKit
namespace BB
theorem bvadd (a b : BitVec 32) : IntKind.u32.wrap ((a.toNat : Int) + (b.toNat : Int)) = ((a + b).toNat : Int) := by
  rw [IntKind.wrap_u32', BitVec.toNat_add]; omega
theorem ofInt32 (a : BitVec 32) : BitVec.ofInt 32 (a.toNat : Int) = a := by
  apply BitVec.eq_of_toNat_eq; simp
theorem bvwrap (a : BitVec 32) : IntKind.u32.wrap (a.toNat : Int) = (a.toNat : Int) := by
  rw [IntKind.wrap_u32']; omega
theorem bvxor (a b : BitVec 32) : bits .xor .u32 (a.toNat : Int) (b.toNat : Int) = ((a ^^^ b).toNat : Int) := by
  unfold bits; simp only [IntKind.bits, ofInt32, bvwrap]; rfl
theorem bvor (a b : BitVec 32) : bits .or .u32 (a.toNat : Int) (b.toNat : Int) = ((a ||| b).toNat : Int) := by
  unfold bits; simp only [IntKind.bits, ofInt32, bvwrap]; rfl
theorem ret_int {k : IntKind} {a b : Int} (h : a = b) : Ending.returned (.int k a) = .returned (.int k b) := by rw [h]
/-- turned right by n -/
def ror (n : Nat) (x : BitVec 32) : BitVec 32 := x >>> n ||| x <<< (32 - n)
theorem ror_code (x : BitVec 32) (n : Nat) (P Q : Int) (hP : P = 2 ^ (32 - n)) (hQ : Q = 2 ^ n) :
    bits .or .u32 ((x.toNat : Int) * P % 4294967296) ((x.toNat : Int) / Q) = ((ror n x).toNat : Int) := by
  have e1 : (x.toNat : Int) * P % 4294967296 = ((x <<< (32 - n)).toNat : Int) := by
    rw [BitVec.toNat_shiftLeft, Nat.shiftLeft_eq, hP]; simp
  have e2 : (x.toNat : Int) / Q = ((x >>> n).toNat : Int) := by
    rw [BitVec.toNat_ushiftRight, Nat.shiftRight_eq_div_pow, hQ]; simp
  rw [e1, e2, bvor, BitVec.or_comm]; rfl
/-- the two worlds part in the count of draws alone -/
structure Same (w w' : World) : Prop where
  heap : w'.heap = w.heap
  tape : w'.tape = w.tape
  os : w'.os = w.os
  output : w'.output = w.output
theorem Same.cell {w w' : World} (h : Same w w') (p : Addr) : w'.cell? p = w.cell? p := by unfold World.cell?; rw [h.heap]
theorem Same.frozen {w w' : World} (h : Same w w') (p : Addr) : w'.frozen? p = w.frozen? p := by unfold World.frozen?; rw [h.heap]
theorem Same.refl (w : World) : Same w w := ⟨rfl, rfl, rfl, rfl⟩
theorem Same.drewN (w : World) (n : Nat) : Same w (w.drewN n) := ⟨rfl, rfl, rfl, rfl⟩
theorem Same.below {w w' : World} (h : Same w w') (B : Nat) : Below B w w' := ⟨h.os, h.tape, h.output, by rw [h.heap]; exact Nat.le_refl _, fun _ _ => by rw [h.heap]⟩
/-- a region that reads, and then ends in operations in one order: walked in the order of the text, in a world that parts from this one in the draws alone -/
theorem tail_abs {P : Program} {id : Nat} {Q : Exit → Act → World → Prop} {a : Act} {w : World} {l : List Oper} (n : Nat) (hm : P.follows .mixedOrders = true) (hB : Region.lexTailB .any l.toArray n = true)
    (h : ∀ w2, Same w w2 → wpStill P l.toArray w2 (fun a' => wpList P l.toArray Q (l.drop n) a' w2) (l.take n) a) : (Code.region id l.toArray true).wp P Q a w :=
  wp_region_still_tail n hm hB (h _ ⟨rfl, rfl, rfl, rfl⟩)
theorem quiet_abs {P : Program} {id : Nat} {Q : Exit → Act → World → Prop} {a : Act} {w : World} {l : List Oper} (hm : P.follows .mixedOrders = true) (hB : Region.lexB .any l.toArray = true)
    (h : ∀ w2, Same w w2 → wpStill P l.toArray w2 (fun a' => Q .normal a' w2) l a) : (Code.region id l.toArray true).wp P Q a w :=
  wp_region_still_lit hm hB (h _ ⟨rfl, rfl, rfl, rfl⟩)
theorem abs_wp (R : World → Prop) {P : Program} {c : Code} {Q : Exit → Act → World → Prop} {a : Act} {w : World} (h1 : R w) (h2 : ∀ w', R w' → Code.wp P c Q a w') : Code.wp P c Q a w := h2 w h1
theorem abs_body (R : World → Prop) {P : Program} {f : Func} {Q : Ending → World → Prop} {x : Exit} {a : Act} {w : World} (h1 : R w) (h2 : ∀ w', R w' → bodyPost P f Q x a w') : bodyPost P f Q x a w := h2 w h1
theorem abs_list (R : World → Prop) {P : Program} {ops : Array Oper} {Q : Exit → Act → World → Prop} {l : List Oper} {a : Act} {w : World} (h1 : R w) (h2 : ∀ w', R w' → wpList P ops Q l a w') : wpList P ops Q l a w := h2 w h1
def put {α : Type} (v : Nat → α) (i : Nat) (x : α) : Nat → α := fun j => if j = i then x else v j
theorem put_same {α : Type} (v : Nat → α) (i : Nat) (x : α) : put v i x i = x := by simp [put]
theorem put_other {α : Type} (v : Nat → α) {i j : Nat} (x : α) (h : j ≠ i) : put v i x j = v j := by simp [put, h]
/-- n cells in a row -/
def row (n : Nat) (f : Nat → Value) : Array Value := ((List.range n).map f).toArray
theorem row_size (n : Nat) (f : Nat → Value) : (row n f).size = n := by simp [row]
theorem row_get (n : Nat) (f : Nat → Value) (i : Nat) (h : i < n) : (row n f)[i]? = some (f i) := by simp [row, h]
theorem row_set (n : Nat) (f : Nat → Value) (i : Nat) (u : Value) : (row n f).setIfInBounds i u = row n (put f i u) := by
  apply Array.ext_getElem?
  intro j
  rw [Array.getElem?_setIfInBounds]
  by_cases hj : j < n
  · rw [row_get n _ j hj, row_get n _ j hj, row_size]
    by_cases e : i = j
    · subst e; simp [put_same, hj]
    · rw [if_neg e, put_other _ _ (fun h => e h.symm)]
  · have h1 : (row n f)[j]? = none := by rw [Array.getElem?_eq_none]; rw [row_size]; omega
    have h2 : (row n (put f i u))[j]? = none := by rw [Array.getElem?_eq_none]; rw [row_size]; omega
    rw [h1, h2, row_size]
    by_cases e : i = j
    · subst e; simp [hj]
    · rw [if_neg e]
theorem row_congr (n : Nat) (f g : Nat → Value) (h : ∀ i, i < n → f i = g i) : row n f = row n g := by
  unfold row; congr 1; apply List.map_congr_left; intro i hi; exact h i (List.mem_range.1 hi)
/-- block b is n cells, f -/
def Blk (w : World) (b n : Nat) (f : Nat → Value) : Prop := ∃ t, w.heap[b]? = some (.cells (row n f) t (0, 0))
theorem Blk.lt {w : World} {b n : Nat} {f : Nat → Value} (h : Blk w b n f) : b < w.heap.size := by
  obtain ⟨t, h⟩ := h
  rcases Nat.lt_or_ge b w.heap.size with g | g
  · exact g
  · rw [Array.getElem?_eq_none g] at h; cases h
theorem Blk.get {w : World} {b n : Nat} {f : Nat → Value} (h : Blk w b n f) (i : Nat) (hi : i < n) : w.cell? ⟨b, i, none⟩ = some (f i) := by
  obtain ⟨t, h⟩ := h
  unfold World.cell?; rw [h]; simp [row_get n f i hi]
theorem Blk.frz {w : World} {b n : Nat} {f : Nat → Value} (h : Blk w b n f) (i : Nat) : w.frozen? ⟨b, i, none⟩ = false := by
  obtain ⟨t, h⟩ := h
  unfold World.frozen?; rw [h]; simp
theorem Blk.of_heap {w w' : World} {b n : Nat} {f : Nat → Value} (h : Blk w b n f) (e : w'.heap[b]? = w.heap[b]?) : Blk w' b n f := by
  obtain ⟨t, h⟩ := h; exact ⟨t, e.trans h⟩
theorem Blk.same {w w' : World} {b n : Nat} {f : Nat → Value} (h : Blk w b n f) (hs : Same w w') : Blk w' b n f := h.of_heap (by rw [hs.heap])
theorem Blk.below {w w' : World} {b n B : Nat} {f : Nat → Value} (h : Blk w b n f) (hs : Below B w w') (hb : b < B) : Blk w' b n f := h.of_heap (hs.block b hb)
theorem Blk.alloc {w : World} {b n : Nat} {f : Nat → Value} (h : Blk w b n f) (o : Obj) : Blk (w.alloc o) b n f := h.of_heap (Below.heap_alloc _ _ _ h.lt)
theorem Blk.new (w : World) (n : Nat) (f : Nat → Value) (cs : Array Value) (t : TypeId) (e : cs = row n f) : Blk (w.alloc (.cells cs t)) w.heap.size n f :=
  ⟨t, by subst e; show (w.heap.push _)[w.heap.size]? = _; simp⟩
theorem Blk.new' {w : World} {b n : Nat} {f : Nat → Value} {cs : Array Value} {t : TypeId} (hb : b = w.heap.size) (e : cs = row n f) : Blk (w.alloc (.cells cs t)) b n f := hb ▸ Blk.new w n f cs t e
theorem Blk.set {w : World} {b n : Nat} {f : Nat → Value} (h : Blk w b n f) (i : Nat) (u : Value) : Blk (w.setCell ⟨b, i, none⟩ u) b n (put f i u) := by
  obtain ⟨t, h⟩ := h
  refine ⟨t, ?_⟩
  unfold World.setCell
  simp only [Array.getElem?_modify, if_true, h, Option.map_some]
  simp [row_set]
theorem Blk.set_other {w : World} {b n : Nat} {f : Nat → Value} (h : Blk w b n f) (a : Addr) (u : Value) (hb : b ≠ a.block) : Blk (w.setCell a u) b n f := h.of_heap (Below.heap_setCell w a u b hb)
theorem Blk.congr {w : World} {b n : Nat} {f : Nat → Value} (h : Blk w b n f) (g : Nat → Value) (e : ∀ i, i < n → f i = g i) : Blk w b n g := by
  obtain ⟨t, h⟩ := h; exact ⟨t, by rw [← row_congr n f g e]; exact h⟩
/-- but for the block b (and the draws) the world is as it was -/
structure Upd (b : Nat) (w w' : World) : Prop where
  size : w'.heap.size = w.heap.size
  block : ∀ k, k ≠ b → w'.heap[k]? = w.heap[k]?
  tape : w'.tape = w.tape
  os : w'.os = w.os
  output : w'.output = w.output
theorem Upd.refl (b : Nat) (w : World) : Upd b w w := ⟨rfl, fun _ _ => rfl, rfl, rfl, rfl⟩
theorem Upd.trans {b : Nat} {x y z : World} (h : Upd b x y) (k : Upd b y z) : Upd b x z :=
  ⟨k.size.trans h.size, fun i hi => (k.block i hi).trans (h.block i hi), k.tape.trans h.tape, k.os.trans h.os, k.output.trans h.output⟩
theorem Same.upd {w w' : World} (h : Same w w') (b : Nat) : Upd b w w' := ⟨by rw [h.heap], fun _ _ => by rw [h.heap], h.tape, h.os, h.output⟩
theorem Upd.set (w : World) (b i : Nat) (u : Value) : Upd b w (w.setCell ⟨b, i, none⟩ u) :=
  ⟨by simp [World.setCell], fun k hk => Below.heap_setCell w _ u k hk, rfl, rfl, rfl⟩
theorem Upd.below {b B : Nat} {w w' : World} (h : Upd b w w') (hb : B ≤ b) : Below B w w' := ⟨h.os, h.tape, h.output, by rw [h.size]; exact Nat.le_refl _, fun k hk => h.block k (by omega)⟩
theorem Blk.upd {w w' : World} {b c n : Nat} {f : Nat → Value} (h : Blk w b n f) (hu : Upd c w w') (hb : b ≠ c) : Blk w' b n f := h.of_heap (hu.block b hb)
/-- block b holds f, and but for b the world is as w was -/
def MS (w : World) (b n : Nat) (f : Nat → Value) (w' : World) : Prop := Blk w' b n f ∧ Upd b w w'
section
variable {w w' w2 : World} {b n : Nat} {f : Nat → Value}
theorem MS.mk (h : Blk w b n f) : MS w b n f w := ⟨h, Upd.refl _ _⟩
theorem MS.same (h : MS w b n f w') (hs : Same w' w2) : MS w b n f w2 := ⟨h.1.same hs, h.2.trans (hs.upd b)⟩
theorem MS.get (h : MS w b n f w') (i : Nat) (hi : i < n) : w'.cell? ⟨b, i, none⟩ = some (f i) := h.1.get i hi
theorem MS.frz (h : MS w b n f w') (i : Nat) : w'.frozen? ⟨b, i, none⟩ = false := h.1.frz i
theorem MS.set (h : MS w b n f w') (i : Nat) (u : Value) : MS w b n (put f i u) (w'.setCell ⟨b, i, none⟩ u) := ⟨h.1.set i u, h.2.trans (Upd.set _ _ _ _)⟩
theorem MS.set' (h : MS w b n f w') (i : Nat) (u : Value) (g : Nat → Value) (e : put f i u = g) : MS w b n g (w'.setCell ⟨b, i, none⟩ u) := e ▸ h.set i u
end
/-- words as cells -/
def cw (k : IntKind) (v : Nat → BitVec 32) : Nat → Value := fun i => .int k ((v i).toNat : Int)
theorem cw_put (k : IntKind) (v : Nat → BitVec 32) (i : Nat) (x : BitVec 32) (u : Value) (h : u = .int k (x.toNat : Int)) : put (cw k v) i u = cw k (put v i x) := by
  subst h; funext j; unfold cw put; split <;> rfl
/-- bytes as cells -/
def cb (v : Nat → Nat) : Nat → Value := fun i => .int .u8 (v i : Int)
/-- one addition, one turn, the eight of them -/
def add3 (v : Nat → BitVec 32) (a b : Nat) (x : BitVec 32) : Nat → BitVec 32 := put v a (v a + (v b + x))
def add2 (v : Nat → BitVec 32) (a b : Nat) : Nat → BitVec 32 := put v a (v a + v b)
def turn (n : Nat) (v : Nat → BitVec 32) (a b : Nat) : Nat → BitVec 32 := put v a (ror n (v a ^^^ v b))
def gmix (v : Nat → BitVec 32) (a b c d : Nat) (x y : BitVec 32) : Nat → BitVec 32 :=
  turn 7 (add2 (turn 8 (add3 (turn 12 (add2 (turn 16 (add3 v a b x) d a) c d) b c) a b y) d a) c d) b c
theorem add3_code (a b x : BitVec 32) : Value.int .u32 (((a.toNat : Int) + ((b.toNat : Int) + (x.toNat : Int)) % 4294967296) % 4294967296) = .int .u32 ((a + (b + x)).toNat : Int) := by
  congr 1
theorem add2_code (a b : BitVec 32) : Value.int .u32 (((a.toNat : Int) + (b.toNat : Int)) % 4294967296) = .int .u32 ((a + b).toNat : Int) := by
  congr 1
/-- n cells of block b, read alone -/
def Cells (w : World) (b n : Nat) (f : Nat → Value) : Prop := ∀ i, i < n → w.cell? ⟨b, i, none⟩ = some (f i)
theorem Blk.cells {w : World} {b n : Nat} {f : Nat → Value} (h : Blk w b n f) : Cells w b n f := fun i hi => h.get i hi
theorem Cells.same {w w' : World} {b n : Nat} {f : Nat → Value} (h : Cells w b n f) (hs : Same w w') : Cells w' b n f := fun i hi => (hs.cell _).trans (h i hi)
theorem Cells.below {w w' : World} {b n B : Nat} {f : Nat → Value} (h : Cells w b n f) (hs : Below B w w') (hb : b < B) : Cells w' b n f := fun i hi => (hs.cell (p := ⟨b, i, none⟩) hb).trans (h i hi)
theorem Cells.upd {w w' : World} {b c n : Nat} {f : Nat → Value} (h : Cells w b n f) (hu : Upd c w w') (hb : b ≠ c) : Cells w' b n f := fun i hi => (World.cell?_of_block (w := w) (hu.block b hb)).trans (h i hi)
theorem Cells.at_ {w : World} {b n : Nat} {f : Nat → Value} (h : Cells w b n f) (i : Nat) (hi : i < n) : w.cell? ⟨b, i, none⟩ = some (f i) := h i hi
/-- a whole array is read -/
theorem run_load_row {P : Program} {w : World} {T b N m off : Nat} {f : Nat → Value} (hT : (isAgg T).run P w = .ok true w) (hS : (Go.sizeOf T).run P w = .ok m w)
    (hb : Cells w b N f) (hN : off + m ≤ N) : (loadVar T ⟨b, off, none⟩).run P w = .ok (.agg (row m fun i => f (off + i))) w := by
  have hl := run_loadCells (P := P) w ⟨b, off, none⟩ m (fun i => f (off + i)) (fun j hj => by
    have : (⟨b, off, none⟩ : Addr).add j = ⟨b, off + j, none⟩ := by unfold Addr.add; split <;> simp [*]
    rw [this]; exact hb _ (by omega))
  unfold loadVar
  simp only [Sem.run_bind, hT, Result.andThen_ok, hS, if_true, hl]
  rfl
theorem row_splice (N m off : Nat) (f g : Nat → Value) (h : off + m ≤ N) :
    (List.take off (row N f).toList ++ (row m g).toList ++ List.drop (off + m) (row N f).toList).toArray = row N (fun j => if off ≤ j ∧ j < off + m then g (j - off) else f j) := by
  apply Array.ext_getElem?
  intro j
  simp only [row, List.getElem?_toArray, List.getElem?_append, List.length_append, List.length_take, List.length_map, List.length_range, List.getElem?_take, List.getElem?_map, List.getElem?_drop]
  by_cases h1 : j < off
  · have e1 : j < min off N + m := by omega
    have e2 : j < min off N := by omega
    have e3 : ¬ (off ≤ j ∧ j < off + m) := by omega
    rw [if_pos e1, if_pos e2]
    simp only [h1, if_true, List.getElem?_range (show j < N by omega), Option.map_some, if_neg e3]
  · by_cases h2 : j < off + m
    · have e1 : j < min off N + m := by omega
      have e2 : ¬ j < min off N := by omega
      have e3 : (off ≤ j ∧ j < off + m) := by omega
      rw [if_pos e1, if_neg e2]
      have e4 : j - min off N = j - off := by omega
      rw [e4, List.getElem?_range (show j - off < m by omega), List.getElem?_range (show j < N by omega)]
      simp only [Option.map_some, if_pos e3]
    · have e1 : ¬ j < min off N + m := by omega
      have e3 : ¬ (off ≤ j ∧ j < off + m) := by omega
      rw [if_neg e1]
      have e4 : off + m + (j - (min off N + m)) = j := by omega
      rw [e4]
      by_cases h3 : j < N
      · rw [List.getElem?_range h3]; simp only [Option.map_some, if_neg e3]
      · have : (List.range N)[j]? = none := by rw [List.getElem?_eq_none]; simp; omega
        rw [this]; rfl
/-- a whole array is written -/
theorem run_store_row {P : Program} {w : World} {T b N m off : Nat} {f g : Nat → Value} (hS : (Go.sizeOf T).run P w = .ok m w)
    (hb : Blk w b N f) (hN : off + m ≤ N) (h1 : ∀ i, i < m → (g i).oneCell' = true) :
    ∃ w', (storeVar T ⟨b, off, none⟩ (.agg (row m g))).run P w = .ok () w' ∧ MS w b N (fun j => if off ≤ j ∧ j < off + m then g (j - off) else f j) w' := by
  obtain ⟨t, ht⟩ := hb
  have hl : (row m g).toList.length = m := by simp [row]
  have hst := run_storeCells_at P b off t (row m g).toList 0 (row N f) w ht (by rw [row_size, hl]; omega) (fun v hv => by
    simp only [row, List.mem_map, List.mem_range] at hv
    obtain ⟨i, hi, rfl⟩ := hv
    exact h1 i hi)
  refine ⟨w.setRow b (List.take off (row N f).toList ++ (row m g).toList ++ List.drop (off + m) (row N f).toList).toArray, ?_, ?_, ?_⟩
  · unfold storeVar
    simp only [Sem.run_bind, hS, Result.andThen_ok, Value.cells, row_size, ne_eq, not_true_eq_false, if_false]
    rw [hst, hl, Nat.add_zero]
  · exact ⟨t, by rw [← row_splice N m off f g hN]; exact setRow_heap w b _ _ t _ ht⟩
  · refine ⟨by simp [World.setRow], fun k hk => ?_, rfl, rfl, rfl⟩
    simp only [World.setRow, Array.getElem?_modify]
    rw [if_neg (fun h => hk h.symm)]
section
variable {P : Program} {ops : Array Oper} {Q : Exit → Act → World → Prop} {a : Act} {w : World} {rest : List Oper} {o : Oper}
theorem still_of_run {K : Act → Prop} {v : Value} (h : (execOp a.eval o).run P w = .ok (.value v) w) (hK : K (a.put o.dst v)) : o.still P a w K := by
  unfold Oper.still; rw [h]; exact ⟨rfl, hK⟩
theorem stl_step {K : Act → Prop} {v : Value} (hg : o.guard = none) (h : (execOp a.eval o).run P w = .ok (.value v) w) (hK : wpStill P ops w K rest (a.put o.dst v)) : wpStill P ops w K (o :: rest) a :=
  wpStill_step fun K' hK' => by
    have := still_of_run (K := K') h (hK' _ hK)
    simpa [Region.wanted, hg] using this
theorem wpl_value {v : Value} {w' : World} (hg : o.guard = none) (h : (execOp a.eval o).run P w = .ok (.value v) w') (hK : wpList P ops Q rest (a.put o.dst v) w') : wpList P ops Q (o :: rest) a w :=
  wpList_plain hg fun K hK' => by
    have := hK' _ _ hK
    unfold Oper.wp; rw [h]; exact this
theorem wpl_skip {w' : World} (hg : o.guard = none) (h : (execOp a.eval o).run P w = .ok .skip w') (hK : wpList P ops Q rest (a.put o.dst undef) w') : wpList P ops Q (o :: rest) a w :=
  wpList_plain hg fun K hK' => by
    have := hK' _ _ hK
    unfold Oper.wp; rw [h]; exact this
theorem run_op_load {T : TypeId} {ad : Operand} {b off N m : Nat} {f : Nat → Value} (ho : o.op = .load T ad) (ha : a.eval ad = .pointer (some ⟨b, off, none⟩))
    (hT : (isAgg T).run P w = .ok true w) (hS : (Go.sizeOf T).run P w = .ok m w) (hb : Cells w b N f) (hN : off + m ≤ N) :
    (execOp a.eval o).run P w = .ok (.value (.agg (row m fun i => f (off + i)))) w := by
  unfold execOp
  have := run_load_row (P := P) hT hS hb hN
  simp [ho, Instr.loadAt, Instr.sureAddr, ha, this]
theorem run_op_store {T : TypeId} {ad x : Operand} {b off N m : Nat} {f g : Nat → Value} (ho : o.op = .store T ad x) (ha : a.eval ad = .pointer (some ⟨b, off, none⟩))
    (hx : a.eval x = .agg (row m g)) (hS : (Go.sizeOf T).run P w = .ok m w) (hb : Blk w b N f) (hN : off + m ≤ N) (h1 : ∀ i, i < m → (g i).oneCell' = true) :
    ∃ w', (execOp a.eval o).run P w = .ok .skip w' ∧ MS w b N (fun j => if off ≤ j ∧ j < off + m then g (j - off) else f j) w' := by
  obtain ⟨w', h, hm⟩ := run_store_row (P := P) (f := f) hS hb hN h1
  refine ⟨w', ?_, hm⟩
  unfold execOp
  simp [ho, Instr.storeAt, Instr.sureAddr, ha, hx, h]
/-- 'x := *p' of a whole array, in a list of operations -/
theorem wpl_load {T : TypeId} (ad : Operand) (b off N m : Nat) (f : Nat → Value) (hg : o.guard = none) (ho : o.op = .load T ad) (ha : a.eval ad = .pointer (some ⟨b, off, none⟩))
    (hT : (isAgg T).run P w = .ok true w) (hS : (Go.sizeOf T).run P w = .ok m w) (hb : Cells w b N f) (hN : off + m ≤ N)
    (hK : wpList P ops Q rest (a.put o.dst (.agg (row m fun i => f (off + i)))) w) : wpList P ops Q (o :: rest) a w :=
  wpl_value hg (run_op_load ho ha hT hS hb hN) hK
theorem stl_load {K : Act → Prop} {T : TypeId} (ad : Operand) (b off N m : Nat) (f : Nat → Value) (hg : o.guard = none) (ho : o.op = .load T ad) (ha : a.eval ad = .pointer (some ⟨b, off, none⟩))
    (hT : (isAgg T).run P w = .ok true w) (hS : (Go.sizeOf T).run P w = .ok m w) (hb : Cells w b N f) (hN : off + m ≤ N)
    (hK : wpStill P ops w K rest (a.put o.dst (.agg (row m fun i => f (off + i))))) : wpStill P ops w K (o :: rest) a :=
  stl_step hg (run_op_load ho ha hT hS hb hN) hK
theorem wpl_store {T : TypeId} (ad x : Operand) (b off N m : Nat) (f g : Nat → Value) (hg : o.guard = none) (ho : o.op = .store T ad x) (ha : a.eval ad = .pointer (some ⟨b, off, none⟩))
    (hx : a.eval x = .agg (row m g)) (hS : (Go.sizeOf T).run P w = .ok m w) (hb : Blk w b N f) (hN : off + m ≤ N) (h1 : ∀ i, i < m → (g i).oneCell' = true)
    (hK : ∀ w', MS w b N (fun j => if off ≤ j ∧ j < off + m then g (j - off) else f j) w' → wpList P ops Q rest (a.put o.dst undef) w') : wpList P ops Q (o :: rest) a w := by
  obtain ⟨w', h, hm⟩ := run_op_store ho ha hx hS hb hN h1
  exact wpl_skip hg h (hK w' hm)
theorem results_row {fn : Func} {p T b N m : Nat} {f : Nat → Value} {tmps : Array Value} (h : fn.results = #[.cell p T]) (hp : tmps.getD p undef = .pointer (some ⟨b, 0, none⟩))
    (hT : (isAgg T).run P w = .ok true w) (hS : (Go.sizeOf T).run P w = .ok m w) (hb : Cells w b N f) (hN : m ≤ N) : (results fn tmps).run P w = .ok (.agg (row m f)) w := by
  have := run_load_row (P := P) (off := 0) hT hS hb (by omega)
  simp only [Nat.zero_add] at this
  have hp' : tmps[p]?.getD undef = .pointer (some ⟨b, 0, none⟩) := by simpa using hp
  unfold results
  simp [h, hp', asAddr, this]
/-- a function whose result is a whole array in memory is at its end -/
theorem body_row {fn : Func} {R : Ending → World → Prop} {p T b N m : Nat} {f : Nat → Value} (h : fn.results = #[.cell p T]) (hp : a.tmps.getD p undef = .pointer (some ⟨b, 0, none⟩))
    (hT : (isAgg T).run P w = .ok true w) (hS : (Go.sizeOf T).run P w = .ok m w) (hb : Cells w b N f) (hN : m ≤ N) (hd : a.defers = []) (hR : R (.returned (.agg (row m f))) w) : bodyPost P fn R .ret a w :=
  bodyPost_ret (results_row h hp hT hS hb hN) hd hR
/-- a whole array is read, in a world of which R is all that is still wanted -/
theorem wpl_load_abs (R : World → Prop) {T : TypeId} (ad : Operand) (b off N m : Nat) (f : Nat → Value) (hg : o.guard = none) (ho : o.op = .load T ad) (ha : a.eval ad = .pointer (some ⟨b, off, none⟩))
    (hT : ∀ w, (isAgg T).run P w = .ok true w) (hS : ∀ w, (Go.sizeOf T).run P w = .ok m w) (hN : off + m ≤ N) (hb : ∀ w', R w' → Cells w' b N f) (hR : R w)
    (hK : ∀ w', R w' → wpList P ops Q rest (a.put o.dst (.agg (row m fun i => f (off + i)))) w') : wpList P ops Q (o :: rest) a w :=
  wpl_load ad b off N m f hg ho ha (hT _) (hS _) (hb w hR) hN (hK w hR)
end
theorem xor_n (x : BitVec 32) (n : Nat) : bits .xor .u32 (x.toNat : Int) ((n : Int) % 4294967296) = ((x ^^^ BitVec.ofNat 32 n).toNat : Int) := by
  rw [← bvxor, BitVec.toNat_ofNat]; rfl
end BB
