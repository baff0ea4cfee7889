/-
  The walk of the code's mixed: what a block makes of the eight words.
-/
import Derived.WalkKit
import Derived.Lib.Hide
import Derived.StillTailTactics
import Derived.BigQuiet
import Derived.Test.YthajnkcipifhcaaGreatDoorRows
section
open Go Go.RowKit
namespace BB
theorem ofInt32 (a : BitVec 32) : BitVec.ofInt 32 (a.toNat : Int) = a := by
  apply BitVec.eq_of_toNat_eq; simp
theorem bvwrap (a : BitVec 32) : IntKind.u32.wrap (a.toNat : Int) = (a.toNat : Int) := by
  rw [IntKind.wrap_u32']; omega
theorem bvxor (a b : BitVec 32) : bits .xor .u32 (a.toNat : Int) (b.toNat : Int) = ((a ^^^ b).toNat : Int) := by
  unfold bits; simp only [IntKind.bits, ofInt32, bvwrap]; rfl
theorem bvor (a b : BitVec 32) : bits .or .u32 (a.toNat : Int) (b.toNat : Int) = ((a ||| b).toNat : Int) := by
  unfold bits; simp only [IntKind.bits, ofInt32, bvwrap]; rfl
theorem ret_int {k : IntKind} {a b : Int} (h : a = b) : Ending.returned (.int k a) = .returned (.int k b) := by rw [h]
/-- turned right by n -/
def ror (n : Nat) (x : BitVec 32) : BitVec 32 := x >>> n ||| x <<< (32 - n)
theorem ror_code (x : BitVec 32) (n : Nat) (P Q : Int) (hP : P = 2 ^ (32 - n)) (hQ : Q = 2 ^ n) :
    bits .or .u32 ((x.toNat : Int) * P % 4294967296) ((x.toNat : Int) / Q) = ((ror n x).toNat : Int) := by
  have e1 : (x.toNat : Int) * P % 4294967296 = ((x <<< (32 - n)).toNat : Int) := by
    rw [BitVec.toNat_shiftLeft, Nat.shiftLeft_eq, hP]; simp
  have e2 : (x.toNat : Int) / Q = ((x >>> n).toNat : Int) := by
    rw [BitVec.toNat_ushiftRight, Nat.shiftRight_eq_div_pow, hQ]; simp
  rw [e1, e2, bvor, BitVec.or_comm]; rfl
/-- the two worlds part in the count of draws alone -/
structure Same (w w' : World) : Prop where
  heap : w'.heap = w.heap
  tape : w'.tape = w.tape
  os : w'.os = w.os
  output : w'.output = w.output
theorem Same.cell {w w' : World} (h : Same w w') (p : Addr) : w'.cell? p = w.cell? p := by unfold World.cell?; rw [h.heap]
theorem Same.frozen {w w' : World} (h : Same w w') (p : Addr) : w'.frozen? p = w.frozen? p := by unfold World.frozen?; rw [h.heap]
theorem Same.refl (w : World) : Same w w := ⟨rfl, rfl, rfl, rfl⟩
theorem Same.drewN (w : World) (n : Nat) : Same w (w.drewN n) := ⟨rfl, rfl, rfl, rfl⟩
theorem Same.below {w w' : World} (h : Same w w') (B : Nat) : Below B w w' := ⟨h.os, h.tape, h.output, by rw [h.heap]; exact Nat.le_refl _, fun _ _ => by rw [h.heap]⟩
/-- a region that reads, and then ends in operations in one order: walked in the order of the text, in a world that parts from this one in the draws alone -/
theorem tail_abs {P : Program} {id : Nat} {Q : Exit → Act → World → Prop} {a : Act} {w : World} {l : List Oper} (n : Nat) (hm : P.follows .mixedOrders = true) (hB : Region.lexTailB .any l.toArray n = true)
    (h : ∀ w2, Same w w2 → wpStill P l.toArray w2 (fun a' => wpList P l.toArray Q (l.drop n) a' w2) (l.take n) a) : (Code.region id l.toArray true).wp P Q a w :=
  wp_region_still_tail n hm hB (h _ ⟨rfl, rfl, rfl, rfl⟩)
theorem quiet_abs {P : Program} {id : Nat} {Q : Exit → Act → World → Prop} {a : Act} {w : World} {l : List Oper} (hm : P.follows .mixedOrders = true) (hB : Region.lexB .any l.toArray = true)
    (h : ∀ w2, Same w w2 → wpStill P l.toArray w2 (fun a' => Q .normal a' w2) l a) : (Code.region id l.toArray true).wp P Q a w :=
  wp_region_still_lit hm hB (h _ ⟨rfl, rfl, rfl, rfl⟩)
theorem abs_wp (R : World → Prop) {P : Program} {c : Code} {Q : Exit → Act → World → Prop} {a : Act} {w : World} (h1 : R w) (h2 : ∀ w', R w' → Code.wp P c Q a w') : Code.wp P c Q a w := h2 w h1
theorem abs_body (R : World → Prop) {P : Program} {f : Func} {Q : Ending → World → Prop} {x : Exit} {a : Act} {w : World} (h1 : R w) (h2 : ∀ w', R w' → bodyPost P f Q x a w') : bodyPost P f Q x a w := h2 w h1
theorem abs_list (R : World → Prop) {P : Program} {ops : Array Oper} {Q : Exit → Act → World → Prop} {l : List Oper} {a : Act} {w : World} (h1 : R w) (h2 : ∀ w', R w' → wpList P ops Q l a w') : wpList P ops Q l a w := h2 w h1
def put {α : Type} (v : Nat → α) (i : Nat) (x : α) : Nat → α := fun j => if j = i then x else v j
theorem put_same {α : Type} (v : Nat → α) (i : Nat) (x : α) : put v i x i = x := by simp [put]
theorem put_other {α : Type} (v : Nat → α) {i j : Nat} (x : α) (h : j ≠ i) : put v i x j = v j := by simp [put, h]
/-- n cells in a row -/
def row (n : Nat) (f : Nat → Value) : Array Value := ((List.range n).map f).toArray
theorem row_size (n : Nat) (f : Nat → Value) : (row n f).size = n := by simp [row]
theorem row_get (n : Nat) (f : Nat → Value) (i : Nat) (h : i < n) : (row n f)[i]? = some (f i) := by simp [row, h]
theorem row_set (n : Nat) (f : Nat → Value) (i : Nat) (u : Value) : (row n f).setIfInBounds i u = row n (put f i u) := by
  apply Array.ext_getElem?
  intro j
  rw [Array.getElem?_setIfInBounds]
  by_cases hj : j < n
  · rw [row_get n _ j hj, row_get n _ j hj, row_size]
    by_cases e : i = j
    · subst e; simp [put_same, hj]
    · rw [if_neg e, put_other _ _ (fun h => e h.symm)]
  · have h1 : (row n f)[j]? = none := by rw [Array.getElem?_eq_none]; rw [row_size]; omega
    have h2 : (row n (put f i u))[j]? = none := by rw [Array.getElem?_eq_none]; rw [row_size]; omega
    rw [h1, h2, row_size]
    by_cases e : i = j
    · subst e; simp [hj]
    · rw [if_neg e]
theorem row_congr (n : Nat) (f g : Nat → Value) (h : ∀ i, i < n → f i = g i) : row n f = row n g := by
  unfold row; congr 1; apply List.map_congr_left; intro i hi; exact h i (List.mem_range.1 hi)
/-- block b is n cells, f -/
def Blk (w : World) (b n : Nat) (f : Nat → Value) : Prop := ∃ t, w.heap[b]? = some (.cells (row n f) t (0, 0))
theorem Blk.lt {w : World} {b n : Nat} {f : Nat → Value} (h : Blk w b n f) : b < w.heap.size := by
  obtain ⟨t, h⟩ := h
  rcases Nat.lt_or_ge b w.heap.size with g | g
  · exact g
  · rw [Array.getElem?_eq_none g] at h; cases h
theorem Blk.get {w : World} {b n : Nat} {f : Nat → Value} (h : Blk w b n f) (i : Nat) (hi : i < n) : w.cell? ⟨b, i, none⟩ = some (f i) := by
  obtain ⟨t, h⟩ := h
  unfold World.cell?; rw [h]; simp [row_get n f i hi]
theorem Blk.frz {w : World} {b n : Nat} {f : Nat → Value} (h : Blk w b n f) (i : Nat) : w.frozen? ⟨b, i, none⟩ = false := by
  obtain ⟨t, h⟩ := h
  unfold World.frozen?; rw [h]; simp
theorem Blk.of_heap {w w' : World} {b n : Nat} {f : Nat → Value} (h : Blk w b n f) (e : w'.heap[b]? = w.heap[b]?) : Blk w' b n f := by
  obtain ⟨t, h⟩ := h; exact ⟨t, e.trans h⟩
theorem Blk.same {w w' : World} {b n : Nat} {f : Nat → Value} (h : Blk w b n f) (hs : Same w w') : Blk w' b n f := h.of_heap (by rw [hs.heap])
theorem Blk.below {w w' : World} {b n B : Nat} {f : Nat → Value} (h : Blk w b n f) (hs : Below B w w') (hb : b < B) : Blk w' b n f := h.of_heap (hs.block b hb)
theorem Blk.alloc {w : World} {b n : Nat} {f : Nat → Value} (h : Blk w b n f) (o : Obj) : Blk (w.alloc o) b n f := h.of_heap (Below.heap_alloc _ _ _ h.lt)
theorem Blk.new (w : World) (n : Nat) (f : Nat → Value) (cs : Array Value) (t : TypeId) (e : cs = row n f) : Blk (w.alloc (.cells cs t)) w.heap.size n f :=
  ⟨t, by subst e; show (w.heap.push _)[w.heap.size]? = _; simp⟩
theorem Blk.new' {w : World} {b n : Nat} {f : Nat → Value} {cs : Array Value} {t : TypeId} (hb : b = w.heap.size) (e : cs = row n f) : Blk (w.alloc (.cells cs t)) b n f := hb ▸ Blk.new w n f cs t e
theorem Blk.set {w : World} {b n : Nat} {f : Nat → Value} (h : Blk w b n f) (i : Nat) (u : Value) : Blk (w.setCell ⟨b, i, none⟩ u) b n (put f i u) := by
  obtain ⟨t, h⟩ := h
  refine ⟨t, ?_⟩
  unfold World.setCell
  simp only [Array.getElem?_modify, if_true, h, Option.map_some]
  simp [row_set]
theorem Blk.set_other {w : World} {b n : Nat} {f : Nat → Value} (h : Blk w b n f) (a : Addr) (u : Value) (hb : b ≠ a.block) : Blk (w.setCell a u) b n f := h.of_heap (Below.heap_setCell w a u b hb)
theorem Blk.congr {w : World} {b n : Nat} {f : Nat → Value} (h : Blk w b n f) (g : Nat → Value) (e : ∀ i, i < n → f i = g i) : Blk w b n g := by
  obtain ⟨t, h⟩ := h; exact ⟨t, by rw [← row_congr n f g e]; exact h⟩
/-- but for the block b (and the draws) the world is as it was -/
structure Upd (b : Nat) (w w' : World) : Prop where
  size : w'.heap.size = w.heap.size
  block : ∀ k, k ≠ b → w'.heap[k]? = w.heap[k]?
  tape : w'.tape = w.tape
  os : w'.os = w.os
  output : w'.output = w.output
theorem Upd.refl (b : Nat) (w : World) : Upd b w w := ⟨rfl, fun _ _ => rfl, rfl, rfl, rfl⟩
theorem Upd.trans {b : Nat} {x y z : World} (h : Upd b x y) (k : Upd b y z) : Upd b x z :=
  ⟨k.size.trans h.size, fun i hi => (k.block i hi).trans (h.block i hi), k.tape.trans h.tape, k.os.trans h.os, k.output.trans h.output⟩
theorem Same.upd {w w' : World} (h : Same w w') (b : Nat) : Upd b w w' := ⟨by rw [h.heap], fun _ _ => by rw [h.heap], h.tape, h.os, h.output⟩
theorem Upd.set (w : World) (b i : Nat) (u : Value) : Upd b w (w.setCell ⟨b, i, none⟩ u) :=
  ⟨by simp [World.setCell], fun k hk => Below.heap_setCell w _ u k hk, rfl, rfl, rfl⟩
theorem Upd.below {b B : Nat} {w w' : World} (h : Upd b w w') (hb : B ≤ b) : Below B w w' := ⟨h.os, h.tape, h.output, by rw [h.size]; exact Nat.le_refl _, fun k hk => h.block k (by omega)⟩
theorem Blk.upd {w w' : World} {b c n : Nat} {f : Nat → Value} (h : Blk w b n f) (hu : Upd c w w') (hb : b ≠ c) : Blk w' b n f := h.of_heap (hu.block b hb)
/-- block b holds f, and but for b the world is as w was -/
def MS (w : World) (b n : Nat) (f : Nat → Value) (w' : World) : Prop := Blk w' b n f ∧ Upd b w w'
section
variable {w w' w2 : World} {b n : Nat} {f : Nat → Value}
theorem MS.mk (h : Blk w b n f) : MS w b n f w := ⟨h, Upd.refl _ _⟩
theorem MS.same (h : MS w b n f w') (hs : Same w' w2) : MS w b n f w2 := ⟨h.1.same hs, h.2.trans (hs.upd b)⟩
theorem MS.get (h : MS w b n f w') (i : Nat) (hi : i < n) : w'.cell? ⟨b, i, none⟩ = some (f i) := h.1.get i hi
theorem MS.frz (h : MS w b n f w') (i : Nat) : w'.frozen? ⟨b, i, none⟩ = false := h.1.frz i
theorem MS.set (h : MS w b n f w') (i : Nat) (u : Value) : MS w b n (put f i u) (w'.setCell ⟨b, i, none⟩ u) := ⟨h.1.set i u, h.2.trans (Upd.set _ _ _ _)⟩
theorem MS.set' (h : MS w b n f w') (i : Nat) (u : Value) (g : Nat → Value) (e : put f i u = g) : MS w b n g (w'.setCell ⟨b, i, none⟩ u) := e ▸ h.set i u
end
/-- words as cells -/
def cw (k : IntKind) (v : Nat → BitVec 32) : Nat → Value := fun i => .int k ((v i).toNat : Int)
theorem cw_put (k : IntKind) (v : Nat → BitVec 32) (i : Nat) (x : BitVec 32) (u : Value) (h : u = .int k (x.toNat : Int)) : put (cw k v) i u = cw k (put v i x) := by
  subst h; funext j; unfold cw put; split <;> rfl
/-- bytes as cells -/
def cb (v : Nat → Nat) : Nat → Value := fun i => .int .u8 (v i : Int)
/-- one addition, one turn, the eight of them -/
def add3 (v : Nat → BitVec 32) (a b : Nat) (x : BitVec 32) : Nat → BitVec 32 := put v a (v a + (v b + x))
def add2 (v : Nat → BitVec 32) (a b : Nat) : Nat → BitVec 32 := put v a (v a + v b)
def turn (n : Nat) (v : Nat → BitVec 32) (a b : Nat) : Nat → BitVec 32 := put v a (ror n (v a ^^^ v b))
def gmix (v : Nat → BitVec 32) (a b c d : Nat) (x y : BitVec 32) : Nat → BitVec 32 :=
  turn 7 (add2 (turn 8 (add3 (turn 12 (add2 (turn 16 (add3 v a b x) d a) c d) b c) a b y) d a) c d) b c
theorem add3_code (a b x : BitVec 32) : Value.int .u32 (((a.toNat : Int) + ((b.toNat : Int) + (x.toNat : Int)) % 4294967296) % 4294967296) = .int .u32 ((a + (b + x)).toNat : Int) := by
  congr 1
theorem add2_code (a b : BitVec 32) : Value.int .u32 (((a.toNat : Int) + (b.toNat : Int)) % 4294967296) = .int .u32 ((a + b).toNat : Int) := by
  congr 1
/-- n cells of block b, read alone -/
def Cells (w : World) (b n : Nat) (f : Nat → Value) : Prop := ∀ i, i < n → w.cell? ⟨b, i, none⟩ = some (f i)
theorem Blk.cells {w : World} {b n : Nat} {f : Nat → Value} (h : Blk w b n f) : Cells w b n f := fun i hi => h.get i hi
theorem Cells.same {w w' : World} {b n : Nat} {f : Nat → Value} (h : Cells w b n f) (hs : Same w w') : Cells w' b n f := fun i hi => (hs.cell _).trans (h i hi)
theorem Cells.below {w w' : World} {b n B : Nat} {f : Nat → Value} (h : Cells w b n f) (hs : Below B w w') (hb : b < B) : Cells w' b n f := fun i hi => (hs.cell (p := ⟨b, i, none⟩) hb).trans (h i hi)
theorem Cells.upd {w w' : World} {b c n : Nat} {f : Nat → Value} (h : Cells w b n f) (hu : Upd c w w') (hb : b ≠ c) : Cells w' b n f := fun i hi => (World.cell?_of_block (w := w) (hu.block b hb)).trans (h i hi)
theorem Cells.at_ {w : World} {b n : Nat} {f : Nat → Value} (h : Cells w b n f) (i : Nat) (hi : i < n) : w.cell? ⟨b, i, none⟩ = some (f i) := h i hi
/-- a whole array is read -/
theorem run_load_row {P : Program} {w : World} {T b N m off : Nat} {f : Nat → Value} (hT : (isAgg T).run P w = .ok true w) (hS : (Go.sizeOf T).run P w = .ok m w)
    (hb : Cells w b N f) (hN : off + m ≤ N) : (loadVar T ⟨b, off, none⟩).run P w = .ok (.agg (row m fun i => f (off + i))) w := by
  have hl := run_loadCells (P := P) w ⟨b, off, none⟩ m (fun i => f (off + i)) (fun j hj => by
    have : (⟨b, off, none⟩ : Addr).add j = ⟨b, off + j, none⟩ := by unfold Addr.add; split <;> simp [*]
    rw [this]; exact hb _ (by omega))
  unfold loadVar
  simp only [Sem.run_bind, hT, Result.andThen_ok, hS, if_true, hl]
  rfl
theorem row_splice (N m off : Nat) (f g : Nat → Value) (h : off + m ≤ N) :
    (List.take off (row N f).toList ++ (row m g).toList ++ List.drop (off + m) (row N f).toList).toArray = row N (fun j => if off ≤ j ∧ j < off + m then g (j - off) else f j) := by
  apply Array.ext_getElem?
  intro j
  simp only [row, List.getElem?_toArray, List.getElem?_append, List.length_append, List.length_take, List.length_map, List.length_range, List.getElem?_take, List.getElem?_map, List.getElem?_drop]
  by_cases h1 : j < off
  · have e1 : j < min off N + m := by omega
    have e2 : j < min off N := by omega
    have e3 : ¬ (off ≤ j ∧ j < off + m) := by omega
    rw [if_pos e1, if_pos e2]
    simp only [h1, if_true, List.getElem?_range (show j < N by omega), Option.map_some, if_neg e3]
  · by_cases h2 : j < off + m
    · have e1 : j < min off N + m := by omega
      have e2 : ¬ j < min off N := by omega
      have e3 : (off ≤ j ∧ j < off + m) := by omega
      rw [if_pos e1, if_neg e2]
      have e4 : j - min off N = j - off := by omega
      rw [e4, List.getElem?_range (show j - off < m by omega), List.getElem?_range (show j < N by omega)]
      simp only [Option.map_some, if_pos e3]
    · have e1 : ¬ j < min off N + m := by omega
      have e3 : ¬ (off ≤ j ∧ j < off + m) := by omega
      rw [if_neg e1]
      have e4 : off + m + (j - (min off N + m)) = j := by omega
      rw [e4]
      by_cases h3 : j < N
      · rw [List.getElem?_range h3]; simp only [Option.map_some, if_neg e3]
      · have : (List.range N)[j]? = none := by rw [List.getElem?_eq_none]; simp; omega
        rw [this]; rfl
/-- a whole array is written -/
theorem run_store_row {P : Program} {w : World} {T b N m off : Nat} {f g : Nat → Value} (hS : (Go.sizeOf T).run P w = .ok m w)
    (hb : Blk w b N f) (hN : off + m ≤ N) (h1 : ∀ i, i < m → (g i).oneCell' = true) :
    ∃ w', (storeVar T ⟨b, off, none⟩ (.agg (row m g))).run P w = .ok () w' ∧ MS w b N (fun j => if off ≤ j ∧ j < off + m then g (j - off) else f j) w' := by
  obtain ⟨t, ht⟩ := hb
  have hl : (row m g).toList.length = m := by simp [row]
  have hst := run_storeCells_at P b off t (row m g).toList 0 (row N f) w ht (by rw [row_size, hl]; omega) (fun v hv => by
    simp only [row, List.mem_map, List.mem_range] at hv
    obtain ⟨i, hi, rfl⟩ := hv
    exact h1 i hi)
  refine ⟨w.setRow b (List.take off (row N f).toList ++ (row m g).toList ++ List.drop (off + m) (row N f).toList).toArray, ?_, ?_, ?_⟩
  · unfold storeVar
    simp only [Sem.run_bind, hS, Result.andThen_ok, Value.cells, row_size, ne_eq, not_true_eq_false, if_false]
    rw [hst, hl, Nat.add_zero]
  · exact ⟨t, by rw [← row_splice N m off f g hN]; exact setRow_heap w b _ _ t _ ht⟩
  · refine ⟨by simp [World.setRow], fun k hk => ?_, rfl, rfl, rfl⟩
    simp only [World.setRow, Array.getElem?_modify]
    rw [if_neg (fun h => hk h.symm)]
section
variable {P : Program} {ops : Array Oper} {Q : Exit → Act → World → Prop} {a : Act} {w : World} {rest : List Oper} {o : Oper}
theorem still_of_run {K : Act → Prop} {v : Value} (h : (execOp a.eval o).run P w = .ok (.value v) w) (hK : K (a.put o.dst v)) : o.still P a w K := by
  unfold Oper.still; rw [h]; exact ⟨rfl, hK⟩
theorem stl_step {K : Act → Prop} {v : Value} (hg : o.guard = none) (h : (execOp a.eval o).run P w = .ok (.value v) w) (hK : wpStill P ops w K rest (a.put o.dst v)) : wpStill P ops w K (o :: rest) a :=
  wpStill_step fun K' hK' => by
    have := still_of_run (K := K') h (hK' _ hK)
    simpa [Region.wanted, hg] using this
theorem wpl_value {v : Value} {w' : World} (hg : o.guard = none) (h : (execOp a.eval o).run P w = .ok (.value v) w') (hK : wpList P ops Q rest (a.put o.dst v) w') : wpList P ops Q (o :: rest) a w :=
  wpList_plain hg fun K hK' => by
    have := hK' _ _ hK
    unfold Oper.wp; rw [h]; exact this
theorem wpl_skip {w' : World} (hg : o.guard = none) (h : (execOp a.eval o).run P w = .ok .skip w') (hK : wpList P ops Q rest (a.put o.dst undef) w') : wpList P ops Q (o :: rest) a w :=
  wpList_plain hg fun K hK' => by
    have := hK' _ _ hK
    unfold Oper.wp; rw [h]; exact this
theorem run_op_load {T : TypeId} {ad : Operand} {b off N m : Nat} {f : Nat → Value} (ho : o.op = .load T ad) (ha : a.eval ad = .pointer (some ⟨b, off, none⟩))
    (hT : (isAgg T).run P w = .ok true w) (hS : (Go.sizeOf T).run P w = .ok m w) (hb : Cells w b N f) (hN : off + m ≤ N) :
    (execOp a.eval o).run P w = .ok (.value (.agg (row m fun i => f (off + i)))) w := by
  unfold execOp
  have := run_load_row (P := P) hT hS hb hN
  simp [ho, Instr.loadAt, Instr.sureAddr, ha, this]
theorem run_op_store {T : TypeId} {ad x : Operand} {b off N m : Nat} {f g : Nat → Value} (ho : o.op = .store T ad x) (ha : a.eval ad = .pointer (some ⟨b, off, none⟩))
    (hx : a.eval x = .agg (row m g)) (hS : (Go.sizeOf T).run P w = .ok m w) (hb : Blk w b N f) (hN : off + m ≤ N) (h1 : ∀ i, i < m → (g i).oneCell' = true) :
    ∃ w', (execOp a.eval o).run P w = .ok .skip w' ∧ MS w b N (fun j => if off ≤ j ∧ j < off + m then g (j - off) else f j) w' := by
  obtain ⟨w', h, hm⟩ := run_store_row (P := P) (f := f) hS hb hN h1
  refine ⟨w', ?_, hm⟩
  unfold execOp
  simp [ho, Instr.storeAt, Instr.sureAddr, ha, hx, h]
/-- 'x := *p' of a whole array, in a list of operations -/
theorem wpl_load {T : TypeId} (ad : Operand) (b off N m : Nat) (f : Nat → Value) (hg : o.guard = none) (ho : o.op = .load T ad) (ha : a.eval ad = .pointer (some ⟨b, off, none⟩))
    (hT : (isAgg T).run P w = .ok true w) (hS : (Go.sizeOf T).run P w = .ok m w) (hb : Cells w b N f) (hN : off + m ≤ N)
    (hK : wpList P ops Q rest (a.put o.dst (.agg (row m fun i => f (off + i)))) w) : wpList P ops Q (o :: rest) a w :=
  wpl_value hg (run_op_load ho ha hT hS hb hN) hK
theorem stl_load {K : Act → Prop} {T : TypeId} (ad : Operand) (b off N m : Nat) (f : Nat → Value) (hg : o.guard = none) (ho : o.op = .load T ad) (ha : a.eval ad = .pointer (some ⟨b, off, none⟩))
    (hT : (isAgg T).run P w = .ok true w) (hS : (Go.sizeOf T).run P w = .ok m w) (hb : Cells w b N f) (hN : off + m ≤ N)
    (hK : wpStill P ops w K rest (a.put o.dst (.agg (row m fun i => f (off + i))))) : wpStill P ops w K (o :: rest) a :=
  stl_step hg (run_op_load ho ha hT hS hb hN) hK
theorem wpl_store {T : TypeId} (ad x : Operand) (b off N m : Nat) (f g : Nat → Value) (hg : o.guard = none) (ho : o.op = .store T ad x) (ha : a.eval ad = .pointer (some ⟨b, off, none⟩))
    (hx : a.eval x = .agg (row m g)) (hS : (Go.sizeOf T).run P w = .ok m w) (hb : Blk w b N f) (hN : off + m ≤ N) (h1 : ∀ i, i < m → (g i).oneCell' = true)
    (hK : ∀ w', MS w b N (fun j => if off ≤ j ∧ j < off + m then g (j - off) else f j) w' → wpList P ops Q rest (a.put o.dst undef) w') : wpList P ops Q (o :: rest) a w := by
  obtain ⟨w', h, hm⟩ := run_op_store ho ha hx hS hb hN h1
  exact wpl_skip hg h (hK w' hm)
theorem results_row {fn : Func} {p T b N m : Nat} {f : Nat → Value} {tmps : Array Value} (h : fn.results = #[.cell p T]) (hp : tmps.getD p undef = .pointer (some ⟨b, 0, none⟩))
    (hT : (isAgg T).run P w = .ok true w) (hS : (Go.sizeOf T).run P w = .ok m w) (hb : Cells w b N f) (hN : m ≤ N) : (results fn tmps).run P w = .ok (.agg (row m f)) w := by
  have := run_load_row (P := P) (off := 0) hT hS hb (by omega)
  simp only [Nat.zero_add] at this
  have hp' : tmps[p]?.getD undef = .pointer (some ⟨b, 0, none⟩) := by simpa using hp
  unfold results
  simp [h, hp', asAddr, this]
/-- a function whose result is a whole array in memory is at its end -/
theorem body_row {fn : Func} {R : Ending → World → Prop} {p T b N m : Nat} {f : Nat → Value} (h : fn.results = #[.cell p T]) (hp : a.tmps.getD p undef = .pointer (some ⟨b, 0, none⟩))
    (hT : (isAgg T).run P w = .ok true w) (hS : (Go.sizeOf T).run P w = .ok m w) (hb : Cells w b N f) (hN : m ≤ N) (hd : a.defers = []) (hR : R (.returned (.agg (row m f))) w) : bodyPost P fn R .ret a w :=
  bodyPost_ret (results_row h hp hT hS hb hN) hd hR
/-- a whole array is read, in a world of which R is all that is still wanted -/
theorem wpl_load_abs (R : World → Prop) {T : TypeId} (ad : Operand) (b off N m : Nat) (f : Nat → Value) (hg : o.guard = none) (ho : o.op = .load T ad) (ha : a.eval ad = .pointer (some ⟨b, off, none⟩))
    (hT : ∀ w, (isAgg T).run P w = .ok true w) (hS : ∀ w, (Go.sizeOf T).run P w = .ok m w) (hN : off + m ≤ N) (hb : ∀ w', R w' → Cells w' b N f) (hR : R w)
    (hK : ∀ w', R w' → wpList P ops Q rest (a.put o.dst (.agg (row m fun i => f (off + i)))) w') : wpList P ops Q (o :: rest) a w :=
  wpl_load ad b off N m f hg ho ha (hT _) (hS _) (hb w hR) hN (hK w hR)
end
theorem xor_n (x : BitVec 32) (n : Nat) : bits .xor .u32 (x.toNat : Int) ((n : Int) % 4294967296) = ((x ^^^ BitVec.ofNat 32 n).toNat : Int) := by
  rw [← bvxor, BitVec.toNat_ofNat]; rfl
end BB
end
section
open Go Go.RowKit
namespace BB
section
variable {P : Program} {ops : Array Oper} {md : Region.Mode} {w : World}
def pick (ops : Array Oper) (l : List Nat) : List Oper := l.filterMap (ops[·]?)
theorem pick_cons {i : Nat} {o : Oper} (h : ops[i]? = some o) (l : List Nat) : pick ops (i :: l) = o :: pick ops l := by simp [pick, h]
def sinkO (md : Region.Mode) (ops : Array Oper) (hd : List Nat) (t0 : Nat) : Bool :=
  hd.all fun i => Region.waitsFor md ops t0 i || hd.any fun j => decide (i < j) && Region.waitsFor md ops j i
def chainO (md : Region.Mode) (ops : Array Oper) : Nat → List Nat → Bool
  | _, [] => true
  | p, t :: r => Region.waitsFor md ops t p && chainO md ops t r
structure InvO (md : Region.Mode) (ops : Array Oper) (hd tl : List Nat) (listed : Array Bool) : Prop where
  size : listed.size = ops.size
  closed : ∀ j oj, ops[j]? = some oj → listed.getD j false = true → ∀ e ∈ oj.after, Region.binds md e = true → listed.getD e.on false = true
  tail : ∀ t ∈ tl, listed.getD t true = false
  all : ∀ j, j < ops.size → listed.getD j true = false → j ∈ hd ∨ j ∈ tl
def invB (md : Region.Mode) (ops : Array Oper) (hd tl : List Nat) (listed : Array Bool) : Bool :=
  decide (listed.size = ops.size) &&
  ((List.range ops.size).all fun j => !listed.getD j false || ((ops[j]?).map (·.after.all fun e => !Region.binds md e || listed.getD e.on false)).getD true) &&
  (tl.all fun t => !listed.getD t true) && ((List.range ops.size).all fun j => listed.getD j true || hd.contains j || tl.contains j)
theorem invB_spec {hd tl : List Nat} {listed : Array Bool} (h : invB md ops hd tl listed = true) : InvO md ops hd tl listed := by
  simp only [invB, Bool.and_eq_true, decide_eq_true_eq] at h
  obtain ⟨⟨⟨h1, h2⟩, h3⟩, h4⟩ := h
  refine ⟨h1, fun j oj hj hl e he hb => ?_, fun t ht => ?_, fun j hj hl => ?_⟩
  · have hlt : j < ops.size := (Array.getElem?_eq_some_iff.1 hj).1
    have := List.all_eq_true.1 h2 j (List.mem_range.2 hlt)
    rw [hl, hj] at this
    simp only [Bool.not_true, Bool.false_or, Option.map_some, Option.getD_some] at this
    have := Array.all_eq_true_iff_forall_mem.1 this e he
    rw [hb] at this
    simpa using this
  · have := List.all_eq_true.1 h3 t ht
    simpa using this
  · have := List.all_eq_true.1 h4 j (List.mem_range.2 hj)
    rw [hl] at this
    simpa using this
theorem InvO.set {hd tl : List Nat} {i : Nat} {listed : Array Bool} (inv : InvO md ops hd tl listed) (hi : i ∈ Region.ready md ops listed) (hin : i ∉ tl) : InvO md ops hd tl (listed.setIfInBounds i true) := by
  obtain ⟨_, oi, hoi, hall⟩ := mem_ready.1 hi
  refine ⟨by simp [inv.size], fun j oj hj hl e he hb => ?_, fun t ht => ?_, fun j hj hl => ?_⟩
  · by_cases hij : i = j
    · subst hij
      have : oj = oi := Option.some.inj (hj.symm.trans hoi)
      subst this
      exact getD_set_true (hall e he hb)
    · rw [getD_set_ne false hij] at hl
      exact getD_set_true (inv.closed j oj hj hl e he hb)
  · rw [getD_set_ne true (fun (e : i = t) => hin (by rw [e]; exact ht))]; exact inv.tail t ht
  · by_cases hij : i = j
    · subst hij
      have hlt : i < listed.size := by rw [inv.size]; exact hj
      simp [hlt] at hl
    · rw [getD_set_ne true hij] at hl
      exact inv.all j hj hl
theorem chainO_spec : ∀ (p : Nat) (tr : List Nat), chainO md ops p tr = true → ∀ t ∈ tr, ∃ q ∈ p :: tr, Region.waitsFor md ops t q = true
  | _, [], _, _, h => by cases h
  | p, t :: r, h, u, hu => by
    simp only [chainO, Bool.and_eq_true] at h
    rcases List.mem_cons.1 hu with rfl | hu
    · exact ⟨p, by simp, h.1⟩
    · obtain ⟨q, hq, hw⟩ := chainO_spec t r h.2 u hu
      exact ⟨q, List.mem_cons_of_mem _ hq, hw⟩
theorem tail_waitsO {hd tr : List Nat} {t0 : Nat} {listed : Array Bool} (hs : sinkO md ops hd t0 = true) (hc : chainO md ops t0 tr = true) (inv : InvO md ops hd (t0 :: tr) listed) :
    ∀ (d i : Nat), ops.size - i = d → i ∈ hd → listed.getD i true = false → ∀ t ∈ t0 :: tr, t ∉ Region.ready md ops listed := by
  intro d
  induction d using Nat.strongRecOn with
  | _ d ih =>
    intro i hd' hi hun t ht hr
    obtain ⟨_, ot, hot, hall⟩ := mem_ready.1 hr
    rcases List.mem_cons.1 ht with rfl | htr
    · have h1 := List.all_eq_true.1 hs i hi
      rcases Bool.or_eq_true _ _ |>.mp h1 with h1 | h1
      · obtain ⟨o', ho', e, he, hb, hon⟩ := Region.waitsFor_spec h1
        have : o' = ot := Option.some.inj (ho'.symm.trans hot)
        subst this
        have h2 := hall e he hb
        rw [hon, getD_both hun] at h2
        cases h2
      · obtain ⟨j, hj, hj2⟩ := List.any_eq_true.1 h1
        simp only [Bool.and_eq_true, decide_eq_true_eq] at hj2
        obtain ⟨oj, hoj, e, he, hb, hon⟩ := Region.waitsFor_spec hj2.2
        have hjlt : j < ops.size := (Array.getElem?_eq_some_iff.1 hoj).1
        cases hl : listed.getD j false with
        | true =>
          have h2 := inv.closed j oj hoj hl e he hb
          rw [hon, getD_both hun] at h2
          cases h2
        | false =>
          exact ih (ops.size - j) (by omega) j rfl hj (getD_in (by rw [inv.size]; exact hjlt) hl) t (by simp) hr
    · obtain ⟨q, hq, hw⟩ := chainO_spec t0 tr hc t htr
      obtain ⟨o', ho', e, he, hb, hon⟩ := Region.waitsFor_spec hw
      have : o' = ot := Option.some.inj (ho'.symm.trans hot)
      subst this
      have h2 := hall e he hb
      rw [hon, getD_both (inv.tail q hq)] at h2
      cases h2
def wpAnyO (P : Program) (md : Region.Mode) (ops : Array Oper) (w : World) (hd : List Nat) (L : Array Bool → Act → Prop) : Nat → Array Bool → Act → Prop
  | 0, listed, a => L listed a
  | f + 1, listed, a =>
    Region.ready md ops listed ≠ [] ∧ ∀ i ∈ Region.ready md ops listed, i ∈ hd ∧ stOp P ops w i (wpAnyO P md ops w hd L f (listed.setIfInBounds i true)) a
theorem wpAny_of_O {g : Nat} {hd : List Nat} {L : Array Bool → Act → Prop} {Q' : Exit → Act → World → Prop} (hL : ∀ listed a, L listed a → wpAny P md ops Q' g listed a w) :
    ∀ (f : Nat) (listed : Array Bool) (a : Act), wpAnyO P md ops w hd L f listed a → wpAny P md ops Q' (f + g) listed a w
  | 0, listed, a, h => by rw [Nat.zero_add]; exact hL _ _ h
  | f + 1, listed, a, h => by
    rw [show f + 1 + g = (f + g) + 1 by omega]
    exact ⟨fun h0 => absurd h0 h.1, fun i hi => wpOp_of_stOp (fun a' h' => wpAny_of_O hL f _ a' h') (h.2 i hi).2⟩
theorem InvO.inHead {hd tr : List Nat} {t0 i j : Nat} {listed : Array Bool} (hs : sinkO md ops hd t0 = true) (hc : chainO md ops t0 tr = true) (inv : InvO md ops hd (t0 :: tr) listed)
    (hi : i ∈ hd) (hun : listed.getD i true = false) (hj : j ∈ Region.ready md ops listed) : j ∈ hd ∧ j ∉ t0 :: tr := by
  obtain ⟨hjun, oj, hoj, _⟩ := mem_ready.1 hj
  have hnt : j ∉ t0 :: tr := fun h => tail_waitsO hs hc inv _ i rfl hi hun j h hj
  exact ⟨(inv.all j (Array.getElem?_eq_some_iff.1 hoj).1 hjun).resolve_right hnt, hnt⟩
theorem wpAnyO_first {hd tr : List Nat} {t0 i : Nat} {oi : Oper} {v : Value} {L : Array Bool → Act → Prop} (hi : ops[i]? = some oi) (hsel : ∀ (j : Nat) (o : Oper) cs b, ops[j]? = some o → o.op ≠ .select cs b)
    (hs : sinkO md ops hd t0 = true) (hc : chainO md ops t0 tr = true) (hin : i ∈ hd)
    (hdone : ∀ listed a, L listed a → ∀ j ∈ Region.ready md ops listed, j ∈ t0 :: tr) :
    ∀ (f : Nat) (listed : Array Bool) (a : Act), InvO md ops hd (t0 :: tr) listed →
      (∀ j oj, ops[j]? = some oj → j ≠ i → listed.getD j true = false → (∀ e ∈ oj.after, Region.binds md e = true → e.on ≠ i) → oi.apart ops oj = true) →
      i ∈ Region.ready md ops listed → YieldsAt P ops w oi v a →
      wpAnyO P md ops w hd L f (listed.setIfInBounds i true) (a.put oi.dst v) → wpAnyO P md ops w hd L (f + 1) listed a := by
  intro f
  induction f with
  | zero =>
    intro listed a inv _ hr hy H
    have hun := (mem_ready.1 hr).1
    refine ⟨fun h => (by rw [h] at hr; cases hr), fun j hj => ?_⟩
    obtain ⟨hjn, hjt⟩ := inv.inHead hs hc hin hun hj
    refine ⟨hjn, ?_⟩
    by_cases hji : j = i
    · subst hji; exact hy.stOp hi H
    · exact absurd (hdone _ _ H j (ready_mono hj hji)) hjt
  | succ f ih =>
    intro listed a inv hfree hr hy H
    have hun := (mem_ready.1 hr).1
    refine ⟨fun h => (by rw [h] at hr; cases hr), fun j hj => ?_⟩
    obtain ⟨hjn, hjt⟩ := inv.inHead hs hc hin hun hj
    refine ⟨hjn, ?_⟩
    by_cases hji : j = i
    · subst hji; exact hy.stOp hi H
    · have h1 := (H.2 j (ready_mono hj hji)).2
      obtain ⟨hjun, oj, hoj, hall⟩ := mem_ready.1 hj
      have hnot : ∀ e ∈ oj.after, Region.binds md e = true → e.on ≠ i := fun e he hb heq => by
        have h1 := hall e he hb
        rw [heq, getD_both hun] at h1
        cases h1
      have h2 := stOp_put hoj (hfree j oj hoj hji hjun hnot) (fun cs b => hsel i oi cs b hi) (fun cs b => hsel j oj cs b hoj) hy h1
      have hfree' : ∀ k ok, ops[k]? = some ok → k ≠ i → (listed.setIfInBounds j true).getD k true = false →
          (∀ e ∈ ok.after, Region.binds md e = true → e.on ≠ i) → oi.apart ops ok = true := fun k ok hk hki hun hno => by
        refine hfree k ok hk hki ?_ hno
        by_cases hjk : j = k
        · subst hjk; exact hjun
        · rw [getD_set_ne true hjk] at hun; exact hun
      refine stOp_mono (fun a' h3 => ih (listed.setIfInBounds j true) a' (inv.set hj hjt) hfree' (ready_mono hr (Ne.symm hji)) h3.1 ?_) h2
      rw [Array.setIfInBounds_comm _ _ hji]
      exact h3.2
def seqO (md : Region.Mode) (ops : Array Oper) : List Nat → Array Bool → Bool
  | [], listed => (Region.ready md ops listed).isEmpty
  | t :: r, listed => decide (Region.ready md ops listed = [t]) && seqO md ops r (listed.setIfInBounds t true)
theorem wpAny_of_seqO {Q' : Exit → Act → World → Prop} : ∀ (tl : List Nat) (listed : Array Bool) (a : Act) (w : World),
    seqO md ops tl listed = true → wpList P ops Q' (pick ops tl) a w → wpAny P md ops Q' tl.length listed a w
  | [], _, _, _, hB, h => ⟨by simpa [seqO] using hB, h⟩
  | t :: r, listed, a, w, hB, h => by
    simp only [seqO, Bool.and_eq_true, decide_eq_true_eq] at hB
    obtain ⟨_, o, ho, _⟩ := mem_ready.1 (show t ∈ Region.ready md ops listed by rw [hB.1]; simp)
    rw [pick_cons ho] at h
    refine ⟨fun h1 => (by rw [hB.1] at h1; cases h1), fun i hi => ?_⟩
    rw [hB.1] at hi
    have hik : i = t := by simpa using hi
    subst hik
    have hw : wpOp P ops Q' i (wpList P ops Q' (pick ops r)) a w := by unfold wpOp; simp only [ho]; exact h
    exact wpOp_mono (fun a' w' h' => wpAny_of_seqO r _ a' w' hB.2 h') hw
def lexO (md : Region.Mode) (ops : Array Oper) (tl : List Nat) : List Nat → Array Bool → Bool
  | [], listed => seqO md ops tl listed
  | i :: l, listed => (Region.ready md ops listed).contains i && Region.free md ops listed i && lexO md ops tl l (listed.setIfInBounds i true)
theorem seqO_ready {tl : List Nat} {listed : Array Bool} (h : seqO md ops tl listed = true) : ∀ j ∈ Region.ready md ops listed, j ∈ tl := by
  cases tl with
  | nil => intro j hj; simp only [seqO, List.isEmpty_iff] at h; rw [h] at hj; cases hj
  | cons t r =>
    intro j hj
    simp only [seqO, Bool.and_eq_true, decide_eq_true_eq] at h
    rw [h.1] at hj
    have : j = t := by simpa using hj
    simp [this]
theorem wpAnyO_lex {hd tr : List Nat} {t0 : Nat} {Lq : Act → Prop} (hsel : Region.noSelect ops = true) (hs : sinkO md ops hd t0 = true) (hc : chainO md ops t0 tr = true) :
    ∀ (l : List Nat) (listed : Array Bool) (a : Act), (∀ i ∈ l, i ∈ hd) → InvO md ops hd (t0 :: tr) listed → lexO md ops (t0 :: tr) l listed = true → wpStill P ops w Lq (pick ops l) a →
    wpAnyO P md ops w hd (fun listed' a' => seqO md ops (t0 :: tr) listed' = true ∧ Lq a') l.length listed a
  | [], _, _, _, _, hB, h => ⟨by simpa [lexO] using hB, h⟩
  | k :: l, listed, a, hl, inv, hB, h => by
    simp only [lexO, Bool.and_eq_true] at hB
    obtain ⟨⟨hr, hf⟩, hB'⟩ := hB
    have hr' : k ∈ Region.ready md ops listed := by simpa using hr
    obtain ⟨hun, o, h0, _⟩ := mem_ready.1 hr'
    rw [pick_cons h0] at h
    have hk := hl k (by simp)
    have hst : stOp P ops w k (wpStill P ops w Lq (pick ops l)) a := by unfold stOp; simp only [h0]; exact h
    obtain ⟨v, hy, hK⟩ := yieldsAt_of_stOp h0 hst
    have hnt : k ∉ t0 :: tr := (inv.inHead hs hc hk hun hr').2
    exact wpAnyO_first h0 (Region.noSelect_spec hsel) hs hc hk (fun listed' a' hL => seqO_ready hL.1) l.length listed a inv (Region.free_spec h0 hf) hr' hy
      (wpAnyO_lex hsel hs hc l _ _ (fun i hi => hl i (by simp [hi])) (inv.set hr' hnt) hB' hK)
/-- operations that yield in every world, one behind the other -/
def wpFree (P : Program) (ops : Array Oper) (K : Act → Prop) : List Oper → Act → Prop
  | [], a => K a
  | o :: r, a => ∃ v, Yields P ops o v a ∧ wpFree P ops K r (a.put o.dst v)
def preB (md : Region.Mode) (ops : Array Oper) (k : Array Bool → Bool) : List Nat → Array Bool → Bool
  | [], listed => k listed
  | i :: l, listed => (Region.ready md ops listed).contains i && Region.free md ops listed i && preB md ops k l (listed.setIfInBounds i true)
theorem wpAny_of_pre {Q : Exit → Act → World → Prop} {K : Act → Prop} {k : Array Bool → Bool} {g : Nat} (hsel : Region.noSelect ops = true) (hQ : ∀ c a d v w, Q (.panic c) (Act.put a d v) w → Q (.panic c) a w)
    (hK : ∀ listed a, k listed = true → K a → wpAny P md ops Q g listed a w) : ∀ (l : List Nat) (listed : Array Bool) (a : Act), preB md ops k l listed = true → wpFree P ops K (pick ops l) a →
    wpAny P md ops Q (l.length + g) listed a w
  | [], listed, a, hB, h => by simpa using hK listed a hB h
  | i :: l, listed, a, hB, h => by
    simp only [preB, Bool.and_eq_true] at hB
    obtain ⟨⟨hr, hf⟩, hB'⟩ := hB
    obtain ⟨_, o, h0, _⟩ := mem_ready.1 (show i ∈ Region.ready md ops listed by simpa using hr)
    rw [pick_cons h0] at h
    obtain ⟨v, hy, h⟩ := h
    rw [show (i :: l).length + g = (l.length + g) + 1 by simp; omega]
    exact wpAny_take h0 hsel hf hr (fun c a w => hQ c a _ _ w) hy (wpAny_of_pre hsel hQ hK l _ _ hB' h)
def orderB (md : Region.Mode) (ops : Array Oper) (pre hd : List Nat) (t0 : Nat) (tr : List Nat) : Bool :=
  Region.noSelect ops && sinkO md ops hd t0 && chainO md ops t0 tr &&
  preB md ops (fun listed => invB md ops hd (t0 :: tr) listed && lexO md ops (t0 :: tr) hd listed) pre (Array.replicate ops.size false) &&
  decide (pre.length + (hd.length + (t0 :: tr).length) = ops.size)
theorem order_abs {id : Nat} {Q : Exit → Act → World → Prop} {a : Act} {l : List Oper} (pre hd : List Nat) (t0 : Nat) (tr : List Nat) (hm : P.follows .mixedOrders = true) (hB : orderB .any l.toArray pre hd t0 tr = true)
    (hQ : ∀ c a d v w, Q (.panic c) (Act.put a d v) w → Q (.panic c) a w)
    (h : ∀ w2, Same w w2 → wpFree P l.toArray (fun a1 => wpStill P l.toArray w2 (fun a' => wpList P l.toArray Q (pick l.toArray (t0 :: tr)) a' w2) (pick l.toArray hd) a1) (pick l.toArray pre) a) :
    (Code.region id l.toArray true).wp P Q a w := by
  simp only [orderB, Bool.and_eq_true, decide_eq_true_eq] at hB
  obtain ⟨⟨⟨⟨hsel, hs⟩, hc⟩, hp⟩, hn⟩ := hB
  refine wp_region_any hm ?_
  have key := wpAny_of_pre (Q := Q) (w := { w with drawn := w.drawn + 1 }) hsel hQ (g := hd.length + (t0 :: tr).length) (fun listed a1 hk hK => ?_) pre _ a hp (h { w with drawn := w.drawn + 1 } ⟨rfl, rfl, rfl, rfl⟩)
  · rw [hn] at key; exact key
  simp only [Bool.and_eq_true] at hk
  exact wpAny_of_O (fun listed' a' hL => wpAny_of_seqO _ _ _ _ hL.1 hL.2) _ _ _ (wpAnyO_lex hsel hs hc hd listed a1 (fun _ h => h) (invB_spec hk.1) hk.2 hK)
/-- the walk is held at an operation -/
def Held (p : Prop) : Prop := p
theorem hold_store {Q : Exit → Act → World → Prop} {a : Act} {rest : List Oper} {o : Oper} {T : TypeId} (ad x : Operand) (_ho : o.op = .store T ad x) (h : Held (wpList P ops Q (o :: rest) a w)) : wpList P ops Q (o :: rest) a w := h
theorem hold_load {Q : Exit → Act → World → Prop} {a : Act} {rest : List Oper} {o : Oper} {T : TypeId} (ad : Operand) (_ho : o.op = .load T ad) (h : Held (wpList P ops Q (o :: rest) a w)) : wpList P ops Q (o :: rest) a w := h
end
end BB
end
section
open Go Go.RowKit
namespace BB
def ivL : List (BitVec 32) := [0x6a09e667, 0xbb67ae85, 0x3c6ef372, 0xa54ff53a, 0x510e527f, 0x9b05688c, 0x1f83d9ab, 0x5be0cd19]
def iv (i : Nat) : BitVec 32 := ivL.getD i 0
def sgL : List Nat := [
  0, 1, 2, 3, 4, 5, 6, 7, 8, 9, 10, 11, 12, 13, 14, 15,
  14, 10, 4, 8, 9, 15, 13, 6, 1, 12, 0, 2, 11, 7, 5, 3,
  11, 8, 12, 0, 5, 2, 15, 13, 10, 14, 3, 6, 7, 1, 9, 4,
  7, 9, 3, 1, 13, 12, 11, 14, 2, 6, 5, 10, 4, 0, 15, 8,
  9, 0, 5, 7, 2, 4, 10, 15, 14, 1, 11, 12, 6, 8, 3, 13,
  2, 12, 6, 10, 0, 11, 8, 3, 4, 13, 7, 5, 15, 14, 1, 9,
  12, 5, 1, 15, 14, 13, 4, 10, 0, 7, 6, 3, 9, 2, 8, 11,
  13, 11, 7, 14, 12, 1, 3, 9, 5, 0, 15, 4, 8, 6, 2, 10,
  6, 15, 14, 9, 11, 3, 0, 8, 12, 2, 13, 7, 1, 4, 10, 5,
  10, 2, 8, 4, 7, 6, 1, 5, 15, 11, 9, 14, 3, 12, 13, 0]
def sg (i : Nat) : Nat := sgL.getD i 0
def plL : List Nat := [0, 4, 8, 12, 1, 5, 9, 13, 2, 6, 10, 14, 3, 7, 11, 15, 0, 5, 10, 15, 1, 6, 11, 12, 2, 7, 8, 13, 3, 4, 9, 14]
def pl (i : Nat) : Nat := plL.getD i 0
theorem getD_lt (l : List Nat) (c : Nat) (hc : 0 < c) (h : ∀ x ∈ l, x < c) (i : Nat) : l.getD i 0 < c := by
  rcases Nat.lt_or_ge i l.length with g | g
  · rw [List.getD_eq_getElem?_getD, List.getElem?_eq_getElem g]; exact h _ (List.getElem_mem g)
  · rw [List.getD_eq_getElem?_getD, List.getElem?_eq_none g]; exact hc
set_option maxRecDepth 10000 in
theorem sg_lt (i : Nat) : sg i < 16 := getD_lt _ _ (by decide) (by decide) i
theorem pl_lt (i : Nat) : pl i < 16 := getD_lt _ _ (by decide) (by decide) i
/-- the words that the first k bytes make -/
def wstep (B : Nat → Nat) : Nat → Nat → BitVec 32
  | 0 => fun _ => 0
  | k + 1 => put (wstep B k) (k / 4) (wstep B k (k / 4) ||| BitVec.ofNat 32 (B k) <<< (8 * (k % 4)))
def vinit (h : Nat → BitVec 32) : Nat → Nat → BitVec 32
  | 0 => fun _ => 0
  | k + 1 => put (put (vinit h k) k (h k)) (8 + k) (iv k)
def vcount (h : Nat → BitVec 32) (n : Nat) : Nat → BitVec 32 :=
  put (put (vinit h 8) 12 (vinit h 8 12 ^^^ BitVec.ofNat 32 n)) 13 (vinit h 8 13 ^^^ BitVec.ofNat 32 (n / 4294967296))
def vstart (h : Nat → BitVec 32) (n : Nat) (last : Bool) : Nat → BitVec 32 :=
  if last then put (vcount h n) 14 (vcount h n 14 ^^^ 0xffffffff) else vcount h n
def inner (M : Nat → BitVec 32) (r : Nat) (v : Nat → BitVec 32) : Nat → Nat → BitVec 32
  | 0 => v
  | k + 1 => gmix (inner M r v k) (pl (k * 4)) (pl (k * 4 + 1)) (pl (k * 4 + 2)) (pl (k * 4 + 3)) (M (sg (r * 16 + 2 * k))) (M (sg (r * 16 + (2 * k + 1))))
def outer (M : Nat → BitVec 32) (v : Nat → BitVec 32) : Nat → Nat → BitVec 32
  | 0 => v
  | r + 1 => inner M r (outer M v r) 8
def fin (h v : Nat → BitVec 32) : Nat → Nat → BitVec 32
  | 0 => h
  | k + 1 => put (fin h v k) k (fin h v k k ^^^ (v k ^^^ v (8 + k)))
/-- the eight words behind a block -/
def comp (h : Nat → BitVec 32) (B : Nat → Nat) (n : Nat) (last : Bool) : Nat → BitVec 32 :=
  fin h (outer (wstep B 64) (vstart h n last) 10) 8
theorem xor_lo (x : BitVec 32) (n : Nat) : Value.int .u32 (bits .xor .u32 (x.toNat : Int) ((n : Int) % 4294967296)) = .int .u32 ((x ^^^ BitVec.ofNat 32 n).toNat : Int) := by rw [xor_n]
theorem xor_hi (x : BitVec 32) (n : Nat) : Value.int .u32 (bits .xor .u32 (x.toNat : Int) ((n : Int) / 4294967296 % 4294967296)) = .int .u32 ((x ^^^ BitVec.ofNat 32 (n / 4294967296)).toNat : Int) := by
  rw [show (n : Int) / 4294967296 = ((n / 4294967296 : Nat) : Int) by omega, xor_n]
theorem xor_all (x : BitVec 32) : Value.int .u32 (bits .xor .u32 (x.toNat : Int) 4294967295) = .int .u32 ((x ^^^ 0xffffffff).toNat : Int) := by
  rw [← bvxor]; rfl
end BB
end
section
open Go Go.RowKit
namespace BB
/-- numbers as cells -/
def cn (f : Nat → Nat) : Nat → Value := fun i => .int .u64 (f i : Int)
/-- a row of bytes in block b, from off on -/
def Bytes (w : World) (b off n : Nat) (B : Nat → Nat) : Prop := b < w.heap.size ∧ ∀ j, j < n → w.cell? ⟨b, off + j, none⟩ = some (.int .u8 (B j : Int))
theorem Bytes.below {w w' : World} {b off n N : Nat} {B : Nat → Nat} (h : Bytes w b off n B) (hb : Below N w w') (hN : w.heap.size ≤ N) : Bytes w' b off n B :=
  ⟨Nat.lt_of_lt_of_le h.1 hb.size, fun j hj => (hb.cell (p := ⟨b, off + j, none⟩) (Nat.lt_of_lt_of_le h.1 hN)).trans (h.2 j hj)⟩
structure RBAt (h : Nat → BitVec 32) (w : World) (f : Nat → Nat) (v : Nat → BitVec 32) (w' : World) : Prop where
  below : Below w.heap.size w w'
  hh : Blk w' w.heap.size 8 (cw .u64 h)
  hr : Blk w' (w.heap.size + 1) 8 (cw .u64 fun _ => 0)
  hm : Blk w' (w.heap.size + 1 + 1) 16 (cn f)
  hv : Blk w' (w.heap.size + 1 + 1 + 1) 16 (cw .u64 v)
section
variable {h : Nat → BitVec 32} {w w1 w2 : World} {f : Nat → Nat} {v : Nat → BitVec 32}
theorem RBAt.same (H : RBAt h w f v w1) (hs : Same w1 w2) : RBAt h w f v w2 := ⟨H.below.trans (hs.below _), H.hh.same hs, H.hr.same hs, H.hm.same hs, H.hv.same hs⟩
theorem RBAt.on (H : RBAt h w f v w1) (hb : Below w1.heap.size w1 w2) : RBAt h w f v w2 :=
  ⟨H.below.trans (hb.mono H.below.size), H.hh.below hb H.hh.lt, H.hr.below hb H.hr.lt, H.hm.below hb H.hm.lt, H.hv.below hb H.hv.lt⟩
theorem RBAt.congr {g : Nat → Nat} (H : RBAt h w f v w1) (e : ∀ i, i < 16 → f i = g i) : RBAt h w g v w1 := ⟨H.below, H.hh, H.hr, H.hm.congr _ fun i hi => by unfold cn; rw [e i hi], H.hv⟩
end
/-- with the copy of how the words begin, in block ib -/
structure RCAt (h : Nat → BitVec 32) (w : World) (M : Nat → Nat) (v : Nat → BitVec 32) (ib : Nat) (w' : World) : Prop where
  at_ : RBAt h w M v w'
  hi : Blk w' ib 8 (cw .u64 iv)
  lt : w.heap.size + 1 + 1 + 1 < ib
section
variable {h : Nat → BitVec 32} {w w1 w2 : World} {M : Nat → Nat} {v : Nat → BitVec 32} {ib : Nat}
theorem RCAt.same (H : RCAt h w M v ib w1) (hs : Same w1 w2) : RCAt h w M v ib w2 := ⟨H.at_.same hs, H.hi.same hs, H.lt⟩
theorem RCAt.on (H : RCAt h w M v ib w1) (hb : Below w1.heap.size w1 w2) : RCAt h w M v ib w2 := ⟨H.at_.on hb, H.hi.below hb H.hi.lt, H.lt⟩
theorem RCAt.mk' {w3 w4 w5 : World} {cs : Array Value} {t : TypeId} {g : Nat → BitVec 32} (H : RBAt h w M v w3) (hb : Below w3.heap.size w3 w4)
    (h5 : MS (w4.alloc (.cells cs t)) w4.heap.size 8 (fun j => if 0 ≤ j ∧ j < 0 + 8 then cw .u64 iv (j - 0) else cw .u64 g j) w5) : RCAt h w M v w4.heap.size w5 := by
  have hl := H.hv.lt
  have hz := hb.size
  exact ⟨H.on ((hb.alloc hz _).trans (h5.2.below (by omega))), h5.1.congr _ fun i hi => by simp [hi], by omega⟩
end
end BB
namespace Go.Proofs.YthajnkcipifhcaaGreatDoor
open BB
end Go.Proofs.YthajnkcipifhcaaGreatDoor
end
section
open Go Go.RowKit
namespace Go.Proofs.YthajnkcipifhcaaGreatDoor
open BB
theorem rot_any (x : BitVec 32) (m : Int) (n : Nat) (hm : m = -16 ∧ n = 16 ∨ m = -12 ∧ n = 12 ∨ m = -8 ∧ n = 8 ∨ m = -7 ∧ n = 7) (w : World) :
    Calls Tryz.prog 316 #[.int .u32 (x.toNat : Int), .int .i64 m] w fun e w' => e = .returned (.int .u32 ((ror n x).toNat : Int)) ∧ w' = w := by
  rcases hm with ⟨rfl, rfl⟩ | ⟨rfl, rfl⟩ | ⟨rfl, rfl⟩ | ⟨rfl, rfl⟩
  · have h16 : bits BinOp.and IntKind.u64 (IntKind.u64.wrap (-16)) 31 = 16 := by decide
    go_enter Tryz.func316, Tryz.ntmps316
    go_wp2
    go_ret
    exact ⟨ret_int (ror_code x 16 _ _ (by decide) (by decide)), rfl⟩
  · have h16 : bits BinOp.and IntKind.u64 (IntKind.u64.wrap (-12)) 31 = 20 := by decide
    go_enter Tryz.func316, Tryz.ntmps316
    go_wp2
    go_ret
    exact ⟨ret_int (ror_code x 12 _ _ (by decide) (by decide)), rfl⟩
  · have h16 : bits BinOp.and IntKind.u64 (IntKind.u64.wrap (-8)) 31 = 24 := by decide
    go_enter Tryz.func316, Tryz.ntmps316
    go_wp2
    go_ret
    exact ⟨ret_int (ror_code x 8 _ _ (by decide) (by decide)), rfl⟩
  · have h16 : bits BinOp.and IntKind.u64 (IntKind.u64.wrap (-7)) 31 = 25 := by decide
    go_enter Tryz.func316, Tryz.ntmps316
    go_wp2
    go_ret
    exact ⟨ret_int (ror_code x 7 _ _ (by decide) (by decide)), rfl⟩
set_option maxRecDepth 100000 in
set_option maxHeartbeats 4000000 in
theorem mix_any (b : Nat) (v : Nat → BitVec 32) (i : Nat) (hi : i < 8) (x y : BitVec 32) (w : World) (hv : Blk w b 16 (cw .u32 v))
   (pa pb pc pd : Nat) (ha : pa < 16) (hb : pb < 16) (hc : pc < 16) (hd : pd < 16)
   (h0 : w.cell? ⟨2, i * 4, none⟩ = some (.int .u8 pa)) (h1 : w.cell? ⟨2, i * 4 + 1, none⟩ = some (.int .u8 pb))
   (h2 : w.cell? ⟨2, i * 4 + 2, none⟩ = some (.int .u8 pc)) (h3 : w.cell? ⟨2, i * 4 + 3, none⟩ = some (.int .u8 pd)) :
    Calls Tryz.prog 284 #[.pointer (some ⟨b, 0, none⟩), .int .i64 i, .int .u32 (x.toNat : Int), .int .u32 (y.toNat : Int)] w fun e w' => e = .returned (.tuple #[]) ∧ MS w b 16 (cw .u32 (gmix v pa pb pc pd x y)) w' := by
  have hi' : (i : Int) < 8 := by omega
  have ha' : (pa : Int) < 16 := by omega
  have hb' : (pb : Int) < 16 := by omega
  have hc' : (pc : Int) < 16 := by omega
  have hd' : (pd : Int) < 16 := by omega
  go_enter Tryz.func284, Tryz.ntmps284
  go_wp2_with fail
  refine quiet_abs (by kernel_rfl) (by kernel_rfl) fun w1 hs1 => ?_
  have g0 := (hs1.cell _).trans h0
  have g1 := (hs1.cell _).trans h1
  have g2 := (hs1.cell _).trans h2
  have g3 := (hs1.cell _).trans h3
  repeat still_step
  refine wpStill_nil ?_
  have S1 : MS w b 16 (cw .u32 v) w1 := (MS.mk hv).same hs1
  clear g0 g1 g2 g3 h0 h1 h2 h3 hv hs1
  go_wp2_with fail
  refine tail_abs 15 (by kernel_rfl) (by kernel_rfl) fun w2 hs => ?_
  have S2 := S1.same hs
  have va : w2.cell? ⟨b, pa, none⟩ = some (.int .u32 ((v pa).toNat : Int)) := S2.get pa ha
  have vb : w2.cell? ⟨b, pb, none⟩ = some (.int .u32 ((v pb).toNat : Int)) := S2.get pb hb
  have fa := S2.frz pa
  simp only [List.take_succ_cons, List.take_zero, List.drop_succ_cons, List.drop_zero]
  clear hs S1
  clear w1
  repeat still_step
  refine wpStill_nil ?_
  go_wp2_with fail
  refine abs_wp (MS w b 16 (cw .u32 (add3 v pa pb x))) (S2.set' pa _ _ (cw_put .u32 v pa _ _ (add3_code _ _ _))) ?_
  clear va vb fa S2
  clear w2
  generalize E0 : add3 v pa pb x = v1
  have H0 := Lib.hid E0
  clear E0
  intro w1 S1
  refine tail_abs 16 (by kernel_rfl) (by kernel_rfl) fun w2 hs => ?_
  have S2 := S1.same hs
  have va : w2.cell? ⟨b, pd, none⟩ = some (.int .u32 ((v1 pd).toNat : Int)) := S2.get pd hd
  have vb : w2.cell? ⟨b, pa, none⟩ = some (.int .u32 ((v1 pa).toNat : Int)) := S2.get pa ha
  have fa := S2.frz pd
  simp only [List.take_succ_cons, List.take_zero, List.drop_succ_cons, List.drop_zero]
  clear hs S1
  clear w1
  repeat still_step
  refine wpStill_step (fun K hK => ?_)
  go_simp
  rw [bvxor]
  refine ⟨.int .u32 ((ror 16 (v1 pd ^^^ v1 pa)).toNat : Int), rot_any (v1 pd ^^^ v1 pa) (-16) 16 (by simp) w2, ?_⟩
  refine hK _ ?_
  clear hK K
  repeat still_step
  refine wpStill_nil ?_
  go_wp2_with fail
  refine abs_wp (MS w b 16 (cw .u32 (turn 16 v1 pd pa))) (S2.set' pd _ _ (cw_put .u32 v1 pd _ _ rfl)) ?_
  clear va vb fa S2
  clear w2
  generalize E1 : turn 16 v1 pd pa = v2
  have H1 := Lib.hid E1
  clear E1
  intro w1 S1
  refine tail_abs 13 (by kernel_rfl) (by kernel_rfl) fun w2 hs => ?_
  have S2 := S1.same hs
  have va : w2.cell? ⟨b, pc, none⟩ = some (.int .u32 ((v2 pc).toNat : Int)) := S2.get pc hc
  have vb : w2.cell? ⟨b, pd, none⟩ = some (.int .u32 ((v2 pd).toNat : Int)) := S2.get pd hd
  have fa := S2.frz pc
  simp only [List.take_succ_cons, List.take_zero, List.drop_succ_cons, List.drop_zero]
  clear hs S1
  clear w1
  repeat still_step
  refine wpStill_nil ?_
  go_wp2_with fail
  refine abs_wp (MS w b 16 (cw .u32 (add2 v2 pc pd))) (S2.set' pc _ _ (cw_put .u32 v2 pc _ _ (add2_code _ _))) ?_
  clear va vb fa S2
  clear w2
  generalize E2 : add2 v2 pc pd = v3
  have H2 := Lib.hid E2
  clear E2
  intro w1 S1
  refine tail_abs 16 (by kernel_rfl) (by kernel_rfl) fun w2 hs => ?_
  have S2 := S1.same hs
  have va : w2.cell? ⟨b, pb, none⟩ = some (.int .u32 ((v3 pb).toNat : Int)) := S2.get pb hb
  have vb : w2.cell? ⟨b, pc, none⟩ = some (.int .u32 ((v3 pc).toNat : Int)) := S2.get pc hc
  have fa := S2.frz pb
  simp only [List.take_succ_cons, List.take_zero, List.drop_succ_cons, List.drop_zero]
  clear hs S1
  clear w1
  repeat still_step
  refine wpStill_step (fun K hK => ?_)
  go_simp
  rw [bvxor]
  refine ⟨.int .u32 ((ror 12 (v3 pb ^^^ v3 pc)).toNat : Int), rot_any (v3 pb ^^^ v3 pc) (-12) 12 (by simp) w2, ?_⟩
  refine hK _ ?_
  clear hK K
  repeat still_step
  refine wpStill_nil ?_
  go_wp2_with fail
  refine abs_wp (MS w b 16 (cw .u32 (turn 12 v3 pb pc))) (S2.set' pb _ _ (cw_put .u32 v3 pb _ _ rfl)) ?_
  clear va vb fa S2
  clear w2
  generalize E3 : turn 12 v3 pb pc = v4
  have H3 := Lib.hid E3
  clear E3
  intro w1 S1
  refine tail_abs 15 (by kernel_rfl) (by kernel_rfl) fun w2 hs => ?_
  have S2 := S1.same hs
  have va : w2.cell? ⟨b, pa, none⟩ = some (.int .u32 ((v4 pa).toNat : Int)) := S2.get pa ha
  have vb : w2.cell? ⟨b, pb, none⟩ = some (.int .u32 ((v4 pb).toNat : Int)) := S2.get pb hb
  have fa := S2.frz pa
  simp only [List.take_succ_cons, List.take_zero, List.drop_succ_cons, List.drop_zero]
  clear hs S1
  clear w1
  repeat still_step
  refine wpStill_nil ?_
  go_wp2_with fail
  refine abs_wp (MS w b 16 (cw .u32 (add3 v4 pa pb y))) (S2.set' pa _ _ (cw_put .u32 v4 pa _ _ (add3_code _ _ _))) ?_
  clear va vb fa S2
  clear w2
  generalize E4 : add3 v4 pa pb y = v5
  have H4 := Lib.hid E4
  clear E4
  intro w1 S1
  refine tail_abs 16 (by kernel_rfl) (by kernel_rfl) fun w2 hs => ?_
  have S2 := S1.same hs
  have va : w2.cell? ⟨b, pd, none⟩ = some (.int .u32 ((v5 pd).toNat : Int)) := S2.get pd hd
  have vb : w2.cell? ⟨b, pa, none⟩ = some (.int .u32 ((v5 pa).toNat : Int)) := S2.get pa ha
  have fa := S2.frz pd
  simp only [List.take_succ_cons, List.take_zero, List.drop_succ_cons, List.drop_zero]
  clear hs S1
  clear w1
  repeat still_step
  refine wpStill_step (fun K hK => ?_)
  go_simp
  rw [bvxor]
  refine ⟨.int .u32 ((ror 8 (v5 pd ^^^ v5 pa)).toNat : Int), rot_any (v5 pd ^^^ v5 pa) (-8) 8 (by simp) w2, ?_⟩
  refine hK _ ?_
  clear hK K
  repeat still_step
  refine wpStill_nil ?_
  go_wp2_with fail
  refine abs_wp (MS w b 16 (cw .u32 (turn 8 v5 pd pa))) (S2.set' pd _ _ (cw_put .u32 v5 pd _ _ rfl)) ?_
  clear va vb fa S2
  clear w2
  generalize E5 : turn 8 v5 pd pa = v6
  have H5 := Lib.hid E5
  clear E5
  intro w1 S1
  refine tail_abs 13 (by kernel_rfl) (by kernel_rfl) fun w2 hs => ?_
  have S2 := S1.same hs
  have va : w2.cell? ⟨b, pc, none⟩ = some (.int .u32 ((v6 pc).toNat : Int)) := S2.get pc hc
  have vb : w2.cell? ⟨b, pd, none⟩ = some (.int .u32 ((v6 pd).toNat : Int)) := S2.get pd hd
  have fa := S2.frz pc
  simp only [List.take_succ_cons, List.take_zero, List.drop_succ_cons, List.drop_zero]
  clear hs S1
  clear w1
  repeat still_step
  refine wpStill_nil ?_
  go_wp2_with fail
  refine abs_wp (MS w b 16 (cw .u32 (add2 v6 pc pd))) (S2.set' pc _ _ (cw_put .u32 v6 pc _ _ (add2_code _ _))) ?_
  clear va vb fa S2
  clear w2
  generalize E6 : add2 v6 pc pd = v7
  have H6 := Lib.hid E6
  clear E6
  intro w1 S1
  refine tail_abs 16 (by kernel_rfl) (by kernel_rfl) fun w2 hs => ?_
  have S2 := S1.same hs
  have va : w2.cell? ⟨b, pb, none⟩ = some (.int .u32 ((v7 pb).toNat : Int)) := S2.get pb hb
  have vb : w2.cell? ⟨b, pc, none⟩ = some (.int .u32 ((v7 pc).toNat : Int)) := S2.get pc hc
  have fa := S2.frz pb
  simp only [List.take_succ_cons, List.take_zero, List.drop_succ_cons, List.drop_zero]
  clear hs S1
  clear w1
  repeat still_step
  refine wpStill_step (fun K hK => ?_)
  go_simp
  rw [bvxor]
  refine ⟨.int .u32 ((ror 7 (v7 pb ^^^ v7 pc)).toNat : Int), rot_any (v7 pb ^^^ v7 pc) (-7) 7 (by simp) w2, ?_⟩
  refine hK _ ?_
  clear hK K
  repeat still_step
  refine wpStill_nil ?_
  go_wp2_with fail
  refine abs_body (MS w b 16 (cw .u32 (turn 7 v7 pb pc))) (S2.set' pb _ _ (cw_put .u32 v7 pb _ _ rfl)) ?_
  clear va vb fa S2
  clear w2
  generalize E7 : turn 7 v7 pb pc = v8
  have H7 := Lib.hid E7
  clear E7
  intro w1 S1
  go_end0
  refine ⟨rfl, ?_⟩
  unfold gmix
  rw [H0.out, H1.out, H2.out, H3.out, H4.out, H5.out, H6.out, H7.out]
  exact S1
end Go.Proofs.YthajnkcipifhcaaGreatDoor
end
section
open Go Go.RowKit
namespace Go.Proofs.YthajnkcipifhcaaGreatDoor
open BB
structure WordsAt (B : Nat → Nat) (w : World) (k : Nat) (w' : World) : Prop where
  below : Below w.heap.size w w'
  src : Blk w' w.heap.size 64 (cb B)
  res : Blk w' (w.heap.size + 1) 16 (cw .u32 fun _ => 0)
  m : Blk w' (w.heap.size + 1 + 1) 16 (cw .u32 (wstep B k))
theorem WordsAt.same {B : Nat → Nat} {w w1 w2 : World} {k : Nat} (h : WordsAt B w k w1) (hs : Same w1 w2) : WordsAt B w k w2 :=
  ⟨h.below.trans (hs.below _), h.src.same hs, h.res.same hs, h.m.same hs⟩
theorem or_shl (m : BitVec 32) (x r : Nat) : bits .or .u32 (m.toNat : Int) ((x : Int) * 2 ^ (8 * r) % 4294967296) = ((m ||| BitVec.ofNat 32 x <<< (8 * r)).toNat : Int) := by
  have : ((x : Int) * 2 ^ (8 * r) % 4294967296) = ((BitVec.ofNat 32 x <<< (8 * r)).toNat : Int) := by
    rw [BitVec.toNat_shiftLeft, BitVec.toNat_ofNat, Nat.shiftLeft_eq]
    simp [Nat.mod_mul_mod]
  rw [this, bvor]
theorem agg_w16 (w : World) : (isAgg 311).run Tryz.prog w = .ok true w := by kernel_rfl
theorem size_w16 (w : World) : (Go.sizeOf 311).run Tryz.prog w = .ok 16 w := by kernel_rfl
theorem WordsAt.next {B : Nat → Nat} {w w2 : World} {k : Nat} (h : WordsAt B w k w2) (q r : Nat) (u : Value) (hq : q = k / 4) (hr : r = k % 4)
    (hu : u = .int .u32 ((wstep B k q ||| BitVec.ofNat 32 (B k) <<< (8 * r)).toNat : Int)) : WordsAt B w (k + 1) (w2.setCell ⟨w.heap.size + 1 + 1, q, none⟩ u) := by
  refine ⟨h.below.setCell (by show _ ≤ w.heap.size + 1 + 1; omega) _, h.src.set_other _ _ (by show w.heap.size ≠ w.heap.size + 1 + 1; omega), h.res.set_other _ _ (by show w.heap.size + 1 ≠ w.heap.size + 1 + 1; omega), ?_⟩
  have := h.m.set q u
  rw [cw_put .u32 _ _ _ _ hu, hq, hr] at this
  rw [hq]
  exact this
set_option maxRecDepth 100000 in
set_option maxHeartbeats 1000000 in
theorem words_any (B : Nat → Nat) (hB : ∀ i, B i < 256) (w : World) :
    Calls Tryz.prog 283 #[.agg (row 64 (cb B))] w fun e w' => e = .returned (.agg (row 16 (cw .u32 (wstep B 64)))) ∧ Below w.heap.size w w' := by
  have HB := Lib.hid hB
  clear hB
  go_enter Tryz.func283, Tryz.ntmps283
  go_wp2_with fail
  refine abs_wp (fun w' => WordsAt B w 0 w') ?_ ?_
  · refine ⟨(((Below.refl _ _).alloc (Nat.le_refl _) _).alloc (by simp) _).alloc (by simp; omega) _, ?_, ?_, ?_⟩
    · exact ((Blk.new' rfl rfl).alloc _).alloc _
    · refine Blk.alloc ?_ _
      exact Blk.new' (by simp) rfl
    · exact Blk.new' (by simp) rfl
  intro w1 h1
  go_loopw [5] (fun i wr => ∃ k : Nat, k ≤ 64 ∧ i = .int .i64 k ∧ WordsAt B w k wr) (fun i _ => 64 - (intOf i).toNat)
  case atStart => exact ⟨0, by omega, rfl, h1⟩
  case round =>
    obtain ⟨k, hk, rfl, hr⟩ := hrel
    by_cases hlt : k < 64
    · have hlt' : (k : Int) < 64 := by omega
      go_wp2_with fail
      refine tail_abs 14 (by kernel_rfl) (by kernel_rfl) fun w2 hs => ?_
      have S2 := hr.same hs
      obtain ⟨q, hq⟩ : ∃ q, q = k / 4 := ⟨_, rfl⟩
      obtain ⟨r, hr4⟩ : ∃ r, r = k % 4 := ⟨_, rfl⟩
      have ca : w2.cell? ⟨w.heap.size, k, none⟩ = some (.int .u8 (B k : Int)) := S2.src.get k hlt
      have cm : w2.cell? ⟨w.heap.size + 1 + 1, q, none⟩ = some (.int .u32 ((wstep B k q).toNat : Int)) := S2.m.get q (by omega)
      have fm := S2.m.frz q
      have hB := HB.out k
      have q1 : IntKind.i64.wrap ((k : Int) / 4) = (q : Int) := by rw [IntWalk.i64_in _ (by omega)]; omega
      have q2 : (q : Int) < 16 := by omega
      have r1 : (k : Int).tmod 4 = (r : Int) := by rw [Int.tmod_eq_emod_of_nonneg (by omega)]; omega
      have r3 : IntKind.i64.wrap (8 * (r : Int)) = 8 * (r : Int) := IntWalk.i64_in _ (by omega)
      have b1 : IntKind.u32.wrap (B k : Int) = (B k : Int) := by rw [IntKind.wrap_u32']; omega
      have r2 : (r : Int) < 4 := by omega
      have HQ := Lib.hid hq
      have HR := Lib.hid hr4
      clear hs hr hq hr4
      simp only [List.take_succ_cons, List.take_zero, List.drop_succ_cons, List.drop_zero]
      repeat still_step
      refine wpStill_nil ?_
      go_wp2_with fail
      go_roundw
      case rel => exact ⟨k + 1, by omega, by go_num, S2.next q r _ HQ.out HR.out (by rw [or_shl])⟩
      case measure => simp [intOf]; omega
    · obtain rfl : k = 64 := by omega
      go_wp2_with (first
        | with_reducible refine wpl_load (.tmp 3) (w.heap.size + 1 + 1) 0 16 16 (cw .u32 (wstep B 64)) rfl rfl rfl (agg_w16 _) (size_w16 _) hr.m.cells (by omega) ?_
        | ((with_reducible refine wpl_store (.tmp 2) (.tmp 23) (w.heap.size + 1) 0 16 16 (cw .u32 fun _ => 0) (cw .u32 (wstep B 64)) rfl rfl rfl rfl (size_w16 _) hr.res (by omega) (fun _ _ => rfl) ?_); intro w3 h3))
      have h4 : Blk w3 (w.heap.size + 1) 16 (cw .u32 (wstep B 64)) := h3.1.congr _ fun i hi => by simp [hi]
      exact body_row (p := 2) (by kernel_rfl) rfl (agg_w16 _) (size_w16 _) h4.cells (by omega) rfl ⟨rfl, hr.below.trans (h3.2.below (by omega))⟩
end Go.Proofs.YthajnkcipifhcaaGreatDoor
end
section
open Go Go.RowKit
namespace Go.Proofs.YthajnkcipifhcaaGreatDoor
open BB
/-- the three tables, as the program's text lays them -/
structure Tabs (w : World) : Prop where
  iv : Cells w 0 8 (cw .u32 iv)
  sg : Cells w 1 160 (cb sg)
  pl : Cells w 2 32 (cb pl)
  l1 : 0 < w.heap.size
  l2 : 1 < w.heap.size
  l3 : 2 < w.heap.size
theorem Tabs.below {w w' : World} {B : Nat} (h : Tabs w) (hb : Below B w w') (hB : w.heap.size ≤ B) : Tabs w' :=
  ⟨h.iv.below hb (Nat.lt_of_lt_of_le h.l1 hB), h.sg.below hb (Nat.lt_of_lt_of_le h.l2 hB), h.pl.below hb (Nat.lt_of_lt_of_le h.l3 hB),
   Nat.lt_of_lt_of_le h.l1 hb.size, Nat.lt_of_lt_of_le h.l2 hb.size, Nat.lt_of_lt_of_le h.l3 hb.size⟩
structure MixedAt (h : Nat → BitVec 32) (B : Nat → Nat) (w : World) (v : Nat → BitVec 32) (w' : World) : Prop where
  below : Below w.heap.size w w'
  tabs : Tabs w
  hw : Blk w' w.heap.size 8 (cw .u32 h)
  hb : Blk w' (w.heap.size + 1) 64 (cb B)
  hr : Blk w' (w.heap.size + 1 + 1) 8 (cw .u32 fun _ => 0)
  hv : Blk w' (w.heap.size + 1 + 1 + 1) 16 (cw .u32 v)
section
variable {h : Nat → BitVec 32} {B : Nat → Nat} {w w1 w2 : World} {v : Nat → BitVec 32}
theorem MixedAt.same (H : MixedAt h B w v w1) (hs : Same w1 w2) : MixedAt h B w v w2 := ⟨H.below.trans (hs.below _), H.tabs, H.hw.same hs, H.hb.same hs, H.hr.same hs, H.hv.same hs⟩
theorem MixedAt.set (H : MixedAt h B w v w1) (i : Nat) (x : BitVec 32) (u : Value) (hu : u = .int .u32 (x.toNat : Int)) :
    MixedAt h B w (put v i x) (w1.setCell ⟨w.heap.size + 1 + 1 + 1, i, none⟩ u) :=
  ⟨H.below.setCell (by show _ ≤ w.heap.size + 1 + 1 + 1; omega) _, H.tabs, H.hw.set_other _ _ (by show _ ≠ w.heap.size + 1 + 1 + 1; omega), H.hb.set_other _ _ (by show _ ≠ w.heap.size + 1 + 1 + 1; omega),
   H.hr.set_other _ _ (by show _ ≠ w.heap.size + 1 + 1 + 1; omega), by have := H.hv.set i u; rwa [cw_put .u32 _ _ _ _ hu] at this⟩
theorem MixedAt.upd {f : Nat → BitVec 32} (H : MixedAt h B w v w1) (hm : MS w1 (w.heap.size + 1 + 1 + 1) 16 (cw .u32 f) w2) : MixedAt h B w f w2 :=
  ⟨H.below.trans (hm.2.below (by omega)), H.tabs, H.hw.upd hm.2 (by omega), H.hb.upd hm.2 (by omega), H.hr.upd hm.2 (by omega), hm.1⟩
theorem MixedAt.tab (H : MixedAt h B w v w1) : Tabs w1 := H.tabs.below H.below (Nat.le_refl _)
end
theorem MixedAt.setw {h : Nat → BitVec 32} {B : Nat → Nat} {w w1 : World} {v : Nat → BitVec 32} (H : MixedAt h B w v w1) (i : Nat) (x : BitVec 32) (u : Value) (hu : u = .int .u32 (x.toNat : Int)) :
    MixedAt (put h i x) B w v (w1.setCell ⟨w.heap.size, i, none⟩ u) :=
  ⟨H.below.setCell (Nat.le_refl _) _, H.tabs, by have := H.hw.set i u; rwa [cw_put .u32 _ _ _ _ hu] at this, H.hb.set_other _ _ (by show _ ≠ w.heap.size; omega),
   H.hr.set_other _ _ (by show _ ≠ w.heap.size; omega), H.hv.set_other _ _ (by show _ ≠ w.heap.size; omega)⟩
theorem xor3 (a b c : BitVec 32) : Value.int .u32 (bits .xor .u32 (a.toNat : Int) (bits .xor .u32 (b.toNat : Int) (c.toNat : Int))) = .int .u32 ((a ^^^ (b ^^^ c)).toNat : Int) := by rw [bvxor, bvxor]
/-- in a round: the block's words lie in block mb, too -/
structure RndAt (h : Nat → BitVec 32) (B : Nat → Nat) (w : World) (v : Nat → BitVec 32) (mb : Nat) (w' : World) : Prop where
  at_ : MixedAt h B w v w'
  m : Blk w' mb 16 (cw .u32 (wstep B 64))
  lt : w.heap.size + 1 + 1 + 1 < mb
theorem RndAt.mk' {h : Nat → BitVec 32} {B : Nat → Nat} {w w3 w4 w5 : World} {v : Nat → BitVec 32} {cs : Array Value} {t : TypeId} {g : Nat → BitVec 32} (H : MixedAt h B w v w3) (hb : Below w3.heap.size w3 w4)
    (h5 : MS (w4.alloc (.cells cs t)) w4.heap.size 16 (fun j => if 0 ≤ j ∧ j < 0 + 16 then cw .u32 (wstep B 64) (j - 0) else cw .u32 g j) w5) : RndAt h B w v w4.heap.size w5 := by
  have hl := H.hv.lt
  have hz := hb.size
  have hB : Below w3.heap.size w3 w5 := (hb.alloc hz _).trans (h5.2.below (by omega))
  refine ⟨⟨H.below.trans (hB.mono H.below.size), H.tabs, H.hw.below hB H.hw.lt, H.hb.below hB H.hb.lt, H.hr.below hB H.hr.lt, H.hv.below hB H.hv.lt⟩, ?_, by omega⟩
  exact h5.1.congr _ fun i hi => by simp [hi]
theorem RndAt.same {h : Nat → BitVec 32} {B : Nat → Nat} {w w1 w2 : World} {v : Nat → BitVec 32} {mb : Nat} (H : RndAt h B w v mb w1) (hs : Same w1 w2) : RndAt h B w v mb w2 := ⟨H.at_.same hs, H.m.same hs, H.lt⟩
theorem RndAt.upd {h : Nat → BitVec 32} {B : Nat → Nat} {w w1 w2 : World} {v f : Nat → BitVec 32} {mb : Nat} (H : RndAt h B w v mb w1) (hm : MS w1 (w.heap.size + 1 + 1 + 1) 16 (cw .u32 f) w2) : RndAt h B w f mb w2 :=
  ⟨H.at_.upd hm, H.m.upd hm.2 (by have := H.lt; omega), H.lt⟩
theorem agg_b64 (w : World) : (isAgg 270).run Tryz.prog w = .ok true w := by kernel_rfl
theorem size_b64 (w : World) : (Go.sizeOf 270).run Tryz.prog w = .ok 64 w := by kernel_rfl
theorem agg_w8 (w : World) : (isAgg 269).run Tryz.prog w = .ok true w := by kernel_rfl
theorem size_w8 (w : World) : (Go.sizeOf 269).run Tryz.prog w = .ok 8 w := by kernel_rfl
set_option maxRecDepth 100000 in
set_option maxHeartbeats 1000000 in
theorem mixed_any (h : Nat → BitVec 32) (B : Nat → Nat) (hB : ∀ i, B i < 256) (n : Nat) (hn : n < 18446744073709551616) (last : Bool) (w : World) (hT : Tabs w) :
    Calls Tryz.prog 239 #[.agg (row 8 (cw .u32 h)), .agg (row 64 (cb B)), .int .u64 n, .bool last] w fun e w' => e = .returned (.agg (row 8 (cw .u32 (comp h B n last)))) ∧ Below w.heap.size w w' := by
  have HB := Lib.hid hB
  have HN := Lib.hid hn
  have HT := Lib.hid hT
  clear hB hn hT
  go_enter Tryz.func239, Tryz.ntmps239
  go_wp2_with fail
  refine abs_wp (fun w' => MixedAt h B w (vinit h 0) w') ?_ ?_
  · refine ⟨((((Below.refl _ _).alloc (Nat.le_refl _) _).alloc (by simp) _).alloc (by simp; omega) _).alloc (by simp; omega) _, HT.out, ?_, ?_, ?_, ?_⟩
    · exact (((Blk.new' rfl rfl).alloc _).alloc _).alloc _
    · refine Blk.alloc (Blk.alloc ?_ _) _
      exact Blk.new' (by simp) rfl
    · refine Blk.alloc ?_ _
      exact Blk.new' (by simp) rfl
    · exact Blk.new' (by simp) rfl
  intro w1 h1
  go_loopw [15] (fun i wr => ∃ k : Nat, k ≤ 8 ∧ i = .int .i64 k ∧ MixedAt h B w (vinit h k) wr) (fun i _ => 8 - (intOf i).toNat)
  case atStart => exact ⟨0, by omega, rfl, h1⟩
  case round =>
    obtain ⟨k, hk, rfl, hr⟩ := hrel
    by_cases hlt : k < 8
    · have hlt' : (k : Int) < 8 := by omega
      have c1 : wr.cell? ⟨w.heap.size, k, none⟩ = some (.int .u32 ((h k).toNat : Int)) := hr.hw.get k hlt
      have f1 := hr.hv.frz k
      have c2 : wr.cell? ⟨0, k, none⟩ = some (.int .u32 ((iv k).toNat : Int)) := hr.tab.iv k hlt
      have f2 := hr.hv.frz (8 + k)
      have e1 : (⟨0, k, none⟩ : Addr) ≠ ⟨w.heap.size + 1 + 1 + 1, k, none⟩ := by
        have := HT.out.l1; intro e; injection e with e _ _; omega
      have c3 : (wr.setCell ⟨w.heap.size + 1 + 1 + 1, k, none⟩ (.int .u32 ((h k).toNat : Int))).cell? ⟨0, k, none⟩ = some (.int .u32 ((iv k).toNat : Int)) := by
        rw [World.cell?_setCell_other _ _ _ _ (fun e => e1 e.symm)]; exact c2
      have e8 : (8 + (k : Int)).toNat = 8 + k := by omega
      have o1 := hr.hv.get k (by omega)
      have H2 := hr.set k (h k) _ rfl
      have o2 := H2.hv.get (8 + k) (by omega)
      have H3 := H2.set (8 + k) (iv k) _ rfl
      unfold cw at o1 o2
      clear e1
      go_wp2_with fail
      go_roundw
      case rel => exact ⟨k + 1, by omega, by go_num, H3⟩
      case measure => simp [intOf]; omega
    · obtain rfl : k = 8 := by omega
      clear h1
      have o12 := hr.hv.get 12 (by omega)
      have o13 := hr.hv.get 13 (by omega)
      have o14 := hr.hv.get 14 (by omega)
      have f12 := hr.hv.frz 12
      have f13 := hr.hv.frz 13
      have f14 := hr.hv.frz 14
      unfold cw at o12 o13 o14
      obtain ⟨V, hV⟩ : ∃ V, V = vstart h n last := ⟨_, rfl⟩
      have HV := Lib.hid hV
      clear hV
      cases last
      · go_wp2_with (first
          | ((with_reducible refine wpl_load_abs (MixedAt h B w V) (.tmp 5) (w.heap.size + 1) 0 64 64 (cb B) rfl rfl rfl agg_b64 size_b64 (by omega) (fun _ hh => hh.hb.cells) ?_ ?_)
             · rw [HV.out]; exact ((hr.set 12 _ _ (xor_lo _ _)).set 13 _ _ (xor_hi _ _))
             clear o12 o13 o14 f12 f13 f14 hr
             intro w3 h3)
          | (go_at_call 283; refine (words_any B HB.out _).mono ?_; rintro e w4 ⟨rfl, hb4⟩)
          | ((with_reducible refine wpl_store (.tmp 11) (.tmp 49) w4.heap.size 0 16 16 (cw .u32 fun _ => 0) (cw .u32 (wstep B 64)) rfl rfl rfl rfl (size_w16 _) (Blk.new' rfl rfl) (by omega) (fun _ _ => rfl) ?_)
             intro w5 h5))
        have R5 := RndAt.mk' h3 hb4 h5
        have HM := Lib.hid (Nat.lt_of_lt_of_le h3.hv.lt hb4.size)
        clear h5 hb4 h3
        generalize w4.heap.size = mb at *
        go_loopw [50] (fun i wr => ∃ r : Nat, r ≤ 10 ∧ i = .int .i64 r ∧ RndAt h B w (outer (wstep B 64) V r) mb wr) (fun i _ => 10 - (intOf i).toNat)
        case atStart => exact ⟨0, by omega, rfl, R5⟩
        case round =>
          clear R5 w4 w5
          obtain ⟨r, hr10, rfl, hr⟩ := hrel
          by_cases hlr : r < 10
          · have hlr' : (r : Int) < 10 := by omega
            go_wp2_with fail
            go_loopw [53] (fun i wr => ∃ k : Nat, k ≤ 8 ∧ i = .int .i64 k ∧ RndAt h B w (inner (wstep B 64) r (outer (wstep B 64) V r) k) mb wr) (fun i _ => 8 - (intOf i).toNat)
            case atStart => exact ⟨0, by omega, rfl, hr⟩
            case round =>
              clear hr
              obtain ⟨k, hk8, rfl, hr⟩ := hrel
              by_cases hlk : k < 8
              · have hlk' : (k : Int) < 8 := by omega
                obtain ⟨c, hc⟩ : ∃ c, c = 2 * k := ⟨_, rfl⟩
                obtain ⟨d, hd⟩ : ∃ d, d = 2 * k + 1 := ⟨_, rfl⟩
                obtain ⟨p, hp⟩ : ∃ p, p = sg (r * 16 + c) := ⟨_, rfl⟩
                obtain ⟨q, hq⟩ : ∃ q, q = sg (r * 16 + d) := ⟨_, rfl⟩
                have hp16 : (p : Int) < 16 := by have := sg_lt (r * 16 + c); omega
                have hq16 : (q : Int) < 16 := by have := sg_lt (r * 16 + d); omega
                go_wp2_with fail
                refine tail_abs 18 (by kernel_rfl) (by kernel_rfl) fun w6 hs => ?_
                have S := hr.same hs
                have a1 : w6.cell? ⟨1, r * 16 + c, none⟩ = some (.int .u8 (p : Int)) := by rw [hp]; exact S.at_.tab.sg (r * 16 + c) (by omega)
                have a2 : w6.cell? ⟨1, r * 16 + d, none⟩ = some (.int .u8 (q : Int)) := by rw [hq]; exact S.at_.tab.sg (r * 16 + d) (by omega)
                have c1 : IntKind.i64.wrap (2 * (k : Int)) = (c : Int) := by rw [IntWalk.i64_in _ (by omega)]; omega
                have d1 : IntKind.i64.wrap ((c : Int) + 1) = (d : Int) := by rw [IntWalk.i64_in _ (by omega)]; omega
                have c2 : (c : Int) < 16 := by omega
                have d2 : (d : Int) < 16 := by omega
                have HC := Lib.hid hc
                have HD := Lib.hid hd
                clear hc hd
                have m1 : w6.cell? ⟨mb, p, none⟩ = some (.int .u32 ((wstep B 64 p).toNat : Int)) := S.m.get p (by omega)
                have m2 : w6.cell? ⟨mb, q, none⟩ = some (.int .u32 ((wstep B 64 q).toNat : Int)) := S.m.get q (by omega)
                have HP := Lib.hid hp
                have HQ := Lib.hid hq
                clear hr hs hp hq wr
                simp only [List.take_succ_cons, List.take_zero, List.drop_succ_cons, List.drop_zero]
                repeat still_step
                refine wpStill_nil ?_
                clear a1 a2 c1 d1 m1 m2
                have p0 : w6.cell? ⟨2, k * 4, none⟩ = some (.int .u8 (pl (k * 4) : Int)) := S.at_.tab.pl (k * 4) (by omega)
                have p1 : w6.cell? ⟨2, k * 4 + 1, none⟩ = some (.int .u8 (pl (k * 4 + 1) : Int)) := S.at_.tab.pl (k * 4 + 1) (by omega)
                have p2 : w6.cell? ⟨2, k * 4 + 2, none⟩ = some (.int .u8 (pl (k * 4 + 2) : Int)) := S.at_.tab.pl (k * 4 + 2) (by omega)
                have p3 : w6.cell? ⟨2, k * 4 + 3, none⟩ = some (.int .u8 (pl (k * 4 + 3) : Int)) := S.at_.tab.pl (k * 4 + 3) (by omega)
                have CALL := Lib.hid (mix_any (w.heap.size + 1 + 1 + 1) (inner (wstep B 64) r (outer (wstep B 64) V r) k) k hlk (wstep B 64 p) (wstep B 64 q) w6 S.at_.hv (pl (k * 4)) (pl (k * 4 + 1)) (pl (k * 4 + 2)) (pl (k * 4 + 3)) (pl_lt _) (pl_lt _) (pl_lt _) (pl_lt _) p0 p1 p2 p3)
                clear p0 p1 p2 p3
                go_wp2_with (go_at_call 284; refine CALL.out.mono ?_; rintro e w7 ⟨rfl, h7⟩)
                go_roundw
                case rel => exact ⟨k + 1, by omega, by go_num, by have := S.upd h7; rw [HP.out, HQ.out, HC.out, HD.out] at this; exact this⟩
                case measure => simp [intOf]; omega
              · obtain rfl : k = 8 := by omega
                go_wp2_with fail
                go_roundw
                case rel => exact ⟨r + 1, by omega, by go_num, hr⟩
                case measure => simp [intOf]; omega
          · have hge : ¬ (r : Int) < 10 := by omega
            have hm0 : MixedAt (fin h (outer (wstep B 64) V 10) 0) B w (outer (wstep B 64) V 10) wr := by
              obtain rfl : r = 10 := by omega
              exact hr.at_
            clear hr
            obtain ⟨G, hG⟩ : ∃ G, G = outer (wstep B 64) V 10 := ⟨_, rfl⟩
            rw [← hG] at hm0
            have HG := Lib.hid hG
            clear hG
            go_wp2_with fail
            go_loopw [77] (fun i wr => ∃ k : Nat, k ≤ 8 ∧ i = .int .i64 k ∧ MixedAt (fin h G k) B w G wr) (fun i _ => 8 - (intOf i).toNat)
            case atStart => exact ⟨0, by omega, rfl, hm0⟩
            case round =>
              clear hm0
              obtain ⟨k, hk8, rfl, hr⟩ := hrel
              by_cases hlk : k < 8
              · have hlk' : (k : Int) < 8 := by omega
                obtain ⟨c, hc⟩ : ∃ c, c = 8 + k := ⟨_, rfl⟩
                go_wp2_with fail
                refine tail_abs 13 (by kernel_rfl) (by kernel_rfl) fun w6 hs => ?_
                have S := hr.same hs
                have a1 : w6.cell? ⟨w.heap.size, k, none⟩ = some (.int .u32 ((fin h G k k).toNat : Int)) := S.hw.get k (by omega)
                have a2 : w6.cell? ⟨w.heap.size + 1 + 1 + 1, k, none⟩ = some (.int .u32 ((G k).toNat : Int)) := S.hv.get k (by omega)
                have a3 : w6.cell? ⟨w.heap.size + 1 + 1 + 1, c, none⟩ = some (.int .u32 ((G c).toNat : Int)) := S.hv.get c (by omega)
                have fr := S.hw.frz k
                have c1 : IntKind.i64.wrap (8 + (k : Int)) = (c : Int) := by rw [IntWalk.i64_in _ (by omega)]; omega
                have c2 : (c : Int) < 16 := by omega
                have HC := Lib.hid hc
                have k16 : (k : Int) < 16 := by omega
                clear hc hr hs
                simp only [List.take_succ_cons, List.take_zero, List.drop_succ_cons, List.drop_zero]
                repeat still_step
                refine wpStill_nil ?_
                clear a2 a3 c1 c2 k16
                go_wp2_with fail
                go_roundw
                case rel => exact ⟨k + 1, by omega, by go_num, by
                  have := S.setw k (fin h G k k ^^^ (G k ^^^ G c)) _ (xor3 _ _ _)
                  rw [HC.out] at this ⊢
                  exact this⟩
                case measure => simp [intOf]; omega
              · obtain rfl : k = 8 := by omega
                have hr0 := hr.hr
                go_wp2_with (first
                  | with_reducible refine wpl_load (.tmp 4) w.heap.size 0 8 8 (cw .u32 (fin h G 8)) rfl rfl rfl (agg_w8 _) (size_w8 _) hr.hw.cells (by omega) ?_
                  | ((with_reducible refine wpl_store (.tmp 8) (.tmp 94) (w.heap.size + 1 + 1) 0 8 8 (cw .u32 fun _ => 0) (cw .u32 (fin h G 8)) rfl rfl rfl rfl (size_w8 _) hr0 (by omega) (fun _ _ => rfl) ?_); intro w7 h7))
                have h8 : Blk w7 (w.heap.size + 1 + 1) 8 (cw .u32 (fin h G 8)) := h7.1.congr _ fun i hi => by simp [hi]
                refine body_row (p := 8) (by kernel_rfl) rfl (agg_w8 _) (size_w8 _) h8.cells (by omega) rfl ⟨?_, hr.below.trans (h7.2.below (by omega))⟩
                rw [HG.out, HV.out]; rfl
      · go_wp2_with (first
          | ((with_reducible refine wpl_load_abs (MixedAt h B w V) (.tmp 5) (w.heap.size + 1) 0 64 64 (cb B) rfl rfl rfl agg_b64 size_b64 (by omega) (fun _ hh => hh.hb.cells) ?_ ?_)
             · rw [HV.out]; exact ((hr.set 12 _ _ (xor_lo _ _)).set 13 _ _ (xor_hi _ _)).set 14 _ _ (xor_all _)
             clear o12 o13 o14 f12 f13 f14 hr
             intro w3 h3)
          | (go_at_call 283; refine (words_any B HB.out _).mono ?_; rintro e w4 ⟨rfl, hb4⟩)
          | ((with_reducible refine wpl_store (.tmp 11) (.tmp 49) w4.heap.size 0 16 16 (cw .u32 fun _ => 0) (cw .u32 (wstep B 64)) rfl rfl rfl rfl (size_w16 _) (Blk.new' rfl rfl) (by omega) (fun _ _ => rfl) ?_)
             intro w5 h5))
        have R5 := RndAt.mk' h3 hb4 h5
        have HM := Lib.hid (Nat.lt_of_lt_of_le h3.hv.lt hb4.size)
        clear h5 hb4 h3
        generalize w4.heap.size = mb at *
        go_loopw [50] (fun i wr => ∃ r : Nat, r ≤ 10 ∧ i = .int .i64 r ∧ RndAt h B w (outer (wstep B 64) V r) mb wr) (fun i _ => 10 - (intOf i).toNat)
        case atStart => exact ⟨0, by omega, rfl, R5⟩
        case round =>
          clear R5 w4 w5
          obtain ⟨r, hr10, rfl, hr⟩ := hrel
          by_cases hlr : r < 10
          · have hlr' : (r : Int) < 10 := by omega
            go_wp2_with fail
            go_loopw [53] (fun i wr => ∃ k : Nat, k ≤ 8 ∧ i = .int .i64 k ∧ RndAt h B w (inner (wstep B 64) r (outer (wstep B 64) V r) k) mb wr) (fun i _ => 8 - (intOf i).toNat)
            case atStart => exact ⟨0, by omega, rfl, hr⟩
            case round =>
              clear hr
              obtain ⟨k, hk8, rfl, hr⟩ := hrel
              by_cases hlk : k < 8
              · have hlk' : (k : Int) < 8 := by omega
                obtain ⟨c, hc⟩ : ∃ c, c = 2 * k := ⟨_, rfl⟩
                obtain ⟨d, hd⟩ : ∃ d, d = 2 * k + 1 := ⟨_, rfl⟩
                obtain ⟨p, hp⟩ : ∃ p, p = sg (r * 16 + c) := ⟨_, rfl⟩
                obtain ⟨q, hq⟩ : ∃ q, q = sg (r * 16 + d) := ⟨_, rfl⟩
                have hp16 : (p : Int) < 16 := by have := sg_lt (r * 16 + c); omega
                have hq16 : (q : Int) < 16 := by have := sg_lt (r * 16 + d); omega
                go_wp2_with fail
                refine tail_abs 18 (by kernel_rfl) (by kernel_rfl) fun w6 hs => ?_
                have S := hr.same hs
                have a1 : w6.cell? ⟨1, r * 16 + c, none⟩ = some (.int .u8 (p : Int)) := by rw [hp]; exact S.at_.tab.sg (r * 16 + c) (by omega)
                have a2 : w6.cell? ⟨1, r * 16 + d, none⟩ = some (.int .u8 (q : Int)) := by rw [hq]; exact S.at_.tab.sg (r * 16 + d) (by omega)
                have c1 : IntKind.i64.wrap (2 * (k : Int)) = (c : Int) := by rw [IntWalk.i64_in _ (by omega)]; omega
                have d1 : IntKind.i64.wrap ((c : Int) + 1) = (d : Int) := by rw [IntWalk.i64_in _ (by omega)]; omega
                have c2 : (c : Int) < 16 := by omega
                have d2 : (d : Int) < 16 := by omega
                have HC := Lib.hid hc
                have HD := Lib.hid hd
                clear hc hd
                have m1 : w6.cell? ⟨mb, p, none⟩ = some (.int .u32 ((wstep B 64 p).toNat : Int)) := S.m.get p (by omega)
                have m2 : w6.cell? ⟨mb, q, none⟩ = some (.int .u32 ((wstep B 64 q).toNat : Int)) := S.m.get q (by omega)
                have HP := Lib.hid hp
                have HQ := Lib.hid hq
                clear hr hs hp hq wr
                simp only [List.take_succ_cons, List.take_zero, List.drop_succ_cons, List.drop_zero]
                repeat still_step
                refine wpStill_nil ?_
                clear a1 a2 c1 d1 m1 m2
                have p0 : w6.cell? ⟨2, k * 4, none⟩ = some (.int .u8 (pl (k * 4) : Int)) := S.at_.tab.pl (k * 4) (by omega)
                have p1 : w6.cell? ⟨2, k * 4 + 1, none⟩ = some (.int .u8 (pl (k * 4 + 1) : Int)) := S.at_.tab.pl (k * 4 + 1) (by omega)
                have p2 : w6.cell? ⟨2, k * 4 + 2, none⟩ = some (.int .u8 (pl (k * 4 + 2) : Int)) := S.at_.tab.pl (k * 4 + 2) (by omega)
                have p3 : w6.cell? ⟨2, k * 4 + 3, none⟩ = some (.int .u8 (pl (k * 4 + 3) : Int)) := S.at_.tab.pl (k * 4 + 3) (by omega)
                have CALL := Lib.hid (mix_any (w.heap.size + 1 + 1 + 1) (inner (wstep B 64) r (outer (wstep B 64) V r) k) k hlk (wstep B 64 p) (wstep B 64 q) w6 S.at_.hv (pl (k * 4)) (pl (k * 4 + 1)) (pl (k * 4 + 2)) (pl (k * 4 + 3)) (pl_lt _) (pl_lt _) (pl_lt _) (pl_lt _) p0 p1 p2 p3)
                clear p0 p1 p2 p3
                go_wp2_with (go_at_call 284; refine CALL.out.mono ?_; rintro e w7 ⟨rfl, h7⟩)
                go_roundw
                case rel => exact ⟨k + 1, by omega, by go_num, by have := S.upd h7; rw [HP.out, HQ.out, HC.out, HD.out] at this; exact this⟩
                case measure => simp [intOf]; omega
              · obtain rfl : k = 8 := by omega
                go_wp2_with fail
                go_roundw
                case rel => exact ⟨r + 1, by omega, by go_num, hr⟩
                case measure => simp [intOf]; omega
          · have hge : ¬ (r : Int) < 10 := by omega
            have hm0 : MixedAt (fin h (outer (wstep B 64) V 10) 0) B w (outer (wstep B 64) V 10) wr := by
              obtain rfl : r = 10 := by omega
              exact hr.at_
            clear hr
            obtain ⟨G, hG⟩ : ∃ G, G = outer (wstep B 64) V 10 := ⟨_, rfl⟩
            rw [← hG] at hm0
            have HG := Lib.hid hG
            clear hG
            go_wp2_with fail
            go_loopw [77] (fun i wr => ∃ k : Nat, k ≤ 8 ∧ i = .int .i64 k ∧ MixedAt (fin h G k) B w G wr) (fun i _ => 8 - (intOf i).toNat)
            case atStart => exact ⟨0, by omega, rfl, hm0⟩
            case round =>
              clear hm0
              obtain ⟨k, hk8, rfl, hr⟩ := hrel
              by_cases hlk : k < 8
              · have hlk' : (k : Int) < 8 := by omega
                obtain ⟨c, hc⟩ : ∃ c, c = 8 + k := ⟨_, rfl⟩
                go_wp2_with fail
                refine tail_abs 13 (by kernel_rfl) (by kernel_rfl) fun w6 hs => ?_
                have S := hr.same hs
                have a1 : w6.cell? ⟨w.heap.size, k, none⟩ = some (.int .u32 ((fin h G k k).toNat : Int)) := S.hw.get k (by omega)
                have a2 : w6.cell? ⟨w.heap.size + 1 + 1 + 1, k, none⟩ = some (.int .u32 ((G k).toNat : Int)) := S.hv.get k (by omega)
                have a3 : w6.cell? ⟨w.heap.size + 1 + 1 + 1, c, none⟩ = some (.int .u32 ((G c).toNat : Int)) := S.hv.get c (by omega)
                have fr := S.hw.frz k
                have c1 : IntKind.i64.wrap (8 + (k : Int)) = (c : Int) := by rw [IntWalk.i64_in _ (by omega)]; omega
                have c2 : (c : Int) < 16 := by omega
                have HC := Lib.hid hc
                have k16 : (k : Int) < 16 := by omega
                clear hc hr hs
                simp only [List.take_succ_cons, List.take_zero, List.drop_succ_cons, List.drop_zero]
                repeat still_step
                refine wpStill_nil ?_
                clear a2 a3 c1 c2 k16
                go_wp2_with fail
                go_roundw
                case rel => exact ⟨k + 1, by omega, by go_num, by
                  have := S.setw k (fin h G k k ^^^ (G k ^^^ G c)) _ (xor3 _ _ _)
                  rw [HC.out] at this ⊢
                  exact this⟩
                case measure => simp [intOf]; omega
              · obtain rfl : k = 8 := by omega
                have hr0 := hr.hr
                go_wp2_with (first
                  | with_reducible refine wpl_load (.tmp 4) w.heap.size 0 8 8 (cw .u32 (fin h G 8)) rfl rfl rfl (agg_w8 _) (size_w8 _) hr.hw.cells (by omega) ?_
                  | ((with_reducible refine wpl_store (.tmp 8) (.tmp 94) (w.heap.size + 1 + 1) 0 8 8 (cw .u32 fun _ => 0) (cw .u32 (fin h G 8)) rfl rfl rfl rfl (size_w8 _) hr0 (by omega) (fun _ _ => rfl) ?_); intro w7 h7))
                have h8 : Blk w7 (w.heap.size + 1 + 1) 8 (cw .u32 (fin h G 8)) := h7.1.congr _ fun i hi => by simp [hi]
                refine body_row (p := 8) (by kernel_rfl) rfl (agg_w8 _) (size_w8 _) h8.cells (by omega) rfl ⟨?_, hr.below.trans (h7.2.below (by omega))⟩
                rw [HG.out, HV.out]; rfl
end Go.Proofs.YthajnkcipifhcaaGreatDoor
end
