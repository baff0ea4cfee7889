/-
  Slices of ints: what they are, and how they come in.
-/
import Derived.WalkKit
import Derived.Lib.Hide
import Derived.StillTailTactics
import Derived.BigQuiet
import Derived.Laws.CopyOwn
import Derived.Laws.MakeOwn
import Derived.Deep.OwnRows
import Derived.Test.YtigoaokpodggcaaDoorRows
import Derived.Test.YtigoaokpodggcaaDoorChecked
import Derived.ChangeSlices
import Derived.Lib.SmallJoins
import Derived.Deep.Slices
section
open Go Go.RowKit
namespace BB
theorem bvadd (a b : BitVec 32) : IntKind.u32.wrap ((a.toNat : Int) + (b.toNat : Int)) = ((a + b).toNat : Int) := by
  rw [IntKind.wrap_u32', BitVec.toNat_add]; omega
theorem ofInt32 (a : BitVec 32) : BitVec.ofInt 32 (a.toNat : Int) = a := by
  apply BitVec.eq_of_toNat_eq; simp
theorem bvwrap (a : BitVec 32) : IntKind.u32.wrap (a.toNat : Int) = (a.toNat : Int) := by
  rw [IntKind.wrap_u32']; omega
theorem bvxor (a b : BitVec 32) : bits .xor .u32 (a.toNat : Int) (b.toNat : Int) = ((a ^^^ b).toNat : Int) := by
  unfold bits; simp only [IntKind.bits, ofInt32, bvwrap]; rfl
theorem bvor (a b : BitVec 32) : bits .or .u32 (a.toNat : Int) (b.toNat : Int) = ((a ||| b).toNat : Int) := by
  unfold bits; simp only [IntKind.bits, ofInt32, bvwrap]; rfl
theorem ret_int {k : IntKind} {a b : Int} (h : a = b) : Ending.returned (.int k a) = .returned (.int k b) := by rw [h]
/-- turned right by n -/
def ror (n : Nat) (x : BitVec 32) : BitVec 32 := x >>> n ||| x <<< (32 - n)
theorem ror_code (x : BitVec 32) (n : Nat) (P Q : Int) (hP : P = 2 ^ (32 - n)) (hQ : Q = 2 ^ n) :
    bits .or .u32 ((x.toNat : Int) * P % 4294967296) ((x.toNat : Int) / Q) = ((ror n x).toNat : Int) := by
  have e1 : (x.toNat : Int) * P % 4294967296 = ((x <<< (32 - n)).toNat : Int) := by
    rw [BitVec.toNat_shiftLeft, Nat.shiftLeft_eq, hP]; simp
  have e2 : (x.toNat : Int) / Q = ((x >>> n).toNat : Int) := by
    rw [BitVec.toNat_ushiftRight, Nat.shiftRight_eq_div_pow, hQ]; simp
  rw [e1, e2, bvor, BitVec.or_comm]; rfl
/-- the two worlds part in the count of draws alone -/
structure Same (w w' : World) : Prop where
  heap : w'.heap = w.heap
  tape : w'.tape = w.tape
  os : w'.os = w.os
  output : w'.output = w.output
theorem Same.cell {w w' : World} (h : Same w w') (p : Addr) : w'.cell? p = w.cell? p := by unfold World.cell?; rw [h.heap]
theorem Same.frozen {w w' : World} (h : Same w w') (p : Addr) : w'.frozen? p = w.frozen? p := by unfold World.frozen?; rw [h.heap]
theorem Same.refl (w : World) : Same w w := ⟨rfl, rfl, rfl, rfl⟩
theorem Same.drewN (w : World) (n : Nat) : Same w (w.drewN n) := ⟨rfl, rfl, rfl, rfl⟩
theorem Same.below {w w' : World} (h : Same w w') (B : Nat) : Below B w w' := ⟨h.os, h.tape, h.output, by rw [h.heap]; exact Nat.le_refl _, fun _ _ => by rw [h.heap]⟩
/-- a region that reads, and then ends in operations in one order: walked in the order of the text, in a world that parts from this one in the draws alone -/
theorem tail_abs {P : Program} {id : Nat} {Q : Exit → Act → World → Prop} {a : Act} {w : World} {l : List Oper} (n : Nat) (hm : P.follows .mixedOrders = true) (hB : Region.lexTailB .any l.toArray n = true)
    (h : ∀ w2, Same w w2 → wpStill P l.toArray w2 (fun a' => wpList P l.toArray Q (l.drop n) a' w2) (l.take n) a) : (Code.region id l.toArray true).wp P Q a w :=
  wp_region_still_tail n hm hB (h _ ⟨rfl, rfl, rfl, rfl⟩)
theorem quiet_abs {P : Program} {id : Nat} {Q : Exit → Act → World → Prop} {a : Act} {w : World} {l : List Oper} (hm : P.follows .mixedOrders = true) (hB : Region.lexB .any l.toArray = true)
    (h : ∀ w2, Same w w2 → wpStill P l.toArray w2 (fun a' => Q .normal a' w2) l a) : (Code.region id l.toArray true).wp P Q a w :=
  wp_region_still_lit hm hB (h _ ⟨rfl, rfl, rfl, rfl⟩)
theorem abs_wp (R : World → Prop) {P : Program} {c : Code} {Q : Exit → Act → World → Prop} {a : Act} {w : World} (h1 : R w) (h2 : ∀ w', R w' → Code.wp P c Q a w') : Code.wp P c Q a w := h2 w h1
theorem abs_body (R : World → Prop) {P : Program} {f : Func} {Q : Ending → World → Prop} {x : Exit} {a : Act} {w : World} (h1 : R w) (h2 : ∀ w', R w' → bodyPost P f Q x a w') : bodyPost P f Q x a w := h2 w h1
theorem abs_list (R : World → Prop) {P : Program} {ops : Array Oper} {Q : Exit → Act → World → Prop} {l : List Oper} {a : Act} {w : World} (h1 : R w) (h2 : ∀ w', R w' → wpList P ops Q l a w') : wpList P ops Q l a w := h2 w h1
def put {α : Type} (v : Nat → α) (i : Nat) (x : α) : Nat → α := fun j => if j = i then x else v j
theorem put_same {α : Type} (v : Nat → α) (i : Nat) (x : α) : put v i x i = x := by simp [put]
theorem put_other {α : Type} (v : Nat → α) {i j : Nat} (x : α) (h : j ≠ i) : put v i x j = v j := by simp [put, h]
/-- n cells in a row -/
def row (n : Nat) (f : Nat → Value) : Array Value := ((List.range n).map f).toArray
theorem row_size (n : Nat) (f : Nat → Value) : (row n f).size = n := by simp [row]
theorem row_get (n : Nat) (f : Nat → Value) (i : Nat) (h : i < n) : (row n f)[i]? = some (f i) := by simp [row, h]
theorem row_set (n : Nat) (f : Nat → Value) (i : Nat) (u : Value) : (row n f).setIfInBounds i u = row n (put f i u) := by
  apply Array.ext_getElem?
  intro j
  rw [Array.getElem?_setIfInBounds]
  by_cases hj : j < n
  · rw [row_get n _ j hj, row_get n _ j hj, row_size]
    by_cases e : i = j
    · subst e; simp [put_same, hj]
    · rw [if_neg e, put_other _ _ (fun h => e h.symm)]
  · have h1 : (row n f)[j]? = none := by rw [Array.getElem?_eq_none]; rw [row_size]; omega
    have h2 : (row n (put f i u))[j]? = none := by rw [Array.getElem?_eq_none]; rw [row_size]; omega
    rw [h1, h2, row_size]
    by_cases e : i = j
    · subst e; simp [hj]
    · rw [if_neg e]
theorem row_congr (n : Nat) (f g : Nat → Value) (h : ∀ i, i < n → f i = g i) : row n f = row n g := by
  unfold row; congr 1; apply List.map_congr_left; intro i hi; exact h i (List.mem_range.1 hi)
/-- block b is n cells, f -/
def Blk (w : World) (b n : Nat) (f : Nat → Value) : Prop := ∃ t, w.heap[b]? = some (.cells (row n f) t (0, 0))
theorem Blk.lt {w : World} {b n : Nat} {f : Nat → Value} (h : Blk w b n f) : b < w.heap.size := by
  obtain ⟨t, h⟩ := h
  rcases Nat.lt_or_ge b w.heap.size with g | g
  · exact g
  · rw [Array.getElem?_eq_none g] at h; cases h
theorem Blk.get {w : World} {b n : Nat} {f : Nat → Value} (h : Blk w b n f) (i : Nat) (hi : i < n) : w.cell? ⟨b, i, none⟩ = some (f i) := by
  obtain ⟨t, h⟩ := h
  unfold World.cell?; rw [h]; simp [row_get n f i hi]
theorem Blk.frz {w : World} {b n : Nat} {f : Nat → Value} (h : Blk w b n f) (i : Nat) : w.frozen? ⟨b, i, none⟩ = false := by
  obtain ⟨t, h⟩ := h
  unfold World.frozen?; rw [h]; simp
theorem Blk.of_heap {w w' : World} {b n : Nat} {f : Nat → Value} (h : Blk w b n f) (e : w'.heap[b]? = w.heap[b]?) : Blk w' b n f := by
  obtain ⟨t, h⟩ := h; exact ⟨t, e.trans h⟩
theorem Blk.same {w w' : World} {b n : Nat} {f : Nat → Value} (h : Blk w b n f) (hs : Same w w') : Blk w' b n f := h.of_heap (by rw [hs.heap])
theorem Blk.below {w w' : World} {b n B : Nat} {f : Nat → Value} (h : Blk w b n f) (hs : Below B w w') (hb : b < B) : Blk w' b n f := h.of_heap (hs.block b hb)
theorem Blk.alloc {w : World} {b n : Nat} {f : Nat → Value} (h : Blk w b n f) (o : Obj) : Blk (w.alloc o) b n f := h.of_heap (Below.heap_alloc _ _ _ h.lt)
theorem Blk.new (w : World) (n : Nat) (f : Nat → Value) (cs : Array Value) (t : TypeId) (e : cs = row n f) : Blk (w.alloc (.cells cs t)) w.heap.size n f :=
  ⟨t, by subst e; show (w.heap.push _)[w.heap.size]? = _; simp⟩
theorem Blk.new' {w : World} {b n : Nat} {f : Nat → Value} {cs : Array Value} {t : TypeId} (hb : b = w.heap.size) (e : cs = row n f) : Blk (w.alloc (.cells cs t)) b n f := hb ▸ Blk.new w n f cs t e
theorem Blk.set {w : World} {b n : Nat} {f : Nat → Value} (h : Blk w b n f) (i : Nat) (u : Value) : Blk (w.setCell ⟨b, i, none⟩ u) b n (put f i u) := by
  obtain ⟨t, h⟩ := h
  refine ⟨t, ?_⟩
  unfold World.setCell
  simp only [Array.getElem?_modify, if_true, h, Option.map_some]
  simp [row_set]
theorem Blk.set_other {w : World} {b n : Nat} {f : Nat → Value} (h : Blk w b n f) (a : Addr) (u : Value) (hb : b ≠ a.block) : Blk (w.setCell a u) b n f := h.of_heap (Below.heap_setCell w a u b hb)
theorem Blk.congr {w : World} {b n : Nat} {f : Nat → Value} (h : Blk w b n f) (g : Nat → Value) (e : ∀ i, i < n → f i = g i) : Blk w b n g := by
  obtain ⟨t, h⟩ := h; exact ⟨t, by rw [← row_congr n f g e]; exact h⟩
/-- but for the block b (and the draws) the world is as it was -/
structure Upd (b : Nat) (w w' : World) : Prop where
  size : w'.heap.size = w.heap.size
  block : ∀ k, k ≠ b → w'.heap[k]? = w.heap[k]?
  tape : w'.tape = w.tape
  os : w'.os = w.os
  output : w'.output = w.output
theorem Upd.refl (b : Nat) (w : World) : Upd b w w := ⟨rfl, fun _ _ => rfl, rfl, rfl, rfl⟩
theorem Upd.trans {b : Nat} {x y z : World} (h : Upd b x y) (k : Upd b y z) : Upd b x z :=
  ⟨k.size.trans h.size, fun i hi => (k.block i hi).trans (h.block i hi), k.tape.trans h.tape, k.os.trans h.os, k.output.trans h.output⟩
theorem Same.upd {w w' : World} (h : Same w w') (b : Nat) : Upd b w w' := ⟨by rw [h.heap], fun _ _ => by rw [h.heap], h.tape, h.os, h.output⟩
theorem Upd.set (w : World) (b i : Nat) (u : Value) : Upd b w (w.setCell ⟨b, i, none⟩ u) :=
  ⟨by simp [World.setCell], fun k hk => Below.heap_setCell w _ u k hk, rfl, rfl, rfl⟩
theorem Upd.below {b B : Nat} {w w' : World} (h : Upd b w w') (hb : B ≤ b) : Below B w w' := ⟨h.os, h.tape, h.output, by rw [h.size]; exact Nat.le_refl _, fun k hk => h.block k (by omega)⟩
theorem Blk.upd {w w' : World} {b c n : Nat} {f : Nat → Value} (h : Blk w b n f) (hu : Upd c w w') (hb : b ≠ c) : Blk w' b n f := h.of_heap (hu.block b hb)
/-- block b holds f, and but for b the world is as w was -/
def MS (w : World) (b n : Nat) (f : Nat → Value) (w' : World) : Prop := Blk w' b n f ∧ Upd b w w'
section
variable {w w' w2 : World} {b n : Nat} {f : Nat → Value}
theorem MS.mk (h : Blk w b n f) : MS w b n f w := ⟨h, Upd.refl _ _⟩
theorem MS.same (h : MS w b n f w') (hs : Same w' w2) : MS w b n f w2 := ⟨h.1.same hs, h.2.trans (hs.upd b)⟩
theorem MS.get (h : MS w b n f w') (i : Nat) (hi : i < n) : w'.cell? ⟨b, i, none⟩ = some (f i) := h.1.get i hi
theorem MS.frz (h : MS w b n f w') (i : Nat) : w'.frozen? ⟨b, i, none⟩ = false := h.1.frz i
theorem MS.set (h : MS w b n f w') (i : Nat) (u : Value) : MS w b n (put f i u) (w'.setCell ⟨b, i, none⟩ u) := ⟨h.1.set i u, h.2.trans (Upd.set _ _ _ _)⟩
theorem MS.set' (h : MS w b n f w') (i : Nat) (u : Value) (g : Nat → Value) (e : put f i u = g) : MS w b n g (w'.setCell ⟨b, i, none⟩ u) := e ▸ h.set i u
end
/-- words as cells -/
def cw (k : IntKind) (v : Nat → BitVec 32) : Nat → Value := fun i => .int k ((v i).toNat : Int)
theorem cw_put (k : IntKind) (v : Nat → BitVec 32) (i : Nat) (x : BitVec 32) (u : Value) (h : u = .int k (x.toNat : Int)) : put (cw k v) i u = cw k (put v i x) := by
  subst h; funext j; unfold cw put; split <;> rfl
/-- bytes as cells -/
def cb (v : Nat → Nat) : Nat → Value := fun i => .int .u8 (v i : Int)
/-- one addition, one turn, the eight of them -/
def add3 (v : Nat → BitVec 32) (a b : Nat) (x : BitVec 32) : Nat → BitVec 32 := put v a (v a + (v b + x))
def add2 (v : Nat → BitVec 32) (a b : Nat) : Nat → BitVec 32 := put v a (v a + v b)
def turn (n : Nat) (v : Nat → BitVec 32) (a b : Nat) : Nat → BitVec 32 := put v a (ror n (v a ^^^ v b))
def gmix (v : Nat → BitVec 32) (a b c d : Nat) (x y : BitVec 32) : Nat → BitVec 32 :=
  turn 7 (add2 (turn 8 (add3 (turn 12 (add2 (turn 16 (add3 v a b x) d a) c d) b c) a b y) d a) c d) b c
theorem add3_code (a b x : BitVec 32) : Value.int .u32 (((a.toNat : Int) + ((b.toNat : Int) + (x.toNat : Int)) % 4294967296) % 4294967296) = .int .u32 ((a + (b + x)).toNat : Int) := by
  congr 1
theorem add2_code (a b : BitVec 32) : Value.int .u32 (((a.toNat : Int) + (b.toNat : Int)) % 4294967296) = .int .u32 ((a + b).toNat : Int) := by
  congr 1
/-- n cells of block b, read alone -/
def Cells (w : World) (b n : Nat) (f : Nat → Value) : Prop := ∀ i, i < n → w.cell? ⟨b, i, none⟩ = some (f i)
theorem Blk.cells {w : World} {b n : Nat} {f : Nat → Value} (h : Blk w b n f) : Cells w b n f := fun i hi => h.get i hi
theorem Cells.same {w w' : World} {b n : Nat} {f : Nat → Value} (h : Cells w b n f) (hs : Same w w') : Cells w' b n f := fun i hi => (hs.cell _).trans (h i hi)
theorem Cells.below {w w' : World} {b n B : Nat} {f : Nat → Value} (h : Cells w b n f) (hs : Below B w w') (hb : b < B) : Cells w' b n f := fun i hi => (hs.cell (p := ⟨b, i, none⟩) hb).trans (h i hi)
theorem Cells.upd {w w' : World} {b c n : Nat} {f : Nat → Value} (h : Cells w b n f) (hu : Upd c w w') (hb : b ≠ c) : Cells w' b n f := fun i hi => (World.cell?_of_block (w := w) (hu.block b hb)).trans (h i hi)
theorem Cells.at_ {w : World} {b n : Nat} {f : Nat → Value} (h : Cells w b n f) (i : Nat) (hi : i < n) : w.cell? ⟨b, i, none⟩ = some (f i) := h i hi
/-- a whole array is read -/
theorem run_load_row {P : Program} {w : World} {T b N m off : Nat} {f : Nat → Value} (hT : (isAgg T).run P w = .ok true w) (hS : (Go.sizeOf T).run P w = .ok m w)
    (hb : Cells w b N f) (hN : off + m ≤ N) : (loadVar T ⟨b, off, none⟩).run P w = .ok (.agg (row m fun i => f (off + i))) w := by
  have hl := run_loadCells (P := P) w ⟨b, off, none⟩ m (fun i => f (off + i)) (fun j hj => by
    have : (⟨b, off, none⟩ : Addr).add j = ⟨b, off + j, none⟩ := by unfold Addr.add; split <;> simp [*]
    rw [this]; exact hb _ (by omega))
  unfold loadVar
  simp only [Sem.run_bind, hT, Result.andThen_ok, hS, if_true, hl]
  rfl
theorem row_splice (N m off : Nat) (f g : Nat → Value) (h : off + m ≤ N) :
    (List.take off (row N f).toList ++ (row m g).toList ++ List.drop (off + m) (row N f).toList).toArray = row N (fun j => if off ≤ j ∧ j < off + m then g (j - off) else f j) := by
  apply Array.ext_getElem?
  intro j
  simp only [row, List.getElem?_toArray, List.getElem?_append, List.length_append, List.length_take, List.length_map, List.length_range, List.getElem?_take, List.getElem?_map, List.getElem?_drop]
  by_cases h1 : j < off
  · have e1 : j < min off N + m := by omega
    have e2 : j < min off N := by omega
    have e3 : ¬ (off ≤ j ∧ j < off + m) := by omega
    rw [if_pos e1, if_pos e2]
    simp only [h1, if_true, List.getElem?_range (show j < N by omega), Option.map_some, if_neg e3]
  · by_cases h2 : j < off + m
    · have e1 : j < min off N + m := by omega
      have e2 : ¬ j < min off N := by omega
      have e3 : (off ≤ j ∧ j < off + m) := by omega
      rw [if_pos e1, if_neg e2]
      have e4 : j - min off N = j - off := by omega
      rw [e4, List.getElem?_range (show j - off < m by omega), List.getElem?_range (show j < N by omega)]
      simp only [Option.map_some, if_pos e3]
    · have e1 : ¬ j < min off N + m := by omega
      have e3 : ¬ (off ≤ j ∧ j < off + m) := by omega
      rw [if_neg e1]
      have e4 : off + m + (j - (min off N + m)) = j := by omega
      rw [e4]
      by_cases h3 : j < N
      · rw [List.getElem?_range h3]; simp only [Option.map_some, if_neg e3]
      · have : (List.range N)[j]? = none := by rw [List.getElem?_eq_none]; simp; omega
        rw [this]; rfl
/-- a whole array is written -/
theorem run_store_row {P : Program} {w : World} {T b N m off : Nat} {f g : Nat → Value} (hS : (Go.sizeOf T).run P w = .ok m w)
    (hb : Blk w b N f) (hN : off + m ≤ N) (h1 : ∀ i, i < m → (g i).oneCell' = true) :
    ∃ w', (storeVar T ⟨b, off, none⟩ (.agg (row m g))).run P w = .ok () w' ∧ MS w b N (fun j => if off ≤ j ∧ j < off + m then g (j - off) else f j) w' := by
  obtain ⟨t, ht⟩ := hb
  have hl : (row m g).toList.length = m := by simp [row]
  have hst := run_storeCells_at P b off t (row m g).toList 0 (row N f) w ht (by rw [row_size, hl]; omega) (fun v hv => by
    simp only [row, List.mem_map, List.mem_range] at hv
    obtain ⟨i, hi, rfl⟩ := hv
    exact h1 i hi)
  refine ⟨w.setRow b (List.take off (row N f).toList ++ (row m g).toList ++ List.drop (off + m) (row N f).toList).toArray, ?_, ?_, ?_⟩
  · unfold storeVar
    simp only [Sem.run_bind, hS, Result.andThen_ok, Value.cells, row_size, ne_eq, not_true_eq_false, if_false]
    rw [hst, hl, Nat.add_zero]
  · exact ⟨t, by rw [← row_splice N m off f g hN]; exact setRow_heap w b _ _ t _ ht⟩
  · refine ⟨by simp [World.setRow], fun k hk => ?_, rfl, rfl, rfl⟩
    simp only [World.setRow, Array.getElem?_modify]
    rw [if_neg (fun h => hk h.symm)]
section
variable {P : Program} {ops : Array Oper} {Q : Exit → Act → World → Prop} {a : Act} {w : World} {rest : List Oper} {o : Oper}
theorem still_of_run {K : Act → Prop} {v : Value} (h : (execOp a.eval o).run P w = .ok (.value v) w) (hK : K (a.put o.dst v)) : o.still P a w K := by
  unfold Oper.still; rw [h]; exact ⟨rfl, hK⟩
theorem stl_step {K : Act → Prop} {v : Value} (hg : o.guard = none) (h : (execOp a.eval o).run P w = .ok (.value v) w) (hK : wpStill P ops w K rest (a.put o.dst v)) : wpStill P ops w K (o :: rest) a :=
  wpStill_step fun K' hK' => by
    have := still_of_run (K := K') h (hK' _ hK)
    simpa [Region.wanted, hg] using this
theorem wpl_value {v : Value} {w' : World} (hg : o.guard = none) (h : (execOp a.eval o).run P w = .ok (.value v) w') (hK : wpList P ops Q rest (a.put o.dst v) w') : wpList P ops Q (o :: rest) a w :=
  wpList_plain hg fun K hK' => by
    have := hK' _ _ hK
    unfold Oper.wp; rw [h]; exact this
theorem wpl_skip {w' : World} (hg : o.guard = none) (h : (execOp a.eval o).run P w = .ok .skip w') (hK : wpList P ops Q rest (a.put o.dst undef) w') : wpList P ops Q (o :: rest) a w :=
  wpList_plain hg fun K hK' => by
    have := hK' _ _ hK
    unfold Oper.wp; rw [h]; exact this
theorem run_op_load {T : TypeId} {ad : Operand} {b off N m : Nat} {f : Nat → Value} (ho : o.op = .load T ad) (ha : a.eval ad = .pointer (some ⟨b, off, none⟩))
    (hT : (isAgg T).run P w = .ok true w) (hS : (Go.sizeOf T).run P w = .ok m w) (hb : Cells w b N f) (hN : off + m ≤ N) :
    (execOp a.eval o).run P w = .ok (.value (.agg (row m fun i => f (off + i)))) w := by
  unfold execOp
  have := run_load_row (P := P) hT hS hb hN
  simp [ho, Instr.loadAt, Instr.sureAddr, ha, this]
theorem run_op_store {T : TypeId} {ad x : Operand} {b off N m : Nat} {f g : Nat → Value} (ho : o.op = .store T ad x) (ha : a.eval ad = .pointer (some ⟨b, off, none⟩))
    (hx : a.eval x = .agg (row m g)) (hS : (Go.sizeOf T).run P w = .ok m w) (hb : Blk w b N f) (hN : off + m ≤ N) (h1 : ∀ i, i < m → (g i).oneCell' = true) :
    ∃ w', (execOp a.eval o).run P w = .ok .skip w' ∧ MS w b N (fun j => if off ≤ j ∧ j < off + m then g (j - off) else f j) w' := by
  obtain ⟨w', h, hm⟩ := run_store_row (P := P) (f := f) hS hb hN h1
  refine ⟨w', ?_, hm⟩
  unfold execOp
  simp [ho, Instr.storeAt, Instr.sureAddr, ha, hx, h]
/-- 'x := *p' of a whole array, in a list of operations -/
theorem wpl_load {T : TypeId} (ad : Operand) (b off N m : Nat) (f : Nat → Value) (hg : o.guard = none) (ho : o.op = .load T ad) (ha : a.eval ad = .pointer (some ⟨b, off, none⟩))
    (hT : (isAgg T).run P w = .ok true w) (hS : (Go.sizeOf T).run P w = .ok m w) (hb : Cells w b N f) (hN : off + m ≤ N)
    (hK : wpList P ops Q rest (a.put o.dst (.agg (row m fun i => f (off + i)))) w) : wpList P ops Q (o :: rest) a w :=
  wpl_value hg (run_op_load ho ha hT hS hb hN) hK
theorem stl_load {K : Act → Prop} {T : TypeId} (ad : Operand) (b off N m : Nat) (f : Nat → Value) (hg : o.guard = none) (ho : o.op = .load T ad) (ha : a.eval ad = .pointer (some ⟨b, off, none⟩))
    (hT : (isAgg T).run P w = .ok true w) (hS : (Go.sizeOf T).run P w = .ok m w) (hb : Cells w b N f) (hN : off + m ≤ N)
    (hK : wpStill P ops w K rest (a.put o.dst (.agg (row m fun i => f (off + i))))) : wpStill P ops w K (o :: rest) a :=
  stl_step hg (run_op_load ho ha hT hS hb hN) hK
theorem wpl_store {T : TypeId} (ad x : Operand) (b off N m : Nat) (f g : Nat → Value) (hg : o.guard = none) (ho : o.op = .store T ad x) (ha : a.eval ad = .pointer (some ⟨b, off, none⟩))
    (hx : a.eval x = .agg (row m g)) (hS : (Go.sizeOf T).run P w = .ok m w) (hb : Blk w b N f) (hN : off + m ≤ N) (h1 : ∀ i, i < m → (g i).oneCell' = true)
    (hK : ∀ w', MS w b N (fun j => if off ≤ j ∧ j < off + m then g (j - off) else f j) w' → wpList P ops Q rest (a.put o.dst undef) w') : wpList P ops Q (o :: rest) a w := by
  obtain ⟨w', h, hm⟩ := run_op_store ho ha hx hS hb hN h1
  exact wpl_skip hg h (hK w' hm)
theorem results_row {fn : Func} {p T b N m : Nat} {f : Nat → Value} {tmps : Array Value} (h : fn.results = #[.cell p T]) (hp : tmps.getD p undef = .pointer (some ⟨b, 0, none⟩))
    (hT : (isAgg T).run P w = .ok true w) (hS : (Go.sizeOf T).run P w = .ok m w) (hb : Cells w b N f) (hN : m ≤ N) : (results fn tmps).run P w = .ok (.agg (row m f)) w := by
  have := run_load_row (P := P) (off := 0) hT hS hb (by omega)
  simp only [Nat.zero_add] at this
  have hp' : tmps[p]?.getD undef = .pointer (some ⟨b, 0, none⟩) := by simpa using hp
  unfold results
  simp [h, hp', asAddr, this]
/-- a function whose result is a whole array in memory is at its end -/
theorem body_row {fn : Func} {R : Ending → World → Prop} {p T b N m : Nat} {f : Nat → Value} (h : fn.results = #[.cell p T]) (hp : a.tmps.getD p undef = .pointer (some ⟨b, 0, none⟩))
    (hT : (isAgg T).run P w = .ok true w) (hS : (Go.sizeOf T).run P w = .ok m w) (hb : Cells w b N f) (hN : m ≤ N) (hd : a.defers = []) (hR : R (.returned (.agg (row m f))) w) : bodyPost P fn R .ret a w :=
  bodyPost_ret (results_row h hp hT hS hb hN) hd hR
/-- a whole array is read, in a world of which R is all that is still wanted -/
theorem wpl_load_abs (R : World → Prop) {T : TypeId} (ad : Operand) (b off N m : Nat) (f : Nat → Value) (hg : o.guard = none) (ho : o.op = .load T ad) (ha : a.eval ad = .pointer (some ⟨b, off, none⟩))
    (hT : ∀ w, (isAgg T).run P w = .ok true w) (hS : ∀ w, (Go.sizeOf T).run P w = .ok m w) (hN : off + m ≤ N) (hb : ∀ w', R w' → Cells w' b N f) (hR : R w)
    (hK : ∀ w', R w' → wpList P ops Q rest (a.put o.dst (.agg (row m fun i => f (off + i)))) w') : wpList P ops Q (o :: rest) a w :=
  wpl_load ad b off N m f hg ho ha (hT _) (hS _) (hb w hR) hN (hK w hR)
end
theorem xor_n (x : BitVec 32) (n : Nat) : bits .xor .u32 (x.toNat : Int) ((n : Int) % 4294967296) = ((x ^^^ BitVec.ofNat 32 n).toNat : Int) := by
  rw [← bvxor, BitVec.toNat_ofNat]; rfl
end BB
end
section
open Go Go.RowKit
namespace BB
section
variable {P : Program} {ops : Array Oper} {md : Region.Mode} {w : World}
def pick (ops : Array Oper) (l : List Nat) : List Oper := l.filterMap (ops[·]?)
theorem pick_cons {i : Nat} {o : Oper} (h : ops[i]? = some o) (l : List Nat) : pick ops (i :: l) = o :: pick ops l := by simp [pick, h]
def sinkO (md : Region.Mode) (ops : Array Oper) (hd : List Nat) (t0 : Nat) : Bool :=
  hd.all fun i => Region.waitsFor md ops t0 i || hd.any fun j => decide (i < j) && Region.waitsFor md ops j i
def chainO (md : Region.Mode) (ops : Array Oper) : Nat → List Nat → Bool
  | _, [] => true
  | p, t :: r => Region.waitsFor md ops t p && chainO md ops t r
structure InvO (md : Region.Mode) (ops : Array Oper) (hd tl : List Nat) (listed : Array Bool) : Prop where
  size : listed.size = ops.size
  closed : ∀ j oj, ops[j]? = some oj → listed.getD j false = true → ∀ e ∈ oj.after, Region.binds md e = true → listed.getD e.on false = true
  tail : ∀ t ∈ tl, listed.getD t true = false
  all : ∀ j, j < ops.size → listed.getD j true = false → j ∈ hd ∨ j ∈ tl
def invB (md : Region.Mode) (ops : Array Oper) (hd tl : List Nat) (listed : Array Bool) : Bool :=
  decide (listed.size = ops.size) &&
  ((List.range ops.size).all fun j => !listed.getD j false || ((ops[j]?).map (·.after.all fun e => !Region.binds md e || listed.getD e.on false)).getD true) &&
  (tl.all fun t => !listed.getD t true) && ((List.range ops.size).all fun j => listed.getD j true || hd.contains j || tl.contains j)
theorem invB_spec {hd tl : List Nat} {listed : Array Bool} (h : invB md ops hd tl listed = true) : InvO md ops hd tl listed := by
  simp only [invB, Bool.and_eq_true, decide_eq_true_eq] at h
  obtain ⟨⟨⟨h1, h2⟩, h3⟩, h4⟩ := h
  refine ⟨h1, fun j oj hj hl e he hb => ?_, fun t ht => ?_, fun j hj hl => ?_⟩
  · have hlt : j < ops.size := (Array.getElem?_eq_some_iff.1 hj).1
    have := List.all_eq_true.1 h2 j (List.mem_range.2 hlt)
    rw [hl, hj] at this
    simp only [Bool.not_true, Bool.false_or, Option.map_some, Option.getD_some] at this
    have := Array.all_eq_true_iff_forall_mem.1 this e he
    rw [hb] at this
    simpa using this
  · have := List.all_eq_true.1 h3 t ht
    simpa using this
  · have := List.all_eq_true.1 h4 j (List.mem_range.2 hj)
    rw [hl] at this
    simpa using this
theorem InvO.set {hd tl : List Nat} {i : Nat} {listed : Array Bool} (inv : InvO md ops hd tl listed) (hi : i ∈ Region.ready md ops listed) (hin : i ∉ tl) : InvO md ops hd tl (listed.setIfInBounds i true) := by
  obtain ⟨_, oi, hoi, hall⟩ := mem_ready.1 hi
  refine ⟨by simp [inv.size], fun j oj hj hl e he hb => ?_, fun t ht => ?_, fun j hj hl => ?_⟩
  · by_cases hij : i = j
    · subst hij
      have : oj = oi := Option.some.inj (hj.symm.trans hoi)
      subst this
      exact getD_set_true (hall e he hb)
    · rw [getD_set_ne false hij] at hl
      exact getD_set_true (inv.closed j oj hj hl e he hb)
  · rw [getD_set_ne true (fun (e : i = t) => hin (by rw [e]; exact ht))]; exact inv.tail t ht
  · by_cases hij : i = j
    · subst hij
      have hlt : i < listed.size := by rw [inv.size]; exact hj
      simp [hlt] at hl
    · rw [getD_set_ne true hij] at hl
      exact inv.all j hj hl
theorem chainO_spec : ∀ (p : Nat) (tr : List Nat), chainO md ops p tr = true → ∀ t ∈ tr, ∃ q ∈ p :: tr, Region.waitsFor md ops t q = true
  | _, [], _, _, h => by cases h
  | p, t :: r, h, u, hu => by
    simp only [chainO, Bool.and_eq_true] at h
    rcases List.mem_cons.1 hu with rfl | hu
    · exact ⟨p, by simp, h.1⟩
    · obtain ⟨q, hq, hw⟩ := chainO_spec t r h.2 u hu
      exact ⟨q, List.mem_cons_of_mem _ hq, hw⟩
theorem tail_waitsO {hd tr : List Nat} {t0 : Nat} {listed : Array Bool} (hs : sinkO md ops hd t0 = true) (hc : chainO md ops t0 tr = true) (inv : InvO md ops hd (t0 :: tr) listed) :
    ∀ (d i : Nat), ops.size - i = d → i ∈ hd → listed.getD i true = false → ∀ t ∈ t0 :: tr, t ∉ Region.ready md ops listed := by
  intro d
  induction d using Nat.strongRecOn with
  | _ d ih =>
    intro i hd' hi hun t ht hr
    obtain ⟨_, ot, hot, hall⟩ := mem_ready.1 hr
    rcases List.mem_cons.1 ht with rfl | htr
    · have h1 := List.all_eq_true.1 hs i hi
      rcases Bool.or_eq_true _ _ |>.mp h1 with h1 | h1
      · obtain ⟨o', ho', e, he, hb, hon⟩ := Region.waitsFor_spec h1
        have : o' = ot := Option.some.inj (ho'.symm.trans hot)
        subst this
        have h2 := hall e he hb
        rw [hon, getD_both hun] at h2
        cases h2
      · obtain ⟨j, hj, hj2⟩ := List.any_eq_true.1 h1
        simp only [Bool.and_eq_true, decide_eq_true_eq] at hj2
        obtain ⟨oj, hoj, e, he, hb, hon⟩ := Region.waitsFor_spec hj2.2
        have hjlt : j < ops.size := (Array.getElem?_eq_some_iff.1 hoj).1
        cases hl : listed.getD j false with
        | true =>
          have h2 := inv.closed j oj hoj hl e he hb
          rw [hon, getD_both hun] at h2
          cases h2
        | false =>
          exact ih (ops.size - j) (by omega) j rfl hj (getD_in (by rw [inv.size]; exact hjlt) hl) t (by simp) hr
    · obtain ⟨q, hq, hw⟩ := chainO_spec t0 tr hc t htr
      obtain ⟨o', ho', e, he, hb, hon⟩ := Region.waitsFor_spec hw
      have : o' = ot := Option.some.inj (ho'.symm.trans hot)
      subst this
      have h2 := hall e he hb
      rw [hon, getD_both (inv.tail q hq)] at h2
      cases h2
def wpAnyO (P : Program) (md : Region.Mode) (ops : Array Oper) (w : World) (hd : List Nat) (L : Array Bool → Act → Prop) : Nat → Array Bool → Act → Prop
  | 0, listed, a => L listed a
  | f + 1, listed, a =>
    Region.ready md ops listed ≠ [] ∧ ∀ i ∈ Region.ready md ops listed, i ∈ hd ∧ stOp P ops w i (wpAnyO P md ops w hd L f (listed.setIfInBounds i true)) a
theorem wpAny_of_O {g : Nat} {hd : List Nat} {L : Array Bool → Act → Prop} {Q' : Exit → Act → World → Prop} (hL : ∀ listed a, L listed a → wpAny P md ops Q' g listed a w) :
    ∀ (f : Nat) (listed : Array Bool) (a : Act), wpAnyO P md ops w hd L f listed a → wpAny P md ops Q' (f + g) listed a w
  | 0, listed, a, h => by rw [Nat.zero_add]; exact hL _ _ h
  | f + 1, listed, a, h => by
    rw [show f + 1 + g = (f + g) + 1 by omega]
    exact ⟨fun h0 => absurd h0 h.1, fun i hi => wpOp_of_stOp (fun a' h' => wpAny_of_O hL f _ a' h') (h.2 i hi).2⟩
theorem InvO.inHead {hd tr : List Nat} {t0 i j : Nat} {listed : Array Bool} (hs : sinkO md ops hd t0 = true) (hc : chainO md ops t0 tr = true) (inv : InvO md ops hd (t0 :: tr) listed)
    (hi : i ∈ hd) (hun : listed.getD i true = false) (hj : j ∈ Region.ready md ops listed) : j ∈ hd ∧ j ∉ t0 :: tr := by
  obtain ⟨hjun, oj, hoj, _⟩ := mem_ready.1 hj
  have hnt : j ∉ t0 :: tr := fun h => tail_waitsO hs hc inv _ i rfl hi hun j h hj
  exact ⟨(inv.all j (Array.getElem?_eq_some_iff.1 hoj).1 hjun).resolve_right hnt, hnt⟩
theorem wpAnyO_first {hd tr : List Nat} {t0 i : Nat} {oi : Oper} {v : Value} {L : Array Bool → Act → Prop} (hi : ops[i]? = some oi) (hsel : ∀ (j : Nat) (o : Oper) cs b, ops[j]? = some o → o.op ≠ .select cs b)
    (hs : sinkO md ops hd t0 = true) (hc : chainO md ops t0 tr = true) (hin : i ∈ hd)
    (hdone : ∀ listed a, L listed a → ∀ j ∈ Region.ready md ops listed, j ∈ t0 :: tr) :
    ∀ (f : Nat) (listed : Array Bool) (a : Act), InvO md ops hd (t0 :: tr) listed →
      (∀ j oj, ops[j]? = some oj → j ≠ i → listed.getD j true = false → (∀ e ∈ oj.after, Region.binds md e = true → e.on ≠ i) → oi.apart ops oj = true) →
      i ∈ Region.ready md ops listed → YieldsAt P ops w oi v a →
      wpAnyO P md ops w hd L f (listed.setIfInBounds i true) (a.put oi.dst v) → wpAnyO P md ops w hd L (f + 1) listed a := by
  intro f
  induction f with
  | zero =>
    intro listed a inv _ hr hy H
    have hun := (mem_ready.1 hr).1
    refine ⟨fun h => (by rw [h] at hr; cases hr), fun j hj => ?_⟩
    obtain ⟨hjn, hjt⟩ := inv.inHead hs hc hin hun hj
    refine ⟨hjn, ?_⟩
    by_cases hji : j = i
    · subst hji; exact hy.stOp hi H
    · exact absurd (hdone _ _ H j (ready_mono hj hji)) hjt
  | succ f ih =>
    intro listed a inv hfree hr hy H
    have hun := (mem_ready.1 hr).1
    refine ⟨fun h => (by rw [h] at hr; cases hr), fun j hj => ?_⟩
    obtain ⟨hjn, hjt⟩ := inv.inHead hs hc hin hun hj
    refine ⟨hjn, ?_⟩
    by_cases hji : j = i
    · subst hji; exact hy.stOp hi H
    · have h1 := (H.2 j (ready_mono hj hji)).2
      obtain ⟨hjun, oj, hoj, hall⟩ := mem_ready.1 hj
      have hnot : ∀ e ∈ oj.after, Region.binds md e = true → e.on ≠ i := fun e he hb heq => by
        have h1 := hall e he hb
        rw [heq, getD_both hun] at h1
        cases h1
      have h2 := stOp_put hoj (hfree j oj hoj hji hjun hnot) (fun cs b => hsel i oi cs b hi) (fun cs b => hsel j oj cs b hoj) hy h1
      have hfree' : ∀ k ok, ops[k]? = some ok → k ≠ i → (listed.setIfInBounds j true).getD k true = false →
          (∀ e ∈ ok.after, Region.binds md e = true → e.on ≠ i) → oi.apart ops ok = true := fun k ok hk hki hun hno => by
        refine hfree k ok hk hki ?_ hno
        by_cases hjk : j = k
        · subst hjk; exact hjun
        · rw [getD_set_ne true hjk] at hun; exact hun
      refine stOp_mono (fun a' h3 => ih (listed.setIfInBounds j true) a' (inv.set hj hjt) hfree' (ready_mono hr (Ne.symm hji)) h3.1 ?_) h2
      rw [Array.setIfInBounds_comm _ _ hji]
      exact h3.2
def seqO (md : Region.Mode) (ops : Array Oper) : List Nat → Array Bool → Bool
  | [], listed => (Region.ready md ops listed).isEmpty
  | t :: r, listed => decide (Region.ready md ops listed = [t]) && seqO md ops r (listed.setIfInBounds t true)
theorem wpAny_of_seqO {Q' : Exit → Act → World → Prop} : ∀ (tl : List Nat) (listed : Array Bool) (a : Act) (w : World),
    seqO md ops tl listed = true → wpList P ops Q' (pick ops tl) a w → wpAny P md ops Q' tl.length listed a w
  | [], _, _, _, hB, h => ⟨by simpa [seqO] using hB, h⟩
  | t :: r, listed, a, w, hB, h => by
    simp only [seqO, Bool.and_eq_true, decide_eq_true_eq] at hB
    obtain ⟨_, o, ho, _⟩ := mem_ready.1 (show t ∈ Region.ready md ops listed by rw [hB.1]; simp)
    rw [pick_cons ho] at h
    refine ⟨fun h1 => (by rw [hB.1] at h1; cases h1), fun i hi => ?_⟩
    rw [hB.1] at hi
    have hik : i = t := by simpa using hi
    subst hik
    have hw : wpOp P ops Q' i (wpList P ops Q' (pick ops r)) a w := by unfold wpOp; simp only [ho]; exact h
    exact wpOp_mono (fun a' w' h' => wpAny_of_seqO r _ a' w' hB.2 h') hw
def lexO (md : Region.Mode) (ops : Array Oper) (tl : List Nat) : List Nat → Array Bool → Bool
  | [], listed => seqO md ops tl listed
  | i :: l, listed => (Region.ready md ops listed).contains i && Region.free md ops listed i && lexO md ops tl l (listed.setIfInBounds i true)
theorem seqO_ready {tl : List Nat} {listed : Array Bool} (h : seqO md ops tl listed = true) : ∀ j ∈ Region.ready md ops listed, j ∈ tl := by
  cases tl with
  | nil => intro j hj; simp only [seqO, List.isEmpty_iff] at h; rw [h] at hj; cases hj
  | cons t r =>
    intro j hj
    simp only [seqO, Bool.and_eq_true, decide_eq_true_eq] at h
    rw [h.1] at hj
    have : j = t := by simpa using hj
    simp [this]
theorem wpAnyO_lex {hd tr : List Nat} {t0 : Nat} {Lq : Act → Prop} (hsel : Region.noSelect ops = true) (hs : sinkO md ops hd t0 = true) (hc : chainO md ops t0 tr = true) :
    ∀ (l : List Nat) (listed : Array Bool) (a : Act), (∀ i ∈ l, i ∈ hd) → InvO md ops hd (t0 :: tr) listed → lexO md ops (t0 :: tr) l listed = true → wpStill P ops w Lq (pick ops l) a →
    wpAnyO P md ops w hd (fun listed' a' => seqO md ops (t0 :: tr) listed' = true ∧ Lq a') l.length listed a
  | [], _, _, _, _, hB, h => ⟨by simpa [lexO] using hB, h⟩
  | k :: l, listed, a, hl, inv, hB, h => by
    simp only [lexO, Bool.and_eq_true] at hB
    obtain ⟨⟨hr, hf⟩, hB'⟩ := hB
    have hr' : k ∈ Region.ready md ops listed := by simpa using hr
    obtain ⟨hun, o, h0, _⟩ := mem_ready.1 hr'
    rw [pick_cons h0] at h
    have hk := hl k (by simp)
    have hst : stOp P ops w k (wpStill P ops w Lq (pick ops l)) a := by unfold stOp; simp only [h0]; exact h
    obtain ⟨v, hy, hK⟩ := yieldsAt_of_stOp h0 hst
    have hnt : k ∉ t0 :: tr := (inv.inHead hs hc hk hun hr').2
    exact wpAnyO_first h0 (Region.noSelect_spec hsel) hs hc hk (fun listed' a' hL => seqO_ready hL.1) l.length listed a inv (Region.free_spec h0 hf) hr' hy
      (wpAnyO_lex hsel hs hc l _ _ (fun i hi => hl i (by simp [hi])) (inv.set hr' hnt) hB' hK)
/-- operations that yield in every world, one behind the other -/
def wpFree (P : Program) (ops : Array Oper) (K : Act → Prop) : List Oper → Act → Prop
  | [], a => K a
  | o :: r, a => ∃ v, Yields P ops o v a ∧ wpFree P ops K r (a.put o.dst v)
def preB (md : Region.Mode) (ops : Array Oper) (k : Array Bool → Bool) : List Nat → Array Bool → Bool
  | [], listed => k listed
  | i :: l, listed => (Region.ready md ops listed).contains i && Region.free md ops listed i && preB md ops k l (listed.setIfInBounds i true)
theorem wpAny_of_pre {Q : Exit → Act → World → Prop} {K : Act → Prop} {k : Array Bool → Bool} {g : Nat} (hsel : Region.noSelect ops = true) (hQ : ∀ c a d v w, Q (.panic c) (Act.put a d v) w → Q (.panic c) a w)
    (hK : ∀ listed a, k listed = true → K a → wpAny P md ops Q g listed a w) : ∀ (l : List Nat) (listed : Array Bool) (a : Act), preB md ops k l listed = true → wpFree P ops K (pick ops l) a →
    wpAny P md ops Q (l.length + g) listed a w
  | [], listed, a, hB, h => by simpa using hK listed a hB h
  | i :: l, listed, a, hB, h => by
    simp only [preB, Bool.and_eq_true] at hB
    obtain ⟨⟨hr, hf⟩, hB'⟩ := hB
    obtain ⟨_, o, h0, _⟩ := mem_ready.1 (show i ∈ Region.ready md ops listed by simpa using hr)
    rw [pick_cons h0] at h
    obtain ⟨v, hy, h⟩ := h
    rw [show (i :: l).length + g = (l.length + g) + 1 by simp; omega]
    exact wpAny_take h0 hsel hf hr (fun c a w => hQ c a _ _ w) hy (wpAny_of_pre hsel hQ hK l _ _ hB' h)
def orderB (md : Region.Mode) (ops : Array Oper) (pre hd : List Nat) (t0 : Nat) (tr : List Nat) : Bool :=
  Region.noSelect ops && sinkO md ops hd t0 && chainO md ops t0 tr &&
  preB md ops (fun listed => invB md ops hd (t0 :: tr) listed && lexO md ops (t0 :: tr) hd listed) pre (Array.replicate ops.size false) &&
  decide (pre.length + (hd.length + (t0 :: tr).length) = ops.size)
theorem order_abs {id : Nat} {Q : Exit → Act → World → Prop} {a : Act} {l : List Oper} (pre hd : List Nat) (t0 : Nat) (tr : List Nat) (hm : P.follows .mixedOrders = true) (hB : orderB .any l.toArray pre hd t0 tr = true)
    (hQ : ∀ c a d v w, Q (.panic c) (Act.put a d v) w → Q (.panic c) a w)
    (h : ∀ w2, Same w w2 → wpFree P l.toArray (fun a1 => wpStill P l.toArray w2 (fun a' => wpList P l.toArray Q (pick l.toArray (t0 :: tr)) a' w2) (pick l.toArray hd) a1) (pick l.toArray pre) a) :
    (Code.region id l.toArray true).wp P Q a w := by
  simp only [orderB, Bool.and_eq_true, decide_eq_true_eq] at hB
  obtain ⟨⟨⟨⟨hsel, hs⟩, hc⟩, hp⟩, hn⟩ := hB
  refine wp_region_any hm ?_
  have key := wpAny_of_pre (Q := Q) (w := { w with drawn := w.drawn + 1 }) hsel hQ (g := hd.length + (t0 :: tr).length) (fun listed a1 hk hK => ?_) pre _ a hp (h { w with drawn := w.drawn + 1 } ⟨rfl, rfl, rfl, rfl⟩)
  · rw [hn] at key; exact key
  simp only [Bool.and_eq_true] at hk
  exact wpAny_of_O (fun listed' a' hL => wpAny_of_seqO _ _ _ _ hL.1 hL.2) _ _ _ (wpAnyO_lex hsel hs hc hd listed a1 (fun _ h => h) (invB_spec hk.1) hk.2 hK)
/-- the walk is held at an operation -/
def Held (p : Prop) : Prop := p
theorem hold_store {Q : Exit → Act → World → Prop} {a : Act} {rest : List Oper} {o : Oper} {T : TypeId} (ad x : Operand) (_ho : o.op = .store T ad x) (h : Held (wpList P ops Q (o :: rest) a w)) : wpList P ops Q (o :: rest) a w := h
theorem hold_load {Q : Exit → Act → World → Prop} {a : Act} {rest : List Oper} {o : Oper} {T : TypeId} (ad : Operand) (_ho : o.op = .load T ad) (h : Held (wpList P ops Q (o :: rest) a w)) : wpList P ops Q (o :: rest) a w := h
end
end BB
end
section
open Go Go.RowKit
namespace BB
/-- a list's bytes, by their places -/
def sb (l : List UInt8) (i : Nat) : Nat := (l.getD i 0).toNat
theorem sb_lt (l : List UInt8) (i : Nat) : sb l i < 256 := UInt8.toNat_lt _
theorem extract_row (s : ByteArray) (n : Nat) (h : n ≤ s.size) : Array.map (fun b : UInt8 => Value.int .u8 (b.toNat : Int)) (s.extract 0 n).data = row n (cb (sb s.data.toList)) := by
  apply Array.ext_getElem?
  intro j
  have hs : (s.extract 0 n).data = s.data.extract 0 n := by simp
  rw [hs, Array.getElem?_map, Array.getElem?_extract]
  by_cases hj : j < n
  · have hj' : j < s.data.size := Nat.lt_of_lt_of_le hj h
    rw [row_get _ _ _ hj, if_pos (by simp; omega)]
    simp only [cb, sb, List.getD_eq_getElem?_getD, Array.getElem?_toList, Nat.zero_add, Array.getElem?_eq_getElem hj', Option.map_some, Option.getD_some]
  · have h2 : (row n (cb (sb s.data.toList)))[j]? = none := by rw [Array.getElem?_eq_none]; rw [row_size]; omega
    rw [h2, if_neg (by simp; omega)]; rfl
/-- but for block b, what there was is as it was -/
structure Keep (b : Nat) (w w' : World) : Prop where
  size : w.heap.size ≤ w'.heap.size
  block : ∀ k, k < w.heap.size → k ≠ b → w'.heap[k]? = w.heap[k]?
  tape : w'.tape = w.tape
  os : w'.os = w.os
  output : w'.output = w.output
section
variable {b n : Nat} {f : Nat → Value} {w w1 w2 w3 : World}
theorem Keep.refl (b : Nat) (w : World) : Keep b w w := ⟨Nat.le_refl _, fun _ _ _ => rfl, rfl, rfl, rfl⟩
theorem Keep.trans (h : Keep b w1 w2) (k : Keep b w2 w3) : Keep b w1 w3 :=
  ⟨Nat.le_trans h.size k.size, fun i hi hb => (k.block i (Nat.lt_of_lt_of_le hi h.size) hb).trans (h.block i hi hb), k.tape.trans h.tape, k.os.trans h.os, k.output.trans h.output⟩
theorem Upd.keep (h : Upd b w1 w2) : Keep b w1 w2 := ⟨by rw [h.size]; exact Nat.le_refl _, fun k _ hb => h.block k hb, h.tape, h.os, h.output⟩
theorem keep_of_below {B : Nat} (h : Below B w1 w2) (hB : w1.heap.size ≤ B) (b : Nat) : Keep b w1 w2 := ⟨h.size, fun k hk _ => h.block k (Nat.lt_of_lt_of_le hk hB), h.tape, h.os, h.output⟩
theorem Keep.below (h : Keep b w1 w2) {B : Nat} (hB : B ≤ b) (hs : B ≤ w1.heap.size) : Below B w1 w2 := ⟨h.os, h.tape, h.output, h.size, fun k hk => h.block k (by omega) (by omega)⟩
theorem Blk.keep {c : Nat} (h : Blk w1 c n f) (hk : Keep b w1 w2) (hc : c ≠ b) : Blk w2 c n f := h.of_heap (hk.block c h.lt hc)
theorem Cells.keep {c : Nat} (h : Cells w1 c n f) (hk : Keep b w1 w2) (hl : c < w1.heap.size) (hc : c ≠ b) : Cells w2 c n f := fun i hi => (World.cell?_of_block (w := w1) (hk.block c hl hc)).trans (h i hi)
end
/-- block b is n cells, f, of type t -/
def TBlk (t : TypeId) (w : World) (b n : Nat) (f : Nat → Value) : Prop := w.heap[b]? = some (.cells (row n f) t (0, 0))
theorem run_copy_str_t {P : Program} {w : World} {dT sT ty e t b N off dLen cap n : Nat} {f : Nat → Value} {s : ByteArray} (hU : (underlying dT).run P w = .ok (.slice e) w) (hS : (Go.sizeOf e).run P w = .ok 1 w)
    (ht : TBlk t w b N f) (hN : off + n ≤ N) (hn : n = min s.size dLen) :
    ∃ w', (Builtin.copy_ #[dT, sT] ty #[.slice (some ⟨b, off, none⟩) dLen cap, .string s]).run P w = .ok (.int .i64 (n : Int)) w' ∧
      TBlk t w' b N (fun j => if off ≤ j ∧ j < off + n then cb (sb s.data.toList) (j - off) else f j) ∧ Upd b w w' := by
  unfold TBlk at ht
  have hl : (row n (cb (sb s.data.toList))).toList.length = n := by simp [row]
  have hst := run_storeCells_at P b off t (row n (cb (sb s.data.toList))).toList 0 (row N f) w ht (by rw [row_size, hl]; omega) (fun v hv => by
    simp only [row, List.mem_map, List.mem_range] at hv
    obtain ⟨i, hi, rfl⟩ := hv
    rfl)
  have hx := extract_row s n (by omega)
  refine ⟨w.setRow b (List.take off (row N f).toList ++ (row n (cb (sb s.data.toList))).toList ++ List.drop (off + n) (row N f).toList).toArray, ?_, ?_, ?_⟩
  · rw [hl, Nat.add_zero] at hst
    have hmin : Nat.min s.size dLen = n := hn.symm
    unfold Builtin.copy_
    simp only [List.getElem?_toArray, List.getElem?_cons_zero, List.getElem?_cons_succ, Sem.run_bind, hU, Result.andThen_ok, Builtin.lenOf, Sem.run_pure, hS, Builtin.firstCells, hmin, hx, hst, goInt]
  · unfold TBlk; rw [← row_splice N n off f _ hN]; exact setRow_heap w b _ _ t _ ht
  · refine ⟨by simp [World.setRow], fun k hk => ?_, rfl, rfl, rfl⟩
    simp only [World.setRow, Array.getElem?_modify]
    rw [if_neg (fun h => hk h.symm)]
theorem wpl_copy_str_t {P : Program} {ops : Array Oper} {Q : Exit → Act → World → Prop} {a : Act} {w : World} {rest : List Oper} {o : Oper} {dT sT e t : TypeId} (d s : Operand) (b off N dLen cap n : Nat) (f : Nat → Value) (str : ByteArray) (hg : o.guard = none)
    (ho : o.op = .call { callee := .builtin .copy, args := #[d, s], argTypes := #[dT, sT] }) (hd : a.eval d = .slice (some ⟨b, off, none⟩) dLen cap) (hs : a.eval s = .string str)
    (hU : (underlying dT).run P w = .ok (.slice e) w) (hS : (Go.sizeOf e).run P w = .ok 1 w) (hb : TBlk t w b N f) (hN : off + n ≤ N) (hn : n = min str.size dLen)
    (hK : ∀ w', TBlk t w' b N (fun j => if off ≤ j ∧ j < off + n then cb (sb str.data.toList) (j - off) else f j) ∧ Upd b w w' → wpList P ops Q rest (a.put o.dst (.int .i64 (n : Int))) w') : wpList P ops Q (o :: rest) a w := by
  obtain ⟨w', h, hm⟩ := run_copy_str_t (ty := o.type) (cap := cap) (sT := sT) hU hS hb hN hn
  refine wpl_value hg ?_ (hK w' hm)
  simp [execOp, ho, resolve, invoke, builtin, hd, hs, h, Result.andThen]
theorem TBlk.new' (w : World) (n b : Nat) (f : Nat → Value) (cs : Array Value) (t : TypeId) (hb : b = w.heap.size) (e : cs = row n f) : TBlk t (w.alloc (.cells cs t)) b n f := by
  subst hb e; show (w.heap.push _)[w.heap.size]? = _; simp
theorem hold_make {P : Program} {ops : Array Oper} {Q : Exit → Act → World → Prop} {a : Act} {w : World} {rest : List Oper} {o : Oper} {T : TypeId} {x y : Operand} (_ho : o.op = .makeSlice T x y) (h : Held (wpList P ops Q (o :: rest) a w)) : wpList P ops Q (o :: rest) a w := h
theorem wpl_make {P : Program} {ops : Array Oper} {Q : Exit → Act → World → Prop} {a : Act} {w : World} {rest : List Oper} {o : Oper} (x y : Operand) (t e : TypeId) (z : Value) (bytes n : Nat) (hg : o.guard = none) (ho : o.op = .makeSlice t x y)
    (hx : a.eval x = .int .i64 (n : Int)) (hy : a.eval y = .int .i64 (n : Int)) (ht : P.underlying t = some (.slice e)) (hinfo : (P.info? e).map (fun i => (i.zero, i.size, i.bytes)) = some (some z, 1, bytes)) (hz1 : z.cells = #[z])
    (hbytes : bytes * n ≤ 281474976710656) (h63 : n ≤ 9223372036854775807)
    (hK : wpList P ops Q rest (a.put o.dst (.slice (some ⟨w.heap.size, 0, none⟩) n n)) (w.alloc (.cells (madeCells #[z] n) e))) : wpList P ops Q (o :: rest) a w := by
  refine wpl_value hg ?_ hK
  have := run_make_row' (P := P) t e z bytes ht hinfo hz1 .i64 .i64 n hbytes h63 w
  unfold execOp
  simp only [ho, hx, hy, Sem.run_bind, this, Result.andThen_ok, Sem.run_pure]
theorem made_row (z : Value) (n : Nat) : madeCells #[z] n = row n (fun _ => z) := by
  apply Array.ext_getElem?
  intro j
  by_cases h : j < n
  · rw [row_get _ _ _ h]; simp [madeCells, h, Nat.mod_one]
  · rw [Array.getElem?_eq_none (by rw [size_madeCells]; omega), Array.getElem?_eq_none (by rw [row_size]; omega)]
section
variable {P : Program} {ops : Array Oper} {Q : Exit → Act → World → Prop} {a : Act} {w : World} {rest : List Oper} {o : Oper}
theorem hold_copy {d s : Operand} {t u : TypeId} (_ho : o.op = .call { callee := .builtin .copy, args := #[d, s], argTypes := #[t, u] }) (h : Held (wpList P ops Q (o :: rest) a w)) : wpList P ops Q (o :: rest) a w := h
end
end BB
namespace WW
/-- v is a slice of the strings l -/
def StrsAt (w : World) (v : Value) (l : List ByteArray) : Prop :=
  ∃ a0 cap, v = .slice a0 l.length cap ∧ (l = [] ∨ ∃ b off, a0 = some ⟨b, off, none⟩ ∧ b < w.heap.size ∧ ∀ i, i < l.length → w.cell? ⟨b, off + i, none⟩ = some (.string (l.getD i ⟨#[]⟩)))
theorem StrsAt.later {w w' : World} {v : Value} {l : List ByteArray} (h : StrsAt w v l) (hb : Below w.heap.size w w') : StrsAt w' v l := by
  obtain ⟨a0, cap, rfl, h | ⟨b, off, rfl, hl, hc⟩⟩ := h
  · exact ⟨a0, cap, rfl, Or.inl h⟩
  · exact ⟨_, cap, rfl, Or.inr ⟨b, off, rfl, Nat.lt_of_lt_of_le hl hb.size, fun i hi => (hb.cell (p := ⟨b, off + i, none⟩) hl).trans (hc i hi)⟩⟩
theorem cell_new (w : World) (cs : Array Value) (t : TypeId) (i : Nat) (u : Value) (h : cs[i]? = some u) : (w.alloc (.cells cs t)).cell? ⟨w.heap.size, i, none⟩ = some u := by
  have : (w.alloc (.cells cs t)).heap[w.heap.size]? = some (.cells cs t) := by show (w.heap.push _)[w.heap.size]? = _; simp
  unfold World.cell?; rw [this]; simp [h]
/-- the cells cs in block g, and what was as it was -/
structure BoxAt (w : World) (g : Nat) (cs : List Value) (wr : World) : Prop where
  below : Below w.heap.size w wr
  lt : g < wr.heap.size
  cell : ∀ i u, cs[i]? = some u → wr.cell? ⟨g, i, none⟩ = some u
theorem box_mk (w : World) (cs : List Value) (t : TypeId) : BoxAt w w.heap.size cs (w.alloc (.cells cs.toArray t)) :=
  ⟨(Below.refl _ _).alloc (Nat.le_refl _) _, by simp, fun i u h => cell_new w cs.toArray t i u (by simpa using h)⟩
theorem BoxAt.on {w w1 w2 : World} {g : Nat} {cs : List Value} (h : BoxAt w g cs w1) (hb : Below w1.heap.size w1 w2) : BoxAt w g cs w2 :=
  ⟨h.below.trans (hb.mono h.below.size), Nat.lt_of_lt_of_le h.lt hb.size, fun i u hu => (hb.cell (p := ⟨g, i, none⟩) h.lt).trans (h.cell i u hu)⟩
end WW
end
section
open Go Go.RowKit
namespace WW
/-- v is a slice of the ints l -/
def IntsAt (w : World) (v : Value) (l : List Int) : Prop :=
  ∃ a0 cap, v = .slice a0 l.length cap ∧ l.length ≤ 9223372036854775807 ∧ (l = [] ∨ ∃ b off, a0 = some ⟨b, off, none⟩ ∧ b < w.heap.size ∧ ∀ i, i < l.length → w.cell? ⟨b, off + i, none⟩ = some (.int .i64 (l.getD i 0)))
theorem IntsAt.later {w w' : World} {v : Value} {l : List Int} (h : IntsAt w v l) (hb : Below w.heap.size w w') : IntsAt w' v l := by
  obtain ⟨a0, cap, rfl, hn, h | ⟨b, off, rfl, hl, hc⟩⟩ := h
  · exact ⟨a0, cap, rfl, hn, Or.inl h⟩
  · exact ⟨_, cap, rfl, hn, Or.inr ⟨b, off, rfl, Nat.lt_of_lt_of_le hl hb.size, fun i hi => (hb.cell (p := ⟨b, off + i, none⟩) hl).trans (hc i hi)⟩⟩
theorem IntsAt.len {w : World} {v : Value} {l : List Int} (h : IntsAt w v l) : l.length ≤ 9223372036854775807 := by
  obtain ⟨_, _, _, hn, _⟩ := h; exact hn
end WW
namespace Go.Proofs.YtigoaokpodggcaaDoor
open WW BB Go.WideShapes Go.ChangeShapes Go.Deep
section
variable {H : Type} {enc : TypeId × Value → H} {W : World}
set_option maxRecDepth 100000 in
theorem open_ints {fuel : Nat} {cs : List Value} {x : DataW H × List MemPlace} (h : DataW.trod enc Tryd.prog W 0 (fun _ => true) true fuel 28 cs = some x) : ∃ sv l, cs = [sv] ∧ IntsAt W sv l := by
  rcases Go.ChangeShapes.open_ints Tryd.underlying28 Tryd.underlying3 (by kernel_rfl) h with ⟨hcs, hx⟩ | ⟨a, len, cap, zs, hcs, _, hl, hm, hz, hx, hcell, hws⟩
  · exact ⟨_, [], hcs, none, 0, rfl, by simp, Or.inl rfl⟩
  · simp only [if_true] at hz
    have hm' : cap ≤ 9223372036854775807 := hm
    refine ⟨_, zs.take len, hcs, some a, cap, by rw [List.length_take_of_le (by omega)], by rw [List.length_take_of_le (by omega)]; omega, ?_⟩
    by_cases hl0 : len = 0
    · exact Or.inl (by subst hl0; rfl)
    · refine Or.inr ?_
      obtain ⟨b, off, spot⟩ := a
      have hspot : spot = none := by simpa [Addr.add] using World.cell?_spot (hcell 0 (by omega))
      subst hspot
      refine ⟨b, off, rfl, ?_, fun i hi => ?_⟩
      · have := hcell 0 (by omega)
        exact World.block_lt_of_cell? W _ this
      · rw [List.length_take_of_le (by omega)] at hi
        rw [← add_plain, hcell i (by omega)]
        simp only [List.getD_eq_getElem?_getD, List.getElem?_take_of_lt hi]
end
end Go.Proofs.YtigoaokpodggcaaDoor
end
