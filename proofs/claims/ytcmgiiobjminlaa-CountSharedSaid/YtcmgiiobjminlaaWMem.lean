/-
  Memory of the call's own: bytes in a block; blocks that are kept. No program is named here.
-/
import Derived.Test.YtcmgiiobjminlaaBase
import Derived.Test.YtcmgiiobjminlaaOrd
import Derived.Laws.CopyOwn
import Derived.Laws.MakeOwn
import Derived.Deep.OwnRows
open Go Go.RowKit
namespace BB
/-- a list's bytes, by their places -/
def sb (l : List UInt8) (i : Nat) : Nat := (l.getD i 0).toNat
theorem sb_lt (l : List UInt8) (i : Nat) : sb l i < 256 := UInt8.toNat_lt _
theorem extract_row (s : ByteArray) (n : Nat) (h : n ≤ s.size) : Array.map (fun b : UInt8 => Value.int .u8 (b.toNat : Int)) (s.extract 0 n).data = row n (cb (sb s.data.toList)) := by
  apply Array.ext_getElem?
  intro j
  have hs : (s.extract 0 n).data = s.data.extract 0 n := by simp
  rw [hs, Array.getElem?_map, Array.getElem?_extract]
  by_cases hj : j < n
  · have hj' : j < s.data.size := Nat.lt_of_lt_of_le hj h
    rw [row_get _ _ _ hj, if_pos (by simp; omega)]
    simp only [cb, sb, List.getD_eq_getElem?_getD, Array.getElem?_toList, Nat.zero_add, Array.getElem?_eq_getElem hj', Option.map_some, Option.getD_some]
  · have h2 : (row n (cb (sb s.data.toList)))[j]? = none := by rw [Array.getElem?_eq_none]; rw [row_size]; omega
    rw [h2, if_neg (by simp; omega)]; rfl
/-- but for block b, what there was is as it was -/
structure Keep (b : Nat) (w w' : World) : Prop where
  size : w.heap.size ≤ w'.heap.size
  block : ∀ k, k < w.heap.size → k ≠ b → w'.heap[k]? = w.heap[k]?
  tape : w'.tape = w.tape
  os : w'.os = w.os
  output : w'.output = w.output
section
variable {b n : Nat} {f : Nat → Value} {w w1 w2 w3 : World}
theorem Keep.refl (b : Nat) (w : World) : Keep b w w := ⟨Nat.le_refl _, fun _ _ _ => rfl, rfl, rfl, rfl⟩
theorem Keep.trans (h : Keep b w1 w2) (k : Keep b w2 w3) : Keep b w1 w3 :=
  ⟨Nat.le_trans h.size k.size, fun i hi hb => (k.block i (Nat.lt_of_lt_of_le hi h.size) hb).trans (h.block i hi hb), k.tape.trans h.tape, k.os.trans h.os, k.output.trans h.output⟩
theorem Upd.keep (h : Upd b w1 w2) : Keep b w1 w2 := ⟨by rw [h.size]; exact Nat.le_refl _, fun k _ hb => h.block k hb, h.tape, h.os, h.output⟩
theorem keep_of_below {B : Nat} (h : Below B w1 w2) (hB : w1.heap.size ≤ B) (b : Nat) : Keep b w1 w2 := ⟨h.size, fun k hk _ => h.block k (Nat.lt_of_lt_of_le hk hB), h.tape, h.os, h.output⟩
theorem Keep.below (h : Keep b w1 w2) {B : Nat} (hB : B ≤ b) (hs : B ≤ w1.heap.size) : Below B w1 w2 := ⟨h.os, h.tape, h.output, h.size, fun k hk => h.block k (by omega) (by omega)⟩
theorem Blk.keep {c : Nat} (h : Blk w1 c n f) (hk : Keep b w1 w2) (hc : c ≠ b) : Blk w2 c n f := h.of_heap (hk.block c h.lt hc)
theorem Cells.keep {c : Nat} (h : Cells w1 c n f) (hk : Keep b w1 w2) (hl : c < w1.heap.size) (hc : c ≠ b) : Cells w2 c n f := fun i hi => (World.cell?_of_block (w := w1) (hk.block c hl hc)).trans (h i hi)
end
/-- block b is n cells, f, of type t -/
def TBlk (t : TypeId) (w : World) (b n : Nat) (f : Nat → Value) : Prop := w.heap[b]? = some (.cells (row n f) t (0, 0))
theorem run_copy_str_t {P : Program} {w : World} {dT sT ty e t b N off dLen cap n : Nat} {f : Nat → Value} {s : ByteArray} (hU : (underlying dT).run P w = .ok (.slice e) w) (hS : (Go.sizeOf e).run P w = .ok 1 w)
    (ht : TBlk t w b N f) (hN : off + n ≤ N) (hn : n = min s.size dLen) :
    ∃ w', (Builtin.copy_ #[dT, sT] ty #[.slice (some ⟨b, off, none⟩) dLen cap, .string s]).run P w = .ok (.int .i64 (n : Int)) w' ∧
      TBlk t w' b N (fun j => if off ≤ j ∧ j < off + n then cb (sb s.data.toList) (j - off) else f j) ∧ Upd b w w' := by
  unfold TBlk at ht
  have hl : (row n (cb (sb s.data.toList))).toList.length = n := by simp [row]
  have hst := run_storeCells_at P b off t (row n (cb (sb s.data.toList))).toList 0 (row N f) w ht (by rw [row_size, hl]; omega) (fun v hv => by
    simp only [row, List.mem_map, List.mem_range] at hv
    obtain ⟨i, hi, rfl⟩ := hv
    rfl)
  have hx := extract_row s n (by omega)
  refine ⟨w.setRow b (List.take off (row N f).toList ++ (row n (cb (sb s.data.toList))).toList ++ List.drop (off + n) (row N f).toList).toArray, ?_, ?_, ?_⟩
  · rw [hl, Nat.add_zero] at hst
    have hmin : Nat.min s.size dLen = n := hn.symm
    unfold Builtin.copy_
    simp only [List.getElem?_toArray, List.getElem?_cons_zero, List.getElem?_cons_succ, Sem.run_bind, hU, Result.andThen_ok, Builtin.lenOf, Sem.run_pure, hS, Builtin.firstCells, hmin, hx, hst, goInt]
  · unfold TBlk; rw [← row_splice N n off f _ hN]; exact setRow_heap w b _ _ t _ ht
  · refine ⟨by simp [World.setRow], fun k hk => ?_, rfl, rfl, rfl⟩
    simp only [World.setRow, Array.getElem?_modify]
    rw [if_neg (fun h => hk h.symm)]
theorem wpl_copy_str_t {P : Program} {ops : Array Oper} {Q : Exit → Act → World → Prop} {a : Act} {w : World} {rest : List Oper} {o : Oper} {dT sT e t : TypeId} (d s : Operand) (b off N dLen cap n : Nat) (f : Nat → Value) (str : ByteArray) (hg : o.guard = none)
    (ho : o.op = .call { callee := .builtin .copy, args := #[d, s], argTypes := #[dT, sT] }) (hd : a.eval d = .slice (some ⟨b, off, none⟩) dLen cap) (hs : a.eval s = .string str)
    (hU : (underlying dT).run P w = .ok (.slice e) w) (hS : (Go.sizeOf e).run P w = .ok 1 w) (hb : TBlk t w b N f) (hN : off + n ≤ N) (hn : n = min str.size dLen)
    (hK : ∀ w', TBlk t w' b N (fun j => if off ≤ j ∧ j < off + n then cb (sb str.data.toList) (j - off) else f j) ∧ Upd b w w' → wpList P ops Q rest (a.put o.dst (.int .i64 (n : Int))) w') : wpList P ops Q (o :: rest) a w := by
  obtain ⟨w', h, hm⟩ := run_copy_str_t (ty := o.type) (cap := cap) (sT := sT) hU hS hb hN hn
  refine wpl_value hg ?_ (hK w' hm)
  simp [execOp, ho, resolve, invoke, builtin, hd, hs, h, Result.andThen]
theorem TBlk.new' (w : World) (n b : Nat) (f : Nat → Value) (cs : Array Value) (t : TypeId) (hb : b = w.heap.size) (e : cs = row n f) : TBlk t (w.alloc (.cells cs t)) b n f := by
  subst hb e; show (w.heap.push _)[w.heap.size]? = _; simp
theorem hold_make {P : Program} {ops : Array Oper} {Q : Exit → Act → World → Prop} {a : Act} {w : World} {rest : List Oper} {o : Oper} {T : TypeId} {x y : Operand} (_ho : o.op = .makeSlice T x y) (h : Held (wpList P ops Q (o :: rest) a w)) : wpList P ops Q (o :: rest) a w := h
theorem wpl_make {P : Program} {ops : Array Oper} {Q : Exit → Act → World → Prop} {a : Act} {w : World} {rest : List Oper} {o : Oper} (x y : Operand) (t e : TypeId) (z : Value) (bytes n : Nat) (hg : o.guard = none) (ho : o.op = .makeSlice t x y)
    (hx : a.eval x = .int .i64 (n : Int)) (hy : a.eval y = .int .i64 (n : Int)) (ht : P.underlying t = some (.slice e)) (hinfo : (P.info? e).map (fun i => (i.zero, i.size, i.bytes)) = some (some z, 1, bytes)) (hz1 : z.cells = #[z])
    (hbytes : bytes * n ≤ 281474976710656) (h63 : n ≤ 9223372036854775807)
    (hK : wpList P ops Q rest (a.put o.dst (.slice (some ⟨w.heap.size, 0, none⟩) n n)) (w.alloc (.cells (madeCells #[z] n) e))) : wpList P ops Q (o :: rest) a w := by
  refine wpl_value hg ?_ hK
  have := run_make_row' (P := P) t e z bytes ht hinfo hz1 .i64 .i64 n hbytes h63 w
  unfold execOp
  simp only [ho, hx, hy, Sem.run_bind, this, Result.andThen_ok, Sem.run_pure]
theorem made_row (z : Value) (n : Nat) : madeCells #[z] n = row n (fun _ => z) := by
  apply Array.ext_getElem?
  intro j
  by_cases h : j < n
  · rw [row_get _ _ _ h]; simp [madeCells, h, Nat.mod_one]
  · rw [Array.getElem?_eq_none (by rw [size_madeCells]; omega), Array.getElem?_eq_none (by rw [row_size]; omega)]
section
variable {P : Program} {ops : Array Oper} {Q : Exit → Act → World → Prop} {a : Act} {w : World} {rest : List Oper} {o : Oper}
theorem hold_copy {d s : Operand} {t u : TypeId} (_ho : o.op = .call { callee := .builtin .copy, args := #[d, s], argTypes := #[t, u] }) (h : Held (wpList P ops Q (o :: rest) a w)) : wpList P ops Q (o :: rest) a w := h
end
end BB
namespace WW
/-- v is a slice of the strings l -/
def StrsAt (w : World) (v : Value) (l : List ByteArray) : Prop :=
  ∃ a0 cap, v = .slice a0 l.length cap ∧ (l = [] ∨ ∃ b off, a0 = some ⟨b, off, none⟩ ∧ b < w.heap.size ∧ ∀ i, i < l.length → w.cell? ⟨b, off + i, none⟩ = some (.string (l.getD i ⟨#[]⟩)))
theorem StrsAt.later {w w' : World} {v : Value} {l : List ByteArray} (h : StrsAt w v l) (hb : Below w.heap.size w w') : StrsAt w' v l := by
  obtain ⟨a0, cap, rfl, h | ⟨b, off, rfl, hl, hc⟩⟩ := h
  · exact ⟨a0, cap, rfl, Or.inl h⟩
  · exact ⟨_, cap, rfl, Or.inr ⟨b, off, rfl, Nat.lt_of_lt_of_le hl hb.size, fun i hi => (hb.cell (p := ⟨b, off + i, none⟩) hl).trans (hc i hi)⟩⟩
theorem cell_new (w : World) (cs : Array Value) (t : TypeId) (i : Nat) (u : Value) (h : cs[i]? = some u) : (w.alloc (.cells cs t)).cell? ⟨w.heap.size, i, none⟩ = some u := by
  have : (w.alloc (.cells cs t)).heap[w.heap.size]? = some (.cells cs t) := by show (w.heap.push _)[w.heap.size]? = _; simp
  unfold World.cell?; rw [this]; simp [h]
/-- the cells cs in block g, and what was as it was -/
structure BoxAt (w : World) (g : Nat) (cs : List Value) (wr : World) : Prop where
  below : Below w.heap.size w wr
  lt : g < wr.heap.size
  cell : ∀ i u, cs[i]? = some u → wr.cell? ⟨g, i, none⟩ = some u
theorem box_mk (w : World) (cs : List Value) (t : TypeId) : BoxAt w w.heap.size cs (w.alloc (.cells cs.toArray t)) :=
  ⟨(Below.refl _ _).alloc (Nat.le_refl _) _, by simp, fun i u h => cell_new w cs.toArray t i u (by simpa using h)⟩
theorem BoxAt.on {w w1 w2 : World} {g : Nat} {cs : List Value} (h : BoxAt w g cs w1) (hb : Below w1.heap.size w1 w2) : BoxAt w g cs w2 :=
  ⟨h.below.trans (hb.mono h.below.size), Nat.lt_of_lt_of_le h.lt hb.size, fun i u hu => (hb.cell (p := ⟨g, i, none⟩) h.lt).trans (h.cell i u hu)⟩
end WW
