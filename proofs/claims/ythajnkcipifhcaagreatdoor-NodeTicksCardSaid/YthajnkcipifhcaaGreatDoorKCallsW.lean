/-
  A function's value, called: what is bound comes ahead, what is captured behind. No program is named here.
-/
import Derived.Test.YthajnkcipifhcaaGreatDoorKMixed
import Derived.Laws.CopyOwn
import Derived.Laws.MakeOwn
import Derived.Deep.OwnRows
import Derived.Test.YthajnkcipifhcaaGreatDoorChecked
section
open Go Go.RowKit
namespace BB
/-- a list's bytes, by their places -/
def sb (l : List UInt8) (i : Nat) : Nat := (l.getD i 0).toNat
theorem sb_lt (l : List UInt8) (i : Nat) : sb l i < 256 := UInt8.toNat_lt _
theorem extract_row (s : ByteArray) (n : Nat) (h : n ≤ s.size) : Array.map (fun b : UInt8 => Value.int .u8 (b.toNat : Int)) (s.extract 0 n).data = row n (cb (sb s.data.toList)) := by
  apply Array.ext_getElem?
  intro j
  have hs : (s.extract 0 n).data = s.data.extract 0 n := by simp
  rw [hs, Array.getElem?_map, Array.getElem?_extract]
  by_cases hj : j < n
  · have hj' : j < s.data.size := Nat.lt_of_lt_of_le hj h
    rw [row_get _ _ _ hj, if_pos (by simp; omega)]
    simp only [cb, sb, List.getD_eq_getElem?_getD, Array.getElem?_toList, Nat.zero_add, Array.getElem?_eq_getElem hj', Option.map_some, Option.getD_some]
  · have h2 : (row n (cb (sb s.data.toList)))[j]? = none := by rw [Array.getElem?_eq_none]; rw [row_size]; omega
    rw [h2, if_neg (by simp; omega)]; rfl
/-- but for block b, what there was is as it was -/
structure Keep (b : Nat) (w w' : World) : Prop where
  size : w.heap.size ≤ w'.heap.size
  block : ∀ k, k < w.heap.size → k ≠ b → w'.heap[k]? = w.heap[k]?
  tape : w'.tape = w.tape
  os : w'.os = w.os
  output : w'.output = w.output
section
variable {b n : Nat} {f : Nat → Value} {w w1 w2 w3 : World}
theorem Keep.refl (b : Nat) (w : World) : Keep b w w := ⟨Nat.le_refl _, fun _ _ _ => rfl, rfl, rfl, rfl⟩
theorem Keep.trans (h : Keep b w1 w2) (k : Keep b w2 w3) : Keep b w1 w3 :=
  ⟨Nat.le_trans h.size k.size, fun i hi hb => (k.block i (Nat.lt_of_lt_of_le hi h.size) hb).trans (h.block i hi hb), k.tape.trans h.tape, k.os.trans h.os, k.output.trans h.output⟩
theorem Upd.keep (h : Upd b w1 w2) : Keep b w1 w2 := ⟨by rw [h.size]; exact Nat.le_refl _, fun k _ hb => h.block k hb, h.tape, h.os, h.output⟩
theorem keep_of_below {B : Nat} (h : Below B w1 w2) (hB : w1.heap.size ≤ B) (b : Nat) : Keep b w1 w2 := ⟨h.size, fun k hk _ => h.block k (Nat.lt_of_lt_of_le hk hB), h.tape, h.os, h.output⟩
theorem Keep.below (h : Keep b w1 w2) {B : Nat} (hB : B ≤ b) (hs : B ≤ w1.heap.size) : Below B w1 w2 := ⟨h.os, h.tape, h.output, h.size, fun k hk => h.block k (by omega) (by omega)⟩
theorem Blk.keep {c : Nat} (h : Blk w1 c n f) (hk : Keep b w1 w2) (hc : c ≠ b) : Blk w2 c n f := h.of_heap (hk.block c h.lt hc)
theorem Cells.keep {c : Nat} (h : Cells w1 c n f) (hk : Keep b w1 w2) (hl : c < w1.heap.size) (hc : c ≠ b) : Cells w2 c n f := fun i hi => (World.cell?_of_block (w := w1) (hk.block c hl hc)).trans (h i hi)
end
/-- block b is n cells, f, of type t -/
def TBlk (t : TypeId) (w : World) (b n : Nat) (f : Nat → Value) : Prop := w.heap[b]? = some (.cells (row n f) t (0, 0))
theorem run_copy_str_t {P : Program} {w : World} {dT sT ty e t b N off dLen cap n : Nat} {f : Nat → Value} {s : ByteArray} (hU : (underlying dT).run P w = .ok (.slice e) w) (hS : (Go.sizeOf e).run P w = .ok 1 w)
    (ht : TBlk t w b N f) (hN : off + n ≤ N) (hn : n = min s.size dLen) :
    ∃ w', (Builtin.copy_ #[dT, sT] ty #[.slice (some ⟨b, off, none⟩) dLen cap, .string s]).run P w = .ok (.int .i64 (n : Int)) w' ∧
      TBlk t w' b N (fun j => if off ≤ j ∧ j < off + n then cb (sb s.data.toList) (j - off) else f j) ∧ Upd b w w' := by
  unfold TBlk at ht
  have hl : (row n (cb (sb s.data.toList))).toList.length = n := by simp [row]
  have hst := run_storeCells_at P b off t (row n (cb (sb s.data.toList))).toList 0 (row N f) w ht (by rw [row_size, hl]; omega) (fun v hv => by
    simp only [row, List.mem_map, List.mem_range] at hv
    obtain ⟨i, hi, rfl⟩ := hv
    rfl)
  have hx := extract_row s n (by omega)
  refine ⟨w.setRow b (List.take off (row N f).toList ++ (row n (cb (sb s.data.toList))).toList ++ List.drop (off + n) (row N f).toList).toArray, ?_, ?_, ?_⟩
  · rw [hl, Nat.add_zero] at hst
    have hmin : Nat.min s.size dLen = n := hn.symm
    unfold Builtin.copy_
    simp only [List.getElem?_toArray, List.getElem?_cons_zero, List.getElem?_cons_succ, Sem.run_bind, hU, Result.andThen_ok, Builtin.lenOf, Sem.run_pure, hS, Builtin.firstCells, hmin, hx, hst, goInt]
  · unfold TBlk; rw [← row_splice N n off f _ hN]; exact setRow_heap w b _ _ t _ ht
  · refine ⟨by simp [World.setRow], fun k hk => ?_, rfl, rfl, rfl⟩
    simp only [World.setRow, Array.getElem?_modify]
    rw [if_neg (fun h => hk h.symm)]
theorem wpl_copy_str_t {P : Program} {ops : Array Oper} {Q : Exit → Act → World → Prop} {a : Act} {w : World} {rest : List Oper} {o : Oper} {dT sT e t : TypeId} (d s : Operand) (b off N dLen cap n : Nat) (f : Nat → Value) (str : ByteArray) (hg : o.guard = none)
    (ho : o.op = .call { callee := .builtin .copy, args := #[d, s], argTypes := #[dT, sT] }) (hd : a.eval d = .slice (some ⟨b, off, none⟩) dLen cap) (hs : a.eval s = .string str)
    (hU : (underlying dT).run P w = .ok (.slice e) w) (hS : (Go.sizeOf e).run P w = .ok 1 w) (hb : TBlk t w b N f) (hN : off + n ≤ N) (hn : n = min str.size dLen)
    (hK : ∀ w', TBlk t w' b N (fun j => if off ≤ j ∧ j < off + n then cb (sb str.data.toList) (j - off) else f j) ∧ Upd b w w' → wpList P ops Q rest (a.put o.dst (.int .i64 (n : Int))) w') : wpList P ops Q (o :: rest) a w := by
  obtain ⟨w', h, hm⟩ := run_copy_str_t (ty := o.type) (cap := cap) (sT := sT) hU hS hb hN hn
  refine wpl_value hg ?_ (hK w' hm)
  simp [execOp, ho, resolve, invoke, builtin, hd, hs, h, Result.andThen]
theorem TBlk.new' (w : World) (n b : Nat) (f : Nat → Value) (cs : Array Value) (t : TypeId) (hb : b = w.heap.size) (e : cs = row n f) : TBlk t (w.alloc (.cells cs t)) b n f := by
  subst hb e; show (w.heap.push _)[w.heap.size]? = _; simp
theorem hold_make {P : Program} {ops : Array Oper} {Q : Exit → Act → World → Prop} {a : Act} {w : World} {rest : List Oper} {o : Oper} {T : TypeId} {x y : Operand} (_ho : o.op = .makeSlice T x y) (h : Held (wpList P ops Q (o :: rest) a w)) : wpList P ops Q (o :: rest) a w := h
theorem wpl_make {P : Program} {ops : Array Oper} {Q : Exit → Act → World → Prop} {a : Act} {w : World} {rest : List Oper} {o : Oper} (x y : Operand) (t e : TypeId) (z : Value) (bytes n : Nat) (hg : o.guard = none) (ho : o.op = .makeSlice t x y)
    (hx : a.eval x = .int .i64 (n : Int)) (hy : a.eval y = .int .i64 (n : Int)) (ht : P.underlying t = some (.slice e)) (hinfo : (P.info? e).map (fun i => (i.zero, i.size, i.bytes)) = some (some z, 1, bytes)) (hz1 : z.cells = #[z])
    (hbytes : bytes * n ≤ 281474976710656) (h63 : n ≤ 9223372036854775807)
    (hK : wpList P ops Q rest (a.put o.dst (.slice (some ⟨w.heap.size, 0, none⟩) n n)) (w.alloc (.cells (madeCells #[z] n) e))) : wpList P ops Q (o :: rest) a w := by
  refine wpl_value hg ?_ hK
  have := run_make_row' (P := P) t e z bytes ht hinfo hz1 .i64 .i64 n hbytes h63 w
  unfold execOp
  simp only [ho, hx, hy, Sem.run_bind, this, Result.andThen_ok, Sem.run_pure]
theorem made_row (z : Value) (n : Nat) : madeCells #[z] n = row n (fun _ => z) := by
  apply Array.ext_getElem?
  intro j
  by_cases h : j < n
  · rw [row_get _ _ _ h]; simp [madeCells, h, Nat.mod_one]
  · rw [Array.getElem?_eq_none (by rw [size_madeCells]; omega), Array.getElem?_eq_none (by rw [row_size]; omega)]
section
variable {P : Program} {ops : Array Oper} {Q : Exit → Act → World → Prop} {a : Act} {w : World} {rest : List Oper} {o : Oper}
theorem hold_copy {d s : Operand} {t u : TypeId} (_ho : o.op = .call { callee := .builtin .copy, args := #[d, s], argTypes := #[t, u] }) (h : Held (wpList P ops Q (o :: rest) a w)) : wpList P ops Q (o :: rest) a w := h
end
end BB
namespace WW
/-- v is a slice of the strings l -/
def StrsAt (w : World) (v : Value) (l : List ByteArray) : Prop :=
  ∃ a0 cap, v = .slice a0 l.length cap ∧ (l = [] ∨ ∃ b off, a0 = some ⟨b, off, none⟩ ∧ b < w.heap.size ∧ ∀ i, i < l.length → w.cell? ⟨b, off + i, none⟩ = some (.string (l.getD i ⟨#[]⟩)))
theorem StrsAt.later {w w' : World} {v : Value} {l : List ByteArray} (h : StrsAt w v l) (hb : Below w.heap.size w w') : StrsAt w' v l := by
  obtain ⟨a0, cap, rfl, h | ⟨b, off, rfl, hl, hc⟩⟩ := h
  · exact ⟨a0, cap, rfl, Or.inl h⟩
  · exact ⟨_, cap, rfl, Or.inr ⟨b, off, rfl, Nat.lt_of_lt_of_le hl hb.size, fun i hi => (hb.cell (p := ⟨b, off + i, none⟩) hl).trans (hc i hi)⟩⟩
theorem cell_new (w : World) (cs : Array Value) (t : TypeId) (i : Nat) (u : Value) (h : cs[i]? = some u) : (w.alloc (.cells cs t)).cell? ⟨w.heap.size, i, none⟩ = some u := by
  have : (w.alloc (.cells cs t)).heap[w.heap.size]? = some (.cells cs t) := by show (w.heap.push _)[w.heap.size]? = _; simp
  unfold World.cell?; rw [this]; simp [h]
/-- the cells cs in block g, and what was as it was -/
structure BoxAt (w : World) (g : Nat) (cs : List Value) (wr : World) : Prop where
  below : Below w.heap.size w wr
  lt : g < wr.heap.size
  cell : ∀ i u, cs[i]? = some u → wr.cell? ⟨g, i, none⟩ = some u
theorem box_mk (w : World) (cs : List Value) (t : TypeId) : BoxAt w w.heap.size cs (w.alloc (.cells cs.toArray t)) :=
  ⟨(Below.refl _ _).alloc (Nat.le_refl _) _, by simp, fun i u h => cell_new w cs.toArray t i u (by simpa using h)⟩
theorem BoxAt.on {w w1 w2 : World} {g : Nat} {cs : List Value} (h : BoxAt w g cs w1) (hb : Below w1.heap.size w1 w2) : BoxAt w g cs w2 :=
  ⟨h.below.trans (hb.mono h.below.size), Nat.lt_of_lt_of_le h.lt hb.size, fun i u hu => (hb.cell (p := ⟨g, i, none⟩) h.lt).trans (h.cell i u hu)⟩
end WW
end
section
open Go Go.RowKit
namespace WW
open BB
section
variable {P : Program} {ops : Array Oper} {Q : Exit → Act → World → Prop} {a : Act} {w : World} {rest : List Oper} {o : Oper}
/-- function k has a body of its own -/
def Own (P : Program) (k : Nat) : Prop := ∃ fn, P.funcs[k]? = some fn ∧ (fn.name == "runtime.NumGoroutine") = false ∧ fn.body.isNone = false
/-- the closure v, called with args -/
def CallsV (P : Program) (v : Value) (args : Array Value) (w : World) (R : Ending → World → Prop) : Prop :=
  ∃ k env, v = .func (.func k) #[] env ∧ Own P k ∧ Calls P k (args ++ env) w R
theorem CallsV.mono {v : Value} {args : Array Value} {R R' : Ending → World → Prop} (h : CallsV P v args w R) (hR : ∀ e w', R e w' → R' e w') : CallsV P v args w R' := by
  obtain ⟨k, env, hv, ho, hc⟩ := h
  exact ⟨k, env, hv, ho, hc.mono hR⟩
theorem run_enter {x : Operand} {xs : Array Operand} {tys : Array TypeId} {k : Nat} {env : Array Value} (ho : o.op = .call { callee := .value x, args := xs, argTypes := tys }) (hx : a.eval x = .func (.func k) #[] env) (hk : Own P k) :
    (execOp a.eval o).run P w = .ok (.enter k (xs.map a.eval ++ env)) w := by
  obtain ⟨fn, h1, h2, h3⟩ := hk
  have h2' : ¬ fn.name = "runtime.NumGoroutine" := by simpa using h2
  have h3' : ¬ fn.body = none := by intro h; rw [h] at h3; cases h3
  unfold execOp
  simp [ho, resolve, hx, Deferred.ofValue, invoke, callFunc, h1, h2', h3', Result.andThen]
theorem hold_callv {x : Operand} {xs : Array Operand} {tys : Array TypeId} {i : Nat} (_ho : o.op = .call { callee := .value x, args := xs, argTypes := tys }) (_hx : x = .tmp i) (h : Held (wpList P ops Q (o :: rest) a w)) : wpList P ops Q (o :: rest) a w := h
theorem wpl_callv {x : Operand} {xs : Array Operand} {tys : Array TypeId} (v : Value) (args : Array Value) (R : Ending → World → Prop) (hg : o.guard = none) (ho : o.op = .call { callee := .value x, args := xs, argTypes := tys })
    (hx : a.eval x = v) (has : xs.map a.eval = args) (hc : CallsV P v args w R) (hR : ∀ e w', R e w' → ∃ u, e = .returned u)
    (hK : ∀ u w', R (.returned u) w' → wpList P ops Q rest (a.put o.dst u) w') : wpList P ops Q (o :: rest) a w := by
  obtain ⟨k, env, hv, hk, hc⟩ := hc
  refine wpList_plain hg fun K hK' => ?_
  have hrun := run_enter (P := P) (w := w) (o := o) (a := a) ho (hx.trans hv) hk
  unfold Oper.wp
  rw [hrun, has]
  refine hc.mono fun e w' hr => ?_
  obtain ⟨u, rfl⟩ := hR e w' hr
  exact hK' _ _ (hK u w' hr)
theorem wpl_callv_w {x : Operand} {xs : Array Operand} {tys : Array TypeId} (v : Value) (args : Array Value) (R : Ending → World → Prop) (hg : Region.wanted o (yielded ops a.tmps) = true) (ho : o.op = .call { callee := .value x, args := xs, argTypes := tys })
    (hx : a.eval x = v) (has : xs.map a.eval = args) (hc : CallsV P v args w R) (hR : ∀ e w', R e w' → ∃ u, e = .returned u)
    (hK : ∀ u w', R (.returned u) w' → wpList P ops Q rest (a.put o.dst u) w') : wpList P ops Q (o :: rest) a w := by
  obtain ⟨k, env, hv, hk, hc⟩ := hc
  refine wpList_step fun K hK' => ?_
  rw [if_pos hg]
  have hrun := run_enter (P := P) (w := w) (o := o) (a := a) ho (hx.trans hv) hk
  unfold Oper.wp
  rw [hrun, has]
  refine hc.mono fun e w' hr => ?_
  obtain ⟨u, rfl⟩ := hR e w' hr
  exact hK' _ _ (hK u w' hr)
end
/-- what a cut answers -/
def Ans (Q : Bool → ByteArray → World → Prop) (e : Ending) (w : World) : Prop := ∃ ok r, e = .returned (.tuple #[.string r, .bool ok]) ∧ Q ok r w
theorem Ans.ret {Q : Bool → ByteArray → World → Prop} (e : Ending) (w : World) (h : Ans Q e w) : ∃ u, e = .returned u := by obtain ⟨ok, r, rfl, _⟩ := h; exact ⟨_, rfl⟩
/-- v cuts something off b -/
def Cut (P : Program) (v : Value) (b : ByteArray) (w : World) (Q : Bool → ByteArray → World → Prop) : Prop := CallsV P v #[.string b] w (Ans Q)
theorem Cut.mono {P : Program} {v : Value} {b : ByteArray} {w : World} {Q Q' : Bool → ByteArray → World → Prop} (h : Cut P v b w Q) (hQ : ∀ ok r w', Q ok r w' → Q' ok r w') : Cut P v b w Q' :=
  CallsV.mono h fun _ _ ⟨ok, r, he, hq⟩ => ⟨ok, r, he, hQ _ _ _ hq⟩
/-- one cut behind the other, up to the first one that is wrong; E holds all the while -/
def OrderWp (P : Program) (E : World → Prop) (Q : Bool → ByteArray → World → Prop) : List Value → ByteArray → World → Prop
  | [], b, w => Q true b w
  | v :: vs, b, w => Cut P v b w fun ok r w' => E w' ∧ (if ok then OrderWp P E Q vs r w' else Q false ⟨#[]⟩ w')
end WW
namespace Go.Proofs.YthajnkcipifhcaaGreatDoor
open WW BB
/-- the cuts that lie in block gc -/
def InRow (gc : Nat) (vs : List Value) (w : World) : Prop := ∀ i, i < vs.length → w.cell? ⟨gc, i, none⟩ = some (vs.getD i .nilFunc)
set_option maxRecDepth 100000 in
set_option maxHeartbeats 2000000 in
theorem order_any (vs : List Value) (bx gc cap : Nat) (Q : Bool → ByteArray → World → Prop) (b : ByteArray) (w : World) (hlen : vs.length ≤ 100)
    (hb : w.cell? ⟨bx, 0, none⟩ = some (.slice (some ⟨gc, 0, none⟩) vs.length cap)) (hE : InRow gc vs w) (h : OrderWp Tryz.prog (InRow gc vs) Q vs b w) :
    Calls Tryz.prog 304 #[.string b, .pointer (some ⟨bx, 0, none⟩)] w (Ans Q) := by
  have HE := Lib.hid hE
  have H := Lib.hid h
  have HL := Lib.hid hlen
  clear hE h hlen
  go_enter Tryz.func304, Tryz.ntmps304
  go_wp2_with fail
  clear hb
  go_loopw [0, 11] (fun s v wr => ∃ (j : Nat) (b' : ByteArray), j ≤ vs.length ∧ v = .int .i64 (j : Int) ∧ s = .string b' ∧ InRow gc vs wr ∧ OrderWp Tryz.prog (InRow gc vs) Q (vs.drop j) b' wr) (fun _ v _ => vs.length - (intOf v).toNat)
  case atStart => exact ⟨0, b, Nat.zero_le _, rfl, rfl, HE.out, H.out⟩
  case round =>
    clear HE H
    obtain ⟨j, b', hj, rfl, rfl, hE, hO⟩ := hrel
    by_cases hlt : j < vs.length
    · have hlt' : (j : Int) < (vs.length : Int) := by omega
      have j0 : (0 : Int) ≤ (j : Int) := by omega
      have jb : (j : Int) ≤ 100 := by have := HL.out; omega
      have hc := hE j hlt
      have hd : vs.drop j = vs.getD j .nilFunc :: vs.drop (j + 1) := by
        rw [List.drop_eq_getElem_cons hlt]; simp [List.getD, List.getElem?_eq_getElem hlt]
      rw [hd] at hO
      obtain ⟨v, hv⟩ : ∃ v, vs.getD j .nilFunc = v := ⟨_, rfl⟩
      rw [hv] at hO hc
      have HO := Lib.hid (show Cut Tryz.prog v b' wr (fun ok r w' => InRow gc vs w' ∧ (if ok then OrderWp Tryz.prog (InRow gc vs) Q (vs.drop (j + 1)) r w' else Q false ⟨#[]⟩ w')) from hO)
      have HLT := Lib.hid hlt
      clear hO hd hv hE hj hlt
      go_wp2_with (with_reducible refine hold_callv rfl rfl ?_)
      refine wpl_callv (v := v) (args := #[.string b']) _ rfl rfl rfl (by simp [Act.eval]) HO.out Ans.ret ?_
      intro u w' hu
      obtain ⟨ok, r, hr, hE, hO⟩ := hu
      injection hr with hr
      subst hr
      cases ok
      · have HQ := Lib.hid (show Q false ⟨#[]⟩ w' from hO)
        clear hO hE
        go_wp2_with fail
        go_ret2
        exact ⟨false, ⟨#[]⟩, rfl, HQ.out⟩
      · have HO' := Lib.hid (show OrderWp Tryz.prog (InRow gc vs) Q (vs.drop (j + 1)) r w' from hO)
        have HE := Lib.hid hE
        clear hO hE
        go_wp2_with fail
        go_roundw
        case rel => exact ⟨j + 1, r, by have := HLT.out; omega, by go_num, rfl, HE.out, HO'.out⟩
        case measure => have := HLT.out; simp [intOf]; omega
    · have hlt' : ¬ (j : Int) < (vs.length : Int) := by omega
      rw [List.drop_of_length_le (by omega)] at hO
      have HQ := Lib.hid (show Q true b' wr from hO)
      clear hO hE hlt hj
      go_wp2_with fail
      go_ret2
      exact ⟨true, b', rfl, HQ.out⟩
end Go.Proofs.YthajnkcipifhcaaGreatDoor
end
section
open Go Go.RowKit
namespace JJ
abbrev Rq := Int × Int × ByteArray
def r0 : Rq := (0, 0, ⟨#[]⟩)
/-- client and number -/
def keyR (r : Rq) : Int × Int := (r.1, r.2.1)
/-- one more, if there are less than n, and none of its client and number -/
def onceStepN (n : Nat) (out : List Rq) (r : Rq) : List Rq := if out.length < n ∧ keyR r ∉ out.map keyR then out ++ [r] else out
/-- the first ones of each client and number, at most n -/
def onceN (n : Nat) (l : List Rq) : List Rq := l.foldl (onceStepN n) []
end JJ
end
section
open Go Go.RowKit
namespace BB
theorem run_copy_str {P : Program} {w : World} {dT sT ty e b N off dLen cap n : Nat} {f : Nat → Value} {s : ByteArray} (hU : (underlying dT).run P w = .ok (.slice e) w) (hS : (Go.sizeOf e).run P w = .ok 1 w)
    (hb : Blk w b N f) (hN : off + n ≤ N) (hn : n = min s.size dLen) :
    ∃ w', (Builtin.copy_ #[dT, sT] ty #[.slice (some ⟨b, off, none⟩) dLen cap, .string s]).run P w = .ok (.int .i64 (n : Int)) w' ∧
      MS w b N (fun j => if off ≤ j ∧ j < off + n then cb (sb s.data.toList) (j - off) else f j) w' := by
  obtain ⟨t, ht⟩ := hb
  have hl : (row n (cb (sb s.data.toList))).toList.length = n := by simp [row]
  have hst := run_storeCells_at P b off t (row n (cb (sb s.data.toList))).toList 0 (row N f) w ht (by rw [row_size, hl]; omega) (fun v hv => by
    simp only [row, List.mem_map, List.mem_range] at hv
    obtain ⟨i, hi, rfl⟩ := hv
    rfl)
  have hx := extract_row s n (by omega)
  refine ⟨w.setRow b (List.take off (row N f).toList ++ (row n (cb (sb s.data.toList))).toList ++ List.drop (off + n) (row N f).toList).toArray, ?_, ⟨t, ?_⟩, ?_⟩
  · rw [hl, Nat.add_zero] at hst
    have hmin : Nat.min s.size dLen = n := hn.symm
    unfold Builtin.copy_
    simp only [List.getElem?_toArray, List.getElem?_cons_zero, List.getElem?_cons_succ, Sem.run_bind, hU, Result.andThen_ok, Builtin.lenOf, Sem.run_pure, hS, Builtin.firstCells, hmin, hx, hst, goInt]
  · rw [← row_splice N n off f _ hN]; exact setRow_heap w b _ _ t _ ht
  · refine ⟨by simp [World.setRow], fun k hk => ?_, rfl, rfl, rfl⟩
    simp only [World.setRow, Array.getElem?_modify]
    rw [if_neg (fun h => hk h.symm)]
theorem run_slice_arr {P : Program} {w : World} {t n e b off lo : Nat} (hU : (underlying t).run P w = .ok (.array n e) w) (hS : (Go.sizeOf e).run P w = .ok 1 w) (hlo : lo < n) :
    (Instr.sliceAt t (.pointer (some ⟨b, off, none⟩)) (some (.int .i64 (lo : Int))) none none).run P w = .ok (.slice (some ⟨b, off + lo, none⟩) (n - lo) (n - lo)) w := by
  have h2 : ¬ n = lo := by omega
  have h3 : (⟨b, off, none⟩ : Addr).add lo = ⟨b, off + lo, none⟩ := by unfold Addr.add; split <;> simp [*]
  unfold Instr.sliceAt
  simp [hU, Instr.sureAddr, Instr.sliceBounds, Instr.sliceBound, asIntOf, hS, h2, h3]
  intro h; omega
theorem run_slice_all {P : Program} {w : World} {t n e b off : Nat} (hU : (underlying t).run P w = .ok (.array n e) w) (hS : (Go.sizeOf e).run P w = .ok 1 w) :
    (Instr.sliceAt t (.pointer (some ⟨b, off, none⟩)) none none none).run P w = .ok (.slice (some ⟨b, off, none⟩) n n) w := by
  have h3 : (⟨b, off, none⟩ : Addr).add 0 = ⟨b, off, none⟩ := by unfold Addr.add; simp
  unfold Instr.sliceAt
  simp [hU, Instr.sureAddr, Instr.sliceBounds, hS, h3]
section
variable {P : Program} {ops : Array Oper} {Q : Exit → Act → World → Prop} {a : Act} {w : World} {rest : List Oper} {o : Oper}
theorem wpl_copy_str {dT sT e : TypeId} (d s : Operand) (b off N dLen cap n : Nat) (f : Nat → Value) (str : ByteArray) (hg : o.guard = none)
    (ho : o.op = .call { callee := .builtin .copy, args := #[d, s], argTypes := #[dT, sT] }) (hd : a.eval d = .slice (some ⟨b, off, none⟩) dLen cap) (hs : a.eval s = .string str)
    (hU : (underlying dT).run P w = .ok (.slice e) w) (hS : (Go.sizeOf e).run P w = .ok 1 w) (hb : Blk w b N f) (hN : off + n ≤ N) (hn : n = min str.size dLen)
    (hK : ∀ w', MS w b N (fun j => if off ≤ j ∧ j < off + n then cb (sb str.data.toList) (j - off) else f j) w' → wpList P ops Q rest (a.put o.dst (.int .i64 (n : Int))) w') : wpList P ops Q (o :: rest) a w := by
  obtain ⟨w', h, hm⟩ := run_copy_str (ty := o.type) (cap := cap) (sT := sT) hU hS hb hN hn
  refine wpl_value hg ?_ (hK w' hm)
  simp [execOp, ho, resolve, invoke, builtin, hd, hs, h, Result.andThen]
theorem stl_slice {K : Act → Prop} {t n e : Nat} (x y : Operand) (b off lo : Nat) (hg : o.guard = none) (ho : o.op = .slice t x (some y) none none) (hx : a.eval x = .pointer (some ⟨b, off, none⟩)) (hy : a.eval y = .int .i64 (lo : Int))
    (hU : (underlying t).run P w = .ok (.array n e) w) (hS : (Go.sizeOf e).run P w = .ok 1 w) (hlo : lo < n)
    (hK : wpStill P ops w K rest (a.put o.dst (.slice (some ⟨b, off + lo, none⟩) (n - lo) (n - lo)))) : wpStill P ops w K (o :: rest) a := by
  refine stl_step hg ?_ hK
  have := run_slice_arr (P := P) (b := b) (off := off) hU hS hlo
  unfold execOp
  simp only [ho, Option.map_some, Option.map_none, hx, hy, Sem.run_bind, this, Result.andThen_ok, Sem.run_pure]
end
/-- a digest on its way: the words, the block that is being filled, how far, and how many bytes the blocks ahead had -/
structure St where
  h : Nat → BitVec 32
  B : Nat → Nat
  fl : Nat
  be : Nat
def St.next (s : St) : St := if s.fl = 64 then ⟨comp s.h s.B (s.be + 64) false, fun _ => 0, 0, s.be + 64⟩ else s
def St.add (s : St) (c : UInt8) : St := let t := s.next; ⟨t.h, put t.B t.fl c.toNat, t.fl + 1, t.be⟩
def St.feed (s : St) (l : List UInt8) : St := l.foldl St.add s
theorem St.feed_append (s : St) (l m : List UInt8) : s.feed (l ++ m) = (s.feed l).feed m := by simp [St.feed]
theorem St.feed_nil (s : St) : s.feed [] = s := rfl
theorem St.next_fl (s : St) (h : s.fl ≤ 64) : s.next.fl < 64 := by
  unfold St.next; split
  · show 0 < 64; omega
  · omega
theorem St.next_of (s : St) (h : s.fl < 64) : s.next = s := by unfold St.next; rw [if_neg (by omega)]
theorem St.feed_next (s : St) (h : s.fl ≤ 64) (m : List UInt8) (hm : m ≠ []) : s.feed m = s.next.feed m := by
  cases m with
  | nil => exact absurd rfl hm
  | cons c m =>
    show (s.add c).feed m = (s.next.add c).feed m
    have : s.next.add c = s.add c := by unfold St.add; rw [St.next_of s.next (St.next_fl s h)]
    rw [this]
theorem sb_cons (c : UInt8) (m : List UInt8) (i : Nat) : sb (c :: m) (i + 1) = sb m i := by simp [sb]
theorem St.feed_chunk (m : List UInt8) : ∀ (s : St), s.fl + m.length ≤ 64 → s.feed m = ⟨s.h, fun j => if s.fl ≤ j ∧ j < s.fl + m.length then sb m (j - s.fl) else s.B j, s.fl + m.length, s.be⟩ := by
  induction m with
  | nil =>
    intro s _
    have : (fun j => if s.fl ≤ j ∧ j < s.fl + ([] : List UInt8).length then sb [] (j - s.fl) else s.B j) = s.B := by
      funext j; rw [if_neg (by simp only [List.length_nil]; omega)]
    rw [this]; rfl
  | cons c m ih =>
    intro s hs
    simp only [List.length_cons] at hs
    have hn : s.next = s := St.next_of s (by omega)
    have ha : s.add c = ⟨s.h, put s.B s.fl c.toNat, s.fl + 1, s.be⟩ := by unfold St.add; rw [hn]
    show (s.add c).feed m = _
    rw [ih (s.add c) (by rw [ha]; show s.fl + 1 + m.length ≤ 64; omega), ha]
    simp only [List.length_cons, St.mk.injEq, true_and]
    refine ⟨?_, by omega, trivial⟩
    funext j
    by_cases h1 : j < s.fl
    · rw [if_neg (by omega), if_neg (by omega), put_other _ _ (by omega)]
    · by_cases h2 : j = s.fl
      · subst h2
        rw [if_neg (by omega), if_pos (by omega), put_same]; simp [sb]
      · by_cases h3 : j < s.fl + (m.length + 1)
        · rw [if_pos (by omega), if_pos (by omega)]
          obtain ⟨i, hi⟩ : ∃ i, j - s.fl = i + 1 := ⟨j - s.fl - 1, by omega⟩
          rw [hi, sb_cons]; congr 1; omega
        · rw [if_neg (by omega), if_neg (by omega), put_other _ _ h2]
/-- what holds of a digest on its way -/
structure St.Ok (s : St) (L : Nat) : Prop where
  fl : s.fl ≤ 64
  B : ∀ i, s.B i < 256
  tot : s.be + s.fl = L
theorem St.Ok.next {s : St} {L : Nat} (h : s.Ok L) : s.next.Ok L := by
  unfold St.next; split
  · exact ⟨by show 0 ≤ 64; omega, fun _ => by show 0 < 256; omega, by have := h.tot; show s.be + 64 + 0 = L; omega⟩
  · exact h
theorem St.Ok.add {s : St} {L : Nat} (h : s.Ok L) (c : UInt8) : (s.add c).Ok (L + 1) := by
  have hn := h.next
  have hf := St.next_fl s h.fl
  refine ⟨by show s.next.fl + 1 ≤ 64; omega, fun i => ?_, by have := hn.tot; show s.next.be + (s.next.fl + 1) = _; omega⟩
  show put s.next.B s.next.fl c.toNat i < 256
  unfold put; split
  · exact UInt8.toNat_lt _
  · exact hn.B i
theorem St.Ok.feed {s : St} {L : Nat} (h : s.Ok L) (m : List UInt8) : (s.feed m).Ok (L + m.length) := by
  induction m generalizing s L with
  | nil => exact h
  | cons c m ih =>
    have := ih (h.add c)
    simp only [List.length_cons]
    rw [show L + (m.length + 1) = L + 1 + m.length by omega]
    exact this
def sizeV : Value → Nat | .string r => r.size | _ => 0
end BB
end
section
open Go Go.RowKit
namespace BB
/-- the cells of a digest on its way -/
def dgc (h : Nat → BitVec 32) (B : Nat → Nat) (fl be : Nat) : Nat → Value := fun i =>
  if i < 8 then cw .u32 h i else if i < 72 then cb B (i - 8) else if i = 72 then .int .i64 (fl : Int) else .int .u64 (be : Int)
section
variable {b n : Nat} {f : Nat → Value} {w w1 w2 w3 : World}
end
section
variable {P : Program} {ops : Array Oper} {Q : Exit → Act → World → Prop} {a : Act} {w : World} {rest : List Oper} {o : Oper}
theorem stl_load_as {K : Act → Prop} {T : TypeId} (ad : Operand) (b off N m : Nat) (f g : Nat → Value) (hg : o.guard = none) (ho : o.op = .load T ad) (ha : a.eval ad = .pointer (some ⟨b, off, none⟩))
    (hT : (isAgg T).run P w = .ok true w) (hS : (Go.sizeOf T).run P w = .ok m w) (hb : Cells w b N f) (hN : off + m ≤ N) (e : ∀ i, i < m → f (off + i) = g i)
    (hK : wpStill P ops w K rest (a.put o.dst (.agg (row m g)))) : wpStill P ops w K (o :: rest) a :=
  stl_load ad b off N m f hg ho ha hT hS hb hN (by rw [row_congr m _ g e]; exact hK)
theorem wpl_load_as {T : TypeId} (ad : Operand) (b off N m : Nat) (f g : Nat → Value) (hg : o.guard = none) (ho : o.op = .load T ad) (ha : a.eval ad = .pointer (some ⟨b, off, none⟩))
    (hT : (isAgg T).run P w = .ok true w) (hS : (Go.sizeOf T).run P w = .ok m w) (hb : Cells w b N f) (hN : off + m ≤ N) (e : ∀ i, i < m → f (off + i) = g i)
    (hK : wpList P ops Q rest (a.put o.dst (.agg (row m g))) w) : wpList P ops Q (o :: rest) a w :=
  wpl_load ad b off N m f hg ho ha hT hS hb hN (by rw [row_congr m _ g e]; exact hK)
end
theorem dgc_w (h : Nat → BitVec 32) (B : Nat → Nat) (fl be : Nat) : ∀ i, i < 8 → dgc h B fl be (0 + i) = cw .u32 h i := fun i hi => by simp [dgc, hi]
theorem dgc_b (h : Nat → BitVec 32) (B : Nat → Nat) (fl be : Nat) : ∀ i, i < 64 → dgc h B fl be (8 + i) = cb B i := fun i hi => by
  unfold dgc; rw [if_neg (by omega), if_pos (by omega)]; congr 1; omega
theorem dgc_put_be (h : Nat → BitVec 32) (B : Nat → Nat) (fl be x : Nat) : ∀ i, i < 74 → put (dgc h B fl be) 73 (.int .u64 (x : Int)) i = dgc h B fl x i := fun i hi => by
  unfold put dgc
  by_cases e : i = 73
  · subst e; simp
  · rw [if_neg e]; split; rfl; split; rfl; split; rfl; omega
theorem dgc_put_fl (h : Nat → BitVec 32) (B : Nat → Nat) (fl be x : Nat) : ∀ i, i < 74 → put (dgc h B fl be) 72 (.int .i64 (x : Int)) i = dgc h B x be i := fun i hi => by
  unfold put dgc
  by_cases e : i = 72
  · subst e; simp
  · simp only [if_neg e]
theorem dgc_set_w (h h' : Nat → BitVec 32) (B : Nat → Nat) (fl be : Nat) : ∀ i, i < 74 → (if 0 ≤ i ∧ i < 0 + 8 then cw .u32 h' (i - 0) else dgc h B fl be i) = dgc h' B fl be i := fun i hi => by
  unfold dgc
  by_cases e : i < 8
  · simp [e]
  · rw [if_neg (by omega), if_neg e, if_neg e]
theorem dgc_set_b (h : Nat → BitVec 32) (B B' : Nat → Nat) (fl be : Nat) : ∀ i, i < 74 → (if 8 ≤ i ∧ i < 8 + 64 then cb B' (i - 8) else dgc h B fl be i) = dgc h B' fl be i := fun i hi => by
  unfold dgc
  by_cases e : 8 ≤ i ∧ i < 72
  · rw [if_pos (by omega), if_neg (by omega), if_pos (by omega)]
  · simp only [show ¬ (8 ≤ i ∧ i < 8 + 64) by omega, if_false]
    by_cases e1 : i < 8
    · simp [e1]
    · have e2 : ¬ i < 72 := by omega
      simp [e1, e2]
end BB
namespace Go.Proofs.YthajnkcipifhcaaGreatDoor
open BB
/-- a block that is none of the tables' -/
def NoTab (b : Nat) : Prop := b ≠ 0 ∧ b ≠ 1 ∧ b ≠ 2
theorem Tabs.keep {w w' : World} {b : Nat} (h : Tabs w) (hk : Keep b w w') (hb : NoTab b) : Tabs w' :=
  ⟨h.iv.keep hk h.l1 (Ne.symm hb.1), h.sg.keep hk h.l2 (Ne.symm hb.2.1), h.pl.keep hk h.l3 (Ne.symm hb.2.2), Nat.lt_of_lt_of_le h.l1 hk.size, Nat.lt_of_lt_of_le h.l2 hk.size, Nat.lt_of_lt_of_le h.l3 hk.size⟩
set_option maxRecDepth 100000 in
set_option maxHeartbeats 1000000 in
theorem next_any (b : Nat) (h : Nat → BitVec 32) (B : Nat → Nat) (hB : ∀ i, B i < 256) (fl be : Nat) (hbe : be + 64 < 18446744073709551616) (w : World) (hd : Blk w b 74 (dgc h B fl be)) (hT : Tabs w) (hb : NoTab b) :
    Calls Tryz.prog 238 #[.pointer (some ⟨b, 0, none⟩)] w fun e w' => e = .returned (.tuple #[]) ∧ Keep b w w' ∧ Blk w' b 74 (dgc (comp h B (be + 64) false) (fun _ => 0) 0 (be + 64)) := by
  have HB := Lib.hid hB
  have HT := Lib.hid hT
  have HN := Lib.hid hbe
  have HT' := Lib.hid hb
  have HD := Lib.hid hd
  have c73 : w.cell? ⟨b, 73, none⟩ = some (.int .u64 (be : Int)) := hd.get 73 (by omega)
  have f73 := hd.frz 73
  have w73 : IntKind.u64.wrap ((be : Int) + 64) = (be : Int) + 64 := by rw [IntKind.wrap_u64]; omega
  clear hB hT hbe hd hb
  go_enter Tryz.func238, Tryz.ntmps238
  go_wp2_with fail
  refine abs_wp (fun w' => Keep b w w' ∧ Blk w' b 74 (dgc h B fl (be + 64))) ⟨(Upd.set _ _ _ _).keep, ((HD.out.set 73 _).congr _ (dgc_put_be h B fl be (be + 64)))⟩ ?_
  clear c73 f73 w73
  rintro w1 ⟨k1, d1⟩
  refine order_abs [0] [1, 2, 3, 4, 5, 6, 7, 8, 9, 10, 11, 12] 13 [14, 15, 16] (by kernel_rfl) (by kernel_rfl) (fun _ _ d _ _ h => by cases d <;> exact h) fun w2 hs => ?_
  simp only [pick, List.filterMap, List.getElem?_toArray, List.getElem?_cons_zero, List.getElem?_cons_succ]
  refine ⟨_, Or.inl ⟨by rfl, fun _ => rfl⟩, ?_⟩
  have k2 := k1.trans (hs.upd b).keep
  have d2 := d1.same hs
  have c73 : w2.cell? ⟨b, 73, none⟩ = some (.int .u64 ((be + 64 : Nat) : Int)) := d2.get 73 (by omega)
  clear hs k1 d1
  clear w1
  have D2 := Lib.hid d2
  clear d2
  repeat still_step
  refine stl_load_as (.tmp 12) b 0 74 8 _ (cw .u32 h) rfl rfl rfl (agg_w8 _) (size_w8 _) D2.out.cells (by omega) (dgc_w h B fl (be + 64)) ?_
  repeat still_step
  refine stl_load_as (.tmp 16) b 8 74 64 _ (cb B) rfl rfl rfl (agg_b64 _) (size_b64 _) D2.out.cells (by omega) (dgc_b h B fl (be + 64)) ?_
  repeat still_step
  refine wpStill_nil ?_
  clear c73
  go_wp2_with (first
    | (go_at_call 239; refine (mixed_any h B HB.out (be + 64) HN.out false _ (HT.out.keep k2 HT'.out)).mono ?_; rintro e w3 ⟨rfl, hb3⟩)
    | with_reducible refine hold_store (.tmp 24) (.tmp 22) rfl ?_)
  refine wpl_store (.tmp 24) (.tmp 22) b 0 74 8 (dgc h B fl (be + 64)) (cw .u32 (comp h B (be + 64) false)) rfl rfl rfl rfl (size_w8 _) (D2.out.below hb3 D2.out.lt) (by omega) (fun _ _ => rfl) ?_
  intro w4 h4
  have k4 := (k2.trans (keep_of_below hb3 (Nat.le_refl _) b)).trans h4.2.keep
  have D4 := Lib.hid (h4.1.congr (dgc (comp h B (be + 64) false) B fl (be + 64)) (dgc_set_w h (comp h B (be + 64) false) B fl (be + 64)))
  clear h4 hb3 D2 k2
  clear w2 w3
  go_wp2_with (with_reducible refine hold_store (.tmp 28) (.tmp 26) rfl ?_)
  refine wpl_store (.tmp 28) (.tmp 26) b 8 74 64 (dgc (comp h B (be + 64) false) B fl (be + 64)) (cb fun _ => 0) rfl rfl rfl rfl (size_b64 _) D4.out (by omega) (fun _ _ => rfl) ?_
  intro w5 h5
  have k5 := k4.trans h5.2.keep
  have D5 := Lib.hid (h5.1.congr (dgc (comp h B (be + 64) false) (fun _ => 0) fl (be + 64)) (dgc_set_b (comp h B (be + 64) false) B (fun _ => 0) fl (be + 64)))
  clear h5 D4 k4
  clear w4
  have c72 : w5.cell? ⟨b, 72, none⟩ = some (.int .i64 (fl : Int)) := D5.out.get 72 (by omega)
  have f72 := D5.out.frz 72
  go_wp2_with fail
  go_end0
  exact ⟨rfl, k5.trans (Upd.set _ _ _ _).keep, (D5.out.set 72 _).congr _ (dgc_put_fl _ _ _ _ 0)⟩
end Go.Proofs.YthajnkcipifhcaaGreatDoor
end
section
open Go Go.RowKit
namespace Go.Proofs.YthajnkcipifhcaaGreatDoor
open BB
/-- block b is the digest s -/
def Dg (w : World) (b : Nat) (s : St) : Prop := Blk w b 74 (dgc s.h s.B s.fl s.be)
theorem Dg.fl {w : World} {b : Nat} {s : St} (h : Dg w b s) : w.cell? ⟨b, 72, none⟩ = some (.int .i64 (s.fl : Int)) := h.get 72 (by omega)
theorem under_bytes (w : World) : (underlying 99).run Tryz.prog w = .ok (.slice 5) w := by kernel_rfl
theorem under_b64 (w : World) : (underlying 270).run Tryz.prog w = .ok (.array 64 5) w := by kernel_rfl
theorem size_byte (w : World) : (Go.sizeOf 5).run Tryz.prog w = .ok 1 w := by kernel_rfl
theorem extract_drop (r str : ByteArray) (k n : Nat) (hr : r.data.toList = str.data.toList.drop k) : (r.extract n r.size).data.toList = str.data.toList.drop (k + n) := by
  have : (r.extract n r.size).data = r.data.extract n r.size := by simp
  rw [this, Array.toList_extract, List.extract_eq_take_drop, hr, List.drop_drop]
  apply List.take_of_length_le
  have h1 : r.data.toList.length = (str.data.toList.drop k).length := by rw [hr]
  simp only [List.length_drop, Array.length_toList] at h1 ⊢
  show _ ≤ r.data.size - n
  omega
theorem sb_take (l : List UInt8) (n i : Nat) (h : i < n) : sb (l.take n) i = sb l i := by simp [sb, h]
theorem dgc_chunk (h : Nat → BitVec 32) (B : Nat → Nat) (fl be n : Nat) (l : List UInt8) (hn : fl + n ≤ 64) : ∀ i, i < 74 →
    put (fun j => if 8 + fl ≤ j ∧ j < 8 + fl + n then cb (sb l) (j - (8 + fl)) else dgc h B fl be j) 72 (.int .i64 ((fl : Int) + (n : Int))) i =
      dgc h (fun j => if fl ≤ j ∧ j < fl + n then sb (l.take n) (j - fl) else B j) (fl + n) be i := fun i hi => by
  by_cases e : i = 72
  · subst e; rw [put_same]; simp [dgc]
  · rw [put_other _ _ e]
    by_cases h1 : 8 + fl ≤ i ∧ i < 8 + fl + n
    · rw [if_pos h1]
      unfold dgc
      rw [if_neg (by omega), if_pos (by omega)]
      unfold cb
      dsimp only
      rw [if_pos (by omega), sb_take _ _ _ (by omega), show i - (8 + fl) = i - 8 - fl by omega]
    · rw [if_neg h1]
      unfold dgc
      by_cases h2 : i < 8
      · simp [h2]
      · by_cases h3 : i < 72
        · rw [if_neg h2, if_pos h3, if_neg h2, if_pos h3]
          unfold cb
          dsimp only
          rw [if_neg (by omega)]
        · rw [if_neg h2, if_neg h3, if_neg e, if_neg h2, if_neg h3, if_neg e]
theorem write_step {r str : ByteArray} {k n b : Nat} {s S T : St} {w4 w5 : World} (hr : r.data.toList = str.data.toList.drop k) (hS : S = s.feed (str.data.toList.take k)) (hT : T = S.next) (hfl : S.fl ≤ 64)
    (hn : n = min r.size (64 - T.fl)) (h0 : 0 < n) (hnr : n ≤ r.size) (h64 : T.fl < 64)
    (h5 : MS w4 b 74 (put (fun j => if 8 + T.fl ≤ j ∧ j < 8 + T.fl + n then cb (sb r.data.toList) (j - (8 + T.fl)) else dgc T.h T.B T.fl T.be j) 72 (.int .i64 ((T.fl : Int) + (n : Int)))) w5) :
    Dg w5 b (s.feed (str.data.toList.take (k + n))) := by
  have hl : (r.data.toList.take n).length = n := by
    rw [List.length_take, Array.length_toList]; exact Nat.min_eq_left hnr
  have hne : r.data.toList.take n ≠ [] := fun e => by rw [e] at hl; simp at hl; omega
  have e1 : s.feed (str.data.toList.take (k + n)) = T.feed (r.data.toList.take n) := by
    rw [List.take_add, St.feed_append, ← hS, ← hr, St.feed_next S hfl _ hne, ← hT]
  rw [e1, St.feed_chunk _ T (by rw [hl]; omega), hl]
  exact h5.1.congr _ (dgc_chunk T.h T.B T.fl T.be n r.data.toList (by omega))
set_option maxRecDepth 100000 in
set_option maxHeartbeats 1000000 in
theorem write_any (b : Nat) (s : St) (L : Nat) (hs : s.Ok L) (str : ByteArray) (hl : L + str.size < 4611686018427387904) (w : World) (hd : Dg w b s) (hT : Tabs w) (hb : NoTab b) :
    Calls Tryz.prog 180 #[.pointer (some ⟨b, 0, none⟩), .string str] w fun e w' => e = .returned (.tuple #[]) ∧ Keep b w w' ∧ Dg w' b (s.feed str.data.toList) := by
  have HS := Lib.hid hs
  have HL := Lib.hid hl
  have HD := Lib.hid hd
  have HT := Lib.hid hT
  have HB := Lib.hid hb
  clear hs hl hd hT hb
  go_enter Tryz.func180, Tryz.ntmps180
  go_wp2_with fail
  go_loopw [1] (fun bs wr => ∃ (k : Nat) (r : ByteArray), k ≤ str.size ∧ bs = .string r ∧ r.data.toList = str.data.toList.drop k ∧ Keep b w wr ∧ Dg wr b (s.feed (str.data.toList.take k))) (fun bs _ => sizeV bs)
  case atStart => exact ⟨0, str, by omega, rfl, by simp, Keep.refl _ _, by simpa [St.feed_nil] using HD.out⟩
  case round =>
    obtain ⟨k, r, hk, rfl, hr, hkeep, hdg⟩ := hrel
    have hsz : r.size = str.size - k := by
      have := congrArg List.length hr
      simpa using this
    have ok := HS.out.feed (str.data.toList.take k)
    have hlen : (str.data.toList.take k).length = k := by simp; omega
    rw [hlen] at ok
    obtain ⟨S, hS⟩ : ∃ S, S = s.feed (str.data.toList.take k) := ⟨_, rfl⟩
    rw [← hS] at hdg ok
    have HR := Lib.hid hr
    have HSS := Lib.hid hS
    have HZ := Lib.hid hsz
    have HDG := Lib.hid hdg
    have OK := Lib.hid ok
    clear hr hS hlen ok
    by_cases hz : k < str.size
    · have hr0 : (0 : Int) < (r.size : Int) := by omega
      have hr1 : (r.size : Int) ≤ 4611686018427387904 := by have := HL.out; omega
      have c72 := hdg.fl
      clear hsz hdg
      by_cases hf : S.fl = 64
      · have hf' : ((S.fl : Int) == 64) = true := by rw [hf]; rfl
        have hbe : S.be + 64 < 18446744073709551616 := by have := OK.out.tot; have := HL.out; omega
        have HF := Lib.hid hf
        have CALL := Lib.hid (next_any b S.h S.B OK.out.B S.fl S.be hbe wr)
        clear hf hbe
        go_wp2_with (go_at_call 238; refine (CALL.out HDG.out (HT.out.keep hkeep HB.out) HB.out).mono ?_; rintro e w1 ⟨rfl, hk1, hd1⟩)
        clear c72
        refine abs_wp (fun w' => Keep b w w' ∧ Dg w' b S.next) ⟨hkeep.trans hk1, by unfold St.next; rw [if_pos HF.out]; exact hd1⟩ ?_
        clear hd1 hk1 CALL
        clear w1
        rintro w2 ⟨hk2, hd2⟩
        have hT64 := St.next_fl S OK.out.fl
        have HNX := Lib.hid OK.out.next
        obtain ⟨T, hT⟩ : ∃ T, T = S.next := ⟨_, rfl⟩
        rw [← hT] at hd2 hT64
        rw [← hT] at HNX
        have HTT := Lib.hid hT
        clear hT
        have hT64' : (T.fl : Int) < 64 := by omega
        refine tail_abs 9 (by kernel_rfl) (by kernel_rfl) fun w3 hs3 => ?_
        simp only [List.take_succ_cons, List.take_zero, List.drop_succ_cons, List.drop_zero]
        have d3 : Dg w3 b T := hd2.same hs3
        have k3 := hk2.trans (hs3.upd b).keep
        have c72 := d3.fl
        have D3 := Lib.hid d3
        clear hs3 hk2 hd2 d3 hf'
        clear w2
        repeat still_step
        refine stl_slice (.tmp 17) (.tmp 21) b 8 T.fl rfl rfl rfl rfl (under_b64 _) (size_byte _) hT64 ?_
        repeat still_step
        refine wpStill_nil ?_
        obtain ⟨n, hn⟩ : ∃ n, n = min r.size (64 - T.fl) := ⟨_, rfl⟩
        refine wpl_copy_str (.tmp 22) (.tmp 23) b (8 + T.fl) 74 (64 - T.fl) (64 - T.fl) n (dgc T.h T.B T.fl T.be) r rfl rfl rfl rfl (under_bytes _) (size_byte _) D3.out (by omega) hn ?_
        intro w4 h4
        have c4 : w4.cell? ⟨b, 72, none⟩ = some (.int .i64 (T.fl : Int)) := by
          have := h4.1.get 72 (by omega)
          rw [if_neg (by omega)] at this
          exact this
        have f4 := h4.1.frz 72
        have n1 : (n : Int) ≤ 64 := by omega
        have n2 : 0 < n := by omega
        have n3 : (n : Int) ≤ (r.size : Int) := by omega
        have n4 : n ≤ r.size := by omega
        have s4 : IntKind.i64.wrap ((T.fl : Int) + (n : Int)) = (T.fl : Int) + (n : Int) := IntWalk.i64_in _ (by omega)
        have HN := Lib.hid hn
        clear hn c72
        have D5 := write_step HR.out HSS.out HTT.out OK.out.fl HN.out n2 n4 hT64 (h4.set 72 (.int .i64 ((T.fl : Int) + (n : Int))))
        go_wp2_with fail
        have e1 := extract_drop r str k n HR.out
        have e2 : (r.extract n r.size).size < r.size := by rw [ByteArray.size_extract]; omega
        refine ⟨⟨k + n, r.extract n r.size, by have := HZ.out; omega, rfl, e1, (k3.trans h4.2.keep).trans (Upd.set _ _ _ _).keep, D5⟩, e2⟩
      · have hf' : ((S.fl : Int) == 64) = false := by
          rw [beq_eq_false_iff_ne]; omega
        have HF := Lib.hid hf
        clear hf
        go_wp2_with fail
        clear c72
        refine abs_wp (fun w' => Keep b w w' ∧ Dg w' b S.next) ⟨hkeep, by unfold St.next; rw [if_neg HF.out]; exact HDG.out⟩ ?_
        rintro w2 ⟨hk2, hd2⟩
        have hT64 := St.next_fl S OK.out.fl
        have HNX := Lib.hid OK.out.next
        obtain ⟨T, hT⟩ : ∃ T, T = S.next := ⟨_, rfl⟩
        rw [← hT] at hd2 hT64
        rw [← hT] at HNX
        have HTT := Lib.hid hT
        clear hT
        have hT64' : (T.fl : Int) < 64 := by omega
        refine tail_abs 9 (by kernel_rfl) (by kernel_rfl) fun w3 hs3 => ?_
        simp only [List.take_succ_cons, List.take_zero, List.drop_succ_cons, List.drop_zero]
        have d3 : Dg w3 b T := hd2.same hs3
        have k3 := hk2.trans (hs3.upd b).keep
        have c72 := d3.fl
        have D3 := Lib.hid d3
        clear hs3 hk2 hd2 d3 hf'
        clear w2
        repeat still_step
        refine stl_slice (.tmp 17) (.tmp 21) b 8 T.fl rfl rfl rfl rfl (under_b64 _) (size_byte _) hT64 ?_
        repeat still_step
        refine wpStill_nil ?_
        obtain ⟨n, hn⟩ : ∃ n, n = min r.size (64 - T.fl) := ⟨_, rfl⟩
        refine wpl_copy_str (.tmp 22) (.tmp 23) b (8 + T.fl) 74 (64 - T.fl) (64 - T.fl) n (dgc T.h T.B T.fl T.be) r rfl rfl rfl rfl (under_bytes _) (size_byte _) D3.out (by omega) hn ?_
        intro w4 h4
        have c4 : w4.cell? ⟨b, 72, none⟩ = some (.int .i64 (T.fl : Int)) := by
          have := h4.1.get 72 (by omega)
          rw [if_neg (by omega)] at this
          exact this
        have f4 := h4.1.frz 72
        have n1 : (n : Int) ≤ 64 := by omega
        have n2 : 0 < n := by omega
        have n3 : (n : Int) ≤ (r.size : Int) := by omega
        have n4 : n ≤ r.size := by omega
        have s4 : IntKind.i64.wrap ((T.fl : Int) + (n : Int)) = (T.fl : Int) + (n : Int) := IntWalk.i64_in _ (by omega)
        have HN := Lib.hid hn
        clear hn c72
        have D5 := write_step HR.out HSS.out HTT.out OK.out.fl HN.out n2 n4 hT64 (h4.set 72 (.int .i64 ((T.fl : Int) + (n : Int))))
        go_wp2_with fail
        have e1 := extract_drop r str k n HR.out
        have e2 : (r.extract n r.size).size < r.size := by rw [ByteArray.size_extract]; omega
        refine ⟨⟨k + n, r.extract n r.size, by have := HZ.out; omega, rfl, e1, (k3.trans h4.2.keep).trans (Upd.set _ _ _ _).keep, D5⟩, e2⟩
    · have hr0 : ¬ (0 : Int) < (r.size : Int) := by omega
      clear hsz
      go_wp2_with fail
      go_end0
      refine ⟨rfl, hkeep, ?_⟩
      have := HDG.out
      rw [HSS.out, List.take_of_length_le (by simp; omega)] at this
      exact this
end Go.Proofs.YthajnkcipifhcaaGreatDoor
end
section
open Go Go.RowKit
namespace JJ
open BB WW
/-- two boxes -/
structure BS (w : World) (g : Nat) (cs : List Value) (y : Nat) (ds : List Value) (w' : World) : Prop where
  a : BoxAt w g cs w'
  b : ∀ i u, ds[i]? = some u → w'.cell? ⟨y, i, none⟩ = some u
  lt : y < w'.heap.size
theorem BS.on {w : World} {g y : Nat} {cs ds : List Value} {w1 w2 : World} (h : BS w g cs y ds w1) (hb : Below w1.heap.size w1 w2) : BS w g cs y ds w2 :=
  ⟨h.a.on hb, fun i u hu => (hb.cell (p := ⟨y, i, none⟩) h.lt).trans (h.b i u hu), Nat.lt_of_lt_of_le h.lt hb.size⟩
theorem BS.same {w : World} {g y : Nat} {cs ds : List Value} {w1 w2 : World} (h : BS w g cs y ds w1) (hs : Same w1 w2) : BS w g cs y ds w2 := h.on (hs.below _)
end JJ
end
section
open Go Go.RowKit
namespace ZZ
open WW BB
section
variable {P : Program} {ops : Array Oper} {Q : Exit → Act → World → Prop} {a : Act} {w : World} {rest : List Oper} {o : Oper}
/-- a function's value, called with args: what is bound comes ahead, what is captured behind -/
def CallsW (P : Program) (v : Value) (args : Array Value) (w : World) (R : Ending → World → Prop) : Prop :=
  ∃ k first env, v = .func (.func k) first env ∧ Own P k ∧ Calls P k (first ++ args ++ env) w R
theorem CallsW.mono {v : Value} {args : Array Value} {R R' : Ending → World → Prop} (h : CallsW P v args w R) (hR : ∀ e w', R e w' → R' e w') : CallsW P v args w R' := by
  obtain ⟨k, f, env, hv, ho, hc⟩ := h
  exact ⟨k, f, env, hv, ho, hc.mono hR⟩
theorem run_enterW {x : Operand} {xs : Array Operand} {tys : Array TypeId} {k : Nat} {first env : Array Value} (ho : o.op = .call { callee := .value x, args := xs, argTypes := tys }) (hx : a.eval x = .func (.func k) first env) (hk : Own P k) :
    (execOp a.eval o).run P w = .ok (.enter k (first ++ xs.map a.eval ++ env)) w := by
  obtain ⟨fn, h1, h2, h3⟩ := hk
  have h2' : ¬ fn.name = "runtime.NumGoroutine" := by simpa using h2
  have h3' : ¬ fn.body = none := by intro h; rw [h] at h3; cases h3
  unfold execOp
  simp [ho, resolve, hx, Deferred.ofValue, invoke, callFunc, h1, h2', h3', Result.andThen]
theorem wpl_callw {x : Operand} {xs : Array Operand} {tys : Array TypeId} (v : Value) (args : Array Value) (R : Ending → World → Prop) (hg : o.guard = none) (ho : o.op = .call { callee := .value x, args := xs, argTypes := tys })
    (hx : a.eval x = v) (has : xs.map a.eval = args) (hc : CallsW P v args w R) (hR : ∀ e w', R e w' → ∃ u, e = .returned u)
    (hK : ∀ u w', R (.returned u) w' → wpList P ops Q rest (a.put o.dst u) w') : wpList P ops Q (o :: rest) a w := by
  obtain ⟨k, f, env, hv, hk, hc⟩ := hc
  refine wpList_plain hg fun K hK' => ?_
  have hrun := run_enterW (P := P) (w := w) (o := o) (a := a) ho (hx.trans hv) hk
  unfold Oper.wp
  rw [hrun, has]
  refine hc.mono fun e w' hr => ?_
  obtain ⟨u, rfl⟩ := hR e w' hr
  exact hK' _ _ (hK u w' hr)
end
end ZZ
end
