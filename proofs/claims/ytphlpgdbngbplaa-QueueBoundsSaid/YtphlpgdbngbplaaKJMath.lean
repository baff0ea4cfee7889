/-
  Requests, each client's number once: lists alone (layer 6). No walk is here.
-/
import Derived.Test.YtphlpgdbngbplaaKWords
import Derived.Laws.CopyOwn
import Derived.Laws.MakeOwn
import Derived.Deep.OwnRows
import Derived.Test.YtphlpgdbngbplaaChecked
import Derived.Test.YtphlpgdbngbplaaRows
section
open Go Go.RowKit
namespace BB
/-- a list's bytes, by their places -/
def sb (l : List UInt8) (i : Nat) : Nat := (l.getD i 0).toNat
theorem sb_lt (l : List UInt8) (i : Nat) : sb l i < 256 := UInt8.toNat_lt _
theorem extract_row (s : ByteArray) (n : Nat) (h : n ≤ s.size) : Array.map (fun b : UInt8 => Value.int .u8 (b.toNat : Int)) (s.extract 0 n).data = row n (cb (sb s.data.toList)) := by
  apply Array.ext_getElem?
  intro j
  have hs : (s.extract 0 n).data = s.data.extract 0 n := by simp
  rw [hs, Array.getElem?_map, Array.getElem?_extract]
  by_cases hj : j < n
  · have hj' : j < s.data.size := Nat.lt_of_lt_of_le hj h
    rw [row_get _ _ _ hj, if_pos (by simp; omega)]
    simp only [cb, sb, List.getD_eq_getElem?_getD, Array.getElem?_toList, Nat.zero_add, Array.getElem?_eq_getElem hj', Option.map_some, Option.getD_some]
  · have h2 : (row n (cb (sb s.data.toList)))[j]? = none := by rw [Array.getElem?_eq_none]; rw [row_size]; omega
    rw [h2, if_neg (by simp; omega)]; rfl
/-- but for block b, what there was is as it was -/
structure Keep (b : Nat) (w w' : World) : Prop where
  size : w.heap.size ≤ w'.heap.size
  block : ∀ k, k < w.heap.size → k ≠ b → w'.heap[k]? = w.heap[k]?
  tape : w'.tape = w.tape
  os : w'.os = w.os
  output : w'.output = w.output
section
variable {b n : Nat} {f : Nat → Value} {w w1 w2 w3 : World}
theorem Keep.refl (b : Nat) (w : World) : Keep b w w := ⟨Nat.le_refl _, fun _ _ _ => rfl, rfl, rfl, rfl⟩
theorem Keep.trans (h : Keep b w1 w2) (k : Keep b w2 w3) : Keep b w1 w3 :=
  ⟨Nat.le_trans h.size k.size, fun i hi hb => (k.block i (Nat.lt_of_lt_of_le hi h.size) hb).trans (h.block i hi hb), k.tape.trans h.tape, k.os.trans h.os, k.output.trans h.output⟩
theorem Upd.keep (h : Upd b w1 w2) : Keep b w1 w2 := ⟨by rw [h.size]; exact Nat.le_refl _, fun k _ hb => h.block k hb, h.tape, h.os, h.output⟩
theorem keep_of_below {B : Nat} (h : Below B w1 w2) (hB : w1.heap.size ≤ B) (b : Nat) : Keep b w1 w2 := ⟨h.size, fun k hk _ => h.block k (Nat.lt_of_lt_of_le hk hB), h.tape, h.os, h.output⟩
theorem Keep.below (h : Keep b w1 w2) {B : Nat} (hB : B ≤ b) (hs : B ≤ w1.heap.size) : Below B w1 w2 := ⟨h.os, h.tape, h.output, h.size, fun k hk => h.block k (by omega) (by omega)⟩
theorem Blk.keep {c : Nat} (h : Blk w1 c n f) (hk : Keep b w1 w2) (hc : c ≠ b) : Blk w2 c n f := h.of_heap (hk.block c h.lt hc)
theorem Cells.keep {c : Nat} (h : Cells w1 c n f) (hk : Keep b w1 w2) (hl : c < w1.heap.size) (hc : c ≠ b) : Cells w2 c n f := fun i hi => (World.cell?_of_block (w := w1) (hk.block c hl hc)).trans (h i hi)
end
/-- block b is n cells, f, of type t -/
def TBlk (t : TypeId) (w : World) (b n : Nat) (f : Nat → Value) : Prop := w.heap[b]? = some (.cells (row n f) t (0, 0))
theorem run_copy_str_t {P : Program} {w : World} {dT sT ty e t b N off dLen cap n : Nat} {f : Nat → Value} {s : ByteArray} (hU : (underlying dT).run P w = .ok (.slice e) w) (hS : (Go.sizeOf e).run P w = .ok 1 w)
    (ht : TBlk t w b N f) (hN : off + n ≤ N) (hn : n = min s.size dLen) :
    ∃ w', (Builtin.copy_ #[dT, sT] ty #[.slice (some ⟨b, off, none⟩) dLen cap, .string s]).run P w = .ok (.int .i64 (n : Int)) w' ∧
      TBlk t w' b N (fun j => if off ≤ j ∧ j < off + n then cb (sb s.data.toList) (j - off) else f j) ∧ Upd b w w' := by
  unfold TBlk at ht
  have hl : (row n (cb (sb s.data.toList))).toList.length = n := by simp [row]
  have hst := run_storeCells_at P b off t (row n (cb (sb s.data.toList))).toList 0 (row N f) w ht (by rw [row_size, hl]; omega) (fun v hv => by
    simp only [row, List.mem_map, List.mem_range] at hv
    obtain ⟨i, hi, rfl⟩ := hv
    rfl)
  have hx := extract_row s n (by omega)
  refine ⟨w.setRow b (List.take off (row N f).toList ++ (row n (cb (sb s.data.toList))).toList ++ List.drop (off + n) (row N f).toList).toArray, ?_, ?_, ?_⟩
  · rw [hl, Nat.add_zero] at hst
    have hmin : Nat.min s.size dLen = n := hn.symm
    unfold Builtin.copy_
    simp only [List.getElem?_toArray, List.getElem?_cons_zero, List.getElem?_cons_succ, Sem.run_bind, hU, Result.andThen_ok, Builtin.lenOf, Sem.run_pure, hS, Builtin.firstCells, hmin, hx, hst, goInt]
  · unfold TBlk; rw [← row_splice N n off f _ hN]; exact setRow_heap w b _ _ t _ ht
  · refine ⟨by simp [World.setRow], fun k hk => ?_, rfl, rfl, rfl⟩
    simp only [World.setRow, Array.getElem?_modify]
    rw [if_neg (fun h => hk h.symm)]
theorem wpl_copy_str_t {P : Program} {ops : Array Oper} {Q : Exit → Act → World → Prop} {a : Act} {w : World} {rest : List Oper} {o : Oper} {dT sT e t : TypeId} (d s : Operand) (b off N dLen cap n : Nat) (f : Nat → Value) (str : ByteArray) (hg : o.guard = none)
    (ho : o.op = .call { callee := .builtin .copy, args := #[d, s], argTypes := #[dT, sT] }) (hd : a.eval d = .slice (some ⟨b, off, none⟩) dLen cap) (hs : a.eval s = .string str)
    (hU : (underlying dT).run P w = .ok (.slice e) w) (hS : (Go.sizeOf e).run P w = .ok 1 w) (hb : TBlk t w b N f) (hN : off + n ≤ N) (hn : n = min str.size dLen)
    (hK : ∀ w', TBlk t w' b N (fun j => if off ≤ j ∧ j < off + n then cb (sb str.data.toList) (j - off) else f j) ∧ Upd b w w' → wpList P ops Q rest (a.put o.dst (.int .i64 (n : Int))) w') : wpList P ops Q (o :: rest) a w := by
  obtain ⟨w', h, hm⟩ := run_copy_str_t (ty := o.type) (cap := cap) (sT := sT) hU hS hb hN hn
  refine wpl_value hg ?_ (hK w' hm)
  simp [execOp, ho, resolve, invoke, builtin, hd, hs, h, Result.andThen]
theorem TBlk.new' (w : World) (n b : Nat) (f : Nat → Value) (cs : Array Value) (t : TypeId) (hb : b = w.heap.size) (e : cs = row n f) : TBlk t (w.alloc (.cells cs t)) b n f := by
  subst hb e; show (w.heap.push _)[w.heap.size]? = _; simp
theorem hold_make {P : Program} {ops : Array Oper} {Q : Exit → Act → World → Prop} {a : Act} {w : World} {rest : List Oper} {o : Oper} {T : TypeId} {x y : Operand} (_ho : o.op = .makeSlice T x y) (h : Held (wpList P ops Q (o :: rest) a w)) : wpList P ops Q (o :: rest) a w := h
theorem wpl_make {P : Program} {ops : Array Oper} {Q : Exit → Act → World → Prop} {a : Act} {w : World} {rest : List Oper} {o : Oper} (x y : Operand) (t e : TypeId) (z : Value) (bytes n : Nat) (hg : o.guard = none) (ho : o.op = .makeSlice t x y)
    (hx : a.eval x = .int .i64 (n : Int)) (hy : a.eval y = .int .i64 (n : Int)) (ht : P.underlying t = some (.slice e)) (hinfo : (P.info? e).map (fun i => (i.zero, i.size, i.bytes)) = some (some z, 1, bytes)) (hz1 : z.cells = #[z])
    (hbytes : bytes * n ≤ 281474976710656) (h63 : n ≤ 9223372036854775807)
    (hK : wpList P ops Q rest (a.put o.dst (.slice (some ⟨w.heap.size, 0, none⟩) n n)) (w.alloc (.cells (madeCells #[z] n) e))) : wpList P ops Q (o :: rest) a w := by
  refine wpl_value hg ?_ hK
  have := run_make_row' (P := P) t e z bytes ht hinfo hz1 .i64 .i64 n hbytes h63 w
  unfold execOp
  simp only [ho, hx, hy, Sem.run_bind, this, Result.andThen_ok, Sem.run_pure]
theorem made_row (z : Value) (n : Nat) : madeCells #[z] n = row n (fun _ => z) := by
  apply Array.ext_getElem?
  intro j
  by_cases h : j < n
  · rw [row_get _ _ _ h]; simp [madeCells, h, Nat.mod_one]
  · rw [Array.getElem?_eq_none (by rw [size_madeCells]; omega), Array.getElem?_eq_none (by rw [row_size]; omega)]
section
variable {P : Program} {ops : Array Oper} {Q : Exit → Act → World → Prop} {a : Act} {w : World} {rest : List Oper} {o : Oper}
theorem hold_copy {d s : Operand} {t u : TypeId} (_ho : o.op = .call { callee := .builtin .copy, args := #[d, s], argTypes := #[t, u] }) (h : Held (wpList P ops Q (o :: rest) a w)) : wpList P ops Q (o :: rest) a w := h
end
end BB
namespace WW
/-- v is a slice of the strings l -/
def StrsAt (w : World) (v : Value) (l : List ByteArray) : Prop :=
  ∃ a0 cap, v = .slice a0 l.length cap ∧ (l = [] ∨ ∃ b off, a0 = some ⟨b, off, none⟩ ∧ b < w.heap.size ∧ ∀ i, i < l.length → w.cell? ⟨b, off + i, none⟩ = some (.string (l.getD i ⟨#[]⟩)))
theorem StrsAt.later {w w' : World} {v : Value} {l : List ByteArray} (h : StrsAt w v l) (hb : Below w.heap.size w w') : StrsAt w' v l := by
  obtain ⟨a0, cap, rfl, h | ⟨b, off, rfl, hl, hc⟩⟩ := h
  · exact ⟨a0, cap, rfl, Or.inl h⟩
  · exact ⟨_, cap, rfl, Or.inr ⟨b, off, rfl, Nat.lt_of_lt_of_le hl hb.size, fun i hi => (hb.cell (p := ⟨b, off + i, none⟩) hl).trans (hc i hi)⟩⟩
theorem cell_new (w : World) (cs : Array Value) (t : TypeId) (i : Nat) (u : Value) (h : cs[i]? = some u) : (w.alloc (.cells cs t)).cell? ⟨w.heap.size, i, none⟩ = some u := by
  have : (w.alloc (.cells cs t)).heap[w.heap.size]? = some (.cells cs t) := by show (w.heap.push _)[w.heap.size]? = _; simp
  unfold World.cell?; rw [this]; simp [h]
/-- the cells cs in block g, and what was as it was -/
structure BoxAt (w : World) (g : Nat) (cs : List Value) (wr : World) : Prop where
  below : Below w.heap.size w wr
  lt : g < wr.heap.size
  cell : ∀ i u, cs[i]? = some u → wr.cell? ⟨g, i, none⟩ = some u
theorem box_mk (w : World) (cs : List Value) (t : TypeId) : BoxAt w w.heap.size cs (w.alloc (.cells cs.toArray t)) :=
  ⟨(Below.refl _ _).alloc (Nat.le_refl _) _, by simp, fun i u h => cell_new w cs.toArray t i u (by simpa using h)⟩
theorem BoxAt.on {w w1 w2 : World} {g : Nat} {cs : List Value} (h : BoxAt w g cs w1) (hb : Below w1.heap.size w1 w2) : BoxAt w g cs w2 :=
  ⟨h.below.trans (hb.mono h.below.size), Nat.lt_of_lt_of_le h.lt hb.size, fun i u hu => (hb.cell (p := ⟨g, i, none⟩) h.lt).trans (h.cell i u hu)⟩
end WW
end
section
open Go Go.RowKit
namespace WW
open BB
section
variable {P : Program} {ops : Array Oper} {Q : Exit → Act → World → Prop} {a : Act} {w : World} {rest : List Oper} {o : Oper}
/-- function k has a body of its own -/
def Own (P : Program) (k : Nat) : Prop := ∃ fn, P.funcs[k]? = some fn ∧ (fn.name == "runtime.NumGoroutine") = false ∧ fn.body.isNone = false
/-- the closure v, called with args -/
def CallsV (P : Program) (v : Value) (args : Array Value) (w : World) (R : Ending → World → Prop) : Prop :=
  ∃ k env, v = .func (.func k) #[] env ∧ Own P k ∧ Calls P k (args ++ env) w R
theorem CallsV.mono {v : Value} {args : Array Value} {R R' : Ending → World → Prop} (h : CallsV P v args w R) (hR : ∀ e w', R e w' → R' e w') : CallsV P v args w R' := by
  obtain ⟨k, env, hv, ho, hc⟩ := h
  exact ⟨k, env, hv, ho, hc.mono hR⟩
theorem run_enter {x : Operand} {xs : Array Operand} {tys : Array TypeId} {k : Nat} {env : Array Value} (ho : o.op = .call { callee := .value x, args := xs, argTypes := tys }) (hx : a.eval x = .func (.func k) #[] env) (hk : Own P k) :
    (execOp a.eval o).run P w = .ok (.enter k (xs.map a.eval ++ env)) w := by
  obtain ⟨fn, h1, h2, h3⟩ := hk
  have h2' : ¬ fn.name = "runtime.NumGoroutine" := by simpa using h2
  have h3' : ¬ fn.body = none := by intro h; rw [h] at h3; cases h3
  unfold execOp
  simp [ho, resolve, hx, Deferred.ofValue, invoke, callFunc, h1, h2', h3', Result.andThen]
theorem hold_callv {x : Operand} {xs : Array Operand} {tys : Array TypeId} {i : Nat} (_ho : o.op = .call { callee := .value x, args := xs, argTypes := tys }) (_hx : x = .tmp i) (h : Held (wpList P ops Q (o :: rest) a w)) : wpList P ops Q (o :: rest) a w := h
theorem wpl_callv {x : Operand} {xs : Array Operand} {tys : Array TypeId} (v : Value) (args : Array Value) (R : Ending → World → Prop) (hg : o.guard = none) (ho : o.op = .call { callee := .value x, args := xs, argTypes := tys })
    (hx : a.eval x = v) (has : xs.map a.eval = args) (hc : CallsV P v args w R) (hR : ∀ e w', R e w' → ∃ u, e = .returned u)
    (hK : ∀ u w', R (.returned u) w' → wpList P ops Q rest (a.put o.dst u) w') : wpList P ops Q (o :: rest) a w := by
  obtain ⟨k, env, hv, hk, hc⟩ := hc
  refine wpList_plain hg fun K hK' => ?_
  have hrun := run_enter (P := P) (w := w) (o := o) (a := a) ho (hx.trans hv) hk
  unfold Oper.wp
  rw [hrun, has]
  refine hc.mono fun e w' hr => ?_
  obtain ⟨u, rfl⟩ := hR e w' hr
  exact hK' _ _ (hK u w' hr)
theorem wpl_callv_w {x : Operand} {xs : Array Operand} {tys : Array TypeId} (v : Value) (args : Array Value) (R : Ending → World → Prop) (hg : Region.wanted o (yielded ops a.tmps) = true) (ho : o.op = .call { callee := .value x, args := xs, argTypes := tys })
    (hx : a.eval x = v) (has : xs.map a.eval = args) (hc : CallsV P v args w R) (hR : ∀ e w', R e w' → ∃ u, e = .returned u)
    (hK : ∀ u w', R (.returned u) w' → wpList P ops Q rest (a.put o.dst u) w') : wpList P ops Q (o :: rest) a w := by
  obtain ⟨k, env, hv, hk, hc⟩ := hc
  refine wpList_step fun K hK' => ?_
  rw [if_pos hg]
  have hrun := run_enter (P := P) (w := w) (o := o) (a := a) ho (hx.trans hv) hk
  unfold Oper.wp
  rw [hrun, has]
  refine hc.mono fun e w' hr => ?_
  obtain ⟨u, rfl⟩ := hR e w' hr
  exact hK' _ _ (hK u w' hr)
end
/-- what a cut answers -/
def Ans (Q : Bool → ByteArray → World → Prop) (e : Ending) (w : World) : Prop := ∃ ok r, e = .returned (.tuple #[.string r, .bool ok]) ∧ Q ok r w
theorem Ans.ret {Q : Bool → ByteArray → World → Prop} (e : Ending) (w : World) (h : Ans Q e w) : ∃ u, e = .returned u := by obtain ⟨ok, r, rfl, _⟩ := h; exact ⟨_, rfl⟩
/-- v cuts something off b -/
def Cut (P : Program) (v : Value) (b : ByteArray) (w : World) (Q : Bool → ByteArray → World → Prop) : Prop := CallsV P v #[.string b] w (Ans Q)
theorem Cut.mono {P : Program} {v : Value} {b : ByteArray} {w : World} {Q Q' : Bool → ByteArray → World → Prop} (h : Cut P v b w Q) (hQ : ∀ ok r w', Q ok r w' → Q' ok r w') : Cut P v b w Q' :=
  CallsV.mono h fun _ _ ⟨ok, r, he, hq⟩ => ⟨ok, r, he, hQ _ _ _ hq⟩
/-- one cut behind the other, up to the first one that is wrong; E holds all the while -/
def OrderWp (P : Program) (E : World → Prop) (Q : Bool → ByteArray → World → Prop) : List Value → ByteArray → World → Prop
  | [], b, w => Q true b w
  | v :: vs, b, w => Cut P v b w fun ok r w' => E w' ∧ (if ok then OrderWp P E Q vs r w' else Q false ⟨#[]⟩ w')
end WW
namespace Go.Proofs.Ytphlpgdbngbplaa
open WW BB
/-- the cuts that lie in block gc -/
def InRow (gc : Nat) (vs : List Value) (w : World) : Prop := ∀ i, i < vs.length → w.cell? ⟨gc, i, none⟩ = some (vs.getD i .nilFunc)
set_option maxRecDepth 100000 in
set_option maxHeartbeats 2000000 in
theorem order_any (vs : List Value) (bx gc cap : Nat) (Q : Bool → ByteArray → World → Prop) (b : ByteArray) (w : World) (hlen : vs.length ≤ 100)
    (hb : w.cell? ⟨bx, 0, none⟩ = some (.slice (some ⟨gc, 0, none⟩) vs.length cap)) (hE : InRow gc vs w) (h : OrderWp Try.prog (InRow gc vs) Q vs b w) :
    Calls Try.prog 61 #[.string b, .pointer (some ⟨bx, 0, none⟩)] w (Ans Q) := by
  have HE := Lib.hid hE
  have H := Lib.hid h
  have HL := Lib.hid hlen
  clear hE h hlen
  go_enter Try.func61, Try.ntmps61
  go_wp2_with fail
  clear hb
  go_loopw [0, 11] (fun s v wr => ∃ (j : Nat) (b' : ByteArray), j ≤ vs.length ∧ v = .int .i64 (j : Int) ∧ s = .string b' ∧ InRow gc vs wr ∧ OrderWp Try.prog (InRow gc vs) Q (vs.drop j) b' wr) (fun _ v _ => vs.length - (intOf v).toNat)
  case atStart => exact ⟨0, b, Nat.zero_le _, rfl, rfl, HE.out, H.out⟩
  case round =>
    clear HE H
    obtain ⟨j, b', hj, rfl, rfl, hE, hO⟩ := hrel
    by_cases hlt : j < vs.length
    · have hlt' : (j : Int) < (vs.length : Int) := by omega
      have j0 : (0 : Int) ≤ (j : Int) := by omega
      have jb : (j : Int) ≤ 100 := by have := HL.out; omega
      have hc := hE j hlt
      have hd : vs.drop j = vs.getD j .nilFunc :: vs.drop (j + 1) := by
        rw [List.drop_eq_getElem_cons hlt]; simp [List.getD, List.getElem?_eq_getElem hlt]
      rw [hd] at hO
      obtain ⟨v, hv⟩ : ∃ v, vs.getD j .nilFunc = v := ⟨_, rfl⟩
      rw [hv] at hO hc
      have HO := Lib.hid (show Cut Try.prog v b' wr (fun ok r w' => InRow gc vs w' ∧ (if ok then OrderWp Try.prog (InRow gc vs) Q (vs.drop (j + 1)) r w' else Q false ⟨#[]⟩ w')) from hO)
      have HLT := Lib.hid hlt
      clear hO hd hv hE hj hlt
      go_wp2_with (with_reducible refine hold_callv rfl rfl ?_)
      refine wpl_callv (v := v) (args := #[.string b']) _ rfl rfl rfl (by simp [Act.eval]) HO.out Ans.ret ?_
      intro u w' hu
      obtain ⟨ok, r, hr, hE, hO⟩ := hu
      injection hr with hr
      subst hr
      cases ok
      · have HQ := Lib.hid (show Q false ⟨#[]⟩ w' from hO)
        clear hO hE
        go_wp2_with fail
        go_ret2
        exact ⟨false, ⟨#[]⟩, rfl, HQ.out⟩
      · have HO' := Lib.hid (show OrderWp Try.prog (InRow gc vs) Q (vs.drop (j + 1)) r w' from hO)
        have HE := Lib.hid hE
        clear hO hE
        go_wp2_with fail
        go_roundw
        case rel => exact ⟨j + 1, r, by have := HLT.out; omega, by go_num, rfl, HE.out, HO'.out⟩
        case measure => have := HLT.out; simp [intOf]; omega
    · have hlt' : ¬ (j : Int) < (vs.length : Int) := by omega
      rw [List.drop_of_length_le (by omega)] at hO
      have HQ := Lib.hid (show Q true b' wr from hO)
      clear hO hE hlt hj
      go_wp2_with fail
      go_ret2
      exact ⟨true, b', rfl, HQ.out⟩
end Go.Proofs.Ytphlpgdbngbplaa
end
section
open Go Go.RowKit
namespace BB
theorem run_copy_str {P : Program} {w : World} {dT sT ty e b N off dLen cap n : Nat} {f : Nat → Value} {s : ByteArray} (hU : (underlying dT).run P w = .ok (.slice e) w) (hS : (Go.sizeOf e).run P w = .ok 1 w)
    (hb : Blk w b N f) (hN : off + n ≤ N) (hn : n = min s.size dLen) :
    ∃ w', (Builtin.copy_ #[dT, sT] ty #[.slice (some ⟨b, off, none⟩) dLen cap, .string s]).run P w = .ok (.int .i64 (n : Int)) w' ∧
      MS w b N (fun j => if off ≤ j ∧ j < off + n then cb (sb s.data.toList) (j - off) else f j) w' := by
  obtain ⟨t, ht⟩ := hb
  have hl : (row n (cb (sb s.data.toList))).toList.length = n := by simp [row]
  have hst := run_storeCells_at P b off t (row n (cb (sb s.data.toList))).toList 0 (row N f) w ht (by rw [row_size, hl]; omega) (fun v hv => by
    simp only [row, List.mem_map, List.mem_range] at hv
    obtain ⟨i, hi, rfl⟩ := hv
    rfl)
  have hx := extract_row s n (by omega)
  refine ⟨w.setRow b (List.take off (row N f).toList ++ (row n (cb (sb s.data.toList))).toList ++ List.drop (off + n) (row N f).toList).toArray, ?_, ⟨t, ?_⟩, ?_⟩
  · rw [hl, Nat.add_zero] at hst
    have hmin : Nat.min s.size dLen = n := hn.symm
    unfold Builtin.copy_
    simp only [List.getElem?_toArray, List.getElem?_cons_zero, List.getElem?_cons_succ, Sem.run_bind, hU, Result.andThen_ok, Builtin.lenOf, Sem.run_pure, hS, Builtin.firstCells, hmin, hx, hst, goInt]
  · rw [← row_splice N n off f _ hN]; exact setRow_heap w b _ _ t _ ht
  · refine ⟨by simp [World.setRow], fun k hk => ?_, rfl, rfl, rfl⟩
    simp only [World.setRow, Array.getElem?_modify]
    rw [if_neg (fun h => hk h.symm)]
theorem run_slice_arr {P : Program} {w : World} {t n e b off lo : Nat} (hU : (underlying t).run P w = .ok (.array n e) w) (hS : (Go.sizeOf e).run P w = .ok 1 w) (hlo : lo < n) :
    (Instr.sliceAt t (.pointer (some ⟨b, off, none⟩)) (some (.int .i64 (lo : Int))) none none).run P w = .ok (.slice (some ⟨b, off + lo, none⟩) (n - lo) (n - lo)) w := by
  have h2 : ¬ n = lo := by omega
  have h3 : (⟨b, off, none⟩ : Addr).add lo = ⟨b, off + lo, none⟩ := by unfold Addr.add; split <;> simp [*]
  unfold Instr.sliceAt
  simp [hU, Instr.sureAddr, Instr.sliceBounds, Instr.sliceBound, asIntOf, hS, h2, h3]
  intro h; omega
theorem run_slice_all {P : Program} {w : World} {t n e b off : Nat} (hU : (underlying t).run P w = .ok (.array n e) w) (hS : (Go.sizeOf e).run P w = .ok 1 w) :
    (Instr.sliceAt t (.pointer (some ⟨b, off, none⟩)) none none none).run P w = .ok (.slice (some ⟨b, off, none⟩) n n) w := by
  have h3 : (⟨b, off, none⟩ : Addr).add 0 = ⟨b, off, none⟩ := by unfold Addr.add; simp
  unfold Instr.sliceAt
  simp [hU, Instr.sureAddr, Instr.sliceBounds, hS, h3]
section
variable {P : Program} {ops : Array Oper} {Q : Exit → Act → World → Prop} {a : Act} {w : World} {rest : List Oper} {o : Oper}
theorem wpl_copy_str {dT sT e : TypeId} (d s : Operand) (b off N dLen cap n : Nat) (f : Nat → Value) (str : ByteArray) (hg : o.guard = none)
    (ho : o.op = .call { callee := .builtin .copy, args := #[d, s], argTypes := #[dT, sT] }) (hd : a.eval d = .slice (some ⟨b, off, none⟩) dLen cap) (hs : a.eval s = .string str)
    (hU : (underlying dT).run P w = .ok (.slice e) w) (hS : (Go.sizeOf e).run P w = .ok 1 w) (hb : Blk w b N f) (hN : off + n ≤ N) (hn : n = min str.size dLen)
    (hK : ∀ w', MS w b N (fun j => if off ≤ j ∧ j < off + n then cb (sb str.data.toList) (j - off) else f j) w' → wpList P ops Q rest (a.put o.dst (.int .i64 (n : Int))) w') : wpList P ops Q (o :: rest) a w := by
  obtain ⟨w', h, hm⟩ := run_copy_str (ty := o.type) (cap := cap) (sT := sT) hU hS hb hN hn
  refine wpl_value hg ?_ (hK w' hm)
  simp [execOp, ho, resolve, invoke, builtin, hd, hs, h, Result.andThen]
theorem stl_slice {K : Act → Prop} {t n e : Nat} (x y : Operand) (b off lo : Nat) (hg : o.guard = none) (ho : o.op = .slice t x (some y) none none) (hx : a.eval x = .pointer (some ⟨b, off, none⟩)) (hy : a.eval y = .int .i64 (lo : Int))
    (hU : (underlying t).run P w = .ok (.array n e) w) (hS : (Go.sizeOf e).run P w = .ok 1 w) (hlo : lo < n)
    (hK : wpStill P ops w K rest (a.put o.dst (.slice (some ⟨b, off + lo, none⟩) (n - lo) (n - lo)))) : wpStill P ops w K (o :: rest) a := by
  refine stl_step hg ?_ hK
  have := run_slice_arr (P := P) (b := b) (off := off) hU hS hlo
  unfold execOp
  simp only [ho, Option.map_some, Option.map_none, hx, hy, Sem.run_bind, this, Result.andThen_ok, Sem.run_pure]
end
/-- a digest on its way: the words, the block that is being filled, how far, and how many bytes the blocks ahead had -/
structure St where
  h : Nat → BitVec 32
  B : Nat → Nat
  fl : Nat
  be : Nat
def St.next (s : St) : St := if s.fl = 64 then ⟨comp s.h s.B (s.be + 64) false, fun _ => 0, 0, s.be + 64⟩ else s
def St.add (s : St) (c : UInt8) : St := let t := s.next; ⟨t.h, put t.B t.fl c.toNat, t.fl + 1, t.be⟩
def St.feed (s : St) (l : List UInt8) : St := l.foldl St.add s
theorem St.feed_append (s : St) (l m : List UInt8) : s.feed (l ++ m) = (s.feed l).feed m := by simp [St.feed]
theorem St.feed_nil (s : St) : s.feed [] = s := rfl
theorem St.next_fl (s : St) (h : s.fl ≤ 64) : s.next.fl < 64 := by
  unfold St.next; split
  · show 0 < 64; omega
  · omega
theorem St.next_of (s : St) (h : s.fl < 64) : s.next = s := by unfold St.next; rw [if_neg (by omega)]
theorem St.feed_next (s : St) (h : s.fl ≤ 64) (m : List UInt8) (hm : m ≠ []) : s.feed m = s.next.feed m := by
  cases m with
  | nil => exact absurd rfl hm
  | cons c m =>
    show (s.add c).feed m = (s.next.add c).feed m
    have : s.next.add c = s.add c := by unfold St.add; rw [St.next_of s.next (St.next_fl s h)]
    rw [this]
theorem sb_cons (c : UInt8) (m : List UInt8) (i : Nat) : sb (c :: m) (i + 1) = sb m i := by simp [sb]
theorem St.feed_chunk (m : List UInt8) : ∀ (s : St), s.fl + m.length ≤ 64 → s.feed m = ⟨s.h, fun j => if s.fl ≤ j ∧ j < s.fl + m.length then sb m (j - s.fl) else s.B j, s.fl + m.length, s.be⟩ := by
  induction m with
  | nil =>
    intro s _
    have : (fun j => if s.fl ≤ j ∧ j < s.fl + ([] : List UInt8).length then sb [] (j - s.fl) else s.B j) = s.B := by
      funext j; rw [if_neg (by simp only [List.length_nil]; omega)]
    rw [this]; rfl
  | cons c m ih =>
    intro s hs
    simp only [List.length_cons] at hs
    have hn : s.next = s := St.next_of s (by omega)
    have ha : s.add c = ⟨s.h, put s.B s.fl c.toNat, s.fl + 1, s.be⟩ := by unfold St.add; rw [hn]
    show (s.add c).feed m = _
    rw [ih (s.add c) (by rw [ha]; show s.fl + 1 + m.length ≤ 64; omega), ha]
    simp only [List.length_cons, St.mk.injEq, true_and]
    refine ⟨?_, by omega, trivial⟩
    funext j
    by_cases h1 : j < s.fl
    · rw [if_neg (by omega), if_neg (by omega), put_other _ _ (by omega)]
    · by_cases h2 : j = s.fl
      · subst h2
        rw [if_neg (by omega), if_pos (by omega), put_same]; simp [sb]
      · by_cases h3 : j < s.fl + (m.length + 1)
        · rw [if_pos (by omega), if_pos (by omega)]
          obtain ⟨i, hi⟩ : ∃ i, j - s.fl = i + 1 := ⟨j - s.fl - 1, by omega⟩
          rw [hi, sb_cons]; congr 1; omega
        · rw [if_neg (by omega), if_neg (by omega), put_other _ _ h2]
/-- what holds of a digest on its way -/
structure St.Ok (s : St) (L : Nat) : Prop where
  fl : s.fl ≤ 64
  B : ∀ i, s.B i < 256
  tot : s.be + s.fl = L
theorem St.Ok.next {s : St} {L : Nat} (h : s.Ok L) : s.next.Ok L := by
  unfold St.next; split
  · exact ⟨by show 0 ≤ 64; omega, fun _ => by show 0 < 256; omega, by have := h.tot; show s.be + 64 + 0 = L; omega⟩
  · exact h
theorem St.Ok.add {s : St} {L : Nat} (h : s.Ok L) (c : UInt8) : (s.add c).Ok (L + 1) := by
  have hn := h.next
  have hf := St.next_fl s h.fl
  refine ⟨by show s.next.fl + 1 ≤ 64; omega, fun i => ?_, by have := hn.tot; show s.next.be + (s.next.fl + 1) = _; omega⟩
  show put s.next.B s.next.fl c.toNat i < 256
  unfold put; split
  · exact UInt8.toNat_lt _
  · exact hn.B i
theorem St.Ok.feed {s : St} {L : Nat} (h : s.Ok L) (m : List UInt8) : (s.feed m).Ok (L + m.length) := by
  induction m generalizing s L with
  | nil => exact h
  | cons c m ih =>
    have := ih (h.add c)
    simp only [List.length_cons]
    rw [show L + (m.length + 1) = L + 1 + m.length by omega]
    exact this
def sizeV : Value → Nat | .string r => r.size | _ => 0
end BB
end
section
open Go Go.RowKit
namespace BB
/-- the cells of a digest on its way -/
def dgc (h : Nat → BitVec 32) (B : Nat → Nat) (fl be : Nat) : Nat → Value := fun i =>
  if i < 8 then cw .u32 h i else if i < 72 then cb B (i - 8) else if i = 72 then .int .i64 (fl : Int) else .int .u64 (be : Int)
section
variable {b n : Nat} {f : Nat → Value} {w w1 w2 w3 : World}
end
section
variable {P : Program} {ops : Array Oper} {Q : Exit → Act → World → Prop} {a : Act} {w : World} {rest : List Oper} {o : Oper}
theorem stl_load_as {K : Act → Prop} {T : TypeId} (ad : Operand) (b off N m : Nat) (f g : Nat → Value) (hg : o.guard = none) (ho : o.op = .load T ad) (ha : a.eval ad = .pointer (some ⟨b, off, none⟩))
    (hT : (isAgg T).run P w = .ok true w) (hS : (Go.sizeOf T).run P w = .ok m w) (hb : Cells w b N f) (hN : off + m ≤ N) (e : ∀ i, i < m → f (off + i) = g i)
    (hK : wpStill P ops w K rest (a.put o.dst (.agg (row m g)))) : wpStill P ops w K (o :: rest) a :=
  stl_load ad b off N m f hg ho ha hT hS hb hN (by rw [row_congr m _ g e]; exact hK)
theorem wpl_load_as {T : TypeId} (ad : Operand) (b off N m : Nat) (f g : Nat → Value) (hg : o.guard = none) (ho : o.op = .load T ad) (ha : a.eval ad = .pointer (some ⟨b, off, none⟩))
    (hT : (isAgg T).run P w = .ok true w) (hS : (Go.sizeOf T).run P w = .ok m w) (hb : Cells w b N f) (hN : off + m ≤ N) (e : ∀ i, i < m → f (off + i) = g i)
    (hK : wpList P ops Q rest (a.put o.dst (.agg (row m g))) w) : wpList P ops Q (o :: rest) a w :=
  wpl_load ad b off N m f hg ho ha hT hS hb hN (by rw [row_congr m _ g e]; exact hK)
end
theorem dgc_w (h : Nat → BitVec 32) (B : Nat → Nat) (fl be : Nat) : ∀ i, i < 8 → dgc h B fl be (0 + i) = cw .u32 h i := fun i hi => by simp [dgc, hi]
theorem dgc_b (h : Nat → BitVec 32) (B : Nat → Nat) (fl be : Nat) : ∀ i, i < 64 → dgc h B fl be (8 + i) = cb B i := fun i hi => by
  unfold dgc; rw [if_neg (by omega), if_pos (by omega)]; congr 1; omega
theorem dgc_put_be (h : Nat → BitVec 32) (B : Nat → Nat) (fl be x : Nat) : ∀ i, i < 74 → put (dgc h B fl be) 73 (.int .u64 (x : Int)) i = dgc h B fl x i := fun i hi => by
  unfold put dgc
  by_cases e : i = 73
  · subst e; simp
  · rw [if_neg e]; split; rfl; split; rfl; split; rfl; omega
theorem dgc_put_fl (h : Nat → BitVec 32) (B : Nat → Nat) (fl be x : Nat) : ∀ i, i < 74 → put (dgc h B fl be) 72 (.int .i64 (x : Int)) i = dgc h B x be i := fun i hi => by
  unfold put dgc
  by_cases e : i = 72
  · subst e; simp
  · simp only [if_neg e]
theorem dgc_set_w (h h' : Nat → BitVec 32) (B : Nat → Nat) (fl be : Nat) : ∀ i, i < 74 → (if 0 ≤ i ∧ i < 0 + 8 then cw .u32 h' (i - 0) else dgc h B fl be i) = dgc h' B fl be i := fun i hi => by
  unfold dgc
  by_cases e : i < 8
  · simp [e]
  · rw [if_neg (by omega), if_neg e, if_neg e]
theorem dgc_set_b (h : Nat → BitVec 32) (B B' : Nat → Nat) (fl be : Nat) : ∀ i, i < 74 → (if 8 ≤ i ∧ i < 8 + 64 then cb B' (i - 8) else dgc h B fl be i) = dgc h B' fl be i := fun i hi => by
  unfold dgc
  by_cases e : 8 ≤ i ∧ i < 72
  · rw [if_pos (by omega), if_neg (by omega), if_pos (by omega)]
  · simp only [show ¬ (8 ≤ i ∧ i < 8 + 64) by omega, if_false]
    by_cases e1 : i < 8
    · simp [e1]
    · have e2 : ¬ i < 72 := by omega
      simp [e1, e2]
end BB
namespace Go.Proofs.Ytphlpgdbngbplaa
open BB
end Go.Proofs.Ytphlpgdbngbplaa
end
section
open Go Go.RowKit
namespace Go.Proofs.Ytphlpgdbngbplaa
open BB
/-- block b is the digest s -/
def Dg (w : World) (b : Nat) (s : St) : Prop := Blk w b 74 (dgc s.h s.B s.fl s.be)
theorem Dg.fl {w : World} {b : Nat} {s : St} (h : Dg w b s) : w.cell? ⟨b, 72, none⟩ = some (.int .i64 (s.fl : Int)) := h.get 72 (by omega)
theorem under_bytes (w : World) : (underlying 82).run Try.prog w = .ok (.slice 5) w := by kernel_rfl
theorem size_byte (w : World) : (Go.sizeOf 5).run Try.prog w = .ok 1 w := by kernel_rfl
theorem extract_drop (r str : ByteArray) (k n : Nat) (hr : r.data.toList = str.data.toList.drop k) : (r.extract n r.size).data.toList = str.data.toList.drop (k + n) := by
  have : (r.extract n r.size).data = r.data.extract n r.size := by simp
  rw [this, Array.toList_extract, List.extract_eq_take_drop, hr, List.drop_drop]
  apply List.take_of_length_le
  have h1 : r.data.toList.length = (str.data.toList.drop k).length := by rw [hr]
  simp only [List.length_drop, Array.length_toList] at h1 ⊢
  show _ ≤ r.data.size - n
  omega
theorem sb_take (l : List UInt8) (n i : Nat) (h : i < n) : sb (l.take n) i = sb l i := by simp [sb, h]
theorem dgc_chunk (h : Nat → BitVec 32) (B : Nat → Nat) (fl be n : Nat) (l : List UInt8) (hn : fl + n ≤ 64) : ∀ i, i < 74 →
    put (fun j => if 8 + fl ≤ j ∧ j < 8 + fl + n then cb (sb l) (j - (8 + fl)) else dgc h B fl be j) 72 (.int .i64 ((fl : Int) + (n : Int))) i =
      dgc h (fun j => if fl ≤ j ∧ j < fl + n then sb (l.take n) (j - fl) else B j) (fl + n) be i := fun i hi => by
  by_cases e : i = 72
  · subst e; rw [put_same]; simp [dgc]
  · rw [put_other _ _ e]
    by_cases h1 : 8 + fl ≤ i ∧ i < 8 + fl + n
    · rw [if_pos h1]
      unfold dgc
      rw [if_neg (by omega), if_pos (by omega)]
      unfold cb
      dsimp only
      rw [if_pos (by omega), sb_take _ _ _ (by omega), show i - (8 + fl) = i - 8 - fl by omega]
    · rw [if_neg h1]
      unfold dgc
      by_cases h2 : i < 8
      · simp [h2]
      · by_cases h3 : i < 72
        · rw [if_neg h2, if_pos h3, if_neg h2, if_pos h3]
          unfold cb
          dsimp only
          rw [if_neg (by omega)]
        · rw [if_neg h2, if_neg h3, if_neg e, if_neg h2, if_neg h3, if_neg e]
theorem write_step {r str : ByteArray} {k n b : Nat} {s S T : St} {w4 w5 : World} (hr : r.data.toList = str.data.toList.drop k) (hS : S = s.feed (str.data.toList.take k)) (hT : T = S.next) (hfl : S.fl ≤ 64)
    (hn : n = min r.size (64 - T.fl)) (h0 : 0 < n) (hnr : n ≤ r.size) (h64 : T.fl < 64)
    (h5 : MS w4 b 74 (put (fun j => if 8 + T.fl ≤ j ∧ j < 8 + T.fl + n then cb (sb r.data.toList) (j - (8 + T.fl)) else dgc T.h T.B T.fl T.be j) 72 (.int .i64 ((T.fl : Int) + (n : Int)))) w5) :
    Dg w5 b (s.feed (str.data.toList.take (k + n))) := by
  have hl : (r.data.toList.take n).length = n := by
    rw [List.length_take, Array.length_toList]; exact Nat.min_eq_left hnr
  have hne : r.data.toList.take n ≠ [] := fun e => by rw [e] at hl; simp at hl; omega
  have e1 : s.feed (str.data.toList.take (k + n)) = T.feed (r.data.toList.take n) := by
    rw [List.take_add, St.feed_append, ← hS, ← hr, St.feed_next S hfl _ hne, ← hT]
  rw [e1, St.feed_chunk _ T (by rw [hl]; omega), hl]
  exact h5.1.congr _ (dgc_chunk T.h T.B T.fl T.be n r.data.toList (by omega))
end Go.Proofs.Ytphlpgdbngbplaa
end
section
open Go Go.RowKit
namespace JJ
abbrev Rq := Int × Int × ByteArray
def r0 : Rq := (0, 0, ⟨#[]⟩)
/-- client and number -/
def keyR (r : Rq) : Int × Int := (r.1, r.2.1)
/-- two of one client and number -/
def twiceR (l : List Rq) : Bool := decide (¬ (l.map keyR).Nodup)
/-- one more, if there are less than n, and none of its client and number -/
def onceStepN (n : Nat) (out : List Rq) (r : Rq) : List Rq := if out.length < n ∧ keyR r ∉ out.map keyR then out ++ [r] else out
/-- the first ones of each client and number, at most n -/
def onceN (n : Nat) (l : List Rq) : List Rq := l.foldl (onceStepN n) []
theorem onceN_snoc (n : Nat) (l : List Rq) (i : Nat) (h : i < l.length) : onceN n (l.take (i + 1)) = onceStepN n (onceN n (l.take i)) (l.getD i r0) := by
  unfold onceN
  rw [List.take_succ_eq_append_getElem h, List.foldl_append]
  simp [List.getD, List.getElem?_eq_getElem h]
theorem stepN_full (n : Nat) (out : List Rq) (r : Rq) (h : n ≤ out.length) : onceStepN n out r = out := by
  unfold onceStepN; rw [if_neg (by omega)]
theorem foldN_full (n : Nat) : ∀ (l out : List Rq), n ≤ out.length → l.foldl (onceStepN n) out = out
  | [], _, _ => rfl
  | a :: l, out, h => by
    show l.foldl (onceStepN n) (onceStepN n out a) = out
    rw [stepN_full n out a h]; exact foldN_full n l out h
/-- full after i: no more comes -/
theorem onceN_full (n : Nat) (l : List Rq) (i : Nat) (h : n ≤ (onceN n (l.take i)).length) : onceN n l = onceN n (l.take i) := by
  have e : l = l.take i ++ l.drop i := (List.take_append_drop i l).symm
  conv => lhs; rw [e]
  unfold onceN at h ⊢
  rw [List.foldl_append]
  exact foldN_full n _ _ h
theorem foldN_spec (n : Nat) (P : Rq → Prop) : ∀ (l out : List Rq), out.length ≤ n → (out.map keyR).Nodup → (∀ r ∈ out, P r) → (∀ r ∈ l, P r) → (l.foldl (onceStepN n) out).length ≤ n ∧ ((l.foldl (onceStepN n) out).map keyR).Nodup ∧ (∀ r ∈ l.foldl (onceStepN n) out, P r) ∧ (l.foldl (onceStepN n) out).length ≤ out.length + l.length
  | [], out, h1, h2, h3, _ => ⟨h1, h2, h3, Nat.le_refl _⟩
  | a :: l, out, h1, h2, h3, h4 => by
    show (l.foldl (onceStepN n) (onceStepN n out a)).length ≤ n ∧ _
    have key : (onceStepN n out a).length ≤ n ∧ ((onceStepN n out a).map keyR).Nodup ∧ (∀ r ∈ onceStepN n out a, P r) ∧ (onceStepN n out a).length ≤ out.length + 1 := by
      unfold onceStepN; split
      · rename_i h
        refine ⟨by rw [List.length_append]; simp; omega, ?_, fun r hr => ?_, by simp⟩
        · rw [List.map_append, List.nodup_append]
          refine ⟨h2, by simp, fun b hb c hc => ?_⟩
          obtain rfl : c = keyR a := by simpa using hc
          rintro rfl
          exact h.2 hb
        · rcases List.mem_append.1 hr with hr | hr
          · exact h3 r hr
          · obtain rfl : r = a := by simpa using hr
            exact h4 r (by simp)
      · exact ⟨h1, h2, h3, by omega⟩
    obtain ⟨k1, k2, k3, k4⟩ := key
    obtain ⟨g1, g2, g3, g4⟩ := foldN_spec n P l (onceStepN n out a) k1 k2 k3 (fun r hr => h4 r (by simp [hr]))
    exact ⟨g1, g2, g3, by show (l.foldl (onceStepN n) (onceStepN n out a)).length ≤ _; rw [List.length_cons]; omega⟩
theorem onceN_len (n : Nat) (l : List Rq) : (onceN n l).length ≤ n := (foldN_spec n (fun _ => True) l [] (by simp) (by simp) (by simp) (by simp)).1
theorem onceN_sub (n : Nat) (l : List Rq) : (onceN n l).length ≤ l.length := by
  have := (foldN_spec n (fun _ => True) l [] (by simp) (by simp) (by simp) (by simp)).2.2.2
  simpa [onceN] using this
theorem onceN_nodup (n : Nat) (l : List Rq) : ((onceN n l).map keyR).Nodup := (foldN_spec n (fun _ => True) l [] (by simp) (by simp) (by simp) (by simp)).2.1
theorem onceN_mem (n : Nat) (l : List Rq) : ∀ r ∈ onceN n l, r ∈ l := (foldN_spec n (fun r => r ∈ l) l [] (by simp) (by simp) (by simp) (fun r h => h)).2.2.1
theorem onceN_twice (n : Nat) (l : List Rq) : twiceR (onceN n l) = false := by unfold twiceR; simp [onceN_nodup n l]
theorem foldN_all (n : Nat) : ∀ (l out : List Rq), ((out ++ l).map keyR).Nodup → out.length + l.length ≤ n → l.foldl (onceStepN n) out = out ++ l
  | [], out, _, _ => by simp
  | a :: l, out, h, hn => by
    show l.foldl (onceStepN n) (onceStepN n out a) = _
    have e : onceStepN n out a = out ++ [a] := by
      unfold onceStepN
      rw [List.length_cons] at hn
      rw [List.map_append, List.nodup_append] at h
      rw [if_pos ⟨by omega, fun hm => h.2.2 _ hm _ (by simp) rfl⟩]
    rw [e, foldN_all n l (out ++ [a]) (by simpa using h) (by simpa [Nat.add_assoc, Nat.add_comm 1] using hn)]
    rw [List.append_assoc]; rfl
/-- none is left out just if no two are of one client and number -/
theorem onceN_whole (l : List Rq) : decide ((onceN l.length l).length < l.length) = twiceR l := by
  by_cases h : (l.map keyR).Nodup
  · have e := foldN_all l.length l [] (by simpa using h) (by simp)
    have e2 : onceN l.length l = l := by unfold onceN; simpa using e
    rw [e2]; unfold twiceR; simp [h]
  · have e : (onceN l.length l).length ≠ l.length := fun e => h (by
      have hs : (onceN l.length l).Sublist l := by
        have key : ∀ (l out : List Rq) (m : Nat), (l.foldl (onceStepN m) out).Sublist (out ++ l) := by
          intro l
          induction l with
          | nil => intro out m; simp
          | cons a l ih =>
            intro out m
            show (l.foldl (onceStepN m) (onceStepN m out a)).Sublist _
            refine (ih _ m).trans ?_
            unfold onceStepN; split
            · simp
            · exact List.Sublist.append (List.Sublist.refl _) (List.sublist_cons_self _ _)
        simpa [onceN] using key l [] l.length
      rw [← hs.eq_of_length e]; exact onceN_nodup _ _)
    have := onceN_sub l.length l
    unfold twiceR
    rw [Bool.eq_iff_iff, decide_eq_true_eq, decide_eq_true_eq]
    exact ⟨fun _ => h, fun _ => by omega⟩
/-- with one more there are two of one client and number just if there was one -/
theorem twice_snoc (out : List Rq) (r : Rq) (h : (out.map keyR).Nodup) : twiceR (out ++ [r]) = decide (keyR r ∈ out.map keyR) := by
  unfold twiceR
  rw [Bool.eq_iff_iff, decide_eq_true_eq, decide_eq_true_eq, List.map_append, List.nodup_append]
  constructor
  · intro hn
    refine Classical.byContradiction fun hm => hn ⟨h, by simp, fun b hb c hc => ?_⟩
    obtain rfl : c = keyR r := by simpa using hc
    rintro rfl
    exact hm hb
  · rintro hm ⟨_, _, h3⟩
    exact h3 _ hm _ (by simp) rfl
/-- the two loops that look for two of one client and number: the i-th one against the k first ones -/
def hitTo (l : List Rq) (i k : Nat) : Bool := (l.take k).any fun q => decide (q.1 = (l.getD i r0).1 ∧ q.2.1 = (l.getD i r0).2.1)
def freeTo (l : List Rq) (i : Nat) : Prop := ∀ j, j < i → ∀ k, k < j → ¬ ((l.getD k r0).1 = (l.getD j r0).1 ∧ (l.getD k r0).2.1 = (l.getD j r0).2.1)
theorem free_none (l : List Rq) (h : freeTo l l.length) : twiceR l = false := by
  unfold twiceR
  rw [decide_eq_false_iff_not, Classical.not_not]
  show (l.map keyR).Pairwise (· ≠ ·)
  rw [List.pairwise_map, List.pairwise_iff_getElem]
  intro k j hk hj hkj he
  have := h j hj k hkj
  rw [List.getD_eq_getElem?_getD, List.getD_eq_getElem?_getD, List.getElem?_eq_getElem hk, List.getElem?_eq_getElem hj] at this
  unfold keyR at he
  injection he with h1 h2
  exact this ⟨h1, h2⟩
theorem hit_some (l : List Rq) (j k : Nat) (hj : j < l.length) (hk : k < j) (h : (l.getD k r0).1 = (l.getD j r0).1 ∧ (l.getD k r0).2.1 = (l.getD j r0).2.1) : twiceR l = true := by
  unfold twiceR
  rw [decide_eq_true_eq]
  intro hn
  have hn : (l.map keyR).Pairwise (· ≠ ·) := hn
  rw [List.pairwise_map, List.pairwise_iff_getElem] at hn
  have := hn k j (by omega) hj hk
  rw [List.getD_eq_getElem?_getD, List.getD_eq_getElem?_getD, List.getElem?_eq_getElem (show k < l.length by omega), List.getElem?_eq_getElem hj] at h
  exact this (by unfold keyR; exact Prod.ext h.1 h.2)
end JJ
end
