/-
  The walk of the law WireRequests.
-/
import Derived.Test.YtegkhhegapnkpaaDoorKCallsW
import Derived.Test.YtegkhhegapnkpaaDoorKWFewS
import Derived.Lib.UnsafeStr
import Derived.Lib.Buffer
import Derived.Test.YtegkhhegapnkpaaDoorKWNumCut
section
open Go Go.RowKit
namespace WW
open BB
theorem nil_size (s : ByteArray) (h : s.size = 0) : s = ⟨#[]⟩ := by
  cases s with
  | mk d =>
    have : d.size = 0 := h
    rw [Array.size_eq_zero_iff.1 this]
section
variable {P : Program} {ops : Array Oper} {Q : Exit → Act → World → Prop} {a : Act} {w : World} {rest : List Oper} {o : Oper}
theorem hold_ustr {x y : Operand} {tys : Array TypeId} (_ho : o.op = .call { callee := .builtin .unsafeString, args := #[x, y], argTypes := tys }) (h : Held (wpList P ops Q (o :: rest) a w)) : wpList P ops Q (o :: rest) a w := h
theorem wpl_ustr {x y : Operand} {pt it e : TypeId} (g n : Nat) (s : ByteArray) (hg : o.guard = none) (ho : o.op = .call { callee := .builtin .unsafeString, args := #[x, y], argTypes := #[pt, it] })
    (hx : a.eval x = .pointer (some ⟨g, 0, none⟩)) (hy : a.eval y = .int .i64 (n : Int)) (hp : P.underlying pt = some (.pointer e)) (hc : P.cellsOf e = 1) (hn : n = s.size) (h0 : 0 < n) (hn63 : n ≤ 9223372036854775807)
    (hb : TBlk e w g n (cb (sb s.data.toList)))
    (hK : ∀ w', (∀ B, B ≤ g → Below B w w') → wpList P ops Q rest (a.put o.dst (.string s)) w') : wpList P ops Q (o :: rest) a w := by
  unfold TBlk at hb
  have hl : s.data.toList.length = n := by rw [Array.length_toList]; exact hn.symm
  have h := Lib.run_unsafeString_row (P := P) w pt it o.type e hp hc g n (by unfold World.shape?; rw [hb]; simp [row_size]) s.data.toList (by intro h; rw [h] at hl; simp at hl; omega) (by omega) (by omega) (fun j x hx => by
    have hj : j < n := by
      rcases Nat.lt_or_ge j s.data.toList.length with h | h
      · omega
      · rw [List.getElem?_eq_none h] at hx; cases hx
    have : (⟨g, 0, none⟩ : Addr).add j = ⟨g, j, none⟩ := by unfold Addr.add; split <;> simp [*]
    rw [this]
    unfold World.cell?
    rw [hb]
    have hx' : s.data[j]? = some x := by simpa using hx
    simp [row_get _ _ _ hj, cb, sb, List.getD, hx'])
  rw [hl] at h
  refine wpl_value hg ?_ (hK _ fun B hB => Lib.below_freeze (Below.refl _ _) (p := ⟨g, 0, none⟩) hB n)
  simp [execOp, ho, resolve, invoke, hx, hy, builtin, h, Result.andThen]
end
end WW
namespace Go.Proofs.YtegkhhegapnkpaaDoor
open WW BB
theorem winfo_byte : (Tryd.prog.info? 5).map (fun i => (i.zero, i.size, i.bytes)) = some (some (.int .u8 0), 1, 1) := by kernel_rfl
theorem wunder_bytes (w : World) : (underlying 110).run Tryd.prog w = .ok (.slice 5) w := by kernel_rfl
theorem wsize_byte (w : World) : (Go.sizeOf 5).run Tryd.prog w = .ok 1 w := by kernel_rfl
set_option maxRecDepth 100000 in
set_option maxHeartbeats 1000000 in
theorem slclone_any (s : ByteArray) (hs : s.size ≤ 1000000) (w : World) :
    Calls Tryd.prog 230 #[.string s] w fun e w' => e = .returned (.string s) ∧ Below w.heap.size w w' := by
  have HS := Lib.hid hs
  by_cases h0 : s.size = 0
  · obtain rfl := nil_size s h0
    clear hs
    go_enter Tryd.func230, Tryd.ntmps230
    go_wp2_with fail
    go_ret
    exact ⟨rfl, Below.refl _ _⟩
  · have t0 : ((s.size : Int) == 0) = false := by rw [beq_eq_false_iff_ne]; omega
    have H0 := Lib.hid h0
    clear hs h0
    go_enter Tryd.func230, Tryd.ntmps230
    go_wp2_with (with_reducible refine hold_make rfl ?_)
    refine wpl_make (.tmp 8) (.tmp 8) 110 5 (.int .u8 0) 1 s.size rfl rfl (by rfl) (by rfl) (by kernel_rfl) winfo_byte (by rfl) (by have := HS.out; omega) (by have := HS.out; omega) ?_
    refine abs_list (fun w' => Below w.heap.size w w' ∧ TBlk 5 w' w.heap.size s.size (fun _ => .int .u8 0)) ⟨(Below.refl _ _).alloc (Nat.le_refl _) _, TBlk.new' _ _ _ _ _ _ rfl (made_row _ _)⟩ ?_
    rintro w1 ⟨b1, k1⟩
    go_wp2_with (with_reducible refine hold_copy rfl ?_)
    refine wpl_copy_str_t (.tmp 10) (.tmp 11) w.heap.size 0 s.size s.size s.size s.size (fun _ => .int .u8 0) s rfl rfl (by rfl) (by rfl) (wunder_bytes _) (wsize_byte _) k1 (by omega) (by omega) ?_
    rintro w2 ⟨k2, u2⟩
    have b2 := b1.trans (u2.below (Nat.le_refl _))
    have k3 : TBlk 5 w2 w.heap.size s.size (cb (sb s.data.toList)) := by
      unfold TBlk at k2 ⊢
      rw [k2, row_congr _ _ (cb (sb s.data.toList)) fun i hi => by rw [if_pos (by omega)]; rfl]
    have H1 := Lib.hid k3
    clear k1 b1 k2 k3 u2
    have i0 : (0 : Int) < (s.size : Int) := by have := H0.out; omega
    go_wp2_with (with_reducible refine hold_ustr rfl ?_)
    refine wpl_ustr w.heap.size s.size s rfl rfl (by rfl) (by rfl) (by kernel_rfl) (by kernel_rfl) rfl (by have := H0.out; omega) (by have := HS.out; omega) H1.out ?_
    intro w3 h3
    have b3 := b2.trans (h3 _ (Nat.le_refl _))
    clear h3
    go_wp2_with fail
    go_ret
    exact ⟨rfl, b3⟩
set_option maxRecDepth 100000 in
theorem clone_any (s : ByteArray) (hs : s.size ≤ 1000000) (w : World) :
    Calls Tryd.prog 223 #[.string s] w fun e w' => e = .returned (.string s) ∧ Below w.heap.size w w' := by
  go_enter Tryd.func223, Tryd.ntmps223
  go_wp2_with fail
  refine (slclone_any s hs _).mono ?_
  rintro e w1 ⟨rfl, hb1⟩
  go_wp2_with fail
  go_ret
  exact ⟨rfl, hb1⟩
end Go.Proofs.YtegkhhegapnkpaaDoor
end
section
open Go Go.RowKit
namespace WW
open BB
theorem Blk.cell_set {w : World} {p t o : Nat} {u v : Value} (h : w.cell? ⟨p, 0, none⟩ = some v) (hp : p ≠ t) : (w.setCell ⟨t, o, none⟩ u).cell? ⟨p, 0, none⟩ = some v :=
  (World.cell?_of_block (w := w) (Below.heap_setCell w ⟨t, o, none⟩ u p hp)).trans h
/-- what a cut leaves of the memory: block t alone has turned -/
def Cell1 (t n : Nat) (f : Nat → Value) (w w' : World) : Prop := Keep t w w' ∧ Blk w' t n f
theorem Cell1.call {t n : Nat} {f : Nat → Value} {w w1 w2 : World} (h : Cell1 t n f w w1) (hb : Below w1.heap.size w1 w2) : Cell1 t n f w w2 :=
  ⟨h.1.trans (keep_of_below hb (Nat.le_refl _) t), h.2.below hb h.2.lt⟩
theorem Cell1.store {t n : Nat} {f : Nat → Value} {w w1 : World} (h : Cell1 t n f w w1) (o : Nat) (u : Value) : Cell1 t n (put f o u) w (w1.setCell ⟨t, o, none⟩ u) :=
  ⟨h.1.trans (Upd.set _ _ _ _).keep, h.2.set o u⟩
theorem keep_cell {p : Nat} {v : Value} {w1 w2 : World} (h : w1.cell? ⟨p, 0, none⟩ = some v) (hb : Below w1.heap.size w1 w2) : w2.cell? ⟨p, 0, none⟩ = some v :=
  (hb.cell (p := ⟨p, 0, none⟩) (World.block_lt_of_cell? w1 _ h)).trans h
end WW
namespace Go.Proofs.YtegkhhegapnkpaaDoor
open WW BB
set_option maxRecDepth 100000 in
set_option maxHeartbeats 2000000 in
theorem bytesc_short (b : ByteArray) (p : Nat) (N : Nat) (vr : Value) (w : World) (hN : b.size < N) (hp : w.cell? ⟨p, 0, none⟩ = some (.int .i64 N)) :
    Calls Tryd.prog 222 #[.string b, .pointer (some ⟨p, 0, none⟩), vr] w fun e w' => e = .returned (.tuple #[.string ⟨#[]⟩, .bool false]) ∧ w = w' := by
  have g4 : (b.size : Int) < (N : Int) := by omega
  clear hN
  go_enter Tryd.func222, Tryd.ntmps222
  go_wp2_with fail
  go_ret2
  exact ⟨rfl, rfl⟩
set_option maxRecDepth 100000 in
set_option maxHeartbeats 2000000 in
theorem bytesc_yes (b : ByteArray) (p q t o n N : Nat) (f : Nat → Value) (w : World) (hb : b.size ≤ 1000000) (hN : N ≤ b.size) (hpt : p ≠ t) (hqt : q ≠ t)
    (hp : w.cell? ⟨p, 0, none⟩ = some (.int .i64 N)) (hq : w.cell? ⟨q, 0, none⟩ = some (.pointer (some ⟨t, o, none⟩))) (ht : Blk w t n f) (ho : o < n) :
    Calls Tryd.prog 222 #[.string b, .pointer (some ⟨p, 0, none⟩), .pointer (some ⟨q, 0, none⟩)] w fun e w' =>
      e = .returned (.tuple #[.string (b.extract N b.size), .bool true]) ∧ Cell1 t n (put f o (.string (b.extract 0 N))) w w' := by
  have g4 : ¬ (b.size : Int) < (N : Int) := by omega
  have g5 : (N : Int) ≤ (b.size : Int) := by omega
  have g6 : (0 : Int) ≤ (N : Int) := by omega
  have HB := Lib.hid hb
  have HO := Lib.hid ho
  have HN := Lib.hid hN
  have hsx : (b.extract 0 N).size ≤ 1000000 := by simp; omega
  have HSX := Lib.hid hsx
  have T0 := Lib.hid (⟨Keep.refl t w, ht⟩ : Cell1 t n f w w)
  clear hb ho ht hsx
  go_enter Tryd.func222, Tryd.ntmps222
  go_wp2_with fail
  have hst : w.drew.cell? ⟨p, 0, none⟩ = some (.int .i64 N) ∧ w.drew.cell? ⟨q, 0, none⟩ = some (.pointer (some ⟨t, o, none⟩)) := ⟨hp, hq⟩
  have T1 : Hid (Cell1 t n f w w.drew) := Lib.hid ⟨(Same.drewN w 1 |>.upd t).keep, T0.out.2.same (Same.drewN w 1)⟩
  clear T0
  have S1 := Lib.hid hst.1
  have S2 := Lib.hid hst.2
  go_region_held3 (fun w' => w'.cell? ⟨p, 0, none⟩ = some (.int .i64 N) ∧ w'.cell? ⟨q, 0, none⟩ = some (.pointer (some ⟨t, o, none⟩)))
    (first | exact hst | exact hk | exact hks)
    ((go_at_call 223; refine (clone_any _ HSX.out _).mono ?_; rintro e w1 ⟨rfl, hb1⟩;
      have T2 := Lib.hid (T1.out.call hb1);
      have hk : w1.cell? ⟨p, 0, none⟩ = some (.int .i64 N) ∧ w1.cell? ⟨q, 0, none⟩ = some (.pointer (some ⟨t, o, none⟩)) := ⟨keep_cell S1.out hb1, keep_cell S2.out hb1⟩;
      have hks : (w1.setCell ⟨t, o, none⟩ (.string (b.extract 0 N))).cell? ⟨p, 0, none⟩ = some (.int .i64 N) ∧ (w1.setCell ⟨t, o, none⟩ (.string (b.extract 0 N))).cell? ⟨q, 0, none⟩ = some (.pointer (some ⟨t, o, none⟩)) := ⟨Blk.cell_set hk.1 hpt, Blk.cell_set hk.2 hqt⟩;
      have ct := T2.out.2.get o HO.out;
      have ft := T2.out.2.frz o;
      have TF := Lib.hid (T2.out.store o (.string (b.extract 0 N)))))
  obtain ⟨c1, c2⟩ := hks
  clear hk ct ft S1 S2 hst
  go_wp2_with fail
  go_ret2
  exact ⟨rfl, TF.out⟩
end Go.Proofs.YtegkhhegapnkpaaDoor
end
section
open Go Go.RowKit
namespace WW
open BB
/-- what a cut with the answer x leaves -/
def Eff (t n : Nat) (f : Nat → Value) (w : World) {δ : Type} (eff : δ → (Nat → Value) → Nat → Value) (x : Option (ByteArray × δ)) (ok : Bool) (r : ByteArray) (w' : World) : Prop :=
  match x with
  | none => ok = false ∧ ∃ f', Cell1 t n f' w w'
  | some (r', d) => ok = true ∧ r = r' ∧ Cell1 t n (eff d f) w w'
/-- v cuts off what Sp says, and puts it into block t -/
def CutTo (P : Program) (t n : Nat) (v : Value) (W : World) {δ : Type} (Sp : ByteArray → Option (ByteArray × δ)) (eff : δ → (Nat → Value) → Nat → Value) : Prop :=
  ∀ f b w, b.size ≤ 1000000 → Keep t W w → Blk w t n f → Cut P v b w (Eff t n f w eff (Sp b))
theorem CutTo.later {P : Program} {t n : Nat} {v : Value} {W W' : World} {δ : Type} {Sp : ByteArray → Option (ByteArray × δ)} {eff : δ → (Nat → Value) → Nat → Value} (h : CutTo P t n v W Sp eff) (hk : Keep t W W') : CutTo P t n v W' Sp eff :=
  fun f b w hb hw ht => h f b w hb (hk.trans hw) ht
theorem keep_cell2 {t p : Nat} {v : Value} {w1 w2 : World} (h : w1.cell? ⟨p, 0, none⟩ = some v) (hp : p ≠ t) (hk : Keep t w1 w2) : w2.cell? ⟨p, 0, none⟩ = some v :=
  (World.cell?_of_block (w := w1) (hk.block p (World.block_lt_of_cell? w1 _ h) hp)).trans h
/-- a number put into cell o -/
def putN (o : Nat) (d : Nat) (f : Nat → Value) : Nat → Value := put f o (.int .i64 (d : Int))
/-- a text put into cell o -/
def putS (o : Nat) (d : ByteArray) (f : Nat → Value) : Nat → Value := put f o (.string d)
/-- so many bytes -/
def bytesSp (N : Nat) (b : ByteArray) : Option (ByteArray × ByteArray) := if b.size < N then none else some (b.extract N b.size, b.extract 0 N)
theorem cell_at (w : World) (u : Value) (t : TypeId) (b : Nat) (hb : b = w.heap.size) : (w.alloc (.cells #[u] t)).cell? ⟨b, 0, none⟩ = some u := by
  subst hb
  have : (w.alloc (.cells #[u] t)).heap[w.heap.size]? = some (.cells #[u] t) := by show (w.heap.push _)[w.heap.size]? = _; simp
  unfold World.cell?; rw [this]; simp
theorem cell_old {w : World} {p : Nat} {v : Value} {o : Obj} (h : w.cell? ⟨p, 0, none⟩ = some v) : (w.alloc o).cell? ⟨p, 0, none⟩ = some v :=
  keep_cell h ((Below.refl _ _).alloc (Nat.le_refl _) _)
theorem Blk.cell1 (w : World) (u : Value) (t : TypeId) : Blk (w.alloc (.cells #[u] t)) w.heap.size 1 (fun _ => u) := Blk.new' rfl (by rfl)
/-- a closure is made that cuts off what Sp says -/
def Makes (P : Program) (t n : Nat) (w : World) {δ : Type} (Sp : ByteArray → Option (ByteArray × δ)) (eff : δ → (Nat → Value) → Nat → Value) (e : Ending) (w' : World) : Prop :=
  ∃ k env, e = .returned (.func (.func k) #[] env) ∧ Below w.heap.size w w' ∧ CutTo P t n (.func (.func k) #[] env) w' Sp eff
end WW
namespace Go.Proofs.YtegkhhegapnkpaaDoor
open WW BB
theorem own_num : Own Tryd.prog 215 := ⟨_, Tryd.func215, by kernel_rfl, by kernel_rfl⟩
theorem own_bytes : Own Tryd.prog 222 := ⟨_, Tryd.func222, by kernel_rfl, by kernel_rfl⟩
/-- the closure that cuts a number off into cell o of block t -/
theorem num_to (t n o p q r : Nat) (lo hi : Int) (ho : o < n) (W : World) (hp : W.cell? ⟨p, 0, none⟩ = some (.int .i64 lo)) (hq : W.cell? ⟨q, 0, none⟩ = some (.int .i64 hi)) (hr : W.cell? ⟨r, 0, none⟩ = some (.pointer (some ⟨t, o, none⟩)))
    (p1 : p ≠ t) (q1 : q ≠ t) (r1 : r ≠ t) :
    CutTo Tryd.prog t n (.func (.func 215) #[] #[.pointer (some ⟨p, 0, none⟩), .pointer (some ⟨q, 0, none⟩), .pointer (some ⟨r, 0, none⟩)]) W (numSp lo hi) (putN o) := by
  intro f b w hb hk ht
  refine ⟨_, _, rfl, own_num, ?_⟩
  have hp := keep_cell2 hp p1 hk
  have hq := keep_cell2 hq q1 hk
  have hr := keep_cell2 hr r1 hk
  unfold numSp
  by_cases h4 : b.size < 4
  · rw [if_pos h4]
    refine (numc_short b _ _ _ w h4).mono ?_
    rintro e w' ⟨rfl, rfl⟩
    exact ⟨false, _, rfl, rfl, f, Keep.refl _ _, ht⟩
  · rw [if_neg h4]
    by_cases hr2 : (rd4 b : Int) < lo ∨ hi < (rd4 b : Int)
    · rw [if_pos hr2]
      refine (numc_out b p q lo hi w (by omega) (by omega) hp hq _).mono ?_
      rintro e w' ⟨rfl, hs⟩
      exact ⟨false, _, rfl, rfl, f, (hs.upd t).keep, ht.same hs⟩
    · rw [if_neg hr2]
      refine (numc_yes b p q r t o n lo hi f w (by omega) (by omega) (by omega) hp hq hr ht ho).mono ?_
      rintro e w' ⟨rfl, hm⟩
      exact ⟨true, _, rfl, rfl, rfl, hm.2.keep, hm.1⟩
theorem bytes_to (t n o p q N : Nat) (ho : o < n) (W : World) (hp : W.cell? ⟨p, 0, none⟩ = some (.int .i64 N)) (hq : W.cell? ⟨q, 0, none⟩ = some (.pointer (some ⟨t, o, none⟩))) (p1 : p ≠ t) (q1 : q ≠ t) :
    CutTo Tryd.prog t n (.func (.func 222) #[] #[.pointer (some ⟨p, 0, none⟩), .pointer (some ⟨q, 0, none⟩)]) W (bytesSp N) (putS o) := by
  intro f b w hb hk ht
  refine ⟨_, _, rfl, own_bytes, ?_⟩
  have hp := keep_cell2 hp p1 hk
  have hq := keep_cell2 hq q1 hk
  unfold bytesSp
  by_cases h : b.size < N
  · rw [if_pos h]
    refine (bytesc_short b p N _ w h hp).mono ?_
    rintro e w' ⟨rfl, rfl⟩
    exact ⟨false, _, rfl, rfl, f, Keep.refl _ _, ht⟩
  · rw [if_neg h]
    refine (bytesc_yes b p q t o n N f w hb (by omega) p1 q1 hp hq ht ho).mono ?_
    rintro e w' ⟨rfl, hc⟩
    exact ⟨true, _, rfl, rfl, rfl, hc⟩
set_option maxRecDepth 100000 in
/-- cutNumber -/
theorem mk_num (t o n : Nat) (lo hi : Int) (w : World) (ho : o < n) (ht : t < w.heap.size) :
    Calls Tryd.prog 198 #[.pointer (some ⟨t, o, none⟩), .int .i64 lo, .int .i64 hi] w (Makes Tryd.prog t n w (numSp lo hi) (putN o)) := by
  have HO := Lib.hid ho
  have HT := Lib.hid ht
  clear ho ht
  go_enter Tryd.func198, Tryd.ntmps198
  go_wp2_with fail
  go_ret
  have b1 := (Below.refl w.heap.size w).alloc (Nat.le_refl _) (.cells #[.pointer (some ⟨t, o, none⟩)] 254)
  have b2 := b1.alloc b1.size (.cells #[.int .i64 lo] 3)
  have b3 := b2.alloc b2.size (.cells #[.int .i64 hi] 3)
  have := HT.out
  exact ⟨_, _, rfl, b3, num_to t n o (w.heap.size + 1) (w.heap.size + 2) w.heap.size lo hi HO.out _ (cell_old (cell_at _ _ _ _ (by simp))) (cell_at _ _ _ _ (by simp)) (cell_old (cell_old (cell_at _ _ _ _ rfl))) (by omega) (by omega) (by omega)⟩
set_option maxRecDepth 100000 in
/-- cutBytes -/
theorem mk_bytes (t o n N : Nat) (w : World) (ho : o < n) (ht : t < w.heap.size) :
    Calls Tryd.prog 205 #[.pointer (some ⟨t, o, none⟩), .int .i64 N] w (Makes Tryd.prog t n w (bytesSp N) (putS o)) := by
  have HO := Lib.hid ho
  have HT := Lib.hid ht
  clear ho ht
  go_enter Tryd.func205, Tryd.ntmps205
  go_wp2_with fail
  go_ret
  have b1 := (Below.refl w.heap.size w).alloc (Nat.le_refl _) (.cells #[.pointer (some ⟨t, o, none⟩)] 262)
  have b2 := b1.alloc b1.size (.cells #[.int .i64 (N : Int)] 3)
  have := HT.out
  exact ⟨_, _, rfl, b2, bytes_to t n o (w.heap.size + 1) w.heap.size N HO.out _ (cell_at _ _ _ _ (by simp)) (cell_old (cell_at _ _ _ _ rfl)) (by omega) (by omega)⟩
end Go.Proofs.YtegkhhegapnkpaaDoor
end
section
open Go Go.RowKit
namespace WW
open BB
theorem numSp_size {lo hi : Int} {b r : ByteArray} {d : Nat} (h : numSp lo hi b = some (r, d)) : r.size ≤ b.size := by
  unfold numSp at h
  split at h
  · cases h
  · split at h
    · cases h
    · injection h with h; injection h with h1 h2; rw [← h1]; simp
theorem InRow_keep {w w' : World} {t gc : Nat} {l : List Value} (h : ∀ i, i < l.length → w.cell? ⟨gc, i, none⟩ = some (l.getD i .nilFunc)) (hg : gc ≠ t) (hl : gc < w.heap.size) (hk : Keep t w w') : ∀ i, i < l.length → w'.cell? ⟨gc, i, none⟩ = some (l.getD i .nilFunc) :=
  fun i hi => (World.cell?_of_block (w := w) (hk.block gc hl hg)).trans (h i hi)
end WW
namespace Go.Proofs.YtegkhhegapnkpaaDoor
open WW BB
theorem own_order : Own Tryd.prog 214 := ⟨_, Tryd.func214, by kernel_rfl, by kernel_rfl⟩
set_option maxRecDepth 100000 in
theorem mk_order (gc len cap : Nat) (w : World) :
    Calls Tryd.prog 197 #[.slice (some ⟨gc, 0, none⟩) len cap] w fun e w' => e = .returned (.func (.func 214) #[] #[.pointer (some ⟨w.heap.size, 0, none⟩)]) ∧ Below w.heap.size w w' ∧ w'.cell? ⟨w.heap.size, 0, none⟩ = some (.slice (some ⟨gc, 0, none⟩) len cap) := by
  go_enter Tryd.func197, Tryd.ntmps197
  go_wp2_with fail
  go_ret
  exact ⟨rfl, (Below.refl w.heap.size w).alloc (Nat.le_refl _) _, cell_at _ _ _ _ rfl⟩
end Go.Proofs.YtegkhhegapnkpaaDoor
end
section
open Go Go.RowKit
namespace WW
open BB
/-- a zero request's cells -/
def rz : Nat → Value := fun i => if i < 2 then .int .i64 0 else .string ⟨#[]⟩
/-- three requests beside each other -/
structure Three (w0 : World) (a : Nat) (w : World) : Prop where
  below : Below w0.heap.size w0 w
  ra : Blk w a 3 rz
  rx : Blk w (a + 1) 3 rz
  rn : Blk w (a + 1 + 1) 3 rz
theorem Three.on {w0 w w' : World} {a : Nat} (h : Three w0 a w) (hb : Below w.heap.size w w') : Three w0 a w' :=
  ⟨h.below.trans (hb.mono h.below.size), h.ra.below hb h.ra.lt, h.rx.below hb h.rx.lt, h.rn.below hb h.rn.lt⟩
end WW
namespace Go.Proofs.YtegkhhegapnkpaaDoor
open WW BB
end Go.Proofs.YtegkhhegapnkpaaDoor
end
section
open Go Go.RowKit
namespace WW
open BB
theorem ba_ext {a b : ByteArray} (h : a.data.toList = b.data.toList) : a = b := ByteArray.ext (Array.toList_inj.1 h)
theorem ba_list (a : ByteArray) : a.data.toList.length = a.size := by rw [Array.length_toList]; rfl
theorem be4_list (n : Nat) : (be4 n).data.toList = [UInt8.ofNat (n / 16777216), UInt8.ofNat (n / 65536), UInt8.ofNat (n / 256), UInt8.ofNat n] := rfl
theorem rd4_be4 (n : Nat) (h : n < 4294967296) (r : ByteArray) : rd4 (be4 n ++ r) = n := by
  unfold rd4
  rw [ByteArray.data_append, Array.toList_append, be4_list]
  simp only [List.cons_append, List.nil_append, List.getD_cons_zero, List.getD_cons_succ, UInt8.toNat_ofNat']
  have d1 : n / 65536 / 256 = n / 16777216 := Nat.div_div_eq_div_mul n 65536 256
  have d2 : n / 256 / 256 = n / 65536 := Nat.div_div_eq_div_mul n 256 256
  omega
theorem drop_be4 (n : Nat) (r : ByteArray) : (be4 n ++ r).extract 4 (be4 n ++ r).size = r := by
  apply ba_ext
  have hr := ba_list r
  have hs : (be4 n ++ r).size = 4 + r.size := by rw [ByteArray.size_append]; rfl
  rw [hs, ByteArray.data_extract, Array.toList_extract, ByteArray.data_append, Array.toList_append, be4_list, List.extract_eq_take_drop]
  show List.take (4 + r.size - 4) r.data.toList = r.data.toList
  exact List.take_of_length_le (by omega)
theorem numSp_put (lo hi : Int) (n : Nat) (h : n < 4294967296) (r : ByteArray) : numSp lo hi (be4 n ++ r) = if (n : Int) < lo ∨ hi < (n : Int) then none else some (r, n) := by
  unfold numSp
  rw [if_neg (by rw [ByteArray.size_append]; show ¬ 4 + r.size < 4; omega), rd4_be4 n h, drop_be4]
theorem list4 (l : List UInt8) (h : 4 ≤ l.length) : ∃ a b c d r, l = a :: b :: c :: d :: r := by
  match l, h with
  | a :: b :: c :: d :: r, _ => exact ⟨a, b, c, d, r, rfl⟩
theorem u8_of (x : UInt8) (n : Nat) (h : n % 256 = x.toNat) : UInt8.ofNat n = x := by
  apply UInt8.toNat_inj.1; simp [h]
theorem numSp_sound {lo hi : Int} {b r : ByteArray} {N : Nat} (h : numSp lo hi b = some (r, N)) : b = be4 N ++ r ∧ lo ≤ (N : Int) ∧ (N : Int) ≤ hi := by
  unfold numSp at h
  split at h
  · cases h
  · split at h
    · cases h
    · rename_i h4 hr
      injection h with h; injection h with h1 h2
      refine ⟨?_, by omega, by omega⟩
      apply ba_ext
      have hl := ba_list b
      obtain ⟨x0, x1, x2, x3, t, ht⟩ := list4 b.data.toList (by omega)
      have hN : N = x0.toNat * 16777216 + x1.toNat * 65536 + x2.toNat * 256 + x3.toNat := by
        rw [← h2]; unfold rd4; rw [ht]; rfl
      have l0 := UInt8.toNat_lt x0
      have l1 := UInt8.toNat_lt x1
      have l2 := UInt8.toNat_lt x2
      have l3 := UInt8.toNat_lt x3
      have e0 : UInt8.ofNat (N / 16777216) = x0 := u8_of _ _ (by omega)
      have e1 : UInt8.ofNat (N / 65536) = x1 := u8_of _ _ (by omega)
      have e2 : UInt8.ofNat (N / 256) = x2 := u8_of _ _ (by omega)
      have e3 : UInt8.ofNat N = x3 := u8_of _ _ (by omega)
      rw [ByteArray.data_append, Array.toList_append, be4_list, e0, e1, e2, e3, ← h1, ByteArray.data_extract, Array.toList_extract, ht, List.extract_eq_take_drop]
      have hs : b.size = t.length + 4 := by rw [← hl, ht]; simp
      simp [hs]
theorem bytesSp_put (s r : ByteArray) : bytesSp s.size (s ++ r) = some (r, s) := by
  unfold bytesSp
  rw [if_neg (by rw [ByteArray.size_append]; omega)]
  congr 2
  · apply ba_ext
    have hr := ba_list r
    have hs := ba_list s
    rw [ByteArray.data_extract, Array.toList_extract, ByteArray.data_append, Array.toList_append, ByteArray.size_append, List.extract_eq_take_drop, List.drop_left' hs]
    exact List.take_of_length_le (by omega)
  · apply ba_ext
    have hs := ba_list s
    rw [ByteArray.data_extract, Array.toList_extract, ByteArray.data_append, Array.toList_append, List.extract_eq_take_drop, List.drop_zero, Nat.sub_zero, List.take_left' hs]
theorem bytesSp_sound {N : Nat} {b r s : ByteArray} (h : bytesSp N b = some (r, s)) : b = s ++ r ∧ s.size = N := by
  unfold bytesSp at h
  split at h
  · cases h
  · injection h with h; injection h with h1 h2
    constructor
    · apply ba_ext
      rw [← h1, ← h2, ByteArray.data_append, Array.toList_append, ByteArray.data_extract, ByteArray.data_extract, Array.toList_extract, Array.toList_extract, List.extract_eq_take_drop, List.extract_eq_take_drop]
      have := ba_list b
      rw [List.drop_zero, Nat.sub_zero, List.take_of_length_le (l := b.data.toList.drop N) (by simp), List.take_append_drop]
    · rw [← h2]; simp; omega
end WW
end
section
open Go Go.RowKit
namespace WW
open BB
theorem num_nat (n : Nat) (h : n ≤ 2147483647) : num (n : Int) = be4 n := by
  unfold num; rw [if_neg (by omega)]; rfl
/-- a right request -/
def rightR (c q : Int) (s : ByteArray) : Prop := 0 ≤ c ∧ c < 4 ∧ 1 ≤ q ∧ q ≤ 2147483647 ∧ s.size ≤ 40
end WW
end
section
open Go Go.RowKit
namespace WW
open BB
/-- a request in block g, and what was as it was -/
structure Req1 (w0 : World) (g : Nat) (c q : Int) (s : ByteArray) (w : World) : Prop where
  below : Below w0.heap.size w0 w
  lt : g < w.heap.size
  cells : w.cell? ⟨g, 0, none⟩ = some (.int .i64 c) ∧ w.cell? ⟨g, 1, none⟩ = some (.int .i64 q) ∧ w.cell? ⟨g, 2, none⟩ = some (.string s)
theorem Req1.on {w0 w w' : World} {g : Nat} {c q : Int} {s : ByteArray} (h : Req1 w0 g c q s w) (hb : Below w.heap.size w w') : Req1 w0 g c q s w' :=
  ⟨h.below.trans (hb.mono h.below.size), Nat.lt_of_lt_of_le h.lt hb.size, (hb.cell (p := ⟨g, 0, none⟩) h.lt).trans h.cells.1, (hb.cell (p := ⟨g, 1, none⟩) h.lt).trans h.cells.2.1, (hb.cell (p := ⟨g, 2, none⟩) h.lt).trans h.cells.2.2⟩
end WW
namespace Go.Proofs.YtegkhhegapnkpaaDoor
open WW BB
end Go.Proofs.YtegkhhegapnkpaaDoor
end
