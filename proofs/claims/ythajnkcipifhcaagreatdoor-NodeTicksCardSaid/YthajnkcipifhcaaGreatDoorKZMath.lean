/-
  A pool: what waits, and what is done: lists alone (layer 12). No walk is here.
-/
import Derived.Test.YthajnkcipifhcaaGreatDoorKCallsW
import Derived.Test.YthajnkcipifhcaaGreatDoorKWFewS
import Derived.Lib.UnsafeStr
import Derived.Lib.Buffer
import Derived.Test.YthajnkcipifhcaaGreatDoorKWNumCut
section
open Go Go.RowKit
namespace WW
open BB
theorem nil_size (s : ByteArray) (h : s.size = 0) : s = ⟨#[]⟩ := by
  cases s with
  | mk d =>
    have : d.size = 0 := h
    rw [Array.size_eq_zero_iff.1 this]
section
variable {P : Program} {ops : Array Oper} {Q : Exit → Act → World → Prop} {a : Act} {w : World} {rest : List Oper} {o : Oper}
theorem hold_ustr {x y : Operand} {tys : Array TypeId} (_ho : o.op = .call { callee := .builtin .unsafeString, args := #[x, y], argTypes := tys }) (h : Held (wpList P ops Q (o :: rest) a w)) : wpList P ops Q (o :: rest) a w := h
theorem wpl_ustr {x y : Operand} {pt it e : TypeId} (g n : Nat) (s : ByteArray) (hg : o.guard = none) (ho : o.op = .call { callee := .builtin .unsafeString, args := #[x, y], argTypes := #[pt, it] })
    (hx : a.eval x = .pointer (some ⟨g, 0, none⟩)) (hy : a.eval y = .int .i64 (n : Int)) (hp : P.underlying pt = some (.pointer e)) (hc : P.cellsOf e = 1) (hn : n = s.size) (h0 : 0 < n) (hn63 : n ≤ 9223372036854775807)
    (hb : TBlk e w g n (cb (sb s.data.toList)))
    (hK : ∀ w', (∀ B, B ≤ g → Below B w w') → wpList P ops Q rest (a.put o.dst (.string s)) w') : wpList P ops Q (o :: rest) a w := by
  unfold TBlk at hb
  have hl : s.data.toList.length = n := by rw [Array.length_toList]; exact hn.symm
  have h := Lib.run_unsafeString_row (P := P) w pt it o.type e hp hc g n (by unfold World.shape?; rw [hb]; simp [row_size]) s.data.toList (by intro h; rw [h] at hl; simp at hl; omega) (by omega) (by omega) (fun j x hx => by
    have hj : j < n := by
      rcases Nat.lt_or_ge j s.data.toList.length with h | h
      · omega
      · rw [List.getElem?_eq_none h] at hx; cases hx
    have : (⟨g, 0, none⟩ : Addr).add j = ⟨g, j, none⟩ := by unfold Addr.add; split <;> simp [*]
    rw [this]
    unfold World.cell?
    rw [hb]
    have hx' : s.data[j]? = some x := by simpa using hx
    simp [row_get _ _ _ hj, cb, sb, List.getD, hx'])
  rw [hl] at h
  refine wpl_value hg ?_ (hK _ fun B hB => Lib.below_freeze (Below.refl _ _) (p := ⟨g, 0, none⟩) hB n)
  simp [execOp, ho, resolve, invoke, hx, hy, builtin, h, Result.andThen]
end
end WW
namespace Go.Proofs.YthajnkcipifhcaaGreatDoor
open WW BB
theorem winfo_byte : (Tryz.prog.info? 5).map (fun i => (i.zero, i.size, i.bytes)) = some (some (.int .u8 0), 1, 1) := by kernel_rfl
theorem wunder_bytes (w : World) : (underlying 99).run Tryz.prog w = .ok (.slice 5) w := by kernel_rfl
theorem wsize_byte (w : World) : (Go.sizeOf 5).run Tryz.prog w = .ok 1 w := by kernel_rfl
set_option maxRecDepth 100000 in
set_option maxHeartbeats 1000000 in
theorem slclone_any (s : ByteArray) (hs : s.size ≤ 1000000) (w : World) :
    Calls Tryz.prog 335 #[.string s] w fun e w' => e = .returned (.string s) ∧ Below w.heap.size w w' := by
  have HS := Lib.hid hs
  by_cases h0 : s.size = 0
  · obtain rfl := nil_size s h0
    clear hs
    go_enter Tryz.func335, Tryz.ntmps335
    go_wp2_with fail
    go_ret
    exact ⟨rfl, Below.refl _ _⟩
  · have t0 : ((s.size : Int) == 0) = false := by rw [beq_eq_false_iff_ne]; omega
    have H0 := Lib.hid h0
    clear hs h0
    go_enter Tryz.func335, Tryz.ntmps335
    go_wp2_with (with_reducible refine hold_make rfl ?_)
    refine wpl_make (.tmp 8) (.tmp 8) 99 5 (.int .u8 0) 1 s.size rfl rfl (by rfl) (by rfl) (by kernel_rfl) winfo_byte (by rfl) (by have := HS.out; omega) (by have := HS.out; omega) ?_
    refine abs_list (fun w' => Below w.heap.size w w' ∧ TBlk 5 w' w.heap.size s.size (fun _ => .int .u8 0)) ⟨(Below.refl _ _).alloc (Nat.le_refl _) _, TBlk.new' _ _ _ _ _ _ rfl (made_row _ _)⟩ ?_
    rintro w1 ⟨b1, k1⟩
    go_wp2_with (with_reducible refine hold_copy rfl ?_)
    refine wpl_copy_str_t (.tmp 10) (.tmp 11) w.heap.size 0 s.size s.size s.size s.size (fun _ => .int .u8 0) s rfl rfl (by rfl) (by rfl) (wunder_bytes _) (wsize_byte _) k1 (by omega) (by omega) ?_
    rintro w2 ⟨k2, u2⟩
    have b2 := b1.trans (u2.below (Nat.le_refl _))
    have k3 : TBlk 5 w2 w.heap.size s.size (cb (sb s.data.toList)) := by
      unfold TBlk at k2 ⊢
      rw [k2, row_congr _ _ (cb (sb s.data.toList)) fun i hi => by rw [if_pos (by omega)]; rfl]
    have H1 := Lib.hid k3
    clear k1 b1 k2 k3 u2
    have i0 : (0 : Int) < (s.size : Int) := by have := H0.out; omega
    go_wp2_with (with_reducible refine hold_ustr rfl ?_)
    refine wpl_ustr w.heap.size s.size s rfl rfl (by rfl) (by rfl) (by kernel_rfl) (by kernel_rfl) rfl (by have := H0.out; omega) (by have := HS.out; omega) H1.out ?_
    intro w3 h3
    have b3 := b2.trans (h3 _ (Nat.le_refl _))
    clear h3
    go_wp2_with fail
    go_ret
    exact ⟨rfl, b3⟩
set_option maxRecDepth 100000 in
theorem clone_any (s : ByteArray) (hs : s.size ≤ 1000000) (w : World) :
    Calls Tryz.prog 307 #[.string s] w fun e w' => e = .returned (.string s) ∧ Below w.heap.size w w' := by
  go_enter Tryz.func307, Tryz.ntmps307
  go_wp2_with fail
  refine (slclone_any s hs _).mono ?_
  rintro e w1 ⟨rfl, hb1⟩
  go_wp2_with fail
  go_ret
  exact ⟨rfl, hb1⟩
end Go.Proofs.YthajnkcipifhcaaGreatDoor
end
section
open Go Go.RowKit
namespace WW
open BB
theorem Blk.cell_set {w : World} {p t o : Nat} {u v : Value} (h : w.cell? ⟨p, 0, none⟩ = some v) (hp : p ≠ t) : (w.setCell ⟨t, o, none⟩ u).cell? ⟨p, 0, none⟩ = some v :=
  (World.cell?_of_block (w := w) (Below.heap_setCell w ⟨t, o, none⟩ u p hp)).trans h
/-- what a cut leaves of the memory: block t alone has turned -/
def Cell1 (t n : Nat) (f : Nat → Value) (w w' : World) : Prop := Keep t w w' ∧ Blk w' t n f
theorem Cell1.call {t n : Nat} {f : Nat → Value} {w w1 w2 : World} (h : Cell1 t n f w w1) (hb : Below w1.heap.size w1 w2) : Cell1 t n f w w2 :=
  ⟨h.1.trans (keep_of_below hb (Nat.le_refl _) t), h.2.below hb h.2.lt⟩
theorem Cell1.store {t n : Nat} {f : Nat → Value} {w w1 : World} (h : Cell1 t n f w w1) (o : Nat) (u : Value) : Cell1 t n (put f o u) w (w1.setCell ⟨t, o, none⟩ u) :=
  ⟨h.1.trans (Upd.set _ _ _ _).keep, h.2.set o u⟩
theorem keep_cell {p : Nat} {v : Value} {w1 w2 : World} (h : w1.cell? ⟨p, 0, none⟩ = some v) (hb : Below w1.heap.size w1 w2) : w2.cell? ⟨p, 0, none⟩ = some v :=
  (hb.cell (p := ⟨p, 0, none⟩) (World.block_lt_of_cell? w1 _ h)).trans h
end WW
namespace Go.Proofs.YthajnkcipifhcaaGreatDoor
open WW BB
set_option maxRecDepth 100000 in
set_option maxHeartbeats 2000000 in
theorem bytesc_short (b : ByteArray) (p : Nat) (N : Nat) (vr : Value) (w : World) (hN : b.size < N) (hp : w.cell? ⟨p, 0, none⟩ = some (.int .i64 N)) :
    Calls Tryz.prog 306 #[.string b, .pointer (some ⟨p, 0, none⟩), vr] w fun e w' => e = .returned (.tuple #[.string ⟨#[]⟩, .bool false]) ∧ w = w' := by
  have g4 : (b.size : Int) < (N : Int) := by omega
  clear hN
  go_enter Tryz.func306, Tryz.ntmps306
  go_wp2_with fail
  go_ret2
  exact ⟨rfl, rfl⟩
set_option maxRecDepth 100000 in
set_option maxHeartbeats 2000000 in
theorem bytesc_yes (b : ByteArray) (p q t o n N : Nat) (f : Nat → Value) (w : World) (hb : b.size ≤ 1000000) (hN : N ≤ b.size) (hpt : p ≠ t) (hqt : q ≠ t)
    (hp : w.cell? ⟨p, 0, none⟩ = some (.int .i64 N)) (hq : w.cell? ⟨q, 0, none⟩ = some (.pointer (some ⟨t, o, none⟩))) (ht : Blk w t n f) (ho : o < n) :
    Calls Tryz.prog 306 #[.string b, .pointer (some ⟨p, 0, none⟩), .pointer (some ⟨q, 0, none⟩)] w fun e w' =>
      e = .returned (.tuple #[.string (b.extract N b.size), .bool true]) ∧ Cell1 t n (put f o (.string (b.extract 0 N))) w w' := by
  have g4 : ¬ (b.size : Int) < (N : Int) := by omega
  have g5 : (N : Int) ≤ (b.size : Int) := by omega
  have g6 : (0 : Int) ≤ (N : Int) := by omega
  have HB := Lib.hid hb
  have HO := Lib.hid ho
  have HN := Lib.hid hN
  have hsx : (b.extract 0 N).size ≤ 1000000 := by simp; omega
  have HSX := Lib.hid hsx
  have T0 := Lib.hid (⟨Keep.refl t w, ht⟩ : Cell1 t n f w w)
  clear hb ho ht hsx
  go_enter Tryz.func306, Tryz.ntmps306
  go_wp2_with fail
  have hst : w.drew.cell? ⟨p, 0, none⟩ = some (.int .i64 N) ∧ w.drew.cell? ⟨q, 0, none⟩ = some (.pointer (some ⟨t, o, none⟩)) := ⟨hp, hq⟩
  have T1 : Hid (Cell1 t n f w w.drew) := Lib.hid ⟨(Same.drewN w 1 |>.upd t).keep, T0.out.2.same (Same.drewN w 1)⟩
  clear T0
  have S1 := Lib.hid hst.1
  have S2 := Lib.hid hst.2
  go_region_held3 (fun w' => w'.cell? ⟨p, 0, none⟩ = some (.int .i64 N) ∧ w'.cell? ⟨q, 0, none⟩ = some (.pointer (some ⟨t, o, none⟩)))
    (first | exact hst | exact hk | exact hks)
    ((go_at_call 307; refine (clone_any _ HSX.out _).mono ?_; rintro e w1 ⟨rfl, hb1⟩;
      have T2 := Lib.hid (T1.out.call hb1);
      have hk : w1.cell? ⟨p, 0, none⟩ = some (.int .i64 N) ∧ w1.cell? ⟨q, 0, none⟩ = some (.pointer (some ⟨t, o, none⟩)) := ⟨keep_cell S1.out hb1, keep_cell S2.out hb1⟩;
      have hks : (w1.setCell ⟨t, o, none⟩ (.string (b.extract 0 N))).cell? ⟨p, 0, none⟩ = some (.int .i64 N) ∧ (w1.setCell ⟨t, o, none⟩ (.string (b.extract 0 N))).cell? ⟨q, 0, none⟩ = some (.pointer (some ⟨t, o, none⟩)) := ⟨Blk.cell_set hk.1 hpt, Blk.cell_set hk.2 hqt⟩;
      have ct := T2.out.2.get o HO.out;
      have ft := T2.out.2.frz o;
      have TF := Lib.hid (T2.out.store o (.string (b.extract 0 N)))))
  obtain ⟨c1, c2⟩ := hks
  clear hk ct ft S1 S2 hst
  go_wp2_with fail
  go_ret2
  exact ⟨rfl, TF.out⟩
end Go.Proofs.YthajnkcipifhcaaGreatDoor
end
section
open Go Go.RowKit
namespace WW
open BB
/-- what a cut with the answer x leaves -/
def Eff (t n : Nat) (f : Nat → Value) (w : World) {δ : Type} (eff : δ → (Nat → Value) → Nat → Value) (x : Option (ByteArray × δ)) (ok : Bool) (r : ByteArray) (w' : World) : Prop :=
  match x with
  | none => ok = false ∧ ∃ f', Cell1 t n f' w w'
  | some (r', d) => ok = true ∧ r = r' ∧ Cell1 t n (eff d f) w w'
/-- v cuts off what Sp says, and puts it into block t -/
def CutTo (P : Program) (t n : Nat) (v : Value) (W : World) {δ : Type} (Sp : ByteArray → Option (ByteArray × δ)) (eff : δ → (Nat → Value) → Nat → Value) : Prop :=
  ∀ f b w, b.size ≤ 1000000 → Keep t W w → Blk w t n f → Cut P v b w (Eff t n f w eff (Sp b))
theorem CutTo.later {P : Program} {t n : Nat} {v : Value} {W W' : World} {δ : Type} {Sp : ByteArray → Option (ByteArray × δ)} {eff : δ → (Nat → Value) → Nat → Value} (h : CutTo P t n v W Sp eff) (hk : Keep t W W') : CutTo P t n v W' Sp eff :=
  fun f b w hb hw ht => h f b w hb (hk.trans hw) ht
theorem keep_cell2 {t p : Nat} {v : Value} {w1 w2 : World} (h : w1.cell? ⟨p, 0, none⟩ = some v) (hp : p ≠ t) (hk : Keep t w1 w2) : w2.cell? ⟨p, 0, none⟩ = some v :=
  (World.cell?_of_block (w := w1) (hk.block p (World.block_lt_of_cell? w1 _ h) hp)).trans h
/-- a number put into cell o -/
def putN (o : Nat) (d : Nat) (f : Nat → Value) : Nat → Value := put f o (.int .i64 (d : Int))
/-- a text put into cell o -/
def putS (o : Nat) (d : ByteArray) (f : Nat → Value) : Nat → Value := put f o (.string d)
/-- so many bytes -/
def bytesSp (N : Nat) (b : ByteArray) : Option (ByteArray × ByteArray) := if b.size < N then none else some (b.extract N b.size, b.extract 0 N)
/-- a text whose length fits -/
def textSp (fits : Nat → Bool) (b : ByteArray) : Option (ByteArray × ByteArray) :=
  match numSp 0 2147483647 b with
  | none => none
  | some (r, N) => if fits N then bytesSp N r else none
theorem cell_at (w : World) (u : Value) (t : TypeId) (b : Nat) (hb : b = w.heap.size) : (w.alloc (.cells #[u] t)).cell? ⟨b, 0, none⟩ = some u := by
  subst hb
  have : (w.alloc (.cells #[u] t)).heap[w.heap.size]? = some (.cells #[u] t) := by show (w.heap.push _)[w.heap.size]? = _; simp
  unfold World.cell?; rw [this]; simp
theorem cell_old {w : World} {p : Nat} {v : Value} {o : Obj} (h : w.cell? ⟨p, 0, none⟩ = some v) : (w.alloc o).cell? ⟨p, 0, none⟩ = some v :=
  keep_cell h ((Below.refl _ _).alloc (Nat.le_refl _) _)
theorem Blk.cell1 (w : World) (u : Value) (t : TypeId) : Blk (w.alloc (.cells #[u] t)) w.heap.size 1 (fun _ => u) := Blk.new' rfl (by rfl)
theorem textSp_none (fits : Nat → Bool) (b : ByteArray) (h : numSp 0 2147483647 b = none) : textSp fits b = none := by unfold textSp; rw [h]
theorem textSp_some (fits : Nat → Bool) (b : ByteArray) {r : ByteArray} {d : Nat} (h : numSp 0 2147483647 b = some (r, d)) : textSp fits b = if fits d = true then bytesSp d r else none := by unfold textSp; rw [h]
/-- a closure is made that cuts off what Sp says -/
def Makes (P : Program) (t n : Nat) (w : World) {δ : Type} (Sp : ByteArray → Option (ByteArray × δ)) (eff : δ → (Nat → Value) → Nat → Value) (e : Ending) (w' : World) : Prop :=
  ∃ k env, e = .returned (.func (.func k) #[] env) ∧ Below w.heap.size w w' ∧ CutTo P t n (.func (.func k) #[] env) w' Sp eff
/-- fv tells whether a length fits -/
def FitsV (P : Program) (t : Nat) (fv : Value) (W : World) (fits : Nat → Bool) : Prop :=
  ∀ (d : Nat) w, Keep t W w → CallsV P fv #[.int .i64 (d : Int)] w fun e w' => e = .returned (.bool (fits d)) ∧ Below w.heap.size w w'
end WW
namespace Go.Proofs.YthajnkcipifhcaaGreatDoor
open WW BB
theorem own_num : Own Tryz.prog 305 := ⟨_, Tryz.func305, by kernel_rfl, by kernel_rfl⟩
theorem own_bytes : Own Tryz.prog 306 := ⟨_, Tryz.func306, by kernel_rfl, by kernel_rfl⟩
theorem own_text : Own Tryz.prog 348 := ⟨_, Tryz.func348, by kernel_rfl, by kernel_rfl⟩
/-- the closure that cuts a number off into cell o of block t -/
theorem num_to (t n o p q r : Nat) (lo hi : Int) (ho : o < n) (W : World) (hp : W.cell? ⟨p, 0, none⟩ = some (.int .i64 lo)) (hq : W.cell? ⟨q, 0, none⟩ = some (.int .i64 hi)) (hr : W.cell? ⟨r, 0, none⟩ = some (.pointer (some ⟨t, o, none⟩)))
    (p1 : p ≠ t) (q1 : q ≠ t) (r1 : r ≠ t) :
    CutTo Tryz.prog t n (.func (.func 305) #[] #[.pointer (some ⟨p, 0, none⟩), .pointer (some ⟨q, 0, none⟩), .pointer (some ⟨r, 0, none⟩)]) W (numSp lo hi) (putN o) := by
  intro f b w hb hk ht
  refine ⟨_, _, rfl, own_num, ?_⟩
  have hp := keep_cell2 hp p1 hk
  have hq := keep_cell2 hq q1 hk
  have hr := keep_cell2 hr r1 hk
  unfold numSp
  by_cases h4 : b.size < 4
  · rw [if_pos h4]
    refine (numc_short b _ _ _ w h4).mono ?_
    rintro e w' ⟨rfl, rfl⟩
    exact ⟨false, _, rfl, rfl, f, Keep.refl _ _, ht⟩
  · rw [if_neg h4]
    by_cases hr2 : (rd4 b : Int) < lo ∨ hi < (rd4 b : Int)
    · rw [if_pos hr2]
      refine (numc_out b p q lo hi w (by omega) (by omega) hp hq _).mono ?_
      rintro e w' ⟨rfl, hs⟩
      exact ⟨false, _, rfl, rfl, f, (hs.upd t).keep, ht.same hs⟩
    · rw [if_neg hr2]
      refine (numc_yes b p q r t o n lo hi f w (by omega) (by omega) (by omega) hp hq hr ht ho).mono ?_
      rintro e w' ⟨rfl, hm⟩
      exact ⟨true, _, rfl, rfl, rfl, hm.2.keep, hm.1⟩
theorem bytes_to (t n o p q N : Nat) (ho : o < n) (W : World) (hp : W.cell? ⟨p, 0, none⟩ = some (.int .i64 N)) (hq : W.cell? ⟨q, 0, none⟩ = some (.pointer (some ⟨t, o, none⟩))) (p1 : p ≠ t) (q1 : q ≠ t) :
    CutTo Tryz.prog t n (.func (.func 306) #[] #[.pointer (some ⟨p, 0, none⟩), .pointer (some ⟨q, 0, none⟩)]) W (bytesSp N) (putS o) := by
  intro f b w hb hk ht
  refine ⟨_, _, rfl, own_bytes, ?_⟩
  have hp := keep_cell2 hp p1 hk
  have hq := keep_cell2 hq q1 hk
  unfold bytesSp
  by_cases h : b.size < N
  · rw [if_pos h]
    refine (bytesc_short b p N _ w h hp).mono ?_
    rintro e w' ⟨rfl, rfl⟩
    exact ⟨false, _, rfl, rfl, f, Keep.refl _ _, ht⟩
  · rw [if_neg h]
    refine (bytesc_yes b p q t o n N f w hb (by omega) p1 q1 hp hq ht ho).mono ?_
    rintro e w' ⟨rfl, hc⟩
    exact ⟨true, _, rfl, rfl, rfl, hc⟩
set_option maxRecDepth 100000 in
/-- cutNumber -/
theorem mk_num (t o n : Nat) (lo hi : Int) (w : World) (ho : o < n) (ht : t < w.heap.size) :
    Calls Tryz.prog 268 #[.pointer (some ⟨t, o, none⟩), .int .i64 lo, .int .i64 hi] w (Makes Tryz.prog t n w (numSp lo hi) (putN o)) := by
  have HO := Lib.hid ho
  have HT := Lib.hid ht
  clear ho ht
  go_enter Tryz.func268, Tryz.ntmps268
  go_wp2_with fail
  go_ret
  have b1 := (Below.refl w.heap.size w).alloc (Nat.le_refl _) (.cells #[.pointer (some ⟨t, o, none⟩)] 298)
  have b2 := b1.alloc b1.size (.cells #[.int .i64 lo] 3)
  have b3 := b2.alloc b2.size (.cells #[.int .i64 hi] 3)
  have := HT.out
  exact ⟨_, _, rfl, b3, num_to t n o (w.heap.size + 1) (w.heap.size + 2) w.heap.size lo hi HO.out _ (cell_old (cell_at _ _ _ _ (by simp))) (cell_at _ _ _ _ (by simp)) (cell_old (cell_old (cell_at _ _ _ _ rfl))) (by omega) (by omega) (by omega)⟩
set_option maxRecDepth 100000 in
/-- cutBytes -/
theorem mk_bytes (t o n N : Nat) (w : World) (ho : o < n) (ht : t < w.heap.size) :
    Calls Tryz.prog 269 #[.pointer (some ⟨t, o, none⟩), .int .i64 N] w (Makes Tryz.prog t n w (bytesSp N) (putS o)) := by
  have HO := Lib.hid ho
  have HT := Lib.hid ht
  clear ho ht
  go_enter Tryz.func269, Tryz.ntmps269
  go_wp2_with fail
  go_ret
  have b1 := (Below.refl w.heap.size w).alloc (Nat.le_refl _) (.cells #[.pointer (some ⟨t, o, none⟩)] 300)
  have b2 := b1.alloc b1.size (.cells #[.int .i64 (N : Int)] 3)
  have := HT.out
  exact ⟨_, _, rfl, b2, bytes_to t n o (w.heap.size + 1) w.heap.size N HO.out _ (cell_at _ _ _ _ (by simp)) (cell_old (cell_at _ _ _ _ rfl)) (by omega) (by omega)⟩
set_option maxRecDepth 100000 in
set_option maxHeartbeats 2000000 in
/-- the closure that cuts a text off into cell o of block t -/
theorem text_walk (t n o p q : Nat) (fv : Value) (fits : Nat → Bool) (W : World) (f : Nat → Value) (b : ByteArray) (w : World) (ho : o < n) (hb : b.size ≤ 1000000) (hk : Keep t W w) (ht : Blk w t n f)
    (hf : FitsV Tryz.prog t fv W fits) (hp : w.cell? ⟨p, 0, none⟩ = some fv) (hq : w.cell? ⟨q, 0, none⟩ = some (.pointer (some ⟨t, o, none⟩))) :
    Calls Tryz.prog 348 #[.string b, .pointer (some ⟨p, 0, none⟩), .pointer (some ⟨q, 0, none⟩)] w (Ans (Eff t n f w (putS o) (textSp fits b))) := by
  have HO := Lib.hid ho
  have HB := Lib.hid hb
  have HK := Lib.hid hk
  have HT := Lib.hid ht
  have HP := Lib.hid hp
  have HQ := Lib.hid hq
  clear ho hb hk ht hp hq
  obtain ⟨X, hX⟩ : ∃ X, textSp fits b = X := ⟨_, rfl⟩
  rw [hX]
  have HX := Lib.hid hX
  clear hX
  go_enter Tryz.func348, Tryz.ntmps348
  go_wp2_with fail
  have k1 := Blk.cell1 w (.int .i64 0) 3
  have b1 := (Below.refl w.heap.size w).alloc (Nat.le_refl _) (.cells #[.int .i64 0] 3)
  have z1 : w.heap.size < (w.alloc (.cells #[.int .i64 0] 3)).heap.size := by simp
  generalize w.alloc (.cells #[.int .i64 0] 3) = w1 at *
  refine (mk_num w.heap.size 0 1 0 2147483647 w1 (by omega) z1).mono ?_
  rintro e w2 ⟨kv, ev, rfl, hb2, hv⟩
  have K2 := Lib.hid (k1.below hb2 z1)
  have B2 := Lib.hid (b1.trans (hb2.mono b1.size))
  have HV := Lib.hid hv
  have HF := Lib.hid hf
  clear k1 b1 z1 hb2 hv hf
  clear w1
  obtain ⟨N1, hN1⟩ : ∃ N1, w.heap.size = N1 := ⟨_, rfl⟩
  rw [hN1] at K2 HV ⊢
  have HN1 := Lib.hid hN1
  clear hN1
  go_wp2_with (with_reducible refine hold_callv rfl rfl ?_)
  refine wpl_callv (v := .func (.func kv) #[] ev) (args := #[.string b]) _ rfl rfl rfl (by simp [Act.eval]) (HV.out _ b w2 HB.out (Keep.refl _ _) K2.out) Ans.ret ?_
  intro u w3 hu
  obtain ⟨ok, r, hr, he⟩ := hu
  injection hr with hr
  subst hr
  rcases hsp : numSp 0 2147483647 b with _ | ⟨r', d⟩
  · rw [hsp] at he
    obtain ⟨rfl, f', c3⟩ := he
    have B3 := Lib.hid (B2.out.trans (c3.1.below (by rw [HN1.out]; exact Nat.le_refl _) B2.out.size))
    have HS := Lib.hid hsp
    clear c3 hsp
    go_wp2_with fail
    go_ret2
    refine ⟨false, _, rfl, ?_⟩
    rw [← HX.out, textSp_none _ _ HS.out]
    exact ⟨rfl, f, keep_of_below B3.out (Nat.le_refl _) t, HT.out.below B3.out HT.out.lt⟩
  · rw [hsp] at he
    obtain ⟨rfl, rfl, c3⟩ := he
    have B3 := Lib.hid (B2.out.trans (c3.1.below (by rw [HN1.out]; exact Nat.le_refl _) B2.out.size))
    have HS := Lib.hid hsp
    have cn : w3.cell? ⟨N1, 0, none⟩ = some (.int .i64 (d : Int)) := c3.2.get 0 (by omega)
    have cp : w3.cell? ⟨p, 0, none⟩ = some fv := keep_cell HP.out B3.out
    have cq : w3.cell? ⟨q, 0, none⟩ = some (.pointer (some ⟨t, o, none⟩)) := keep_cell HQ.out B3.out
    have CN := Lib.hid cn
    have CQ := Lib.hid cq
    have hR : r.size ≤ 1000000 := by
      unfold numSp at hsp
      split at hsp
      · cases hsp
      · split at hsp
        · cases hsp
        · injection hsp with hsp
          injection hsp with h1 h2
          rw [← h1]; have := HB.out; simp; omega
    have HR := Lib.hid hR
    have hf3 := HF.out d w3 (HK.out.trans (keep_of_below B3.out (Nat.le_refl _) t))
    have HF3 := Lib.hid hf3
    clear c3 hsp hR hf3 HF
    go_wp2_with (with_reducible refine hold_callv rfl rfl ?_)
    refine wpl_callv_w (v := fv) (args := #[.int .i64 (d : Int)]) _ rfl rfl rfl (by simp [Act.eval]) HF3.out (fun _ _ ⟨h, _⟩ => ⟨_, h⟩) ?_
    rintro u w4 ⟨hu, hb4⟩
    injection hu with hu
    subst hu
    have B4 := Lib.hid (B3.out.trans (hb4.mono B3.out.size))
    have cn4 := keep_cell CN.out hb4
    have cq4 := keep_cell CQ.out hb4
    clear hb4 cn cq cp
    rcases hfit : fits d with _ | _
    · have HFit := Lib.hid hfit
      clear hfit
      go_wp2_with fail
      go_ret2
      refine ⟨false, _, rfl, ?_⟩
      rw [← HX.out, textSp_some _ _ HS.out, if_neg (by rw [HFit.out]; decide)]
      exact ⟨rfl, f, keep_of_below B4.out (Nat.le_refl _) t, HT.out.below B4.out HT.out.lt⟩
    · have HFit := Lib.hid hfit
      clear hfit
      go_wp2_with fail
      refine (mk_bytes t o n d w4 HO.out (Nat.lt_of_lt_of_le HT.out.lt B4.out.size)).mono ?_
      rintro e w5 ⟨k5, e5, rfl, hb5, hv5⟩
      have B5 := Lib.hid (B4.out.trans (hb5.mono B4.out.size))
      have HV5 := Lib.hid hv5
      clear hb5 hv5 cn4 cq4
      go_wp2_with (with_reducible refine hold_callv rfl rfl ?_)
      refine wpl_callv (v := .func (.func k5) #[] e5) (args := #[.string r]) _ rfl rfl rfl (by simp [Act.eval]) (HV5.out f r w5 HR.out (Keep.refl _ _) (HT.out.below B5.out HT.out.lt)) Ans.ret ?_
      intro u w6 hu
      obtain ⟨ok, r6, hr, he⟩ := hu
      injection hr with hr
      subst hr
      have HE := Lib.hid he
      clear he
      go_wp2_with fail
      go_ret2
      refine ⟨ok, r6, rfl, ?_⟩
      rw [← HX.out, textSp_some _ _ HS.out, if_pos HFit.out]
      have K5 := keep_of_below B5.out (Nat.le_refl _) t
      have he := HE.out
      rcases hsb : bytesSp d r with _ | ⟨r7, d7⟩
      · rw [hsb] at he
        obtain ⟨h1, f', h2⟩ := he
        exact ⟨h1, f', K5.trans h2.1, h2.2⟩
      · rw [hsb] at he
        exact ⟨he.1, he.2.1, K5.trans he.2.2.1, he.2.2.2⟩
end Go.Proofs.YthajnkcipifhcaaGreatDoor
end
section
open Go Go.RowKit
namespace WW
open BB
theorem order_cons {P : Program} {E : World → Prop} {Q : Bool → ByteArray → World → Prop} {v : Value} {vs : List Value} {t n : Nat} {W w : World} {δ : Type} {Sp : ByteArray → Option (ByteArray × δ)} {eff : δ → (Nat → Value) → Nat → Value} {f : Nat → Value} {b : ByteArray}
    (h : CutTo P t n v W Sp eff) (hb : b.size ≤ 1000000) (hk : Keep t W w) (ht : Blk w t n f) (hE : ∀ w', Keep t w w' → E w')
    (hno : Sp b = none → ∀ f' w', Cell1 t n f' w w' → Q false ⟨#[]⟩ w') (hyes : ∀ r d, Sp b = some (r, d) → ∀ w', Cell1 t n (eff d f) w w' → OrderWp P E Q vs r w') : OrderWp P E Q (v :: vs) b w := by
  refine (h f b w hb hk ht).mono fun ok r w' he => ?_
  unfold Eff at he
  rcases hs : Sp b with _ | ⟨r', d⟩
  · rw [hs] at he
    obtain ⟨rfl, f', hc⟩ := he
    exact ⟨hE w' hc.1, hno hs f' w' hc⟩
  · rw [hs] at he
    obtain ⟨rfl, rfl, hc⟩ := he
    exact ⟨hE w' hc.1, hyes _ d hs w' hc⟩
theorem numSp_size {lo hi : Int} {b r : ByteArray} {d : Nat} (h : numSp lo hi b = some (r, d)) : r.size ≤ b.size := by
  unfold numSp at h
  split at h
  · cases h
  · split at h
    · cases h
    · injection h with h; injection h with h1 h2; rw [← h1]; simp
/-- a request -/
def reqSp (b : ByteArray) : Option (ByteArray × (Nat × Nat × ByteArray)) :=
  match numSp 0 3 b with
  | none => none
  | some (r1, c) =>
    match numSp 1 2147483647 r1 with
    | none => none
    | some (r2, q) =>
      match textSp (fun d => decide (d ≤ 40)) r2 with
      | none => none
      | some (r3, s) => some (r3, (c, q, s))
def putReq (o : Nat) (d : Nat × Nat × ByteArray) (f : Nat → Value) : Nat → Value := putS (o + 2) d.2.2 (putN (o + 1) d.2.1 (putN o d.1 f))
theorem InRow_keep {w w' : World} {t gc : Nat} {l : List Value} (h : ∀ i, i < l.length → w.cell? ⟨gc, i, none⟩ = some (l.getD i .nilFunc)) (hg : gc ≠ t) (hl : gc < w.heap.size) (hk : Keep t w w') : ∀ i, i < l.length → w'.cell? ⟨gc, i, none⟩ = some (l.getD i .nilFunc) :=
  fun i hi => (World.cell?_of_block (w := w) (hk.block gc hl hg)).trans (h i hi)
end WW
namespace Go.Proofs.YthajnkcipifhcaaGreatDoor
open WW BB
theorem own_order : Own Tryz.prog 304 := ⟨_, Tryz.func304, by kernel_rfl, by kernel_rfl⟩
theorem own_atmost : Own Tryz.prog 349 := ⟨_, Tryz.func349, by kernel_rfl, by kernel_rfl⟩
set_option maxRecDepth 100000 in
theorem mk_text (t o n : Nat) (k : Nat) (env : Array Value) (fits : Nat → Bool) (w : World) (ho : o < n) (ht : t < w.heap.size) (hf : FitsV Tryz.prog t (.func (.func k) #[] env) w fits) :
    Calls Tryz.prog 338 #[.pointer (some ⟨t, o, none⟩), .func (.func k) #[] env] w (Makes Tryz.prog t n w (textSp fits) (putS o)) := by
  have HO := Lib.hid ho
  have HT := Lib.hid ht
  have HF := Lib.hid hf
  clear ho ht hf
  go_enter Tryz.func338, Tryz.ntmps338
  go_wp2_with fail
  go_ret
  have b1 := (Below.refl w.heap.size w).alloc (Nat.le_refl _) (.cells #[.pointer (some ⟨t, o, none⟩)] 300)
  have b2 := b1.alloc b1.size (.cells #[.func (.func k) #[] env] 67)
  have := HT.out
  refine ⟨_, _, rfl, b2, fun f b wx hb hk hx => ⟨_, _, rfl, own_text, ?_⟩⟩
  refine text_walk t n o (w.heap.size + 1) w.heap.size _ fits w f b wx HO.out hb ((keep_of_below b2 (Nat.le_refl _) t).trans hk) hx HF.out ?_ ?_
  · exact keep_cell2 (cell_at _ _ _ _ (by simp)) (by omega) hk
  · exact keep_cell2 (cell_old (cell_at _ _ _ _ rfl)) (by omega) hk
set_option maxRecDepth 100000 in
theorem atmost_call (d : Nat) (p : Nat) (m : Int) (w : World) (hp : w.cell? ⟨p, 0, none⟩ = some (.int .i64 m)) :
    Calls Tryz.prog 349 #[.int .i64 (d : Int), .pointer (some ⟨p, 0, none⟩)] w fun e w' => e = .returned (.bool (decide ((d : Int) ≤ m))) ∧ w = w' := by
  go_enter Tryz.func349, Tryz.ntmps349
  go_wp2_with fail
  go_ret
  exact ⟨rfl, rfl⟩
/-- a closure that tells whether a length fits is made -/
def MakesFit (P : Program) (t : Nat) (w : World) (fits : Nat → Bool) (e : Ending) (w' : World) : Prop := ∃ k env, e = .returned (.func (.func k) #[] env) ∧ Below w.heap.size w w' ∧ FitsV P t (.func (.func k) #[] env) w' fits
set_option maxRecDepth 100000 in
theorem mk_atmost (t m : Nat) (w : World) (ht : t < w.heap.size) :
    Calls Tryz.prog 339 #[.int .i64 (m : Int)] w (MakesFit Tryz.prog t w fun d => decide (d ≤ m)) := by
  have HT := Lib.hid ht
  clear ht
  go_enter Tryz.func339, Tryz.ntmps339
  go_wp2_with fail
  go_ret
  have b1 := (Below.refl w.heap.size w).alloc (Nat.le_refl _) (.cells #[.int .i64 (m : Int)] 3)
  have := HT.out
  refine ⟨_, _, rfl, b1, fun d wx hk => ⟨_, _, rfl, own_atmost, ?_⟩⟩
  refine (atmost_call d w.heap.size m wx (keep_cell2 (cell_at _ _ _ _ rfl) (by omega) hk)).mono ?_
  rintro e w' ⟨rfl, rfl⟩
  exact ⟨by rw [show decide ((d : Int) ≤ (m : Int)) = decide (d ≤ m) by rw [decide_eq_decide]; omega], Below.refl _ _⟩
set_option maxRecDepth 100000 in
theorem mk_order (gc len cap : Nat) (w : World) :
    Calls Tryz.prog 267 #[.slice (some ⟨gc, 0, none⟩) len cap] w fun e w' => e = .returned (.func (.func 304) #[] #[.pointer (some ⟨w.heap.size, 0, none⟩)]) ∧ Below w.heap.size w w' ∧ w'.cell? ⟨w.heap.size, 0, none⟩ = some (.slice (some ⟨gc, 0, none⟩) len cap) := by
  go_enter Tryz.func267, Tryz.ntmps267
  go_wp2_with fail
  go_ret
  exact ⟨rfl, (Below.refl w.heap.size w).alloc (Nat.le_refl _) _, cell_at _ _ _ _ rfl⟩
theorem req_to (t o n gc bx cap : Nat) (W : World) {v1 v2 v3 : Value} (h1 : CutTo Tryz.prog t n v1 W (numSp 0 3) (putN o)) (h2 : CutTo Tryz.prog t n v2 W (numSp 1 2147483647) (putN (o + 1)))
    (h3 : CutTo Tryz.prog t n v3 W (textSp fun d => decide (d ≤ 40)) (putS (o + 2))) (hE : InRow gc [v1, v2, v3] W) (hb : W.cell? ⟨bx, 0, none⟩ = some (.slice (some ⟨gc, 0, none⟩) 3 cap)) (gt : gc ≠ t) (gl : gc < W.heap.size) (bt : bx ≠ t) :
    CutTo Tryz.prog t n (.func (.func 304) #[] #[.pointer (some ⟨bx, 0, none⟩)]) W reqSp (putReq o) := by
  intro f b w hs hk ht
  refine ⟨_, _, rfl, own_order, ?_⟩
  refine order_any [v1, v2, v3] bx gc cap _ b w (by simp) (keep_cell2 hb bt hk) (InRow_keep hE gt gl hk) ?_
  have hEk : ∀ w1, Keep t w w1 → InRow gc [v1, v2, v3] w1 := fun w1 h1 => InRow_keep hE gt gl (hk.trans h1)
  unfold reqSp
  refine order_cons h1 hs hk ht hEk (fun hno f' w1 c1 => ?_) (fun r1 d1 hy1 w1 c1 => ?_)
  · rw [hno]; exact ⟨rfl, f', c1⟩
  rw [hy1]
  have s1 := numSp_size hy1
  refine order_cons h2 (by omega) (hk.trans c1.1) c1.2 (fun w2 h2 => hEk w2 (c1.1.trans h2)) (fun hno f' w2 c2 => ?_) (fun r2 d2 hy2 w2 c2 => ?_)
  · dsimp only; rw [hno]; exact ⟨rfl, f', c1.1.trans c2.1, c2.2⟩
  dsimp only
  rw [hy2]
  have s2 := numSp_size hy2
  refine order_cons h3 (by omega) (hk.trans (c1.1.trans c2.1)) c2.2 (fun w3 h3 => hEk w3 ((c1.1.trans c2.1).trans h3)) (fun hno f' w3 c3 => ?_) (fun r3 d3 hy3 w3 c3 => ?_)
  · dsimp only; rw [hno]; exact ⟨rfl, f', (c1.1.trans c2.1).trans c3.1, c3.2⟩
  dsimp only
  rw [hy3]
  exact ⟨rfl, rfl, (c1.1.trans c2.1).trans c3.1, c3.2⟩
set_option maxRecDepth 100000 in
set_option maxHeartbeats 2000000 in
theorem mk_request (t o n : Nat) (w : World) (ho : o + 2 < n) (ht : t < w.heap.size) :
    Calls Tryz.prog 315 #[.pointer (some ⟨t, o, none⟩)] w (Makes Tryz.prog t n w reqSp (putReq o)) := by
  have HO := Lib.hid ho
  have HT := Lib.hid ht
  clear ho ht
  go_enter Tryz.func315, Tryz.ntmps315
  go_wp2_with fail
  have z0 : t < w.drew.heap.size := HT.out
  go_region_held3 (fun w' => t < w'.heap.size) (first | assumption | exact hk | (simp; omega))
    (first
      | (go_at_call 268; (fail_if_success have hx := HV1); refine (mk_num t _ n _ _ _ (by have := HO.out; omega) (by assumption)).mono ?_; rintro e w1 ⟨k1, env1, rfl, hb1, hv1⟩; have hk := Nat.lt_of_lt_of_le (by assumption : t < _) hb1.size; have HB1 := Lib.hid hb1; have HV1 := Lib.hid hv1; clear hb1 hv1)
      | (go_at_call 268; refine (mk_num t _ n _ _ _ (by have := HO.out; omega) (by assumption)).mono ?_; rintro e w2 ⟨k2, env2, rfl, hb2, hv2⟩; have hk := Nat.lt_of_lt_of_le (by assumption : t < _) hb2.size; have HB2 := Lib.hid hb2; have HV2 := Lib.hid hv2; clear hb2 hv2)
      | (go_at_call 339; refine (mk_atmost t 40 _ (by assumption)).mono ?_; rintro e w3 ⟨k3, env3, rfl, hb3, hv3⟩; have hk := Nat.lt_of_lt_of_le (by assumption : t < _) hb3.size; have HB3 := Lib.hid hb3; have HV3 := Lib.hid hv3; clear hb3 hv3)
      | (go_at_call 338; refine (mk_text t _ n _ _ _ _ (by have := HO.out; omega) (by assumption) HV3.out).mono ?_; rintro e w4 ⟨k4, env4, rfl, hb4, hv4⟩; have hk := Nat.lt_of_lt_of_le (by assumption : t < _) hb4.size; have HB4 := Lib.hid hb4; have HV4 := Lib.hid hv4; clear hb4 hv4)
      | (go_at_call 267; refine (mk_order _ _ _ _).mono ?_; rintro e w5 ⟨rfl, hb5, hv5⟩; have hk := Nat.lt_of_lt_of_le (by assumption : t < _) hb5.size; have HB5 := Lib.hid hb5; have HV5 := Lib.hid hv5; clear hb5 hv5))
  have B4 := HB4.out
  obtain ⟨W4, hW4⟩ : ∃ W4, W4 = w4.alloc (.cells #[.func (.func k1) #[] env1, .func (.func k2) #[] env2, .func (.func k4) #[] env4] 294) := ⟨_, rfl⟩
  rw [← hW4] at HB5 HV5
  have z4 : W4.heap.size = w4.heap.size + 1 := by rw [hW4]; simp
  have b4 : Below w4.heap.size w4 W4 := by rw [hW4]; exact (Below.refl _ _).alloc (Nat.le_refl _) _
  have hrow : InRow w4.heap.size [.func (.func k1) #[] env1, .func (.func k2) #[] env2, .func (.func k4) #[] env4] W4 := by
    rw [hW4]
    intro i hi
    match i, hi with
    | 0, _ => exact cell_new _ _ _ _ _ rfl
    | 1, _ => exact cell_new _ _ _ _ _ rfl
    | 2, _ => exact cell_new _ _ _ _ _ rfl
  have t4 : t < w4.heap.size := Nat.lt_of_lt_of_le HT.out (Nat.le_trans HB1.out.size (Nat.le_trans HB2.out.size (Nat.le_trans HB3.out.size HB4.out.size)))
  have k5 : Keep t W4 w5 := keep_of_below HB5.out (Nat.le_refl _) t
  have k4' : Keep t w4 w5 := (keep_of_below b4 (Nat.le_refl _) t).trans k5
  have k3' : Keep t w3 w5 := (keep_of_below HB4.out (Nat.le_refl _) t).trans k4'
  have k2' : Keep t w2 w5 := (keep_of_below HB3.out (Nat.le_refl _) t).trans k3'
  have k1' : Keep t w1 w5 := (keep_of_below HB2.out (Nat.le_refl _) t).trans k2'
  have hto := Lib.hid (req_to t o n w4.heap.size W4.heap.size 3 w5 (HV1.out.later k1') (HV2.out.later k2') (HV4.out.later k4') (InRow_keep hrow (by omega) (by omega) k5) HV5.out (by omega) (by have := HB5.out.size; omega) (by omega))
  have hbel : Hid (Below w.heap.size w w5) := by
    have e0 : Below w.heap.size w w.drew := (Below.refl _ _).drew
    have e1 := e0.trans HB1.out
    have e2 := e1.trans (HB2.out.mono e1.size)
    have e3 := e2.trans (HB3.out.mono e2.size)
    have e4 := e3.trans (HB4.out.mono e3.size)
    have e5 := e4.trans (b4.mono e4.size)
    exact e5.trans (HB5.out.mono e5.size)
  rw [z4] at hto
  clear hrow k5 k4' k3' k2' k1' hW4 b4 B4
  go_wp2_with fail
  go_ret
  exact ⟨_, _, rfl, hbel.out, hto.out⟩
end Go.Proofs.YthajnkcipifhcaaGreatDoor
end
section
open Go Go.RowKit
namespace WW
open BB
/-- a zero request's cells -/
def rz : Nat → Value := fun i => if i < 2 then .int .i64 0 else .string ⟨#[]⟩
/-- three requests beside each other -/
structure Three (w0 : World) (a : Nat) (w : World) : Prop where
  below : Below w0.heap.size w0 w
  ra : Blk w a 3 rz
  rx : Blk w (a + 1) 3 rz
  rn : Blk w (a + 1 + 1) 3 rz
theorem Three.on {w0 w w' : World} {a : Nat} (h : Three w0 a w) (hb : Below w.heap.size w w') : Three w0 a w' :=
  ⟨h.below.trans (hb.mono h.below.size), h.ra.below hb h.ra.lt, h.rx.below hb h.rx.lt, h.rn.below hb h.rn.lt⟩
end WW
namespace Go.Proofs.YthajnkcipifhcaaGreatDoor
open WW BB
end Go.Proofs.YthajnkcipifhcaaGreatDoor
end
section
open Go Go.RowKit
namespace WW
open BB
theorem ba_ext {a b : ByteArray} (h : a.data.toList = b.data.toList) : a = b := ByteArray.ext (Array.toList_inj.1 h)
theorem ba_list (a : ByteArray) : a.data.toList.length = a.size := by rw [Array.length_toList]; rfl
theorem be4_list (n : Nat) : (be4 n).data.toList = [UInt8.ofNat (n / 16777216), UInt8.ofNat (n / 65536), UInt8.ofNat (n / 256), UInt8.ofNat n] := rfl
theorem rd4_be4 (n : Nat) (h : n < 4294967296) (r : ByteArray) : rd4 (be4 n ++ r) = n := by
  unfold rd4
  rw [ByteArray.data_append, Array.toList_append, be4_list]
  simp only [List.cons_append, List.nil_append, List.getD_cons_zero, List.getD_cons_succ, UInt8.toNat_ofNat']
  have d1 : n / 65536 / 256 = n / 16777216 := Nat.div_div_eq_div_mul n 65536 256
  have d2 : n / 256 / 256 = n / 65536 := Nat.div_div_eq_div_mul n 256 256
  omega
theorem drop_be4 (n : Nat) (r : ByteArray) : (be4 n ++ r).extract 4 (be4 n ++ r).size = r := by
  apply ba_ext
  have hr := ba_list r
  have hs : (be4 n ++ r).size = 4 + r.size := by rw [ByteArray.size_append]; rfl
  rw [hs, ByteArray.data_extract, Array.toList_extract, ByteArray.data_append, Array.toList_append, be4_list, List.extract_eq_take_drop]
  show List.take (4 + r.size - 4) r.data.toList = r.data.toList
  exact List.take_of_length_le (by omega)
theorem numSp_put (lo hi : Int) (n : Nat) (h : n < 4294967296) (r : ByteArray) : numSp lo hi (be4 n ++ r) = if (n : Int) < lo ∨ hi < (n : Int) then none else some (r, n) := by
  unfold numSp
  rw [if_neg (by rw [ByteArray.size_append]; show ¬ 4 + r.size < 4; omega), rd4_be4 n h, drop_be4]
theorem list4 (l : List UInt8) (h : 4 ≤ l.length) : ∃ a b c d r, l = a :: b :: c :: d :: r := by
  match l, h with
  | a :: b :: c :: d :: r, _ => exact ⟨a, b, c, d, r, rfl⟩
theorem u8_of (x : UInt8) (n : Nat) (h : n % 256 = x.toNat) : UInt8.ofNat n = x := by
  apply UInt8.toNat_inj.1; simp [h]
theorem numSp_sound {lo hi : Int} {b r : ByteArray} {N : Nat} (h : numSp lo hi b = some (r, N)) : b = be4 N ++ r ∧ lo ≤ (N : Int) ∧ (N : Int) ≤ hi := by
  unfold numSp at h
  split at h
  · cases h
  · split at h
    · cases h
    · rename_i h4 hr
      injection h with h; injection h with h1 h2
      refine ⟨?_, by omega, by omega⟩
      apply ba_ext
      have hl := ba_list b
      obtain ⟨x0, x1, x2, x3, t, ht⟩ := list4 b.data.toList (by omega)
      have hN : N = x0.toNat * 16777216 + x1.toNat * 65536 + x2.toNat * 256 + x3.toNat := by
        rw [← h2]; unfold rd4; rw [ht]; rfl
      have l0 := UInt8.toNat_lt x0
      have l1 := UInt8.toNat_lt x1
      have l2 := UInt8.toNat_lt x2
      have l3 := UInt8.toNat_lt x3
      have e0 : UInt8.ofNat (N / 16777216) = x0 := u8_of _ _ (by omega)
      have e1 : UInt8.ofNat (N / 65536) = x1 := u8_of _ _ (by omega)
      have e2 : UInt8.ofNat (N / 256) = x2 := u8_of _ _ (by omega)
      have e3 : UInt8.ofNat N = x3 := u8_of _ _ (by omega)
      rw [ByteArray.data_append, Array.toList_append, be4_list, e0, e1, e2, e3, ← h1, ByteArray.data_extract, Array.toList_extract, ht, List.extract_eq_take_drop]
      have hs : b.size = t.length + 4 := by rw [← hl, ht]; simp
      simp [hs]
theorem bytesSp_put (s r : ByteArray) : bytesSp s.size (s ++ r) = some (r, s) := by
  unfold bytesSp
  rw [if_neg (by rw [ByteArray.size_append]; omega)]
  congr 2
  · apply ba_ext
    have hr := ba_list r
    have hs := ba_list s
    rw [ByteArray.data_extract, Array.toList_extract, ByteArray.data_append, Array.toList_append, ByteArray.size_append, List.extract_eq_take_drop, List.drop_left' hs]
    exact List.take_of_length_le (by omega)
  · apply ba_ext
    have hs := ba_list s
    rw [ByteArray.data_extract, Array.toList_extract, ByteArray.data_append, Array.toList_append, List.extract_eq_take_drop, List.drop_zero, Nat.sub_zero, List.take_left' hs]
theorem bytesSp_sound {N : Nat} {b r s : ByteArray} (h : bytesSp N b = some (r, s)) : b = s ++ r ∧ s.size = N := by
  unfold bytesSp at h
  split at h
  · cases h
  · injection h with h; injection h with h1 h2
    constructor
    · apply ba_ext
      rw [← h1, ← h2, ByteArray.data_append, Array.toList_append, ByteArray.data_extract, ByteArray.data_extract, Array.toList_extract, Array.toList_extract, List.extract_eq_take_drop, List.extract_eq_take_drop]
      have := ba_list b
      rw [List.drop_zero, Nat.sub_zero, List.take_of_length_le (l := b.data.toList.drop N) (by simp), List.take_append_drop]
    · rw [← h2]; simp; omega
end WW
end
section
open Go Go.RowKit
namespace WW
open BB
theorem num_nat (n : Nat) (h : n ≤ 2147483647) : num (n : Int) = be4 n := by
  unfold num; rw [if_neg (by omega)]; rfl
/-- a text, its length below a bound -/
def textG (hi : Int) (fits : Nat → Bool) (b : ByteArray) : Option (ByteArray × ByteArray) :=
  match numSp 0 hi b with
  | none => none
  | some (r, N) => if fits N then bytesSp N r else none
theorem textG_some (hi : Int) (fits : Nat → Bool) (b : ByteArray) {r : ByteArray} {N : Nat} (h : numSp 0 hi b = some (r, N)) : textG hi fits b = if fits N = true then bytesSp N r else none := by unfold textG; rw [h]
theorem textSp_G (fits : Nat → Bool) (b : ByteArray) : textSp fits b = textG 2147483647 fits b := rfl
theorem textG_put (hi : Int) (fits : Nat → Bool) (s r : ByteArray) (hs : (s.size : Int) ≤ hi) (h32 : s.size < 4294967296) (hn : num (s.size : Int) = be4 s.size) : textG hi fits (txt s ++ r) = if fits s.size = true then some (r, s) else none := by
  have h1 : numSp 0 hi (be4 s.size ++ (s ++ r)) = some (s ++ r, s.size) := by rw [numSp_put _ _ _ h32, if_neg (by omega)]
  have e : txt s ++ r = be4 s.size ++ (s ++ r) := by unfold txt; rw [hn, ByteArray.append_assoc]
  rw [e, textG_some hi fits _ h1, bytesSp_put]
theorem textG_sound {hi : Int} {fits : Nat → Bool} {b r s : ByteArray} (h : textG hi fits b = some (r, s)) : b = be4 s.size ++ s ++ r ∧ fits s.size = true ∧ (s.size : Int) ≤ hi := by
  unfold textG at h
  rcases hn : numSp 0 hi b with _ | ⟨r1, N⟩
  · rw [hn] at h; cases h
  · rw [hn] at h
    dsimp only at h
    split at h
    · rename_i hf
      obtain ⟨e1, e2⟩ := bytesSp_sound h
      obtain ⟨f1, f2, f3⟩ := numSp_sound hn
      subst e2
      exact ⟨by rw [f1, e1, ByteArray.append_assoc], hf, f3⟩
    · cases h
theorem textSp_put (fits : Nat → Bool) (s r : ByteArray) (hs : s.size ≤ 2147483647) : textSp fits (txt s ++ r) = if fits s.size = true then some (r, s) else none := by
  rw [textSp_G]; exact textG_put _ fits s r (by omega) (by omega) (num_nat _ hs)
theorem textSp_sound {fits : Nat → Bool} {b r s : ByteArray} (h : textSp fits b = some (r, s)) : b = txt s ++ r ∧ fits s.size = true ∧ s.size ≤ 2147483647 := by
  rw [textSp_G] at h
  obtain ⟨h1, h2, h3⟩ := textG_sound h
  have h4 : s.size ≤ 2147483647 := by omega
  exact ⟨by rw [h1, txt, num_nat _ h4], h2, h4⟩
/-- a right request -/
def rightR (c q : Int) (s : ByteArray) : Prop := 0 ≤ c ∧ c < 4 ∧ 1 ≤ q ∧ q ≤ 2147483647 ∧ s.size ≤ 40
/-- a request, its number below a bound -/
def reqG (hi : Int) (tx : ByteArray → Option (ByteArray × ByteArray)) (b : ByteArray) : Option (ByteArray × (Nat × Nat × ByteArray)) :=
  match numSp 0 3 b with
  | none => none
  | some (r1, c) =>
    match numSp 1 hi r1 with
    | none => none
    | some (r2, q) =>
      match tx r2 with
      | none => none
      | some (r3, s) => some (r3, (c, q, s))
theorem reqG_some (hi : Int) (tx : ByteArray → Option (ByteArray × ByteArray)) (b r1 r2 r3 s : ByteArray) (c q : Nat) (h1 : numSp 0 3 b = some (r1, c)) (h2 : numSp 1 hi r1 = some (r2, q)) (h3 : tx r2 = some (r3, s)) : reqG hi tx b = some (r3, (c, q, s)) := by
  unfold reqG
  rw [h1]
  dsimp only
  rw [h2]
  dsimp only
  rw [h3]
theorem reqSp_G (b : ByteArray) : reqSp b = reqG 2147483647 (textSp fun d => decide (d ≤ 40)) b := rfl
theorem reqG_put (hi : Int) (tx : ByteArray → Option (ByteArray × ByteArray)) (c q : Nat) (x s r : ByteArray) (h1 : c ≤ 3) (h2 : 1 ≤ q) (h3 : (q : Int) ≤ hi) (h4 : q < 4294967296) (h5 : tx (x ++ r) = some (r, s)) : reqG hi tx (be4 c ++ (be4 q ++ (x ++ r))) = some (r, (c, q, s)) := by
  have e1 : numSp 0 3 (be4 c ++ (be4 q ++ (x ++ r))) = some (be4 q ++ (x ++ r), c) := by rw [numSp_put _ _ _ (by omega), if_neg (by omega)]
  have e2 : numSp 1 hi (be4 q ++ (x ++ r)) = some (x ++ r, q) := by rw [numSp_put _ _ _ h4, if_neg (by omega)]
  exact reqG_some hi tx _ _ _ _ _ _ _ e1 e2 h5
theorem reqG_sound {hi : Int} {tx : ByteArray → Option (ByteArray × ByteArray)} {b r : ByteArray} {c q : Nat} {s : ByteArray} (h : reqG hi tx b = some (r, (c, q, s))) : ∃ r2, b = be4 c ++ (be4 q ++ r2) ∧ c ≤ 3 ∧ 1 ≤ q ∧ (q : Int) ≤ hi ∧ tx r2 = some (r, s) := by
  unfold reqG at h
  rcases h1 : numSp 0 3 b with _ | ⟨r1, c1⟩
  · rw [h1] at h; cases h
  rw [h1] at h
  dsimp only at h
  rcases h2 : numSp 1 hi r1 with _ | ⟨r2, q2⟩
  · rw [h2] at h; cases h
  rw [h2] at h
  dsimp only at h
  rcases h3 : tx r2 with _ | ⟨r3, s3⟩
  · rw [h3] at h; cases h
  rw [h3] at h
  simp only [Option.some.injEq, Prod.mk.injEq] at h
  obtain ⟨rfl, rfl, rfl, rfl⟩ := h
  obtain ⟨a1, a2, a3⟩ := numSp_sound h1
  obtain ⟨b1, b2, b3⟩ := numSp_sound h2
  exact ⟨r2, by rw [a1, b1], by omega, by omega, b3, h3⟩
theorem reqSp_put (c q : Nat) (s r : ByteArray) (h : rightR c q s) : reqSp (reqB c q s ++ r) = some (r, (c, q, s)) := by
  obtain ⟨h1, h2, h3, h4, h5⟩ := h
  have e : reqB (c : Int) q s ++ r = be4 c ++ (be4 q ++ (txt s ++ r)) := by
    unfold reqB; rw [num_nat c (by omega), num_nat q (by omega), ByteArray.append_assoc, ByteArray.append_assoc]
  have t1 : textSp (fun d => decide (d ≤ 40)) (txt s ++ r) = some (r, s) := (textSp_put (fun d => decide (d ≤ 40)) s r (by omega)).trans (if_pos (by simpa using h5))
  rw [e]
  exact (reqSp_G _).trans (reqG_put 2147483647 (textSp fun d => decide (d ≤ 40)) c q (txt s) s r (by omega) (by omega) h4 (by omega) t1)
theorem reqSp_sound {b r : ByteArray} {c q : Nat} {s : ByteArray} (h : reqSp b = some (r, (c, q, s))) : b = reqB c q s ++ r ∧ rightR c q s := by
  rw [reqSp_G] at h
  obtain ⟨r2, e1, h1, h2, h3, h4⟩ := reqG_sound h
  obtain ⟨d1, d2, d3⟩ := textSp_sound h4
  have d2 : s.size ≤ 40 := by simpa using d2
  refine ⟨?_, by omega, by omega, by omega, h3, d2⟩
  rw [e1, d1, reqB, num_nat c (by omega), num_nat q (by omega), ByteArray.append_assoc, ByteArray.append_assoc]
end WW
end
section
open Go Go.RowKit
namespace WW
open BB
/-- a request that isn't right, by the first thing that is wrong -/
def WrongR (c q : Int) (s : ByteArray) : Prop := c < 0 ∨ 0 ≤ c ∧ (4 ≤ c ∨ c < 4 ∧ (q < 1 ∨ 1 ≤ q ∧ (2147483647 < q ∨ q ≤ 2147483647 ∧ (40 : Int) < (s.size : Int))))
theorem wrong_of {c q : Int} {s : ByteArray} (h : ¬ rightR c q s) : WrongR c q s := by unfold rightR at h; unfold WrongR; omega
/-- a request in block g, and what was as it was -/
structure Req1 (w0 : World) (g : Nat) (c q : Int) (s : ByteArray) (w : World) : Prop where
  below : Below w0.heap.size w0 w
  lt : g < w.heap.size
  cells : w.cell? ⟨g, 0, none⟩ = some (.int .i64 c) ∧ w.cell? ⟨g, 1, none⟩ = some (.int .i64 q) ∧ w.cell? ⟨g, 2, none⟩ = some (.string s)
theorem Req1.on {w0 w w' : World} {g : Nat} {c q : Int} {s : ByteArray} (h : Req1 w0 g c q s w) (hb : Below w.heap.size w w') : Req1 w0 g c q s w' :=
  ⟨h.below.trans (hb.mono h.below.size), Nat.lt_of_lt_of_le h.lt hb.size, (hb.cell (p := ⟨g, 0, none⟩) h.lt).trans h.cells.1, (hb.cell (p := ⟨g, 1, none⟩) h.lt).trans h.cells.2.1, (hb.cell (p := ⟨g, 2, none⟩) h.lt).trans h.cells.2.2⟩
end WW
namespace Go.Proofs.YthajnkcipifhcaaGreatDoor
open WW BB
set_option maxRecDepth 100000 in
set_option maxHeartbeats 1000000 in
theorem right_yes (c q : Int) (s : ByteArray) (h : rightR c q s) (w : World) :
    Calls Tryz.prog 55 #[.agg #[.int .i64 c, .int .i64 q, .string s]] w fun e w' => e = .returned (.bool true) ∧ Below w.heap.size w w' := by
  obtain ⟨h1, h2, h3, h4, h5⟩ := h
  have h5 : (s.size : Int) ≤ 40 := by omega
  go_enter Tryz.func55, Tryz.ntmps55
  go_wp2_with fail
  go_ret
  exact ⟨rfl, (Below.refl _ _).alloc (Nat.le_refl _) _⟩
set_option maxRecDepth 100000 in
set_option maxHeartbeats 1000000 in
theorem right_no (c q : Int) (s : ByteArray) (h : WrongR c q s) (w : World) :
    Calls Tryz.prog 55 #[.agg #[.int .i64 c, .int .i64 q, .string s]] w fun e w' => e = .returned (.bool false) ∧ Below w.heap.size w w' := by
  rcases h with h1 | ⟨h1, h2 | ⟨h2, h3 | ⟨h3, h4 | ⟨h4, h5⟩⟩⟩⟩
  all_goals
    go_enter Tryz.func55, Tryz.ntmps55
    go_wp2_with fail
    go_ret
    exact ⟨by first | rfl | (show Ending.returned (.bool (decide ((s.size : Int) ≤ 40))) = _; rw [decide_eq_false (by omega)]), (Below.refl _ _).alloc (Nat.le_refl _) _⟩
end Go.Proofs.YthajnkcipifhcaaGreatDoor
end
section
open Go Go.RowKit
namespace SS
open WW BB
/-- a log: safe bytes, waiting ones, the fuse (-1: none), whether the power is gone -/
structure Lg where
  safe : ByteArray
  wait : ByteArray
  fuse : Int
  gone : Bool
/-- is there a record at the beginning? -/
def okR (b : ByteArray) : Bool := decide (4 ≤ b.size) && (decide (1 ≤ rd4 b) && (decide (rd4 b ≤ 4000) && decide (rd4 b + 4 ≤ b.size)))
theorem ok_yes {b : ByteArray} (h : okR b = true) : 4 ≤ b.size ∧ 1 ≤ rd4 b ∧ rd4 b ≤ 4000 ∧ rd4 b + 4 ≤ b.size := by
  unfold okR at h
  simpa only [Bool.and_eq_true, decide_eq_true_eq] using h
theorem ok_mk {b : ByteArray} (h : 4 ≤ b.size ∧ 1 ≤ rd4 b ∧ rd4 b ≤ 4000 ∧ rd4 b + 4 ≤ b.size) : okR b = true := by
  unfold okR
  simpa only [Bool.and_eq_true, decide_eq_true_eq] using h
theorem ok_no {b : ByteArray} (h : okR b = false) : ¬ (4 ≤ b.size ∧ 1 ≤ rd4 b ∧ rd4 b ≤ 4000 ∧ rd4 b + 4 ≤ b.size) := fun c => by rw [ok_mk c] at h; cases h
def headR (b : ByteArray) : ByteArray := b.extract 4 (4 + rd4 b)
def restR (b : ByteArray) : ByteArray := b.extract (4 + rd4 b) b.size
theorem rest_size {b : ByteArray} (h : okR b = true) : (restR b).size + 4 + rd4 b = b.size := by
  have := ok_yes h
  unfold restR
  rw [ByteArray.size_extract]; omega
theorem head_size {b : ByteArray} (h : okR b = true) : (headR b).size = rd4 b := by
  have := ok_yes h
  unfold headR
  rw [ByteArray.size_extract]; omega
def splitN : Nat → ByteArray → List ByteArray × Nat
  | 0, _ => ([], 0)
  | k + 1, b => if okR b = true then (headR b :: (splitN k (restR b)).1, 4 + rd4 b + (splitN k (restR b)).2) else ([], 0)
theorem splitN_more : ∀ (k m : Nat) (b : ByteArray), b.size < k → b.size < m → splitN k b = splitN m b
  | 0, _, _, h, _ => absurd h (Nat.not_lt_zero _)
  | _ + 1, 0, _, _, h => absurd h (Nat.not_lt_zero _)
  | k + 1, m + 1, b, h1, h2 => by
    unfold splitN
    by_cases h : okR b = true
    · have hr := rest_size h
      rw [if_pos h, if_pos h, splitN_more k m (restR b) (by omega) (by omega)]
    · rw [if_neg h, if_neg h]
/-- the records of bytes, and how many bytes they are -/
def splitS (b : ByteArray) : List ByteArray × Nat := splitN (b.size + 1) b
theorem split_yes {b : ByteArray} (h : okR b = true) : splitS b = (headR b :: (splitS (restR b)).1, 4 + rd4 b + (splitS (restR b)).2) := by
  have hr := rest_size h
  unfold splitS
  rw [splitN, if_pos h, splitN_more b.size ((restR b).size + 1) (restR b) (by omega) (by omega)]
theorem split_no {b : ByteArray} (h : okR b = false) : splitS b = ([], 0) := by
  unfold splitS
  rw [splitN, if_neg (by rw [h]; decide)]
theorem split_end : ∀ (k : Nat) (b : ByteArray), b.size < k → (splitS b).2 ≤ b.size ∧ (splitS b).1.length * 5 ≤ (splitS b).2
  | 0, _, h => absurd h (Nat.not_lt_zero _)
  | k + 1, b, h => by
    cases ho : okR b with
    | false => rw [split_no ho]; exact ⟨Nat.zero_le _, Nat.le_refl _⟩
    | true =>
      have hr := rest_size ho
      have hy := ok_yes ho
      obtain ⟨ih1, ih2⟩ := split_end k (restR b) (by omega)
      obtain ⟨⟨l, e⟩, hR⟩ : ∃ R, splitS (restR b) = R := ⟨_, rfl⟩
      rw [split_yes ho]
      rw [hR] at ih1 ih2 ⊢
      obtain ⟨n, hn⟩ : ∃ n, rd4 b = n := ⟨_, rfl⟩
      rw [hn] at hr hy ⊢
      simp only [List.length_cons] at ih1 ih2 ⊢
      exact ⟨by omega, by omega⟩
theorem ext_list (b : ByteArray) (i j : Nat) : (b.extract i j).data.toList = (b.data.toList.drop i).take (j - i) := by
  rw [ByteArray.data_extract, Array.toList_extract, List.extract_eq_take_drop]
theorem app_list (a b : ByteArray) : (a ++ b).data.toList = a.data.toList ++ b.data.toList := by
  rw [ByteArray.data_append, Array.toList_append]
/-- a record's bytes, and those of records -/
def encR (r : ByteArray) : ByteArray := be4 r.size ++ r
def encL : List ByteArray → ByteArray
  | [] => ⟨#[]⟩
  | r :: l => encR r ++ encL l
def fitR (r : ByteArray) : Prop := 1 ≤ r.size ∧ r.size ≤ 4000
theorem encR_size (r : ByteArray) : (encR r).size = 4 + r.size := by unfold encR; rw [ByteArray.size_append, be4_size]
theorem ba_nil {b : ByteArray} (h : b.size = 0) : b = ⟨#[]⟩ := by
  apply ba_ext
  rw [List.eq_nil_of_length_eq_zero ((ba_list b).trans h)]
/-- what begins with a whole record -/
theorem split_rec {r b : ByteArray} (h : fitR r) : okR (encR r ++ b) = true ∧ headR (encR r ++ b) = r ∧ restR (encR r ++ b) = b := by
  have hrd : rd4 (encR r ++ b) = r.size := by
    unfold encR; rw [ByteArray.append_assoc]; exact rd4_be4 _ (by have := h.2; omega) _
  have hs : (encR r ++ b).size = 4 + r.size + b.size := by rw [ByteArray.size_append, encR_size]
  have hl : (encR r ++ b).data.toList = (be4 r.size).data.toList ++ (r.data.toList ++ b.data.toList) := by
    unfold encR
    rw [app_list, app_list, List.append_assoc]
  have hb4 : (be4 r.size).data.toList.length = 4 := rfl
  have hrl := ba_list r
  have hbl := ba_list b
  refine ⟨ok_mk ⟨by omega, by rw [hrd]; exact h.1, by rw [hrd]; exact h.2, by rw [hrd]; omega⟩, ?_, ?_⟩
  · unfold headR
    rw [hrd]
    apply ba_ext
    rw [ext_list, hl, List.drop_left' hb4, show 4 + r.size - 4 = r.size by omega, List.take_left' hrl]
  · unfold restR
    rw [hrd]
    apply ba_ext
    rw [ext_list, hl, ← List.append_assoc, List.drop_left' (by rw [List.length_append, hb4, hrl])]
    exact List.take_of_length_le (by omega)
theorem split_enc {r b : ByteArray} (h : fitR r) : splitS (encR r ++ b) = (r :: (splitS b).1, 4 + r.size + (splitS b).2) := by
  obtain ⟨h1, h2, h3⟩ := split_rec (b := b) h
  have hz := head_size h1
  rw [h2] at hz
  rw [split_yes h1, h2, h3, hz]
end SS
end
section
open Go Go.RowKit
namespace RR
open WW BB
def bytesS (v l : Int) : ByteArray := num v ++ num l
/-- the state that has just these bytes -/
def readS (b : ByteArray) : Option (Int × Int) := if b.size = 8 then (if rd4 (b.extract 0 4) ≤ 1000000 ∧ rd4 (b.extract 4 b.size) ≤ 1000000 then some ((rd4 (b.extract 0 4) : Int), (rd4 (b.extract 4 b.size) : Int)) else none) else none
theorem bytes_size (v l : Int) : (bytesS v l).size = 8 := by
  unfold bytesS num
  rw [ByteArray.size_append, be4_size, be4_size]
end RR
end
section
open Go Go.RowKit
namespace ZZ
open JJ WW BB
/-- is one of a client's number in a list? -/
def hasR (l : List Rq) (k : Int × Int) : Bool := decide (k ∈ l.map keyR)
theorem has_nil (k : Int × Int) : hasR [] k = false := by unfold hasR; simp
/-- a pool: what waits, what is done -/
abbrev Po := List Rq × List Rq
abbrev goodR (r : Rq) : Prop := rightR r.1 r.2.1 r.2.2
instance instGoodR (r : Rq) : Decidable (goodR r) := by unfold goodR rightR; infer_instance
/-- a call on a pool -/
structure OpP where
  k : Nat
  r : Rq
  lv : Value
  l : List Rq
def opP0 : OpP := ⟨0, r0, .slice none 0 0, []⟩
end ZZ
end
