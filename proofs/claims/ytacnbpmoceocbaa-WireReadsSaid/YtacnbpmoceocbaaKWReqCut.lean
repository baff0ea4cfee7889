/-
  The cut of a request; what reads one.
-/
import Derived.Test.YtacnbpmoceocbaaKWNum
import Derived.Deep.RegionHeld3
import Derived.Lib.UnsafeStr
import Derived.Lib.Buffer
import Derived.Test.YtacnbpmoceocbaaChecked
section
open Go Go.RowKit
namespace WW
theorem be4_size (n : Nat) : (be4 n).size = 4 := rfl
theorem num_size (n : Int) : (num n).size = 4 := rfl
/-- a text's bytes -/
def txt (s : ByteArray) : ByteArray := num (s.size : Int) ++ s
theorem txt_size (s : ByteArray) : (txt s).size = 4 + s.size := by simp [txt, num_size]
/-- a request's bytes -/
def reqB (c q : Int) (b : ByteArray) : ByteArray := num c ++ num q ++ txt b
theorem reqB_size (c q : Int) (b : ByteArray) : (reqB c q b).size = 12 + b.size := by
  simp only [reqB, ByteArray.size_append, num_size, txt_size]; omega
/-- three cells of block g, and what lay below B as it was -/
def At3 (w : World) (B g : Nat) (v0 v1 v2 : Value) (W : World) : Prop := W.cell? ⟨g, 0, none⟩ = some v0 ∧ W.cell? ⟨g, 1, none⟩ = some v1 ∧ W.cell? ⟨g, 2, none⟩ = some v2 ∧ Below B w W ∧ B ≤ W.heap.size
theorem keep3 {w W w1 : World} {g : Nat} {v0 v1 v2 : Value} {B : Nat} (h : W.cell? ⟨g, 0, none⟩ = some v0 ∧ W.cell? ⟨g, 1, none⟩ = some v1 ∧ W.cell? ⟨g, 2, none⟩ = some v2 ∧ Below B w W ∧ B ≤ W.heap.size) (hb : Below W.heap.size W w1) :
    w1.cell? ⟨g, 0, none⟩ = some v0 ∧ w1.cell? ⟨g, 1, none⟩ = some v1 ∧ w1.cell? ⟨g, 2, none⟩ = some v2 ∧ Below B w w1 ∧ B ≤ w1.heap.size := by
  have hl := World.block_lt_of_cell? W _ h.1
  exact ⟨(hb.cell (p := ⟨g, 0, none⟩) hl).trans h.1, (hb.cell (p := ⟨g, 1, none⟩) hl).trans h.2.1, (hb.cell (p := ⟨g, 2, none⟩) hl).trans h.2.2.1, h.2.2.2.1.trans (hb.mono h.2.2.2.2), Nat.le_trans h.2.2.2.2 hb.size⟩
theorem start3 {w W : World} {g : Nat} {v0 v1 v2 : Value} {B : Nat} (h0 : W.cell? ⟨g, 0, none⟩ = some v0) (h1 : W.cell? ⟨g, 1, none⟩ = some v1) (h2 : W.cell? ⟨g, 2, none⟩ = some v2) (hb : Below B w W) (hB : B ≤ W.heap.size) :
    W.drew.cell? ⟨g, 0, none⟩ = some v0 ∧ W.drew.cell? ⟨g, 1, none⟩ = some v1 ∧ W.drew.cell? ⟨g, 2, none⟩ = some v2 ∧ Below B w W.drew ∧ B ≤ W.drew.heap.size := ⟨h0, h1, h2, hb.drew, hB⟩
/-- a request as a value -/
def reqV (c q : Int) (b : ByteArray) : Value := .agg #[.int .i64 c, .int .i64 q, .string b]
end WW
namespace Go.Proofs.Ytacnbpmoceocbaa
open WW
set_option maxRecDepth 100000 in
set_option maxHeartbeats 1000000 in
theorem text_any (s : ByteArray) (hs : s.size ≤ 1000000) (w : World) :
    Calls Try.prog 12 #[.string s] w fun e w' => e = .returned (.string (txt s)) ∧ Below w.heap.size w w' := by
  have hno : ¬ 9223372036854775807 < (num (s.size : Int)).size + s.size := by rw [num_size]; omega
  clear hs
  go_enter Try.func12, Try.ntmps12
  go_wp2_with fail
  refine (number_any _ _).mono ?_
  rintro e w1 ⟨rfl, hb1⟩
  go_wp2_with fail
  go_ret
  exact ⟨rfl, hb1⟩
set_option maxRecDepth 100000 in
set_option maxHeartbeats 1000000 in
theorem rtext_any (s : ByteArray) (hs : s.size ≤ 1000000) (w : World) :
    Calls Try.prog 13 #[.string s] w fun e w' => e = .returned (.string (txt s)) ∧ Below w.heap.size w w' := by
  have hno : ¬ 9223372036854775807 < (num (s.size : Int)).size + s.size := by rw [num_size]; omega
  clear hs
  go_enter Try.func13, Try.ntmps13
  go_wp2_with fail
  refine (rnumber_any _ _).mono ?_
  rintro e w1 ⟨rfl, hb1⟩
  go_wp2_with fail
  go_ret
  exact ⟨rfl, hb1⟩
set_option maxRecDepth 100000 in
set_option maxHeartbeats 2000000 in
theorem request_any (c q : Int) (b : ByteArray) (hb : b.size ≤ 1000000) (w : World) :
    Calls Try.prog 18 #[.agg #[.int .i64 c, .int .i64 q, .string b]] w fun e w' => e = .returned (.string (reqB c q b)) ∧ Below w.heap.size w w' := by
  have h1 : ¬ 9223372036854775807 < (num c).size + (num q).size := by rw [num_size, num_size]; omega
  have h2 : ¬ 9223372036854775807 < (num c).size + (num q).size + (txt b).size := by rw [num_size, num_size, txt_size]; omega
  have HB := Lib.hid hb
  clear hb
  go_enter Try.func18, Try.ntmps18
  go_wp2_with fail
  have c0 := cell_new w #[.int .i64 c, .int .i64 q, .string b] 34 0 _ rfl
  have c1 := cell_new w #[.int .i64 c, .int .i64 q, .string b] 34 1 _ rfl
  have c2 := cell_new w #[.int .i64 c, .int .i64 q, .string b] 34 2 _ rfl
  have b0 : Below w.heap.size w (w.alloc (.cells #[.int .i64 c, .int .i64 q, .string b] 34)) := (Below.refl _ _).alloc (Nat.le_refl _) _
  generalize w.alloc (.cells #[.int .i64 c, .int .i64 q, .string b] 34) = w0 at *
  have z0 := b0.size
  generalize hg : w.heap.size = g at *
  have HG := Lib.hid hg
  clear hg
  have hst := start3 c0 c1 c2 b0 z0
  go_region_held3 (fun w' => w'.cell? ⟨g, 0, none⟩ = some (.int .i64 c) ∧ w'.cell? ⟨g, 1, none⟩ = some (.int .i64 q) ∧ w'.cell? ⟨g, 2, none⟩ = some (.string b) ∧ Below g w w' ∧ g ≤ w'.heap.size)
    (first | exact hst | exact hk)
    (first
      | (go_at_call 10; refine (number_any _ _).mono ?_; rintro e w1 ⟨rfl, hb1⟩; have hk := keep3 (w := w) (g := g) (v0 := .int .i64 c) (v1 := .int .i64 q) (v2 := .string b) (B := g) (by assumption) hb1)
      | (go_at_call 12; refine (text_any _ HB.out _).mono ?_; rintro e w1 ⟨rfl, hb1⟩; have hk := keep3 (w := w) (g := g) (v0 := .int .i64 c) (v1 := .int .i64 q) (v2 := .string b) (B := g) (by assumption) hb1))
  go_wp2_with fail
  go_ret
  exact ⟨rfl, by rw [HG.out]; exact hk.2.2.2.1⟩
set_option maxRecDepth 100000 in
set_option maxHeartbeats 2000000 in
theorem rrequest_any (c q : Int) (b : ByteArray) (hb : b.size ≤ 1000000) (w : World) :
    Calls Try.prog 20 #[.agg #[.int .i64 c, .int .i64 q, .string b]] w fun e w' => e = .returned (.string (reqB c q b)) ∧ Below w.heap.size w w' := by
  have h1 : ¬ 9223372036854775807 < (num c).size + (num q).size := by rw [num_size, num_size]; omega
  have h2 : ¬ 9223372036854775807 < (num c).size + (num q).size + (txt b).size := by rw [num_size, num_size, txt_size]; omega
  have HB := Lib.hid hb
  clear hb
  go_enter Try.func20, Try.ntmps20
  go_wp2_with fail
  have c0 := cell_new w #[.int .i64 c, .int .i64 q, .string b] 34 0 _ rfl
  have c1 := cell_new w #[.int .i64 c, .int .i64 q, .string b] 34 1 _ rfl
  have c2 := cell_new w #[.int .i64 c, .int .i64 q, .string b] 34 2 _ rfl
  have b0 : Below w.heap.size w (w.alloc (.cells #[.int .i64 c, .int .i64 q, .string b] 34)) := (Below.refl _ _).alloc (Nat.le_refl _) _
  generalize w.alloc (.cells #[.int .i64 c, .int .i64 q, .string b] 34) = w0 at *
  have z0 := b0.size
  generalize hg : w.heap.size = g at *
  have HG := Lib.hid hg
  clear hg
  have hst := start3 c0 c1 c2 b0 z0
  go_region_held3 (fun w' => w'.cell? ⟨g, 0, none⟩ = some (.int .i64 c) ∧ w'.cell? ⟨g, 1, none⟩ = some (.int .i64 q) ∧ w'.cell? ⟨g, 2, none⟩ = some (.string b) ∧ Below g w w' ∧ g ≤ w'.heap.size)
    (first | exact hst | exact hk)
    (first
      | (go_at_call 14; refine (rnumber_any _ _).mono ?_; rintro e w1 ⟨rfl, hb1⟩; have hk := keep3 (w := w) (g := g) (v0 := .int .i64 c) (v1 := .int .i64 q) (v2 := .string b) (B := g) (by assumption) hb1)
      | (go_at_call 13; refine (rtext_any _ HB.out _).mono ?_; rintro e w1 ⟨rfl, hb1⟩; have hk := keep3 (w := w) (g := g) (v0 := .int .i64 c) (v1 := .int .i64 q) (v2 := .string b) (B := g) (by assumption) hb1))
  go_wp2_with fail
  go_ret
  exact ⟨rfl, by rw [HG.out]; exact hk.2.2.2.1⟩
set_option maxRecDepth 100000 in
theorem awake2_any (w : World) :
    Calls Try.prog 11 #[] w fun e w' => e = .returned (.bool true) ∧ Below w.heap.size w w' := by
  have he : reqB 1 2 ⟨#[97]⟩ = ⟨#[0, 0, 0, 1, 0, 0, 0, 2, 0, 0, 0, 1, 97]⟩ := by decide +kernel
  go_enter Try.func11, Try.ntmps11
  go_wp2_with fail
  refine (request_any 1 2 ⟨#[97]⟩ (by decide) _).mono ?_
  rintro e w1 ⟨rfl, hb1⟩
  rw [he]
  go_wp2_with fail
  go_ret
  exact ⟨rfl, hb1⟩
end Go.Proofs.Ytacnbpmoceocbaa
end
section
open Go Go.RowKit
namespace WW
open BB
theorem nil_size (s : ByteArray) (h : s.size = 0) : s = ⟨#[]⟩ := by
  cases s with
  | mk d =>
    have : d.size = 0 := h
    rw [Array.size_eq_zero_iff.1 this]
section
variable {P : Program} {ops : Array Oper} {Q : Exit → Act → World → Prop} {a : Act} {w : World} {rest : List Oper} {o : Oper}
theorem hold_ustr {x y : Operand} {tys : Array TypeId} (_ho : o.op = .call { callee := .builtin .unsafeString, args := #[x, y], argTypes := tys }) (h : Held (wpList P ops Q (o :: rest) a w)) : wpList P ops Q (o :: rest) a w := h
theorem wpl_ustr {x y : Operand} {pt it e : TypeId} (g n : Nat) (s : ByteArray) (hg : o.guard = none) (ho : o.op = .call { callee := .builtin .unsafeString, args := #[x, y], argTypes := #[pt, it] })
    (hx : a.eval x = .pointer (some ⟨g, 0, none⟩)) (hy : a.eval y = .int .i64 (n : Int)) (hp : P.underlying pt = some (.pointer e)) (hc : P.cellsOf e = 1) (hn : n = s.size) (h0 : 0 < n) (hn63 : n ≤ 9223372036854775807)
    (hb : TBlk e w g n (cb (sb s.data.toList)))
    (hK : ∀ w', (∀ B, B ≤ g → Below B w w') → wpList P ops Q rest (a.put o.dst (.string s)) w') : wpList P ops Q (o :: rest) a w := by
  unfold TBlk at hb
  have hl : s.data.toList.length = n := by rw [Array.length_toList]; exact hn.symm
  have h := Lib.run_unsafeString_row (P := P) w pt it o.type e hp hc g n (by unfold World.shape?; rw [hb]; simp [row_size]) s.data.toList (by intro h; rw [h] at hl; simp at hl; omega) (by omega) (by omega) (fun j x hx => by
    have hj : j < n := by
      rcases Nat.lt_or_ge j s.data.toList.length with h | h
      · omega
      · rw [List.getElem?_eq_none h] at hx; cases hx
    have : (⟨g, 0, none⟩ : Addr).add j = ⟨g, j, none⟩ := by unfold Addr.add; split <;> simp [*]
    rw [this]
    unfold World.cell?
    rw [hb]
    have hx' : s.data[j]? = some x := by simpa using hx
    simp [row_get _ _ _ hj, cb, sb, List.getD, hx'])
  rw [hl] at h
  refine wpl_value hg ?_ (hK _ fun B hB => Lib.below_freeze (Below.refl _ _) (p := ⟨g, 0, none⟩) hB n)
  simp [execOp, ho, resolve, invoke, hx, hy, builtin, h, Result.andThen]
end
end WW
namespace Go.Proofs.Ytacnbpmoceocbaa
open WW BB
theorem winfo_byte : (Try.prog.info? 5).map (fun i => (i.zero, i.size, i.bytes)) = some (some (.int .u8 0), 1, 1) := by kernel_rfl
theorem wunder_bytes (w : World) : (underlying 59).run Try.prog w = .ok (.slice 5) w := by kernel_rfl
theorem wsize_byte (w : World) : (Go.sizeOf 5).run Try.prog w = .ok 1 w := by kernel_rfl
set_option maxRecDepth 100000 in
set_option maxHeartbeats 1000000 in
theorem slclone_any (s : ByteArray) (hs : s.size ≤ 1000000) (w : World) :
    Calls Try.prog 102 #[.string s] w fun e w' => e = .returned (.string s) ∧ Below w.heap.size w w' := by
  have HS := Lib.hid hs
  by_cases h0 : s.size = 0
  · obtain rfl := nil_size s h0
    clear hs
    go_enter Try.func102, Try.ntmps102
    go_wp2_with fail
    go_ret
    exact ⟨rfl, Below.refl _ _⟩
  · have t0 : ((s.size : Int) == 0) = false := by rw [beq_eq_false_iff_ne]; omega
    have H0 := Lib.hid h0
    clear hs h0
    go_enter Try.func102, Try.ntmps102
    go_wp2_with (with_reducible refine hold_make rfl ?_)
    refine wpl_make (.tmp 8) (.tmp 8) 59 5 (.int .u8 0) 1 s.size rfl rfl (by rfl) (by rfl) (by kernel_rfl) winfo_byte (by rfl) (by have := HS.out; omega) (by have := HS.out; omega) ?_
    refine abs_list (fun w' => Below w.heap.size w w' ∧ TBlk 5 w' w.heap.size s.size (fun _ => .int .u8 0)) ⟨(Below.refl _ _).alloc (Nat.le_refl _) _, TBlk.new' _ _ _ _ _ _ rfl (made_row _ _)⟩ ?_
    rintro w1 ⟨b1, k1⟩
    go_wp2_with (with_reducible refine hold_copy rfl ?_)
    refine wpl_copy_str_t (.tmp 10) (.tmp 11) w.heap.size 0 s.size s.size s.size s.size (fun _ => .int .u8 0) s rfl rfl (by rfl) (by rfl) (wunder_bytes _) (wsize_byte _) k1 (by omega) (by omega) ?_
    rintro w2 ⟨k2, u2⟩
    have b2 := b1.trans (u2.below (Nat.le_refl _))
    have k3 : TBlk 5 w2 w.heap.size s.size (cb (sb s.data.toList)) := by
      unfold TBlk at k2 ⊢
      rw [k2, row_congr _ _ (cb (sb s.data.toList)) fun i hi => by rw [if_pos (by omega)]; rfl]
    have H1 := Lib.hid k3
    clear k1 b1 k2 k3 u2
    have i0 : (0 : Int) < (s.size : Int) := by have := H0.out; omega
    go_wp2_with (with_reducible refine hold_ustr rfl ?_)
    refine wpl_ustr w.heap.size s.size s rfl rfl (by rfl) (by rfl) (by kernel_rfl) (by kernel_rfl) rfl (by have := H0.out; omega) (by have := HS.out; omega) H1.out ?_
    intro w3 h3
    have b3 := b2.trans (h3 _ (Nat.le_refl _))
    clear h3
    go_wp2_with fail
    go_ret
    exact ⟨rfl, b3⟩
set_option maxRecDepth 100000 in
theorem clone_any (s : ByteArray) (hs : s.size ≤ 1000000) (w : World) :
    Calls Try.prog 90 #[.string s] w fun e w' => e = .returned (.string s) ∧ Below w.heap.size w w' := by
  go_enter Try.func90, Try.ntmps90
  go_wp2_with fail
  refine (slclone_any s hs _).mono ?_
  rintro e w1 ⟨rfl, hb1⟩
  go_wp2_with fail
  go_ret
  exact ⟨rfl, hb1⟩
end Go.Proofs.Ytacnbpmoceocbaa
end
section
open Go Go.RowKit
namespace WW
open BB
theorem Blk.cell_set {w : World} {p t o : Nat} {u v : Value} (h : w.cell? ⟨p, 0, none⟩ = some v) (hp : p ≠ t) : (w.setCell ⟨t, o, none⟩ u).cell? ⟨p, 0, none⟩ = some v :=
  (World.cell?_of_block (w := w) (Below.heap_setCell w ⟨t, o, none⟩ u p hp)).trans h
/-- what a cut leaves of the memory: block t alone has turned -/
def Cell1 (t n : Nat) (f : Nat → Value) (w w' : World) : Prop := Keep t w w' ∧ Blk w' t n f
theorem Cell1.call {t n : Nat} {f : Nat → Value} {w w1 w2 : World} (h : Cell1 t n f w w1) (hb : Below w1.heap.size w1 w2) : Cell1 t n f w w2 :=
  ⟨h.1.trans (keep_of_below hb (Nat.le_refl _) t), h.2.below hb h.2.lt⟩
theorem Cell1.store {t n : Nat} {f : Nat → Value} {w w1 : World} (h : Cell1 t n f w w1) (o : Nat) (u : Value) : Cell1 t n (put f o u) w (w1.setCell ⟨t, o, none⟩ u) :=
  ⟨h.1.trans (Upd.set _ _ _ _).keep, h.2.set o u⟩
theorem keep_cell {p : Nat} {v : Value} {w1 w2 : World} (h : w1.cell? ⟨p, 0, none⟩ = some v) (hb : Below w1.heap.size w1 w2) : w2.cell? ⟨p, 0, none⟩ = some v :=
  (hb.cell (p := ⟨p, 0, none⟩) (World.block_lt_of_cell? w1 _ h)).trans h
end WW
namespace Go.Proofs.Ytacnbpmoceocbaa
open WW BB
set_option maxRecDepth 100000 in
set_option maxHeartbeats 2000000 in
theorem bytesc_short (b : ByteArray) (p : Nat) (N : Nat) (vr : Value) (w : World) (hN : b.size < N) (hp : w.cell? ⟨p, 0, none⟩ = some (.int .i64 N)) :
    Calls Try.prog 89 #[.string b, .pointer (some ⟨p, 0, none⟩), vr] w fun e w' => e = .returned (.tuple #[.string ⟨#[]⟩, .bool false]) ∧ w = w' := by
  have g4 : (b.size : Int) < (N : Int) := by omega
  clear hN
  go_enter Try.func89, Try.ntmps89
  go_wp2_with fail
  go_ret2
  exact ⟨rfl, rfl⟩
set_option maxRecDepth 100000 in
set_option maxHeartbeats 2000000 in
theorem bytesc_yes (b : ByteArray) (p q t o n N : Nat) (f : Nat → Value) (w : World) (hb : b.size ≤ 1000000) (hN : N ≤ b.size) (hpt : p ≠ t) (hqt : q ≠ t)
    (hp : w.cell? ⟨p, 0, none⟩ = some (.int .i64 N)) (hq : w.cell? ⟨q, 0, none⟩ = some (.pointer (some ⟨t, o, none⟩))) (ht : Blk w t n f) (ho : o < n) :
    Calls Try.prog 89 #[.string b, .pointer (some ⟨p, 0, none⟩), .pointer (some ⟨q, 0, none⟩)] w fun e w' =>
      e = .returned (.tuple #[.string (b.extract N b.size), .bool true]) ∧ Cell1 t n (put f o (.string (b.extract 0 N))) w w' := by
  have g4 : ¬ (b.size : Int) < (N : Int) := by omega
  have g5 : (N : Int) ≤ (b.size : Int) := by omega
  have g6 : (0 : Int) ≤ (N : Int) := by omega
  have HB := Lib.hid hb
  have HO := Lib.hid ho
  have HN := Lib.hid hN
  have hsx : (b.extract 0 N).size ≤ 1000000 := by simp; omega
  have HSX := Lib.hid hsx
  have T0 := Lib.hid (⟨Keep.refl t w, ht⟩ : Cell1 t n f w w)
  clear hb ho ht hsx
  go_enter Try.func89, Try.ntmps89
  go_wp2_with fail
  have hst : w.drew.cell? ⟨p, 0, none⟩ = some (.int .i64 N) ∧ w.drew.cell? ⟨q, 0, none⟩ = some (.pointer (some ⟨t, o, none⟩)) := ⟨hp, hq⟩
  have T1 : Hid (Cell1 t n f w w.drew) := Lib.hid ⟨(Same.drewN w 1 |>.upd t).keep, T0.out.2.same (Same.drewN w 1)⟩
  clear T0
  have S1 := Lib.hid hst.1
  have S2 := Lib.hid hst.2
  go_region_held3 (fun w' => w'.cell? ⟨p, 0, none⟩ = some (.int .i64 N) ∧ w'.cell? ⟨q, 0, none⟩ = some (.pointer (some ⟨t, o, none⟩)))
    (first | exact hst | exact hk | exact hks)
    ((go_at_call 90; refine (clone_any _ HSX.out _).mono ?_; rintro e w1 ⟨rfl, hb1⟩;
      have T2 := Lib.hid (T1.out.call hb1);
      have hk : w1.cell? ⟨p, 0, none⟩ = some (.int .i64 N) ∧ w1.cell? ⟨q, 0, none⟩ = some (.pointer (some ⟨t, o, none⟩)) := ⟨keep_cell S1.out hb1, keep_cell S2.out hb1⟩;
      have hks : (w1.setCell ⟨t, o, none⟩ (.string (b.extract 0 N))).cell? ⟨p, 0, none⟩ = some (.int .i64 N) ∧ (w1.setCell ⟨t, o, none⟩ (.string (b.extract 0 N))).cell? ⟨q, 0, none⟩ = some (.pointer (some ⟨t, o, none⟩)) := ⟨Blk.cell_set hk.1 hpt, Blk.cell_set hk.2 hqt⟩;
      have ct := T2.out.2.get o HO.out;
      have ft := T2.out.2.frz o;
      have TF := Lib.hid (T2.out.store o (.string (b.extract 0 N)))))
  obtain ⟨c1, c2⟩ := hks
  clear hk ct ft S1 S2 hst
  go_wp2_with fail
  go_ret2
  exact ⟨rfl, TF.out⟩
end Go.Proofs.Ytacnbpmoceocbaa
end
section
open Go Go.RowKit
namespace WW
open BB
/-- the number that four bytes are -/
def rd4 (b : ByteArray) : Nat := (b.data.toList.getD 0 0).toNat * 16777216 + (b.data.toList.getD 1 0).toNat * 65536 + (b.data.toList.getD 2 0).toNat * 256 + (b.data.toList.getD 3 0).toNat
theorem or_words (x0 x1 x2 x3 : Nat) (h1 : x1 < 256) (h2 : x2 < 256) (h3 : x3 < 256) : ((x0 * 16777216 ||| x1 * 65536) ||| x2 * 256) ||| x3 = x0 * 16777216 + x1 * 65536 + x2 * 256 + x3 := by
  have e1 := Nat.two_pow_add_eq_or_of_lt (b := x1 * 65536) (i := 24) (by omega) x0
  have e2 := Nat.two_pow_add_eq_or_of_lt (b := x2 * 256) (i := 16) (by omega) (x0 * 256 + x1)
  have e3 := Nat.two_pow_add_eq_or_of_lt (b := x3) (i := 8) (by omega) (x0 * 65536 + x1 * 256 + x2)
  rw [show x0 * 16777216 = 2 ^ 24 * x0 by omega, ← e1, show 2 ^ 24 * x0 + x1 * 65536 = 2 ^ 16 * (x0 * 256 + x1) by omega, ← e2, show 2 ^ 16 * (x0 * 256 + x1) + x2 * 256 = 2 ^ 8 * (x0 * 65536 + x1 * 256 + x2) by omega, ← e3]
theorem or_u32 (a b : Nat) (ha : a < 4294967296) (hb : b < 4294967296) : bits .or .u32 (a : Int) (b : Int) = ((a ||| b : Nat) : Int) := by
  have := bvor (BitVec.ofNat 32 a) (BitVec.ofNat 32 b)
  rw [BitVec.toNat_or, BitVec.toNat_ofNat, BitVec.toNat_ofNat, Nat.mod_eq_of_lt ha, Nat.mod_eq_of_lt hb] at this
  exact this
theorem rd_word (x0 x1 x2 x3 : Nat) (h0 : x0 < 256) (h1 : x1 < 256) (h2 : x2 < 256) (h3 : x3 < 256) :
    IntKind.i64.wrap (bits .or .u32 (bits .or .u32 (bits .or .u32 (IntKind.u32.wrap (IntKind.u32.wrap (x0 : Int) * 16777216)) (IntKind.u32.wrap (IntKind.u32.wrap (x1 : Int) * 65536))) (IntKind.u32.wrap (IntKind.u32.wrap (x2 : Int) * 256))) (IntKind.u32.wrap (x3 : Int))) =
      ((x0 * 16777216 + x1 * 65536 + x2 * 256 + x3 : Nat) : Int) := by
  have w0 : IntKind.u32.wrap (IntKind.u32.wrap (x0 : Int) * 16777216) = ((x0 * 16777216 : Nat) : Int) := by rw [IntKind.wrap_u32', IntKind.wrap_u32']; omega
  have w1 : IntKind.u32.wrap (IntKind.u32.wrap (x1 : Int) * 65536) = ((x1 * 65536 : Nat) : Int) := by rw [IntKind.wrap_u32', IntKind.wrap_u32']; omega
  have w2 : IntKind.u32.wrap (IntKind.u32.wrap (x2 : Int) * 256) = ((x2 * 256 : Nat) : Int) := by rw [IntKind.wrap_u32', IntKind.wrap_u32']; omega
  have w3 : IntKind.u32.wrap (x3 : Int) = (x3 : Int) := by rw [IntKind.wrap_u32']; omega
  have e := or_words x0 x1 x2 x3 h1 h2 h3
  have e1 : x0 * 16777216 ||| x1 * 65536 = x0 * 16777216 + x1 * 65536 := by
    rw [show x0 * 16777216 = 2 ^ 24 * x0 by omega, ← Nat.two_pow_add_eq_or_of_lt (by omega)]
  have e2 : (x0 * 16777216 ||| x1 * 65536) ||| x2 * 256 = x0 * 16777216 + x1 * 65536 + x2 * 256 := by
    rw [e1, show x0 * 16777216 + x1 * 65536 = 2 ^ 16 * (x0 * 256 + x1) by omega, ← Nat.two_pow_add_eq_or_of_lt (by omega)]
  rw [w0, w1, w2, w3, or_u32 _ _ (by omega) (by omega), or_u32 _ _ (by rw [e1]; omega) (by omega), or_u32 _ _ (by rw [e2]; omega) (by omega), e]
  exact IntWalk.i64_in _ (by omega)
theorem get_byte (b : ByteArray) (i : Nat) (h : i < b.size) : b[i] = b.data.toList.getD i 0 := by
  show b.data[i] = _
  have hs : i < b.data.size := h
  simp only [List.getD_eq_getElem?_getD, Array.getElem?_toList, Array.getElem?_eq_getElem hs, Option.getD_some]
theorem rd4_code (b : ByteArray) (h0 : 0 < b.size) (h1 : 1 < b.size) (h2 : 2 < b.size) (h3 : 3 < b.size) :
    IntKind.i64.wrap (bits .or .u32 (bits .or .u32 (bits .or .u32 (IntKind.u32.wrap (IntKind.u32.wrap (b[0].toNat : Int) * 16777216)) (IntKind.u32.wrap (IntKind.u32.wrap (b[1].toNat : Int) * 65536))) (IntKind.u32.wrap (IntKind.u32.wrap (b[2].toNat : Int) * 256))) (IntKind.u32.wrap (b[3].toNat : Int))) = (rd4 b : Int) := by
  rw [rd_word _ _ _ _ (UInt8.toNat_lt _) (UInt8.toNat_lt _) (UInt8.toNat_lt _) (UInt8.toNat_lt _), get_byte, get_byte, get_byte, get_byte]
  rfl
theorem rd4_lt (b : ByteArray) : rd4 b < 4294967296 := by
  unfold rd4
  have h0 := UInt8.toNat_lt (b.data.toList.getD 0 0)
  have h1 := UInt8.toNat_lt (b.data.toList.getD 1 0)
  have h2 := UInt8.toNat_lt (b.data.toList.getD 2 0)
  have h3 := UInt8.toNat_lt (b.data.toList.getD 3 0)
  omega
/-- what is cut off: a number from lo to hi -/
def numSp (lo hi : Int) (b : ByteArray) : Option (ByteArray × Nat) := if b.size < 4 then none else if (rd4 b : Int) < lo ∨ hi < (rd4 b : Int) then none else some (b.extract 4 b.size, rd4 b)
end WW
namespace Go.Proofs.Ytacnbpmoceocbaa
open WW BB
set_option maxRecDepth 100000 in
set_option maxHeartbeats 2000000 in
theorem numc_short (b : ByteArray) (vp vq vr : Value) (w : World) (h4 : b.size < 4) :
    Calls Try.prog 86 #[.string b, vp, vq, vr] w fun e w' => e = .returned (.tuple #[.string ⟨#[]⟩, .bool false]) ∧ w = w' := by
  have g4 : (b.size : Int) < 4 := by omega
  clear h4
  go_enter Try.func86, Try.ntmps86
  go_wp2_with fail
  go_ret2
  exact ⟨rfl, rfl⟩
set_option maxRecDepth 100000 in
set_option maxHeartbeats 2000000 in
theorem numc_out (b : ByteArray) (p q : Nat) (lo hi : Int) (w : World) (h4 : 4 ≤ b.size) (hout : (rd4 b : Int) < lo ∨ ¬ (rd4 b : Int) < lo ∧ hi < (rd4 b : Int))
    (hp : w.cell? ⟨p, 0, none⟩ = some (.int .i64 lo)) (hq : w.cell? ⟨q, 0, none⟩ = some (.int .i64 hi)) (vr : Value) :
    Calls Try.prog 86 #[.string b, .pointer (some ⟨p, 0, none⟩), .pointer (some ⟨q, 0, none⟩), vr] w fun e w' => e = .returned (.tuple #[.string ⟨#[]⟩, .bool false]) ∧ Same w w' := by
  have n0 : 0 < b.size := by omega
  have n1 : 1 < b.size := by omega
  have n2 : 2 < b.size := by omega
  have n3 : 3 < b.size := by omega
  have g0 : (0 : Int) < (b.size : Int) := by omega
  have g1 : (1 : Int) < (b.size : Int) := by omega
  have g2 : (2 : Int) < (b.size : Int) := by omega
  have g3 : (3 : Int) < (b.size : Int) := by omega
  have g4 : ¬ (b.size : Int) < 4 := by omega
  have E := Lib.hid (rd4_code b n0 n1 n2 n3)
  clear h4
  go_enter Try.func86, Try.ntmps86
  go_wp2_with fail
  refine quiet_abs (by kernel_rfl) (by kernel_rfl) fun w2 hs2 => ?_
  repeat still_step
  refine wpStill_nil ?_
  rw [E.out]
  have hp2 := (hs2.cell ⟨p, 0, none⟩).trans hp
  have hq2 := (hs2.cell ⟨q, 0, none⟩).trans hq
  clear hp hq
  have N0 : (0 : Int) ≤ (rd4 b : Int) := by omega
  obtain ⟨N, hN⟩ : ∃ N, rd4 b = N := ⟨_, rfl⟩
  rw [hN] at hout N0 ⊢
  rcases hout with h | ⟨h1, h⟩
  · go_wp2_with fail
    go_ret2
    exact ⟨rfl, hs2⟩
  · go_wp2_with fail
    go_ret2
    exact ⟨rfl, hs2⟩
set_option maxRecDepth 100000 in
set_option maxHeartbeats 2000000 in
theorem numc_yes (b : ByteArray) (p q r t o n : Nat) (lo hi : Int) (f : Nat → Value) (w : World) (h4 : 4 ≤ b.size) (hlo : ¬ (rd4 b : Int) < lo) (hhi : ¬ hi < (rd4 b : Int))
    (hp : w.cell? ⟨p, 0, none⟩ = some (.int .i64 lo)) (hq : w.cell? ⟨q, 0, none⟩ = some (.int .i64 hi)) (hr : w.cell? ⟨r, 0, none⟩ = some (.pointer (some ⟨t, o, none⟩)))
    (ht : Blk w t n f) (ho : o < n) :
    Calls Try.prog 86 #[.string b, .pointer (some ⟨p, 0, none⟩), .pointer (some ⟨q, 0, none⟩), .pointer (some ⟨r, 0, none⟩)] w fun e w' =>
      e = .returned (.tuple #[.string (b.extract 4 b.size), .bool true]) ∧ MS w t n (put f o (.int .i64 (rd4 b : Int))) w' := by
  have n0 : 0 < b.size := by omega
  have n1 : 1 < b.size := by omega
  have n2 : 2 < b.size := by omega
  have n3 : 3 < b.size := by omega
  have g0 : (0 : Int) < (b.size : Int) := by omega
  have g1 : (1 : Int) < (b.size : Int) := by omega
  have g2 : (2 : Int) < (b.size : Int) := by omega
  have g3 : (3 : Int) < (b.size : Int) := by omega
  have g4 : ¬ (b.size : Int) < 4 := by omega
  have E := Lib.hid (rd4_code b n0 n1 n2 n3)
  have HT := Lib.hid ht
  have HO := Lib.hid ho
  clear ht ho
  go_enter Try.func86, Try.ntmps86
  go_wp2_with fail
  refine quiet_abs (by kernel_rfl) (by kernel_rfl) fun w2 hs2 => ?_
  repeat still_step
  refine wpStill_nil ?_
  rw [E.out]
  have hp2 := (hs2.cell ⟨p, 0, none⟩).trans hp
  have hq2 := (hs2.cell ⟨q, 0, none⟩).trans hq
  have hr2 := (hs2.cell ⟨r, 0, none⟩).trans hr
  have ht2 := (HT.out.same hs2).get o HO.out
  have hf2 := (HT.out.same hs2).frz o
  have M2 := Lib.hid ((MS.mk HT.out).same hs2)
  clear hp hq hr hs2 HT
  have N0 : (0 : Int) ≤ (rd4 b : Int) := by omega
  obtain ⟨N, hN⟩ : ∃ N, rd4 b = N := ⟨_, rfl⟩
  have HN := Lib.hid hN
  rw [hN] at hlo hhi N0 ⊢
  clear hN
  go_wp2_with fail
  go_ret2
  refine ⟨rfl, ?_⟩
  rw [HN.out]
  exact M2.out.set o _
end Go.Proofs.Ytacnbpmoceocbaa
end
section
open Go Go.RowKit
namespace WW
open BB
section
variable {P : Program} {ops : Array Oper} {Q : Exit → Act → World → Prop} {a : Act} {w : World} {rest : List Oper} {o : Oper}
/-- function k has a body of its own -/
def Own (P : Program) (k : Nat) : Prop := ∃ fn, P.funcs[k]? = some fn ∧ (fn.name == "runtime.NumGoroutine") = false ∧ fn.body.isNone = false
/-- the closure v, called with args -/
def CallsV (P : Program) (v : Value) (args : Array Value) (w : World) (R : Ending → World → Prop) : Prop :=
  ∃ k env, v = .func (.func k) #[] env ∧ Own P k ∧ Calls P k (args ++ env) w R
theorem CallsV.mono {v : Value} {args : Array Value} {R R' : Ending → World → Prop} (h : CallsV P v args w R) (hR : ∀ e w', R e w' → R' e w') : CallsV P v args w R' := by
  obtain ⟨k, env, hv, ho, hc⟩ := h
  exact ⟨k, env, hv, ho, hc.mono hR⟩
theorem run_enter {x : Operand} {xs : Array Operand} {tys : Array TypeId} {k : Nat} {env : Array Value} (ho : o.op = .call { callee := .value x, args := xs, argTypes := tys }) (hx : a.eval x = .func (.func k) #[] env) (hk : Own P k) :
    (execOp a.eval o).run P w = .ok (.enter k (xs.map a.eval ++ env)) w := by
  obtain ⟨fn, h1, h2, h3⟩ := hk
  have h2' : ¬ fn.name = "runtime.NumGoroutine" := by simpa using h2
  have h3' : ¬ fn.body = none := by intro h; rw [h] at h3; cases h3
  unfold execOp
  simp [ho, resolve, hx, Deferred.ofValue, invoke, callFunc, h1, h2', h3', Result.andThen]
theorem hold_callv {x : Operand} {xs : Array Operand} {tys : Array TypeId} {i : Nat} (_ho : o.op = .call { callee := .value x, args := xs, argTypes := tys }) (_hx : x = .tmp i) (h : Held (wpList P ops Q (o :: rest) a w)) : wpList P ops Q (o :: rest) a w := h
theorem wpl_callv {x : Operand} {xs : Array Operand} {tys : Array TypeId} (v : Value) (args : Array Value) (R : Ending → World → Prop) (hg : o.guard = none) (ho : o.op = .call { callee := .value x, args := xs, argTypes := tys })
    (hx : a.eval x = v) (has : xs.map a.eval = args) (hc : CallsV P v args w R) (hR : ∀ e w', R e w' → ∃ u, e = .returned u)
    (hK : ∀ u w', R (.returned u) w' → wpList P ops Q rest (a.put o.dst u) w') : wpList P ops Q (o :: rest) a w := by
  obtain ⟨k, env, hv, hk, hc⟩ := hc
  refine wpList_plain hg fun K hK' => ?_
  have hrun := run_enter (P := P) (w := w) (o := o) (a := a) ho (hx.trans hv) hk
  unfold Oper.wp
  rw [hrun, has]
  refine hc.mono fun e w' hr => ?_
  obtain ⟨u, rfl⟩ := hR e w' hr
  exact hK' _ _ (hK u w' hr)
theorem wpl_callv_w {x : Operand} {xs : Array Operand} {tys : Array TypeId} (v : Value) (args : Array Value) (R : Ending → World → Prop) (hg : Region.wanted o (yielded ops a.tmps) = true) (ho : o.op = .call { callee := .value x, args := xs, argTypes := tys })
    (hx : a.eval x = v) (has : xs.map a.eval = args) (hc : CallsV P v args w R) (hR : ∀ e w', R e w' → ∃ u, e = .returned u)
    (hK : ∀ u w', R (.returned u) w' → wpList P ops Q rest (a.put o.dst u) w') : wpList P ops Q (o :: rest) a w := by
  obtain ⟨k, env, hv, hk, hc⟩ := hc
  refine wpList_step fun K hK' => ?_
  rw [if_pos hg]
  have hrun := run_enter (P := P) (w := w) (o := o) (a := a) ho (hx.trans hv) hk
  unfold Oper.wp
  rw [hrun, has]
  refine hc.mono fun e w' hr => ?_
  obtain ⟨u, rfl⟩ := hR e w' hr
  exact hK' _ _ (hK u w' hr)
end
/-- what a cut answers -/
def Ans (Q : Bool → ByteArray → World → Prop) (e : Ending) (w : World) : Prop := ∃ ok r, e = .returned (.tuple #[.string r, .bool ok]) ∧ Q ok r w
theorem Ans.ret {Q : Bool → ByteArray → World → Prop} (e : Ending) (w : World) (h : Ans Q e w) : ∃ u, e = .returned u := by obtain ⟨ok, r, rfl, _⟩ := h; exact ⟨_, rfl⟩
/-- v cuts something off b -/
def Cut (P : Program) (v : Value) (b : ByteArray) (w : World) (Q : Bool → ByteArray → World → Prop) : Prop := CallsV P v #[.string b] w (Ans Q)
theorem Cut.mono {P : Program} {v : Value} {b : ByteArray} {w : World} {Q Q' : Bool → ByteArray → World → Prop} (h : Cut P v b w Q) (hQ : ∀ ok r w', Q ok r w' → Q' ok r w') : Cut P v b w Q' :=
  CallsV.mono h fun _ _ ⟨ok, r, he, hq⟩ => ⟨ok, r, he, hQ _ _ _ hq⟩
/-- one cut behind the other, up to the first one that is wrong; E holds all the while -/
def OrderWp (P : Program) (E : World → Prop) (Q : Bool → ByteArray → World → Prop) : List Value → ByteArray → World → Prop
  | [], b, w => Q true b w
  | v :: vs, b, w => Cut P v b w fun ok r w' => E w' ∧ (if ok then OrderWp P E Q vs r w' else Q false ⟨#[]⟩ w')
end WW
namespace Go.Proofs.Ytacnbpmoceocbaa
open WW BB
/-- the cuts that lie in block gc -/
def InRow (gc : Nat) (vs : List Value) (w : World) : Prop := ∀ i, i < vs.length → w.cell? ⟨gc, i, none⟩ = some (vs.getD i .nilFunc)
set_option maxRecDepth 100000 in
set_option maxHeartbeats 2000000 in
theorem order_any (vs : List Value) (bx gc cap : Nat) (Q : Bool → ByteArray → World → Prop) (b : ByteArray) (w : World) (hlen : vs.length ≤ 100)
    (hb : w.cell? ⟨bx, 0, none⟩ = some (.slice (some ⟨gc, 0, none⟩) vs.length cap)) (hE : InRow gc vs w) (h : OrderWp Try.prog (InRow gc vs) Q vs b w) :
    Calls Try.prog 85 #[.string b, .pointer (some ⟨bx, 0, none⟩)] w (Ans Q) := by
  have HE := Lib.hid hE
  have H := Lib.hid h
  have HL := Lib.hid hlen
  clear hE h hlen
  go_enter Try.func85, Try.ntmps85
  go_wp2_with fail
  clear hb
  go_loopw [0, 11] (fun s v wr => ∃ (j : Nat) (b' : ByteArray), j ≤ vs.length ∧ v = .int .i64 (j : Int) ∧ s = .string b' ∧ InRow gc vs wr ∧ OrderWp Try.prog (InRow gc vs) Q (vs.drop j) b' wr) (fun _ v _ => vs.length - (intOf v).toNat)
  case atStart => exact ⟨0, b, Nat.zero_le _, rfl, rfl, HE.out, H.out⟩
  case round =>
    clear HE H
    obtain ⟨j, b', hj, rfl, rfl, hE, hO⟩ := hrel
    by_cases hlt : j < vs.length
    · have hlt' : (j : Int) < (vs.length : Int) := by omega
      have j0 : (0 : Int) ≤ (j : Int) := by omega
      have jb : (j : Int) ≤ 100 := by have := HL.out; omega
      have hc := hE j hlt
      have hd : vs.drop j = vs.getD j .nilFunc :: vs.drop (j + 1) := by
        rw [List.drop_eq_getElem_cons hlt]; simp [List.getD, List.getElem?_eq_getElem hlt]
      rw [hd] at hO
      obtain ⟨v, hv⟩ : ∃ v, vs.getD j .nilFunc = v := ⟨_, rfl⟩
      rw [hv] at hO hc
      have HO := Lib.hid (show Cut Try.prog v b' wr (fun ok r w' => InRow gc vs w' ∧ (if ok then OrderWp Try.prog (InRow gc vs) Q (vs.drop (j + 1)) r w' else Q false ⟨#[]⟩ w')) from hO)
      have HLT := Lib.hid hlt
      clear hO hd hv hE hj hlt
      go_wp2_with (with_reducible refine hold_callv rfl rfl ?_)
      refine wpl_callv (v := v) (args := #[.string b']) _ rfl rfl rfl (by simp [Act.eval]) HO.out Ans.ret ?_
      intro u w' hu
      obtain ⟨ok, r, hr, hE, hO⟩ := hu
      injection hr with hr
      subst hr
      cases ok
      · have HQ := Lib.hid (show Q false ⟨#[]⟩ w' from hO)
        clear hO hE
        go_wp2_with fail
        go_ret2
        exact ⟨false, ⟨#[]⟩, rfl, HQ.out⟩
      · have HO' := Lib.hid (show OrderWp Try.prog (InRow gc vs) Q (vs.drop (j + 1)) r w' from hO)
        have HE := Lib.hid hE
        clear hO hE
        go_wp2_with fail
        go_roundw
        case rel => exact ⟨j + 1, r, by have := HLT.out; omega, by go_num, rfl, HE.out, HO'.out⟩
        case measure => have := HLT.out; simp [intOf]; omega
    · have hlt' : ¬ (j : Int) < (vs.length : Int) := by omega
      rw [List.drop_of_length_le (by omega)] at hO
      have HQ := Lib.hid (show Q true b' wr from hO)
      clear hO hE hlt hj
      go_wp2_with fail
      go_ret2
      exact ⟨true, b', rfl, HQ.out⟩
end Go.Proofs.Ytacnbpmoceocbaa
end
section
open Go Go.RowKit
namespace WW
open BB
/-- what a cut with the answer x leaves -/
def Eff (t n : Nat) (f : Nat → Value) (w : World) {δ : Type} (eff : δ → (Nat → Value) → Nat → Value) (x : Option (ByteArray × δ)) (ok : Bool) (r : ByteArray) (w' : World) : Prop :=
  match x with
  | none => ok = false ∧ ∃ f', Cell1 t n f' w w'
  | some (r', d) => ok = true ∧ r = r' ∧ Cell1 t n (eff d f) w w'
/-- v cuts off what Sp says, and puts it into block t -/
def CutTo (P : Program) (t n : Nat) (v : Value) (W : World) {δ : Type} (Sp : ByteArray → Option (ByteArray × δ)) (eff : δ → (Nat → Value) → Nat → Value) : Prop :=
  ∀ f b w, b.size ≤ 1000000 → Keep t W w → Blk w t n f → Cut P v b w (Eff t n f w eff (Sp b))
theorem CutTo.later {P : Program} {t n : Nat} {v : Value} {W W' : World} {δ : Type} {Sp : ByteArray → Option (ByteArray × δ)} {eff : δ → (Nat → Value) → Nat → Value} (h : CutTo P t n v W Sp eff) (hk : Keep t W W') : CutTo P t n v W' Sp eff :=
  fun f b w hb hw ht => h f b w hb (hk.trans hw) ht
theorem keep_cell2 {t p : Nat} {v : Value} {w1 w2 : World} (h : w1.cell? ⟨p, 0, none⟩ = some v) (hp : p ≠ t) (hk : Keep t w1 w2) : w2.cell? ⟨p, 0, none⟩ = some v :=
  (World.cell?_of_block (w := w1) (hk.block p (World.block_lt_of_cell? w1 _ h) hp)).trans h
/-- a number put into cell o -/
def putN (o : Nat) (d : Nat) (f : Nat → Value) : Nat → Value := put f o (.int .i64 (d : Int))
/-- a text put into cell o -/
def putS (o : Nat) (d : ByteArray) (f : Nat → Value) : Nat → Value := put f o (.string d)
/-- so many bytes -/
def bytesSp (N : Nat) (b : ByteArray) : Option (ByteArray × ByteArray) := if b.size < N then none else some (b.extract N b.size, b.extract 0 N)
/-- a text whose length fits -/
def textSp (fits : Nat → Bool) (b : ByteArray) : Option (ByteArray × ByteArray) :=
  match numSp 0 2147483647 b with
  | none => none
  | some (r, N) => if fits N then bytesSp N r else none
theorem cell_at (w : World) (u : Value) (t : TypeId) (b : Nat) (hb : b = w.heap.size) : (w.alloc (.cells #[u] t)).cell? ⟨b, 0, none⟩ = some u := by
  subst hb
  have : (w.alloc (.cells #[u] t)).heap[w.heap.size]? = some (.cells #[u] t) := by show (w.heap.push _)[w.heap.size]? = _; simp
  unfold World.cell?; rw [this]; simp
theorem cell_old {w : World} {p : Nat} {v : Value} {o : Obj} (h : w.cell? ⟨p, 0, none⟩ = some v) : (w.alloc o).cell? ⟨p, 0, none⟩ = some v :=
  keep_cell h ((Below.refl _ _).alloc (Nat.le_refl _) _)
theorem Blk.cell1 (w : World) (u : Value) (t : TypeId) : Blk (w.alloc (.cells #[u] t)) w.heap.size 1 (fun _ => u) := Blk.new' rfl (by rfl)
theorem textSp_none (fits : Nat → Bool) (b : ByteArray) (h : numSp 0 2147483647 b = none) : textSp fits b = none := by unfold textSp; rw [h]
theorem textSp_some (fits : Nat → Bool) (b : ByteArray) {r : ByteArray} {d : Nat} (h : numSp 0 2147483647 b = some (r, d)) : textSp fits b = if fits d = true then bytesSp d r else none := by unfold textSp; rw [h]
/-- a closure is made that cuts off what Sp says -/
def Makes (P : Program) (t n : Nat) (w : World) {δ : Type} (Sp : ByteArray → Option (ByteArray × δ)) (eff : δ → (Nat → Value) → Nat → Value) (e : Ending) (w' : World) : Prop :=
  ∃ k env, e = .returned (.func (.func k) #[] env) ∧ Below w.heap.size w w' ∧ CutTo P t n (.func (.func k) #[] env) w' Sp eff
/-- fv tells whether a length fits -/
def FitsV (P : Program) (t : Nat) (fv : Value) (W : World) (fits : Nat → Bool) : Prop :=
  ∀ (d : Nat) w, Keep t W w → CallsV P fv #[.int .i64 (d : Int)] w fun e w' => e = .returned (.bool (fits d)) ∧ Below w.heap.size w w'
end WW
namespace Go.Proofs.Ytacnbpmoceocbaa
open WW BB
theorem own_num : Own Try.prog 86 := ⟨_, Try.func86, by kernel_rfl, by kernel_rfl⟩
theorem own_bytes : Own Try.prog 89 := ⟨_, Try.func89, by kernel_rfl, by kernel_rfl⟩
theorem own_text : Own Try.prog 87 := ⟨_, Try.func87, by kernel_rfl, by kernel_rfl⟩
/-- the closure that cuts a number off into cell o of block t -/
theorem num_to (t n o p q r : Nat) (lo hi : Int) (ho : o < n) (W : World) (hp : W.cell? ⟨p, 0, none⟩ = some (.int .i64 lo)) (hq : W.cell? ⟨q, 0, none⟩ = some (.int .i64 hi)) (hr : W.cell? ⟨r, 0, none⟩ = some (.pointer (some ⟨t, o, none⟩)))
    (p1 : p ≠ t) (q1 : q ≠ t) (r1 : r ≠ t) :
    CutTo Try.prog t n (.func (.func 86) #[] #[.pointer (some ⟨p, 0, none⟩), .pointer (some ⟨q, 0, none⟩), .pointer (some ⟨r, 0, none⟩)]) W (numSp lo hi) (putN o) := by
  intro f b w hb hk ht
  refine ⟨_, _, rfl, own_num, ?_⟩
  have hp := keep_cell2 hp p1 hk
  have hq := keep_cell2 hq q1 hk
  have hr := keep_cell2 hr r1 hk
  unfold numSp
  by_cases h4 : b.size < 4
  · rw [if_pos h4]
    refine (numc_short b _ _ _ w h4).mono ?_
    rintro e w' ⟨rfl, rfl⟩
    exact ⟨false, _, rfl, rfl, f, Keep.refl _ _, ht⟩
  · rw [if_neg h4]
    by_cases hr2 : (rd4 b : Int) < lo ∨ hi < (rd4 b : Int)
    · rw [if_pos hr2]
      refine (numc_out b p q lo hi w (by omega) (by omega) hp hq _).mono ?_
      rintro e w' ⟨rfl, hs⟩
      exact ⟨false, _, rfl, rfl, f, (hs.upd t).keep, ht.same hs⟩
    · rw [if_neg hr2]
      refine (numc_yes b p q r t o n lo hi f w (by omega) (by omega) (by omega) hp hq hr ht ho).mono ?_
      rintro e w' ⟨rfl, hm⟩
      exact ⟨true, _, rfl, rfl, rfl, hm.2.keep, hm.1⟩
theorem bytes_to (t n o p q N : Nat) (ho : o < n) (W : World) (hp : W.cell? ⟨p, 0, none⟩ = some (.int .i64 N)) (hq : W.cell? ⟨q, 0, none⟩ = some (.pointer (some ⟨t, o, none⟩))) (p1 : p ≠ t) (q1 : q ≠ t) :
    CutTo Try.prog t n (.func (.func 89) #[] #[.pointer (some ⟨p, 0, none⟩), .pointer (some ⟨q, 0, none⟩)]) W (bytesSp N) (putS o) := by
  intro f b w hb hk ht
  refine ⟨_, _, rfl, own_bytes, ?_⟩
  have hp := keep_cell2 hp p1 hk
  have hq := keep_cell2 hq q1 hk
  unfold bytesSp
  by_cases h : b.size < N
  · rw [if_pos h]
    refine (bytesc_short b p N _ w h hp).mono ?_
    rintro e w' ⟨rfl, rfl⟩
    exact ⟨false, _, rfl, rfl, f, Keep.refl _ _, ht⟩
  · rw [if_neg h]
    refine (bytesc_yes b p q t o n N f w hb (by omega) p1 q1 hp hq ht ho).mono ?_
    rintro e w' ⟨rfl, hc⟩
    exact ⟨true, _, rfl, rfl, rfl, hc⟩
set_option maxRecDepth 100000 in
/-- cutNumber -/
theorem mk_num (t o n : Nat) (lo hi : Int) (w : World) (ho : o < n) (ht : t < w.heap.size) :
    Calls Try.prog 66 #[.pointer (some ⟨t, o, none⟩), .int .i64 lo, .int .i64 hi] w (Makes Try.prog t n w (numSp lo hi) (putN o)) := by
  have HO := Lib.hid ho
  have HT := Lib.hid ht
  clear ho ht
  go_enter Try.func66, Try.ntmps66
  go_wp2_with fail
  go_ret
  have b1 := (Below.refl w.heap.size w).alloc (Nat.le_refl _) (.cells #[.pointer (some ⟨t, o, none⟩)] 92)
  have b2 := b1.alloc b1.size (.cells #[.int .i64 lo] 3)
  have b3 := b2.alloc b2.size (.cells #[.int .i64 hi] 3)
  have := HT.out
  exact ⟨_, _, rfl, b3, num_to t n o (w.heap.size + 1) (w.heap.size + 2) w.heap.size lo hi HO.out _ (cell_old (cell_at _ _ _ _ (by simp))) (cell_at _ _ _ _ (by simp)) (cell_old (cell_old (cell_at _ _ _ _ rfl))) (by omega) (by omega) (by omega)⟩
set_option maxRecDepth 100000 in
/-- cutBytes -/
theorem mk_bytes (t o n N : Nat) (w : World) (ho : o < n) (ht : t < w.heap.size) :
    Calls Try.prog 71 #[.pointer (some ⟨t, o, none⟩), .int .i64 N] w (Makes Try.prog t n w (bytesSp N) (putS o)) := by
  have HO := Lib.hid ho
  have HT := Lib.hid ht
  clear ho ht
  go_enter Try.func71, Try.ntmps71
  go_wp2_with fail
  go_ret
  have b1 := (Below.refl w.heap.size w).alloc (Nat.le_refl _) (.cells #[.pointer (some ⟨t, o, none⟩)] 94)
  have b2 := b1.alloc b1.size (.cells #[.int .i64 (N : Int)] 3)
  have := HT.out
  exact ⟨_, _, rfl, b2, bytes_to t n o (w.heap.size + 1) w.heap.size N HO.out _ (cell_at _ _ _ _ (by simp)) (cell_old (cell_at _ _ _ _ rfl)) (by omega) (by omega)⟩
set_option maxRecDepth 100000 in
set_option maxHeartbeats 2000000 in
/-- the closure that cuts a text off into cell o of block t -/
theorem text_walk (t n o p q : Nat) (fv : Value) (fits : Nat → Bool) (W : World) (f : Nat → Value) (b : ByteArray) (w : World) (ho : o < n) (hb : b.size ≤ 1000000) (hk : Keep t W w) (ht : Blk w t n f)
    (hf : FitsV Try.prog t fv W fits) (hp : w.cell? ⟨p, 0, none⟩ = some fv) (hq : w.cell? ⟨q, 0, none⟩ = some (.pointer (some ⟨t, o, none⟩))) :
    Calls Try.prog 87 #[.string b, .pointer (some ⟨p, 0, none⟩), .pointer (some ⟨q, 0, none⟩)] w (Ans (Eff t n f w (putS o) (textSp fits b))) := by
  have HO := Lib.hid ho
  have HB := Lib.hid hb
  have HK := Lib.hid hk
  have HT := Lib.hid ht
  have HP := Lib.hid hp
  have HQ := Lib.hid hq
  clear ho hb hk ht hp hq
  obtain ⟨X, hX⟩ : ∃ X, textSp fits b = X := ⟨_, rfl⟩
  rw [hX]
  have HX := Lib.hid hX
  clear hX
  go_enter Try.func87, Try.ntmps87
  go_wp2_with fail
  have k1 := Blk.cell1 w (.int .i64 0) 3
  have b1 := (Below.refl w.heap.size w).alloc (Nat.le_refl _) (.cells #[.int .i64 0] 3)
  have z1 : w.heap.size < (w.alloc (.cells #[.int .i64 0] 3)).heap.size := by simp
  generalize w.alloc (.cells #[.int .i64 0] 3) = w1 at *
  refine (mk_num w.heap.size 0 1 0 2147483647 w1 (by omega) z1).mono ?_
  rintro e w2 ⟨kv, ev, rfl, hb2, hv⟩
  have K2 := Lib.hid (k1.below hb2 z1)
  have B2 := Lib.hid (b1.trans (hb2.mono b1.size))
  have HV := Lib.hid hv
  have HF := Lib.hid hf
  clear k1 b1 z1 hb2 hv hf
  clear w1
  obtain ⟨N1, hN1⟩ : ∃ N1, w.heap.size = N1 := ⟨_, rfl⟩
  rw [hN1] at K2 HV ⊢
  have HN1 := Lib.hid hN1
  clear hN1
  go_wp2_with (with_reducible refine hold_callv rfl rfl ?_)
  refine wpl_callv (v := .func (.func kv) #[] ev) (args := #[.string b]) _ rfl rfl rfl (by simp [Act.eval]) (HV.out _ b w2 HB.out (Keep.refl _ _) K2.out) Ans.ret ?_
  intro u w3 hu
  obtain ⟨ok, r, hr, he⟩ := hu
  injection hr with hr
  subst hr
  rcases hsp : numSp 0 2147483647 b with _ | ⟨r', d⟩
  · rw [hsp] at he
    obtain ⟨rfl, f', c3⟩ := he
    have B3 := Lib.hid (B2.out.trans (c3.1.below (by rw [HN1.out]; exact Nat.le_refl _) B2.out.size))
    have HS := Lib.hid hsp
    clear c3 hsp
    go_wp2_with fail
    go_ret2
    refine ⟨false, _, rfl, ?_⟩
    rw [← HX.out, textSp_none _ _ HS.out]
    exact ⟨rfl, f, keep_of_below B3.out (Nat.le_refl _) t, HT.out.below B3.out HT.out.lt⟩
  · rw [hsp] at he
    obtain ⟨rfl, rfl, c3⟩ := he
    have B3 := Lib.hid (B2.out.trans (c3.1.below (by rw [HN1.out]; exact Nat.le_refl _) B2.out.size))
    have HS := Lib.hid hsp
    have cn : w3.cell? ⟨N1, 0, none⟩ = some (.int .i64 (d : Int)) := c3.2.get 0 (by omega)
    have cp : w3.cell? ⟨p, 0, none⟩ = some fv := keep_cell HP.out B3.out
    have cq : w3.cell? ⟨q, 0, none⟩ = some (.pointer (some ⟨t, o, none⟩)) := keep_cell HQ.out B3.out
    have CN := Lib.hid cn
    have CQ := Lib.hid cq
    have hR : r.size ≤ 1000000 := by
      unfold numSp at hsp
      split at hsp
      · cases hsp
      · split at hsp
        · cases hsp
        · injection hsp with hsp
          injection hsp with h1 h2
          rw [← h1]; have := HB.out; simp; omega
    have HR := Lib.hid hR
    have hf3 := HF.out d w3 (HK.out.trans (keep_of_below B3.out (Nat.le_refl _) t))
    have HF3 := Lib.hid hf3
    clear c3 hsp hR hf3 HF
    go_wp2_with (with_reducible refine hold_callv rfl rfl ?_)
    refine wpl_callv_w (v := fv) (args := #[.int .i64 (d : Int)]) _ rfl rfl rfl (by simp [Act.eval]) HF3.out (fun _ _ ⟨h, _⟩ => ⟨_, h⟩) ?_
    rintro u w4 ⟨hu, hb4⟩
    injection hu with hu
    subst hu
    have B4 := Lib.hid (B3.out.trans (hb4.mono B3.out.size))
    have cn4 := keep_cell CN.out hb4
    have cq4 := keep_cell CQ.out hb4
    clear hb4 cn cq cp
    rcases hfit : fits d with _ | _
    · have HFit := Lib.hid hfit
      clear hfit
      go_wp2_with fail
      go_ret2
      refine ⟨false, _, rfl, ?_⟩
      rw [← HX.out, textSp_some _ _ HS.out, if_neg (by rw [HFit.out]; decide)]
      exact ⟨rfl, f, keep_of_below B4.out (Nat.le_refl _) t, HT.out.below B4.out HT.out.lt⟩
    · have HFit := Lib.hid hfit
      clear hfit
      go_wp2_with fail
      refine (mk_bytes t o n d w4 HO.out (Nat.lt_of_lt_of_le HT.out.lt B4.out.size)).mono ?_
      rintro e w5 ⟨k5, e5, rfl, hb5, hv5⟩
      have B5 := Lib.hid (B4.out.trans (hb5.mono B4.out.size))
      have HV5 := Lib.hid hv5
      clear hb5 hv5 cn4 cq4
      go_wp2_with (with_reducible refine hold_callv rfl rfl ?_)
      refine wpl_callv (v := .func (.func k5) #[] e5) (args := #[.string r]) _ rfl rfl rfl (by simp [Act.eval]) (HV5.out f r w5 HR.out (Keep.refl _ _) (HT.out.below B5.out HT.out.lt)) Ans.ret ?_
      intro u w6 hu
      obtain ⟨ok, r6, hr, he⟩ := hu
      injection hr with hr
      subst hr
      have HE := Lib.hid he
      clear he
      go_wp2_with fail
      go_ret2
      refine ⟨ok, r6, rfl, ?_⟩
      rw [← HX.out, textSp_some _ _ HS.out, if_pos HFit.out]
      have K5 := keep_of_below B5.out (Nat.le_refl _) t
      have he := HE.out
      rcases hsb : bytesSp d r with _ | ⟨r7, d7⟩
      · rw [hsb] at he
        obtain ⟨h1, f', h2⟩ := he
        exact ⟨h1, f', K5.trans h2.1, h2.2⟩
      · rw [hsb] at he
        exact ⟨he.1, he.2.1, K5.trans he.2.2.1, he.2.2.2⟩
end Go.Proofs.Ytacnbpmoceocbaa
end
section
open Go Go.RowKit
namespace WW
open BB
theorem order_cons {P : Program} {E : World → Prop} {Q : Bool → ByteArray → World → Prop} {v : Value} {vs : List Value} {t n : Nat} {W w : World} {δ : Type} {Sp : ByteArray → Option (ByteArray × δ)} {eff : δ → (Nat → Value) → Nat → Value} {f : Nat → Value} {b : ByteArray}
    (h : CutTo P t n v W Sp eff) (hb : b.size ≤ 1000000) (hk : Keep t W w) (ht : Blk w t n f) (hE : ∀ w', Keep t w w' → E w')
    (hno : Sp b = none → ∀ f' w', Cell1 t n f' w w' → Q false ⟨#[]⟩ w') (hyes : ∀ r d, Sp b = some (r, d) → ∀ w', Cell1 t n (eff d f) w w' → OrderWp P E Q vs r w') : OrderWp P E Q (v :: vs) b w := by
  refine (h f b w hb hk ht).mono fun ok r w' he => ?_
  unfold Eff at he
  rcases hs : Sp b with _ | ⟨r', d⟩
  · rw [hs] at he
    obtain ⟨rfl, f', hc⟩ := he
    exact ⟨hE w' hc.1, hno hs f' w' hc⟩
  · rw [hs] at he
    obtain ⟨rfl, rfl, hc⟩ := he
    exact ⟨hE w' hc.1, hyes _ d hs w' hc⟩
theorem numSp_size {lo hi : Int} {b r : ByteArray} {d : Nat} (h : numSp lo hi b = some (r, d)) : r.size ≤ b.size := by
  unfold numSp at h
  split at h
  · cases h
  · split at h
    · cases h
    · injection h with h; injection h with h1 h2; rw [← h1]; simp
theorem bytesSp_size {N : Nat} {b r d : ByteArray} (h : bytesSp N b = some (r, d)) : r.size ≤ b.size := by
  unfold bytesSp at h
  split at h
  · cases h
  · injection h with h; injection h with h1 h2; rw [← h1]; simp
theorem textSp_size {fits : Nat → Bool} {b r d : ByteArray} (h : textSp fits b = some (r, d)) : r.size ≤ b.size := by
  unfold textSp at h
  rcases hn : numSp 0 2147483647 b with _ | ⟨r1, N⟩
  · rw [hn] at h; cases h
  · rw [hn] at h
    dsimp only at h
    split at h
    · exact Nat.le_trans (bytesSp_size h) (numSp_size hn)
    · cases h
/-- a request -/
def reqSp (b : ByteArray) : Option (ByteArray × (Nat × Nat × ByteArray)) :=
  match numSp 0 3 b with
  | none => none
  | some (r1, c) =>
    match numSp 1 2147483647 r1 with
    | none => none
    | some (r2, q) =>
      match textSp (fun d => decide (d ≤ 40)) r2 with
      | none => none
      | some (r3, s) => some (r3, (c, q, s))
def putReq (o : Nat) (d : Nat × Nat × ByteArray) (f : Nat → Value) : Nat → Value := putS (o + 2) d.2.2 (putN (o + 1) d.2.1 (putN o d.1 f))
theorem InRow_keep {w w' : World} {t gc : Nat} {l : List Value} (h : ∀ i, i < l.length → w.cell? ⟨gc, i, none⟩ = some (l.getD i .nilFunc)) (hg : gc ≠ t) (hl : gc < w.heap.size) (hk : Keep t w w') : ∀ i, i < l.length → w'.cell? ⟨gc, i, none⟩ = some (l.getD i .nilFunc) :=
  fun i hi => (World.cell?_of_block (w := w) (hk.block gc hl hg)).trans (h i hi)
end WW
namespace Go.Proofs.Ytacnbpmoceocbaa
open WW BB
theorem own_order : Own Try.prog 85 := ⟨_, Try.func85, by kernel_rfl, by kernel_rfl⟩
theorem own_atmost : Own Try.prog 88 := ⟨_, Try.func88, by kernel_rfl, by kernel_rfl⟩
set_option maxRecDepth 100000 in
theorem mk_text (t o n : Nat) (k : Nat) (env : Array Value) (fits : Nat → Bool) (w : World) (ho : o < n) (ht : t < w.heap.size) (hf : FitsV Try.prog t (.func (.func k) #[] env) w fits) :
    Calls Try.prog 67 #[.pointer (some ⟨t, o, none⟩), .func (.func k) #[] env] w (Makes Try.prog t n w (textSp fits) (putS o)) := by
  have HO := Lib.hid ho
  have HT := Lib.hid ht
  have HF := Lib.hid hf
  clear ho ht hf
  go_enter Try.func67, Try.ntmps67
  go_wp2_with fail
  go_ret
  have b1 := (Below.refl w.heap.size w).alloc (Nat.le_refl _) (.cells #[.pointer (some ⟨t, o, none⟩)] 94)
  have b2 := b1.alloc b1.size (.cells #[.func (.func k) #[] env] 95)
  have := HT.out
  refine ⟨_, _, rfl, b2, fun f b wx hb hk hx => ⟨_, _, rfl, own_text, ?_⟩⟩
  refine text_walk t n o (w.heap.size + 1) w.heap.size _ fits w f b wx HO.out hb ((keep_of_below b2 (Nat.le_refl _) t).trans hk) hx HF.out ?_ ?_
  · exact keep_cell2 (cell_at _ _ _ _ (by simp)) (by omega) hk
  · exact keep_cell2 (cell_old (cell_at _ _ _ _ rfl)) (by omega) hk
set_option maxRecDepth 100000 in
theorem atmost_call (d : Nat) (p : Nat) (m : Int) (w : World) (hp : w.cell? ⟨p, 0, none⟩ = some (.int .i64 m)) :
    Calls Try.prog 88 #[.int .i64 (d : Int), .pointer (some ⟨p, 0, none⟩)] w fun e w' => e = .returned (.bool (decide ((d : Int) ≤ m))) ∧ w = w' := by
  go_enter Try.func88, Try.ntmps88
  go_wp2_with fail
  go_ret
  exact ⟨rfl, rfl⟩
/-- a closure that tells whether a length fits is made -/
def MakesFit (P : Program) (t : Nat) (w : World) (fits : Nat → Bool) (e : Ending) (w' : World) : Prop := ∃ k env, e = .returned (.func (.func k) #[] env) ∧ Below w.heap.size w w' ∧ FitsV P t (.func (.func k) #[] env) w' fits
set_option maxRecDepth 100000 in
theorem mk_atmost (t m : Nat) (w : World) (ht : t < w.heap.size) :
    Calls Try.prog 68 #[.int .i64 (m : Int)] w (MakesFit Try.prog t w fun d => decide (d ≤ m)) := by
  have HT := Lib.hid ht
  clear ht
  go_enter Try.func68, Try.ntmps68
  go_wp2_with fail
  go_ret
  have b1 := (Below.refl w.heap.size w).alloc (Nat.le_refl _) (.cells #[.int .i64 (m : Int)] 3)
  have := HT.out
  refine ⟨_, _, rfl, b1, fun d wx hk => ⟨_, _, rfl, own_atmost, ?_⟩⟩
  refine (atmost_call d w.heap.size m wx (keep_cell2 (cell_at _ _ _ _ rfl) (by omega) hk)).mono ?_
  rintro e w' ⟨rfl, rfl⟩
  exact ⟨by rw [show decide ((d : Int) ≤ (m : Int)) = decide (d ≤ m) by rw [decide_eq_decide]; omega], Below.refl _ _⟩
set_option maxRecDepth 100000 in
theorem mk_order (gc len cap : Nat) (w : World) :
    Calls Try.prog 65 #[.slice (some ⟨gc, 0, none⟩) len cap] w fun e w' => e = .returned (.func (.func 85) #[] #[.pointer (some ⟨w.heap.size, 0, none⟩)]) ∧ Below w.heap.size w w' ∧ w'.cell? ⟨w.heap.size, 0, none⟩ = some (.slice (some ⟨gc, 0, none⟩) len cap) := by
  go_enter Try.func65, Try.ntmps65
  go_wp2_with fail
  go_ret
  exact ⟨rfl, (Below.refl w.heap.size w).alloc (Nat.le_refl _) _, cell_at _ _ _ _ rfl⟩
theorem req_to (t o n gc bx cap : Nat) (W : World) {v1 v2 v3 : Value} (h1 : CutTo Try.prog t n v1 W (numSp 0 3) (putN o)) (h2 : CutTo Try.prog t n v2 W (numSp 1 2147483647) (putN (o + 1)))
    (h3 : CutTo Try.prog t n v3 W (textSp fun d => decide (d ≤ 40)) (putS (o + 2))) (hE : InRow gc [v1, v2, v3] W) (hb : W.cell? ⟨bx, 0, none⟩ = some (.slice (some ⟨gc, 0, none⟩) 3 cap)) (gt : gc ≠ t) (gl : gc < W.heap.size) (bt : bx ≠ t) :
    CutTo Try.prog t n (.func (.func 85) #[] #[.pointer (some ⟨bx, 0, none⟩)]) W reqSp (putReq o) := by
  intro f b w hs hk ht
  refine ⟨_, _, rfl, own_order, ?_⟩
  refine order_any [v1, v2, v3] bx gc cap _ b w (by simp) (keep_cell2 hb bt hk) (InRow_keep hE gt gl hk) ?_
  have hEk : ∀ w1, Keep t w w1 → InRow gc [v1, v2, v3] w1 := fun w1 h1 => InRow_keep hE gt gl (hk.trans h1)
  unfold reqSp
  refine order_cons h1 hs hk ht hEk (fun hno f' w1 c1 => ?_) (fun r1 d1 hy1 w1 c1 => ?_)
  · rw [hno]; exact ⟨rfl, f', c1⟩
  rw [hy1]
  have s1 := numSp_size hy1
  refine order_cons h2 (by omega) (hk.trans c1.1) c1.2 (fun w2 h2 => hEk w2 (c1.1.trans h2)) (fun hno f' w2 c2 => ?_) (fun r2 d2 hy2 w2 c2 => ?_)
  · dsimp only; rw [hno]; exact ⟨rfl, f', c1.1.trans c2.1, c2.2⟩
  dsimp only
  rw [hy2]
  have s2 := numSp_size hy2
  refine order_cons h3 (by omega) (hk.trans (c1.1.trans c2.1)) c2.2 (fun w3 h3 => hEk w3 ((c1.1.trans c2.1).trans h3)) (fun hno f' w3 c3 => ?_) (fun r3 d3 hy3 w3 c3 => ?_)
  · dsimp only; rw [hno]; exact ⟨rfl, f', (c1.1.trans c2.1).trans c3.1, c3.2⟩
  dsimp only
  rw [hy3]
  exact ⟨rfl, rfl, (c1.1.trans c2.1).trans c3.1, c3.2⟩
set_option maxRecDepth 100000 in
set_option maxHeartbeats 2000000 in
theorem mk_request (t o n : Nat) (w : World) (ho : o + 2 < n) (ht : t < w.heap.size) :
    Calls Try.prog 40 #[.pointer (some ⟨t, o, none⟩)] w (Makes Try.prog t n w reqSp (putReq o)) := by
  have HO := Lib.hid ho
  have HT := Lib.hid ht
  clear ho ht
  go_enter Try.func40, Try.ntmps40
  go_wp2_with fail
  have z0 : t < w.drew.heap.size := HT.out
  go_region_held3 (fun w' => t < w'.heap.size) (first | assumption | exact hk | (simp; omega))
    (first
      | (go_at_call 66; (fail_if_success have hx := HV1); refine (mk_num t _ n _ _ _ (by have := HO.out; omega) (by assumption)).mono ?_; rintro e w1 ⟨k1, env1, rfl, hb1, hv1⟩; have hk := Nat.lt_of_lt_of_le (by assumption : t < _) hb1.size; have HB1 := Lib.hid hb1; have HV1 := Lib.hid hv1; clear hb1 hv1)
      | (go_at_call 66; refine (mk_num t _ n _ _ _ (by have := HO.out; omega) (by assumption)).mono ?_; rintro e w2 ⟨k2, env2, rfl, hb2, hv2⟩; have hk := Nat.lt_of_lt_of_le (by assumption : t < _) hb2.size; have HB2 := Lib.hid hb2; have HV2 := Lib.hid hv2; clear hb2 hv2)
      | (go_at_call 68; refine (mk_atmost t 40 _ (by assumption)).mono ?_; rintro e w3 ⟨k3, env3, rfl, hb3, hv3⟩; have hk := Nat.lt_of_lt_of_le (by assumption : t < _) hb3.size; have HB3 := Lib.hid hb3; have HV3 := Lib.hid hv3; clear hb3 hv3)
      | (go_at_call 67; refine (mk_text t _ n _ _ _ _ (by have := HO.out; omega) (by assumption) HV3.out).mono ?_; rintro e w4 ⟨k4, env4, rfl, hb4, hv4⟩; have hk := Nat.lt_of_lt_of_le (by assumption : t < _) hb4.size; have HB4 := Lib.hid hb4; have HV4 := Lib.hid hv4; clear hb4 hv4)
      | (go_at_call 65; refine (mk_order _ _ _ _).mono ?_; rintro e w5 ⟨rfl, hb5, hv5⟩; have hk := Nat.lt_of_lt_of_le (by assumption : t < _) hb5.size; have HB5 := Lib.hid hb5; have HV5 := Lib.hid hv5; clear hb5 hv5))
  have B4 := HB4.out
  obtain ⟨W4, hW4⟩ : ∃ W4, W4 = w4.alloc (.cells #[.func (.func k1) #[] env1, .func (.func k2) #[] env2, .func (.func k4) #[] env4] 88) := ⟨_, rfl⟩
  rw [← hW4] at HB5 HV5
  have z4 : W4.heap.size = w4.heap.size + 1 := by rw [hW4]; simp
  have b4 : Below w4.heap.size w4 W4 := by rw [hW4]; exact (Below.refl _ _).alloc (Nat.le_refl _) _
  have hrow : InRow w4.heap.size [.func (.func k1) #[] env1, .func (.func k2) #[] env2, .func (.func k4) #[] env4] W4 := by
    rw [hW4]
    intro i hi
    match i, hi with
    | 0, _ => exact cell_new _ _ _ _ _ rfl
    | 1, _ => exact cell_new _ _ _ _ _ rfl
    | 2, _ => exact cell_new _ _ _ _ _ rfl
  have t4 : t < w4.heap.size := Nat.lt_of_lt_of_le HT.out (Nat.le_trans HB1.out.size (Nat.le_trans HB2.out.size (Nat.le_trans HB3.out.size HB4.out.size)))
  have k5 : Keep t W4 w5 := keep_of_below HB5.out (Nat.le_refl _) t
  have k4' : Keep t w4 w5 := (keep_of_below b4 (Nat.le_refl _) t).trans k5
  have k3' : Keep t w3 w5 := (keep_of_below HB4.out (Nat.le_refl _) t).trans k4'
  have k2' : Keep t w2 w5 := (keep_of_below HB3.out (Nat.le_refl _) t).trans k3'
  have k1' : Keep t w1 w5 := (keep_of_below HB2.out (Nat.le_refl _) t).trans k2'
  have hto := Lib.hid (req_to t o n w4.heap.size W4.heap.size 3 w5 (HV1.out.later k1') (HV2.out.later k2') (HV4.out.later k4') (InRow_keep hrow (by omega) (by omega) k5) HV5.out (by omega) (by have := HB5.out.size; omega) (by omega))
  have hbel : Hid (Below w.heap.size w w5) := by
    have e0 : Below w.heap.size w w.drew := (Below.refl _ _).drew
    have e1 := e0.trans HB1.out
    have e2 := e1.trans (HB2.out.mono e1.size)
    have e3 := e2.trans (HB3.out.mono e2.size)
    have e4 := e3.trans (HB4.out.mono e3.size)
    have e5 := e4.trans (b4.mono e4.size)
    exact e5.trans (HB5.out.mono e5.size)
  rw [z4] at hto
  clear hrow k5 k4' k3' k2' k1' hW4 b4 B4
  go_wp2_with fail
  go_ret
  exact ⟨_, _, rfl, hbel.out, hto.out⟩
end Go.Proofs.Ytacnbpmoceocbaa
end
