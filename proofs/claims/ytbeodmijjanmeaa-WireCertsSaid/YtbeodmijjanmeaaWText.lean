/-
  Texts and requests as bytes: the code's, and the reference's.
-/
import Derived.Test.YtbeodmijjanmeaaWNum
import Derived.Deep.RegionHeld3
open Go Go.RowKit
namespace WW
theorem be4_size (n : Nat) : (be4 n).size = 4 := rfl
theorem num_size (n : Int) : (num n).size = 4 := rfl
/-- a text's bytes -/
def txt (s : ByteArray) : ByteArray := num (s.size : Int) ++ s
theorem txt_size (s : ByteArray) : (txt s).size = 4 + s.size := by simp [txt, num_size]
/-- a request's bytes -/
def reqB (c q : Int) (b : ByteArray) : ByteArray := num c ++ num q ++ txt b
theorem reqB_size (c q : Int) (b : ByteArray) : (reqB c q b).size = 12 + b.size := by
  simp only [reqB, ByteArray.size_append, num_size, txt_size]; omega
/-- three cells of block g, and what lay below B as it was -/
def At3 (w : World) (B g : Nat) (v0 v1 v2 : Value) (W : World) : Prop := W.cell? ⟨g, 0, none⟩ = some v0 ∧ W.cell? ⟨g, 1, none⟩ = some v1 ∧ W.cell? ⟨g, 2, none⟩ = some v2 ∧ Below B w W ∧ B ≤ W.heap.size
theorem keep3 {w W w1 : World} {g : Nat} {v0 v1 v2 : Value} {B : Nat} (h : W.cell? ⟨g, 0, none⟩ = some v0 ∧ W.cell? ⟨g, 1, none⟩ = some v1 ∧ W.cell? ⟨g, 2, none⟩ = some v2 ∧ Below B w W ∧ B ≤ W.heap.size) (hb : Below W.heap.size W w1) :
    w1.cell? ⟨g, 0, none⟩ = some v0 ∧ w1.cell? ⟨g, 1, none⟩ = some v1 ∧ w1.cell? ⟨g, 2, none⟩ = some v2 ∧ Below B w w1 ∧ B ≤ w1.heap.size := by
  have hl := World.block_lt_of_cell? W _ h.1
  exact ⟨(hb.cell (p := ⟨g, 0, none⟩) hl).trans h.1, (hb.cell (p := ⟨g, 1, none⟩) hl).trans h.2.1, (hb.cell (p := ⟨g, 2, none⟩) hl).trans h.2.2.1, h.2.2.2.1.trans (hb.mono h.2.2.2.2), Nat.le_trans h.2.2.2.2 hb.size⟩
theorem start3 {w W : World} {g : Nat} {v0 v1 v2 : Value} {B : Nat} (h0 : W.cell? ⟨g, 0, none⟩ = some v0) (h1 : W.cell? ⟨g, 1, none⟩ = some v1) (h2 : W.cell? ⟨g, 2, none⟩ = some v2) (hb : Below B w W) (hB : B ≤ W.heap.size) :
    W.drew.cell? ⟨g, 0, none⟩ = some v0 ∧ W.drew.cell? ⟨g, 1, none⟩ = some v1 ∧ W.drew.cell? ⟨g, 2, none⟩ = some v2 ∧ Below B w W.drew ∧ B ≤ W.drew.heap.size := ⟨h0, h1, h2, hb.drew, hB⟩
/-- a request as a value -/
def reqV (c q : Int) (b : ByteArray) : Value := .agg #[.int .i64 c, .int .i64 q, .string b]
end WW
namespace Go.Proofs.Ytbeodmijjanmeaa
open WW
set_option maxRecDepth 100000 in
set_option maxHeartbeats 1000000 in
theorem text_any (s : ByteArray) (hs : s.size ≤ 1000000) (w : World) :
    Calls Try.prog 12 #[.string s] w fun e w' => e = .returned (.string (txt s)) ∧ Below w.heap.size w w' := by
  have hno : ¬ 9223372036854775807 < (num (s.size : Int)).size + s.size := by rw [num_size]; omega
  clear hs
  go_enter Try.func12, Try.ntmps12
  go_wp2_with fail
  refine (number_any _ _).mono ?_
  rintro e w1 ⟨rfl, hb1⟩
  go_wp2_with fail
  go_ret
  exact ⟨rfl, hb1⟩
set_option maxRecDepth 100000 in
set_option maxHeartbeats 1000000 in
theorem rtext_any (s : ByteArray) (hs : s.size ≤ 1000000) (w : World) :
    Calls Try.prog 13 #[.string s] w fun e w' => e = .returned (.string (txt s)) ∧ Below w.heap.size w w' := by
  have hno : ¬ 9223372036854775807 < (num (s.size : Int)).size + s.size := by rw [num_size]; omega
  clear hs
  go_enter Try.func13, Try.ntmps13
  go_wp2_with fail
  refine (rnumber_any _ _).mono ?_
  rintro e w1 ⟨rfl, hb1⟩
  go_wp2_with fail
  go_ret
  exact ⟨rfl, hb1⟩
set_option maxRecDepth 100000 in
set_option maxHeartbeats 2000000 in
theorem request_any (c q : Int) (b : ByteArray) (hb : b.size ≤ 1000000) (w : World) :
    Calls Try.prog 18 #[.agg #[.int .i64 c, .int .i64 q, .string b]] w fun e w' => e = .returned (.string (reqB c q b)) ∧ Below w.heap.size w w' := by
  have h1 : ¬ 9223372036854775807 < (num c).size + (num q).size := by rw [num_size, num_size]; omega
  have h2 : ¬ 9223372036854775807 < (num c).size + (num q).size + (txt b).size := by rw [num_size, num_size, txt_size]; omega
  have HB := Lib.hid hb
  clear hb
  go_enter Try.func18, Try.ntmps18
  go_wp2_with fail
  have c0 := cell_new w #[.int .i64 c, .int .i64 q, .string b] 34 0 _ rfl
  have c1 := cell_new w #[.int .i64 c, .int .i64 q, .string b] 34 1 _ rfl
  have c2 := cell_new w #[.int .i64 c, .int .i64 q, .string b] 34 2 _ rfl
  have b0 : Below w.heap.size w (w.alloc (.cells #[.int .i64 c, .int .i64 q, .string b] 34)) := (Below.refl _ _).alloc (Nat.le_refl _) _
  generalize w.alloc (.cells #[.int .i64 c, .int .i64 q, .string b] 34) = w0 at *
  have z0 := b0.size
  generalize hg : w.heap.size = g at *
  have HG := Lib.hid hg
  clear hg
  have hst := start3 c0 c1 c2 b0 z0
  go_region_held3 (fun w' => w'.cell? ⟨g, 0, none⟩ = some (.int .i64 c) ∧ w'.cell? ⟨g, 1, none⟩ = some (.int .i64 q) ∧ w'.cell? ⟨g, 2, none⟩ = some (.string b) ∧ Below g w w' ∧ g ≤ w'.heap.size)
    (first | exact hst | exact hk)
    (first
      | (go_at_call 10; refine (number_any _ _).mono ?_; rintro e w1 ⟨rfl, hb1⟩; have hk := keep3 (w := w) (g := g) (v0 := .int .i64 c) (v1 := .int .i64 q) (v2 := .string b) (B := g) (by assumption) hb1)
      | (go_at_call 12; refine (text_any _ HB.out _).mono ?_; rintro e w1 ⟨rfl, hb1⟩; have hk := keep3 (w := w) (g := g) (v0 := .int .i64 c) (v1 := .int .i64 q) (v2 := .string b) (B := g) (by assumption) hb1))
  go_wp2_with fail
  go_ret
  exact ⟨rfl, by rw [HG.out]; exact hk.2.2.2.1⟩
set_option maxRecDepth 100000 in
set_option maxHeartbeats 2000000 in
theorem rrequest_any (c q : Int) (b : ByteArray) (hb : b.size ≤ 1000000) (w : World) :
    Calls Try.prog 20 #[.agg #[.int .i64 c, .int .i64 q, .string b]] w fun e w' => e = .returned (.string (reqB c q b)) ∧ Below w.heap.size w w' := by
  have h1 : ¬ 9223372036854775807 < (num c).size + (num q).size := by rw [num_size, num_size]; omega
  have h2 : ¬ 9223372036854775807 < (num c).size + (num q).size + (txt b).size := by rw [num_size, num_size, txt_size]; omega
  have HB := Lib.hid hb
  clear hb
  go_enter Try.func20, Try.ntmps20
  go_wp2_with fail
  have c0 := cell_new w #[.int .i64 c, .int .i64 q, .string b] 34 0 _ rfl
  have c1 := cell_new w #[.int .i64 c, .int .i64 q, .string b] 34 1 _ rfl
  have c2 := cell_new w #[.int .i64 c, .int .i64 q, .string b] 34 2 _ rfl
  have b0 : Below w.heap.size w (w.alloc (.cells #[.int .i64 c, .int .i64 q, .string b] 34)) := (Below.refl _ _).alloc (Nat.le_refl _) _
  generalize w.alloc (.cells #[.int .i64 c, .int .i64 q, .string b] 34) = w0 at *
  have z0 := b0.size
  generalize hg : w.heap.size = g at *
  have HG := Lib.hid hg
  clear hg
  have hst := start3 c0 c1 c2 b0 z0
  go_region_held3 (fun w' => w'.cell? ⟨g, 0, none⟩ = some (.int .i64 c) ∧ w'.cell? ⟨g, 1, none⟩ = some (.int .i64 q) ∧ w'.cell? ⟨g, 2, none⟩ = some (.string b) ∧ Below g w w' ∧ g ≤ w'.heap.size)
    (first | exact hst | exact hk)
    (first
      | (go_at_call 14; refine (rnumber_any _ _).mono ?_; rintro e w1 ⟨rfl, hb1⟩; have hk := keep3 (w := w) (g := g) (v0 := .int .i64 c) (v1 := .int .i64 q) (v2 := .string b) (B := g) (by assumption) hb1)
      | (go_at_call 13; refine (rtext_any _ HB.out _).mono ?_; rintro e w1 ⟨rfl, hb1⟩; have hk := keep3 (w := w) (g := g) (v0 := .int .i64 c) (v1 := .int .i64 q) (v2 := .string b) (B := g) (by assumption) hb1))
  go_wp2_with fail
  go_ret
  exact ⟨rfl, by rw [HG.out]; exact hk.2.2.2.1⟩
set_option maxRecDepth 100000 in
theorem awake_any (w : World) :
    Calls Try.prog 11 #[] w fun e w' => e = .returned (.bool true) ∧ Below w.heap.size w w' := by
  have he : reqB 1 2 ⟨#[97]⟩ = ⟨#[0, 0, 0, 1, 0, 0, 0, 2, 0, 0, 0, 1, 97]⟩ := by decide +kernel
  go_enter Try.func11, Try.ntmps11
  go_wp2_with fail
  refine (request_any 1 2 ⟨#[97]⟩ (by decide) _).mono ?_
  rintro e w1 ⟨rfl, hb1⟩
  rw [he]
  go_wp2_with fail
  go_ret
  exact ⟨rfl, hb1⟩
end Go.Proofs.Ytbeodmijjanmeaa
