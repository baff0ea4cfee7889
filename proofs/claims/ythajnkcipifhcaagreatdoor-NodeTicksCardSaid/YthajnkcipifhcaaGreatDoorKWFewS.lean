/-
  The walk of the reference's FewSig.
-/
import Derived.Test.YthajnkcipifhcaaGreatDoorKWNumCut
import Derived.Deep.RegionHeld3
section
open Go Go.RowKit
namespace WW
theorem be4_size (n : Nat) : (be4 n).size = 4 := rfl
theorem num_size (n : Int) : (num n).size = 4 := rfl
/-- a text's bytes -/
def txt (s : ByteArray) : ByteArray := num (s.size : Int) ++ s
theorem txt_size (s : ByteArray) : (txt s).size = 4 + s.size := by simp [txt, num_size]
/-- a request's bytes -/
def reqB (c q : Int) (b : ByteArray) : ByteArray := num c ++ num q ++ txt b
theorem reqB_size (c q : Int) (b : ByteArray) : (reqB c q b).size = 12 + b.size := by
  simp only [reqB, ByteArray.size_append, num_size, txt_size]; omega
theorem keep3 {w W w1 : World} {g : Nat} {v0 v1 v2 : Value} {B : Nat} (h : W.cell? ⟨g, 0, none⟩ = some v0 ∧ W.cell? ⟨g, 1, none⟩ = some v1 ∧ W.cell? ⟨g, 2, none⟩ = some v2 ∧ Below B w W ∧ B ≤ W.heap.size) (hb : Below W.heap.size W w1) :
    w1.cell? ⟨g, 0, none⟩ = some v0 ∧ w1.cell? ⟨g, 1, none⟩ = some v1 ∧ w1.cell? ⟨g, 2, none⟩ = some v2 ∧ Below B w w1 ∧ B ≤ w1.heap.size := by
  have hl := World.block_lt_of_cell? W _ h.1
  exact ⟨(hb.cell (p := ⟨g, 0, none⟩) hl).trans h.1, (hb.cell (p := ⟨g, 1, none⟩) hl).trans h.2.1, (hb.cell (p := ⟨g, 2, none⟩) hl).trans h.2.2.1, h.2.2.2.1.trans (hb.mono h.2.2.2.2), Nat.le_trans h.2.2.2.2 hb.size⟩
theorem start3 {w W : World} {g : Nat} {v0 v1 v2 : Value} {B : Nat} (h0 : W.cell? ⟨g, 0, none⟩ = some v0) (h1 : W.cell? ⟨g, 1, none⟩ = some v1) (h2 : W.cell? ⟨g, 2, none⟩ = some v2) (hb : Below B w W) (hB : B ≤ W.heap.size) :
    W.drew.cell? ⟨g, 0, none⟩ = some v0 ∧ W.drew.cell? ⟨g, 1, none⟩ = some v1 ∧ W.drew.cell? ⟨g, 2, none⟩ = some v2 ∧ Below B w W.drew ∧ B ≤ W.drew.heap.size := ⟨h0, h1, h2, hb.drew, hB⟩
end WW
namespace Go.Proofs.YthajnkcipifhcaaGreatDoor
open WW
set_option maxRecDepth 100000 in
set_option maxHeartbeats 1000000 in
theorem text_any (s : ByteArray) (hs : s.size ≤ 1000000) (w : World) :
    Calls Tryz.prog 104 #[.string s] w fun e w' => e = .returned (.string (txt s)) ∧ Below w.heap.size w w' := by
  have hno : ¬ 9223372036854775807 < (num (s.size : Int)).size + s.size := by rw [num_size]; omega
  clear hs
  go_enter Tryz.func104, Tryz.ntmps104
  go_wp2_with fail
  refine (number_any _ _).mono ?_
  rintro e w1 ⟨rfl, hb1⟩
  go_wp2_with fail
  go_ret
  exact ⟨rfl, hb1⟩
set_option maxRecDepth 100000 in
set_option maxHeartbeats 2000000 in
theorem request_any (c q : Int) (b : ByteArray) (hb : b.size ≤ 1000000) (w : World) :
    Calls Tryz.prog 61 #[.agg #[.int .i64 c, .int .i64 q, .string b]] w fun e w' => e = .returned (.string (reqB c q b)) ∧ Below w.heap.size w w' := by
  have h1 : ¬ 9223372036854775807 < (num c).size + (num q).size := by rw [num_size, num_size]; omega
  have h2 : ¬ 9223372036854775807 < (num c).size + (num q).size + (txt b).size := by rw [num_size, num_size, txt_size]; omega
  have HB := Lib.hid hb
  clear hb
  go_enter Tryz.func61, Tryz.ntmps61
  go_wp2_with fail
  have c0 := cell_new w #[.int .i64 c, .int .i64 q, .string b] 41 0 _ rfl
  have c1 := cell_new w #[.int .i64 c, .int .i64 q, .string b] 41 1 _ rfl
  have c2 := cell_new w #[.int .i64 c, .int .i64 q, .string b] 41 2 _ rfl
  have b0 : Below w.heap.size w (w.alloc (.cells #[.int .i64 c, .int .i64 q, .string b] 41)) := (Below.refl _ _).alloc (Nat.le_refl _) _
  generalize w.alloc (.cells #[.int .i64 c, .int .i64 q, .string b] 41) = w0 at *
  have z0 := b0.size
  generalize hg : w.heap.size = g at *
  have HG := Lib.hid hg
  clear hg
  have hst := start3 c0 c1 c2 b0 z0
  go_region_held3 (fun w' => w'.cell? ⟨g, 0, none⟩ = some (.int .i64 c) ∧ w'.cell? ⟨g, 1, none⟩ = some (.int .i64 q) ∧ w'.cell? ⟨g, 2, none⟩ = some (.string b) ∧ Below g w w' ∧ g ≤ w'.heap.size)
    (first | exact hst | exact hk)
    (first
      | (go_at_call 60; refine (number_any _ _).mono ?_; rintro e w1 ⟨rfl, hb1⟩; have hk := keep3 (w := w) (g := g) (v0 := .int .i64 c) (v1 := .int .i64 q) (v2 := .string b) (B := g) (by assumption) hb1)
      | (go_at_call 104; refine (text_any _ HB.out _).mono ?_; rintro e w1 ⟨rfl, hb1⟩; have hk := keep3 (w := w) (g := g) (v0 := .int .i64 c) (v1 := .int .i64 q) (v2 := .string b) (B := g) (by assumption) hb1))
  go_wp2_with fail
  go_ret
  exact ⟨rfl, by rw [HG.out]; exact hk.2.2.2.1⟩
end Go.Proofs.YthajnkcipifhcaaGreatDoor
end
section
open Go Go.RowKit
namespace WW
open BB
/-- a signature of a size that is looked at -/
def fewSig (ts : List ByteArray) : Bool := (ts.take 20).all (fun t => decide (t.size ≤ 30)) && decide (ts.length ≤ 10)
theorem all_take_snoc {α : Type} (p : α → Bool) (l : List α) (d : α) (i : Nat) (h : i < l.length) : (l.take (i + 1)).all p = ((l.take i).all p && p (l.getD i d)) := by
  rw [List.take_succ_eq_append_getElem h, List.all_append]
  simp [List.getD, List.getElem?_eq_getElem h]
theorem all_take_mono {α : Type} (p : α → Bool) (l : List α) (i j : Nat) (h : i ≤ j) (hf : (l.take i).all p = false) : (l.take j).all p = false := by
  rw [show i = min i j by omega, ← List.take_take] at hf
  rw [List.all_eq_false] at hf ⊢
  obtain ⟨x, hx, hp⟩ := hf
  exact ⟨x, List.mem_of_mem_take hx, hp⟩
end WW
namespace Go.Proofs.YthajnkcipifhcaaGreatDoor
open WW BB
end Go.Proofs.YthajnkcipifhcaaGreatDoor
end
