/-
  The walk of the reference's FewSig.
-/
import Derived.Test.YthajnkcipifhcaaGreatDoorKWNumCut
import Derived.Deep.RegionHeld3
section
open Go Go.RowKit
namespace WW
theorem be4_size (n : Nat) : (be4 n).size = 4 := rfl
theorem num_size (n : Int) : (num n).size = 4 := rfl
/-- a text's bytes -/
def txt (s : ByteArray) : ByteArray := num (s.size : Int) ++ s
theorem txt_size (s : ByteArray) : (txt s).size = 4 + s.size := by simp [txt, num_size]
/-- a request's bytes -/
def reqB (c q : Int) (b : ByteArray) : ByteArray := num c ++ num q ++ txt b
theorem reqB_size (c q : Int) (b : ByteArray) : (reqB c q b).size = 12 + b.size := by
  simp only [reqB, ByteArray.size_append, num_size, txt_size]; omega
theorem keep3 {w W w1 : World} {g : Nat} {v0 v1 v2 : Value} {B : Nat} (h : W.cell? ⟨g, 0, none⟩ = some v0 ∧ W.cell? ⟨g, 1, none⟩ = some v1 ∧ W.cell? ⟨g, 2, none⟩ = some v2 ∧ Below B w W ∧ B ≤ W.heap.size) (hb : Below W.heap.size W w1) :
    w1.cell? ⟨g, 0, none⟩ = some v0 ∧ w1.cell? ⟨g, 1, none⟩ = some v1 ∧ w1.cell? ⟨g, 2, none⟩ = some v2 ∧ Below B w w1 ∧ B ≤ w1.heap.size := by
  have hl := World.block_lt_of_cell? W _ h.1
  exact ⟨(hb.cell (p := ⟨g, 0, none⟩) hl).trans h.1, (hb.cell (p := ⟨g, 1, none⟩) hl).trans h.2.1, (hb.cell (p := ⟨g, 2, none⟩) hl).trans h.2.2.1, h.2.2.2.1.trans (hb.mono h.2.2.2.2), Nat.le_trans h.2.2.2.2 hb.size⟩
theorem start3 {w W : World} {g : Nat} {v0 v1 v2 : Value} {B : Nat} (h0 : W.cell? ⟨g, 0, none⟩ = some v0) (h1 : W.cell? ⟨g, 1, none⟩ = some v1) (h2 : W.cell? ⟨g, 2, none⟩ = some v2) (hb : Below B w W) (hB : B ≤ W.heap.size) :
    W.drew.cell? ⟨g, 0, none⟩ = some v0 ∧ W.drew.cell? ⟨g, 1, none⟩ = some v1 ∧ W.drew.cell? ⟨g, 2, none⟩ = some v2 ∧ Below B w W.drew ∧ B ≤ W.drew.heap.size := ⟨h0, h1, h2, hb.drew, hB⟩
end WW
namespace Go.Proofs.YthajnkcipifhcaaGreatDoor
open WW
set_option maxRecDepth 100000 in
set_option maxHeartbeats 1000000 in
theorem text_any (s : ByteArray) (hs : s.size ≤ 1000000) (w : World) :
    Calls Tryz.prog 104 #[.string s] w fun e w' => e = .returned (.string (txt s)) ∧ Below w.heap.size w w' := by
  have hno : ¬ 9223372036854775807 < (num (s.size : Int)).size + s.size := by rw [num_size]; omega
  clear hs
  go_enter Tryz.func104, Tryz.ntmps104
  go_wp2_with fail
  refine (number_any _ _).mono ?_
  rintro e w1 ⟨rfl, hb1⟩
  go_wp2_with fail
  go_ret
  exact ⟨rfl, hb1⟩
set_option maxRecDepth 100000 in
set_option maxHeartbeats 1000000 in
theorem rtext_any (s : ByteArray) (hs : s.size ≤ 1000000) (w : World) :
    Calls Tryz.prog 105 #[.string s] w fun e w' => e = .returned (.string (txt s)) ∧ Below w.heap.size w w' := by
  have hno : ¬ 9223372036854775807 < (num (s.size : Int)).size + s.size := by rw [num_size]; omega
  clear hs
  go_enter Tryz.func105, Tryz.ntmps105
  go_wp2_with fail
  refine (rnumber_any _ _).mono ?_
  rintro e w1 ⟨rfl, hb1⟩
  go_wp2_with fail
  go_ret
  exact ⟨rfl, hb1⟩
set_option maxRecDepth 100000 in
set_option maxHeartbeats 2000000 in
theorem request_any (c q : Int) (b : ByteArray) (hb : b.size ≤ 1000000) (w : World) :
    Calls Tryz.prog 61 #[.agg #[.int .i64 c, .int .i64 q, .string b]] w fun e w' => e = .returned (.string (reqB c q b)) ∧ Below w.heap.size w w' := by
  have h1 : ¬ 9223372036854775807 < (num c).size + (num q).size := by rw [num_size, num_size]; omega
  have h2 : ¬ 9223372036854775807 < (num c).size + (num q).size + (txt b).size := by rw [num_size, num_size, txt_size]; omega
  have HB := Lib.hid hb
  clear hb
  go_enter Tryz.func61, Tryz.ntmps61
  go_wp2_with fail
  have c0 := cell_new w #[.int .i64 c, .int .i64 q, .string b] 41 0 _ rfl
  have c1 := cell_new w #[.int .i64 c, .int .i64 q, .string b] 41 1 _ rfl
  have c2 := cell_new w #[.int .i64 c, .int .i64 q, .string b] 41 2 _ rfl
  have b0 : Below w.heap.size w (w.alloc (.cells #[.int .i64 c, .int .i64 q, .string b] 41)) := (Below.refl _ _).alloc (Nat.le_refl _) _
  generalize w.alloc (.cells #[.int .i64 c, .int .i64 q, .string b] 41) = w0 at *
  have z0 := b0.size
  generalize hg : w.heap.size = g at *
  have HG := Lib.hid hg
  clear hg
  have hst := start3 c0 c1 c2 b0 z0
  go_region_held3 (fun w' => w'.cell? ⟨g, 0, none⟩ = some (.int .i64 c) ∧ w'.cell? ⟨g, 1, none⟩ = some (.int .i64 q) ∧ w'.cell? ⟨g, 2, none⟩ = some (.string b) ∧ Below g w w' ∧ g ≤ w'.heap.size)
    (first | exact hst | exact hk)
    (first
      | (go_at_call 60; refine (number_any _ _).mono ?_; rintro e w1 ⟨rfl, hb1⟩; have hk := keep3 (w := w) (g := g) (v0 := .int .i64 c) (v1 := .int .i64 q) (v2 := .string b) (B := g) (by assumption) hb1)
      | (go_at_call 104; refine (text_any _ HB.out _).mono ?_; rintro e w1 ⟨rfl, hb1⟩; have hk := keep3 (w := w) (g := g) (v0 := .int .i64 c) (v1 := .int .i64 q) (v2 := .string b) (B := g) (by assumption) hb1))
  go_wp2_with fail
  go_ret
  exact ⟨rfl, by rw [HG.out]; exact hk.2.2.2.1⟩
set_option maxRecDepth 100000 in
set_option maxHeartbeats 2000000 in
theorem rrequest_any (c q : Int) (b : ByteArray) (hb : b.size ≤ 1000000) (w : World) :
    Calls Tryz.prog 63 #[.agg #[.int .i64 c, .int .i64 q, .string b]] w fun e w' => e = .returned (.string (reqB c q b)) ∧ Below w.heap.size w w' := by
  have h1 : ¬ 9223372036854775807 < (num c).size + (num q).size := by rw [num_size, num_size]; omega
  have h2 : ¬ 9223372036854775807 < (num c).size + (num q).size + (txt b).size := by rw [num_size, num_size, txt_size]; omega
  have HB := Lib.hid hb
  clear hb
  go_enter Tryz.func63, Tryz.ntmps63
  go_wp2_with fail
  have c0 := cell_new w #[.int .i64 c, .int .i64 q, .string b] 41 0 _ rfl
  have c1 := cell_new w #[.int .i64 c, .int .i64 q, .string b] 41 1 _ rfl
  have c2 := cell_new w #[.int .i64 c, .int .i64 q, .string b] 41 2 _ rfl
  have b0 : Below w.heap.size w (w.alloc (.cells #[.int .i64 c, .int .i64 q, .string b] 41)) := (Below.refl _ _).alloc (Nat.le_refl _) _
  generalize w.alloc (.cells #[.int .i64 c, .int .i64 q, .string b] 41) = w0 at *
  have z0 := b0.size
  generalize hg : w.heap.size = g at *
  have HG := Lib.hid hg
  clear hg
  have hst := start3 c0 c1 c2 b0 z0
  go_region_held3 (fun w' => w'.cell? ⟨g, 0, none⟩ = some (.int .i64 c) ∧ w'.cell? ⟨g, 1, none⟩ = some (.int .i64 q) ∧ w'.cell? ⟨g, 2, none⟩ = some (.string b) ∧ Below g w w' ∧ g ≤ w'.heap.size)
    (first | exact hst | exact hk)
    (first
      | (go_at_call 62; refine (rnumber_any _ _).mono ?_; rintro e w1 ⟨rfl, hb1⟩; have hk := keep3 (w := w) (g := g) (v0 := .int .i64 c) (v1 := .int .i64 q) (v2 := .string b) (B := g) (by assumption) hb1)
      | (go_at_call 105; refine (rtext_any _ HB.out _).mono ?_; rintro e w1 ⟨rfl, hb1⟩; have hk := keep3 (w := w) (g := g) (v0 := .int .i64 c) (v1 := .int .i64 q) (v2 := .string b) (B := g) (by assumption) hb1))
  go_wp2_with fail
  go_ret
  exact ⟨rfl, by rw [HG.out]; exact hk.2.2.2.1⟩
end Go.Proofs.YthajnkcipifhcaaGreatDoor
end
section
open Go Go.RowKit
namespace WW
open BB
/-- a signature of a size that is looked at -/
def fewSig (ts : List ByteArray) : Bool := (ts.take 20).all (fun t => decide (t.size ≤ 30)) && decide (ts.length ≤ 10)
theorem all_take_snoc {α : Type} (p : α → Bool) (l : List α) (d : α) (i : Nat) (h : i < l.length) : (l.take (i + 1)).all p = ((l.take i).all p && p (l.getD i d)) := by
  rw [List.take_succ_eq_append_getElem h, List.all_append]
  simp [List.getD, List.getElem?_eq_getElem h]
theorem all_take_mono {α : Type} (p : α → Bool) (l : List α) (i j : Nat) (h : i ≤ j) (hf : (l.take i).all p = false) : (l.take j).all p = false := by
  rw [show i = min i j by omega, ← List.take_take] at hf
  rw [List.all_eq_false] at hf ⊢
  obtain ⟨x, hx, hp⟩ := hf
  exact ⟨x, List.mem_of_mem_take hx, hp⟩
end WW
namespace Go.Proofs.YthajnkcipifhcaaGreatDoor
open WW BB
set_option maxRecDepth 100000 in
set_option maxHeartbeats 2000000 in
theorem fewsig_any (f : Int) (tv : Value) (ts : List ByteArray) (w : World) (hv : StrsAt w tv ts) (hn : ts.length ≤ 9223372036854775807) :
    Calls Tryz.prog 58 #[.agg #[.int .i64 f, tv]] w fun e w' => e = .returned (.bool (fewSig ts)) ∧ Below w.heap.size w w' := by
  obtain ⟨X, hX⟩ : ∃ X, fewSig ts = X := ⟨_, rfl⟩
  rw [hX]
  have HX := Lib.hid hX
  have HV := Lib.hid hv
  have HN := Lib.hid hn
  obtain ⟨a0, cap, rfl, hx⟩ := hv
  clear hn hx hX
  go_enter Tryz.func58, Tryz.ntmps58
  go_wp2_with fail
  have c1 := cell_new w #[.int .i64 f, .slice a0 ts.length cap] 39 1 _ rfl
  have b0 : Below w.heap.size w (w.alloc (.cells #[.int .i64 f, .slice a0 ts.length cap] 39)) := (Below.refl _ _).alloc (Nat.le_refl _) _
  generalize w.alloc (.cells #[.int .i64 f, .slice a0 ts.length cap] 39) = w0 at *
  have B0 := Lib.hid b0
  obtain ⟨g, hg⟩ : ∃ g, w.heap.size = g := ⟨_, rfl⟩
  rw [hg] at c1 ⊢
  clear b0 hg
  go_loop [3] (fun v => ∃ i : Nat, i ≤ ts.length ∧ i ≤ 20 ∧ v = .int .i64 (i : Int) ∧ (ts.take i).all (fun t => decide (t.size ≤ 30)) = true) (fun v => ts.length - (intOf v).toNat)
  case atStart => exact ⟨0, Nat.zero_le _, by omega, rfl, rfl⟩
  case round =>
    obtain ⟨i, hi, h20, rfl, hall⟩ := hrel
    have HALL := Lib.hid hall
    have i0 : (0 : Int) ≤ (i : Int) := by omega
    have ib : (i : Int) ≤ 20 := by omega
    clear hall
    by_cases hlt : i < ts.length
    · have hlt' : (i : Int) < (ts.length : Int) := by omega
      by_cases h2 : i < 20
      · have h2' : (i : Int) < 20 := by omega
        obtain ⟨a1, cap1, he, hv | ⟨gb, off, rfl, hbw, hcell⟩⟩ := HV.out
        · rw [hv] at hlt; simp at hlt
        injection he with e1 _ e3
        subst e1 e3
        have hcl := (B0.out.cell (p := ⟨gb, off + i, none⟩) hbw).trans (hcell i hlt)
        have HSN := Lib.hid (all_take_snoc (fun t : ByteArray => decide (t.size ≤ 30)) ts ⟨#[]⟩ i hlt)
        obtain ⟨s, hs⟩ : ∃ s, ts.getD i ⟨#[]⟩ = s := ⟨_, rfl⟩
        rw [hs] at hcl HSN
        have HLT := Lib.hid hlt
        have H2 := Lib.hid h2
        clear hs hlt h2 hi h20 hcell hbw
        by_cases h30 : s.size ≤ 30
        · have t1 : ¬ (30 : Int) < (s.size : Int) := by omega
          have H30 := Lib.hid h30
          clear h30
          go_wp2_with fail
          go_round
          case rel => exact ⟨i + 1, by have := HLT.out; omega, by have := H2.out; omega, by go_num, by rw [HSN.out, HALL.out]; simpa using H30.out⟩
          case measure => have := HLT.out; simp [intOf]; omega
        · have t1 : (30 : Int) < (s.size : Int) := by omega
          have H30 := Lib.hid h30
          clear h30
          go_wp2_with fail
          go_ret
          refine ⟨?_, B0.out⟩
          rw [← HX.out]
          have h1 := HSN.out
          rw [show decide (s.size ≤ 30) = false by simpa using H30.out, Bool.and_false] at h1
          have h2 := all_take_mono _ ts (i + 1) 20 (by have := H2.out; omega) h1
          unfold fewSig
          rw [h2]; rfl
      · obtain rfl : i = 20 := by omega
        have h2' : ¬ ((20 : Nat) : Int) < 20 := by omega
        have H20 := Lib.hid hlt
        clear h2 hi h20 hlt
        have hl10 : ¬ (ts.length : Int) ≤ 10 := by have := H20.out; omega
        go_wp2_with fail
        go_ret
        refine ⟨?_, B0.out⟩
        rw [← HX.out]
        unfold fewSig
        rw [show decide (ts.length ≤ 10) = false by have := H20.out; simp; omega, Bool.and_false]
        rfl
    · obtain rfl : i = ts.length := by omega
      have hlt' : ¬ (ts.length : Int) < (ts.length : Int) := by omega
      rw [List.take_length] at HALL
      by_cases h10 : ts.length ≤ 10
      · have t1 : (ts.length : Int) ≤ 10 := by omega
        have H10 := Lib.hid h10
        clear hlt hi h20 h10
        go_wp2_with fail
        go_ret
        refine ⟨?_, B0.out⟩
        rw [← HX.out]
        unfold fewSig
        rw [List.take_of_length_le (by have := H10.out; omega), HALL.out, show decide (ts.length ≤ 10) = true by simpa using H10.out]
        rfl
      · have t1 : ¬ (ts.length : Int) ≤ 10 := by omega
        have H10 := Lib.hid h10
        clear hlt hi h20 h10
        go_wp2_with fail
        go_ret
        refine ⟨?_, B0.out⟩
        rw [← HX.out]
        unfold fewSig
        rw [show decide (ts.length ≤ 10) = false by simpa using H10.out, Bool.and_false]
        rfl
end Go.Proofs.YthajnkcipifhcaaGreatDoor
end
