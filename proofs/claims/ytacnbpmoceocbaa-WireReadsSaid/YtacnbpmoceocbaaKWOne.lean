/-
  A region that draws its order, with one call: reads first, the call, then reads that may be guarded. No program is named here.
-/
import Derived.Test.YtacnbpmoceocbaaKWReqs
import Derived.Test.YtacnbpmoceocbaaKWNum
import Derived.Deep.RegionHeld3
import Derived.OrdersHeld
section
open Go Go.RowKit
namespace WW
open BB
/-- a certificate's bytes -/
def certB (v : Int) (k : ByteArray) (l : List (Int × List ByteArray)) : ByteArray := num v ++ k ++ listB (sigsB l)
/-- a block's bytes -/
def blockB (v p cv : Int) (k : ByteArray) (l : List (Int × List ByteArray)) (m : List (Int × Int × ByteArray)) : ByteArray := num v ++ num p ++ certB cv k l ++ listB (reqsB m)
/-- signatures of a size that is looked at -/
def SmallS (l : List (Int × List ByteArray)) : Prop := l.length ≤ 1000 ∧ (flat (sigsB l)).length ≤ 500000 ∧ ∀ i, i < l.length → (flat (l.getD i (0, [])).2).length ≤ 500000 ∧ (l.getD i (0, [])).2.length ≤ 1000
def SmallR (l : List (Int × Int × ByteArray)) : Prop := l.length ≤ 1000 ∧ (flat (reqsB l)).length ≤ 500000 ∧ ∀ i, i < l.length → (l.getD i (0, 0, ⟨#[]⟩)).2.2.size ≤ 500000
theorem certB_size (v : Int) (k : ByteArray) (l : List (Int × List ByteArray)) : (certB v k l).size = 8 + k.size + (flat (sigsB l)).length := by
  simp only [certB, ByteArray.size_append, num_size, flat_size]; omega
theorem keep6 {w W w1 : World} {g : Nat} {v0 v1 v2 v3 v4 v5 : Value} {B : Nat} (h : W.cell? ⟨g, 0, none⟩ = some v0 ∧ W.cell? ⟨g, 1, none⟩ = some v1 ∧ W.cell? ⟨g, 2, none⟩ = some v2 ∧ W.cell? ⟨g, 3, none⟩ = some v3 ∧ W.cell? ⟨g, 4, none⟩ = some v4 ∧ W.cell? ⟨g, 5, none⟩ = some v5 ∧ Below B w W ∧ B ≤ W.heap.size) (hb : Below W.heap.size W w1) :
    w1.cell? ⟨g, 0, none⟩ = some v0 ∧ w1.cell? ⟨g, 1, none⟩ = some v1 ∧ w1.cell? ⟨g, 2, none⟩ = some v2 ∧ w1.cell? ⟨g, 3, none⟩ = some v3 ∧ w1.cell? ⟨g, 4, none⟩ = some v4 ∧ w1.cell? ⟨g, 5, none⟩ = some v5 ∧ Below B w w1 ∧ B ≤ w1.heap.size := by
  obtain ⟨h0, h1, h2, h3, h4, h5, h6, h7⟩ := h
  have hl := World.block_lt_of_cell? W _ h0
  exact ⟨(hb.cell (p := ⟨g, 0, none⟩) hl).trans h0, (hb.cell (p := ⟨g, 1, none⟩) hl).trans h1, (hb.cell (p := ⟨g, 2, none⟩) hl).trans h2, (hb.cell (p := ⟨g, 3, none⟩) hl).trans h3, (hb.cell (p := ⟨g, 4, none⟩) hl).trans h4, (hb.cell (p := ⟨g, 5, none⟩) hl).trans h5, h6.trans (hb.mono h7), Nat.le_trans h7 hb.size⟩
end WW
namespace Go.Proofs.Ytacnbpmoceocbaa
open WW BB
set_option maxRecDepth 100000 in
set_option maxHeartbeats 2000000 in
theorem cert_any (v : Int) (k : ByteArray) (sv : Value) (l : List (Int × List ByteArray)) (w : World) (hv : SigsAt w sv l) (hk : k.size ≤ 1000000) (hs : SmallS l) :
    Calls Try.prog 23 #[.agg #[.int .i64 v, .string k, sv]] w fun e w' => e = .returned (.string (certB v k l)) ∧ Below w.heap.size w w' := by
  have h1 : ¬ 9223372036854775807 < (num v).size + k.size := by rw [num_size]; omega
  have h2 : ¬ 9223372036854775807 < (num v).size + k.size + (listB (sigsB l)).size := by rw [num_size, flat_size]; have := hs.2.1; omega
  have HV := Lib.hid hv
  have HS := Lib.hid hs
  obtain ⟨a0, cap, rfl, hx⟩ := hv
  clear hs hx hk
  go_enter Try.func23, Try.ntmps23
  go_wp2_with fail
  have c0 := cell_new w #[.int .i64 v, .string k, .slice a0 l.length cap] 28 0 _ rfl
  have c1 := cell_new w #[.int .i64 v, .string k, .slice a0 l.length cap] 28 1 _ rfl
  have c2 := cell_new w #[.int .i64 v, .string k, .slice a0 l.length cap] 28 2 _ rfl
  have b0 : Below w.heap.size w (w.alloc (.cells #[.int .i64 v, .string k, .slice a0 l.length cap] 28)) := (Below.refl _ _).alloc (Nat.le_refl _) _
  generalize w.alloc (.cells #[.int .i64 v, .string k, .slice a0 l.length cap] 28) = w0 at *
  have z0 := b0.size
  obtain ⟨g, hg⟩ : ∃ g, w.heap.size = g := ⟨_, rfl⟩
  rw [hg] at c0 c1 c2 b0 z0 ⊢
  have HG := Lib.hid hg
  clear hg
  have hst := start3 c0 c1 c2 b0 z0
  go_region_held3 (fun w' => w'.cell? ⟨g, 0, none⟩ = some (.int .i64 v) ∧ w'.cell? ⟨g, 1, none⟩ = some (.string k) ∧ w'.cell? ⟨g, 2, none⟩ = some (.slice a0 l.length cap) ∧ Below g w w' ∧ g ≤ w'.heap.size)
    (first | exact hst | exact hk)
    (first
      | (go_at_call 10; refine (number_any _ _).mono ?_; rintro e w1 ⟨rfl, hb1⟩; have hk := keep3 (w := w) (g := g) (v0 := .int .i64 v) (v1 := .string k) (v2 := .slice a0 l.length cap) (B := g) (by assumption) hb1; have HK := Lib.hid hk.2.2.2.1)
      | (go_at_call 42; refine (listsig_any l _ _ (HV.out.later (by rw [HG.out]; exact HK.out)) HS.out.2.1 HS.out.1 HS.out.2.2).mono ?_; rintro e w1 ⟨rfl, hb1⟩; have hk := keep3 (w := w) (g := g) (v0 := .int .i64 v) (v1 := .string k) (v2 := .slice a0 l.length cap) (B := g) (by assumption) hb1))
  go_wp2_with fail
  go_ret
  exact ⟨rfl, by rw [HG.out]; exact hk.2.2.2.1⟩
set_option maxRecDepth 100000 in
set_option maxHeartbeats 4000000 in
theorem block_any (v p cv : Int) (k : ByteArray) (sv rv : Value) (l : List (Int × List ByteArray)) (m : List (Int × Int × ByteArray)) (w : World) (hv : SigsAt w sv l) (hr : ReqsAt w rv m) (hk : k.size ≤ 1000000) (hs : SmallS l) (hm : SmallR m) :
    Calls Try.prog 17 #[.agg #[.int .i64 v, .int .i64 p, .int .i64 cv, .string k, sv, rv]] w fun e w' => e = .returned (.string (blockB v p cv k l m)) ∧ Below w.heap.size w w' := by
  have h1 : ¬ 9223372036854775807 < (num v).size + (num p).size := by rw [num_size, num_size]; omega
  have h2 : ¬ 9223372036854775807 < (num v).size + (num p).size + (certB cv k l).size := by rw [num_size, num_size, certB_size]; have := hs.2.1; omega
  have h3 : ¬ 9223372036854775807 < (num v).size + (num p).size + (certB cv k l).size + (listB (reqsB m)).size := by rw [num_size, num_size, certB_size, flat_size]; have := hs.2.1; have := hm.2.1; omega
  have HV := Lib.hid hv
  have HR := Lib.hid hr
  have HS := Lib.hid hs
  have HM := Lib.hid hm
  have HKZ := Lib.hid hk
  obtain ⟨a0, cap, rfl, hx⟩ := hv
  obtain ⟨a1, cap1, rfl, hx1⟩ := hr
  clear hs hx hk hm hx1
  go_enter Try.func17, Try.ntmps17
  go_wp2_with fail
  have c0 := cell_new w #[.int .i64 v, .int .i64 p, .int .i64 cv, .string k, .slice a0 l.length cap, .slice a1 m.length cap1] 31 0 _ rfl
  have c1 := cell_new w #[.int .i64 v, .int .i64 p, .int .i64 cv, .string k, .slice a0 l.length cap, .slice a1 m.length cap1] 31 1 _ rfl
  have c2 := cell_new w #[.int .i64 v, .int .i64 p, .int .i64 cv, .string k, .slice a0 l.length cap, .slice a1 m.length cap1] 31 2 _ rfl
  have c3 := cell_new w #[.int .i64 v, .int .i64 p, .int .i64 cv, .string k, .slice a0 l.length cap, .slice a1 m.length cap1] 31 3 _ rfl
  have c4 := cell_new w #[.int .i64 v, .int .i64 p, .int .i64 cv, .string k, .slice a0 l.length cap, .slice a1 m.length cap1] 31 4 _ rfl
  have c5 := cell_new w #[.int .i64 v, .int .i64 p, .int .i64 cv, .string k, .slice a0 l.length cap, .slice a1 m.length cap1] 31 5 _ rfl
  have b0 : Below w.heap.size w (w.alloc (.cells #[.int .i64 v, .int .i64 p, .int .i64 cv, .string k, .slice a0 l.length cap, .slice a1 m.length cap1] 31)) := (Below.refl _ _).alloc (Nat.le_refl _) _
  generalize w.alloc (.cells #[.int .i64 v, .int .i64 p, .int .i64 cv, .string k, .slice a0 l.length cap, .slice a1 m.length cap1] 31) = w0 at *
  have z0 := b0.size
  obtain ⟨g, hg⟩ : ∃ g, w.heap.size = g := ⟨_, rfl⟩
  rw [hg] at c0 c1 c2 c3 c4 c5 b0 z0 ⊢
  have HG := Lib.hid hg
  clear hg
  have hst : w0.drew.cell? ⟨g, 0, none⟩ = some (.int .i64 v) ∧ w0.drew.cell? ⟨g, 1, none⟩ = some (.int .i64 p) ∧ w0.drew.cell? ⟨g, 2, none⟩ = some (.int .i64 cv) ∧ w0.drew.cell? ⟨g, 3, none⟩ = some (.string k) ∧ w0.drew.cell? ⟨g, 4, none⟩ = some (.slice a0 l.length cap) ∧ w0.drew.cell? ⟨g, 5, none⟩ = some (.slice a1 m.length cap1) ∧ Below g w w0.drew ∧ g ≤ w0.drew.heap.size := ⟨c0, c1, c2, c3, c4, c5, b0.drew, z0⟩
  go_region_held3 (fun w' => w'.cell? ⟨g, 0, none⟩ = some (.int .i64 v) ∧ w'.cell? ⟨g, 1, none⟩ = some (.int .i64 p) ∧ w'.cell? ⟨g, 2, none⟩ = some (.int .i64 cv) ∧ w'.cell? ⟨g, 3, none⟩ = some (.string k) ∧ w'.cell? ⟨g, 4, none⟩ = some (.slice a0 l.length cap) ∧ w'.cell? ⟨g, 5, none⟩ = some (.slice a1 m.length cap1) ∧ Below g w w' ∧ g ≤ w'.heap.size)
    (first | exact hst | exact hk)
    (first
      | (go_at_call 10; refine (number_any _ _).mono ?_; rintro e w1 ⟨rfl, hb1⟩; have hk := keep6 (w := w) (g := g) (v0 := .int .i64 v) (v1 := .int .i64 p) (v2 := .int .i64 cv) (v3 := .string k) (v4 := .slice a0 l.length cap) (v5 := .slice a1 m.length cap1) (B := g) (by assumption) hb1; have HK := Lib.hid hk.2.2.2.2.2.2.1)
      | (go_at_call 23; refine (cert_any cv k _ l _ (HV.out.later (by rw [HG.out]; exact HK.out)) HKZ.out HS.out).mono ?_; rintro e w1 ⟨rfl, hb1⟩; have hk := keep6 (w := w) (g := g) (v0 := .int .i64 v) (v1 := .int .i64 p) (v2 := .int .i64 cv) (v3 := .string k) (v4 := .slice a0 l.length cap) (v5 := .slice a1 m.length cap1) (B := g) (by assumption) hb1; have HK := Lib.hid hk.2.2.2.2.2.2.1)
      | (go_at_call 38; refine (listreq_any m _ _ (HR.out.later (by rw [HG.out]; exact HK.out)) HM.out.2.1 HM.out.1 HM.out.2.2).mono ?_; rintro e w1 ⟨rfl, hb1⟩; have hk := keep6 (w := w) (g := g) (v0 := .int .i64 v) (v1 := .int .i64 p) (v2 := .int .i64 cv) (v3 := .string k) (v4 := .slice a0 l.length cap) (v5 := .slice a1 m.length cap1) (B := g) (by assumption) hb1))
  go_wp2_with fail
  go_ret
  exact ⟨rfl, by rw [HG.out]; exact hk.2.2.2.2.2.2.1⟩
end Go.Proofs.Ytacnbpmoceocbaa
end
section
open Go Go.RowKit
namespace WW
open BB
/-- a signature of a size that is looked at -/
def fewSig (ts : List ByteArray) : Bool := (ts.take 20).all (fun t => decide (t.size ≤ 30)) && decide (ts.length ≤ 10)
theorem all_take_snoc {α : Type} (p : α → Bool) (l : List α) (d : α) (i : Nat) (h : i < l.length) : (l.take (i + 1)).all p = ((l.take i).all p && p (l.getD i d)) := by
  rw [List.take_succ_eq_append_getElem h, List.all_append]
  simp [List.getD, List.getElem?_eq_getElem h]
theorem all_take_mono {α : Type} (p : α → Bool) (l : List α) (i j : Nat) (h : i ≤ j) (hf : (l.take i).all p = false) : (l.take j).all p = false := by
  rw [show i = min i j by omega, ← List.take_take] at hf
  rw [List.all_eq_false] at hf ⊢
  obtain ⟨x, hx, hp⟩ := hf
  exact ⟨x, List.mem_of_mem_take hx, hp⟩
end WW
namespace Go.Proofs.Ytacnbpmoceocbaa
open WW BB
set_option maxRecDepth 100000 in
set_option maxHeartbeats 2000000 in
theorem fewsig_any (f : Int) (tv : Value) (ts : List ByteArray) (w : World) (hv : StrsAt w tv ts) (hn : ts.length ≤ 9223372036854775807) :
    Calls Try.prog 41 #[.agg #[.int .i64 f, tv]] w fun e w' => e = .returned (.bool (fewSig ts)) ∧ Below w.heap.size w w' := by
  obtain ⟨X, hX⟩ : ∃ X, fewSig ts = X := ⟨_, rfl⟩
  rw [hX]
  have HX := Lib.hid hX
  have HV := Lib.hid hv
  have HN := Lib.hid hn
  obtain ⟨a0, cap, rfl, hx⟩ := hv
  clear hn hx hX
  go_enter Try.func41, Try.ntmps41
  go_wp2_with fail
  have c1 := cell_new w #[.int .i64 f, .slice a0 ts.length cap] 37 1 _ rfl
  have b0 : Below w.heap.size w (w.alloc (.cells #[.int .i64 f, .slice a0 ts.length cap] 37)) := (Below.refl _ _).alloc (Nat.le_refl _) _
  generalize w.alloc (.cells #[.int .i64 f, .slice a0 ts.length cap] 37) = w0 at *
  have B0 := Lib.hid b0
  obtain ⟨g, hg⟩ : ∃ g, w.heap.size = g := ⟨_, rfl⟩
  rw [hg] at c1 ⊢
  clear b0 hg
  go_loop [3] (fun v => ∃ i : Nat, i ≤ ts.length ∧ i ≤ 20 ∧ v = .int .i64 (i : Int) ∧ (ts.take i).all (fun t => decide (t.size ≤ 30)) = true) (fun v => ts.length - (intOf v).toNat)
  case atStart => exact ⟨0, Nat.zero_le _, by omega, rfl, rfl⟩
  case round =>
    obtain ⟨i, hi, h20, rfl, hall⟩ := hrel
    have HALL := Lib.hid hall
    have i0 : (0 : Int) ≤ (i : Int) := by omega
    have ib : (i : Int) ≤ 20 := by omega
    clear hall
    by_cases hlt : i < ts.length
    · have hlt' : (i : Int) < (ts.length : Int) := by omega
      by_cases h2 : i < 20
      · have h2' : (i : Int) < 20 := by omega
        obtain ⟨a1, cap1, he, hv | ⟨gb, off, rfl, hbw, hcell⟩⟩ := HV.out
        · rw [hv] at hlt; simp at hlt
        injection he with e1 _ e3
        subst e1 e3
        have hcl := (B0.out.cell (p := ⟨gb, off + i, none⟩) hbw).trans (hcell i hlt)
        have HSN := Lib.hid (all_take_snoc (fun t : ByteArray => decide (t.size ≤ 30)) ts ⟨#[]⟩ i hlt)
        obtain ⟨s, hs⟩ : ∃ s, ts.getD i ⟨#[]⟩ = s := ⟨_, rfl⟩
        rw [hs] at hcl HSN
        have HLT := Lib.hid hlt
        have H2 := Lib.hid h2
        clear hs hlt h2 hi h20 hcell hbw
        by_cases h30 : s.size ≤ 30
        · have t1 : ¬ (30 : Int) < (s.size : Int) := by omega
          have H30 := Lib.hid h30
          clear h30
          go_wp2_with fail
          go_round
          case rel => exact ⟨i + 1, by have := HLT.out; omega, by have := H2.out; omega, by go_num, by rw [HSN.out, HALL.out]; simpa using H30.out⟩
          case measure => have := HLT.out; simp [intOf]; omega
        · have t1 : (30 : Int) < (s.size : Int) := by omega
          have H30 := Lib.hid h30
          clear h30
          go_wp2_with fail
          go_ret
          refine ⟨?_, B0.out⟩
          rw [← HX.out]
          have h1 := HSN.out
          rw [show decide (s.size ≤ 30) = false by simpa using H30.out, Bool.and_false] at h1
          have h2 := all_take_mono _ ts (i + 1) 20 (by have := H2.out; omega) h1
          unfold fewSig
          rw [h2]; rfl
      · obtain rfl : i = 20 := by omega
        have h2' : ¬ ((20 : Nat) : Int) < 20 := by omega
        have H20 := Lib.hid hlt
        clear h2 hi h20 hlt
        have hl10 : ¬ (ts.length : Int) ≤ 10 := by have := H20.out; omega
        go_wp2_with fail
        go_ret
        refine ⟨?_, B0.out⟩
        rw [← HX.out]
        unfold fewSig
        rw [show decide (ts.length ≤ 10) = false by have := H20.out; simp; omega, Bool.and_false]
        rfl
    · obtain rfl : i = ts.length := by omega
      have hlt' : ¬ (ts.length : Int) < (ts.length : Int) := by omega
      rw [List.take_length] at HALL
      by_cases h10 : ts.length ≤ 10
      · have t1 : (ts.length : Int) ≤ 10 := by omega
        have H10 := Lib.hid h10
        clear hlt hi h20 h10
        go_wp2_with fail
        go_ret
        refine ⟨?_, B0.out⟩
        rw [← HX.out]
        unfold fewSig
        rw [List.take_of_length_le (by have := H10.out; omega), HALL.out, show decide (ts.length ≤ 10) = true by simpa using H10.out]
        rfl
      · have t1 : ¬ (ts.length : Int) ≤ 10 := by omega
        have H10 := Lib.hid h10
        clear hlt hi h20 h10
        go_wp2_with fail
        go_ret
        refine ⟨?_, B0.out⟩
        rw [← HX.out]
        unfold fewSig
        rw [show decide (ts.length ≤ 10) = false by simpa using H10.out, Bool.and_false]
        rfl
end Go.Proofs.Ytacnbpmoceocbaa
end
section
open Go Go.RowKit
namespace WW
open BB
/-- a certificate of a size that is looked at -/
def fewCert (k : ByteArray) (l : List (Int × List ByteArray)) : Bool := (l.take 20).all (fun p => fewSig p.2) && (decide (l.length ≤ 10) && decide (k.size ≤ 50))
/-- a block of a size that is looked at -/
def fewBlock (k : ByteArray) (l : List (Int × List ByteArray)) (m : List (Int × Int × ByteArray)) : Bool := (m.take 20).all (fun p => decide (p.2.2.size ≤ 60)) && (decide (m.length ≤ 6) && fewCert k l)
/-- the tags of each signature are no more than fit into memory -/
def MemS (l : List (Int × List ByteArray)) : Prop := l.length ≤ 9223372036854775807 ∧ ∀ i, i < l.length → (l.getD i (0, [])).2.length ≤ 9223372036854775807
end WW
namespace Go.Proofs.Ytacnbpmoceocbaa
open WW BB
set_option maxRecDepth 100000 in
set_option maxHeartbeats 4000000 in
theorem fewcert_any (v : Int) (k : ByteArray) (sv : Value) (l : List (Int × List ByteArray)) (w : World) (hv : SigsAt w sv l) (hn : MemS l) (hk : k.size ≤ 9223372036854775807) :
    Calls Try.prog 22 #[.agg #[.int .i64 v, .string k, sv]] w fun e w' => e = .returned (.bool (fewCert k l)) ∧ Below w.heap.size w w' := by
  obtain ⟨X, hX⟩ : ∃ X, fewCert k l = X := ⟨_, rfl⟩
  rw [hX]
  have HX := Lib.hid hX
  have HV := Lib.hid hv
  have HN := Lib.hid hn
  have HK := Lib.hid hk
  obtain ⟨a0, cap, rfl, hx⟩ := hv
  clear hn hx hX hk
  go_enter Try.func22, Try.ntmps22
  go_wp2_with fail
  have B0 := box_mk w [.int .i64 v, .string k, .slice a0 l.length cap] 28
  rw [show [Value.int .i64 v, .string k, .slice a0 l.length cap].toArray = #[.int .i64 v, .string k, .slice a0 l.length cap] from rfl] at B0
  obtain ⟨g, hg⟩ : ∃ g, w.heap.size = g := ⟨_, rfl⟩
  rw [hg] at B0 ⊢
  clear hg
  generalize w.alloc (.cells #[.int .i64 v, .string k, .slice a0 l.length cap] 28) = w0 at *
  go_loopw [3] (fun x wr => ∃ i : Nat, i ≤ l.length ∧ i ≤ 20 ∧ x = .int .i64 (i : Int) ∧ (l.take i).all (fun p => fewSig p.2) = true ∧ BoxAt w g [.int .i64 v, .string k, .slice a0 l.length cap] wr) (fun x _ => l.length - (intOf x).toNat)
  case atStart => exact ⟨0, Nat.zero_le _, by omega, rfl, rfl, B0⟩
  case round =>
    clear B0
    clear w0
    obtain ⟨i, hi, h20, rfl, hall, hbox⟩ := hrel
    have HALL := Lib.hid hall
    have HBX := Lib.hid hbox
    have i0 : (0 : Int) ≤ (i : Int) := by omega
    have ib : (i : Int) ≤ 20 := by omega
    have c1 := hbox.cell 1 _ rfl
    have c2 := hbox.cell 2 _ rfl
    clear hall hbox
    by_cases hlt : i < l.length
    · have hlt' : (i : Int) < (l.length : Int) := by omega
      by_cases h2 : i < 20
      · have h2' : (i : Int) < 20 := by omega
        obtain ⟨a1, cap1, he, hv | ⟨gb, off, rfl, hbw, hcell⟩⟩ := HV.out
        · rw [hv] at hlt; simp at hlt
        injection he with e1 _ e3
        subst e1 e3
        obtain ⟨tv, hc0, hc1, hts⟩ := hcell i hlt
        have hcl0 := (HBX.out.below.cell (p := ⟨gb, off + i * 2, none⟩) hbw).trans hc0
        have hcl1 := (HBX.out.below.cell (p := ⟨gb, off + i * 2 + 1, none⟩) hbw).trans hc1
        have HTS := Lib.hid (hts.later HBX.out.below)
        have HSN := Lib.hid (all_take_snoc (fun p : Int × List ByteArray => fewSig p.2) l (0, []) i hlt)
        have HMi := Lib.hid (HN.out.2 i hlt)
        obtain ⟨f, hf⟩ : ∃ f, (l.getD i (0, [])).1 = f := ⟨_, rfl⟩
        obtain ⟨ts, ht⟩ : ∃ ts, (l.getD i (0, [])).2 = ts := ⟨_, rfl⟩
        rw [hf] at hcl0
        rw [ht] at HTS HMi HSN
        have HLT := Lib.hid hlt
        have H2 := Lib.hid h2
        obtain ⟨ta, tcap, htv, _⟩ := HTS.out
        subst htv
        clear hf ht hlt h2 hi h20 hcell hbw hc0 hc1 hts
        go_wp2_with fail
        refine (fewsig_any f _ ts wr HTS.out HMi.out).mono ?_
        rintro e w4 ⟨rfl, hb4⟩
        have HB4 := Lib.hid (HBX.out.on hb4)
        clear hb4 HBX
        rcases hfs : fewSig ts with _ | _
        · have HF := Lib.hid hfs
          clear hfs
          go_wp2_with fail
          go_ret
          refine ⟨?_, HB4.out.below⟩
          rw [← HX.out]
          have h1 := HSN.out
          rw [HF.out, Bool.and_false] at h1
          have h2 := all_take_mono _ l (i + 1) 20 (by have := H2.out; omega) h1
          unfold fewCert
          rw [h2]; rfl
        · have HF := Lib.hid hfs
          clear hfs
          go_wp2_with fail
          go_roundw
          case rel => exact ⟨i + 1, by have := HLT.out; omega, by have := H2.out; omega, by go_num, by rw [HSN.out, HALL.out, HF.out]; rfl, HB4.out⟩
          case measure => have := HLT.out; simp [intOf]; omega
      · obtain rfl : i = 20 := by omega
        have h2' : ¬ ((20 : Nat) : Int) < 20 := by omega
        have H20 := Lib.hid hlt
        clear h2 hi h20 hlt
        have hl10 : ¬ (l.length : Int) ≤ 10 := by have := H20.out; omega
        go_wp2_with fail
        go_ret
        refine ⟨?_, HBX.out.below⟩
        rw [← HX.out]
        unfold fewCert
        rw [show decide (l.length ≤ 10) = false by have := H20.out; simp; omega, Bool.false_and, Bool.and_false]
        rfl
    · obtain rfl : i = l.length := by omega
      have hlt' : ¬ (l.length : Int) < (l.length : Int) := by omega
      rw [List.take_length] at HALL
      by_cases h10 : l.length ≤ 10
      · have t1 : (l.length : Int) ≤ 10 := by omega
        have H10 := Lib.hid h10
        clear hlt hi h20 h10
        by_cases hk50 : k.size ≤ 50
        · have t2 : (k.size : Int) ≤ 50 := by omega
          have HK50 := Lib.hid hk50
          clear hk50
          go_wp2_with fail
          go_ret
          refine ⟨?_, HBX.out.below⟩
          rw [← HX.out]
          unfold fewCert
          rw [List.take_of_length_le (by have := H10.out; omega), HALL.out, show decide (l.length ≤ 10) = true by simpa using H10.out, show decide (k.size ≤ 50) = true by simpa using HK50.out]
          rfl
        · have t2 : ¬ (k.size : Int) ≤ 50 := by omega
          have HK50 := Lib.hid hk50
          clear hk50
          go_wp2_with fail
          go_ret
          refine ⟨?_, HBX.out.below⟩
          rw [← HX.out]
          unfold fewCert
          rw [show decide (k.size ≤ 50) = false by simpa using HK50.out, Bool.and_false, Bool.and_false]
          rfl
      · have t1 : ¬ (l.length : Int) ≤ 10 := by omega
        have H10 := Lib.hid h10
        clear hlt hi h20 h10
        go_wp2_with fail
        go_ret
        refine ⟨?_, HBX.out.below⟩
        rw [← HX.out]
        unfold fewCert
        rw [show decide (l.length ≤ 10) = false by simpa using H10.out, Bool.false_and, Bool.and_false]
        rfl
end Go.Proofs.Ytacnbpmoceocbaa
end
section
open Go Go.RowKit
namespace Go.Proofs.Ytacnbpmoceocbaa
open WW BB
set_option maxRecDepth 100000 in
set_option maxHeartbeats 4000000 in
theorem fewblock_any (v p cv : Int) (k : ByteArray) (sv rv : Value) (l : List (Int × List ByteArray)) (m : List (Int × Int × ByteArray)) (w : World) (hv : SigsAt w sv l) (hr : ReqsAt w rv m) (hn : MemS l) (hk : k.size ≤ 9223372036854775807) (hm : m.length ≤ 9223372036854775807) :
    Calls Try.prog 15 #[.agg #[.int .i64 v, .int .i64 p, .int .i64 cv, .string k, sv, rv]] w fun e w' => e = .returned (.bool (fewBlock k l m)) ∧ Below w.heap.size w w' := by
  obtain ⟨X, hX⟩ : ∃ X, fewBlock k l m = X := ⟨_, rfl⟩
  rw [hX]
  have HX := Lib.hid hX
  have HV := Lib.hid hv
  have HN := Lib.hid hn
  have HK := Lib.hid hk
  have HR := Lib.hid hr
  have HM := Lib.hid hm
  obtain ⟨a0, cap, rfl, hx⟩ := hv
  obtain ⟨a1, cap1, rfl, hx1⟩ := hr
  clear hn hx hX hk hx1 hm
  go_enter Try.func15, Try.ntmps15
  go_wp2_with fail
  have B0 := box_mk w [.int .i64 v, .int .i64 p, .int .i64 cv, .string k, .slice a0 l.length cap, .slice a1 m.length cap1] 31
  rw [show [Value.int .i64 v, .int .i64 p, .int .i64 cv, .string k, .slice a0 l.length cap, .slice a1 m.length cap1].toArray = #[.int .i64 v, .int .i64 p, .int .i64 cv, .string k, .slice a0 l.length cap, .slice a1 m.length cap1] from rfl] at B0
  obtain ⟨g, hg⟩ : ∃ g, w.heap.size = g := ⟨_, rfl⟩
  rw [hg] at B0 ⊢
  clear hg
  generalize w.alloc (.cells #[.int .i64 v, .int .i64 p, .int .i64 cv, .string k, .slice a0 l.length cap, .slice a1 m.length cap1] 31) = w0 at *
  go_loopw [3] (fun x wr => ∃ i : Nat, i ≤ m.length ∧ i ≤ 20 ∧ x = .int .i64 (i : Int) ∧ (m.take i).all (fun p => decide (p.2.2.size ≤ 60)) = true ∧ BoxAt w g [.int .i64 v, .int .i64 p, .int .i64 cv, .string k, .slice a0 l.length cap, .slice a1 m.length cap1] wr) (fun x _ => m.length - (intOf x).toNat)
  case atStart => exact ⟨0, Nat.zero_le _, by omega, rfl, rfl, B0⟩
  case round =>
    clear B0
    clear w0
    obtain ⟨i, hi, h20, rfl, hall, hbox⟩ := hrel
    have HALL := Lib.hid hall
    have HBX := Lib.hid hbox
    have i0 : (0 : Int) ≤ (i : Int) := by omega
    have ib : (i : Int) ≤ 20 := by omega
    have c2 := hbox.cell 2 _ rfl
    have c3 := hbox.cell 3 _ rfl
    have c4 := hbox.cell 4 _ rfl
    have c5 := hbox.cell 5 _ rfl
    clear hall hbox
    by_cases hlt : i < m.length
    · have hlt' : (i : Int) < (m.length : Int) := by omega
      by_cases h2 : i < 20
      · have h2' : (i : Int) < 20 := by omega
        obtain ⟨a2, cap2, he, hv | ⟨gb, off, rfl, hbw, hcell⟩⟩ := HR.out
        · rw [hv] at hlt; simp at hlt
        injection he with e1 _ e3
        subst e1 e3
        obtain ⟨hc0, hc1, hc2⟩ := hcell i hlt
        have hcl2 := (HBX.out.below.cell (p := ⟨gb, off + i * 3 + 2, none⟩) hbw).trans hc2
        have HSN := Lib.hid (all_take_snoc (fun p : Int × Int × ByteArray => decide (p.2.2.size ≤ 60)) m (0, 0, ⟨#[]⟩) i hlt)
        obtain ⟨s, hs⟩ : ∃ s, (m.getD i (0, 0, ⟨#[]⟩)).2.2 = s := ⟨_, rfl⟩
        rw [hs] at hcl2 HSN
        have HLT := Lib.hid hlt
        have H2 := Lib.hid h2
        clear hs hlt h2 hi h20 hcell hbw hc0 hc1 hc2
        by_cases h60 : s.size ≤ 60
        · have t1 : ¬ (60 : Int) < (s.size : Int) := by omega
          have H60 := Lib.hid h60
          clear h60
          go_wp2_with fail
          go_roundw
          case rel => exact ⟨i + 1, by have := HLT.out; omega, by have := H2.out; omega, by go_num, by rw [HSN.out, HALL.out]; simpa using H60.out, HBX.out⟩
          case measure => have := HLT.out; simp [intOf]; omega
        · have t1 : (60 : Int) < (s.size : Int) := by omega
          have H60 := Lib.hid h60
          clear h60
          go_wp2_with fail
          go_ret
          refine ⟨?_, HBX.out.below⟩
          rw [← HX.out]
          have h1 := HSN.out
          rw [show decide (s.size ≤ 60) = false by simpa using H60.out, Bool.and_false] at h1
          have h2 := all_take_mono _ m (i + 1) 20 (by have := H2.out; omega) h1
          unfold fewBlock
          rw [h2]; rfl
      · obtain rfl : i = 20 := by omega
        have h2' : ¬ ((20 : Nat) : Int) < 20 := by omega
        have H20 := Lib.hid hlt
        clear h2 hi h20 hlt
        have hl10 : ¬ (m.length : Int) ≤ 6 := by have := H20.out; omega
        go_wp2_with fail
        go_ret
        refine ⟨?_, HBX.out.below⟩
        rw [← HX.out]
        unfold fewBlock
        rw [show decide (m.length ≤ 6) = false by have := H20.out; simp; omega, Bool.false_and, Bool.and_false]
        rfl
    · obtain rfl : i = m.length := by omega
      have hlt' : ¬ (m.length : Int) < (m.length : Int) := by omega
      rw [List.take_length] at HALL
      by_cases h10 : m.length ≤ 6
      · have t1 : (m.length : Int) ≤ 6 := by omega
        have H10 := Lib.hid h10
        clear hlt hi h20 h10
        go_wp2_with fail
        refine (fewcert_any cv k _ l wr (HV.out.later HBX.out.below) HN.out HK.out).mono ?_
        rintro e w4 ⟨rfl, hb4⟩
        have HB4 := Lib.hid (HBX.out.on hb4)
        clear hb4
        have hfin : X = fewCert k l := by
          rw [← HX.out]
          unfold fewBlock
          rw [List.take_of_length_le (by have := H10.out; omega), HALL.out, show decide (m.length ≤ 6) = true by simpa using H10.out, Bool.true_and, Bool.true_and]
        have HFIN := Lib.hid hfin
        clear hfin
        obtain ⟨Y, hY⟩ : ∃ Y, fewCert k l = Y := ⟨_, rfl⟩
        rw [hY] at HFIN ⊢
        clear hY
        go_wp2_with fail
        go_ret
        exact ⟨by rw [HFIN.out]; rfl, HB4.out.below⟩
      · have t1 : ¬ (m.length : Int) ≤ 6 := by omega
        have H10 := Lib.hid h10
        clear hlt hi h20 h10
        go_wp2_with fail
        go_ret
        refine ⟨?_, HBX.out.below⟩
        rw [← HX.out]
        unfold fewBlock
        rw [show decide (m.length ≤ 6) = false by simpa using H10.out, Bool.false_and, Bool.and_false]
        rfl
end Go.Proofs.Ytacnbpmoceocbaa
end
section
open Go Go.RowKit
namespace WW
open BB
/-- a request that isn't right, by the first thing that is wrong -/
def WrongR (c q : Int) (s : ByteArray) : Prop := c < 0 ∨ 0 ≤ c ∧ (4 ≤ c ∨ c < 4 ∧ (q < 1 ∨ 1 ≤ q ∧ (2147483647 < q ∨ q ≤ 2147483647 ∧ (40 : Int) < (s.size : Int))))
theorem wrong_of {c q : Int} {s : ByteArray} (h : ¬ rightR c q s) : WrongR c q s := by unfold rightR at h; unfold WrongR; omega
/-- a request in block g, and what was as it was -/
structure Req1 (w0 : World) (g : Nat) (c q : Int) (s : ByteArray) (w : World) : Prop where
  below : Below w0.heap.size w0 w
  lt : g < w.heap.size
  cells : w.cell? ⟨g, 0, none⟩ = some (.int .i64 c) ∧ w.cell? ⟨g, 1, none⟩ = some (.int .i64 q) ∧ w.cell? ⟨g, 2, none⟩ = some (.string s)
theorem req1_mk (w : World) (c q : Int) (s : ByteArray) (t : TypeId) : Req1 w w.heap.size c q s (w.alloc (.cells #[.int .i64 c, .int .i64 q, .string s] t)) :=
  ⟨(Below.refl _ _).alloc (Nat.le_refl _) _, by simp, cell_new _ _ _ _ _ rfl, cell_new _ _ _ _ _ rfl, cell_new _ _ _ _ _ rfl⟩
theorem Req1.on {w0 w w' : World} {g : Nat} {c q : Int} {s : ByteArray} (h : Req1 w0 g c q s w) (hb : Below w.heap.size w w') : Req1 w0 g c q s w' :=
  ⟨h.below.trans (hb.mono h.below.size), Nat.lt_of_lt_of_le h.lt hb.size, (hb.cell (p := ⟨g, 0, none⟩) h.lt).trans h.cells.1, (hb.cell (p := ⟨g, 1, none⟩) h.lt).trans h.cells.2.1, (hb.cell (p := ⟨g, 2, none⟩) h.lt).trans h.cells.2.2⟩
end WW
namespace Go.Proofs.Ytacnbpmoceocbaa
open WW BB
set_option maxRecDepth 100000 in
set_option maxHeartbeats 1000000 in
theorem right_yes (c q : Int) (s : ByteArray) (h : rightR c q s) (w : World) :
    Calls Try.prog 21 #[.agg #[.int .i64 c, .int .i64 q, .string s]] w fun e w' => e = .returned (.bool true) ∧ Below w.heap.size w w' := by
  obtain ⟨h1, h2, h3, h4, h5⟩ := h
  have h5 : (s.size : Int) ≤ 40 := by omega
  go_enter Try.func21, Try.ntmps21
  go_wp2_with fail
  go_ret
  exact ⟨rfl, (Below.refl _ _).alloc (Nat.le_refl _) _⟩
set_option maxRecDepth 100000 in
set_option maxHeartbeats 1000000 in
theorem right_no (c q : Int) (s : ByteArray) (h : WrongR c q s) (w : World) :
    Calls Try.prog 21 #[.agg #[.int .i64 c, .int .i64 q, .string s]] w fun e w' => e = .returned (.bool false) ∧ Below w.heap.size w w' := by
  rcases h with h1 | ⟨h1, h2 | ⟨h2, h3 | ⟨h3, h4 | ⟨h4, h5⟩⟩⟩⟩
  all_goals
    go_enter Try.func21, Try.ntmps21
    go_wp2_with fail
    go_ret
    exact ⟨by first | rfl | (show Ending.returned (.bool (decide ((s.size : Int) ≤ 40))) = _; rw [decide_eq_false (by omega)]), (Below.refl _ _).alloc (Nat.le_refl _) _⟩
set_option maxRecDepth 100000 in
set_option maxHeartbeats 2000000 in
theorem requests_long (c q : Int) (s : ByteArray) (h : 60 < s.size) (w : World) :
    Calls Try.prog 5 #[.agg #[.int .i64 c, .int .i64 q, .string s]] w fun e w' => e = .returned (.bool true) ∧ Below w.heap.size w w' := by
  have h1 : (60 : Int) < (s.size : Int) := by omega
  clear h
  go_enter Try.func5, Try.ntmps5
  go_wp2_with fail
  have c2 := cell_new w #[.int .i64 c, .int .i64 q, .string s] 34 2 _ rfl
  have b0 : Below w.heap.size w (w.alloc (.cells #[.int .i64 c, .int .i64 q, .string s] 34)) := (Below.refl _ _).alloc (Nat.le_refl _) _
  generalize w.alloc (.cells #[.int .i64 c, .int .i64 q, .string s] 34) = w0 at *
  refine (awake2_any _).mono ?_
  rintro e w1 ⟨rfl, hb1⟩
  have c21 := (hb1.cell (p := ⟨w.heap.size, 2, none⟩) (World.block_lt_of_cell? w0 _ c2)).trans c2
  have B1 := Lib.hid (b0.trans (hb1.mono b0.size))
  clear c2 b0 hb1
  go_wp2_with fail
  refine (awake2_any _).mono ?_
  rintro e w2 ⟨rfl, hb2⟩
  have B2 := Lib.hid (B1.out.trans (hb2.mono B1.out.size))
  clear hb2
  go_wp2_with fail
  go_ret
  exact ⟨rfl, B2.out⟩
set_option maxRecDepth 100000 in
set_option maxHeartbeats 4000000 in
theorem requests_right (c q : Nat) (s : ByteArray) (hs : s.size ≤ 60) (hr : rightR c q s) (w : World) :
    Calls Try.prog 5 #[.agg #[.int .i64 c, .int .i64 q, .string s]] w fun e w' => e = .returned (.bool true) ∧ Below w.heap.size w w' := by
  have h1 : ¬ (60 : Int) < (s.size : Int) := by omega
  have HS := Lib.hid hs
  have HR := Lib.hid hr
  clear hs hr
  go_enter Try.func5, Try.ntmps5
  go_wp2_with fail
  have K0 : Hid (Req1 w w.heap.size c q s (w.alloc (.cells #[.int .i64 c, .int .i64 q, .string s] 34))) := Lib.hid (req1_mk w c q s _)
  generalize w.alloc (.cells #[.int .i64 c, .int .i64 q, .string s] 34) = w0 at *
  obtain ⟨g, hg⟩ : ∃ g, w.heap.size = g := ⟨_, rfl⟩
  rw [hg] at K0 ⊢
  have HG := Lib.hid hg
  clear hg
  refine (awake2_any _).mono ?_
  rintro e w1 ⟨rfl, hb1⟩
  have K1 := Lib.hid (K0.out.on hb1)
  clear hb1 K0
  obtain ⟨c0, c1, c2⟩ := K1.out.cells
  go_wp2_with fail
  clear c0 c1 c2
  refine (request_any c q s (by have := HS.out; omega) _).mono ?_
  rintro e w2 ⟨rfl, hb2⟩
  have K2 := Lib.hid (K1.out.on hb2)
  clear hb2 K1
  go_wp2_with fail
  refine (readreq_any (reqB c q s) (by rw [reqB_size]; have := HS.out; omega) _).mono ?_
  rintro e w3 ⟨rfl, hb3⟩
  have K3 := Lib.hid (K2.out.on hb3)
  clear hb3 K2
  rw [reqRd_put c q s HR.out]
  unfold reqAns
  have KA := Lib.hid (K3.out.on ((Below.refl _ _).alloc (Nat.le_refl _) (.cells #[.int .i64 c, .int .i64 q, .string s] 34)))
  have YA := Lib.hid (req1_mk w3 c q s 34)
  obtain ⟨c0, c1, c2⟩ := KA.out.cells
  go_wp2_with fail
  clear c0 c1 c2
  generalize w3.alloc (.cells #[.int .i64 c, .int .i64 q, .string s] 34) = w4 at *
  generalize w3.heap.size = y at *
  refine (rrequest_any c q s (by have := HS.out; omega) _).mono ?_
  rintro e w5 ⟨rfl, hb5⟩
  have K5 := Lib.hid (KA.out.on hb5)
  have Y5 := Lib.hid (YA.out.on hb5)
  clear hb5 KA YA
  obtain ⟨c0, c1, c2⟩ := K5.out.cells
  go_wp2_with fail
  clear c0 c1 c2
  refine (right_yes c q s HR.out _).mono ?_
  rintro e w6 ⟨rfl, hb6⟩
  have K6 := Lib.hid (K5.out.on hb6)
  have Y6 := Lib.hid (Y5.out.on hb6)
  clear hb6 K5 Y5
  obtain ⟨c0, c1, c2⟩ := K6.out.cells
  obtain ⟨y0, y1, y2⟩ := Y6.out.cells
  go_wp2_with fail
  go_ret
  exact ⟨rfl, K6.out.below⟩
set_option maxRecDepth 100000 in
set_option maxHeartbeats 4000000 in
theorem requests_none (c q : Int) (s : ByteArray) (hs : s.size ≤ 60) (hr : WrongR c q s) (hn : reqRd (reqB c q s) = none) (w : World) :
    Calls Try.prog 5 #[.agg #[.int .i64 c, .int .i64 q, .string s]] w fun e w' => e = .returned (.bool true) ∧ Below w.heap.size w w' := by
  have h1 : ¬ (60 : Int) < (s.size : Int) := by omega
  have HS := Lib.hid hs
  have HR := Lib.hid hr
  have HN := Lib.hid hn
  clear hs hr hn
  go_enter Try.func5, Try.ntmps5
  go_wp2_with fail
  have K0 : Hid (Req1 w w.heap.size c q s (w.alloc (.cells #[.int .i64 c, .int .i64 q, .string s] 34))) := Lib.hid (req1_mk w c q s _)
  generalize w.alloc (.cells #[.int .i64 c, .int .i64 q, .string s] 34) = w0 at *
  obtain ⟨g, hg⟩ : ∃ g, w.heap.size = g := ⟨_, rfl⟩
  rw [hg] at K0 ⊢
  have HG := Lib.hid hg
  clear hg
  refine (awake2_any _).mono ?_
  rintro e w1 ⟨rfl, hb1⟩
  have K1 := Lib.hid (K0.out.on hb1)
  clear hb1 K0
  obtain ⟨c0, c1, c2⟩ := K1.out.cells
  go_wp2_with fail
  clear c0 c1 c2
  refine (request_any c q s (by have := HS.out; omega) _).mono ?_
  rintro e w2 ⟨rfl, hb2⟩
  have K2 := Lib.hid (K1.out.on hb2)
  clear hb2 K1
  go_wp2_with fail
  refine (readreq_any (reqB c q s) (by rw [reqB_size]; have := HS.out; omega) _).mono ?_
  rintro e w3 ⟨rfl, hb3⟩
  have K3 := Lib.hid (K2.out.on hb3)
  clear hb3 K2
  rw [HN.out]
  unfold reqAns
  have KA := Lib.hid (K3.out.on ((Below.refl _ _).alloc (Nat.le_refl _) (.cells #[.int .i64 0, .int .i64 0, .string ⟨#[]⟩] 34)))
  have YA := Lib.hid (req1_mk w3 0 0 ⟨#[]⟩ 34)
  obtain ⟨c0, c1, c2⟩ := KA.out.cells
  go_wp2_with fail
  clear c0 c1 c2
  generalize w3.alloc (.cells #[.int .i64 0, .int .i64 0, .string ⟨#[]⟩] 34) = w4 at *
  generalize w3.heap.size = y at *
  refine (rrequest_any c q s (by have := HS.out; omega) _).mono ?_
  rintro e w5 ⟨rfl, hb5⟩
  have K5 := Lib.hid (KA.out.on hb5)
  have Y5 := Lib.hid (YA.out.on hb5)
  clear hb5 KA YA
  obtain ⟨c0, c1, c2⟩ := K5.out.cells
  go_wp2_with fail
  clear c0 c1 c2
  refine (right_no c q s HR.out _).mono ?_
  rintro e w6 ⟨rfl, hb6⟩
  have K6 := Lib.hid (K5.out.on hb6)
  have Y6 := Lib.hid (Y5.out.on hb6)
  clear hb6 K5 Y5
  obtain ⟨c0, c1, c2⟩ := K6.out.cells
  obtain ⟨y0, y1, y2⟩ := Y6.out.cells
  go_wp2_with fail
  go_ret
  exact ⟨rfl, K6.out.below⟩
set_option maxRecDepth 100000 in
set_option maxHeartbeats 4000000 in
theorem requests_some (c q : Int) (s : ByteArray) (hs : s.size ≤ 60) (hr : WrongR c q s) (c' q' : Nat) (s' : ByteArray) (hn : reqRd (reqB c q s) = some (c', q', s')) (hr' : rightR c' q' s') (he : reqB c' q' s' = reqB c q s) (w : World) :
    Calls Try.prog 5 #[.agg #[.int .i64 c, .int .i64 q, .string s]] w fun e w' => e = .returned (.bool true) ∧ Below w.heap.size w w' := by
  have h1 : ¬ (60 : Int) < (s.size : Int) := by omega
  have HS := Lib.hid hs
  have HR := Lib.hid hr
  have HN := Lib.hid hn
  have HR' := Lib.hid hr'
  have HE := Lib.hid he
  clear hs hr hn hr' he
  go_enter Try.func5, Try.ntmps5
  go_wp2_with fail
  have K0 : Hid (Req1 w w.heap.size c q s (w.alloc (.cells #[.int .i64 c, .int .i64 q, .string s] 34))) := Lib.hid (req1_mk w c q s _)
  generalize w.alloc (.cells #[.int .i64 c, .int .i64 q, .string s] 34) = w0 at *
  obtain ⟨g, hg⟩ : ∃ g, w.heap.size = g := ⟨_, rfl⟩
  rw [hg] at K0 ⊢
  have HG := Lib.hid hg
  clear hg
  refine (awake2_any _).mono ?_
  rintro e w1 ⟨rfl, hb1⟩
  have K1 := Lib.hid (K0.out.on hb1)
  clear hb1 K0
  obtain ⟨c0, c1, c2⟩ := K1.out.cells
  go_wp2_with fail
  clear c0 c1 c2
  refine (request_any c q s (by have := HS.out; omega) _).mono ?_
  rintro e w2 ⟨rfl, hb2⟩
  have K2 := Lib.hid (K1.out.on hb2)
  clear hb2 K1
  go_wp2_with fail
  refine (readreq_any (reqB c q s) (by rw [reqB_size]; have := HS.out; omega) _).mono ?_
  rintro e w3 ⟨rfl, hb3⟩
  have K3 := Lib.hid (K2.out.on hb3)
  clear hb3 K2
  rw [HN.out]
  unfold reqAns
  have KA := Lib.hid (K3.out.on ((Below.refl _ _).alloc (Nat.le_refl _) (.cells #[.int .i64 c', .int .i64 q', .string s'] 34)))
  have YA := Lib.hid (req1_mk w3 c' q' s' 34)
  obtain ⟨c0, c1, c2⟩ := KA.out.cells
  go_wp2_with fail
  clear c0 c1 c2
  generalize w3.alloc (.cells #[.int .i64 c', .int .i64 q', .string s'] 34) = w4 at *
  generalize w3.heap.size = y at *
  refine (rrequest_any c q s (by have := HS.out; omega) _).mono ?_
  rintro e w5 ⟨rfl, hb5⟩
  have K5 := Lib.hid (KA.out.on hb5)
  have Y5 := Lib.hid (YA.out.on hb5)
  clear hb5 KA YA
  obtain ⟨c0, c1, c2⟩ := K5.out.cells
  go_wp2_with fail
  clear c0 c1 c2
  refine (right_no c q s HR.out _).mono ?_
  rintro e w6 ⟨rfl, hb6⟩
  have K6 := Lib.hid (K5.out.on hb6)
  have Y6 := Lib.hid (Y5.out.on hb6)
  clear hb6 K5 Y5
  obtain ⟨c0, c1, c2⟩ := K6.out.cells
  obtain ⟨y0, y1, y2⟩ := Y6.out.cells
  go_wp2_with fail
  clear c0 c1 c2 y0 y1 y2
  refine (right_yes c' q' s' HR'.out _).mono ?_
  rintro e w7 ⟨rfl, hb7⟩
  have K7 := Lib.hid (K6.out.on hb7)
  have Y7 := Lib.hid (Y6.out.on hb7)
  clear hb7 K6 Y6
  obtain ⟨y0, y1, y2⟩ := Y7.out.cells
  go_wp2_with fail
  clear y0 y1 y2
  refine (rrequest_any c' q' s' (by have := HR'.out.2.2.2.2; omega) _).mono ?_
  rintro e w8 ⟨rfl, hb8⟩
  have K8 := Lib.hid (K7.out.on hb8)
  clear hb8 K7 Y7
  rw [HE.out]
  go_wp2_with fail
  go_ret
  exact ⟨rfl, K8.out.below⟩
theorem requests_walk (c q : Int) (s : ByteArray) (w : World) :
    Calls Try.prog 5 #[.agg #[.int .i64 c, .int .i64 q, .string s]] w fun e w' => e = .returned (.bool true) ∧ Below w.heap.size w w' := by
  by_cases hs : s.size ≤ 60
  · by_cases hr : rightR c q s
    · obtain ⟨x, rfl⟩ := Int.eq_ofNat_of_zero_le hr.1
      obtain ⟨y, rfl⟩ := Int.eq_ofNat_of_zero_le (show 0 ≤ q from Int.le_trans (by decide) hr.2.2.1)
      exact requests_right x y s hs hr w
    · have hw := wrong_of hr
      rcases hn : reqRd (reqB c q s) with _ | ⟨c', q', s'⟩
      · exact requests_none c q s hs hw hn w
      · obtain ⟨h1, h2⟩ := reqRd_sound hn
        exact requests_some c q s hs hw c' q' s' hn h2 h1.symm w
  · exact requests_long c q s (by omega) w
end Go.Proofs.Ytacnbpmoceocbaa
end
section
open Go Go.RowKit
namespace WW
open BB
/-- a right signature -/
def rightSig (f : Int) (ts : List ByteArray) : Bool := (ts.take 10).all (fun t => decide (t.size = 16)) && (decide (0 ≤ f) && decide (f < 7) && decide (ts.length ≤ 7))
end WW
namespace Go.Proofs.Ytacnbpmoceocbaa
open WW BB
set_option maxRecDepth 100000 in
set_option maxHeartbeats 2000000 in
theorem rightsig_any (f : Int) (tv : Value) (ts : List ByteArray) (w : World) (hv : StrsAt w tv ts) (hn : ts.length ≤ 9223372036854775807) :
    Calls Try.prog 47 #[.agg #[.int .i64 f, tv]] w fun e w' => e = .returned (.bool (rightSig f ts)) ∧ Below w.heap.size w w' := by
  obtain ⟨X, hX⟩ : ∃ X, rightSig f ts = X := ⟨_, rfl⟩
  rw [hX]
  have HX := Lib.hid hX
  have HV := Lib.hid hv
  have HN := Lib.hid hn
  obtain ⟨a0, cap, rfl, hx⟩ := hv
  clear hn hx hX
  go_enter Try.func47, Try.ntmps47
  go_wp2_with fail
  have c0 := cell_new w #[.int .i64 f, .slice a0 ts.length cap] 37 0 _ rfl
  have c1 := cell_new w #[.int .i64 f, .slice a0 ts.length cap] 37 1 _ rfl
  have b0 : Below w.heap.size w (w.alloc (.cells #[.int .i64 f, .slice a0 ts.length cap] 37)) := (Below.refl _ _).alloc (Nat.le_refl _) _
  generalize w.alloc (.cells #[.int .i64 f, .slice a0 ts.length cap] 37) = w0 at *
  have B0 := Lib.hid b0
  obtain ⟨g, hg⟩ : ∃ g, w.heap.size = g := ⟨_, rfl⟩
  rw [hg] at c0 c1 ⊢
  clear b0 hg
  go_loop [3] (fun v => ∃ i : Nat, i ≤ ts.length ∧ i ≤ 10 ∧ v = .int .i64 (i : Int) ∧ (ts.take i).all (fun t => decide (t.size = 16)) = true) (fun v => ts.length - (intOf v).toNat)
  case atStart => exact ⟨0, Nat.zero_le _, by omega, rfl, rfl⟩
  case round =>
    obtain ⟨i, hi, h20, rfl, hall⟩ := hrel
    have HALL := Lib.hid hall
    have i0 : (0 : Int) ≤ (i : Int) := by omega
    have ib : (i : Int) ≤ 10 := by omega
    clear hall
    by_cases hlt : i < ts.length
    · have hlt' : (i : Int) < (ts.length : Int) := by omega
      by_cases h2 : i < 10
      · have h2' : (i : Int) < 10 := by omega
        obtain ⟨a1, cap1, he, hv | ⟨gb, off, rfl, hbw, hcell⟩⟩ := HV.out
        · rw [hv] at hlt; simp at hlt
        injection he with e1 _ e3
        subst e1 e3
        have hcl := (B0.out.cell (p := ⟨gb, off + i, none⟩) hbw).trans (hcell i hlt)
        have HSN := Lib.hid (all_take_snoc (fun t : ByteArray => decide (t.size = 16)) ts ⟨#[]⟩ i hlt)
        obtain ⟨s, hs⟩ : ∃ s, ts.getD i ⟨#[]⟩ = s := ⟨_, rfl⟩
        rw [hs] at hcl HSN
        have HLT := Lib.hid hlt
        have H2 := Lib.hid h2
        clear hs hlt h2 hi h20 hcell hbw
        by_cases h30 : s.size = 16
        · have t1 : ((s.size : Int) != 16) = false := by rw [h30]; rfl
          have H30 := Lib.hid h30
          clear h30
          go_wp2_with fail
          go_round
          case rel => exact ⟨i + 1, by have := HLT.out; omega, by have := H2.out; omega, by go_num, by rw [HSN.out, HALL.out]; simpa using H30.out⟩
          case measure => have := HLT.out; simp [intOf]; omega
        · have t1 : ((s.size : Int) != 16) = true := by rw [bne_iff_ne]; omega
          have H30 := Lib.hid h30
          clear h30
          go_wp2_with fail
          go_ret
          refine ⟨?_, B0.out⟩
          rw [← HX.out]
          have h1 := HSN.out
          rw [show decide (s.size = 16) = false by simpa using H30.out, Bool.and_false] at h1
          have h2 := all_take_mono _ ts (i + 1) 10 (by have := H2.out; omega) h1
          unfold rightSig
          rw [h2]; rfl
      · obtain rfl : i = 10 := by omega
        have h2' : ¬ ((10 : Nat) : Int) < 10 := by omega
        have H20 := Lib.hid hlt
        clear h2 hi h20 hlt
        have hl10 : ¬ (ts.length : Int) ≤ 7 := by have := H20.out; omega
        have hfin : X = false := by
          rw [← HX.out]
          unfold rightSig
          rw [show decide (ts.length ≤ 7) = false by have := H20.out; simp; omega, Bool.and_false, Bool.and_false]
        have HFIN := Lib.hid hfin
        clear hfin
        by_cases f0 : f < 0
        · go_wp2_with fail
          go_ret
          exact ⟨by rw [HFIN.out]; rfl, B0.out⟩
        · by_cases f7 : f < 7
          · go_wp2_with fail
            go_ret
            exact ⟨by rw [HFIN.out]; rfl, B0.out⟩
          · go_wp2_with fail
            go_ret
            exact ⟨by rw [HFIN.out]; rfl, B0.out⟩
    · obtain rfl : i = ts.length := by omega
      have hlt' : ¬ (ts.length : Int) < (ts.length : Int) := by omega
      rw [List.take_length] at HALL
      have HLE := Lib.hid h20
      clear hlt hi h20
      have hX : X = (decide (0 ≤ f) && decide (f < 7) && decide (ts.length ≤ 7)) := by
        rw [← HX.out]
        unfold rightSig
        rw [List.take_of_length_le (by have := HLE.out; omega), HALL.out, Bool.true_and]
      have HX2 := Lib.hid hX
      clear hX
      by_cases f0 : f < 0
      · have e0 := Lib.hid (show decide (0 ≤ f) = false by simp; omega)
        go_wp2_with fail
        go_ret
        exact ⟨by rw [HX2.out, e0.out]; rfl, B0.out⟩
      · have e0 := Lib.hid (show decide (0 ≤ f) = true by simp; omega)
        by_cases f7 : f < 7
        · have e1 := Lib.hid (show decide (f < 7) = true by simp; omega)
          by_cases l7 : ts.length ≤ 7
          · have t1 : (ts.length : Int) ≤ 7 := by omega
            have e2 := Lib.hid (show decide (ts.length ≤ 7) = true by simpa using l7)
            clear l7
            go_wp2_with fail
            go_ret
            exact ⟨by rw [HX2.out, e0.out, e1.out, e2.out]; rfl, B0.out⟩
          · have t1 : ¬ (ts.length : Int) ≤ 7 := by omega
            have e2 := Lib.hid (show decide (ts.length ≤ 7) = false by simpa using l7)
            clear l7
            go_wp2_with fail
            go_ret
            exact ⟨by rw [HX2.out, e0.out, e1.out, e2.out]; rfl, B0.out⟩
        · have e1 := Lib.hid (show decide (f < 7) = false by simp; omega)
          go_wp2_with fail
          go_ret
          exact ⟨by rw [HX2.out, e0.out, e1.out]; rfl, B0.out⟩
end Go.Proofs.Ytacnbpmoceocbaa
end
section
open Go Go.RowKit
namespace BB
section
variable {P : Program} {ops : Array Oper} {md : Region.Mode} {w : World} {S : World → Prop} {Q : Exit → Act → World → Prop}
/-- these operations, one behind the other, in every world that meets S -/
def wpHeldG (P : Program) (ops : Array Oper) (S : World → Prop) (K : Act → Prop) : List Oper → Act → Prop
  | [], a => K a
  | o :: r, a => ∃ v, YieldsIf P ops S o v a ∧ wpHeldG P ops S K r (a.put o.dst v)
theorem heldg_run {K : Act → Prop} {o : Oper} {rest : List Oper} {a : Act} (v : Value) (hg : Region.wanted o (yielded ops a.tmps) = true) (h : ∀ w, S w → (execOp a.eval o).run P w = .ok (.value v) w)
    (hK : wpHeldG P ops S K rest (a.put o.dst v)) : wpHeldG P ops S K (o :: rest) a := ⟨v, .inl ⟨hg, h⟩, hK⟩
theorem heldg_skip {K : Act → Prop} {o : Oper} {rest : List Oper} {a : Act} (hg : Region.wanted o (yielded ops a.tmps) = false)
    (hK : wpHeldG P ops S K rest (a.put o.dst undef)) : wpHeldG P ops S K (o :: rest) a := ⟨undef, .inr ⟨hg, rfl⟩, hK⟩
theorem heldg_nil {K : Act → Prop} {a : Act} (h : K a) : wpHeldG P ops S K [] a := h
theorem wpAnyH_of_heldg {K : Act → Prop} {k : Array Bool → Bool} {g : Nat} (hsel : Region.noSelect ops = true) (hQ : ∀ c a d v w, Q (.panic c) (Act.put a d v) w → Q (.panic c) a w) (hS : S w)
    (hK : ∀ listed a, k listed = true → K a → wpAnyH P md ops Q S g listed a w) : ∀ (l : List Nat) (listed : Array Bool) (a : Act), preB md ops k l listed = true → wpHeldG P ops S K (pick ops l) a →
    wpAnyH P md ops Q S (l.length + g) listed a w
  | [], listed, a, hB, h => by simpa using hK listed a hB h
  | i :: l, listed, a, hB, h => by
    simp only [preB, Bool.and_eq_true] at hB
    obtain ⟨⟨hr, hf⟩, hB'⟩ := hB
    obtain ⟨_, o, h0, _⟩ := mem_ready.1 (show i ∈ Region.ready md ops listed by simpa using hr)
    rw [pick_cons h0] at h
    obtain ⟨v, hy, h⟩ := h
    rw [show (i :: l).length + g = (l.length + g) + 1 by simp; omega]
    exact wpAnyH_take h0 hsel hf hr (fun c a w => hQ c a _ _ w) hy hS (wpAnyH_of_heldg hsel hQ hS hK l _ _ hB' h)
/-- c alone may come up, then tl, one behind the other -/
def oneB (md : Region.Mode) (ops : Array Oper) (c : Nat) (tl : List Nat) (listed : Array Bool) : Bool :=
  decide (Region.ready md ops listed = [c]) && preB md ops (fun li => decide (Region.ready md ops li = [])) tl (listed.setIfInBounds c true)
theorem one_call {id : Nat} {a a1 : Act} {l : List Oper} (hd tl : List Nat) (c : Nat) (oc : Oper) (dc : Nat) (f : Nat) (args : Array Value) (v : Value) (S : World → Prop) (hm : P.follows .mixedOrders = true)
    (hB : (Region.noSelect l.toArray && preB .any l.toArray (oneB .any l.toArray c tl) hd (Array.replicate l.toArray.size false) && decide (hd.length + (tl.length + 1) = l.toArray.size)) = true)
    (hQ : ∀ c a d v w, Q (.panic c) (Act.put a d v) w → Q (.panic c) a w) (hoc : l.toArray[c]? = some oc) (hgc : oc.guard = none) (hdc : oc.dst = some dc) (hS : S { w with drawn := w.drawn + 1 })
    (hread : wpHeldG P l.toArray S (fun a' => a' = a1) (pick l.toArray hd) a)
    (henter : ∀ w', (execOp a1.eval oc).run P w' = .ok (.enter f args) w')
    (hcall : ∀ w', S w' → Calls P f args w' fun e w'' => e = .returned v ∧ S w'')
    (htail : wpHeldG P l.toArray S (fun a' => ∀ w', S w' → Q .normal a' w') (pick l.toArray tl) (a1.put (some dc) v)) :
    (Code.region id l.toArray true).wp P Q a w := by
  simp only [Bool.and_eq_true, decide_eq_true_eq] at hB
  obtain ⟨⟨hsel, hp⟩, hsz⟩ := hB
  refine wp_region_held (S := S) hm ?_
  have key := wpAnyH_of_heldg (Q := Q) (S := S) (w := { w with drawn := w.drawn + 1 }) (k := oneB .any l.toArray c tl) (K := fun a' => a' = a1) (g := tl.length + 1) hsel hQ hS
    (fun listed a' hk ha' => ?_) hd (Array.replicate l.toArray.size false) a hp hread
  · rw [hsz] at key; exact key
  subst ha'
  simp only [oneB, Bool.and_eq_true, decide_eq_true_eq] at hk
  obtain ⟨r0, r1⟩ := hk
  refine wpAnyH_all r0 (by simp) fun i hi => ?_
  obtain rfl : i = c := by simpa using hi
  unfold wpOp
  simp only [hoc, Region.wanted, hgc, if_true]
  left
  unfold Oper.wp
  rw [henter]
  refine (hcall _ hS).mono fun e w' ⟨he, hS'⟩ => ?_
  subst he
  refine ⟨hS', ?_⟩
  rw [hdc]
  have tail := wpAnyH_of_heldg (Q := Q) (S := S) (w := w') (k := fun li => decide (Region.ready .any l.toArray li = [])) (K := fun a' => ∀ w', S w' → Q .normal a' w') (g := 0) hsel hQ hS'
    (fun listed a' hk ha' => wpAnyH_done (by simpa using hk) (ha' _ hS') _) tl _ _ r1 htail
  simpa using tail
end
end BB
end
