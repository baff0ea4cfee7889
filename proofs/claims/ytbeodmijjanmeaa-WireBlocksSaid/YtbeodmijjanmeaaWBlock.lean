/-
  The walks of a certificate's and a block's bytes.
-/
import Derived.Test.YtbeodmijjanmeaaWReqs
open Go Go.RowKit
namespace WW
open BB
/-- a certificate's bytes -/
def certB (v : Int) (k : ByteArray) (l : List (Int × List ByteArray)) : ByteArray := num v ++ k ++ listB (sigsB l)
/-- a block's bytes -/
def blockB (v p cv : Int) (k : ByteArray) (l : List (Int × List ByteArray)) (m : List (Int × Int × ByteArray)) : ByteArray := num v ++ num p ++ certB cv k l ++ listB (reqsB m)
/-- signatures of a size that is looked at -/
def SmallS (l : List (Int × List ByteArray)) : Prop := l.length ≤ 1000 ∧ (flat (sigsB l)).length ≤ 500000 ∧ ∀ i, i < l.length → (flat (l.getD i (0, [])).2).length ≤ 500000 ∧ (l.getD i (0, [])).2.length ≤ 1000
def SmallR (l : List (Int × Int × ByteArray)) : Prop := l.length ≤ 1000 ∧ (flat (reqsB l)).length ≤ 500000 ∧ ∀ i, i < l.length → (l.getD i (0, 0, ⟨#[]⟩)).2.2.size ≤ 500000
theorem certB_size (v : Int) (k : ByteArray) (l : List (Int × List ByteArray)) : (certB v k l).size = 8 + k.size + (flat (sigsB l)).length := by
  simp only [certB, ByteArray.size_append, num_size, flat_size]; omega
theorem keep6 {w W w1 : World} {g : Nat} {v0 v1 v2 v3 v4 v5 : Value} {B : Nat} (h : W.cell? ⟨g, 0, none⟩ = some v0 ∧ W.cell? ⟨g, 1, none⟩ = some v1 ∧ W.cell? ⟨g, 2, none⟩ = some v2 ∧ W.cell? ⟨g, 3, none⟩ = some v3 ∧ W.cell? ⟨g, 4, none⟩ = some v4 ∧ W.cell? ⟨g, 5, none⟩ = some v5 ∧ Below B w W ∧ B ≤ W.heap.size) (hb : Below W.heap.size W w1) :
    w1.cell? ⟨g, 0, none⟩ = some v0 ∧ w1.cell? ⟨g, 1, none⟩ = some v1 ∧ w1.cell? ⟨g, 2, none⟩ = some v2 ∧ w1.cell? ⟨g, 3, none⟩ = some v3 ∧ w1.cell? ⟨g, 4, none⟩ = some v4 ∧ w1.cell? ⟨g, 5, none⟩ = some v5 ∧ Below B w w1 ∧ B ≤ w1.heap.size := by
  obtain ⟨h0, h1, h2, h3, h4, h5, h6, h7⟩ := h
  have hl := World.block_lt_of_cell? W _ h0
  exact ⟨(hb.cell (p := ⟨g, 0, none⟩) hl).trans h0, (hb.cell (p := ⟨g, 1, none⟩) hl).trans h1, (hb.cell (p := ⟨g, 2, none⟩) hl).trans h2, (hb.cell (p := ⟨g, 3, none⟩) hl).trans h3, (hb.cell (p := ⟨g, 4, none⟩) hl).trans h4, (hb.cell (p := ⟨g, 5, none⟩) hl).trans h5, h6.trans (hb.mono h7), Nat.le_trans h7 hb.size⟩
end WW
namespace Go.Proofs.Ytbeodmijjanmeaa
open WW BB
set_option maxRecDepth 100000 in
set_option maxHeartbeats 2000000 in
theorem cert_any (v : Int) (k : ByteArray) (sv : Value) (l : List (Int × List ByteArray)) (w : World) (hv : SigsAt w sv l) (hk : k.size ≤ 1000000) (hs : SmallS l) :
    Calls Try.prog 23 #[.agg #[.int .i64 v, .string k, sv]] w fun e w' => e = .returned (.string (certB v k l)) ∧ Below w.heap.size w w' := by
  have h1 : ¬ 9223372036854775807 < (num v).size + k.size := by rw [num_size]; omega
  have h2 : ¬ 9223372036854775807 < (num v).size + k.size + (listB (sigsB l)).size := by rw [num_size, flat_size]; have := hs.2.1; omega
  have HV := Lib.hid hv
  have HS := Lib.hid hs
  obtain ⟨a0, cap, rfl, hx⟩ := hv
  clear hs hx hk
  go_enter Try.func23, Try.ntmps23
  go_wp2_with fail
  have c0 := cell_new w #[.int .i64 v, .string k, .slice a0 l.length cap] 28 0 _ rfl
  have c1 := cell_new w #[.int .i64 v, .string k, .slice a0 l.length cap] 28 1 _ rfl
  have c2 := cell_new w #[.int .i64 v, .string k, .slice a0 l.length cap] 28 2 _ rfl
  have b0 : Below w.heap.size w (w.alloc (.cells #[.int .i64 v, .string k, .slice a0 l.length cap] 28)) := (Below.refl _ _).alloc (Nat.le_refl _) _
  generalize w.alloc (.cells #[.int .i64 v, .string k, .slice a0 l.length cap] 28) = w0 at *
  have z0 := b0.size
  obtain ⟨g, hg⟩ : ∃ g, w.heap.size = g := ⟨_, rfl⟩
  rw [hg] at c0 c1 c2 b0 z0 ⊢
  have HG := Lib.hid hg
  clear hg
  have hst := start3 c0 c1 c2 b0 z0
  go_region_held3 (fun w' => w'.cell? ⟨g, 0, none⟩ = some (.int .i64 v) ∧ w'.cell? ⟨g, 1, none⟩ = some (.string k) ∧ w'.cell? ⟨g, 2, none⟩ = some (.slice a0 l.length cap) ∧ Below g w w' ∧ g ≤ w'.heap.size)
    (first | exact hst | exact hk)
    (first
      | (go_at_call 10; refine (number_any _ _).mono ?_; rintro e w1 ⟨rfl, hb1⟩; have hk := keep3 (w := w) (g := g) (v0 := .int .i64 v) (v1 := .string k) (v2 := .slice a0 l.length cap) (B := g) (by assumption) hb1; have HK := Lib.hid hk.2.2.2.1)
      | (go_at_call 42; refine (listsig_any l _ _ (HV.out.later (by rw [HG.out]; exact HK.out)) HS.out.2.1 HS.out.1 HS.out.2.2).mono ?_; rintro e w1 ⟨rfl, hb1⟩; have hk := keep3 (w := w) (g := g) (v0 := .int .i64 v) (v1 := .string k) (v2 := .slice a0 l.length cap) (B := g) (by assumption) hb1))
  go_wp2_with fail
  go_ret
  exact ⟨rfl, by rw [HG.out]; exact hk.2.2.2.1⟩
set_option maxRecDepth 100000 in
set_option maxHeartbeats 4000000 in
theorem block_any (v p cv : Int) (k : ByteArray) (sv rv : Value) (l : List (Int × List ByteArray)) (m : List (Int × Int × ByteArray)) (w : World) (hv : SigsAt w sv l) (hr : ReqsAt w rv m) (hk : k.size ≤ 1000000) (hs : SmallS l) (hm : SmallR m) :
    Calls Try.prog 17 #[.agg #[.int .i64 v, .int .i64 p, .int .i64 cv, .string k, sv, rv]] w fun e w' => e = .returned (.string (blockB v p cv k l m)) ∧ Below w.heap.size w w' := by
  have h1 : ¬ 9223372036854775807 < (num v).size + (num p).size := by rw [num_size, num_size]; omega
  have h2 : ¬ 9223372036854775807 < (num v).size + (num p).size + (certB cv k l).size := by rw [num_size, num_size, certB_size]; have := hs.2.1; omega
  have h3 : ¬ 9223372036854775807 < (num v).size + (num p).size + (certB cv k l).size + (listB (reqsB m)).size := by rw [num_size, num_size, certB_size, flat_size]; have := hs.2.1; have := hm.2.1; omega
  have HV := Lib.hid hv
  have HR := Lib.hid hr
  have HS := Lib.hid hs
  have HM := Lib.hid hm
  have HKZ := Lib.hid hk
  obtain ⟨a0, cap, rfl, hx⟩ := hv
  obtain ⟨a1, cap1, rfl, hx1⟩ := hr
  clear hs hx hk hm hx1
  go_enter Try.func17, Try.ntmps17
  go_wp2_with fail
  have c0 := cell_new w #[.int .i64 v, .int .i64 p, .int .i64 cv, .string k, .slice a0 l.length cap, .slice a1 m.length cap1] 31 0 _ rfl
  have c1 := cell_new w #[.int .i64 v, .int .i64 p, .int .i64 cv, .string k, .slice a0 l.length cap, .slice a1 m.length cap1] 31 1 _ rfl
  have c2 := cell_new w #[.int .i64 v, .int .i64 p, .int .i64 cv, .string k, .slice a0 l.length cap, .slice a1 m.length cap1] 31 2 _ rfl
  have c3 := cell_new w #[.int .i64 v, .int .i64 p, .int .i64 cv, .string k, .slice a0 l.length cap, .slice a1 m.length cap1] 31 3 _ rfl
  have c4 := cell_new w #[.int .i64 v, .int .i64 p, .int .i64 cv, .string k, .slice a0 l.length cap, .slice a1 m.length cap1] 31 4 _ rfl
  have c5 := cell_new w #[.int .i64 v, .int .i64 p, .int .i64 cv, .string k, .slice a0 l.length cap, .slice a1 m.length cap1] 31 5 _ rfl
  have b0 : Below w.heap.size w (w.alloc (.cells #[.int .i64 v, .int .i64 p, .int .i64 cv, .string k, .slice a0 l.length cap, .slice a1 m.length cap1] 31)) := (Below.refl _ _).alloc (Nat.le_refl _) _
  generalize w.alloc (.cells #[.int .i64 v, .int .i64 p, .int .i64 cv, .string k, .slice a0 l.length cap, .slice a1 m.length cap1] 31) = w0 at *
  have z0 := b0.size
  obtain ⟨g, hg⟩ : ∃ g, w.heap.size = g := ⟨_, rfl⟩
  rw [hg] at c0 c1 c2 c3 c4 c5 b0 z0 ⊢
  have HG := Lib.hid hg
  clear hg
  have hst : w0.drew.cell? ⟨g, 0, none⟩ = some (.int .i64 v) ∧ w0.drew.cell? ⟨g, 1, none⟩ = some (.int .i64 p) ∧ w0.drew.cell? ⟨g, 2, none⟩ = some (.int .i64 cv) ∧ w0.drew.cell? ⟨g, 3, none⟩ = some (.string k) ∧ w0.drew.cell? ⟨g, 4, none⟩ = some (.slice a0 l.length cap) ∧ w0.drew.cell? ⟨g, 5, none⟩ = some (.slice a1 m.length cap1) ∧ Below g w w0.drew ∧ g ≤ w0.drew.heap.size := ⟨c0, c1, c2, c3, c4, c5, b0.drew, z0⟩
  go_region_held3 (fun w' => w'.cell? ⟨g, 0, none⟩ = some (.int .i64 v) ∧ w'.cell? ⟨g, 1, none⟩ = some (.int .i64 p) ∧ w'.cell? ⟨g, 2, none⟩ = some (.int .i64 cv) ∧ w'.cell? ⟨g, 3, none⟩ = some (.string k) ∧ w'.cell? ⟨g, 4, none⟩ = some (.slice a0 l.length cap) ∧ w'.cell? ⟨g, 5, none⟩ = some (.slice a1 m.length cap1) ∧ Below g w w' ∧ g ≤ w'.heap.size)
    (first | exact hst | exact hk)
    (first
      | (go_at_call 10; refine (number_any _ _).mono ?_; rintro e w1 ⟨rfl, hb1⟩; have hk := keep6 (w := w) (g := g) (v0 := .int .i64 v) (v1 := .int .i64 p) (v2 := .int .i64 cv) (v3 := .string k) (v4 := .slice a0 l.length cap) (v5 := .slice a1 m.length cap1) (B := g) (by assumption) hb1; have HK := Lib.hid hk.2.2.2.2.2.2.1)
      | (go_at_call 23; refine (cert_any cv k _ l _ (HV.out.later (by rw [HG.out]; exact HK.out)) HKZ.out HS.out).mono ?_; rintro e w1 ⟨rfl, hb1⟩; have hk := keep6 (w := w) (g := g) (v0 := .int .i64 v) (v1 := .int .i64 p) (v2 := .int .i64 cv) (v3 := .string k) (v4 := .slice a0 l.length cap) (v5 := .slice a1 m.length cap1) (B := g) (by assumption) hb1; have HK := Lib.hid hk.2.2.2.2.2.2.1)
      | (go_at_call 38; refine (listreq_any m _ _ (HR.out.later (by rw [HG.out]; exact HK.out)) HM.out.2.1 HM.out.1 HM.out.2.2).mono ?_; rintro e w1 ⟨rfl, hb1⟩; have hk := keep6 (w := w) (g := g) (v0 := .int .i64 v) (v1 := .int .i64 p) (v2 := .int .i64 cv) (v3 := .string k) (v4 := .slice a0 l.length cap) (v5 := .slice a1 m.length cap1) (B := g) (by assumption) hb1))
  go_wp2_with fail
  go_ret
  exact ⟨rfl, by rw [HG.out]; exact hk.2.2.2.2.2.2.1⟩
end Go.Proofs.Ytbeodmijjanmeaa
