/-
  The walks of a signature's and a certificate's bytes.
-/
import Derived.Test.YtbeodmijjanmeaaWList
open Go Go.RowKit
namespace WW
open BB
/-- a signature's bytes -/
def sigB (f : Int) (ts : List ByteArray) : ByteArray := num f ++ listB ts
/-- v is a slice of signatures -/
def SigsAt (w : World) (v : Value) (l : List (Int × List ByteArray)) : Prop :=
  ∃ a0 cap, v = .slice a0 l.length cap ∧ (l = [] ∨ ∃ b off, a0 = some ⟨b, off, none⟩ ∧ b < w.heap.size ∧
    ∀ i, i < l.length → ∃ tv, w.cell? ⟨b, off + i * 2, none⟩ = some (.int .i64 (l.getD i (0, [])).1) ∧ w.cell? ⟨b, off + i * 2 + 1, none⟩ = some tv ∧ StrsAt w tv (l.getD i (0, [])).2)
theorem SigsAt.later {w w' : World} {v : Value} {l : List (Int × List ByteArray)} (h : SigsAt w v l) (hb : Below w.heap.size w w') : SigsAt w' v l := by
  obtain ⟨a0, cap, rfl, h | ⟨b, off, rfl, hl, hc⟩⟩ := h
  · exact ⟨a0, cap, rfl, Or.inl h⟩
  · refine ⟨_, cap, rfl, Or.inr ⟨b, off, rfl, Nat.lt_of_lt_of_le hl hb.size, fun i hi => ?_⟩⟩
    obtain ⟨tv, h1, h2, h3⟩ := hc i hi
    exact ⟨tv, (hb.cell (p := ⟨b, off + i * 2, none⟩) hl).trans h1, (hb.cell (p := ⟨b, off + i * 2 + 1, none⟩) hl).trans h2, h3.later hb⟩
/-- the signatures' bytes -/
def sigsB (l : List (Int × List ByteArray)) : List ByteArray := l.map fun p => sigB p.1 p.2
theorem keep2 {w W w1 : World} {g : Nat} {v0 v1 : Value} {B : Nat} (h : W.cell? ⟨g, 0, none⟩ = some v0 ∧ W.cell? ⟨g, 1, none⟩ = some v1 ∧ Below B w W ∧ B ≤ W.heap.size) (hb : Below W.heap.size W w1) :
    w1.cell? ⟨g, 0, none⟩ = some v0 ∧ w1.cell? ⟨g, 1, none⟩ = some v1 ∧ Below B w w1 ∧ B ≤ w1.heap.size := by
  have hl := World.block_lt_of_cell? W _ h.1
  exact ⟨(hb.cell (p := ⟨g, 0, none⟩) hl).trans h.1, (hb.cell (p := ⟨g, 1, none⟩) hl).trans h.2.1, h.2.2.1.trans (hb.mono h.2.2.2), Nat.le_trans h.2.2.2 hb.size⟩
theorem flat_size (xs : List ByteArray) : (listB xs).size = 4 + (flat xs).length := by
  show (listL xs).toArray.size = _
  rw [List.size_toArray, listL, List.length_append]; rfl
end WW
namespace Go.Proofs.Ytbeodmijjanmeaa
open WW BB
set_option maxRecDepth 100000 in
set_option maxHeartbeats 2000000 in
theorem sig_any (f : Int) (tv : Value) (ts : List ByteArray) (w : World) (hv : StrsAt w tv ts) (hs : (flat ts).length ≤ 500000) (hn : ts.length ≤ 1000) :
    Calls Try.prog 43 #[.agg #[.int .i64 f, tv]] w fun e w' => e = .returned (.string (sigB f ts)) ∧ Below w.heap.size w w' := by
  have h1 : ¬ 9223372036854775807 < (num f).size + (listB ts).size := by rw [num_size, flat_size]; omega
  have HV := Lib.hid hv
  have HS := Lib.hid hs
  have HN := Lib.hid hn
  obtain ⟨a0, cap, rfl, hx⟩ := hv
  clear hs hn hx
  go_enter Try.func43, Try.ntmps43
  go_wp2_with fail
  have c0 := cell_new w #[.int .i64 f, .slice a0 ts.length cap] 37 0 _ rfl
  have c1 := cell_new w #[.int .i64 f, .slice a0 ts.length cap] 37 1 _ rfl
  have b0 : Below w.heap.size w (w.alloc (.cells #[.int .i64 f, .slice a0 ts.length cap] 37)) := (Below.refl _ _).alloc (Nat.le_refl _) _
  generalize w.alloc (.cells #[.int .i64 f, .slice a0 ts.length cap] 37) = w0 at *
  have z0 := b0.size
  obtain ⟨g, hg⟩ : ∃ g, w.heap.size = g := ⟨_, rfl⟩
  rw [hg] at c0 c1 b0 z0 ⊢
  have HG := Lib.hid hg
  clear hg
  have hst : w0.drew.cell? ⟨g, 0, none⟩ = some (.int .i64 f) ∧ w0.drew.cell? ⟨g, 1, none⟩ = some (.slice a0 ts.length cap) ∧ Below g w w0.drew ∧ g ≤ w0.drew.heap.size := ⟨c0, c1, b0.drew, z0⟩
  go_region_held3 (fun w' => w'.cell? ⟨g, 0, none⟩ = some (.int .i64 f) ∧ w'.cell? ⟨g, 1, none⟩ = some (.slice a0 ts.length cap) ∧ Below g w w' ∧ g ≤ w'.heap.size)
    (first | exact hst | exact hk)
    (first
      | (go_at_call 10; refine (number_any _ _).mono ?_; rintro e w1 ⟨rfl, hb1⟩; have hk := keep2 (w := w) (g := g) (v0 := .int .i64 f) (v1 := .slice a0 ts.length cap) (B := g) (by assumption) hb1; have HK := Lib.hid hk.2.2.1)
      | (go_at_call 69; refine (liststr_any ts _ _ (HV.out.later (by rw [HG.out]; exact HK.out)) HS.out HN.out).mono ?_; rintro e w1 ⟨rfl, hb1⟩; have hk := keep2 (w := w) (g := g) (v0 := .int .i64 f) (v1 := .slice a0 ts.length cap) (B := g) (by assumption) hb1))
  go_wp2_with fail
  go_ret
  exact ⟨rfl, by rw [HG.out]; exact hk.2.2.1⟩
set_option maxRecDepth 100000 in
set_option maxHeartbeats 2000000 in
theorem listsig_any (l : List (Int × List ByteArray)) (v : Value) (w : World) (hv : SigsAt w v l) (hs : (flat (sigsB l)).length ≤ 500000) (hn : l.length ≤ 1000) (hsm : ∀ i, i < l.length → (flat (l.getD i (0, [])).2).length ≤ 500000 ∧ (l.getD i (0, [])).2.length ≤ 1000) :
    Calls Try.prog 42 #[v, .func (.func 43) #[] #[]] w fun e w' => e = .returned (.string (listB (sigsB l))) ∧ Below w.heap.size w w' := by
  have HV := Lib.hid hv
  have HS := Lib.hid hs
  have HN := Lib.hid hn
  have HM := Lib.hid hsm
  have hXL : (sigsB l).length = l.length := by simp [sigsB]
  have HXL := Lib.hid hXL
  obtain ⟨a0, cap, rfl, hx⟩ := hv
  clear hs hn hx hsm hXL
  go_enter Try.func42, Try.ntmps42
  go_wp2_with fail
  obtain ⟨b, hb⟩ : ∃ b, w.heap.size = b := ⟨_, rfl⟩
  have I0 : Lib.IsBuilder 80 5 b b [] (w.alloc (.cells #[.pointer none, .slice none 0 0] 80)) := by rw [← hb]; exact Lib.fresh_isBuilder _ _ w
  have b0 := (Below.refl w.heap.size w).alloc (Nat.le_refl _) (.cells #[.pointer none, .slice none 0 0] 80)
  have z0 : b < (w.alloc (.cells #[.pointer none, .slice none 0 0] 80)).heap.size := by rw [← hb]; simp
  have HB := Lib.hid hb
  rw [hb]
  clear hb
  generalize w.alloc (.cells #[.pointer none, .slice none 0 0] 80) = w1 at *
  refine (number_in l.length (by have := HN.out; omega) w1).mono ?_
  rintro e w2 ⟨rfl, hb2⟩
  have I2 := Lib.hid (isBuilder_on I0 hb2)
  have B2 := Lib.hid (b0.trans (hb2.mono b0.size))
  have Z2 := Lib.hid (Nat.lt_of_lt_of_le z0 hb2.size)
  clear I0 b0 z0 hb2
  go_wp2_with fail
  refine (writestr_any b b [] (be4 l.length) w2 I2.out (by show 0 + 4 ≤ _; omega) (Nat.le_of_lt Z2.out)).mono ?_
  rintro e w3 ⟨rfl, hI3, hb3⟩
  have L3 : Hid (LAt w b (sigsB l) 0 w3) := Lib.hid ⟨B2.out.trans (hb3.mono (by rw [HB.out]; exact Nat.le_refl _)), by rw [HXL.out]; simpa [flat, Lib.strCells_eq] using hI3, Nat.lt_of_lt_of_le Z2.out hb3.size⟩
  clear hI3 hb3 I2 B2 Z2
  go_wp2_with fail
  have L3' := L3.out
  clear L3
  go_loopw [14] (fun v wr => ∃ i : Nat, i ≤ l.length ∧ v = .int .i64 (i : Int) ∧ LAt w b (sigsB l) i wr) (fun v _ => l.length - (intOf v).toNat)
  case atStart => exact ⟨0, Nat.zero_le _, rfl, L3'⟩
  case round =>
    clear L3'
    clear w3
    obtain ⟨i, hi, rfl, hL⟩ := hrel
    have HL := Lib.hid hL
    by_cases hlt : i < l.length
    · have hlt' : (i : Int) < (l.length : Int) := by omega
      have i0 : (0 : Int) ≤ (i : Int) := by omega
      have ib : (i : Int) ≤ 1000 := by have := HN.out; omega
      obtain ⟨a1, cap1, he, hv | ⟨gb, off, rfl, hbw, hcell⟩⟩ := HV.out
      · rw [hv] at hlt; simp at hlt
      injection he with e1 _ e3
      subst e1 e3
      obtain ⟨tv, hc0, hc1, hts⟩ := hcell i hlt
      have hcl0 := (hL.below.cell (p := ⟨gb, off + i * 2, none⟩) hbw).trans hc0
      have hcl1 := (hL.below.cell (p := ⟨gb, off + i * 2 + 1, none⟩) hbw).trans hc1
      have HTS := Lib.hid (hts.later hL.below')
      have HFS := Lib.hid (flat_snoc (sigsB l) i (by rw [HXL.out]; exact hlt))
      have HLE := Lib.hid (flat_take_le (sigsB l) (i + 1))
      have hgs : (sigsB l).getD i ⟨#[]⟩ = sigB (l.getD i (0, [])).1 (l.getD i (0, [])).2 := by simp [sigsB, List.getD, List.getElem?_eq_getElem hlt]
      have HMi := Lib.hid (HM.out i hlt)
      obtain ⟨f, hf⟩ : ∃ f, (l.getD i (0, [])).1 = f := ⟨_, rfl⟩
      obtain ⟨ts, ht⟩ : ∃ ts, (l.getD i (0, [])).2 = ts := ⟨_, rfl⟩
      rw [hf] at hcl0 hgs
      rw [ht] at HTS HMi hgs
      obtain ⟨s, hs⟩ : ∃ s, sigB f ts = s := ⟨_, rfl⟩
      rw [hgs, hs] at HFS
      have HSS := Lib.hid hs
      have HLT := Lib.hid hlt
      obtain ⟨ta, tcap, htv, _⟩ := HTS.out
      subst htv
      clear hgs hf ht hs hL hi hlt hcell hbw hc0 hc1 hts
      have bA := (Below.refl wr.heap.size wr).alloc (Nat.le_refl _) (.cells #[.int .i64 f, .slice ta ts.length tcap] 37)
      have LA := Lib.hid (HL.out.on bA)
      have TA := Lib.hid (HTS.out.later bA)
      clear bA
      go_wp2_with fail
      generalize wr.alloc (.cells #[.int .i64 f, .slice ta ts.length tcap] 37) = wq at *
      refine (sig_any f _ ts wq TA.out HMi.out.1 HMi.out.2).mono ?_
      rintro e w4 ⟨rfl, hb4⟩
      rw [HSS.out]
      have L4 := Lib.hid (LA.out.on hb4)
      clear hb4
      go_wp2_with fail
      refine (writestr_any b b _ s w4 L4.out.bld (by have h1 := HLE.out; have h2 := HS.out; have h3 := HFS.out; rw [h3, List.length_append] at h1; have : s.data.toList.length = s.size := by rw [Array.length_toList]; rfl
                                                     rw [Lib.byteCells_length, List.length_append]; show 4 + _ + _ ≤ _; omega) (Nat.le_of_lt L4.out.lt)).mono ?_
      rintro e w5 ⟨rfl, hI5, hb5⟩
      have L5 : Hid (LAt w b (sigsB l) (i + 1) w5) := Lib.hid ⟨L4.out.below.trans (hb5.mono (by rw [HB.out]; exact Nat.le_refl _)), by rw [HFS.out, ← List.append_assoc, Lib.byteCells_append]; exact hI5, Nat.lt_of_lt_of_le L4.out.lt hb5.size⟩
      clear hI5 hb5 hcl0 hcl1
      go_wp2_with fail
      go_roundw
      case rel => exact ⟨i + 1, by have := HLT.out; omega, by go_num, L5.out⟩
      case measure => have := HLT.out; simp [intOf]; omega
    · obtain rfl : i = l.length := by omega
      have hlt' : ¬ (l.length : Int) < (l.length : Int) := by omega
      have hbs := hL.bld
      rw [← HXL.out, List.take_length] at hbs
      have HBS := Lib.hid hbs
      clear hL hi hlt hbs
      go_wp2_with fail
      refine (bstring_any b b _ wr HBS.out (be4_ne _ _)).mono ?_
      rintro e w4 ⟨rfl, hb4⟩
      go_wp2_with fail
      go_ret
      exact ⟨rfl, HL.out.below.trans (hb4.mono (by rw [HB.out]; exact Nat.le_refl _))⟩
end Go.Proofs.Ytbeodmijjanmeaa
