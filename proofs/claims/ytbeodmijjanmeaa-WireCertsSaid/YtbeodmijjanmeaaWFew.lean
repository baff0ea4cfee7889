/-
  The walks of the reference's FewSig, FewCert and FewBlock.
-/
import Derived.Test.YtbeodmijjanmeaaWBlock
open Go Go.RowKit
namespace WW
open BB
/-- a signature of a size that is looked at -/
def fewSig (ts : List ByteArray) : Bool := (ts.take 20).all (fun t => decide (t.size ≤ 30)) && decide (ts.length ≤ 10)
theorem all_take_snoc {α : Type} (p : α → Bool) (l : List α) (d : α) (i : Nat) (h : i < l.length) : (l.take (i + 1)).all p = ((l.take i).all p && p (l.getD i d)) := by
  rw [List.take_succ_eq_append_getElem h, List.all_append]
  simp [List.getD, List.getElem?_eq_getElem h]
theorem all_take_mono {α : Type} (p : α → Bool) (l : List α) (i j : Nat) (h : i ≤ j) (hf : (l.take i).all p = false) : (l.take j).all p = false := by
  rw [show i = min i j by omega, ← List.take_take] at hf
  rw [List.all_eq_false] at hf ⊢
  obtain ⟨x, hx, hp⟩ := hf
  exact ⟨x, List.mem_of_mem_take hx, hp⟩
/-- the cells cs in block g, and what was as it was -/
structure BoxAt (w : World) (g : Nat) (cs : List Value) (wr : World) : Prop where
  below : Below w.heap.size w wr
  lt : g < wr.heap.size
  cell : ∀ i u, cs[i]? = some u → wr.cell? ⟨g, i, none⟩ = some u
theorem box_mk (w : World) (cs : List Value) (t : TypeId) : BoxAt w w.heap.size cs (w.alloc (.cells cs.toArray t)) :=
  ⟨(Below.refl _ _).alloc (Nat.le_refl _) _, by simp, fun i u h => cell_new w cs.toArray t i u (by simpa using h)⟩
theorem BoxAt.on {w w1 w2 : World} {g : Nat} {cs : List Value} (h : BoxAt w g cs w1) (hb : Below w1.heap.size w1 w2) : BoxAt w g cs w2 :=
  ⟨h.below.trans (hb.mono h.below.size), Nat.lt_of_lt_of_le h.lt hb.size, fun i u hu => (hb.cell (p := ⟨g, i, none⟩) h.lt).trans (h.cell i u hu)⟩
/-- a certificate of a size that is looked at -/
def fewCert (k : ByteArray) (l : List (Int × List ByteArray)) : Bool := (l.take 20).all (fun p => fewSig p.2) && (decide (l.length ≤ 10) && decide (k.size ≤ 50))
/-- a block of a size that is looked at -/
def fewBlock (k : ByteArray) (l : List (Int × List ByteArray)) (m : List (Int × Int × ByteArray)) : Bool := (m.take 20).all (fun p => decide (p.2.2.size ≤ 60)) && (decide (m.length ≤ 6) && fewCert k l)
/-- the tags of each signature are no more than fit into memory -/
def MemS (l : List (Int × List ByteArray)) : Prop := l.length ≤ 9223372036854775807 ∧ ∀ i, i < l.length → (l.getD i (0, [])).2.length ≤ 9223372036854775807
end WW
namespace Go.Proofs.Ytbeodmijjanmeaa
open WW BB
set_option maxRecDepth 100000 in
set_option maxHeartbeats 2000000 in
theorem fewsig_any (f : Int) (tv : Value) (ts : List ByteArray) (w : World) (hv : StrsAt w tv ts) (hn : ts.length ≤ 9223372036854775807) :
    Calls Try.prog 41 #[.agg #[.int .i64 f, tv]] w fun e w' => e = .returned (.bool (fewSig ts)) ∧ Below w.heap.size w w' := by
  obtain ⟨X, hX⟩ : ∃ X, fewSig ts = X := ⟨_, rfl⟩
  rw [hX]
  have HX := Lib.hid hX
  have HV := Lib.hid hv
  have HN := Lib.hid hn
  obtain ⟨a0, cap, rfl, hx⟩ := hv
  clear hn hx hX
  go_enter Try.func41, Try.ntmps41
  go_wp2_with fail
  have c1 := cell_new w #[.int .i64 f, .slice a0 ts.length cap] 37 1 _ rfl
  have b0 : Below w.heap.size w (w.alloc (.cells #[.int .i64 f, .slice a0 ts.length cap] 37)) := (Below.refl _ _).alloc (Nat.le_refl _) _
  generalize w.alloc (.cells #[.int .i64 f, .slice a0 ts.length cap] 37) = w0 at *
  have B0 := Lib.hid b0
  obtain ⟨g, hg⟩ : ∃ g, w.heap.size = g := ⟨_, rfl⟩
  rw [hg] at c1 ⊢
  clear b0 hg
  go_loop [3] (fun v => ∃ i : Nat, i ≤ ts.length ∧ i ≤ 20 ∧ v = .int .i64 (i : Int) ∧ (ts.take i).all (fun t => decide (t.size ≤ 30)) = true) (fun v => ts.length - (intOf v).toNat)
  case atStart => exact ⟨0, Nat.zero_le _, by omega, rfl, rfl⟩
  case round =>
    obtain ⟨i, hi, h20, rfl, hall⟩ := hrel
    have HALL := Lib.hid hall
    have i0 : (0 : Int) ≤ (i : Int) := by omega
    have ib : (i : Int) ≤ 20 := by omega
    clear hall
    by_cases hlt : i < ts.length
    · have hlt' : (i : Int) < (ts.length : Int) := by omega
      by_cases h2 : i < 20
      · have h2' : (i : Int) < 20 := by omega
        obtain ⟨a1, cap1, he, hv | ⟨gb, off, rfl, hbw, hcell⟩⟩ := HV.out
        · rw [hv] at hlt; simp at hlt
        injection he with e1 _ e3
        subst e1 e3
        have hcl := (B0.out.cell (p := ⟨gb, off + i, none⟩) hbw).trans (hcell i hlt)
        have HSN := Lib.hid (all_take_snoc (fun t : ByteArray => decide (t.size ≤ 30)) ts ⟨#[]⟩ i hlt)
        obtain ⟨s, hs⟩ : ∃ s, ts.getD i ⟨#[]⟩ = s := ⟨_, rfl⟩
        rw [hs] at hcl HSN
        have HLT := Lib.hid hlt
        have H2 := Lib.hid h2
        clear hs hlt h2 hi h20 hcell hbw
        by_cases h30 : s.size ≤ 30
        · have t1 : ¬ (30 : Int) < (s.size : Int) := by omega
          have H30 := Lib.hid h30
          clear h30
          go_wp2_with fail
          go_round
          case rel => exact ⟨i + 1, by have := HLT.out; omega, by have := H2.out; omega, by go_num, by rw [HSN.out, HALL.out]; simpa using H30.out⟩
          case measure => have := HLT.out; simp [intOf]; omega
        · have t1 : (30 : Int) < (s.size : Int) := by omega
          have H30 := Lib.hid h30
          clear h30
          go_wp2_with fail
          go_ret
          refine ⟨?_, B0.out⟩
          rw [← HX.out]
          have h1 := HSN.out
          rw [show decide (s.size ≤ 30) = false by simpa using H30.out, Bool.and_false] at h1
          have h2 := all_take_mono _ ts (i + 1) 20 (by have := H2.out; omega) h1
          unfold fewSig
          rw [h2]; rfl
      · obtain rfl : i = 20 := by omega
        have h2' : ¬ ((20 : Nat) : Int) < 20 := by omega
        have H20 := Lib.hid hlt
        clear h2 hi h20 hlt
        have hl10 : ¬ (ts.length : Int) ≤ 10 := by have := H20.out; omega
        go_wp2_with fail
        go_ret
        refine ⟨?_, B0.out⟩
        rw [← HX.out]
        unfold fewSig
        rw [show decide (ts.length ≤ 10) = false by have := H20.out; simp; omega, Bool.and_false]
        rfl
    · obtain rfl : i = ts.length := by omega
      have hlt' : ¬ (ts.length : Int) < (ts.length : Int) := by omega
      rw [List.take_length] at HALL
      by_cases h10 : ts.length ≤ 10
      · have t1 : (ts.length : Int) ≤ 10 := by omega
        have H10 := Lib.hid h10
        clear hlt hi h20 h10
        go_wp2_with fail
        go_ret
        refine ⟨?_, B0.out⟩
        rw [← HX.out]
        unfold fewSig
        rw [List.take_of_length_le (by have := H10.out; omega), HALL.out, show decide (ts.length ≤ 10) = true by simpa using H10.out]
        rfl
      · have t1 : ¬ (ts.length : Int) ≤ 10 := by omega
        have H10 := Lib.hid h10
        clear hlt hi h20 h10
        go_wp2_with fail
        go_ret
        refine ⟨?_, B0.out⟩
        rw [← HX.out]
        unfold fewSig
        rw [show decide (ts.length ≤ 10) = false by simpa using H10.out, Bool.and_false]
        rfl
set_option maxRecDepth 100000 in
set_option maxHeartbeats 4000000 in
theorem fewcert_any (v : Int) (k : ByteArray) (sv : Value) (l : List (Int × List ByteArray)) (w : World) (hv : SigsAt w sv l) (hn : MemS l) (hk : k.size ≤ 9223372036854775807) :
    Calls Try.prog 22 #[.agg #[.int .i64 v, .string k, sv]] w fun e w' => e = .returned (.bool (fewCert k l)) ∧ Below w.heap.size w w' := by
  obtain ⟨X, hX⟩ : ∃ X, fewCert k l = X := ⟨_, rfl⟩
  rw [hX]
  have HX := Lib.hid hX
  have HV := Lib.hid hv
  have HN := Lib.hid hn
  have HK := Lib.hid hk
  obtain ⟨a0, cap, rfl, hx⟩ := hv
  clear hn hx hX hk
  go_enter Try.func22, Try.ntmps22
  go_wp2_with fail
  have B0 := box_mk w [.int .i64 v, .string k, .slice a0 l.length cap] 28
  rw [show [Value.int .i64 v, .string k, .slice a0 l.length cap].toArray = #[.int .i64 v, .string k, .slice a0 l.length cap] from rfl] at B0
  obtain ⟨g, hg⟩ : ∃ g, w.heap.size = g := ⟨_, rfl⟩
  rw [hg] at B0 ⊢
  clear hg
  generalize w.alloc (.cells #[.int .i64 v, .string k, .slice a0 l.length cap] 28) = w0 at *
  go_loopw [3] (fun x wr => ∃ i : Nat, i ≤ l.length ∧ i ≤ 20 ∧ x = .int .i64 (i : Int) ∧ (l.take i).all (fun p => fewSig p.2) = true ∧ BoxAt w g [.int .i64 v, .string k, .slice a0 l.length cap] wr) (fun x _ => l.length - (intOf x).toNat)
  case atStart => exact ⟨0, Nat.zero_le _, by omega, rfl, rfl, B0⟩
  case round =>
    clear B0
    clear w0
    obtain ⟨i, hi, h20, rfl, hall, hbox⟩ := hrel
    have HALL := Lib.hid hall
    have HBX := Lib.hid hbox
    have i0 : (0 : Int) ≤ (i : Int) := by omega
    have ib : (i : Int) ≤ 20 := by omega
    have c1 := hbox.cell 1 _ rfl
    have c2 := hbox.cell 2 _ rfl
    clear hall hbox
    by_cases hlt : i < l.length
    · have hlt' : (i : Int) < (l.length : Int) := by omega
      by_cases h2 : i < 20
      · have h2' : (i : Int) < 20 := by omega
        obtain ⟨a1, cap1, he, hv | ⟨gb, off, rfl, hbw, hcell⟩⟩ := HV.out
        · rw [hv] at hlt; simp at hlt
        injection he with e1 _ e3
        subst e1 e3
        obtain ⟨tv, hc0, hc1, hts⟩ := hcell i hlt
        have hcl0 := (HBX.out.below.cell (p := ⟨gb, off + i * 2, none⟩) hbw).trans hc0
        have hcl1 := (HBX.out.below.cell (p := ⟨gb, off + i * 2 + 1, none⟩) hbw).trans hc1
        have HTS := Lib.hid (hts.later HBX.out.below)
        have HSN := Lib.hid (all_take_snoc (fun p : Int × List ByteArray => fewSig p.2) l (0, []) i hlt)
        have HMi := Lib.hid (HN.out.2 i hlt)
        obtain ⟨f, hf⟩ : ∃ f, (l.getD i (0, [])).1 = f := ⟨_, rfl⟩
        obtain ⟨ts, ht⟩ : ∃ ts, (l.getD i (0, [])).2 = ts := ⟨_, rfl⟩
        rw [hf] at hcl0
        rw [ht] at HTS HMi HSN
        have HLT := Lib.hid hlt
        have H2 := Lib.hid h2
        obtain ⟨ta, tcap, htv, _⟩ := HTS.out
        subst htv
        clear hf ht hlt h2 hi h20 hcell hbw hc0 hc1 hts
        go_wp2_with fail
        refine (fewsig_any f _ ts wr HTS.out HMi.out).mono ?_
        rintro e w4 ⟨rfl, hb4⟩
        have HB4 := Lib.hid (HBX.out.on hb4)
        clear hb4 HBX
        rcases hfs : fewSig ts with _ | _
        · have HF := Lib.hid hfs
          clear hfs
          go_wp2_with fail
          go_ret
          refine ⟨?_, HB4.out.below⟩
          rw [← HX.out]
          have h1 := HSN.out
          rw [HF.out, Bool.and_false] at h1
          have h2 := all_take_mono _ l (i + 1) 20 (by have := H2.out; omega) h1
          unfold fewCert
          rw [h2]; rfl
        · have HF := Lib.hid hfs
          clear hfs
          go_wp2_with fail
          go_roundw
          case rel => exact ⟨i + 1, by have := HLT.out; omega, by have := H2.out; omega, by go_num, by rw [HSN.out, HALL.out, HF.out]; rfl, HB4.out⟩
          case measure => have := HLT.out; simp [intOf]; omega
      · obtain rfl : i = 20 := by omega
        have h2' : ¬ ((20 : Nat) : Int) < 20 := by omega
        have H20 := Lib.hid hlt
        clear h2 hi h20 hlt
        have hl10 : ¬ (l.length : Int) ≤ 10 := by have := H20.out; omega
        go_wp2_with fail
        go_ret
        refine ⟨?_, HBX.out.below⟩
        rw [← HX.out]
        unfold fewCert
        rw [show decide (l.length ≤ 10) = false by have := H20.out; simp; omega, Bool.false_and, Bool.and_false]
        rfl
    · obtain rfl : i = l.length := by omega
      have hlt' : ¬ (l.length : Int) < (l.length : Int) := by omega
      rw [List.take_length] at HALL
      by_cases h10 : l.length ≤ 10
      · have t1 : (l.length : Int) ≤ 10 := by omega
        have H10 := Lib.hid h10
        clear hlt hi h20 h10
        by_cases hk50 : k.size ≤ 50
        · have t2 : (k.size : Int) ≤ 50 := by omega
          have HK50 := Lib.hid hk50
          clear hk50
          go_wp2_with fail
          go_ret
          refine ⟨?_, HBX.out.below⟩
          rw [← HX.out]
          unfold fewCert
          rw [List.take_of_length_le (by have := H10.out; omega), HALL.out, show decide (l.length ≤ 10) = true by simpa using H10.out, show decide (k.size ≤ 50) = true by simpa using HK50.out]
          rfl
        · have t2 : ¬ (k.size : Int) ≤ 50 := by omega
          have HK50 := Lib.hid hk50
          clear hk50
          go_wp2_with fail
          go_ret
          refine ⟨?_, HBX.out.below⟩
          rw [← HX.out]
          unfold fewCert
          rw [show decide (k.size ≤ 50) = false by simpa using HK50.out, Bool.and_false, Bool.and_false]
          rfl
      · have t1 : ¬ (l.length : Int) ≤ 10 := by omega
        have H10 := Lib.hid h10
        clear hlt hi h20 h10
        go_wp2_with fail
        go_ret
        refine ⟨?_, HBX.out.below⟩
        rw [← HX.out]
        unfold fewCert
        rw [show decide (l.length ≤ 10) = false by simpa using H10.out, Bool.false_and, Bool.and_false]
        rfl
end Go.Proofs.Ytbeodmijjanmeaa
