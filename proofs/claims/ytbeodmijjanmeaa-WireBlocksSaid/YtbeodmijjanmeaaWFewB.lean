/-
  The walk of the reference's FewBlock.
-/
import Derived.Test.YtbeodmijjanmeaaWFew
open Go Go.RowKit
namespace Go.Proofs.Ytbeodmijjanmeaa
open WW BB
set_option maxRecDepth 100000 in
set_option maxHeartbeats 4000000 in
theorem fewblock_any (v p cv : Int) (k : ByteArray) (sv rv : Value) (l : List (Int × List ByteArray)) (m : List (Int × Int × ByteArray)) (w : World) (hv : SigsAt w sv l) (hr : ReqsAt w rv m) (hn : MemS l) (hk : k.size ≤ 9223372036854775807) (hm : m.length ≤ 9223372036854775807) :
    Calls Try.prog 15 #[.agg #[.int .i64 v, .int .i64 p, .int .i64 cv, .string k, sv, rv]] w fun e w' => e = .returned (.bool (fewBlock k l m)) ∧ Below w.heap.size w w' := by
  obtain ⟨X, hX⟩ : ∃ X, fewBlock k l m = X := ⟨_, rfl⟩
  rw [hX]
  have HX := Lib.hid hX
  have HV := Lib.hid hv
  have HN := Lib.hid hn
  have HK := Lib.hid hk
  have HR := Lib.hid hr
  have HM := Lib.hid hm
  obtain ⟨a0, cap, rfl, hx⟩ := hv
  obtain ⟨a1, cap1, rfl, hx1⟩ := hr
  clear hn hx hX hk hx1 hm
  go_enter Try.func15, Try.ntmps15
  go_wp2_with fail
  have B0 := box_mk w [.int .i64 v, .int .i64 p, .int .i64 cv, .string k, .slice a0 l.length cap, .slice a1 m.length cap1] 31
  rw [show [Value.int .i64 v, .int .i64 p, .int .i64 cv, .string k, .slice a0 l.length cap, .slice a1 m.length cap1].toArray = #[.int .i64 v, .int .i64 p, .int .i64 cv, .string k, .slice a0 l.length cap, .slice a1 m.length cap1] from rfl] at B0
  obtain ⟨g, hg⟩ : ∃ g, w.heap.size = g := ⟨_, rfl⟩
  rw [hg] at B0 ⊢
  clear hg
  generalize w.alloc (.cells #[.int .i64 v, .int .i64 p, .int .i64 cv, .string k, .slice a0 l.length cap, .slice a1 m.length cap1] 31) = w0 at *
  go_loopw [3] (fun x wr => ∃ i : Nat, i ≤ m.length ∧ i ≤ 20 ∧ x = .int .i64 (i : Int) ∧ (m.take i).all (fun p => decide (p.2.2.size ≤ 60)) = true ∧ BoxAt w g [.int .i64 v, .int .i64 p, .int .i64 cv, .string k, .slice a0 l.length cap, .slice a1 m.length cap1] wr) (fun x _ => m.length - (intOf x).toNat)
  case atStart => exact ⟨0, Nat.zero_le _, by omega, rfl, rfl, B0⟩
  case round =>
    clear B0
    clear w0
    obtain ⟨i, hi, h20, rfl, hall, hbox⟩ := hrel
    have HALL := Lib.hid hall
    have HBX := Lib.hid hbox
    have i0 : (0 : Int) ≤ (i : Int) := by omega
    have ib : (i : Int) ≤ 20 := by omega
    have c2 := hbox.cell 2 _ rfl
    have c3 := hbox.cell 3 _ rfl
    have c4 := hbox.cell 4 _ rfl
    have c5 := hbox.cell 5 _ rfl
    clear hall hbox
    by_cases hlt : i < m.length
    · have hlt' : (i : Int) < (m.length : Int) := by omega
      by_cases h2 : i < 20
      · have h2' : (i : Int) < 20 := by omega
        obtain ⟨a2, cap2, he, hv | ⟨gb, off, rfl, hbw, hcell⟩⟩ := HR.out
        · rw [hv] at hlt; simp at hlt
        injection he with e1 _ e3
        subst e1 e3
        obtain ⟨hc0, hc1, hc2⟩ := hcell i hlt
        have hcl2 := (HBX.out.below.cell (p := ⟨gb, off + i * 3 + 2, none⟩) hbw).trans hc2
        have HSN := Lib.hid (all_take_snoc (fun p : Int × Int × ByteArray => decide (p.2.2.size ≤ 60)) m (0, 0, ⟨#[]⟩) i hlt)
        obtain ⟨s, hs⟩ : ∃ s, (m.getD i (0, 0, ⟨#[]⟩)).2.2 = s := ⟨_, rfl⟩
        rw [hs] at hcl2 HSN
        have HLT := Lib.hid hlt
        have H2 := Lib.hid h2
        clear hs hlt h2 hi h20 hcell hbw hc0 hc1 hc2
        by_cases h60 : s.size ≤ 60
        · have t1 : ¬ (60 : Int) < (s.size : Int) := by omega
          have H60 := Lib.hid h60
          clear h60
          go_wp2_with fail
          go_roundw
          case rel => exact ⟨i + 1, by have := HLT.out; omega, by have := H2.out; omega, by go_num, by rw [HSN.out, HALL.out]; simpa using H60.out, HBX.out⟩
          case measure => have := HLT.out; simp [intOf]; omega
        · have t1 : (60 : Int) < (s.size : Int) := by omega
          have H60 := Lib.hid h60
          clear h60
          go_wp2_with fail
          go_ret
          refine ⟨?_, HBX.out.below⟩
          rw [← HX.out]
          have h1 := HSN.out
          rw [show decide (s.size ≤ 60) = false by simpa using H60.out, Bool.and_false] at h1
          have h2 := all_take_mono _ m (i + 1) 20 (by have := H2.out; omega) h1
          unfold fewBlock
          rw [h2]; rfl
      · obtain rfl : i = 20 := by omega
        have h2' : ¬ ((20 : Nat) : Int) < 20 := by omega
        have H20 := Lib.hid hlt
        clear h2 hi h20 hlt
        have hl10 : ¬ (m.length : Int) ≤ 6 := by have := H20.out; omega
        go_wp2_with fail
        go_ret
        refine ⟨?_, HBX.out.below⟩
        rw [← HX.out]
        unfold fewBlock
        rw [show decide (m.length ≤ 6) = false by have := H20.out; simp; omega, Bool.false_and, Bool.and_false]
        rfl
    · obtain rfl : i = m.length := by omega
      have hlt' : ¬ (m.length : Int) < (m.length : Int) := by omega
      rw [List.take_length] at HALL
      by_cases h10 : m.length ≤ 6
      · have t1 : (m.length : Int) ≤ 6 := by omega
        have H10 := Lib.hid h10
        clear hlt hi h20 h10
        go_wp2_with fail
        refine (fewcert_any cv k _ l wr (HV.out.later HBX.out.below) HN.out HK.out).mono ?_
        rintro e w4 ⟨rfl, hb4⟩
        have HB4 := Lib.hid (HBX.out.on hb4)
        clear hb4
        have hfin : X = fewCert k l := by
          rw [← HX.out]
          unfold fewBlock
          rw [List.take_of_length_le (by have := H10.out; omega), HALL.out, show decide (m.length ≤ 6) = true by simpa using H10.out, Bool.true_and, Bool.true_and]
        have HFIN := Lib.hid hfin
        clear hfin
        obtain ⟨Y, hY⟩ : ∃ Y, fewCert k l = Y := ⟨_, rfl⟩
        rw [hY] at HFIN ⊢
        clear hY
        go_wp2_with fail
        go_ret
        exact ⟨by rw [HFIN.out]; rfl, HB4.out.below⟩
      · have t1 : ¬ (m.length : Int) ≤ 6 := by omega
        have H10 := Lib.hid h10
        clear hlt hi h20 h10
        go_wp2_with fail
        go_ret
        refine ⟨?_, HBX.out.below⟩
        rw [← HX.out]
        unfold fewBlock
        rw [show decide (m.length ≤ 6) = false by simpa using H10.out, Bool.false_and, Bool.and_false]
        rfl
end Go.Proofs.Ytbeodmijjanmeaa
