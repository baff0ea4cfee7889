/-
  The walk of a batch's bytes.
-/
import Derived.Test.YtbeodmijjanmeaaWSig
open Go Go.RowKit
namespace WW
open BB
/-- v is a slice of requests -/
def ReqsAt (w : World) (v : Value) (l : List (Int × Int × ByteArray)) : Prop :=
  ∃ a0 cap, v = .slice a0 l.length cap ∧ (l = [] ∨ ∃ b off, a0 = some ⟨b, off, none⟩ ∧ b < w.heap.size ∧
    ∀ i, i < l.length → w.cell? ⟨b, off + i * 3, none⟩ = some (.int .i64 (l.getD i (0, 0, ⟨#[]⟩)).1) ∧ w.cell? ⟨b, off + i * 3 + 1, none⟩ = some (.int .i64 (l.getD i (0, 0, ⟨#[]⟩)).2.1) ∧ w.cell? ⟨b, off + i * 3 + 2, none⟩ = some (.string (l.getD i (0, 0, ⟨#[]⟩)).2.2))
theorem ReqsAt.later {w w' : World} {v : Value} {l : List (Int × Int × ByteArray)} (h : ReqsAt w v l) (hb : Below w.heap.size w w') : ReqsAt w' v l := by
  obtain ⟨a0, cap, rfl, h | ⟨b, off, rfl, hl, hc⟩⟩ := h
  · exact ⟨a0, cap, rfl, Or.inl h⟩
  · refine ⟨_, cap, rfl, Or.inr ⟨b, off, rfl, Nat.lt_of_lt_of_le hl hb.size, fun i hi => ?_⟩⟩
    obtain ⟨h1, h2, h3⟩ := hc i hi
    exact ⟨(hb.cell (p := ⟨b, off + i * 3, none⟩) hl).trans h1, (hb.cell (p := ⟨b, off + i * 3 + 1, none⟩) hl).trans h2, (hb.cell (p := ⟨b, off + i * 3 + 2, none⟩) hl).trans h3⟩
/-- the requests' bytes -/
def reqsB (l : List (Int × Int × ByteArray)) : List ByteArray := l.map fun p => reqB p.1 p.2.1 p.2.2
end WW
namespace Go.Proofs.Ytbeodmijjanmeaa
open WW BB
set_option maxRecDepth 100000 in
set_option maxHeartbeats 2000000 in
theorem listreq_any (l : List (Int × Int × ByteArray)) (v : Value) (w : World) (hv : ReqsAt w v l) (hs : (flat (reqsB l)).length ≤ 500000) (hn : l.length ≤ 1000) (hsm : ∀ i, i < l.length → (l.getD i (0, 0, ⟨#[]⟩)).2.2.size ≤ 500000) :
    Calls Try.prog 38 #[v, .func (.func 18) #[] #[]] w fun e w' => e = .returned (.string (listB (reqsB l))) ∧ Below w.heap.size w w' := by
  have HV := Lib.hid hv
  have HS := Lib.hid hs
  have HN := Lib.hid hn
  have HM := Lib.hid hsm
  have hXL : (reqsB l).length = l.length := by simp [reqsB]
  have HXL := Lib.hid hXL
  obtain ⟨a0, cap, rfl, hx⟩ := hv
  clear hs hn hx hsm hXL
  go_enter Try.func38, Try.ntmps38
  go_wp2_with fail
  obtain ⟨b, hb⟩ : ∃ b, w.heap.size = b := ⟨_, rfl⟩
  have I0 : Lib.IsBuilder 80 5 b b [] (w.alloc (.cells #[.pointer none, .slice none 0 0] 80)) := by rw [← hb]; exact Lib.fresh_isBuilder _ _ w
  have b0 := (Below.refl w.heap.size w).alloc (Nat.le_refl _) (.cells #[.pointer none, .slice none 0 0] 80)
  have z0 : b < (w.alloc (.cells #[.pointer none, .slice none 0 0] 80)).heap.size := by rw [← hb]; simp
  have HB := Lib.hid hb
  rw [hb]
  clear hb
  generalize w.alloc (.cells #[.pointer none, .slice none 0 0] 80) = w1 at *
  refine (number_in l.length (by have := HN.out; omega) w1).mono ?_
  rintro e w2 ⟨rfl, hb2⟩
  have I2 := Lib.hid (isBuilder_on I0 hb2)
  have B2 := Lib.hid (b0.trans (hb2.mono b0.size))
  have Z2 := Lib.hid (Nat.lt_of_lt_of_le z0 hb2.size)
  clear I0 b0 z0 hb2
  go_wp2_with fail
  refine (writestr_any b b [] (be4 l.length) w2 I2.out (by show 0 + 4 ≤ _; omega) (Nat.le_of_lt Z2.out)).mono ?_
  rintro e w3 ⟨rfl, hI3, hb3⟩
  have L3 : Hid (LAt w b (reqsB l) 0 w3) := Lib.hid ⟨B2.out.trans (hb3.mono (by rw [HB.out]; exact Nat.le_refl _)), by rw [HXL.out]; simpa [flat, Lib.strCells_eq] using hI3, Nat.lt_of_lt_of_le Z2.out hb3.size⟩
  clear hI3 hb3 I2 B2 Z2
  go_wp2_with fail
  have L3' := L3.out
  clear L3
  go_loopw [14] (fun v wr => ∃ i : Nat, i ≤ l.length ∧ v = .int .i64 (i : Int) ∧ LAt w b (reqsB l) i wr) (fun v _ => l.length - (intOf v).toNat)
  case atStart => exact ⟨0, Nat.zero_le _, rfl, L3'⟩
  case round =>
    clear L3'
    clear w3
    obtain ⟨i, hi, rfl, hL⟩ := hrel
    have HL := Lib.hid hL
    by_cases hlt : i < l.length
    · have hlt' : (i : Int) < (l.length : Int) := by omega
      have i0 : (0 : Int) ≤ (i : Int) := by omega
      have ib : (i : Int) ≤ 1000 := by have := HN.out; omega
      obtain ⟨a1, cap1, he, hv | ⟨gb, off, rfl, hbw, hcell⟩⟩ := HV.out
      · rw [hv] at hlt; simp at hlt
      injection he with e1 _ e3
      subst e1 e3
      obtain ⟨hc0, hc1, hc2⟩ := hcell i hlt
      have hcl0 := (hL.below.cell (p := ⟨gb, off + i * 3, none⟩) hbw).trans hc0
      have hcl1 := (hL.below.cell (p := ⟨gb, off + i * 3 + 1, none⟩) hbw).trans hc1
      have hcl2 := (hL.below.cell (p := ⟨gb, off + i * 3 + 2, none⟩) hbw).trans hc2
      have HFS := Lib.hid (flat_snoc (reqsB l) i (by rw [HXL.out]; exact hlt))
      have HLE := Lib.hid (flat_take_le (reqsB l) (i + 1))
      have hgs : (reqsB l).getD i ⟨#[]⟩ = reqB (l.getD i (0, 0, ⟨#[]⟩)).1 (l.getD i (0, 0, ⟨#[]⟩)).2.1 (l.getD i (0, 0, ⟨#[]⟩)).2.2 := by simp [reqsB, List.getD, List.getElem?_eq_getElem hlt]
      have HMi := Lib.hid (HM.out i hlt)
      obtain ⟨c, hf⟩ : ∃ c, (l.getD i (0, 0, ⟨#[]⟩)).1 = c := ⟨_, rfl⟩
      obtain ⟨q, hq⟩ : ∃ q, (l.getD i (0, 0, ⟨#[]⟩)).2.1 = q := ⟨_, rfl⟩
      obtain ⟨x, ht⟩ : ∃ x, (l.getD i (0, 0, ⟨#[]⟩)).2.2 = x := ⟨_, rfl⟩
      rw [hf] at hcl0 hgs
      rw [hq] at hcl1 hgs
      rw [ht] at hcl2 HMi hgs
      obtain ⟨s, hs⟩ : ∃ s, reqB c q x = s := ⟨_, rfl⟩
      rw [hgs, hs] at HFS
      have HSS := Lib.hid hs
      have HLT := Lib.hid hlt
      clear hgs hf hq ht hs hL hi hlt hcell hbw hc0 hc1 hc2
      have bA := (Below.refl wr.heap.size wr).alloc (Nat.le_refl _) (.cells #[.int .i64 c, .int .i64 q, .string x] 34)
      have LA := Lib.hid (HL.out.on bA)
      clear bA
      go_wp2_with fail
      generalize wr.alloc (.cells #[.int .i64 c, .int .i64 q, .string x] 34) = wq at *
      refine (request_any c q x (by have := HMi.out; omega) wq).mono ?_
      rintro e w4 ⟨rfl, hb4⟩
      rw [HSS.out]
      have L4 := Lib.hid (LA.out.on hb4)
      clear hb4
      go_wp2_with fail
      refine (writestr_any b b _ s w4 L4.out.bld (by have h1 := HLE.out; have h2 := HS.out; have h3 := HFS.out; rw [h3, List.length_append] at h1; have : s.data.toList.length = s.size := by rw [Array.length_toList]; rfl
                                                     rw [Lib.byteCells_length, List.length_append]; show 4 + _ + _ ≤ _; omega) (Nat.le_of_lt L4.out.lt)).mono ?_
      rintro e w5 ⟨rfl, hI5, hb5⟩
      have L5 : Hid (LAt w b (reqsB l) (i + 1) w5) := Lib.hid ⟨L4.out.below.trans (hb5.mono (by rw [HB.out]; exact Nat.le_refl _)), by rw [HFS.out, ← List.append_assoc, Lib.byteCells_append]; exact hI5, Nat.lt_of_lt_of_le L4.out.lt hb5.size⟩
      clear hI5 hb5 hcl0 hcl1 hcl2
      go_wp2_with fail
      go_roundw
      case rel => exact ⟨i + 1, by have := HLT.out; omega, by go_num, L5.out⟩
      case measure => have := HLT.out; simp [intOf]; omega
    · obtain rfl : i = l.length := by omega
      have hlt' : ¬ (l.length : Int) < (l.length : Int) := by omega
      have hbs := hL.bld
      rw [← HXL.out, List.take_length] at hbs
      have HBS := Lib.hid hbs
      clear hL hi hlt hbs
      go_wp2_with fail
      refine (bstring_any b b _ wr HBS.out (be4_ne _ _)).mono ?_
      rintro e w4 ⟨rfl, hb4⟩
      go_wp2_with fail
      go_ret
      exact ⟨rfl, HL.out.below.trans (hb4.mono (by rw [HB.out]; exact Nat.le_refl _))⟩
end Go.Proofs.Ytbeodmijjanmeaa
