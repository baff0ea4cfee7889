/-
  The code's times (a map that counts) and Distinct.
-/
import Derived.Test.YtcmgiiobjminlaaLMap
open Go Go.RowKit
namespace Go.Proofs.Ytcmgiiobjminlaa
open WW BB
theorem num_inj {a b : Int} (h : numI a = numI b) : a = b := by unfold numI at h; injection h with e; injection e
set_option maxRecDepth 100000 in
set_option maxHeartbeats 4000000 in
theorem times_any (l : List Int) (v : Value) (n : Int) (w : World) (hv : IntsAt w v l) (hs : l.length ≤ 1000) (hn : n ≤ 9223372036854775807) : Calls Try.prog 20 #[v, .int .i64 n] w fun e w' => e = .returned (.map (some w.heap.size)) ∧ CountsAt w' w.heap.size l.length l n ∧ Below w.heap.size w w' := by
  have HV := Lib.hid hv
  have HS := Lib.hid hs
  have HN := Lib.hid hn
  have hmm := @run_makeMap Try.prog
  obtain ⟨a0, cap, rfl, _, hx⟩ := hv
  clear hs hx hn
  go_enter Try.func20, Try.ntmps20
  go_wp2_with fail
  go_loopw [11] (fun x wr => ∃ i : Nat, i ≤ l.length ∧ x = .int .i64 (i : Int) ∧ CountsAt wr w.heap.size i (l.take i) n ∧ Below w.heap.size w wr) (fun x _ => l.length - (intOf x).toNat)
  case atStart => exact ⟨0, Nat.zero_le _, rfl, ⟨_, World.ownsMap_made _ _ _ _, MapIs.empty n⟩, (Below.refl _ _).alloc (Nat.le_refl _) _⟩
  case round =>
    obtain ⟨i, hi, rfl, hC, hb⟩ := hrel
    have HB := Lib.hid hb
    have i0 : (0 : Int) ≤ (i : Int) := by omega
    have ib : (i : Int) ≤ 1000 := by have := HS.out; omega
    by_cases hlt : i < l.length
    · have hlt' : (i : Int) < (l.length : Int) := by omega
      obtain ⟨a1, cap1, he, _, hv | ⟨gb, off, rfl, hbw, hcell⟩⟩ := HV.out
      · rw [hv] at hlt; simp at hlt
      injection he with e1 _ e3
      subst e1 e3
      have hcl := (hb.cell (p := ⟨gb, off + i, none⟩) hbw).trans (hcell i hlt)
      have HSN := Lib.hid (take_snoc l i hlt)
      obtain ⟨y, hy⟩ : ∃ y, l.getD i 0 = y := ⟨_, rfl⟩
      rw [hy] at hcl HSN
      have HC := Lib.hid hC
      have HLT := Lib.hid hlt
      clear hy hlt hi hcell hbw hb hC
      by_cases hy0 : 0 ≤ y
      · by_cases hyn : y < n
        · obtain ⟨D, hown, hM⟩ := HC.out
          obtain ⟨c, hc, hc0, hcl2, _⟩ := hM.at_ y
          have ylo : -9223372036854775808 ≤ y := by omega
          have yhi : y ≤ 9223372036854775807 := by have := HN.out; omega
          have hkey : keyOf Try.prog 3 (.int .i64 y) = some (keyI y) := Go.Maps.keyOf_int_mk Try.underlying3 (wf_i64_mk ylo yhi)
          have c1000 : c ≤ 1000 := by rw [List.length_take] at hcl2; have := HS.out; omega
          have cwf : (Lit.int .i64 (c + 1)).wf = true := wf_i64_mk (by omega) (by omega)
          have HP := Lib.hid (hM.put ⟨hy0, hyn⟩ hc)
          have HO := Lib.hid hown
          have HCC := Lib.hid hc
          clear hown hM hc hcl2
          go_wp2_with (first
            | (at_lookup; refine wpList_lookup_own_int _ rfl _ _ 34 rfl 3 3 .i64 law_int Try.underlying34 Try.underlying3 (zero_int _) _ _ D rfl HO.out _ _ rfl hkey ?_; intro c' hat hwc; obtain rfl : c' = c := num_inj (hat.symm.trans HCC.out); clear hat hwc)
            | (at_mapUpdate; refine wpList_mapUpdate_own _ rfl _ _ _ 34 rfl 3 3 law_int Try.underlying34 _ _ _ _ rfl HO.out (by have := HS.out; unfold maxLen; omega) _ _ _ rfl rfl hkey _ [] (plainElem_int Try.underlying3 cwf) ?_; intro w1 hown1 hg1; have HO1 := Lib.hid hown1; have HG1 := Lib.hid hg1; clear hown1 hg1))
          go_roundw
          case rel => exact ⟨i + 1, by have := HLT.out; omega, by go_num, ⟨_, HO1.out, by rw [HSN.out]; exact HP.out⟩, HB.out.grown HG1.out HB.out.size (fun j hj => by cases hj; exact Nat.le_refl _)⟩
          case measure => have := HLT.out; simp [intOf]; omega
        · have HSK := Lib.hid (show CountsAt wr w.heap.size (i + 1) (l.take (i + 1)) n by
            obtain ⟨D, ho, hM⟩ := HC.out
            exact ⟨D, ho.mono (Nat.le_succ _), by rw [HSN.out]; exact hM.skip (by omega)⟩)
          go_wp2_with fail
          go_roundw
          case rel => exact ⟨i + 1, by have := HLT.out; omega, by go_num, HSK.out, HB.out⟩
          case measure => have := HLT.out; simp [intOf]; omega
      · have HSK := Lib.hid (show CountsAt wr w.heap.size (i + 1) (l.take (i + 1)) n by
          obtain ⟨D, ho, hM⟩ := HC.out
          exact ⟨D, ho.mono (Nat.le_succ _), by rw [HSN.out]; exact hM.skip (by omega)⟩)
        go_wp2_with fail
        go_roundw
        case rel => exact ⟨i + 1, by have := HLT.out; omega, by go_num, HSK.out, HB.out⟩
        case measure => have := HLT.out; simp [intOf]; omega
    · obtain rfl : i = l.length := by omega
      have hlt' : ¬ (l.length : Int) < (l.length : Int) := by omega
      rw [List.take_length] at hC
      have HC := Lib.hid hC
      clear hi hlt hC hb
      go_wp2_with fail
      go_ret
      exact ⟨rfl, HC.out, HB.out⟩
theorem times_is (l : List Int) (v : Value) (n : Int) (w : World) (hv : IntsAt w v l) (hs : l.length ≤ 1000) (hn : n ≤ 9223372036854775807) : Calls Try.prog 20 #[v, .int .i64 n] w fun e w' => ∃ b, w.heap.size ≤ b ∧ b < w'.heap.size ∧ e = .returned (.map (some b)) ∧ CountsAt w' b l.length l n ∧ Below w.heap.size w w' :=
  (times_any l v n w hv hs hn).mono fun _ _ ⟨he, hC, hb⟩ => ⟨_, Nat.le_refl _, (by obtain ⟨D, ho, _⟩ := hC; exact ho.lt), he, hC, hb⟩
set_option maxRecDepth 100000 in
set_option maxHeartbeats 4000000 in
theorem cdistinct_any (l : List Int) (v : Value) (n : Int) (w : World) (hv : IntsAt w v l) (hs : l.length ≤ 1000) (hn : n ≤ 9223372036854775807) : Calls Try.prog 13 #[v, .int .i64 n] w fun e w' => e = .returned (.int .i64 ((onceL l n).length : Int)) ∧ Below w.heap.size w w' := by
  have HV := Lib.hid hv
  have HS := Lib.hid hs
  have HN := Lib.hid hn
  obtain ⟨a0, cap, rfl, _, hx⟩ := hv
  obtain ⟨N, hN⟩ : ∃ N, (onceL l n).length = N := ⟨_, rfl⟩
  have HNN := Lib.hid hN
  rw [hN]
  clear hs hx hn hN
  go_enter Try.func13, Try.ntmps13
  go_wp2_with fail
  refine (times_is l _ n w HV.out HS.out HN.out).mono ?_
  rintro e w1 ⟨b, hb0, hb1, rfl, hC, hbw⟩
  obtain ⟨D, hown, hM⟩ := hC
  have hsz := hM.size
  have HO := Lib.hid hown
  have HB := Lib.hid hbw
  have hlen := hown.len Try.underlying34 3
  rw [hsz, HNN.out] at hlen
  clear hown hbw hM hsz
  go_wp2_with fail
  go_ret
  exact ⟨rfl, HB.out⟩
end Go.Proofs.Ytcmgiiobjminlaa
