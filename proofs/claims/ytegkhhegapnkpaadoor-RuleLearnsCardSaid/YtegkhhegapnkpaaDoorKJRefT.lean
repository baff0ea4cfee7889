/-
  The walk of the reference's Twice.
-/
import Derived.Test.YtegkhhegapnkpaaDoorKJBox
import Derived.Test.YtegkhhegapnkpaaDoorKWBlock
import Derived.Test.YtegkhhegapnkpaaDoorKEEq
open Go Go.RowKit
namespace JJ
open BB WW
theorem reqs_at {w wr : World} {l : List Rq} (hb : Below w.heap.size w wr) {b off : Nat} (hbw : b < w.heap.size) (hc : ∀ i, i < l.length → w.cell? ⟨b, off + i * 3, none⟩ = some (.int .i64 (l.getD i (0, 0, ⟨#[]⟩)).1) ∧ w.cell? ⟨b, off + i * 3 + 1, none⟩ = some (.int .i64 (l.getD i (0, 0, ⟨#[]⟩)).2.1) ∧ w.cell? ⟨b, off + i * 3 + 2, none⟩ = some (.string (l.getD i (0, 0, ⟨#[]⟩)).2.2)) (i : Nat) (hi : i < l.length) :
    wr.cell? ⟨b, off + i * 3, none⟩ = some (.int .i64 (l.getD i r0).1) ∧ wr.cell? ⟨b, off + i * 3 + 1, none⟩ = some (.int .i64 (l.getD i r0).2.1) ∧ wr.cell? ⟨b, off + i * 3 + 2, none⟩ = some (.string (l.getD i r0).2.2) := by
  obtain ⟨h1, h2, h3⟩ := hc i hi
  exact ⟨(hb.cell (p := ⟨b, off + i * 3, none⟩) hbw).trans h1, (hb.cell (p := ⟨b, off + i * 3 + 1, none⟩) hbw).trans h2, (hb.cell (p := ⟨b, off + i * 3 + 2, none⟩) hbw).trans h3⟩
end JJ
namespace Go.Proofs.YtegkhhegapnkpaaDoor
open JJ WW BB
set_option maxRecDepth 100000 in
set_option maxHeartbeats 8000000 in
theorem rtwice_any (l : List Rq) (v : Value) (w : World) (hv : ReqsAt w v l) (hl : l.length ≤ 1000) :
    Calls Tryd.prog 73 #[v] w fun e w' => e = .returned (.bool (twiceR l)) ∧ Below w.heap.size w w' := by
  have HV := Lib.hid hv
  have HL := Lib.hid hl
  obtain ⟨a0, cap, rfl, hx⟩ := hv
  have HX := Lib.hid hx
  obtain ⟨X, hX⟩ : ∃ X, twiceR l = X := ⟨_, rfl⟩
  have HTX := Lib.hid hX
  rw [hX]
  clear hl hx hX
  go_enter Tryd.func73, Tryd.ntmps73
  go_wp2_with fail
  go_loopw [3] (fun x wr => ∃ i : Nat, i ≤ l.length ∧ x = .int .i64 (i : Int) ∧ freeTo l i ∧ Below w.heap.size w wr) (fun x _ => l.length - (intOf x).toNat)
  case atStart => exact ⟨0, Nat.zero_le _, rfl, fun j hj => absurd hj (Nat.not_lt_zero _), Below.refl _ _⟩
  case round =>
    obtain ⟨i, hi, rfl, hfree, hb⟩ := hrel
    have HF := Lib.hid hfree
    have HB := Lib.hid hb
    have i0 : (0 : Int) ≤ (i : Int) := by omega
    have ib : (i : Int) ≤ 1000 := by have := HL.out; omega
    clear hfree hb
    by_cases hlt : i < l.length
    · have hlt' : (i : Int) < (l.length : Int) := by omega
      have HLT := Lib.hid hlt
      obtain ⟨b, off, rfl, hbw, hcell⟩ : ∃ b off, a0 = some ⟨b, off, none⟩ ∧ b < w.heap.size ∧ _ := by
        rcases HX.out with h | h
        · subst h; simp at hlt
        · exact h
      have HC := Lib.hid (fun wx (hb : Below w.heap.size w wx) j (hj : j < l.length) => reqs_at hb hbw hcell j hj)
      obtain ⟨r, hr⟩ : ∃ r, l.getD i r0 = r := ⟨_, rfl⟩
      have HRR := Lib.hid hr
      obtain ⟨c, s, t⟩ := r
      clear hi hlt hbw hcell hr
      go_wp2_with fail
      go_loopw [4] (fun y wx => ∃ k : Nat, k ≤ i ∧ y = .int .i64 (k : Int) ∧ (∀ k', k' < k → ¬ ((l.getD k' r0).1 = (l.getD i r0).1 ∧ (l.getD k' r0).2.1 = (l.getD i r0).2.1)) ∧ Below w.heap.size w wx) (fun y _ => i - (intOf y).toNat)
      case atStart => exact ⟨0, Nat.zero_le _, rfl, fun j hj => absurd hj (Nat.not_lt_zero _), HB.out⟩
      case round =>
        obtain ⟨k, hk, rfl, hno, hb⟩ := hrel
        have HNO := Lib.hid hno
        have HB2 := Lib.hid hb
        have k0 : (0 : Int) ≤ (k : Int) := by omega
        have kb : (k : Int) ≤ 1000 := by omega
        clear hno hb
        by_cases hlk : k < i
        · have hlk' : (k : Int) < (i : Int) := by omega
          have hlk2 : (k : Int) < (l.length : Int) := by omega
          have HLK := Lib.hid hlk
          obtain ⟨q0, q1, _⟩ := HC.out wr HB2.out i HLT.out
          obtain ⟨p0, p1, _⟩ := HC.out wr HB2.out k (by have := HLT.out; omega)
          obtain ⟨r', hr'⟩ : ∃ r', l.getD k r0 = r' := ⟨_, rfl⟩
          have HRK := Lib.hid hr'
          rw [hr'] at p0 p1
          rw [HRR.out] at q0 q1
          obtain ⟨c', s', t'⟩ := r'
          clear hk hlk hr'
          by_cases hc : c = c'
          · subst hc
            have t1 : (c == c) = true := by simp
            by_cases hs : s = s'
            · subst hs
              have t2 : (s == s) = true := by simp
              go_wp2_with fail
              go_quiet (fail)
              go_wp2_with fail
              go_ret
              refine ⟨?_, below_drewI HB2.out _⟩
              rw [← HTX.out, hit_some l i k HLT.out HLK.out (by rw [HRR.out, HRK.out]; exact ⟨rfl, rfl⟩)]
              rfl
            · have t2 : (s == s') = false := by simpa using hs
              have HNE := Lib.hid hs
              clear hs
              go_wp2_with fail
              go_quiet (fail)
              go_wp2_with fail
              go_roundw
              case rel => exact ⟨k + 1, by have := HLK.out; omega, by go_num, fun k' hk' => if h : k' = k then by subst h; rw [HRR.out, HRK.out]; rintro ⟨_, e⟩; exact HNE.out e.symm else HNO.out k' (by omega), below_drewI HB2.out _⟩
              case measure => have := HLK.out; simp [intOf]; omega
          · have t1 : (c == c') = false := by simpa using hc
            have HNE := Lib.hid hc
            clear hc
            go_wp2_with fail
            go_quiet (fail)
            go_wp2_with fail
            go_roundw
            case rel => exact ⟨k + 1, by have := HLK.out; omega, by go_num, fun k' hk' => if h : k' = k then by subst h; rw [HRR.out, HRK.out]; rintro ⟨e, _⟩; exact HNE.out e.symm else HNO.out k' (by omega), below_drewI HB2.out _⟩
            case measure => have := HLK.out; simp [intOf]; omega
        · obtain rfl : k = i := by omega
          have hlk' : ¬ (k : Int) < (k : Int) := by omega
          clear hk hlk
          go_wp2_with fail
          go_roundw
          case rel => exact ⟨k + 1, by have := HLT.out; omega, by go_num, fun j hj => if h : j = k then by subst h; exact HNO.out else HF.out j (by omega), HB2.out⟩
          case measure => have := HLT.out; simp [intOf]; omega
    · obtain rfl : i = l.length := by omega
      have hlt' : ¬ (l.length : Int) < (l.length : Int) := by omega
      clear hi hlt
      go_wp2_with fail
      go_ret
      exact ⟨by rw [← HTX.out, free_none l HF.out]; rfl, HB.out⟩
end Go.Proofs.YtegkhhegapnkpaaDoor
