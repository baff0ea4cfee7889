/-
  The walk of the reference's comparison of two lists of requests (layer 11).
-/
import Derived.Test.YtegkhhegapnkpaaDoorKEEq
import Derived.Test.YtegkhhegapnkpaaDoorKWBlock
import Derived.Test.YtegkhhegapnkpaaDoorKJBox
import Derived.Test.YtegkhhegapnkpaaDoorKPlanE
open Go Go.RowKit
namespace Go.Proofs.YtegkhhegapnkpaaDoor
open JJ CC WW BB
set_option maxRecDepth 100000 in
set_option maxHeartbeats 4000000 in
theorem rsame11_any (l m : List (Int × Int × ByteArray)) (v u : Value) (w : World) (hv : ReqsAt w v l) (hu : ReqsAt w u m) (hl : l.length ≤ 1000) :
    Calls Tryd.prog 48 #[v, u] w fun e w' => e = .returned (.bool (decide (l = m))) ∧ Below w.heap.size w w' := by
  have HV := Lib.hid hv
  have HU := Lib.hid hu
  have HL := Lib.hid hl
  obtain ⟨a0, cap, rfl, hx⟩ := hv
  obtain ⟨b0, bap, rfl, hy⟩ := hu
  clear hl hx hy
  by_cases hlm : l.length = m.length
  · have HLM := Lib.hid hlm
    have t0 : ((l.length : Int) != (m.length : Int)) = false := by rw [hlm]; simp
    clear hlm
    obtain ⟨X, hX⟩ : ∃ X, decide (l = m) = X := ⟨_, rfl⟩
    have HX := Lib.hid hX
    rw [hX]
    clear hX
    go_enter Tryd.func48, Tryd.ntmps48
    go_wp2_with fail
    clear t0
    go_loopw [5] (fun v wr => ∃ i : Nat, i ≤ l.length ∧ v = .int .i64 (i : Int) ∧ (∀ j, j < i → l.getD j (0, 0, ⟨#[]⟩) = m.getD j (0, 0, ⟨#[]⟩)) ∧ Below w.heap.size w wr) (fun v _ => l.length - (intOf v).toNat)
    case atStart => exact ⟨0, Nat.zero_le _, rfl, fun j hj => absurd hj (Nat.not_lt_zero _), Below.refl _ _⟩
    case round =>
      obtain ⟨i, hi, rfl, hal, hb⟩ := hrel
      have HALL := Lib.hid hal
      have HB := Lib.hid hb
      have i0 : (0 : Int) ≤ (i : Int) := by omega
      have ib : (i : Int) ≤ 1000 := by have := HL.out; omega
      clear hal hb
      by_cases hlt : i < l.length
      · have hlt' : (i : Int) < (l.length : Int) := by omega
        have hlt2 : (i : Int) < (m.length : Int) := by rw [← HLM.out]; omega
        obtain ⟨a1, cap1, he, hv | ⟨gb, off, rfl, hbw, hcell⟩⟩ := HV.out
        · rw [hv] at hlt; simp at hlt
        injection he with e1 _ e3
        subst e1 e3
        obtain ⟨a2, cap2, he2, hv2 | ⟨gb2, off2, rfl, hbw2, hcell2⟩⟩ := HU.out
        · rw [hv2] at hlt2; simp at hlt2; omega
        injection he2 with e1 _ e3
        subst e1 e3
        obtain ⟨hc0, hc1, hc2⟩ := hcell i hlt
        obtain ⟨hd0, hd1, hd2⟩ := hcell2 i (by omega)
        have hcl0 : wr.cell? ⟨gb, off + i * 3, none⟩ = _ := (HB.out.cell (p := ⟨gb, off + i * 3, none⟩) hbw).trans hc0
        have hcl1 : wr.cell? ⟨gb, off + i * 3 + 1, none⟩ = _ := (HB.out.cell (p := ⟨gb, off + i * 3 + 1, none⟩) hbw).trans hc1
        have hcl2 : wr.cell? ⟨gb, off + i * 3 + 2, none⟩ = _ := (HB.out.cell (p := ⟨gb, off + i * 3 + 2, none⟩) hbw).trans hc2
        have hdl0 : wr.cell? ⟨gb2, off2 + i * 3, none⟩ = _ := (HB.out.cell (p := ⟨gb2, off2 + i * 3, none⟩) hbw2).trans hd0
        have hdl1 : wr.cell? ⟨gb2, off2 + i * 3 + 1, none⟩ = _ := (HB.out.cell (p := ⟨gb2, off2 + i * 3 + 1, none⟩) hbw2).trans hd1
        have hdl2 : wr.cell? ⟨gb2, off2 + i * 3 + 2, none⟩ = _ := (HB.out.cell (p := ⟨gb2, off2 + i * 3 + 2, none⟩) hbw2).trans hd2
        obtain ⟨p, hp⟩ : ∃ p, l.getD i (0, 0, ⟨#[]⟩) = p := ⟨_, rfl⟩
        obtain ⟨q, hq⟩ : ∃ q, m.getD i (0, 0, ⟨#[]⟩) = q := ⟨_, rfl⟩
        rw [hp] at hcl0 hcl1 hcl2
        rw [hq] at hdl0 hdl1 hdl2
        have HST := Lib.hid (And.intro hp hq)
        have HLT := Lib.hid hlt
        clear hp hq hlt hi hcell hbw hcell2 hbw2 hc0 hc1 hc2 hd0 hd1 hd2
        obtain ⟨c, s, t⟩ := p
        obtain ⟨c', s', t'⟩ := q
        by_cases hst : (c, s, t) = (c', s', t')
        · simp only [Prod.mk.injEq] at hst
          obtain ⟨rfl, rfl, rfl⟩ := hst
          have HE := Lib.hid (show l.getD i (0, 0, ⟨#[]⟩) = m.getD i (0, 0, ⟨#[]⟩) from HST.out.1.trans HST.out.2.symm)
          have t1 : (c == c) = true := by simp
          have t2 : (s == s) = true := by simp
          have t3 : (t.toList == t.toList) = true := by simp
          go_wp2_with fail
          go_quiet (fail)
          go_wp2_with fail
          go_roundw
          case rel => exact ⟨i + 1, by have := HLT.out; omega, by go_num, fun j hj => if h : j = i then h ▸ HE.out else HALL.out j (by omega), below_drewI HB.out _⟩
          case measure => have := HLT.out; simp [intOf]; omega
        · have HNE := Lib.hid (show l ≠ m from list_ne_at (d := (0, 0, ⟨#[]⟩)) (i := i) (by rw [HST.out.1, HST.out.2]; exact hst))
          have HBE := Lib.hid (show (c == c' && (s == s' && t.toList == t'.toList)) = false from by
            rcases h : (c == c' && (s == s' && t.toList == t'.toList)) with _ | _
            · rfl
            · simp only [Bool.and_eq_true, beq_iff_eq] at h
              exact absurd (by rw [h.1, h.2.1, ba_toList h.2.2]) hst)
          clear hst
          rcases h1 : (c == c') with _ | _
          all_goals rcases h2 : (s == s') with _ | _
          all_goals rcases h3 : (t.toList == t'.toList) with _ | _
          all_goals try (exfalso; have := HBE.out; rw [h1, h2, h3] at this; cases this; done)
          all_goals
            go_wp2_with fail
            go_quiet (fail)
            go_wp2_with fail
            go_ret
            refine ⟨?_, below_drewI HB.out _⟩
            rw [← HX.out]; simp [HNE.out]
      · obtain rfl : i = l.length := by omega
        have hlt' : ¬ (l.length : Int) < (l.length : Int) := by omega
        clear hi hlt
        go_wp2_with fail
        go_ret
        refine ⟨?_, HB.out⟩
        have he : l = m := list_eq_at HLM.out HALL.out
        rw [← HX.out]; simp [he]
  · have t0 : ((l.length : Int) != (m.length : Int)) = true := by rw [bne_iff_ne]; omega
    have HLM := Lib.hid hlm
    clear hlm
    go_enter Tryd.func48, Tryd.ntmps48
    go_wp2_with fail
    go_ret
    refine ⟨?_, Below.refl _ _⟩
    have hne : l ≠ m := by rintro rfl; exact HLM.out rfl
    simp [hne]
end Go.Proofs.YtegkhhegapnkpaaDoor
