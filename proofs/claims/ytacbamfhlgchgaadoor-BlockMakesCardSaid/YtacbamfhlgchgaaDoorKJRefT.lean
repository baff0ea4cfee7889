/-
  The walk of the reference's Twice.
-/
import Derived.Test.YtacbamfhlgchgaaDoorKESig
import Derived.Test.YtacbamfhlgchgaaDoorKWFew
import Derived.Test.YtacbamfhlgchgaaDoorKJBox
section
open Go Go.RowKit
namespace Go.Proofs.YtacbamfhlgchgaaDoor
open CC WW BB
set_option maxRecDepth 100000 in
set_option maxHeartbeats 4000000 in
theorem jeqsigs_any (l m : List (Int × List ByteArray)) (v u : Value) (w : World) (hv : SigsAt w v l) (hu : SigsAt w u m) (hl : l.length ≤ 1000) (hs : ∀ i, i < l.length → (l.getD i (0, [])).2.length ≤ 1000) :
    Calls Tryd.prog 40 #[v, u, .func (.func 41) #[] #[]] w fun e w' => e = .returned (.bool (decide (l = m))) ∧ Below w.heap.size w w' := by
  have HV := Lib.hid hv
  have HU := Lib.hid hu
  have HL := Lib.hid hl
  have HS := Lib.hid hs
  obtain ⟨a0, cap, rfl, hx⟩ := hv
  obtain ⟨b0, bap, rfl, hy⟩ := hu
  clear hl hx hy hs
  by_cases hlm : l.length = m.length
  · have HLM := Lib.hid hlm
    have t0 : ((l.length : Int) != (m.length : Int)) = false := by rw [hlm]; simp
    clear hlm
    obtain ⟨X, hX⟩ : ∃ X, decide (l = m) = X := ⟨_, rfl⟩
    have HX := Lib.hid hX
    rw [hX]
    clear hX
    go_enter Tryd.func40, Tryd.ntmps40
    go_wp2_with fail
    clear t0
    go_loopw [17] (fun v wr => ∃ i : Nat, i ≤ l.length ∧ v = .int .i64 (i : Int) ∧ (∀ j, j < i → l.getD j (0, []) = m.getD j (0, [])) ∧ Below w.heap.size w wr) (fun v _ => l.length - (intOf v).toNat)
    case atStart => exact ⟨0, Nat.zero_le _, rfl, fun j hj => absurd hj (Nat.not_lt_zero _), Below.refl _ _⟩
    case round =>
      obtain ⟨i, hi, rfl, hal, hb⟩ := hrel
      have HALL := Lib.hid hal
      have HB := Lib.hid hb
      have i0 : (0 : Int) ≤ (i : Int) := by omega
      have ib : (i : Int) ≤ 1000 := by have := HL.out; omega
      clear hal hb
      by_cases hlt : i < l.length
      · have hlt' : (i : Int) < (l.length : Int) := by omega
        have hlt2 : (i : Int) < (m.length : Int) := by rw [← HLM.out]; omega
        obtain ⟨a1, cap1, he, hv | ⟨gb, off, rfl, hbw, hcell⟩⟩ := HV.out
        · rw [hv] at hlt; simp at hlt
        injection he with e1 _ e3
        subst e1 e3
        obtain ⟨a2, cap2, he2, hv2 | ⟨gb2, off2, rfl, hbw2, hcell2⟩⟩ := HU.out
        · rw [hv2] at hlt2; simp at hlt2; omega
        injection he2 with e1 _ e3
        subst e1 e3
        obtain ⟨tv, hc0, hc1, hts⟩ := hcell i hlt
        obtain ⟨tu, hd0, hd1, htu⟩ := hcell2 i (by omega)
        have hcl0 : wr.cell? ⟨gb, off + i * 2, none⟩ = _ := (HB.out.cell (p := ⟨gb, off + i * 2, none⟩) hbw).trans hc0
        have hcl1 : wr.cell? ⟨gb, off + i * 2 + 1, none⟩ = _ := (HB.out.cell (p := ⟨gb, off + i * 2 + 1, none⟩) hbw).trans hc1
        have hdl0 : wr.cell? ⟨gb2, off2 + i * 2, none⟩ = _ := (HB.out.cell (p := ⟨gb2, off2 + i * 2, none⟩) hbw2).trans hd0
        have hdl1 : wr.cell? ⟨gb2, off2 + i * 2 + 1, none⟩ = _ := (HB.out.cell (p := ⟨gb2, off2 + i * 2 + 1, none⟩) hbw2).trans hd1
        have HTS := Lib.hid (hts.later HB.out)
        have HTU := Lib.hid (htu.later HB.out)
        have HSI := Lib.hid (HS.out i hlt)
        obtain ⟨p, hp⟩ : ∃ p, l.getD i (0, []) = p := ⟨_, rfl⟩
        obtain ⟨q, hq⟩ : ∃ q, m.getD i (0, []) = q := ⟨_, rfl⟩
        have HPQ := Lib.hid (And.intro hp hq)
        rw [hp] at hcl0 HTS HSI
        rw [hq] at hdl0 HTU
        obtain ⟨f, ts⟩ := p
        obtain ⟨g, us⟩ := q
        obtain ⟨ta, tcap, rfl, _⟩ := HTS.out
        obtain ⟨ua, ucap, rfl, _⟩ := HTU.out
        have HLT := Lib.hid hlt
        obtain ⟨Y, hY⟩ : ∃ Y, decide ((f, ts) = (g, us)) = Y := ⟨_, rfl⟩
        have HY := Lib.hid hY
        have b2 := Lib.hid (((Below.refl wr.heap.size wr).alloc (Nat.le_refl _) (.cells #[.int .i64 f, .slice ta ts.length tcap] 42)).alloc (by simp) (.cells #[.int .i64 g, .slice ua us.length ucap] 42))
        have b1 := (Below.refl wr.heap.size wr).alloc (Nat.le_refl _) (.cells #[.int .i64 f, .slice ta ts.length tcap] 42)
        have hel0 := (b1.cell (p := ⟨gb2, off2 + i * 2, none⟩) (World.block_lt_of_cell? wr _ hdl0)).trans hdl0
        have hel1 := (b1.cell (p := ⟨gb2, off2 + i * 2 + 1, none⟩) (World.block_lt_of_cell? wr _ hdl1)).trans hdl1
        clear hp hq hlt hi hcell hbw hcell2 hbw2 hc0 hc1 hd0 hd1 hts htu hY b1 hdl0 hdl1
        go_wp2_with fail
        refine (jsamesig_any f g _ _ ts us _ (HTS.out.later b2.out) (HTU.out.later b2.out) HSI.out).mono ?_
        rintro e w4 ⟨rfl, hb4⟩
        rw [HY.out]
        have B4 := Lib.hid (HB.out.trans ((b2.out.trans (hb4.mono b2.out.size)).mono HB.out.size))
        clear hb4 b2 hcl0 hcl1 hel0 hel1
        cases Y with
        | true =>
          go_wp2_with fail
          go_roundw
          case rel => exact ⟨i + 1, by have := HLT.out; omega, by go_num, fun j hj => if h : j = i then by subst h; rw [HPQ.out.1, HPQ.out.2]; exact of_decide_eq_true HY.out else HALL.out j (by omega), B4.out⟩
          case measure => have := HLT.out; simp [intOf]; omega
        | false =>
          go_wp2_with fail
          go_ret
          refine ⟨?_, B4.out⟩
          have hne : l ≠ m := list_ne_at (d := (0, [])) (i := i) (by rw [HPQ.out.1, HPQ.out.2]; exact of_decide_eq_false HY.out)
          rw [← HX.out]; simp [hne]
      · obtain rfl : i = l.length := by omega
        have hlt' : ¬ (l.length : Int) < (l.length : Int) := by omega
        clear hi hlt
        go_wp2_with fail
        go_ret
        refine ⟨?_, HB.out⟩
        have he : l = m := list_eq_at HLM.out HALL.out
        rw [← HX.out]; simp [he]
  · have t0 : ((l.length : Int) != (m.length : Int)) = true := by rw [bne_iff_ne]; omega
    have HLM := Lib.hid hlm
    clear hlm
    go_enter Tryd.func40, Tryd.ntmps40
    go_wp2_with fail
    go_ret
    refine ⟨?_, Below.refl _ _⟩
    have hne : l ≠ m := by rintro rfl; exact HLM.out rfl
    simp [hne]
set_option maxRecDepth 100000 in
set_option maxHeartbeats 4000000 in
/-- are two certificates the same? -/
theorem jsame_any (v v' : Int) (k k' : ByteArray) (x y : Value) (l m : List (Int × List ByteArray)) (w : World) (hx : SigsAt w x l) (hy : SigsAt w y m) (hl : l.length ≤ 1000) (hs : ∀ i, i < l.length → (l.getD i (0, [])).2.length ≤ 1000) :
    Calls Tryd.prog 27 #[.agg #[.int .i64 v, .string k, x], .agg #[.int .i64 v', .string k', y]] w fun e w' => e = .returned (.bool (decide (((v, k), l) = ((v', k'), m)))) ∧ Below w.heap.size w w' := by
  have HX := Lib.hid hx
  have HY := Lib.hid hy
  have HL := Lib.hid hl
  have HS := Lib.hid hs
  obtain ⟨a0, cap, rfl, _⟩ := hx
  obtain ⟨b0, bap, rfl, _⟩ := hy
  clear hl hs
  have b2 := Lib.hid (((Below.refl w.heap.size w).alloc (Nat.le_refl _) (.cells #[.int .i64 v, .string k, .slice a0 l.length cap] 24)).alloc (by simp) (.cells #[.int .i64 v', .string k', .slice b0 m.length bap] 24))
  by_cases hv : v = v'
  · by_cases hk : k = k'
    · subst hv hk
      obtain ⟨X, hX⟩ : ∃ X, decide (l = m) = X := ⟨_, rfl⟩
      have e1 : decide (((v, k), l) = ((v, k), m)) = X := by rw [← hX]; simp
      rw [e1]
      have HXX := Lib.hid hX
      have t0 : (v == v) = true := by simp
      have t1 : (k.toList == k.toList) = true := by simp
      clear hX e1
      go_enter Tryd.func27, Tryd.ntmps27
      go_wp2_with fail
      refine (jeqsigs_any l m _ _ _ (HX.out.later b2.out) (HY.out.later b2.out) HL.out HS.out).mono ?_
      rintro e w2 ⟨rfl, hb2⟩
      rw [HXX.out]
      have B2 := Lib.hid (b2.out.trans (hb2.mono b2.out.size))
      clear hb2 b2
      go_wp2_with fail
      go_ret
      exact ⟨rfl, B2.out⟩
    · subst hv
      have t0 : (v == v) = true := by simp
      have t1 : (k.toList == k'.toList) = false := by rw [beq_eq_false_iff_ne]; exact fun h => hk (ba_toList h)
      have HK := Lib.hid hk
      clear hk
      go_enter Tryd.func27, Tryd.ntmps27
      go_wp2_with fail
      go_ret
      refine ⟨?_, b2.out⟩
      rw [show decide (((v, k), l) = ((v, k'), m)) = false by simp [HK.out]]; rfl
  · have t0 : (v == v') = false := by simpa using hv
    have HK := Lib.hid hv
    clear hv
    go_enter Tryd.func27, Tryd.ntmps27
    go_wp2_with fail
    go_ret
    refine ⟨?_, b2.out⟩
    rw [show decide (((v, k), l) = ((v', k'), m)) = false by simp [HK.out]]; rfl
end Go.Proofs.YtacbamfhlgchgaaDoor
end
section
open Go Go.RowKit
namespace Go.Proofs.YtacbamfhlgchgaaDoor
open CC WW BB
set_option maxRecDepth 100000 in
set_option maxHeartbeats 4000000 in
theorem eqreq_any (l m : List (Int × Int × ByteArray)) (v u : Value) (w : World) (hv : ReqsAt w v l) (hu : ReqsAt w u m) (hl : l.length ≤ 1000) :
    Calls Tryd.prog 28 #[v, u] w fun e w' => e = .returned (.bool (decide (l = m))) ∧ Below w.heap.size w w' := by
  have HV := Lib.hid hv
  have HU := Lib.hid hu
  have HL := Lib.hid hl
  obtain ⟨a0, cap, rfl, hx⟩ := hv
  obtain ⟨b0, bap, rfl, hy⟩ := hu
  clear hl hx hy
  by_cases hlm : l.length = m.length
  · have HLM := Lib.hid hlm
    have t0 : ((l.length : Int) != (m.length : Int)) = false := by rw [hlm]; simp
    clear hlm
    obtain ⟨X, hX⟩ : ∃ X, decide (l = m) = X := ⟨_, rfl⟩
    have HX := Lib.hid hX
    rw [hX]
    clear hX
    go_enter Tryd.func28, Tryd.ntmps28
    go_wp2_with fail
    clear t0
    go_loopw [13] (fun v wr => ∃ i : Nat, i ≤ l.length ∧ v = .int .i64 (i : Int) ∧ (∀ j, j < i → l.getD j (0, 0, ⟨#[]⟩) = m.getD j (0, 0, ⟨#[]⟩)) ∧ Below w.heap.size w wr) (fun v _ => l.length - (intOf v).toNat)
    case atStart => exact ⟨0, Nat.zero_le _, rfl, fun j hj => absurd hj (Nat.not_lt_zero _), Below.refl _ _⟩
    case round =>
      obtain ⟨i, hi, rfl, hal, hb⟩ := hrel
      have HALL := Lib.hid hal
      have HB := Lib.hid hb
      have i0 : (0 : Int) ≤ (i : Int) := by omega
      have ib : (i : Int) ≤ 1000 := by have := HL.out; omega
      clear hal hb
      by_cases hlt : i < l.length
      · have hlt' : (i : Int) < (l.length : Int) := by omega
        have hlt2 : (i : Int) < (m.length : Int) := by rw [← HLM.out]; omega
        obtain ⟨a1, cap1, he, hv | ⟨gb, off, rfl, hbw, hcell⟩⟩ := HV.out
        · rw [hv] at hlt; simp at hlt
        injection he with e1 _ e3
        subst e1 e3
        obtain ⟨a2, cap2, he2, hv2 | ⟨gb2, off2, rfl, hbw2, hcell2⟩⟩ := HU.out
        · rw [hv2] at hlt2; simp at hlt2; omega
        injection he2 with e1 _ e3
        subst e1 e3
        obtain ⟨hc0, hc1, hc2⟩ := hcell i hlt
        obtain ⟨hd0, hd1, hd2⟩ := hcell2 i (by omega)
        have hcl0 : wr.cell? ⟨gb, off + i * 3, none⟩ = _ := (HB.out.cell (p := ⟨gb, off + i * 3, none⟩) hbw).trans hc0
        have hcl1 : wr.cell? ⟨gb, off + i * 3 + 1, none⟩ = _ := (HB.out.cell (p := ⟨gb, off + i * 3 + 1, none⟩) hbw).trans hc1
        have hcl2 : wr.cell? ⟨gb, off + i * 3 + 2, none⟩ = _ := (HB.out.cell (p := ⟨gb, off + i * 3 + 2, none⟩) hbw).trans hc2
        have hdl0 : wr.cell? ⟨gb2, off2 + i * 3, none⟩ = _ := (HB.out.cell (p := ⟨gb2, off2 + i * 3, none⟩) hbw2).trans hd0
        have hdl1 : wr.cell? ⟨gb2, off2 + i * 3 + 1, none⟩ = _ := (HB.out.cell (p := ⟨gb2, off2 + i * 3 + 1, none⟩) hbw2).trans hd1
        have hdl2 : wr.cell? ⟨gb2, off2 + i * 3 + 2, none⟩ = _ := (HB.out.cell (p := ⟨gb2, off2 + i * 3 + 2, none⟩) hbw2).trans hd2
        obtain ⟨p, hp⟩ : ∃ p, l.getD i (0, 0, ⟨#[]⟩) = p := ⟨_, rfl⟩
        obtain ⟨q, hq⟩ : ∃ q, m.getD i (0, 0, ⟨#[]⟩) = q := ⟨_, rfl⟩
        rw [hp] at hcl0 hcl1 hcl2
        rw [hq] at hdl0 hdl1 hdl2
        have HST := Lib.hid (And.intro hp hq)
        have HLT := Lib.hid hlt
        clear hp hq hlt hi hcell hbw hcell2 hbw2 hc0 hc1 hc2 hd0 hd1 hd2
        obtain ⟨c, s, t⟩ := p
        obtain ⟨c', s', t'⟩ := q
        by_cases hst : (c, s, t) = (c', s', t')
        · simp only [Prod.mk.injEq] at hst
          obtain ⟨rfl, rfl, rfl⟩ := hst
          have HE := Lib.hid (show l.getD i (0, 0, ⟨#[]⟩) = m.getD i (0, 0, ⟨#[]⟩) from HST.out.1.trans HST.out.2.symm)
          have t1 : (c == c) = true := by simp
          have t2 : (s == s) = true := by simp
          have t3 : (t.toList == t.toList) = true := by simp
          go_wp2_with fail
          go_quiet (fail)
          go_wp2_with fail
          go_roundw
          case rel => exact ⟨i + 1, by have := HLT.out; omega, by go_num, fun j hj => if h : j = i then h ▸ HE.out else HALL.out j (by omega), below_drewI HB.out _⟩
          case measure => have := HLT.out; simp [intOf]; omega
        · have HNE := Lib.hid (show l ≠ m from list_ne_at (d := (0, 0, ⟨#[]⟩)) (i := i) (by rw [HST.out.1, HST.out.2]; exact hst))
          have HBE := Lib.hid (show (c == c' && (s == s' && t.toList == t'.toList)) = false from by
            rcases h : (c == c' && (s == s' && t.toList == t'.toList)) with _ | _
            · rfl
            · simp only [Bool.and_eq_true, beq_iff_eq] at h
              exact absurd (by rw [h.1, h.2.1, ba_toList h.2.2]) hst)
          clear hst
          rcases h1 : (c == c') with _ | _
          all_goals rcases h2 : (s == s') with _ | _
          all_goals rcases h3 : (t.toList == t'.toList) with _ | _
          all_goals try (exfalso; have := HBE.out; rw [h1, h2, h3] at this; cases this; done)
          all_goals
            go_wp2_with fail
            go_quiet (fail)
            go_wp2_with fail
            go_ret
            refine ⟨?_, below_drewI HB.out _⟩
            rw [← HX.out]; simp [HNE.out]
      · obtain rfl : i = l.length := by omega
        have hlt' : ¬ (l.length : Int) < (l.length : Int) := by omega
        clear hi hlt
        go_wp2_with fail
        go_ret
        refine ⟨?_, HB.out⟩
        have he : l = m := list_eq_at HLM.out HALL.out
        rw [← HX.out]; simp [he]
  · have t0 : ((l.length : Int) != (m.length : Int)) = true := by rw [bne_iff_ne]; omega
    have HLM := Lib.hid hlm
    clear hlm
    go_enter Tryd.func28, Tryd.ntmps28
    go_wp2_with fail
    go_ret
    refine ⟨?_, Below.refl _ _⟩
    have hne : l ≠ m := by rintro rfl; exact HLM.out rfl
    simp [hne]
end Go.Proofs.YtacbamfhlgchgaaDoor
end
section
open Go Go.RowKit
namespace Go.Proofs.YtacbamfhlgchgaaDoor
open CC WW BB
set_option maxRecDepth 100000 in
set_option maxHeartbeats 4000000 in
theorem eqsigs_any (l m : List (Int × List ByteArray)) (v u : Value) (w : World) (hv : SigsAt w v l) (hu : SigsAt w u m) (hl : l.length ≤ 1000) (hs : ∀ i, i < l.length → (l.getD i (0, [])).2.length ≤ 1000) :
    Calls Tryd.prog 40 #[v, u, .func (.func 42) #[] #[]] w fun e w' => e = .returned (.bool (decide (l = m))) ∧ Below w.heap.size w w' := by
  have HV := Lib.hid hv
  have HU := Lib.hid hu
  have HL := Lib.hid hl
  have HS := Lib.hid hs
  obtain ⟨a0, cap, rfl, hx⟩ := hv
  obtain ⟨b0, bap, rfl, hy⟩ := hu
  clear hl hx hy hs
  by_cases hlm : l.length = m.length
  · have HLM := Lib.hid hlm
    have t0 : ((l.length : Int) != (m.length : Int)) = false := by rw [hlm]; simp
    clear hlm
    obtain ⟨X, hX⟩ : ∃ X, decide (l = m) = X := ⟨_, rfl⟩
    have HX := Lib.hid hX
    rw [hX]
    clear hX
    go_enter Tryd.func40, Tryd.ntmps40
    go_wp2_with fail
    clear t0
    go_loopw [17] (fun v wr => ∃ i : Nat, i ≤ l.length ∧ v = .int .i64 (i : Int) ∧ (∀ j, j < i → l.getD j (0, []) = m.getD j (0, [])) ∧ Below w.heap.size w wr) (fun v _ => l.length - (intOf v).toNat)
    case atStart => exact ⟨0, Nat.zero_le _, rfl, fun j hj => absurd hj (Nat.not_lt_zero _), Below.refl _ _⟩
    case round =>
      obtain ⟨i, hi, rfl, hal, hb⟩ := hrel
      have HALL := Lib.hid hal
      have HB := Lib.hid hb
      have i0 : (0 : Int) ≤ (i : Int) := by omega
      have ib : (i : Int) ≤ 1000 := by have := HL.out; omega
      clear hal hb
      by_cases hlt : i < l.length
      · have hlt' : (i : Int) < (l.length : Int) := by omega
        have hlt2 : (i : Int) < (m.length : Int) := by rw [← HLM.out]; omega
        obtain ⟨a1, cap1, he, hv | ⟨gb, off, rfl, hbw, hcell⟩⟩ := HV.out
        · rw [hv] at hlt; simp at hlt
        injection he with e1 _ e3
        subst e1 e3
        obtain ⟨a2, cap2, he2, hv2 | ⟨gb2, off2, rfl, hbw2, hcell2⟩⟩ := HU.out
        · rw [hv2] at hlt2; simp at hlt2; omega
        injection he2 with e1 _ e3
        subst e1 e3
        obtain ⟨tv, hc0, hc1, hts⟩ := hcell i hlt
        obtain ⟨tu, hd0, hd1, htu⟩ := hcell2 i (by omega)
        have hcl0 : wr.cell? ⟨gb, off + i * 2, none⟩ = _ := (HB.out.cell (p := ⟨gb, off + i * 2, none⟩) hbw).trans hc0
        have hcl1 : wr.cell? ⟨gb, off + i * 2 + 1, none⟩ = _ := (HB.out.cell (p := ⟨gb, off + i * 2 + 1, none⟩) hbw).trans hc1
        have hdl0 : wr.cell? ⟨gb2, off2 + i * 2, none⟩ = _ := (HB.out.cell (p := ⟨gb2, off2 + i * 2, none⟩) hbw2).trans hd0
        have hdl1 : wr.cell? ⟨gb2, off2 + i * 2 + 1, none⟩ = _ := (HB.out.cell (p := ⟨gb2, off2 + i * 2 + 1, none⟩) hbw2).trans hd1
        have HTS := Lib.hid (hts.later HB.out)
        have HTU := Lib.hid (htu.later HB.out)
        have HSI := Lib.hid (HS.out i hlt)
        obtain ⟨p, hp⟩ : ∃ p, l.getD i (0, []) = p := ⟨_, rfl⟩
        obtain ⟨q, hq⟩ : ∃ q, m.getD i (0, []) = q := ⟨_, rfl⟩
        have HPQ := Lib.hid (And.intro hp hq)
        rw [hp] at hcl0 HTS HSI
        rw [hq] at hdl0 HTU
        obtain ⟨f, ts⟩ := p
        obtain ⟨g, us⟩ := q
        obtain ⟨ta, tcap, rfl, _⟩ := HTS.out
        obtain ⟨ua, ucap, rfl, _⟩ := HTU.out
        have HLT := Lib.hid hlt
        obtain ⟨Y, hY⟩ : ∃ Y, decide ((f, ts) = (g, us)) = Y := ⟨_, rfl⟩
        have HY := Lib.hid hY
        have b2 := Lib.hid (((Below.refl wr.heap.size wr).alloc (Nat.le_refl _) (.cells #[.int .i64 f, .slice ta ts.length tcap] 42)).alloc (by simp) (.cells #[.int .i64 g, .slice ua us.length ucap] 42))
        have b1 := (Below.refl wr.heap.size wr).alloc (Nat.le_refl _) (.cells #[.int .i64 f, .slice ta ts.length tcap] 42)
        have hel0 := (b1.cell (p := ⟨gb2, off2 + i * 2, none⟩) (World.block_lt_of_cell? wr _ hdl0)).trans hdl0
        have hel1 := (b1.cell (p := ⟨gb2, off2 + i * 2 + 1, none⟩) (World.block_lt_of_cell? wr _ hdl1)).trans hdl1
        clear hp hq hlt hi hcell hbw hcell2 hbw2 hc0 hc1 hd0 hd1 hts htu hY b1 hdl0 hdl1
        go_wp2_with fail
        refine (samesig_any f g _ _ ts us _ (HTS.out.later b2.out) (HTU.out.later b2.out) HSI.out).mono ?_
        rintro e w4 ⟨rfl, hb4⟩
        rw [HY.out]
        have B4 := Lib.hid (HB.out.trans ((b2.out.trans (hb4.mono b2.out.size)).mono HB.out.size))
        clear hb4 b2 hcl0 hcl1 hel0 hel1
        cases Y with
        | true =>
          go_wp2_with fail
          go_roundw
          case rel => exact ⟨i + 1, by have := HLT.out; omega, by go_num, fun j hj => if h : j = i then by subst h; rw [HPQ.out.1, HPQ.out.2]; exact of_decide_eq_true HY.out else HALL.out j (by omega), B4.out⟩
          case measure => have := HLT.out; simp [intOf]; omega
        | false =>
          go_wp2_with fail
          go_ret
          refine ⟨?_, B4.out⟩
          have hne : l ≠ m := list_ne_at (d := (0, [])) (i := i) (by rw [HPQ.out.1, HPQ.out.2]; exact of_decide_eq_false HY.out)
          rw [← HX.out]; simp [hne]
      · obtain rfl : i = l.length := by omega
        have hlt' : ¬ (l.length : Int) < (l.length : Int) := by omega
        clear hi hlt
        go_wp2_with fail
        go_ret
        refine ⟨?_, HB.out⟩
        have he : l = m := list_eq_at HLM.out HALL.out
        rw [← HX.out]; simp [he]
  · have t0 : ((l.length : Int) != (m.length : Int)) = true := by rw [bne_iff_ne]; omega
    have HLM := Lib.hid hlm
    clear hlm
    go_enter Tryd.func40, Tryd.ntmps40
    go_wp2_with fail
    go_ret
    refine ⟨?_, Below.refl _ _⟩
    have hne : l ≠ m := by rintro rfl; exact HLM.out rfl
    simp [hne]
set_option maxRecDepth 100000 in
set_option maxHeartbeats 4000000 in
/-- are two certificates the same? -/
theorem same_any (v v' : Int) (k k' : ByteArray) (x y : Value) (l m : List (Int × List ByteArray)) (w : World) (hx : SigsAt w x l) (hy : SigsAt w y m) (hl : l.length ≤ 1000) (hs : ∀ i, i < l.length → (l.getD i (0, [])).2.length ≤ 1000) :
    Calls Tryd.prog 29 #[.agg #[.int .i64 v, .string k, x], .agg #[.int .i64 v', .string k', y]] w fun e w' => e = .returned (.bool (decide (((v, k), l) = ((v', k'), m)))) ∧ Below w.heap.size w w' := by
  have HX := Lib.hid hx
  have HY := Lib.hid hy
  have HL := Lib.hid hl
  have HS := Lib.hid hs
  obtain ⟨a0, cap, rfl, _⟩ := hx
  obtain ⟨b0, bap, rfl, _⟩ := hy
  clear hl hs
  have b2 := Lib.hid (((Below.refl w.heap.size w).alloc (Nat.le_refl _) (.cells #[.int .i64 v, .string k, .slice a0 l.length cap] 24)).alloc (by simp) (.cells #[.int .i64 v', .string k', .slice b0 m.length bap] 24))
  by_cases hv : v = v'
  · by_cases hk : k = k'
    · subst hv hk
      obtain ⟨X, hX⟩ : ∃ X, decide (l = m) = X := ⟨_, rfl⟩
      have e1 : decide (((v, k), l) = ((v, k), m)) = X := by rw [← hX]; simp
      rw [e1]
      have HXX := Lib.hid hX
      have t0 : (v == v) = true := by simp
      have t1 : (k.toList == k.toList) = true := by simp
      clear hX e1
      go_enter Tryd.func29, Tryd.ntmps29
      go_wp2_with fail
      refine (eqsigs_any l m _ _ _ (HX.out.later b2.out) (HY.out.later b2.out) HL.out HS.out).mono ?_
      rintro e w2 ⟨rfl, hb2⟩
      rw [HXX.out]
      have B2 := Lib.hid (b2.out.trans (hb2.mono b2.out.size))
      clear hb2 b2
      go_wp2_with fail
      go_ret
      exact ⟨rfl, B2.out⟩
    · subst hv
      have t0 : (v == v) = true := by simp
      have t1 : (k.toList == k'.toList) = false := by rw [beq_eq_false_iff_ne]; exact fun h => hk (ba_toList h)
      have HK := Lib.hid hk
      clear hk
      go_enter Tryd.func29, Tryd.ntmps29
      go_wp2_with fail
      go_ret
      refine ⟨?_, b2.out⟩
      rw [show decide (((v, k), l) = ((v, k'), m)) = false by simp [HK.out]]; rfl
  · have t0 : (v == v') = false := by simpa using hv
    have HK := Lib.hid hv
    clear hv
    go_enter Tryd.func29, Tryd.ntmps29
    go_wp2_with fail
    go_ret
    refine ⟨?_, b2.out⟩
    rw [show decide (((v, k), l) = ((v', k'), m)) = false by simp [HK.out]]; rfl
end Go.Proofs.YtacbamfhlgchgaaDoor
end
section
open Go Go.RowKit
namespace JJ
open BB WW
theorem reqs_at {w wr : World} {l : List Rq} (hb : Below w.heap.size w wr) {b off : Nat} (hbw : b < w.heap.size) (hc : ∀ i, i < l.length → w.cell? ⟨b, off + i * 3, none⟩ = some (.int .i64 (l.getD i (0, 0, ⟨#[]⟩)).1) ∧ w.cell? ⟨b, off + i * 3 + 1, none⟩ = some (.int .i64 (l.getD i (0, 0, ⟨#[]⟩)).2.1) ∧ w.cell? ⟨b, off + i * 3 + 2, none⟩ = some (.string (l.getD i (0, 0, ⟨#[]⟩)).2.2)) (i : Nat) (hi : i < l.length) :
    wr.cell? ⟨b, off + i * 3, none⟩ = some (.int .i64 (l.getD i r0).1) ∧ wr.cell? ⟨b, off + i * 3 + 1, none⟩ = some (.int .i64 (l.getD i r0).2.1) ∧ wr.cell? ⟨b, off + i * 3 + 2, none⟩ = some (.string (l.getD i r0).2.2) := by
  obtain ⟨h1, h2, h3⟩ := hc i hi
  exact ⟨(hb.cell (p := ⟨b, off + i * 3, none⟩) hbw).trans h1, (hb.cell (p := ⟨b, off + i * 3 + 1, none⟩) hbw).trans h2, (hb.cell (p := ⟨b, off + i * 3 + 2, none⟩) hbw).trans h3⟩
end JJ
namespace Go.Proofs.YtacbamfhlgchgaaDoor
open JJ WW BB
set_option maxRecDepth 100000 in
set_option maxHeartbeats 8000000 in
theorem rtwice_any (l : List Rq) (v : Value) (w : World) (hv : ReqsAt w v l) (hl : l.length ≤ 1000) :
    Calls Tryd.prog 15 #[v] w fun e w' => e = .returned (.bool (twiceR l)) ∧ Below w.heap.size w w' := by
  have HV := Lib.hid hv
  have HL := Lib.hid hl
  obtain ⟨a0, cap, rfl, hx⟩ := hv
  have HX := Lib.hid hx
  obtain ⟨X, hX⟩ : ∃ X, twiceR l = X := ⟨_, rfl⟩
  have HTX := Lib.hid hX
  rw [hX]
  clear hl hx hX
  go_enter Tryd.func15, Tryd.ntmps15
  go_wp2_with fail
  go_loopw [3] (fun x wr => ∃ i : Nat, i ≤ l.length ∧ x = .int .i64 (i : Int) ∧ freeTo l i ∧ Below w.heap.size w wr) (fun x _ => l.length - (intOf x).toNat)
  case atStart => exact ⟨0, Nat.zero_le _, rfl, fun j hj => absurd hj (Nat.not_lt_zero _), Below.refl _ _⟩
  case round =>
    obtain ⟨i, hi, rfl, hfree, hb⟩ := hrel
    have HF := Lib.hid hfree
    have HB := Lib.hid hb
    have i0 : (0 : Int) ≤ (i : Int) := by omega
    have ib : (i : Int) ≤ 1000 := by have := HL.out; omega
    clear hfree hb
    by_cases hlt : i < l.length
    · have hlt' : (i : Int) < (l.length : Int) := by omega
      have HLT := Lib.hid hlt
      obtain ⟨b, off, rfl, hbw, hcell⟩ : ∃ b off, a0 = some ⟨b, off, none⟩ ∧ b < w.heap.size ∧ _ := by
        rcases HX.out with h | h
        · subst h; simp at hlt
        · exact h
      have HC := Lib.hid (fun wx (hb : Below w.heap.size w wx) j (hj : j < l.length) => reqs_at hb hbw hcell j hj)
      obtain ⟨r, hr⟩ : ∃ r, l.getD i r0 = r := ⟨_, rfl⟩
      have HRR := Lib.hid hr
      obtain ⟨c, s, t⟩ := r
      clear hi hlt hbw hcell hr
      go_wp2_with fail
      go_loopw [4] (fun y wx => ∃ k : Nat, k ≤ i ∧ y = .int .i64 (k : Int) ∧ (∀ k', k' < k → ¬ ((l.getD k' r0).1 = (l.getD i r0).1 ∧ (l.getD k' r0).2.1 = (l.getD i r0).2.1)) ∧ Below w.heap.size w wx) (fun y _ => i - (intOf y).toNat)
      case atStart => exact ⟨0, Nat.zero_le _, rfl, fun j hj => absurd hj (Nat.not_lt_zero _), HB.out⟩
      case round =>
        obtain ⟨k, hk, rfl, hno, hb⟩ := hrel
        have HNO := Lib.hid hno
        have HB2 := Lib.hid hb
        have k0 : (0 : Int) ≤ (k : Int) := by omega
        have kb : (k : Int) ≤ 1000 := by omega
        clear hno hb
        by_cases hlk : k < i
        · have hlk' : (k : Int) < (i : Int) := by omega
          have hlk2 : (k : Int) < (l.length : Int) := by omega
          have HLK := Lib.hid hlk
          obtain ⟨q0, q1, _⟩ := HC.out wr HB2.out i HLT.out
          obtain ⟨p0, p1, _⟩ := HC.out wr HB2.out k (by have := HLT.out; omega)
          obtain ⟨r', hr'⟩ : ∃ r', l.getD k r0 = r' := ⟨_, rfl⟩
          have HRK := Lib.hid hr'
          rw [hr'] at p0 p1
          rw [HRR.out] at q0 q1
          obtain ⟨c', s', t'⟩ := r'
          clear hk hlk hr'
          by_cases hc : c = c'
          · subst hc
            have t1 : (c == c) = true := by simp
            by_cases hs : s = s'
            · subst hs
              have t2 : (s == s) = true := by simp
              go_wp2_with fail
              go_quiet (fail)
              go_wp2_with fail
              go_ret
              refine ⟨?_, below_drewI HB2.out _⟩
              rw [← HTX.out, hit_some l i k HLT.out HLK.out (by rw [HRR.out, HRK.out]; exact ⟨rfl, rfl⟩)]
              rfl
            · have t2 : (s == s') = false := by simpa using hs
              have HNE := Lib.hid hs
              clear hs
              go_wp2_with fail
              go_quiet (fail)
              go_wp2_with fail
              go_roundw
              case rel => exact ⟨k + 1, by have := HLK.out; omega, by go_num, fun k' hk' => if h : k' = k then by subst h; rw [HRR.out, HRK.out]; rintro ⟨_, e⟩; exact HNE.out e.symm else HNO.out k' (by omega), below_drewI HB2.out _⟩
              case measure => have := HLK.out; simp [intOf]; omega
          · have t1 : (c == c') = false := by simpa using hc
            have HNE := Lib.hid hc
            clear hc
            go_wp2_with fail
            go_quiet (fail)
            go_wp2_with fail
            go_roundw
            case rel => exact ⟨k + 1, by have := HLK.out; omega, by go_num, fun k' hk' => if h : k' = k then by subst h; rw [HRR.out, HRK.out]; rintro ⟨e, _⟩; exact HNE.out e.symm else HNO.out k' (by omega), below_drewI HB2.out _⟩
            case measure => have := HLK.out; simp [intOf]; omega
        · obtain rfl : k = i := by omega
          have hlk' : ¬ (k : Int) < (k : Int) := by omega
          clear hk hlk
          go_wp2_with fail
          go_roundw
          case rel => exact ⟨k + 1, by have := HLT.out; omega, by go_num, fun j hj => if h : j = k then by subst h; exact HNO.out else HF.out j (by omega), HB2.out⟩
          case measure => have := HLT.out; simp [intOf]; omega
    · obtain rfl : i = l.length := by omega
      have hlt' : ¬ (l.length : Int) < (l.length : Int) := by omega
      clear hi hlt
      go_wp2_with fail
      go_ret
      exact ⟨by rw [← HTX.out, free_none l HF.out]; rfl, HB.out⟩
end Go.Proofs.YtacbamfhlgchgaaDoor
end
