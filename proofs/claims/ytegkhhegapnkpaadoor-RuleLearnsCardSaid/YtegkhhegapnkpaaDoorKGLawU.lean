/-
  The walk of the law of full forests.
-/
import Derived.Test.YtegkhhegapnkpaaDoorKRRef
import Derived.Test.YtegkhhegapnkpaaDoorKRAwake
import Derived.Test.YtegkhhegapnkpaaDoorKYChd
import Derived.Test.YtegkhhegapnkpaaDoorKGLook
section
open Go Go.RowKit
namespace RR
open FF JJ CC WW BB MM
theorem play_small (l : List (Nat × Nat × Nat)) : ∀ x ∈ (playF (chainL l l.length)).nodes, SmallI x.2 := fun x hx =>
  play_from (p := SmallI) _ (fun b hb => (chain_small l l.length b hb).1) x (List.mem_append_left _ hx)
end RR
namespace Go.Proofs.YtegkhhegapnkpaaDoor
open RR FF JJ CC MM WW BB
set_option maxRecDepth 100000 in
set_option maxHeartbeats 8000000 in
theorem lawL_any (l : List (Nat × Nat × Nat)) (lv : Value) (s1 s2 : Int) (a b : Nat) (w : World) (hv : TriAt w lv l) (hsm : ∀ i, (l.getD i (0, 0, 0)).1 < 256 ∧ (l.getD i (0, 0, 0)).2.1 < 256 ∧ (l.getD i (0, 0, 0)).2.2 < 256) (ha : a < 256) (hb : b < 256) (hT : Tabs w) :
    Calls Tryd.prog 7 #[lv, .agg #[.int .i64 s1, .int .i64 s2], .agg #[.int .u8 (a : Int), .int .u8 (b : Int)]] w fun e w' => e = .returned (.bool true) ∧ Below w.heap.size w w' := by
  have HT := Lib.hid hT
  have HV := Lib.hid hv
  have HSM := Lib.hid hsm
  have HA := Lib.hid ha
  have HB := Lib.hid hb
  obtain ⟨la0, lc0, rfl, _⟩ := hv
  have X0 := Lib.hid (((Below.refl w.heap.size w).alloc (Nat.le_refl _) (.cells #[.int .i64 s1, .int .i64 s2] 72)).alloc (by simp) (.cells #[.int .u8 (a : Int), .int .u8 (b : Int)] 64))
  have L0 := Lib.hid (show Blk ((w.alloc (.cells #[.int .i64 s1, .int .i64 s2] 72)).alloc (.cells #[.int .u8 (a : Int), .int .u8 (b : Int)] 64)) w.heap.size 2 (rowL [.int .i64 s1, .int .i64 s2]) from (Blk.new' rfl (row2_ _ _)).alloc _)
  have M0 := Lib.hid (show Blk ((w.alloc (.cells #[.int .i64 s1, .int .i64 s2] 72)).alloc (.cells #[.int .u8 (a : Int), .int .u8 (b : Int)] 64)) (w.heap.size + 1) 2 (rowL [.int .u8 (a : Int), .int .u8 (b : Int)]) from Blk.new' (by simp) (row2_ _ _))
  clear hT hsm ha hb
  by_cases h30 : l.length ≤ 30 ∧ 0 < l.length
  · obtain ⟨h30, h0⟩ := h30
    have t1 : decide ((30 : Int) < (l.length : Int)) = false := decide_eq_false (by omega)
    have t2 : ((l.length : Int) == 0) = false := by rw [beq_eq_false_iff_ne]; omega
    have H30 := Lib.hid h30
    have H0 := Lib.hid h0
    clear h30 h0
    go_enter Tryd.func7, Tryd.ntmps7
    go_wp2_with fail
    refine (rawake_any _).mono ?_
    rintro e w1 ⟨rfl, hb1⟩
    have X1 := Lib.hid (X0.out.trans (hb1.mono X0.out.size))
    have L1 := Lib.hid (L0.out.below hb1 L0.out.lt)
    have M1 := Lib.hid (M0.out.below hb1 M0.out.lt)
    clear hb1
    go_wp2_with fail
    refine (made_any l _ w1 (HV.out.later X1.out) HSM.out H30.out (tabs_on HT.out X1.out)).mono ?_
    rintro e w2 ⟨u, rfl, g, na, nn, nc, oa, ow, oc, ua, uc, L, rfl, hcf, hfo, hbv, hmap, hb2⟩
    have HSF := Lib.hid (play_small l)
    have HWF := Lib.hid (rplay_wf (chainL l l.length)).1
    have HSB := Lib.hid (show ∀ k, SmallI ((chainL l l.length).getD k bd0) from fun k => by
      by_cases hj : k < (chainL l l.length).length
      · rw [getD_at hj]; exact (chain_small l l.length _ (List.getElem_mem hj)).1
      · rw [List.getD_eq_getElem?_getD, List.getElem?_eq_none (by omega)]; exact small_bd0)
    obtain ⟨F, hF⟩ : ∃ F, playF (chainL l l.length) = F := ⟨_, rfl⟩
    rw [hF] at hcf hfo HSF HWF ⊢
    obtain ⟨bs, hbs⟩ : ∃ bs, chainL l l.length = bs := ⟨_, rfl⟩
    rw [hbs] at hmap HSB
    have HMAP := Lib.hid hmap
    have HLN := Lib.hid (show L.length = l.length by have := congrArg List.length hmap; rwa [List.length_map, ← hbs, chain_len] at this)
    have HCF := Lib.hid hcf
    have HFO := Lib.hid hfo
    have HBV := Lib.hid hbv
    have X2 := Lib.hid (X1.out.trans (hb2.mono X1.out.size))
    have L2 := Lib.hid (L1.out.below hb2 L1.out.lt)
    have M2 := Lib.hid (M1.out.below hb2 M1.out.lt)
    clear hF hbs hmap hcf hfo hbv hb2 t1 t2
    obtain ⟨m, hm⟩ : ∃ m, L.length = m := ⟨_, rfl⟩
    have H0m := Lib.hid (show 0 < m by rw [← hm, HLN.out]; exact H0.out)
    have HM30 := Lib.hid (show m ≤ 30 by rw [← hm, HLN.out]; exact H30.out)
    have HMm := Lib.hid hm
    obtain ⟨lb, loff, rfl, _, _, hat⟩ := bv_at HBV.out 0 (by rw [hm]; exact H0m.out)
    have HAT := Lib.hid hat
    have HBL := Lib.hid (show ∀ j, j < m → (L.getD j vb0).1 = bs.getD j bd0 from fun j hj => by rw [← HMAP.out, bmap_getD L j (by rw [hm]; exact hj)])
    rw [hm]
    obtain ⟨k, hk⟩ : ∃ k, a % m = k := ⟨_, rfl⟩
    have hkm : k < m := hk ▸ Nat.mod_lt _ H0m.out
    have e1 : ((a : Nat) : Int).tmod (m : Int) = (k : Int) := by rw [Int.tmod_eq_emod_of_nonneg (by omega), ← hk]; simp
    have e2 : IntKind.i64.wrap (a : Int) = (a : Int) := by rw [IntKind.wrap_i64]; have := HA.out; omega
    have e3 : (k : Int) < (m : Int) := by omega
    have e4 : (0 : Int) < (m : Int) := by omega
    have e5 : IntKind.i64.wrap (k : Int) = (k : Int) := by rw [IntKind.wrap_i64]; have := HM30.out; omega
    obtain ⟨⟨pb, ps, pr⟩, hP⟩ : ∃ P, L.getD k vb0 = P := ⟨_, rfl⟩
    have HPB := Lib.hid (show pb = bs.getD k bd0 by rw [← HBL.out k hkm, hP])
    have HSP := Lib.hid (show SmallI pb by rw [HPB.out]; exact HSB.out k)
    obtain ⟨pv, hpv⟩ : ∃ pv, viewI pb = pv := ⟨_, rfl⟩
    obtain ⟨pp, hpp⟩ : ∃ pp, propI pb = pp := ⟨_, rfl⟩
    obtain ⟨pj, hpj⟩ : ∃ pj, jvI pb = pj := ⟨_, rfl⟩
    obtain ⟨pk, hpk⟩ : ∃ pk, parI pb = pk := ⟨_, rfl⟩
    have A2 := Lib.hid ((Below.refl w2.heap.size w2).alloc (Nat.le_refl _) (.cells #[.string F.root, .int .i64 F.height, .slice na nn nc, .slice oa ow oc] 54))
    obtain ⟨c0, c1, c2, c3, c4, c5, _⟩ := HAT.out _ A2.out k (by rw [hm]; exact hkm)
    have hin := (HAT.out w2 (Below.refl _ _) k (by rw [hm]; exact hkm)).2.2.2.2.2.2
    rw [hP] at c0 c1 c2 c3 c4 c5 hin
    obtain ⟨a4, c4', h4⟩ := sl_of_sigs hin.1
    obtain ⟨a5, c5', h5⟩ := sl_of_reqs hin.2
    replace h4 : ps = .slice a4 (sigsI pb).length c4' := h4
    replace h5 : pr = .slice a5 pb.2.length c5' := h5
    subst h4 h5
    obtain ⟨n4, hn4⟩ : ∃ n, (sigsI pb).length = n := ⟨_, rfl⟩
    obtain ⟨n5, hn5⟩ : ∃ n, pb.2.length = n := ⟨_, rfl⟩
    replace c0 : _ = some (Value.int .i64 pv) := hpv ▸ c0
    replace c1 : _ = some (Value.int .i64 pp) := hpp ▸ c1
    replace c2 : _ = some (Value.int .i64 pj) := hpj ▸ c2
    replace c3 : _ = some (Value.string pk) := hpk ▸ c3
    replace c4 : _ = some (Value.slice a4 n4 c4') := hn4 ▸ c4
    replace c5 : _ = some (Value.slice a5 n5 c5') := hn5 ▸ c5
    have HIN := Lib.hid (show SigsAt w2 (.slice a4 n4 c4') (sigsI pb) ∧ ReqsAt w2 (.slice a5 n5 c5') pb.2 from ⟨hn4 ▸ hin.1, hn5 ▸ hin.2⟩)
    have HPE := Lib.hid (show viewI pb = pv ∧ propI pb = pp ∧ jvI pb = pj ∧ parI pb = pk from ⟨hpv, hpp, hpj, hpk⟩)
    have HDG := Lib.hid (show ∀ wx, Below w2.heap.size w2 wx → Calls Tryd.prog 26 #[.agg #[.int .i64 pv, .int .i64 pp, .int .i64 pj, .string pk, .slice a4 n4 c4', .slice a5 n5 c5']] wx fun e w' => e = .returned (.string (digI pb)) ∧ Below wx.heap.size wx w' from fun wx hx => by
      have h1 := HPE.out
      obtain ⟨q1, q2, q3, q4⟩ := h1
      have := rbdigest_any (viewI pb) (propI pb) (jvI pb) (parI pb) (.slice a4 n4 c4') (.slice a5 n5 c5') (sigsI pb) pb.2 wx (HIN.out.1.later hx) (HIN.out.2.later hx) HSP.out.1 HSP.out.2.1 HSP.out.2.2
      rw [q1, q2, q3, q4] at this
      refine this.mono fun e w' h => ⟨?_, h.2⟩
      rw [h.1]
      unfold digI
      rw [← q1, ← q2, ← q3, ← q4])
    have A3 := Lib.hid (((Below.refl w2.heap.size w2).alloc (Nat.le_refl _) (.cells #[.string F.root, .int .i64 F.height, .slice na nn nc, .slice oa ow oc] 54)).alloc (by simp) (.cells #[.int .i64 pv, .int .i64 pp, .int .i64 pj, .string pk, .slice a4 n4 c4', .slice a5 n5 c5'] 29))
    have W3 := Lib.hid (show Blk ((w2.alloc (.cells #[.string F.root, .int .i64 F.height, .slice na nn nc, .slice oa ow oc] 54)).alloc (.cells #[.int .i64 pv, .int .i64 pp, .int .i64 pj, .string pk, .slice a4 n4 c4', .slice a5 n5 c5'] 29)) w2.heap.size 4 (rowL [.string F.root, .int .i64 F.height, .slice na nn nc, .slice oa ow oc]) from (Blk.new' rfl (row4_ _ _ _ _)).alloc _)
    have B3 := Lib.hid (show Blk ((w2.alloc (.cells #[.string F.root, .int .i64 F.height, .slice na nn nc, .slice oa ow oc] 54)).alloc (.cells #[.int .i64 pv, .int .i64 pp, .int .i64 pj, .string pk, .slice a4 n4 c4', .slice a5 n5 c5'] 29)) (w2.heap.size + 1) 6 (rowL [.int .i64 pv, .int .i64 pp, .int .i64 pj, .string pk, .slice a4 n4 c4', .slice a5 n5 c5']) from Blk.new' (by simp) (row6_ _ _ _ _ _ _))
    obtain ⟨m1, m2⟩ := cells2 (M2.out.alloc (.cells #[.string F.root, .int .i64 F.height, .slice na nn nc, .slice oa ow oc] 54))
    clear hk hkm hP hpv hpp hpj hpk hn4 hn5 hin hat hm
    go_upto_region 5 with fail
    have X3 := Lib.hid (X2.out.trans (A3.out.mono X2.out.size))
    have L3 := Lib.hid (L2.out.below A3.out L2.out.lt)
    have M3 := Lib.hid (M2.out.below A3.out M2.out.lt)
    have HCF3 := Lib.hid (HCF.out.on A3.out)
    have HFO3 := Lib.hid (HFO.out.later A3.out)
    clear A2 m1 m2 c0 c1 c2 c3 c4 c5
    obtain ⟨wr, hwr⟩ : ∃ wr, (w2.alloc (.cells #[.string F.root, .int .i64 F.height, .slice na nn nc, .slice oa ow oc] 54)).alloc (.cells #[.int .i64 pv, .int .i64 pp, .int .i64 pj, .string pk, .slice a4 n4 c4', .slice a5 n5 c5'] 29) = wr := ⟨_, rfl⟩
    rw [hwr] at A3 W3 B3 X3 L3 M3 HCF3 HFO3
    rw [hwr]
    obtain ⟨q, hq⟩ : ∃ q, w2.heap.size = q := ⟨_, rfl⟩
    rw [hq] at W3 B3
    rw [hq]
    clear hwr hq
    have HB6 := Lib.hid (fun (wx : World) (hb : Below wr.heap.size wr wx) => cells6 (B3.out.below hb B3.out.lt))
    have HDX := Lib.hid (fun (wx : World) (hb : Below wr.heap.size wr wx) => HDG.out wx (A3.out.trans (hb.mono A3.out.size)))
    obtain ⟨D, hD⟩ : ∃ D, digI pb = D := ⟨_, rfl⟩
    have HD32 := Lib.hid (show D.size = 32 by rw [← hD]; exact dig_size pb)
    rw [hD] at HDX
    clear hD
    go_cut [11] from 45 to 49 (fun s wx => ∃ y, s = .pointer (some ⟨y, 0, none⟩) ∧ Blk wx y 3 (rowL [.int .i64 pv, .string D, .slice none 0 0]) ∧ Below wr.heap.size wr wx ∧ wr.heap.size ≤ y)
    case first =>
      go_wp2_with fail
      refine crossE_abs (fun wx => Below wr.heap.size wr wx) 6 [0, 1, 2] 3 5 [(true, 4), (false, 5), (false, 6)] [(false, 3), (true, 4), (false, 6)] (by kernel_rfl) (by kernel_rfl) (fun _ _ d _ _ h => by cases d <;> exact h) fun w5 hs5 => ⟨hs5.below _, ?_⟩
      have Y5 := Lib.hid (show Below wr.heap.size wr w5 from hs5.below _)
      clear hs5
      iterate 3 (refine pre_run _ ?_ rfl rfl ?_ ?_; rotate_left; (focus (intro w' hS; obtain ⟨d0, d1, d2, d3, d4, d5⟩ := HB6.out _ hS; go_simp; exact rfl)); simp only [Act.put, List.setIfInBounds_toArray, List.set_cons_zero, List.set_cons_succ, List.getElem_toArray, List.getElem_cons_zero, List.getElem_cons_succ])
      refine pre_end ⟨?_, ?_⟩
      · refine pe_call (R := fun v w' => v = .string D ∧ Below w5.heap.size w5 w') _ rfl rfl (by go_simp) ((HDX.out w5 Y5.out).mono fun e w' h => ⟨.string D, h.1, rfl, h.2⟩) (fun v w' h => Y5.out.trans (h.2.mono Y5.out.size)) fun v w6 hr => ?_
        obtain ⟨rfl, hb⟩ := hr
        have Y6 := Lib.hid (Y5.out.trans (hb.mono Y5.out.size))
        clear hb
        simp only [Act.put, List.setIfInBounds_toArray, List.set_cons_zero, List.set_cons_succ, List.getElem_toArray, List.getElem_cons_zero, List.getElem_cons_succ]
        iterate 1 (refine pe_run _ ?_ rfl rfl ?_ ?_; rotate_left; (focus (intro w' hS; go_simp; exact rfl)); simp only [Act.put, List.setIfInBounds_toArray, List.set_cons_zero, List.set_cons_succ, List.getElem_toArray, List.getElem_cons_zero, List.getElem_cons_succ])
        have BA := Lib.hid ((Below.refl w6.heap.size w6).alloc (Nat.le_refl _) (.cells #[.int .i64 0, .string ⟨#[]⟩, .slice none 0 0] 24))
        have Y7 := Lib.hid (Y6.out.trans (BA.out.mono Y6.out.size))
        obtain ⟨y, hy⟩ : ∃ y, w6.heap.size = y := ⟨_, rfl⟩
        have YL := Lib.hid (show wr.heap.size ≤ y by rw [← hy]; exact Y6.out.size)
        have XI := Lib.hid (show Blk (w6.alloc (.cells #[.int .i64 0, .string ⟨#[]⟩, .slice none 0 0] 24)) y 3 (rowL [.int .i64 0, .string ⟨#[]⟩, .slice none 0 0]) from Blk.new' hy.symm (row3_ _ _ _))
        refine pe_value (w' := w6.alloc (.cells #[.int .i64 0, .string ⟨#[]⟩, .slice none 0 0] 24)) _ (.pointer (some ⟨y, 0, none⟩)) rfl rfl (by rw [← hy]; go_simp) Y7.out ?_
        generalize w6.alloc (.cells #[.int .i64 0, .string ⟨#[]⟩, .slice none 0 0] 24) = w7 at *
        simp only [Act.put, List.setIfInBounds_toArray, List.set_cons_zero, List.set_cons_succ, List.getElem_toArray, List.getElem_cons_zero, List.getElem_cons_succ]
        clear hy BA
        obtain ⟨v0, v1, v2⟩ := cells3 XI.out
        have z0 := XI.out.frz 0
        have z1 := XI.out.frz 1
        have z2 := XI.out.frz 2
        refine pe_last _ rfl ?_
        simp only [List.getElem_toArray, List.getElem_cons_zero, List.getElem_cons_succ]
        go_wp2_with fail
        go_meet
        obtain ⟨xi, ui⟩ := rset3 XI.out (.int .i64 pv) (.string D) (.slice none 0 0)
        exact ⟨y, rfl, xi, Y7.out.trans (ui.below YL.out), YL.out⟩
      · have BA := Lib.hid ((Below.refl w5.heap.size w5).alloc (Nat.le_refl _) (.cells #[.int .i64 0, .string ⟨#[]⟩, .slice none 0 0] 24))
        have Y6 := Lib.hid (Y5.out.trans (BA.out.mono Y5.out.size))
        obtain ⟨y, hy⟩ : ∃ y, w5.heap.size = y := ⟨_, rfl⟩
        have YL := Lib.hid (show wr.heap.size ≤ y by rw [← hy]; exact Y5.out.size)
        have XI := Lib.hid (show Blk (w5.alloc (.cells #[.int .i64 0, .string ⟨#[]⟩, .slice none 0 0] 24)) y 3 (rowL [.int .i64 0, .string ⟨#[]⟩, .slice none 0 0]) from Blk.new' hy.symm (row3_ _ _ _))
        refine pe_value (w' := w5.alloc (.cells #[.int .i64 0, .string ⟨#[]⟩, .slice none 0 0] 24)) _ (.pointer (some ⟨y, 0, none⟩)) rfl rfl (by rw [← hy]; go_simp) Y6.out ?_
        generalize w5.alloc (.cells #[.int .i64 0, .string ⟨#[]⟩, .slice none 0 0] 24) = w7 at *
        simp only [Act.put, List.setIfInBounds_toArray, List.set_cons_zero, List.set_cons_succ, List.getElem_toArray, List.getElem_cons_zero, List.getElem_cons_succ]
        clear hy BA
        refine pe_call (R := fun v w' => v = .string D ∧ Below w7.heap.size w7 w') _ rfl rfl (by go_simp) ((HDX.out w7 Y6.out).mono fun e w' h => ⟨.string D, h.1, rfl, h.2⟩) (fun v w' h => Y6.out.trans (h.2.mono Y6.out.size)) fun v w6 hr => ?_
        obtain ⟨rfl, hb⟩ := hr
        have Y7 := Lib.hid (Y6.out.trans (hb.mono Y6.out.size))
        have XJ := Lib.hid (XI.out.below hb XI.out.lt)
        clear hb
        simp only [Act.put, List.setIfInBounds_toArray, List.set_cons_zero, List.set_cons_succ, List.getElem_toArray, List.getElem_cons_zero, List.getElem_cons_succ]
        iterate 1 (refine pe_run _ ?_ rfl rfl ?_ ?_; rotate_left; (focus (intro w' hS; go_simp; exact rfl)); simp only [Act.put, List.setIfInBounds_toArray, List.set_cons_zero, List.set_cons_succ, List.getElem_toArray, List.getElem_cons_zero, List.getElem_cons_succ])
        obtain ⟨v0, v1, v2⟩ := cells3 XJ.out
        have z0 := XJ.out.frz 0
        have z1 := XJ.out.frz 1
        have z2 := XJ.out.frz 2
        refine pe_last _ rfl ?_
        simp only [List.getElem_toArray, List.getElem_cons_zero, List.getElem_cons_succ]
        go_wp2_with fail
        go_meet
        obtain ⟨xi, ui⟩ := rset3 XJ.out (.int .i64 pv) (.string D) (.slice none 0 0)
        exact ⟨y, rfl, xi, Y7.out.trans (ui.below YL.out), YL.out⟩
    case rest =>
      obtain ⟨y, rfl, hy, hbx, hyl⟩ := hcut
      have HY := Lib.hid hy
      have YB := Lib.hid hbx
      have YL := Lib.hid hyl
      clear hy hbx hyl
      obtain ⟨m1, m2⟩ := cells2 (M3.out.below YB.out M3.out.lt)
      obtain ⟨k7, hk7⟩ : ∃ k7, b % 7 = k7 := ⟨_, rfl⟩
      have e7 : ((b : Nat) : Int).tmod 7 = (k7 : Int) := by rw [Int.tmod_eq_emod_of_nonneg (by omega), ← hk7]; simp
      have e7' : (b : Int) % 7 = (k7 : Int) := by rw [← hk7]; simp
      have ew : IntKind.i64.wrap (b : Int) = (b : Int) := by rw [IntKind.wrap_i64]; have := HB.out; omega
      clear hk7
      go_upto_if 53 with fail
      clear e7 e7'
      go_cut [11] from 54 to 59 (fun s wx => s = .pointer (some ⟨y, 0, none⟩) ∧ ∃ cv ch, Blk wx y 3 (rowL [.int .i64 cv, .string ch, .slice none 0 0]) ∧ ch.size ≤ 1000000 ∧ Below wr.heap.size wr wx)
      case first =>
        obtain ⟨d0, d1, d2⟩ := cells3 HY.out
        have z0 := HY.out.frz 0
        have z1 := HY.out.frz 1
        have z2 := HY.out.frz 2
        by_cases h7 : k7 = 0
        · have t7 : ((k7 : Int) == 0) = true := by rw [h7]; rfl
          have t7' : (k7 : Int) = 0 := by omega
          clear h7
          go_wp2_with fail
          go_meet
          obtain ⟨xi, ui⟩ := rset3 HY.out (.int .i64 (b : Int)) (.string D) (.slice none 0 0)
          exact ⟨rfl, _, _, xi, by have := HD32.out; omega, YB.out.trans (ui.below YL.out)⟩
        · have t7 : ((k7 : Int) == 0) = false := by rw [beq_eq_false_iff_ne]; omega
          have t7' : ¬ (k7 : Int) = 0 := by omega
          clear h7
          go_wp2_with fail
          go_meet
          exact ⟨rfl, _, _, HY.out, by have := HD32.out; omega, YB.out⟩
      case rest =>
        obtain ⟨rfl, cv, ch, hy, hch, hbx⟩ := hcut
        have HY2 := Lib.hid hy
        have YB2 := Lib.hid hbx
        have HCH := Lib.hid hch
        clear hy hch hbx m1 m2 ew
        obtain ⟨m1, m2⟩ := cells2 (M3.out.below YB2.out M3.out.lt)
        obtain ⟨k7, hk7⟩ : ∃ k7, b % 11 = k7 := ⟨_, rfl⟩
        have e7 : ((b : Nat) : Int).tmod 11 = (k7 : Int) := by rw [Int.tmod_eq_emod_of_nonneg (by omega), ← hk7]; simp
        have e7' : (b : Int) % 11 = (k7 : Int) := by rw [← hk7]; simp
        clear hk7
        go_upto_if 63 with fail
        clear e7 e7'
        go_cut [11] from 64 to 66 (fun s wx => s = .pointer (some ⟨y, 0, none⟩) ∧ ∃ cv ch, Blk wx y 3 (rowL [.int .i64 cv, .string ch, .slice none 0 0]) ∧ ch.size ≤ 1000000 ∧ Below wr.heap.size wr wx)
        case first =>
          obtain ⟨d0, d1, d2⟩ := cells3 HY2.out
          have z0 := HY2.out.frz 0
          have z1 := HY2.out.frz 1
          have z2 := HY2.out.frz 2
          obtain ⟨d3, d4, d5, d6⟩ := cells4 (W3.out.below YB2.out W3.out.lt)
          by_cases h7 : k7 = 0
          · have t7' : (k7 : Int) = 0 := by omega
            clear h7
            go_wp2_with fail
            go_meet
            obtain ⟨xi, ui⟩ := rset3 HY2.out (.int .i64 0) (.string F.root) (.slice none 0 0)
            exact ⟨rfl, _, _, xi, by have := HWF.out.root32; omega, YB2.out.trans (ui.below YL.out)⟩
          · have t7 : ((k7 : Int) == 0) = false := by rw [beq_eq_false_iff_ne]; omega
            have t7' : ¬ (k7 : Int) = 0 := by omega
            clear h7
            go_wp2_with fail
            go_meet
            exact ⟨rfl, _, _, HY2.out, HCH.out, YB2.out⟩
        case rest =>
          obtain ⟨rfl, xv, xh, hy, hch, hbx⟩ := hcut
          have HY3 := Lib.hid hy
          have YB3 := Lib.hid hbx
          have HXH := Lib.hid hch
          clear hy hch hbx m1 m2
          obtain ⟨⟨hh, mm⟩, hcom⟩ : ∃ R, commitF F xv xh = R := ⟨_, rfl⟩
          have HCOM := Lib.hid hcom
          obtain ⟨⟨x1, x2⟩, hlea⟩ : ∃ R, learnS F (s1, s2) xv xh = R := ⟨_, rfl⟩
          obtain ⟨hup, rfl⟩ : s2 ≤ x2 ∧ x1 = s1 := by
            have := learn_up F (s1, s2) xv xh
            rw [hlea] at this
            exact this
          have HLEA := Lib.hid hlea
          have HUP := Lib.hid hup
          clear hcom hlea hup
          obtain ⟨d0, d1, d2⟩ := cells3 HY3.out
          go_wp2_with fail
          refine (commit_any (HCF3.out.on YB3.out) xv xh none 0 0 HXH.out hh mm HCOM.out).mono ?_
          rintro e w6 ⟨rfl, hb6⟩
          have YB6 := Lib.hid (YB3.out.trans (hb6.mono YB3.out.size))
          have HY6 := Lib.hid (HY3.out.below hb6 HY3.out.lt)
          clear hb6 d0 d1 d2
          obtain ⟨d0, d1, d2⟩ := cells3 HY6.out
          obtain ⟨d3, d4, d5, d6⟩ := cells4 (W3.out.below YB6.out W3.out.lt)
          go_wp2_with fail
          refine (rcommit_any F HWF.out HSF.out na nn nc oa ow oc _ (HFO3.out.later YB6.out) xv xh none 0 0 hh mm HCOM.out).mono ?_
          rintro e w7 ⟨rfl, hb7⟩
          have YB7 := Lib.hid (YB6.out.trans (hb7.mono YB6.out.size))
          have HY7 := Lib.hid (HY6.out.below hb7 HY6.out.lt)
          clear hb7 d0 d1 d2 d3 d4 d5 d6
          obtain ⟨d0, d1, d2⟩ := cells3 HY7.out
          obtain ⟨d3, d4⟩ := cells2 (L3.out.below YB7.out L3.out.lt)
          go_wp2_with fail
          refine (learn_any (HCF3.out.on YB7.out) x1 s2 xv xh none 0 0 HXH.out x1 x2 HLEA.out).mono ?_
          rintro e w8 ⟨rfl, hb8⟩
          have YB8 := Lib.hid ((YB7.out.trans (hb8.mono YB7.out.size)).alloc (Nat.le_trans YB7.out.size hb8.size) (.cells #[.int .i64 x1, .int .i64 x2] 72))
          have HY8 := Lib.hid ((HY7.out.below hb8 HY7.out.lt).alloc (.cells #[.int .i64 x1, .int .i64 x2] 72))
          have HX8 := Lib.hid (show Blk (w8.alloc (.cells #[.int .i64 x1, .int .i64 x2] 72)) w8.heap.size 2 (rowL [.int .i64 x1, .int .i64 x2]) from Blk.new' rfl (row2_ _ _))
          clear hb8 d0 d1 d2 d3 d4
          go_upto_region 13 with fail
          obtain ⟨w9, hw9⟩ : ∃ w9, w8.alloc (.cells #[.int .i64 x1, .int .i64 x2] 72) = w9 := ⟨_, rfl⟩
          obtain ⟨q9, hq9⟩ : ∃ q9, w8.heap.size = q9 := ⟨_, rfl⟩
          rw [hw9] at YB8 HY8 HX8 ⊢
          rw [hq9] at HX8 ⊢
          clear hw9 hq9
          have HSC := Lib.hid (fun (wx : World) (hb : Below w9.heap.size w9 wx) => show (wx.cell? ⟨q9, 0, none⟩ = some (.int .i64 x1) ∧ wx.cell? ⟨q9, 1, none⟩ = some (.int .i64 x2)) ∧ (wx.cell? ⟨w.heap.size, 0, none⟩ = some (.int .i64 x1) ∧ wx.cell? ⟨w.heap.size, 1, none⟩ = some (.int .i64 s2)) ∧ (wx.cell? ⟨q, 0, none⟩ = some (.string F.root) ∧ wx.cell? ⟨q, 1, none⟩ = some (.int .i64 F.height) ∧ wx.cell? ⟨q, 2, none⟩ = some (.slice na nn nc) ∧ wx.cell? ⟨q, 3, none⟩ = some (.slice oa ow oc)) ∧
              wx.cell? ⟨y, 0, none⟩ = some (.int .i64 xv) ∧ wx.cell? ⟨y, 1, none⟩ = some (.string xh) ∧ wx.cell? ⟨y, 2, none⟩ = some (.slice none 0 0) from
            ⟨cells2 (HX8.out.below hb HX8.out.lt), cells2 (L3.out.below (YB8.out.trans (hb.mono YB8.out.size)) L3.out.lt), cells4 (W3.out.below (YB8.out.trans (hb.mono YB8.out.size)) W3.out.lt), cells3 (HY8.out.below hb HY8.out.lt)⟩)
          have u1 : decide (s2 ≤ x2) = true := decide_eq_true HUP.out
          refine plan_abs (fun wx => Below w9.heap.size w9 wx) [(true, 0), (true, 1), (true, 2), (true, 3), (true, 4), (true, 5), (true, 6), (true, 7), (true, 8), (true, 9), (true, 10), (true, 11), (true, 12), (false, 13), (true, 14), (true, 15), (true, 16), (true, 17), (true, 18), (true, 19), (true, 20), (true, 21), (true, 22), (true, 23), (true, 24), (true, 25), (true, 26), (true, 27), (true, 28), (true, 29), (true, 30)] (by kernel_rfl) (by kernel_rfl) (fun _ _ d _ _ h => by cases d <;> exact h) fun w10 hs10 => ⟨hs10.below _, ?_⟩
          have Z10 := Lib.hid (show Below w9.heap.size w9 w10 from hs10.below _)
          clear hs10
          iterate 13 (refine pl_run _ ?_ rfl rfl ?_ ?_; rotate_left; (focus (intro w' hS; obtain ⟨⟨d0, d1⟩, ⟨d2, d3⟩, ⟨d4, d5, d6, d7⟩, d8, d9, d10⟩ := HSC.out w' hS; go_simp; exact rfl)); simp only [Act.put, List.setIfInBounds_toArray, List.set_cons_zero, List.set_cons_succ, List.getElem_toArray, List.getElem_cons_zero, List.getElem_cons_succ])
          refine pl_call1 (v := .agg #[.int .i64 x1, .int .i64 x2]) (R := fun w' => Below w10.heap.size w10 w') _ rfl rfl (by go_simp) (rlearn_any F HWF.out HSF.out na nn nc oa ow oc _ (HFO3.out.later (YB8.out.trans (Z10.out.mono YB8.out.size))) x1 s2 xv xh none 0 0 x1 x2 HLEA.out) (fun w' h => Z10.out.trans (h.mono Z10.out.size)) fun w11 hb11 => ?_
          have Z11 := Lib.hid (Z10.out.trans (hb11.mono Z10.out.size))
          clear hb11
          simp only [Act.put, List.setIfInBounds_toArray, List.set_cons_zero, List.set_cons_succ, List.getElem_toArray, List.getElem_cons_zero, List.getElem_cons_succ]
          iterate 17 (refine pl_run _ ?_ rfl rfl ?_ ?_; rotate_left; (focus (intro w' hS; obtain ⟨⟨d0, d1⟩, ⟨d2, d3⟩, ⟨d4, d5, d6, d7⟩, d8, d9, d10⟩ := HSC.out w' hS; go_simp; exact rfl)); simp only [Act.put, List.setIfInBounds_toArray, List.set_cons_zero, List.set_cons_succ, List.getElem_toArray, List.getElem_cons_zero, List.getElem_cons_succ])
          refine pl_end ?_
          go_wp2_with fail
          go_ret
          exact ⟨rfl, X3.out.trans ((YB8.out.trans (Z11.out.mono YB8.out.size)).mono X3.out.size)⟩
  · by_cases h1 : 30 < l.length
    · have t1 : decide ((30 : Int) < (l.length : Int)) = true := decide_eq_true (by omega)
      clear h30 h1
      go_enter Tryd.func7, Tryd.ntmps7
      go_wp2_with fail
      refine (rawake_any _).mono ?_
      rintro e w1 ⟨rfl, hb1⟩
      have X1 := Lib.hid (X0.out.trans (hb1.mono X0.out.size))
      clear hb1
      go_wp2_with fail
      refine (rawake_any _).mono ?_
      rintro e w2 ⟨rfl, hb2⟩
      have X2 := Lib.hid (X1.out.trans (hb2.mono X1.out.size))
      clear hb2
      go_wp2_with fail
      go_ret
      exact ⟨rfl, X2.out⟩
    · have t1 : decide ((30 : Int) < (l.length : Int)) = false := decide_eq_false (by omega)
      have t2 : ((l.length : Int) == 0) = true := by rw [beq_iff_eq]; omega
      clear h30 h1
      go_enter Tryd.func7, Tryd.ntmps7
      go_wp2_with fail
      refine (rawake_any _).mono ?_
      rintro e w1 ⟨rfl, hb1⟩
      have X1 := Lib.hid (X0.out.trans (hb1.mono X0.out.size))
      clear hb1
      go_wp2_with fail
      refine (rawake_any _).mono ?_
      rintro e w2 ⟨rfl, hb2⟩
      have X2 := Lib.hid (X1.out.trans (hb2.mono X1.out.size))
      clear hb2
      go_wp2_with fail
      go_ret
      exact ⟨rfl, X2.out⟩
end Go.Proofs.YtegkhhegapnkpaaDoor
end
section
open Go Go.RowKit
namespace FF
open JJ CC WW BB MM
theorem dg_is (b : ByteArray) (ws : List (BitVec 32)) (hb : b.data.toList.length ≤ 512) (h : wordsOf b.data.toList (fun u => decide (u = ws)) = true) : dg b = outS (tab ws) := by
  obtain ⟨l, _, e, k⟩ := dg_words b hb
  rw [k] at h
  rw [e, of_decide_eq_true h]
/-- the words of the first one's digest, and of the twelve blocks' -/
def DW : List (List (BitVec 32)) := [
  [0xd9b83702, 0xde76b753, 0x87e9c10b, 0x39deb18b, 0x008f68f8, 0xaead57b2, 0xa2a7a0c4, 0x0f950d91],
  [0x694803b8, 0x34f9430e, 0x7d13aaad, 0x3e8de260, 0x1815a8df, 0x692fa220, 0x67924c59, 0xb44b4cf1],
  [0x1dbe69ff, 0xe3f5016b, 0xe4368392, 0x94497bbb, 0x0feb8328, 0xa270dc42, 0x6b2b01ae, 0x4ac035ba],
  [0xbedb8637, 0xcf50c193, 0x65fc169b, 0xc8cafe34, 0x71a85808, 0xc92e8662, 0x0fa8b079, 0x8b99e0ba],
  [0xef2af1d2, 0x3da9c524, 0xdeaca66c, 0x9d958ae0, 0x7085f498, 0x83377b0a, 0x16523c70, 0x0f93530c],
  [0xc4c041d7, 0x745f8e04, 0x24906146, 0x4924ff0e, 0xb85e903c, 0x33b33bfb, 0xcc1e71ec, 0x8873b7cf],
  [0x4df9bea2, 0x5861b903, 0xc3da5743, 0xfab0924c, 0x3a5964f1, 0x4f1e4917, 0xe5787522, 0xe3feaebe],
  [0xa2c5e140, 0x99be2e67, 0x8d45c282, 0xc8f246ad, 0xac9cc58d, 0xb1e2b251, 0x56b392e5, 0x5228f271],
  [0x1f53573f, 0xe3510d1c, 0x616df128, 0x53676f74, 0x61eb5c9d, 0x0089ad8b, 0xbfb5274b, 0x492145bf],
  [0xe7eecb6f, 0xcc39e5df, 0xf464099e, 0xf074298a, 0x08554a48, 0x138659c9, 0xa571a76a, 0x3632e654],
  [0xb387ff63, 0xabbde91e, 0x2e06f70f, 0x2475ff15, 0x17127aa6, 0xe23fc8a3, 0x44092a30, 0xbaf69cf1],
  [0x2800a585, 0xc2bdc53a, 0x440457f8, 0x0d527e27, 0x97881e81, 0xae0443e8, 0x3c16cfbc, 0xe044d287],
  [0xdf3859b3, 0x1c3c7bdf, 0x17cd3b56, 0x3220c21e, 0x320bec43, 0x4a98f121, 0x67c8c48f, 0xcac7badc]]
def fstB : ByteArray := ⟨#[2, 55, 184, 217, 83, 183, 118, 222, 11, 193, 233, 135, 139, 177, 222, 57, 248, 104, 143, 0, 178, 87, 173, 174, 196, 160, 167, 162, 145, 13, 149, 15]⟩
def d0B : ByteArray := ⟨#[184, 3, 72, 105, 14, 67, 249, 52, 173, 170, 19, 125, 96, 226, 141, 62, 223, 168, 21, 24, 32, 162, 47, 105, 89, 76, 146, 103, 241, 76, 75, 180]⟩
/-- the blocks: one, and those that stand on it -/
def fb0 : BlockD := (((1, 0), ((0, fstB), [])), [(0, 1, ⟨#[]⟩)])
def fbj (j : Nat) : BlockD := (((2, 0), ((1, d0B), [])), [((((j - 1) % 4 : Nat) : Int), 1 + (j : Int), ⟨#[]⟩)])
def fbs (j : Nat) : BlockD := if j = 0 then fb0 else fbj j
def dgs (j : Nat) : ByteArray := outS (tab (DW.getD (j + 1) []))
theorem first_is : firstD = outS (tab (DW.getD 0 [])) := dg_is ⟨#[102, 105, 114, 115, 116]⟩ _ (by decide) (by kernel_rfl)
theorem first_bytes : firstD = fstB := first_is.trans (by kernel_rfl)
theorem dig_0 : digI fb0 = dgs 0 := dg_is (digB 1 0 0 fstB [(0, 1, ⟨#[]⟩)]) _ (by decide) (by kernel_rfl)
theorem dig_bytes : digI fb0 = d0B := dig_0.trans (by kernel_rfl)
theorem dig_1 : digI (fbj 1) = dgs 1 := dg_is (digB 2 0 1 d0B [((((1 - 1) % 4 : Nat) : Int), 1 + ((1 : Nat) : Int), ⟨#[]⟩)]) _ (by decide) (by kernel_rfl)
theorem dig_2 : digI (fbj 2) = dgs 2 := dg_is (digB 2 0 1 d0B [((((2 - 1) % 4 : Nat) : Int), 1 + ((2 : Nat) : Int), ⟨#[]⟩)]) _ (by decide) (by kernel_rfl)
theorem dig_3 : digI (fbj 3) = dgs 3 := dg_is (digB 2 0 1 d0B [((((3 - 1) % 4 : Nat) : Int), 1 + ((3 : Nat) : Int), ⟨#[]⟩)]) _ (by decide) (by kernel_rfl)
theorem dig_4 : digI (fbj 4) = dgs 4 := dg_is (digB 2 0 1 d0B [((((4 - 1) % 4 : Nat) : Int), 1 + ((4 : Nat) : Int), ⟨#[]⟩)]) _ (by decide) (by kernel_rfl)
theorem dig_5 : digI (fbj 5) = dgs 5 := dg_is (digB 2 0 1 d0B [((((5 - 1) % 4 : Nat) : Int), 1 + ((5 : Nat) : Int), ⟨#[]⟩)]) _ (by decide) (by kernel_rfl)
theorem dig_6 : digI (fbj 6) = dgs 6 := dg_is (digB 2 0 1 d0B [((((6 - 1) % 4 : Nat) : Int), 1 + ((6 : Nat) : Int), ⟨#[]⟩)]) _ (by decide) (by kernel_rfl)
theorem dig_7 : digI (fbj 7) = dgs 7 := dg_is (digB 2 0 1 d0B [((((7 - 1) % 4 : Nat) : Int), 1 + ((7 : Nat) : Int), ⟨#[]⟩)]) _ (by decide) (by kernel_rfl)
theorem dig_8 : digI (fbj 8) = dgs 8 := dg_is (digB 2 0 1 d0B [((((8 - 1) % 4 : Nat) : Int), 1 + ((8 : Nat) : Int), ⟨#[]⟩)]) _ (by decide) (by kernel_rfl)
theorem dig_9 : digI (fbj 9) = dgs 9 := dg_is (digB 2 0 1 d0B [((((9 - 1) % 4 : Nat) : Int), 1 + ((9 : Nat) : Int), ⟨#[]⟩)]) _ (by decide) (by kernel_rfl)
theorem dig_10 : digI (fbj 10) = dgs 10 := dg_is (digB 2 0 1 d0B [((((10 - 1) % 4 : Nat) : Int), 1 + ((10 : Nat) : Int), ⟨#[]⟩)]) _ (by decide) (by kernel_rfl)
theorem dig_11 : digI (fbj 11) = dgs 11 := dg_is (digB 2 0 1 d0B [((((11 - 1) % 4 : Nat) : Int), 1 + ((11 : Nat) : Int), ⟨#[]⟩)]) _ (by decide) (by kernel_rfl)
theorem dig_is : ∀ j, j < 12 → digI (fbs j) = dgs j
  | 0, _ => dig_0
  | 1, _ => dig_1
  | 2, _ => dig_2
  | 3, _ => dig_3
  | 4, _ => dig_4
  | 5, _ => dig_5
  | 6, _ => dig_6
  | 7, _ => dig_7
  | 8, _ => dig_8
  | 9, _ => dig_9
  | 10, _ => dig_10
  | 11, _ => dig_11
  | j + 12, h => absurd h (by omega)
theorem dw_apart : ((List.range 13).all fun i => (DW.getD i []).length == 8 && (List.range 13).all fun j => i == j || decide (DW.getD i [] ≠ DW.getD j [])) = true := by kernel_rfl
theorem dw_ne {i j : Nat} (hi : i < 13) (hj : j < 13) (h : i ≠ j) : outS (tab (DW.getD i [])) ≠ outS (tab (DW.getD j [])) := by
  have h1 := List.all_eq_true.1 dw_apart i (List.mem_range.2 hi)
  have h2 := List.all_eq_true.1 dw_apart j (List.mem_range.2 hj)
  rw [Bool.and_eq_true] at h1 h2
  have h3 := List.all_eq_true.1 h1.2 j (List.mem_range.2 hj)
  simp [h] at h3
  exact outS_apart (by simpa using h1.1) (by simpa using h2.1) h3
theorem dgs_ne {i j : Nat} (hi : i < 12) (hj : j < 12) (h : i ≠ j) : dgs i ≠ dgs j := dw_ne (by omega) (by omega) (by omega)
theorem dgs_first {i : Nat} (hi : i < 12) : dgs i ≠ firstD := by rw [first_is]; exact dw_ne (by omega) (by omega) (by omega)
/-- the threes that the law lays -/
def tris (k : Nat) : List (Nat × Nat × Nat) := (0, 0, 0) :: (List.range k).map fun i => (0, 1, i)
theorem tris_getD (k i : Nat) (h : i ≤ k) : (tris k).getD i (0, 0, 0) = if i = 0 then (0, 0, 0) else (0, 1, i - 1) := by
  unfold tris
  cases i with
  | zero => rfl
  | succ i =>
    rw [List.getD_cons_succ, List.getD_eq_getElem?_getD, List.getElem?_map, List.getElem?_range (by omega)]
    simp
theorem chain_tris (k : Nat) : ∀ n, n ≤ k + 1 → chainL (tris k) n = (List.range n).map fbs
  | 0, _ => rfl
  | n + 1, h => by
    rw [chainL, chain_tris k n (by omega), List.range_succ, List.map_append, tris_getD k n (by omega)]
    congr 1
    cases n with
    | zero =>
      show [nextB [] 0 (0, 0, 0)] = [fb0]
      unfold nextB fb0
      rw [← first_bytes]; rfl
    | succ n =>
      have e : ((List.range (n + 1)).map fbs).getD 0 bd0 = fb0 := by
        rw [List.getD_eq_getElem?_getD, List.getElem?_map, List.getElem?_range (by omega)]; rfl
      have hq : 1 % (n + 1 + 1) = 1 := Nat.mod_eq_of_lt (by omega)
      rw [if_neg (by omega)]
      show [nextB _ (n + 1) (0, 1, n)] = [fbs (n + 1)]
      unfold nextB
      simp only [hq, Nat.sub_self, e, if_pos (show 0 < 1 by omega), dig_bytes]
      unfold fbs
      rw [if_neg (by omega)]
      rfl
end FF
end
section
open Go Go.RowKit
namespace FF
open JJ CC WW BB MM
def ofs (q : Nat) : It := (dgs (q + 1), fbs (q + 1))
/-- so many blocks are put on one that is missing -/
def fullF (i : Nat) : Fo := ⟨firstD, 0, [], (List.range (min i 8)).map ofs⟩
theorem dgs0 : dgs 0 = d0B := dig_0.symm.trans dig_bytes
theorem fbs_par (j : Nat) (h : 0 < j) : parI (fbs j) = dgs 0 := by unfold fbs; rw [if_neg (by omega), dgs0]; rfl
theorem fbs_views (j : Nat) (h : 0 < j) : viewI (fbs j) = 2 ∧ jvI (fbs j) = 1 := by unfold fbs; rw [if_neg (by omega)]; exact ⟨rfl, rfl⟩
theorem at_not {l : List It} {h : ByteArray} (hn : ∀ x ∈ l, x.1 ≠ h) : ¬ 0 ≤ atI l h := fun c => by
  obtain ⟨x, hx, e⟩ := (at_mem _ _).1 c
  exact hn x hx e
theorem full_has (i : Nat) (h : ByteArray) (hf : h ≠ firstD) : hasF (fullF i) h = false := by
  unfold hasF
  rw [decide_eq_false (show ¬ h = (fullF i).root from hf), decide_eq_false (at_not (l := (fullF i).nodes) (fun x hx => by cases hx))]; rfl
theorem full_orph (i j : Nat) (hi : i ≤ 11) (hj : j < 12) (h : j = 0 ∨ min i 8 < j) : ¬ 0 ≤ atI (fullF i).orph (dgs j) := by
  refine at_not fun x hx e => ?_
  obtain ⟨q, hq, rfl⟩ := List.mem_map.1 hx
  rw [List.mem_range] at hq
  exact dgs_ne (by omega) hj (by omega) e
theorem full_put (i : Nat) (hi : i < 11) : putF (fullF i) (dgs (i + 1), fbs (i + 1)) = (fullF (i + 1), if i + 1 ≤ 8 then 0 else 7) := by
  rw [put_wait (fun c => c.elim (fun c => by rw [full_has i _ (dgs_first (by omega))] at c; cases c) (full_orph i (i + 1) (by omega) (by omega) (Or.inr (by omega)))) (by rw [fbs_par _ (by omega)]; exact full_has i _ (dgs_first (by omega)))]
  have hl : (fullF i).orph.length = min i 8 := by simp [fullF]
  rw [hl]
  by_cases h8 : i + 1 ≤ 8
  · rw [if_neg (by omega), if_pos h8]
    unfold fullF
    rw [show min i 8 = i by omega, show min (i + 1) 8 = i + 1 by omega, List.range_succ, List.map_append]
    rfl
  · rw [if_pos (by omega), if_neg h8]
    unfold fullF
    rw [show min i 8 = 8 by omega, show min (i + 1) 8 = 8 by omega]
theorem adopt_all : ∀ (rest done : List It) (m : Nat), rest.length ≤ m → (done.length + rest.length) < 300 → (∀ x ∈ rest, parI x.2 = dgs 0 ∧ viewI x.2 = 2 ∧ jvI x.2 = 1) →
    adoptF m ⟨firstD, 0, (dgs 0, fb0) :: done, rest⟩ = ⟨firstD, 0, (dgs 0, fb0) :: (done ++ rest), []⟩
  | [], done, m, _, _, _ => by
    rw [List.append_nil]
    exact adopt_none (by unfold readyF; rfl) m
  | x :: rest, done, m, hm, hl, hx => by
    have hm' : rest.length + 1 ≤ m := hm
    have hl' : done.length + (rest.length + 1) < 300 := hl
    obtain ⟨m, rfl⟩ : ∃ j, m = j + 1 := ⟨m - 1, by omega⟩
    obtain ⟨h1, h2, h3⟩ := hx x (by simp)
    have hat : atI ((dgs 0, fb0) :: done) (dgs 0) = 0 := by
      have h := at_hit (l := (dgs 0, fb0) :: done) (h := dgs 0) 0 (Nat.succ_pos _) (fun j hj => absurd hj (Nat.not_lt_zero j)) rfl
      exact h
    have hr : readyF ⟨firstD, 0, (dgs 0, fb0) :: done, x :: rest⟩ = some 0 := by
      unfold readyF
      rw [List.findIdx?_cons, show hasF ⟨firstD, 0, (dgs 0, fb0) :: done, x :: rest⟩ (parI x.2) = true by
        unfold hasF; rw [h1]; show (_ || decide (0 ≤ atI ((dgs 0, fb0) :: done) (dgs 0))) = true; rw [hat]; simp]
      rfl
    rw [adoptF, hr]
    show adoptF m (standF ⟨firstD, 0, (dgs 0, fb0) :: done, rest⟩ x).1 = _
    rw [stand_is _ _ (fun c => by
      have hb : viewI ((((dgs 0, fb0) :: done : List It).getD (atI ((dgs 0, fb0) :: done) (parI x.2)).toNat i0).2) = 1 := by rw [h1, hat]; rfl
      have hc := c.2
      simp only at hc
      rw [hb, h2, h3] at hc
      omega) (by show done.length + 1 < 400; omega)]
    show adoptF m ⟨firstD, 0, (dgs 0, fb0) :: (done ++ [x]), rest⟩ = _
    rw [adopt_all rest (done ++ [x]) m (by omega) (by rw [List.length_append]; show done.length + 1 + rest.length < 300; omega) (fun y hy => hx y (List.mem_cons_of_mem _ hy)), List.append_assoc]
    rfl
def lastF (k : Nat) : Fo := ⟨firstD, 0, (dgs 0, fb0) :: (List.range (min k 8)).map ofs, []⟩
theorem full_last (k : Nat) (hk : k ≤ 11) : putF (fullF k) (dgs 0, fbs 0) = (lastF k, 0) := by
  have hp : hasF (fullF k) (parI (fbs 0)) = true := by
    unfold hasF
    rw [show parI (fbs 0) = (fullF k).root from first_bytes.symm]; simp
  have hs : standF (fullF k) (dgs 0, fbs 0) = (moreF (fullF k) (dgs 0, fbs 0), 0) := stand_is _ _ (fun c => by
    exact at_not (l := (fullF k).nodes) (fun x hx => by cases hx) c.1) (by show (0 : Nat) < 400; omega)
  have hne : ¬ (hasF (fullF k) ((dgs 0, fbs 0) : It).1 = true ∨ 0 ≤ atI (fullF k).orph ((dgs 0, fbs 0) : It).1) := fun c => c.elim (fun c => by rw [full_has k _ (dgs_first (by omega))] at c; cases c) (full_orph k 0 hk (by omega) (Or.inl rfl))
  rw [put_stand hne hp (by rw [hs]), hs]
  show (adoptF 10 ⟨firstD, 0, [(dgs 0, fb0)], (List.range (min k 8)).map ofs⟩, (0 : Int)) = _
  rw [adopt_all _ [] 10 (by rw [List.length_map, List.length_range]; omega) (by rw [List.length_map, List.length_range]; show 0 + min k 8 < 300; omega) (fun x hx => by
    obtain ⟨q, _, rfl⟩ := List.mem_map.1 hx
    exact ⟨fbs_par _ (by omega), fbs_views _ (by omega)⟩)]
  rfl
theorem last_has (k : Nat) : hasF (lastF k) (dgs 0) = true := by
  rw [has_iff]; exact Or.inr ⟨(dgs 0, fb0), by simp [lastF], rfl⟩
theorem last_known (k : Nat) : putF (lastF k) (dgs 0, fbs 0) = (lastF k, 6) := put_known (Or.inl (last_has k))
theorem miss_same (o : List It) (p : ByteArray) : ∀ (l : List It), (∀ x ∈ l, parI x.2 = p) → l.foldl (missStep o) [p] = [p]
  | [], _ => rfl
  | x :: l, h => by
    rw [List.foldl_cons, show missStep o [p] x = [p] by unfold missStep; rw [if_pos (Or.inr (by rw [h x (by simp)]; simp))]]
    exact miss_same o p l fun y hy => h y (List.mem_cons_of_mem _ hy)
theorem full_miss (k : Nat) (hk : k ≤ 11) (h0 : 0 < k) : missF (fullF k) = [dgs 0] := by
  have hpar : ∀ x ∈ (fullF k).orph, parI x.2 = dgs 0 := fun x hx => by
    obtain ⟨q, _, rfl⟩ := List.mem_map.1 hx
    exact fbs_par _ (by omega)
  have hna := full_orph k 0 hk (by omega) (Or.inl rfl)
  unfold missF
  obtain ⟨x, r, e⟩ : ∃ x r, (fullF k).orph = x :: r := by
    cases h : (fullF k).orph with
    | nil =>
      have : (fullF k).orph.length = min k 8 := by simp [fullF]
      rw [h] at this; simp at this; omega
    | cons x r => exact ⟨x, r, rfl⟩
  rw [e] at hpar hna
  rw [e, List.foldl_cons, show missStep (x :: r) [] x = [dgs 0] by
    unfold missStep
    rw [hpar x (by simp), if_neg (fun c => c.elim hna (by simp))]; rfl]
  exact miss_same _ _ r fun y hy => hpar y (List.mem_cons_of_mem _ hy)
end FF
end
section
open Go Go.RowKit
namespace Go.Proofs.YtegkhhegapnkpaaDoor
open FF JJ CC MM WW BB
set_option maxRecDepth 100000 in
set_option maxHeartbeats 8000000 in
theorem gmiss_any {B : Nat} {w : World} {g : Nat} {F : Fo} {rt : ByteArray} {mv ov : Value} {N O : List Iv} {C : Nat → Prop} (hC : CFs B w g F rt mv ov N O C) :
    Calls Tryd.prog 24 #[.pointer (some ⟨g, 0, none⟩)] w fun e w' => ∃ u, e = .returned u ∧ StrsAt w' u (missF F) ∧ Below w.heap.size w w' := by
  have HC := Lib.hid hC
  have c3 := hC.c3
  obtain ⟨oa, oc, rfl⟩ := hC.shapeO
  have HIO := Lib.hid hC.ivO
  have HL := Lib.hid hC.o8
  have HOL := Lib.hid hC.lenO
  clear hC
  go_enter Tryd.func24, Tryd.ntmps24
  go_wp2_with fail
  clear c3
  go_loopw [3, 12] (fun x y wr => ∃ i : Nat, i ≤ O.length ∧ y = .int .i64 (i : Int) ∧ LkSt w 9 ((F.orph.take i).foldl (missStep F.orph) []) x wr) (fun _ y _ => O.length - (intOf y).toNat)
  case atStart => exact ⟨0, Nat.zero_le _, rfl, LkSt.nil _ _⟩
  case round =>
    obtain ⟨i, hi, rfl, hst⟩ := hrel
    have HST := Lib.hid hst
    have i0' : (0 : Int) ≤ (i : Int) := by omega
    have ib : (i : Int) ≤ 8 := by have := HL.out; omega
    obtain ⟨xa, xc, rfl⟩ := hst.shape
    obtain ⟨out, hout⟩ : ∃ out, (F.orph.take i).foldl (missStep F.orph) [] = out := ⟨_, rfl⟩
    have HOUT := Lib.hid hout
    rw [hout] at HST ⊢
    have HLEN := Lib.hid (show out.length ≤ 8 by
      rw [← hout]
      have := miss_len F.orph (F.orph.take i) []
      have := HOL.out
      have := HL.out
      simp only [List.length_nil, List.length_take] at *
      omega)
    clear hst hout
    by_cases hlt : i < O.length
    · have hlt' : (i : Int) < (O.length : Int) := by omega
      have HLT := Lib.hid hlt
      have HSN := Lib.hid (missF_snoc F i (by rw [← HOL.out]; exact hlt))
      obtain ⟨ob, ooff, rfl, hbw, hcell⟩ : ∃ ob ooff, oa = some ⟨ob, ooff, none⟩ ∧ ob < w.heap.size ∧ _ := by
        obtain ⟨a9, c9, he, h9 | h9⟩ := HIO.out
        · rw [h9] at hlt; simp at hlt
        · injection he with e1 _ e3
          subst e1
          exact h9
      obtain ⟨q0, q1, q2, q3, q4, q5, q6⟩ := iv_cells HST.out.below hbw hcell i hlt
      have HI := Lib.hid ((hcell i hlt).2)
      obtain ⟨y, hy⟩ : ∃ y, O.getD i v0 = y := ⟨_, rfl⟩
      have HY := Lib.hid (show F.orph.getD i i0 = y.1 by rw [← HC.out.orph, map_getD O i hlt, hy])
      rw [hy] at q0 q1 q2 q3 q4 q5 q6 HI
      obtain ⟨⟨d, bd⟩, s5, s6⟩ := y
      obtain ⟨e5, n5, h5⟩ := sl_of_sigs HI.out.1
      obtain ⟨e6, n6, h6⟩ := sl_of_reqs HI.out.2
      replace h5 : s5 = .slice e5 (sigsI bd).length n5 := h5
      replace h6 : s6 = .slice e6 bd.2.length n6 := h6
      subst h5 h6
      clear hi hlt hbw hcell hy
      have A1 := Lib.hid ((Below.refl wr.heap.size wr).alloc (Nat.le_refl _) (.cells #[.string d, .int .i64 (viewI bd), .int .i64 (propI bd), .int .i64 (jvI bd), .string (parI bd), .slice e5 (sigsI bd).length n5, .slice e6 bd.2.length n6] 131))
      go_wp2_with fail
      obtain ⟨p, hp⟩ : ∃ p, parI bd = p := ⟨_, rfl⟩
      have HP := Lib.hid hp
      refine (parent_any (viewI bd) (propI bd) (jvI bd) (parI bd) e5 e6 (sigsI bd).length n5 bd.2.length n6 _).mono ?_
      rintro e w2 ⟨rfl, hb2⟩
      rw [hp]
      have S2 := Lib.hid ((HST.out.on A1.out).on hb2)
      clear hp hb2 A1 q0 q1 q2 q3 q4 q5 q6
      obtain ⟨T0, hT0⟩ : ∃ T0, decide (0 ≤ atI F.orph p) = T0 := ⟨_, rfl⟩
      have HT0 := Lib.hid hT0
      clear hT0
      go_wp2_with fail
      refine (gwaits_any (HC.out.on S2.out.below) p T0 HT0.out).mono ?_
      rintro e w3 ⟨rfl, hb3⟩
      have S3 := Lib.hid (S2.out.on hb3)
      clear hb3
      cases T0 with
      | true =>
        have HEQ := Lib.hid (show (F.orph.take (i + 1)).foldl (missStep F.orph) [] = out by
          rw [HSN.out, HOUT.out, HY.out]
          unfold missStep
          rw [HP.out, if_pos (Or.inl (of_decide_eq_true HT0.out))])
        go_wp2_with fail
        go_roundw
        case rel => exact ⟨i + 1, by have := HLT.out; omega, by go_num, by rw [HEQ.out]; exact S3.out⟩
        case measure => have := HLT.out; simp [intOf]; omega
      | false =>
        obtain ⟨T1, hT1⟩ : ∃ T1, out.any (fun y => decide (y = p)) = T1 := ⟨_, rfl⟩
        have HT1 := Lib.hid hT1
        clear hT1
        go_wp2_with fail
        refine (gshas_any out _ p T1 HT1.out w3 (strs_own S3.out.row) (by have := HLEN.out; omega)).mono ?_
        rintro e w4 ⟨rfl, rfl⟩
        cases T1 with
        | true =>
          have HEQ := Lib.hid (show (F.orph.take (i + 1)).foldl (missStep F.orph) [] = out by
            rw [HSN.out, HOUT.out, HY.out]
            unfold missStep
            rw [HP.out, if_pos (Or.inr HT1.out)])
          go_wp2_with fail
          go_roundw
          case rel => exact ⟨i + 1, by have := HLT.out; omega, by go_num, by rw [HEQ.out]; exact S3.out⟩
          case measure => have := HLT.out; simp [intOf]; omega
        | false =>
          have HEQ := Lib.hid (show (F.orph.take (i + 1)).foldl (missStep F.orph) [] = out ++ [p] by
            rw [HSN.out, HOUT.out, HY.out]
            unfold missStep
            rw [HP.out, if_neg]
            rintro (h0 | h0)
            · exact of_decide_eq_false HT0.out h0
            · rw [HT1.out] at h0; cases h0)
          have A3 := Lib.hid ((Below.refl w4.heap.size w4).alloc (Nat.le_refl _) (.cells #[.string p] 9))
          have S4 := Lib.hid (S3.out.on A3.out)
          have HQ3 := Lib.hid (show out.length + 1 ≤ maxLen by have := HLEN.out; unfold maxLen; omega)
          have HQ4 := Lib.hid (show (out.length + 1) * 16 ≤ 140737488355328 by have := HLEN.out; omega)
          have HZ := Lib.hid (show w.heap.size ≤ (w4.alloc (.cells #[.string p] 9)).heap.size from S4.out.below.size)
          obtain ⟨ti, i1, i2, i3, i4⟩ := info_parts (show (Tryd.prog.info? 9).map (fun i => (i.zero, i.size, i.bytes)) = some (some (.string ⟨#[]⟩), 1, 16) by kernel_rfl)
          go_wp2_with (at_builtin; refine wpList_append_own _ rfl _ _ 44 rfl w.heap.size 9 ti (.string ⟨#[]⟩) 1 16 (by kernel_rfl) i1 i2 i3 i4 rfl (by decide) _ _ _ rfl S4.out.row ⟨w4.heap.size, 0, none⟩ 1 1 [.string p] rfl rfl (cells1_new w4 p _) (cells1_one p) HQ3.out HQ4.out HZ.out ?_)
          intro u' w5 hown' hgr _
          obtain ⟨a', c', rfl⟩ : ∃ a' c', u' = .slice a' (out.length + 1) c' := by
            rcases hown'.2 with ⟨_, h0⟩ | ⟨q, cp, cur, rfl, _⟩
            · omega
            · exact ⟨_, _, rfl⟩
          have S5 := Lib.hid (S4.out.add p hown' hgr)
          clear hown' hgr
          go_wp2_with fail
          go_roundw
          case rel => exact ⟨i + 1, by have := HLT.out; omega, by go_num, by rw [HEQ.out]; exact S5.out⟩
          case measure => have := HLT.out; simp [intOf]; omega
    · obtain rfl : i = O.length := by omega
      have hlt' : ¬ (O.length : Int) < (O.length : Int) := by omega
      have HF := Lib.hid (show missF F = out by rw [← HOUT.out, HOL.out, List.take_length]; rfl)
      clear hi hlt
      go_wp2_with fail
      go_ret
      refine ⟨_, rfl, ?_, HST.out.below⟩
      rw [HF.out]; exact strs_own HST.out.row
end Go.Proofs.YtegkhhegapnkpaaDoor
end
section
open Go Go.RowKit
namespace FF
open WW BB
theorem tris_len (k : Nat) : (tris k).length = k + 1 := by simp [tris]
theorem tris_snoc (k : Nat) : tris (k + 1) = tris k ++ [(0, 1, k)] := by simp [tris, List.range_succ]
theorem tris_small (k : Nat) (hk : k ≤ 12) (i : Nat) : ((tris k).getD i (0, 0, 0)).1 < 256 ∧ ((tris k).getD i (0, 0, 0)).2.1 < 256 ∧ ((tris k).getD i (0, 0, 0)).2.2 < 256 := by
  by_cases h : i ≤ k
  · rw [tris_getD k i h]
    split
    · decide
    · refine ⟨by show 0 < 256; omega, by show 1 < 256; omega, by show i - 1 < 256; omega⟩
  · rw [List.getD_eq_getElem?_getD, List.getElem?_eq_none (by rw [tris_len]; omega)]
    decide
/-- threes so far -/
structure TrSt (w0 : World) (e : TypeId) (i : Nat) (x : Value) (wr : World) : Prop where
  below : Below w0.heap.size w0 wr
  row : wr.ownsRow w0.heap.size e 3 x (tris i).length (cellsT (tris i))
theorem TrSt.shape {w0 : World} {e : TypeId} {i : Nat} {x : Value} {wr : World} (h : TrSt w0 e i x wr) : ∃ a c, x = .slice a (i + 1) c := by
  rcases h.row.2 with ⟨_, h0⟩ | ⟨q, cp, cur, rfl, _⟩
  · rw [tris_len] at h0; omega
  · rw [tris_len]; exact ⟨_, _, rfl⟩
theorem TrSt.on {w0 : World} {e : TypeId} {i : Nat} {x : Value} {wr w2 : World} (h : TrSt w0 e i x wr) (hb : Below wr.heap.size wr w2) : TrSt w0 e i x w2 :=
  ⟨h.below.trans (hb.mono h.below.size), row_keep h.row fun c hc => hb.block c (h.row.lt c hc).2⟩
end FF
namespace Go.Proofs.YtegkhhegapnkpaaDoor
open FF JJ CC MM WW BB
theorem fbs_small (j : Nat) : SmallI (fbs j) := by
  have hm : fbs j ∈ chainL (tris j) (j + 1) := by rw [chain_tris j (j + 1) (Nat.le_refl _)]; exact List.mem_map.2 ⟨j, List.mem_range.2 (by omega), rfl⟩
  exact (chain_small (tris j) (j + 1) _ hm).1
/-- the forest so far, in the code's memory -/
def FuSt (w0 : World) (g : Nat) (F : Fo) (wr : World) : Prop := (∃ mv ov N O C, CFs w0.heap.size wr g F ⟨#[]⟩ mv ov N O C) ∧ Below w0.heap.size w0 wr ∧ Tabs wr
theorem FuSt.on {w0 : World} {g : Nat} {F : Fo} {wr w2 : World} (h : FuSt w0 g F wr) (hb : Below wr.heap.size wr w2) : FuSt w0 g F w2 := by
  obtain ⟨⟨mv, ov, N, O, C, hc⟩, h2, h3⟩ := h
  exact ⟨⟨mv, ov, N, O, C, hc.on hb⟩, h2.trans (hb.mono h2.size), tabs_on h3 hb⟩
theorem fu_put {w0 : World} {g : Nat} {F : Fo} {wr : World} (h : FuSt w0 g F wr) (hT : Tabs w0) (hH : F.height = 0) (b : BlockD) (hb : SmallI b) (R : Fo × Int) (hR : putF F (digI b, b) = R) (v p j : Int) (k : ByteArray) (h1 : viewI b = v) (h2 : propI b = p) (h3 : jvI b = j) (h4 : parI b = k) (sv rv : Value) (hv : SigsAt wr sv (sigsI b)) (hr : ReqsAt wr rv b.2) :
    Calls Tryd.prog 21 #[.pointer (some ⟨g, 0, none⟩), .agg #[.int .i64 v, .int .i64 p, .int .i64 j, .string k, sv, rv]] wr fun e w' => e = .returned (.int .i64 R.2) ∧ FuSt w0 g R.1 w' := by
  obtain ⟨⟨mv, ov, N, O, C, hc⟩, hbl, ht⟩ := h
  subst h1 h2 h3 h4 hR
  refine (gput_any hc ht (notab_of hT) (by rw [hH]; omega) b sv rv hv hr hb).mono ?_
  rintro e w' ⟨rfl, mv', ov', N', O', C', hc', hk, _⟩
  refine ⟨rfl, ⟨mv', ov', N', O', C', hc'⟩, hbl.trans (hk.low (fun c hcl hm => by have := hc.ownB c hm; omega) hbl.size), tabs_keeps ht hk fun c => ?_⟩
  by_cases hm : MineB g mv ov C c
  · exact Or.inl (notab_of hT c (hc.ownB c hm))
  · exact Or.inr hm
theorem fu_orph {w0 : World} {g : Nat} {F : Fo} {wr : World} (h : FuSt w0 g F wr) (m : Nat) (hm : F.orph.length = m) :
    Calls Tryd.prog 22 #[.pointer (some ⟨g, 0, none⟩)] wr fun e w' => ∃ a c, e = .returned (.slice a m c) ∧ Below wr.heap.size wr w' := by
  obtain ⟨⟨mv, ov, N, O, C, hc⟩, _, _⟩ := h
  refine (gorph_any hc).mono ?_
  rintro e w' ⟨u, rfl, ⟨a, c, rfl, _⟩, hb⟩
  exact ⟨a, c, by rw [List.length_map, hm], hb⟩
theorem fu_len {w0 : World} {g : Nat} {F : Fo} {wr : World} (h : FuSt w0 g F wr) (m : Nat) (hm : F.nodes.length = m) :
    Calls Tryd.prog 23 #[.pointer (some ⟨g, 0, none⟩)] wr fun e w' => e = .returned (.int .i64 (m : Int)) ∧ w' = wr := by
  obtain ⟨⟨mv, ov, N, O, C, hc⟩, _, _⟩ := h
  rw [← hm]
  exact glen_any hc
theorem fu_miss {w0 : World} {g : Nat} {F : Fo} {wr : World} (h : FuSt w0 g F wr) (m : Nat) (hm : (missF F).length = m) :
    Calls Tryd.prog 24 #[.pointer (some ⟨g, 0, none⟩)] wr fun e w' => ∃ a c, e = .returned (.slice a m c) ∧ Below wr.heap.size wr w' := by
  obtain ⟨⟨mv, ov, N, O, C, hc⟩, _, _⟩ := h
  refine (gmiss_any hc).mono ?_
  rintro e w' ⟨u, rfl, ⟨a, c, rfl, _⟩, hb⟩
  exact ⟨a, c, by rw [hm], hb⟩
theorem fu_has {w0 : World} {g : Nat} {F : Fo} {wr : World} (h : FuSt w0 g F wr) (d : ByteArray) (b : Bool) (hb : hasF F d = b) (hd : d.size ≤ 1000000) :
    Calls Tryd.prog 25 #[.pointer (some ⟨g, 0, none⟩), .string d] wr fun e w' => e = .returned (.bool b) ∧ Below wr.heap.size wr w' := by
  obtain ⟨⟨mv, ov, N, O, C, hc⟩, _, ht⟩ := h
  exact ghas_is hc ht d b hb hd
theorem fu_dig (b : BlockD) (hb : SmallI b) (d : ByteArray) (hd : digI b = d) (wr : World) (v p j : Int) (k : ByteArray) (h1 : viewI b = v) (h2 : propI b = p) (h3 : jvI b = j) (h4 : parI b = k) (sv rv : Value) (hv : SigsAt wr sv (sigsI b)) (hr : ReqsAt wr rv b.2) :
    Calls Tryd.prog 26 #[.agg #[.int .i64 v, .int .i64 p, .int .i64 j, .string k, sv, rv]] wr fun e w' => e = .returned (.string d) ∧ Below wr.heap.size wr w' := by
  subst h1 h2 h3 h4 hd
  exact rbdigest_any _ _ _ _ sv rv (sigsI b) b.2 wr hv hr hb.1 hb.2.1 hb.2.2
set_option maxRecDepth 100000 in
set_option maxHeartbeats 8000000 in
theorem lawU_any (n : Nat) (w : World) (hn : n < 256) (hT : Tabs w) : Calls Tryd.prog 4 #[.int .u8 (n : Int)] w fun e w' => e = .returned (.bool true) ∧ Below w.heap.size w w' := by
  have HT := Lib.hid hT
  obtain ⟨k, hk⟩ : ∃ k, n % 12 = k := ⟨_, rfl⟩
  have e1 : ((n : Nat) : Int).tmod 12 = (k : Int) := by rw [← hk, Int.tmod_eq_emod_of_nonneg (by omega)]; simp
  have k11 : k ≤ 11 := by omega
  have hw1 : IntKind.u8.wrap (k : Int) = (k : Int) := by rw [IntKind.wrap_u8]; omega
  have hw2 : IntKind.i64.wrap (k : Int) = (k : Int) := by rw [IntKind.wrap_i64]; omega
  have HK := Lib.hid k11
  clear hT hn hk k11
  go_enter Tryd.func4, Tryd.ntmps4
  go_wp2_with fail
  refine (gawake_any w HT.out).mono ?_
  rintro e w1 ⟨rfl, hb1⟩
  have B1 := Lib.hid hb1
  have HT1 := Lib.hid (tabs_on HT.out hb1)
  clear hb1
  go_wp2_with fail
  clear e1 hw1 hw2
  have S0 := Lib.hid (show TrSt w1 36 0 (.slice (some ⟨w1.heap.size, 0, none⟩) 1 1) (w1.alloc (.cells #[.int .u8 0, .int .u8 0, .int .u8 0] 36)) from
    ⟨(Below.refl _ _).alloc (Nat.le_refl _) _, rfl, Or.inr ⟨_, 1, #[.int .u8 0, .int .u8 0, .int .u8 0], rfl, Nat.le_refl _, by show (Array.push _ _)[_]? = _; simp, Nat.le_refl _, by unfold maxLen; omega, rfl, rfl⟩⟩)
  go_loopw [4, 5] (fun x y wr => ∃ i : Nat, i ≤ k ∧ y = .int .i64 (i : Int) ∧ TrSt w1 36 i x wr) (fun _ y _ => k - (intOf y).toNat)
  case atStart => exact ⟨0, Nat.zero_le _, rfl, S0.out⟩
  case round =>
    obtain ⟨i, hi, rfl, hst⟩ := hrel
    have HST := Lib.hid hst
    obtain ⟨xa, xc, rfl⟩ := hst.shape
    have i0' : (0 : Int) ≤ (i : Int) := by omega
    have ib : (i : Int) ≤ 11 := by have := HK.out; omega
    clear hst
    by_cases hlt : i < k
    · have hlt' : (i : Int) < (k : Int) := by omega
      have HLT := Lib.hid hlt
      have hw3 : IntKind.u8.wrap (i : Int) = (i : Int) := by rw [IntKind.wrap_u8]; omega
      have A3 := Lib.hid ((Below.refl wr.heap.size wr).alloc (Nat.le_refl _) (.cells #[.int .u8 0, .int .u8 1, .int .u8 (i : Int)] 36))
      have S3 := Lib.hid (HST.out.on A3.out)
      have R3 := Lib.hid (show _ from (tris_len i) ▸ S3.out.row)
      have HCE := Lib.hid (show ∀ j u, ([.int .u8 0, .int .u8 1, .int .u8 (i : Int)] : List Value)[j]? = some u → (wr.alloc (.cells #[.int .u8 0, .int .u8 1, .int .u8 (i : Int)] 36)).cell? ((⟨wr.heap.size, 0, none⟩ : Addr).add j) = some u from fun j u hu => by
        have e : (⟨wr.heap.size, 0, none⟩ : Addr).add j = ⟨wr.heap.size, j, none⟩ := by unfold Addr.add; split <;> simp [*]
        rw [e]
        exact cell_new wr _ _ j u (by simpa using hu))
      have HC1 := Lib.hid (show ∀ u ∈ ([.int .u8 0, .int .u8 1, .int .u8 (i : Int)] : List Value), u.oneCell' = true from fun u hu => by
        simp only [List.mem_cons, List.not_mem_nil, or_false] at hu
        rcases hu with rfl | rfl | rfl <;> rfl)
      have HQ3 := Lib.hid (show i + 1 + 1 ≤ maxLen by unfold maxLen; omega)
      have HQ4 := Lib.hid (show (i + 1 + 1) * 3 ≤ 140737488355328 by omega)
      have HZ := Lib.hid (show w1.heap.size ≤ (wr.alloc (.cells #[.int .u8 0, .int .u8 1, .int .u8 (i : Int)] 36)).heap.size from S3.out.below.size)
      obtain ⟨ti, i1, i2, i3, i4⟩ := info_parts (show (Tryd.prog.info? 36).map (fun i => (i.zero, i.size, i.bytes)) = some (some (.agg #[.int .u8 0, .int .u8 0, .int .u8 0]), 3, 3) by kernel_rfl)
      go_wp2_with (at_builtin; refine wpList_append_own _ rfl _ _ 37 rfl w1.heap.size 36 ti (.agg #[.int .u8 0, .int .u8 0, .int .u8 0]) 3 3 (by kernel_rfl) i1 i2 i3 i4 rfl (by decide) _ _ _ rfl R3.out ⟨wr.heap.size, 0, none⟩ 1 1 [.int .u8 0, .int .u8 1, .int .u8 (i : Int)] rfl rfl HCE.out HC1.out HQ3.out HQ4.out HZ.out ?_)
      intro u' w5 hown' hgr _
      obtain ⟨a', c', rfl⟩ : ∃ a' c', u' = .slice a' (i + 1 + 1) c' := by
        rcases hown'.2 with ⟨_, h0⟩ | ⟨q, cp, cur, rfl, _⟩
        · omega
        · exact ⟨_, _, rfl⟩
      have S5 := Lib.hid (show TrSt w1 36 (i + 1) (.slice a' (i + 1 + 1) c') w5 from ⟨S3.out.below.grown hgr S3.out.below.size (fun c hc => (S3.out.row.lt c hc).1), by
        rw [tris_snoc, cellsT_snoc, List.length_append, tris_len]; exact hown'⟩)
      clear hown' hgr hw3
      go_wp2_with fail
      go_roundw
      case rel => exact ⟨i + 1, by have := HLT.out; omega, by go_num, S5.out⟩
      case measure => have := HLT.out; simp [intOf]; omega
    · obtain rfl : i = k := by omega
      have hlt' : ¬ (i : Int) < (i : Int) := by omega
      clear hi hlt S0
      go_wp2_with fail
      refine (chain_any (tris i) _ wr (tri_of_own HST.out.row) (tris_small i (by omega)) (by rw [tris_len]; omega)).mono ?_
      rintro e w2 ⟨u, rfl, L, hmap, hbv, hb2⟩
      rw [tris_len, show min (i + 1) 40 = i + 1 by omega, chain_tris i (i + 1) (Nat.le_refl _)] at hmap
      have HMAP := Lib.hid hmap
      have HLN := Lib.hid (show L.length = i + 1 by have := congrArg List.length hmap; rwa [List.length_map, List.length_map, List.length_range] at this)
      have HBV := Lib.hid hbv
      have B2 := Lib.hid (B1.out.trans ((HST.out.below.trans (hb2.mono HST.out.below.size)).mono B1.out.size))
      have HT2 := Lib.hid (tabs_on HT.out B2.out)
      obtain ⟨la, lc, rfl⟩ := bv_shape hbv
      obtain ⟨lb, loff, rfl, _, _, hat⟩ := bv_at hbv 0 (by have := HLN.out; omega)
      have HAT := Lib.hid hat
      clear hmap hbv hb2 hat
      go_wp2_with fail
      refine (gnew_any w2.heap.size w2 (Nat.le_refl _)).mono ?_
      rintro e w3 ⟨rfl, hc3, hb3⟩
      have F3 := Lib.hid (show FuSt w2 w2.heap.size (fullF 0) w3 from ⟨⟨_, _, _, _, _, hc3⟩, hb3, tabs_on HT2.out hb3⟩)
      clear hc3 hb3
      have HBL := Lib.hid (show ∀ j, j ≤ i → (L.getD j vb0).1 = fbs j from fun j hj => by
        rw [← bmap_getD L j (by have := HLN.out; omega), HMAP.out, List.getD_eq_getElem?_getD, List.getElem?_map, List.getElem?_range (by omega)]; rfl)
      go_wp2_with fail
      obtain ⟨g, hg⟩ : ∃ g, w2.heap.size = g := ⟨_, rfl⟩
      rw [hg] at F3 ⊢
      clear hg
      go_loopw [8] (fun y wx => ∃ j : Nat, j ≤ i ∧ y = .int .i64 ((j : Int) + 1) ∧ FuSt w2 g (fullF j) wx) (fun y _ => i + 1 - (intOf y).toNat)
      case atStart => exact ⟨0, Nat.zero_le _, rfl, F3.out⟩
      case round =>
        rename_i wz
        obtain ⟨j, hj, rfl, hst⟩ := hrel
        have HFS := Lib.hid hst
        have j0 : (0 : Int) ≤ (j : Int) := by omega
        have jb : (j : Int) ≤ 11 := by omega
        clear hst
        by_cases hlt : j < i
        · have hlt' : (j : Int) + 1 ≤ (i : Int) := by omega
          have HLT := Lib.hid hlt
          obtain ⟨c0, c1, c2, c3, c4, c5, hin⟩ := HAT.out _ HFS.out.2.1 (j + 1) (by have := HLN.out; omega)
          have HIN := Lib.hid hin
          obtain ⟨P, hP⟩ : ∃ P, L.getD (j + 1) vb0 = P := ⟨_, rfl⟩
          have HPB := Lib.hid (show P.1 = fbs (j + 1) by rw [← hP]; exact HBL.out (j + 1) (by omega))
          rw [hP] at c0 c1 c2 c3 c4 c5 HIN
          obtain ⟨pv, hpv⟩ : ∃ pv, viewI P.1 = pv := ⟨_, rfl⟩
          obtain ⟨pp, hpp⟩ : ∃ pp, propI P.1 = pp := ⟨_, rfl⟩
          obtain ⟨pj, hpj⟩ : ∃ pj, jvI P.1 = pj := ⟨_, rfl⟩
          obtain ⟨pk, hpk⟩ : ∃ pk, parI P.1 = pk := ⟨_, rfl⟩
          obtain ⟨ps, hps⟩ : ∃ ps, P.2.1 = ps := ⟨_, rfl⟩
          obtain ⟨pr, hpr⟩ : ∃ pr, P.2.2 = pr := ⟨_, rfl⟩
          rw [hpv] at c0
          rw [hpp] at c1
          rw [hpj] at c2
          rw [hpk] at c3
          rw [hps] at c4
          rw [hpr] at c5
          have HPU := Lib.hid (fu_put HFS.out HT2.out rfl P.1 (by rw [HPB.out]; exact fbs_small _) (fullF (j + 1), if j + 1 ≤ 8 then 0 else 7) (by rw [HPB.out, dig_is (j + 1) (by omega)]; exact full_put j (by omega)) pv pp pj pk hpv hpp hpj hpk ps pr (hps ▸ HIN.out.1) (hpr ▸ HIN.out.2))
          have l1 : ((j : Int) + 1).toNat = j + 1 := by omega
          have l2 : (0 : Int) ≤ (j : Int) + 1 := by omega
          have l3 : (j : Int) + 1 < (L.length : Int) := by have := HLN.out; omega
          clear hj hlt hin hP hpv hpp hpj hpk hps hpr
          by_cases h8 : j + 1 ≤ 8
          · have h8' : ¬ (8 : Int) < (j : Int) + 1 := by omega
            rw [if_pos h8] at HPU
            clear h8
            go_wp2_with fail
            refine HPU.out.mono ?_
            rintro e w5 ⟨rfl, hf⟩
            have HF := Lib.hid hf
            clear hf
            go_wp2_with fail
            go_roundw
            case rel => exact ⟨j + 1, by have := HLT.out; omega, by go_num, HF.out⟩
            case measure => have := HLT.out; simp [intOf]; omega
          · have h8' : (8 : Int) < (j : Int) + 1 := by omega
            rw [if_neg h8] at HPU
            clear h8
            go_wp2_with fail
            refine HPU.out.mono ?_
            rintro e w5 ⟨rfl, hf⟩
            have HF := Lib.hid hf
            clear hf
            go_wp2_with fail
            go_roundw
            case rel => exact ⟨j + 1, by have := HLT.out; omega, by go_num, HF.out⟩
            case measure => have := HLT.out; simp [intOf]; omega
        · obtain rfl : j = i := by omega
          have hlt' : ¬ (j : Int) + 1 ≤ (j : Int) := by omega
          clear hj hlt
          go_wp2_with fail
          obtain ⟨m, hm⟩ : ∃ m, min j 8 = m := ⟨_, rfl⟩
          have HM := Lib.hid hm
          refine (fu_orph HFS.out m (by rw [← hm]; simp [fullF])).mono ?_
          rintro e w5 ⟨oa, oc, rfl, hb5⟩
          have F5 := Lib.hid (HFS.out.on hb5)
          have hmi : min (j : Int) 8 = (m : Int) := by omega
          clear hb5 hm
          go_wp2_with fail
          refine (fu_len F5.out 0 rfl).mono ?_
          rintro e w6 ⟨rfl, rfl⟩
          obtain ⟨P, hP⟩ : ∃ P, L.getD 0 vb0 = P := ⟨_, rfl⟩
          have HPB := Lib.hid (show P.1 = fbs 0 by rw [← hP]; exact HBL.out 0 (by omega))
          obtain ⟨pv, hpv⟩ : ∃ pv, viewI P.1 = pv := ⟨_, rfl⟩
          obtain ⟨pp, hpp⟩ : ∃ pp, propI P.1 = pp := ⟨_, rfl⟩
          obtain ⟨pj, hpj⟩ : ∃ pj, jvI P.1 = pj := ⟨_, rfl⟩
          obtain ⟨pk, hpk⟩ : ∃ pk, parI P.1 = pk := ⟨_, rfl⟩
          obtain ⟨ps, hps⟩ : ∃ ps, P.2.1 = ps := ⟨_, rfl⟩
          obtain ⟨pr, hpr⟩ : ∃ pr, P.2.2 = pr := ⟨_, rfl⟩
          have HA0 := Lib.hid (show ∀ wr, Below w2.heap.size w2 wr → wr.cell? ⟨lb, loff, none⟩ = some (.int .i64 pv) ∧ wr.cell? ⟨lb, loff + 1, none⟩ = some (.int .i64 pp) ∧ wr.cell? ⟨lb, loff + 2, none⟩ = some (.int .i64 pj) ∧
              wr.cell? ⟨lb, loff + 3, none⟩ = some (.string pk) ∧ wr.cell? ⟨lb, loff + 4, none⟩ = some ps ∧ wr.cell? ⟨lb, loff + 5, none⟩ = some pr ∧ SigsAt wr ps (sigsI P.1) ∧ ReqsAt wr pr P.1.2 from fun wr hb => by
            have h := HAT.out wr hb 0 (by have := HLN.out; omega)
            rw [hP, Nat.zero_mul, Nat.add_zero, hpv, hpp, hpj, hpk] at h
            subst hps hpr
            exact h)
          have HPU := Lib.hid (show ∀ wr, FuSt w2 g (fullF j) wr → _ ∧ True from fun wr hF => ⟨fu_put hF HT2.out rfl P.1 (by rw [HPB.out]; exact fbs_small _) (lastF j, 0) (by rw [HPB.out, dig_is 0 (by omega)]; exact full_last j (by omega)) pv pp pj pk hpv hpp hpj hpk ps pr (HA0.out wr hF.2.1).2.2.2.2.2.2.1 (HA0.out wr hF.2.1).2.2.2.2.2.2.2, trivial⟩)
          have HPV := Lib.hid (show ∀ wr, FuSt w2 g (lastF j) wr → _ ∧ True from fun wr hF => ⟨fu_put hF HT2.out rfl P.1 (by rw [HPB.out]; exact fbs_small _) (lastF j, 6) (by rw [HPB.out, dig_is 0 (by omega)]; exact last_known j) pv pp pj pk hpv hpp hpj hpk ps pr (HA0.out wr hF.2.1).2.2.2.2.2.2.1 (HA0.out wr hF.2.1).2.2.2.2.2.2.2, trivial⟩)
          have HDG := Lib.hid (show ∀ wr, FuSt w2 g (lastF j) wr → _ from fun wr hF => fu_dig P.1 (by rw [HPB.out]; exact fbs_small _) (dgs 0) (by rw [HPB.out]; exact dig_is 0 (by omega)) wr pv pp pj pk hpv hpp hpj hpk ps pr (HA0.out wr hF.2.1).2.2.2.2.2.2.1 (HA0.out wr hF.2.1).2.2.2.2.2.2.2)
          have HD0 := Lib.hid (show (dgs 0).size ≤ 1000000 by rw [dgs0]; decide)
          clear hP hpv hpp hpj hpk hps hpr
          have l3 : (0 : Int) < (L.length : Int) := by have := HLN.out; omega
          have hm0 : ¬ False := id
          by_cases h0 : 0 < j
          · have h0' : (0 : Int) < (j : Int) := by omega
            have HMI := Lib.hid (fu_miss F5.out 1 (by rw [full_miss j (by omega) h0]; rfl))
            clear h0
            go_wp2_with fail
            refine HMI.out.mono ?_
            rintro e w6 ⟨ma, mc, rfl, hb6⟩
            have F6 := Lib.hid (F5.out.on hb6)
            clear hb6
            obtain ⟨c0, c1, c2, c3, c4, c5, _⟩ := HA0.out w6 F6.out.2.1
            go_wp2_with fail
            refine ((HPU.out w6 F6.out).1).mono ?_
            rintro e w7 ⟨rfl, hf7⟩
            have F7 := Lib.hid hf7
            clear hf7
            go_wp2_with fail
            refine (fu_len F7.out (m + 1) (by rw [← HM.out]; simp [lastF])).mono ?_
            rintro e w8 ⟨rfl, rfl⟩
            go_wp2_with fail
            refine (fu_orph F7.out 0 rfl).mono ?_
            rintro e w9 ⟨pa, pc, rfl, hb9⟩
            have F9 := Lib.hid (F7.out.on hb9)
            clear hb9
            obtain ⟨c0, c1, c2, c3, c4, c5, _⟩ := HA0.out w9 F9.out.2.1
            go_wp2_with fail
            refine ((HPV.out w9 F9.out).1).mono ?_
            rintro e w10 ⟨rfl, hf10⟩
            have F10 := Lib.hid hf10
            clear hf10 c0 c1 c2 c3 c4 c5
            obtain ⟨c0, c1, c2, c3, c4, c5, _⟩ := HA0.out w10 F10.out.2.1
            go_wp2_with fail
            refine (HDG.out w10 F10.out).mono ?_
            rintro e w11 ⟨rfl, hb11⟩
            have F11 := Lib.hid (F10.out.on hb11)
            clear hb11 c0 c1 c2 c3 c4 c5
            go_wp2_with fail
            refine (fu_has F11.out (dgs 0) true (last_has j) HD0.out).mono ?_
            rintro e w12 ⟨rfl, hb12⟩
            have F12 := Lib.hid (F11.out.on hb12)
            clear hb12
            go_wp2_with fail
            go_ret
            exact ⟨rfl, B2.out.trans (F12.out.2.1.mono B2.out.size)⟩
          · have h0' : ¬ (0 : Int) < (j : Int) := by omega
            clear h0
            obtain ⟨c0, c1, c2, c3, c4, c5, _⟩ := HA0.out _ F5.out.2.1
            go_wp2_with fail
            refine ((HPU.out _ F5.out).1).mono ?_
            rintro e w7 ⟨rfl, hf7⟩
            have F7 := Lib.hid hf7
            clear hf7
            go_wp2_with fail
            refine (fu_len F7.out (m + 1) (by rw [← HM.out]; simp [lastF])).mono ?_
            rintro e w8 ⟨rfl, rfl⟩
            go_wp2_with fail
            refine (fu_orph F7.out 0 rfl).mono ?_
            rintro e w9 ⟨pa, pc, rfl, hb9⟩
            have F9 := Lib.hid (F7.out.on hb9)
            clear hb9
            obtain ⟨c0, c1, c2, c3, c4, c5, _⟩ := HA0.out w9 F9.out.2.1
            go_wp2_with fail
            refine ((HPV.out w9 F9.out).1).mono ?_
            rintro e w10 ⟨rfl, hf10⟩
            have F10 := Lib.hid hf10
            clear hf10 c0 c1 c2 c3 c4 c5
            obtain ⟨c0, c1, c2, c3, c4, c5, _⟩ := HA0.out w10 F10.out.2.1
            go_wp2_with fail
            refine (HDG.out w10 F10.out).mono ?_
            rintro e w11 ⟨rfl, hb11⟩
            have F11 := Lib.hid (F10.out.on hb11)
            clear hb11 c0 c1 c2 c3 c4 c5
            go_wp2_with fail
            refine (fu_has F11.out (dgs 0) true (last_has j) HD0.out).mono ?_
            rintro e w12 ⟨rfl, hb12⟩
            have F12 := Lib.hid (F11.out.on hb12)
            clear hb12
            go_wp2_with fail
            go_ret
            exact ⟨rfl, B2.out.trans (F12.out.2.1.mono B2.out.size)⟩
end Go.Proofs.YtegkhhegapnkpaaDoor
end
